/- Several texts in one: PaM, PaN, PaO, PaP, PaQ, PaS, PaT, PaU, Pa. Conditions: as each part says. -/
import Derived.Test.YtmcgflpgkkophaaGreatDoorPaI
import Derived.Test.YtmcgflpgkkophaaGreatDoorTrJ
import Derived.Test.YtmcgflpgkkophaaGreatDoorLxDev
import Derived.Test.YtmcgflpgkkophaaGreatDoorRow2
import Derived.Test.YtmcgflpgkkophaaGreatDoorStr
import Derived.WalkLawsBesides
import Derived.Test.YtmcgflpgkkophaaGreatDoorReV
import Derived.Deep.RegionHeld3
import Derived.Deep.Cut
import Derived.Test.YtmcgflpgkkophaaGreatDoorPaR
import Derived.Defers
import Derived.Recover
import Derived.Laws.Pointers
import Derived.RegionTactic
import Derived.ChangeAlike
/- A reading in memory: its box, what stays around it, what its functions answer. Conditions: none. -/
namespace Go.Proofs.YtmcgflpgkkophaaGreatDoor.Pm
set_option linter.unusedVariables false
open Go.ChangeShapes Go.WideShapes Go.ChangeAt Go.RowKit
open Pa Tr
open Ref10 (encT encT_len)
/-- The world without the blocks that p names. -/
def erp (p : Nat → Bool) (w : World) : World := { w with heap := w.heap.mapIdx fun i o => if p i = true then .cells #[] 3 else o }
theorem erp_size (p : Nat → Bool) (w : World) : (erp p w).heap.size = w.heap.size := Array.size_mapIdx
theorem erp_get (p : Nat → Bool) (w : World) (k : Nat) : (erp p w).heap[k]? = (w.heap[k]?).map fun o => if p k = true then .cells #[] 3 else o := Array.getElem?_mapIdx
theorem erp_no {p : Nat → Bool} {k : Nat} (w : World) (h : p k = false) : (erp p w).heap[k]? = w.heap[k]? := by
  rw [erp_get]
  cases w.heap[k]? with
  | none => rfl
  | some o => simp [h]
theorem erp_cell_no {p : Nat → Bool} (w : World) {a : Addr} (h : p a.block = false) : (erp p w).cell? a = w.cell? a := World.cell?_of_block (erp_no w h)
theorem erp_cell {p : Nat → Bool} {w : World} {a : Addr} {v : Value} (h : (erp p w).cell? a = some v) : p a.block = false ∧ w.cell? a = some v := by
  cases hb : p a.block with
  | false => exact ⟨rfl, (erp_cell_no w hb).symm.trans h⟩
  | true =>
    unfold World.cell? at h
    rw [erp_get] at h
    cases hw : w.heap[a.block]? with
    | none => rw [hw] at h; cases h
    | some o =>
      rw [hw] at h
      simp only [Option.map_some, if_pos hb] at h
      split at h <;> simp at h
theorem lt_of_cell {w : World} {p : Addr} {v : Value} (h : w.cell? p = some v) : p.block < w.heap.size := by
  rcases Nat.lt_or_ge p.block w.heap.size with hlt | hge
  · exact hlt
  · unfold World.cell? at h
    rw [Array.getElem?_eq_none hge] at h
    cases h
/-- What reads in the one world reads so in the other. -/
def Sub (W W' : World) : Prop := W.heap.size ≤ W'.heap.size ∧ ∀ p v, W.cell? p = some v → W'.cell? p = some v
theorem Sub.refl (W : World) : Sub W W := ⟨Nat.le_refl _, fun _ _ h => h⟩
theorem Sub.trans {A B C : World} (h : Sub A B) (k : Sub B C) : Sub A C := ⟨Nat.le_trans h.1 k.1, fun p v e => k.2 p v (h.2 p v e)⟩
theorem sub_mk {p q : Nat → Bool} {w w' : World} (hs : w.heap.size ≤ w'.heap.size) (h : ∀ i, i < w.heap.size → p i = false → q i = false ∧ w'.heap[i]? = w.heap[i]?) : Sub (erp p w) (erp q w') := by
  refine ⟨by rw [erp_size, erp_size]; exact hs, fun a v e => ?_⟩
  obtain ⟨h1, h2⟩ := erp_cell e
  obtain ⟨h3, h4⟩ := h a.block (lt_of_cell h2) h1
  rw [erp_cell_no w' h3, World.cell?_of_block h4]
  exact h2
theorem sub_out (p : Nat → Bool) (w : World) : Sub (erp p w) w := ⟨by rw [erp_size]; exact Nat.le_refl _, fun a v e => (erp_cell e).2⟩
theorem Sub.keep {W w w' : World} (h : Sub W w) (hk : Keep w w') : Sub W w' := ⟨Nat.le_trans h.1 hk.size, fun p v e => by
  have := h.2 p v e
  exact (Below.cell hk (lt_of_cell this)).trans this⟩
/-- The world with the blocks from B on alone. -/
def er (B : Nat) (w : World) : World := erp (fun i => decide (i < B)) w
theorem er_size (B : Nat) (w : World) : (er B w).heap.size = w.heap.size := erp_size _ _
theorem er_hi {B k : Nat} (w : World) (h : B ≤ k) : (er B w).heap[k]? = w.heap[k]? := erp_no w (decide_eq_false (by omega))
theorem er_cell {B : Nat} {w : World} {p : Addr} {v : Value} (h : (er B w).cell? p = some v) : B ≤ p.block ∧ w.cell? p = some v := by
  obtain ⟨h1, h2⟩ := erp_cell h
  exact ⟨by have := of_decide_eq_false h1; omega, h2⟩
theorem er_less {B B' : Nat} (w : World) (h : B' ≤ B) : Sub (er B w) (er B' w) := sub_mk (Nat.le_refl _) fun i hi hp => ⟨decide_eq_false (by have := of_decide_eq_false hp; omega), rfl⟩
theorem er_keep {B : Nat} {w w' : World} (h : Keep w w') : Sub (er B w) (er B w') := sub_mk h.size fun i hi hp => ⟨hp, h.block i hi⟩
theorem row_sub {α : Type} {enc : α → List Value} {k : Nat} {W W' : World} {A : Option Addr} {n : Nat} {zs : List α} (h : Row enc k W W.heap.size A n zs) (hs : Sub W W') : Row enc k W' W'.heap.size A n zs :=
  ⟨h.1, fun hn => by
    obtain ⟨b, off, e, hb, hc⟩ := h.2 hn
    exact ⟨b, off, e, Nat.lt_of_lt_of_le hb hs.1, fun j hj i v hv => hs.2 _ _ (hc j hj i v hv)⟩⟩
theorem ex_sub (W W' : World) (hs : Sub W W') : ∀ N : Nat,
    (∀ (e : ExprP) (cs : List Value), dp e ≤ N → ExIn W W.heap.size e cs → ExIn W' W'.heap.size e cs) ∧ (∀ (l : List ExprP) (b off : Nat), dpL l ≤ N → ExsIn W W.heap.size l b off → ExsIn W' W'.heap.size l b off) := by
  intro N
  induction N with
  | zero =>
    refine ⟨fun e cs h => absurd (dp_pos e) (by omega), fun l => ?_⟩
    induction l with
    | nil => intro b off _ h; rw [ExsIn] at h ⊢; trivial
    | cons e l _ => intro b off h; rw [dpL] at h; have := dp_pos e; omega
  | succ N ih =>
    have h1 : ∀ (e : ExprP) (cs : List Value), dp e ≤ N + 1 → ExIn W W.heap.size e cs → ExIn W' W'.heap.size e cs := by
      intro e cs hd h
      obtain ⟨k, f, r, l, h', o⟩ := e
      rw [ExIn] at h ⊢
      rw [dp] at hd
      obtain ⟨RA, rc, OA, oc, e1, e2, e3⟩ := h
      refine ⟨RA, rc, OA, oc, e1, row_sub e2 hs, fun hn => ?_⟩
      obtain ⟨b, off, ea, hb, hc⟩ := e3 hn
      exact ⟨b, off, ea, Nat.lt_of_lt_of_le hb hs.1, ih.2 o b off (by omega) hc⟩
    refine ⟨h1, fun l => ?_⟩
    induction l with
    | nil => intro b off hd h; rw [ExsIn] at h ⊢; trivial
    | cons e l il =>
      intro b off hd h
      rw [dpL] at hd
      rw [ExsIn] at h ⊢
      obtain ⟨⟨cs, hc, he⟩, hl⟩ := h
      exact ⟨⟨cs, fun j v hv => hs.2 _ _ (hc j v hv), h1 e cs (by omega) he⟩, il b (off + 6) (by omega) hl⟩
theorem Exs.sub {W W' : World} {OA : Option Addr} {l : List ExprP} (h : Exs W OA l) (hs : Sub W W') : Exs W' OA l := fun hn => by
  obtain ⟨b, off, ea, hb, hc⟩ := h hn
  exact ⟨b, off, ea, Nat.lt_of_lt_of_le hb hs.1, (ex_sub W W' hs _).2 _ b off (Nat.le_refl _) hc⟩
theorem Ex.sub {W W' : World} {e : ExprP} {RA OA : Option Addr} (h : Ex W e RA OA) (hs : Sub W W') : Ex W' e RA OA := ⟨row_sub h.1 hs, Exs.sub h.2 hs⟩
/-- Above b, and below it, all old blocks stand. -/
structure Oth (b : Nat) (w w' : World) : Prop where
  os : w'.os = w.os
  tape : w'.tape = w.tape
  output : w'.output = w.output
  size : w.heap.size ≤ w'.heap.size
  block : ∀ k, k < w.heap.size → k ≠ b → w'.heap[k]? = w.heap[k]?
theorem Oth.refl (b : Nat) (w : World) : Oth b w w := ⟨rfl, rfl, rfl, Nat.le_refl _, fun _ _ _ => rfl⟩
theorem Oth.trans {b : Nat} {a c d : World} (h : Oth b a c) (k : Oth b c d) : Oth b a d :=
  ⟨k.os.trans h.os, k.tape.trans h.tape, k.output.trans h.output, Nat.le_trans h.size k.size, fun i hi hb => (k.block i (Nat.lt_of_lt_of_le hi h.size) hb).trans (h.block i hi hb)⟩
theorem Oth.of {b : Nat} {w w' : World} (h : Keep w w') : Oth b w w' := ⟨h.os, h.tape, h.output, h.size, fun k hk _ => h.block k hk⟩
theorem Oth.keep {b : Nat} {a w w' : World} (h : Oth b a w) (k : Keep w w') : Oth b a w' := h.trans (.of k)
theorem Oth.alloc {b : Nat} {a w : World} (h : Oth b a w) (o : Obj) : Oth b a (w.alloc o) := h.keep ((Keep.refl w).alloc o)
theorem Oth.setB {b : Nat} {a w : World} (h : Oth b a w) {p : Addr} (hp : p.block = b) (v : Value) : Oth b a (w.setCell p v) :=
  h.trans ⟨rfl, rfl, rfl, by simp [World.setCell], fun k hk hb => Below.heap_setCell _ _ _ _ (by rw [hp]; exact hb)⟩
theorem Oth.set {b : Nat} {a w : World} (h : Oth b a w) {p : Addr} (hp : a.heap.size ≤ p.block) (v : Value) : Oth b a (w.setCell p v) :=
  ⟨h.os, h.tape, h.output, Nat.le_trans h.size (by simp [World.setCell]), fun k hk hb => (Below.heap_setCell _ _ _ _ (by omega)).trans (h.block k hk hb)⟩
theorem Oth.grown {b : Nat} {a w w' : World} {row : Option Nat} (h : Oth b a w) (hg : w.grownBy w' row) (hr : ∀ r, row = some r → a.heap.size ≤ r) : Oth b a w' :=
  ⟨hg.os.trans h.os, hg.tape.trans h.tape, hg.output.trans h.output, Nat.le_trans h.size hg.size, fun k hk hb => (hg.block k (Nat.lt_of_lt_of_le hk h.size) (fun e => by have := hr k e.symm; omega)).trans (h.block k hk hb)⟩
theorem Oth.below {b : Nat} {w w' : World} (h : Oth b w w') {B : Nat} (hB : B ≤ b) (hb : b < w.heap.size) : Below B w w' :=
  ⟨h.os, h.tape, h.output, h.size, fun k hk => h.block k (by omega) (by omega)⟩
theorem Oth.sub {b B : Nat} {w w' : World} (h : Oth b w w') (hb : b < B) : Sub (er B w) (er B w') :=
  sub_mk h.size fun i hi hp => ⟨hp, h.block i hi (by have := of_decide_eq_false hp; omega)⟩
theorem store_float (P : Program) (w : World) (a : Addr) (k : FloatKind) (b : Nat) (m : Mode) : (store a (.float k b) m).run P w = stored P w a (.float k b) m := run_store P w a _ m rfl
theorem results_c {fn : Func} {p : Tmp} {ty : TypeId} (h : fn.results = #[.cell p ty]) (tmps : Array Value) (P : Program) (w : World) :
    (results fn tmps).run P w = ((asAddr (tmps.getD p undef)).run P w).andThen fun a w₁ => (loadVar ty a).run P w₁ := by
  simp only [results, h]
  simp [Sem.run_bind, Result.andThen]
/-- A word, or a mark: no number's text. -/
def Wd (T : ByteArray) : Prop := bl T ≠ [] ∧ Gu.getOk (bl T) = false
/-- The text of the token that stands next. -/
def hd : List TokP → ByteArray
  | [] => ⟨#[]⟩
  | k :: _ => k.text
theorem hd_bl (l : List TokP) : bl (hd l) = headText l := by cases l <;> rfl
theorem hd_isW {l : List TokP} (hg : TokG l) {T : ByteArray} (hT : Wd T) : ((hd l).toList == T.toList) = isW (bl T) l := by
  rw [Str.toList_eq, Str.toList_eq, hd_bl]
  cases l with
  | nil => show (([] : List UInt8) == bl T) = false; rw [beq_eq_false_iff_ne]; exact fun h => hT.1 h.symm
  | cons k l =>
    show (bl k.text == bl T) = (!(k.kind == 2) && (bl k.text == bl T))
    by_cases hk : k.kind = 2
    · have h1 := (hg k (List.mem_cons_self ..) hk).1
      have : (bl k.text == bl T) = false := by
        rw [beq_eq_false_iff_ne]; intro h; rw [h, hT.2] at h1; cases h1
      rw [this, Bool.and_false]
    · have : (k.kind == 2) = false := by rw [beq_eq_false_iff_ne]; exact hk
      rw [this]; rfl
/-- Words are words alone; what is no number reads as none; a minus stands alone. -/
def TokF (T : List TokP) : Prop := ∀ k ∈ T, (k.kind ≠ 1 → fieldOf (bl k.text) = 0) ∧ (k.kind ≠ 2 → Gu.getOk (bl k.text) = false) ∧ (Re.negL (bl k.text) = true → bl k.text = [45] ∧ k.kind ≠ 2)
theorem good_tok {k : TokP} (h : Lx.good k) : (k.kind ≠ 1 → fieldOf (bl k.text) = 0) ∧ (k.kind ≠ 2 → Gu.getOk (bl k.text) = false) ∧ (Re.negL (bl k.text) = true → bl k.text = [45] ∧ k.kind ≠ 2) := by
  obtain ⟨h0, c, t, ht, hc, hp⟩ := h
  have hte : bl k.text = c :: t := by rw [ht]; rfl
  have hkk : (Lx.at_ 0 k).kind = k.kind := rfl
  rw [hte]
  refine ⟨fun h1 => ?_, fun h2 => ?_, fun h3 => ?_⟩
  · have hl : Lx.low c = false := by
      cases hl : Lx.low c with
      | false => rfl
      | true =>
        unfold Lx.piece at hp
        rw [if_pos hl] at hp
        injection hp with hp; injection hp with _ h4
        rw [← h4] at hkk
        exact absurd hkk.symm h1
    have hno : ∀ (a : UInt8) (m : List UInt8), Lx.low a = true → ¬ (c :: t = a :: m) := fun a m ha e => by
      injection e with e1 _
      rw [e1, ha] at hl; cases hl
    unfold fieldOf
    rw [if_neg (show ¬ c :: t = word 1 from hno 99 _ (by decide)), if_neg (show ¬ c :: t = word 2 from hno 117 _ (by decide)), if_neg (show ¬ c :: t = word 3 from hno 102 _ (by decide)), if_neg (show ¬ c :: t = word 4 from hno 97 _ (by decide)), if_neg (show ¬ c :: t = word 5 from hno 118 _ (by decide)), if_neg (show ¬ c :: t = Pa.wReal from hno 114 _ (by decide))]
  · cases hg : Gu.getOk (c :: t) with
    | false => rfl
    | true =>
      have ha := (Gu.getOk_out hg).2.1
      rw [List.all_cons, Bool.and_eq_true] at ha
      unfold Lx.piece at hp
      rw [if_neg (by rw [Pa.dig_low ha.1]; decide), if_pos ha.1] at hp
      split at hp
      · injection hp with hp; injection hp with _ h4
        rw [← h4] at hkk
        exact absurd hkk.symm h2
      · cases hp
  · have hc45 : c = 45 := by simpa [Re.negL] using h3
    subst hc45
    have : Lx.piece 45 t = some (0, ⟨4, st [45], 0, 0⟩) := rfl
    rw [this] at hp
    injection hp with hp; injection hp with h4 h5
    rw [← h5] at hkk
    have : t = [] := List.eq_nil_of_length_eq_zero h4.symm
    subst this
    exact ⟨rfl, by rw [← hkk]; decide⟩
/-- What is left may be read. -/
def Fine (s : PSt) : Prop := TokG s.toks ∧ (∀ t ∈ s.toks, t.text.size ≤ 8192) ∧ s.atoms ≤ 512 ∧ s.toks.length ≤ 4096 ∧ TokF s.toks
theorem Fine.adv {s : PSt} (h : Fine s) : Fine (adv s) := ⟨h.1.tail, fun t ht => h.2.1 t (List.mem_of_mem_tail ht), h.2.2.1, Nat.le_trans (adv_len s) h.2.2.2.1, fun t ht => h.2.2.2.2 t (List.mem_of_mem_tail ht)⟩
/-- A reading's box. -/
def RAt (w : World) (b : Nat) (s : PSt) (k : Nat) : Prop := ∃ A c, (w.cell? ⟨b, 0, none⟩ = some (.slice A s.toks.length c) ∧ w.cell? ⟨b, 1, none⟩ = some (.int .i64 s.atoms) ∧ w.cell? ⟨b, 2, none⟩ = some (.int .i64 k)) ∧
  (w.frozen? ⟨b, 0, none⟩ = false ∧ w.frozen? ⟨b, 1, none⟩ = false ∧ w.frozen? ⟨b, 2, none⟩ = false) ∧ Row encT 4 w b A s.toks.length s.toks ∧ (s.toks.length ≤ c ∧ c ≤ maxLen) ∧ Fine s
theorem RAt.lt {w : World} {b : Nat} {s : PSt} {k : Nat} (h : RAt w b s k) : b < w.heap.size := by
  obtain ⟨A, c, ⟨h0, _⟩, _⟩ := h
  exact lt_of_cell h0
theorem RAt.fine {w : World} {b : Nat} {s : PSt} {k : Nat} (h : RAt w b s k) : Fine s := by
  obtain ⟨A, c, _, _, _, _, hf⟩ := h
  exact hf
theorem RAt.keep {w w' : World} {b : Nat} {s : PSt} {k : Nat} (h : RAt w b s k) (hk : Keep w w') : RAt w' b s k := by
  have hb := h.lt
  obtain ⟨A, c, ⟨h0, h1, h2⟩, ⟨f0, f1, f2⟩, hr, hc, hf⟩ := h
  exact ⟨A, c, ⟨(Below.cell hk hb).trans h0, (Below.cell hk hb).trans h1, (Below.cell hk hb).trans h2⟩, ⟨(Below.frozen hk hb).trans f0, (Below.frozen hk hb).trans f1, (Below.frozen hk hb).trans f2⟩, hr.below (Below.mono hk (Nat.le_of_lt hb)), hc, hf⟩
theorem RAt.adv {w : World} {b : Nat} {k : Nat} {s : PSt} {A : Option Addr} {c : Nat} (h : RAt w b s k) (hc : s.toks.length - 1 ≤ c ∧ c ≤ maxLen) (hr : Row encT 4 w b A (s.toks.length - 1) (s.toks.drop 1)) : RAt (w.setCell ⟨b, 0, none⟩ (.slice A (s.toks.length - 1 : Nat) c)) b (adv s) k := by
  obtain ⟨A', c', ⟨h0, h1, h2⟩, ⟨f0, f1, f2⟩, _, _, hf⟩ := h
  have e : (Pa.adv s).toks.length = s.toks.length - 1 := List.length_tail
  refine ⟨A, c, ⟨?_, ?_, ?_⟩, ⟨?_, ?_, ?_⟩, ?_, ?_, hf.adv⟩
  · rw [e]; exact World.cell?_setCell_same _ _ _ h0
  · exact (World.cell?_setCell_other _ _ _ _ (by simp)).trans h1
  · exact (World.cell?_setCell_other _ _ _ _ (by simp)).trans h2
  · rw [World.frozen?_setCell]; exact f0
  · rw [World.frozen?_setCell]; exact f1
  · rw [World.frozen?_setCell]; exact f2
  · rw [e]
    have : (Pa.adv s).toks = s.toks.drop 1 := by show s.toks.tail = _; rw [List.drop_one]
    rw [this]
    exact hr.below ((Below.refl b w).setCell (Nat.le_refl _) _)
  · rw [e]; exact hc
/-- The panic that ends a reading. -/
def wrongP (q : Int × Int) : PanicEntry := { v := .iface 67 (.agg #[.int .i64 q.1, .int .i64 q.2]), recovered := false }
/-- How a reading of a thing ends. -/
def Out {α : Type} (b : Nat) (V : World → α → Value → Prop) (x : Except (Int × Int) (α × PSt)) (k : Nat) (w : World) (e : Ending) (w' : World) : Prop :=
  Oth b w w' ∧ match x with
  | .ok (a, s') => ∃ v, e = .returned v ∧ V (er w.heap.size w') a v ∧ RAt w' b s' k
  | .error q => e = .panicked [wrongP q]
theorem Out.err {α : Type} {b : Nat} {V : World → α → Value → Prop} {x : Except (Int × Int) (α × PSt)} {k : Nat} {w w' : World} {q : Int × Int} (hx : x = .error q) (h : Oth b w w') : Out b V x k w (.panicked [wrongP q]) w' := by
  subst hx; exact ⟨h, rfl⟩
theorem Out.mk {α : Type} {b : Nat} {V : World → α → Value → Prop} {x : Except (Int × Int) (α × PSt)} {k : Nat} {w w' : World} {a : α} {s' : PSt} {v : Value} (hx : x = .ok (a, s')) (h : Oth b w w') (hv : V (er w.heap.size w') a v) (hr : RAt w' b s' k) : Out b V x k w (.returned v) w' := by
  subst hx; exact ⟨h, v, rfl, hv, hr⟩
theorem Out.cases {α : Type} {b : Nat} {V : World → α → Value → Prop} {x : Except (Int × Int) (α × PSt)} {k : Nat} {w w' : World} {e : Ending} (h : Out b V x k w e w') :
    Oth b w w' ∧ ((∃ q, x = .error q ∧ e = .panicked [wrongP q]) ∨ ∃ a s' v, x = .ok (a, s') ∧ e = .returned v ∧ V (er w.heap.size w') a v ∧ RAt w' b s' k) := by
  refine ⟨h.1, ?_⟩
  cases hx : x with
  | error q => subst hx; exact .inl ⟨q, rfl, h.2⟩
  | ok y =>
    obtain ⟨a, s'⟩ := y
    subst hx
    obtain ⟨v, h1, h2, h3⟩ := h.2
    exact .inr ⟨a, s', v, rfl, h1, h2, h3⟩
/-! What is read, as values. -/
def VU (_ : World) (_ : Unit) (v : Value) : Prop := v = .tuple #[]
def VN (_ : World) (n : Int) (v : Value) : Prop := v = .int .i64 n
def VF (_ : World) (n : Nat) (v : Value) : Prop := v = .float .f64 n
def VP (_ : World) (p : Int × Int) (v : Value) : Prop := v = .agg #[.int .i64 p.1, .int .i64 p.2]
def VQ (_ : World) (p : Int × Int × Int) (v : Value) : Prop := v = .agg #[.int .i64 p.1, .int .i64 p.2.1, .int .i64 p.2.2]
def VE (w : World) (e : ExprP) (v : Value) : Prop := ∃ RA rc OA oc, v = .agg #[.int .i64 (kind e), .int .i64 (field e), .slice RA (rs e).length rc, .float .f64 (lo e), .float .f64 (hi e), .slice OA (of e).length oc] ∧ Ex w e RA OA
theorem VE.sub {W W' : World} {e : ExprP} {v : Value} (h : VE W e v) (hs : Sub W W') : VE W' e v := by
  obtain ⟨RA, rc, OA, oc, h1, h2⟩ := h
  exact ⟨RA, rc, OA, oc, h1, Ex.sub h2 hs⟩
def VPs (w : World) (l : List (Int × Int)) (v : Value) : Prop := ∃ A c, v = .slice A l.length c ∧ Row encP 2 w w.heap.size A l.length l
def VEs (w : World) (l : List ExprP) (v : Value) : Prop := ∃ A c, v = .slice A l.length c ∧ Exs w A l
end Go.Proofs.YtmcgflpgkkophaaGreatDoor.Pm
/- The developers' parser: what its functions do with the token that stands next. Conditions: what is left may be read. -/
namespace Go.Proofs.YtmcgflpgkkophaaGreatDoor.Pm
set_option linter.unusedVariables false
open Go.ChangeShapes Go.WideShapes Go.ChangeAt Go.RowKit
open Pa Tr
open Ref10 (encT encT_len)
/-- The cells of the token that stands next. -/
theorem RAt.head {w : World} {b : Nat} {s : PSt} {k : Nat} (h : RAt w b s k) {t : TokP} {l : List TokP} (ht : s.toks = t :: l) :
    ∃ g o c, w.cell? ⟨b, 0, none⟩ = some (.slice (some ⟨g, o, none⟩) (l.length + 1) c) ∧ (w.cell? ⟨g, o, none⟩ = some (.int .i64 t.kind) ∧ w.cell? ⟨g, o + 1, none⟩ = some (.string t.text) ∧ w.cell? ⟨g, o + 2, none⟩ = some (.int .i64 t.num) ∧ w.cell? ⟨g, o + 3, none⟩ = some (.int .i64 t.line)) ∧
      Row encT 4 w b (some ⟨g, o, none⟩) (l.length + 1) s.toks ∧ (l.length + 1 ≤ c ∧ c ≤ maxLen) := by
  obtain ⟨A, c, ⟨h0, h1, h2⟩, _, hr, hc, _⟩ := h
  rw [ht] at h0 hr hc
  rw [List.length_cons] at h0 hr hc
  obtain ⟨g, o, rfl, _⟩ := hr.addr (by omega)
  obtain ⟨_, hh⟩ := hr.cells (by omega)
  have h' := fun i v => hh 0 (by simp) i v
  simp only [List.getElem_cons_zero, encT] at h'
  exact ⟨g, o, c, h0, ⟨by simpa using h' 0 _ rfl, by simpa using h' 1 _ rfl, by simpa using h' 2 _ rfl, by simpa using h' 3 _ rfl⟩, by rw [ht]; exact hr, hc⟩
theorem RAt.noTok {w : World} {b : Nat} {s : PSt} {k : Nat} (h : RAt w b s k) (ht : s.toks = []) : ∃ A c, w.cell? ⟨b, 0, none⟩ = some (.slice A 0 c) := by
  obtain ⟨A, c, ⟨h0, _⟩, _⟩ := h
  rw [ht] at h0
  exact ⟨A, c, h0⟩
set_option maxHeartbeats 1000000 in
theorem text_any (b : Nat) (s : PSt) (k : Nat) (w : World) (h : RAt w b s k) :
    Calls Tryz.prog 73 #[.pointer (some ⟨b, 0, none⟩)] w fun e w' => e = .returned (.string (hd s.toks)) ∧ w = w' := by
  cases ht : s.toks with
  | nil =>
    obtain ⟨A, c, h0⟩ := h.noTok ht
    clear h
    go_enter Tryz.func73, Tryz.ntmps73
    go_wp2
    go_ret
    exact ⟨rfl, rfl⟩
  | cons t l =>
    obtain ⟨g, o, c, h0, ⟨c0, c1, c2, c3⟩, _⟩ := h.head ht
    clear h
    have d : ((l.length : Int) + 1 == 0) = false := by rw [beq_eq_false_iff_ne]; omega
    go_enter Tryz.func73, Tryz.ntmps73
    go_wp2
    go_ret
    exact ⟨rfl, rfl⟩
set_option maxHeartbeats 1000000 in
theorem fault_any (x : Int) (b : Nat) (s : PSt) (k : Nat) (w : World) (h : RAt w b s k) :
    Calls Tryz.prog 59 #[.pointer (some ⟨b, 0, none⟩), .int .i64 x] w fun e w' => e = .returned (.agg #[.int .i64 (lineOf s.toks), .int .i64 x]) ∧ Keep w w' := by
  cases ht : s.toks with
  | nil =>
    obtain ⟨A, c, h0⟩ := h.noTok ht
    have hlt := h.lt
    have hk := fun O => ((Keep.refl w).alloc O)
    have g0 : ∀ O, (w.alloc O).cell? ⟨b, 0, none⟩ = some (.slice A 0 c) := fun O => (Below.cell (hk O) hlt).trans h0
    clear h h0 hk
    go_enter Tryz.func59, Tryz.ntmps59
    go_wp2
    (try simp only [Exit.inBlock, Exit.then])
    refine bodyPost_ret (v := .agg #[.int .i64 (0), .int .i64 x]) ?_ rfl ⟨rfl, ?_⟩
    · rw [results_c rfl]
      go_simp
    · show Below w.heap.size w _
      repeat' (first | exact Below.refl _ _ | with_reducible refine Below.setCell ?_ ?_ _ | with_reducible refine Below.alloc ?_ ?_ _ | exact Nat.le_refl _ | (simp; done))
  | cons t l =>
    obtain ⟨g, o, c, h0, ⟨c0, c1, c2, c3⟩, _⟩ := h.head ht
    have hlt := h.lt
    have hk := fun O => ((Keep.refl w).alloc O)
    have g0 : ∀ O, (w.alloc O).cell? ⟨b, 0, none⟩ = some (.slice (some ⟨g, o, none⟩) (l.length + 1) c) := fun O => (Below.cell (hk O) hlt).trans h0
    have g3 : ∀ O, (w.alloc O).cell? ⟨g, o + 3, none⟩ = some (.int .i64 t.line) := fun O => (Below.cell (hk O) (lt_of_cell c3)).trans c3
    clear h h0 c0 c1 c2 c3 hk
    have d : ((l.length : Int) + 1 == 0) = false := by rw [beq_eq_false_iff_ne]; omega
    have HE := Lib.hid (show lineOf (t :: l) = t.line from rfl)
    go_enter Tryz.func59, Tryz.ntmps59
    go_wp2
    (try simp only [Exit.inBlock, Exit.then])
    refine bodyPost_ret (v := .agg #[.int .i64 (t.line), .int .i64 x]) ?_ rfl ⟨rfl, ?_⟩
    · rw [results_c rfl]
      go_simp
    · show Below w.heap.size w _
      repeat' (first | exact Below.refl _ _ | with_reducible refine Below.setCell ?_ ?_ _ | with_reducible refine Below.alloc ?_ ?_ _ | exact Nat.le_refl _ | (simp; done))
set_option maxHeartbeats 1000000 in
theorem drop_any (b : Nat) (s : PSt) (k : Nat) (w : World) (h : RAt w b s k) (hn : s.toks ≠ []) :
    Calls Tryz.prog 74 #[.pointer (some ⟨b, 0, none⟩)] w fun e w' => e = .returned (.tuple #[]) ∧ Oth b w w' ∧ RAt w' b (adv s) k := by
  cases ht : s.toks with
  | nil => exact absurd ht hn
  | cons t l =>
    obtain ⟨g, o, c, h0, _, hr, hc⟩ := h.head ht
    have HR := Lib.hid h
    have f0 : w.frozen? ⟨b, 0, none⟩ = false := by obtain ⟨_, _, _, ⟨f, _⟩, _⟩ := h; exact f
    have HT := Lib.hid (hr.tail 1 (by omega) hc.1)
    have hL := Lib.hid (show s.toks.length = l.length + 1 by rw [ht]; rfl)
    have HC := Lib.hid hc
    have d1 : (1 : Int) ≤ (l.length : Int) + 1 := by omega
    have d2 : (l.length : Int) + 1 ≤ (c : Int) := by omega
    have d3 : (1 : Int) ≤ (c : Int) := by omega
    clear h hn hr ht hc
    go_enter Tryz.func74, Tryz.ntmps74
    go_wp2
    · have hc1 : c = 1 := h
      rw [if_pos hc1] at HT
      have hl0 : l.length = 0 := by have := HC.out; omega
      subst hc1
      rw [show l.length + 1 - 1 = s.toks.length - 1 by rw [hL.out]] at HT
      (first | go_end0 | refine bodyPost_ret (results_none rfl _ _ _) rfl ?_)
      refine ⟨rfl, (Oth.refl b w).setB rfl _, ?_⟩
      have := HR.out.adv (A := some ⟨g, o, none⟩) (c := 0) ⟨by rw [hL.out]; omega, Nat.zero_le _⟩ HT.out
      rw [hL.out] at this
      exact this
    · have hc1 : ¬ c = 1 := h
      rw [if_neg hc1] at HT
      rw [show l.length + 1 - 1 = s.toks.length - 1 by rw [hL.out]] at HT
      (first | go_end0 | refine bodyPost_ret (results_none rfl _ _ _) rfl ?_)
      refine ⟨rfl, (Oth.refl b w).setB rfl _, ?_⟩
      have := HR.out.adv (A := some ⟨g, o + 4, none⟩) (c := c - 1) ⟨by rw [hL.out]; have := HC.out; omega, by have := HC.out; omega⟩ HT.out
      rw [hL.out] at this
      exact this
/-- What a word's test leaves. -/
def skp (T : List UInt8) (s : PSt) : PSt := if isW T s.toks then adv s else s
theorem isW_ne {T : List UInt8} {l : List TokP} (h : isW T l = true) : l ≠ [] := fun e => by rw [e] at h; cases h
set_option maxHeartbeats 1000000 in
theorem skip_any (T : ByteArray) (hT : Wd T) (b : Nat) (s : PSt) (k : Nat) (w : World) (h : RAt w b s k) :
    Calls Tryz.prog 75 #[.pointer (some ⟨b, 0, none⟩), .string T] w fun e w' => e = .returned (.bool (isW (bl T) s.toks)) ∧ Oth b w w' ∧ RAt w' b (skp (bl T) s) k := by
  have CT := Lib.hid (text_any b s k w h)
  have hd := hd_isW h.fine.1 hT
  cases hw : isW (bl T) s.toks with
  | false =>
    rw [hw] at hd
    have HK := Lib.hid (show RAt w b (skp (bl T) s) k by unfold skp; rw [if_neg (by rw [hw]; decide)]; exact h)
    clear h hw
    go_enter Tryz.func75, Tryz.ntmps75
    go_wp2_with fail
    refine CT.out.mono ?_
    rintro e w1 ⟨rfl, rfl⟩
    go_wp2
    go_ret
    exact ⟨rfl, Oth.refl _ _, HK.out⟩
  | true =>
    rw [hw] at hd
    have CD := Lib.hid (drop_any b s k w h (isW_ne hw))
    have HS := Lib.hid (show skp (bl T) s = adv s by unfold skp; rw [if_pos hw])
    clear h hw
    go_enter Tryz.func75, Tryz.ntmps75
    go_wp2_with fail
    refine CT.out.mono ?_
    rintro e w1 ⟨rfl, rfl⟩
    go_wp2_with fail
    refine CD.out.mono ?_
    rintro e w1 ⟨rfl, ho, hr⟩
    go_wp2
    go_ret
    exact ⟨rfl, ho, by rw [HS.out]; exact hr⟩
set_option maxHeartbeats 1000000 in
theorem must_any (T : ByteArray) (hT : Wd T) (b : Nat) (s : PSt) (k : Nat) (w : World) (h : RAt w b s k) :
    Calls Tryz.prog 78 #[.pointer (some ⟨b, 0, none⟩), .string T] w (Out b VU (mustR (bl T) s) k w) := by
  have CS := Lib.hid (skip_any T hT b s k w h)
  cases hw : isW (bl T) s.toks with
  | false =>
    rw [hw] at CS
    have HE := Lib.hid (show mustR (bl T) s = .error (lineOf s.toks, 7) by unfold mustR; rw [if_neg (by rw [hw]; decide)]; rfl)
    have HS := Lib.hid (show skp (bl T) s = s by unfold skp; rw [if_neg (by rw [hw]; decide)])
    clear h hw
    go_enter Tryz.func78, Tryz.ntmps78
    go_wp2_with fail
    refine CS.out.mono ?_
    rintro e w1 ⟨rfl, ho, hr⟩
    rw [HS.out] at hr
    have CF := Lib.hid (fault_any 7 b s k w1 hr)
    clear hr
    go_wp2_with fail
    refine CF.out.mono ?_
    rintro e w2 ⟨rfl, hk⟩
    go_wp2
    exact ⟨rfl, Out.err HE.out (ho.keep hk)⟩
  | true =>
    rw [hw] at CS
    have HE := Lib.hid (show mustR (bl T) s = .ok ((), adv s) by unfold mustR; rw [if_pos hw])
    have HS := Lib.hid (show skp (bl T) s = adv s by unfold skp; rw [if_pos hw])
    clear h hw
    go_enter Tryz.func78, Tryz.ntmps78
    go_wp2_with fail
    refine CS.out.mono ?_
    rintro e w1 ⟨rfl, ho, hr⟩
    rw [HS.out] at hr
    go_wp2
    (first | go_end0 | refine bodyPost_ret (results_none rfl _ _ _) rfl ?_)
    exact Out.mk HE.out ho rfl hr
set_option maxHeartbeats 1000000 in
theorem number_any (b : Nat) (s : PSt) (k : Nat) (w : World) (h : RAt w b s k) :
    Calls Tryz.prog 97 #[.pointer (some ⟨b, 0, none⟩)] w (Out b VN (num s) k w) := by
  have CF := Lib.hid (fault_any 7 b s k w h)
  cases ht : s.toks with
  | nil =>
    obtain ⟨A, c, h0⟩ := h.noTok ht
    have HE := Lib.hid (show num s = .error (lineOf s.toks, 7) by unfold num; rw [ht]; simp only [failAt, ht])
    clear h ht
    go_enter Tryz.func97, Tryz.ntmps97
    go_wp2_with fail
    refine CF.out.mono ?_
    rintro e w1 ⟨rfl, hk⟩
    go_wp2
    exact ⟨rfl, Out.err HE.out ((Oth.refl b w).keep hk)⟩
  | cons t l =>
    obtain ⟨g, o, c, h0, ⟨c0, c1, c2, c3⟩, _⟩ := h.head ht
    have CD := Lib.hid (drop_any b s k w h (by rw [ht]; exact List.cons_ne_nil _ _))
    have d : ((l.length : Int) + 1 == 0) = false := by rw [beq_eq_false_iff_ne]; omega
    by_cases hk : t.kind = 2
    · have HE := Lib.hid (show num s = .ok (t.num, adv s) by unfold num; rw [ht]; simp only [if_pos hk])
      rw [hk] at c0
      clear h ht hk c1 c3
      go_enter Tryz.func97, Tryz.ntmps97
      go_wp2_with fail
      refine CD.out.mono ?_
      rintro e w1 ⟨rfl, ho, hr⟩
      go_wp2
      go_ret
      exact Out.mk HE.out ho rfl hr
    · have HE := Lib.hid (show num s = .error (lineOf s.toks, 7) by unfold num; rw [ht]; simp only [if_neg hk, failAt, ht])
      have d2 : (t.kind == 2) = false := by rw [beq_eq_false_iff_ne]; exact hk
      clear h ht hk c1 c2 c3
      go_enter Tryz.func97, Tryz.ntmps97
      go_wp2_with fail
      refine CF.out.mono ?_
      rintro e w1 ⟨rfl, hk⟩
      go_wp2
      exact ⟨rfl, Out.err HE.out ((Oth.refl b w).keep hk)⟩
theorem hd_lit {l : List TokP} (hg : TokG l) {T : List UInt8} (hT : Wd (st T)) : ((hd l).toList == T) = isW T l := by
  have := hd_isW hg hT
  rw [Str.toList_eq (st T)] at this
  exact this
theorem wd_allow : Wd ⟨#[97, 108, 108, 111, 119]⟩ := ⟨by decide, by decide⟩
theorem wd_deny : Wd ⟨#[100, 101, 110, 121]⟩ := ⟨by decide, by decide⟩
set_option maxHeartbeats 1000000 in
theorem begins_any (b : Nat) (s : PSt) (k : Nat) (w : World) (h : RAt w b s k) :
    Calls Tryz.prog 58 #[.pointer (some ⟨b, 0, none⟩)] w fun e w' => e = .returned (.bool (isW Tr.wAllow s.toks || isW Tr.wDeny s.toks)) ∧ w = w' := by
  have CT := Lib.hid (text_any b s k w h)
  have h1 : ((hd s.toks).toList == [97, 108, 108, 111, 119]) = isW Tr.wAllow s.toks := hd_lit h.fine.1 wd_allow
  have h2 : ((hd s.toks).toList == [100, 101, 110, 121]) = isW Tr.wDeny s.toks := hd_lit h.fine.1 wd_deny
  obtain ⟨q, hq⟩ : ∃ q, q = isW Tr.wAllow s.toks := ⟨_, rfl⟩
  obtain ⟨q', hq'⟩ : ∃ q, q = isW Tr.wDeny s.toks := ⟨_, rfl⟩
  rw [← hq] at h1 ⊢
  rw [← hq'] at h2 ⊢
  clear hq hq' h
  cases q
  all_goals
    go_enter Tryz.func58, Tryz.ntmps58
    go_wp2_with fail
    refine CT.out.mono ?_
    rintro e w1 ⟨rfl, rfl⟩
    go_wp2_with fail
    first
      | (refine CT.out.mono ?_
         rintro e w1 ⟨rfl, rfl⟩
         go_wp2
         go_ret
         exact ⟨rfl, rfl⟩)
      | (go_ret
         exact ⟨rfl, rfl⟩)
end Go.Proofs.YtmcgflpgkkophaaGreatDoor.Pm
/- The developers' parser: one or more things with a word between, in memory. Conditions: what is left may be read. -/
namespace Go.Proofs.YtmcgflpgkkophaaGreatDoor.Pm
set_option linter.unusedVariables false
open Go.ChangeShapes Go.WideShapes Go.ChangeAt Go.RowKit
open Pa Tr
open Ref10 (encT encT_len)
/-- What is read behind the things so far. -/
def more {α : Type} (R : Rd α) (T : List UInt8) : Rd (List α) := fun s => if isW T s.toks then sep R T (Pa.adv s) else .ok ([], s)
def pref {α : Type} (acc : List α) (x : Except (Int × Int) (List α × PSt)) : Except (Int × Int) (List α × PSt) := match x with
  | .ok (l, s) => .ok (acc ++ l, s)
  | .error q => .error q
theorem pref_pref {α : Type} (a b : List α) (x : Except (Int × Int) (List α × PSt)) : pref a (pref b x) = pref (a ++ b) x := by
  cases x with
  | error q => rfl
  | ok y => obtain ⟨l, s⟩ := y; exact congrArg (fun z => Except.ok (z, s)) (List.append_assoc a b l).symm
theorem sep_more {α : Type} {R : Rd α} (hR : Down R) (T : List UInt8) (s : PSt) : sep R T s = bnd (R s) fun a s1 => pref [a] (more R T s1) := by
  rw [sep_eq hR]
  cases R s with
  | error e => rfl
  | ok x =>
    obtain ⟨a, s1⟩ := x
    rw [bnd_ok, bnd_ok]
    unfold more
    by_cases hw : isW T s1.toks = true
    · rw [if_pos hw, if_pos hw]
      cases sep R T (Pa.adv s1) with
      | error e => rfl
      | ok y => rfl
    · rw [if_neg hw, if_neg hw]; rfl
theorem sep_err {α : Type} {R : Rd α} (hR : Down R) (T : List UInt8) {s : PSt} {q : Int × Int} (h : R s = .error q) : sep R T s = .error q := by rw [sep_more hR, h]; rfl
theorem sep_ok {α : Type} {R : Rd α} (hR : Down R) (T : List UInt8) {s s1 : PSt} {a : α} (h : R s = .ok (a, s1)) : sep R T s = pref [a] (more R T s1) := by rw [sep_more hR, h]; rfl
theorem more_end {α : Type} {R : Rd α} {T : List UInt8} {s : PSt} (acc : List α) (h : isW T s.toks = false) : pref acc (more R T s) = .ok (acc, s) := by
  unfold more; rw [if_neg (by rw [h]; decide)]; exact congrArg (fun z => Except.ok (z, s)) (List.append_nil acc)
theorem more_err {α : Type} {R : Rd α} (hR : Down R) {T : List UInt8} {s : PSt} (acc : List α) {q : Int × Int} (h : isW T s.toks = true) (e : R (Pa.adv s) = .error q) : pref acc (more R T s) = .error q := by
  unfold more; rw [if_pos h, sep_err hR T e]; rfl
theorem more_ok {α : Type} {R : Rd α} (hR : Down R) {T : List UInt8} {s s1 : PSt} (acc : List α) {a : α} (h : isW T s.toks = true) (e : R (Pa.adv s) = .ok (a, s1)) : pref acc (more R T s) = pref (acc ++ [a]) (more R T s1) := by
  conv => lhs; unfold more
  rw [if_pos h, sep_ok hR T e, pref_pref]
theorem own_er {w : World} {base : Nat} {e : TypeId} {k : Nat} {v : Value} {n : Nat} {xs : List Value} (h : w.ownsRow base e k v n xs) : (er base w).ownsRow base e k v n xs := by
  refine ⟨h.1, ?_⟩
  rcases h.2 with h1 | ⟨g, cap, cur, h1, h2, h3, h4⟩
  · exact .inl h1
  · exact .inr ⟨g, cap, cur, h1, h2, (er_hi w h2).trans h3, h4⟩
theorem own_oth {w w' : World} {base b : Nat} {e : TypeId} {k : Nat} {v : Value} {n : Nat} {xs : List Value} (h : w.ownsRow base e k v n xs) (hb : b < base) (ho : Oth b w w') : w'.ownsRow base e k v n xs := by
  refine ⟨h.1, ?_⟩
  rcases h.2 with h1 | ⟨g, cap, cur, h1, h2, h3, h4⟩
  · exact .inl h1
  · exact .inr ⟨g, cap, cur, h1, h2, (ho.block g (Array.getElem?_eq_some_iff.1 h3).1 (by omega)).trans h3, h4⟩
/-- A row's own block, and what is older. -/
def pw (B : Nat) (v : Value) (i : Nat) : Bool := decide (i < B) || (v.ownBlock == some i)
theorem pw_out {B : Nat} {v : Value} {i : Nat} (h : pw B v i = false) : B ≤ i ∧ v.ownBlock ≠ some i := by
  unfold pw at h
  rw [Bool.or_eq_false_iff, decide_eq_false_iff_not, beq_eq_false_iff_ne] at h
  exact ⟨by omega, h.2⟩
theorem pw_mk {B : Nat} {v : Value} {i : Nat} (h : B ≤ i) (h2 : v.ownBlock ≠ some i) : pw B v i = false := by
  unfold pw
  rw [Bool.or_eq_false_iff, decide_eq_false_iff_not, beq_eq_false_iff_ne]
  exact ⟨by omega, h2⟩
theorem sub_pw (B : Nat) (v : Value) (w : World) : Sub (erp (pw B v) w) (er B w) := sub_mk (Nat.le_refl _) fun i hi hp => ⟨decide_eq_false (by have := (pw_out hp).1; omega), rfl⟩
theorem Oth.sub_pw {b B : Nat} {v : Value} {w w' : World} (h : Oth b w w') (hb : b < B) : Sub (erp (pw B v) w) (erp (pw B v) w') :=
  sub_mk h.size fun i hi hp => ⟨hp, h.block i hi (by have := (pw_out hp).1; omega)⟩
theorem sub_start {B : Nat} {w : World} (o : Obj) (n c : Nat) : Sub (er B w) (erp (pw B (.slice (some ⟨w.heap.size, 0, none⟩) n c)) (w.alloc o)) :=
  sub_mk (by simp) fun i hi hp => ⟨pw_mk (by have := of_decide_eq_false hp; omega) (fun e => by injection e with e; simp at e; omega), Below.heap_alloc w o i hi⟩
theorem sub_app {B : Nat} {p : Nat → Bool} {w w' : World} {o : Obj} {v v' : Value} (hg : (w.alloc o).grownBy w' v.ownBlock) (ho : v'.ownBlock = v.ownBlock ∨ v'.ownBlock = some (w.heap.size + 1)) (hp : ∀ i, i < w.heap.size → p i = false → B ≤ i ∧ v.ownBlock ≠ some i) :
    Sub (erp p w) (erp (pw B v') w') :=
  sub_mk (Nat.le_trans (by simp) hg.size) fun i hi h => by
    obtain ⟨h1, h2⟩ := hp i hi h
    refine ⟨pw_mk h1 ?_, (hg.block i (by simp; omega) (fun e => h2 e.symm)).trans (Below.heap_alloc w o i hi)⟩
    rcases ho with e | e
    · rw [e]; exact h2
    · rw [e]; intro e2; injection e2 with e2; omega
section
variable {P : Program} {α : Type} {enc : α → List Value} {k : Nat}
/-- 'append(out, ys...)' with all that it leaves. -/
theorem append_rows_o {ops : Array Oper} {rest : List Oper} {o : Oper} {a : Act} {Q : Exit → Act → World → Prop} {w : World} (hgd : o.guard = none) (s x : Operand) (t : TypeId)
    (ho : o.op = .call { callee := .builtin .append, args := #[s, x], argTypes := #[t, t] })
    (base : Nat) (e : TypeId) (z : Value) (bytes : Nat) (ht : P.underlying t = some (.slice e)) (hinfo : (P.info? e).map (fun i => (i.zero, i.size, i.bytes)) = some (some z, k, bytes))
    (hzs : z.cells.size = k) (h0 : 0 < k) (hk : ∀ x, (enc x).length = k) (h1 : ∀ x, ∀ v ∈ enc x, v.oneCell' = true)
    (v : Value) (n : Nat) (xs : List α) (hs : a.eval s = v) (hown : w.ownsRow base e k v n (flat enc xs)) (hbase : base ≤ w.heap.size)
    (B : Nat) (A : Option Addr) (m c : Nat) (ys : List α) (hx : a.eval x = .slice A m c) (hA : Row enc k w B A m ys)
    (h63 : n + m ≤ maxLen) (hbytes : (n + m) * bytes ≤ 140737488355328)
    (h : ∀ v' w', w'.ownsRow base e k v' (n + m) (flat enc (xs ++ ys)) → (v'.ownBlock = v.ownBlock ∨ v'.ownBlock = some w.heap.size) → w.grownBy w' v.ownBlock → wpList P ops Q rest (a.put o.dst v') w') : wpList P ops Q (o :: rest) a w :=
  wpList_plain hgd fun K hK =>
    wp_append_rows s x t ho base e z bytes ht hinfo hzs h0 hk h1 v n xs hs hown hbase B A m c ys hx hA h63 hbytes fun v' w' a b d => hK _ _ (h v' w' a d b)
end
theorem RAt.grown {w w' : World} {b : Nat} {s : PSt} {k : Nat} {row : Option Nat} (h : RAt w b s k) (hg : w.grownBy w' row) (hr : ∀ r, row = some r → b < r) : RAt w' b s k := by
  have hb := h.lt
  have hk : ∀ j, j ≤ b → w'.heap[j]? = w.heap[j]? := fun j hj => hg.block j (by omega) (fun e => by have := hr j e.symm; omega)
  obtain ⟨A, c, ⟨h0, h1, h2⟩, ⟨f0, f1, f2⟩, hr, hc, hf⟩ := h
  exact ⟨A, c, ⟨(World.cell?_of_block (hk b (Nat.le_refl _))).trans h0, (World.cell?_of_block (hk b (Nat.le_refl _))).trans h1, (World.cell?_of_block (hk b (Nat.le_refl _))).trans h2⟩,
    ⟨(World.frozen?_of_block (hk b (Nat.le_refl _))).trans f0, (World.frozen?_of_block (hk b (Nat.le_refl _))).trans f1, (World.frozen?_of_block (hk b (Nat.le_refl _))).trans f2⟩, hr.keep fun p hp => World.cell?_of_block (hk p.block (Nat.le_of_lt hp)), hc, hf⟩
theorem heap_new (w : World) (o : Obj) : (w.alloc o).heap[w.heap.size]? = some o := by
  show (w.heap.push o)[w.heap.size]? = some o
  simp
theorem own_new (w : World) (base : Nat) (hb : base ≤ w.heap.size) (e : TypeId) (k : Nat) (cs : Array Value) (n : Nat) (hc : cs.size = n * k) (hn : n ≤ maxLen) : (w.alloc (.cells cs e)).ownsRow base e k (.slice (some ⟨w.heap.size, 0, none⟩) n n) n cs.toList :=
  ⟨by rw [Array.length_toList, hc], .inr ⟨w.heap.size, n, cs, rfl, hb, heap_new w _, Nat.le_refl _, hn, hc, List.take_of_length_le (by rw [Array.length_toList, hc]; exact Nat.le_refl _)⟩⟩
/-- How many tokens are left: a loop's measure. -/
def msr (b : Nat) (w : World) : Nat := match w.cell? ⟨b, 0, none⟩ with
  | some (.slice _ n _) => n
  | _ => 0
theorem RAt.msr {w : World} {b : Nat} {s : PSt} {k : Nat} (h : RAt w b s k) : msr b w = s.toks.length := by
  obtain ⟨A, c, ⟨h0, _⟩, _⟩ := h
  unfold Pm.msr; rw [h0]
theorem skp_pos {T : List UInt8} {s : PSt} (h : isW T s.toks = true) : skp T s = Pa.adv s := if_pos h
theorem skp_neg {T : List UInt8} {s : PSt} (h : isW T s.toks = false) : skp T s = s := if_neg (by rw [h]; decide)
/-- An expression as it lies in memory. -/
structure RawE where
  e : ExprP
  RA : Option Addr
  rc : Nat
  OA : Option Addr
  oc : Nat
def encE (x : RawE) : List Value := [.int .i64 (kind x.e), .int .i64 (field x.e), .slice x.RA (rs x.e).length x.rc, .float .f64 (lo x.e), .float .f64 (hi x.e), .slice x.OA (of x.e).length x.oc]
theorem encE_len (x : RawE) : (encE x).length = 6 := rfl
theorem encE_one (x : RawE) : ∀ v ∈ encE x, v.oneCell' = true := by
  intro v hv
  simp [encE] at hv
  rcases hv with rfl | rfl | rfl | rfl | rfl | rfl <;> rfl
theorem info_expr : (Tryz.prog.info? 32).map (fun i => (i.zero, i.size, i.bytes)) = some (some (.agg #[.int .i64 0, .int .i64 0, .slice none 0 0, .float .f64 0, .float .f64 0, .slice none 0 0]), 6, 80) := by kernel_rfl
theorem info_range : (Tryz.prog.info? 86).map (fun i => (i.zero, i.size, i.bytes)) = some (some (.agg #[.int .i64 0, .int .i64 0]), 2, 16) := by kernel_rfl
theorem exs_of {W : World} {A : Option Addr} {n : Nat} {raws : List RawE} (h : Row encE 6 W W.heap.size A n raws) (hx : ∀ x ∈ raws, Ex W x.e x.RA x.OA) : Exs W A (raws.map RawE.e) := fun hn => by
  rw [List.length_map] at hn
  have hl := h.1
  obtain ⟨g, off, rfl, hb⟩ := h.addr (by omega)
  obtain ⟨_, hc⟩ := h.cells (by omega)
  refine ⟨g, off, rfl, hb, exsIn_mk W _ _ _ _ fun k hk => ?_⟩
  rw [List.length_map] at hk
  have he := hx _ (List.getElem_mem (h := hk))
  have hgd : (raws.map RawE.e).getD k zero = raws[k].e := by rw [List.getD_eq_getElem?_getD, List.getElem?_eq_getElem (by rw [List.length_map]; exact hk), List.getElem_map]; rfl
  rw [hgd]
  exact ⟨encE raws[k], fun j v hv => hc k (by omega) j v hv, he.into _ _⟩
def SevRRel (b k : Nat) (w : World) (R : Rd (Int × Int)) (T : List UInt8) (s : PSt) (lv : Value) (wr : World) : Prop :=
  ∃ (acc : List (Int × Int)) (s1 : PSt), wr.ownsRow w.heap.size 86 2 lv acc.length (flat encP acc) ∧ RAt wr b s1 k ∧ Oth b w wr ∧ Hid (sep R T s = pref acc (more R T s1)) ∧ acc.length + s1.toks.length ≤ s.toks.length + 1 ∧ s1.toks.length ≤ s.toks.length
set_option maxHeartbeats 4000000 in
theorem sevR_any (g : Nat) (eg : ∀ args w, (callFunc g args).run Tryz.prog w = .ok (.enter g args) w) (R : Rd (Int × Int)) (hD : Down R) (k b : Nat)
    (hR : ∀ s w, RAt w b s k → Calls Tryz.prog g #[.pointer (some ⟨b, 0, none⟩)] w (Out b VP (R s) k w)) (T : ByteArray) (hT : Wd T) (s : PSt) (w : World) (h : RAt w b s k) :
    Calls Tryz.prog 125 #[.pointer (some ⟨b, 0, none⟩), .func (.func g) #[.pointer (some ⟨b, 0, none⟩)] #[], .string T] w (Out b VPs (sep R (bl T) s) k w) := by
  have C1 := Lib.hid (hR s w h)
  have HF := Lib.hid h.fine
  have hbw := h.lt
  have HR := Lib.hid hR
  have HD := Lib.hid hD
  clear hR hD
  go_enter Tryz.func125, Tryz.ntmps125
  go_wp2_with fail
  refine C1.out.mono ?_
  rintro e w1 hO
  obtain ⟨ho, ⟨q, hq, rfl⟩ | ⟨a, s1, v, hq, rfl, hv, hr⟩⟩ := hO.cases
  · have HE := Lib.hid (sep_err HD.out (bl T) hq)
    clear hq h hO
    go_wp2
    exact ⟨rfl, Out.err HE.out ho⟩
  · obtain rfl := hv
    have HE := Lib.hid (sep_ok HD.out (bl T) hq)
    have hdn := HD.out _ _ _ hq
    have hsz := ho.size
    clear hq h hO
    go_wp2
    go_loopw [7] (fun lv wr => SevRRel b k w R (bl T) s lv wr) (fun _ wr => msr b wr)
    case atStart =>
      refine ⟨[a], s1, ?_, hr.keep ((Keep.refl w1).alloc _), ho.alloc _, HE, by simp; omega, hdn⟩
      exact own_new w1 w.heap.size (by omega) 86 2 _ 1 rfl (by unfold maxLen; omega)
    case round =>
      obtain ⟨acc, s2, hown, hr2, ho2, hg, hl1, hl2⟩ := hrel
      obtain ⟨OA, oc, rfl⟩ := own_slice hown
      have hs0 := HF.out.2.2.2
      have C2 := Lib.hid (skip_any T hT b s2 k wr hr2)
      have hsz2 := ho2.size
      have HM := Lib.hid hr2.msr
      clear hr hr2
      go_wp2_with fail
      refine C2.out.mono ?_
      rintro e w3 ⟨rfl, ho3, hr3⟩
      have hown3 := own_oth hown hbw ho3
      skip
      have hsz3 := ho3.size
      cases hw : isW (bl T) s2.toks with
      | false =>
        rw [skp_neg hw] at hr3
        have HE2 := Lib.hid (hg.out.trans (more_end acc hw))
        clear hw hown
        go_wp2
        go_ret
        exact Out.mk HE2.out (ho2.trans ho3) ⟨OA, oc, rfl, Row.of_own encP_len (own_er hown3) (by omega)⟩ hr3
      | true =>
        rw [skp_pos hw] at hr3
        have C4 := Lib.hid (HR.out _ _ hr3)
        have hlen := isW_pos hw
        have hal : (Pa.adv s2).toks.length + 1 = s2.toks.length := hlen
        clear hown hr3
        go_wp2_with fail
        refine C4.out.mono ?_
        rintro e w5 hO5
        obtain ⟨ho5, ⟨q, hq, rfl⟩ | ⟨a5, s5, v, hq, rfl, hv, hr5⟩⟩ := hO5.cases
        · have HE2 := Lib.hid (hg.out.trans (more_err HD.out acc hw hq))
          clear hq hw hO5
          go_wp2
          exact ⟨rfl, Out.err HE2.out ((ho2.trans ho3).trans ho5)⟩
        · obtain rfl := hv
          have HE2 := Lib.hid (hg.out.trans (more_ok HD.out acc hw hq))
          have hdn5 := HD.out _ _ _ hq
          have hown5 := own_oth hown3 hbw ho5
          skip
          have hsz5 := ho5.size
          have hrow : Row encP 2 (w5.alloc (.cells #[.int .i64 a5.1, .int .i64 a5.2] 86)) (w5.heap.size + 1) (some ⟨w5.heap.size, 0, none⟩) 1 [a5] := Row.new encP_len w5 86 [a5] #[.int .i64 a5.1, .int .i64 a5.2] rfl
          have hown6 := hown5.alloc (.cells #[.int .i64 a5.1, .int .i64 a5.2] 86)
          have hb5 : b < w5.heap.size := by omega
          have HLT := Lib.hid hown3.lt
          clear hq hw hO5 hown3
          go_wp2_with (at_builtin; refine append_rows_o rfl _ _ 28 rfl w.heap.size 86 _ 16 Tryz.underlying28 info_range rfl (by omega) encP_len encP_one _ acc.length acc rfl hown6 (by simp; omega) _ (some ⟨w5.heap.size, 0, none⟩) 1 1 [a5] rfl hrow (by unfold maxLen; omega) (by omega) ?_)
          rintro v6 w6 hown7 hob hgr
          obtain ⟨A6, c6, rfl⟩ := own_slice hown7
          go_wp2
          have hrow6 : ∀ r, (Value.slice OA acc.length oc).ownBlock = some r → w.heap.size ≤ r := fun r hr => (hown6.lt r hr).1
          have hr6 := (hr5.keep ((Keep.refl w5).alloc (.cells #[.int .i64 a5.1, .int .i64 a5.2] 86))).grown hgr (fun r hr => by have := hrow6 r hr; omega)
          refine ⟨⟨acc ++ [a5], s5, ?_, hr6, (((ho2.trans ho3).trans ho5).alloc _).grown hgr hrow6, by exact HE2, by simp; omega, by omega⟩, ?_⟩
          · simpa using hown7
          · rw [hr6.msr, HM.out]; omega
def SevERel (b k : Nat) (w : World) (R : Rd ExprP) (T : List UInt8) (s : PSt) (lv : Value) (wr : World) : Prop :=
  ∃ (acc : List RawE) (s1 : PSt), wr.ownsRow w.heap.size 32 6 lv acc.length (flat encE acc) ∧ (∀ x ∈ acc, Ex (erp (pw w.heap.size lv) wr) x.e x.RA x.OA) ∧ RAt wr b s1 k ∧ Oth b w wr ∧ Hid (sep R T s = pref (acc.map RawE.e) (more R T s1)) ∧ acc.length + s1.toks.length ≤ s.toks.length + 1 ∧ s1.toks.length ≤ s.toks.length
set_option maxHeartbeats 4000000 in
theorem sevE_any (g : Nat) (eg : ∀ args w, (callFunc g args).run Tryz.prog w = .ok (.enter g args) w) (R : Rd ExprP) (hD : Down R) (k b : Nat)
    (hR : ∀ s w, RAt w b s k → Calls Tryz.prog g #[.pointer (some ⟨b, 0, none⟩)] w (Out b VE (R s) k w)) (T : ByteArray) (hT : Wd T) (s : PSt) (w : World) (h : RAt w b s k) :
    Calls Tryz.prog 95 #[.pointer (some ⟨b, 0, none⟩), .func (.func g) #[.pointer (some ⟨b, 0, none⟩)] #[], .string T] w (Out b VEs (sep R (bl T) s) k w) := by
  have C1 := Lib.hid (hR s w h)
  have HF := Lib.hid h.fine
  have hbw := h.lt
  have HR := Lib.hid hR
  have HD := Lib.hid hD
  clear hR hD
  go_enter Tryz.func95, Tryz.ntmps95
  go_wp2_with fail
  refine C1.out.mono ?_
  rintro e w1 hO
  obtain ⟨ho, ⟨q, hq, rfl⟩ | ⟨a, s1, v, hq, rfl, hv, hr⟩⟩ := hO.cases
  · have HE := Lib.hid (sep_err HD.out (bl T) hq)
    clear hq h hO
    go_wp2
    exact ⟨rfl, Out.err HE.out ho⟩
  · obtain ⟨RA0, rc0, OA0, oc0, rfl, hx0⟩ := hv
    have HE := Lib.hid (sep_ok HD.out (bl T) hq)
    have hdn := HD.out _ _ _ hq
    have hsz := ho.size
    clear hq h hO
    go_wp2
    go_loopw [7] (fun lv wr => SevERel b k w R (bl T) s lv wr) (fun _ wr => msr b wr)
    case atStart =>
      refine ⟨[⟨a, RA0, rc0, OA0, oc0⟩], s1, ?_, fun x hx => by rw [List.mem_singleton] at hx; subst hx; exact Ex.sub hx0 (sub_start _ 1 1), hr.keep ((Keep.refl w1).alloc _), ho.alloc _, HE, by simp; omega, hdn⟩
      exact own_new w1 w.heap.size (by omega) 32 6 _ 1 rfl (by unfold maxLen; omega)
    case round =>
      obtain ⟨acc, s2, hown, hin, hr2, ho2, hg, hl1, hl2⟩ := hrel
      obtain ⟨OA, oc, rfl⟩ := own_slice hown
      have hs0 := HF.out.2.2.2
      have C2 := Lib.hid (skip_any T hT b s2 k wr hr2)
      have hsz2 := ho2.size
      have HM := Lib.hid hr2.msr
      clear hr hr2 hx0
      go_wp2_with fail
      refine C2.out.mono ?_
      rintro e w3 ⟨rfl, ho3, hr3⟩
      have hown3 := own_oth hown hbw ho3
      have hin3 := fun x hx => Ex.sub (hin x hx) (ho3.sub_pw hbw)
      have hsz3 := ho3.size
      cases hw : isW (bl T) s2.toks with
      | false =>
        rw [skp_neg hw] at hr3
        have HE2 := Lib.hid (hg.out.trans (more_end (acc.map RawE.e) hw))
        clear hw hown
        go_wp2
        go_ret
        exact Out.mk HE2.out (ho2.trans ho3) ⟨OA, oc, by rw [List.length_map]; rfl, exs_of (Row.of_own encE_len (own_er hown3) (by omega)) fun x hx => Ex.sub (hin3 x hx) (sub_pw _ _ _)⟩ hr3
      | true =>
        rw [skp_pos hw] at hr3
        have C4 := Lib.hid (HR.out _ _ hr3)
        have hlen := isW_pos hw
        have hal : (Pa.adv s2).toks.length + 1 = s2.toks.length := hlen
        clear hown hr3
        go_wp2_with fail
        refine C4.out.mono ?_
        rintro e w5 hO5
        obtain ⟨ho5, ⟨q, hq, rfl⟩ | ⟨a5, s5, v, hq, rfl, hv, hr5⟩⟩ := hO5.cases
        · have HE2 := Lib.hid (hg.out.trans (more_err HD.out (acc.map RawE.e) hw hq))
          clear hq hw hO5
          go_wp2
          exact ⟨rfl, Out.err HE2.out ((ho2.trans ho3).trans ho5)⟩
        · obtain ⟨RA5, rc5, OA5, oc5, rfl, hx5⟩ := hv
          have HE2 := Lib.hid (hg.out.trans (more_ok HD.out (acc.map RawE.e) hw hq))
          have hdn5 := HD.out _ _ _ hq
          have hown5 := own_oth hown3 hbw ho5
          have hin5 := fun x hx => Ex.sub (hin3 x hx) (ho5.sub_pw hbw)
          have hsz5 := ho5.size
          have hrow : Row encE 6 (w5.alloc (.cells #[.int .i64 (kind a5), .int .i64 (field a5), .slice RA5 (rs a5).length rc5, .float .f64 (lo a5), .float .f64 (hi a5), .slice OA5 (of a5).length oc5] 32)) (w5.heap.size + 1) (some ⟨w5.heap.size, 0, none⟩) 1 [⟨a5, RA5, rc5, OA5, oc5⟩] := Row.new encE_len w5 32 [⟨a5, RA5, rc5, OA5, oc5⟩] #[.int .i64 (kind a5), .int .i64 (field a5), .slice RA5 (rs a5).length rc5, .float .f64 (lo a5), .float .f64 (hi a5), .slice OA5 (of a5).length oc5] rfl
          have hown6 := hown5.alloc (.cells #[.int .i64 (kind a5), .int .i64 (field a5), .slice RA5 (rs a5).length rc5, .float .f64 (lo a5), .float .f64 (hi a5), .slice OA5 (of a5).length oc5] 32)
          have hb5 : b < w5.heap.size := by omega
          have HLT := Lib.hid hown3.lt
          clear hq hw hO5 hown3
          go_wp2_with (at_builtin; refine append_rows_o rfl _ _ 30 rfl w.heap.size 32 _ 80 Tryz.underlying30 info_expr rfl (by omega) encE_len encE_one _ acc.length acc rfl hown6 (by simp; omega) _ (some ⟨w5.heap.size, 0, none⟩) 1 1 [⟨a5, RA5, rc5, OA5, oc5⟩] rfl hrow (by unfold maxLen; omega) (by omega) ?_)
          rintro v6 w6 hown7 hob hgr
          obtain ⟨A6, c6, rfl⟩ := own_slice hown7
          go_wp2
          have hrow6 : ∀ r, (Value.slice OA acc.length oc).ownBlock = some r → w.heap.size ≤ r := fun r hr => (hown6.lt r hr).1
          have hr6 := (hr5.keep ((Keep.refl w5).alloc (.cells #[.int .i64 (kind a5), .int .i64 (field a5), .slice RA5 (rs a5).length rc5, .float .f64 (lo a5), .float .f64 (hi a5), .slice OA5 (of a5).length oc5] 32))).grown hgr (fun r hr => by have := hrow6 r hr; omega)
          refine ⟨⟨acc ++ [⟨a5, RA5, rc5, OA5, oc5⟩], s5, ?_, ?_, hr6, (((ho2.trans ho3).trans ho5).alloc _).grown hgr hrow6, by rw [List.map_append]; exact HE2, by simp; omega, by omega⟩, ?_⟩
          · simpa using hown7
          · intro x hx
            rcases List.mem_append.1 hx with hx | hx
            · exact Ex.sub (hin5 x hx) (sub_app hgr hob fun i _ hp => pw_out hp)
            · rw [List.mem_singleton] at hx; subst hx
              exact Ex.sub hx5 (sub_app hgr hob fun i _ hp => by
                have hi := of_decide_eq_false hp
                exact ⟨by omega, fun e => by have := (HLT.out i e).2; omega⟩)
          · rw [hr6.msr, HM.out]; omega
end Go.Proofs.YtmcgflpgkkophaaGreatDoor.Pm
/- The developers' parser: ranges, bounds and atoms, in memory. Conditions: what is left may be read. -/
namespace Go.Proofs.YtmcgflpgkkophaaGreatDoor.Pm
set_option linter.unusedVariables false
open Go.ChangeShapes Go.WideShapes Go.ChangeAt Go.RowKit
open Pa Tr
open Ref10 (encT encT_len)
theorem Oth.cell {b : Nat} {w w' : World} (h : Oth b w w') {p : Addr} (hp : p.block < w.heap.size) (hb : p.block ≠ b) : w'.cell? p = w.cell? p := World.cell?_of_block (h.block _ hp hb)
theorem Oth.frozen {b : Nat} {w w' : World} (h : Oth b w w') {p : Addr} (hp : p.block < w.heap.size) (hb : p.block ≠ b) : w'.frozen? p = w.frozen? p := World.frozen?_of_block (h.block _ hp hb)
theorem RAt.set {w : World} {b : Nat} {s : PSt} {k : Nat} (h : RAt w b s k) {p : Addr} (hp : b < p.block) (v : Value) : RAt (w.setCell p v) b s k := by
  have hk : ∀ j, j ≤ b → (w.setCell p v).heap[j]? = w.heap[j]? := fun j hj => Below.heap_setCell _ _ _ _ (by omega)
  obtain ⟨A, c, ⟨h0, h1, h2⟩, ⟨f0, f1, f2⟩, hr, hc, hf⟩ := h
  exact ⟨A, c, ⟨(World.cell?_of_block (hk b (Nat.le_refl _))).trans h0, (World.cell?_of_block (hk b (Nat.le_refl _))).trans h1, (World.cell?_of_block (hk b (Nat.le_refl _))).trans h2⟩,
    ⟨(World.frozen?_of_block (hk b (Nat.le_refl _))).trans f0, (World.frozen?_of_block (hk b (Nat.le_refl _))).trans f1, (World.frozen?_of_block (hk b (Nat.le_refl _))).trans f2⟩, hr.keep fun p hp => World.cell?_of_block (hk p.block (Nat.le_of_lt hp)), hc, hf⟩
theorem wd_minus : Wd ⟨#[45]⟩ := ⟨by decide, by decide⟩
theorem wd_to : Wd ⟨#[116, 111]⟩ := ⟨by decide, by decide⟩
theorem wd_comma : Wd ⟨#[44]⟩ := ⟨by decide, by decide⟩
/-- A box of two numbers of the call's own, behind a call. -/
theorem box2 {b : Nat} {w w' : World} (hb : b < w.heap.size) (h : Oth b (w.alloc (.cells #[.int .i64 0, .int .i64 0] 86)) w') :
    (w'.cell? ⟨w.heap.size, 0, none⟩ = some (.int .i64 0) ∧ w'.cell? ⟨w.heap.size, 1, none⟩ = some (.int .i64 0)) ∧ (∀ j, w'.frozen? ⟨w.heap.size, j, none⟩ = false) := by
  have hne : w.heap.size ≠ b := by omega
  refine ⟨⟨?_, ?_⟩, fun j => ?_⟩
  · exact (h.cell (by simp) hne).trans (by go_simp)
  · exact (h.cell (by simp) hne).trans (by go_simp)
  · exact (h.frozen (by simp) hne).trans (by go_simp)
set_option maxHeartbeats 2000000 in
theorem span_any (k b : Nat) (s : PSt) (w : World) (h : RAt w b s k) :
    Calls Tryz.prog 126 #[.pointer (some ⟨b, 0, none⟩)] w (Out b VP (Pa.range s) k w) := by
  have hbw := h.lt
  have C1 := Lib.hid (fun O => number_any b s k (w.alloc O) (h.keep ((Keep.refl w).alloc O)))
  clear h
  go_enter Tryz.func126, Tryz.ntmps126
  go_wp2_with fail
  refine (C1.out _).mono ?_
  rintro e w1 hO
  obtain ⟨ho, ⟨q, hq, rfl⟩ | ⟨a, s1, v, hq, rfl, rfl, hr⟩⟩ := hO.cases
  · have HE := Lib.hid (show Pa.range s = .error q by unfold Pa.range; rw [hq]; rfl)
    clear hq hO
    go_wp2
    exact ⟨rfl, Out.err HE.out (((Oth.refl b w).alloc _).trans ho)⟩
  · have C2 := Lib.hid (skip_any ⟨#[45]⟩ wd_minus b s1 k w1 hr)
    clear hO hr
    go_wp2_with fail
    refine C2.out.mono ?_
    rintro e w2 ⟨rfl, ho2, hr2⟩
    cases hw : isW [45] s1.toks with
    | false =>
      have hw' : isW (bl ⟨#[45]⟩) s1.toks = false := hw
      rw [skp_neg hw'] at hr2
      have HE := Lib.hid (show Pa.range s = .ok ((a, a), s1) by unfold Pa.range; rw [hq, bnd_ok]; rw [if_neg (by rw [hw]; decide)])
      obtain ⟨⟨c0, c1⟩, hf⟩ := box2 hbw (ho.trans ho2)
      have HO := Lib.hid (((Oth.refl b w).alloc (.cells #[.int .i64 0, .int .i64 0] 86)).trans (ho.trans ho2))
      have HR := Lib.hid hr2
      clear hq hr2 ho ho2
      go_wp2
      (try simp only [Exit.inBlock, Exit.then])
      refine bodyPost_ret (v := .agg #[.int .i64 a, .int .i64 a]) ?_ rfl (Out.mk HE.out ((HO.out.set (Nat.le_refl _) _).set (Nat.le_refl _) _) rfl ((HR.out.set hbw _).set hbw _))
      rw [results_c rfl]
      go_simp
    | true =>
      have hw' : isW (bl ⟨#[45]⟩) s1.toks = true := hw
      rw [skp_pos hw'] at hr2
      have C3 := Lib.hid (number_any b _ k w2 hr2)
      have ho12 := ho.trans ho2
      clear hr2 ho ho2
      go_wp2_with fail
      refine C3.out.mono ?_
      rintro e w3 hO
      obtain ⟨ho3, ⟨q, hq3, rfl⟩ | ⟨a2, s3, v, hq3, rfl, rfl, hr3⟩⟩ := hO.cases
      · have HE := Lib.hid (show Pa.range s = .error q by unfold Pa.range; rw [hq, bnd_ok]; rw [if_pos hw, hq3]; rfl)
        clear hq hq3 hO
        go_wp2
        exact ⟨rfl, Out.err HE.out (((Oth.refl b w).alloc _).trans (ho12.trans ho3))⟩
      · have HE := Lib.hid (show Pa.range s = .ok ((a, a2), s3) by unfold Pa.range; rw [hq, bnd_ok]; rw [if_pos hw, hq3]; rfl)
        obtain ⟨⟨c0, c1⟩, hf⟩ := box2 hbw (ho12.trans ho3)
        have HO := Lib.hid (((Oth.refl b w).alloc (.cells #[.int .i64 0, .int .i64 0] 86)).trans (ho12.trans ho3))
        have HR := Lib.hid hr3
        clear hq hr3 ho12 ho3 hq3 hO
        go_wp2
        (try simp only [Exit.inBlock, Exit.then])
        refine bodyPost_ret (v := .agg #[.int .i64 a, .int .i64 a2]) ?_ rfl (Out.mk HE.out ((HO.out.set (Nat.le_refl _) _).set (Nat.le_refl _) _) rfl ((HR.out.set hbw _).set hbw _))
        rw [results_c rfl]
        go_simp

theorem hd_st (l : List TokP) : hd l = st (headText l) := by rw [← hd_bl, st_bl]
/-- What a bound's size reads as, with its sign. -/
theorem boundS_eq (sg : Bool) (s : PSt) (hf : Fine s) (hm : sg = false → isW [45] s.toks = false) :
    boundS sg s = if Re.rdOk (sgn sg ++ headText s.toks) = true then .ok (Re.rdF (sgn sg ++ headText s.toks), Pa.adv s) else .error (lineOf s.toks, 7) := by
  obtain ⟨T, n⟩ := s
  cases T with
  | nil =>
    have h0 : Re.rdOk (sgn sg ++ headText []) = false := by cases sg <;> decide
    show _ = if Re.rdOk (sgn sg ++ headText []) = true then _ else _
    rw [h0]; rfl
  | cons t l =>
    obtain ⟨hG, _, _, _, hF⟩ := hf
    have hg := hG t (List.mem_cons_self ..)
    obtain ⟨_, f2, f3⟩ := hF t (List.mem_cons_self ..)
    have hrest : Re.restL (sgn sg ++ bl t.text) = bl t.text := by
      cases sg with
      | true => rfl
      | false =>
        show Re.restL (bl t.text) = _
        unfold Re.restL
        by_cases hn : Re.negL (bl t.text) = true
        · obtain ⟨h1, h2⟩ := f3 hn
          have := hm rfl
          have h3 : isW [45] (t :: l) = true := by
            show (!(t.kind == 2) && (bl t.text == [45])) = true
            rw [h1, show (t.kind == 2) = false from beq_eq_false_iff_ne.2 h2]; rfl
          rw [h3] at this; cases this
        · rw [if_neg hn]
    have hok : Re.rdOk (sgn sg ++ bl t.text) = (decide (bl t.text = Re.infL) || Gu.getOk (bl t.text)) := by
      unfold Re.rdOk Re.rOk
      rw [hrest]
    show (if isW Re.infL (t :: l) = true then Except.ok (Re.rdF (sgn sg ++ Re.infL), Pa.adv ⟨t :: l, n⟩) else bnd (num ⟨t :: l, n⟩) fun _ s2 => .ok (Re.rdF (sgn sg ++ bl t.text), s2)) = if Re.rdOk (sgn sg ++ bl t.text) = true then Except.ok (Re.rdF (sgn sg ++ bl t.text), Pa.adv ⟨t :: l, n⟩) else .error (lineOf (t :: l), 7)
    by_cases hk : t.kind = 2
    · have h1 := (hg hk).1
      have e1 : isW Re.infL (t :: l) = false := by show (!(t.kind == 2) && (bl t.text == Re.infL)) = false; rw [hk]; rfl
      rw [hok, h1, Bool.or_true, if_pos rfl, if_neg (by rw [e1]; decide)]
      have : num ⟨t :: l, n⟩ = .ok (t.num, Pa.adv ⟨t :: l, n⟩) := if_pos hk
      rw [this]; rfl
    · have h1 := f2 hk
      have hk' : (t.kind == 2) = false := beq_eq_false_iff_ne.2 hk
      rw [hok, h1, Bool.or_false]
      by_cases hi : bl t.text = Re.infL
      · have e1 : isW Re.infL (t :: l) = true := by show (!(t.kind == 2) && (bl t.text == Re.infL)) = true; rw [hk', hi]; rfl
        rw [if_pos (decide_eq_true hi), if_pos e1, hi]
      · have e1 : isW Re.infL (t :: l) = false := by
          show (!(t.kind == 2) && (bl t.text == Re.infL)) = false
          rw [hk', beq_eq_false_iff_ne.2 hi]; rfl
        rw [decide_eq_false hi, if_neg (by rw [e1]; decide), if_neg (by decide)]
        have : num ⟨t :: l, n⟩ = .error (lineOf (t :: l), 7) := if_neg hk
        rw [this]; rfl
theorem head_len {s : PSt} (hf : Fine s) : (headText s.toks).length ≤ 8192 := by
  obtain ⟨T, n⟩ := s
  cases T with
  | nil => exact Nat.zero_le _
  | cons t l =>
    have := hf.2.1 t (List.mem_cons_self ..)
    show (bl t.text).length ≤ 8192
    rw [bl_length]; exact this
theorem isW_adv_ne {T : List UInt8} {s : PSt} (h : Re.rdOk (sgn true ++ headText s.toks) = true) : s.toks ≠ [] := fun e => by
  rw [e] at h; revert h; decide
theorem rdOk_ne {sg : Bool} {s : PSt} (h : Re.rdOk (sgn sg ++ headText s.toks) = true) : s.toks ≠ [] := fun e => by
  rw [e] at h
  cases sg <;> (revert h; decide)
set_option maxHeartbeats 2000000 in
theorem bound_any (k b : Nat) (s : PSt) (w : World) (h : RAt w b s k) :
    Calls Tryz.prog 135 #[.pointer (some ⟨b, 0, none⟩)] w (Out b VF (Pa.bound s) k w) := by
  have C1 := Lib.hid (skip_any ⟨#[45]⟩ wd_minus b s k w h)
  obtain ⟨sg, hsg⟩ : ∃ sg, isW (bl ⟨#[45]⟩) s.toks = sg := ⟨_, rfl⟩
  have HB := Lib.hid (show Pa.bound s = boundS sg (skp (bl ⟨#[45]⟩) s) ∧ (sg = false → isW [45] (skp (bl ⟨#[45]⟩) s).toks = false) by
    unfold Pa.bound skp
    cases sg with
    | true => rw [if_pos hsg, if_pos (show isW [45] s.toks = true from hsg)]; exact ⟨rfl, fun e => by cases e⟩
    | false => rw [if_neg (show ¬ isW (bl ⟨#[45]⟩) s.toks = true by rw [hsg]; decide), if_neg (show ¬ isW [45] s.toks = true by rw [show isW [45] s.toks = false from hsg]; decide)]; exact ⟨rfl, fun _ => hsg⟩)
  have hf1 : Fine (skp (bl ⟨#[45]⟩) s) := by
    unfold skp
    split
    · exact h.fine.adv
    · exact h.fine
  have HE := Lib.hid (boundS_eq sg _ hf1 HB.out.2)
  replace HB := Lib.hid HB.out.1
  rw [hsg] at C1
  clear h hsg hf1
  obtain ⟨s1, hs1⟩ : ∃ s1, skp (bl ⟨#[45]⟩) s = s1 := ⟨_, rfl⟩
  rw [hs1] at C1 HB HE
  clear hs1
  cases sg
  all_goals
    go_enter Tryz.func135, Tryz.ntmps135
    go_wp2_with fail
    refine C1.out.mono ?_
    rintro e w1 ⟨rfl, ho, hr⟩
    have C2 := Lib.hid (text_any b s1 k w1 hr)
    have hln := head_len hr.fine
    rw [hd_st] at C2
    have C4 := Lib.hid (fun W hk => fault_any 7 b s1 k W (hr.keep hk))
    have C5 := Lib.hid (fun W hk => drop_any b s1 k W (hr.keep hk))
    obtain ⟨x, hx⟩ : ∃ x, headText s1.toks = x := ⟨_, rfl⟩
    rw [hx] at C2 hln
    have HX := Lib.hid hx
    clear hx hr
  · have a1 : ∀ W : World, (Op.stringOp .add ⟨#[]⟩ (st x)).run Tryz.prog W = .ok (.string (st (sgn false ++ x))) W := add_st [] x (by simp; omega)
    have C3 := Lib.hid (fun W => Re.read_any (st (sgn false ++ x)) (by rw [st_size]; show ([] ++ x : List UInt8).length ≤ _; rw [List.nil_append]; omega) W)
    rw [bl_st] at C3
    obtain ⟨y, hy⟩ : ∃ y, sgn false ++ x = y := ⟨_, rfl⟩
    rw [hy] at C3 a1
    have HY := Lib.hid (show sgn false ++ headText s1.toks = y by rw [HX.out, hy])
    clear hy hln
    go_wp2_with fail
    refine C2.out.mono ?_
    rintro e w2 ⟨rfl, rfl⟩
    go_wp2_with fail
    refine (C3.out _).mono ?_
    rintro e w3 ⟨rfl, hk3⟩
    cases hok : Re.rdOk y with
    | false =>
      have HE2 := Lib.hid (show Pa.bound s = .error (lineOf s1.toks, 7) by rw [HB.out, HE.out, HY.out, hok]; rfl)
      clear hok
      go_wp2_with fail
      refine (C4.out _ hk3).mono ?_
      rintro e w4 ⟨rfl, hk4⟩
      go_wp2
      exact ⟨rfl, Out.err HE2.out ((ho.keep hk3).keep hk4)⟩
    | true =>
      have HE2 := Lib.hid (show Pa.bound s = .ok (Re.rdF y, Pa.adv s1) by rw [HB.out, HE.out, HY.out, hok]; rfl)
      have hne := rdOk_ne (sg := false) (s := s1) (by rw [HY.out]; exact hok)
      clear hok
      go_wp2_with fail
      refine (C5.out _ hk3 hne).mono ?_
      rintro e w4 ⟨rfl, ho4, hr4⟩
      go_wp2
      go_ret
      exact Out.mk HE2.out ((ho.keep hk3).trans ho4) rfl hr4
  · have a1 : ∀ W : World, (Op.stringOp .add ⟨#[45]⟩ (st x)).run Tryz.prog W = .ok (.string (st (sgn true ++ x))) W := add_st [45] x (by simp; omega)
    have C3 := Lib.hid (fun W => Re.read_any (st (sgn true ++ x)) (by rw [st_size]; show (45 :: x : List UInt8).length ≤ _; rw [List.length_cons]; omega) W)
    rw [bl_st] at C3
    obtain ⟨y, hy⟩ : ∃ y, sgn true ++ x = y := ⟨_, rfl⟩
    rw [hy] at C3 a1
    have HY := Lib.hid (show sgn true ++ headText s1.toks = y by rw [HX.out, hy])
    clear hy hln
    go_wp2_with fail
    refine C2.out.mono ?_
    rintro e w2 ⟨rfl, rfl⟩
    go_wp2_with fail
    refine (C3.out _).mono ?_
    rintro e w3 ⟨rfl, hk3⟩
    cases hok : Re.rdOk y with
    | false =>
      have HE2 := Lib.hid (show Pa.bound s = .error (lineOf s1.toks, 7) by rw [HB.out, HE.out, HY.out, hok]; rfl)
      clear hok
      go_wp2_with fail
      refine (C4.out _ hk3).mono ?_
      rintro e w4 ⟨rfl, hk4⟩
      go_wp2
      exact ⟨rfl, Out.err HE2.out ((ho.keep hk3).keep hk4)⟩
    | true =>
      have HE2 := Lib.hid (show Pa.bound s = .ok (Re.rdF y, Pa.adv s1) by rw [HB.out, HE.out, HY.out, hok]; rfl)
      have hne := rdOk_ne (sg := true) (s := s1) (by rw [HY.out]; exact hok)
      clear hok
      go_wp2_with fail
      refine (C5.out _ hk3 hne).mono ?_
      rintro e w4 ⟨rfl, ho4, hr4⟩
      go_wp2
      go_ret
      exact Out.mk HE2.out ((ho.keep hk3).trans ho4) rfl hr4
end Go.Proofs.YtmcgflpgkkophaaGreatDoor.Pm
/- The developers' parser: atoms, in memory. Conditions: what is left may be read. -/
namespace Go.Proofs.YtmcgflpgkkophaaGreatDoor.Pm
set_option linter.unusedVariables false
open Go.ChangeShapes Go.WideShapes Go.ChangeAt Go.RowKit
open Pa Tr
open Ref10 (encT encT_len)
/-- The cells of a box of an expression, still empty. -/
def Zero6 (W : World) (g : Nat) : Prop := (W.cell? ⟨g, 0, none⟩ = some (.int .i64 0) ∧ W.cell? ⟨g, 1, none⟩ = some (.int .i64 0) ∧ W.cell? ⟨g, 2, none⟩ = some (.slice none 0 0) ∧ W.cell? ⟨g, 3, none⟩ = some (.float .f64 0) ∧ W.cell? ⟨g, 4, none⟩ = some (.float .f64 0) ∧ W.cell? ⟨g, 5, none⟩ = some (.slice none 0 0)) ∧ ∀ j, W.frozen? ⟨g, j, none⟩ = false
/-- An expression's empty box. -/
def zeroE : Obj := .cells #[.int .i64 0, .int .i64 0, .slice none 0 0, .float .f64 0, .float .f64 0, .slice none 0 0] 32
/-- A box of an expression of the call's own, behind calls. -/
theorem box6 {b : Nat} {w w' : World} (hb : b < w.heap.size) (h : Oth b (w.alloc zeroE) w') : Zero6 w' w.heap.size := by
  have hne : w.heap.size ≠ b := by omega
  have hc : ∀ j, w'.cell? ⟨w.heap.size, j, none⟩ = (w.alloc zeroE).cell? ⟨w.heap.size, j, none⟩ := fun j => h.cell (by simp) hne
  refine ⟨⟨?_, ?_, ?_, ?_, ?_, ?_⟩, fun j => (h.frozen (by simp) hne).trans (by unfold zeroE; go_simp)⟩
  all_goals rw [hc]; unfold zeroE; go_simp
theorem set6 {b g : Nat} {a w : World} (h : Oth b a w) (hg : a.heap.size ≤ g) (v0 v1 v2 v3 v4 v5 : Value) :
    Oth b a ((((((w.setCell ⟨g, 0, none⟩ v0).setCell ⟨g, 1, none⟩ v1).setCell ⟨g, 2, none⟩ v2).setCell ⟨g, 3, none⟩ v3).setCell ⟨g, 4, none⟩ v4).setCell ⟨g, 5, none⟩ v5) := (((((h.set hg _).set hg _).set hg _).set hg _).set hg _).set hg _
theorem rset6 {b g : Nat} {w : World} {s : PSt} {k : Nat} (h : RAt w b s k) (hg : b < g) (v0 v1 v2 v3 v4 v5 : Value) :
    RAt ((((((w.setCell ⟨g, 0, none⟩ v0).setCell ⟨g, 1, none⟩ v1).setCell ⟨g, 2, none⟩ v2).setCell ⟨g, 3, none⟩ v3).setCell ⟨g, 4, none⟩ v4).setCell ⟨g, 5, none⟩ v5) b s k := (((((h.set hg _).set hg _).set hg _).set hg _).set hg _).set hg _
/-- What was made behind a box stays where the box is written. -/
theorem sub6 {B g : Nat} {w : World} (v0 v1 v2 v3 v4 v5 : Value) (hg : g < B) {B' : Nat} (hB : B' ≤ B) :
    Sub (er B w) (er B' ((((((w.setCell ⟨g, 0, none⟩ v0).setCell ⟨g, 1, none⟩ v1).setCell ⟨g, 2, none⟩ v2).setCell ⟨g, 3, none⟩ v3).setCell ⟨g, 4, none⟩ v4).setCell ⟨g, 5, none⟩ v5)) :=
  sub_mk (by simp [World.setCell]) fun i hi hp => by
    have hp := of_decide_eq_false hp
    have hne : i ≠ g := by omega
    refine ⟨decide_eq_false (by omega), ?_⟩
    rw [Below.heap_setCell _ _ _ _ hne, Below.heap_setCell _ _ _ _ hne, Below.heap_setCell _ _ _ _ hne, Below.heap_setCell _ _ _ _ hne, Below.heap_setCell _ _ _ _ hne, Below.heap_setCell _ _ _ _ hne]
theorem Oth.sub2 {b B B' : Nat} {w w' : World} (h : Oth b w w') (hb : b < B) (hB : B' ≤ B) : Sub (er B w) (er B' w') := (h.sub hb).trans (er_less _ hB)
set_option maxHeartbeats 2000000 in
theorem floats_any (k b : Nat) (s : PSt) (w : World) (h : RAt w b s k) :
    Calls Tryz.prog 124 #[.pointer (some ⟨b, 0, none⟩)] w (Out b VE (atomOf 6 s) k w) := by
  have hbw := h.lt
  have hsf := store_float Tryz.prog
  have C1 := Lib.hid (bound_any k b s (w.alloc zeroE) (h.keep ((Keep.refl w).alloc _)))
  have HB := Lib.hid (show atomOf 6 s = bnd (Pa.bound s) fun lo s2 => bnd (mustR Pa.wTo s2) fun _ s3 => bnd (Pa.bound s3) fun hi s4 => .ok (.mk 1 6 [] lo hi [], s4) from if_pos rfl)
  clear h
  go_enter Tryz.func124, Tryz.ntmps124
  go_wp2_with fail
  refine C1.out.mono ?_
  rintro e w1 hO
  obtain ⟨ho, ⟨q, hq, rfl⟩ | ⟨a, s1, v, hq, rfl, rfl, hr⟩⟩ := hO.cases
  · have HE := Lib.hid (show atomOf 6 s = .error q by rw [HB.out, hq]; rfl)
    clear hq hO
    go_wp2
    exact ⟨rfl, Out.err HE.out (((Oth.refl b w).alloc _).trans ho)⟩
  · have C2 := Lib.hid (must_any ⟨#[116, 111]⟩ wd_to b s1 k w1 hr)
    rw [hq, bnd_ok] at HB
    clear hO hr hq
    go_wp2_with fail
    refine C2.out.mono ?_
    rintro e w2 hO
    obtain ⟨ho2, ⟨q, hq2, rfl⟩ | ⟨_, s2, v, hq2, rfl, rfl, hr2⟩⟩ := hO.cases
    · have HE := Lib.hid (show atomOf 6 s = .error q by rw [HB.out, show mustR Pa.wTo s1 = .error q from hq2]; rfl)
      clear hq2 hO
      go_wp2
      exact ⟨rfl, Out.err HE.out (((Oth.refl b w).alloc _).trans (ho.trans ho2))⟩
    · have C3 := Lib.hid (bound_any k b s2 w2 hr2)
      rw [show mustR Pa.wTo s1 = _ from hq2, bnd_ok] at HB
      have ho12 := ho.trans ho2
      clear hO hr2 hq2 ho ho2
      go_wp2_with fail
      refine C3.out.mono ?_
      rintro e w3 hO
      obtain ⟨ho3, ⟨q, hq3, rfl⟩ | ⟨a3, s3, v, hq3, rfl, rfl, hr3⟩⟩ := hO.cases
      · have HE := Lib.hid (show atomOf 6 s = .error q by rw [HB.out, hq3]; rfl)
        clear hq3 hO
        go_wp2
        exact ⟨rfl, Out.err HE.out (((Oth.refl b w).alloc _).trans (ho12.trans ho3))⟩
      · have HE := Lib.hid (show atomOf 6 s = .ok (.mk 1 6 [] a a3 [], s3) by rw [HB.out, hq3]; rfl)
        obtain ⟨⟨c0, c1, c2, c3, c4, c5⟩, hf⟩ := box6 hbw (ho12.trans ho3)
        have HO := Lib.hid (((Oth.refl b w).alloc zeroE).trans (ho12.trans ho3))
        have HR := Lib.hid hr3
        clear hr3 ho12 ho3 hq3 hO
        go_wp2
        (try simp only [Exit.inBlock, Exit.then])
        refine bodyPost_ret (v := .agg #[.int .i64 1, .int .i64 6, .slice none 0 0, .float .f64 a, .float .f64 a3, .slice none 0 0]) ?_ rfl (Out.mk HE.out (set6 HO.out (Nat.le_refl _) _ _ _ _ _ _) ⟨none, 0, none, 0, rfl, Row.none_ _ _ _, fun h => absurd h (by simp [Tr.of])⟩ (rset6 HR.out hbw _ _ _ _ _ _))
        rw [results_c rfl]
        go_simp
theorem field_is (T : ByteArray) (n : Int) (h : fieldOf (bl T) = n) : ((T.toList == [99, 108, 105, 101, 110, 116]) = true ∧ n = 1) ∨
    ((T.toList == [99, 108, 105, 101, 110, 116]) = false ∧ (((T.toList == [117, 110, 105, 116]) = true ∧ n = 2) ∨
    ((T.toList == [117, 110, 105, 116]) = false ∧ (((T.toList == [102, 117, 110, 99]) = true ∧ n = 3) ∨
    ((T.toList == [102, 117, 110, 99]) = false ∧ (((T.toList == [97, 100, 100, 114]) = true ∧ n = 4) ∨
    ((T.toList == [97, 100, 100, 114]) = false ∧ (((T.toList == [118, 97, 108, 117, 101]) = true ∧ n = 5) ∨
    ((T.toList == [118, 97, 108, 117, 101]) = false ∧ (((T.toList == [114, 101, 97, 108]) = true ∧ n = 6) ∨
    ((T.toList == [114, 101, 97, 108]) = false ∧ n = 0))))))))))) := by
  rw [Str.toList_eq]
  subst h
  unfold fieldOf
  have w1 : Tr.word 1 = [99, 108, 105, 101, 110, 116] := rfl
  have w2 : Tr.word 2 = [117, 110, 105, 116] := rfl
  have w3 : Tr.word 3 = [102, 117, 110, 99] := rfl
  have w4 : Tr.word 4 = [97, 100, 100, 114] := rfl
  have w5 : Tr.word 5 = [118, 97, 108, 117, 101] := rfl
  have w6 : Pa.wReal = [114, 101, 97, 108] := rfl
  rw [w1, w2, w3, w4, w5, w6]
  by_cases h1 : bl T = [99, 108, 105, 101, 110, 116]
  · exact .inl ⟨by simpa using h1, if_pos h1⟩
  · refine .inr ⟨by simpa using h1, ?_⟩
    rw [if_neg h1]
    by_cases h2 : bl T = [117, 110, 105, 116]
    · exact .inl ⟨by simpa using h2, if_pos h2⟩
    · refine .inr ⟨by simpa using h2, ?_⟩
      rw [if_neg h2]
      by_cases h3 : bl T = [102, 117, 110, 99]
      · exact .inl ⟨by simpa using h3, if_pos h3⟩
      · refine .inr ⟨by simpa using h3, ?_⟩
        rw [if_neg h3]
        by_cases h4 : bl T = [97, 100, 100, 114]
        · exact .inl ⟨by simpa using h4, if_pos h4⟩
        · refine .inr ⟨by simpa using h4, ?_⟩
          rw [if_neg h4]
          by_cases h5 : bl T = [118, 97, 108, 117, 101]
          · exact .inl ⟨by simpa using h5, if_pos h5⟩
          · refine .inr ⟨by simpa using h5, ?_⟩
            rw [if_neg h5]
            by_cases h6 : bl T = [114, 101, 97, 108]
            · exact .inl ⟨by simpa using h6, if_pos h6⟩
            · exact .inr ⟨by simpa using h6, if_neg h6⟩
set_option maxHeartbeats 2000000 in
theorem field_any (T : ByteArray) (w : World) : Calls Tryz.prog 123 #[.string T] w fun e w' => e = .returned (.int .i64 (fieldOf (bl T))) ∧ w = w' := by
  obtain ⟨n, hn⟩ : ∃ n, fieldOf (bl T) = n := ⟨_, rfl⟩
  have h := field_is T n hn
  rw [hn]
  clear hn
  rcases h with ⟨h1, rfl⟩ | ⟨h1, ⟨h2, rfl⟩ | ⟨h2, ⟨h3, rfl⟩ | ⟨h3, ⟨h4, rfl⟩ | ⟨h4, ⟨h5, rfl⟩ | ⟨h5, ⟨h6, rfl⟩ | ⟨h6, rfl⟩⟩⟩⟩⟩⟩
  all_goals
    go_enter Tryz.func123, Tryz.ntmps123
    go_wp2
    go_ret
    exact ⟨rfl, rfl⟩
theorem headField_eq {s : PSt} (hf : Fine s) : headField s.toks = fieldOf (headText s.toks) := by
  obtain ⟨T, n⟩ := s
  cases T with
  | nil => rfl
  | cons t l =>
    have h1 := (hf.2.2.2.2 t (List.mem_cons_self ..)).1
    show (if t.kind = 1 then fieldOf (bl t.text) else 0) = fieldOf (bl t.text)
    by_cases hk : t.kind = 1
    · rw [if_pos hk]
    · rw [if_neg hk, h1 hk]
theorem field_range (l : List UInt8) : 0 ≤ fieldOf l ∧ fieldOf l ≤ 6 := by
  unfold fieldOf
  repeat' split
  all_goals omega
theorem RAt.inc {w : World} {b : Nat} {s : PSt} {k : Nat} (h : RAt w b s k) (hn : s.atoms < 512) : RAt (w.setCell ⟨b, 1, none⟩ (.int .i64 (s.atoms + 1))) b ⟨s.toks, s.atoms + 1⟩ k := by
  obtain ⟨A, c, ⟨h0, h1, h2⟩, ⟨f0, f1, f2⟩, hr, hc, hf⟩ := h
  refine ⟨A, c, ⟨?_, ?_, ?_⟩, ⟨?_, ?_, ?_⟩, hr.below ((Below.refl b w).setCell (Nat.le_refl _) _), hc, hf.1, hf.2.1, hn, hf.2.2.2⟩
  · exact (World.cell?_setCell_other _ _ _ _ (by simp)).trans h0
  · exact World.cell?_setCell_same _ _ _ h1
  · exact (World.cell?_setCell_other _ _ _ _ (by simp)).trans h2
  · rw [World.frozen?_setCell]; exact f0
  · rw [World.frozen?_setCell]; exact f1
  · rw [World.frozen?_setCell]; exact f2
set_option maxHeartbeats 4000000 in
theorem atom_any (k b : Nat) (s : PSt) (w : World) (h : RAt w b s k) :
    Calls Tryz.prog 117 #[.pointer (some ⟨b, 0, none⟩)] w (Out b VE (Pa.atom 512 s) k w) := by
  have hbw := h.lt
  have hsf := store_float Tryz.prog
  have HR0 := Lib.hid (h.keep ((Keep.refl w).alloc zeroE))
  have C1 := Lib.hid (text_any b s k _ HR0.out)
  have C2 := Lib.hid (fun W => field_any (hd s.toks) W)
  rw [hd_bl, ← headField_eq h.fine] at C2
  obtain ⟨x, hx⟩ : ∃ x, hd s.toks = x := ⟨_, rfl⟩
  rw [hx] at C1 C2
  obtain ⟨f, hfe⟩ : ∃ f, headField s.toks = f := ⟨_, rfl⟩
  rw [hfe] at C2
  by_cases hf0 : f = 0
  · have HE := Lib.hid (show Pa.atom 512 s = .error (lineOf s.toks, 7) by unfold Pa.atom; rw [hfe, if_pos hf0]; rfl)
    subst hf0
    clear h hx hfe
    go_enter Tryz.func117, Tryz.ntmps117
    go_wp2_with fail
    refine C1.out.mono ?_
    rintro e w1 ⟨rfl, hw⟩
    have hr1 : RAt w1 b s k := hw ▸ HR0.out
    have ho1 : Oth b (w.alloc zeroE) w1 := hw ▸ Oth.refl _ _
    have CF := Lib.hid (fault_any 7 b s k w1 hr1)
    clear hr1
    clear hw
    go_wp2_with fail
    refine (C2.out _).mono ?_
    rintro e w1' ⟨rfl, rfl⟩
    go_wp2_with fail
    refine CF.out.mono ?_
    rintro e w2 ⟨rfl, hk⟩
    go_wp2
    exact ⟨rfl, Out.err HE.out ((((Oth.refl b w).alloc _).trans ho1).keep hk)⟩
  · have d0 : (f == 0) = false := beq_eq_false_iff_ne.2 hf0
    by_cases hat : s.atoms = 512
    · have HE := Lib.hid (show Pa.atom 512 s = .error (lineOf s.toks, 9) by unfold Pa.atom; rw [hfe, if_neg hf0, if_pos hat]; rfl)
      have d1 : ((s.atoms : Int) == 512) = true := by rw [hat]; rfl
      clear h hx hfe hf0 hat
      go_enter Tryz.func117, Tryz.ntmps117
      go_wp2_with fail
      refine C1.out.mono ?_
      rintro e w1 ⟨rfl, hw⟩
      have hr1 : RAt w1 b s k := hw ▸ HR0.out
      have ho1 : Oth b (w.alloc zeroE) w1 := hw ▸ Oth.refl _ _
      obtain ⟨A, c, ⟨_, g1, _⟩, ⟨_, f1, _⟩, _⟩ := hr1
      have hr1 : RAt w1 b s k := hw ▸ HR0.out
      have CF := Lib.hid (fault_any 9 b s k w1 hr1)
      clear hr1
      clear hw
      go_wp2_with fail
      refine (C2.out _).mono ?_
      rintro e w1' ⟨rfl, rfl⟩
      go_wp2_with fail
      refine CF.out.mono ?_
      rintro e w2 ⟨rfl, hk⟩
      go_wp2
      exact ⟨rfl, Out.err HE.out ((((Oth.refl b w).alloc _).trans ho1).keep hk)⟩
    · have hlt : s.atoms < 512 := by have := h.fine.2.2.1; omega
      have HB := Lib.hid (show Pa.atom 512 s = atomOf f (Pa.adv ⟨s.toks, s.atoms + 1⟩) by unfold Pa.atom; rw [hfe, if_neg hf0, if_neg hat]; rfl)
      have hne : s.toks ≠ [] := fun e => by rw [e] at hfe; exact hf0 hfe.symm
      have d1 : ((s.atoms : Int) == 512) = false := beq_eq_false_iff_ne.2 (by omega)
      have HN := Lib.hid hne
      clear h hx hfe hf0 hat hne
      by_cases h6 : f = 6
      · have d6 : (f == 6) = true := by rw [h6]; rfl
        rw [h6] at HB
        clear h6
        go_enter Tryz.func117, Tryz.ntmps117
        go_wp2_with fail
        refine C1.out.mono ?_
        rintro e w1 ⟨rfl, hw⟩
        have hr1 : RAt w1 b s k := hw ▸ HR0.out
        have ho1 : Oth b (w.alloc zeroE) w1 := hw ▸ Oth.refl _ _
        obtain ⟨A, c, ⟨_, g1, _⟩, ⟨_, f1, _⟩, _⟩ := hr1
        have hr1 : RAt w1 b s k := hw ▸ HR0.out
        have C3 := Lib.hid (drop_any b ⟨s.toks, s.atoms + 1⟩ k _ (hr1.inc hlt) HN.out)
        have hbo := ho1.setB (p := ⟨b, 1, none⟩) rfl (.int .i64 ((s.atoms : Int) + 1))
        clear hr1 ho1
        clear hw
        go_wp2_with fail
        refine (C2.out _).mono ?_
        rintro e w1' ⟨rfl, rfl⟩
        go_wp2_with fail
        refine C3.out.mono ?_
        rintro e w3 ⟨rfl, ho3, hr3⟩
        have C4 := Lib.hid (floats_any k b _ w3 hr3)
        have hbo3 := hbo.trans ho3
        clear hr3 ho3 hbo
        go_wp2_with fail
        refine C4.out.mono ?_
        rintro e w4 hO
        obtain ⟨ho4, ⟨q, hq, rfl⟩ | ⟨a, s4, v, hq, rfl, hv, hr4⟩⟩ := hO.cases
        · have HE := Lib.hid (HB.out.trans hq)
          clear hq hO
          go_wp2
          exact ⟨rfl, Out.err HE.out (((Oth.refl b w).alloc _).trans (hbo3.trans ho4))⟩
        · obtain ⟨RA, rc, OA, oc, rfl, hx4⟩ := hv
          have HE := Lib.hid (HB.out.trans hq)
          obtain ⟨⟨c0, c1, c2, c3, c4, c5⟩, hf⟩ := box6 hbw (hbo3.trans ho4)
          have HO := Lib.hid (((Oth.refl b w).alloc zeroE).trans (hbo3.trans ho4))
          have HR := Lib.hid hr4
          have HX := Lib.hid hx4
          have hsz : w.heap.size < w3.heap.size := by have := hbo3.size; simp at this; omega
          clear hr4 hbo3 ho4 hq hO hx4
          go_wp2
          (try simp only [Exit.inBlock, Exit.then])
          refine bodyPost_ret (v := .agg #[.int .i64 (kind a), .int .i64 (field a), .slice RA (rs a).length rc, .float .f64 (lo a), .float .f64 (hi a), .slice OA (of a).length oc]) ?_ rfl (Out.mk HE.out (set6 HO.out (Nat.le_refl _) _ _ _ _ _ _) ⟨RA, rc, OA, oc, rfl, Ex.sub HX.out (sub6 _ _ _ _ _ _ hsz (by omega))⟩ (rset6 HR.out hbw _ _ _ _ _ _))
          rw [results_c rfl]
          go_simp
      · have d6 : (f == 6) = false := beq_eq_false_iff_ne.2 h6
        have HC := Lib.hid (show atomOf f (Pa.adv ⟨s.toks, s.atoms + 1⟩) = bnd (sep Pa.range [44] (Pa.adv ⟨s.toks, s.atoms + 1⟩)) fun r s2 => .ok (.mk 1 f r 0 0 [], s2) from if_neg h6)
        have hmf : ∀ (fn : Fn) (first cap : Array Value) (w : World), (Instr.makeFunc fn first cap).run Tryz.prog w = .ok (.func fn first cap) w := fun _ _ _ _ => rfl
        clear h6
        go_enter Tryz.func117, Tryz.ntmps117
        go_wp2_with fail
        refine C1.out.mono ?_
        rintro e w1 ⟨rfl, hw⟩
        have hr1 : RAt w1 b s k := hw ▸ HR0.out
        have ho1 : Oth b (w.alloc zeroE) w1 := hw ▸ Oth.refl _ _
        obtain ⟨A, c, ⟨_, g1, _⟩, ⟨_, f1, _⟩, _⟩ := hr1
        have hr1 : RAt w1 b s k := hw ▸ HR0.out
        have C3 := Lib.hid (drop_any b ⟨s.toks, s.atoms + 1⟩ k _ (hr1.inc hlt) HN.out)
        have hbo := ho1.setB (p := ⟨b, 1, none⟩) rfl (.int .i64 ((s.atoms : Int) + 1))
        clear hr1 ho1
        clear hw
        go_wp2_with fail
        refine (C2.out _).mono ?_
        rintro e w1' ⟨rfl, rfl⟩
        go_wp2_with fail
        refine C3.out.mono ?_
        rintro e w3 ⟨rfl, ho3, hr3⟩
        have C4 := Lib.hid (sevR_any 126 (fun args w => by kernel_rfl) Pa.range range_down k b (fun s w h => span_any k b s w h) ⟨#[44]⟩ wd_comma _ w3 hr3)
        have hbo3 := hbo.trans ho3
        have hsz : w.heap.size < w3.heap.size := by have := hbo3.size; simp at this; omega
        clear hr3 ho3 hbo
        go_wp2_with fail
        refine C4.out.mono ?_
        rintro e w4 hO
        obtain ⟨ho4, ⟨q, hq, rfl⟩ | ⟨a, s4, v, hq, rfl, hv, hr4⟩⟩ := hO.cases
        · have HE := Lib.hid (show Pa.atom 512 s = .error q by rw [HB.out, HC.out, show sep Pa.range [44] _ = .error q from hq]; rfl)
          clear hq hO
          go_wp2
          exact ⟨rfl, Out.err HE.out (((Oth.refl b w).alloc _).trans (hbo3.trans ho4))⟩
        · obtain ⟨RA, rc, rfl, hx4⟩ := hv
          have HE := Lib.hid (show Pa.atom 512 s = .ok (.mk 1 f a 0 0 [], s4) by rw [HB.out, HC.out, show sep Pa.range [44] _ = _ from hq]; rfl)
          obtain ⟨⟨c0, c1, c2, c3, c4, c5⟩, hf⟩ := box6 hbw (hbo3.trans ho4)
          have HO := Lib.hid (((Oth.refl b w).alloc zeroE).trans (hbo3.trans ho4))
          have HR := Lib.hid hr4
          have HX := Lib.hid hx4
          clear hr4 hbo3 ho4 hq hO hx4
          go_wp2
          (try simp only [Exit.inBlock, Exit.then])
          refine bodyPost_ret (v := .agg #[.int .i64 1, .int .i64 f, .slice RA a.length rc, .float .f64 0, .float .f64 0, .slice none 0 0]) ?_ rfl (Out.mk HE.out (set6 HO.out (Nat.le_refl _) _ _ _ _ _ _) ⟨RA, rc, none, 0, rfl, row_sub HX.out (sub6 _ _ _ _ _ _ hsz (by omega)), fun h => absurd h (by simp [Tr.of])⟩ (rset6 HR.out hbw _ _ _ _ _ _))
          rw [results_c rfl]
          go_simp
end Go.Proofs.YtmcgflpgkkophaaGreatDoor.Pm
/- The developers' parser: parts, ands and expressions, in memory. Conditions: what is left may be read. -/
namespace Go.Proofs.YtmcgflpgkkophaaGreatDoor.Pm
set_option linter.unusedVariables false
open Go.ChangeShapes Go.WideShapes Go.ChangeAt Go.RowKit
open Pa Tr
open Ref10 (encT encT_len)
theorem run_func (fn : Fn) (first cap : Array Value) (w : World) : (Instr.makeFunc fn first cap).run Tryz.prog w = .ok (.func fn first cap) w := rfl
set_option maxHeartbeats 2000000 in
theorem joined_any (kk : Int) (A : Option Addr) (c : Nat) (l : List ExprP) (B : Nat) (W : World) (hn : l ≠ []) (h : Exs (er B W) A l) :
    Calls Tryz.prog 94 #[.int .i64 kk, .slice A l.length c] W fun e w' => ∃ v, e = .returned v ∧ VE (er B w') (Pa.one kk l) v ∧ Keep W w' := by
  have hsf := store_float Tryz.prog
  match l, hn with
  | [x], _ =>
    obtain ⟨g, off, rfl, hb⟩ := h.addr (by simp)
    obtain ⟨_, RA, OA, rc, oc, ⟨c0, c1, c2, c3, c4, c5⟩, hx⟩ := h.elem 0 (by simp)
    rw [show ([x].getD 0 zero) = x from rfl, Nat.zero_mul, Nat.add_zero] at c0 c1 c2 c3 c4 c5
    rw [show ([x].getD 0 zero) = x from rfl] at hx
    rw [er_size] at hb
    have hk := fun O => ((Keep.refl W).alloc O)
    have k0 : ∀ O, (W.alloc O).cell? ⟨g, off, none⟩ = _ := fun O => (Below.cell (hk O) hb).trans (er_cell c0).2
    have k1 : ∀ O, (W.alloc O).cell? ⟨g, off + 1, none⟩ = _ := fun O => (Below.cell (hk O) hb).trans (er_cell c1).2
    have k2 : ∀ O, (W.alloc O).cell? ⟨g, off + 2, none⟩ = _ := fun O => (Below.cell (hk O) hb).trans (er_cell c2).2
    have k3 : ∀ O, (W.alloc O).cell? ⟨g, off + 3, none⟩ = _ := fun O => (Below.cell (hk O) hb).trans (er_cell c3).2
    have k4 : ∀ O, (W.alloc O).cell? ⟨g, off + 4, none⟩ = _ := fun O => (Below.cell (hk O) hb).trans (er_cell c4).2
    have k5 : ∀ O, (W.alloc O).cell? ⟨g, off + 5, none⟩ = _ := fun O => (Below.cell (hk O) hb).trans (er_cell c5).2
    have HX := Lib.hid hx
    have hne : g ≠ W.heap.size := by omega
    clear h hk c0 c1 c2 c3 c4 c5 hx hb
    go_enter Tryz.func94, Tryz.ntmps94
    go_wp2
    (try simp only [Exit.inBlock, Exit.then])
    refine bodyPost_ret (v := .agg #[.int .i64 (kind x), .int .i64 (field x), .slice RA (rs x).length rc, .float .f64 (lo x), .float .f64 (hi x), .slice OA (of x).length oc]) ?_ rfl ⟨_, rfl, ⟨RA, rc, OA, oc, rfl, Ex.sub HX.out (er_keep ?_)⟩, ?_⟩
    · rw [results_c rfl]
      go_simp
    all_goals
      show Below W.heap.size W _
      repeat' (first | exact Below.refl _ _ | with_reducible refine Below.setCell ?_ ?_ _ | with_reducible refine Below.alloc ?_ ?_ _ | exact Nat.le_refl _ | (simp; done))
  | x :: y :: l, _ =>
    have HX := Lib.hid h
    have HL := Lib.hid (show (x :: y :: l).length = l.length + 2 from rfl)
    have d : (((l.length : Int) + 1 + 1) == 1) = false := beq_eq_false_iff_ne.2 (by omega)
    clear h
    go_enter Tryz.func94, Tryz.ntmps94
    go_wp2
    (try simp only [Exit.inBlock, Exit.then])
    refine bodyPost_ret (v := .agg #[.int .i64 kk, .int .i64 0, .slice none 0 0, .float .f64 0, .float .f64 0, .slice A (x :: y :: l).length c]) ?_ rfl ⟨_, rfl, ⟨none, 0, A, c, rfl, Row.none_ _ _ _, Exs.sub HX.out (er_keep ?_)⟩, ?_⟩
    · rw [results_c rfl]
      go_simp
    all_goals
      show Below W.heap.size W _
      repeat' (first | exact Below.refl _ _ | with_reducible refine Below.setCell ?_ ?_ _ | with_reducible refine Below.alloc ?_ ?_ _ | exact Nat.le_refl _ | (simp; done))
theorem sep_ne {α : Type} {R : Rd α} (hR : Down R) {T : List UInt8} {s s' : PSt} {l : List α} (h : sep R T s = .ok (l, s')) : l ≠ [] := by
  rw [sep_more hR] at h
  obtain ⟨a, s1, _, h2⟩ := bnd_out h
  cases hm : more R T s1 with
  | error q => rw [hm] at h2; cases h2
  | ok y => obtain ⟨l', s''⟩ := y; rw [hm] at h2; cases h2; simp
theorem wd_or : Wd ⟨#[111, 114]⟩ := ⟨by decide, by decide⟩
theorem wd_and : Wd ⟨#[97, 110, 100]⟩ := ⟨by decide, by decide⟩
theorem wd_not : Wd ⟨#[110, 111, 116]⟩ := ⟨by decide, by decide⟩
theorem wd_open : Wd ⟨#[40]⟩ := ⟨by decide, by decide⟩
theorem wd_close : Wd ⟨#[41]⟩ := ⟨by decide, by decide⟩
/-- A function of the parser's that reads so, where so many are open. -/
def Reads (g : Nat) (R : Rd ExprP) (k : Nat) : Prop := ∀ (b : Nat) (s : PSt) (w : World), RAt w b s k → Calls Tryz.prog g #[.pointer (some ⟨b, 0, none⟩)] w (Out b VE (R s) k w)
set_option maxHeartbeats 4000000 in
theorem and_any (R : Rd ExprP) (hD : Down R) (k : Nat) (hR : Reads 109 R k) : Reads 96 (lst 3 R Pa.wAnd) k := by
  intro b s w h
  have hbw := h.lt
  have hsf := store_float Tryz.prog
  have hmf := run_func
  have C1 := Lib.hid (sevE_any 109 (fun args w => by kernel_rfl) R hD k b (fun s w h => hR b s w h) ⟨#[97, 110, 100]⟩ wd_and s _ (h.keep ((Keep.refl w).alloc zeroE)))
  have HN := Lib.hid (fun l s' e => sep_ne hD (T := Pa.wAnd) (s := s) (s' := s') (l := l) e)
  have HD := Lib.hid hD
  have HR := Lib.hid hR
  clear h hD hR
  go_enter Tryz.func96, Tryz.ntmps96
  go_wp2_with fail
  refine C1.out.mono ?_
  rintro e w1 hO
  obtain ⟨ho, ⟨q, hq, rfl⟩ | ⟨l, s1, v, hq, rfl, hv, hr⟩⟩ := hO.cases
  · have HE := Lib.hid (show lst 3 R Pa.wAnd s = .error q by unfold lst; rw [show Pa.sep R Pa.wAnd s = .error q from hq]; rfl)
    clear hq hO
    go_wp2
    exact ⟨rfl, Out.err HE.out (((Oth.refl b w).alloc _).trans ho)⟩
  · obtain ⟨A, c, rfl, hx⟩ := hv
    have HE := Lib.hid (show lst 3 R Pa.wAnd s = .ok (one 3 l, s1) by unfold lst; rw [show Pa.sep R Pa.wAnd s = _ from hq]; rfl)
    have C2 := Lib.hid (joined_any 3 A c l _ w1 (HN.out l s1 hq) hx)
    clear hq hO hx
    go_wp2_with fail
    refine C2.out.mono ?_
    rintro e w2 ⟨v, rfl, ⟨RA, rc, OA, oc, rfl, hx⟩, hk⟩
    have ho2 := ho.keep hk
    obtain ⟨⟨c0, c1, c2, c3, c4, c5⟩, hf⟩ := box6 hbw ho2
    have HO := Lib.hid (((Oth.refl b w).alloc zeroE).trans ho2)
    have HR := Lib.hid (hr.keep hk)
    have HX := Lib.hid hx
    obtain ⟨x, hxe⟩ : ∃ x, one 3 l = x := ⟨_, rfl⟩
    rw [hxe] at HE HX
    rw [hxe]
    clear hr ho ho2 hk hx hxe
    go_wp2
    (try simp only [Exit.inBlock, Exit.then])
    refine bodyPost_ret (v := .agg #[.int .i64 (kind x), .int .i64 (field x), .slice RA (rs x).length rc, .float .f64 (lo x), .float .f64 (hi x), .slice OA (of x).length oc]) ?_ rfl (Out.mk HE.out (set6 HO.out (Nat.le_refl _) _ _ _ _ _ _) ⟨RA, rc, OA, oc, rfl, Ex.sub HX.out (sub6 _ _ _ _ _ _ (by simp) (by simp))⟩ (rset6 HR.out hbw _ _ _ _ _ _))
    rw [results_c rfl]
    go_simp
set_option maxHeartbeats 4000000 in
theorem expr_any (R : Rd ExprP) (hD : Down R) (k : Nat) (hR : Reads 96 R k) : Reads 76 (lst 4 R Pa.wOr) k := by
  intro b s w h
  have hbw := h.lt
  have hsf := store_float Tryz.prog
  have hmf := run_func
  have C1 := Lib.hid (sevE_any 96 (fun args w => by kernel_rfl) R hD k b (fun s w h => hR b s w h) ⟨#[111, 114]⟩ wd_or s _ (h.keep ((Keep.refl w).alloc zeroE)))
  have HN := Lib.hid (fun l s' e => sep_ne hD (T := Pa.wOr) (s := s) (s' := s') (l := l) e)
  have HD := Lib.hid hD
  have HR := Lib.hid hR
  clear h hD hR
  go_enter Tryz.func76, Tryz.ntmps76
  go_wp2_with fail
  refine C1.out.mono ?_
  rintro e w1 hO
  obtain ⟨ho, ⟨q, hq, rfl⟩ | ⟨l, s1, v, hq, rfl, hv, hr⟩⟩ := hO.cases
  · have HE := Lib.hid (show lst 4 R Pa.wOr s = .error q by unfold lst; rw [show Pa.sep R Pa.wOr s = .error q from hq]; rfl)
    clear hq hO
    go_wp2
    exact ⟨rfl, Out.err HE.out (((Oth.refl b w).alloc _).trans ho)⟩
  · obtain ⟨A, c, rfl, hx⟩ := hv
    have HE := Lib.hid (show lst 4 R Pa.wOr s = .ok (one 4 l, s1) by unfold lst; rw [show Pa.sep R Pa.wOr s = _ from hq]; rfl)
    have C2 := Lib.hid (joined_any 4 A c l _ w1 (HN.out l s1 hq) hx)
    clear hq hO hx
    go_wp2_with fail
    refine C2.out.mono ?_
    rintro e w2 ⟨v, rfl, ⟨RA, rc, OA, oc, rfl, hx⟩, hk⟩
    have ho2 := ho.keep hk
    obtain ⟨⟨c0, c1, c2, c3, c4, c5⟩, hf⟩ := box6 hbw ho2
    have HO := Lib.hid (((Oth.refl b w).alloc zeroE).trans ho2)
    have HR := Lib.hid (hr.keep hk)
    have HX := Lib.hid hx
    obtain ⟨x, hxe⟩ : ∃ x, one 4 l = x := ⟨_, rfl⟩
    rw [hxe] at HE HX
    rw [hxe]
    clear hr ho ho2 hk hx hxe
    go_wp2
    (try simp only [Exit.inBlock, Exit.then])
    refine bodyPost_ret (v := .agg #[.int .i64 (kind x), .int .i64 (field x), .slice RA (rs x).length rc, .float .f64 (lo x), .float .f64 (hi x), .slice OA (of x).length oc]) ?_ rfl (Out.mk HE.out (set6 HO.out (Nat.le_refl _) _ _ _ _ _ _) ⟨RA, rc, OA, oc, rfl, Ex.sub HX.out (sub6 _ _ _ _ _ _ (by simp) (by simp))⟩ (rset6 HR.out hbw _ _ _ _ _ _))
    rw [results_c rfl]
    go_simp
/-- An expression of one alone, as values. -/
theorem VE_not {B : Nat} {W w1 : World} {e : ExprP} {RA OA : Option Addr} {rc oc : Nat} (hx : Ex (er (W.heap.size + 1) w1) e RA OA) (h1 : W.heap.size + 1 ≤ w1.heap.size) (v0 v1 v2 v3 v4 v5 : Value) :
    VE (er W.heap.size (((((((w1.alloc (.cells #[.int .i64 (kind e), .int .i64 (field e), .slice RA (rs e).length rc, .float .f64 (lo e), .float .f64 (hi e), .slice OA (of e).length oc] 32)).setCell ⟨W.heap.size, 0, none⟩ v0).setCell ⟨W.heap.size, 1, none⟩ v1).setCell ⟨W.heap.size, 2, none⟩ v2).setCell ⟨W.heap.size, 3, none⟩ v3).setCell ⟨W.heap.size, 4, none⟩ v4).setCell ⟨W.heap.size, 5, none⟩ v5))
      (.mk 2 0 [] 0 0 [e]) (.agg #[.int .i64 2, .int .i64 0, .slice none 0 0, .float .f64 0, .float .f64 0, .slice (some ⟨w1.heap.size, 0, none⟩) 1 1]) := by
  refine ⟨none, 0, some ⟨w1.heap.size, 0, none⟩, 1, rfl, Row.none_ _ _ _, ?_⟩
  have hown := own_er (own_new w1 (W.heap.size + 1) h1 32 6 #[.int .i64 (kind e), .int .i64 (field e), .slice RA (rs e).length rc, .float .f64 (lo e), .float .f64 (hi e), .slice OA (of e).length oc] 1 rfl (by unfold maxLen; omega))
  have hrow := Row.of_own (enc := encE) (zs := [⟨e, RA, rc, OA, oc⟩]) encE_len hown (by omega)
  have := exs_of hrow (fun x hx' => by rw [List.mem_singleton] at hx'; subst hx'; exact Ex.sub hx (er_keep ((Keep.refl w1).alloc _)))
  exact Exs.sub this (sub6 _ _ _ _ _ _ (by omega) (by omega))
set_option maxHeartbeats 4000000 in
theorem negated_any (R : Rd ExprP) (k : Nat) (hR : Reads 109 R k) : Reads 115 (fun s => bnd (R s) fun e s' => .ok (.mk 2 0 [] 0 0 [e], s')) k := by
  intro b s w h
  have hbw := h.lt
  have hsf := store_float Tryz.prog
  have C1 := Lib.hid (hR b s _ (h.keep ((Keep.refl w).alloc zeroE)))
  clear h hR
  go_enter Tryz.func115, Tryz.ntmps115
  go_wp2_with fail
  refine C1.out.mono ?_
  rintro e w1 hO
  obtain ⟨ho, ⟨q, hq, rfl⟩ | ⟨a, s1, v, hq, rfl, hv, hr⟩⟩ := hO.cases
  · have HE := Lib.hid (show (bnd (R s) fun e s' => (.ok (.mk 2 0 [] 0 0 [e], s') : Except (Int × Int) (ExprP × PSt))) = .error q by rw [hq]; rfl)
    clear hq hO
    go_wp2
    exact ⟨rfl, Out.err HE.out (((Oth.refl b w).alloc _).trans ho)⟩
  · obtain ⟨RA, rc, OA, oc, rfl, hx⟩ := hv
    have HE := Lib.hid (show (bnd (R s) fun e s' => (.ok (.mk 2 0 [] 0 0 [e], s') : Except (Int × Int) (ExprP × PSt))) = .ok (.mk 2 0 [] 0 0 [a], s1) by rw [hq]; rfl)
    have hoa := ho.alloc (.cells #[.int .i64 (kind a), .int .i64 (field a), .slice RA (rs a).length rc, .float .f64 (lo a), .float .f64 (hi a), .slice OA (of a).length oc] 32)
    obtain ⟨⟨c0, c1, c2, c3, c4, c5⟩, hf⟩ := box6 hbw hoa
    have HO := Lib.hid (((Oth.refl b w).alloc zeroE).trans hoa)
    have HR := Lib.hid (hr.keep ((Keep.refl w1).alloc (.cells #[.int .i64 (kind a), .int .i64 (field a), .slice RA (rs a).length rc, .float .f64 (lo a), .float .f64 (hi a), .slice OA (of a).length oc] 32)))
    have HX := Lib.hid hx
    have hsz : w.heap.size + 1 ≤ w1.heap.size := by have := ho.size; simp at this; omega
    have hne : w1.heap.size ≠ w.heap.size := by omega
    clear hr ho hoa hq hO hx
    go_wp2
    (try simp only [Exit.inBlock, Exit.then])
    refine bodyPost_ret (v := .agg #[.int .i64 2, .int .i64 0, .slice none 0 0, .float .f64 0, .float .f64 0, .slice (some ⟨w1.heap.size, 0, none⟩) 1 1]) ?_ rfl (Out.mk HE.out ?_ (VE_not (B := 0) (RA := RA) (rc := rc) (OA := OA) (oc := oc) (by simpa using HX.out) hsz _ _ _ _ _ _) ?_)
    · rw [results_c rfl]
      go_simp
    · exact set6 HO.out (Nat.le_refl _) _ _ _ _ _ _
    · exact rset6 HR.out hbw _ _ _ _ _ _
/-- Six cells of a box that was just made stand behind a call. -/
theorem cells6_at {b : Nat} {w1 w2 : World} {v0 v1 v2 v3 v4 v5 : Value} (hb : b < w1.heap.size) (h : Oth b (w1.alloc (.cells #[v0, v1, v2, v3, v4, v5] 32)) w2) :
    w2.cell? ⟨w1.heap.size, 0, none⟩ = some v0 ∧ w2.cell? ⟨w1.heap.size, 1, none⟩ = some v1 ∧ w2.cell? ⟨w1.heap.size, 2, none⟩ = some v2 ∧ w2.cell? ⟨w1.heap.size, 3, none⟩ = some v3 ∧ w2.cell? ⟨w1.heap.size, 4, none⟩ = some v4 ∧ w2.cell? ⟨w1.heap.size, 5, none⟩ = some v5 := by
  have hne : w1.heap.size ≠ b := by omega
  refine ⟨?_, ?_, ?_, ?_, ?_, ?_⟩
  all_goals exact (h.cell (by simp) hne).trans (by go_simp)
set_option maxHeartbeats 4000000 in
theorem bracketed_any (R : Rd ExprP) (k : Nat) (hR : Reads 76 R k) : Reads 116 (fun s => bnd (R s) fun e s1 => bnd (mustR [41] s1) fun _ s2 => .ok (e, s2)) k := by
  intro b s w h
  have hbw := h.lt
  have hsf := store_float Tryz.prog
  have C1 := Lib.hid (hR b s _ (h.keep ((Keep.refl w).alloc zeroE)))
  obtain ⟨Z, hZ⟩ : ∃ Z, (bnd (R s) fun e s1 => bnd (mustR [41] s1) fun _ s2 => (.ok (e, s2) : Except (Int × Int) (ExprP × PSt))) = Z := ⟨_, rfl⟩
  show Calls _ _ _ _ (Out b VE (bnd (R s) fun e s1 => bnd (mustR [41] s1) fun _ s2 => (.ok (e, s2) : Except (Int × Int) (ExprP × PSt))) k w)
  rw [hZ]
  have HZ := Lib.hid hZ
  clear h hR hZ
  go_enter Tryz.func116, Tryz.ntmps116
  go_wp2_with fail
  refine C1.out.mono ?_
  rintro e w1 hO
  obtain ⟨ho, ⟨q, hq, rfl⟩ | ⟨a, s1, v, hq, rfl, hv, hr⟩⟩ := hO.cases
  · have HE := Lib.hid (show Z = .error q by rw [← HZ.out, hq]; rfl)
    clear hq hO
    go_wp2
    exact ⟨rfl, Out.err HE.out (((Oth.refl b w).alloc _).trans ho)⟩
  · obtain ⟨RA, rc, OA, oc, rfl, hx⟩ := hv
    rw [hq, bnd_ok] at HZ
    have hoa := ho.alloc (.cells #[.int .i64 (kind a), .int .i64 (field a), .slice RA (rs a).length rc, .float .f64 (lo a), .float .f64 (hi a), .slice OA (of a).length oc] 32)
    have hra := hr.keep ((Keep.refl w1).alloc (.cells #[.int .i64 (kind a), .int .i64 (field a), .slice RA (rs a).length rc, .float .f64 (lo a), .float .f64 (hi a), .slice OA (of a).length oc] 32))
    have C2 := Lib.hid (must_any ⟨#[41]⟩ wd_close b s1 k _ hra)
    have HX := Lib.hid hx
    have hsz : w.heap.size + 1 ≤ w1.heap.size := by have := ho.size; simp at this; omega
    have hb1 := hr.lt
    have HK := Lib.hid ((Keep.refl w1).alloc (.cells #[.int .i64 (kind a), .int .i64 (field a), .slice RA (rs a).length rc, .float .f64 (lo a), .float .f64 (hi a), .slice OA (of a).length oc] 32))
    clear hr ho hq hO hx hra
    go_wp2_with fail
    refine C2.out.mono ?_
    rintro e w2 hO
    obtain ⟨ho2, ⟨q, hq2, rfl⟩ | ⟨_, s2, v, hq2, rfl, rfl, hr2⟩⟩ := hO.cases
    · have HE := Lib.hid (show Z = .error q by rw [← HZ.out, show mustR [41] s1 = .error q from hq2]; rfl)
      clear hq2 hO
      go_wp2
      exact ⟨rfl, Out.err HE.out (((Oth.refl b w).alloc _).trans (hoa.trans ho2))⟩
    · have HE := Lib.hid (show Z = .ok (a, s2) by rw [← HZ.out, show mustR [41] s1 = _ from hq2]; rfl)
      obtain ⟨⟨c0, c1, c2, c3, c4, c5⟩, hf⟩ := box6 hbw (hoa.trans ho2)
      obtain ⟨g0, g1, g2, g3, g4, g5⟩ := cells6_at hb1 ho2
      have HO := Lib.hid (((Oth.refl b w).alloc zeroE).trans (hoa.trans ho2))
      have HR := Lib.hid hr2
      have HX2 := Lib.hid (Ex.sub (Ex.sub HX.out (er_keep HK.out)) (ho2.sub (by simp; omega)))
      have hne : w1.heap.size ≠ w.heap.size := by omega
      clear hr2 ho2 hoa hq2 hO
      go_wp2
      (try simp only [Exit.inBlock, Exit.then])
      refine bodyPost_ret (v := .agg #[.int .i64 (kind a), .int .i64 (field a), .slice RA (rs a).length rc, .float .f64 (lo a), .float .f64 (hi a), .slice OA (of a).length oc]) ?_ rfl (Out.mk HE.out (set6 HO.out (Nat.le_refl _) _ _ _ _ _ _) ⟨RA, rc, OA, oc, rfl, Ex.sub HX2.out (sub6 _ _ _ _ _ _ (by simp) (by simp))⟩ (rset6 HR.out hbw _ _ _ _ _ _))
      rw [results_c rfl]
      go_simp
theorem RAt.open {w : World} {b : Nat} {s : PSt} {k : Nat} (h : RAt w b s k) (k' : Nat) : RAt (w.setCell ⟨b, 2, Option.none⟩ (.int .i64 k')) b s k' := by
  obtain ⟨A, c, ⟨h0, h1, h2⟩, ⟨f0, f1, f2⟩, hr, hc, hf⟩ := h
  refine ⟨A, c, ⟨?_, ?_, ?_⟩, ⟨?_, ?_, ?_⟩, hr.below ((Below.refl b w).setCell (Nat.le_refl _) _), hc, hf⟩
  · exact (World.cell?_setCell_other _ _ _ _ (by simp)).trans h0
  · exact (World.cell?_setCell_other _ _ _ _ (by simp)).trans h1
  · exact World.cell?_setCell_same _ _ _ h2
  · rw [World.frozen?_setCell]; exact f0
  · rw [World.frozen?_setCell]; exact f1
  · rw [World.frozen?_setCell]; exact f2
set_option maxHeartbeats 4000000 in
theorem within_full (g : Nat) (b : Nat) (s : PSt) (w : World) (h : RAt w b s 16) :
    Calls Tryz.prog 114 #[.pointer (some ⟨b, 0, none⟩), .func (.func g) #[.pointer (some ⟨b, 0, none⟩)] #[]] w (Out b VE (failAt 8 s) 16 w) := by
  have hr := h.keep ((Keep.refl w).alloc zeroE)
  have CF := Lib.hid (fault_any 8 b s 16 _ hr)
  have HO := Lib.hid ((Oth.refl b w).alloc zeroE)
  have g2 : (w.alloc (.cells #[.int .i64 0, .int .i64 0, .slice none 0 0, .float .f64 0, .float .f64 0, .slice none 0 0] 32)).cell? ⟨b, 2, none⟩ = some (.int .i64 16) := by obtain ⟨_, _, ⟨_, _, g⟩, _⟩ := hr; exact g
  have hb : b < w.heap.size := h.lt
  have g2' : w.cell? ⟨b, 2, none⟩ = some (.int .i64 16) := by obtain ⟨_, _, ⟨_, _, g⟩, _⟩ := h; exact g
  have HE := Lib.hid (show (failAt 8 s : Except (Int × Int) (ExprP × PSt)) = .error (lineOf s.toks, 8) from rfl)
  clear h hr
  go_enter Tryz.func114, Tryz.ntmps114
  go_wp2_with fail
  refine CF.out.mono ?_
  rintro e w2 ⟨rfl, hk⟩
  go_wp2
  exact ⟨rfl, Out.err HE.out (HO.out.keep hk)⟩
set_option maxHeartbeats 4000000 in
theorem within_any (g : Nat) (eg : ∀ args w, (callFunc g args).run Tryz.prog w = .ok (.enter g args) w) (R : Rd ExprP) (k b : Nat) (hk : k < 16)
    (hR : ∀ s w, RAt w b s (k + 1) → Calls Tryz.prog g #[.pointer (some ⟨b, 0, none⟩)] w (Out b VE (R s) (k + 1) w)) (s : PSt) (w : World) (h : RAt w b s k) (hn : s.toks ≠ []) :
    Calls Tryz.prog 114 #[.pointer (some ⟨b, 0, none⟩), .func (.func g) #[.pointer (some ⟨b, 0, none⟩)] #[]] w (Out b VE (R (Pa.adv s)) k w) := by
  have hbw := h.lt
  have hsf := store_float Tryz.prog
  have hr := h.keep ((Keep.refl w).alloc zeroE)
  have C1 := Lib.hid (drop_any b s k _ hr hn)
  have g2' : w.cell? ⟨b, 2, none⟩ = some (.int .i64 k) := by obtain ⟨_, _, ⟨_, _, g⟩, _⟩ := h; exact g
  have hb : b < w.heap.size := hbw
  have d16 : ((k : Int) == 16) = false := beq_eq_false_iff_ne.2 (by omega)
  have HR := Lib.hid hR
  clear h hr hR hn
  go_enter Tryz.func114, Tryz.ntmps114
  go_wp2_with fail
  refine C1.out.mono ?_
  rintro e w2 ⟨rfl, ho2, hr2⟩
  have C3 := HR.out (Pa.adv s) _ (hr2.open (k + 1))
  rw [show (((k + 1 : Nat) : Nat) : Int) = (k : Int) + 1 by omega] at C3
  replace C3 := Lib.hid C3
  have g2 : w2.cell? ⟨b, 2, none⟩ = some (.int .i64 k) := by obtain ⟨_, _, ⟨_, _, g⟩, _⟩ := hr2; exact g
  have f2 : w2.frozen? ⟨b, 2, none⟩ = false := by obtain ⟨_, _, _, ⟨_, _, f⟩, _⟩ := hr2; exact f
  have ho3 := ho2.setB (p := ⟨b, 2, none⟩) rfl (.int .i64 ((k : Int) + 1))
  have hb2 := hr2.lt
  clear g2' hr2 ho2
  go_wp2_with fail
  refine C3.out.mono ?_
  rintro e w4 hO
  obtain ⟨ho4, ⟨q, hq, rfl⟩ | ⟨a, s4, v, hq, rfl, hv, hr4⟩⟩ := hO.cases
  · have HE := Lib.hid hq
    clear hq hO
    go_wp2
    exact ⟨rfl, Out.err HE.out (((Oth.refl b w).alloc _).trans (ho3.trans ho4))⟩
  · obtain ⟨RA, rc, OA, oc, rfl, hx⟩ := hv
    have HE := Lib.hid hq
    have hoa := ho3.trans ho4
    obtain ⟨⟨c0, c1, c2, c3, c4, c5⟩, hf⟩ := box6 hbw hoa
    have e2 : w4.cell? ⟨b, 2, none⟩ = some (.int .i64 ((k : Int) + 1)) := by
      obtain ⟨_, _, ⟨_, _, g⟩, _⟩ := hr4
      rw [show (((k + 1 : Nat) : Nat) : Int) = (k : Int) + 1 by omega] at g
      exact g
    have f4 : w4.frozen? ⟨b, 2, none⟩ = false := by obtain ⟨_, _, _, ⟨_, _, f⟩, _⟩ := hr4; exact f
    have hb4 := hr4.lt
    have hsz : w.heap.size < w4.heap.size := by have := hoa.size; simp at this; omega
    have hn0 : w.heap.size ≠ b := by omega
    have HO := Lib.hid (((Oth.refl b w).alloc zeroE).trans hoa)
    have HR4 := Lib.hid hr4
    have HX := Lib.hid hx
    have HS := Lib.hid ho3.size
    clear hr4 ho4 hoa ho3 hq hO hx
    go_wp2
    (try simp only [Exit.inBlock, Exit.then])
    refine bodyPost_ret (v := .agg #[.int .i64 (kind a), .int .i64 (field a), .slice RA (rs a).length rc, .float .f64 (lo a), .float .f64 (hi a), .slice OA (of a).length oc]) ?_ rfl (Out.mk HE.out ?_ ⟨RA, rc, OA, oc, rfl, ?_⟩ ?_)
    · rw [results_c rfl]
      go_simp
    · exact (set6 (HO.out.setB rfl _) (Nat.le_refl _) _ _ _ _ _ _).alloc _
    · have hs := HS.out
      simp at hs
      refine Ex.sub (Ex.sub (Ex.sub HX.out (((Oth.refl b w4).setB (p := ⟨b, 2, none⟩) rfl (.int .i64 k)).sub (by simp [World.setCell]; omega))) (sub6 (g := w.heap.size) (B' := w.heap.size) _ _ _ _ _ _ ?_ ?_)) (er_keep ((Keep.refl _).alloc _))
      · simp [World.setCell]; omega
      · simp [World.setCell]; omega
    · exact (rset6 (HR4.out.open k) hbw _ _ _ _ _ _).keep ((Keep.refl _).alloc _)
set_option maxHeartbeats 4000000 in
theorem part_not (X : Except (Int × Int) (ExprP × PSt)) (k b : Nat) (s : PSt) (hX : ∀ w, RAt w b s k → Calls Tryz.prog 114 #[.pointer (some ⟨b, 0, none⟩), .func (.func 115) #[.pointer (some ⟨b, 0, none⟩)] #[]] w (Out b VE X k w)) (hw1 : isW Pa.wNot s.toks = true) (w : World) (h : RAt w b s k) :
    Calls Tryz.prog 109 #[.pointer (some ⟨b, 0, none⟩)] w (Out b VE X k w) := by
  have hbw := h.lt
  have hsf := store_float Tryz.prog
  have hmf := run_func
  have HR0 := Lib.hid (h.keep ((Keep.refl w).alloc zeroE))
  have C1 := Lib.hid (text_any b s k _ HR0.out)
  have t1 : ((hd s.toks).toList == [110, 111, 116]) = isW Pa.wNot s.toks := hd_lit h.fine.1 wd_not
  have t2 : ((hd s.toks).toList == [40]) = isW [40] s.toks := hd_lit h.fine.1 wd_open
  obtain ⟨x, hx⟩ : ∃ x, hd s.toks = x := ⟨_, rfl⟩
  rw [hx] at C1 t1 t2
  rw [hw1] at t1
  have HX := Lib.hid hX
  clear h hx hX hw1
  go_enter Tryz.func109, Tryz.ntmps109
  go_wp2_with fail
  refine C1.out.mono ?_
  rintro e w1 ⟨rfl, hw⟩
  have hr1 : RAt w1 b s k := hw ▸ HR0.out
  have ho1 : Oth b (w.alloc zeroE) w1 := hw ▸ Oth.refl _ _
  have hz1 : w1.heap.size = w.heap.size + 1 := by rw [← hw]; simp
  have C2 := Lib.hid (HX.out w1 hr1)
  have HZ1 := Lib.hid hz1
  clear hw hr1 hz1
  go_wp2_with fail
  refine C2.out.mono ?_
  rintro e w2 hO
  obtain ⟨ho2, ⟨q, hq, rfl⟩ | ⟨a, s4, v, hq, rfl, hv, hr4⟩⟩ := hO.cases
  · have HE := Lib.hid hq
    clear hq hO
    go_wp2
    exact ⟨rfl, Out.err HE.out (((Oth.refl b w).alloc _).trans (ho1.trans ho2))⟩
  · obtain ⟨RA, rc, OA, oc, rfl, hx4⟩ := hv
    have HE := Lib.hid hq
    obtain ⟨⟨c0, c1, c2, c3, c4, c5⟩, hf⟩ := box6 hbw (ho1.trans ho2)
    have HO := Lib.hid (((Oth.refl b w).alloc zeroE).trans (ho1.trans ho2))
    have HR := Lib.hid hr4
    have HX4 := Lib.hid hx4
    clear hr4 ho1 ho2 hq hO hx4
    go_wp2
    (try simp only [Exit.inBlock, Exit.then])
    refine bodyPost_ret (v := .agg #[.int .i64 (kind a), .int .i64 (field a), .slice RA (rs a).length rc, .float .f64 (lo a), .float .f64 (hi a), .slice OA (of a).length oc]) ?_ rfl (Out.mk HE.out (set6 HO.out (Nat.le_refl _) _ _ _ _ _ _) ⟨RA, rc, OA, oc, rfl, Ex.sub HX4.out (sub6 _ _ _ _ _ _ (by rw [HZ1.out]; omega) (by rw [HZ1.out]; omega))⟩ (rset6 HR.out hbw _ _ _ _ _ _))
    rw [results_c rfl]
    go_simp
set_option maxHeartbeats 4000000 in
theorem part_open (X : Except (Int × Int) (ExprP × PSt)) (k b : Nat) (s : PSt) (hX : ∀ w, RAt w b s k → Calls Tryz.prog 114 #[.pointer (some ⟨b, 0, none⟩), .func (.func 116) #[.pointer (some ⟨b, 0, none⟩)] #[]] w (Out b VE X k w)) (hw1 : isW Pa.wNot s.toks = false) (hw2 : isW [40] s.toks = true) (w : World) (h : RAt w b s k) :
    Calls Tryz.prog 109 #[.pointer (some ⟨b, 0, none⟩)] w (Out b VE X k w) := by
  have hbw := h.lt
  have hsf := store_float Tryz.prog
  have hmf := run_func
  have HR0 := Lib.hid (h.keep ((Keep.refl w).alloc zeroE))
  have C1 := Lib.hid (text_any b s k _ HR0.out)
  have t1 : ((hd s.toks).toList == [110, 111, 116]) = isW Pa.wNot s.toks := hd_lit h.fine.1 wd_not
  have t2 : ((hd s.toks).toList == [40]) = isW [40] s.toks := hd_lit h.fine.1 wd_open
  obtain ⟨x, hx⟩ : ∃ x, hd s.toks = x := ⟨_, rfl⟩
  rw [hx] at C1 t1 t2
  rw [hw1] at t1; rw [hw2] at t2
  have HX := Lib.hid hX
  clear h hx hX hw1 hw2
  go_enter Tryz.func109, Tryz.ntmps109
  go_wp2_with fail
  refine C1.out.mono ?_
  rintro e w1 ⟨rfl, hw⟩
  have hr1 : RAt w1 b s k := hw ▸ HR0.out
  have ho1 : Oth b (w.alloc zeroE) w1 := hw ▸ Oth.refl _ _
  have hz1 : w1.heap.size = w.heap.size + 1 := by rw [← hw]; simp
  have C2 := Lib.hid (HX.out w1 hr1)
  have HZ1 := Lib.hid hz1
  clear hw hr1 hz1
  go_wp2_with fail
  refine C2.out.mono ?_
  rintro e w2 hO
  obtain ⟨ho2, ⟨q, hq, rfl⟩ | ⟨a, s4, v, hq, rfl, hv, hr4⟩⟩ := hO.cases
  · have HE := Lib.hid hq
    clear hq hO
    go_wp2
    exact ⟨rfl, Out.err HE.out (((Oth.refl b w).alloc _).trans (ho1.trans ho2))⟩
  · obtain ⟨RA, rc, OA, oc, rfl, hx4⟩ := hv
    have HE := Lib.hid hq
    obtain ⟨⟨c0, c1, c2, c3, c4, c5⟩, hf⟩ := box6 hbw (ho1.trans ho2)
    have HO := Lib.hid (((Oth.refl b w).alloc zeroE).trans (ho1.trans ho2))
    have HR := Lib.hid hr4
    have HX4 := Lib.hid hx4
    clear hr4 ho1 ho2 hq hO hx4
    go_wp2
    (try simp only [Exit.inBlock, Exit.then])
    refine bodyPost_ret (v := .agg #[.int .i64 (kind a), .int .i64 (field a), .slice RA (rs a).length rc, .float .f64 (lo a), .float .f64 (hi a), .slice OA (of a).length oc]) ?_ rfl (Out.mk HE.out (set6 HO.out (Nat.le_refl _) _ _ _ _ _ _) ⟨RA, rc, OA, oc, rfl, Ex.sub HX4.out (sub6 _ _ _ _ _ _ (by rw [HZ1.out]; omega) (by rw [HZ1.out]; omega))⟩ (rset6 HR.out hbw _ _ _ _ _ _))
    rw [results_c rfl]
    go_simp
set_option maxHeartbeats 4000000 in
theorem part_atom (X : Except (Int × Int) (ExprP × PSt)) (k b : Nat) (s : PSt) (hX : ∀ w, RAt w b s k → Calls Tryz.prog 117 #[.pointer (some ⟨b, 0, none⟩)] w (Out b VE X k w)) (hw1 : isW Pa.wNot s.toks = false) (hw2 : isW [40] s.toks = false) (w : World) (h : RAt w b s k) :
    Calls Tryz.prog 109 #[.pointer (some ⟨b, 0, none⟩)] w (Out b VE X k w) := by
  have hbw := h.lt
  have hsf := store_float Tryz.prog
  have hmf := run_func
  have HR0 := Lib.hid (h.keep ((Keep.refl w).alloc zeroE))
  have C1 := Lib.hid (text_any b s k _ HR0.out)
  have t1 : ((hd s.toks).toList == [110, 111, 116]) = isW Pa.wNot s.toks := hd_lit h.fine.1 wd_not
  have t2 : ((hd s.toks).toList == [40]) = isW [40] s.toks := hd_lit h.fine.1 wd_open
  obtain ⟨x, hx⟩ : ∃ x, hd s.toks = x := ⟨_, rfl⟩
  rw [hx] at C1 t1 t2
  rw [hw1] at t1; rw [hw2] at t2
  have HX := Lib.hid hX
  clear h hx hX hw1 hw2
  go_enter Tryz.func109, Tryz.ntmps109
  go_wp2_with fail
  refine C1.out.mono ?_
  rintro e w1 ⟨rfl, hw⟩
  have hr1 : RAt w1 b s k := hw ▸ HR0.out
  have ho1 : Oth b (w.alloc zeroE) w1 := hw ▸ Oth.refl _ _
  have hz1 : w1.heap.size = w.heap.size + 1 := by rw [← hw]; simp
  have C2 := Lib.hid (HX.out w1 hr1)
  have HZ1 := Lib.hid hz1
  clear hw hr1 hz1
  go_wp2_with fail
  refine C2.out.mono ?_
  rintro e w2 hO
  obtain ⟨ho2, ⟨q, hq, rfl⟩ | ⟨a, s4, v, hq, rfl, hv, hr4⟩⟩ := hO.cases
  · have HE := Lib.hid hq
    clear hq hO
    go_wp2
    exact ⟨rfl, Out.err HE.out (((Oth.refl b w).alloc _).trans (ho1.trans ho2))⟩
  · obtain ⟨RA, rc, OA, oc, rfl, hx4⟩ := hv
    have HE := Lib.hid hq
    obtain ⟨⟨c0, c1, c2, c3, c4, c5⟩, hf⟩ := box6 hbw (ho1.trans ho2)
    have HO := Lib.hid (((Oth.refl b w).alloc zeroE).trans (ho1.trans ho2))
    have HR := Lib.hid hr4
    have HX4 := Lib.hid hx4
    clear hr4 ho1 ho2 hq hO hx4
    go_wp2
    (try simp only [Exit.inBlock, Exit.then])
    refine bodyPost_ret (v := .agg #[.int .i64 (kind a), .int .i64 (field a), .slice RA (rs a).length rc, .float .f64 (lo a), .float .f64 (hi a), .slice OA (of a).length oc]) ?_ rfl (Out.mk HE.out (set6 HO.out (Nat.le_refl _) _ _ _ _ _ _) ⟨RA, rc, OA, oc, rfl, Ex.sub HX4.out (sub6 _ _ _ _ _ _ (by rw [HZ1.out]; omega) (by rw [HZ1.out]; omega))⟩ (rset6 HR.out hbw _ _ _ _ _ _))
    rw [results_c rfl]
    go_simp
theorem part_all : ∀ d, d ≤ 16 → Reads 109 (Pa.part 512 d) (16 - d)
  | 0, _ => fun b s w h => by
    rw [part_zero]
    cases h1 : isW Pa.wNot s.toks with
    | true => exact part_not _ _ b s (fun w h => within_full _ b s w h) h1 w h
    | false =>
      cases h2 : isW [40] s.toks with
      | true => exact part_open _ _ b s (fun w h => within_full _ b s w h) h1 h2 w h
      | false => exact part_atom _ _ b s (fun w h => atom_any _ b s w h) h1 h2 w h
  | d + 1, hd => fun b s w h => by
    have ih := part_all d (by omega)
    have hk : 16 - (d + 1) + 1 = 16 - d := by omega
    rw [part_succ]
    cases h1 : isW Pa.wNot s.toks with
    | true =>
      exact part_not _ _ b s (fun w h => within_any 115 (fun args w => by kernel_rfl) (fun s => bnd (Pa.part 512 d s) fun e s' => .ok (.mk 2 0 [] 0 0 [e], s')) _ b (by omega) (fun s w h => by
        rw [hk] at h ⊢
        exact negated_any _ _ ih b s w h) s w h (isW_ne h1)) h1 w h
    | false =>
      cases h2 : isW [40] s.toks with
      | true =>
        exact part_open _ _ b s (fun w h => within_any 116 (fun args w => by kernel_rfl) (fun s => bnd (Pa.expr (Pa.part 512 d) s) fun e s1 => bnd (mustR [41] s1) fun _ s2 => .ok (e, s2)) _ b (by omega) (fun s w h => by
          rw [hk] at h ⊢
          exact bracketed_any _ _ (expr_any _ (lst_down 3 (part_down 512 d) _) _ (and_any _ (part_down 512 d) _ ih)) b s w h) s w h (isW_ne h2)) h1 h2 w h
      | false => exact part_atom _ _ b s (fun w h => atom_any _ b s w h) h1 h2 w h
theorem expression_any (b : Nat) (s : PSt) (w : World) (h : RAt w b s 0) : Calls Tryz.prog 76 #[.pointer (some ⟨b, 0, none⟩)] w (Out b VE (Pa.expr (Pa.part 512 16) s) 0 w) :=
  expr_any _ (lst_down 3 (part_down 512 16) _) _ (and_any _ (part_down 512 16) _ (part_all 16 (Nat.le_refl _))) b s w h
end Go.Proofs.YtmcgflpgkkophaaGreatDoor.Pm
/- The developers' parser: rates and rules, in memory. Conditions: what is left may be read. -/
namespace Go.Proofs.YtmcgflpgkkophaaGreatDoor.Pm
set_option linter.unusedVariables false
open Go.ChangeShapes Go.WideShapes Go.ChangeAt Go.RowKit
open Pa Tr
open Ref10 (encT encT_len)
theorem wd_per : Wd ⟨#[112, 101, 114]⟩ := ⟨by decide, by decide⟩
theorem wd_burst : Wd ⟨#[98, 117, 114, 115, 116]⟩ := ⟨by decide, by decide⟩
theorem wd_when : Wd ⟨#[119, 104, 101, 110]⟩ := ⟨by decide, by decide⟩
theorem wd_rate : Wd ⟨#[114, 97, 116, 101]⟩ := ⟨by decide, by decide⟩
theorem wd_end : Wd ⟨#[59]⟩ := ⟨by decide, by decide⟩
/-- Whether a number is nought is told by its text. -/
theorem nought_text {l : List UInt8} (h : Gu.getOk l = true) : Gu.getN l = 0 ↔ l = [48] := by
  constructor
  · intro h0
    obtain ⟨h1, h2, _⟩ := Gu.getOk_out h
    rw [Gu.getN_ok h] at h0
    simp only [Gu.headOk, decide_eq_true_eq] at h1
    have h48 : l.getD 0 0 = 48 := by
      by_cases hh : l.getD 0 0 = 48
      · exact hh
      · have := Gu.val_pos l h1.1 h2 hh; omega
    rcases h1.2 with h3 | h3
    · exact absurd h48 h3
    · match l, h3, h48 with
      | [c], _, h48 => rw [show c = 48 from h48]
  · rintro rfl; decide
theorem perR_eq {s : PSt} (hf : Fine s) : perR s = if headText s.toks = [48] then .error (lineOf s.toks, 7) else num s := by
  obtain ⟨T, n⟩ := s
  cases T with
  | nil => rfl
  | cons t l =>
    have hg := hf.1 t (List.mem_cons_self ..)
    show (if t.kind = 2 ∧ ¬ t.num = 0 then Except.ok (t.num, Pa.adv ⟨t :: l, n⟩) else .error (t.line, 7)) = if bl t.text = [48] then Except.error (t.line, 7) else (if t.kind = 2 then Except.ok (t.num, Pa.adv ⟨t :: l, n⟩) else .error (t.line, 7))
    by_cases hk : t.kind = 2
    · obtain ⟨h1, h2⟩ := hg hk
      by_cases h0 : bl t.text = [48]
      · rw [if_pos h0, if_neg (fun h => h.2 (by rw [h2]; exact (nought_text h1).2 h0))]
      · rw [if_neg h0, if_pos hk, if_pos ⟨hk, fun e => h0 ((nought_text h1).1 (by rw [← h2]; exact e))⟩]
    · rw [if_neg (fun h => hk h.1), if_neg hk]
      split <;> rfl
/-- A rate's empty box. -/
def zeroQ : Obj := .cells #[.int .i64 0, .int .i64 0, .int .i64 0] 34
theorem box3 {b : Nat} {w w' : World} (hb : b < w.heap.size) (h : Oth b (w.alloc zeroQ) w') :
    (w'.cell? ⟨w.heap.size, 0, none⟩ = some (.int .i64 0) ∧ w'.cell? ⟨w.heap.size, 1, none⟩ = some (.int .i64 0) ∧ w'.cell? ⟨w.heap.size, 2, none⟩ = some (.int .i64 0)) ∧ (∀ j, w'.frozen? ⟨w.heap.size, j, none⟩ = false) := by
  have hne : w.heap.size ≠ b := by omega
  have hc : ∀ j, w'.cell? ⟨w.heap.size, j, none⟩ = (w.alloc zeroQ).cell? ⟨w.heap.size, j, none⟩ := fun j => h.cell (by simp) hne
  refine ⟨⟨?_, ?_, ?_⟩, fun j => (h.frozen (by simp) hne).trans (by unfold zeroQ; go_simp)⟩
  all_goals rw [hc]; unfold zeroQ; go_simp
set_option maxHeartbeats 4000000 in
theorem rate_any (k b : Nat) (s : PSt) (w : World) (h : RAt w b s k) :
    Calls Tryz.prog 77 #[.pointer (some ⟨b, 0, none⟩)] w (Out b VQ (rateR s) k w) := by
  have hbw := h.lt
  have C1 := Lib.hid (number_any b s k _ (h.keep ((Keep.refl w).alloc zeroQ)))
  have HZ := Lib.hid (show rateR s = bnd (num s) fun a s1 => bnd (mustR Pa.wPer s1) fun _ s2 => bnd (perR s2) fun b s3 => bnd (mustR Pa.wBurst s3) fun _ s4 => bnd (num s4) fun c s5 => .ok ((a, b, c), s5) from rfl)
  obtain ⟨Z, hZ⟩ : ∃ Z, rateR s = Z := ⟨_, rfl⟩
  rw [hZ] at HZ ⊢
  clear h hZ
  go_enter Tryz.func77, Tryz.ntmps77
  go_wp2_with fail
  refine C1.out.mono ?_
  rintro e w1 hO
  obtain ⟨ho, ⟨q, hq, rfl⟩ | ⟨a, s1, v, hq, rfl, rfl, hr⟩⟩ := hO.cases
  · have HE := Lib.hid (show Z = .error q by rw [HZ.out, hq]; rfl)
    clear hq hO
    go_wp2
    exact ⟨rfl, Out.err HE.out (((Oth.refl b w).alloc _).trans ho)⟩
  · rw [hq, bnd_ok] at HZ
    have C2 := Lib.hid (must_any ⟨#[112, 101, 114]⟩ wd_per b s1 k w1 hr)
    clear hq hO hr
    go_wp2_with fail
    refine C2.out.mono ?_
    rintro e w2 hO
    obtain ⟨ho2, ⟨q, hq, rfl⟩ | ⟨_, s2, v, hq, rfl, rfl, hr⟩⟩ := hO.cases
    · have HE := Lib.hid (show Z = .error q by rw [HZ.out, show mustR Pa.wPer s1 = _ from hq]; rfl)
      clear hq hO
      go_wp2
      exact ⟨rfl, Out.err HE.out (((Oth.refl b w).alloc _).trans (ho.trans ho2))⟩
    · rw [show mustR Pa.wPer s1 = _ from hq, bnd_ok, perR_eq hr.fine] at HZ
      replace ho := ho.trans ho2
      have C3 := Lib.hid (text_any b s2 k w2 hr)
      have d3 : ((hd s2.toks).toList == [48]) = decide (headText s2.toks = [48]) := by
        rw [Str.toList_eq, hd_bl]
        by_cases h : headText s2.toks = [48]
        · rw [h]; rfl
        · rw [decide_eq_false h, beq_eq_false_iff_ne]; exact h
      clear hq hO ho2
      go_wp2_with fail
      refine C3.out.mono ?_
      rintro e w3 ⟨rfl, rfl⟩
      by_cases h0 : headText s2.toks = [48]
      · rw [decide_eq_true h0] at d3
        rw [if_pos h0] at HZ
        have CF := Lib.hid (fault_any 7 b s2 k _ hr)
        clear h0 hr
        go_wp2_with fail
        refine CF.out.mono ?_
        rintro e w4 ⟨rfl, hk⟩
        go_wp2
        exact ⟨rfl, Out.err HZ.out ((((Oth.refl b w).alloc _).trans ho).keep hk)⟩
      · rw [decide_eq_false h0] at d3
        rw [if_neg h0] at HZ
        have C4 := Lib.hid (number_any b s2 k _ hr)
        clear h0 hr
        go_wp2_with fail
        refine C4.out.mono ?_
        rintro e w4 hO
        obtain ⟨ho4, ⟨q, hq, rfl⟩ | ⟨a2, s3, v, hq, rfl, rfl, hr⟩⟩ := hO.cases
        · have HE := Lib.hid (show Z = .error q by rw [HZ.out, hq]; rfl)
          clear hq hO
          go_wp2
          exact ⟨rfl, Out.err HE.out (((Oth.refl b w).alloc _).trans (ho.trans ho4))⟩
        · rw [hq, bnd_ok] at HZ
          replace ho := ho.trans ho4
          have C5 := Lib.hid (must_any ⟨#[98, 117, 114, 115, 116]⟩ wd_burst b s3 k w4 hr)
          clear hq hO hr ho4
          go_wp2_with fail
          refine C5.out.mono ?_
          rintro e w5 hO
          obtain ⟨ho5, ⟨q, hq, rfl⟩ | ⟨_, s4, v, hq, rfl, rfl, hr⟩⟩ := hO.cases
          · have HE := Lib.hid (show Z = .error q by rw [HZ.out, show mustR Pa.wBurst s3 = _ from hq]; rfl)
            clear hq hO
            go_wp2
            exact ⟨rfl, Out.err HE.out (((Oth.refl b w).alloc _).trans (ho.trans ho5))⟩
          · rw [show mustR Pa.wBurst s3 = _ from hq, bnd_ok] at HZ
            replace ho := ho.trans ho5
            have C6 := Lib.hid (number_any b s4 k w5 hr)
            clear hq hO hr ho5
            go_wp2_with fail
            refine C6.out.mono ?_
            rintro e w6 hO
            obtain ⟨ho6, ⟨q, hq, rfl⟩ | ⟨a3, s5, v, hq, rfl, rfl, hr⟩⟩ := hO.cases
            · have HE := Lib.hid (show Z = .error q by rw [HZ.out, hq]; rfl)
              clear hq hO
              go_wp2
              exact ⟨rfl, Out.err HE.out (((Oth.refl b w).alloc _).trans (ho.trans ho6))⟩
            · have HE := Lib.hid (show Z = .ok ((a, a2, a3), s5) by rw [HZ.out, hq]; rfl)
              replace ho := ho.trans ho6
              obtain ⟨⟨c0, c1, c2⟩, hf⟩ := box3 hbw ho
              have HO := Lib.hid (((Oth.refl b w).alloc zeroQ).trans ho)
              have HR := Lib.hid hr
              clear hq hO hr ho6 ho
              go_wp2
              (try simp only [Exit.inBlock, Exit.then])
              refine bodyPost_ret (v := .agg #[.int .i64 a, .int .i64 a2, .int .i64 a3]) ?_ rfl (Out.mk HE.out (((HO.out.set (Nat.le_refl _) _).set (Nat.le_refl _) _).set (Nat.le_refl _) _) rfl (((HR.out.set hbw _).set hbw _).set hbw _))
              rw [results_c rfl]
              go_simp
/-- A rule's empty box. -/
def zeroRu : Obj := .cells #[.bool false, .int .i64 0, .int .i64 0, .slice none 0 0, .float .f64 0, .float .f64 0, .slice none 0 0, .int .i64 0, .int .i64 0, .int .i64 0, .int .i64 0] 36
def put6 (W : World) (q : Nat) (v1 v2 v3 v4 v5 v6 : Value) : World := (((((W.setCell ⟨q, 1, none⟩ v1).setCell ⟨q, 2, none⟩ v2).setCell ⟨q, 3, none⟩ v3).setCell ⟨q, 4, none⟩ v4).setCell ⟨q, 5, none⟩ v5).setCell ⟨q, 6, none⟩ v6
def put3 (W : World) (q : Nat) (v1 v2 v3 : Value) : World := ((W.setCell ⟨q, 7, none⟩ v1).setCell ⟨q, 8, none⟩ v2).setCell ⟨q, 9, none⟩ v3
/-- A rule in a box of the call's own. -/
def RBox (W : World) (q : Nat) (al : Bool) (e : ExprP) (RA : Option Addr) (rc : Nat) (OA : Option Addr) (oc : Nat) (n p u ln : Int) : Prop :=
  (W.cell? ⟨q, 0, none⟩ = some (.bool al) ∧ W.cell? ⟨q, 1, none⟩ = some (.int .i64 (kind e)) ∧ W.cell? ⟨q, 2, none⟩ = some (.int .i64 (field e)) ∧ W.cell? ⟨q, 3, none⟩ = some (.slice RA (rs e).length rc) ∧ W.cell? ⟨q, 4, none⟩ = some (.float .f64 (lo e)) ∧ W.cell? ⟨q, 5, none⟩ = some (.float .f64 (hi e)) ∧ W.cell? ⟨q, 6, none⟩ = some (.slice OA (of e).length oc) ∧
    W.cell? ⟨q, 7, none⟩ = some (.int .i64 n) ∧ W.cell? ⟨q, 8, none⟩ = some (.int .i64 p) ∧ W.cell? ⟨q, 9, none⟩ = some (.int .i64 u) ∧ W.cell? ⟨q, 10, none⟩ = some (.int .i64 ln)) ∧ (∀ j, W.frozen? ⟨q, j, none⟩ = false) ∧ q < W.heap.size
section
variable {W W' : World} {b q : Nat} {al : Bool} {e : ExprP} {RA : Option Addr} {rc : Nat} {OA : Option Addr} {oc : Nat} {n p u ln : Int}
theorem RBox.oth (h : RBox W q al e RA rc OA oc n p u ln) (ho : Oth b W W') (hq : q ≠ b) : RBox W' q al e RA rc OA oc n p u ln := by
  obtain ⟨⟨h0, h1, h2, h3, h4, h5, h6, h7, h8, h9, h10⟩, hf, hl⟩ := h
  have hc : ∀ j, W'.cell? ⟨q, j, none⟩ = W.cell? ⟨q, j, none⟩ := fun j => ho.cell hl hq
  exact ⟨⟨(hc 0).trans h0, (hc 1).trans h1, (hc 2).trans h2, (hc 3).trans h3, (hc 4).trans h4, (hc 5).trans h5, (hc 6).trans h6, (hc 7).trans h7, (hc 8).trans h8, (hc 9).trans h9, (hc 10).trans h10⟩, fun j => (ho.frozen hl hq).trans (hf j), Nat.lt_of_lt_of_le hl ho.size⟩
theorem RBox.put6 (h : RBox W q al e RA rc OA oc n p u ln) (e' : ExprP) (RA' : Option Addr) (rc' : Nat) (OA' : Option Addr) (oc' : Nat) :
    RBox (Pm.put6 W q (.int .i64 (kind e')) (.int .i64 (field e')) (.slice RA' (rs e').length rc') (.float .f64 (lo e')) (.float .f64 (hi e')) (.slice OA' (of e').length oc')) q al e' RA' rc' OA' oc' n p u ln := by
  obtain ⟨⟨h0, h1, h2, h3, h4, h5, h6, h7, h8, h9, h10⟩, hf, hl⟩ := h
  unfold Pm.put6
  refine ⟨⟨?_, ?_, ?_, ?_, ?_, ?_, ?_, ?_, ?_, ?_, ?_⟩, fun j => ?_, ?_⟩
  all_goals go_simp
theorem RBox.put3 (h : RBox W q al e RA rc OA oc n p u ln) (n' p' u' : Int) : RBox (Pm.put3 W q (.int .i64 n') (.int .i64 p') (.int .i64 u')) q al e RA rc OA oc n' p' u' ln := by
  obtain ⟨⟨h0, h1, h2, h3, h4, h5, h6, h7, h8, h9, h10⟩, hf, hl⟩ := h
  unfold Pm.put3
  refine ⟨⟨?_, ?_, ?_, ?_, ?_, ?_, ?_, ?_, ?_, ?_, ?_⟩, fun j => ?_, ?_⟩
  all_goals go_simp
end
theorem oput6 {b q : Nat} {a w : World} (h : Oth b a w) (hg : a.heap.size ≤ q) (v0 v1 v2 v3 v4 v5 : Value) : Oth b a (put6 w q v0 v1 v2 v3 v4 v5) := (((((h.set hg _).set hg _).set hg _).set hg _).set hg _).set hg _
theorem oput3 {b q : Nat} {a w : World} (h : Oth b a w) (hg : a.heap.size ≤ q) (v0 v1 v2 : Value) : Oth b a (put3 w q v0 v1 v2) := ((h.set hg _).set hg _).set hg _
theorem rput6 {b q : Nat} {w : World} {s : PSt} {k : Nat} (h : RAt w b s k) (hg : b < q) (v0 v1 v2 v3 v4 v5 : Value) : RAt (put6 w q v0 v1 v2 v3 v4 v5) b s k := (((((h.set hg _).set hg _).set hg _).set hg _).set hg _).set hg _
theorem rput3 {b q : Nat} {w : World} {s : PSt} {k : Nat} (h : RAt w b s k) (hg : b < q) (v0 v1 v2 : Value) : RAt (put3 w q v0 v1 v2) b s k := ((h.set hg _).set hg _).set hg _
theorem sub_set {B g : Nat} {w : World} (j : Nat) (v : Value) (hg : g < B) : Sub (er B w) (er B (w.setCell ⟨g, j, none⟩ v)) :=
  sub_mk (by simp [World.setCell]) fun i hi hp => ⟨hp, Below.heap_setCell _ _ _ _ (by have := of_decide_eq_false hp; show i ≠ g; omega)⟩
theorem sput6 {B q : Nat} {w : World} (v0 v1 v2 v3 v4 v5 : Value) (hg : q < B) : Sub (er B w) (er B (put6 w q v0 v1 v2 v3 v4 v5)) :=
  (((((sub_set _ _ hg).trans (sub_set _ _ hg)).trans (sub_set _ _ hg)).trans (sub_set _ _ hg)).trans (sub_set _ _ hg)).trans (sub_set _ _ hg)
theorem sput3 {B q : Nat} {w : World} (v0 v1 v2 : Value) (hg : q < B) : Sub (er B w) (er B (put3 w q v0 v1 v2)) := ((sub_set _ _ hg).trans (sub_set _ _ hg)).trans (sub_set _ _ hg)
/-- Rules, as values. -/
def VR (w : World) (r : RuleP) (v : Value) : Prop := ∃ RA rc OA oc, v = .agg #[.bool r.allow, .int .i64 (kind r.when_), .int .i64 (field r.when_), .slice RA (rs r.when_).length rc, .float .f64 (lo r.when_), .float .f64 (hi r.when_), .slice OA (of r.when_).length oc, .int .i64 r.num, .int .i64 r.per, .int .i64 r.burst, .int .i64 r.line] ∧ Ex w r.when_ RA OA
theorem headR_ok {s : PSt} (h : (isW Tr.wAllow s.toks || isW Tr.wDeny s.toks) = true) : headR s = .ok (isW Tr.wAllow s.toks, Pa.adv s) := by
  unfold headR mustR
  cases h1 : isW Tr.wAllow s.toks with
  | true => rfl
  | false =>
    rw [h1, Bool.false_or] at h
    rw [h]; rfl
theorem headR_err {s : PSt} (h : (isW Tr.wAllow s.toks || isW Tr.wDeny s.toks) = false) : headR s = .error (lineOf s.toks, 7) := by
  rw [Bool.or_eq_false_iff] at h
  unfold headR mustR
  rw [h.1, h.2]; rfl
theorem box11 {b : Nat} {w w' : World} (hb : b < w.heap.size) (h : Oth b (w.alloc zeroRu) w') : RBox w' w.heap.size false zero none 0 none 0 0 0 0 0 := by
  have hne : w.heap.size ≠ b := by omega
  have hc : ∀ j, w'.cell? ⟨w.heap.size, j, none⟩ = (w.alloc zeroRu).cell? ⟨w.heap.size, j, none⟩ := fun j => h.cell (by simp) hne
  refine ⟨⟨?_, ?_, ?_, ?_, ?_, ?_, ?_, ?_, ?_, ?_, ?_⟩, fun j => (h.frozen (by simp) hne).trans (by unfold zeroRu; go_simp), by have := h.size; simp at this; omega⟩
  all_goals rw [hc]; unfold zeroRu; go_simp; try rfl
end Go.Proofs.YtmcgflpgkkophaaGreatDoor.Pm
/- The developers' parser: a rule, in memory. Conditions: what is left may be read. -/
namespace Go.Proofs.YtmcgflpgkkophaaGreatDoor.Pm
set_option linter.unusedVariables false
open Go.ChangeShapes Go.WideShapes Go.ChangeAt Go.RowKit
open Pa Tr
open Ref10 (encT encT_len)
theorem RBox.new {W : World} (al : Bool) (ln : Int) : RBox (W.alloc (.cells #[.bool al, .int .i64 0, .int .i64 0, .slice none 0 0, .float .f64 0, .float .f64 0, .slice none 0 0, .int .i64 0, .int .i64 0, .int .i64 0, .int .i64 ln] 36)) W.heap.size al zero none 0 none 0 0 0 0 ln := by
  refine ⟨⟨?_, ?_, ?_, ?_, ?_, ?_, ?_, ?_, ?_, ?_, ?_⟩, fun j => ?_, by simp⟩
  all_goals go_simp; try rfl
def put11 (W : World) (q : Nat) (v0 v1 v2 v3 v4 v5 v6 v7 v8 v9 v10 : Value) : World := ((((put6 (W.setCell ⟨q, 0, none⟩ v0) q v1 v2 v3 v4 v5 v6).setCell ⟨q, 7, none⟩ v7).setCell ⟨q, 8, none⟩ v8).setCell ⟨q, 9, none⟩ v9).setCell ⟨q, 10, none⟩ v10
theorem oput11 {b q : Nat} {a w : World} (h : Oth b a w) (hg : a.heap.size ≤ q) (v0 v1 v2 v3 v4 v5 v6 v7 v8 v9 v10 : Value) : Oth b a (put11 w q v0 v1 v2 v3 v4 v5 v6 v7 v8 v9 v10) := ((((oput6 (h.set hg _) hg _ _ _ _ _ _).set hg _).set hg _).set hg _).set hg _
theorem rput11 {b q : Nat} {w : World} {s : PSt} {k : Nat} (h : RAt w b s k) (hg : b < q) (v0 v1 v2 v3 v4 v5 v6 v7 v8 v9 v10 : Value) : RAt (put11 w q v0 v1 v2 v3 v4 v5 v6 v7 v8 v9 v10) b s k := ((((rput6 (h.set hg _) hg _ _ _ _ _ _).set hg _).set hg _).set hg _).set hg _
theorem sput11 {B q : Nat} {w : World} (v0 v1 v2 v3 v4 v5 v6 v7 v8 v9 v10 : Value) (hg : q < B) : Sub (er B w) (er B (put11 w q v0 v1 v2 v3 v4 v5 v6 v7 v8 v9 v10)) :=
  (((((sub_set _ _ hg).trans (sput6 _ _ _ _ _ _ hg)).trans (sub_set _ _ hg)).trans (sub_set _ _ hg)).trans (sub_set _ _ hg)).trans (sub_set _ _ hg)
set_option maxHeartbeats 4000000 in
theorem rule_any (b : Nat) (s : PSt) (w : World) (h : RAt w b s 0) :
    Calls Tryz.prog 60 #[.pointer (some ⟨b, 0, none⟩)] w (Out b VR (Pa.rule 16 512 s) 0 w) := by
  have hbw := h.lt
  have hsf := store_float Tryz.prog
  have HR0 := Lib.hid (h.keep ((Keep.refl w).alloc zeroRu))
  have C1 := Lib.hid (begins_any b s 0 _ HR0.out)
  obtain ⟨Z, hZ⟩ : ∃ Z, Pa.rule 16 512 s = Z := ⟨_, rfl⟩
  have HZ := Lib.hid (show Z = bnd (headR s) fun al s1 => bnd (whenR 16 512 s1) fun e s2 => bnd (rateO s2) fun q s3 => bnd (mustR [59] s3) fun _ s4 => .ok (⟨al, e, q.1, q.2.1, q.2.2, lineOf s.toks⟩, s4) from hZ.symm)
  rw [hZ]
  clear hZ
  cases hb1 : (isW Tr.wAllow s.toks || isW Tr.wDeny s.toks) with
  | false =>
    rw [hb1] at C1
    rw [headR_err hb1] at HZ
    clear h hb1
    go_enter Tryz.func60, Tryz.ntmps60
    go_wp2_with fail
    refine C1.out.mono ?_
    rintro e w1 ⟨rfl, hw⟩
    have CF := Lib.hid (fault_any 7 b s 0 w1 (hw ▸ HR0.out))
    have ho1 : Oth b (w.alloc zeroRu) w1 := hw ▸ Oth.refl _ _
    clear hw
    go_wp2_with fail
    refine CF.out.mono ?_
    rintro e w2 ⟨rfl, hk⟩
    go_wp2
    exact ⟨rfl, Out.err HZ.out ((((Oth.refl b w).alloc _).trans ho1).keep hk)⟩
  | true =>
    rw [hb1] at C1
    rw [headR_ok hb1, bnd_ok] at HZ
    have h1 : ((hd s.toks).toList == [97, 108, 108, 111, 119]) = isW Tr.wAllow s.toks := hd_lit h.fine.1 wd_allow
    obtain ⟨al, hal⟩ : ∃ al, isW Tr.wAllow s.toks = al := ⟨_, rfl⟩
    rw [hal] at HZ h1
    have hne : s.toks ≠ [] := fun e => by rw [e] at hb1; cases hb1
    obtain ⟨t, l, ht⟩ : ∃ t l, s.toks = t :: l := by
      cases hh : s.toks with
      | nil => exact absurd hh hne
      | cons t l => exact ⟨t, l, rfl⟩
    have hln : lineOf s.toks = t.line := by rw [ht]; rfl
    rw [hln] at HZ
    obtain ⟨x, hx⟩ : ∃ x, hd s.toks = x := ⟨_, rfl⟩
    rw [hx] at h1
    have HX := Lib.hid hx
    have HT := Lib.hid ht
    have HN := Lib.hid hne
    clear h hb1 hal hx hne hln ht
    go_enter Tryz.func60, Tryz.ntmps60
    go_wp2_with fail
    refine C1.out.mono ?_
    rintro e X ⟨rfl, hw⟩
    have hrX : RAt X b s 0 := hw ▸ HR0.out
    have ho1 : Oth b (w.alloc zeroRu) X := hw ▸ Oth.refl _ _
    clear hw
    obtain ⟨g, o, c, g0, ⟨_, _, _, g3⟩, _⟩ := hrX.head HT.out
    have CT := Lib.hid (show ∀ W, Keep X W → Calls Tryz.prog 73 #[.pointer (some ⟨b, 0, none⟩)] W fun e w' => e = .returned (.string x) ∧ W = w' from fun W hW => by
      have := text_any b s 0 W (hrX.keep hW)
      rw [HX.out] at this
      exact this)
    have hS : ∀ W, Keep X W → W.cell? ⟨b, 0, none⟩ = some (.slice (some ⟨g, o, none⟩) (l.length + 1) c) ∧ W.cell? ⟨g, o + 3, none⟩ = some (.int .i64 t.line) := fun W hW => ⟨(Below.cell hW hrX.lt).trans g0, (Below.cell hW (lt_of_cell g3)).trans g3⟩
    have kX := Keep.refl X
    have kD := kX.trans ((Quiet.refl X).drew).keep
    have HRX := Lib.hid hrX
    have HO1 := Lib.hid ho1
    have hbX := hrX.lt
    clear hrX ho1 g0 g3
    go_wp2_with fail
    go_cut [3] from 10 (fun p W => ∃ q, p = .pointer (some ⟨q, 0, none⟩) ∧ RBox W q al zero none 0 none 0 0 0 0 t.line ∧ X.heap.size ≤ q ∧ Keep X W)
    case first =>
      go_region_held3 (fun W => W.cell? ⟨b, 0, none⟩ = some (.slice (some ⟨g, o, none⟩) (l.length + 1) c) ∧ W.cell? ⟨g, o + 3, none⟩ = some (.int .i64 t.line))
        (first
          | with_reducible exact hS _ kX
          | with_reducible exact hS _ kD
          | with_reducible exact hS _ (kX.alloc _)
          | with_reducible exact hS _ (kD.alloc _)
          | with_reducible exact hS _ (keep_drew (kX.alloc _))
          | with_reducible exact hS _ (keep_drew kX)
          | fail)
        ((first
          | (go_at_call 73; refine (CT.out _ kX).mono ?_; rintro e w3 ⟨rfl, rfl⟩)
          | (go_at_call 73; refine (CT.out _ kD).mono ?_; rintro e w3 ⟨rfl, rfl⟩)
          | (go_at_call 73; refine (CT.out _ (kX.alloc _)).mono ?_; rintro e w3 ⟨rfl, rfl⟩)
          | (go_at_call 73; refine (CT.out _ (kD.alloc _)).mono ?_; rintro e w3 ⟨rfl, rfl⟩)
          | (go_at_call 73; refine (CT.out _ (keep_drew (kX.alloc _))).mono ?_; rintro e w3 ⟨rfl, rfl⟩)
          | fail))
      all_goals
        go_wp2_with fail
        go_meet
        exact ⟨X.heap.size, rfl, (RBox.new al t.line : RBox (X.alloc _) _ _ _ _ _ _ _ _ _ _ _), Nat.le_refl _, keep_drew (kX.alloc _)⟩
    case rest =>
      obtain ⟨q, rfl, hB, hq, hk3⟩ := hcut
      have hbq : b < q := by omega
      have hqb : q ≠ b := by omega
      have hwq : w.heap.size + 1 ≤ q := by have := HO1.out.size; simp at this; omega
      have ho3 := HO1.out.keep hk3
      have C4 := Lib.hid (drop_any b s 0 wc (HRX.out.keep hk3) HN.out)
      have HB3 := Lib.hid hB
      obtain ⟨s1, hs1⟩ : ∃ s1, Pa.adv s = s1 := ⟨_, rfl⟩
      rw [hs1] at C4 HZ
      clear hs1 hB hk3 HRX HO1 kX kD hS CT
      go_wp2_with fail
      refine C4.out.mono ?_
      rintro e w4 ⟨rfl, ho4, hr4⟩
      replace ho3 := ho3.trans ho4
      have HB4 := Lib.hid (HB3.out.oth ho4 hqb)
      have C5 := Lib.hid (skip_any ⟨#[119, 104, 101, 110]⟩ wd_when b s1 0 w4 hr4)
      have hq4 : q < w4.heap.size := HB4.out.2.2
      clear ho4 hr4 HB3 C4 hq
      go_wp2_with fail
      refine C5.out.mono ?_
      rintro e w5 ⟨rfl, ho5, hr5⟩
      replace ho3 := ho3.trans ho5
      have HB5 := Lib.hid (HB4.out.oth ho5 hqb)
      have hq5 : q < w5.heap.size := HB5.out.2.2
      obtain ⟨wn, hwn⟩ : ∃ wn, isW (bl ⟨#[119, 104, 101, 110]⟩) s1.toks = wn := ⟨_, rfl⟩
      rw [hwn]
      clear ho5 HB4 C5 hq4
      go_upto_if 24 with (fail)
      go_cut [3] from 4 (fun p W => ∃ e RA rc OA oc s2, p = .pointer (some ⟨q, 0, none⟩) ∧ Hid (whenR 16 512 s1 = .ok (e, s2)) ∧ RBox W q al e RA rc OA oc 0 0 0 t.line ∧ Ex (er (q + 1) W) e RA OA ∧ RAt W b s2 0 ∧ Oth b (w.alloc zeroRu) W)
      case first =>
        cases wn with
        | false =>
          rw [skp_neg hwn] at hr5
          have HE := Lib.hid (show whenR 16 512 s1 = .ok (zero, s1) by unfold whenR; rw [if_neg (by rw [show isW Pa.wWhen s1.toks = false from hwn]; decide)])
          have HR := Lib.hid hr5
          clear hwn hr5
          go_wp2_with fail
          go_meet
          exact ⟨zero, none, 0, none, 0, s1, rfl, HE, HB5.out, ⟨Row.none_ _ _ _, fun h => absurd h (by decide)⟩, HR.out, ho3⟩
        | true =>
          rw [skp_pos hwn] at hr5
          have HW := Lib.hid (show whenR 16 512 s1 = Pa.expr (Pa.part 512 16) (Pa.adv s1) by unfold whenR; rw [if_pos (show isW Pa.wWhen s1.toks = true from hwn)])
          have C6 := Lib.hid (expression_any b _ w5 hr5)
          clear hwn hr5
          go_wp2_with fail
          refine C6.out.mono ?_
          rintro e w6 hO
          obtain ⟨ho6, ⟨qq, hqq, rfl⟩ | ⟨a, s2, v, hqq, rfl, hv, hr6⟩⟩ := hO.cases
          · have HE := Lib.hid (show Z = .error qq by rw [HZ.out, HW.out, hqq]; rfl)
            clear hqq hO
            go_wp2_with fail
            exact ⟨rfl, Out.err HE.out (((Oth.refl b w).alloc _).trans (ho3.trans ho6))⟩
          · obtain ⟨RA, rc, OA, oc, rfl, hx⟩ := hv
            have HE := Lib.hid (HW.out.trans hqq)
            have HB6 := HB5.out.oth ho6 hqb
            obtain ⟨⟨c0, c1, c2, c3, c4, c5, c6, _⟩, hf, hq6⟩ := HB6
            have HB6 := Lib.hid ((HB5.out.oth ho6 hqb).put6 a RA rc OA oc)
            have HR6 := Lib.hid hr6
            have HX6 := Lib.hid hx
            replace ho3 := ho3.trans ho6
            clear hqq hO hr6 hx ho6
            go_wp2_with fail
            go_meet
            exact ⟨a, RA, rc, OA, oc, s2, rfl, HE, HB6.out, Ex.sub HX6.out ((er_less _ (by omega)).trans (sput6 _ _ _ _ _ _ (by omega))), rput6 HR6.out hbq _ _ _ _ _ _, oput6 ho3 (by simp; omega) _ _ _ _ _ _⟩
      case rest =>
        clear ho3 HB5 hr5 hq5 hwn
        obtain ⟨e, RA, rc, OA, oc, s2, rfl, hE, hB, hx, hr7, ho7⟩ := hcut
        rw [hE.out, bnd_ok] at HZ
        have HB7 := Lib.hid hB
        have C7 := Lib.hid (skip_any ⟨#[114, 97, 116, 101]⟩ wd_rate b s2 0 wc hr7)
        have HX7 := Lib.hid hx
        clear hE hB hr7 hx
        go_wp2_with fail
        refine C7.out.mono ?_
        rintro e8 w8 ⟨rfl, ho8, hr8⟩
        replace ho7 := ho7.trans ho8
        have HB8 := Lib.hid (HB7.out.oth ho8 hqb)
        have hq8 : q < w8.heap.size := HB8.out.2.2
        have HX8 := Lib.hid (Ex.sub HX7.out (ho8.sub (by omega)))
        obtain ⟨wn, hwn⟩ : ∃ wn, isW (bl ⟨#[114, 97, 116, 101]⟩) s2.toks = wn := ⟨_, rfl⟩
        rw [hwn]
        clear ho8 HB7 C7 HX7
        go_upto_if 29 with (fail)
        go_cut [3] from 4 (fun p W => ∃ n p' u s3, p = .pointer (some ⟨q, 0, none⟩) ∧ Hid (rateO s2 = .ok ((n, p', u), s3)) ∧ RBox W q al e RA rc OA oc n p' u t.line ∧ Ex (er (q + 1) W) e RA OA ∧ RAt W b s3 0 ∧ Oth b (w.alloc zeroRu) W)
        case first =>
          cases wn with
          | false =>
            rw [skp_neg hwn] at hr8
            have HE := Lib.hid (show rateO s2 = .ok ((0, 0, 0), s2) by unfold rateO; rw [if_neg (by rw [show isW Pa.wRate s2.toks = false from hwn]; decide)])
            have HR := Lib.hid hr8
            clear hwn hr8
            go_wp2_with fail
            go_meet
            exact ⟨0, 0, 0, s2, rfl, HE, HB8.out, HX8.out, HR.out, ho7⟩
          | true =>
            rw [skp_pos hwn] at hr8
            have HW := Lib.hid (show rateO s2 = rateR (Pa.adv s2) by unfold rateO; rw [if_pos (show isW Pa.wRate s2.toks = true from hwn)])
            have C9 := Lib.hid (rate_any 0 b _ w8 hr8)
            clear hwn hr8
            go_wp2_with fail
            refine C9.out.mono ?_
            rintro e9 w9 hO
            obtain ⟨ho9, ⟨qq, hqq, rfl⟩ | ⟨⟨n, p', u⟩, s3, v, hqq, rfl, rfl, hr9⟩⟩ := hO.cases
            · have HE := Lib.hid (show Z = .error qq by rw [HZ.out, HW.out, hqq]; rfl)
              clear hqq hO
              go_wp2_with fail
              exact ⟨rfl, Out.err HE.out (((Oth.refl b w).alloc _).trans (ho7.trans ho9))⟩
            · have HE := Lib.hid (HW.out.trans hqq)
              have HB9 := HB8.out.oth ho9 hqb
              obtain ⟨⟨_, _, _, _, _, _, _, c7, c8, c9, _⟩, hf, hq9⟩ := HB9
              have HB9 := Lib.hid ((HB8.out.oth ho9 hqb).put3 n p' u)
              have HR9 := Lib.hid hr9
              have HX9 := Lib.hid (Ex.sub (Ex.sub HX8.out (ho9.sub (by omega))) (sput3 (q := q) (.int .i64 n) (.int .i64 p') (.int .i64 u) (Nat.lt_succ_self q)))
              replace ho7 := ho7.trans ho9
              clear hqq hO hr9 ho9
              go_wp2_with fail
              go_meet
              exact ⟨n, p', u, s3, rfl, HE, HB9.out, HX9.out, rput3 HR9.out hbq _ _ _, oput3 ho7 (by simp; omega) _ _ _⟩
        case rest =>
          clear ho7 HB8 hr8 hq8 hwn HX8
          obtain ⟨n, p', u, s3, rfl, hE, hB, hx, hr10, ho10⟩ := hcut
          rw [hE.out, bnd_ok] at HZ
          have HB10 := Lib.hid hB
          have C10 := Lib.hid (must_any ⟨#[59]⟩ wd_end b s3 0 wc hr10)
          have HX10 := Lib.hid hx
          clear hE hB hr10 hx
          go_wp2_with fail
          refine C10.out.mono ?_
          rintro e11 w11 hO
          obtain ⟨ho11, ⟨qq, hqq, rfl⟩ | ⟨_, s4, v, hqq, rfl, rfl, hr11⟩⟩ := hO.cases
          · have HE := Lib.hid (show Z = .error qq by rw [HZ.out, show mustR [59] s3 = _ from hqq]; rfl)
            clear hqq hO
            go_wp2_with fail
            exact ⟨rfl, Out.err HE.out (((Oth.refl b w).alloc _).trans (ho10.trans ho11))⟩
          · have HE := Lib.hid (show Z = .ok (⟨al, e, n, p', u, t.line⟩, s4) by rw [HZ.out, show mustR [59] s3 = _ from hqq]; rfl)
            obtain ⟨⟨c0, c1, c2, c3, c4, c5, c6, c7, c8, c9, c10⟩, hf, hq11⟩ := HB10.out.oth ho11 hqb
            obtain ⟨⟨z0, z1, z2, z3, z4, z5, z6, z7, z8, z9, z10⟩, hfz, _⟩ := box11 hbw (ho10.trans ho11)
            have HO := Lib.hid (((Oth.refl b w).alloc zeroRu).trans (ho10.trans ho11))
            have HR := Lib.hid hr11
            have HX := Lib.hid (Ex.sub HX10.out (ho11.sub (by omega)))
            have hqw : q ≠ w.heap.size := by omega
            have hwq' : w.heap.size < q + 1 := by omega
            clear hqq hO hr11 ho10 ho11 HX10 HB10 hwq
            go_wp2_with fail
            (try simp only [Exit.inBlock, Exit.then])
            refine bodyPost_ret (v := .agg #[.bool al, .int .i64 (kind e), .int .i64 (field e), .slice RA (rs e).length rc, .float .f64 (lo e), .float .f64 (hi e), .slice OA (of e).length oc, .int .i64 n, .int .i64 p', .int .i64 u, .int .i64 t.line]) ?_ rfl (Out.mk HE.out (oput11 HO.out (Nat.le_refl _) _ _ _ _ _ _ _ _ _ _ _) ⟨RA, rc, OA, oc, rfl, Ex.sub HX.out ((sput11 _ _ _ _ _ _ _ _ _ _ _ hwq').trans (er_less _ (by omega)))⟩ (rput11 HR.out hbw _ _ _ _ _ _ _ _ _ _ _))
            rw [results_c rfl]
            go_simp
end Go.Proofs.YtmcgflpgkkophaaGreatDoor.Pm
/- The developers' parser: policies, and where a reading that is given up ends. Conditions: none. -/
namespace Go.Proofs.YtmcgflpgkkophaaGreatDoor.Pm
set_option linter.unusedVariables false
open Go.ChangeShapes Go.WideShapes Go.ChangeAt Go.RowKit
open Pa Tr
open Ref10 (encT encT_len)
/-- A rule as it lies in memory. -/
structure RawR where
  r : RuleP
  RA : Option Addr
  rc : Nat
  OA : Option Addr
  oc : Nat
def encR (x : RawR) : List Value := [.bool x.r.allow, .int .i64 (kind x.r.when_), .int .i64 (field x.r.when_), .slice x.RA (rs x.r.when_).length x.rc, .float .f64 (lo x.r.when_), .float .f64 (hi x.r.when_), .slice x.OA (of x.r.when_).length x.oc, .int .i64 x.r.num, .int .i64 x.r.per, .int .i64 x.r.burst, .int .i64 x.r.line]
theorem encR_len (x : RawR) : (encR x).length = 11 := rfl
theorem encR_one (x : RawR) : ∀ v ∈ encR x, v.oneCell' = true := by
  intro v hv
  simp [encR] at hv
  rcases hv with rfl | rfl | rfl | rfl | rfl | rfl | rfl | rfl | rfl | rfl | rfl <;> rfl
theorem info_rule : (Tryz.prog.info? 36).map (fun i => (i.zero, i.size, i.bytes)) = some (some (.agg #[.bool false, .int .i64 0, .int .i64 0, .slice none 0 0, .float .f64 0, .float .f64 0, .slice none 0 0, .int .i64 0, .int .i64 0, .int .i64 0, .int .i64 0]), 11, 120) := by kernel_rfl
theorem rus_of {W : World} {A : Option Addr} {n : Nat} {raws : List RawR} (h : Row encR 11 W W.heap.size A n raws) (hx : ∀ x ∈ raws, Ex W x.r.when_ x.RA x.OA) : Rus W A (raws.map RawR.r) := fun hn => by
  rw [List.length_map] at hn
  have hl := h.1
  obtain ⟨b, off, rfl, hb⟩ := h.addr (by omega)
  obtain ⟨_, hc⟩ := h.cells (by omega)
  refine ⟨b, off, rfl, hb, fun k hk => ?_⟩
  rw [List.length_map] at hk
  rw [List.getElem_map]
  have he := hx _ (List.getElem_mem (h := hk))
  exact ⟨encR raws[k], fun j v hv => hc k (by omega) j v hv, _, rfl, rfl, he.into _ _⟩
/-- What is left of rules behind those so far. -/
def rest (m c : Nat) (acc : List RuleP) (s : PSt) : Except (Int × Int) (List RuleP) := (rulesF 16 512 64 m c s).map (acc ++ ·)
theorem rest_end {m c : Nat} {acc : List RuleP} {s : PSt} (h : s.toks = []) : rest (m + 1) c acc s = .ok acc := by
  unfold rest
  rw [rulesF, if_pos (by rw [h]; rfl)]
  exact congrArg Except.ok (List.append_nil acc)
theorem rest_many {m c : Nat} {acc : List RuleP} {s : PSt} (h : s.toks ≠ []) (hc : c = 64) (hb : (isW Tr.wAllow s.toks || isW Tr.wDeny s.toks) = true) : rest (m + 1) c acc s = .error (lineOf s.toks, 9) := by
  unfold rest
  rw [rulesF, if_neg (by simpa using h), if_pos ⟨hc, hb⟩]
  rfl
theorem rest_err {m c : Nat} {acc : List RuleP} {s : PSt} (h : s.toks ≠ []) (hb : ¬ (c = 64 ∧ (isW Tr.wAllow s.toks || isW Tr.wDeny s.toks) = true)) {q : Int × Int} (hr : Pa.rule 16 512 s = .error q) : rest (m + 1) c acc s = .error q := by
  unfold rest
  rw [rulesF, if_neg (by simpa using h), if_neg hb, hr]
  rfl
theorem rest_ok {m c : Nat} {acc : List RuleP} {s s' : PSt} (h : s.toks ≠ []) (hb : ¬ (c = 64 ∧ (isW Tr.wAllow s.toks || isW Tr.wDeny s.toks) = true)) {r : RuleP} (hr : Pa.rule 16 512 s = .ok (r, s')) : rest (m + 1) c acc s = rest m (c + 1) (acc ++ [r]) s' := by
  unfold rest
  rw [rules_into h hb hr]
  cases rulesF 16 512 64 m (c + 1) s' with
  | error e => rfl
  | ok l => exact congrArg Except.ok (by simp)
/-- How a policy's reading ends. -/
def POut (b : Nat) (x : Except (Int × Int) (List RuleP)) (w : World) (e : Ending) (w' : World) : Prop :=
  Oth b w w' ∧ match x with
  | .ok l => ∃ A c, e = .returned (.slice A l.length c) ∧ Rus (er w.heap.size w') A l
  | .error q => e = .panicked [wrongP q]
theorem POut.err {b : Nat} {x : Except (Int × Int) (List RuleP)} {w w' : World} {q : Int × Int} (hx : x = .error q) (h : Oth b w w') : POut b x w (.panicked [wrongP q]) w' := by
  subst hx; exact ⟨h, rfl⟩
theorem POut.mk {b : Nat} {x : Except (Int × Int) (List RuleP)} {w w' : World} {l : List RuleP} {A : Option Addr} {n c : Nat} (hx : x = .ok l) (h : Oth b w w') (hn : l.length = n) (hr : Rus (er w.heap.size w') A l) : POut b x w (.returned (.slice A n c)) w' := by
  subst hx hn; exact ⟨h, A, c, rfl, hr⟩
def PolRel (b : Nat) (w : World) (s : PSt) (lv : Value) (wr : World) : Prop :=
  ∃ (acc : List RawR) (s1 : PSt) (m : Nat), wr.ownsRow w.heap.size 36 11 lv acc.length (flat encR acc) ∧ (∀ x ∈ acc, Ex (erp (pw w.heap.size lv) wr) x.r.when_ x.RA x.OA) ∧ RAt wr b s1 0 ∧ Oth b w wr ∧ Hid (rulesF 16 512 64 (s.toks.length + 1) 0 s = rest m acc.length (acc.map RawR.r) s1) ∧ s1.toks.length < m ∧ acc.length + s1.toks.length ≤ s.toks.length
set_option maxHeartbeats 4000000 in
theorem policy_any (b : Nat) (s : PSt) (w : World) (h : RAt w b s 0) :
    Calls Tryz.prog 37 #[.pointer (some ⟨b, 0, none⟩)] w (POut b (rulesF 16 512 64 (s.toks.length + 1) 0 s) w) := by
  have HF := Lib.hid h.fine
  have hbw := h.lt
  have HR := Lib.hid h
  obtain ⟨Z, hZ⟩ : ∃ Z, rulesF 16 512 64 (s.toks.length + 1) 0 s = Z := ⟨_, rfl⟩
  have HZ := Lib.hid hZ
  rw [hZ]
  clear h hZ
  go_enter Tryz.func37, Tryz.ntmps37
  go_wp2
  go_loopw [3] (fun lv wr => PolRel b w s lv wr) (fun _ wr => msr b wr)
  case atStart =>
    exact ⟨[], s, s.toks.length + 1, ⟨rfl, .inl ⟨rfl, rfl⟩⟩, fun x hx => absurd hx (by simp), HR.out, Oth.refl _ _, (by unfold rest; show _ = (rulesF 16 512 64 (s.toks.length + 1) 0 s).map (fun l => [] ++ l); cases rulesF 16 512 64 (s.toks.length + 1) 0 s <;> rfl), by omega, by simp⟩
  case round =>
    obtain ⟨acc, s2, m, hown, hin, hr2, ho2, hg, hm, hl⟩ := hrel
    obtain ⟨OA, oc, rfl⟩ := own_slice hown
    have hs0 := HF.out.2.2.2.1
    have hsz2 := ho2.size
    have HM := Lib.hid hr2.msr
    rw [HZ.out] at hg
    obtain ⟨m, rfl⟩ : ∃ k, m = k + 1 := ⟨m - 1, by omega⟩
    cases ht : s2.toks with
    | nil =>
      obtain ⟨A, c, h0⟩ := hr2.noTok ht
      have HE := Lib.hid (hg.out.trans (rest_end ht))
      clear hr2 ht hm hl
      go_wp2
      go_ret
      refine POut.mk HE.out ho2 (by rw [List.length_map]) ?_
      exact rus_of (Row.of_own encR_len (own_er hown) (by omega)) fun x hx => Ex.sub (hin x hx) (sub_pw _ _ _)
    | cons t l =>
      obtain ⟨g, o, c, h0, _, _⟩ := hr2.head ht
      have hne : s2.toks ≠ [] := by rw [ht]; exact List.cons_ne_nil _ _
      have hlen : s2.toks.length = l.length + 1 := by rw [ht]; rfl
      have dl : (0 : Int) < (l.length : Int) + 1 := by omega
      have dl2 : decide ((0 : Int) < (l.length : Int) + 1) = true := decide_eq_true dl
      clear ht
      have CB := Lib.hid (begins_any b s2 0 wr hr2)
      have CF := Lib.hid (fault_any 9 b s2 0 wr hr2)
      have CR := Lib.hid (rule_any b s2 wr hr2)
      have HG2 := Lib.hid hr2.fine.1
      obtain ⟨bg, hbg⟩ : ∃ bg, (isW Tr.wAllow s2.toks || isW Tr.wDeny s2.toks) = bg := ⟨_, rfl⟩
      rw [hbg] at CB
      clear hr2
      have hcases : (((acc.length : Int) == 64) = true ∧ bg = true ∧ acc.length = 64) ∨ (((acc.length : Int) == 64) = true ∧ bg = false) ∨ (((acc.length : Int) == 64) = false ∧ acc.length ≠ 64) := by
        by_cases h64 : acc.length = 64
        · cases bg with
          | true => exact .inl ⟨by rw [h64]; rfl, rfl, h64⟩
          | false => exact .inr (.inl ⟨by rw [h64]; rfl, rfl⟩)
        · exact .inr (.inr ⟨beq_eq_false_iff_ne.2 (by omega), h64⟩)
      rcases hcases with ⟨d64, rfl, h64⟩ | ⟨d64, rfl⟩ | ⟨d64, h64⟩
      · have HE := Lib.hid (hg.out.trans (rest_many hne h64 hbg))
        clear hne h64 hbg hm hl hlen
        go_wp2_with fail
        refine CB.out.mono ?_
        rintro e w3 ⟨rfl, rfl⟩
        go_wp2_with fail
        refine CF.out.mono ?_
        rintro e w4 ⟨rfl, hk⟩
        go_wp2_with fail
        exact ⟨rfl, POut.err HE.out (ho2.keep hk)⟩
      · have HNB := Lib.hid (show ¬ (acc.length = 64 ∧ (isW Tr.wAllow s2.toks || isW Tr.wDeny s2.toks) = true) from fun h => by rw [hbg] at h; exact absurd h.2 (by decide))
        have HNE := Lib.hid hne
        clear hne hbg 
        go_wp2_with fail
        refine CB.out.mono ?_
        rintro e w3 ⟨rfl, rfl⟩
        go_wp2_with fail
        refine CR.out.mono ?_
        rintro e w5 hO
        obtain ⟨ho5, ⟨q, hq, rfl⟩ | ⟨r, s5, v, hq, rfl, hv, hr5⟩⟩ := hO.cases
        · have HE2 := Lib.hid (hg.out.trans (rest_err HNE.out HNB.out hq))
          clear hq hO hm hl hlen
          go_wp2_with fail
          exact ⟨rfl, POut.err HE2.out (ho2.trans ho5)⟩
        · obtain ⟨RA5, rc5, OA5, oc5, rfl, hx5⟩ := hv
          have HE2 := Lib.hid (hg.out.trans (rest_ok (m := m) (acc := acc.map RawR.r) HNE.out HNB.out hq))
          obtain ⟨_, _, _, _, _, hdn5, _, _⟩ := rule_out hq HG2.out
          have hsp := sz_pos r.when_
          have hown5 := own_oth hown hbw ho5
          have hin5 := fun x hx => Ex.sub (hin x hx) (ho5.sub_pw hbw)
          have hsz5 := ho5.size
          have hrow : Row encR 11 (w5.alloc (.cells #[.bool r.allow, .int .i64 (kind r.when_), .int .i64 (field r.when_), .slice RA5 (rs r.when_).length rc5, .float .f64 (lo r.when_), .float .f64 (hi r.when_), .slice OA5 (of r.when_).length oc5, .int .i64 r.num, .int .i64 r.per, .int .i64 r.burst, .int .i64 r.line] 36)) (w5.heap.size + 1) (some ⟨w5.heap.size, 0, none⟩) 1 [⟨r, RA5, rc5, OA5, oc5⟩] := Row.new encR_len w5 36 [⟨r, RA5, rc5, OA5, oc5⟩] #[.bool r.allow, .int .i64 (kind r.when_), .int .i64 (field r.when_), .slice RA5 (rs r.when_).length rc5, .float .f64 (lo r.when_), .float .f64 (hi r.when_), .slice OA5 (of r.when_).length oc5, .int .i64 r.num, .int .i64 r.per, .int .i64 r.burst, .int .i64 r.line] rfl
          have hown6 := hown5.alloc (.cells #[.bool r.allow, .int .i64 (kind r.when_), .int .i64 (field r.when_), .slice RA5 (rs r.when_).length rc5, .float .f64 (lo r.when_), .float .f64 (hi r.when_), .slice OA5 (of r.when_).length oc5, .int .i64 r.num, .int .i64 r.per, .int .i64 r.burst, .int .i64 r.line] 36)
          have hb5 : b < w5.heap.size := by omega
          have HLT := Lib.hid hown.lt
          have hDN := Lib.hid (show s5.toks.length < s2.toks.length by omega)
          have h64' : acc.length ≤ 4096 := by omega
          clear hq hO hown hdn5 hsp
          go_wp2_with (at_builtin; refine append_rows_o rfl _ _ 23 rfl w.heap.size 36 _ 120 Tryz.underlying23 info_rule rfl (by omega) encR_len encR_one _ acc.length acc rfl hown6 (by simp; omega) _ (some ⟨w5.heap.size, 0, none⟩) 1 1 [⟨r, RA5, rc5, OA5, oc5⟩] rfl hrow (by unfold maxLen; omega) (by omega) ?_)
          rintro v6 w6 hown7 hob hgr
          obtain ⟨A6, c6, rfl⟩ := own_slice hown7
          go_wp2_with fail
          have hrow6 : ∀ r, (Value.slice OA acc.length oc).ownBlock = some r → w.heap.size ≤ r := fun r hr => (hown6.lt r hr).1
          have hr6 := (hr5.keep ((Keep.refl w5).alloc (.cells #[.bool r.allow, .int .i64 (kind r.when_), .int .i64 (field r.when_), .slice RA5 (rs r.when_).length rc5, .float .f64 (lo r.when_), .float .f64 (hi r.when_), .slice OA5 (of r.when_).length oc5, .int .i64 r.num, .int .i64 r.per, .int .i64 r.burst, .int .i64 r.line] 36))).grown hgr (fun r hr => by have := hrow6 r hr; omega)
          have hdn := hDN.out
          refine ⟨⟨acc ++ [⟨r, RA5, rc5, OA5, oc5⟩], s5, m, ?_, ?_, hr6, ((ho2.trans ho5).alloc _).grown hgr hrow6, by rw [List.map_append, List.length_append]; exact Lib.hid (HZ.out.trans HE2.out), by omega, by simp; omega⟩, ?_⟩
          · simpa using hown7
          · intro x hx
            rcases List.mem_append.1 hx with hx | hx
            · exact Ex.sub (hin5 x hx) (sub_app hgr hob fun i _ hp => pw_out hp)
            · rw [List.mem_singleton] at hx; subst hx
              exact Ex.sub hx5 (sub_app hgr hob fun i _ hp => by
                have hi := of_decide_eq_false hp
                exact ⟨by omega, fun e => by have := (HLT.out i e).2; omega⟩)
          · rw [hr6.msr, HM.out]; omega
      · have HNB := Lib.hid (show ¬ (acc.length = 64 ∧ (isW Tr.wAllow s2.toks || isW Tr.wDeny s2.toks) = true) from fun h => h64 h.1)
        have HNE := Lib.hid hne
        clear hne hbg 
        go_wp2_with fail
        refine CR.out.mono ?_
        rintro e w5 hO
        obtain ⟨ho5, ⟨q, hq, rfl⟩ | ⟨r, s5, v, hq, rfl, hv, hr5⟩⟩ := hO.cases
        · have HE2 := Lib.hid (hg.out.trans (rest_err HNE.out HNB.out hq))
          clear hq hO hm hl hlen
          go_wp2_with fail
          exact ⟨rfl, POut.err HE2.out (ho2.trans ho5)⟩
        · obtain ⟨RA5, rc5, OA5, oc5, rfl, hx5⟩ := hv
          have HE2 := Lib.hid (hg.out.trans (rest_ok (m := m) (acc := acc.map RawR.r) HNE.out HNB.out hq))
          obtain ⟨_, _, _, _, _, hdn5, _, _⟩ := rule_out hq HG2.out
          have hsp := sz_pos r.when_
          have hown5 := own_oth hown hbw ho5
          have hin5 := fun x hx => Ex.sub (hin x hx) (ho5.sub_pw hbw)
          have hsz5 := ho5.size
          have hrow : Row encR 11 (w5.alloc (.cells #[.bool r.allow, .int .i64 (kind r.when_), .int .i64 (field r.when_), .slice RA5 (rs r.when_).length rc5, .float .f64 (lo r.when_), .float .f64 (hi r.when_), .slice OA5 (of r.when_).length oc5, .int .i64 r.num, .int .i64 r.per, .int .i64 r.burst, .int .i64 r.line] 36)) (w5.heap.size + 1) (some ⟨w5.heap.size, 0, none⟩) 1 [⟨r, RA5, rc5, OA5, oc5⟩] := Row.new encR_len w5 36 [⟨r, RA5, rc5, OA5, oc5⟩] #[.bool r.allow, .int .i64 (kind r.when_), .int .i64 (field r.when_), .slice RA5 (rs r.when_).length rc5, .float .f64 (lo r.when_), .float .f64 (hi r.when_), .slice OA5 (of r.when_).length oc5, .int .i64 r.num, .int .i64 r.per, .int .i64 r.burst, .int .i64 r.line] rfl
          have hown6 := hown5.alloc (.cells #[.bool r.allow, .int .i64 (kind r.when_), .int .i64 (field r.when_), .slice RA5 (rs r.when_).length rc5, .float .f64 (lo r.when_), .float .f64 (hi r.when_), .slice OA5 (of r.when_).length oc5, .int .i64 r.num, .int .i64 r.per, .int .i64 r.burst, .int .i64 r.line] 36)
          have hb5 : b < w5.heap.size := by omega
          have HLT := Lib.hid hown.lt
          have hDN := Lib.hid (show s5.toks.length < s2.toks.length by omega)
          have h64' : acc.length ≤ 4096 := by omega
          clear hq hO hown hdn5 hsp
          go_wp2_with (at_builtin; refine append_rows_o rfl _ _ 23 rfl w.heap.size 36 _ 120 Tryz.underlying23 info_rule rfl (by omega) encR_len encR_one _ acc.length acc rfl hown6 (by simp; omega) _ (some ⟨w5.heap.size, 0, none⟩) 1 1 [⟨r, RA5, rc5, OA5, oc5⟩] rfl hrow (by unfold maxLen; omega) (by omega) ?_)
          rintro v6 w6 hown7 hob hgr
          obtain ⟨A6, c6, rfl⟩ := own_slice hown7
          go_wp2_with fail
          have hrow6 : ∀ r, (Value.slice OA acc.length oc).ownBlock = some r → w.heap.size ≤ r := fun r hr => (hown6.lt r hr).1
          have hr6 := (hr5.keep ((Keep.refl w5).alloc (.cells #[.bool r.allow, .int .i64 (kind r.when_), .int .i64 (field r.when_), .slice RA5 (rs r.when_).length rc5, .float .f64 (lo r.when_), .float .f64 (hi r.when_), .slice OA5 (of r.when_).length oc5, .int .i64 r.num, .int .i64 r.per, .int .i64 r.burst, .int .i64 r.line] 36))).grown hgr (fun r hr => by have := hrow6 r hr; omega)
          have hdn := hDN.out
          refine ⟨⟨acc ++ [⟨r, RA5, rc5, OA5, oc5⟩], s5, m, ?_, ?_, hr6, ((ho2.trans ho5).alloc _).grown hgr hrow6, by rw [List.map_append, List.length_append]; exact Lib.hid (HZ.out.trans HE2.out), by omega, by simp; omega⟩, ?_⟩
          · simpa using hown7
          · intro x hx
            rcases List.mem_append.1 hx with hx | hx
            · exact Ex.sub (hin5 x hx) (sub_app hgr hob fun i _ hp => pw_out hp)
            · rw [List.mem_singleton] at hx; subst hx
              exact Ex.sub hx5 (sub_app hgr hob fun i _ hp => by
                have hi := of_decide_eq_false hp
                exact ⟨by omega, fun e => by have := (HLT.out i e).2; omega⟩)
          · rw [hr6.msr, HM.out]; omega
/-- The panic of a reading, recovered or not. -/
def wrongR (q : Int × Int) (r : Bool) : PanicEntry := { v := .iface 67 (.agg #[.int .i64 q.1, .int .i64 q.2]), recovered := r }
/-- What the deferred function leaves of a reading that was given up. -/
def Caught (b : Nat) (q : Int × Int) (w : World) (older : List PanicEntry) (e : Ending) (u' : FrameMode) (w' : World) : Prop :=
  e = .returned (.tuple #[]) ∧ u' = .panicking (wrongR q true :: older) ∧ (w'.cell? ⟨b, 0, none⟩ = some (.slice none 0 0) ∧ w'.cell? ⟨b + 1, 0, none⟩ = some (.int .i64 q.1) ∧ w'.cell? ⟨b + 2, 0, none⟩ = some (.int .i64 q.2)) ∧ Below b w w'
theorem frame21 (p0 p1 p2 V : Value) : #[p0, p1, p2] ++ ((Array.replicate 18 undef).setIfInBounds 3 V).setIfInBounds 0 V = #[p0, p1, p2, V, undef, undef, V, undef, undef, undef, undef, undef, undef, undef, undef, undef, undef, undef, undef, undef, undef] := by
  apply Array.ext'
  simp [List.replicate]
set_option maxHeartbeats 1000000 in
theorem catch_panicking (b : Nat) (v0 : Value) (x y : Int) (q : Int × Int) (older : List PanicEntry) (w : World) (h0 : w.cell? ⟨b, 0, none⟩ = some v0) (h1 : w.cell? ⟨b + 1, 0, none⟩ = some (.int .i64 x)) (h2 : w.cell? ⟨b + 2, 0, none⟩ = some (.int .i64 y))
    (f0 : w.frozen? ⟨b, 0, none⟩ = false) (f1 : w.frozen? ⟨b + 1, 0, none⟩ = false) (f2 : w.frozen? ⟨b + 2, 0, none⟩ = false) :
    CallsD Tryz.prog 36 #[.pointer (some ⟨b, 0, none⟩), .pointer (some ⟨b + 1, 0, none⟩), .pointer (some ⟨b + 2, 0, none⟩)] (.panicking (wrongR q false :: older)) w (Caught b q w older) := by
  obtain ⟨q1, q2⟩ := q
  have hlt : b + 2 < w.heap.size := lt_of_cell h2
  refine callsD_of_wpS Tryz.func36 rfl fun c₀ cs hu => ?_
  apply wpS_seq
  apply wpS_region
  simp [wpOpsS, go_sem, recoverD, hu, Tryz.ntmps36, Exit.thenS, wrongR]
  refine wpS_of_wp ?_
  have hta : ∀ w : World, (Instr.typeAssert (.iface 67 (.agg #[.int .i64 q1, .int .i64 q2])) 20 67 true).run Tryz.prog w = .ok (.tuple #[.agg #[.int .i64 q1, .int .i64 q2], .bool true]) w := fun w => (by kernel_rfl)
  clear hu
  have HLT := Lib.hid hlt
  have HH := Lib.hid (And.intro h0 (And.intro h1 h2))
  have HF := Lib.hid (And.intro f0 (And.intro f1 f2))
  clear hlt h0 h1 h2 f0 f1 f2
  rw [frame21]
  have k0 : ∀ O, (w.alloc O).cell? ⟨b, 0, none⟩ = some v0 := fun O => (((Keep.refl w).alloc O).cell (p := ⟨b, 0, none⟩) (by show b < _; have := HLT.out; omega)).trans HH.out.1
  have k1 : ∀ O, (w.alloc O).cell? ⟨b + 1, 0, none⟩ = some (.int .i64 x) := fun O => (((Keep.refl w).alloc O).cell (p := ⟨b + 1, 0, none⟩) (by show b + 1 < _; have := HLT.out; omega)).trans HH.out.2.1
  have k2 : ∀ O, (w.alloc O).cell? ⟨b + 2, 0, none⟩ = some (.int .i64 y) := fun O => (((Keep.refl w).alloc O).cell (p := ⟨b + 2, 0, none⟩) (by show b + 2 < _; have := HLT.out; omega)).trans HH.out.2.2
  have e0 : ∀ O, (w.alloc O).frozen? ⟨b, 0, none⟩ = false := fun O => (((Keep.refl w).alloc O).frozen (p := ⟨b, 0, none⟩) (by show b < _; have := HLT.out; omega)).trans HF.out.1
  have e1 : ∀ O, (w.alloc O).frozen? ⟨b + 1, 0, none⟩ = false := fun O => (((Keep.refl w).alloc O).frozen (p := ⟨b + 1, 0, none⟩) (by show b + 1 < _; have := HLT.out; omega)).trans HF.out.2.1
  have e2 : ∀ O, (w.alloc O).frozen? ⟨b + 2, 0, none⟩ = false := fun O => (((Keep.refl w).alloc O).frozen (p := ⟨b + 2, 0, none⟩) (by show b + 2 < _; have := HLT.out; omega)).trans HF.out.2.2
  have n0 : w.heap.size ≠ b := by have := HLT.out; omega
  have n1 : w.heap.size ≠ b + 1 := by have := HLT.out; omega
  have n2 : w.heap.size ≠ b + 2 := by have := HLT.out; omega
  go_wp2
  go_region
  go_wp2
  refine ⟨rfl, .panicking (wrongR (q1, q2) true :: older), rfl, .tuple #[], by simp [results, Tryz.results36, go_sem], rfl, rfl, ⟨?_, ?_, ?_⟩, ?_⟩
  · exact (World.cell?_setCell_other _ _ _ _ (by simp)).trans ((World.cell?_setCell_other _ _ _ _ (by simp)).trans (World.cell?_setCell_same _ _ _ (k0 _)))
  · exact (World.cell?_setCell_other _ _ _ _ (by simp)).trans (World.cell?_setCell_same _ _ _ ((World.cell?_setCell_other _ _ _ _ (by simp)).trans (k1 _)))
  · exact World.cell?_setCell_same _ _ _ ((World.cell?_setCell_other _ _ _ _ (by simp)).trans ((World.cell?_setCell_other _ _ _ _ (by simp)).trans (k2 _)))
  · exact (((((Below.refl b w).alloc (by have := HLT.out; omega) _).setCell (Nat.le_refl _) _).setCell (Nat.le_succ _) _).setCell (by show b ≤ b + 2; omega) _).drew
set_option maxHeartbeats 1000000 in
theorem catch_idle (p q r : Addr) (w : World) :
    CallsD Tryz.prog 36 #[.pointer (some p), .pointer (some q), .pointer (some r)] .returning w fun e u' w' => e = .returned (.tuple #[]) ∧ u' = .returning ∧ w' = w := by
  refine callsD_of_wpS Tryz.func36 rfl fun c₀ cs hu => ?_
  apply wpS_seq
  apply wpS_region
  simp [wpOpsS, go_sem, recoverD, hu, Tryz.ntmps36, Exit.thenS]
  refine wpS_of_wp ?_
  rw [frame21]
  go_wp2
  refine ⟨rfl, .returning, ?_, .tuple #[], by simp [results, Tryz.results36, go_sem], rfl, rfl, rfl⟩
  rw [← hu]
theorem Rus.sub {W W' : World} {A : Option Addr} {l : List RuleP} (h : Rus W A l) (hs : Sub W W') : Rus W' A l := fun hn => by
  obtain ⟨b, off, ea, hb, hc⟩ := h hn
  refine ⟨b, off, ea, Nat.lt_of_lt_of_le hb hs.1, fun k hlt => ?_⟩
  obtain ⟨cs, h1, es, h2, h3, h4⟩ := hc k hlt
  exact ⟨cs, fun j v hv => hs.2 _ _ (h1 j v hv), es, h2, h3, (ex_sub W W' hs _).1 _ _ (Nat.le_refl _) h4⟩
/-- The world with the named results' variables, and the reading. -/
def res4 (w : World) (A : Option Addr) (n c : Nat) : World :=
  (((w.alloc (.cells #[.slice none 0 0] 23)).alloc (.cells #[.int .i64 0] 3)).alloc (.cells #[.int .i64 0] 24)).alloc (.cells #[.slice A n c, .int .i64 0, .int .i64 0] 70)
theorem res4_size (w : World) (A : Option Addr) (n c : Nat) : (res4 w A n c).heap.size = w.heap.size + 4 := by simp [res4]
theorem res4_keep (w : World) (A : Option Addr) (n c : Nat) : Keep w (res4 w A n c) := ((((Keep.refl w).alloc _).alloc _).alloc _).alloc _
theorem res4_cells (w : World) (A : Option Addr) (n c : Nat) : (res4 w A n c).cell? ⟨w.heap.size, 0, none⟩ = some (.slice none 0 0) ∧ (res4 w A n c).cell? ⟨w.heap.size + 1, 0, none⟩ = some (.int .i64 0) ∧ (res4 w A n c).cell? ⟨w.heap.size + 2, 0, none⟩ = some (.int .i64 0) := by
  unfold res4
  refine ⟨?_, ?_, ?_⟩ <;> go_simp
theorem res4_frozen (w : World) (A : Option Addr) (n c : Nat) : (res4 w A n c).frozen? ⟨w.heap.size, 0, none⟩ = false ∧ (res4 w A n c).frozen? ⟨w.heap.size + 1, 0, none⟩ = false ∧ (res4 w A n c).frozen? ⟨w.heap.size + 2, 0, none⟩ = false := by
  unfold res4
  refine ⟨?_, ?_, ?_⟩ <;> go_simp
theorem res4_at (w : World) (A : Option Addr) (c : Nat) (l : List TokP) (hr : Row encT 4 w w.heap.size A l.length l) (hc : l.length ≤ c ∧ c ≤ maxLen) (hf : Fine ⟨l, 0⟩) : RAt (res4 w A l.length c) (w.heap.size + 3) ⟨l, 0⟩ 0 := by
  refine ⟨A, c, ⟨?_, ?_, ?_⟩, ⟨?_, ?_, ?_⟩, (hr.below (Below.mono (res4_keep w A l.length c) (Nat.le_refl _))).more (by omega), hc, hf⟩
  all_goals unfold res4; go_simp
set_option maxHeartbeats 4000000 in
theorem tokens_any (A : Option Addr) (c : Nat) (l : List TokP) (w : World) (hr : Row encT 4 w w.heap.size A l.length l) (hc : l.length ≤ c ∧ c ≤ maxLen) (hf : Fine ⟨l, 0⟩) :
    Calls Tryz.prog 19 #[.slice A l.length c] w (RetRules (Pa.tokens l) w) := by
  have hmf := run_func
  have CP := Lib.hid (policy_any (w.heap.size + 3) ⟨l, 0⟩ _ (res4_at w A c l hr hc hf))
  obtain ⟨Z, hZ⟩ : ∃ Z, Pa.rules 16 512 64 l = Z := ⟨_, rfl⟩
  have HT := Lib.hid (show Pa.tokens l = Pa.answer Z by rw [← hZ]; rfl)
  rw [show rulesF 16 512 64 ((⟨l, 0⟩ : PSt).toks.length + 1) 0 ⟨l, 0⟩ = Z from hZ] at CP
  clear hr hc hf hZ
  go_enter_defers Tryz.func19, Tryz.ntmps19
  go_wp2_with fail
  refine CP.out.mono ?_
  rintro e w5 ⟨ho, hm⟩
  obtain ⟨r0, r1, r2⟩ := res4_cells w A l.length c
  obtain ⟨q0, q1, q2⟩ := res4_frozen w A l.length c
  have hsz := res4_size w A l.length c
  have c0 := (ho.cell (p := ⟨w.heap.size, 0, none⟩) (by show w.heap.size < _; omega) (by simp)).trans r0
  have c1 := (ho.cell (p := ⟨w.heap.size + 1, 0, none⟩) (by show w.heap.size + 1 < _; omega) (by simp)).trans r1
  have c2 := (ho.cell (p := ⟨w.heap.size + 2, 0, none⟩) (by show w.heap.size + 2 < _; omega) (by simp)).trans r2
  have f0 := (ho.frozen (p := ⟨w.heap.size, 0, none⟩) (by show w.heap.size < _; omega) (by simp)).trans q0
  have f1 := (ho.frozen (p := ⟨w.heap.size + 1, 0, none⟩) (by show w.heap.size + 1 < _; omega) (by simp)).trans q1
  have f2 := (ho.frozen (p := ⟨w.heap.size + 2, 0, none⟩) (by show w.heap.size + 2 < _; omega) (by simp)).trans q2
  have hb : Keep w w5 := Below.trans (res4_keep w A l.length c) (ho.below (by omega) (by omega))
  have HS := Lib.hid hsz
  clear r0 r1 r2 q0 q1 q2 hsz ho
  cases Z with
  | ok l' =>
    obtain ⟨A', c', rfl, hru⟩ := hm
    rw [HS.out] at hru
    have HR := Lib.hid hru
    clear hru
    go_wp2
    refine leaves_cons (f := 36) (args := #[.pointer (some ⟨w.heap.size, 0, none⟩), .pointer (some ⟨w.heap.size + 1, 0, none⟩), .pointer (some ⟨w.heap.size + 2, 0, none⟩)]) (by simp) (by simp [go_sem]) ?_
    refine (catch_idle ⟨w.heap.size, 0, none⟩ ⟨w.heap.size + 1, 0, none⟩ ⟨w.heap.size + 2, 0, none⟩ _).mono ?_
    rintro e u' w'' ⟨rfl, rfl, rfl⟩
    have g0 : (((w5.setCell ⟨w.heap.size, 0, none⟩ (.slice A' l'.length c')).setCell ⟨w.heap.size + 1, 0, none⟩ (.int .i64 0)).setCell ⟨w.heap.size + 2, 0, none⟩ (.int .i64 0)).cell? ⟨w.heap.size, 0, none⟩ = some (.slice A' l'.length c') :=
      (World.cell?_setCell_other _ _ _ _ (by simp)).trans ((World.cell?_setCell_other _ _ _ _ (by simp)).trans (World.cell?_setCell_same _ _ _ c0))
    have g1 : (((w5.setCell ⟨w.heap.size, 0, none⟩ (.slice A' l'.length c')).setCell ⟨w.heap.size + 1, 0, none⟩ (.int .i64 0)).setCell ⟨w.heap.size + 2, 0, none⟩ (.int .i64 0)).cell? ⟨w.heap.size + 1, 0, none⟩ = some (.int .i64 0) :=
      (World.cell?_setCell_other _ _ _ _ (by simp)).trans (World.cell?_setCell_same _ _ _ ((World.cell?_setCell_other _ _ _ _ (by simp)).trans c1))
    have g2 : (((w5.setCell ⟨w.heap.size, 0, none⟩ (.slice A' l'.length c')).setCell ⟨w.heap.size + 1, 0, none⟩ (.int .i64 0)).setCell ⟨w.heap.size + 2, 0, none⟩ (.int .i64 0)).cell? ⟨w.heap.size + 2, 0, none⟩ = some (.int .i64 0) :=
      World.cell?_setCell_same _ _ _ ((World.cell?_setCell_other _ _ _ _ (by simp)).trans ((World.cell?_setCell_other _ _ _ _ (by simp)).trans c2))
    have hb3 : Keep w (((w5.setCell ⟨w.heap.size, 0, none⟩ (.slice A' l'.length c')).setCell ⟨w.heap.size + 1, 0, none⟩ (.int .i64 0)).setCell ⟨w.heap.size + 2, 0, none⟩ (.int .i64 0)) := ((hb.setCell (Nat.le_refl _) _).setCell (Nat.le_succ _) _).setCell (by show w.heap.size ≤ w.heap.size + 2; omega) _
    have hs3 : Sub (er (w.heap.size + 4) w5) (((w5.setCell ⟨w.heap.size, 0, none⟩ (.slice A' l'.length c')).setCell ⟨w.heap.size + 1, 0, none⟩ (.int .i64 0)).setCell ⟨w.heap.size + 2, 0, none⟩ (.int .i64 0)) :=
      (((sub_set 0 _ (by omega)).trans (sub_set 0 _ (by omega))).trans (sub_set 0 _ (by omega))).trans (sub_out _ _)
    have hR := Rus.sub HR.out hs3
    generalize ((w5.setCell ⟨w.heap.size, 0, none⟩ (.slice A' l'.length c')).setCell ⟨w.heap.size + 1, 0, none⟩ (.int .i64 0)).setCell ⟨w.heap.size + 2, 0, none⟩ (.int .i64 0) = w9 at g0 g1 g2 hb3 hs3 hR
    have HRR := Lib.hid hR
    clear c0 c1 c2 f0 f1 f2 hb hs3 hR hmf HR
    simp [Leaves, settle, results, Tryz.results19, go_sem, g0, g1, g2]
    rw [HT.out]
    exact ⟨A', c', rfl, HRR.out, hb3⟩
  | error q =>
    obtain rfl : e = .panicked [wrongR q false] := hm
    go_wp2
    refine leaves_cons (f := 36) (args := #[.pointer (some ⟨w.heap.size, 0, none⟩), .pointer (some ⟨w.heap.size + 1, 0, none⟩), .pointer (some ⟨w.heap.size + 2, 0, none⟩)]) (by simp) (by simp [go_sem]) ?_
    refine (catch_panicking w.heap.size _ 0 0 q [] w5 c0 c1 c2 f0 f1 f2).mono ?_
    rintro e u' w'' ⟨rfl, rfl, ⟨g0, g1, g2⟩, hb2⟩
    have hb3 : Keep w w'' := Below.trans hb hb2
    clear c0 c1 c2 f0 f1 f2 hb hmf hb2
    simp [Leaves, settle, wrongR, results, Tryz.results19, go_sem, g0, g1, g2]
    rw [HT.out]
    exact ⟨none, 0, rfl, fun h => absurd h (by show ¬ 0 < ([] : List RuleP).length; decide), hb3⟩
end Go.Proofs.YtmcgflpgkkophaaGreatDoor.Pm
namespace Go.Proofs.YtmcgflpgkkophaaGreatDoor.Parse
set_option linter.unusedVariables false
open Go.ChangeShapes Go.WideShapes Go.ChangeAt Go.RowKit
open Pm
theorem text_in : ∀ {r : List TokP} {t : TokP}, t ∈ r → (bl t.text).length ≤ (Lx.texts r).length
  | k :: l, t, h => by
    rw [Lx.texts_cons, List.length_append, List.length_cons]
    rcases List.mem_cons.1 h with rfl | h
    · omega
    · have := text_in h; omega
/-- What Split tells may be read. -/
theorem split_fine (s : List UInt8) : Fine ⟨(Lx.split s).1, 0⟩ := by
  unfold Lx.split
  by_cases hl : 4096 < s.length
  · rw [if_pos hl]
    exact ⟨fun k hk => absurd hk (by simp), fun k hk => absurd hk (by simp), by decide, by decide, fun k hk => absurd hk (by simp)⟩
  · rw [if_neg hl]
    cases hg : Lx.go s 1 with
    | error e => exact ⟨fun k hk => absurd hk (by simp), fun k hk => absurd hk (by simp), Nat.zero_le _, Nat.zero_le _, fun k hk => absurd hk (by simp)⟩
    | ok r =>
      refine ⟨Pa.go_tokG hg, fun t ht => ?_, by show (0 : Nat) ≤ 512; omega, ?_, fun k hk => good_tok (Lx.go_good _ s 1 r (Nat.le_refl _) hg k hk)⟩
      · obtain ⟨_, h2⟩ := Lx.go_size _ s 1 r (Nat.le_refl _) hg
        have := text_in (show t ∈ r from ht)
        have hb := bl_length t.text
        omega
      · have := (Lx.go_size _ s 1 r (Nat.le_refl _) hg).1
        show r.length ≤ 4096
        omega
set_option maxHeartbeats 2000000 in
theorem text_any (s : ByteArray) (w : World) (hs : s.size ≤ maxLen) :
    Calls Tryz.prog 9 #[.string s] w (Pa.RetRules (Pa.text (bl s)) w) := by
  have C1 := Lib.hid (Lexs.split_cap s w hs)
  have HF := Lib.hid (split_fine (bl s))
  have HT := Lib.hid (show Pa.text (bl s) = if (Lx.split (bl s)).2.2 = 0 then Pa.tokens (Lx.split (bl s)).1 else ([], (Lx.split (bl s)).2.1, (Lx.split (bl s)).2.2) from rfl)
  obtain ⟨x, hx⟩ : ∃ x, Lx.split (bl s) = x := ⟨_, rfl⟩
  rw [hx] at C1 HF HT
  obtain ⟨l, line, e⟩ := x
  clear hx
  go_enter Tryz.func9, Tryz.ntmps9
  go_wp2_with fail
  refine C1.out.mono ?_
  rintro e1 w1 ⟨A, n, c, rfl, hr, hk, _, hc⟩
  obtain rfl : l.length = n := hr.1
  by_cases h0 : e = 0
  · subst h0
    have HE := Lib.hid (show Pa.text (bl s) = Pa.tokens l from HT.out.trans (if_pos rfl))
    have C2 := Lib.hid (tokens_any A c l w1 hr hc HF.out)
    clear hr hc
    go_wp2_with fail
    refine C2.out.mono ?_
    rintro e2 w2 ⟨A2, c2, rfl, hR, hk2⟩
    have HR := Lib.hid hR
    clear hR
    go_wp2
    (try simp only [Exit.inBlock, Exit.then])
    refine bodyPost_ret (results_tmp3 rfl _ _ _) rfl ⟨A2, c2, by rw [HE.out]; rfl, by rw [HE.out]; exact HR.out, hk.trans hk2⟩
  · have d0 : (e == 0) = false := beq_eq_false_iff_ne.2 h0
    have HE := Lib.hid (show Pa.text (bl s) = ([], line, e) from HT.out.trans (if_neg h0))
    clear hr hc h0
    go_wp2
    (try simp only [Exit.inBlock, Exit.then])
    refine bodyPost_ret (results_tmp3 rfl _ _ _) rfl ⟨none, 0, by rw [HE.out]; rfl, by rw [HE.out]; exact fun h => absurd h (by show ¬ 0 < ([] : List RuleP).length; decide), hk⟩
end Go.Proofs.YtmcgflpgkkophaaGreatDoor.Parse
