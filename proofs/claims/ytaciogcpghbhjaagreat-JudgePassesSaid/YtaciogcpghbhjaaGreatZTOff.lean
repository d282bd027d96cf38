/- Of these texts: Off. Conditions: as each part says. -/
import Derived.Test.YtaciogcpghbhjaaGreatZTNdA
import Derived.Test.YtaciogcpghbhjaaGreatZTBox
/- Worlds without the box that a region makes: what reads there lies apart from it. Conditions: none. -/
namespace Go.Proofs.YtaciogcpghbhjaaGreat
set_option linter.unusedVariables false
open Go.ChangeShapes Go.WideShapes Go.ChangeAt Go.RowKit
open Nd (erp erp_size erp_get erp_no erp_cell_no erp_cell lt_of_cell Sub sub_out NOwn pw Flat Nds RetNodes)
open Rel (FreshO)
def off : Option Nat -> World -> World
 | none, W => W
 | some b, W => erp (fun i => i == b) W
theorem off_size (β : Option Nat) (W : World) : (off β W).heap.size = W.heap.size := by
 cases β with
 | none => rfl
 | some b => exact erp_size _ _
theorem off_sub (β : Option Nat) (W : World) : Sub (off β W) W := by
 cases β with
 | none => exact Sub.refl _
 | some b => exact sub_out _ _
theorem off_keep {W W' : World} (β : Option Nat) (h : Keep W W') : Keep (off β W) (off β W') := by
 cases β with
 | none => exact h
 | some b =>
   refine ⟨h.os, h.tape, h.output, by rw [off_size, off_size]; exact h.size, fun k hk => ?_⟩
   rw [off_size] at hk
   show (erp _ W').heap[k]? = (erp _ W).heap[k]?
   rw [erp_get, erp_get, h.block k hk]
theorem off_alloc (W : World) (O : Obj) : Keep W (off (some W.heap.size) (W.alloc O)) := by
 have h := (Keep.refl W).alloc O
 refine ⟨h.os, h.tape, h.output, by rw [off_size]; exact h.size, fun k hk => ?_⟩
 show (erp _ _).heap[k]? = _
 rw [erp_no _ (by simp; omega), h.block k hk]
theorem set_other {b k : Nat} (h : k ≠ b) : ∀ (vs : List Value) (o : Nat) (W : World), (W.setCells b o vs).heap[k]? = W.heap[k]?
 | [], _, _ => rfl
 | v :: r, o, W => by
   show ((W.setCell ⟨b, o, none⟩ v).setCells b (o + 1) r).heap[k]? = _
   rw [set_other h r (o + 1), Below.heap_setCell _ _ _ _ h]
theorem off_sets (b : Nat) (vs : List Value) (W : World) : Keep (off (some b) W) (off (some b) (W.setCells b 0 vs)) := by
 have hk := Rel.keep_setCells (X := { W with heap := #[] }) (b := b) (Nat.zero_le _) vs 0 (W := W) ⟨rfl, rfl, rfl, Nat.zero_le _, fun k hk => absurd hk (by simp)⟩
 refine ⟨hk.os, hk.tape, hk.output, by rw [off_size, off_size, Rel.setCells_size]; exact Nat.le_refl _, fun k _ => ?_⟩
 show (erp _ _).heap[k]? = (erp _ _).heap[k]?
 rw [erp_get, erp_get]
 by_cases h : k = b
 ·subst h
  have e : ((W.setCells k 0 vs).heap[k]?).isSome = (W.heap[k]?).isSome := by
   rw [Bool.eq_iff_iff]
   simp [Rel.setCells_size]
  cases h1 : (W.setCells k 0 vs).heap[k]? <;> cases h2 : W.heap[k]? <;> rw [h1, h2] at e <;> simp at e ⊢
 ·rw [set_other h]
theorem keep_off {X W : World} {β : Option Nat} (hf : FreshO X β W) (h : Keep X W) : Keep X (off β W) := by
 cases β with
 | none => exact h
 | some b =>
   have := (hf b rfl).1
   refine ⟨h.os, h.tape, h.output, by rw [off_size]; exact h.size, fun k hk => ?_⟩
   show (erp _ _).heap[k]? = _
   rw [erp_no _ (by simp; omega), h.block k hk]
theorem ints_off {W : World} {b : Nat} {k : IntKind} {A : Option Addr} {n : Nat} {zs : List Int} (h : Ints k W W.heap.size A n zs) (hne : 0 < n -> ∀ p, A = some p -> p.block ≠ b) : Ints k (off (some b) W) (off (some b) W).heap.size A n zs :=
 ⟨h.1, fun hn => by
  obtain ⟨g, o, e, hg, hc⟩ := h.2 hn
  have := hne hn _ e
  refine ⟨g, o, e, by rw [off_size]; exact hg, fun j hj => ?_⟩
  show (erp _ W).cell? _ = _
  rw [erp_cell_no W (by simpa using this)]
  exact hc j hj⟩
theorem ints_apart {W : World} {b : Nat} {k : IntKind} {A : Option Addr} {n B : Nat} {zs : List Int} (h : Ints k (off (some b) W) B A n zs) (hn : 0 < n) : ∀ p, A = some p -> p.block ≠ b := fun p hp => by
 obtain ⟨g, o, e, hg, hc⟩ := h.2 hn
 rw [e] at hp
 injection hp with hp
 subst hp
 have := (erp_cell (hc 0 hn)).1
 simpa using this
theorem ints_on {W : World} {β : Option Nat} {k : IntKind} {A : Option Addr} {n : Nat} {zs : List Int} (h : Ints k (off β W) (off β W).heap.size A n zs) : Ints k W W.heap.size A n zs :=
 ⟨h.1, fun hn => by
  obtain ⟨g, o, e, hg, hc⟩ := h.2 hn
  exact ⟨g, o, e, by rw [off_size] at hg; exact hg, fun j hj => (off_sub β W).2 _ _ (hc j hj)⟩⟩
theorem ints_fresh {X w w' : World} {β : Option Nat} {k : IntKind} {A : Option Addr} {n : Nat} {zs : List Int} (hf : FreshO X β w) (hr : FreshR w A n) (h : Ints k w' w'.heap.size A n zs) : Ints k (off β w') (off β w').heap.size A n zs := by
 cases β with
 | none => exact h
 | some b =>
   exact ints_off h fun hn p hp => by
    have h1 := hr hn p hp
    have h2 := (hf b rfl).2
    omega
theorem nodes_off {b B : Nat} {v : Value} {l : List NodeP} {w : World} (hb : b < B) (h : NOwn B v l w) : NOwn B v l (off (some b) w) := by
 obtain ⟨raws, h1, h2, h3⟩ := h
 refine ⟨raws, h1, ?_, fun x hx => (h3 x hx).sub (Nd.sub_mk (by rw [off_size]; exact Nat.le_refl _) fun i hi hp => ⟨hp, ?_⟩)⟩
 ·refine h2.kept (row := some b) ⟨rfl, rfl, rfl, by rw [off_size]; exact Nat.le_refl _, fun i hi hne => ?_⟩ ?_
  ·show (erp _ _).heap[i]? = _
   rw [erp_no _ (by simpa using fun e => hne (by rw [e]))]
  ·cases hv : v.ownBlock with
   | none => exact .inl rfl
   | some r =>
     have := (h2.lt r hv).1
     exact .inr (by intro e; injection e with e; omega)
 ·show (erp _ _).heap[i]? = _
  have := (Nd.pw_out hp).1
  rw [erp_no _ (by simp; omega)]
theorem nodes_fresh {X w w' : World} {β : Option Nat} {v : Value} {l : List NodeP} (hf : FreshO X β w) (h : NOwn w.heap.size v l w') : NOwn w.heap.size v l (off β w') := by
 cases β with
 | none => exact h
 | some b => exact nodes_off (hf b rfl).2 h
theorem sub_keep {W W' : World} (h : Keep W W') : Sub W W' := ⟨h.size, fun p v e => (Below.cell h (lt_of_cell e)).trans e⟩
def NdsF (W : World) (A : Option Addr) (n : Nat) (l : List NodeP) : Prop :=
 ∃ raws : List Nd.RawN, raws.map Nd.RawN.n = l ∧ Row Nd.encN 10 W W.heap.size A n raws ∧ ∀ x ∈ raws, Flat W x.n.atom x.RA
theorem NdsF.sub {W W' : World} {A : Option Addr} {n : Nat} {l : List NodeP} (h : NdsF W A n l) (hs : Sub W W') : NdsF W' A n l := by
 obtain ⟨raws, h1, h2, h3⟩ := h
 exact ⟨raws, h1, Nd.row_sub h2 hs, fun x hx => (h3 x hx).sub hs⟩
theorem NdsF.kept {W W' : World} {A : Option Addr} {n : Nat} {l : List NodeP} (h : NdsF W A n l) (hk : Keep W W') : NdsF W' A n l := h.sub (sub_keep hk)
theorem NdsF.nds {W : World} {A : Option Addr} {n : Nat} {l : List NodeP} (h : NdsF W A n l) : Nds W A n l := by
 obtain ⟨raws, h1, h2, h3⟩ := h
 exact ⟨raws, h1, h2, fun x hx => (h3 x hx).ex _⟩
theorem NdsF.of_own {B : Nat} {A : Option Addr} {n c : Nat} {l : List NodeP} {w : World} (h : NOwn B (.slice A n c) l w) : NdsF w A l.length l := by
 obtain ⟨raws, rfl, h2, h3⟩ := h
 obtain ⟨A', c', e⟩ := own_slice h2
 injection e with e1 e2 e3
 subst e1 e2 e3
 rw [List.length_map]
 exact ⟨raws, rfl, Row.of_own Nd.encN_len h2 (by omega), fun x hx => (h3 x hx).sub (sub_out _ _)⟩
theorem wp_region_off {P : Program} {id : Nat} {Q : Exit -> Act -> World -> Prop} {a : Act} {w : World} {l : List Oper} (n : Nat) (p x : Tmp) (T : TypeId) (zc : Array Value) (D : List Tmp) (R : Tmp -> Value -> World -> Prop) (hm : P.follows .mixedOrders = true) (hB : Rel.boxB D a.tmps.size n p x T l = true)
  (hz : ∀ W, (zeroValue T).run P W = .ok (.agg zc) W) (hi : (P.info? T).map (·.size) = some zc.size)
  (hR : ∀ d ∈ D, ∀ v W W', Keep W W' -> R d v W -> R d v W')
  (hx : ∀ v W, R x v W -> ∃ cs : Array Value, v = .agg cs ∧ cs.size = zc.size ∧ cs.all (·.oneCell') = true)
  (h : ∃ z : Act, (∀ Y β, Keep w Y -> FreshO w β Y -> Rel.wpRel P l.toArray Y D (fun d v W => R d v (off β W)) (fun c => c = z) (l.take n ++ l.drop (n + 2)) a) ∧
   ∀ V b W, Keep w W -> w.heap.size <= b -> b < W.heap.size -> (∃ cs : Array Value, cs.size = zc.size ∧ W.there b 0 zc.size ∧ W.rangeAt b 0 cs.toList ∧ R x (.agg cs) (off (some b) W)) -> (∀ d ∈ D, R d (V d) (off (some b) W)) ->
     Q .normal ((Rel.fill D V z).put (some p) (Rel.ptr b)) W) : (Code.region id l.toArray true).wp P Q a w := by
 obtain ⟨z, h1, h2⟩ := h
 exact Rel.wp_region_box n p x T zc D (fun β d v W => R d v (off β W)) hm hB hz hi (fun β d hd v W W' _ hk hr => hR d hd v _ _ (off_keep β hk) hr)
  (fun d hd v W _ hr => hR d hd v _ _ (off_alloc W _) hr) (fun d hd v b vs W _ _ _ hr => hR d hd v _ _ (off_sets b vs W) hr) (fun b v W hr => hx v _ hr) ⟨z, h1, fun V b W hk hb1 hb2 hl hr => h2 V b W hk hb1 hb2 hl hr⟩
end Go.Proofs.YtaciogcpghbhjaaGreat
