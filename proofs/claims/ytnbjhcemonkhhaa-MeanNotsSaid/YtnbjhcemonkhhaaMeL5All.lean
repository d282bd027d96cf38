/- Several texts in one: Seg, Raw, MeL5. Conditions: as each part says. -/
import Derived.Test.YtnbjhcemonkhhaaKept
import Derived.StillTail
import Derived.Deep.RegionHeld
import Derived.Test.YtnbjhcemonkhhaaTrJ
import Derived.Test.YtnbjhcemonkhhaaRow2
import Derived.Test.YtnbjhcemonkhhaaBx
import Derived.Test.YtnbjhcemonkhhaaMeL2
import Derived.Test.YtnbjhcemonkhhaaMeQ3
import Derived.Test.YtnbjhcemonkhhaaMeQ4
import Derived.Test.YtnbjhcemonkhhaaMeQ5
import Derived.Deep.RegionHeld3
import Derived.Deep.Cut
/- A region that draws its order, taken in pieces: a head whose operations read, or call what keeps all old blocks; then whatever stands behind it; and, behind that, again what reads and calls, in any order of listing. Conditions: the program follows mixed orders. -/
namespace Go.Proofs.Ytnbjhcemonkhhaa
set_option linter.unusedVariables false
open Go.ChangeShapes Go.WideShapes Go.ChangeAt Go.RowKit
section
variable {P : Program} {ops : Array Oper} {md : Region.Mode} {C : World → Prop}
/-- Each operation of the head is waited for, up to its last one; each behind it waits for that one, or for one behind it. -/
def barB (md : Region.Mode) (ops : Array Oper) (n : Nat) : Bool :=
  decide (0 < n) && ((List.range (n - 1)).all (fun i => (List.range n).any fun j => decide (i < j) && Region.waitsFor md ops j i)) &&
  ((List.range ops.size).all fun t => decide (t < n) || (List.range t).any fun s => decide (n - 1 ≤ s) && Region.waitsFor md ops t s)
theorem bar_waits {n : Nat} {listed : Array Bool} (hb : barB md ops n = true) (hn : n ≤ ops.size) (inv : HeadInv md ops n listed) {i : Nat} (hi : i < n) (hun : listed.getD i true = false) :
    ∀ t, n ≤ t → t ∉ Region.ready md ops listed := by
  simp only [barB, Bool.and_eq_true, decide_eq_true_eq] at hb
  obtain ⟨⟨h0, hs⟩, hc⟩ := hb
  intro t ht hr
  obtain ⟨_, ot, hot, hall⟩ := mem_ready.1 hr
  have htlt : t < ops.size := (Array.getElem?_eq_some_iff.1 hot).1
  have h1 := List.all_eq_true.1 hc t (List.mem_range.2 htlt)
  simp only [Bool.or_eq_true, decide_eq_true_eq] at h1
  rcases h1 with h1 | h1
  · omega
  obtain ⟨s, hsr, h2⟩ := List.any_eq_true.1 h1
  simp only [Bool.and_eq_true, decide_eq_true_eq] at h2
  obtain ⟨h2, h3⟩ := h2
  have hst : s < t := List.mem_range.1 hsr
  obtain ⟨o', ho', e, he, hbi, hon⟩ := Region.waitsFor_spec h3
  have : o' = ot := Option.some.inj (ho'.symm.trans hot)
  subst this
  have h4 := hall e he hbi
  rw [hon] at h4
  have h5 : s = n - 1 := by
    rcases Nat.lt_or_ge s n with h | h
    · omega
    · rw [getD_both (inv.tail s h (by omega))] at h4; cases h4
  subst h5
  have key : ∀ d k, n - 1 - k = d → k < n → listed.getD k false = true := by
    intro d
    induction d using Nat.strongRecOn with
    | _ d ih =>
      intro k hd hk
      by_cases hkn : k = n - 1
      · rw [hkn]; exact h4
      · obtain ⟨j, hj, hj2⟩ := List.any_eq_true.1 (List.all_eq_true.1 hs k (List.mem_range.2 (by omega)))
        simp only [Bool.and_eq_true, decide_eq_true_eq] at hj2
        have hjn := List.mem_range.1 hj
        obtain ⟨oj, hoj, e', he', hb', hon'⟩ := Region.waitsFor_spec hj2.2
        have := inv.closed j oj hoj (ih (n - 1 - j) (by omega) j rfl hjn) e' he' hb'
        rwa [hon'] at this
  have := key _ i rfl hi
  rw [getD_both hun] at this
  cases this
/-- Whatever order the head's operations come in. -/
def segQ (P : Program) (md : Region.Mode) (ops : Array Oper) (C : World → Prop) (n : Nat) (L : Array Bool → Act → Prop) : Nat → Array Bool → Act → Prop
  | 0, t, a => L t a
  | f + 1, t, a => Region.ready md ops t ≠ [] ∧ ∀ i ∈ Region.ready md ops t, i < n ∧ qOp P ops C i (segQ P md ops C n L f (t.setIfInBounds i true)) a
theorem any_of_segQ {n g : Nat} {L : Array Bool → Act → Prop} {Q : Exit → Act → World → Prop} (hL : ∀ t a w, C w → L t a → wpAny P md ops Q g t a w) :
    ∀ (f : Nat) (t : Array Bool) (a : Act) (w : World), C w → segQ P md ops C n L f t a → wpAny P md ops Q (f + g) t a w
  | 0, t, a, w, hw, h => by rw [Nat.zero_add]; exact hL _ _ _ hw h
  | f + 1, t, a, w, hw, h => by
    rw [show f + 1 + g = (f + g) + 1 by omega]
    exact ⟨fun h0 => absurd h0 h.1, fun i hi => wpOp_of_qOp hw (fun a' w' hw' h' => any_of_segQ hL f _ a' w' hw' h') (h.2 i hi).2⟩
theorem segQ_first {n i : Nat} {oi : Oper} {v : Value} {L : Array Bool → Act → Prop} (hi : ops[i]? = some oi) (hsel : ∀ (j : Nat) (o : Oper) cs b, ops[j]? = some o → o.op ≠ .select cs b)
    (hb : barB md ops n = true) (hn : n ≤ ops.size) (hin : i < n) (hend : ∀ t a, L t a → ∀ j ∈ Region.ready md ops t, n ≤ j) :
    ∀ (f : Nat) (t : Array Bool) (a : Act), HeadInv md ops n t →
      (∀ j oj, ops[j]? = some oj → j ≠ i → t.getD j true = false → (∀ e ∈ oj.after, Region.binds md e = true → e.on ≠ i) → oi.apart ops oj = true) →
      i ∈ Region.ready md ops t → YieldsIn P ops C oi v a → segQ P md ops C n L f (t.setIfInBounds i true) (a.put oi.dst v) → segQ P md ops C n L (f + 1) t a := by
  intro f
  induction f with
  | zero =>
    intro t a inv _ hr hy H
    have hun := (mem_ready.1 hr).1
    refine ⟨fun h => (by rw [h] at hr; cases hr), fun j hj => ?_⟩
    have hjn : j < n := Nat.lt_of_not_le fun h => bar_waits hb hn inv hin hun j h hj
    refine ⟨hjn, ?_⟩
    by_cases hji : j = i
    · subst hji; exact hy.qOp hi H
    · exact absurd (hend _ _ H j (ready_mono hj hji)) (by omega)
  | succ f ih =>
    intro t a inv hfree hr hy H
    have hun := (mem_ready.1 hr).1
    refine ⟨fun h => (by rw [h] at hr; cases hr), fun j hj => ?_⟩
    have hjn : j < n := Nat.lt_of_not_le fun h => bar_waits hb hn inv hin hun j h hj
    refine ⟨hjn, ?_⟩
    by_cases hji : j = i
    · subst hji; exact hy.qOp hi H
    · obtain ⟨hjun, oj, hoj, hall⟩ := mem_ready.1 hj
      have hnot : ∀ e ∈ oj.after, Region.binds md e = true → e.on ≠ i := fun e he hb heq => by
        have h1 := hall e he hb
        rw [heq, getD_both hun] at h1
        cases h1
      have hfree' : ∀ k ok, ops[k]? = some ok → k ≠ i → (t.setIfInBounds j true).getD k true = false → (∀ e ∈ ok.after, Region.binds md e = true → e.on ≠ i) → oi.apart ops ok = true := fun k ok hk hki hun' hno => by
        refine hfree k ok hk hki ?_ hno
        by_cases hjk : j = k
        · subst hjk; exact hjun
        · rwa [getD_set_ne true hjk] at hun'
      refine qOp_mono (fun a' h3 => ih (t.setIfInBounds j true) a' (inv.set hj hjn) hfree' (ready_mono hr (Ne.symm hji)) h3.1 ?_) (qOp_put hoj (hfree j oj hoj hji hjun hnot) (fun cs b => hsel i oi cs b hi) (fun cs b => hsel j oj cs b hoj) hy (H.2 j (ready_mono hj hji)).2)
      rw [Array.setIfInBounds_comm _ _ hji]
      exact h3.2
/-- The head in the listed order, and what is listed behind it. -/
def segTo (md : Region.Mode) (ops : Array Oper) (T : Array Bool) : Nat → Nat → Array Bool → Bool
  | 0, _, listed => decide (listed = T)
  | f + 1, k, listed => (Region.ready md ops listed).contains k && Region.free md ops listed k && segTo md ops T f (k + 1) (listed.setIfInBounds k true)
theorem segQ_lex {n : Nat} {T : Array Bool} {R : Act → Prop} (hsel : Region.noSelect ops = true) (hb : barB md ops n = true) (hn : n ≤ ops.size) (hT : ∀ j ∈ Region.ready md ops T, n ≤ j) :
    ∀ (l : List Oper) (k : Nat) (t : Array Bool) (a : Act), (∀ j, j < l.length → l[j]? = ops[k + j]?) → k + l.length = n → HeadInv md ops n t → segTo md ops T l.length k t = true → wpQuiet P ops C R l a →
    segQ P md ops C n (fun t' a' => t' = T ∧ R a') l.length t a
  | [], k, t, a, _, hk, _, hB, h => ⟨by simpa [segTo] using hB, h⟩
  | o :: l, k, t, a, hl, hk, inv, hB, h => by
    have h0 : ops[k]? = some o := by simpa using (hl 0 (by simp)).symm
    simp only [List.length_cons, segTo, Bool.and_eq_true] at hB
    obtain ⟨⟨hr, hf⟩, hB'⟩ := hB
    have hkn : k < n := by simp only [List.length_cons] at hk; omega
    have hr' : k ∈ Region.ready md ops t := by simpa using hr
    obtain ⟨v, hy, hK⟩ := yieldsIn_of_qOp h0 (show qOp P ops C k (wpQuiet P ops C R l) a by unfold qOp; simp only [h0]; exact h)
    exact segQ_first h0 (Region.noSelect_spec hsel) hb hn hkn (fun t' a' hL => by rw [hL.1]; exact hT) l.length t a inv (Region.free_spec h0 hf) hr' hy
      (segQ_lex hsel hb hn hT l (k + 1) _ _ (fun j hj => by have := hl (j + 1) (by simp; omega); simpa [Nat.add_assoc, Nat.add_comm 1 j] using this) (by simp only [List.length_cons] at hk; omega) (inv.set hr' hkn) hB' hK)
def segB (md : Region.Mode) (ops : Array Oper) (n g : Nat) (T : Array Bool) : Bool :=
  Region.noSelect ops && decide (n + g = ops.size) && barB md ops n && (Region.ready md ops T).all (fun j => decide (n ≤ j)) && segTo md ops T n 0 (Array.replicate ops.size false)
end
/-- The head's walk, then, in whatever world it left, what stands behind it, in whatever order. -/
theorem wp_region_seg {P : Program} {id : Nat} {Q : Exit → Act → World → Prop} {a : Act} {w : World} {l : List Oper} {C : World → Prop} (n g : Nat) (T : Array Bool) (hm : P.follows .mixedOrders = true) (hB : segB .any l.toArray n g T = true) (hC : C w.drew)
    (h : wpQuiet P l.toArray C (fun a' => ∀ w', C w' → wpAny P .any l.toArray Q g T a' w') (l.take n) a) : (Code.region id l.toArray true).wp P Q a w := by
  simp only [segB, Bool.and_eq_true, decide_eq_true_eq] at hB
  obtain ⟨⟨⟨⟨hsel, hng⟩, hb⟩, hT⟩, hlex⟩ := hB
  have hsz : l.toArray.size = l.length := by simp
  have hn' : n ≤ l.length := by omega
  have htl : (l.take n).length = n := by rw [List.length_take]; omega
  have inv0 : HeadInv .any l.toArray n (Array.replicate l.toArray.size false) :=
    ⟨by simp, fun j oj _ hl => (by rw [getD_replicate_false] at hl; cases hl), fun t _ ht => getD_in (by simpa using ht) (getD_replicate_false _ _)⟩
  have H := segQ_lex (md := .any) hsel hb (by omega) (fun j hj => by have := List.all_eq_true.1 hT j hj; simpa using this) (l.take n) 0 _ a (fun j hj => by
    have hj' : j < n := by rw [htl] at hj; exact hj
    simp [hj']) (by simpa using htl) inv0 (by rw [htl]; exact hlex) h
  refine wp_region_any hm ?_
  have := any_of_segQ (C := C) (Q := Q) (g := g) (fun t a' w' hw' hL => by rw [hL.1]; exact hL.2 w' hw') _ _ _ _ hC H
  rw [htl, hng] at this
  exact this
/-- The same at the class of worlds in which every block of w stands. -/
theorem wp_region_kept_seg {P : Program} {id : Nat} {Q : Exit → Act → World → Prop} {a : Act} {w : World} {l : List Oper} (n g : Nat) (T : Array Bool) (hm : P.follows .mixedOrders = true) (hB : segB .any l.toArray n g T = true)
    (h : wpQuiet P l.toArray (fun w' => ∃ p : KeptOf w, w' = p.w) (fun a' => ∀ p : KeptOf w, wpAny P .any l.toArray Q g T a' p.w) (l.take n) a) : (Code.region id l.toArray true).wp P Q a w :=
  wp_region_seg (C := fun w' => ∃ p : KeptOf w, w' = p.w) n g T hm hB ⟨⟨w.drew, ((Quiet.refl w).drew).keep⟩, rfl⟩ (by
    have hr : (fun a' => ∀ w', (∃ p : KeptOf w, w' = p.w) → wpAny P .any l.toArray Q g T a' w') = fun a' => ∀ p : KeptOf w, wpAny P .any l.toArray Q g T a' p.w := by
      funext a'
      exact propext ⟨fun h p => h _ ⟨p, rfl⟩, fun h w' ⟨p, hp⟩ => hp ▸ h p⟩
    rw [hr]; exact h)
section
variable {P : Program} {ops : Array Oper} {md : Region.Mode} {C S : World → Prop}
/-- What is quiet may stand behind what was held. -/
theorem held_of_quiet {Q : Act → Prop} {Q' : Exit → Act → World → Prop} (hS : ∀ w, C w → S w) (hQ : ∀ a w, C w → Q a → Q' .normal a w) : ∀ (fuel : Nat) (listed : Array Bool) (a : Act) (w : World), C w →
    wpAnyQ P md ops C Q fuel listed a → wpAnyH P md ops Q' S fuel listed a w
  | 0, _, _, _, hw, h => ⟨h.1, hQ _ _ hw h.2⟩
  | fuel + 1, _, _, _, hw, h => ⟨fun h0 => hQ _ _ hw (h.1 h0), fun i hi => wpOp_of_qOp hw (fun a' w' hw' h' => ⟨hS _ hw', held_of_quiet hS hQ fuel _ a' w' hw' h'⟩) (h.2 i hi)⟩
/-- Operations by their numbers, each free when its turn comes. -/
def idxB (md : Region.Mode) (ops : Array Oper) : List Nat → Array Bool → Bool
  | [], listed => (Region.ready md ops listed).isEmpty
  | k :: is, listed => (Region.ready md ops listed).contains k && Region.free md ops listed k && idxB md ops is (listed.setIfInBounds k true)
theorem quiet_idx {Q : Act → Prop} (hs : Region.noSelect ops = true) : ∀ (is : List Nat) (l : List Oper) (listed : Array Bool) (a : Act), l.map some = is.map (fun i => ops[i]?) →
    idxB md ops is listed = true → wpQuiet P ops C Q l a → wpAnyQ P md ops C Q is.length listed a
  | [], [], _, _, _, hB, h => ⟨by simpa [idxB] using hB, h⟩
  | [], o :: l, _, _, hl, _, _ => by simp at hl
  | k :: is, [], _, _, hl, _, _ => by simp at hl
  | k :: is, o :: l, listed, a, hl, hB, h => by
    simp only [List.map_cons, List.cons.injEq] at hl
    have h0 : ops[k]? = some o := hl.1.symm
    simp only [idxB, Bool.and_eq_true] at hB
    obtain ⟨⟨hr, hf⟩, hB'⟩ := hB
    have hst : qOp P ops C k (wpQuiet P ops C Q l) a := by unfold qOp; simp only [h0]; exact h
    obtain ⟨v, hy, hK⟩ := yieldsIn_of_qOp h0 hst
    exact wpAnyQ_first h0 (Region.noSelect_spec hs) is.length listed a (Region.free_spec h0 hf) (by simpa using hr) hy (quiet_idx hs is l _ _ hl.2 hB' hK)
end
/-- What is left reads and calls: one walk. -/
theorem held_kept {P : Program} {ops : Array Oper} {Q : Exit → Act → World → Prop} {S : World → Prop} {fuel : Nat} {listed : Array Bool} {a : Act} {w : World} (is : List Nat) (l : List Oper) (hs : Region.noSelect ops = true) (hl : l.map some = is.map (fun i => ops[i]?)) (hf : is.length = fuel)
    (hB : idxB .any ops is listed = true) (hS : ∀ p : KeptOf w, S p.w)
    (h : wpQuiet P ops (fun w' => ∃ p : KeptOf w, w' = p.w) (fun a' => ∀ w', (∃ p : KeptOf w, w' = p.w) → Q .normal a' w') l a) : wpAnyH P .any ops Q S fuel listed a w := by
  subst hf
  exact held_of_quiet (C := fun w' => ∃ p : KeptOf w, w' = p.w) (fun _ ⟨p, hp⟩ => hp ▸ hS p) (fun a' w' hw' h => h w' hw') _ _ _ _ ⟨⟨w, Keep.refl w⟩, rfl⟩ (quiet_idx hs is l listed a hl hB h)
/-- The same, the list told by what is left of the region's: without its first n, and without those that are crossed out. -/
theorem held_kept_drop {P : Program} {l : List Oper} {Q : Exit → Act → World → Prop} {S : World → Prop} {fuel : Nat} {listed : Array Bool} {a : Act} {w : World} (n : Nat) (er is : List Nat) (hs : Region.noSelect l.toArray = true)
    (hl : (er.foldl (fun l i => l.eraseIdx i) (l.drop n)).map some = is.map (fun i => l.toArray[i]?)) (hf : is.length = fuel)
    (hB : idxB .any l.toArray is listed = true) (hS : ∀ p : KeptOf w, S p.w)
    (h : wpQuiet P l.toArray (fun w' => ∃ p : KeptOf w, w' = p.w) (fun a' => ∀ w', (∃ p : KeptOf w, w' = p.w) → Q .normal a' w') (er.foldl (fun l i => l.eraseIdx i) (l.drop n)) a) : wpAnyH P .any l.toArray Q S fuel listed a w :=
  held_kept is _ hs hl hf hB hS h
end Go.Proofs.Ytnbjhcemonkhhaa
/- Rules and expressions as they lie in memory: rows of cells beside what they tell. Conditions: none. -/
namespace Go.Proofs.Ytnbjhcemonkhhaa.Raw
set_option linter.unusedVariables false
open Go.ChangeShapes Go.WideShapes Go.ChangeAt Go.RowKit
open Tr
/-- An expression as it lies in memory. -/
structure RawE where
  e : ExprP
  RA : Option Addr
  rc : Nat
  OA : Option Addr
  oc : Nat
def encE (x : RawE) : List Value := [.int .i64 (kind x.e), .int .i64 (field x.e), .slice x.RA (rs x.e).length x.rc, .float .f64 (lo x.e), .float .f64 (hi x.e), .slice x.OA (of x.e).length x.oc]
theorem encE_len (x : RawE) : (encE x).length = 6 := rfl
theorem encE_one (x : RawE) : ∀ v ∈ encE x, v.oneCell' = true := by
  intro v hv
  simp [encE] at hv
  rcases hv with rfl | rfl | rfl | rfl | rfl | rfl <;> rfl
theorem info_expr : (Try.prog.info? 43).map (fun i => (i.zero, i.size, i.bytes)) = some (some (.agg #[.int .i64 0, .int .i64 0, .slice none 0 0, .float .f64 0, .float .f64 0, .slice none 0 0]), 6, 80) := by kernel_rfl
theorem raws_ofE {W : World} {A : Option Addr} {l : List ExprP} (h : Exs W A l) : ∃ raws : List RawE, raws.map RawE.e = l ∧ Row encE 6 W W.heap.size A l.length raws ∧ ∀ x ∈ raws, Ex W x.e x.RA x.OA := by
  rcases Nat.eq_zero_or_pos l.length with h0 | hp
  · obtain rfl := List.eq_nil_of_length_eq_zero h0
    exact ⟨[], rfl, Row.none_ _ _ _, fun x hx => by cases hx⟩
  · obtain ⟨b, off, rfl, hb⟩ := h.addr hp
    obtain ⟨raws, hl, hr⟩ := choose_list l.length (fun i (x : RawE) => x.e = l.getD i zero ∧ ElemAt W x.e x.RA x.OA x.rc x.oc b (off + i * 6) ∧ Ex W x.e x.RA x.OA) (fun i hi => by
      obtain ⟨_, RA, OA, rc, oc, hat, hx⟩ := h.elem i hi
      exact ⟨⟨l.getD i zero, RA, rc, OA, oc⟩, rfl, hat, hx⟩)
    refine ⟨raws, ?_, ⟨hl, fun _ => ⟨b, off, rfl, hb, fun j hj i v hv => ?_⟩⟩, fun x hx => ?_⟩
    · refine List.ext_getElem (by rw [List.length_map, hl]) fun i h1 h2 => ?_
      have := (hr i _ (List.getElem?_eq_getElem (by omega))).1
      rw [List.getElem_map, this, List.getD_eq_getElem?_getD, List.getElem?_eq_getElem h2]; rfl
    · obtain ⟨_, ⟨a0, a1, a2, a3, a4, a5⟩, _⟩ := hr j _ (List.getElem?_eq_getElem hj)
      match i, hv with
      | 0, hv => simp [encE] at hv; subst hv; exact a0
      | 1, hv => simp [encE] at hv; subst hv; exact a1
      | 2, hv => simp [encE] at hv; subst hv; exact a2
      | 3, hv => simp [encE] at hv; subst hv; exact a3
      | 4, hv => simp [encE] at hv; subst hv; exact a4
      | 5, hv => simp [encE] at hv; subst hv; exact a5
      | i + 6, hv => simp [encE] at hv
    · obtain ⟨j, hj, rfl⟩ := List.mem_iff_getElem.1 hx
      exact (hr j _ (List.getElem?_eq_getElem hj)).2.2
theorem exs_of {W : World} {A : Option Addr} {n : Nat} {raws : List RawE} (h : Row encE 6 W W.heap.size A n raws) (hx : ∀ x ∈ raws, Ex W x.e x.RA x.OA) : Exs W A (raws.map RawE.e) := fun hn => by
  rw [List.length_map] at hn
  have hl := h.1
  obtain ⟨b, off, rfl, hb⟩ := h.addr (by omega)
  obtain ⟨_, hc⟩ := h.cells (by omega)
  refine ⟨b, off, rfl, hb, exsIn_mk W _ b _ off fun k hk => ?_⟩
  rw [List.length_map] at hk
  have e1 : (raws.map RawE.e).getD k zero = raws[k].e := by
    rw [List.getD_eq_getElem?_getD, List.getElem?_eq_getElem (by rw [List.length_map]; exact hk), List.getElem_map]; rfl
  rw [e1]
  have he := hx _ (List.getElem_mem (h := hk))
  exact ⟨encE raws[k], fun j v hv => hc k (by omega) j v hv, he.into _ _⟩
/-- A rule as it lies in memory. -/
structure RawR where
  r : RuleP
  RA : Option Addr
  rc : Nat
  OA : Option Addr
  oc : Nat
def encR (x : RawR) : List Value := [.bool x.r.allow, .int .i64 (kind x.r.when_), .int .i64 (field x.r.when_), .slice x.RA (rs x.r.when_).length x.rc, .float .f64 (lo x.r.when_), .float .f64 (hi x.r.when_), .slice x.OA (of x.r.when_).length x.oc, .int .i64 x.r.num, .int .i64 x.r.per, .int .i64 x.r.burst, .int .i64 x.r.line]
theorem encR_len (x : RawR) : (encR x).length = 11 := rfl
theorem encR_one (x : RawR) : ∀ v ∈ encR x, v.oneCell' = true := by
  intro v hv
  simp [encR] at hv
  rcases hv with rfl | rfl | rfl | rfl | rfl | rfl | rfl | rfl | rfl | rfl | rfl <;> rfl
theorem info_rule : (Try.prog.info? 52).map (fun i => (i.zero, i.size, i.bytes)) = some (some (.agg #[.bool false, .int .i64 0, .int .i64 0, .slice none 0 0, .float .f64 0, .float .f64 0, .slice none 0 0, .int .i64 0, .int .i64 0, .int .i64 0, .int .i64 0]), 11, 120) := by kernel_rfl
theorem raws_of {W : World} {A : Option Addr} {l : List RuleP} (h : Rus W A l) : ∃ raws : List RawR, raws.map RawR.r = l ∧ Row encR 11 W W.heap.size A l.length raws ∧ ∀ x ∈ raws, Ex W x.r.when_ x.RA x.OA := by
  rcases Nat.eq_zero_or_pos l.length with h0 | hp
  · obtain rfl := List.eq_nil_of_length_eq_zero h0
    exact ⟨[], rfl, Row.none_ _ _ _, fun x hx => by cases hx⟩
  · obtain ⟨b, off, rfl, hb⟩ := h.addr hp
    obtain ⟨raws, hl, hr⟩ := choose_list l.length (fun i (x : RawR) => x.r = l.getD i zeroR ∧ RuleAt W x.r x.RA x.OA x.rc x.oc b (off + i * 11) ∧ Ex W x.r.when_ x.RA x.OA) (fun i hi => by
      obtain ⟨_, RA, OA, rc, oc, hat, hx⟩ := h.elem i hi
      exact ⟨⟨l.getD i zeroR, RA, rc, OA, oc⟩, rfl, hat, hx⟩)
    refine ⟨raws, ?_, ⟨hl, fun _ => ⟨b, off, rfl, hb, fun j hj i v hv => ?_⟩⟩, fun x hx => ?_⟩
    · refine List.ext_getElem (by rw [List.length_map, hl]) fun i h1 h2 => ?_
      have := (hr i _ (List.getElem?_eq_getElem (by omega))).1
      rw [List.getElem_map, this, List.getD_eq_getElem?_getD, List.getElem?_eq_getElem h2]; rfl
    · obtain ⟨_, ⟨a0, a1, a2, a3, a4, a5, a6, a7, a8, a9, a10⟩, _⟩ := hr j _ (List.getElem?_eq_getElem hj)
      match i, hv with
      | 0, hv => simp [encR] at hv; subst hv; exact a0
      | 1, hv => simp [encR] at hv; subst hv; exact a1
      | 2, hv => simp [encR] at hv; subst hv; exact a2
      | 3, hv => simp [encR] at hv; subst hv; exact a3
      | 4, hv => simp [encR] at hv; subst hv; exact a4
      | 5, hv => simp [encR] at hv; subst hv; exact a5
      | 6, hv => simp [encR] at hv; subst hv; exact a6
      | 7, hv => simp [encR] at hv; subst hv; exact a7
      | 8, hv => simp [encR] at hv; subst hv; exact a8
      | 9, hv => simp [encR] at hv; subst hv; exact a9
      | 10, hv => simp [encR] at hv; subst hv; exact a10
      | i + 11, hv => simp [encR] at hv
    · obtain ⟨j, hj, rfl⟩ := List.mem_iff_getElem.1 hx
      exact (hr j _ (List.getElem?_eq_getElem hj)).2.2
theorem rus_of {W : World} {A : Option Addr} {n : Nat} {raws : List RawR} (h : Row encR 11 W W.heap.size A n raws) (hx : ∀ x ∈ raws, Ex W x.r.when_ x.RA x.OA) : Rus W A (raws.map RawR.r) := fun hn => by
  rw [List.length_map] at hn
  have hl := h.1
  obtain ⟨b, off, rfl, hb⟩ := h.addr (by omega)
  obtain ⟨_, hc⟩ := h.cells (by omega)
  refine ⟨b, off, rfl, hb, fun k hk => ?_⟩
  rw [List.length_map] at hk
  rw [List.getElem_map]
  have he := hx _ (List.getElem_mem (h := hk))
  exact ⟨encR raws[k], fun j v hv => hc k (by omega) j v hv, _, rfl, rfl, he.into _ _⟩
end Go.Proofs.Ytnbjhcemonkhhaa.Raw
/- Layer 15's law MeanNots. Conditions: none beyond the law's own. -/
namespace Go.Proofs.Ytnbjhcemonkhhaa.Mean
set_option linter.unusedVariables false
set_option linter.unusedSimpArgs false
set_option maxRecDepth 100000
open Go.ChangeShapes Go.WideShapes Go.ChangeAt Go.RowKit
open Tr (kind field rs lo hi of zero zeroR dp dp_of dp_pos Ex Exs ExIn ElemAt Rus RuleAt RulesIn ExprsIn wf wfL wfL_mk fits fitsL_mk wfR getD_mem all_snoc all_no ret_bool small_fits opens_expr)
open Fa (FaAt)
open Raw
open Me
/-- What is made of such as may be. -/
theorem ok_node {ls : List ExprP} {k : Int} (hk : (k = 2 ∧ ls.length = 1) ∨ ((k = 3 ∨ k = 4) ∧ ls.length = 2)) (h : ∀ e ∈ ls, okX e ∧ kind e ≠ 0) : okX (.mk k 0 [] 0 0 ls) := by
  refine ⟨⟨?_, ?_⟩, ?_, ?_⟩
  · rw [wf]
    refine ⟨⟨by rcases hk with ⟨rfl, _⟩ | ⟨rfl | rfl, _⟩ <;> decide, by decide⟩, fun p hp => by (cases hp), ⟨by decide, by decide⟩, ⟨by unfold maxLen; simp, by unfold maxLen; omega⟩, wfL_mk fun e he => (h e he).1.1.1⟩
  · rw [fits]
    exact ⟨⟨by simp, by omega⟩, ⟨by decide, by decide⟩, fitsL_mk fun e he => (h e he).1.1.2⟩
  · intro N
    cases N with
    | zero => trivial
    | succ N => exact ⟨by show 0 ≤ 100000; omega, fun y hy => (h y hy).1.2.1 N⟩
  · have hm : Tr.manyR k ls.length = true := by
      unfold Tr.manyR
      rcases hk with ⟨rfl, h1⟩ | ⟨hk, h1⟩
      · rw [if_neg (by decide), if_pos rfl, h1]; rfl
      · rw [if_neg (by omega), if_neg (by omega), if_pos hk, h1]; rfl
    have hr : Tr.rightL ls = true := by
      rw [Tr.rightL_all, List.all_eq_true]
      intro e he
      have := h e he
      simp only [Bool.and_eq_true, Bool.not_eq_true', beq_eq_false_iff_ne]
      exact ⟨this.2, this.1.2.2⟩
    rw [Tr.right, if_neg (by omega), hm, hr]
    rfl
theorem row_of_bx {α : Type} {enc : α → List Value} {k : Nat} (hk : ∀ x, (enc x).length = k) {W : World} {q : Nat} {zs : List α} (h : Bx W q (flat enc zs)) : Row enc k W W.heap.size (some ⟨q, 0, none⟩) zs.length zs :=
  ⟨rfl, fun _ => ⟨q, 0, rfl, h.1, fun j hj i v hv => by
    have hi : i < k := by
      have := (List.getElem?_eq_some_iff.1 hv).1
      rwa [hk] at this
    have := h.2 (j * k + i) v (by rw [flat_get hk zs j hj i hi]; exact hv)
    rw [Nat.zero_add]; exact this⟩⟩
/-- A slice of expressions that was just made. -/
theorem exs_bx {W : World} {q : Nat} (l : List RawE) (h : Bx W q (flat encE l)) (hx : ∀ x ∈ l, Ex W x.e x.RA x.OA) : Exs W (some ⟨q, 0, none⟩) (l.map RawE.e) := exs_of (row_of_bx encE_len h) hx
theorem ex_node {W : World} {q : Nat} {k : Int} {ls : List ExprP} (h : Exs W (some ⟨q, 0, none⟩) ls) : Ex W (.mk k 0 [] 0 0 ls) none (some ⟨q, 0, none⟩) := ⟨Row.none_ _ _ _, h⟩
/-- One over a: its box, and its parts'. -/
def One (W : World) (q : Nat) (a : ExprP) (RA OA : Option Addr) (ra oa : Nat) : Prop := ∃ s, Bx W q [.int .i64 2, .int .i64 0, .slice none 0 0, .float .f64 0, .float .f64 0, .slice (some ⟨s, 0, none⟩) 1 1] ∧ Bx W s [.int .i64 (kind a), .int .i64 (field a), .slice RA (rs a).length ra, .float .f64 (lo a), .float .f64 (hi a), .slice OA (of a).length oa]
theorem One.kept {W W' : World} {q : Nat} {a : ExprP} {RA OA : Option Addr} {ra oa : Nat} (h : One W q a RA OA ra oa) (hk : Keep W W') : One W' q a RA OA ra oa := by
  obtain ⟨s, h1, h2⟩ := h
  exact ⟨s, h1.kept hk, h2.kept hk⟩
def Two (k : Int) (W : World) (q : Nat) (a b : ExprP) (RA OA RB OB : Option Addr) (ra oa rb ob : Nat) : Prop := ∃ s, Bx W q [.int .i64 k, .int .i64 0, .slice none 0 0, .float .f64 0, .float .f64 0, .slice (some ⟨s, 0, none⟩) 2 2] ∧ Bx W s [.int .i64 (kind a), .int .i64 (field a), .slice RA (rs a).length ra, .float .f64 (lo a), .float .f64 (hi a), .slice OA (of a).length oa, .int .i64 (kind b), .int .i64 (field b), .slice RB (rs b).length rb, .float .f64 (lo b), .float .f64 (hi b), .slice OB (of b).length ob]
theorem Two.kept {k : Int} {W W' : World} {q : Nat} {a b : ExprP} {RA OA RB OB : Option Addr} {ra oa rb ob : Nat} (h : Two k W q a b RA OA RB OB ra oa rb ob) (hk : Keep W W') : Two k W' q a b RA OA RB OB ra oa rb ob := by
  obtain ⟨s, h1, h2⟩ := h
  exact ⟨s, h1.kept hk, h2.kept hk⟩
theorem one_exs {W : World} {s : Nat} {a : ExprP} {RA OA : Option Addr} {ra oa : Nat} (h : Bx W s [.int .i64 (kind a), .int .i64 (field a), .slice RA (rs a).length ra, .float .f64 (lo a), .float .f64 (hi a), .slice OA (of a).length oa]) (hx : Ex W a RA OA) : Exs W (some ⟨s, 0, none⟩) [a] :=
  exs_bx [⟨a, RA, ra, OA, oa⟩] h (fun x hm => by simp at hm; subst hm; exact hx)
theorem two_exs {W : World} {s : Nat} {a b : ExprP} {RA OA RB OB : Option Addr} {ra oa rb ob : Nat} (h : Bx W s [.int .i64 (kind a), .int .i64 (field a), .slice RA (rs a).length ra, .float .f64 (lo a), .float .f64 (hi a), .slice OA (of a).length oa, .int .i64 (kind b), .int .i64 (field b), .slice RB (rs b).length rb, .float .f64 (lo b), .float .f64 (hi b), .slice OB (of b).length ob]) (hx : Ex W a RA OA) (hy : Ex W b RB OB) : Exs W (some ⟨s, 0, none⟩) [a, b] :=
  exs_bx [⟨a, RA, ra, OA, oa⟩, ⟨b, RB, rb, OB, ob⟩] h (fun x hm => by simp at hm; rcases hm with rfl | rfl <;> assumption)
set_option maxHeartbeats 64000000 in
theorem nots_any (a : ExprP) (RA OA : Option Addr) (ra oa : Nat) (b : ExprP) (RB OB : Option Addr) (rb ob : Nat) (x : FactsP) (SA VA QA : Option Addr) (c1 c2 c3 : Nat) (w : World) (hEa : Ex w a RA OA) (hwa : wf a) (hEb : Ex w b RB OB) (hwb : wf b) (hF : FIn w x SA VA QA c3) :
    Calls Try.prog 5 #[.agg #[.int .i64 (kind a), .int .i64 (field a), .slice RA (rs a).length ra, .float .f64 (lo a), .float .f64 (hi a), .slice OA (of a).length oa], .agg #[.int .i64 (kind b), .int .i64 (field b), .slice RB (rs b).length rb, .float .f64 (lo b), .float .f64 (hi b), .slice OB (of b).length ob], .agg #[.int .i64 x.cl, .int .i64 x.un, .int .i64 x.fc, .slice SA x.sp.length c1, .slice VA x.vs.length c2, .slice QA x.rg.length c3]] w fun e' w' => e' = .returned (.bool true) ∧ Keep w w' := by
  obtain ⟨hFa, h3, h3m⟩ := hF
  have CW := Lib.hid (fun W => awake_any W)
  obtain ⟨X, hX⟩ : ∃ X, X = ((w.alloc (.cells #[.int .i64 (kind a), .int .i64 (field a), .slice RA (rs a).length ra, .float .f64 (lo a), .float .f64 (hi a), .slice OA (of a).length oa] 43)).alloc (.cells #[.int .i64 (kind b), .int .i64 (field b), .slice RB (rs b).length rb, .float .f64 (lo b), .float .f64 (hi b), .slice OB (of b).length ob] 43)).alloc (.cells #[.int .i64 x.cl, .int .i64 x.un, .int .i64 x.fc, .slice SA x.sp.length c1, .slice VA x.vs.length c2, .slice QA x.rg.length c3] 36) := ⟨_, rfl⟩
  have hkX : Keep w X := by rw [hX]; exact (((Keep.refl w).alloc _).alloc _).alloc _
  have bA : Bx X w.heap.size [.int .i64 (kind a), .int .i64 (field a), .slice RA (rs a).length ra, .float .f64 (lo a), .float .f64 (hi a), .slice OA (of a).length oa] := by rw [hX]; exact ((Bx.newq rfl).alloc _).alloc _
  have bB : Bx X (w.heap.size + 1) [.int .i64 (kind b), .int .i64 (field b), .slice RB (rs b).length rb, .float .f64 (lo b), .float .f64 (hi b), .slice OB (of b).length ob] := by rw [hX]; exact (Bx.newq (by simp)).alloc _
  have bF : Bx X (w.heap.size + 1 + 1) [.int .i64 x.cl, .int .i64 x.un, .int .i64 x.fc, .slice SA x.sp.length c1, .slice VA x.vs.length c2, .slice QA x.rg.length c3] := by rw [hX]; exact Bx.newq (by simp)
  have HA := Lib.hid (show ∀ W, Keep X W → Bx W w.heap.size [.int .i64 (kind a), .int .i64 (field a), .slice RA (rs a).length ra, .float .f64 (lo a), .float .f64 (hi a), .slice OA (of a).length oa] from fun W hk => bA.kept hk)
  have HB := Lib.hid (show ∀ W, Keep X W → Bx W (w.heap.size + 1) [.int .i64 (kind b), .int .i64 (field b), .slice RB (rs b).length rb, .float .f64 (lo b), .float .f64 (hi b), .slice OB (of b).length ob] from fun W hk => bB.kept hk)
  have HF := Lib.hid (show ∀ W, Keep X W → Bx W (w.heap.size + 1 + 1) [.int .i64 x.cl, .int .i64 x.un, .int .i64 x.fc, .slice SA x.sp.length c1, .slice VA x.vs.length c2, .slice QA x.rg.length c3] from fun W hk => bF.kept hk)
  have hXa := hEa.kept hkX
  have hXb := hEb.kept hkX
  have hFX := hFa.kept hkX
  have CSa := Lib.hid (fun W (hk : Keep X W) => Tr.small_any (dp a) a RA OA ra oa 4 W (Nat.le_refl _) (by omega) (by omega) (hXa.kept hk))
  have CSb := Lib.hid (fun W (hk : Keep X W) => Tr.small_any (dp b) b RB OB rb ob 4 W (Nat.le_refl _) (by omega) (by omega) (hXb.kept hk))
  have CFF := Lib.hid (fun W => few_any x SA VA QA c1 c2 c3 W)
  clear bA bB bF hEa hEb hFa
  cases hsa : Tr.small a 4
  · rw [hsa] at CSa
    clear hsa
    go_enter Try.func5, Try.ntmps5
    go_wp2_with fail
    rw [← hX]
    clear hX
    refine (CSa.out _ (Keep.refl _)).mono ?_
    rintro e8 w8 ⟨rfl, t8⟩
    go_wp2_with fail
    refine (CW.out _).mono ?_
    rintro e9 w9 ⟨rfl, k9⟩
    go_wp2
    go_ret
    exact ⟨rfl, (hkX.trans t8).trans k9⟩
  rw [hsa] at CSa
  have hfa := (small_fits (dp a) a 4 (Nat.le_refl _) hwa hsa).1
  have CRa := Lib.hid (fun W (hk : Keep X W) => Tr.right_any (dp a) a RA OA ra oa W (Nat.le_refl _) hfa (hXa.kept hk))
  cases hsb : Tr.small b 4
  · rw [hsb] at CSb
    clear hsb hsa
    go_enter Try.func5, Try.ntmps5
    go_wp2_with fail
    rw [← hX]
    clear hX
    refine (CSa.out _ (Keep.refl _)).mono ?_
    rintro e1 w1 ⟨rfl, t1⟩
    have k1 := t1
    obtain ⟨xa0, xa1, xa2, xa3, xa4, xa5⟩ := (HA.out _ k1).six
    obtain ⟨xb0, xb1, xb2, xb3, xb4, xb5⟩ := (HB.out _ k1).six
    obtain ⟨xf0, xf1, xf2, xf3, xf4, xf5⟩ := (HF.out _ k1).six
    go_wp2_with fail
    refine (CSb.out _ k1).mono ?_
    rintro e8 w8 ⟨rfl, t8⟩
    go_wp2_with fail
    refine (CW.out _).mono ?_
    rintro e9 w9 ⟨rfl, k9⟩
    go_wp2
    go_ret
    exact ⟨rfl, (hkX.trans (k1.trans t8)).trans k9⟩
  rw [hsb] at CSb
  have hfb := (small_fits (dp b) b 4 (Nat.le_refl _) hwb hsb).1
  have CRb := Lib.hid (fun W (hk : Keep X W) => Tr.right_any (dp b) b RB OB rb ob W (Nat.le_refl _) hfb (hXb.kept hk))
  cases hra : Tr.right a
  · rw [hra] at CRa
    clear hsb hsa hra
    go_enter Try.func5, Try.ntmps5
    go_wp2_with fail
    rw [← hX]
    clear hX
    refine (CSa.out _ (Keep.refl _)).mono ?_
    rintro e1 w1 ⟨rfl, t1⟩
    have k1 := t1
    obtain ⟨xa0, xa1, xa2, xa3, xa4, xa5⟩ := (HA.out _ k1).six
    obtain ⟨xb0, xb1, xb2, xb3, xb4, xb5⟩ := (HB.out _ k1).six
    obtain ⟨xf0, xf1, xf2, xf3, xf4, xf5⟩ := (HF.out _ k1).six
    go_wp2_with fail
    refine (CSb.out _ k1).mono ?_
    rintro e2 w2 ⟨rfl, t2⟩
    have k2 := k1.trans t2
    clear xa0 xa1 xa2 xa3 xa4 xa5 xb0 xb1 xb2 xb3 xb4 xb5 xf0 xf1 xf2 xf3 xf4 xf5
    obtain ⟨xa0, xa1, xa2, xa3, xa4, xa5⟩ := (HA.out _ k2).six
    obtain ⟨xb0, xb1, xb2, xb3, xb4, xb5⟩ := (HB.out _ k2).six
    obtain ⟨xf0, xf1, xf2, xf3, xf4, xf5⟩ := (HF.out _ k2).six
    go_wp2_with fail
    refine (CRa.out _ k2).mono ?_
    rintro e8 w8 ⟨rfl, t8⟩
    go_wp2_with fail
    refine (CW.out _).mono ?_
    rintro e9 w9 ⟨rfl, k9⟩
    go_wp2
    go_ret
    exact ⟨rfl, (hkX.trans (k2.trans t8)).trans k9⟩
  rw [hra] at CRa
  cases hrb : Tr.right b
  · rw [hrb] at CRb
    clear hsb hsa hra hrb
    go_enter Try.func5, Try.ntmps5
    go_wp2_with fail
    rw [← hX]
    clear hX
    refine (CSa.out _ (Keep.refl _)).mono ?_
    rintro e1 w1 ⟨rfl, t1⟩
    have k1 := t1
    obtain ⟨xa0, xa1, xa2, xa3, xa4, xa5⟩ := (HA.out _ k1).six
    obtain ⟨xb0, xb1, xb2, xb3, xb4, xb5⟩ := (HB.out _ k1).six
    obtain ⟨xf0, xf1, xf2, xf3, xf4, xf5⟩ := (HF.out _ k1).six
    go_wp2_with fail
    refine (CSb.out _ k1).mono ?_
    rintro e2 w2 ⟨rfl, t2⟩
    have k2 := k1.trans t2
    clear xa0 xa1 xa2 xa3 xa4 xa5 xb0 xb1 xb2 xb3 xb4 xb5 xf0 xf1 xf2 xf3 xf4 xf5
    obtain ⟨xa0, xa1, xa2, xa3, xa4, xa5⟩ := (HA.out _ k2).six
    obtain ⟨xb0, xb1, xb2, xb3, xb4, xb5⟩ := (HB.out _ k2).six
    obtain ⟨xf0, xf1, xf2, xf3, xf4, xf5⟩ := (HF.out _ k2).six
    go_wp2_with fail
    refine (CRa.out _ k2).mono ?_
    rintro e3 w3 ⟨rfl, t3⟩
    have k3 := k2.trans t3
    clear xa0 xa1 xa2 xa3 xa4 xa5 xb0 xb1 xb2 xb3 xb4 xb5 xf0 xf1 xf2 xf3 xf4 xf5
    obtain ⟨xa0, xa1, xa2, xa3, xa4, xa5⟩ := (HA.out _ k3).six
    obtain ⟨xb0, xb1, xb2, xb3, xb4, xb5⟩ := (HB.out _ k3).six
    obtain ⟨xf0, xf1, xf2, xf3, xf4, xf5⟩ := (HF.out _ k3).six
    go_wp2_with fail
    refine (CRb.out _ k3).mono ?_
    rintro e8 w8 ⟨rfl, t8⟩
    go_wp2_with fail
    refine (CW.out _).mono ?_
    rintro e9 w9 ⟨rfl, k9⟩
    go_wp2
    go_ret
    exact ⟨rfl, (hkX.trans (k3.trans t8)).trans k9⟩
  rw [hrb] at CRb
  have oka := okX_of hwa hsa hra
  have okb := okX_of hwb hsb hrb
  clear hsa hsb hra hrb hfa hfb hwa hwb
  by_cases hza : kind a = 0
  · have qa : (kind a == 0) = true := by simpa using hza
    clear hza
    go_enter Try.func5, Try.ntmps5
    go_wp2_with fail
    rw [← hX]
    clear hX
    refine (CSa.out _ (Keep.refl _)).mono ?_
    rintro e1 w1 ⟨rfl, t1⟩
    have k1 := t1
    obtain ⟨xa0, xa1, xa2, xa3, xa4, xa5⟩ := (HA.out _ k1).six
    obtain ⟨xb0, xb1, xb2, xb3, xb4, xb5⟩ := (HB.out _ k1).six
    obtain ⟨xf0, xf1, xf2, xf3, xf4, xf5⟩ := (HF.out _ k1).six
    go_wp2_with fail
    refine (CSb.out _ k1).mono ?_
    rintro e2 w2 ⟨rfl, t2⟩
    have k2 := k1.trans t2
    clear xa0 xa1 xa2 xa3 xa4 xa5 xb0 xb1 xb2 xb3 xb4 xb5 xf0 xf1 xf2 xf3 xf4 xf5
    obtain ⟨xa0, xa1, xa2, xa3, xa4, xa5⟩ := (HA.out _ k2).six
    obtain ⟨xb0, xb1, xb2, xb3, xb4, xb5⟩ := (HB.out _ k2).six
    obtain ⟨xf0, xf1, xf2, xf3, xf4, xf5⟩ := (HF.out _ k2).six
    go_wp2_with fail
    refine (CRa.out _ k2).mono ?_
    rintro e3 w3 ⟨rfl, t3⟩
    have k3 := k2.trans t3
    clear xa0 xa1 xa2 xa3 xa4 xa5 xb0 xb1 xb2 xb3 xb4 xb5 xf0 xf1 xf2 xf3 xf4 xf5
    obtain ⟨xa0, xa1, xa2, xa3, xa4, xa5⟩ := (HA.out _ k3).six
    obtain ⟨xb0, xb1, xb2, xb3, xb4, xb5⟩ := (HB.out _ k3).six
    obtain ⟨xf0, xf1, xf2, xf3, xf4, xf5⟩ := (HF.out _ k3).six
    go_wp2_with fail
    refine (CRb.out _ k3).mono ?_
    rintro e4 w4 ⟨rfl, t4⟩
    have k4 := k3.trans t4
    clear xa0 xa1 xa2 xa3 xa4 xa5 xb0 xb1 xb2 xb3 xb4 xb5 xf0 xf1 xf2 xf3 xf4 xf5
    obtain ⟨xa0, xa1, xa2, xa3, xa4, xa5⟩ := (HA.out _ k4).six
    obtain ⟨xb0, xb1, xb2, xb3, xb4, xb5⟩ := (HB.out _ k4).six
    obtain ⟨xf0, xf1, xf2, xf3, xf4, xf5⟩ := (HF.out _ k4).six
    go_wp2_with fail
    refine (CW.out _).mono ?_
    rintro e9 w9 ⟨rfl, k9⟩
    go_wp2
    go_ret
    exact ⟨rfl, (hkX.trans k4).trans k9⟩
  have qa : (kind a == 0) = false := by simpa using hza
  by_cases hzb : kind b = 0
  · have qb : (kind b == 0) = true := by simpa using hzb
    clear hzb hza
    go_enter Try.func5, Try.ntmps5
    go_wp2_with fail
    rw [← hX]
    clear hX
    refine (CSa.out _ (Keep.refl _)).mono ?_
    rintro e1 w1 ⟨rfl, t1⟩
    have k1 := t1
    obtain ⟨xa0, xa1, xa2, xa3, xa4, xa5⟩ := (HA.out _ k1).six
    obtain ⟨xb0, xb1, xb2, xb3, xb4, xb5⟩ := (HB.out _ k1).six
    obtain ⟨xf0, xf1, xf2, xf3, xf4, xf5⟩ := (HF.out _ k1).six
    go_wp2_with fail
    refine (CSb.out _ k1).mono ?_
    rintro e2 w2 ⟨rfl, t2⟩
    have k2 := k1.trans t2
    clear xa0 xa1 xa2 xa3 xa4 xa5 xb0 xb1 xb2 xb3 xb4 xb5 xf0 xf1 xf2 xf3 xf4 xf5
    obtain ⟨xa0, xa1, xa2, xa3, xa4, xa5⟩ := (HA.out _ k2).six
    obtain ⟨xb0, xb1, xb2, xb3, xb4, xb5⟩ := (HB.out _ k2).six
    obtain ⟨xf0, xf1, xf2, xf3, xf4, xf5⟩ := (HF.out _ k2).six
    go_wp2_with fail
    refine (CRa.out _ k2).mono ?_
    rintro e3 w3 ⟨rfl, t3⟩
    have k3 := k2.trans t3
    clear xa0 xa1 xa2 xa3 xa4 xa5 xb0 xb1 xb2 xb3 xb4 xb5 xf0 xf1 xf2 xf3 xf4 xf5
    obtain ⟨xa0, xa1, xa2, xa3, xa4, xa5⟩ := (HA.out _ k3).six
    obtain ⟨xb0, xb1, xb2, xb3, xb4, xb5⟩ := (HB.out _ k3).six
    obtain ⟨xf0, xf1, xf2, xf3, xf4, xf5⟩ := (HF.out _ k3).six
    go_wp2_with fail
    refine (CRb.out _ k3).mono ?_
    rintro e4 w4 ⟨rfl, t4⟩
    have k4 := k3.trans t4
    clear xa0 xa1 xa2 xa3 xa4 xa5 xb0 xb1 xb2 xb3 xb4 xb5 xf0 xf1 xf2 xf3 xf4 xf5
    obtain ⟨xa0, xa1, xa2, xa3, xa4, xa5⟩ := (HA.out _ k4).six
    obtain ⟨xb0, xb1, xb2, xb3, xb4, xb5⟩ := (HB.out _ k4).six
    obtain ⟨xf0, xf1, xf2, xf3, xf4, xf5⟩ := (HF.out _ k4).six
    go_wp2_with fail
    refine (CW.out _).mono ?_
    rintro e9 w9 ⟨rfl, k9⟩
    go_wp2
    go_ret
    exact ⟨rfl, (hkX.trans k4).trans k9⟩
  have qb : (kind b == 0) = false := by simpa using hzb
  cases hg : fewB x
  · rw [hg] at CFF
    clear hg hza hzb
    go_enter Try.func5, Try.ntmps5
    go_wp2_with fail
    rw [← hX]
    clear hX
    refine (CSa.out _ (Keep.refl _)).mono ?_
    rintro e1 w1 ⟨rfl, t1⟩
    have k1 := t1
    obtain ⟨xa0, xa1, xa2, xa3, xa4, xa5⟩ := (HA.out _ k1).six
    obtain ⟨xb0, xb1, xb2, xb3, xb4, xb5⟩ := (HB.out _ k1).six
    obtain ⟨xf0, xf1, xf2, xf3, xf4, xf5⟩ := (HF.out _ k1).six
    go_wp2_with fail
    refine (CSb.out _ k1).mono ?_
    rintro e2 w2 ⟨rfl, t2⟩
    have k2 := k1.trans t2
    clear xa0 xa1 xa2 xa3 xa4 xa5 xb0 xb1 xb2 xb3 xb4 xb5 xf0 xf1 xf2 xf3 xf4 xf5
    obtain ⟨xa0, xa1, xa2, xa3, xa4, xa5⟩ := (HA.out _ k2).six
    obtain ⟨xb0, xb1, xb2, xb3, xb4, xb5⟩ := (HB.out _ k2).six
    obtain ⟨xf0, xf1, xf2, xf3, xf4, xf5⟩ := (HF.out _ k2).six
    go_wp2_with fail
    refine (CRa.out _ k2).mono ?_
    rintro e3 w3 ⟨rfl, t3⟩
    have k3 := k2.trans t3
    clear xa0 xa1 xa2 xa3 xa4 xa5 xb0 xb1 xb2 xb3 xb4 xb5 xf0 xf1 xf2 xf3 xf4 xf5
    obtain ⟨xa0, xa1, xa2, xa3, xa4, xa5⟩ := (HA.out _ k3).six
    obtain ⟨xb0, xb1, xb2, xb3, xb4, xb5⟩ := (HB.out _ k3).six
    obtain ⟨xf0, xf1, xf2, xf3, xf4, xf5⟩ := (HF.out _ k3).six
    go_wp2_with fail
    refine (CRb.out _ k3).mono ?_
    rintro e4 w4 ⟨rfl, t4⟩
    have k4 := k3.trans t4
    clear xa0 xa1 xa2 xa3 xa4 xa5 xb0 xb1 xb2 xb3 xb4 xb5 xf0 xf1 xf2 xf3 xf4 xf5
    obtain ⟨xa0, xa1, xa2, xa3, xa4, xa5⟩ := (HA.out _ k4).six
    obtain ⟨xb0, xb1, xb2, xb3, xb4, xb5⟩ := (HB.out _ k4).six
    obtain ⟨xf0, xf1, xf2, xf3, xf4, xf5⟩ := (HF.out _ k4).six
    go_wp2_with fail
    refine (CFF.out _).mono ?_
    rintro e8 w8 ⟨rfl, t8⟩
    go_wp2_with fail
    refine (CW.out _).mono ?_
    rintro e9 w9 ⟨rfl, k9⟩
    go_wp2
    go_ret
    exact ⟨rfl, (hkX.trans (k4.trans t8)).trans k9⟩
  rw [hg] at CFF
  have hx := fewB_fewF hg
  have HZA := Lib.hid hza
  have HZB := Lib.hid hzb
  clear hg hza hzb
  go_enter Try.func5, Try.ntmps5
  go_wp2_with fail
  rw [← hX]
  clear hX
  refine (CSa.out _ (Keep.refl _)).mono ?_
  rintro e1 w1 ⟨rfl, t1⟩
  have k1 := t1
  obtain ⟨xa0, xa1, xa2, xa3, xa4, xa5⟩ := (HA.out _ k1).six
  obtain ⟨xb0, xb1, xb2, xb3, xb4, xb5⟩ := (HB.out _ k1).six
  obtain ⟨xf0, xf1, xf2, xf3, xf4, xf5⟩ := (HF.out _ k1).six
  go_wp2_with fail
  refine (CSb.out _ k1).mono ?_
  rintro e2 w2 ⟨rfl, t2⟩
  have k2 := k1.trans t2
  clear xa0 xa1 xa2 xa3 xa4 xa5 xb0 xb1 xb2 xb3 xb4 xb5 xf0 xf1 xf2 xf3 xf4 xf5
  obtain ⟨xa0, xa1, xa2, xa3, xa4, xa5⟩ := (HA.out _ k2).six
  obtain ⟨xb0, xb1, xb2, xb3, xb4, xb5⟩ := (HB.out _ k2).six
  obtain ⟨xf0, xf1, xf2, xf3, xf4, xf5⟩ := (HF.out _ k2).six
  go_wp2_with fail
  refine (CRa.out _ k2).mono ?_
  rintro e3 w3 ⟨rfl, t3⟩
  have k3 := k2.trans t3
  clear xa0 xa1 xa2 xa3 xa4 xa5 xb0 xb1 xb2 xb3 xb4 xb5 xf0 xf1 xf2 xf3 xf4 xf5
  obtain ⟨xa0, xa1, xa2, xa3, xa4, xa5⟩ := (HA.out _ k3).six
  obtain ⟨xb0, xb1, xb2, xb3, xb4, xb5⟩ := (HB.out _ k3).six
  obtain ⟨xf0, xf1, xf2, xf3, xf4, xf5⟩ := (HF.out _ k3).six
  go_wp2_with fail
  refine (CRb.out _ k3).mono ?_
  rintro e4 w4 ⟨rfl, t4⟩
  have k4 := k3.trans t4
  clear xa0 xa1 xa2 xa3 xa4 xa5 xb0 xb1 xb2 xb3 xb4 xb5 xf0 xf1 xf2 xf3 xf4 xf5
  obtain ⟨xa0, xa1, xa2, xa3, xa4, xa5⟩ := (HA.out _ k4).six
  obtain ⟨xb0, xb1, xb2, xb3, xb4, xb5⟩ := (HB.out _ k4).six
  obtain ⟨xf0, xf1, xf2, xf3, xf4, xf5⟩ := (HF.out _ k4).six
  go_wp2_with fail
  refine (CFF.out _).mono ?_
  rintro e5 w5 ⟨rfl, t5⟩
  have k5 := k4.trans t5
  clear xa0 xa1 xa2 xa3 xa4 xa5 xb0 xb1 xb2 xb3 xb4 xb5 xf0 xf1 xf2 xf3 xf4 xf5
  obtain ⟨xa0, xa1, xa2, xa3, xa4, xa5⟩ := (HA.out _ k5).six
  obtain ⟨xb0, xb1, xb2, xb3, xb4, xb5⟩ := (HB.out _ k5).six
  obtain ⟨xf0, xf1, xf2, xf3, xf4, xf5⟩ := (HF.out _ k5).six
  clear CSa CSb CRa CRb CFF qa qb t1 t2 t3 t4 t5 k1 k2 k3 k4
  have hsf := Tr.store_float Try.prog
  clear xa0 xa1 xa2 xa3 xa4 xa5 xb0 xb1 xb2 xb3 xb4 xb5 xf0 xf1 xf2 xf3 xf4 xf5
  go_wp2_with fail
  have kY := Keep.refl w5
  have kD := keepd (Keep.refl w5)
  have hS : ∀ W, Keep w5 W → W.cell? ⟨w.heap.size, 0, none⟩ = some (.int .i64 (kind a)) ∧ W.cell? ⟨w.heap.size, 1, none⟩ = some (.int .i64 (field a)) ∧ W.cell? ⟨w.heap.size, 2, none⟩ = some (.slice RA (rs a).length ra) ∧ W.cell? ⟨w.heap.size, 3, none⟩ = some (.float .f64 (lo a)) ∧ W.cell? ⟨w.heap.size, 4, none⟩ = some (.float .f64 (hi a)) ∧ W.cell? ⟨w.heap.size, 5, none⟩ = some (.slice OA (of a).length oa) ∧ W.cell? ⟨w.heap.size + 1, 0, none⟩ = some (.int .i64 (kind b)) ∧ W.cell? ⟨w.heap.size + 1, 1, none⟩ = some (.int .i64 (field b)) ∧ W.cell? ⟨w.heap.size + 1, 2, none⟩ = some (.slice RB (rs b).length rb) ∧ W.cell? ⟨w.heap.size + 1, 3, none⟩ = some (.float .f64 (lo b)) ∧ W.cell? ⟨w.heap.size + 1, 4, none⟩ = some (.float .f64 (hi b)) ∧ W.cell? ⟨w.heap.size + 1, 5, none⟩ = some (.slice OB (of b).length ob) := fun W h => by
    have h1 := (HA.out _ (k5.trans h)).six
    have h2 := (HB.out _ (k5.trans h)).six
    exact ⟨h1.1, h1.2.1, h1.2.2.1, h1.2.2.2.1, h1.2.2.2.2.1, h1.2.2.2.2.2, h2⟩
  go_cut [7, 8] from 47 (fun pf pg W => ∃ q7 q8, pf = .pointer (some ⟨q7, 0, none⟩) ∧ pg = .pointer (some ⟨q8, 0, none⟩) ∧ (∃ s, Bx W q7 [.int .i64 2, .int .i64 0, .slice none 0 0, .float .f64 0, .float .f64 0, .slice (some ⟨s, 0, none⟩) 1 1] ∧ Bx W s [.int .i64 (kind a), .int .i64 (field a), .slice RA (rs a).length ra, .float .f64 (lo a), .float .f64 (hi a), .slice OA (of a).length oa]) ∧ (∃ s, Bx W q8 [.int .i64 2, .int .i64 0, .slice none 0 0, .float .f64 0, .float .f64 0, .slice (some ⟨s, 0, none⟩) 1 1] ∧ Bx W s [.int .i64 (kind b), .int .i64 (field b), .slice RB (rs b).length rb, .float .f64 (lo b), .float .f64 (hi b), .slice OB (of b).length ob]) ∧ Keep w5 W)
  case first =>
    refine region3 _ _ _ _ _ _ _ _ _ _ _ _ _ _ _ _ _ _ _ _ _ _ w5 hS _ _ _ _ _ _ _ _ _ _ _ _ _ _ _ _ _ _ _ _ _ _ _ _ _ _ _ _ _ _ _ _ _ _ _ _ _ _ _ _ _ _ _ _ _ _ _ _ _ _ _ _ _ _ _ _ _ _ _ _ _ _ _ _ _ _ _ _ _ _ _ _ _ _ _ _ _ _ _ _ _ _ _ _ _ _ _ _ _ _ _ _ _ _ _ _ _ _ _ _ _ _ _ _ _ _ _ _ _ _ _ _ _ _ _ _ _ _ _ _ _ _ _ _ ?_
    intro qm1 qm2 m0 m1 m2 m3 m4 m5 W hb1 hb2 hk
    go_wp2_with fail
    go_meet
    exact ⟨_, _, rfl, rfl, hb1, hb2, hk⟩
  case rest =>
    obtain ⟨q7, q8, rfl, rfl, b7, b8, kC⟩ := hcut
    have kC' := k5.trans kC
    clear hS kY kD
    have hcut4 : True := trivial
    go_wp2_with fail
    have kY := Keep.refl wc
    have kD := keepd (Keep.refl wc)
    have hS : ∀ W, Keep wc W → W.cell? ⟨w.heap.size, 0, none⟩ = some (.int .i64 (kind a)) ∧ W.cell? ⟨w.heap.size, 1, none⟩ = some (.int .i64 (field a)) ∧ W.cell? ⟨w.heap.size, 2, none⟩ = some (.slice RA (rs a).length ra) ∧ W.cell? ⟨w.heap.size, 3, none⟩ = some (.float .f64 (lo a)) ∧ W.cell? ⟨w.heap.size, 4, none⟩ = some (.float .f64 (hi a)) ∧ W.cell? ⟨w.heap.size, 5, none⟩ = some (.slice OA (of a).length oa) ∧ W.cell? ⟨w.heap.size + 1, 0, none⟩ = some (.int .i64 (kind b)) ∧ W.cell? ⟨w.heap.size + 1, 1, none⟩ = some (.int .i64 (field b)) ∧ W.cell? ⟨w.heap.size + 1, 2, none⟩ = some (.slice RB (rs b).length rb) ∧ W.cell? ⟨w.heap.size + 1, 3, none⟩ = some (.float .f64 (lo b)) ∧ W.cell? ⟨w.heap.size + 1, 4, none⟩ = some (.float .f64 (hi b)) ∧ W.cell? ⟨w.heap.size + 1, 5, none⟩ = some (.slice OB (of b).length ob) := fun W h => by
      have h1 := (HA.out _ (kC'.trans h)).six
      have h2 := (HB.out _ (kC'.trans h)).six
      exact ⟨h1.1, h1.2.1, h1.2.2.1, h1.2.2.2.1, h1.2.2.2.2.1, h1.2.2.2.2.2, h2⟩
    go_cut [9, 10] from 53 (fun pf pg W => ∃ q9 q10, pf = .pointer (some ⟨q9, 0, none⟩) ∧ pg = .pointer (some ⟨q10, 0, none⟩) ∧ (∃ s, Bx W q9 [.int .i64 3, .int .i64 0, .slice none 0 0, .float .f64 0, .float .f64 0, .slice (some ⟨s, 0, none⟩) 2 2] ∧ Bx W s [.int .i64 (kind a), .int .i64 (field a), .slice RA (rs a).length ra, .float .f64 (lo a), .float .f64 (hi a), .slice OA (of a).length oa, .int .i64 (kind b), .int .i64 (field b), .slice RB (rs b).length rb, .float .f64 (lo b), .float .f64 (hi b), .slice OB (of b).length ob]) ∧ (∃ s, Bx W q10 [.int .i64 4, .int .i64 0, .slice none 0 0, .float .f64 0, .float .f64 0, .slice (some ⟨s, 0, none⟩) 2 2] ∧ Bx W s [.int .i64 (kind a), .int .i64 (field a), .slice RA (rs a).length ra, .float .f64 (lo a), .float .f64 (hi a), .slice OA (of a).length oa, .int .i64 (kind b), .int .i64 (field b), .slice RB (rs b).length rb, .float .f64 (lo b), .float .f64 (hi b), .slice OB (of b).length ob]) ∧ Keep wc W)
    case first =>
      refine region4 _ _ _ _ _ _ _ _ _ _ _ _ _ _ _ _ _ _ _ _ _ _ wc hS _ _ _ _ _ _ _ _ _ _ _ _ _ _ _ _ _ _ _ _ _ _ _ _ _ _ _ _ _ _ _ _ _ _ _ _ _ _ _ _ _ _ _ _ _ _ _ _ _ _ _ _ _ _ _ _ _ _ _ _ _ _ _ _ _ _ _ _ _ _ _ _ _ _ _ _ _ _ _ _ _ _ _ _ _ _ _ _ _ _ _ _ _ _ _ _ _ _ _ _ _ _ _ _ _ _ _ _ _ _ _ _ _ _ _ _ _ _ _ _ _ _ _ _ ?_
      intro qm1 qm2 m0 m1 m2 m3 m4 m5 m6 m7 W hb1 hb2 hk
      go_wp2_with fail
      go_meet
      exact ⟨_, _, rfl, rfl, hb1, hb2, hk⟩
    case rest =>
      obtain ⟨q9, q10, rfl, rfl, b9, b10, kD4⟩ := hcut
      have kD' := kC'.trans kD4
      replace b7 : ∃ s, Bx _ _ _ ∧ Bx _ _ _ := (let ⟨s, h1, h2⟩ := b7; ⟨s, h1.kept kD4, h2.kept kD4⟩)
      replace b8 : ∃ s, Bx _ _ _ ∧ Bx _ _ _ := (let ⟨s, h1, h2⟩ := b8; ⟨s, h1.kept kD4, h2.kept kD4⟩)
      obtain ⟨s7, b7, c7⟩ := b7
      obtain ⟨s8, b8, c8⟩ := b8
      obtain ⟨s9, b9, c9⟩ := b9
      obtain ⟨s10, b10, c10⟩ := b10
      clear hS kY kD hcut4
      go_wp2_with fail
      have kY := Keep.refl wc
      have kD := keepd (Keep.refl wc)
      have hS : ∀ W, Keep wc W → W.cell? ⟨q7, 0, none⟩ = some (.int .i64 2) ∧ W.cell? ⟨q7, 1, none⟩ = some (.int .i64 0) ∧ W.cell? ⟨q7, 2, none⟩ = some (.slice none 0 0) ∧ W.cell? ⟨q7, 3, none⟩ = some (.float .f64 0) ∧ W.cell? ⟨q7, 4, none⟩ = some (.float .f64 0) ∧ W.cell? ⟨q7, 5, none⟩ = some (.slice (some ⟨s7, 0, none⟩) 1 1) ∧ W.cell? ⟨q8, 0, none⟩ = some (.int .i64 2) ∧ W.cell? ⟨q8, 1, none⟩ = some (.int .i64 0) ∧ W.cell? ⟨q8, 2, none⟩ = some (.slice none 0 0) ∧ W.cell? ⟨q8, 3, none⟩ = some (.float .f64 0) ∧ W.cell? ⟨q8, 4, none⟩ = some (.float .f64 0) ∧ W.cell? ⟨q8, 5, none⟩ = some (.slice (some ⟨s8, 0, none⟩) 1 1) := fun W h => by
        have h1 := (b7.kept h).six
        have h2 := (b8.kept h).six
        exact ⟨h1.1, h1.2.1, h1.2.2.1, h1.2.2.2.1, h1.2.2.2.2.1, h1.2.2.2.2.2, h2⟩
      go_cut [11, 12] from 61 (fun pf pg W => ∃ q11 q12, pf = .pointer (some ⟨q11, 0, none⟩) ∧ pg = .pointer (some ⟨q12, 0, none⟩) ∧ (∃ s, Bx W q11 [.int .i64 3, .int .i64 0, .slice none 0 0, .float .f64 0, .float .f64 0, .slice (some ⟨s, 0, none⟩) 2 2] ∧ Bx W s [.int .i64 2, .int .i64 0, .slice none 0 0, .float .f64 0, .float .f64 0, .slice (some ⟨s7, 0, none⟩) 1 1, .int .i64 2, .int .i64 0, .slice none 0 0, .float .f64 0, .float .f64 0, .slice (some ⟨s8, 0, none⟩) 1 1]) ∧ (∃ s, Bx W q12 [.int .i64 4, .int .i64 0, .slice none 0 0, .float .f64 0, .float .f64 0, .slice (some ⟨s, 0, none⟩) 2 2] ∧ Bx W s [.int .i64 2, .int .i64 0, .slice none 0 0, .float .f64 0, .float .f64 0, .slice (some ⟨s7, 0, none⟩) 1 1, .int .i64 2, .int .i64 0, .slice none 0 0, .float .f64 0, .float .f64 0, .slice (some ⟨s8, 0, none⟩) 1 1]) ∧ Keep wc W)
      case first =>
        refine region5 _ _ _ _ _ _ _ _ _ _ _ _ _ _ _ _ _ _ _ _ _ _ wc hS _ _ _ _ _ _ _ _ _ _ _ _ _ _ _ _ _ _ _ _ _ _ _ _ _ _ _ _ _ _ _ _ _ _ _ _ _ _ _ _ _ _ _ _ _ _ _ _ _ _ _ _ _ _ _ _ _ _ _ _ _ _ _ _ _ _ _ _ _ _ _ _ _ _ _ _ _ _ _ _ _ _ _ _ _ _ _ _ _ _ _ _ _ _ _ _ _ _ _ _ _ _ _ _ _ _ _ _ _ _ _ _ _ _ _ _ _ _ _ _ _ _ _ _ ?_
        intro qm1 qm2 m0 m1 m2 m3 m4 m5 m6 m7 W hb1 hb2 hk
        go_wp2_with fail
        go_meet
        exact ⟨_, _, rfl, rfl, hb1, hb2, hk⟩
      case rest =>
        obtain ⟨q11, q12, rfl, rfl, ⟨s11, b11, c11⟩, ⟨s12, b12, c12⟩, kE⟩ := hcut
        replace b7 := b7.kept kE
        replace c7 := c7.kept kE
        replace b8 := b8.kept kE
        replace c8 := c8.kept kE
        replace b9 := b9.kept kE
        replace c9 := c9.kept kE
        replace b10 := b10.kept kE
        replace c10 := c10.kept kE
        have kE' := kD'.trans kE
        clear hS kY kD kC kD4 kE
        have fX := hFX.kept kE'
        have eA := hXa.kept kE'
        have eB := hXb.kept kE'
        have ox := ok_node (k := 2) (ls := [a]) (.inl ⟨rfl, rfl⟩) (fun e he => by simp at he; subst he; exact ⟨oka, HZA.out⟩)
        have oy := ok_node (k := 2) (ls := [b]) (.inl ⟨rfl, rfl⟩) (fun e he => by simp at he; subst he; exact ⟨okb, HZB.out⟩)
        have oxx := ok_node (k := 2) (ls := [.mk 2 0 [] 0 0 [a]]) (.inl ⟨rfl, rfl⟩) (fun e he => by simp at he; subst he; exact ⟨ox, by simp [kind]⟩)
        have oand := fun k (hk : k = 3 ∨ k = 4) => ok_node (k := k) (ls := [a, b]) (.inr ⟨hk, rfl⟩) (fun e he => by
          simp at he
          rcases he with rfl | rfl
          · exact ⟨oka, HZA.out⟩
          · exact ⟨okb, HZB.out⟩)
        have onor := fun k (hk : k = 3 ∨ k = 4) => ok_node (k := k) (ls := [.mk 2 0 [] 0 0 [a], .mk 2 0 [] 0 0 [b]]) (.inr ⟨hk, rfl⟩) (fun e he => by
          simp at he
          rcases he with rfl | rfl
          · exact ⟨ox, by simp [kind]⟩
          · exact ⟨oy, by simp [kind]⟩)
        have xX : Ex wc (.mk 2 0 [] 0 0 [a]) none (some ⟨s7, 0, none⟩) := ex_node (one_exs c7 eA)
        have xY : Ex wc (.mk 2 0 [] 0 0 [b]) none (some ⟨s8, 0, none⟩) := ex_node (one_exs c8 eB)
        have x9 : Ex wc (.mk 3 0 [] 0 0 [a, b]) none (some ⟨s9, 0, none⟩) := ex_node (two_exs c9 eA eB)
        have x10 : Ex wc (.mk 4 0 [] 0 0 [a, b]) none (some ⟨s10, 0, none⟩) := ex_node (two_exs c10 eA eB)
        have x11 : Ex wc (.mk 3 0 [] 0 0 [.mk 2 0 [] 0 0 [a], .mk 2 0 [] 0 0 [b]]) none (some ⟨s11, 0, none⟩) := ex_node (two_exs (a := .mk 2 0 [] 0 0 [a]) (b := .mk 2 0 [] 0 0 [b]) c11 xX xY)
        have x12 : Ex wc (.mk 4 0 [] 0 0 [.mk 2 0 [] 0 0 [a], .mk 2 0 [] 0 0 [b]]) none (some ⟨s12, 0, none⟩) := ex_node (two_exs (a := .mk 2 0 [] 0 0 [a]) (b := .mk 2 0 [] 0 0 [b]) c12 xX xY)
        have HH := Lib.hid (fun (e : ExprP) (R O : Option Addr) (r' o' : Nat) (ok : okX e) (W : World) (hk : Keep wc W) (he : Ex W e R O) => holdsN x SA VA QA c1 c2 c3 h3 h3m hx (dp e) e R O r' o' W (Nat.le_refl _) ok.1 (ok.2.1 _) ok.2.2 he (fX.kept hk))
        have Ka := fun (W : World) (hk : Keep wc W) => HH.out a RA OA ra oa oka W hk (eA.kept hk)
        have Kb := fun (W : World) (hk : Keep wc W) => HH.out b RB OB rb ob okb W hk (eB.kept hk)
        have Kx := fun (W : World) (hk : Keep wc W) => HH.out (.mk 2 0 [] 0 0 [a]) none (some ⟨s7, 0, none⟩) 0 1 ox W hk (xX.kept hk)
        have K9 := fun (W : World) (hk : Keep wc W) => HH.out (.mk 3 0 [] 0 0 [a, b]) none (some ⟨s9, 0, none⟩) 0 2 (oand 3 (.inl rfl)) W hk (x9.kept hk)
        have K10 := fun (W : World) (hk : Keep wc W) => HH.out (.mk 4 0 [] 0 0 [a, b]) none (some ⟨s10, 0, none⟩) 0 2 (oand 4 (.inr rfl)) W hk (x10.kept hk)
        have K11 := fun (W : World) (hk : Keep wc W) => HH.out (.mk 3 0 [] 0 0 [(.mk 2 0 [] 0 0 [a]), (.mk 2 0 [] 0 0 [b])]) none (some ⟨s11, 0, none⟩) 0 2 (onor 3 (.inl rfl)) W hk (x11.kept hk)
        have K12 := fun (W : World) (hk : Keep wc W) => HH.out (.mk 4 0 [] 0 0 [(.mk 2 0 [] 0 0 [a]), (.mk 2 0 [] 0 0 [b])]) none (some ⟨s12, 0, none⟩) 0 2 (onor 4 (.inr rfl)) W hk (x12.kept hk)
        have Kxx := fun (s : Nat) (W : World) (hk : Keep wc W) (hs : Bx W s [.int .i64 2, .int .i64 0, .slice none 0 0, .float .f64 0, .float .f64 0, .slice (some ⟨s7, 0, none⟩) 1 1]) => HH.out (.mk 2 0 [] 0 0 [(.mk 2 0 [] 0 0 [a])]) none (some ⟨s, 0, none⟩) 0 1 oxx W hk (ex_node (one_exs (a := (.mk 2 0 [] 0 0 [a])) hs (xX.kept hk)))
        have e1 : holds x (.mk 2 0 [] 0 0 [a]) = !(holds x a) := holds_not x a 0 [] 0 0
        have e2 : holds x (.mk 2 0 [] 0 0 [b]) = !(holds x b) := holds_not x b 0 [] 0 0
        have e3 : holds x (.mk 2 0 [] 0 0 [(.mk 2 0 [] 0 0 [a])]) = holds x a := by rw [holds_not, e1]; simp
        have e9 : holds x (.mk 3 0 [] 0 0 [a, b]) = (holds x a && holds x b) := by rw [holds_and]; simp
        have e10 : holds x (.mk 4 0 [] 0 0 [a, b]) = (holds x a || holds x b) := by rw [holds_or]; simp
        have e11 : holds x (.mk 3 0 [] 0 0 [(.mk 2 0 [] 0 0 [a]), (.mk 2 0 [] 0 0 [b])]) = (!(holds x a) && !(holds x b)) := by rw [holds_and]; simp [e1, e2]
        have e12 : holds x (.mk 4 0 [] 0 0 [(.mk 2 0 [] 0 0 [a]), (.mk 2 0 [] 0 0 [b])]) = (!(holds x a) || !(holds x b)) := by rw [holds_or]; simp [e1, e2]
        rw [e1] at Kx
        rw [e3] at Kxx
        rw [e9] at K9
        rw [e10] at K10
        rw [e11] at K11
        rw [e12] at K12
        simp only [kind, field, rs, lo, hi, of, List.length_nil, List.length_cons, Nat.zero_add, Nat.reduceAdd] at Kx Kxx K9 K10 K11 K12
        clear e1 e2 e3 e9 e10 e11 e12 xX xY x9 x10 x11 x12 oxx oand onor ox oy oka okb HZA HZB c7 c8 c9 c10 c11 c12 eA eB fX hXa hXb hFX HH
        generalize holds x a = va at *
        generalize holds x b = vb at *
        go_wp2_with fail
        have hxx := Lib.hid hx
        replace b7 := Lib.hid b7
        replace b8 := Lib.hid b8
        replace b9 := Lib.hid b9
        replace b10 := Lib.hid b10
        replace b11 := Lib.hid b11
        replace b12 := Lib.hid b12
        have HKX := Lib.hid hkX
        replace kE' := Lib.hid kE'
        clear hx hkX kC' kD' k5
        cases va <;> cases vb <;> (try simp only [Bool.not_true, Bool.not_false, Bool.and_true, Bool.and_false, Bool.or_true, Bool.or_false, Bool.true_and, Bool.false_and, Bool.true_or, Bool.false_or, Bool.and_self, Bool.or_self] at Ka Kb Kx Kxx K9 K10 K11 K12) <;> (replace Ka := Lib.hid Ka; replace Kb := Lib.hid Kb; replace Kx := Lib.hid Kx; replace Kxx := Lib.hid Kxx; replace K9 := Lib.hid K9; replace K10 := Lib.hid K10; replace K11 := Lib.hid K11; replace K12 := Lib.hid K12)
        all_goals (
          have hA1 := fun p : KeptOf wc => (CW.out p.w).mono fun e w' h => (h : e = .returned (.bool true) ∧ Keep p.w w')
          have hA2 := fun p : KeptOf wc => Kx.out p.w p.h
          have hA3 := fun p : KeptOf wc => Ka.out p.w p.h
          have u70 := fun p : KeptOf wc => (b7.out.kept p.h).six.1
          have u71 := fun p : KeptOf wc => (b7.out.kept p.h).six.2.1
          have u72 := fun p : KeptOf wc => (b7.out.kept p.h).six.2.2.1
          have u73 := fun p : KeptOf wc => (b7.out.kept p.h).six.2.2.2.1
          have u74 := fun p : KeptOf wc => (b7.out.kept p.h).six.2.2.2.2.1
          have u75 := fun p : KeptOf wc => (b7.out.kept p.h).six.2.2.2.2.2
          have uf0 := fun p : KeptOf wc => (HF.out _ (kE'.out.trans p.h)).six.1
          have uf1 := fun p : KeptOf wc => (HF.out _ (kE'.out.trans p.h)).six.2.1
          have uf2 := fun p : KeptOf wc => (HF.out _ (kE'.out.trans p.h)).six.2.2.1
          have uf3 := fun p : KeptOf wc => (HF.out _ (kE'.out.trans p.h)).six.2.2.2.1
          have uf4 := fun p : KeptOf wc => (HF.out _ (kE'.out.trans p.h)).six.2.2.2.2.1
          have uf5 := fun p : KeptOf wc => (HF.out _ (kE'.out.trans p.h)).six.2.2.2.2.2
          have ua0 := fun p : KeptOf wc => (HA.out _ (kE'.out.trans p.h)).six.1
          have ua1 := fun p : KeptOf wc => (HA.out _ (kE'.out.trans p.h)).six.2.1
          have ua2 := fun p : KeptOf wc => (HA.out _ (kE'.out.trans p.h)).six.2.2.1
          have ua3 := fun p : KeptOf wc => (HA.out _ (kE'.out.trans p.h)).six.2.2.2.1
          have ua4 := fun p : KeptOf wc => (HA.out _ (kE'.out.trans p.h)).six.2.2.2.2.1
          have ua5 := fun p : KeptOf wc => (HA.out _ (kE'.out.trans p.h)).six.2.2.2.2.2
          refine wp_region_kept_seg 12 45 (Array.replicate 12 true ++ Array.replicate 45 false) (by kernel_rfl) (by kernel_rfl) ?_
          simp only [List.take_succ_cons, List.take_zero]
          repeat (go_big_quiet_step (first | with_reducible exact KeptOf.of (hA1 _) | with_reducible exact KeptOf.of (hA2 _) | with_reducible exact KeptOf.of (hA3 _)))
          refine Go.wpQuiet_nil ?_
          intro P1
          have k13 : Keep wc P1.w := P1.h
          generalize P1.w = w13 at k13 ⊢
          clear hA1 hA2 hA3 u70 u71 u72 u73 u74 u75 uf0 uf1 uf2 uf3 uf4 uf5 ua0 ua1 ua2 ua3 ua4 ua5
          replace k13 := Lib.hid k13
          have u70 := fun p : KeptOf w13 => (b7.out.kept (k13.out.trans p.h)).six.1
          have u71 := fun p : KeptOf w13 => (b7.out.kept (k13.out.trans p.h)).six.2.1
          have u72 := fun p : KeptOf w13 => (b7.out.kept (k13.out.trans p.h)).six.2.2.1
          have u73 := fun p : KeptOf w13 => (b7.out.kept (k13.out.trans p.h)).six.2.2.2.1
          have u74 := fun p : KeptOf w13 => (b7.out.kept (k13.out.trans p.h)).six.2.2.2.2.1
          have u75 := fun p : KeptOf w13 => (b7.out.kept (k13.out.trans p.h)).six.2.2.2.2.2
          have uf0 := fun p : KeptOf w13 => (HF.out _ (kE'.out.trans (k13.out.trans p.h))).six.1
          have uf1 := fun p : KeptOf w13 => (HF.out _ (kE'.out.trans (k13.out.trans p.h))).six.2.1
          have uf2 := fun p : KeptOf w13 => (HF.out _ (kE'.out.trans (k13.out.trans p.h))).six.2.2.1
          have uf3 := fun p : KeptOf w13 => (HF.out _ (kE'.out.trans (k13.out.trans p.h))).six.2.2.2.1
          have uf4 := fun p : KeptOf w13 => (HF.out _ (kE'.out.trans (k13.out.trans p.h))).six.2.2.2.2.1
          have uf5 := fun p : KeptOf w13 => (HF.out _ (kE'.out.trans (k13.out.trans p.h))).six.2.2.2.2.2
          have ua0 := fun p : KeptOf w13 => (HA.out _ (kE'.out.trans (k13.out.trans p.h))).six.1
          have ua1 := fun p : KeptOf w13 => (HA.out _ (kE'.out.trans (k13.out.trans p.h))).six.2.1
          have ua2 := fun p : KeptOf w13 => (HA.out _ (kE'.out.trans (k13.out.trans p.h))).six.2.2.1
          have ua3 := fun p : KeptOf w13 => (HA.out _ (kE'.out.trans (k13.out.trans p.h))).six.2.2.2.1
          have ua4 := fun p : KeptOf w13 => (HA.out _ (kE'.out.trans (k13.out.trans p.h))).six.2.2.2.2.1
          have ua5 := fun p : KeptOf w13 => (HA.out _ (kE'.out.trans (k13.out.trans p.h))).six.2.2.2.2.2
          have hS0 : (fun w' => ∃ q : KeptOf w13, w' = q.w) w13 := ⟨⟨w13, Keep.refl _⟩, rfl⟩
          refine wpAny_of_held (S := fun w' => ∃ q : KeptOf w13, w' = q.w) _ _ _ _ ?_
          refine wpAnyH_take (i := 12) (oi := _) (v := .agg #[.int .i64 2, .int .i64 0, .slice none 0 0, .float .f64 0, .float .f64 0, .slice (some ⟨s7, 0, none⟩) 1 1]) rfl (by kernel_rfl) (by kernel_rfl) (by kernel_rfl) (fun _ _ _ h => h) (Or.inl ⟨by rfl, ?_⟩) hS0 ?_
          · intro W hW
            obtain ⟨q, rfl⟩ := hW
            go_simp
          simp only [Act.put, List.setIfInBounds_toArray, List.set_cons_zero, List.set_cons_succ]
          refine wpAnyH_take (i := 15) (oi := _) (v := .agg #[.int .i64 x.cl, .int .i64 x.un, .int .i64 x.fc, .slice SA x.sp.length c1, .slice VA x.vs.length c2, .slice QA x.rg.length c3]) rfl (by kernel_rfl) (by kernel_rfl) (by kernel_rfl) (fun _ _ _ h => h) (Or.inl ⟨by rfl, ?_⟩) hS0 ?_
          · intro W hW
            obtain ⟨q, rfl⟩ := hW
            go_simp
          simp only [Act.put, List.setIfInBounds_toArray, List.set_cons_zero, List.set_cons_succ]
          refine wpAnyH_take (i := 17) (oi := _) (v := .agg #[.int .i64 (kind a), .int .i64 (field a), .slice RA (rs a).length ra, .float .f64 (lo a), .float .f64 (hi a), .slice OA (of a).length oa]) rfl (by kernel_rfl) (by kernel_rfl) (by kernel_rfl) (fun _ _ _ h => h) (Or.inl ⟨by rfl, ?_⟩) hS0 ?_
          · intro W hW
            obtain ⟨q, rfl⟩ := hW
            go_simp
          simp only [Act.put, List.setIfInBounds_toArray, List.set_cons_zero, List.set_cons_succ]
          refine wpAnyH_take (i := 18) (oi := _) (v := .agg #[.int .i64 x.cl, .int .i64 x.un, .int .i64 x.fc, .slice SA x.sp.length c1, .slice VA x.vs.length c2, .slice QA x.rg.length c3]) rfl (by kernel_rfl) (by kernel_rfl) (by kernel_rfl) (fun _ _ _ h => h) (Or.inl ⟨by rfl, ?_⟩) hS0 ?_
          · intro W hW
            obtain ⟨q, rfl⟩ := hW
            go_simp
          simp only [Act.put, List.setIfInBounds_toArray, List.set_cons_zero, List.set_cons_succ]
          refine wpAnyH_ready (rs := [13]) (by kernel_rfl) (by simp) ?_
          refine AllReadyH.cons (o := _) rfl (fun K hK => ?_) AllReadyH.nil
          go_simp
          refine hK.out _ _ ⟨⟨_, (Keep.refl w13).alloc _⟩, rfl⟩ (fun _ => ?_)
          clear hK K hS0 u70 u71 u72 u73 u74 u75 uf0 uf1 uf2 uf3 uf4 uf5 ua0 ua1 ua2 ua3 ua4 ua5
          (try simp only [Act.put, List.setIfInBounds_toArray, List.set_cons_zero, List.set_cons_succ])
          obtain ⟨w14, hw14⟩ : ∃ W, W = w13.alloc (.cells #[.int .i64 2, .int .i64 0, .slice none 0 0, .float .f64 0, .float .f64 0, .slice (some ⟨s7, 0, none⟩) 1 1] 43) := ⟨_, rfl⟩
          have k14 : Keep w13 w14 := by rw [hw14]; exact (Keep.refl _).alloc _
          have bS : Bx w14 w13.heap.size [.int .i64 2, .int .i64 0, .slice none 0 0, .float .f64 0, .float .f64 0, .slice (some ⟨s7, 0, none⟩) 1 1] := by rw [hw14]; exact Bx.new0
          rw [← hw14]
          clear hw14
          replace bS := Lib.hid bS
          replace k14 := Lib.hid k14
          have kw := Lib.hid (k13.out.trans k14.out)
          have u70 := fun p : KeptOf w14 => (b7.out.kept (kw.out.trans p.h)).six.1
          have u71 := fun p : KeptOf w14 => (b7.out.kept (kw.out.trans p.h)).six.2.1
          have u72 := fun p : KeptOf w14 => (b7.out.kept (kw.out.trans p.h)).six.2.2.1
          have u73 := fun p : KeptOf w14 => (b7.out.kept (kw.out.trans p.h)).six.2.2.2.1
          have u74 := fun p : KeptOf w14 => (b7.out.kept (kw.out.trans p.h)).six.2.2.2.2.1
          have u75 := fun p : KeptOf w14 => (b7.out.kept (kw.out.trans p.h)).six.2.2.2.2.2
          have u90 := fun p : KeptOf w14 => (b9.out.kept (kw.out.trans p.h)).six.1
          have u91 := fun p : KeptOf w14 => (b9.out.kept (kw.out.trans p.h)).six.2.1
          have u92 := fun p : KeptOf w14 => (b9.out.kept (kw.out.trans p.h)).six.2.2.1
          have u93 := fun p : KeptOf w14 => (b9.out.kept (kw.out.trans p.h)).six.2.2.2.1
          have u94 := fun p : KeptOf w14 => (b9.out.kept (kw.out.trans p.h)).six.2.2.2.2.1
          have u95 := fun p : KeptOf w14 => (b9.out.kept (kw.out.trans p.h)).six.2.2.2.2.2
          have u100 := fun p : KeptOf w14 => (b10.out.kept (kw.out.trans p.h)).six.1
          have u101 := fun p : KeptOf w14 => (b10.out.kept (kw.out.trans p.h)).six.2.1
          have u102 := fun p : KeptOf w14 => (b10.out.kept (kw.out.trans p.h)).six.2.2.1
          have u103 := fun p : KeptOf w14 => (b10.out.kept (kw.out.trans p.h)).six.2.2.2.1
          have u104 := fun p : KeptOf w14 => (b10.out.kept (kw.out.trans p.h)).six.2.2.2.2.1
          have u105 := fun p : KeptOf w14 => (b10.out.kept (kw.out.trans p.h)).six.2.2.2.2.2
          have u110 := fun p : KeptOf w14 => (b11.out.kept (kw.out.trans p.h)).six.1
          have u111 := fun p : KeptOf w14 => (b11.out.kept (kw.out.trans p.h)).six.2.1
          have u112 := fun p : KeptOf w14 => (b11.out.kept (kw.out.trans p.h)).six.2.2.1
          have u113 := fun p : KeptOf w14 => (b11.out.kept (kw.out.trans p.h)).six.2.2.2.1
          have u114 := fun p : KeptOf w14 => (b11.out.kept (kw.out.trans p.h)).six.2.2.2.2.1
          have u115 := fun p : KeptOf w14 => (b11.out.kept (kw.out.trans p.h)).six.2.2.2.2.2
          have u120 := fun p : KeptOf w14 => (b12.out.kept (kw.out.trans p.h)).six.1
          have u121 := fun p : KeptOf w14 => (b12.out.kept (kw.out.trans p.h)).six.2.1
          have u122 := fun p : KeptOf w14 => (b12.out.kept (kw.out.trans p.h)).six.2.2.1
          have u123 := fun p : KeptOf w14 => (b12.out.kept (kw.out.trans p.h)).six.2.2.2.1
          have u124 := fun p : KeptOf w14 => (b12.out.kept (kw.out.trans p.h)).six.2.2.2.2.1
          have u125 := fun p : KeptOf w14 => (b12.out.kept (kw.out.trans p.h)).six.2.2.2.2.2
          have uf0 := fun p : KeptOf w14 => (HF.out _ (kE'.out.trans (kw.out.trans p.h))).six.1
          have uf1 := fun p : KeptOf w14 => (HF.out _ (kE'.out.trans (kw.out.trans p.h))).six.2.1
          have uf2 := fun p : KeptOf w14 => (HF.out _ (kE'.out.trans (kw.out.trans p.h))).six.2.2.1
          have uf3 := fun p : KeptOf w14 => (HF.out _ (kE'.out.trans (kw.out.trans p.h))).six.2.2.2.1
          have uf4 := fun p : KeptOf w14 => (HF.out _ (kE'.out.trans (kw.out.trans p.h))).six.2.2.2.2.1
          have uf5 := fun p : KeptOf w14 => (HF.out _ (kE'.out.trans (kw.out.trans p.h))).six.2.2.2.2.2
          have ua0 := fun p : KeptOf w14 => (HA.out _ (kE'.out.trans (kw.out.trans p.h))).six.1
          have ua1 := fun p : KeptOf w14 => (HA.out _ (kE'.out.trans (kw.out.trans p.h))).six.2.1
          have ua2 := fun p : KeptOf w14 => (HA.out _ (kE'.out.trans (kw.out.trans p.h))).six.2.2.1
          have ua3 := fun p : KeptOf w14 => (HA.out _ (kE'.out.trans (kw.out.trans p.h))).six.2.2.2.1
          have ua4 := fun p : KeptOf w14 => (HA.out _ (kE'.out.trans (kw.out.trans p.h))).six.2.2.2.2.1
          have ua5 := fun p : KeptOf w14 => (HA.out _ (kE'.out.trans (kw.out.trans p.h))).six.2.2.2.2.2
          have ub0 := fun p : KeptOf w14 => (HB.out _ (kE'.out.trans (kw.out.trans p.h))).six.1
          have ub1 := fun p : KeptOf w14 => (HB.out _ (kE'.out.trans (kw.out.trans p.h))).six.2.1
          have ub2 := fun p : KeptOf w14 => (HB.out _ (kE'.out.trans (kw.out.trans p.h))).six.2.2.1
          have ub3 := fun p : KeptOf w14 => (HB.out _ (kE'.out.trans (kw.out.trans p.h))).six.2.2.2.1
          have ub4 := fun p : KeptOf w14 => (HB.out _ (kE'.out.trans (kw.out.trans p.h))).six.2.2.2.2.1
          have ub5 := fun p : KeptOf w14 => (HB.out _ (kE'.out.trans (kw.out.trans p.h))).six.2.2.2.2.2
          have hA2 := fun p : KeptOf w14 => Kx.out p.w (kw.out.trans p.h)
          have hA3 := fun p : KeptOf w14 => Ka.out p.w (kw.out.trans p.h)
          have hA4 := fun p : KeptOf w14 => Kb.out p.w (kw.out.trans p.h)
          have hA5 := fun p : KeptOf w14 => Kxx.out w13.heap.size p.w (kw.out.trans p.h) (bS.out.kept p.h)
          have hA6 := fun p : KeptOf w14 => K9.out p.w (kw.out.trans p.h)
          have hA7 := fun p : KeptOf w14 => K10.out p.w (kw.out.trans p.h)
          have hA8 := fun p : KeptOf w14 => K11.out p.w (kw.out.trans p.h)
          have hA9 := fun p : KeptOf w14 => K12.out p.w (kw.out.trans p.h)
          refine held_kept_drop 14 [1, 2, 2] [14, 16, 19, 20, 21, 22, 23, 24, 25, 26, 27, 28, 29, 30, 31, 32, 33, 34, 35, 36, 37, 38, 39, 40, 41, 42, 43, 44, 45, 46, 47, 48, 49, 50, 51, 52, 53, 54, 55, 56] (by kernel_rfl) (by kernel_rfl) rfl (by kernel_rfl) (fun q => ⟨⟨q.w, k14.out.trans q.h⟩, rfl⟩) ?_
          simp only [List.foldl_cons, List.foldl_nil, List.drop_succ_cons, List.drop_zero, List.eraseIdx_cons_succ, List.eraseIdx_cons_zero]
          repeat (go_big_quiet_step (first | with_reducible exact KeptOf.of (hA2 _) | with_reducible exact KeptOf.of (hA3 _) | with_reducible exact KeptOf.of (hA4 _) | with_reducible exact KeptOf.of (hA5 _) | with_reducible exact KeptOf.of (hA6 _) | with_reducible exact KeptOf.of (hA7 _) | with_reducible exact KeptOf.of (hA8 _) | with_reducible exact KeptOf.of (hA9 _)))
          refine Go.wpQuiet_nil ?_
          intro _ hw'
          obtain ⟨⟨V, hw⟩, hw''⟩ := hw'
          subst hw''
          go_wp2
          go_ret
          exact ⟨rfl, (HKX.out.trans kE'.out).trans (kw.out.trans hw)⟩)
end Go.Proofs.Ytnbjhcemonkhhaa.Mean
