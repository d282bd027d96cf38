/- Rules and expressions as they lie in memory: rows of cells beside what they tell. Conditions: none. -/
import Derived.Test.YtnbjhcemonkhhaaTrJ
import Derived.Test.YtnbjhcemonkhhaaRow2
import Derived.Test.YtnbjhcemonkhhaaBx
namespace Go.Proofs.Ytnbjhcemonkhhaa.Raw
set_option linter.unusedVariables false
open Go.ChangeShapes Go.WideShapes Go.ChangeAt Go.RowKit
open Tr
/-- An expression as it lies in memory. -/
structure RawE where
  e : ExprP
  RA : Option Addr
  rc : Nat
  OA : Option Addr
  oc : Nat
def encE (x : RawE) : List Value := [.int .i64 (kind x.e), .int .i64 (field x.e), .slice x.RA (rs x.e).length x.rc, .float .f64 (lo x.e), .float .f64 (hi x.e), .slice x.OA (of x.e).length x.oc]
theorem encE_len (x : RawE) : (encE x).length = 6 := rfl
theorem encE_one (x : RawE) : ∀ v ∈ encE x, v.oneCell' = true := by
  intro v hv
  simp [encE] at hv
  rcases hv with rfl | rfl | rfl | rfl | rfl | rfl <;> rfl
theorem info_expr : (Try.prog.info? 43).map (fun i => (i.zero, i.size, i.bytes)) = some (some (.agg #[.int .i64 0, .int .i64 0, .slice none 0 0, .float .f64 0, .float .f64 0, .slice none 0 0]), 6, 80) := by kernel_rfl
theorem raws_ofE {W : World} {A : Option Addr} {l : List ExprP} (h : Exs W A l) : ∃ raws : List RawE, raws.map RawE.e = l ∧ Row encE 6 W W.heap.size A l.length raws ∧ ∀ x ∈ raws, Ex W x.e x.RA x.OA := by
  rcases Nat.eq_zero_or_pos l.length with h0 | hp
  · obtain rfl := List.eq_nil_of_length_eq_zero h0
    exact ⟨[], rfl, Row.none_ _ _ _, fun x hx => by cases hx⟩
  · obtain ⟨b, off, rfl, hb⟩ := h.addr hp
    obtain ⟨raws, hl, hr⟩ := choose_list l.length (fun i (x : RawE) => x.e = l.getD i zero ∧ ElemAt W x.e x.RA x.OA x.rc x.oc b (off + i * 6) ∧ Ex W x.e x.RA x.OA) (fun i hi => by
      obtain ⟨_, RA, OA, rc, oc, hat, hx⟩ := h.elem i hi
      exact ⟨⟨l.getD i zero, RA, rc, OA, oc⟩, rfl, hat, hx⟩)
    refine ⟨raws, ?_, ⟨hl, fun _ => ⟨b, off, rfl, hb, fun j hj i v hv => ?_⟩⟩, fun x hx => ?_⟩
    · refine List.ext_getElem (by rw [List.length_map, hl]) fun i h1 h2 => ?_
      have := (hr i _ (List.getElem?_eq_getElem (by omega))).1
      rw [List.getElem_map, this, List.getD_eq_getElem?_getD, List.getElem?_eq_getElem h2]; rfl
    · obtain ⟨_, ⟨a0, a1, a2, a3, a4, a5⟩, _⟩ := hr j _ (List.getElem?_eq_getElem hj)
      match i, hv with
      | 0, hv => simp [encE] at hv; subst hv; exact a0
      | 1, hv => simp [encE] at hv; subst hv; exact a1
      | 2, hv => simp [encE] at hv; subst hv; exact a2
      | 3, hv => simp [encE] at hv; subst hv; exact a3
      | 4, hv => simp [encE] at hv; subst hv; exact a4
      | 5, hv => simp [encE] at hv; subst hv; exact a5
      | i + 6, hv => simp [encE] at hv
    · obtain ⟨j, hj, rfl⟩ := List.mem_iff_getElem.1 hx
      exact (hr j _ (List.getElem?_eq_getElem hj)).2.2
theorem exs_of {W : World} {A : Option Addr} {n : Nat} {raws : List RawE} (h : Row encE 6 W W.heap.size A n raws) (hx : ∀ x ∈ raws, Ex W x.e x.RA x.OA) : Exs W A (raws.map RawE.e) := fun hn => by
  rw [List.length_map] at hn
  have hl := h.1
  obtain ⟨b, off, rfl, hb⟩ := h.addr (by omega)
  obtain ⟨_, hc⟩ := h.cells (by omega)
  refine ⟨b, off, rfl, hb, exsIn_mk W _ b _ off fun k hk => ?_⟩
  rw [List.length_map] at hk
  have e1 : (raws.map RawE.e).getD k zero = raws[k].e := by
    rw [List.getD_eq_getElem?_getD, List.getElem?_eq_getElem (by rw [List.length_map]; exact hk), List.getElem_map]; rfl
  rw [e1]
  have he := hx _ (List.getElem_mem (h := hk))
  exact ⟨encE raws[k], fun j v hv => hc k (by omega) j v hv, he.into _ _⟩
/-- A rule as it lies in memory. -/
structure RawR where
  r : RuleP
  RA : Option Addr
  rc : Nat
  OA : Option Addr
  oc : Nat
def encR (x : RawR) : List Value := [.bool x.r.allow, .int .i64 (kind x.r.when_), .int .i64 (field x.r.when_), .slice x.RA (rs x.r.when_).length x.rc, .float .f64 (lo x.r.when_), .float .f64 (hi x.r.when_), .slice x.OA (of x.r.when_).length x.oc, .int .i64 x.r.num, .int .i64 x.r.per, .int .i64 x.r.burst, .int .i64 x.r.line]
theorem encR_len (x : RawR) : (encR x).length = 11 := rfl
theorem encR_one (x : RawR) : ∀ v ∈ encR x, v.oneCell' = true := by
  intro v hv
  simp [encR] at hv
  rcases hv with rfl | rfl | rfl | rfl | rfl | rfl | rfl | rfl | rfl | rfl | rfl <;> rfl
theorem info_rule : (Try.prog.info? 52).map (fun i => (i.zero, i.size, i.bytes)) = some (some (.agg #[.bool false, .int .i64 0, .int .i64 0, .slice none 0 0, .float .f64 0, .float .f64 0, .slice none 0 0, .int .i64 0, .int .i64 0, .int .i64 0, .int .i64 0]), 11, 120) := by kernel_rfl
theorem raws_of {W : World} {A : Option Addr} {l : List RuleP} (h : Rus W A l) : ∃ raws : List RawR, raws.map RawR.r = l ∧ Row encR 11 W W.heap.size A l.length raws ∧ ∀ x ∈ raws, Ex W x.r.when_ x.RA x.OA := by
  rcases Nat.eq_zero_or_pos l.length with h0 | hp
  · obtain rfl := List.eq_nil_of_length_eq_zero h0
    exact ⟨[], rfl, Row.none_ _ _ _, fun x hx => by cases hx⟩
  · obtain ⟨b, off, rfl, hb⟩ := h.addr hp
    obtain ⟨raws, hl, hr⟩ := choose_list l.length (fun i (x : RawR) => x.r = l.getD i zeroR ∧ RuleAt W x.r x.RA x.OA x.rc x.oc b (off + i * 11) ∧ Ex W x.r.when_ x.RA x.OA) (fun i hi => by
      obtain ⟨_, RA, OA, rc, oc, hat, hx⟩ := h.elem i hi
      exact ⟨⟨l.getD i zeroR, RA, rc, OA, oc⟩, rfl, hat, hx⟩)
    refine ⟨raws, ?_, ⟨hl, fun _ => ⟨b, off, rfl, hb, fun j hj i v hv => ?_⟩⟩, fun x hx => ?_⟩
    · refine List.ext_getElem (by rw [List.length_map, hl]) fun i h1 h2 => ?_
      have := (hr i _ (List.getElem?_eq_getElem (by omega))).1
      rw [List.getElem_map, this, List.getD_eq_getElem?_getD, List.getElem?_eq_getElem h2]; rfl
    · obtain ⟨_, ⟨a0, a1, a2, a3, a4, a5, a6, a7, a8, a9, a10⟩, _⟩ := hr j _ (List.getElem?_eq_getElem hj)
      match i, hv with
      | 0, hv => simp [encR] at hv; subst hv; exact a0
      | 1, hv => simp [encR] at hv; subst hv; exact a1
      | 2, hv => simp [encR] at hv; subst hv; exact a2
      | 3, hv => simp [encR] at hv; subst hv; exact a3
      | 4, hv => simp [encR] at hv; subst hv; exact a4
      | 5, hv => simp [encR] at hv; subst hv; exact a5
      | 6, hv => simp [encR] at hv; subst hv; exact a6
      | 7, hv => simp [encR] at hv; subst hv; exact a7
      | 8, hv => simp [encR] at hv; subst hv; exact a8
      | 9, hv => simp [encR] at hv; subst hv; exact a9
      | 10, hv => simp [encR] at hv; subst hv; exact a10
      | i + 11, hv => simp [encR] at hv
    · obtain ⟨j, hj, rfl⟩ := List.mem_iff_getElem.1 hx
      exact (hr j _ (List.getElem?_eq_getElem hj)).2.2
theorem rus_of {W : World} {A : Option Addr} {n : Nat} {raws : List RawR} (h : Row encR 11 W W.heap.size A n raws) (hx : ∀ x ∈ raws, Ex W x.r.when_ x.RA x.OA) : Rus W A (raws.map RawR.r) := fun hn => by
  rw [List.length_map] at hn
  have hl := h.1
  obtain ⟨b, off, rfl, hb⟩ := h.addr (by omega)
  obtain ⟨_, hc⟩ := h.cells (by omega)
  refine ⟨b, off, rfl, hb, fun k hk => ?_⟩
  rw [List.length_map] at hk
  rw [List.getElem_map]
  have he := hx _ (List.getElem_mem (h := hk))
  exact ⟨encR raws[k], fun j v hv => hc k (by omega) j v hv, _, rfl, rfl, he.into _ _⟩
end Go.Proofs.Ytnbjhcemonkhhaa.Raw
