/- Rules in memory: what cells tell a rule; slices of rules, and of expressions, that came in. Conditions: none. -/
import Derived.Test.YtdkeibgfehblaaaGreatDoorTrI
namespace Go.Proofs.YtdkeibgfehblaaaGreatDoor.Tr
set_option linter.unusedVariables false
open Go.ChangeShapes Go.WideShapes Go.ChangeAt Go.RowKit
def zeroR : RuleP := ⟨false, zero, 0, 0, 0, 0⟩
/-- The eleven cells of a rule. -/
def RuIn (W : World) (B : Nat) (r : RuleP) (cs : List Value) : Prop :=
  ∃ es : List Value, es.length = 6 ∧ cs = .bool r.allow :: (es ++ [.int .i64 r.num, .int .i64 r.per, .int .i64 r.burst, .int .i64 r.line]) ∧ ExIn W B r.when_ es
/-- A slice of rules that lies there. -/
def Rus (W : World) (A : Option Addr) (l : List RuleP) : Prop :=
  0 < l.length → ∃ b off, A = some ⟨b, off, none⟩ ∧ b < W.heap.size ∧ ∀ k (h : k < l.length), ∃ cs : List Value, (∀ j v, cs[j]? = some v → W.cell? ⟨b, off + k * 11 + j, none⟩ = some v) ∧ RuIn W W.heap.size l[k] cs
theorem RuIn.kept {W W' : World} {r : RuleP} {cs : List Value} (h : RuIn W W.heap.size r cs) (hk : Keep W W') : RuIn W' W'.heap.size r cs := by
  obtain ⟨es, h1, h2, h3⟩ := h
  exact ⟨es, h1, h2, (ex_keep W W' _ _ hk.size (fun p hp => Below.cell hk hp) _).1 _ _ (Nat.le_refl _) h3⟩
theorem Rus.kept {W W' : World} {A : Option Addr} {l : List RuleP} (h : Rus W A l) (hk : Keep W W') : Rus W' A l := fun hn => by
  obtain ⟨b, off, ea, hb, hc⟩ := h hn
  refine ⟨b, off, ea, Nat.lt_of_lt_of_le hb hk.size, fun k hlt => ?_⟩
  obtain ⟨cs, h1, h2⟩ := hc k hlt
  exact ⟨cs, fun j v hv => (Below.cell hk hb).trans (h1 j v hv), h2.kept hk⟩
theorem Rus.addr {W : World} {A : Option Addr} {l : List RuleP} (h : Rus W A l) (hn : 0 < l.length) : ∃ b off, A = some ⟨b, off, none⟩ ∧ b < W.heap.size := by
  obtain ⟨b, off, ea, hb, _⟩ := h hn
  exact ⟨b, off, ea, hb⟩
/-- The cells of a rule at a place. -/
def RuleAt (W : World) (r : RuleP) (RA OA : Option Addr) (rc oc b p : Nat) : Prop :=
  W.cell? ⟨b, p, none⟩ = some (.bool r.allow) ∧ W.cell? ⟨b, p + 1, none⟩ = some (.int .i64 (kind r.when_)) ∧ W.cell? ⟨b, p + 2, none⟩ = some (.int .i64 (field r.when_)) ∧
  W.cell? ⟨b, p + 3, none⟩ = some (.slice RA (rs r.when_).length rc) ∧ W.cell? ⟨b, p + 4, none⟩ = some (.float .f64 (lo r.when_)) ∧ W.cell? ⟨b, p + 5, none⟩ = some (.float .f64 (hi r.when_)) ∧
  W.cell? ⟨b, p + 6, none⟩ = some (.slice OA (of r.when_).length oc) ∧ W.cell? ⟨b, p + 7, none⟩ = some (.int .i64 r.num) ∧ W.cell? ⟨b, p + 8, none⟩ = some (.int .i64 r.per) ∧
  W.cell? ⟨b, p + 9, none⟩ = some (.int .i64 r.burst) ∧ W.cell? ⟨b, p + 10, none⟩ = some (.int .i64 r.line)
theorem RuleAt.kept {W W' : World} {r : RuleP} {RA OA : Option Addr} {rc oc b p : Nat} (h : RuleAt W r RA OA rc oc b p) (hb : b < W.heap.size) (hk : Keep W W') : RuleAt W' r RA OA rc oc b p := by
  obtain ⟨h0, h1, h2, h3, h4, h5, h6, h7, h8, h9, h10⟩ := h
  exact ⟨(Below.cell hk hb).trans h0, (Below.cell hk hb).trans h1, (Below.cell hk hb).trans h2, (Below.cell hk hb).trans h3, (Below.cell hk hb).trans h4, (Below.cell hk hb).trans h5,
    (Below.cell hk hb).trans h6, (Below.cell hk hb).trans h7, (Below.cell hk hb).trans h8, (Below.cell hk hb).trans h9, (Below.cell hk hb).trans h10⟩
theorem Rus.elem {W : World} {b off : Nat} {l : List RuleP} (h : Rus W (some ⟨b, off, none⟩) l) (k : Nat) (hk : k < l.length) :
    b < W.heap.size ∧ ∃ RA OA rc oc, RuleAt W (l.getD k zeroR) RA OA rc oc b (off + k * 11) ∧ Ex W (l.getD k zeroR).when_ RA OA := by
  obtain ⟨b', off', ea, hb, hc⟩ := h (by omega)
  injection ea with ea
  injection ea with e1 e2
  subst e1 e2
  obtain ⟨cs, h1, es, hl, rfl, hx⟩ := hc k hk
  have e : l.getD k zeroR = l[k] := by rw [List.getD_eq_getElem?_getD, List.getElem?_eq_getElem hk]; rfl
  rw [e]
  obtain ⟨RA, rc, OA, oc, rfl, hE⟩ := hx.out
  exact ⟨hb, RA, OA, rc, oc, ⟨h1 0 _ rfl, h1 1 _ rfl, h1 2 _ rfl, h1 3 _ rfl, h1 4 _ rfl, h1 5 _ rfl, h1 6 _ rfl, h1 7 _ rfl, h1 8 _ rfl, h1 9 _ rfl, h1 10 _ rfl⟩, hE⟩
/-- All numbers of a rule fit. -/
def wfR (r : RuleP) : Prop := wf r.when_ ∧ ((Lit.int .i64 r.num).wf = true ∧ (Lit.int .i64 r.per).wf = true ∧ (Lit.int .i64 r.burst).wf = true ∧ (Lit.int .i64 r.line).wf = true)
def RulesIn (W : World) (A : Option Addr) (n : Nat) (l : List RuleP) : Prop := l.length = n ∧ Rus W A l ∧ ∀ r ∈ l, wfR r
def ExprsIn (W : World) (A : Option Addr) (n : Nat) (l : List ExprP) : Prop := l.length = n ∧ Exs W A l ∧ ∀ e ∈ l, wf e
theorem cellsR : Tryz.prog.cellsOf 46 = 11 := by kernel_rfl
theorem cellsB : Tryz.prog.cellsOf 4 = 1 := by kernel_rfl
theorem cellsRt : Tryz.prog.cellsOf 44 = 3 := by kernel_rfl
theorem opens_rule : Opens Tryz.prog 46 fun W cs => ∃ r, RuIn W W.heap.size r cs ∧ wfR r :=
  ((((opens_field Tryz.underlying46 0 _ rfl 11 1 cellsR cellsB (opens_bool Tryz.underlying4)).and (opens_field Tryz.underlying46 1 _ rfl 11 6 cellsR cells6 opens_expr)).and
    (opens_field Tryz.underlying46 2 _ rfl 11 3 cellsR cellsRt ((opens_field Tryz.underlying44 0 _ rfl 3 1 cellsRt ce_int (opens_int Tryz.underlying3)).and
      ((opens_field Tryz.underlying44 1 _ rfl 3 1 cellsRt ce_int (opens_int Tryz.underlying3)).and (opens_field Tryz.underlying44 2 _ rfl 3 1 cellsRt ce_int (opens_int Tryz.underlying3)))))).and
    (opens_field Tryz.underlying46 3 _ rfl 11 1 cellsR ce_int (opens_int Tryz.underlying3))).mono
  fun W cs ⟨⟨⟨⟨hl, b, eb⟩, _, e, he, hw⟩, _, ⟨_, x, ex, wx⟩, ⟨_, y, ey, wy⟩, _, z, ez, wz⟩, _, n, en, wn⟩ => by
    match cs, hl with
    | [c0, c1, c2, c3, c4, c5, c6, c7, c8, c9, c10], _ =>
      simp at eb he ex ey ez en
      subst eb ex ey ez en
      exact ⟨⟨b, e, x, y, z, n⟩, ⟨[c1, c2, c3, c4, c5, c6], rfl, rfl, he⟩, hw, wx, wy, wz, wn⟩
theorem opens_rules : Opens Tryz.prog 22 fun W cs => ∃ A n c l, cs = [.slice A n c] ∧ n ≤ c ∧ c ≤ maxLen ∧ RulesIn W A n l :=
  (opens_slice Tryz.underlying22 cellsR (by omega) opens_rule).mono fun W cs ⟨A, n, c, hcs, hn, hc, hE⟩ => by
    rcases Nat.eq_zero_or_pos n with rfl | hp
    · exact ⟨A, 0, c, [], hcs, hn, hc, rfl, fun h => absurd h (by simp), fun r hr => by cases hr⟩
    · obtain ⟨b, off, hA, hb, hE⟩ := hE hp
      obtain ⟨l, hl, hls⟩ := choose_list n (fun i (r : RuleP) => (∃ cs : List Value, (∀ j v, cs[j]? = some v → W.cell? ⟨b, off + i * 11 + j, none⟩ = some v) ∧ RuIn W W.heap.size r cs) ∧ wfR r) (fun i hi => by
        obtain ⟨es, hl, hc, r, hr, hw⟩ := hE i hi
        exact ⟨r, ⟨es, fun j v hv => by rw [hc j (by have := (List.getElem?_eq_some_iff.1 hv).1; omega), hv], hr⟩, hw⟩)
      refine ⟨A, n, c, l, hcs, hn, hc, hl, fun _ => ⟨b, off, hA, hb, fun k hk => (hls k _ (List.getElem?_eq_getElem hk)).1⟩, fun r hr => ?_⟩
      obtain ⟨j, hj, rfl⟩ := List.mem_iff_getElem.1 hr
      exact (hls j _ (List.getElem?_eq_getElem hj)).2
theorem opens_exprs : Opens Tryz.prog 33 fun W cs => ∃ A n c l, cs = [.slice A n c] ∧ n ≤ c ∧ c ≤ maxLen ∧ ExprsIn W A n l :=
  (opens_slice Tryz.underlying33 cells6 (by omega) opens_expr).mono fun W cs ⟨A, n, c, hcs, hn, hc, hE⟩ => by
    rcases Nat.eq_zero_or_pos n with rfl | hp
    · exact ⟨A, 0, c, [], hcs, hn, hc, rfl, fun h => absurd h (by simp), fun r hr => by cases hr⟩
    · obtain ⟨b, off, hA, hb, hE⟩ := hE hp
      obtain ⟨l, hl, hls⟩ := choose_list n (fun i (r : ExprP) => (∃ cs : List Value, (∀ j v, cs[j]? = some v → W.cell? ⟨b, off + i * 6 + j, none⟩ = some v) ∧ ExIn W W.heap.size r cs) ∧ wf r) (fun i hi => by
        obtain ⟨es, hl, hc, r, hr, hw⟩ := hE i hi
        exact ⟨r, ⟨es, fun j v hv => by rw [hc j (by have := (List.getElem?_eq_some_iff.1 hv).1; omega), hv], hr⟩, hw⟩)
      refine ⟨A, n, c, l, hcs, hn, hc, hl, fun _ => ⟨b, off, hA, hb, exsIn_mk W _ b l off fun k hk => ?_⟩, fun r hr => ?_⟩
      · have := (hls k _ (List.getElem?_eq_getElem hk)).1
        rwa [List.getD_eq_getElem?_getD, List.getElem?_eq_getElem hk]
      · obtain ⟨j, hj, rfl⟩ := List.mem_iff_getElem.1 hr
        exact (hls j _ (List.getElem?_eq_getElem hj)).2
end Go.Proofs.YtdkeibgfehblaaaGreatDoor.Tr
