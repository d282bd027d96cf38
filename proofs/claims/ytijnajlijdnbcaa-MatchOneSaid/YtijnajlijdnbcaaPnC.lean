/- Layer 20's own: a list of copies, parting by a closure. Conditions: lists of at most a million. -/
import Derived.Test.YtijnajlijdnbcaaPnB
namespace Go.Proofs.Ytijnajlijdnbcaa.Pend
set_option linter.unusedVariables false
set_option maxRecDepth 100000
open Go.Shelf Go.ChangeShapes Go.WideShapes Go.ChangeAt Go.RowKit
open Pn
theorem set_app (a b : List Value) (m : Nat) (v : Value) (h : a.length = 12) : (a ++ b).set (12 + m) v = a ++ b.set m v := by
  rw [List.set_append_right _ _ (by omega), h, Nat.add_sub_cancel_left]
theorem flat_put (x : PendP) : ∀ (zs : List PendP) (i : Nat), (((((((((((((flat encQ zs).set (i * 12) (.int .i64 x.o)).set (i * 12 + 1) (.int .i64 x.cn)).set (i * 12 + 2) (.int .i64 x.lf)).set (i * 12 + 3) (.int .i64 x.id)).set (i * 12 + 4) (.int .i64 x.un)).set (i * 12 + 5) (.int .i64 x.ak.fc)).set (i * 12 + 6) (.int .i64 x.ak.rd)).set (i * 12 + 7) (.int .i64 x.ak.ct)).set (i * 12 + 8) (.int .i64 x.ak.wr)).set (i * 12 + 9) (.int .i64 x.ak.mn)).set (i * 12 + 10) (.slice x.A x.ak.vs.length x.c)).set (i * 12 + 11) (.int .i64 x.due)) = flat encQ (zs.set i x)
  | [], i => by simp [flat]
  | z :: zs, 0 => by
    simp only [flat_cons, List.set_cons_zero, Nat.zero_mul, Nat.zero_add]
    simp [encQ]
  | z :: zs, i + 1 => by
    have ih := flat_put x zs i
    have e0 : (i + 1) * 12 = 12 + i * 12 := by omega
    rw [List.set_cons_succ, flat_cons, flat_cons, ← ih]
    simp only [e0, Nat.add_assoc, set_app _ _ _ _ (encQ_len z)]
theorem own_put {w : World} {base : Nat} {e : TypeId} {g cap n : Nat} {zs : List PendP} (h : w.ownsRow base e 12 (.slice (some ⟨g, 0, none⟩) n cap) n (flat encQ zs)) (i : Nat) (x : PendP) :
    ((((((((((((w.setCell ⟨g, i * 12, none⟩ (.int .i64 x.o)).setCell ⟨g, i * 12 + 1, none⟩ (.int .i64 x.cn)).setCell ⟨g, i * 12 + 2, none⟩ (.int .i64 x.lf)).setCell ⟨g, i * 12 + 3, none⟩ (.int .i64 x.id)).setCell ⟨g, i * 12 + 4, none⟩ (.int .i64 x.un)).setCell ⟨g, i * 12 + 5, none⟩ (.int .i64 x.ak.fc)).setCell ⟨g, i * 12 + 6, none⟩ (.int .i64 x.ak.rd)).setCell ⟨g, i * 12 + 7, none⟩ (.int .i64 x.ak.ct)).setCell ⟨g, i * 12 + 8, none⟩ (.int .i64 x.ak.wr)).setCell ⟨g, i * 12 + 9, none⟩ (.int .i64 x.ak.mn)).setCell ⟨g, i * 12 + 10, none⟩ (.slice x.A x.ak.vs.length x.c)).setCell ⟨g, i * 12 + 11, none⟩ (.int .i64 x.due)).ownsRow base e 12 (.slice (some ⟨g, 0, none⟩) n cap) n (flat encQ (zs.set i x)) := by
  have := ((((((((((((h.stored (i * 12) (.int .i64 x.o)).1.stored (i * 12 + 1) (.int .i64 x.cn)).1.stored (i * 12 + 2) (.int .i64 x.lf)).1.stored (i * 12 + 3) (.int .i64 x.id)).1.stored (i * 12 + 4) (.int .i64 x.un)).1.stored (i * 12 + 5) (.int .i64 x.ak.fc)).1.stored (i * 12 + 6) (.int .i64 x.ak.rd)).1.stored (i * 12 + 7) (.int .i64 x.ak.ct)).1.stored (i * 12 + 8) (.int .i64 x.ak.wr)).1.stored (i * 12 + 9) (.int .i64 x.ak.mn)).1.stored (i * 12 + 10) (.slice x.A x.ak.vs.length x.c)).1.stored (i * 12 + 11) (.int .i64 x.due)).1
  rwa [flat_put] at this
theorem pair_set {w : World} {base b2 g n cap : Nat} {l : List PendP} {xs : List Value} (h : OwnV w base l ∧ w.ownsRow b2 35 12 (.slice (some ⟨g, 0, none⟩) n cap) n xs) (j : Nat) (u : Value) :
    OwnV (w.setCell ⟨g, j, none⟩ u) base l ∧ (w.setCell ⟨g, j, none⟩ u).ownsRow b2 35 12 (.slice (some ⟨g, 0, none⟩) n cap) n (xs.set j u) :=
  ⟨h.1.grown h.2 (h.2.stored j u).2, (h.2.stored j u).1⟩
theorem own_put_v {w : World} {base b2 g n cap : Nat} {l : List PendP} {xs : List Value} (hv : OwnV w base l) (h : w.ownsRow b2 35 12 (.slice (some ⟨g, 0, none⟩) n cap) n xs) (i : Nat) (x : PendP) :
    OwnV ((((((((((((w.setCell ⟨g, i * 12, none⟩ (.int .i64 x.o)).setCell ⟨g, i * 12 + 1, none⟩ (.int .i64 x.cn)).setCell ⟨g, i * 12 + 2, none⟩ (.int .i64 x.lf)).setCell ⟨g, i * 12 + 3, none⟩ (.int .i64 x.id)).setCell ⟨g, i * 12 + 4, none⟩ (.int .i64 x.un)).setCell ⟨g, i * 12 + 5, none⟩ (.int .i64 x.ak.fc)).setCell ⟨g, i * 12 + 6, none⟩ (.int .i64 x.ak.rd)).setCell ⟨g, i * 12 + 7, none⟩ (.int .i64 x.ak.ct)).setCell ⟨g, i * 12 + 8, none⟩ (.int .i64 x.ak.wr)).setCell ⟨g, i * 12 + 9, none⟩ (.int .i64 x.ak.mn)).setCell ⟨g, i * 12 + 10, none⟩ (.slice x.A x.ak.vs.length x.c)).setCell ⟨g, i * 12 + 11, none⟩ (.int .i64 x.due)) base l := (pair_set (pair_set (pair_set (pair_set (pair_set (pair_set (pair_set (pair_set (pair_set (pair_set (pair_set (pair_set ⟨hv, h⟩ (i * 12) (.int .i64 x.o)) (i * 12 + 1) (.int .i64 x.cn)) (i * 12 + 2) (.int .i64 x.lf)) (i * 12 + 3) (.int .i64 x.id)) (i * 12 + 4) (.int .i64 x.un)) (i * 12 + 5) (.int .i64 x.ak.fc)) (i * 12 + 6) (.int .i64 x.ak.rd)) (i * 12 + 7) (.int .i64 x.ak.ct)) (i * 12 + 8) (.int .i64 x.ak.wr)) (i * 12 + 9) (.int .i64 x.ak.mn)) (i * 12 + 10) (.slice x.A x.ak.vs.length x.c)) (i * 12 + 11) (.int .i64 x.due)).1
/-- A place of a row of the call's own: its cells, and that they may be written. -/
theorem own_pend {w : World} {base : Nat} {e : TypeId} {g cap n : Nat} {zs : List PendP} (h : w.ownsRow base e 12 (.slice (some ⟨g, 0, none⟩) n cap) n (flat encQ zs)) (j : Nat) (hj : j < n) :
    PAt w g (j * 12) (zs.getD j zero) ∧ ∀ i, w.frozen? ⟨g, i, none⟩ = false := by
  have hr := Row.of_own encQ_len h (by omega)
  have := (row_pend hr j hj).2
  rw [Nat.zero_add] at this
  exact ⟨this, fun i => h.frozenAt i⟩
theorem take_getD (l : List PendP) (k : Nat) (hk : k < l.length) : l.take (k + 1) = l.take k ++ [l.getD k zero] := by
  rw [List.take_succ_eq_append_getElem hk]
  simp [List.getD, List.getElem?_eq_getElem hk]
/-- A round of copying. -/
def CopyRel (w : World) (zs : List PendP) (v : Value) (n : Nat) (iv : Value) (wr : World) : Prop :=
  ∃ (k : Nat) (ys : List PendP), k ≤ n ∧ iv = .int .i64 k ∧ Hid (Like (zs.take k) ys) ∧ wr.ownsRow w.heap.size 35 12 v n (flat encQ (ys ++ zs.drop k)) ∧ Hid (OwnV wr w.heap.size ys) ∧ Keep w wr
theorem apart_l {v v' u : Value} {W : World} {base : Nat} {e : TypeId} {k n : Nat} {xs : List Value} (h : v.ownBlock = none ∨ u.ownBlock = none ∨ v.ownBlock ≠ u.ownBlock) (hu : W.ownsRow base e k u n xs) (hv : v'.ownBlock = v.ownBlock ∨ v'.ownBlock = some W.heap.size) :
    v'.ownBlock = none ∨ u.ownBlock = none ∨ v'.ownBlock ≠ u.ownBlock := by
  rcases hv with e | e
  · rw [e]; exact h
  · cases hb : u.ownBlock with
    | none => exact .inr (.inl rfl)
    | some g =>
      refine .inr (.inr ?_)
      rw [e]
      intro h
      injection h with h
      have := (hu.lt g hb).2
      omega
theorem apart_symm {v u : Value} (h : v.ownBlock = none ∨ u.ownBlock = none ∨ v.ownBlock ≠ u.ownBlock) : u.ownBlock = none ∨ v.ownBlock = none ∨ u.ownBlock ≠ v.ownBlock := by
  rcases h with h | h | h
  · exact .inr (.inl h)
  · exact .inl h
  · exact .inr (.inr fun e => h e.symm)
theorem apart_ne {v u : Value} (h : v.ownBlock = none ∨ u.ownBlock = none ∨ v.ownBlock ≠ u.ownBlock) : u.ownBlock = none ∨ u.ownBlock ≠ v.ownBlock := by
  rcases h with h | h | h
  · cases hu : u.ownBlock with
    | none => exact .inl rfl
    | some g => exact .inr (by rw [h]; exact fun e => by cases e)
  · exact .inl h
  · exact .inr fun e => h e.symm
/-- A closure that tests a place and what stands there. -/
def TestsI (g : Nat) (lb : Array Value) (q : Nat → PendP → Bool) (w : World) : Prop :=
  ∀ (W : World) (k : Nat) (p : PendP), Keep w W → Calls Try.prog g (#[.int .i64 (k : Int), .agg (cellsQ p)] ++ lb) W fun e w' => e = .returned (.bool (q k p)) ∧ Keep W w'
def PartRel (w : World) (G R : Nat → List PendP) (n : Nat) (o1 o2 iv : Value) (wr : World) : Prop :=
  ∃ (k : Nat) (xs ys : List PendP), k ≤ n ∧ iv = .int .i64 k ∧ Hid (Like (G k) xs ∧ Like (R k) ys) ∧ wr.ownsRow w.heap.size 35 12 o1 xs.length (flat encQ xs) ∧ wr.ownsRow w.heap.size 35 12 o2 ys.length (flat encQ ys) ∧
    Hid (o1.ownBlock = none ∨ o2.ownBlock = none ∨ o1.ownBlock ≠ o2.ownBlock) ∧ Hid (OwnV wr w.heap.size xs ∧ OwnV wr w.heap.size ys) ∧ Keep w wr ∧ xs.length ≤ k ∧ ys.length ≤ k
end Go.Proofs.Ytijnajlijdnbcaa.Pend
