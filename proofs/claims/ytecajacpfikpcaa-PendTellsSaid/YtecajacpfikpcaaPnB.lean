/- Layer 20's own: copies. Conditions: values of at most 2^44 numbers. -/
import Derived.Test.YtecajacpfikpcaaPnN
import Derived.Test.YtecajacpfikpcaaEqI
import Derived.Deep.AppendLies
import Derived.Shelf.Abstract
import Derived.Lib.SliceRun
namespace Go.Proofs.Ytecajacpfikpcaa.Pend
set_option linter.unusedVariables false
open Go.Shelf Go.ChangeShapes Go.WideShapes Go.ChangeAt Go.RowKit
open Pn
set_option maxHeartbeats 400000 in
theorem clone_ints (A : Option Addr) (n c : Nat) (zs : List Int) (w : World) (hn : n * 8 ≤ 140737488355328) (hA : Ints .i64 w w.heap.size A n zs) :
    Calls Try.prog 33 #[.slice A n c] w fun e w' => ∃ B d, e = .returned (.slice B n d) ∧ w'.ownsRow w.heap.size 3 1 (.slice B n d) n (zs.map (Value.int .i64)) ∧ Keep w w' := by
  rcases A with _ | ad
  · have h0 : n = 0 := by
      rcases Nat.eq_zero_or_pos n with h | h
      · exact h
      · obtain ⟨_, _, e, _⟩ := hA.2 h
        cases e
    subst h0
    have hz : zs = [] := List.eq_nil_of_length_eq_zero hA.1
    subst hz
    clear hA
    have heq : ∀ (w : World) (a : Option Addr) (n c n' c' : Nat), (binOp .eql 23 (.slice a n c) (.slice none n' c')).run Try.prog w = .ok (.bool a.isNone) w := fun w a n c n' c' => Lib.run_eql_slice_nil w _ _ a n c n' c' Try.underlying23
    go_enter Try.func33, Try.ntmps33
    go_wp2
    go_ret
    exact ⟨none, 0, rfl, World.ownsRow_nil _ _ _ _, Keep.refl _⟩
  · have heq : ∀ (w : World) (a : Option Addr) (n c n' c' : Nat), (binOp .eql 23 (.slice a n c) (.slice none n' c')).run Try.prog w = .ok (.bool a.isNone) w := fun w a n c n' c' => Lib.run_eql_slice_nil w _ _ a n c n' c' Try.underlying23
    go_enter Try.func33, Try.ntmps33
    go_wp2_with (at_builtin; refine append_ints rfl _ _ 23 rfl w.heap.size 3 .i64 8 Try.underlying23 EqI.info_int _ 0 [] rfl (World.ownsRow_lit w #[] 0 (Nat.le_refl _) (Nat.zero_le _) rfl) (by simp) w.heap.size (some ad) n c zs rfl (hA.keep fun p hp => by simp [World.cell?_alloc_lt, hp]) (by unfold maxLen; omega) (by omega) ?_)
    intro v' w1 hown hb
    obtain ⟨A1, c1, rfl⟩ := own_slice hown
    have e0 : 0 + n = n := Nat.zero_add n
    try rw [e0] at hown
    go_wp2
    go_ret
    exact ⟨A1, c1, by first | rfl | (rw [e0]), by first | exact hown | (rw [e0]; exact hown), ((Below.refl w.heap.size w).alloc (Nat.le_refl _) _).trans hb⟩
set_option maxHeartbeats 400000 in
theorem clone_any (A : Option Addr) (n c : Nat) (zs : List PendP) (w : World) (hn : n ≤ 1000000) (hA : Row encQ 12 w w.heap.size A n zs) :
    Calls Try.prog 32 #[.slice A n c] w fun e w' => ∃ B d, e = .returned (.slice B n d) ∧ w'.ownsRow w.heap.size 27 12 (.slice B n d) n (flat encQ zs) ∧ Keep w w' := by
  rcases A with _ | ad
  · have h0 : n = 0 := by
      rcases Nat.eq_zero_or_pos n with h | h
      · exact h
      · obtain ⟨_, _, e, _⟩ := hA.2 h
        cases e
    have hz : zs = [] := List.eq_nil_of_length_eq_zero (by rw [hA.1, h0])
    subst hz h0
    clear hA
    have heq : ∀ (w : World) (a : Option Addr) (n c n' c' : Nat), (binOp .eql 22 (.slice a n c) (.slice none n' c')).run Try.prog w = .ok (.bool a.isNone) w := fun w a n c n' c' => Lib.run_eql_slice_nil w _ _ a n c n' c' Try.underlying22
    go_enter Try.func32, Try.ntmps32
    go_wp2
    go_ret
    exact ⟨none, 0, rfl, World.ownsRow_nil _ _ _ _, Keep.refl _⟩
  · have heq : ∀ (w : World) (a : Option Addr) (n c n' c' : Nat), (binOp .eql 22 (.slice a n c) (.slice none n' c')).run Try.prog w = .ok (.bool a.isNone) w := fun w a n c n' c' => Lib.run_eql_slice_nil w _ _ a n c n' c' Try.underlying22
    go_enter Try.func32, Try.ntmps32
    go_wp2_with (at_builtin; refine append_rows rfl _ _ 22 rfl w.heap.size 27 _ 112 Try.underlying22 info_pend rfl (by omega) encQ_len encQ_one _ 0 [] rfl (World.ownsRow_lit w #[] 0 (Nat.le_refl _) (Nat.zero_le _) rfl) (by simp) w.heap.size (some ad) n c zs rfl (hA.keep fun p hp => by simp [World.cell?_alloc_lt, hp]) (by unfold maxLen; omega) (by omega) ?_)
    intro v' w1 hown hb
    obtain ⟨A1, c1, rfl⟩ := own_slice hown
    have e0 : 0 + n = n := Nat.zero_add n
    try rw [e0] at hown
    go_wp2
    go_ret
    exact ⟨A1, c1, by first | rfl | (rw [e0]), by first | exact hown | (rw [e0]; exact hown), ((Below.refl w.heap.size w).alloc (Nat.le_refl _) _).trans hb⟩
theorem ownsRow_mono {w : World} {base base' : Nat} {e : TypeId} {size : Nat} {v : Value} {n : Nat} {xs : List Value} (hb : base' ≤ base) (h : w.ownsRow base e size v n xs) : w.ownsRow base' e size v n xs := by
  obtain ⟨h1, h2⟩ := h
  refine ⟨h1, h2.imp id ?_⟩
  rintro ⟨g, cap, cur, e, hg, r⟩
  exact ⟨g, cap, cur, e, Nat.le_trans hb hg, r⟩
theorem results_cell {fn : Func} {p : Tmp} {ty : TypeId} (h : fn.results = #[.cell p ty]) (tmps : Array Value) (P : Program) (w : World) :
    (results fn tmps).run P w = ((asAddr (tmps.getD p undef)).run P w).andThen fun a w₁ => ((loadVar ty a).run P w₁).andThen fun v w₂ => .ok v w₂ := by
  simp only [results, h]
  simp [Sem.run_bind, Result.andThen]
  cases (asAddr (tmps[p]?.getD undef)).run P w with
  | ok a w1 => simp only; cases (loadVar ty a).run P w1 <;> rfl
  | halt h w1 => rfl
/-- A copy of one, its values the call's own. -/
def RetC (p : PendP) (w : World) (e : Ending) (w' : World) : Prop :=
  ∃ B d, e = .returned (.agg #[.int .i64 p.o, .int .i64 p.cn, .int .i64 p.lf, .int .i64 p.id, .int .i64 p.un, .int .i64 p.ak.fc, .int .i64 p.ak.rd, .int .i64 p.ak.ct, .int .i64 p.ak.wr, .int .i64 p.ak.mn, .slice B p.ak.vs.length d, .int .i64 p.due]) ∧ w'.ownsRow w.heap.size 3 1 (.slice B p.ak.vs.length d) p.ak.vs.length (p.ak.vs.map (Value.int .i64)) ∧ Keep w w'
set_option maxHeartbeats 1000000 in
theorem copyOf_any (p : PendP) (w : World) (hn : p.ak.vs.length * 8 ≤ 140737488355328) (hA : Ints .i64 w w.heap.size p.A p.ak.vs.length p.ak.vs) :
    Calls Try.prog 24 #[aggQ p] w (RetC p w) := by
  obtain ⟨zc, hzc⟩ : ∃ zc : Array Value, zc = #[.int .i64 0, .int .i64 0, .int .i64 0, .int .i64 0, .int .i64 0, .int .i64 0, .int .i64 0, .int .i64 0, .int .i64 0, .int .i64 0, .slice none 0 0, .int .i64 0] := ⟨_, rfl⟩
  have k0 : Keep w ((w.alloc (.cells (cellsQ p) 27)).alloc (.cells zc 27)) := ((Keep.refl w).alloc _).alloc _
  have HC := Lib.hid (clone_ints p.A p.ak.vs.length p.c p.ak.vs _ hn (hA.kept k0))
  have hsz : ((w.alloc (.cells (cellsQ p) 27)).alloc (.cells zc 27)).heap.size = w.heap.size + 2 := by simp
  subst hzc
  clear hA hn
  show Calls _ _ #[.agg (cellsQ p)] w _
  go_enter Try.func24, Try.ntmps24
  go_wp2_with fail
  refine HC.out.mono ?_
  rintro e w1 ⟨B, d, rfl, hown, k1⟩
  rw [hsz] at hown
  have hlit : ∀ i v, (cellsQ p)[i]? = some v → w1.cell? ⟨w.heap.size, i, none⟩ = some v := fun i v h => (Below.cell k1 (by rw [hsz]; show w.heap.size < _; omega)).trans (by simpa using h)
  have f0 : w1.frozen? ⟨w.heap.size, 10, none⟩ = false := (Below.frozen k1 (by rw [hsz]; show w.heap.size < _; omega)).trans (by simp)
  have f1 : ∀ i, w1.frozen? ⟨w.heap.size + 1, i, none⟩ = false := fun i => (Below.frozen k1 (by rw [hsz]; show w.heap.size + 1 < _; omega)).trans (by simp)
  have c0 := hlit 0 _ rfl
  have c1 := hlit 1 _ rfl
  have c2 := hlit 2 _ rfl
  have c3 := hlit 3 _ rfl
  have c4 := hlit 4 _ rfl
  have c5 := hlit 5 _ rfl
  have c6 := hlit 6 _ rfl
  have c7 := hlit 7 _ rfl
  have c8 := hlit 8 _ rfl
  have c9 := hlit 9 _ rfl
  have c10 := hlit 10 _ rfl
  have c11 := hlit 11 _ rfl
  have hz : ∀ i v, (#[.int .i64 0, .int .i64 0, .int .i64 0, .int .i64 0, .int .i64 0, .int .i64 0, .int .i64 0, .int .i64 0, .int .i64 0, .int .i64 0, .slice none 0 0, .int .i64 0] : Array Value)[i]? = some v → w1.cell? ⟨w.heap.size + 1, i, none⟩ = some v := fun i v h => (Below.cell k1 (by rw [hsz]; show w.heap.size + 1 < _; omega)).trans (by simpa using h)
  have z0 := hz 0 _ rfl
  have z1 := hz 1 _ rfl
  have z2 := hz 2 _ rfl
  have z3 := hz 3 _ rfl
  have z4 := hz 4 _ rfl
  have z5 := hz 5 _ rfl
  have z6 := hz 6 _ rfl
  have z7 := hz 7 _ rfl
  have z8 := hz 8 _ rfl
  have z9 := hz 9 _ rfl
  have z10 := hz 10 _ rfl
  have z11 := hz 11 _ rfl
  clear hz hlit
  go_wp2
  (try simp only [Exit.inBlock, Exit.then])
  refine bodyPost_ret (v := .agg #[.int .i64 p.o, .int .i64 p.cn, .int .i64 p.lf, .int .i64 p.id, .int .i64 p.un, .int .i64 p.ak.fc, .int .i64 p.ak.rd, .int .i64 p.ak.ct, .int .i64 p.ak.wr, .int .i64 p.ak.mn, .slice B p.ak.vs.length d, .int .i64 p.due]) ?_ rfl ⟨B, d, rfl, ?_, ?_⟩
  · rw [results_cell rfl]
    go_simp
  · refine ownsRow_mono (show w.heap.size ≤ w.heap.size + 2 by omega) ?_
    repeat refine RowKit.ownsRow_setCell_below ?_ (by simp) _
    exact hown
  · replace k1 : Below w.heap.size w w1 := k0.trans k1
    show Below w.heap.size w _
    repeat refine Below.setCell ?_ (by simp) _
    exact k1
end Go.Proofs.Ytecajacpfikpcaa.Pend
