/- Layer 6's reference: Right, Same, at, values. Conditions: lengths at most a million. -/
import Derived.Test.YtecajacpfikpcaaAskF
import Derived.WalkSpells
namespace Go.Proofs.Ytecajacpfikpcaa.Ref6
set_option linter.unusedVariables false
open Go.ChangeShapes Go.WideShapes Go.ChangeAt Go.RowKit


set_option maxHeartbeats 1000000 in
theorem same_any (A B : Option Addr) (n c m d : Nat) (a b : AskP) (w : World) (hn : n ≤ 1000000) (hA : Ints .i64 w w.heap.size A n a.vs) (hB : Ints .i64 w w.heap.size B m b.vs) :
    Calls Try.prog 34 #[.agg #[.int .i64 a.fc, .int .i64 a.rd, .int .i64 a.ct, .int .i64 a.wr, .int .i64 a.mn, .slice A n c], .agg #[.int .i64 b.fc, .int .i64 b.rd, .int .i64 b.ct, .int .i64 b.wr, .int .i64 b.mn, .slice B m d]] w
      fun e w' => e = .returned (.bool (Ak.same a b)) ∧ Keep w w' := by
  obtain ⟨fc, rd, ct, wr, mn, vs⟩ := a
  obtain ⟨fc2, rd2, ct2, wr2, mn2, vs2⟩ := b
  simp only at hA hB ⊢
  go_enter Try.func34, Try.ntmps34
  cases h1 : (fc == fc2)
  · go_wp2
    go_ret
    refine ⟨ret_bool ?_, ((Keep.refl w).alloc _).alloc _⟩
    simp only [Ak.same, h1, Bool.false_and]
  cases h2 : (rd == rd2)
  · go_wp2
    go_ret
    refine ⟨ret_bool ?_, ((Keep.refl w).alloc _).alloc _⟩
    simp only [Ak.same, h1, h2, Bool.false_and, Bool.true_and]
  cases h3 : (ct == ct2)
  · go_wp2
    go_ret
    refine ⟨ret_bool ?_, ((Keep.refl w).alloc _).alloc _⟩
    simp only [Ak.same, h1, h2, h3, Bool.false_and, Bool.true_and]
  cases h4 : (wr == wr2)
  · go_wp2
    go_ret
    refine ⟨ret_bool ?_, ((Keep.refl w).alloc _).alloc _⟩
    simp only [Ak.same, h1, h2, h3, h4, Bool.false_and, Bool.true_and]
  cases h5 : (mn == mn2)
  · go_wp2
    go_ret
    refine ⟨ret_bool ?_, ((Keep.refl w).alloc _).alloc _⟩
    simp only [Ak.same, h1, h2, h3, h4, h5, Bool.false_and, Bool.true_and]
  go_wp2_with fail
  have hK := ((Keep.refl w).alloc (.cells #[.int .i64 fc, .int .i64 rd, .int .i64 ct, .int .i64 wr, .int .i64 mn, .slice A n c] 25)).alloc (.cells #[.int .i64 fc2, .int .i64 rd2, .int .i64 ct2, .int .i64 wr2, .int .i64 mn2, .slice B m d] 25)
  refine (Ref1.ints_any _ _ _ _ _ _ _ _ _ hn (hA.kept hK) (hB.kept hK)).mono ?_
  rintro e w1 ⟨rfl, hq⟩
  replace hK := hK.trans hq.keep
  clear hq
  go_wp2
  go_ret
  refine ⟨ret_bool ?_, hK⟩
  simp only [Ak.same, h1, h2, h3, h4, h5, Bool.true_and]


end Go.Proofs.Ytecajacpfikpcaa.Ref6
