/- Layer 6's reference: Put, read, Get. Conditions: lengths at most a million. -/
import Derived.Test.YtijnajlijdnbcaaAskS
import Derived.Laws.ResultCell
namespace Go.Proofs.Ytijnajlijdnbcaa.Ref6
set_option linter.unusedVariables false
open Go.ChangeShapes Go.WideShapes Go.ChangeAt Go.RowKit

set_option maxHeartbeats 1000000 in
theorem put_any (A : Option Addr) (n c : Nat) (a : AskP) (w : World) (hn : n ≤ 1000000) (hA : Ints .i64 w w.heap.size A n a.vs) :
    Calls Try.prog 44 #[.agg #[.int .i64 a.fc, .int .i64 a.rd, .int .i64 a.ct, .int .i64 a.wr, .int .i64 a.mn, .slice A n c]] w fun e w' => e = .returned (.tuple #[.string (st (Ak.put a)), .bool (Ak.right a)]) ∧ Keep w w' := by
  cases hr : Ak.right a
  · have hp : Ak.put a = [] := by rw [Ak.put, hr]; rfl
    rw [hp]
    obtain ⟨fc, rd, ct, wr, mn, vs⟩ := a
    simp only at hA ⊢
    go_enter Try.func44, Try.ntmps44
    go_wp2_with fail
    refine (right_any A n c ⟨fc, rd, ct, wr, mn, vs⟩ _ hn (hA.kept ((Keep.refl w).alloc _))).mono ?_
    rintro e w1 ⟨rfl, hK⟩
    rw [hr]
    go_wp2
    go_ret2
    exact ⟨rfl, ((Keep.refl w).alloc _).trans hK⟩
  · have hp : Ak.put a = Ak.bytes a := by rw [Ak.put, hr]; rfl
    have hf := ((Ak.right_iff a).1 hr).1
    rw [hp]
    rcases Ak.cases_formed hf with ⟨fc, rd, ct, rfl, hf2, h0, h1, h2, h3⟩ | ⟨wr, z, rfl, h0, h1, hz⟩ | ⟨wr, z, rfl, h0, h1, h2, h3⟩ | ⟨wr, y, z, rfl, h0, h1, hy, h2, h3⟩ |
      ⟨wr, vs, rfl, h0, h1, h2, h3, hb⟩ | ⟨wr, vs, rfl, h0, h1, h2, h3, hb⟩ | ⟨rd, ct, wr, vs, rfl, hrd, hct, h0, h1, h2, h3, hb⟩
    · exact put_read A n c fc rd ct w hf2 ⟨h0, h1⟩ ⟨by omega, by omega⟩ hr hA
    · obtain rfl : n = 1 := by have := hA.1; simp at this; omega
      exact put_5 A c wr z w hz ⟨h0, h1⟩ hr hA
    · obtain rfl : n = 1 := by have := hA.1; simp at this; omega
      exact put_6 A c wr z w ⟨h2, h3⟩ ⟨h0, h1⟩ hr hA
    · obtain rfl : n = 2 := by have := hA.1; simp at this; omega
      exact put_22 A c wr y z w hy ⟨h2, h3⟩ ⟨h0, h1⟩ hr hA
    · obtain rfl : n = vs.length := by have := hA.1; simp at this; omega
      exact put_15 A vs.length c wr vs w h3 hb ⟨h0, h1⟩ hr hA
    · obtain rfl : n = vs.length := by have := hA.1; simp at this; omega
      exact put_16 A vs.length c wr vs w h3 hb ⟨h0, h1⟩ hr hA
    · obtain rfl : n = vs.length := by have := hA.1; simp at this; omega
      exact put_23 A vs.length c rd ct wr vs w hrd ⟨by omega, by omega⟩ h3 hb ⟨h0, h1⟩ hr hA

/-- What comes back: a request, and something more. -/
def RetAsk (a : AskP) (v : Value) (w : World) (e : Ending) (w' : World) : Prop :=
  ∃ A n c, e = .returned (.tuple #[.agg #[.int .i64 a.fc, .int .i64 a.rd, .int .i64 a.ct, .int .i64 a.wr, .int .i64 a.mn, .slice A n c], v]) ∧ Ints .i64 w' w'.heap.size A n a.vs ∧ Below w.heap.size w w' ∧ Fresh w A n

theorem below_drewN {B : Nat} {a w : World} (h : Below B a w) (n : Nat) : Below B a (w.drewN n) := h.trans (((Quiet.refl w).drewN n).below B)
theorem size_eq (s : ByteArray) (n : Nat) : (s.size == n) = ((s.size : Int) == (n : Int)) := by rw [Bool.eq_iff_iff]; simp; omega

end Go.Proofs.Ytijnajlijdnbcaa.Ref6
