/- Layer 6's reference: Right, Same, at, values. Conditions: lengths at most a million. -/
import Derived.Test.YtijnajlijdnbcaaAskF
import Derived.WalkSpells
namespace Go.Proofs.Ytijnajlijdnbcaa.Ref6
set_option linter.unusedVariables false
open Go.ChangeShapes Go.WideShapes Go.ChangeAt Go.RowKit

set_option maxHeartbeats 1000000 in
theorem right_any (A : Option Addr) (n c : Nat) (a : AskP) (w : World) (hn : n ≤ 1000000) (hA : Ints .i64 w w.heap.size A n a.vs) :
    Calls Try.prog 17 #[.agg #[.int .i64 a.fc, .int .i64 a.rd, .int .i64 a.ct, .int .i64 a.wr, .int .i64 a.mn, .slice A n c]] w fun e w' => e = .returned (.bool (Ak.right a)) ∧ Keep w w' := by
  obtain ⟨fc, rd, ct, wr, mn, vs⟩ := a
  simp only at hA ⊢
  have cells : ∀ W W' : World, Keep (W.alloc (.cells #[.int .i64 fc, .int .i64 rd, .int .i64 ct, .int .i64 wr, .int .i64 mn, .slice A n c] 33)) W' →
      (W'.cell? ⟨W.heap.size, 1, none⟩ = some (.int .i64 rd) ∧ W'.cell? ⟨W.heap.size, 2, none⟩ = some (.int .i64 ct)) ∧ W'.cell? ⟨W.heap.size, 3, none⟩ = some (.int .i64 wr) ∧ W'.cell? ⟨W.heap.size, 4, none⟩ = some (.int .i64 mn) := fun W W' hK => by
    have hc : ∀ j v, (#[Value.int .i64 fc, .int .i64 rd, .int .i64 ct, .int .i64 wr, .int .i64 mn, .slice A n c] : Array Value)[j]? = some v → W'.cell? ⟨W.heap.size, j, none⟩ = some v := fun j v hj => by
      rw [hK.cell (by simp), World.cell?_alloc_at (hn := rfl), hj]
    exact ⟨⟨hc 1 _ rfl, hc 2 _ rfl⟩, hc 3 _ rfl, hc 4 _ rfl⟩
  go_enter Try.func17, Try.ntmps17
  go_wp2_with fail
  refine (formed_any A n c ⟨fc, rd, ct, wr, mn, vs⟩ _ hn (hA.kept ((Keep.refl w).alloc _))).mono ?_
  rintro e w1 ⟨rfl, hK⟩
  obtain ⟨⟨c1, c2⟩, c3, c4⟩ := cells w w1 hK
  replace hK : Keep w w1 := ((Keep.refl w).alloc _).trans hK
  clear cells
  cases hf : Ak.formed ⟨fc, rd, ct, wr, mn, vs⟩
  · go_wp2
    go_ret
    refine ⟨ret_bool ?_, hK⟩
    rw [Ak.right, hf]; rfl
  · have hb : (0 ≤ rd ∧ rd ≤ 65535) ∧ (0 ≤ ct ∧ ct ≤ 2000) ∧ (0 ≤ wr ∧ wr ≤ 65535) ∧ 0 ≤ mn ∧ mn ≤ 1968 := by
      have h := (Ak.formed_iff _).1 hf
      have h1 : Ak.reads fc ≤ 2000 := by unfold Ak.reads; repeat (first | omega | split)
      have h2 : Ak.wmax fc ≤ 1968 := by unfold Ak.wmax; repeat (first | omega | split)
      simp only at h
      omega
    have HR := Lib.hid (show Ak.right ⟨fc, rd, ct, wr, mn, vs⟩ = (decide (rd + ct ≤ 65536) && decide (wr + mn ≤ 65536)) by rw [Ak.right, hf]; simp)
    clear hf
    obtain ⟨⟨b1, b2⟩, ⟨b3, b4⟩, ⟨b5, b6⟩, b7, b8⟩ := hb
    by_cases h1 : rd + ct ≤ 65536
    · have d1 : decide (rd + ct ≤ 65536) = true := by simpa using h1
      go_wp2
      go_ret
      refine ⟨ret_bool ?_, hK⟩
      rw [HR.out, d1]; rfl
    · have d1 : decide (rd + ct ≤ 65536) = false := by simpa using h1
      go_wp2
      go_ret
      refine ⟨ret_bool ?_, hK⟩
      rw [HR.out, d1]; rfl



end Go.Proofs.Ytijnajlijdnbcaa.Ref6
