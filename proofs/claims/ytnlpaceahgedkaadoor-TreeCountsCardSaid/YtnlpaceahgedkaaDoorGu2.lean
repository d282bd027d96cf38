/- Layer 2's reading, its deferred function that recovers, and its writing. Conditions: texts at most a million bytes; the library's table lies. -/
import Derived.Test.YtnlpaceahgedkaaDoorGu
import Derived.Defers
import Derived.Recover
import Derived.Laws.Pointers
namespace Go.Proofs.YtnlpaceahgedkaaDoor.Guard
open Go.ChangeShapes Go.WideShapes Go.ChangeAt Go.RowKit

theorem lt_of_cell? {w : World} {p : Addr} {v : Value} (h : w.cell? p = some v) : p.block < w.heap.size := by
  rcases Nat.lt_or_ge p.block w.heap.size with hlt | hge
  · exact hlt
  · unfold World.cell? at h
    rw [Array.getElem?_eq_none hge] at h
    split at h <;> simp_all

/-- The world with the two named results' variables. -/
def res2 (w : World) : World := (w.alloc (.cells #[.int .i64 0] 3)).alloc (.cells #[.bool false] 4)
theorem res2_keep (w : World) : Below w.heap.size w (res2 w) := ((Below.refl _ _).alloc (Nat.le_refl _) _).alloc (by simp) _
theorem res2_n (w : World) : (res2 w).cell? ⟨w.heap.size, 0, none⟩ = some (.int .i64 0) := by simp [res2, go_sem]
theorem res2_ok (w : World) : (res2 w).cell? ⟨w.heap.size + 1, 0, none⟩ = some (.bool false) := by simp [res2, go_sem]
theorem res2_fn (w : World) : (res2 w).frozen? ⟨w.heap.size, 0, none⟩ = false := by simp [res2, go_sem]
theorem res2_fok (w : World) : (res2 w).frozen? ⟨w.heap.size + 1, 0, none⟩ = false := by simp [res2, go_sem]

set_option maxHeartbeats 400000 in
theorem put_any (n : Int) (w : World) (ht : Tab w) :
    Calls Tryd.prog 76 #[.int .i64 n] w fun e w' => e = .returned (.tuple #[.string (st (Gu.put n)), .bool (Gu.inR n)]) ∧ Keep w w' := by
  by_cases h0 : n < 0
  · have e := Gu.inR_lo h0
    rw [Gu.put_out e, e]
    clear e
    go_enter Tryd.func76, Tryd.ntmps76
    go_wp2
    go_ret2
    exact ⟨rfl, Keep.refl _⟩
  · by_cases h1 : 9007199254740992 < n
    · have e := Gu.inR_hi h1
      rw [Gu.put_out e, e]
      clear e
      go_enter Tryd.func76, Tryd.ntmps76
      go_wp2
      go_ret2
      exact ⟨rfl, Keep.refl _⟩
    · have e := Gu.inR_mk (n := n) (by omega) (by omega)
      rw [Gu.put_in e, e]
      clear e
      go_enter Tryd.func76, Tryd.ntmps76
      go_wp2_with fail
      refine (itoa_any n (by omega) (by omega) _ ht).mono ?_
      rintro e w1 ⟨rfl, hb⟩
      go_wp2
      go_ret2
      exact ⟨rfl, hb⟩
end Go.Proofs.YtnlpaceahgedkaaDoor.Guard
