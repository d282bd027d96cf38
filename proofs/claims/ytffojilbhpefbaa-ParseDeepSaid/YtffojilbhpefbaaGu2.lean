/- Layer 2's reading, its deferred function that recovers, and its writing. Conditions: texts at most a million bytes; the library's table lies. -/
import Derived.Test.YtffojilbhpefbaaGu
import Derived.Defers
import Derived.Recover
import Derived.Laws.Pointers
namespace Go.Proofs.Ytffojilbhpefbaa.Guard
open Go.ChangeShapes Go.WideShapes Go.ChangeAt Go.RowKit

theorem lt_of_cell? {w : World} {p : Addr} {v : Value} (h : w.cell? p = some v) : p.block < w.heap.size := by
  rcases Nat.lt_or_ge p.block w.heap.size with hlt | hge
  · exact hlt
  · unfold World.cell? at h
    rw [Array.getElem?_eq_none hge] at h
    split at h <;> simp_all

/-- The panic of a reading that is given up. -/
def wrongPanic (r : Bool) : PanicEntry := { v := .iface 92 (.agg #[]), recovered := r }
/-- What the deferred function leaves of a reading that was given up. -/
def Caught (b : Nat) (w : World) (older : List PanicEntry) (e : Ending) (u' : FrameMode) (w' : World) : Prop :=
  e = .returned (.tuple #[]) ∧ u' = .panicking (wrongPanic true :: older) ∧ w'.cell? ⟨b, 0, none⟩ = some (.int .i64 0) ∧ w'.cell? ⟨b + 1, 0, none⟩ = some (.bool false) ∧ Below b w w'

set_option maxHeartbeats 1000000 in
theorem catch_panicking (b : Nat) (x : Int) (y : Bool) (older : List PanicEntry) (w : World) (hp : w.cell? ⟨b, 0, none⟩ = some (.int .i64 x)) (hq : w.cell? ⟨b + 1, 0, none⟩ = some (.bool y)) (hzp : w.frozen? ⟨b, 0, none⟩ = false) (hzq : w.frozen? ⟨b + 1, 0, none⟩ = false) :
    CallsD Try.prog 55 #[.pointer (some ⟨b, 0, none⟩), .pointer (some ⟨b + 1, 0, none⟩)] (.panicking (wrongPanic false :: older)) w (Caught b w older) := by
  have hlt := lt_of_cell? hq
  refine callsD_of_wpS Try.func55 rfl fun c₀ cs hu => ?_
  apply wpS_seq
  apply wpS_region
  simp [wpOpsS, go_sem, recoverD, hu, Try.ntmps55, Exit.thenS, wrongPanic]
  refine wpS_of_wp ?_
  have hta : ∀ w : World, (Instr.typeAssert (.iface 92 (.agg #[])) 20 92 true).run Try.prog w = .ok (.tuple #[.agg #[], .bool true]) w := fun w => (by kernel_rfl)
  clear hu
  have bel := (Below.refl w.heap.size w).alloc (Nat.le_refl _) (.cells #[] 92)
  have hp1 := (bel.cell (p := ⟨b, 0, none⟩) (by show b < _; have : b + 1 < w.heap.size := hlt; omega)).trans hp
  have hq1 := (bel.cell (p := ⟨b + 1, 0, none⟩) hlt).trans hq
  have hzp1 := (bel.frozen (p := ⟨b, 0, none⟩) (by show b < _; have : b + 1 < w.heap.size := hlt; omega)).trans hzp
  have hzq1 := (bel.frozen (p := ⟨b + 1, 0, none⟩) hlt).trans hzq
  have HLT := Lib.hid hlt
  clear bel hp hq hzp hzq hlt
  change Code.wp _ _ _ { tmps := #[.pointer (some ⟨b, 0, none⟩), .pointer (some ⟨b + 1, 0, none⟩), .iface 92 (.agg #[]), undef, undef, .iface 92 (.agg #[]), undef, undef, undef, undef, undef, undef, undef, undef, undef, undef], defers := [] } _
  go_wp2
  have hlt : b + 1 < w.heap.size := HLT.out
  refine ⟨rfl, .panicking (wrongPanic true :: older), rfl, .tuple #[], by simp [results, Try.results55, go_sem], rfl, rfl, ?_, ?_, ?_⟩
  · exact (World.cell?_setCell_other _ _ _ _ (by simp)).trans (World.cell?_setCell_same _ _ _ hp1)
  · exact World.cell?_setCell_same _ _ _ ((World.cell?_setCell_other _ _ _ _ (by simp)).trans hq1)
  · exact ((((Below.refl b w).alloc (by omega) _)).setCell (Nat.le_refl _) _).setCell (Nat.le_succ _) _

set_option maxHeartbeats 1000000 in
theorem catch_idle (p q : Addr) (w : World) :
    CallsD Try.prog 55 #[.pointer (some p), .pointer (some q)] .returning w fun e u' w' => e = .returned (.tuple #[]) ∧ u' = .returning ∧ w' = w := by
  refine callsD_of_wpS Try.func55 rfl fun c₀ cs hu => ?_
  apply wpS_seq
  apply wpS_region
  simp [wpOpsS, go_sem, recoverD, hu, Try.ntmps55, Exit.thenS]
  refine wpS_of_wp ?_
  go_wp2
  refine ⟨rfl, .returning, ?_, .tuple #[], by simp [results, Try.results55, go_sem], rfl, rfl, rfl⟩
  rw [← hu]

/-- The world with the two named results' variables. -/
def res2 (w : World) : World := (w.alloc (.cells #[.int .i64 0] 3)).alloc (.cells #[.bool false] 4)
theorem res2_keep (w : World) : Below w.heap.size w (res2 w) := ((Below.refl _ _).alloc (Nat.le_refl _) _).alloc (by simp) _
theorem res2_n (w : World) : (res2 w).cell? ⟨w.heap.size, 0, none⟩ = some (.int .i64 0) := by simp [res2, go_sem]
theorem res2_ok (w : World) : (res2 w).cell? ⟨w.heap.size + 1, 0, none⟩ = some (.bool false) := by simp [res2, go_sem]
theorem res2_fn (w : World) : (res2 w).frozen? ⟨w.heap.size, 0, none⟩ = false := by simp [res2, go_sem]
theorem res2_fok (w : World) : (res2 w).frozen? ⟨w.heap.size + 1, 0, none⟩ = false := by simp [res2, go_sem]

set_option maxHeartbeats 1000000 in
theorem get_any (s : ByteArray) (w : World) (hs : s.size ≤ 1000000) :
    Calls Try.prog 48 #[.string s] w fun e w' => e = .returned (.tuple #[.int .i64 (Gu.getN (bl s)), .bool (Gu.getOk (bl s))]) ∧ Keep w w' := by
  have hmf : ∀ (fn : Fn) (first cap : Array Value) (w : World), (Instr.makeFunc fn first cap).run Try.prog w = .ok (.func fn first cap) w := fun _ _ _ _ => rfl
  go_enter_defers Try.func48, Try.ntmps48
  go_wp2_with fail
  refine (read_any s _ hs).mono ?_
  rintro e w1 ⟨hend, hq⟩
  have c1 := (hq.cell ⟨w.heap.size, 0, none⟩).trans (res2_n w)
  have c2 := (hq.cell ⟨w.heap.size + 1, 0, none⟩).trans (res2_ok w)
  have f1 := (hq.frozen ⟨w.heap.size, 0, none⟩).trans (res2_fn w)
  have f2 := (hq.frozen ⟨w.heap.size + 1, 0, none⟩).trans (res2_fok w)
  have hb : Below w.heap.size w w1 := (res2_keep w).trans (hq.below _)
  clear hq
  rcases hend with ⟨hok, rfl⟩ | ⟨hno, he⟩
  · have HOK := Lib.hid hok
    clear hok
    go_wp2
    refine leaves_cons (f := 55) (args := #[.pointer (some ⟨w.heap.size, 0, none⟩), .pointer (some ⟨w.heap.size + 1, 0, none⟩)]) (by simp) (by simp [go_sem]) ?_
    refine (catch_idle ⟨w.heap.size, 0, none⟩ ⟨w.heap.size + 1, 0, none⟩ _).mono ?_
    rintro e u' w'' ⟨rfl, rfl, rfl⟩
    have r1 : ((w1.setCell ⟨w.heap.size, 0, none⟩ (.int .i64 (Gu.val (bl s) : Nat))).setCell ⟨w.heap.size + 1, 0, none⟩ (.bool true)).cell? ⟨w.heap.size, 0, none⟩ = some (.int .i64 (Gu.val (bl s) : Nat)) :=
      (World.cell?_setCell_other _ _ _ _ (by simp)).trans (World.cell?_setCell_same _ _ _ c1)
    have r2 : ((w1.setCell ⟨w.heap.size, 0, none⟩ (.int .i64 (Gu.val (bl s) : Nat))).setCell ⟨w.heap.size + 1, 0, none⟩ (.bool true)).cell? ⟨w.heap.size + 1, 0, none⟩ = some (.bool true) :=
      World.cell?_setCell_same _ _ _ ((World.cell?_setCell_other _ _ _ _ (by simp)).trans c2)
    have hb3 : Keep w ((w1.setCell ⟨w.heap.size, 0, none⟩ (.int .i64 (Gu.val (bl s) : Nat))).setCell ⟨w.heap.size + 1, 0, none⟩ (.bool true)) := (hb.setCell (Nat.le_refl _) _).setCell (Nat.le_succ _) _
    generalize (w1.setCell ⟨w.heap.size, 0, none⟩ (.int .i64 (Gu.val (bl s) : Nat))).setCell ⟨w.heap.size + 1, 0, none⟩ (.bool true) = w9 at r1 r2 hb3
    clear c1 c2 f1 f2 hb hmf
    simp [Leaves, settle, results, Try.results48, go_sem, r1, r2]
    exact ⟨by rw [Gu.getN_ok HOK.out, HOK.out]; exact ⟨rfl, rfl⟩, hb3⟩
  · obtain rfl : e = .panicked [wrongPanic false] := he
    have HNO := Lib.hid hno
    clear hno
    go_wp2
    refine leaves_cons (f := 55) (args := #[.pointer (some ⟨w.heap.size, 0, none⟩), .pointer (some ⟨w.heap.size + 1, 0, none⟩)]) (by simp) (by simp [go_sem]) ?_
    refine (catch_panicking w.heap.size 0 false [] w1 c1 c2 f1 f2).mono ?_
    rintro e u' w'' ⟨rfl, rfl, g1, g2, hb2⟩
    have hb3 : Keep w w'' := hb.trans hb2
    clear c1 c2 f1 f2 hb hmf hb2
    simp [Leaves, settle, wrongPanic, results, Try.results48, go_sem, g1, g2]
    exact ⟨by rw [Gu.getN_no HNO.out, HNO.out]; exact ⟨rfl, rfl⟩, hb3⟩

end Go.Proofs.Ytffojilbhpefbaa.Guard
