/- Layer 6's reference: Put, read, Get. Conditions: lengths at most a million. -/
import Derived.Test.YtfeidijfjkegkaaAskS
import Derived.Laws.ResultCell
namespace Go.Proofs.Ytfeidijfjkegkaa.Ref6
set_option linter.unusedVariables false
open Go.ChangeShapes Go.WideShapes Go.ChangeAt Go.RowKit

set_option maxHeartbeats 1000000 in
theorem put_any (A : Option Addr) (n c : Nat) (a : AskP) (w : World) (hn : n ≤ 1000000) (hA : Ints .i64 w w.heap.size A n a.vs) :
    Calls Try.prog 9 #[.agg #[.int .i64 a.fc, .int .i64 a.rd, .int .i64 a.ct, .int .i64 a.wr, .int .i64 a.mn, .slice A n c]] w fun e w' => e = .returned (.tuple #[.string (st (Ak.put a)), .bool (Ak.right a)]) ∧ Keep w w' := by
  cases hr : Ak.right a
  · have hp : Ak.put a = [] := by rw [Ak.put, hr]; rfl
    rw [hp]
    obtain ⟨fc, rd, ct, wr, mn, vs⟩ := a
    simp only at hA ⊢
    go_enter Try.func9, Try.ntmps9
    go_wp2_with fail
    refine (right_any A n c ⟨fc, rd, ct, wr, mn, vs⟩ _ hn (hA.kept ((Keep.refl w).alloc _))).mono ?_
    rintro e w1 ⟨rfl, hK⟩
    rw [hr]
    go_wp2
    go_ret2
    exact ⟨rfl, ((Keep.refl w).alloc _).trans hK⟩
  · have hp : Ak.put a = Ak.bytes a := by rw [Ak.put, hr]; rfl
    have hf := ((Ak.right_iff a).1 hr).1
    rw [hp]
    rcases Ak.cases_formed hf with ⟨fc, rd, ct, rfl, hf2, h0, h1, h2, h3⟩ | ⟨wr, z, rfl, h0, h1, hz⟩ | ⟨wr, z, rfl, h0, h1, h2, h3⟩ | ⟨wr, y, z, rfl, h0, h1, hy, h2, h3⟩ |
      ⟨wr, vs, rfl, h0, h1, h2, h3, hb⟩ | ⟨wr, vs, rfl, h0, h1, h2, h3, hb⟩ | ⟨rd, ct, wr, vs, rfl, hrd, hct, h0, h1, h2, h3, hb⟩
    · exact put_read A n c fc rd ct w hf2 ⟨h0, h1⟩ ⟨by omega, by omega⟩ hr hA
    · obtain rfl : n = 1 := by have := hA.1; simp at this; omega
      exact put_5 A c wr z w hz ⟨h0, h1⟩ hr hA
    · obtain rfl : n = 1 := by have := hA.1; simp at this; omega
      exact put_6 A c wr z w ⟨h2, h3⟩ ⟨h0, h1⟩ hr hA
    · obtain rfl : n = 2 := by have := hA.1; simp at this; omega
      exact put_22 A c wr y z w hy ⟨h2, h3⟩ ⟨h0, h1⟩ hr hA
    · obtain rfl : n = vs.length := by have := hA.1; simp at this; omega
      exact put_15 A vs.length c wr vs w h3 hb ⟨h0, h1⟩ hr hA
    · obtain rfl : n = vs.length := by have := hA.1; simp at this; omega
      exact put_16 A vs.length c wr vs w h3 hb ⟨h0, h1⟩ hr hA
    · obtain rfl : n = vs.length := by have := hA.1; simp at this; omega
      exact put_23 A vs.length c rd ct wr vs w hrd ⟨by omega, by omega⟩ h3 hb ⟨h0, h1⟩ hr hA

/-- What comes back: a request, and something more. -/
def RetAsk (a : AskP) (v : Value) (w : World) (e : Ending) (w' : World) : Prop :=
  ∃ A n c, e = .returned (.tuple #[.agg #[.int .i64 a.fc, .int .i64 a.rd, .int .i64 a.ct, .int .i64 a.wr, .int .i64 a.mn, .slice A n c], v]) ∧ Ints .i64 w' w'.heap.size A n a.vs ∧ Below w.heap.size w w' ∧ Fresh w A n

theorem below_drewN {B : Nat} {a w : World} (h : Below B a w) (n : Nat) : Below B a (w.drewN n) := h.trans (((Quiet.refl w).drewN n).below B)
theorem size_eq (s : ByteArray) (n : Nat) : (s.size == n) = ((s.size : Int) == (n : Int)) := by rw [Bool.eq_iff_iff]; simp; omega

set_option maxHeartbeats 2000000 in
theorem read_1 (s : ByteArray) (w : World) (hs : s.size ≤ 1000000) (hp : 0 < s.size) (h0 : byteAt s 0 = 1) :
    Calls Try.prog 27 #[.string s] w (RetAsk (Ak.read s) (.bool (Ak.readOk s)) w) := by
  have hx := idx (P := Try.prog) (k := .i64) s 0 Try.underlying9 (by omega) (by omega)
  rw [h0] at hx
  have er : Ak.read s = ⟨1, Ak.at_ s 1, Ak.at_ s 3, 0, 0, []⟩ := by simp [Ak.read, h0]
  have eo : Ak.readOk s = (s.size == 5) := by simp [Ak.readOk, h0]
  rw [er, eo]
  have H0 := Lib.hid h0
  clear h0 er eo
  go_enter Try.func27, Try.ntmps27
  go_wp2_with fail
  refine (at_any s 1 _ (by unfold maxLen; omega)).mono ?_
  rintro e w1 ⟨rfl, k1, rfl⟩
  go_wp2_with fail
  refine (at_any s 3 _ (by unfold maxLen; omega)).mono ?_
  rintro e w2 ⟨rfl, k2, rfl⟩
  go_wp2
  (try simp only [Exit.inBlock, Exit.then])
  refine bodyPost_ret (v := .tuple #[.agg #[.int .i64 1, .int .i64 (Ak.at_ s 1), .int .i64 (Ak.at_ s 3), .int .i64 0, .int .i64 0, .slice none 0 0], .bool ((s.size : Int) == 5)]) ?_ rfl ⟨none, 0, 0, ?_, ?_, ?_, Fresh.zero _ _⟩
  · rw [results_cell_tmp rfl]
    go_simp
  · rw [size_eq s 5]; rfl
  · exact Ints.none_ _ _ _ _
  · (repeat' (first | with_reducible exact hbW | with_reducible refine Below.setCell ?_ ?_ _ | with_reducible refine below_drewN ?_ _ | with_reducible refine Below.alloc ?_ ?_ _ | with_reducible exact Below.refl _ _ | (simp; done) | (simp; omega)))

set_option maxHeartbeats 2000000 in
theorem read_2 (s : ByteArray) (w : World) (hs : s.size ≤ 1000000) (hp : 0 < s.size) (h0 : byteAt s 0 = 2) :
    Calls Try.prog 27 #[.string s] w (RetAsk (Ak.read s) (.bool (Ak.readOk s)) w) := by
  have hx := idx (P := Try.prog) (k := .i64) s 0 Try.underlying9 (by omega) (by omega)
  rw [h0] at hx
  have er : Ak.read s = ⟨2, Ak.at_ s 1, Ak.at_ s 3, 0, 0, []⟩ := by simp [Ak.read, h0]
  have eo : Ak.readOk s = (s.size == 5) := by simp [Ak.readOk, h0]
  rw [er, eo]
  have H0 := Lib.hid h0
  clear h0 er eo
  go_enter Try.func27, Try.ntmps27
  go_wp2_with fail
  refine (at_any s 1 _ (by unfold maxLen; omega)).mono ?_
  rintro e w1 ⟨rfl, k1, rfl⟩
  go_wp2_with fail
  refine (at_any s 3 _ (by unfold maxLen; omega)).mono ?_
  rintro e w2 ⟨rfl, k2, rfl⟩
  go_wp2
  (try simp only [Exit.inBlock, Exit.then])
  refine bodyPost_ret (v := .tuple #[.agg #[.int .i64 2, .int .i64 (Ak.at_ s 1), .int .i64 (Ak.at_ s 3), .int .i64 0, .int .i64 0, .slice none 0 0], .bool ((s.size : Int) == 5)]) ?_ rfl ⟨none, 0, 0, ?_, ?_, ?_, Fresh.zero _ _⟩
  · rw [results_cell_tmp rfl]
    go_simp
  · rw [size_eq s 5]; rfl
  · exact Ints.none_ _ _ _ _
  · (repeat' (first | with_reducible exact hbW | with_reducible refine Below.setCell ?_ ?_ _ | with_reducible refine below_drewN ?_ _ | with_reducible refine Below.alloc ?_ ?_ _ | with_reducible exact Below.refl _ _ | (simp; done) | (simp; omega)))

set_option maxHeartbeats 2000000 in
theorem read_3 (s : ByteArray) (w : World) (hs : s.size ≤ 1000000) (hp : 0 < s.size) (h0 : byteAt s 0 = 3) :
    Calls Try.prog 27 #[.string s] w (RetAsk (Ak.read s) (.bool (Ak.readOk s)) w) := by
  have hx := idx (P := Try.prog) (k := .i64) s 0 Try.underlying9 (by omega) (by omega)
  rw [h0] at hx
  have er : Ak.read s = ⟨3, Ak.at_ s 1, Ak.at_ s 3, 0, 0, []⟩ := by simp [Ak.read, h0]
  have eo : Ak.readOk s = (s.size == 5) := by simp [Ak.readOk, h0]
  rw [er, eo]
  have H0 := Lib.hid h0
  clear h0 er eo
  go_enter Try.func27, Try.ntmps27
  go_wp2_with fail
  refine (at_any s 1 _ (by unfold maxLen; omega)).mono ?_
  rintro e w1 ⟨rfl, k1, rfl⟩
  go_wp2_with fail
  refine (at_any s 3 _ (by unfold maxLen; omega)).mono ?_
  rintro e w2 ⟨rfl, k2, rfl⟩
  go_wp2
  (try simp only [Exit.inBlock, Exit.then])
  refine bodyPost_ret (v := .tuple #[.agg #[.int .i64 3, .int .i64 (Ak.at_ s 1), .int .i64 (Ak.at_ s 3), .int .i64 0, .int .i64 0, .slice none 0 0], .bool ((s.size : Int) == 5)]) ?_ rfl ⟨none, 0, 0, ?_, ?_, ?_, Fresh.zero _ _⟩
  · rw [results_cell_tmp rfl]
    go_simp
  · rw [size_eq s 5]; rfl
  · exact Ints.none_ _ _ _ _
  · (repeat' (first | with_reducible exact hbW | with_reducible refine Below.setCell ?_ ?_ _ | with_reducible refine below_drewN ?_ _ | with_reducible refine Below.alloc ?_ ?_ _ | with_reducible exact Below.refl _ _ | (simp; done) | (simp; omega)))

set_option maxHeartbeats 2000000 in
theorem read_4 (s : ByteArray) (w : World) (hs : s.size ≤ 1000000) (hp : 0 < s.size) (h0 : byteAt s 0 = 4) :
    Calls Try.prog 27 #[.string s] w (RetAsk (Ak.read s) (.bool (Ak.readOk s)) w) := by
  have hx := idx (P := Try.prog) (k := .i64) s 0 Try.underlying9 (by omega) (by omega)
  rw [h0] at hx
  have er : Ak.read s = ⟨4, Ak.at_ s 1, Ak.at_ s 3, 0, 0, []⟩ := by simp [Ak.read, h0]
  have eo : Ak.readOk s = (s.size == 5) := by simp [Ak.readOk, h0]
  rw [er, eo]
  have H0 := Lib.hid h0
  clear h0 er eo
  go_enter Try.func27, Try.ntmps27
  go_wp2_with fail
  refine (at_any s 1 _ (by unfold maxLen; omega)).mono ?_
  rintro e w1 ⟨rfl, k1, rfl⟩
  go_wp2_with fail
  refine (at_any s 3 _ (by unfold maxLen; omega)).mono ?_
  rintro e w2 ⟨rfl, k2, rfl⟩
  go_wp2
  (try simp only [Exit.inBlock, Exit.then])
  refine bodyPost_ret (v := .tuple #[.agg #[.int .i64 4, .int .i64 (Ak.at_ s 1), .int .i64 (Ak.at_ s 3), .int .i64 0, .int .i64 0, .slice none 0 0], .bool ((s.size : Int) == 5)]) ?_ rfl ⟨none, 0, 0, ?_, ?_, ?_, Fresh.zero _ _⟩
  · rw [results_cell_tmp rfl]
    go_simp
  · rw [size_eq s 5]; rfl
  · exact Ints.none_ _ _ _ _
  · (repeat' (first | with_reducible exact hbW | with_reducible refine Below.setCell ?_ ?_ _ | with_reducible refine below_drewN ?_ _ | with_reducible refine Below.alloc ?_ ?_ _ | with_reducible exact Below.refl _ _ | (simp; done) | (simp; omega)))

set_option maxHeartbeats 2000000 in
theorem read_6 (s : ByteArray) (w : World) (hs : s.size ≤ 1000000) (hp : 0 < s.size) (h0 : byteAt s 0 = 6) :
    Calls Try.prog 27 #[.string s] w (RetAsk (Ak.read s) (.bool (Ak.readOk s)) w) := by
  have hx := idx (P := Try.prog) (k := .i64) s 0 Try.underlying9 (by omega) (by omega)
  rw [h0] at hx
  have er : Ak.read s = ⟨6, 0, 0, Ak.at_ s 1, 1, [Ak.at_ s 3]⟩ := by simp [Ak.read, h0]
  have eo : Ak.readOk s = (s.size == 5) := by simp [Ak.readOk, h0]
  rw [er, eo]
  have H0 := Lib.hid h0
  clear h0 er eo
  go_enter Try.func27, Try.ntmps27
  go_wp2_with fail
  refine (at_any s 1 _ (by unfold maxLen; omega)).mono ?_
  rintro e w1 ⟨rfl, k1, rfl⟩
  go_wp2_with fail
  refine (at_any s 3 _ (by unfold maxLen; omega)).mono ?_
  rintro e w2 ⟨rfl, k2, rfl⟩
  go_wp2
  (try simp only [Exit.inBlock, Exit.then])
  refine bodyPost_ret (v := .tuple #[.agg #[.int .i64 6, .int .i64 0, .int .i64 0, .int .i64 (Ak.at_ s 1), .int .i64 1, .slice (some ⟨w.heap.size + 1 + 1, 0, none⟩) 1 1], .bool ((s.size : Int) == 5)]) ?_ rfl ⟨(some ⟨w.heap.size + 1 + 1, 0, none⟩), 1, 1, ?_, ?_, ?_, fun _ => ⟨_, rfl, by omega⟩⟩
  · rw [results_cell_tmp rfl]
    go_simp
  · rw [size_eq s 5]; rfl
  · refine ⟨rfl, fun _ => ⟨_, _, rfl, by simp, fun j hj => ?_⟩⟩
    obtain rfl : j = 0 := by omega
    go_simp
  · (repeat' (first | with_reducible exact hbW | with_reducible refine Below.setCell ?_ ?_ _ | with_reducible refine below_drewN ?_ _ | with_reducible refine Below.alloc ?_ ?_ _ | with_reducible exact Below.refl _ _ | (simp; done) | (simp; omega)))

set_option maxHeartbeats 2000000 in
theorem read_22 (s : ByteArray) (w : World) (hs : s.size ≤ 1000000) (hp : 0 < s.size) (h0 : byteAt s 0 = 22) :
    Calls Try.prog 27 #[.string s] w (RetAsk (Ak.read s) (.bool (Ak.readOk s)) w) := by
  have hx := idx (P := Try.prog) (k := .i64) s 0 Try.underlying9 (by omega) (by omega)
  rw [h0] at hx
  have er : Ak.read s = ⟨22, 0, 0, Ak.at_ s 1, 1, [Ak.at_ s 3, Ak.at_ s 5]⟩ := by simp [Ak.read, h0]
  have eo : Ak.readOk s = (s.size == 7) := by simp [Ak.readOk, h0]
  rw [er, eo]
  have H0 := Lib.hid h0
  clear h0 er eo
  go_enter Try.func27, Try.ntmps27
  go_wp2_with fail
  refine (at_any s 1 _ (by unfold maxLen; omega)).mono ?_
  rintro e w1 ⟨rfl, k1, rfl⟩
  go_wp2_with fail
  refine (at_any s 3 _ (by unfold maxLen; omega)).mono ?_
  rintro e w2 ⟨rfl, k2, rfl⟩
  go_wp2_with fail
  refine (at_any s 5 _ (by unfold maxLen; omega)).mono ?_
  rintro e w3 ⟨rfl, k3, rfl⟩
  go_wp2
  (try simp only [Exit.inBlock, Exit.then])
  refine bodyPost_ret (v := .tuple #[.agg #[.int .i64 22, .int .i64 0, .int .i64 0, .int .i64 (Ak.at_ s 1), .int .i64 1, .slice (some ⟨w.heap.size + 1 + 1, 0, none⟩) 2 2], .bool ((s.size : Int) == 7)]) ?_ rfl ⟨(some ⟨w.heap.size + 1 + 1, 0, none⟩), 2, 2, ?_, ?_, ?_, fun _ => ⟨_, rfl, by omega⟩⟩
  · rw [results_cell_tmp rfl]
    go_simp
  · rw [size_eq s 7]; rfl
  · refine ⟨rfl, fun _ => ⟨_, _, rfl, by simp, fun j hj => ?_⟩⟩
    obtain rfl | rfl : j = 0 ∨ j = 1 := by omega
    · go_simp
    · go_simp
  · (repeat' (first | with_reducible exact hbW | with_reducible refine Below.setCell ?_ ?_ _ | with_reducible refine below_drewN ?_ _ | with_reducible refine Below.alloc ?_ ?_ _ | with_reducible exact Below.refl _ _ | (simp; done) | (simp; omega)))

set_option maxHeartbeats 2000000 in
theorem read_5a (s : ByteArray) (w : World) (hs : s.size ≤ 1000000) (hp : 0 < s.size) (h0 : byteAt s 0 = 5) (hz : Ak.at_ s 3 = 65280) :
    Calls Try.prog 27 #[.string s] w (RetAsk (Ak.read s) (.bool (Ak.readOk s)) w) := by
  have hx := idx (P := Try.prog) (k := .i64) s 0 Try.underlying9 (by omega) (by omega)
  rw [h0] at hx
  have er : Ak.read s = ⟨5, 0, 0, Ak.at_ s 1, 1, [1]⟩ := by simp [Ak.read, h0, hz, Ak.coil]
  have eo : Ak.readOk s = (s.size == 5) := by simp [Ak.readOk, h0, hz]
  rw [er, eo]
  have d1 : (Ak.at_ s 3 == 65280) = true := by simp [hz]
  clear hz
  have H0 := Lib.hid h0
  clear h0 er eo
  go_enter Try.func27, Try.ntmps27
  go_wp2_with fail
  refine (at_any s 1 _ (by unfold maxLen; omega)).mono ?_
  rintro e w1 ⟨rfl, k1, rfl⟩
  go_wp2_with fail
  refine (at_any s 3 _ (by unfold maxLen; omega)).mono ?_
  rintro e w2 ⟨rfl, k2, rfl⟩
  go_wp2
  (try simp only [Exit.inBlock, Exit.then])
  refine bodyPost_ret (v := .tuple #[.agg #[.int .i64 5, .int .i64 0, .int .i64 0, .int .i64 (Ak.at_ s 1), .int .i64 1, .slice (some ⟨w.heap.size + 1 + 1, 0, none⟩) 1 1], .bool ((s.size : Int) == 5)]) ?_ rfl ⟨(some ⟨w.heap.size + 1 + 1, 0, none⟩), 1, 1, ?_, ?_, ?_, fun _ => ⟨_, rfl, by omega⟩⟩
  · rw [results_cell_tmp rfl]
    go_simp
  · rw [size_eq s 5]; rfl
  · refine ⟨rfl, fun _ => ⟨_, _, rfl, by simp, fun j hj => ?_⟩⟩
    obtain rfl : j = 0 := by omega
    go_simp
  · (repeat' (first | with_reducible exact hbW | with_reducible refine Below.setCell ?_ ?_ _ | with_reducible refine below_drewN ?_ _ | with_reducible refine Below.alloc ?_ ?_ _ | with_reducible exact Below.refl _ _ | (simp; done) | (simp; omega)))

set_option maxHeartbeats 2000000 in
theorem read_5b (s : ByteArray) (w : World) (hs : s.size ≤ 1000000) (hp : 0 < s.size) (h0 : byteAt s 0 = 5) (hz : Ak.at_ s 3 = 0) :
    Calls Try.prog 27 #[.string s] w (RetAsk (Ak.read s) (.bool (Ak.readOk s)) w) := by
  have hx := idx (P := Try.prog) (k := .i64) s 0 Try.underlying9 (by omega) (by omega)
  rw [h0] at hx
  have er : Ak.read s = ⟨5, 0, 0, Ak.at_ s 1, 1, [0]⟩ := by simp [Ak.read, h0, hz, Ak.coil]
  have eo : Ak.readOk s = (s.size == 5) := by simp [Ak.readOk, h0, hz]
  rw [er, eo]
  have d1 : (Ak.at_ s 3 == 65280) = false := by simp [hz]
  have d2 : (Ak.at_ s 3 != 0) = false := by simp [hz]
  have HZ := Lib.hid hz
  clear hz
  have H0 := Lib.hid h0
  clear h0 er eo
  go_enter Try.func27, Try.ntmps27
  go_wp2_with fail
  refine (at_any s 1 _ (by unfold maxLen; omega)).mono ?_
  rintro e w1 ⟨rfl, k1, rfl⟩
  go_wp2_with fail
  refine (at_any s 3 _ (by unfold maxLen; omega)).mono ?_
  rintro e w2 ⟨rfl, k2, rfl⟩
  go_wp2
  (try simp only [Exit.inBlock, Exit.then])
  refine bodyPost_ret (v := .tuple #[.agg #[.int .i64 5, .int .i64 0, .int .i64 0, .int .i64 (Ak.at_ s 1), .int .i64 1, .slice (some ⟨w.heap.size + 1 + 1, 0, none⟩) 1 1], .bool ((s.size : Int) == 5)]) ?_ rfl ⟨(some ⟨w.heap.size + 1 + 1, 0, none⟩), 1, 1, ?_, ?_, ?_, fun _ => ⟨_, rfl, by omega⟩⟩
  · rw [results_cell_tmp rfl]
    go_simp
  · rw [size_eq s 5]; rfl
  · refine ⟨rfl, fun _ => ⟨_, _, rfl, by simp, fun j hj => ?_⟩⟩
    obtain rfl : j = 0 := by omega
    rw [← HZ.out]
    go_simp
  · (repeat' (first | with_reducible exact hbW | with_reducible refine Below.setCell ?_ ?_ _ | with_reducible refine below_drewN ?_ _ | with_reducible refine Below.alloc ?_ ?_ _ | with_reducible exact Below.refl _ _ | (simp; done) | (simp; omega)))

set_option maxHeartbeats 2000000 in
theorem read_5c (s : ByteArray) (w : World) (hs : s.size ≤ 1000000) (hp : 0 < s.size) (h0 : byteAt s 0 = 5) (hz : Ak.at_ s 3 ≠ 65280 ∧ Ak.at_ s 3 ≠ 0) :
    Calls Try.prog 27 #[.string s] w (RetAsk (Ak.read s) (.bool (Ak.readOk s)) w) := by
  have hx := idx (P := Try.prog) (k := .i64) s 0 Try.underlying9 (by omega) (by omega)
  rw [h0] at hx
  have er : Ak.read s = ⟨5, 0, 0, Ak.at_ s 1, 1, [(Ak.at_ s 3)]⟩ := by simp [Ak.read, h0, hz.1, Ak.coil]
  have eo : Ak.readOk s = false := by simp [Ak.readOk, h0, hz.1, hz.2]
  rw [er, eo]
  have d1 : (Ak.at_ s 3 == 65280) = false := by simp [hz.1]
  have d2 : (Ak.at_ s 3 != 0) = true := by simp [hz.2]
  clear hz
  have H0 := Lib.hid h0
  clear h0 er eo
  go_enter Try.func27, Try.ntmps27
  go_wp2_with fail
  refine (at_any s 1 _ (by unfold maxLen; omega)).mono ?_
  rintro e w1 ⟨rfl, k1, rfl⟩
  go_wp2_with fail
  refine (at_any s 3 _ (by unfold maxLen; omega)).mono ?_
  rintro e w2 ⟨rfl, k2, rfl⟩
  go_wp2
  (try simp only [Exit.inBlock, Exit.then])
  refine bodyPost_ret (v := .tuple #[.agg #[.int .i64 5, .int .i64 0, .int .i64 0, .int .i64 (Ak.at_ s 1), .int .i64 1, .slice (some ⟨w.heap.size + 1 + 1, 0, none⟩) 1 1], .bool (false)]) ?_ rfl ⟨(some ⟨w.heap.size + 1 + 1, 0, none⟩), 1, 1, ?_, ?_, ?_, fun _ => ⟨_, rfl, by omega⟩⟩
  · rw [results_cell_tmp rfl]
    go_simp
  · rfl
  · refine ⟨rfl, fun _ => ⟨_, _, rfl, by simp, fun j hj => ?_⟩⟩
    obtain rfl : j = 0 := by omega
    go_simp
  · (repeat' (first | with_reducible exact hbW | with_reducible refine Below.setCell ?_ ?_ _ | with_reducible refine below_drewN ?_ _ | with_reducible refine Below.alloc ?_ ?_ _ | with_reducible exact Below.refl _ _ | (simp; done) | (simp; omega)))

end Go.Proofs.Ytfeidijfjkegkaa.Ref6
