/- Of these texts: AskP, AskQ, AskS, AskT, AskU, AskV. Conditions: as each part says. -/
import Derived.Test.YtaciogcpghbhjaaGreatZTAskG
import Derived.Test.YtaciogcpghbhjaaGreatZTAskA
import Derived.Deep.RegionHeld3
import Derived.Deep.RegionWith
import Derived.Laws.ResultCell
/- Layer 6's reference: Put. Conditions: at most a million values. -/
namespace Go.Proofs.YtaciogcpghbhjaaGreat.Ref6
set_option linter.unusedVariables false
open Go.ChangeShapes Go.WideShapes Go.ChangeAt Go.RowKit
def Boxed (p : Nat) (a : AskP) (A : Option Addr) (n c : Nat) (w : World) : Prop :=
 w.cell? ⟨p, 0, none⟩ = some (.int .i64 a.fc) ∧ w.cell? ⟨p, 1, none⟩ = some (.int .i64 a.rd) ∧ w.cell? ⟨p, 2, none⟩ = some (.int .i64 a.ct) ∧ w.cell? ⟨p, 3, none⟩ = some (.int .i64 a.wr) ∧ w.cell? ⟨p, 4, none⟩ = some (.int .i64 a.mn) ∧ w.cell? ⟨p, 5, none⟩ = some (.slice A n c)
theorem Boxed.new (w : World) (a : AskP) (A : Option Addr) (n c : Nat) (e : TypeId) : Boxed w.heap.size a A n c (w.alloc (.cells #[.int .i64 a.fc, .int .i64 a.rd, .int .i64 a.ct, .int .i64 a.wr, .int .i64 a.mn, .slice A n c] e)) := by
 have hc : ∀ j v, (#[Value.int .i64 a.fc, .int .i64 a.rd, .int .i64 a.ct, .int .i64 a.wr, .int .i64 a.mn, .slice A n c] : Array Value)[j]? = some v -> (w.alloc (.cells #[.int .i64 a.fc, .int .i64 a.rd, .int .i64 a.ct, .int .i64 a.wr, .int .i64 a.mn, .slice A n c] e)).cell? ⟨w.heap.size, j, none⟩ = some v := fun j v hj => by
  rw [World.cell?_alloc_at (hn := rfl), hj]
 exact ⟨hc 0 _ rfl, hc 1 _ rfl, hc 2 _ rfl, hc 3 _ rfl, hc 4 _ rfl, hc 5 _ rfl⟩
theorem Boxed.below {p : Nat} {a : AskP} {A : Option Addr} {n c : Nat} {w w' : World} {B : Nat} (h : Boxed p a A n c w) (hb : Below B w w') (hp : p < B) : Boxed p a A n c w' := by
 obtain ⟨h0, h1, h2, h3, h4, h5⟩ := h
 refine ⟨?_, ?_, ?_, ?_, ?_, ?_⟩ <;> (rw [hb.cell hp]; assumption)
end Go.Proofs.YtaciogcpghbhjaaGreat.Ref6
/- Layer 6's reference: Put, of several values. Conditions: at most a million values. -/
namespace Go.Proofs.YtaciogcpghbhjaaGreat.Ref6
set_option linter.unusedVariables false
open Go.ChangeShapes Go.WideShapes Go.ChangeAt Go.RowKit
end Go.Proofs.YtaciogcpghbhjaaGreat.Ref6
/- Layer 6's reference: Put, of function 23. Conditions: at most a million values. -/
namespace Go.Proofs.YtaciogcpghbhjaaGreat.Ref6
set_option linter.unusedVariables false
open Go.ChangeShapes Go.WideShapes Go.ChangeAt Go.RowKit
end Go.Proofs.YtaciogcpghbhjaaGreat.Ref6
/- Layer 6's reference: Put, read, Get. Conditions: lengths at most a million. -/
namespace Go.Proofs.YtaciogcpghbhjaaGreat.Ref6
set_option linter.unusedVariables false
open Go.ChangeShapes Go.WideShapes Go.ChangeAt Go.RowKit
def RetAsk (a : AskP) (v : Value) (w : World) (e : Ending) (w' : World) : Prop :=
 ∃ A n c, e = .returned (.tuple #[.agg #[.int .i64 a.fc, .int .i64 a.rd, .int .i64 a.ct, .int .i64 a.wr, .int .i64 a.mn, .slice A n c], v]) ∧ Ints .i64 w' w'.heap.size A n a.vs ∧ Below w.heap.size w w' ∧ FreshC w A n c
theorem below_drewN {B : Nat} {a w : World} (h : Below B a w) (n : Nat) : Below B a (w.drewN n) := h.trans (((Quiet.refl w).drewN n).below B)
theorem size_eq (s : ByteArray) (n : Nat) : (s.size == n) = ((s.size : Int) == (n : Int)) := by rw [Bool.eq_iff_iff]; simp; omega
set_option maxHeartbeats 2000000 in
theorem read_1 (s : ByteArray) (w : World) (hs : s.size <= 1000000) (hp : 0 < s.size) (h0 : byteAt s 0 = 1) :
  Calls Tryz.prog 42 #[.string s] w (RetAsk (Ak.read s) (.bool (Ak.readOk s)) w) := by
 have hx := idx (P := Tryz.prog) (k := .i64) s 0 Tryz.underlying9 (by omega) (by omega)
 rw [h0] at hx
 have er : Ak.read s = ⟨1, Ak.at_ s 1, Ak.at_ s 3, 0, 0, []⟩ := by simp [Ak.read, h0]
 have eo : Ak.readOk s = (s.size == 5) := by simp [Ak.readOk, h0]
 rw [er, eo]
 have H0 := Lib.hid h0
 clear h0 er eo
 go_enter Tryz.func42, Tryz.ntmps42
 go_wp2_with fail
 refine (at_any s 1 _ (by unfold maxLen; omega)).mono ?_
 rintro e w1 ⟨rfl, k1, rfl⟩
 go_wp2_with fail
 refine (at_any s 3 _ (by unfold maxLen; omega)).mono ?_
 rintro e w2 ⟨rfl, k2, rfl⟩
 go_wp2
 (try simp only [Exit.inBlock, Exit.then])
 refine bodyPost_ret (v := .tuple #[.agg #[.int .i64 1, .int .i64 (Ak.at_ s 1), .int .i64 (Ak.at_ s 3), .int .i64 0, .int .i64 0, .slice none 0 0], .bool ((s.size : Int) == 5)]) ?_ rfl ⟨none, 0, 0, ?_, ?_, ?_, FreshC.zero _ _ _⟩
 ·rw [results_cell_tmp rfl]
  go_simp
 ·rw [size_eq s 5]; rfl
 ·exact Ints.none_ _ _ _ _
 ·(repeat' (first | with_reducible exact hbW | with_reducible refine Below.setCell ?_ ?_ _ | with_reducible refine below_drewN ?_ _ | with_reducible refine Below.alloc ?_ ?_ _ | with_reducible exact Below.refl _ _ | (simp; done) | (simp; omega)))
set_option maxHeartbeats 2000000 in
theorem read_2 (s : ByteArray) (w : World) (hs : s.size <= 1000000) (hp : 0 < s.size) (h0 : byteAt s 0 = 2) :
  Calls Tryz.prog 42 #[.string s] w (RetAsk (Ak.read s) (.bool (Ak.readOk s)) w) := by
 have hx := idx (P := Tryz.prog) (k := .i64) s 0 Tryz.underlying9 (by omega) (by omega)
 rw [h0] at hx
 have er : Ak.read s = ⟨2, Ak.at_ s 1, Ak.at_ s 3, 0, 0, []⟩ := by simp [Ak.read, h0]
 have eo : Ak.readOk s = (s.size == 5) := by simp [Ak.readOk, h0]
 rw [er, eo]
 have H0 := Lib.hid h0
 clear h0 er eo
 go_enter Tryz.func42, Tryz.ntmps42
 go_wp2_with fail
 refine (at_any s 1 _ (by unfold maxLen; omega)).mono ?_
 rintro e w1 ⟨rfl, k1, rfl⟩
 go_wp2_with fail
 refine (at_any s 3 _ (by unfold maxLen; omega)).mono ?_
 rintro e w2 ⟨rfl, k2, rfl⟩
 go_wp2
 (try simp only [Exit.inBlock, Exit.then])
 refine bodyPost_ret (v := .tuple #[.agg #[.int .i64 2, .int .i64 (Ak.at_ s 1), .int .i64 (Ak.at_ s 3), .int .i64 0, .int .i64 0, .slice none 0 0], .bool ((s.size : Int) == 5)]) ?_ rfl ⟨none, 0, 0, ?_, ?_, ?_, FreshC.zero _ _ _⟩
 ·rw [results_cell_tmp rfl]
  go_simp
 ·rw [size_eq s 5]; rfl
 ·exact Ints.none_ _ _ _ _
 ·(repeat' (first | with_reducible exact hbW | with_reducible refine Below.setCell ?_ ?_ _ | with_reducible refine below_drewN ?_ _ | with_reducible refine Below.alloc ?_ ?_ _ | with_reducible exact Below.refl _ _ | (simp; done) | (simp; omega)))
set_option maxHeartbeats 2000000 in
theorem read_3 (s : ByteArray) (w : World) (hs : s.size <= 1000000) (hp : 0 < s.size) (h0 : byteAt s 0 = 3) :
  Calls Tryz.prog 42 #[.string s] w (RetAsk (Ak.read s) (.bool (Ak.readOk s)) w) := by
 have hx := idx (P := Tryz.prog) (k := .i64) s 0 Tryz.underlying9 (by omega) (by omega)
 rw [h0] at hx
 have er : Ak.read s = ⟨3, Ak.at_ s 1, Ak.at_ s 3, 0, 0, []⟩ := by simp [Ak.read, h0]
 have eo : Ak.readOk s = (s.size == 5) := by simp [Ak.readOk, h0]
 rw [er, eo]
 have H0 := Lib.hid h0
 clear h0 er eo
 go_enter Tryz.func42, Tryz.ntmps42
 go_wp2_with fail
 refine (at_any s 1 _ (by unfold maxLen; omega)).mono ?_
 rintro e w1 ⟨rfl, k1, rfl⟩
 go_wp2_with fail
 refine (at_any s 3 _ (by unfold maxLen; omega)).mono ?_
 rintro e w2 ⟨rfl, k2, rfl⟩
 go_wp2
 (try simp only [Exit.inBlock, Exit.then])
 refine bodyPost_ret (v := .tuple #[.agg #[.int .i64 3, .int .i64 (Ak.at_ s 1), .int .i64 (Ak.at_ s 3), .int .i64 0, .int .i64 0, .slice none 0 0], .bool ((s.size : Int) == 5)]) ?_ rfl ⟨none, 0, 0, ?_, ?_, ?_, FreshC.zero _ _ _⟩
 ·rw [results_cell_tmp rfl]
  go_simp
 ·rw [size_eq s 5]; rfl
 ·exact Ints.none_ _ _ _ _
 ·(repeat' (first | with_reducible exact hbW | with_reducible refine Below.setCell ?_ ?_ _ | with_reducible refine below_drewN ?_ _ | with_reducible refine Below.alloc ?_ ?_ _ | with_reducible exact Below.refl _ _ | (simp; done) | (simp; omega)))
set_option maxHeartbeats 2000000 in
theorem read_4 (s : ByteArray) (w : World) (hs : s.size <= 1000000) (hp : 0 < s.size) (h0 : byteAt s 0 = 4) :
  Calls Tryz.prog 42 #[.string s] w (RetAsk (Ak.read s) (.bool (Ak.readOk s)) w) := by
 have hx := idx (P := Tryz.prog) (k := .i64) s 0 Tryz.underlying9 (by omega) (by omega)
 rw [h0] at hx
 have er : Ak.read s = ⟨4, Ak.at_ s 1, Ak.at_ s 3, 0, 0, []⟩ := by simp [Ak.read, h0]
 have eo : Ak.readOk s = (s.size == 5) := by simp [Ak.readOk, h0]
 rw [er, eo]
 have H0 := Lib.hid h0
 clear h0 er eo
 go_enter Tryz.func42, Tryz.ntmps42
 go_wp2_with fail
 refine (at_any s 1 _ (by unfold maxLen; omega)).mono ?_
 rintro e w1 ⟨rfl, k1, rfl⟩
 go_wp2_with fail
 refine (at_any s 3 _ (by unfold maxLen; omega)).mono ?_
 rintro e w2 ⟨rfl, k2, rfl⟩
 go_wp2
 (try simp only [Exit.inBlock, Exit.then])
 refine bodyPost_ret (v := .tuple #[.agg #[.int .i64 4, .int .i64 (Ak.at_ s 1), .int .i64 (Ak.at_ s 3), .int .i64 0, .int .i64 0, .slice none 0 0], .bool ((s.size : Int) == 5)]) ?_ rfl ⟨none, 0, 0, ?_, ?_, ?_, FreshC.zero _ _ _⟩
 ·rw [results_cell_tmp rfl]
  go_simp
 ·rw [size_eq s 5]; rfl
 ·exact Ints.none_ _ _ _ _
 ·(repeat' (first | with_reducible exact hbW | with_reducible refine Below.setCell ?_ ?_ _ | with_reducible refine below_drewN ?_ _ | with_reducible refine Below.alloc ?_ ?_ _ | with_reducible exact Below.refl _ _ | (simp; done) | (simp; omega)))
set_option maxHeartbeats 2000000 in
theorem read_6 (s : ByteArray) (w : World) (hs : s.size <= 1000000) (hp : 0 < s.size) (h0 : byteAt s 0 = 6) :
  Calls Tryz.prog 42 #[.string s] w (RetAsk (Ak.read s) (.bool (Ak.readOk s)) w) := by
 have hx := idx (P := Tryz.prog) (k := .i64) s 0 Tryz.underlying9 (by omega) (by omega)
 rw [h0] at hx
 have er : Ak.read s = ⟨6, 0, 0, Ak.at_ s 1, 1, [Ak.at_ s 3]⟩ := by simp [Ak.read, h0]
 have eo : Ak.readOk s = (s.size == 5) := by simp [Ak.readOk, h0]
 rw [er, eo]
 have H0 := Lib.hid h0
 clear h0 er eo
 go_enter Tryz.func42, Tryz.ntmps42
 go_wp2_with fail
 refine (at_any s 1 _ (by unfold maxLen; omega)).mono ?_
 rintro e w1 ⟨rfl, k1, rfl⟩
 go_wp2_with fail
 refine (at_any s 3 _ (by unfold maxLen; omega)).mono ?_
 rintro e w2 ⟨rfl, k2, rfl⟩
 go_wp2
 (try simp only [Exit.inBlock, Exit.then])
 refine bodyPost_ret (v := .tuple #[.agg #[.int .i64 6, .int .i64 0, .int .i64 0, .int .i64 (Ak.at_ s 1), .int .i64 1, .slice (some ⟨w.heap.size + 1 + 1, 0, none⟩) 1 1], .bool ((s.size : Int) == 5)]) ?_ rfl ⟨(some ⟨w.heap.size + 1 + 1, 0, none⟩), 1, 1, ?_, ?_, ?_, fun _ => ⟨_, rfl, by omega, by omega, by decide⟩⟩
 ·rw [results_cell_tmp rfl]
  go_simp
 ·rw [size_eq s 5]; rfl
 ·refine ⟨rfl, fun _ => ⟨_, _, rfl, by simp, fun j hj => ?_⟩⟩
  obtain rfl : j = 0 := by omega
  go_simp
 ·(repeat' (first | with_reducible exact hbW | with_reducible refine Below.setCell ?_ ?_ _ | with_reducible refine below_drewN ?_ _ | with_reducible refine Below.alloc ?_ ?_ _ | with_reducible exact Below.refl _ _ | (simp; done) | (simp; omega)))
set_option maxHeartbeats 2000000 in
theorem read_22 (s : ByteArray) (w : World) (hs : s.size <= 1000000) (hp : 0 < s.size) (h0 : byteAt s 0 = 22) :
  Calls Tryz.prog 42 #[.string s] w (RetAsk (Ak.read s) (.bool (Ak.readOk s)) w) := by
 have hx := idx (P := Tryz.prog) (k := .i64) s 0 Tryz.underlying9 (by omega) (by omega)
 rw [h0] at hx
 have er : Ak.read s = ⟨22, 0, 0, Ak.at_ s 1, 1, [Ak.at_ s 3, Ak.at_ s 5]⟩ := by simp [Ak.read, h0]
 have eo : Ak.readOk s = (s.size == 7) := by simp [Ak.readOk, h0]
 rw [er, eo]
 have H0 := Lib.hid h0
 clear h0 er eo
 go_enter Tryz.func42, Tryz.ntmps42
 go_wp2_with fail
 refine (at_any s 1 _ (by unfold maxLen; omega)).mono ?_
 rintro e w1 ⟨rfl, k1, rfl⟩
 go_wp2_with fail
 refine (at_any s 3 _ (by unfold maxLen; omega)).mono ?_
 rintro e w2 ⟨rfl, k2, rfl⟩
 go_wp2_with fail
 refine (at_any s 5 _ (by unfold maxLen; omega)).mono ?_
 rintro e w3 ⟨rfl, k3, rfl⟩
 go_wp2
 (try simp only [Exit.inBlock, Exit.then])
 refine bodyPost_ret (v := .tuple #[.agg #[.int .i64 22, .int .i64 0, .int .i64 0, .int .i64 (Ak.at_ s 1), .int .i64 1, .slice (some ⟨w.heap.size + 1 + 1, 0, none⟩) 2 2], .bool ((s.size : Int) == 7)]) ?_ rfl ⟨(some ⟨w.heap.size + 1 + 1, 0, none⟩), 2, 2, ?_, ?_, ?_, fun _ => ⟨_, rfl, by omega, by omega, by decide⟩⟩
 ·rw [results_cell_tmp rfl]
  go_simp
 ·rw [size_eq s 7]; rfl
 ·refine ⟨rfl, fun _ => ⟨_, _, rfl, by simp, fun j hj => ?_⟩⟩
  obtain rfl | rfl : j = 0 ∨ j = 1 := by omega
  ·go_simp
  ·go_simp
 ·(repeat' (first | with_reducible exact hbW | with_reducible refine Below.setCell ?_ ?_ _ | with_reducible refine below_drewN ?_ _ | with_reducible refine Below.alloc ?_ ?_ _ | with_reducible exact Below.refl _ _ | (simp; done) | (simp; omega)))
set_option maxHeartbeats 2000000 in
theorem read_5a (s : ByteArray) (w : World) (hs : s.size <= 1000000) (hp : 0 < s.size) (h0 : byteAt s 0 = 5) (hz : Ak.at_ s 3 = 65280) :
  Calls Tryz.prog 42 #[.string s] w (RetAsk (Ak.read s) (.bool (Ak.readOk s)) w) := by
 have hx := idx (P := Tryz.prog) (k := .i64) s 0 Tryz.underlying9 (by omega) (by omega)
 rw [h0] at hx
 have er : Ak.read s = ⟨5, 0, 0, Ak.at_ s 1, 1, [1]⟩ := by simp [Ak.read, h0, hz, Ak.coil]
 have eo : Ak.readOk s = (s.size == 5) := by simp [Ak.readOk, h0, hz]
 rw [er, eo]
 have d1 : (Ak.at_ s 3 == 65280) = true := by simp [hz]
 clear hz
 have H0 := Lib.hid h0
 clear h0 er eo
 go_enter Tryz.func42, Tryz.ntmps42
 go_wp2_with fail
 refine (at_any s 1 _ (by unfold maxLen; omega)).mono ?_
 rintro e w1 ⟨rfl, k1, rfl⟩
 go_wp2_with fail
 refine (at_any s 3 _ (by unfold maxLen; omega)).mono ?_
 rintro e w2 ⟨rfl, k2, rfl⟩
 go_wp2
 (try simp only [Exit.inBlock, Exit.then])
 refine bodyPost_ret (v := .tuple #[.agg #[.int .i64 5, .int .i64 0, .int .i64 0, .int .i64 (Ak.at_ s 1), .int .i64 1, .slice (some ⟨w.heap.size + 1 + 1, 0, none⟩) 1 1], .bool ((s.size : Int) == 5)]) ?_ rfl ⟨(some ⟨w.heap.size + 1 + 1, 0, none⟩), 1, 1, ?_, ?_, ?_, fun _ => ⟨_, rfl, by omega, by omega, by decide⟩⟩
 ·rw [results_cell_tmp rfl]
  go_simp
 ·rw [size_eq s 5]; rfl
 ·refine ⟨rfl, fun _ => ⟨_, _, rfl, by simp, fun j hj => ?_⟩⟩
  obtain rfl : j = 0 := by omega
  go_simp
 ·(repeat' (first | with_reducible exact hbW | with_reducible refine Below.setCell ?_ ?_ _ | with_reducible refine below_drewN ?_ _ | with_reducible refine Below.alloc ?_ ?_ _ | with_reducible exact Below.refl _ _ | (simp; done) | (simp; omega)))
set_option maxHeartbeats 2000000 in
theorem read_5b (s : ByteArray) (w : World) (hs : s.size <= 1000000) (hp : 0 < s.size) (h0 : byteAt s 0 = 5) (hz : Ak.at_ s 3 = 0) :
  Calls Tryz.prog 42 #[.string s] w (RetAsk (Ak.read s) (.bool (Ak.readOk s)) w) := by
 have hx := idx (P := Tryz.prog) (k := .i64) s 0 Tryz.underlying9 (by omega) (by omega)
 rw [h0] at hx
 have er : Ak.read s = ⟨5, 0, 0, Ak.at_ s 1, 1, [0]⟩ := by simp [Ak.read, h0, hz, Ak.coil]
 have eo : Ak.readOk s = (s.size == 5) := by simp [Ak.readOk, h0, hz]
 rw [er, eo]
 have d1 : (Ak.at_ s 3 == 65280) = false := by simp [hz]
 have d2 : (Ak.at_ s 3 != 0) = false := by simp [hz]
 have HZ := Lib.hid hz
 clear hz
 have H0 := Lib.hid h0
 clear h0 er eo
 go_enter Tryz.func42, Tryz.ntmps42
 go_wp2_with fail
 refine (at_any s 1 _ (by unfold maxLen; omega)).mono ?_
 rintro e w1 ⟨rfl, k1, rfl⟩
 go_wp2_with fail
 refine (at_any s 3 _ (by unfold maxLen; omega)).mono ?_
 rintro e w2 ⟨rfl, k2, rfl⟩
 go_wp2
 (try simp only [Exit.inBlock, Exit.then])
 refine bodyPost_ret (v := .tuple #[.agg #[.int .i64 5, .int .i64 0, .int .i64 0, .int .i64 (Ak.at_ s 1), .int .i64 1, .slice (some ⟨w.heap.size + 1 + 1, 0, none⟩) 1 1], .bool ((s.size : Int) == 5)]) ?_ rfl ⟨(some ⟨w.heap.size + 1 + 1, 0, none⟩), 1, 1, ?_, ?_, ?_, fun _ => ⟨_, rfl, by omega, by omega, by decide⟩⟩
 ·rw [results_cell_tmp rfl]
  go_simp
 ·rw [size_eq s 5]; rfl
 ·refine ⟨rfl, fun _ => ⟨_, _, rfl, by simp, fun j hj => ?_⟩⟩
  obtain rfl : j = 0 := by omega
  rw [<- HZ.out]
  go_simp
 ·(repeat' (first | with_reducible exact hbW | with_reducible refine Below.setCell ?_ ?_ _ | with_reducible refine below_drewN ?_ _ | with_reducible refine Below.alloc ?_ ?_ _ | with_reducible exact Below.refl _ _ | (simp; done) | (simp; omega)))
set_option maxHeartbeats 2000000 in
theorem read_5c (s : ByteArray) (w : World) (hs : s.size <= 1000000) (hp : 0 < s.size) (h0 : byteAt s 0 = 5) (hz : Ak.at_ s 3 ≠ 65280 ∧ Ak.at_ s 3 ≠ 0) :
  Calls Tryz.prog 42 #[.string s] w (RetAsk (Ak.read s) (.bool (Ak.readOk s)) w) := by
 have hx := idx (P := Tryz.prog) (k := .i64) s 0 Tryz.underlying9 (by omega) (by omega)
 rw [h0] at hx
 have er : Ak.read s = ⟨5, 0, 0, Ak.at_ s 1, 1, [(Ak.at_ s 3)]⟩ := by simp [Ak.read, h0, hz.1, Ak.coil]
 have eo : Ak.readOk s = false := by simp [Ak.readOk, h0, hz.1, hz.2]
 rw [er, eo]
 have d1 : (Ak.at_ s 3 == 65280) = false := by simp [hz.1]
 have d2 : (Ak.at_ s 3 != 0) = true := by simp [hz.2]
 clear hz
 have H0 := Lib.hid h0
 clear h0 er eo
 go_enter Tryz.func42, Tryz.ntmps42
 go_wp2_with fail
 refine (at_any s 1 _ (by unfold maxLen; omega)).mono ?_
 rintro e w1 ⟨rfl, k1, rfl⟩
 go_wp2_with fail
 refine (at_any s 3 _ (by unfold maxLen; omega)).mono ?_
 rintro e w2 ⟨rfl, k2, rfl⟩
 go_wp2
 (try simp only [Exit.inBlock, Exit.then])
 refine bodyPost_ret (v := .tuple #[.agg #[.int .i64 5, .int .i64 0, .int .i64 0, .int .i64 (Ak.at_ s 1), .int .i64 1, .slice (some ⟨w.heap.size + 1 + 1, 0, none⟩) 1 1], .bool (false)]) ?_ rfl ⟨(some ⟨w.heap.size + 1 + 1, 0, none⟩), 1, 1, ?_, ?_, ?_, fun _ => ⟨_, rfl, by omega, by omega, by decide⟩⟩
 ·rw [results_cell_tmp rfl]
  go_simp
 ·rfl
 ·refine ⟨rfl, fun _ => ⟨_, _, rfl, by simp, fun j hj => ?_⟩⟩
  obtain rfl : j = 0 := by omega
  go_simp
 ·(repeat' (first | with_reducible exact hbW | with_reducible refine Below.setCell ?_ ?_ _ | with_reducible refine below_drewN ?_ _ | with_reducible refine Below.alloc ?_ ?_ _ | with_reducible exact Below.refl _ _ | (simp; done) | (simp; omega)))
end Go.Proofs.YtaciogcpghbhjaaGreat.Ref6
/- Layer 6's reference: read of several values, Get. Conditions: lengths at most a million. -/
namespace Go.Proofs.YtaciogcpghbhjaaGreat.Ref6
set_option linter.unusedVariables false
open Go.ChangeShapes Go.WideShapes Go.ChangeAt Go.RowKit
theorem at_range (s : ByteArray) (i : Int) : -1 <= Ak.at_ s i ∧ Ak.at_ s i <= 65535 := by
 unfold Ak.at_ Tw.get
 have := Tw.num_range s i
 split
 ·omega
 ·omega
theorem ints_box {k : IntKind} {w : World} {A : Option Addr} {n : Nat} {zs : List Int} (h : Ints k w w.heap.size A n zs) {B : Nat} (hf : 0 < n -> ∃ b, A = some ⟨b, 0, none⟩ ∧ B <= b) (W : World) (hs : w.heap.size <= W.heap.size)
  (hc : ∀ p : Addr, B <= p.block -> p.block < w.heap.size -> W.cell? p = w.cell? p) : Ints k W W.heap.size A n zs :=
 ⟨h.1, fun hn => by
  obtain ⟨b, off, e, hb, hcl⟩ := h.2 hn
  obtain ⟨b', e', hB⟩ := hf hn
  rw [e] at e'
  injection e' with e'
  injection e' with e1 e2
  subst e1
  exact ⟨b, off, e, by omega, fun j hj => (hc _ hB hb).trans (hcl j hj)⟩⟩
theorem far_set {w : World} {p q : Addr} (v : Value) (h : p.block ≠ q.block) : (w.setCell q v).cell? p = w.cell? p := World.cell?_of_block (Below.heap_setCell w q v p.block h)
set_option maxHeartbeats 2000000 in
theorem read_15 (s : ByteArray) (w : World) (hs : s.size <= 1000000) (hp : 0 < s.size) (h0 : byteAt s 0 = 15) :
  Calls Tryz.prog 42 #[.string s] w (RetAsk (Ak.read s) (.bool (Ak.readOk s)) w) := by
 have hx := idx (P := Tryz.prog) (k := .i64) s 0 Tryz.underlying9 (by omega) (by omega)
 rw [h0] at hx
 have er : Ak.read s = ⟨15, 0, 0, Ak.at_ s 1, Ak.at_ s 3, Ak.vals s 5 15 (Ak.at_ s 3)⟩ := by simp [Ak.read, h0]
 have eo : Ak.readOk s = Ak.valOk s 5 15 (Ak.at_ s 3) := by simp [Ak.readOk, h0]
 rw [er, eo]
 have H0 := Lib.hid h0
 clear h0 er eo
 go_enter Tryz.func42, Tryz.ntmps42
 go_wp2_with fail
 refine (at_any s 1 _ (by unfold maxLen; omega)).mono ?_
 rintro e w1 ⟨rfl, k1, rfl⟩
 go_wp2_with fail
 refine (at_any s 3 _ (by unfold maxLen; omega)).mono ?_
 rintro e w2 ⟨rfl, k2, rfl⟩
 go_wp2_with fail
 refine (valuesF_any s 5 15 (Ak.at_ s 3) _ hs (by omega) (by have := at_range s 3; omega)).mono ?_
 rintro e W ⟨A, n, c, rfl, hI, hb, hfr⟩
 have c10 : W.cell? ⟨w.heap.size + 1, 0, none⟩ = some (.int .i64 15) := (hb.cell (by simp)).trans (by go_simp)
 have c11 : W.cell? ⟨w.heap.size + 1, 1, none⟩ = some (.int .i64 0) := (hb.cell (by simp)).trans (by go_simp)
 have c12 : W.cell? ⟨w.heap.size + 1, 2, none⟩ = some (.int .i64 0) := (hb.cell (by simp)).trans (by go_simp)
 have c13 : W.cell? ⟨w.heap.size + 1, 3, none⟩ = some (.int .i64 (Ak.at_ s 1)) := (hb.cell (by simp)).trans (by go_simp)
 have c14 : W.cell? ⟨w.heap.size + 1, 4, none⟩ = some (.int .i64 (Ak.at_ s 3)) := (hb.cell (by simp)).trans (by go_simp)
 have c15 : W.cell? ⟨w.heap.size + 1, 5, none⟩ = some (.slice none 0 0) := (hb.cell (by simp)).trans (by go_simp)
 have c00 : W.cell? ⟨w.heap.size, 0, none⟩ = some (.int .i64 0) := (hb.cell (by simp; omega)).trans (by go_simp)
 have c01 : W.cell? ⟨w.heap.size, 1, none⟩ = some (.int .i64 0) := (hb.cell (by simp; omega)).trans (by go_simp)
 have c02 : W.cell? ⟨w.heap.size, 2, none⟩ = some (.int .i64 0) := (hb.cell (by simp; omega)).trans (by go_simp)
 have c03 : W.cell? ⟨w.heap.size, 3, none⟩ = some (.int .i64 0) := (hb.cell (by simp; omega)).trans (by go_simp)
 have c04 : W.cell? ⟨w.heap.size, 4, none⟩ = some (.int .i64 0) := (hb.cell (by simp; omega)).trans (by go_simp)
 have c05 : W.cell? ⟨w.heap.size, 5, none⟩ = some (.slice none 0 0) := (hb.cell (by simp; omega)).trans (by go_simp)
 have f1 : ∀ j, W.frozen? ⟨w.heap.size + 1, j, none⟩ = false := fun j => (hb.frozen (by simp)).trans (by go_simp)
 have f0 : ∀ j, W.frozen? ⟨w.heap.size, j, none⟩ = false := fun j => (hb.frozen (by simp; omega)).trans (by go_simp)
 have hsz : w.heap.size + 1 + 1 <= W.heap.size := by have := hb.size; simpa using this
 have hfr2 : 0 < n -> ∃ b, A = some ⟨b, 0, none⟩ ∧ w.heap.size + 1 + 1 <= b := fun hn => by
  obtain ⟨b, e, h⟩ := hfr hn
  exact ⟨b, e, by simpa using h.1⟩
 have hbW : Below w.heap.size w W := by
  refine Below.trans ?_ (hb.mono (by simp; omega))
  clear hb hfr hfr2 hI c10 c11 c12 c13 c14 c15 c00 c01 c02 c03 c04 c05 f0 f1
  (repeat' (first | with_reducible exact hbW | with_reducible refine Below.setCell ?_ ?_ _ | with_reducible refine below_drewN ?_ _ | with_reducible refine Below.alloc ?_ ?_ _ | with_reducible exact Below.refl _ _ | (simp; done) | (simp; omega)))
 have HF := Lib.hid hfr2
 have HCP : Hid (0 < n -> n <= c ∧ c <= maxLen) := Lib.hid (fun hn => by obtain ⟨b, e, h⟩ := hfr hn; exact h.2)
 have HI := Lib.hid hI
 clear hb hfr hfr2 hI
 go_wp2
 (try simp only [Exit.inBlock, Exit.then])
 refine bodyPost_ret (v := .tuple #[.agg #[.int .i64 15, .int .i64 0, .int .i64 0, .int .i64 (Ak.at_ s 1), .int .i64 (Ak.at_ s 3), .slice A n c], .bool (Ak.valOk s 5 15 (Ak.at_ s 3))]) ?_ rfl ⟨A, n, c, ?_, ?_, ?_, fun hn => by obtain ⟨b, e, h⟩ := HF.out hn; exact ⟨b, e, by omega, HCP.out hn⟩⟩
 ·rw [results_cell_tmp rfl]
  go_simp
 ·rfl
 ·refine ints_box HI.out HF.out _ (by simp) (fun p h1 h2 => ?_)
  repeat (rw [far_set _ (by show p.block ≠ _; simp; omega)])
 ·clear c10 c11 c12 c13 c14 c15 c00 c01 c02 c03 c04 c05 f0 f1
  (repeat' (first | with_reducible exact hbW | with_reducible refine Below.setCell ?_ ?_ _ | with_reducible refine below_drewN ?_ _ | with_reducible refine Below.alloc ?_ ?_ _ | with_reducible exact Below.refl _ _ | (simp; done) | (simp; omega)))
set_option maxHeartbeats 2000000 in
theorem read_16 (s : ByteArray) (w : World) (hs : s.size <= 1000000) (hp : 0 < s.size) (h0 : byteAt s 0 = 16) :
  Calls Tryz.prog 42 #[.string s] w (RetAsk (Ak.read s) (.bool (Ak.readOk s)) w) := by
 have hx := idx (P := Tryz.prog) (k := .i64) s 0 Tryz.underlying9 (by omega) (by omega)
 rw [h0] at hx
 have er : Ak.read s = ⟨16, 0, 0, Ak.at_ s 1, Ak.at_ s 3, Ak.vals s 5 16 (Ak.at_ s 3)⟩ := by simp [Ak.read, h0]
 have eo : Ak.readOk s = Ak.valOk s 5 16 (Ak.at_ s 3) := by simp [Ak.readOk, h0]
 rw [er, eo]
 have H0 := Lib.hid h0
 clear h0 er eo
 go_enter Tryz.func42, Tryz.ntmps42
 go_wp2_with fail
 refine (at_any s 1 _ (by unfold maxLen; omega)).mono ?_
 rintro e w1 ⟨rfl, k1, rfl⟩
 go_wp2_with fail
 refine (at_any s 3 _ (by unfold maxLen; omega)).mono ?_
 rintro e w2 ⟨rfl, k2, rfl⟩
 go_wp2_with fail
 refine (valuesF_any s 5 16 (Ak.at_ s 3) _ hs (by omega) (by have := at_range s 3; omega)).mono ?_
 rintro e W ⟨A, n, c, rfl, hI, hb, hfr⟩
 have c10 : W.cell? ⟨w.heap.size + 1, 0, none⟩ = some (.int .i64 16) := (hb.cell (by simp)).trans (by go_simp)
 have c11 : W.cell? ⟨w.heap.size + 1, 1, none⟩ = some (.int .i64 0) := (hb.cell (by simp)).trans (by go_simp)
 have c12 : W.cell? ⟨w.heap.size + 1, 2, none⟩ = some (.int .i64 0) := (hb.cell (by simp)).trans (by go_simp)
 have c13 : W.cell? ⟨w.heap.size + 1, 3, none⟩ = some (.int .i64 (Ak.at_ s 1)) := (hb.cell (by simp)).trans (by go_simp)
 have c14 : W.cell? ⟨w.heap.size + 1, 4, none⟩ = some (.int .i64 (Ak.at_ s 3)) := (hb.cell (by simp)).trans (by go_simp)
 have c15 : W.cell? ⟨w.heap.size + 1, 5, none⟩ = some (.slice none 0 0) := (hb.cell (by simp)).trans (by go_simp)
 have c00 : W.cell? ⟨w.heap.size, 0, none⟩ = some (.int .i64 0) := (hb.cell (by simp; omega)).trans (by go_simp)
 have c01 : W.cell? ⟨w.heap.size, 1, none⟩ = some (.int .i64 0) := (hb.cell (by simp; omega)).trans (by go_simp)
 have c02 : W.cell? ⟨w.heap.size, 2, none⟩ = some (.int .i64 0) := (hb.cell (by simp; omega)).trans (by go_simp)
 have c03 : W.cell? ⟨w.heap.size, 3, none⟩ = some (.int .i64 0) := (hb.cell (by simp; omega)).trans (by go_simp)
 have c04 : W.cell? ⟨w.heap.size, 4, none⟩ = some (.int .i64 0) := (hb.cell (by simp; omega)).trans (by go_simp)
 have c05 : W.cell? ⟨w.heap.size, 5, none⟩ = some (.slice none 0 0) := (hb.cell (by simp; omega)).trans (by go_simp)
 have f1 : ∀ j, W.frozen? ⟨w.heap.size + 1, j, none⟩ = false := fun j => (hb.frozen (by simp)).trans (by go_simp)
 have f0 : ∀ j, W.frozen? ⟨w.heap.size, j, none⟩ = false := fun j => (hb.frozen (by simp; omega)).trans (by go_simp)
 have hsz : w.heap.size + 1 + 1 <= W.heap.size := by have := hb.size; simpa using this
 have hfr2 : 0 < n -> ∃ b, A = some ⟨b, 0, none⟩ ∧ w.heap.size + 1 + 1 <= b := fun hn => by
  obtain ⟨b, e, h⟩ := hfr hn
  exact ⟨b, e, by simpa using h.1⟩
 have hbW : Below w.heap.size w W := by
  refine Below.trans ?_ (hb.mono (by simp; omega))
  clear hb hfr hfr2 hI c10 c11 c12 c13 c14 c15 c00 c01 c02 c03 c04 c05 f0 f1
  (repeat' (first | with_reducible exact hbW | with_reducible refine Below.setCell ?_ ?_ _ | with_reducible refine below_drewN ?_ _ | with_reducible refine Below.alloc ?_ ?_ _ | with_reducible exact Below.refl _ _ | (simp; done) | (simp; omega)))
 have HF := Lib.hid hfr2
 have HCP : Hid (0 < n -> n <= c ∧ c <= maxLen) := Lib.hid (fun hn => by obtain ⟨b, e, h⟩ := hfr hn; exact h.2)
 have HI := Lib.hid hI
 clear hb hfr hfr2 hI
 go_wp2
 (try simp only [Exit.inBlock, Exit.then])
 refine bodyPost_ret (v := .tuple #[.agg #[.int .i64 16, .int .i64 0, .int .i64 0, .int .i64 (Ak.at_ s 1), .int .i64 (Ak.at_ s 3), .slice A n c], .bool (Ak.valOk s 5 16 (Ak.at_ s 3))]) ?_ rfl ⟨A, n, c, ?_, ?_, ?_, fun hn => by obtain ⟨b, e, h⟩ := HF.out hn; exact ⟨b, e, by omega, HCP.out hn⟩⟩
 ·rw [results_cell_tmp rfl]
  go_simp
 ·rfl
 ·refine ints_box HI.out HF.out _ (by simp) (fun p h1 h2 => ?_)
  repeat (rw [far_set _ (by show p.block ≠ _; simp; omega)])
 ·clear c10 c11 c12 c13 c14 c15 c00 c01 c02 c03 c04 c05 f0 f1
  (repeat' (first | with_reducible exact hbW | with_reducible refine Below.setCell ?_ ?_ _ | with_reducible refine below_drewN ?_ _ | with_reducible refine Below.alloc ?_ ?_ _ | with_reducible exact Below.refl _ _ | (simp; done) | (simp; omega)))
set_option maxHeartbeats 2000000 in
theorem read_23 (s : ByteArray) (w : World) (hs : s.size <= 1000000) (hp : 0 < s.size) (h0 : byteAt s 0 = 23) :
  Calls Tryz.prog 42 #[.string s] w (RetAsk (Ak.read s) (.bool (Ak.readOk s)) w) := by
 have hx := idx (P := Tryz.prog) (k := .i64) s 0 Tryz.underlying9 (by omega) (by omega)
 rw [h0] at hx
 have er : Ak.read s = ⟨23, Ak.at_ s 1, Ak.at_ s 3, Ak.at_ s 5, Ak.at_ s 7, Ak.vals s 9 23 (Ak.at_ s 7)⟩ := by simp [Ak.read, h0]
 have eo : Ak.readOk s = Ak.valOk s 9 23 (Ak.at_ s 7) := by simp [Ak.readOk, h0]
 rw [er, eo]
 have H0 := Lib.hid h0
 clear h0 er eo
 go_enter Tryz.func42, Tryz.ntmps42
 go_wp2_with fail
 refine (at_any s 1 _ (by unfold maxLen; omega)).mono ?_
 rintro e w1 ⟨rfl, k1, rfl⟩
 go_wp2_with fail
 refine (at_any s 3 _ (by unfold maxLen; omega)).mono ?_
 rintro e w2 ⟨rfl, k2, rfl⟩
 go_wp2_with fail
 refine (at_any s 5 _ (by unfold maxLen; omega)).mono ?_
 rintro e w3 ⟨rfl, k3, rfl⟩
 go_wp2_with fail
 refine (at_any s 7 _ (by unfold maxLen; omega)).mono ?_
 rintro e w4 ⟨rfl, k4, rfl⟩
 go_wp2_with fail
 refine (valuesF_any s 9 23 (Ak.at_ s 7) _ hs (by omega) (by have := at_range s 7; omega)).mono ?_
 rintro e W ⟨A, n, c, rfl, hI, hb, hfr⟩
 have c10 : W.cell? ⟨w.heap.size + 1, 0, none⟩ = some (.int .i64 23) := (hb.cell (by simp)).trans (by go_simp)
 have c11 : W.cell? ⟨w.heap.size + 1, 1, none⟩ = some (.int .i64 (Ak.at_ s 1)) := (hb.cell (by simp)).trans (by go_simp)
 have c12 : W.cell? ⟨w.heap.size + 1, 2, none⟩ = some (.int .i64 (Ak.at_ s 3)) := (hb.cell (by simp)).trans (by go_simp)
 have c13 : W.cell? ⟨w.heap.size + 1, 3, none⟩ = some (.int .i64 (Ak.at_ s 5)) := (hb.cell (by simp)).trans (by go_simp)
 have c14 : W.cell? ⟨w.heap.size + 1, 4, none⟩ = some (.int .i64 (Ak.at_ s 7)) := (hb.cell (by simp)).trans (by go_simp)
 have c15 : W.cell? ⟨w.heap.size + 1, 5, none⟩ = some (.slice none 0 0) := (hb.cell (by simp)).trans (by go_simp)
 have c00 : W.cell? ⟨w.heap.size, 0, none⟩ = some (.int .i64 0) := (hb.cell (by simp; omega)).trans (by go_simp)
 have c01 : W.cell? ⟨w.heap.size, 1, none⟩ = some (.int .i64 0) := (hb.cell (by simp; omega)).trans (by go_simp)
 have c02 : W.cell? ⟨w.heap.size, 2, none⟩ = some (.int .i64 0) := (hb.cell (by simp; omega)).trans (by go_simp)
 have c03 : W.cell? ⟨w.heap.size, 3, none⟩ = some (.int .i64 0) := (hb.cell (by simp; omega)).trans (by go_simp)
 have c04 : W.cell? ⟨w.heap.size, 4, none⟩ = some (.int .i64 0) := (hb.cell (by simp; omega)).trans (by go_simp)
 have c05 : W.cell? ⟨w.heap.size, 5, none⟩ = some (.slice none 0 0) := (hb.cell (by simp; omega)).trans (by go_simp)
 have f1 : ∀ j, W.frozen? ⟨w.heap.size + 1, j, none⟩ = false := fun j => (hb.frozen (by simp)).trans (by go_simp)
 have f0 : ∀ j, W.frozen? ⟨w.heap.size, j, none⟩ = false := fun j => (hb.frozen (by simp; omega)).trans (by go_simp)
 have hsz : w.heap.size + 1 + 1 <= W.heap.size := by have := hb.size; simpa using this
 have hfr2 : 0 < n -> ∃ b, A = some ⟨b, 0, none⟩ ∧ w.heap.size + 1 + 1 <= b := fun hn => by
  obtain ⟨b, e, h⟩ := hfr hn
  exact ⟨b, e, by simpa using h.1⟩
 have hbW : Below w.heap.size w W := by
  refine Below.trans ?_ (hb.mono (by simp; omega))
  clear hb hfr hfr2 hI c10 c11 c12 c13 c14 c15 c00 c01 c02 c03 c04 c05 f0 f1
  (repeat' (first | with_reducible exact hbW | with_reducible refine Below.setCell ?_ ?_ _ | with_reducible refine below_drewN ?_ _ | with_reducible refine Below.alloc ?_ ?_ _ | with_reducible exact Below.refl _ _ | (simp; done) | (simp; omega)))
 have HF := Lib.hid hfr2
 have HCP : Hid (0 < n -> n <= c ∧ c <= maxLen) := Lib.hid (fun hn => by obtain ⟨b, e, h⟩ := hfr hn; exact h.2)
 have HI := Lib.hid hI
 clear hb hfr hfr2 hI
 go_wp2
 (try simp only [Exit.inBlock, Exit.then])
 refine bodyPost_ret (v := .tuple #[.agg #[.int .i64 23, .int .i64 (Ak.at_ s 1), .int .i64 (Ak.at_ s 3), .int .i64 (Ak.at_ s 5), .int .i64 (Ak.at_ s 7), .slice A n c], .bool (Ak.valOk s 9 23 (Ak.at_ s 7))]) ?_ rfl ⟨A, n, c, ?_, ?_, ?_, fun hn => by obtain ⟨b, e, h⟩ := HF.out hn; exact ⟨b, e, by omega, HCP.out hn⟩⟩
 ·rw [results_cell_tmp rfl]
  go_simp
 ·rfl
 ·refine ints_box HI.out HF.out _ (by simp) (fun p h1 h2 => ?_)
  repeat (rw [far_set _ (by show p.block ≠ _; simp; omega)])
 ·clear c10 c11 c12 c13 c14 c15 c00 c01 c02 c03 c04 c05 f0 f1
  (repeat' (first | with_reducible exact hbW | with_reducible refine Below.setCell ?_ ?_ _ | with_reducible refine below_drewN ?_ _ | with_reducible refine Below.alloc ?_ ?_ _ | with_reducible exact Below.refl _ _ | (simp; done) | (simp; omega)))
theorem read_any (s : ByteArray) (w : World) (hs : s.size <= 1000000) (hb : Ak.begins s = true) :
  Calls Tryz.prog 42 #[.string s] w (RetAsk (Ak.read s) (.bool (Ak.readOk s)) w) := by
 rw [Ak.begins, Bool.and_eq_true, decide_eq_true_eq, Ak.known_iff] at hb
 obtain ⟨hp, h⟩ := hb
 rcases h with h | h | h | h | h | h | h | h | h | h
 ·exact read_1 s w hs hp h
 ·exact read_2 s w hs hp h
 ·exact read_3 s w hs hp h
 ·exact read_4 s w hs hp h
 ·by_cases h1 : Ak.at_ s 3 = 65280
  ·exact read_5a s w hs hp h h1
  ·by_cases h2 : Ak.at_ s 3 = 0
   ·exact read_5b s w hs hp h h2
   ·exact read_5c s w hs hp h ⟨h1, h2⟩
 ·exact read_6 s w hs hp h
 ·exact read_15 s w hs hp h
 ·exact read_16 s w hs hp h
 ·exact read_22 s w hs hp h
 ·exact read_23 s w hs hp h
theorem vals_len (s : ByteArray) (i : Nat) (fc many : Int) : (Ak.vals s i fc many).length <= 8 * s.size := by
 have hsub : (Ak.sub s (i + 1)).size <= s.size := by rw [Ak.sub, st_size, List.length_drop, bl_length]; omega
 unfold Ak.vals
 split
 ·split
  ·have := Co.get_len8 (Ak.sub s (i + 1)) many
   omega
  ·have := Tw.getAll_len (Ak.sub s (i + 1))
   omega
 ·simp
theorem read_len (s : ByteArray) : (Ak.read s).vs.length <= 8 * s.size + 2 := by
 have h5 := vals_len s 5 (byteAt s 0) (Ak.at_ s 3)
 have h9 := vals_len s 9 (byteAt s 0) (Ak.at_ s 7)
 unfold Ak.read
 simp only
 repeat' (first | (simp; done) | (simp; omega) | omega | split)
end Go.Proofs.YtaciogcpghbhjaaGreat.Ref6
/- Layer 6's reference: Get. Conditions: lengths at most a hundred thousand. -/
namespace Go.Proofs.YtaciogcpghbhjaaGreat.Ref6
set_option linter.unusedVariables false
open Go.ChangeShapes Go.WideShapes Go.ChangeAt Go.RowKit
theorem Boxed.kept {p : Nat} {a : AskP} {A : Option Addr} {n c : Nat} {w w' : World} (h : Boxed p a A n c w) (hk : Keep w w') (hp : p < w.heap.size) : Boxed p a A n c w' := h.below hk hp
set_option maxHeartbeats 2000000 in
theorem get_any (s : ByteArray) (w : World) (hs : s.size <= 100000) :
  Calls Tryz.prog 21 #[.string s] w (RetAsk (Ak.get s) (.int .i64 (Ak.err s)) w) := by
 by_cases h0 : s.size = 0
 ·have he : Ak.err s = 2 := by rw [Ak.err, Ak.begins, h0]; rfl
  have hg : Ak.get s = Ak.zero := by rw [Ak.get, he]; rfl
  rw [he, hg]
  have d1 : ((s.size : Int) == 0) = true := by simp [h0]
  clear he hg
  go_enter Tryz.func21, Tryz.ntmps21
  go_wp2
  (try simp only [Exit.inBlock, Exit.then])
  refine bodyPost_ret (v := .tuple #[.agg #[.int .i64 0, .int .i64 0, .int .i64 0, .int .i64 0, .int .i64 0, .slice none 0 0], .int .i64 2]) ?_ rfl ⟨none, 0, 0, rfl, Ints.none_ _ _ _ _, ?_, FreshC.zero _ _ _⟩
  ·rw [results_cell_tmp rfl]
   go_simp
  ·exact (Below.refl _ _).alloc (Nat.le_refl _) _
 ·have d1 : ((s.size : Int) == 0) = false := by simp [h0]
  have hx := idx (P := Tryz.prog) (k := .i64) s 0 Tryz.underlying9 (by omega) (by omega)
  have hr := byteAt_range s 0
  have hbg : Ak.begins s = Ak.known (byteAt s 0) := by rw [Ak.begins, show decide (0 < s.size) = true by simp; omega, Bool.true_and]
  cases hk : Ak.known (byteAt s 0)
  ·rw [hk] at hbg
   have he : Ak.err s = 2 := by rw [Ak.err, hbg]; rfl
   have hg : Ak.get s = Ak.zero := by rw [Ak.get, he]; rfl
   rw [he, hg]
   clear he hg hbg
   go_enter Tryz.func21, Tryz.ntmps21
   go_wp2_with fail
   refine (known_any (byteAt s 0) _).mono ?_
   rintro e w1 ⟨rfl, rfl⟩
   rw [hk]
   go_wp2
   (try simp only [Exit.inBlock, Exit.then])
   refine bodyPost_ret (v := .tuple #[.agg #[.int .i64 0, .int .i64 0, .int .i64 0, .int .i64 0, .int .i64 0, .slice none 0 0], .int .i64 2]) ?_ rfl ⟨none, 0, 0, rfl, Ints.none_ _ _ _ _, ?_, FreshC.zero _ _ _⟩
   ·rw [results_cell_tmp rfl]
    go_simp
   ·exact (Below.refl _ _).alloc (Nat.le_refl _) _
  ·rw [hk] at hbg
   have HG := Lib.hid hbg
   clear hbg
   have hlen := read_len s
   go_enter Tryz.func21, Tryz.ntmps21
   go_wp2_with fail
   refine (known_any (byteAt s 0) _).mono ?_
   rintro e w1 ⟨rfl, rfl⟩
   rw [hk]
   go_wp2_with fail
   refine (read_any s _ (by omega) HG.out).mono ?_
   rintro e W ⟨A, n, c, rfl, hI, hb, hfr⟩
   have hlt : w.heap.size < W.heap.size := by have := hb.size; simp at this; omega
   have hn : n <= 1000000 := by have := hI.1; omega
   have b0 : Boxed w.heap.size Ak.zero none 0 0 W := (Boxed.new w Ak.zero none 0 0 40).below hb (by simp)
   have f0 : ∀ j, W.frozen? ⟨w.heap.size, j, none⟩ = false := fun j => (hb.frozen (by simp)).trans (by go_simp)
   have hfr2 : 0 < n -> ∃ b, A = some ⟨b, 0, none⟩ ∧ w.heap.size + 1 <= b := fun hn => by
    obtain ⟨b, e, h⟩ := hfr hn
    exact ⟨b, e, by simpa using h.1⟩
   have hbW : Below w.heap.size w W := Below.trans ((Below.refl _ _).alloc (Nat.le_refl _) _) (hb.mono (by simp))
   have HF := Lib.hid hfr2
   have HCP : Hid (0 < n -> n <= c ∧ c <= maxLen) := Lib.hid (fun hn => by obtain ⟨b, e, h⟩ := hfr hn; exact h.2)
   have HI := Lib.hid hI
   clear hb hfr hfr2 hI hlen
   obtain ⟨a, ha⟩ : ∃ a, a = Ak.read s := ⟨_, rfl⟩
   rw [<- ha] at HI ⊢
   have HA := Lib.hid ha
   clear ha
   obtain ⟨c00, c01, c02, c03, c04, c05⟩ := b0
   simp only [Ak.zero] at c00 c01 c02 c03 c04 c05
   cases hok : Ak.readOk s
   ·have he : Ak.err s = 4 := by rw [Ak.err, HG.out, hok]; rfl
    have hg : Ak.get s = Ak.zero := by rw [Ak.get, he]; rfl
    have HE := Lib.hid he
    have HGT := Lib.hid hg
    clear he hg
    go_wp2
    (try simp only [Exit.inBlock, Exit.then])
    refine bodyPost_ret (v := .tuple #[.agg #[.int .i64 0, .int .i64 0, .int .i64 0, .int .i64 0, .int .i64 0, .slice none 0 0], .int .i64 4]) ?_ rfl ⟨none, 0, 0, by rw [HE.out, HGT.out]; rfl, ?_, ?_, FreshC.zero _ _ _⟩
    ·rw [results_cell_tmp rfl]
     go_simp
    ·rw [HGT.out]; exact Ints.none_ _ _ _ _
    ·clear c00 c01 c02 c03 c04 c05 f0
     (repeat' (first | with_reducible exact hbW | with_reducible refine Below.setCell ?_ ?_ _ | with_reducible refine below_drewN ?_ _ | with_reducible refine Below.alloc ?_ ?_ _ | with_reducible exact Below.refl _ _ | (simp; done) | (simp; omega)))
   ·go_wp2_with fail
    have kb := (Keep.refl W).alloc (.cells #[.int .i64 a.fc, .int .i64 a.rd, .int .i64 a.ct, .int .i64 a.wr, .int .i64 a.mn, .slice A n c] 40)
    refine (formed_any A n c a _ hn (HI.out.kept kb)).mono ?_
    rintro e V ⟨rfl, hV⟩
    have hVW : Keep W V := kb.trans hV
    have b1 : Boxed W.heap.size a A n c V := (Boxed.new W a A n c 40).below hV (by simp)
    have b0 : Boxed w.heap.size Ak.zero none 0 0 V := Boxed.kept ⟨c00, c01, c02, c03, c04, c05⟩ hVW hlt
    have g0 : ∀ j, V.frozen? ⟨w.heap.size, j, none⟩ = false := fun j => (hVW.frozen hlt).trans (f0 j)
    have hbV : Below w.heap.size w V := hbW.trans (hVW.mono (by omega))
    have hltV : w.heap.size < V.heap.size := by have := hVW.size; omega
    have hlt2 : W.heap.size < V.heap.size := by have := hV.size; simp at this; omega
    clear hV kb f0 c00 c01 c02 c03 c04 c05
    obtain ⟨c00, c01, c02, c03, c04, c05⟩ := b0
    simp only [Ak.zero] at c00 c01 c02 c03 c04 c05
    obtain ⟨c10, c11, c12, c13, c14, c15⟩ := b1
    cases hf : Ak.formed a
    ·have he : Ak.err s = 4 := by rw [Ak.err, HG.out, hok, <- HA.out, hf]; rfl
     have hg : Ak.get s = Ak.zero := by rw [Ak.get, he]; rfl
     have HE := Lib.hid he
     have HGT := Lib.hid hg
     clear he hg
     go_wp2
     (try simp only [Exit.inBlock, Exit.then])
     refine bodyPost_ret (v := .tuple #[.agg #[.int .i64 0, .int .i64 0, .int .i64 0, .int .i64 0, .int .i64 0, .slice none 0 0], .int .i64 4]) ?_ rfl ⟨none, 0, 0, by rw [HE.out, HGT.out]; rfl, ?_, ?_, FreshC.zero _ _ _⟩
     ·rw [results_cell_tmp rfl]
      go_simp
     ·rw [HGT.out]; exact Ints.none_ _ _ _ _
     ·clear c00 c01 c02 c03 c04 c05 g0
      (repeat' (first | with_reducible exact hbV | with_reducible refine Below.setCell ?_ ?_ _ | with_reducible refine below_drewN ?_ _ | with_reducible refine Below.alloc ?_ ?_ _ | with_reducible exact Below.refl _ _ | (simp; done) | (simp; omega)))
    ·go_wp2_with fail
     refine (right_any A n c a _ hn (HI.out.kept hVW)).mono ?_
     rintro e U ⟨rfl, hU⟩
     have hUW : Keep W U := hVW.trans hU
     have b1 : Boxed W.heap.size a A n c U := Boxed.kept ⟨c10, c11, c12, c13, c14, c15⟩ hU hlt2
     have b0 : Boxed w.heap.size Ak.zero none 0 0 U := Boxed.kept ⟨c00, c01, c02, c03, c04, c05⟩ hU hltV
     have e0 : ∀ j, U.frozen? ⟨w.heap.size, j, none⟩ = false := fun j => (hU.frozen hltV).trans (g0 j)
     have hbU : Below w.heap.size w U := hbV.trans (hU.mono (by omega))
     have hltU : w.heap.size < U.heap.size := by have := hU.size; omega
     clear hU g0 c00 c01 c02 c03 c04 c05 c10 c11 c12 c13 c14 c15 hbV
     obtain ⟨c00, c01, c02, c03, c04, c05⟩ := b0
     simp only [Ak.zero] at c00 c01 c02 c03 c04 c05
     obtain ⟨c10, c11, c12, c13, c14, c15⟩ := b1
     cases hr : Ak.right a
     ·have he : Ak.err s = 3 := by rw [Ak.err, HG.out, hok, <- HA.out, hf, hr]; rfl
      have hg : Ak.get s = Ak.zero := by rw [Ak.get, he]; rfl
      have HE := Lib.hid he
      have HGT := Lib.hid hg
      clear he hg
      go_wp2
      (try simp only [Exit.inBlock, Exit.then])
      refine bodyPost_ret (v := .tuple #[.agg #[.int .i64 0, .int .i64 0, .int .i64 0, .int .i64 0, .int .i64 0, .slice none 0 0], .int .i64 3]) ?_ rfl ⟨none, 0, 0, by rw [HE.out, HGT.out]; rfl, ?_, ?_, FreshC.zero _ _ _⟩
      ·rw [results_cell_tmp rfl]
       go_simp
      ·rw [HGT.out]; exact Ints.none_ _ _ _ _
      ·clear c00 c01 c02 c03 c04 c05 e0 c10 c11 c12 c13 c14 c15
       (repeat' (first | with_reducible exact hbU | with_reducible refine Below.setCell ?_ ?_ _ | with_reducible refine below_drewN ?_ _ | with_reducible refine Below.alloc ?_ ?_ _ | with_reducible exact Below.refl _ _ | (simp; done) | (simp; omega)))
     ·have he : Ak.err s = 0 := by rw [Ak.err, HG.out, hok, <- HA.out, hf, hr]; rfl
      have hg : Ak.get s = a := by rw [Ak.get, he, HA.out]; rfl
      have HE := Lib.hid he
      have HGT := Lib.hid hg
      clear he hg
      go_wp2
      (try simp only [Exit.inBlock, Exit.then])
      refine bodyPost_ret (v := .tuple #[.agg #[.int .i64 a.fc, .int .i64 a.rd, .int .i64 a.ct, .int .i64 a.wr, .int .i64 a.mn, .slice A n c], .int .i64 0]) ?_ rfl ⟨A, n, c, by rw [HE.out, HGT.out], ?_, ?_, fun hn => by obtain ⟨b, e, h⟩ := HF.out hn; exact ⟨b, e, by omega, HCP.out hn⟩⟩
      ·rw [results_cell_tmp rfl]
       go_simp
      ·rw [HGT.out]
       refine ints_box (HI.out.kept hUW) HF.out _ (by simp) (fun p h1 h2 => ?_)
       repeat (rw [far_set _ (by show p.block ≠ _; simp; omega)])
      ·clear c00 c01 c02 c03 c04 c05 c10 c11 c12 c13 c14 c15 e0
       (repeat' (first | with_reducible exact hbU | with_reducible refine Below.setCell ?_ ?_ _ | with_reducible refine below_drewN ?_ _ | with_reducible refine Below.alloc ?_ ?_ _ | with_reducible exact Below.refl _ _ | (simp; done) | (simp; omega)))
end Go.Proofs.YtaciogcpghbhjaaGreat.Ref6
