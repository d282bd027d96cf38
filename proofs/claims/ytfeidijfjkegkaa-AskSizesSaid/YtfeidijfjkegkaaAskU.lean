/- Layer 6's reference: read of several values, Get. Conditions: lengths at most a million. -/
import Derived.Test.YtfeidijfjkegkaaAskT
namespace Go.Proofs.Ytfeidijfjkegkaa.Ref6
set_option linter.unusedVariables false
open Go.ChangeShapes Go.WideShapes Go.ChangeAt Go.RowKit

theorem at_range (s : ByteArray) (i : Int) : -1 ≤ Ak.at_ s i ∧ Ak.at_ s i ≤ 65535 := by
  unfold Ak.at_ Tw.get
  have := Tw.num_range s i
  split
  · omega
  · omega
/-- What a box and its neighbour hold stays behind a call that makes memory. -/
theorem ints_box {k : IntKind} {w : World} {A : Option Addr} {n : Nat} {zs : List Int} (h : Ints k w w.heap.size A n zs) {B : Nat} (hf : 0 < n → ∃ b, A = some ⟨b, 0, none⟩ ∧ B ≤ b) (W : World) (hs : w.heap.size ≤ W.heap.size)
    (hc : ∀ p : Addr, B ≤ p.block → p.block < w.heap.size → W.cell? p = w.cell? p) : Ints k W W.heap.size A n zs :=
  ⟨h.1, fun hn => by
    obtain ⟨b, off, e, hb, hcl⟩ := h.2 hn
    obtain ⟨b', e', hB⟩ := hf hn
    rw [e] at e'
    injection e' with e'
    injection e' with e1 e2
    subst e1
    exact ⟨b, off, e, by omega, fun j hj => (hc _ hB hb).trans (hcl j hj)⟩⟩

theorem far_set {w : World} {p q : Addr} (v : Value) (h : p.block ≠ q.block) : (w.setCell q v).cell? p = w.cell? p := World.cell?_of_block (Below.heap_setCell w q v p.block h)

set_option maxHeartbeats 2000000 in
theorem read_15 (s : ByteArray) (w : World) (hs : s.size ≤ 1000000) (hp : 0 < s.size) (h0 : byteAt s 0 = 15) :
    Calls Try.prog 27 #[.string s] w (RetAsk (Ak.read s) (.bool (Ak.readOk s)) w) := by
  have hx := idx (P := Try.prog) (k := .i64) s 0 Try.underlying9 (by omega) (by omega)
  rw [h0] at hx
  have er : Ak.read s = ⟨15, 0, 0, Ak.at_ s 1, Ak.at_ s 3, Ak.vals s 5 15 (Ak.at_ s 3)⟩ := by simp [Ak.read, h0]
  have eo : Ak.readOk s = Ak.valOk s 5 15 (Ak.at_ s 3) := by simp [Ak.readOk, h0]
  rw [er, eo]
  have H0 := Lib.hid h0
  clear h0 er eo
  go_enter Try.func27, Try.ntmps27
  go_wp2_with fail
  refine (at_any s 1 _ (by unfold maxLen; omega)).mono ?_
  rintro e w1 ⟨rfl, k1, rfl⟩
  go_wp2_with fail
  refine (at_any s 3 _ (by unfold maxLen; omega)).mono ?_
  rintro e w2 ⟨rfl, k2, rfl⟩
  go_wp2_with fail
  refine (valuesF_any s 5 15 (Ak.at_ s 3) _ hs (by omega) (by have := at_range s 3; omega)).mono ?_
  rintro e W ⟨A, n, c, rfl, hI, hb, hfr⟩
  have c10 : W.cell? ⟨w.heap.size + 1, 0, none⟩ = some (.int .i64 15) := (hb.cell (by simp)).trans (by go_simp)
  have c11 : W.cell? ⟨w.heap.size + 1, 1, none⟩ = some (.int .i64 0) := (hb.cell (by simp)).trans (by go_simp)
  have c12 : W.cell? ⟨w.heap.size + 1, 2, none⟩ = some (.int .i64 0) := (hb.cell (by simp)).trans (by go_simp)
  have c13 : W.cell? ⟨w.heap.size + 1, 3, none⟩ = some (.int .i64 (Ak.at_ s 1)) := (hb.cell (by simp)).trans (by go_simp)
  have c14 : W.cell? ⟨w.heap.size + 1, 4, none⟩ = some (.int .i64 (Ak.at_ s 3)) := (hb.cell (by simp)).trans (by go_simp)
  have c15 : W.cell? ⟨w.heap.size + 1, 5, none⟩ = some (.slice none 0 0) := (hb.cell (by simp)).trans (by go_simp)
  have c00 : W.cell? ⟨w.heap.size, 0, none⟩ = some (.int .i64 0) := (hb.cell (by simp; omega)).trans (by go_simp)
  have c01 : W.cell? ⟨w.heap.size, 1, none⟩ = some (.int .i64 0) := (hb.cell (by simp; omega)).trans (by go_simp)
  have c02 : W.cell? ⟨w.heap.size, 2, none⟩ = some (.int .i64 0) := (hb.cell (by simp; omega)).trans (by go_simp)
  have c03 : W.cell? ⟨w.heap.size, 3, none⟩ = some (.int .i64 0) := (hb.cell (by simp; omega)).trans (by go_simp)
  have c04 : W.cell? ⟨w.heap.size, 4, none⟩ = some (.int .i64 0) := (hb.cell (by simp; omega)).trans (by go_simp)
  have c05 : W.cell? ⟨w.heap.size, 5, none⟩ = some (.slice none 0 0) := (hb.cell (by simp; omega)).trans (by go_simp)
  have f1 : ∀ j, W.frozen? ⟨w.heap.size + 1, j, none⟩ = false := fun j => (hb.frozen (by simp)).trans (by go_simp)
  have f0 : ∀ j, W.frozen? ⟨w.heap.size, j, none⟩ = false := fun j => (hb.frozen (by simp; omega)).trans (by go_simp)
  have hsz : w.heap.size + 1 + 1 ≤ W.heap.size := by have := hb.size; simpa using this
  have hfr2 : 0 < n → ∃ b, A = some ⟨b, 0, none⟩ ∧ w.heap.size + 1 + 1 ≤ b := fun hn => by
    obtain ⟨b, e, h⟩ := hfr hn
    exact ⟨b, e, by simpa using h⟩
  have hbW : Below w.heap.size w W := by
    refine Below.trans ?_ (hb.mono (by simp; omega))
    clear hb hfr hfr2 hI c10 c11 c12 c13 c14 c15 c00 c01 c02 c03 c04 c05 f0 f1
    (repeat' (first | with_reducible exact hbW | with_reducible refine Below.setCell ?_ ?_ _ | with_reducible refine below_drewN ?_ _ | with_reducible refine Below.alloc ?_ ?_ _ | with_reducible exact Below.refl _ _ | (simp; done) | (simp; omega)))
  have HF := Lib.hid hfr2
  have HI := Lib.hid hI
  clear hb hfr hfr2 hI
  go_wp2
  (try simp only [Exit.inBlock, Exit.then])
  refine bodyPost_ret (v := .tuple #[.agg #[.int .i64 15, .int .i64 0, .int .i64 0, .int .i64 (Ak.at_ s 1), .int .i64 (Ak.at_ s 3), .slice A n c], .bool (Ak.valOk s 5 15 (Ak.at_ s 3))]) ?_ rfl ⟨A, n, c, ?_, ?_, ?_, fun hn => by obtain ⟨b, e, h⟩ := HF.out hn; exact ⟨b, e, by omega⟩⟩
  · rw [results_cell_tmp rfl]
    go_simp
  · rfl
  · refine ints_box HI.out HF.out _ (by simp) (fun p h1 h2 => ?_)
    repeat (rw [far_set _ (by show p.block ≠ _; simp; omega)])
  · clear c10 c11 c12 c13 c14 c15 c00 c01 c02 c03 c04 c05 f0 f1
    (repeat' (first | with_reducible exact hbW | with_reducible refine Below.setCell ?_ ?_ _ | with_reducible refine below_drewN ?_ _ | with_reducible refine Below.alloc ?_ ?_ _ | with_reducible exact Below.refl _ _ | (simp; done) | (simp; omega)))


set_option maxHeartbeats 2000000 in
theorem read_16 (s : ByteArray) (w : World) (hs : s.size ≤ 1000000) (hp : 0 < s.size) (h0 : byteAt s 0 = 16) :
    Calls Try.prog 27 #[.string s] w (RetAsk (Ak.read s) (.bool (Ak.readOk s)) w) := by
  have hx := idx (P := Try.prog) (k := .i64) s 0 Try.underlying9 (by omega) (by omega)
  rw [h0] at hx
  have er : Ak.read s = ⟨16, 0, 0, Ak.at_ s 1, Ak.at_ s 3, Ak.vals s 5 16 (Ak.at_ s 3)⟩ := by simp [Ak.read, h0]
  have eo : Ak.readOk s = Ak.valOk s 5 16 (Ak.at_ s 3) := by simp [Ak.readOk, h0]
  rw [er, eo]
  have H0 := Lib.hid h0
  clear h0 er eo
  go_enter Try.func27, Try.ntmps27
  go_wp2_with fail
  refine (at_any s 1 _ (by unfold maxLen; omega)).mono ?_
  rintro e w1 ⟨rfl, k1, rfl⟩
  go_wp2_with fail
  refine (at_any s 3 _ (by unfold maxLen; omega)).mono ?_
  rintro e w2 ⟨rfl, k2, rfl⟩
  go_wp2_with fail
  refine (valuesF_any s 5 16 (Ak.at_ s 3) _ hs (by omega) (by have := at_range s 3; omega)).mono ?_
  rintro e W ⟨A, n, c, rfl, hI, hb, hfr⟩
  have c10 : W.cell? ⟨w.heap.size + 1, 0, none⟩ = some (.int .i64 16) := (hb.cell (by simp)).trans (by go_simp)
  have c11 : W.cell? ⟨w.heap.size + 1, 1, none⟩ = some (.int .i64 0) := (hb.cell (by simp)).trans (by go_simp)
  have c12 : W.cell? ⟨w.heap.size + 1, 2, none⟩ = some (.int .i64 0) := (hb.cell (by simp)).trans (by go_simp)
  have c13 : W.cell? ⟨w.heap.size + 1, 3, none⟩ = some (.int .i64 (Ak.at_ s 1)) := (hb.cell (by simp)).trans (by go_simp)
  have c14 : W.cell? ⟨w.heap.size + 1, 4, none⟩ = some (.int .i64 (Ak.at_ s 3)) := (hb.cell (by simp)).trans (by go_simp)
  have c15 : W.cell? ⟨w.heap.size + 1, 5, none⟩ = some (.slice none 0 0) := (hb.cell (by simp)).trans (by go_simp)
  have c00 : W.cell? ⟨w.heap.size, 0, none⟩ = some (.int .i64 0) := (hb.cell (by simp; omega)).trans (by go_simp)
  have c01 : W.cell? ⟨w.heap.size, 1, none⟩ = some (.int .i64 0) := (hb.cell (by simp; omega)).trans (by go_simp)
  have c02 : W.cell? ⟨w.heap.size, 2, none⟩ = some (.int .i64 0) := (hb.cell (by simp; omega)).trans (by go_simp)
  have c03 : W.cell? ⟨w.heap.size, 3, none⟩ = some (.int .i64 0) := (hb.cell (by simp; omega)).trans (by go_simp)
  have c04 : W.cell? ⟨w.heap.size, 4, none⟩ = some (.int .i64 0) := (hb.cell (by simp; omega)).trans (by go_simp)
  have c05 : W.cell? ⟨w.heap.size, 5, none⟩ = some (.slice none 0 0) := (hb.cell (by simp; omega)).trans (by go_simp)
  have f1 : ∀ j, W.frozen? ⟨w.heap.size + 1, j, none⟩ = false := fun j => (hb.frozen (by simp)).trans (by go_simp)
  have f0 : ∀ j, W.frozen? ⟨w.heap.size, j, none⟩ = false := fun j => (hb.frozen (by simp; omega)).trans (by go_simp)
  have hsz : w.heap.size + 1 + 1 ≤ W.heap.size := by have := hb.size; simpa using this
  have hfr2 : 0 < n → ∃ b, A = some ⟨b, 0, none⟩ ∧ w.heap.size + 1 + 1 ≤ b := fun hn => by
    obtain ⟨b, e, h⟩ := hfr hn
    exact ⟨b, e, by simpa using h⟩
  have hbW : Below w.heap.size w W := by
    refine Below.trans ?_ (hb.mono (by simp; omega))
    clear hb hfr hfr2 hI c10 c11 c12 c13 c14 c15 c00 c01 c02 c03 c04 c05 f0 f1
    (repeat' (first | with_reducible exact hbW | with_reducible refine Below.setCell ?_ ?_ _ | with_reducible refine below_drewN ?_ _ | with_reducible refine Below.alloc ?_ ?_ _ | with_reducible exact Below.refl _ _ | (simp; done) | (simp; omega)))
  have HF := Lib.hid hfr2
  have HI := Lib.hid hI
  clear hb hfr hfr2 hI
  go_wp2
  (try simp only [Exit.inBlock, Exit.then])
  refine bodyPost_ret (v := .tuple #[.agg #[.int .i64 16, .int .i64 0, .int .i64 0, .int .i64 (Ak.at_ s 1), .int .i64 (Ak.at_ s 3), .slice A n c], .bool (Ak.valOk s 5 16 (Ak.at_ s 3))]) ?_ rfl ⟨A, n, c, ?_, ?_, ?_, fun hn => by obtain ⟨b, e, h⟩ := HF.out hn; exact ⟨b, e, by omega⟩⟩
  · rw [results_cell_tmp rfl]
    go_simp
  · rfl
  · refine ints_box HI.out HF.out _ (by simp) (fun p h1 h2 => ?_)
    repeat (rw [far_set _ (by show p.block ≠ _; simp; omega)])
  · clear c10 c11 c12 c13 c14 c15 c00 c01 c02 c03 c04 c05 f0 f1
    (repeat' (first | with_reducible exact hbW | with_reducible refine Below.setCell ?_ ?_ _ | with_reducible refine below_drewN ?_ _ | with_reducible refine Below.alloc ?_ ?_ _ | with_reducible exact Below.refl _ _ | (simp; done) | (simp; omega)))


set_option maxHeartbeats 2000000 in
theorem read_23 (s : ByteArray) (w : World) (hs : s.size ≤ 1000000) (hp : 0 < s.size) (h0 : byteAt s 0 = 23) :
    Calls Try.prog 27 #[.string s] w (RetAsk (Ak.read s) (.bool (Ak.readOk s)) w) := by
  have hx := idx (P := Try.prog) (k := .i64) s 0 Try.underlying9 (by omega) (by omega)
  rw [h0] at hx
  have er : Ak.read s = ⟨23, Ak.at_ s 1, Ak.at_ s 3, Ak.at_ s 5, Ak.at_ s 7, Ak.vals s 9 23 (Ak.at_ s 7)⟩ := by simp [Ak.read, h0]
  have eo : Ak.readOk s = Ak.valOk s 9 23 (Ak.at_ s 7) := by simp [Ak.readOk, h0]
  rw [er, eo]
  have H0 := Lib.hid h0
  clear h0 er eo
  go_enter Try.func27, Try.ntmps27
  go_wp2_with fail
  refine (at_any s 1 _ (by unfold maxLen; omega)).mono ?_
  rintro e w1 ⟨rfl, k1, rfl⟩
  go_wp2_with fail
  refine (at_any s 3 _ (by unfold maxLen; omega)).mono ?_
  rintro e w2 ⟨rfl, k2, rfl⟩
  go_wp2_with fail
  refine (at_any s 5 _ (by unfold maxLen; omega)).mono ?_
  rintro e w3 ⟨rfl, k3, rfl⟩
  go_wp2_with fail
  refine (at_any s 7 _ (by unfold maxLen; omega)).mono ?_
  rintro e w4 ⟨rfl, k4, rfl⟩
  go_wp2_with fail
  refine (valuesF_any s 9 23 (Ak.at_ s 7) _ hs (by omega) (by have := at_range s 7; omega)).mono ?_
  rintro e W ⟨A, n, c, rfl, hI, hb, hfr⟩
  have c10 : W.cell? ⟨w.heap.size + 1, 0, none⟩ = some (.int .i64 23) := (hb.cell (by simp)).trans (by go_simp)
  have c11 : W.cell? ⟨w.heap.size + 1, 1, none⟩ = some (.int .i64 (Ak.at_ s 1)) := (hb.cell (by simp)).trans (by go_simp)
  have c12 : W.cell? ⟨w.heap.size + 1, 2, none⟩ = some (.int .i64 (Ak.at_ s 3)) := (hb.cell (by simp)).trans (by go_simp)
  have c13 : W.cell? ⟨w.heap.size + 1, 3, none⟩ = some (.int .i64 (Ak.at_ s 5)) := (hb.cell (by simp)).trans (by go_simp)
  have c14 : W.cell? ⟨w.heap.size + 1, 4, none⟩ = some (.int .i64 (Ak.at_ s 7)) := (hb.cell (by simp)).trans (by go_simp)
  have c15 : W.cell? ⟨w.heap.size + 1, 5, none⟩ = some (.slice none 0 0) := (hb.cell (by simp)).trans (by go_simp)
  have c00 : W.cell? ⟨w.heap.size, 0, none⟩ = some (.int .i64 0) := (hb.cell (by simp; omega)).trans (by go_simp)
  have c01 : W.cell? ⟨w.heap.size, 1, none⟩ = some (.int .i64 0) := (hb.cell (by simp; omega)).trans (by go_simp)
  have c02 : W.cell? ⟨w.heap.size, 2, none⟩ = some (.int .i64 0) := (hb.cell (by simp; omega)).trans (by go_simp)
  have c03 : W.cell? ⟨w.heap.size, 3, none⟩ = some (.int .i64 0) := (hb.cell (by simp; omega)).trans (by go_simp)
  have c04 : W.cell? ⟨w.heap.size, 4, none⟩ = some (.int .i64 0) := (hb.cell (by simp; omega)).trans (by go_simp)
  have c05 : W.cell? ⟨w.heap.size, 5, none⟩ = some (.slice none 0 0) := (hb.cell (by simp; omega)).trans (by go_simp)
  have f1 : ∀ j, W.frozen? ⟨w.heap.size + 1, j, none⟩ = false := fun j => (hb.frozen (by simp)).trans (by go_simp)
  have f0 : ∀ j, W.frozen? ⟨w.heap.size, j, none⟩ = false := fun j => (hb.frozen (by simp; omega)).trans (by go_simp)
  have hsz : w.heap.size + 1 + 1 ≤ W.heap.size := by have := hb.size; simpa using this
  have hfr2 : 0 < n → ∃ b, A = some ⟨b, 0, none⟩ ∧ w.heap.size + 1 + 1 ≤ b := fun hn => by
    obtain ⟨b, e, h⟩ := hfr hn
    exact ⟨b, e, by simpa using h⟩
  have hbW : Below w.heap.size w W := by
    refine Below.trans ?_ (hb.mono (by simp; omega))
    clear hb hfr hfr2 hI c10 c11 c12 c13 c14 c15 c00 c01 c02 c03 c04 c05 f0 f1
    (repeat' (first | with_reducible exact hbW | with_reducible refine Below.setCell ?_ ?_ _ | with_reducible refine below_drewN ?_ _ | with_reducible refine Below.alloc ?_ ?_ _ | with_reducible exact Below.refl _ _ | (simp; done) | (simp; omega)))
  have HF := Lib.hid hfr2
  have HI := Lib.hid hI
  clear hb hfr hfr2 hI
  go_wp2
  (try simp only [Exit.inBlock, Exit.then])
  refine bodyPost_ret (v := .tuple #[.agg #[.int .i64 23, .int .i64 (Ak.at_ s 1), .int .i64 (Ak.at_ s 3), .int .i64 (Ak.at_ s 5), .int .i64 (Ak.at_ s 7), .slice A n c], .bool (Ak.valOk s 9 23 (Ak.at_ s 7))]) ?_ rfl ⟨A, n, c, ?_, ?_, ?_, fun hn => by obtain ⟨b, e, h⟩ := HF.out hn; exact ⟨b, e, by omega⟩⟩
  · rw [results_cell_tmp rfl]
    go_simp
  · rfl
  · refine ints_box HI.out HF.out _ (by simp) (fun p h1 h2 => ?_)
    repeat (rw [far_set _ (by show p.block ≠ _; simp; omega)])
  · clear c10 c11 c12 c13 c14 c15 c00 c01 c02 c03 c04 c05 f0 f1
    (repeat' (first | with_reducible exact hbW | with_reducible refine Below.setCell ?_ ?_ _ | with_reducible refine below_drewN ?_ _ | with_reducible refine Below.alloc ?_ ?_ _ | with_reducible exact Below.refl _ _ | (simp; done) | (simp; omega)))



theorem read_any (s : ByteArray) (w : World) (hs : s.size ≤ 1000000) (hb : Ak.begins s = true) :
    Calls Try.prog 27 #[.string s] w (RetAsk (Ak.read s) (.bool (Ak.readOk s)) w) := by
  rw [Ak.begins, Bool.and_eq_true, decide_eq_true_eq, Ak.known_iff] at hb
  obtain ⟨hp, h⟩ := hb
  rcases h with h | h | h | h | h | h | h | h | h | h
  · exact read_1 s w hs hp h
  · exact read_2 s w hs hp h
  · exact read_3 s w hs hp h
  · exact read_4 s w hs hp h
  · by_cases h1 : Ak.at_ s 3 = 65280
    · exact read_5a s w hs hp h h1
    · by_cases h2 : Ak.at_ s 3 = 0
      · exact read_5b s w hs hp h h2
      · exact read_5c s w hs hp h ⟨h1, h2⟩
  · exact read_6 s w hs hp h
  · exact read_15 s w hs hp h
  · exact read_16 s w hs hp h
  · exact read_22 s w hs hp h
  · exact read_23 s w hs hp h
theorem vals_len (s : ByteArray) (i : Nat) (fc many : Int) : (Ak.vals s i fc many).length ≤ 8 * s.size := by
  have hsub : (Ak.sub s (i + 1)).size ≤ s.size := by rw [Ak.sub, st_size, List.length_drop, bl_length]; omega
  unfold Ak.vals
  split
  · split
    · have := Co.get_len8 (Ak.sub s (i + 1)) many
      omega
    · have := Tw.getAll_len (Ak.sub s (i + 1))
      omega
  · simp
theorem read_len (s : ByteArray) : (Ak.read s).vs.length ≤ 8 * s.size + 2 := by
  have h5 := vals_len s 5 (byteAt s 0) (Ak.at_ s 3)
  have h9 := vals_len s 9 (byteAt s 0) (Ak.at_ s 7)
  unfold Ak.read
  simp only
  repeat' (first | (simp; done) | (simp; omega) | omega | split)
end Go.Proofs.Ytfeidijfjkegkaa.Ref6
