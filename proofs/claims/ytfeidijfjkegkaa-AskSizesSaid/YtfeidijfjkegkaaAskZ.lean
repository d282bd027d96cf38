/- The developers' requests: what is taken out of bytes. Conditions: at most a million bytes. -/
import Derived.Test.YtfeidijfjkegkaaAskY
import Derived.Test.YtfeidijfjkegkaaAskU
namespace Go.Proofs.Ytfeidijfjkegkaa.Ask
set_option linter.unusedVariables false
open Go.ChangeShapes Go.WideShapes Go.ChangeAt Go.RowKit
open Ref6 (ret_bool ret_int Boxed below_drewN ints_box far_set)

theorem results_cell {fn : Func} {p : Tmp} {ty : TypeId} (h : fn.results = #[.cell p ty]) (tmps : Array Value) (P : Program) (w : World) :
    (results fn tmps).run P w = ((asAddr (tmps.getD p undef)).run P w).andThen fun a w₁ => ((loadVar ty a).run P w₁).andThen fun v w₂ => .ok v w₂ := by
  simp only [results, h]
  simp [Sem.run_bind, Result.andThen]
  cases (asAddr (tmps[p]?.getD undef)).run P w with
  | ok a w1 => simp only; cases (loadVar ty a).run P w1 <;> rfl
  | halt h w1 => rfl
/-- What comes back: a request. -/
def RetOne (a : AskP) (w : World) (e : Ending) (w' : World) : Prop :=
  ∃ A n c, e = .returned (.agg #[.int .i64 a.fc, .int .i64 a.rd, .int .i64 a.ct, .int .i64 a.wr, .int .i64 a.mn, .slice A n c]) ∧ Ints .i64 w' w'.heap.size A n a.vs ∧ Below w.heap.size w w' ∧ Fresh w A n

set_option maxHeartbeats 400000 in
theorem number_any (s : ByteArray) (i : Int) (w : World) (hs : s.size ≤ maxLen) :
    Calls Try.prog 36 #[.string s, .int .i64 i] w fun e w' => e = .returned (.int .i64 (Tw.get s i)) ∧ Quiet w w' := by
  go_enter Try.func36, Try.ntmps36
  go_wp2_with fail
  refine (Twin.get_any s i _ hs).mono ?_
  rintro e w1 ⟨rfl, hq⟩
  go_wp2
  go_ret
  exact ⟨rfl, hq⟩
set_option maxHeartbeats 400000 in
theorem tail_any (s : ByteArray) (i : Nat) (w : World) (hs : s.size ≤ 1000000) (hi : i ≤ 100) :
    Calls Try.prog 38 #[.string s, .int .i64 (i : Int)] w fun e w' => e = .returned (.string (Ak.sub s i)) ∧ w = w' := by
  by_cases h : i ≤ s.size
  · have hm : min (i : Int) (s.size : Int) = (i : Int) := by omega
    go_enter Try.func38, Try.ntmps38
    go_wp2
    go_ret
    exact ⟨ret_str (Ak.extract_end s i), rfl⟩
  · have hm : min (i : Int) (s.size : Int) = (s.size : Int) := by omega
    have e : ByteArray.empty = Ak.sub s i := by
      rw [Ak.sub, List.drop_eq_nil_of_le (by rw [bl_length]; omega)]; rfl
    have E := Lib.hid e
    clear e
    go_enter Try.func38, Try.ntmps38
    go_wp2
    go_ret
    exact ⟨ret_str E.out, rfl⟩

set_option maxHeartbeats 2000000 in
theorem taken_1 (s : ByteArray) (w : World) (hs : s.size ≤ 1000000) (hp : 0 < s.size) (h0 : byteAt s 0 = 1) :
    Calls Try.prog 24 #[.string s] w (RetOne (Ak.taken s) w) := by
  have hx := idx (P := Try.prog) (k := .i64) s 0 Try.underlying9 (by omega) (by omega)
  rw [h0] at hx
  have er : Ak.taken s = ⟨1, Tw.get s 1, Tw.get s 3, 0, 0, []⟩ := by simp [Ak.taken, h0]
  rw [er]
  have H0 := Lib.hid h0
  clear h0 er
  go_enter Try.func24, Try.ntmps24
  go_wp2_with fail
  refine (number_any s 1 _ (by unfold maxLen; omega)).mono ?_
  rintro e w1 ⟨rfl, k1, rfl⟩
  go_wp2_with fail
  refine (number_any s 3 _ (by unfold maxLen; omega)).mono ?_
  rintro e w2 ⟨rfl, k2, rfl⟩
  go_wp2
  (try simp only [Exit.inBlock, Exit.then])
  refine bodyPost_ret (v := .agg #[.int .i64 1, .int .i64 (Tw.get s 1), .int .i64 (Tw.get s 3), .int .i64 0, .int .i64 0, .slice none 0 0]) ?_ rfl ⟨none, 0, 0, rfl, ?_, ?_, Fresh.zero _ _⟩
  · rw [results_cell rfl]
    go_simp
  · exact Ints.none_ _ _ _ _
  · (repeat' (first | with_reducible exact hbW | with_reducible refine Below.setCell ?_ ?_ _ | with_reducible refine below_drewN ?_ _ | with_reducible refine Below.alloc ?_ ?_ _ | with_reducible exact Below.refl _ _ | (simp; done) | (simp; omega)))

set_option maxHeartbeats 2000000 in
theorem taken_2 (s : ByteArray) (w : World) (hs : s.size ≤ 1000000) (hp : 0 < s.size) (h0 : byteAt s 0 = 2) :
    Calls Try.prog 24 #[.string s] w (RetOne (Ak.taken s) w) := by
  have hx := idx (P := Try.prog) (k := .i64) s 0 Try.underlying9 (by omega) (by omega)
  rw [h0] at hx
  have er : Ak.taken s = ⟨2, Tw.get s 1, Tw.get s 3, 0, 0, []⟩ := by simp [Ak.taken, h0]
  rw [er]
  have H0 := Lib.hid h0
  clear h0 er
  go_enter Try.func24, Try.ntmps24
  go_wp2_with fail
  refine (number_any s 1 _ (by unfold maxLen; omega)).mono ?_
  rintro e w1 ⟨rfl, k1, rfl⟩
  go_wp2_with fail
  refine (number_any s 3 _ (by unfold maxLen; omega)).mono ?_
  rintro e w2 ⟨rfl, k2, rfl⟩
  go_wp2
  (try simp only [Exit.inBlock, Exit.then])
  refine bodyPost_ret (v := .agg #[.int .i64 2, .int .i64 (Tw.get s 1), .int .i64 (Tw.get s 3), .int .i64 0, .int .i64 0, .slice none 0 0]) ?_ rfl ⟨none, 0, 0, rfl, ?_, ?_, Fresh.zero _ _⟩
  · rw [results_cell rfl]
    go_simp
  · exact Ints.none_ _ _ _ _
  · (repeat' (first | with_reducible exact hbW | with_reducible refine Below.setCell ?_ ?_ _ | with_reducible refine below_drewN ?_ _ | with_reducible refine Below.alloc ?_ ?_ _ | with_reducible exact Below.refl _ _ | (simp; done) | (simp; omega)))

set_option maxHeartbeats 2000000 in
theorem taken_3 (s : ByteArray) (w : World) (hs : s.size ≤ 1000000) (hp : 0 < s.size) (h0 : byteAt s 0 = 3) :
    Calls Try.prog 24 #[.string s] w (RetOne (Ak.taken s) w) := by
  have hx := idx (P := Try.prog) (k := .i64) s 0 Try.underlying9 (by omega) (by omega)
  rw [h0] at hx
  have er : Ak.taken s = ⟨3, Tw.get s 1, Tw.get s 3, 0, 0, []⟩ := by simp [Ak.taken, h0]
  rw [er]
  have H0 := Lib.hid h0
  clear h0 er
  go_enter Try.func24, Try.ntmps24
  go_wp2_with fail
  refine (number_any s 1 _ (by unfold maxLen; omega)).mono ?_
  rintro e w1 ⟨rfl, k1, rfl⟩
  go_wp2_with fail
  refine (number_any s 3 _ (by unfold maxLen; omega)).mono ?_
  rintro e w2 ⟨rfl, k2, rfl⟩
  go_wp2
  (try simp only [Exit.inBlock, Exit.then])
  refine bodyPost_ret (v := .agg #[.int .i64 3, .int .i64 (Tw.get s 1), .int .i64 (Tw.get s 3), .int .i64 0, .int .i64 0, .slice none 0 0]) ?_ rfl ⟨none, 0, 0, rfl, ?_, ?_, Fresh.zero _ _⟩
  · rw [results_cell rfl]
    go_simp
  · exact Ints.none_ _ _ _ _
  · (repeat' (first | with_reducible exact hbW | with_reducible refine Below.setCell ?_ ?_ _ | with_reducible refine below_drewN ?_ _ | with_reducible refine Below.alloc ?_ ?_ _ | with_reducible exact Below.refl _ _ | (simp; done) | (simp; omega)))

set_option maxHeartbeats 2000000 in
theorem taken_4 (s : ByteArray) (w : World) (hs : s.size ≤ 1000000) (hp : 0 < s.size) (h0 : byteAt s 0 = 4) :
    Calls Try.prog 24 #[.string s] w (RetOne (Ak.taken s) w) := by
  have hx := idx (P := Try.prog) (k := .i64) s 0 Try.underlying9 (by omega) (by omega)
  rw [h0] at hx
  have er : Ak.taken s = ⟨4, Tw.get s 1, Tw.get s 3, 0, 0, []⟩ := by simp [Ak.taken, h0]
  rw [er]
  have H0 := Lib.hid h0
  clear h0 er
  go_enter Try.func24, Try.ntmps24
  go_wp2_with fail
  refine (number_any s 1 _ (by unfold maxLen; omega)).mono ?_
  rintro e w1 ⟨rfl, k1, rfl⟩
  go_wp2_with fail
  refine (number_any s 3 _ (by unfold maxLen; omega)).mono ?_
  rintro e w2 ⟨rfl, k2, rfl⟩
  go_wp2
  (try simp only [Exit.inBlock, Exit.then])
  refine bodyPost_ret (v := .agg #[.int .i64 4, .int .i64 (Tw.get s 1), .int .i64 (Tw.get s 3), .int .i64 0, .int .i64 0, .slice none 0 0]) ?_ rfl ⟨none, 0, 0, rfl, ?_, ?_, Fresh.zero _ _⟩
  · rw [results_cell rfl]
    go_simp
  · exact Ints.none_ _ _ _ _
  · (repeat' (first | with_reducible exact hbW | with_reducible refine Below.setCell ?_ ?_ _ | with_reducible refine below_drewN ?_ _ | with_reducible refine Below.alloc ?_ ?_ _ | with_reducible exact Below.refl _ _ | (simp; done) | (simp; omega)))

set_option maxHeartbeats 2000000 in
theorem taken_5 (s : ByteArray) (w : World) (hs : s.size ≤ 1000000) (hp : 0 < s.size) (h0 : byteAt s 0 = 5) :
    Calls Try.prog 24 #[.string s] w (RetOne (Ak.taken s) w) := by
  have hx := idx (P := Try.prog) (k := .i64) s 0 Try.underlying9 (by omega) (by omega)
  rw [h0] at hx
  have er : Ak.taken s = ⟨5, 0, 0, Tw.get s 1, 1, [Tw.get s 3 / 65280]⟩ := by simp [Ak.taken, h0]
  rw [er]
  have H0 := Lib.hid h0
  clear h0 er
  go_enter Try.func24, Try.ntmps24
  go_wp2_with fail
  refine (number_any s 1 _ (by unfold maxLen; omega)).mono ?_
  rintro e w1 ⟨rfl, k1, rfl⟩
  go_wp2_with fail
  refine (number_any s 3 _ (by unfold maxLen; omega)).mono ?_
  rintro e w2 ⟨rfl, k2, rfl⟩
  have hr3 := Ak.get_range s 3
  have hq3 : (Tw.get s 3).tdiv 65280 = Tw.get s 3 / 65280 := Int.tdiv_eq_ediv_of_nonneg hr3.1
  go_wp2
  (try simp only [Exit.inBlock, Exit.then])
  refine bodyPost_ret (v := .agg #[.int .i64 5, .int .i64 0, .int .i64 0, .int .i64 (Tw.get s 1), .int .i64 1, .slice (some ⟨w.heap.size + 1 + 1, 0, none⟩) 1 1]) ?_ rfl ⟨(some ⟨w.heap.size + 1 + 1, 0, none⟩), 1, 1, rfl, ?_, ?_, fun _ => ⟨_, rfl, by omega⟩⟩
  · rw [results_cell rfl]
    go_simp
  · refine ⟨rfl, fun _ => ⟨_, _, rfl, by simp, fun j hj => ?_⟩⟩
    obtain rfl : j = 0 := by omega
    go_simp
  · (repeat' (first | with_reducible exact hbW | with_reducible refine Below.setCell ?_ ?_ _ | with_reducible refine below_drewN ?_ _ | with_reducible refine Below.alloc ?_ ?_ _ | with_reducible exact Below.refl _ _ | (simp; done) | (simp; omega)))

set_option maxHeartbeats 2000000 in
theorem taken_6 (s : ByteArray) (w : World) (hs : s.size ≤ 1000000) (hp : 0 < s.size) (h0 : byteAt s 0 = 6) :
    Calls Try.prog 24 #[.string s] w (RetOne (Ak.taken s) w) := by
  have hx := idx (P := Try.prog) (k := .i64) s 0 Try.underlying9 (by omega) (by omega)
  rw [h0] at hx
  have er : Ak.taken s = ⟨6, 0, 0, Tw.get s 1, 1, [Tw.get s 3]⟩ := by simp [Ak.taken, h0]
  rw [er]
  have H0 := Lib.hid h0
  clear h0 er
  go_enter Try.func24, Try.ntmps24
  go_wp2_with fail
  refine (number_any s 1 _ (by unfold maxLen; omega)).mono ?_
  rintro e w1 ⟨rfl, k1, rfl⟩
  go_wp2_with fail
  refine (number_any s 3 _ (by unfold maxLen; omega)).mono ?_
  rintro e w2 ⟨rfl, k2, rfl⟩
  go_wp2
  (try simp only [Exit.inBlock, Exit.then])
  refine bodyPost_ret (v := .agg #[.int .i64 6, .int .i64 0, .int .i64 0, .int .i64 (Tw.get s 1), .int .i64 1, .slice (some ⟨w.heap.size + 1 + 1, 0, none⟩) 1 1]) ?_ rfl ⟨(some ⟨w.heap.size + 1 + 1, 0, none⟩), 1, 1, rfl, ?_, ?_, fun _ => ⟨_, rfl, by omega⟩⟩
  · rw [results_cell rfl]
    go_simp
  · refine ⟨rfl, fun _ => ⟨_, _, rfl, by simp, fun j hj => ?_⟩⟩
    obtain rfl : j = 0 := by omega
    go_simp
  · (repeat' (first | with_reducible exact hbW | with_reducible refine Below.setCell ?_ ?_ _ | with_reducible refine below_drewN ?_ _ | with_reducible refine Below.alloc ?_ ?_ _ | with_reducible exact Below.refl _ _ | (simp; done) | (simp; omega)))

set_option maxHeartbeats 2000000 in
theorem taken_22 (s : ByteArray) (w : World) (hs : s.size ≤ 1000000) (hp : 0 < s.size) (h0 : byteAt s 0 = 22) :
    Calls Try.prog 24 #[.string s] w (RetOne (Ak.taken s) w) := by
  have hx := idx (P := Try.prog) (k := .i64) s 0 Try.underlying9 (by omega) (by omega)
  rw [h0] at hx
  have er : Ak.taken s = ⟨22, 0, 0, Tw.get s 1, 1, [Tw.get s 3, Tw.get s 5]⟩ := by simp [Ak.taken, h0]
  rw [er]
  have H0 := Lib.hid h0
  clear h0 er
  go_enter Try.func24, Try.ntmps24
  go_wp2_with fail
  refine (number_any s 1 _ (by unfold maxLen; omega)).mono ?_
  rintro e w1 ⟨rfl, k1, rfl⟩
  go_wp2_with fail
  refine (number_any s 3 _ (by unfold maxLen; omega)).mono ?_
  rintro e w2 ⟨rfl, k2, rfl⟩
  go_wp2_with fail
  refine (number_any s 5 _ (by unfold maxLen; omega)).mono ?_
  rintro e w3 ⟨rfl, k3, rfl⟩
  go_wp2
  (try simp only [Exit.inBlock, Exit.then])
  refine bodyPost_ret (v := .agg #[.int .i64 22, .int .i64 0, .int .i64 0, .int .i64 (Tw.get s 1), .int .i64 1, .slice (some ⟨w.heap.size + 1 + 1, 0, none⟩) 2 2]) ?_ rfl ⟨(some ⟨w.heap.size + 1 + 1, 0, none⟩), 2, 2, rfl, ?_, ?_, fun _ => ⟨_, rfl, by omega⟩⟩
  · rw [results_cell rfl]
    go_simp
  · refine ⟨rfl, fun _ => ⟨_, _, rfl, by simp, fun j hj => ?_⟩⟩
    obtain rfl | rfl : j = 0 ∨ j = 1 := by omega
    all_goals go_simp
  · (repeat' (first | with_reducible exact hbW | with_reducible refine Below.setCell ?_ ?_ _ | with_reducible refine below_drewN ?_ _ | with_reducible refine Below.alloc ?_ ?_ _ | with_reducible exact Below.refl _ _ | (simp; done) | (simp; omega)))

set_option maxHeartbeats 2000000 in
theorem taken_15 (s : ByteArray) (w : World) (hs : s.size ≤ 1000000) (hp : 0 < s.size) (h0 : byteAt s 0 = 15) :
    Calls Try.prog 24 #[.string s] w (RetOne (Ak.taken s) w) := by
  have hx := idx (P := Try.prog) (k := .i64) s 0 Try.underlying9 (by omega) (by omega)
  rw [h0] at hx
  have er : Ak.taken s = ⟨15, 0, 0, Tw.get s 1, Tw.get s 3, Co.get (Ak.sub s 6) (Tw.get s 3)⟩ := by simp [Ak.taken, h0]
  rw [er]
  have H0 := Lib.hid h0
  clear h0 er
  go_enter Try.func24, Try.ntmps24
  go_wp2_with fail
  refine (number_any s 1 _ (by unfold maxLen; omega)).mono ?_
  rintro e w1 ⟨rfl, k1, rfl⟩
  go_wp2_with fail
  refine (number_any s 3 _ (by unfold maxLen; omega)).mono ?_
  rintro e w2 ⟨rfl, k2, rfl⟩
  go_wp2
  have hr3 := Ak.get_range s 3
  have hss : (Ak.sub s 6).size ≤ 1000000 := by rw [Ak.sub, st_size, List.length_drop, bl_length]; omega
  have HR3 := Lib.hid hr3
  clear hr3
  go_region_held3 (fun w' => w'.cell? ⟨w.heap.size + 1, 4, none⟩ = some (.int .i64 (Tw.get s 3)))
    (first | assumption | (go_simp; done) | fail)
    ((first
      | (go_at_call 38; refine (tail_any s 6 _ hs (by omega)).mono ?_; rintro e w3 ⟨rfl, rfl⟩)
      | (go_at_call 37; refine (Coil.getF_any (Ak.sub s 6) (Tw.get s 3) _ hss (by have := HR3.out; omega)).mono ?_; rintro e W ⟨A, n, c, rfl, hI, hb, hfr⟩; have c14 : W.cell? ⟨w.heap.size + 1, 4, none⟩ = some (.int .i64 (Tw.get s 3)) := (hb.cell (by simp)).trans (by go_simp); have c15 : W.cell? ⟨w.heap.size + 1, 5, none⟩ = some (.slice none 0 0) := (hb.cell (by simp)).trans (by go_simp); have f1 : ∀ j, W.frozen? ⟨w.heap.size + 1, j, none⟩ = false := fun j => (hb.frozen (by simp)).trans (by go_simp))
      | fail))
  have c10 : W.cell? ⟨w.heap.size + 1, 0, none⟩ = some (.int .i64 15) := (hb.cell (by simp)).trans (by go_simp)
  have c11 : W.cell? ⟨w.heap.size + 1, 1, none⟩ = some (.int .i64 0) := (hb.cell (by simp)).trans (by go_simp)
  have c12 : W.cell? ⟨w.heap.size + 1, 2, none⟩ = some (.int .i64 0) := (hb.cell (by simp)).trans (by go_simp)
  have c13 : W.cell? ⟨w.heap.size + 1, 3, none⟩ = some (.int .i64 (Tw.get s 1)) := (hb.cell (by simp)).trans (by go_simp)
  have c14 : W.cell? ⟨w.heap.size + 1, 4, none⟩ = some (.int .i64 (Tw.get s 3)) := (hb.cell (by simp)).trans (by go_simp)
  have c15 : W.cell? ⟨w.heap.size + 1, 5, none⟩ = some (.slice none 0 0) := (hb.cell (by simp)).trans (by go_simp)
  have c00 : W.cell? ⟨w.heap.size, 0, none⟩ = some (.int .i64 0) := (hb.cell (by simp; omega)).trans (by go_simp)
  have c01 : W.cell? ⟨w.heap.size, 1, none⟩ = some (.int .i64 0) := (hb.cell (by simp; omega)).trans (by go_simp)
  have c02 : W.cell? ⟨w.heap.size, 2, none⟩ = some (.int .i64 0) := (hb.cell (by simp; omega)).trans (by go_simp)
  have c03 : W.cell? ⟨w.heap.size, 3, none⟩ = some (.int .i64 0) := (hb.cell (by simp; omega)).trans (by go_simp)
  have c04 : W.cell? ⟨w.heap.size, 4, none⟩ = some (.int .i64 0) := (hb.cell (by simp; omega)).trans (by go_simp)
  have c05 : W.cell? ⟨w.heap.size, 5, none⟩ = some (.slice none 0 0) := (hb.cell (by simp; omega)).trans (by go_simp)
  have f1 : ∀ j, W.frozen? ⟨w.heap.size + 1, j, none⟩ = false := fun j => (hb.frozen (by simp)).trans (by go_simp)
  have f0 : ∀ j, W.frozen? ⟨w.heap.size, j, none⟩ = false := fun j => (hb.frozen (by simp; omega)).trans (by go_simp)
  have hsz : w.heap.size + 1 + 1 ≤ W.heap.size := by have := hb.size; simpa using this
  have hfr2 : 0 < n → ∃ b, A = some ⟨b, 0, none⟩ ∧ w.heap.size + 1 + 1 ≤ b := fun hn => by
    obtain ⟨b, e, h⟩ := hfr hn
    exact ⟨b, e, by simpa using h⟩
  have hbW : Below w.heap.size w W := by
    refine Below.trans ?_ (hb.mono (by simp; omega))
    clear hb hfr hfr2 hI c10 c11 c12 c13 c14 c15 c00 c01 c02 c03 c04 c05 f0 f1
    (repeat' (first | (show Below _ _ (World.drew _); refine Below.trans ?_ (((Quiet.refl _).drew).below _)) | with_reducible refine Below.setCell ?_ ?_ _ | with_reducible refine below_drewN ?_ _ | with_reducible refine Below.alloc ?_ ?_ _ | with_reducible exact Below.refl _ _ | (simp; done) | (simp; omega)))
  have HF := Lib.hid hfr2
  have HI := Lib.hid hI
  clear hb hfr hfr2 hI
  go_wp2
  (try simp only [Exit.inBlock, Exit.then])
  refine bodyPost_ret (v := .agg #[.int .i64 15, .int .i64 0, .int .i64 0, .int .i64 (Tw.get s 1), .int .i64 (Tw.get s 3), .slice A n c]) ?_ rfl ⟨A, n, c, rfl, ?_, ?_, fun hn => by obtain ⟨b, e, h⟩ := HF.out hn; exact ⟨b, e, by omega⟩⟩
  · rw [results_cell rfl]
    go_simp
  · refine ints_box HI.out HF.out _ (by simp) (fun p h1 h2 => ?_)
    repeat (rw [far_set _ (by show p.block ≠ _; simp; omega)])
  · clear c10 c11 c12 c13 c14 c15 c00 c01 c02 c03 c04 c05 f0 f1
    (repeat' (first | with_reducible exact hbW | with_reducible refine Below.setCell ?_ ?_ _ | with_reducible refine below_drewN ?_ _ | with_reducible refine Below.alloc ?_ ?_ _ | with_reducible exact Below.refl _ _ | (simp; done) | (simp; omega)))

set_option maxHeartbeats 2000000 in
theorem taken_16 (s : ByteArray) (w : World) (hs : s.size ≤ 1000000) (hp : 0 < s.size) (h0 : byteAt s 0 = 16) :
    Calls Try.prog 24 #[.string s] w (RetOne (Ak.taken s) w) := by
  have hx := idx (P := Try.prog) (k := .i64) s 0 Try.underlying9 (by omega) (by omega)
  rw [h0] at hx
  have er : Ak.taken s = ⟨16, 0, 0, Tw.get s 1, Tw.get s 3, Tw.getAll (Ak.sub s 6)⟩ := by simp [Ak.taken, h0]
  rw [er]
  have H0 := Lib.hid h0
  clear h0 er
  go_enter Try.func24, Try.ntmps24
  go_wp2_with fail
  refine (number_any s 1 _ (by unfold maxLen; omega)).mono ?_
  rintro e w1 ⟨rfl, k1, rfl⟩
  go_wp2_with fail
  refine (number_any s 3 _ (by unfold maxLen; omega)).mono ?_
  rintro e w2 ⟨rfl, k2, rfl⟩
  go_wp2_with fail
  refine (tail_any s 6 _ hs (by omega)).mono ?_
  rintro e w9 ⟨rfl, rfl⟩
  have hss : (Ak.sub s 6).size ≤ 1000000 := by rw [Ak.sub, st_size, List.length_drop, bl_length]; omega
  go_wp2_with fail
  refine (Twin.getAllF_any (Ak.sub s 6) _ hss).mono ?_
  rintro e W ⟨A, n, c, rfl, hI, hb, hfr⟩
  have c10 : W.cell? ⟨w.heap.size + 1, 0, none⟩ = some (.int .i64 16) := (hb.cell (by simp)).trans (by go_simp)
  have c11 : W.cell? ⟨w.heap.size + 1, 1, none⟩ = some (.int .i64 0) := (hb.cell (by simp)).trans (by go_simp)
  have c12 : W.cell? ⟨w.heap.size + 1, 2, none⟩ = some (.int .i64 0) := (hb.cell (by simp)).trans (by go_simp)
  have c13 : W.cell? ⟨w.heap.size + 1, 3, none⟩ = some (.int .i64 (Tw.get s 1)) := (hb.cell (by simp)).trans (by go_simp)
  have c14 : W.cell? ⟨w.heap.size + 1, 4, none⟩ = some (.int .i64 (Tw.get s 3)) := (hb.cell (by simp)).trans (by go_simp)
  have c15 : W.cell? ⟨w.heap.size + 1, 5, none⟩ = some (.slice none 0 0) := (hb.cell (by simp)).trans (by go_simp)
  have c00 : W.cell? ⟨w.heap.size, 0, none⟩ = some (.int .i64 0) := (hb.cell (by simp; omega)).trans (by go_simp)
  have c01 : W.cell? ⟨w.heap.size, 1, none⟩ = some (.int .i64 0) := (hb.cell (by simp; omega)).trans (by go_simp)
  have c02 : W.cell? ⟨w.heap.size, 2, none⟩ = some (.int .i64 0) := (hb.cell (by simp; omega)).trans (by go_simp)
  have c03 : W.cell? ⟨w.heap.size, 3, none⟩ = some (.int .i64 0) := (hb.cell (by simp; omega)).trans (by go_simp)
  have c04 : W.cell? ⟨w.heap.size, 4, none⟩ = some (.int .i64 0) := (hb.cell (by simp; omega)).trans (by go_simp)
  have c05 : W.cell? ⟨w.heap.size, 5, none⟩ = some (.slice none 0 0) := (hb.cell (by simp; omega)).trans (by go_simp)
  have f1 : ∀ j, W.frozen? ⟨w.heap.size + 1, j, none⟩ = false := fun j => (hb.frozen (by simp)).trans (by go_simp)
  have f0 : ∀ j, W.frozen? ⟨w.heap.size, j, none⟩ = false := fun j => (hb.frozen (by simp; omega)).trans (by go_simp)
  have hsz : w.heap.size + 1 + 1 ≤ W.heap.size := by have := hb.size; simpa using this
  have hfr2 : 0 < n → ∃ b, A = some ⟨b, 0, none⟩ ∧ w.heap.size + 1 + 1 ≤ b := fun hn => by
    obtain ⟨b, e, h⟩ := hfr hn
    exact ⟨b, e, by simpa using h⟩
  have hbW : Below w.heap.size w W := by
    refine Below.trans ?_ (hb.mono (by simp; omega))
    clear hb hfr hfr2 hI c10 c11 c12 c13 c14 c15 c00 c01 c02 c03 c04 c05 f0 f1
    (repeat' (first | with_reducible refine Below.setCell ?_ ?_ _ | with_reducible refine below_drewN ?_ _ | with_reducible refine Below.alloc ?_ ?_ _ | with_reducible exact Below.refl _ _ | (simp; done) | (simp; omega)))
  have HF := Lib.hid hfr2
  have HI := Lib.hid hI
  clear hb hfr hfr2 hI
  go_wp2
  (try simp only [Exit.inBlock, Exit.then])
  refine bodyPost_ret (v := .agg #[.int .i64 16, .int .i64 0, .int .i64 0, .int .i64 (Tw.get s 1), .int .i64 (Tw.get s 3), .slice A n c]) ?_ rfl ⟨A, n, c, rfl, ?_, ?_, fun hn => by obtain ⟨b, e, h⟩ := HF.out hn; exact ⟨b, e, by omega⟩⟩
  · rw [results_cell rfl]
    go_simp
  · refine ints_box HI.out HF.out _ (by simp) (fun p h1 h2 => ?_)
    repeat (rw [far_set _ (by show p.block ≠ _; simp; omega)])
  · clear c10 c11 c12 c13 c14 c15 c00 c01 c02 c03 c04 c05 f0 f1
    (repeat' (first | with_reducible exact hbW | with_reducible refine Below.setCell ?_ ?_ _ | with_reducible refine below_drewN ?_ _ | with_reducible refine Below.alloc ?_ ?_ _ | with_reducible exact Below.refl _ _ | (simp; done) | (simp; omega)))

set_option maxHeartbeats 2000000 in
theorem taken_23 (s : ByteArray) (w : World) (hs : s.size ≤ 1000000) (hp : 0 < s.size) (h0 : byteAt s 0 = 23) :
    Calls Try.prog 24 #[.string s] w (RetOne (Ak.taken s) w) := by
  have hx := idx (P := Try.prog) (k := .i64) s 0 Try.underlying9 (by omega) (by omega)
  rw [h0] at hx
  have er : Ak.taken s = ⟨23, Tw.get s 1, Tw.get s 3, Tw.get s 5, Tw.get s 7, Tw.getAll (Ak.sub s 10)⟩ := by simp [Ak.taken, h0]
  rw [er]
  have H0 := Lib.hid h0
  clear h0 er
  go_enter Try.func24, Try.ntmps24
  go_wp2_with fail
  refine (number_any s 1 _ (by unfold maxLen; omega)).mono ?_
  rintro e w1 ⟨rfl, k1, rfl⟩
  go_wp2_with fail
  refine (number_any s 3 _ (by unfold maxLen; omega)).mono ?_
  rintro e w2 ⟨rfl, k2, rfl⟩
  go_wp2_with fail
  refine (number_any s 5 _ (by unfold maxLen; omega)).mono ?_
  rintro e w3 ⟨rfl, k3, rfl⟩
  go_wp2_with fail
  refine (number_any s 7 _ (by unfold maxLen; omega)).mono ?_
  rintro e w4 ⟨rfl, k4, rfl⟩
  go_wp2_with fail
  refine (tail_any s 10 _ hs (by omega)).mono ?_
  rintro e w9 ⟨rfl, rfl⟩
  have hss : (Ak.sub s 10).size ≤ 1000000 := by rw [Ak.sub, st_size, List.length_drop, bl_length]; omega
  go_wp2_with fail
  refine (Twin.getAllF_any (Ak.sub s 10) _ hss).mono ?_
  rintro e W ⟨A, n, c, rfl, hI, hb, hfr⟩
  have c10 : W.cell? ⟨w.heap.size + 1, 0, none⟩ = some (.int .i64 23) := (hb.cell (by simp)).trans (by go_simp)
  have c11 : W.cell? ⟨w.heap.size + 1, 1, none⟩ = some (.int .i64 (Tw.get s 1)) := (hb.cell (by simp)).trans (by go_simp)
  have c12 : W.cell? ⟨w.heap.size + 1, 2, none⟩ = some (.int .i64 (Tw.get s 3)) := (hb.cell (by simp)).trans (by go_simp)
  have c13 : W.cell? ⟨w.heap.size + 1, 3, none⟩ = some (.int .i64 (Tw.get s 5)) := (hb.cell (by simp)).trans (by go_simp)
  have c14 : W.cell? ⟨w.heap.size + 1, 4, none⟩ = some (.int .i64 (Tw.get s 7)) := (hb.cell (by simp)).trans (by go_simp)
  have c15 : W.cell? ⟨w.heap.size + 1, 5, none⟩ = some (.slice none 0 0) := (hb.cell (by simp)).trans (by go_simp)
  have c00 : W.cell? ⟨w.heap.size, 0, none⟩ = some (.int .i64 0) := (hb.cell (by simp; omega)).trans (by go_simp)
  have c01 : W.cell? ⟨w.heap.size, 1, none⟩ = some (.int .i64 0) := (hb.cell (by simp; omega)).trans (by go_simp)
  have c02 : W.cell? ⟨w.heap.size, 2, none⟩ = some (.int .i64 0) := (hb.cell (by simp; omega)).trans (by go_simp)
  have c03 : W.cell? ⟨w.heap.size, 3, none⟩ = some (.int .i64 0) := (hb.cell (by simp; omega)).trans (by go_simp)
  have c04 : W.cell? ⟨w.heap.size, 4, none⟩ = some (.int .i64 0) := (hb.cell (by simp; omega)).trans (by go_simp)
  have c05 : W.cell? ⟨w.heap.size, 5, none⟩ = some (.slice none 0 0) := (hb.cell (by simp; omega)).trans (by go_simp)
  have f1 : ∀ j, W.frozen? ⟨w.heap.size + 1, j, none⟩ = false := fun j => (hb.frozen (by simp)).trans (by go_simp)
  have f0 : ∀ j, W.frozen? ⟨w.heap.size, j, none⟩ = false := fun j => (hb.frozen (by simp; omega)).trans (by go_simp)
  have hsz : w.heap.size + 1 + 1 ≤ W.heap.size := by have := hb.size; simpa using this
  have hfr2 : 0 < n → ∃ b, A = some ⟨b, 0, none⟩ ∧ w.heap.size + 1 + 1 ≤ b := fun hn => by
    obtain ⟨b, e, h⟩ := hfr hn
    exact ⟨b, e, by simpa using h⟩
  have hbW : Below w.heap.size w W := by
    refine Below.trans ?_ (hb.mono (by simp; omega))
    clear hb hfr hfr2 hI c10 c11 c12 c13 c14 c15 c00 c01 c02 c03 c04 c05 f0 f1
    (repeat' (first | with_reducible refine Below.setCell ?_ ?_ _ | with_reducible refine below_drewN ?_ _ | with_reducible refine Below.alloc ?_ ?_ _ | with_reducible exact Below.refl _ _ | (simp; done) | (simp; omega)))
  have HF := Lib.hid hfr2
  have HI := Lib.hid hI
  clear hb hfr hfr2 hI
  go_wp2
  (try simp only [Exit.inBlock, Exit.then])
  refine bodyPost_ret (v := .agg #[.int .i64 23, .int .i64 (Tw.get s 1), .int .i64 (Tw.get s 3), .int .i64 (Tw.get s 5), .int .i64 (Tw.get s 7), .slice A n c]) ?_ rfl ⟨A, n, c, rfl, ?_, ?_, fun hn => by obtain ⟨b, e, h⟩ := HF.out hn; exact ⟨b, e, by omega⟩⟩
  · rw [results_cell rfl]
    go_simp
  · refine ints_box HI.out HF.out _ (by simp) (fun p h1 h2 => ?_)
    repeat (rw [far_set _ (by show p.block ≠ _; simp; omega)])
  · clear c10 c11 c12 c13 c14 c15 c00 c01 c02 c03 c04 c05 f0 f1
    (repeat' (first | with_reducible exact hbW | with_reducible refine Below.setCell ?_ ?_ _ | with_reducible refine below_drewN ?_ _ | with_reducible refine Below.alloc ?_ ?_ _ | with_reducible exact Below.refl _ _ | (simp; done) | (simp; omega)))

theorem taken_any (s : ByteArray) (w : World) (hs : s.size ≤ 1000000) (hb : Ak.begins s = true) :
    Calls Try.prog 24 #[.string s] w (RetOne (Ak.taken s) w) := by
  rw [Ak.begins, Bool.and_eq_true, decide_eq_true_eq, Ak.known_iff] at hb
  obtain ⟨hp, h⟩ := hb
  rcases h with h | h | h | h | h | h | h | h | h | h
  · exact taken_1 s w hs hp h
  · exact taken_2 s w hs hp h
  · exact taken_3 s w hs hp h
  · exact taken_4 s w hs hp h
  · exact taken_5 s w hs hp h
  · exact taken_6 s w hs hp h
  · exact taken_15 s w hs hp h
  · exact taken_16 s w hs hp h
  · exact taken_22 s w hs hp h
  · exact taken_23 s w hs hp h
end Go.Proofs.Ytfeidijfjkegkaa.Ask
