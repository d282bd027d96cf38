/- The developers' requests: all their bytes, Put. Conditions: none. -/
import Derived.Test.YtijnajlijdnbcaaAskX
namespace Go.Proofs.Ytijnajlijdnbcaa.Ask
set_option maxRecDepth 100000
set_option linter.unusedVariables false
open Go.ChangeShapes Go.WideShapes Go.ChangeAt Go.RowKit
open Ref6 (ret_bool ret_int Boxed)

/-- What follows the function. -/
def rest (a : AskP) : List UInt8 := (Ak.bytes a).drop 1
theorem bytes_rest {a : AskP} (h : Ak.formed a = true) : Ak.bytes a = UInt8.ofNat a.fc.toNat :: rest a := by
  rcases Ak.cases_formed h with ⟨fc, rd, ct, rfl, hf, _⟩ | ⟨wr, z, rfl, _⟩ | ⟨wr, z, rfl, _⟩ | ⟨wr, y, z, rfl, _⟩ | ⟨wr, vs, rfl, _⟩ | ⟨wr, vs, rfl, _⟩ | ⟨rd, ct, wr, vs, rfl, _⟩
  · simp only [rest, Ak.shapeR hf]; rfl
  · simp only [rest, Ak.shape5]; rfl
  · simp only [rest, Ak.shape6]; rfl
  · simp only [rest, Ak.shape22]; rfl
  · simp only [rest, Ak.shape15]; rfl
  · simp only [rest, Ak.shape16]; rfl
  · simp only [rest, Ak.shape23]; rfl
theorem put_one' {z : Int} (h : 0 ≤ z ∧ z ≤ 65535) : Tw.put [z] = Tw.two z ++ [] := by
  simp [Tw.put, Tw.allIn, Tw.inR_of h.1 h.2, Tw.bytes]

theorem body_any (A : Option Addr) (n c : Nat) (a : AskP) (w : World) (hf : Ak.formed a = true) (hA : Ints .i64 w w.heap.size A n a.vs) :
    Calls Try.prog 72 #[.agg #[.int .i64 a.fc, .int .i64 a.rd, .int .i64 a.ct, .int .i64 a.wr, .int .i64 a.mn, .slice A n c]] w fun e w' => e = .returned (.string (st (rest a))) ∧ Keep w w' := by
  rcases Ak.cases_formed hf with ⟨fc, rd, ct, rfl, hf2, h0, h1, h2, h3⟩ | ⟨wr, z, rfl, h0, h1, hz⟩ | ⟨wr, z, rfl, h0, h1, h2, h3⟩ | ⟨wr, y, z, rfl, h0, h1, hy, h2, h3⟩ |
      ⟨wr, vs, rfl, h0, h1, h2, h3, hb⟩ | ⟨wr, vs, rfl, h0, h1, h2, h3, hb⟩ | ⟨rd, ct, wr, vs, rfl, hrd, hct, h0, h1, h2, h3, hb⟩
  · obtain rfl : n = 0 := by have := hA.1; simp at this; omega
    have hB : Tw.put [rd, ct] = rest ⟨fc, rd, ct, 0, 0, []⟩ := by rw [rest, Ak.shapeR hf2, put_two ⟨h0, h1⟩ ⟨by omega, by omega⟩]; rfl
    rcases hf2 with rfl | rfl | rfl | rfl
    · exact body_1 A c rd ct w hA _ hB
    · exact body_2 A c rd ct w hA _ hB
    · exact body_3 A c rd ct w hA _ hB
    · exact body_4 A c rd ct w hA _ hB
  · obtain rfl : n = 1 := by have := hA.1; simp at this; omega
    exact body_5 A c wr z w hz hA _ (by rw [rest, Ak.shape5, put_two ⟨h0, h1⟩ (by rcases hz with rfl | rfl <;> omega)]; rfl)
  · obtain rfl : n = 1 := by have := hA.1; simp at this; omega
    have e := put_one' ⟨h2, h3⟩
    exact body_6 A c wr z w (by rw [e]; simp [Tw.two]) hA _ (by rw [rest, Ak.shape6, put_one' ⟨h0, h1⟩, e]; simp)
  · obtain rfl : n = 2 := by have := hA.1; simp at this; omega
    have e := put_two hy ⟨h2, h3⟩
    exact body_22 A c wr y z w (by rw [e]; simp [Tw.two]) hA _ (by rw [rest, Ak.shape22, put_one' ⟨h0, h1⟩, e]; simp)
  · obtain rfl : n = vs.length := by have := hA.1; simp at this; omega
    have e := Co.put_ok vs hb
    have hl := Co.bytes_len vs
    exact body_15 A vs.length c wr (vs.length : Int) vs w h3 (by rw [e, hl]; unfold Co.nsize; omega) hA _ (by rw [rest, Ak.shape15, put_two ⟨h0, h1⟩ ⟨by omega, by omega⟩, e]; simp)
  · obtain rfl : n = vs.length := by have := hA.1; simp at this; omega
    have e := put_all hb
    have hl := Tw.bytes_len vs
    exact body_16 A vs.length c wr (vs.length : Int) vs w h3 (by rw [e, hl]; omega) hA _ (by rw [rest, Ak.shape16, put_two ⟨h0, h1⟩ ⟨by omega, by omega⟩, e]; simp)
  · obtain rfl : n = vs.length := by have := hA.1; simp at this; omega
    have e := put_all hb
    have hl := Tw.bytes_len vs
    exact body_23 A vs.length c rd ct wr (vs.length : Int) vs w h3 (by rw [e, hl]; omega) hA _ (by rw [rest, Ak.shape23, put_four hrd ⟨by omega, by omega⟩ ⟨h0, h1⟩ ⟨by omega, by omega⟩, e]; simp)
theorem formed_fc {a : AskP} (h : Ak.formed a = true) : 0 ≤ a.fc ∧ a.fc ≤ 255 := by
  rw [Ak.formed_iff] at h
  have := (Ak.known_iff a.fc).1 h.1
  omega

set_option maxHeartbeats 1000000 in
theorem bytesOf_any (A : Option Addr) (n c : Nat) (a : AskP) (w : World) (hf : Ak.formed a = true) (hA : Ints .i64 w w.heap.size A n a.vs) :
    Calls Try.prog 69 #[.agg #[.int .i64 a.fc, .int .i64 a.rd, .int .i64 a.ct, .int .i64 a.wr, .int .i64 a.mn, .slice A n c]] w fun e w' => e = .returned (.string (st (Ak.bytes a))) ∧ Keep w w' := by
  obtain ⟨X, hX⟩ : ∃ X, X = w.alloc (.cells #[.int .i64 a.fc, .int .i64 a.rd, .int .i64 a.ct, .int .i64 a.wr, .int .i64 a.mn, .slice A n c] 33) := ⟨_, rfl⟩
  have hkX : Keep w X := by rw [hX]; exact (Keep.refl w).alloc _
  have hbX : Boxed w.heap.size a A n c X := by rw [hX]; exact Boxed.new w a A n c 33
  have hsX : w.heap.size + 1 = X.heap.size := by rw [hX]; simp
  have hAX := hA.kept hkX
  have hS : ∀ W, Keep X W → W.cell? ⟨w.heap.size, 0, none⟩ = some (.int .i64 a.fc) ∧ W.cell? ⟨w.heap.size, 1, none⟩ = some (.int .i64 a.rd) ∧ W.cell? ⟨w.heap.size, 2, none⟩ = some (.int .i64 a.ct) ∧ W.cell? ⟨w.heap.size, 3, none⟩ = some (.int .i64 a.wr) ∧ W.cell? ⟨w.heap.size, 4, none⟩ = some (.int .i64 a.mn) ∧ W.cell? ⟨w.heap.size, 5, none⟩ = some (.slice A n c) := fun W h => hbX.below h (by omega)
  have hfc := formed_fc hf
  obtain ⟨b0, hb0⟩ : ∃ b, b = UInt8.ofNat a.fc.toNat := ⟨_, rfl⟩
  obtain ⟨r, hr⟩ : ∃ r, r = rest a := ⟨_, rfl⟩
  have hlen := Ak.len_le hf
  rw [bytes_rest hf, ← hb0, ← hr] at hlen
  have HB := Lib.hid (show b0 :: r = Ak.bytes a by rw [bytes_rest hf, hb0, hr])
  have a1 := add_st (P := Try.prog) [b0] r (by simp at hlen ⊢; omega)
  have HB0 := Lib.hid hb0
  have HR := Lib.hid hr
  have HFC := Lib.hid hfc
  clear hb0 hr hsX hbX hA hfc hlen
  go_enter Try.func69, Try.ntmps69
  go_wp2
  rw [← hX]
  clear hX
  go_region_held3 (fun W => W.cell? ⟨w.heap.size, 0, none⟩ = some (.int .i64 a.fc) ∧ W.cell? ⟨w.heap.size, 1, none⟩ = some (.int .i64 a.rd) ∧ W.cell? ⟨w.heap.size, 2, none⟩ = some (.int .i64 a.ct) ∧ W.cell? ⟨w.heap.size, 3, none⟩ = some (.int .i64 a.wr) ∧ W.cell? ⟨w.heap.size, 4, none⟩ = some (.int .i64 a.mn) ∧ W.cell? ⟨w.heap.size, 5, none⟩ = some (.slice A n c))
    (first
      | exact hS _ hw
      | exact hS _ (keepd (Keep.refl X))
      | fail)
    ((first
      | (go_at_call 71; refine (oneByte_any a.fc _ HFC.out.1 HFC.out.2).mono ?_; rintro e w3 ⟨rfl, hb⟩; rw [← HB0.out]; have hw : Keep X w3 := (by first | exact hw.trans hb | exact Keep.trans (keepd (Keep.refl X)) hb))
      | (go_at_call 72; refine (body_any A n c a _ hf ?_).mono ?_; (first | exact hAX.kept hw | exact hAX.kept (keepd (Keep.refl X)) | fail); rintro e w4 ⟨rfl, hb⟩; rw [← HR.out]; have hw : Keep X w4 := (by first | exact hw.trans hb | exact Keep.trans (keepd (Keep.refl X)) hb))
      | fail))
  all_goals (
    go_wp2
    go_ret
    exact ⟨ret_str (by rw [← HB.out]), hkX.trans hw⟩)

set_option maxHeartbeats 1000000 in
theorem put_any (A : Option Addr) (n c : Nat) (a : AskP) (w : World) (hn : n ≤ maxLen) (hA : Ints .i64 w w.heap.size A n a.vs) :
    Calls Try.prog 62 #[.agg #[.int .i64 a.fc, .int .i64 a.rd, .int .i64 a.ct, .int .i64 a.wr, .int .i64 a.mn, .slice A n c]] w fun e w' => e = .returned (.tuple #[.string (st (Ak.put a)), .bool (Ak.right a)]) ∧ Keep w w' := by
  have hbx := Boxed.new w a A n c 33
  have k0 := (Keep.refl w).alloc (.cells #[.int .i64 a.fc, .int .i64 a.rd, .int .i64 a.ct, .int .i64 a.wr, .int .i64 a.mn, .slice A n c] 33)
  cases hr : Ak.right a
  · have HP := Lib.hid (show Ak.put a = [] by rw [Ak.put, hr]; rfl)
    go_enter Try.func62, Try.ntmps62
    go_wp2_with fail
    refine (right_any A n c a _ hn (hA.kept k0)).mono ?_
    rintro e w1 ⟨rfl, hK⟩
    rw [hr]
    go_wp2
    go_ret2
    exact ⟨by rw [HP.out]; rfl, k0.trans hK⟩
  · have HP := Lib.hid (show Ak.put a = Ak.bytes a by rw [Ak.put, hr]; rfl)
    have hf := ((Ak.right_iff a).1 hr).1
    go_enter Try.func62, Try.ntmps62
    go_wp2_with fail
    refine (right_any A n c a _ hn (hA.kept k0)).mono ?_
    rintro e w1 ⟨rfl, hK⟩
    rw [hr]
    obtain ⟨c0, c1, c2, c3, c4, c5⟩ := hbx.below hK (by simp)
    replace k0 := k0.trans hK
    go_wp2_with fail
    refine (bytesOf_any A n c a _ hf (hA.kept k0)).mono ?_
    rintro e w2 ⟨rfl, hK2⟩
    go_wp2
    go_ret2
    exact ⟨by rw [HP.out]; rfl, k0.trans hK2⟩
end Go.Proofs.Ytijnajlijdnbcaa.Ask
