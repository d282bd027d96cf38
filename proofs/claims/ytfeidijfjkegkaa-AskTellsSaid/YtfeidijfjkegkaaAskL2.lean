/- Layer 6's law AskCut. Conditions: none beyond the law's own. -/
import Derived.Test.YtfeidijfjkegkaaAskL1
namespace Go.Proofs.Ytfeidijfjkegkaa.Ask
set_option linter.unusedVariables false
open Go.ChangeShapes Go.WideShapes Go.ChangeAt Go.RowKit

theorem put_pos {a : AskP} (h : Ak.right a = true) : 5 ≤ (Ak.put a).length ∧ (Ak.put a).length ≤ 253 := by
  have hf := ((Ak.right_iff _).1 h).1
  have hp : Ak.put a = Ak.bytes a := by rw [Ak.put, h]; rfl
  have hl := (Ak.back1 hf).2.2.2
  have h2 := Ak.len_le hf
  have h5 : 5 ≤ Ak.sizeOf a := by
    rcases Ak.cases_formed hf with ⟨fc, rd, ct, rfl, hf2, _⟩ | ⟨wr, z, rfl, _⟩ | ⟨wr, z, rfl, _⟩ | ⟨wr, y, z, rfl, _⟩ | ⟨wr, vs, rfl, h0, h1, h2, h3, hb⟩ | ⟨wr, vs, rfl, h0, h1, h2, h3, hb⟩ | ⟨rd, ct, wr, vs, rfl, hrd, hct, h0, h1, h2, h3, hb⟩
    · rcases hf2 with rfl | rfl | rfl | rfl <;> simp [Ak.sizeOf]
    all_goals (simp [Ak.sizeOf]; try omega)
  rw [hp]
  omega
set_option maxHeartbeats 2000000 in
theorem cut_any (a_fc a_rd a_ct a_wr a_mn : Int) (A : Option Addr) (n c : Nat) (vs : List Int) (m q : Int) (w : World) (hn : n ≤ maxLen) (hA : IntsIn .i64 w A n vs) (hm : (Lit.int .u8 m).wf = true) (hq : (Lit.int .u8 q).wf = true) :
    Calls Try.prog 5 #[.agg #[.int .i64 a_fc, .int .i64 a_rd, .int .i64 a_ct, .int .i64 a_wr, .int .i64 a_mn, .slice A n c], .int .u8 m, .int .u8 q] w fun e w' => e = .returned (.bool true) ∧ Keep w w' := by
  have hA := hA.1
  have hm2 : 0 ≤ m ∧ m ≤ 255 := by
    simp only [Lit.wf, Bool.and_eq_true, decide_eq_true_eq] at hm
    exact hm
  have hq2 : 0 ≤ q ∧ q ≤ 255 := by
    simp only [Lit.wf, Bool.and_eq_true, decide_eq_true_eq] at hq
    exact hq
  clear hm hq
  have bx := Ref6.Boxed.new w ⟨a_fc, a_rd, a_ct, a_wr, a_mn, vs⟩ A n c 24
  have k0 := (Keep.refl w).alloc (.cells #[.int .i64 a_fc, .int .i64 a_rd, .int .i64 a_ct, .int .i64 a_wr, .int .i64 a_mn, .slice A n c] 24)
  have HL := Lib.hid hA.1
  have HNN := Lib.hid hn
  cases hr : Ak.right ⟨a_fc, a_rd, a_ct, a_wr, a_mn, vs⟩
  · have hp := put_not hr
    go_enter Try.func5, Try.ntmps5
    go_wp2_with fail
    refine (put_any A n c ⟨a_fc, a_rd, a_ct, a_wr, a_mn, vs⟩ _ hn (hA.kept k0)).mono ?_
    rintro e w1 ⟨rfl, hb⟩
    rw [hp, hr, show st [] = ⟨#[]⟩ from rfl]
    have bx := bx.below hb (by simp)
    obtain ⟨c0, c1, c2, c3, c4, c5⟩ := bx
    simp only at c0 c1 c2 c3 c4 c5
    replace k0 := k0.trans hb
    clear hb
    unfold maxLen at hn
    by_cases h : 3000 < n
    · have d1 : decide ((3000 : Int) < n) = true := by simp; omega
      go_wp2_with fail
      refine (awake_any _).mono ?_
      rintro e w2 ⟨rfl, k2⟩
      go_wp2
      go_ret
      exact ⟨rfl, k0.trans k2⟩
    · have d1 : decide ((3000 : Int) < n) = false := by simp; omega
      go_wp2_with fail
      refine (awake_any _).mono ?_
      rintro e w2 ⟨rfl, k2⟩
      go_wp2
      go_ret
      exact ⟨rfl, k0.trans k2⟩
  · have hlv := right_len hr
    have hlv : n ≤ 3000 := by rw [← HL.out]; exact hlv
    have d1 : decide ((3000 : Int) < n) = false := by simp; omega
    obtain ⟨hp1, hp2⟩ := put_pos hr
    obtain ⟨b, hb⟩ : ∃ b : UInt8, b = UInt8.ofNat q.toNat := ⟨_, rfl⟩
    have hmore := Ak.err_more hr b
    have hcut := fun k (h0 : 0 < k) (h1 : k < (Ak.put ⟨a_fc, a_rd, a_ct, a_wr, a_mn, vs⟩).length) => Ak.err_cut hr k h0 h1
    obtain ⟨l, hl⟩ : ∃ l, l = Ak.put ⟨a_fc, a_rd, a_ct, a_wr, a_mn, vs⟩ := ⟨_, rfl⟩
    rw [← hl] at hmore hcut hp1 hp2
    have HPL := Lib.hid hl
    clear hl
    obtain ⟨P, hP⟩ : ∃ P, P = st l := ⟨_, rfl⟩
    have hPs : P.size = l.length := by rw [hP, st_size]
    have h5 : 5 ≤ P.size ∧ P.size ≤ 253 := by omega
    have hcv : ∀ w : World, (convert 36 9 (.slice (some ⟨w.heap.size, 0, none⟩) 1 1)).run Try.prog (w.alloc (.cells #[.int .u8 q] 5)) = .ok (.string (st [b])) (w.alloc (.cells #[.int .u8 q] 5)) :=
      fun w => conv_new Try.underlying36 Try.underlying5 Try.underlying9 _ 1 [b] (by simp only [List.map_cons, List.map_nil, bv]; rw [hb, Ak.ofNat_int q (by omega) (by omega)]) rfl
    have hadd : ∀ w : World, (Op.stringOp .add P (st [b])).run Try.prog w = .ok (.string (st (l ++ [b]))) w := by
      rw [hP]; exact add_st (P := Try.prog) l [b] (by simp; omega)
    obtain ⟨k, hk⟩ : ∃ k : Nat, k = m.toNat % P.size := ⟨_, rfl⟩
    have hk1 : k < P.size := by rw [hk]; exact Nat.mod_lt _ (by omega)
    have hkm : m % (P.size : Int) = (k : Int) := by
      obtain ⟨m', rfl⟩ := Int.eq_ofNat_of_zero_le hm2.1
      rw [hk]
      simp
    have hex : P.extract 0 k = st (l.take k) := by
      rw [Lib.extract_eq, hP]
      simp [st]
    have HEX := Lib.hid hex
    have hPne : ((P.size : Int) == 0) = false := by rw [beq_eq_false_iff_ne]; omega
    have HP := Lib.hid hP
    have HPS := Lib.hid hPs
    have HMORE := Lib.hid hmore
    have HCUT := Lib.hid hcut
    clear hP hPs hex hk hb hmore hcut hp1 hp2
    go_enter Try.func5, Try.ntmps5
    go_wp2_with fail
    refine (put_any A n c ⟨a_fc, a_rd, a_ct, a_wr, a_mn, vs⟩ _ hn (hA.kept k0)).mono ?_
    rintro e w1 ⟨rfl, hb⟩
    rw [← HPL.out, ← HP.out, hr]
    have bx := bx.below hb (by simp)
    obtain ⟨c0, c1, c2, c3, c4, c5⟩ := bx
    simp only at c0 c1 c2 c3 c4 c5
    replace k0 := k0.trans hb
    clear hb
    obtain ⟨E1, hE1⟩ : ∃ E, E = Ak.err (st (l.take k)) := ⟨_, rfl⟩
    have hE : (E1 = 4 ∧ True) ∨ (E1 = 2 ∧ k = 0) := by
      rcases Nat.eq_zero_or_pos k with h | h
      · right; subst h; exact ⟨by rw [hE1]; rfl, rfl⟩
      · left; exact ⟨by rw [hE1]; exact HCUT.out k h (by have := HPS.out; omega), trivial⟩
    have HE1 := Lib.hid hE1
    clear hE1
    have hts : (st (l.take k)).size ≤ 100000 := by rw [st_size, List.length_take]; omega
    have hms : (st (l ++ [b])).size ≤ 100000 := by rw [st_size, List.length_append]; have := HPS.out; simp; omega
    clear c0 c1 c2 c3 c4
    go_wp2_with fail
    rw [HEX.out]
    refine (get_any (st (l.take k)) _ hts).mono ?_
    rintro e w2 ⟨A2, n2, c2, rfl, hI2, hb2, _⟩
    rw [← HE1.out]
    generalize Ak.get (st (l.take k)) = z at *
    obtain ⟨z0, z1, z2, z3, z4, z5⟩ := z
    simp only
    have k2 := k0.trans hb2
    clear hb2 hI2
    have hcv2 := hcv (w2.alloc (.cells #[.int .i64 z0, .int .i64 z1, .int .i64 z2, .int .i64 z3, .int .i64 z4, .slice A2 n2 c2] 24))
    rw [show (w2.alloc (.cells #[.int .i64 z0, .int .i64 z1, .int .i64 z2, .int .i64 z3, .int .i64 z4, .slice A2 n2 c2] 24)).heap.size = w2.heap.size + 1 by simp] at hcv2
    go_wp2_with fail
    refine (get_any (st (l ++ [b])) _ hms).mono ?_
    rintro e w3 ⟨A3, n3, c3, rfl, hI3, hb3, _⟩
    rw [HMORE.out]
    generalize Ak.get (st (l ++ [b])) = y at *
    obtain ⟨y0, y1, y2, y3, y4, y5⟩ := y
    simp only
    have k3 := ((k2.alloc (.cells #[.int .i64 z0, .int .i64 z1, .int .i64 z2, .int .i64 z3, .int .i64 z4, .slice A2 n2 c2] 24)).alloc (.cells #[.int .u8 q] 5)).trans hb3
    clear hb3 hI3 k2
    go_wp2_with fail
    refine (awake_any _).mono ?_
    rintro e w4 ⟨rfl, hb4⟩
    have k4 := (k3.alloc (.cells #[.int .i64 y0, .int .i64 y1, .int .i64 y2, .int .i64 y3, .int .i64 y4, .slice A3 n3 c3] 24)).trans hb4
    clear hb4 k3
    rcases hE with ⟨rfl, _⟩ | ⟨rfl, rfl⟩
    · go_wp2
      go_ret
      exact ⟨rfl, k4⟩
    · have hz : (m % (P.size : Int) == 0) = true := by rw [hkm]; rfl
      go_wp2
      go_ret
      exact ⟨rfl, k4⟩
end Go.Proofs.Ytfeidijfjkegkaa.Ask
