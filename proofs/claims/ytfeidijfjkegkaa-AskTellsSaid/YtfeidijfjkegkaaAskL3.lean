/- Layer 6's law AskBack. Conditions: none beyond the law's own. -/
import Derived.Test.YtfeidijfjkegkaaAskL2
namespace Go.Proofs.Ytfeidijfjkegkaa.Ask
set_option linter.unusedVariables false
open Go.ChangeShapes Go.WideShapes Go.ChangeAt Go.RowKit

theorem get_zero {s : ByteArray} (h : Ak.err s ≠ 0) : Ak.get s = Ak.zero := by rw [Ak.get, if_neg h]
set_option maxHeartbeats 2000000 in
theorem back_any (a_fc a_rd a_ct a_wr a_mn : Int) (A : Option Addr) (n c : Nat) (vs : List Int) (s : ByteArray) (w : World) (hn : n ≤ maxLen) (hA : IntsIn .i64 w A n vs) (hs : s.size ≤ maxLen) :
    Calls Try.prog 4 #[.agg #[.int .i64 a_fc, .int .i64 a_rd, .int .i64 a_ct, .int .i64 a_wr, .int .i64 a_mn, .slice A n c], .string s] w fun e w' => e = .returned (.bool true) ∧ Keep w w' := by
  have hA := hA.1
  unfold maxLen at hn hs
  have bx := Ref6.Boxed.new w ⟨a_fc, a_rd, a_ct, a_wr, a_mn, vs⟩ A n c 24
  have k0 := (Keep.refl w).alloc (.cells #[.int .i64 a_fc, .int .i64 a_rd, .int .i64 a_ct, .int .i64 a_wr, .int .i64 a_mn, .slice A n c] 24)
  by_cases hl : n ≤ 3000
  · by_cases hl2 : s.size ≤ 300
    · have d1 : decide ((3000 : Int) < n) = false := by simp; omega
      have d2 : decide ((300 : Int) < s.size) = false := by simp; omega
      obtain ⟨E, hE⟩ : ∃ E, E = Ak.err s := ⟨_, rfl⟩
      have hes : ((E != 0) = true ∧ Ak.get s = Ak.zero) ∨ (Ak.right (Ak.get s) = true ∧ st (Ak.put (Ak.get s)) = s ∧ s.size ≤ 253) ∧ E = 0 := by
        by_cases h : Ak.err s = 0
        · exact .inr ⟨Ak.get_right h, by rw [hE, h]⟩
        · exact .inl ⟨by rw [hE]; simpa using h, get_zero h⟩
      have HE := Lib.hid hE
      clear hE
      cases hr : Ak.right ⟨a_fc, a_rd, a_ct, a_wr, a_mn, vs⟩
      · have hp := put_not hr
        go_enter Try.func4, Try.ntmps4
        go_wp2_with fail
        refine (put_any A n c ⟨a_fc, a_rd, a_ct, a_wr, a_mn, vs⟩ _ (by unfold maxLen; omega) (hA.kept k0)).mono ?_
        rintro e w1 ⟨rfl, hb⟩
        rw [hp, hr, show st [] = ⟨#[]⟩ from rfl]
        have hA1 := hA.kept (k0.trans hb)
        have bx := bx.below hb (by simp)
        replace k0 := k0.trans hb
        obtain ⟨c0, c1, c2, c3, c4, c5⟩ := bx
        simp only at c0 c1 c2 c3 c4 c5
        clear hb
        go_wp2_with fail
        refine (right_any A n c ⟨a_fc, a_rd, a_ct, a_wr, a_mn, vs⟩ _ (by unfold maxLen; omega) hA1).mono ?_
        rintro e w2 ⟨rfl, hb⟩
        rw [hr]
        have k1 := k0.trans hb
        clear hb k0 c0 c1 c2 c3 c4 c5 hA1
        go_wp2_with fail
        refine (get_any ⟨#[]⟩ _ (by decide)).mono ?_
        rintro e w3 ⟨A1, n1, c1, rfl, hI1, hb, _⟩
        rw [show Ak.err ⟨#[]⟩ = 2 from rfl]
        generalize Ak.get ⟨#[]⟩ = y at *
        obtain ⟨y0, y1, y2, y3, y4, y5⟩ := y
        simp only
        have k1 := k1.trans hb
        clear hb hI1
        have k2 := k1.alloc (.cells #[.int .i64 y0, .int .i64 y1, .int .i64 y2, .int .i64 y3, .int .i64 y4, .slice A1 n1 c1] 24)
        clear k1
        rcases hes with ⟨hE0, hgz⟩ | ⟨⟨hgr, hgp, hgs⟩, rfl⟩
        · have HGZ := Lib.hid hgz
          clear hgz
          go_wp2_with fail
          refine (get_any s _ (by omega)).mono ?_
          rintro e wA ⟨A2, n2, c2, rfl, hI2, hb2, _⟩
          rw [HGZ.out] at hI2
          rw [HGZ.out, ← HE.out]
          obtain rfl : 0 = n2 := hI2.1
          simp only [Ak.zero]
          have k2 := (k2).trans hb2
          have bz := Ref6.Boxed.new wA Ak.zero A2 0 c2 24
          clear hb2 hI2
          go_wp2_with fail
          refine (awake_any _).mono ?_
          rintro e wB ⟨rfl, hbB⟩
          have bz := bz.below hbB (by simp)
          have k3 := (k2.alloc (.cells #[.int .i64 0, .int .i64 0, .int .i64 0, .int .i64 0, .int .i64 0, .slice A2 0 c2] 24)).trans hbB
          clear hbB k2
          obtain ⟨c0, c1, c2', c3, c4, c5⟩ := bz
          simp only [Ak.zero] at c0 c1 c2' c3 c4 c5
          go_wp2_with fail
          refine (Ref6.same_any A2 none 0 c2 0 0 Ak.zero Ak.zero _ (by omega) (Ints.none_ _ _ _ _) (Ints.none_ _ _ _ _)).mono ?_
          rintro e wC ⟨rfl, hbC⟩
          rw [show Ak.same Ak.zero Ak.zero = true from rfl]
          have k4 := k3.trans hbC
          clear hbC k3
          go_wp2
          go_ret
          exact ⟨rfl, k4⟩
        · have hln := right_len hgr
          obtain ⟨z, hz⟩ : ∃ z, z = Ak.get s := ⟨_, rfl⟩
          rw [← hz] at hgr hgp hln
          have HZ := Lib.hid hz
          have HGP := Lib.hid hgp
          have hs253 : decide ((s.size : Int) ≤ 253) = true := by simp; omega
          clear hz hgp
          obtain ⟨z0, z1, z2, z3, z4, z5⟩ := z
          simp only at hln
          go_wp2_with fail
          refine (get_any s _ (by omega)).mono ?_
          rintro e wA ⟨A2, n2, c2, rfl, hI2, hb2, _⟩
          rw [← HZ.out] at hI2
          rw [← HZ.out, ← HE.out]
          simp only at hI2 ⊢
          have hn2 : n2 ≤ 3000 := by have := hI2.1; omega
          have k2 := (k2).trans hb2
          have bz := Ref6.Boxed.new wA ⟨z0, z1, z2, z3, z4, z5⟩ A2 n2 c2 24
          have kz := (Keep.refl wA).alloc (.cells #[.int .i64 z0, .int .i64 z1, .int .i64 z2, .int .i64 z3, .int .i64 z4, .slice A2 n2 c2] 24)
          have hI2 := hI2.kept kz
          clear hb2
          go_wp2_with fail
          refine (put_any A2 n2 c2 ⟨z0, z1, z2, z3, z4, z5⟩ _ (by unfold maxLen; omega) hI2).mono ?_
          rintro e wB ⟨rfl, hbB⟩
          rw [HGP.out, hgr]
          have bz := bz.below hbB (by simp)
          have hI3 := hI2.kept hbB
          have hltB : wA.heap.size < wB.heap.size := by have := hbB.size; simp at this; omega
          have k3 := (k2.trans kz).trans hbB
          clear hbB k2 kz hI2
          go_wp2_with fail
          refine (awake_any _).mono ?_
          rintro e wC ⟨rfl, hbC⟩
          have bz := bz.below hbC hltB
          have hI4 := hI3.kept hbC
          have k4 := k3.trans hbC
          clear hbC k3 hI3
          obtain ⟨c0, c1, c2', c3, c4, c5⟩ := bz
          simp only at c0 c1 c2' c3 c4 c5
          go_wp2_with fail
          refine (right_any A2 n2 c2 ⟨z0, z1, z2, z3, z4, z5⟩ _ (by unfold maxLen; omega) hI4).mono ?_
          rintro e wD ⟨rfl, hbD⟩
          rw [hgr]
          have k5 := k4.trans hbD
          clear hbD k4
          go_wp2
          go_ret
          exact ⟨rfl, k5⟩
      · obtain ⟨hp1, hp2⟩ := put_pos hr
        obtain ⟨g1, g2, g3⟩ := Ak.err_right hr
        have hsm : Ak.same ⟨a_fc, a_rd, a_ct, a_wr, a_mn, vs⟩ ⟨a_fc, a_rd, a_ct, a_wr, a_mn, vs⟩ = true := (Ak.same_iff _ _).2 rfl
        obtain ⟨P, hP⟩ : ∃ P, P = st (Ak.put ⟨a_fc, a_rd, a_ct, a_wr, a_mn, vs⟩) := ⟨_, rfl⟩
        rw [← hP] at g1 g2
        have hPs : P.size ≤ 253 := by rw [hP, st_size]; exact hp2
        have d3 : decide ((253 : Int) < P.size) = false := by simp; omega
        have HP := Lib.hid hP
        have G1 := Lib.hid g1
        have G2 := Lib.hid g2
        clear hP g1 g2 g3 hp1 hp2
        go_enter Try.func4, Try.ntmps4
        go_wp2_with fail
        refine (put_any A n c ⟨a_fc, a_rd, a_ct, a_wr, a_mn, vs⟩ _ (by unfold maxLen; omega) (hA.kept k0)).mono ?_
        rintro e w1 ⟨rfl, hb⟩
        rw [← HP.out, hr]
        have hA1 := hA.kept (k0.trans hb)
        have bx := bx.below hb (by simp)
        have hlt : w.heap.size < w1.heap.size := by have := hb.size; simp at this; omega
        replace k0 := k0.trans hb
        have bx1 := bx
        obtain ⟨c0, c1, c2, c3, c4, c5⟩ := bx1
        simp only at c0 c1 c2 c3 c4 c5
        clear hb
        go_wp2_with fail
        refine (right_any A n c ⟨a_fc, a_rd, a_ct, a_wr, a_mn, vs⟩ _ (by unfold maxLen; omega) hA1).mono ?_
        rintro e w2 ⟨rfl, hb⟩
        rw [hr]
        have hA2 := hA1.kept hb
        have bx := bx.below hb hlt
        have hlt2 : w.heap.size < w2.heap.size := by have := hb.size; omega
        have k1 := k0.trans hb
        clear hb k0 c0 c1 c2 c3 c4 c5 hA1
        go_wp2_with fail
        refine (get_any P _ (by omega)).mono ?_
        rintro e w3 ⟨A1, n1, c1, rfl, hI1, hb, _⟩
        rw [G2.out] at hI1
        rw [G1.out, G2.out]
        simp only at hI1 ⊢
        have hA3 := hA2.kept hb
        have bx := bx.below hb hlt2
        have hlt3 : w.heap.size < w3.heap.size := by have := hb.size; omega
        have k1 := k1.trans hb
        clear hb hA2
        have ky := (Keep.refl w3).alloc (.cells #[.int .i64 a_fc, .int .i64 a_rd, .int .i64 a_ct, .int .i64 a_wr, .int .i64 a_mn, .slice A1 n1 c1] 24)
        have hA4 := hA3.kept ky
        have hI4 := hI1.kept ky
        obtain ⟨c0, c1', c2, c3, c4, c5⟩ := bx
        simp only at c0 c1' c2 c3 c4 c5
        go_wp2_with fail
        refine (Ref6.same_any A A1 n c n1 c1 ⟨a_fc, a_rd, a_ct, a_wr, a_mn, vs⟩ ⟨a_fc, a_rd, a_ct, a_wr, a_mn, vs⟩ _ (by omega) hA4 hI4).mono ?_
        rintro e w4 ⟨rfl, hb⟩
        rw [hsm]
        have k2 := (k1.trans ky).trans hb
        clear hb k1 ky hA4 hI4 hA3 hI1 c0 c1' c2 c3 c4 c5
        rcases hes with ⟨hE0, hgz⟩ | ⟨⟨hgr, hgp, hgs⟩, rfl⟩
        · have HGZ := Lib.hid hgz
          clear hgz
          go_wp2_with fail
          refine (get_any s _ (by omega)).mono ?_
          rintro e wA ⟨A2, n2, c2, rfl, hI2, hb2, _⟩
          rw [HGZ.out] at hI2
          rw [HGZ.out, ← HE.out]
          obtain rfl : 0 = n2 := hI2.1
          simp only [Ak.zero]
          have k2 := (k2).trans hb2
          have bz := Ref6.Boxed.new wA Ak.zero A2 0 c2 24
          clear hb2 hI2
          go_wp2_with fail
          refine (awake_any _).mono ?_
          rintro e wB ⟨rfl, hbB⟩
          have bz := bz.below hbB (by simp)
          have k3 := (k2.alloc (.cells #[.int .i64 0, .int .i64 0, .int .i64 0, .int .i64 0, .int .i64 0, .slice A2 0 c2] 24)).trans hbB
          clear hbB k2
          obtain ⟨c0, c1, c2', c3, c4, c5⟩ := bz
          simp only [Ak.zero] at c0 c1 c2' c3 c4 c5
          go_wp2_with fail
          refine (Ref6.same_any A2 none 0 c2 0 0 Ak.zero Ak.zero _ (by omega) (Ints.none_ _ _ _ _) (Ints.none_ _ _ _ _)).mono ?_
          rintro e wC ⟨rfl, hbC⟩
          rw [show Ak.same Ak.zero Ak.zero = true from rfl]
          have k4 := k3.trans hbC
          clear hbC k3
          go_wp2
          go_ret
          exact ⟨rfl, k4⟩
        · have hln := right_len hgr
          obtain ⟨z, hz⟩ : ∃ z, z = Ak.get s := ⟨_, rfl⟩
          rw [← hz] at hgr hgp hln
          have HZ := Lib.hid hz
          have HGP := Lib.hid hgp
          have hs253 : decide ((s.size : Int) ≤ 253) = true := by simp; omega
          clear hz hgp
          obtain ⟨z0, z1, z2, z3, z4, z5⟩ := z
          simp only at hln
          go_wp2_with fail
          refine (get_any s _ (by omega)).mono ?_
          rintro e wA ⟨A2, n2, c2, rfl, hI2, hb2, _⟩
          rw [← HZ.out] at hI2
          rw [← HZ.out, ← HE.out]
          simp only at hI2 ⊢
          have hn2 : n2 ≤ 3000 := by have := hI2.1; omega
          have k2 := (k2).trans hb2
          have bz := Ref6.Boxed.new wA ⟨z0, z1, z2, z3, z4, z5⟩ A2 n2 c2 24
          have kz := (Keep.refl wA).alloc (.cells #[.int .i64 z0, .int .i64 z1, .int .i64 z2, .int .i64 z3, .int .i64 z4, .slice A2 n2 c2] 24)
          have hI2 := hI2.kept kz
          clear hb2
          go_wp2_with fail
          refine (put_any A2 n2 c2 ⟨z0, z1, z2, z3, z4, z5⟩ _ (by unfold maxLen; omega) hI2).mono ?_
          rintro e wB ⟨rfl, hbB⟩
          rw [HGP.out, hgr]
          have bz := bz.below hbB (by simp)
          have hI3 := hI2.kept hbB
          have hltB : wA.heap.size < wB.heap.size := by have := hbB.size; simp at this; omega
          have k3 := (k2.trans kz).trans hbB
          clear hbB k2 kz hI2
          go_wp2_with fail
          refine (awake_any _).mono ?_
          rintro e wC ⟨rfl, hbC⟩
          have bz := bz.below hbC hltB
          have hI4 := hI3.kept hbC
          have k4 := k3.trans hbC
          clear hbC k3 hI3
          obtain ⟨c0, c1, c2', c3, c4, c5⟩ := bz
          simp only at c0 c1 c2' c3 c4 c5
          go_wp2_with fail
          refine (right_any A2 n2 c2 ⟨z0, z1, z2, z3, z4, z5⟩ _ (by unfold maxLen; omega) hI4).mono ?_
          rintro e wD ⟨rfl, hbD⟩
          rw [hgr]
          have k5 := k4.trans hbD
          clear hbD k4
          go_wp2
          go_ret
          exact ⟨rfl, k5⟩
    · have d1 : decide ((3000 : Int) < n) = false := by simp; omega
      have d2 : decide ((300 : Int) < s.size) = true := by simp; omega
      go_enter Try.func4, Try.ntmps4
      go_wp2_with fail
      refine (awake_any _).mono ?_
      rintro e w2 ⟨rfl, k2⟩
      go_wp2
      go_ret
      exact ⟨rfl, k0.trans k2⟩
  · have d1 : decide ((3000 : Int) < n) = true := by simp; omega
    go_enter Try.func4, Try.ntmps4
    go_wp2_with fail
    refine (awake_any _).mono ?_
    rintro e w2 ⟨rfl, k2⟩
    go_wp2
    go_ret
    exact ⟨rfl, k0.trans k2⟩
end Go.Proofs.Ytfeidijfjkegkaa.Ask
