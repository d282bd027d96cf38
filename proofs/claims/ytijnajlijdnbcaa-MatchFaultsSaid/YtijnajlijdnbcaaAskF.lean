/- Layer 6's reference: whether a request is formed. Conditions: at most a million values. -/
import Derived.Test.YtijnajlijdnbcaaAskR
namespace Go.Proofs.Ytijnajlijdnbcaa.Ref6
set_option linter.unusedVariables false
open Go.ChangeShapes Go.WideShapes Go.ChangeAt Go.RowKit

theorem part_false {most lo n : Int} (h0 : 0 ≤ most) (h : Ak.part most lo n = false) :
    decide (lo < 0) = true ∨ (decide (lo < 0) = false ∧ decide (65535 < lo) = true) ∨ (decide (lo < 0) = false ∧ decide (65535 < lo) = false ∧ decide (n < 0) = true) ∨
    (decide (lo < 0) = false ∧ decide (65535 < lo) = false ∧ decide (n < 0) = false ∧ decide (most < n) = true) ∨
    (decide (lo < 0) = false ∧ decide (65535 < lo) = false ∧ decide (n < 0) = false ∧ decide (most < n) = false ∧ decide (0 < most) = true ∧ (n == 0) = true) ∨
    (decide (lo < 0) = false ∧ decide (65535 < lo) = false ∧ decide (n < 0) = false ∧ decide (most < n) = false ∧ decide (0 < most) = false ∧ (most == 0) = true ∧ (lo != 0) = true) := by
  simp only [decide_eq_true_eq, decide_eq_false_iff_not, beq_iff_eq, bne_iff_ne]
  by_cases a1 : lo < 0
  · exact .inl a1
  by_cases a2 : 65535 < lo
  · exact .inr (.inl ⟨a1, a2⟩)
  by_cases a3 : n < 0
  · exact .inr (.inr (.inl ⟨a1, a2, a3⟩))
  by_cases a4 : most < n
  · exact .inr (.inr (.inr (.inl ⟨a1, a2, a3, a4⟩)))
  by_cases a5 : 0 < most
  · by_cases a6 : n = 0
    · exact .inr (.inr (.inr (.inr (.inl ⟨a1, a2, a3, a4, a5, a6⟩))))
    · exfalso
      have e : Ak.part most lo n = true := by simp [Ak.part, Ak.inTo]; omega
      rw [e] at h; cases h
  · by_cases a7 : lo = 0
    · exfalso
      have e : Ak.part most lo n = true := by simp [Ak.part, Ak.inTo]; omega
      rw [e] at h; cases h
    · exact .inr (.inr (.inr (.inr (.inr ⟨a1, a2, a3, a4, a5, by omega, a7⟩))))
theorem part_true {most lo n : Int} (h0 : 0 ≤ most) (h : Ak.part most lo n = true) :
    (decide (lo < 0) = false ∧ decide (65535 < lo) = false ∧ decide (n < 0) = false ∧ decide (most < n) = false) ∧
    ((decide (0 < most) = true ∧ (n == 0) = false ∧ (most == 0) = false) ∨ (decide (0 < most) = false ∧ (most == 0) = true ∧ (lo != 0) = false)) := by
  simp [Ak.part, Ak.inTo] at h
  simp
  omega
theorem reads_nn (fc : Int) : 0 ≤ Ak.reads fc := by unfold Ak.reads; repeat (first | omega | split)
theorem wmax_nn (fc : Int) : 0 ≤ Ak.wmax fc := by unfold Ak.wmax; repeat (first | omega | split)
set_option maxHeartbeats 1000000 in
theorem formed_any (A : Option Addr) (n c : Nat) (a : AskP) (w : World) (hn : n ≤ 1000000) (hA : Ints .i64 w w.heap.size A n a.vs) :
    Calls Try.prog 25 #[.agg #[.int .i64 a.fc, .int .i64 a.rd, .int .i64 a.ct, .int .i64 a.wr, .int .i64 a.mn, .slice A n c]] w fun e w' => e = .returned (.bool (Ak.formed a)) ∧ Keep w w' := by
  obtain ⟨fc, rd, ct, wr, mn, vs⟩ := a
  simp only at hA ⊢
  have HL := Lib.hid hA.1
  obtain ⟨kn, hkn⟩ : ∃ b, b = Ak.known fc := ⟨_, rfl⟩
  obtain ⟨nr, hnr⟩ : ∃ b, b = Ak.reads fc := ⟨_, rfl⟩
  obtain ⟨nw, hnw⟩ : ∃ b, b = Ak.wmax fc := ⟨_, rfl⟩
  obtain ⟨tw, htw⟩ : ∃ b, b = Ak.wtwo fc := ⟨_, rfl⟩
  obtain ⟨tp, htp⟩ : ∃ b, b = Ak.wtop fc := ⟨_, rfl⟩
  have HKN := Lib.hid hkn
  have HNR := Lib.hid hnr
  have HNW := Lib.hid hnw
  have HTW := Lib.hid htw
  have HTP := Lib.hid htp
  clear hkn hnr hnw htw htp
  go_enter Try.func25, Try.ntmps25
  go_wp2_with fail
  refine (known_any fc _).mono ?_
  rintro e w1 ⟨rfl, rfl⟩
  rw [← HKN.out]
  cases kn
  · go_wp2
    go_ret
    refine ⟨ret_bool ?_, (Keep.refl w).alloc _⟩
    rw [Ak.formed, ← HKN.out]; rfl
  · go_wp2_with fail
    refine (reads_any fc _).mono ?_
    rintro e w1 ⟨rfl, rfl⟩
    rw [← HNR.out]
    cases hp1 : Ak.part nr rd ct
    · have hfm : Ak.formed ⟨fc, rd, ct, wr, mn, vs⟩ = false := by
        rw [Ak.formed, ← HKN.out, ← HNR.out, hp1]; rfl
      have HF := Lib.hid hfm
      have hd := part_false (by rw [HNR.out]; exact reads_nn fc) hp1
      clear hfm hp1
      rcases hd with d1 | ⟨d1, d2⟩ | ⟨d1, d2, d3⟩ | ⟨d1, d2, d3, d4⟩ | ⟨d1, d2, d3, d4, d5, d6⟩ | ⟨d1, d2, d3, d4, d5, d6, d7⟩ <;>
        (go_wp2; go_ret; exact ⟨ret_bool HF.out.symm, (Keep.refl w).alloc _⟩)
    · have HP1 := Lib.hid hp1
      have hd := part_true (by rw [HNR.out]; exact reads_nn fc) hp1
      clear hp1
      obtain ⟨⟨d1, d2, d3, d4⟩, hd⟩ := hd
      rcases hd with ⟨d5, d6, d7⟩ | ⟨d5, d6, d7⟩ <;>
        (go_wp2_with fail
         refine (writes_any fc _).mono ?_
         rintro e w1 ⟨rfl, rfl⟩
         rw [← HNW.out, ← HTW.out, ← HTP.out]
         clear d1 d2 d3 d4 d5 d6 d7
         cases hp2 : Ak.part nw wr mn
         · have hfm : Ak.formed ⟨fc, rd, ct, wr, mn, vs⟩ = false := by
             rw [Ak.formed, ← HKN.out, ← HNR.out, ← HNW.out, HP1.out, hp2]; rfl
           have HF := Lib.hid hfm
           have hd := part_false (by rw [HNW.out]; exact wmax_nn fc) hp2
           clear hfm hp2
           rcases hd with d1 | ⟨d1, d2⟩ | ⟨d1, d2, d3⟩ | ⟨d1, d2, d3, d4⟩ | ⟨d1, d2, d3, d4, d5, d6⟩ | ⟨d1, d2, d3, d4, d5, d6, d7⟩ <;>
             (go_wp2; go_ret; exact ⟨ret_bool HF.out.symm, (Keep.refl w).alloc _⟩)
         · have HP2 := Lib.hid hp2
           have hd := part_true (by rw [HNW.out]; exact wmax_nn fc) hp2
           clear hp2
           obtain ⟨⟨d1, d2, d3, d4⟩, hd⟩ := hd
           rcases hd with ⟨d5, d6, d7⟩ | ⟨d5, d6, d7⟩ <;>
             (by_cases ht : tw = 0
              · have d8 : (tw == 0) = true := by simpa using ht
                have hnd : Ak.need ⟨fc, rd, ct, wr, mn, vs⟩ = mn := by rw [Ak.need, ← HTW.out, if_pos ht]
                have HND := Lib.hid hnd
                clear ht hnd
                by_cases hl : (n : Int) = mn
                · have d9 : ((n : Int) == mn) = true := by simpa using hl
                  have hfm : Ak.formed ⟨fc, rd, ct, wr, mn, vs⟩ = Ak.allTo tp vs := by
                    rw [Ak.formed, ← HKN.out, ← HNR.out, ← HNW.out, HP1.out, HP2.out, HND.out, ← HTP.out]
                    simp [HL.out, hl]
                  have HF := Lib.hid hfm
                  clear hfm hl
                  go_wp2_with fail
                  refine (all_any A n c vs tp _ hn (hA.kept ((Keep.refl w).alloc _))).mono ?_
                  rintro e w1 ⟨rfl, hq⟩
                  have hK : Keep w w1 := ((Keep.refl w).alloc _).trans hq.keep
                  clear hq
                  go_wp2
                  go_ret
                  exact ⟨ret_bool HF.out.symm, hK⟩
                · have d9 : ((n : Int) == mn) = false := by simpa using hl
                  have hfm : Ak.formed ⟨fc, rd, ct, wr, mn, vs⟩ = false := by
                    rw [Ak.formed, HND.out]
                    simp [HL.out, hl]
                  have HF := Lib.hid hfm
                  clear hfm hl
                  go_wp2
                  go_ret
                  exact ⟨ret_bool HF.out.symm, (Keep.refl w).alloc _⟩
              · have d8 : (tw == 0) = false := by simpa using ht
                have hnd : Ak.need ⟨fc, rd, ct, wr, mn, vs⟩ = tw := by rw [Ak.need, ← HTW.out, if_neg ht]
                have HND := Lib.hid hnd
                clear ht hnd
                by_cases hl : (n : Int) = tw
                · have d9 : ((n : Int) == tw) = true := by simpa using hl
                  have hfm : Ak.formed ⟨fc, rd, ct, wr, mn, vs⟩ = Ak.allTo tp vs := by
                    rw [Ak.formed, ← HKN.out, ← HNR.out, ← HNW.out, HP1.out, HP2.out, HND.out, ← HTP.out]
                    simp [HL.out, hl]
                  have HF := Lib.hid hfm
                  clear hfm hl
                  go_wp2_with fail
                  refine (all_any A n c vs tp _ hn (hA.kept ((Keep.refl w).alloc _))).mono ?_
                  rintro e w1 ⟨rfl, hq⟩
                  have hK : Keep w w1 := ((Keep.refl w).alloc _).trans hq.keep
                  clear hq
                  go_wp2
                  go_ret
                  exact ⟨ret_bool HF.out.symm, hK⟩
                · have d9 : ((n : Int) == tw) = false := by simpa using hl
                  have hfm : Ak.formed ⟨fc, rd, ct, wr, mn, vs⟩ = false := by
                    rw [Ak.formed, HND.out]
                    simp [HL.out, hl]
                  have HF := Lib.hid hfm
                  clear hfm hl
                  go_wp2
                  go_ret
                  exact ⟨ret_bool HF.out.symm, (Keep.refl w).alloc _⟩))
end Go.Proofs.Ytijnajlijdnbcaa.Ref6
