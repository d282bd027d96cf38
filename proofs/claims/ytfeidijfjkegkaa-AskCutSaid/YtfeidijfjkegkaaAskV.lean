/- Layer 6's reference: Get. Conditions: lengths at most a hundred thousand. -/
import Derived.Test.YtfeidijfjkegkaaAskU
namespace Go.Proofs.Ytfeidijfjkegkaa.Ref6
set_option linter.unusedVariables false
open Go.ChangeShapes Go.WideShapes Go.ChangeAt Go.RowKit

theorem Boxed.kept {p : Nat} {a : AskP} {A : Option Addr} {n c : Nat} {w w' : World} (h : Boxed p a A n c w) (hk : Keep w w') (hp : p < w.heap.size) : Boxed p a A n c w' := h.below hk hp
set_option maxHeartbeats 2000000 in
theorem get_any (s : ByteArray) (w : World) (hs : s.size ≤ 100000) :
    Calls Try.prog 11 #[.string s] w (RetAsk (Ak.get s) (.int .i64 (Ak.err s)) w) := by
  by_cases h0 : s.size = 0
  · have he : Ak.err s = 2 := by rw [Ak.err, Ak.begins, h0]; rfl
    have hg : Ak.get s = Ak.zero := by rw [Ak.get, he]; rfl
    rw [he, hg]
    have d1 : ((s.size : Int) == 0) = true := by simp [h0]
    clear he hg
    go_enter Try.func11, Try.ntmps11
    go_wp2
    (try simp only [Exit.inBlock, Exit.then])
    refine bodyPost_ret (v := .tuple #[.agg #[.int .i64 0, .int .i64 0, .int .i64 0, .int .i64 0, .int .i64 0, .slice none 0 0], .int .i64 2]) ?_ rfl ⟨none, 0, 0, rfl, Ints.none_ _ _ _ _, ?_, Fresh.zero _ _⟩
    · rw [results_cell_tmp rfl]
      go_simp
    · exact (Below.refl _ _).alloc (Nat.le_refl _) _
  · have d1 : ((s.size : Int) == 0) = false := by simp [h0]
    have hx := idx (P := Try.prog) (k := .i64) s 0 Try.underlying9 (by omega) (by omega)
    have hr := byteAt_range s 0
    have hbg : Ak.begins s = Ak.known (byteAt s 0) := by rw [Ak.begins, show decide (0 < s.size) = true by simp; omega, Bool.true_and]
    cases hk : Ak.known (byteAt s 0)
    · rw [hk] at hbg
      have he : Ak.err s = 2 := by rw [Ak.err, hbg]; rfl
      have hg : Ak.get s = Ak.zero := by rw [Ak.get, he]; rfl
      rw [he, hg]
      clear he hg hbg
      go_enter Try.func11, Try.ntmps11
      go_wp2_with fail
      refine (known_any (byteAt s 0) _).mono ?_
      rintro e w1 ⟨rfl, rfl⟩
      rw [hk]
      go_wp2
      (try simp only [Exit.inBlock, Exit.then])
      refine bodyPost_ret (v := .tuple #[.agg #[.int .i64 0, .int .i64 0, .int .i64 0, .int .i64 0, .int .i64 0, .slice none 0 0], .int .i64 2]) ?_ rfl ⟨none, 0, 0, rfl, Ints.none_ _ _ _ _, ?_, Fresh.zero _ _⟩
      · rw [results_cell_tmp rfl]
        go_simp
      · exact (Below.refl _ _).alloc (Nat.le_refl _) _
    · rw [hk] at hbg
      have HG := Lib.hid hbg
      clear hbg
      have hlen := read_len s
      go_enter Try.func11, Try.ntmps11
      go_wp2_with fail
      refine (known_any (byteAt s 0) _).mono ?_
      rintro e w1 ⟨rfl, rfl⟩
      rw [hk]
      go_wp2_with fail
      refine (read_any s _ (by omega) HG.out).mono ?_
      rintro e W ⟨A, n, c, rfl, hI, hb, hfr⟩
      have hlt : w.heap.size < W.heap.size := by have := hb.size; simp at this; omega
      have hn : n ≤ 1000000 := by have := hI.1; omega
      have b0 : Boxed w.heap.size Ak.zero none 0 0 W := (Boxed.new w Ak.zero none 0 0 24).below hb (by simp)
      have f0 : ∀ j, W.frozen? ⟨w.heap.size, j, none⟩ = false := fun j => (hb.frozen (by simp)).trans (by go_simp)
      have hfr2 : 0 < n → ∃ b, A = some ⟨b, 0, none⟩ ∧ w.heap.size + 1 ≤ b := fun hn => by
        obtain ⟨b, e, h⟩ := hfr hn
        exact ⟨b, e, by simpa using h⟩
      have hbW : Below w.heap.size w W := Below.trans ((Below.refl _ _).alloc (Nat.le_refl _) _) (hb.mono (by simp))
      have HF := Lib.hid hfr2
      have HI := Lib.hid hI
      clear hb hfr hfr2 hI hlen
      obtain ⟨a, ha⟩ : ∃ a, a = Ak.read s := ⟨_, rfl⟩
      rw [← ha] at HI ⊢
      have HA := Lib.hid ha
      clear ha
      obtain ⟨c00, c01, c02, c03, c04, c05⟩ := b0
      simp only [Ak.zero] at c00 c01 c02 c03 c04 c05
      cases hok : Ak.readOk s
      · have he : Ak.err s = 4 := by rw [Ak.err, HG.out, hok]; rfl
        have hg : Ak.get s = Ak.zero := by rw [Ak.get, he]; rfl
        have HE := Lib.hid he
        have HGT := Lib.hid hg
        clear he hg
        go_wp2
        (try simp only [Exit.inBlock, Exit.then])
        refine bodyPost_ret (v := .tuple #[.agg #[.int .i64 0, .int .i64 0, .int .i64 0, .int .i64 0, .int .i64 0, .slice none 0 0], .int .i64 4]) ?_ rfl ⟨none, 0, 0, by rw [HE.out, HGT.out]; rfl, ?_, ?_, Fresh.zero _ _⟩
        · rw [results_cell_tmp rfl]
          go_simp
        · rw [HGT.out]; exact Ints.none_ _ _ _ _
        · clear c00 c01 c02 c03 c04 c05 f0
          (repeat' (first | with_reducible exact hbW | with_reducible refine Below.setCell ?_ ?_ _ | with_reducible refine below_drewN ?_ _ | with_reducible refine Below.alloc ?_ ?_ _ | with_reducible exact Below.refl _ _ | (simp; done) | (simp; omega)))
      · go_wp2_with fail
        have kb := (Keep.refl W).alloc (.cells #[.int .i64 a.fc, .int .i64 a.rd, .int .i64 a.ct, .int .i64 a.wr, .int .i64 a.mn, .slice A n c] 24)
        refine (formed_any A n c a _ hn (HI.out.kept kb)).mono ?_
        rintro e V ⟨rfl, hV⟩
        have hVW : Keep W V := kb.trans hV
        have b1 : Boxed W.heap.size a A n c V := (Boxed.new W a A n c 24).below hV (by simp)
        have b0 : Boxed w.heap.size Ak.zero none 0 0 V := Boxed.kept ⟨c00, c01, c02, c03, c04, c05⟩ hVW hlt
        have g0 : ∀ j, V.frozen? ⟨w.heap.size, j, none⟩ = false := fun j => (hVW.frozen hlt).trans (f0 j)
        have hbV : Below w.heap.size w V := hbW.trans (hVW.mono (by omega))
        have hltV : w.heap.size < V.heap.size := by have := hVW.size; omega
        have hlt2 : W.heap.size < V.heap.size := by have := hV.size; simp at this; omega
        clear hV kb f0 c00 c01 c02 c03 c04 c05
        obtain ⟨c00, c01, c02, c03, c04, c05⟩ := b0
        simp only [Ak.zero] at c00 c01 c02 c03 c04 c05
        obtain ⟨c10, c11, c12, c13, c14, c15⟩ := b1
        cases hf : Ak.formed a
        · have he : Ak.err s = 4 := by rw [Ak.err, HG.out, hok, ← HA.out, hf]; rfl
          have hg : Ak.get s = Ak.zero := by rw [Ak.get, he]; rfl
          have HE := Lib.hid he
          have HGT := Lib.hid hg
          clear he hg
          go_wp2
          (try simp only [Exit.inBlock, Exit.then])
          refine bodyPost_ret (v := .tuple #[.agg #[.int .i64 0, .int .i64 0, .int .i64 0, .int .i64 0, .int .i64 0, .slice none 0 0], .int .i64 4]) ?_ rfl ⟨none, 0, 0, by rw [HE.out, HGT.out]; rfl, ?_, ?_, Fresh.zero _ _⟩
          · rw [results_cell_tmp rfl]
            go_simp
          · rw [HGT.out]; exact Ints.none_ _ _ _ _
          · clear c00 c01 c02 c03 c04 c05 g0
            (repeat' (first | with_reducible exact hbV | with_reducible refine Below.setCell ?_ ?_ _ | with_reducible refine below_drewN ?_ _ | with_reducible refine Below.alloc ?_ ?_ _ | with_reducible exact Below.refl _ _ | (simp; done) | (simp; omega)))
        · go_wp2_with fail
          refine (right_any A n c a _ hn (HI.out.kept hVW)).mono ?_
          rintro e U ⟨rfl, hU⟩
          have hUW : Keep W U := hVW.trans hU
          have b1 : Boxed W.heap.size a A n c U := Boxed.kept ⟨c10, c11, c12, c13, c14, c15⟩ hU hlt2
          have b0 : Boxed w.heap.size Ak.zero none 0 0 U := Boxed.kept ⟨c00, c01, c02, c03, c04, c05⟩ hU hltV
          have e0 : ∀ j, U.frozen? ⟨w.heap.size, j, none⟩ = false := fun j => (hU.frozen hltV).trans (g0 j)
          have hbU : Below w.heap.size w U := hbV.trans (hU.mono (by omega))
          have hltU : w.heap.size < U.heap.size := by have := hU.size; omega
          clear hU g0 c00 c01 c02 c03 c04 c05 c10 c11 c12 c13 c14 c15 hbV
          obtain ⟨c00, c01, c02, c03, c04, c05⟩ := b0
          simp only [Ak.zero] at c00 c01 c02 c03 c04 c05
          obtain ⟨c10, c11, c12, c13, c14, c15⟩ := b1
          cases hr : Ak.right a
          · have he : Ak.err s = 3 := by rw [Ak.err, HG.out, hok, ← HA.out, hf, hr]; rfl
            have hg : Ak.get s = Ak.zero := by rw [Ak.get, he]; rfl
            have HE := Lib.hid he
            have HGT := Lib.hid hg
            clear he hg
            go_wp2
            (try simp only [Exit.inBlock, Exit.then])
            refine bodyPost_ret (v := .tuple #[.agg #[.int .i64 0, .int .i64 0, .int .i64 0, .int .i64 0, .int .i64 0, .slice none 0 0], .int .i64 3]) ?_ rfl ⟨none, 0, 0, by rw [HE.out, HGT.out]; rfl, ?_, ?_, Fresh.zero _ _⟩
            · rw [results_cell_tmp rfl]
              go_simp
            · rw [HGT.out]; exact Ints.none_ _ _ _ _
            · clear c00 c01 c02 c03 c04 c05 e0 c10 c11 c12 c13 c14 c15
              (repeat' (first | with_reducible exact hbU | with_reducible refine Below.setCell ?_ ?_ _ | with_reducible refine below_drewN ?_ _ | with_reducible refine Below.alloc ?_ ?_ _ | with_reducible exact Below.refl _ _ | (simp; done) | (simp; omega)))
          · have he : Ak.err s = 0 := by rw [Ak.err, HG.out, hok, ← HA.out, hf, hr]; rfl
            have hg : Ak.get s = a := by rw [Ak.get, he, HA.out]; rfl
            have HE := Lib.hid he
            have HGT := Lib.hid hg
            clear he hg
            go_wp2
            (try simp only [Exit.inBlock, Exit.then])
            refine bodyPost_ret (v := .tuple #[.agg #[.int .i64 a.fc, .int .i64 a.rd, .int .i64 a.ct, .int .i64 a.wr, .int .i64 a.mn, .slice A n c], .int .i64 0]) ?_ rfl ⟨A, n, c, by rw [HE.out, HGT.out], ?_, ?_, fun hn => by obtain ⟨b, e, h⟩ := HF.out hn; exact ⟨b, e, by omega⟩⟩
            · rw [results_cell_tmp rfl]
              go_simp
            · rw [HGT.out]
              refine ints_box (HI.out.kept hUW) HF.out _ (by simp) (fun p h1 h2 => ?_)
              repeat (rw [far_set _ (by show p.block ≠ _; simp; omega)])
            · clear c00 c01 c02 c03 c04 c05 c10 c11 c12 c13 c14 c15 e0
              (repeat' (first | with_reducible exact hbU | with_reducible refine Below.setCell ?_ ?_ _ | with_reducible refine below_drewN ?_ _ | with_reducible refine Below.alloc ?_ ?_ _ | with_reducible exact Below.refl _ _ | (simp; done) | (simp; omega)))
end Go.Proofs.Ytfeidijfjkegkaa.Ref6
