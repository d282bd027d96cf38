/- Layer 6's law AskTells. Conditions: none beyond the law's own. -/
import Derived.Test.YtfeidijfjkegkaaAskL3
namespace Go.Proofs.Ytfeidijfjkegkaa.Ask
set_option linter.unusedVariables false
open Go.ChangeShapes Go.WideShapes Go.ChangeAt Go.RowKit

set_option maxHeartbeats 4000000 in
theorem tells_any (a0 a1 a2 a3 a4 : Int) (A : Option Addr) (n c : Nat) (a5 : List Int) (b0 b1 b2 b3 b4 : Int) (B : Option Addr) (m d : Nat) (b5 : List Int) (s : ByteArray) (w : World) (hn : n ≤ maxLen) (hA : IntsIn .i64 w A n a5) (hm : m ≤ maxLen) (hB : IntsIn .i64 w B m b5) (hs : s.size ≤ maxLen) :
    Calls Try.prog 3 #[.agg #[.int .i64 a0, .int .i64 a1, .int .i64 a2, .int .i64 a3, .int .i64 a4, .slice A n c], .agg #[.int .i64 b0, .int .i64 b1, .int .i64 b2, .int .i64 b3, .int .i64 b4, .slice B m d], .string s] w fun e w' => e = .returned (.bool true) ∧ Keep w w' := by
  have hA := hA.1
  have hB := hB.1
  unfold maxLen at hn hm hs
  have k0 := ((Keep.refl w).alloc (.cells #[.int .i64 a0, .int .i64 a1, .int .i64 a2, .int .i64 a3, .int .i64 a4, .slice A n c] 24)).alloc (.cells #[.int .i64 b0, .int .i64 b1, .int .i64 b2, .int .i64 b3, .int .i64 b4, .slice B m d] 24)
  by_cases hl : n ≤ 3000
  · by_cases hl1 : m ≤ 3000
    · by_cases hl2 : s.size ≤ 300
      · have d1 : decide ((3000 : Int) < n) = false := by simp; omega
        have d2 : decide ((3000 : Int) < m) = false := by simp; omega
        have d3 : decide ((300 : Int) < s.size) = false := by simp; omega
        have bA := (Ref6.Boxed.new w ⟨a0, a1, a2, a3, a4, a5⟩ A n c 24).below (((Keep.refl (w.alloc (.cells #[.int .i64 a0, .int .i64 a1, .int .i64 a2, .int .i64 a3, .int .i64 a4, .slice A n c] 24))).alloc (.cells #[.int .i64 b0, .int .i64 b1, .int .i64 b2, .int .i64 b3, .int .i64 b4, .slice B m d] 24))) (by simp)
        have bB := Ref6.Boxed.new (w.alloc (.cells #[.int .i64 a0, .int .i64 a1, .int .i64 a2, .int .i64 a3, .int .i64 a4, .slice A n c] 24)) ⟨b0, b1, b2, b3, b4, b5⟩ B m d 24
        rw [show (w.alloc (.cells #[.int .i64 a0, .int .i64 a1, .int .i64 a2, .int .i64 a3, .int .i64 a4, .slice A n c] 24)).heap.size = w.heap.size + 1 by simp] at bB
        have hs0 : w.heap.size + 2 ≤ ((w.alloc (.cells #[.int .i64 a0, .int .i64 a1, .int .i64 a2, .int .i64 a3, .int .i64 a4, .slice A n c] 24)).alloc (.cells #[.int .i64 b0, .int .i64 b1, .int .i64 b2, .int .i64 b3, .int .i64 b4, .slice B m d] 24)).heap.size := by simp
        have hA0 := hA.kept k0
        have hB0 := hB.kept k0
        obtain ⟨P, hP⟩ : ∃ P, P = st (Ak.put ⟨a0, a1, a2, a3, a4, a5⟩) := ⟨_, rfl⟩
        obtain ⟨r, hr⟩ : ∃ r, r = Ak.right ⟨a0, a1, a2, a3, a4, a5⟩ := ⟨_, rfl⟩
        obtain ⟨E, hE⟩ : ∃ E, E = Ak.err s := ⟨_, rfl⟩
        obtain ⟨z, hz⟩ : ∃ z, z = Ak.get s := ⟨_, rfl⟩
        obtain ⟨kb, hkb⟩ : ∃ r, r = Ak.known a0 := ⟨_, rfl⟩
        obtain ⟨sb, hsb⟩ : ∃ r, r = Ak.same ⟨a0, a1, a2, a3, a4, a5⟩ ⟨b0, b1, b2, b3, b4, b5⟩ := ⟨_, rfl⟩
        have hzl : z.vs.length ≤ 5000 := by
          rw [hz, Ak.get]
          have := Ref6.read_len s
          split
          · omega
          · simp [Ak.zero]
        obtain ⟨z0, z1, z2, z3, z4, z5⟩ := z
        simp only at hzl
        have HP := Lib.hid hP
        have HR := Lib.hid hr
        have HE := Lib.hid hE
        have HZ := Lib.hid hz
        have HK := Lib.hid hkb
        have HS := Lib.hid hsb
        clear hP hr hE hz hkb hsb
        go_enter Try.func3, Try.ntmps3
        go_wp2_with fail
        refine (put_any A n c ⟨a0, a1, a2, a3, a4, a5⟩ _ (by unfold maxLen; omega) hA0).mono ?_
        rintro e w1 ⟨rfl, hb⟩
        rw [← HP.out, ← HR.out]
        have bA := bA.below hb (by simp; try omega)
        have bB := bB.below hb (by simp)
        have hs1 : w.heap.size + 2 ≤ w1.heap.size := by have := hb.size; omega
        have hA1 := hA0.kept hb
        have hB1 := hB0.kept hb
        have k1 := k0.trans hb
        clear hb hs0 hA0 hB0 k0
        have bA1 := bA
        obtain ⟨c0, c1', c2', c3, c4, c5⟩ := bA1
        simp only at c0 c1' c2' c3 c4 c5
        go_wp2_with fail
        refine (Ref6.put_any A n c ⟨a0, a1, a2, a3, a4, a5⟩ _ (by omega) hA1).mono ?_
        rintro e w2 ⟨rfl, hb⟩
        rw [← HP.out, ← HR.out]
        have bA := bA.below hb (by omega)
        have bB := bB.below hb (by omega)
        have hs2 : w.heap.size + 2 ≤ w2.heap.size := by have := hb.size; omega
        have hA2 := hA1.kept hb
        have hB2 := hB1.kept hb
        have k2 := k1.trans hb
        clear hb hs1 hA1 hB1 k1 c0 c1' c2' c3 c4 c5
        go_wp2_with fail
        refine (get_any s _ (by omega)).mono ?_
        rintro e wA ⟨A1, n1, c1, rfl, hI, hb, _⟩
        rw [← HZ.out] at hI
        rw [← HZ.out, ← HE.out]
        simp only at hI ⊢
        have bA := bA.below hb (by omega)
        have bB := bB.below hb (by omega)
        have hsA : w.heap.size + 2 ≤ wA.heap.size := by have := hb.size; omega
        have hA3 := hA2.kept hb
        have hB3 := hB2.kept hb
        have k3 := k2.trans hb
        clear hb hs2 hA2 hB2 k2
        have kx := (Keep.refl wA).alloc (.cells #[.int .i64 z0, .int .i64 z1, .int .i64 z2, .int .i64 z3, .int .i64 z4, .slice A1 n1 c1] 24)
        have bX := Ref6.Boxed.new wA ⟨z0, z1, z2, z3, z4, z5⟩ A1 n1 c1 24
        go_wp2_with fail
        refine (Ref6.get_any s _ (by omega)).mono ?_
        rintro e wB ⟨A2, n2, c2, rfl, hJ, hb, _⟩
        rw [← HZ.out] at hJ
        rw [← HZ.out, ← HE.out]
        simp only at hJ ⊢
        have kxb := kx.trans hb
        have hsB : wA.heap.size < wB.heap.size := by have := hb.size; simp at this; omega
        have bX := bX.below hb (by simp)
        have bA := bA.below kxb (by omega)
        have bB := bB.below kxb (by omega)
        have hA4 := hA3.kept kxb
        have hB4 := hB3.kept kxb
        have hI4 := hI.kept kxb
        have k4 := k3.trans kxb
        clear hb kx kxb hA3 hB3 hI k3
        have ky := (Keep.refl wB).alloc (.cells #[.int .i64 z0, .int .i64 z1, .int .i64 z2, .int .i64 z3, .int .i64 z4, .slice A2 n2 c2] 24)
        have bY := Ref6.Boxed.new wB ⟨z0, z1, z2, z3, z4, z5⟩ A2 n2 c2 24
        go_wp2
        obtain ⟨X, hX⟩ : ∃ X, X = wB.alloc (.cells #[.int .i64 z0, .int .i64 z1, .int .i64 z2, .int .i64 z3, .int .i64 z4, .slice A2 n2 c2] 24) := ⟨_, rfl⟩
        have hXs : wB.heap.size < X.heap.size := by rw [hX]; simp
        rw [← hX] at ky bY ⊢
        clear hX
        have hS : ∀ W, Keep X W → W.cell? ⟨w.heap.size, 0, none⟩ = some (.int .i64 a0) ∧ W.cell? ⟨w.heap.size, 1, none⟩ = some (.int .i64 a1) ∧ W.cell? ⟨w.heap.size, 2, none⟩ = some (.int .i64 a2) ∧ W.cell? ⟨w.heap.size, 3, none⟩ = some (.int .i64 a3) ∧ W.cell? ⟨w.heap.size, 4, none⟩ = some (.int .i64 a4) ∧ W.cell? ⟨w.heap.size, 5, none⟩ = some (.slice A n c) ∧ W.cell? ⟨w.heap.size + 1, 0, none⟩ = some (.int .i64 b0) ∧ W.cell? ⟨w.heap.size + 1, 1, none⟩ = some (.int .i64 b1) ∧ W.cell? ⟨w.heap.size + 1, 2, none⟩ = some (.int .i64 b2) ∧ W.cell? ⟨w.heap.size + 1, 3, none⟩ = some (.int .i64 b3) ∧ W.cell? ⟨w.heap.size + 1, 4, none⟩ = some (.int .i64 b4) ∧ W.cell? ⟨w.heap.size + 1, 5, none⟩ = some (.slice B m d) ∧ W.cell? ⟨wA.heap.size, 0, none⟩ = some (.int .i64 z0) ∧ W.cell? ⟨wA.heap.size, 1, none⟩ = some (.int .i64 z1) ∧ W.cell? ⟨wA.heap.size, 2, none⟩ = some (.int .i64 z2) ∧ W.cell? ⟨wA.heap.size, 3, none⟩ = some (.int .i64 z3) ∧ W.cell? ⟨wA.heap.size, 4, none⟩ = some (.int .i64 z4) ∧ W.cell? ⟨wA.heap.size, 5, none⟩ = some (.slice A1 n1 c1) ∧ W.cell? ⟨wB.heap.size, 0, none⟩ = some (.int .i64 z0) ∧ W.cell? ⟨wB.heap.size, 1, none⟩ = some (.int .i64 z1) ∧ W.cell? ⟨wB.heap.size, 2, none⟩ = some (.int .i64 z2) ∧ W.cell? ⟨wB.heap.size, 3, none⟩ = some (.int .i64 z3) ∧ W.cell? ⟨wB.heap.size, 4, none⟩ = some (.int .i64 z4) ∧ W.cell? ⟨wB.heap.size, 5, none⟩ = some (.slice A2 n2 c2) := fun W h => by
          obtain ⟨p0, p1, p2, p3, p4, p5⟩ := bA.below (ky.trans h) (by omega)
          obtain ⟨q0, q1, q2, q3, q4, q5⟩ := bB.below (ky.trans h) (by omega)
          obtain ⟨x0, x1, x2, x3, x4, x5⟩ := bX.below (ky.trans h) (by omega)
          obtain ⟨y0, y1, y2, y3, y4, y5⟩ := bY.below h (by omega)
          exact ⟨p0, p1, p2, p3, p4, p5, q0, q1, q2, q3, q4, q5, x0, x1, x2, x3, x4, x5, y0, y1, y2, y3, y4, y5⟩
        have iA := fun W (h : Keep X W) => hA4.kept (ky.trans h)
        have iB := fun W (h : Keep X W) => hB4.kept (ky.trans h)
        have iX := fun W (h : Keep X W) => hI4.kept (ky.trans h)
        have iY := fun W (h : Keep X W) => hJ.kept (ky.trans h)
        have hn1 : n1 ≤ 1000000 := by have := hI4.1; omega
        have caw := fun W (_ : Keep X W) => awake_any W
        have cK : ∀ W, Keep X W → Calls Try.prog 12 #[.int .i64 a0] W fun e w' => e = .returned (.bool kb) ∧ Keep W w' := fun W h => HK.out ▸ known_any a0 W
        have cK' : ∀ W, Keep X W → Calls Try.prog 13 #[.int .i64 a0] W fun e w' => e = .returned (.bool kb) ∧ Keep W w' := fun W h => HK.out ▸ (Ref6.known_any a0 W).mono fun _ _ ⟨he, hq⟩ => ⟨he, hq ▸ Keep.refl W⟩
        have cR : ∀ W, Keep X W → Calls Try.prog 14 #[.agg #[.int .i64 a0, .int .i64 a1, .int .i64 a2, .int .i64 a3, .int .i64 a4, .slice A n c]] W fun e w' => e = .returned (.bool r) ∧ Keep W w' := fun W h => HR.out ▸ right_any A n c ⟨a0, a1, a2, a3, a4, a5⟩ W (by unfold maxLen; omega) (iA W h)
        have cR' : ∀ W, Keep X W → Calls Try.prog 15 #[.agg #[.int .i64 a0, .int .i64 a1, .int .i64 a2, .int .i64 a3, .int .i64 a4, .slice A n c]] W fun e w' => e = .returned (.bool r) ∧ Keep W w' := fun W h => HR.out ▸ Ref6.right_any A n c ⟨a0, a1, a2, a3, a4, a5⟩ W (by omega) (iA W h)
        have cT : ∀ W, Keep X W → Calls Try.prog 17 #[.agg #[.int .i64 a0, .int .i64 a1, .int .i64 a2, .int .i64 a3, .int .i64 a4, .slice A n c], .agg #[.int .i64 b0, .int .i64 b1, .int .i64 b2, .int .i64 b3, .int .i64 b4, .slice B m d]] W fun e w' => e = .returned (.bool sb) ∧ Keep W w' := fun W h => HS.out ▸ same_any A B n c m d ⟨a0, a1, a2, a3, a4, a5⟩ ⟨b0, b1, b2, b3, b4, b5⟩ W (by omega) (by omega) (iA W h) (iB W h)
        have cT' : ∀ W, Keep X W → Calls Try.prog 16 #[.agg #[.int .i64 a0, .int .i64 a1, .int .i64 a2, .int .i64 a3, .int .i64 a4, .slice A n c], .agg #[.int .i64 b0, .int .i64 b1, .int .i64 b2, .int .i64 b3, .int .i64 b4, .slice B m d]] W fun e w' => e = .returned (.bool sb) ∧ Keep W w' := fun W h => HS.out ▸ Ref6.same_any A B n c m d ⟨a0, a1, a2, a3, a4, a5⟩ ⟨b0, b1, b2, b3, b4, b5⟩ W (by omega) (iA W h) (iB W h)
        have cX : ∀ W, Keep X W → Calls Try.prog 16 #[.agg #[.int .i64 z0, .int .i64 z1, .int .i64 z2, .int .i64 z3, .int .i64 z4, .slice A1 n1 c1], .agg #[.int .i64 z0, .int .i64 z1, .int .i64 z2, .int .i64 z3, .int .i64 z4, .slice A2 n2 c2]] W fun e w' => e = .returned (.bool true) ∧ Keep W w' := fun W h => by
          have hh := Ref6.same_any A1 A2 n1 c1 n2 c2 ⟨z0, z1, z2, z3, z4, z5⟩ ⟨z0, z1, z2, z3, z4, z5⟩ W hn1 (iX W h) (iY W h)
          rw [show Ak.same ⟨z0, z1, z2, z3, z4, z5⟩ ⟨z0, z1, z2, z3, z4, z5⟩ = true from (Ak.same_iff _ _).2 rfl] at hh
          exact hh
        have k5 := k4.trans ky
        have kR := Keep.refl X
        clear hA4 hB4 hI4 hJ iA iB iX iY bA bB bX bY ky k4 hA hB HK HR HS HZ HP HE
        go_region_held3 (fun w' => Keep X w' ∧ w'.cell? ⟨w.heap.size, 0, none⟩ = some (.int .i64 a0) ∧ w'.cell? ⟨w.heap.size, 1, none⟩ = some (.int .i64 a1) ∧ w'.cell? ⟨w.heap.size, 2, none⟩ = some (.int .i64 a2) ∧ w'.cell? ⟨w.heap.size, 3, none⟩ = some (.int .i64 a3) ∧ w'.cell? ⟨w.heap.size, 4, none⟩ = some (.int .i64 a4) ∧ w'.cell? ⟨w.heap.size, 5, none⟩ = some (.slice A n c) ∧ w'.cell? ⟨w.heap.size + 1, 0, none⟩ = some (.int .i64 b0) ∧ w'.cell? ⟨w.heap.size + 1, 1, none⟩ = some (.int .i64 b1) ∧ w'.cell? ⟨w.heap.size + 1, 2, none⟩ = some (.int .i64 b2) ∧ w'.cell? ⟨w.heap.size + 1, 3, none⟩ = some (.int .i64 b3) ∧ w'.cell? ⟨w.heap.size + 1, 4, none⟩ = some (.int .i64 b4) ∧ w'.cell? ⟨w.heap.size + 1, 5, none⟩ = some (.slice B m d) ∧ w'.cell? ⟨wA.heap.size, 0, none⟩ = some (.int .i64 z0) ∧ w'.cell? ⟨wA.heap.size, 1, none⟩ = some (.int .i64 z1) ∧ w'.cell? ⟨wA.heap.size, 2, none⟩ = some (.int .i64 z2) ∧ w'.cell? ⟨wA.heap.size, 3, none⟩ = some (.int .i64 z3) ∧ w'.cell? ⟨wA.heap.size, 4, none⟩ = some (.int .i64 z4) ∧ w'.cell? ⟨wA.heap.size, 5, none⟩ = some (.slice A1 n1 c1) ∧ w'.cell? ⟨wB.heap.size, 0, none⟩ = some (.int .i64 z0) ∧ w'.cell? ⟨wB.heap.size, 1, none⟩ = some (.int .i64 z1) ∧ w'.cell? ⟨wB.heap.size, 2, none⟩ = some (.int .i64 z2) ∧ w'.cell? ⟨wB.heap.size, 3, none⟩ = some (.int .i64 z3) ∧ w'.cell? ⟨wB.heap.size, 4, none⟩ = some (.int .i64 z4) ∧ w'.cell? ⟨wB.heap.size, 5, none⟩ = some (.slice A2 n2 c2))
          (first
            | exact ⟨hw, hS _ hw⟩
            | exact ⟨keepd kR, hS _ (keepd kR)⟩
            | exact ⟨kR, hS _ kR⟩
            | fail)
          ((first
            | (go_at_call 7; (with_reducible refine (caw _ (And.left (by assumption))).mono ?_); rintro e w9 ⟨rfl, kk⟩; have hw := Keep.trans (a := X) (And.left (by assumption)) kk)
            | (go_at_call 12; (with_reducible refine (cK _ (And.left (by assumption))).mono ?_); rintro e w9 ⟨rfl, kk⟩; have hw := Keep.trans (a := X) (And.left (by assumption)) kk)
            | (go_at_call 13; (with_reducible refine (cK' _ (And.left (by assumption))).mono ?_); rintro e w9 ⟨rfl, kk⟩; have hw := Keep.trans (a := X) (And.left (by assumption)) kk)
            | (go_at_call 14; (with_reducible refine (cR _ (And.left (by assumption))).mono ?_); rintro e w9 ⟨rfl, kk⟩; have hw := Keep.trans (a := X) (And.left (by assumption)) kk)
            | (go_at_call 15; (with_reducible refine (cR' _ (And.left (by assumption))).mono ?_); rintro e w9 ⟨rfl, kk⟩; have hw := Keep.trans (a := X) (And.left (by assumption)) kk)
            | (go_at_call 17; (with_reducible refine (cT _ (And.left (by assumption))).mono ?_); rintro e w9 ⟨rfl, kk⟩; have hw := Keep.trans (a := X) (And.left (by assumption)) kk)
            | (go_at_call 16; (with_reducible refine (cT' _ (And.left (by assumption))).mono ?_); rintro e w9 ⟨rfl, kk⟩; have hw := Keep.trans (a := X) (And.left (by assumption)) kk)
            | (go_at_call 16; (with_reducible refine (cX _ (And.left (by assumption))).mono ?_); rintro e w9 ⟨rfl, kk⟩; have hw := Keep.trans (a := X) (And.left (by assumption)) kk)
            | fail))
        go_wp2
        go_ret
        exact ⟨rfl, k5.trans hw⟩
      · have d1 : decide ((3000 : Int) < n) = false := by simp; omega
        have d2 : decide ((3000 : Int) < m) = false := by simp; omega
        have d3 : decide ((300 : Int) < s.size) = true := by simp; omega
        go_enter Try.func3, Try.ntmps3
        go_wp2_with fail
        refine (awake_any _).mono ?_
        rintro e w2 ⟨rfl, k2⟩
        go_wp2
        go_ret
        exact ⟨rfl, k0.trans k2⟩
    · have d1 : decide ((3000 : Int) < n) = false := by simp; omega
      have d2 : decide ((3000 : Int) < m) = true := by simp; omega
      go_enter Try.func3, Try.ntmps3
      go_wp2_with fail
      refine (awake_any _).mono ?_
      rintro e w2 ⟨rfl, k2⟩
      go_wp2
      go_ret
      exact ⟨rfl, k0.trans k2⟩
  · have d1 : decide ((3000 : Int) < n) = true := by simp; omega
    go_enter Try.func3, Try.ntmps3
    go_wp2_with fail
    refine (awake_any _).mono ?_
    rintro e w2 ⟨rfl, k2⟩
    go_wp2
    go_ret
    exact ⟨rfl, k0.trans k2⟩
end Go.Proofs.Ytfeidijfjkegkaa.Ask
