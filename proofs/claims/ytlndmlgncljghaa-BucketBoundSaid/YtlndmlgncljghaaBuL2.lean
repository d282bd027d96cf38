/- Layer 18's law BucketBound. Conditions: none beyond the law's own. -/
import Derived.Test.YtlndmlgncljghaaBuL
import Derived.Test.YtlndmlgncljghaaBoo
namespace Go.Proofs.Ytlndmlgncljghaa.Bucket
set_option linter.unusedVariables false
open Go.ChangeShapes Go.WideShapes Go.ChangeAt Go.RowKit
open Bu

/-- What holds behind k steps of which those from 'fr' on are counted: level l, uses u, ticks t. -/
def Bnd (r : RateB) (fr k l u t : Int) : Prop := (0 ≤ l ∧ l ≤ full r) ∧ (0 ≤ u ∧ u ≤ k) ∧ (0 ≤ t ∧ t ≤ k) ∧ u * r.per + l ≤ full r + t * r.num ∧ (k ≤ fr → u = 0 ∧ t = 0)
theorem Bnd.first (r : RateB) (fr : Int) (hr : right r = true) : Bnd r fr 0 (full r) 0 0 := by
  obtain ⟨h1, h2⟩ := full_range hr
  obtain ⟨_, _, h3, _⟩ := (right_iff r).1 hr
  unfold Bnd; omega
theorem Bnd.tickIn {r : RateB} {fr k l u t : Int} (hr : right r = true) (h : Bnd r fr k l u t) (hk : fr ≤ k) : Bnd r fr (k + 1) (tick l r) u (t + 1) := by
  obtain ⟨h1, h2, h3, h4, h5⟩ := h
  obtain ⟨r1, r2⟩ := tick_range hr h1.1 h1.2
  have e : (t + 1) * r.num = t * r.num + r.num := by rw [Int.add_mul, Int.one_mul]
  have e2 : tick l r ≤ l + r.num := by unfold tick; split <;> omega
  unfold Bnd; rw [e]; omega
theorem Bnd.tickOut {r : RateB} {fr k l u t : Int} (hr : right r = true) (h : Bnd r fr k l u t) (hk : k < fr) : Bnd r fr (k + 1) (tick l r) u t := by
  obtain ⟨h1, h2, h3, h4, h5⟩ := h
  obtain ⟨r1, r2⟩ := tick_range hr h1.1 h1.2
  obtain ⟨rfl, rfl⟩ := h5 (by omega)
  unfold Bnd; omega
theorem Bnd.useIn {r : RateB} {fr k l u t : Int} (hr : right r = true) (h : Bnd r fr k l u t) (hk : fr ≤ k) (hl : r.per ≤ l) : Bnd r fr (k + 1) (l - r.per) (u + 1) t := by
  obtain ⟨h1, h2, h3, h4, h5⟩ := h
  obtain ⟨_, _, h6, _⟩ := (right_iff r).1 hr
  have e : (u + 1) * r.per = u * r.per + r.per := by rw [Int.add_mul, Int.one_mul]
  unfold Bnd; rw [e]; omega
theorem Bnd.useOut {r : RateB} {fr k l u t : Int} (hr : right r = true) (h : Bnd r fr k l u t) (hk : k < fr) (hl : r.per ≤ l) : Bnd r fr (k + 1) (l - r.per) u t := by
  obtain ⟨h1, h2, h3, h4, h5⟩ := h
  obtain ⟨_, _, h6, _⟩ := (right_iff r).1 hr
  unfold Bnd; omega
theorem Bnd.none {r : RateB} {fr k l u t : Int} (h : Bnd r fr k l u t) : Bnd r fr (k + 1) l u t := by
  obtain ⟨h1, h2, h3, h4, h5⟩ := h
  unfold Bnd; omega
/-- What the law asks of the numbers, as the machine reckons it. -/
theorem Bnd.ends {r : RateB} {fr k l u t : Int} (h : Bnd r fr k l u t) : decide (l < 0) = false ∧ decide (full r < l) = false := by
  obtain ⟨h1, _⟩ := h
  exact ⟨by simp; omega, by simp; omega⟩
theorem Bnd.gate {r : RateB} {fr k l u t : Int} (hr : right r = true) (h : Bnd r fr k l u t) (hk : k ≤ 200) :
    decide (wrap64 (wrap64 (r.burst * r.per) + wrap64 (t * r.num)) < wrap64 (u * r.per)) = false := by
  obtain ⟨h1, h2, h3, h4, h5⟩ := h
  obtain ⟨f1, f2⟩ := full_range hr
  obtain ⟨a1, a2, a3, a4, _⟩ := (right_iff r).1 hr
  have p0 : 0 ≤ u * r.per := Int.mul_nonneg h2.1 (by omega)
  have p1 : u * r.per ≤ 200 * 1048576 := Int.le_trans (Int.mul_le_mul_of_nonneg_right (show u ≤ 200 by omega) (by omega)) (Int.mul_le_mul_of_nonneg_left a4 (by omega))
  have p2 : 0 ≤ t * r.num := Int.mul_nonneg h3.1 (by omega)
  have p3 : t * r.num ≤ 200 * 1048576 := Int.le_trans (Int.mul_le_mul_of_nonneg_right (show t ≤ 200 by omega) (by omega)) (Int.mul_le_mul_of_nonneg_left a2 (by omega))
  have e1 : wrap64 (u * r.per) = u * r.per := by unfold wrap64; omega
  have e2 : wrap64 (r.burst * r.per) = full r := by show wrap64 (full r) = full r; unfold wrap64; omega
  have e3 : wrap64 (t * r.num) = t * r.num := by unfold wrap64; omega
  have e4 : wrap64 (full r + t * r.num) = full r + t * r.num := by unfold wrap64; omega
  rw [e1, e2, e3, e4]
  simp; omega

/-- The loop's relation. -/
def BRel (X : World) (r : RateB) (n : Nat) (fr : Int) (L U T I : Value) (wr : World) : Prop :=
  ∃ (k : Nat) (l u t : Int), k ≤ n ∧ I = .int .i64 k ∧ L = .int .i64 l ∧ U = .int .i64 u ∧ T = .int .i64 t ∧ Hid (Bnd r fr k l u t) ∧ Keep X wr

set_option maxHeartbeats 4000000 in
set_option maxRecDepth 20000 in
theorem bound_any (r : RateB) (A : Option Addr) (n c : Nat) (zs : List Bool) (fr : Int) (w : World) (hn : n ≤ maxLen) (hA : Bools w w.heap.size A n zs) (hf0 : 0 ≤ fr) (hf1 : fr ≤ 255) :
    Calls Try.prog 4 #[.agg #[.int .i64 r.num, .int .i64 r.per, .int .i64 r.burst], .slice A n c, .int .u8 fr] w fun e w' => e = .returned (.bool true) ∧ Keep w w' := by
  obtain ⟨X, hX⟩ : ∃ X, X = w.alloc (.cells #[.int .i64 r.num, .int .i64 r.per, .int .i64 r.burst] 23) := ⟨_, rfl⟩
  have k0 : Keep w X := by rw [hX]; exact (Keep.refl w).alloc _
  have B0 : Hid (Bx w.heap.size r X) := Lib.hid (by rw [hX]; exact Bx.new w r _)
  have hAX := hA.kept k0
  unfold maxLen at hn
  obtain ⟨⟨a0, b0, d0⟩, _⟩ := B0.out
  cases hr : right r
  · have HR := Lib.hid hr
    clear hr
    go_enter Try.func4, Try.ntmps4
    go_wp2_with fail
    rw [← hX]
    refine (Ref18.right_any r _).mono ?_
    rintro e w1 ⟨rfl, hb1⟩
    rw [HR.out]
    go_wp2_with fail
    refine (awake_any _).mono ?_
    rintro e w2 ⟨rfl, hb2⟩
    go_wp2
    go_ret
    exact ⟨rfl, (k0.trans hb1).trans hb2⟩
  have HR := Lib.hid hr
  clear hr
  by_cases h0 : 200 < n
  · have d0' : decide ((200 : Int) < (n : Int)) = true := by simp; omega
    clear h0
    go_enter Try.func4, Try.ntmps4
    go_wp2_with fail
    rw [← hX]
    refine (Ref18.right_any r _).mono ?_
    rintro e w1 ⟨rfl, hb1⟩
    rw [HR.out]
    go_wp2_with fail
    refine (awake_any _).mono ?_
    rintro e w2 ⟨rfl, hb2⟩
    go_wp2
    go_ret
    exact ⟨rfl, (k0.trans hb1).trans hb2⟩
  have e0 : decide ((200 : Int) < (n : Int)) = false := by simp; omega
  go_enter Try.func4, Try.ntmps4
  go_wp2_with fail
  rw [← hX]
  clear hX hA
  refine (Ref18.right_any r _).mono ?_
  rintro e w1 ⟨rfl, hb1⟩
  rw [HR.out]
  clear a0 b0 d0
  replace B0 := Lib.hid (B0.out.kept hb1)
  replace k0 := k0.trans hb1
  replace hAX := hAX.kept hb1
  clear hb1
  obtain ⟨⟨a0, b0, d0⟩, _⟩ := B0.out
  go_wp2_with fail
  refine (full_any r _ HR.out).mono ?_
  rintro e Y ⟨rfl, hb2⟩
  clear a0 b0 d0
  replace B0 := Lib.hid (B0.out.kept hb2)
  replace k0 := k0.trans hb2
  replace hAX := hAX.kept hb2
  clear hb2
  have hn2 : n ≤ 200 := by omega
  clear h0 hn
  go_wp2
  clear e0
  go_loopw [7, 8, 9, 10, 11, 12] (fun L U T I _ _ wr => BRel Y r n fr L U T I wr) (fun _ _ _ I _ _ _ => n - (intOf I).toNat)
  case atStart => exact ⟨0, full r, 0, 0, Nat.zero_le _, rfl, rfl, rfl, rfl, Lib.hid (Bnd.first r fr HR.out), Keep.refl Y⟩
  case round =>
    obtain ⟨k, l, u, t, hk, rfl, rfl, rfl, rfl, HB, hkx⟩ := hrel
    by_cases hlt : k < n
    · have hltz : (k : Int) < n := by omega
      have hk0 : (0 : Int) ≤ k := by omega
      obtain ⟨b, off, rfl, hbb, hcc⟩ := hAX.2 (by omega)
      have hck := (Below.cell hkx (p := ⟨b, off + k, none⟩) hbb).trans (hcc k hlt)
      clear hcc
      have hAX := Lib.hid hAX
      have B1 := Lib.hid (B0.out.kept hkx)
      obtain ⟨⟨a0, b0, d0⟩, _⟩ := B1.out
      have HL := Lib.hid HB.out.1
      cases hz : zs.getD k false
      · rw [hz] at hck
        clear hz
        by_cases hl : l < r.per
        · have dl : decide (r.per ≤ l) = false := by simp; omega
          have HB2 := HB.out.none
          have hT := fun W => take_any l r W HR.out HL.out.1 HL.out.2
          rw [if_pos hl] at hT
          have HT := Lib.hid hT
          have hg := HB2.gate HR.out (by omega)
          obtain ⟨t1, t2⟩ := HB2.ends
          have HB3 := Lib.hid HB2
          have HKN := Lib.hid (show k + 1 ≤ n by omega)
          clear HB2 hT hl hk
          go_wp2_with fail
          refine (HT.out _).mono ?_
          rintro e w3 ⟨rfl, hb3⟩
          clear a0 b0 d0
          have B2 := Lib.hid (B1.out.kept hb3)
          obtain ⟨⟨a0, b0, d0⟩, _⟩ := B2.out
          clear hck
          go_wp2_with fail
          refine (full_any r _ HR.out).mono ?_
          rintro e w4 ⟨rfl, hb4⟩
          have B3 := Lib.hid (B2.out.kept hb4)
          clear a0 b0 d0
          obtain ⟨⟨a0, b0, d0⟩, _⟩ := B3.out
          go_wp2
          refine ⟨⟨k + 1, l, u, t, HKN.out, by go_num, rfl, rfl, rfl, HB3, (hkx.trans hb3).trans hb4⟩, by simp [intOf]; omega⟩
        · have dl : decide (r.per ≤ l) = true := by simp; omega
          have hT := fun W => take_any l r W HR.out HL.out.1 HL.out.2
          rw [if_neg hl] at hT
          by_cases hfk : fr ≤ (k : Int)
          · have dfk : decide (fr ≤ (k : Int)) = true := by simp [hfk]
            have HB2 := HB.out.useIn HR.out hfk (by omega)
            obtain ⟨v, hv⟩ : ∃ v, v = l - r.per := ⟨_, rfl⟩
            rw [← hv] at HB2 hT
            have HT := Lib.hid hT
            have hg := HB2.gate HR.out (by omega)
            obtain ⟨t1, t2⟩ := HB2.ends
            have wu : wrap64 (u + 1) = u + 1 := by have h := HB.out.2.1; unfold wrap64; omega
            rw [← wu] at hg
            have WU := Lib.hid wu
            clear wu
            have HB3 := Lib.hid HB2
            have HKN := Lib.hid (show k + 1 ≤ n by omega)
            clear HB2 hT hv hfk hk
            go_wp2_with fail
            refine (HT.out _).mono ?_
            rintro e w3 ⟨rfl, hb3⟩
            clear a0 b0 d0
            have B2 := Lib.hid (B1.out.kept hb3)
            obtain ⟨⟨a0, b0, d0⟩, _⟩ := B2.out
            clear hck
            go_wp2_with fail
            refine (full_any r _ HR.out).mono ?_
            rintro e w4 ⟨rfl, hb4⟩
            have B3 := Lib.hid (B2.out.kept hb4)
            clear a0 b0 d0
            obtain ⟨⟨a0, b0, d0⟩, _⟩ := B3.out
            go_wp2
            refine ⟨⟨k + 1, v, u + 1, t, HKN.out, by go_num, rfl, by rw [WU.out], rfl, HB3, (hkx.trans hb3).trans hb4⟩, by simp [intOf]; omega⟩
          · have dfk : decide (fr ≤ (k : Int)) = false := by simp; omega
            have HB2 := HB.out.useOut HR.out (by omega) (by omega)
            obtain ⟨v, hv⟩ : ∃ v, v = l - r.per := ⟨_, rfl⟩
            rw [← hv] at HB2 hT
            have HT := Lib.hid hT
            have hg := HB2.gate HR.out (by omega)
            obtain ⟨t1, t2⟩ := HB2.ends
            have HB3 := Lib.hid HB2
            have HKN := Lib.hid (show k + 1 ≤ n by omega)
            clear HB2 hT hv hfk hk
            go_wp2_with fail
            refine (HT.out _).mono ?_
            rintro e w3 ⟨rfl, hb3⟩
            clear a0 b0 d0
            have B2 := Lib.hid (B1.out.kept hb3)
            obtain ⟨⟨a0, b0, d0⟩, _⟩ := B2.out
            clear hck
            go_wp2_with fail
            refine (full_any r _ HR.out).mono ?_
            rintro e w4 ⟨rfl, hb4⟩
            have B3 := Lib.hid (B2.out.kept hb4)
            clear a0 b0 d0
            obtain ⟨⟨a0, b0, d0⟩, _⟩ := B3.out
            go_wp2
            refine ⟨⟨k + 1, v, u, t, HKN.out, by go_num, rfl, rfl, rfl, HB3, (hkx.trans hb3).trans hb4⟩, by simp [intOf]; omega⟩
      · rw [hz] at hck
        clear hz
        by_cases hfk : fr ≤ (k : Int)
        · have dfk : decide (fr ≤ (k : Int)) = true := by simp [hfk]
          have HB2 := HB.out.tickIn HR.out hfk
          obtain ⟨v, hv⟩ : ∃ v, v = tick l r := ⟨_, rfl⟩
          have hT := fun W => tick_any l r W HR.out HL.out.1 HL.out.2
          rw [← hv] at HB2 hT
          have HT := Lib.hid hT
          have hg := HB2.gate HR.out (by omega)
          obtain ⟨t1, t2⟩ := HB2.ends
          have wt : wrap64 (t + 1) = t + 1 := by have h := HB.out.2.2.1; unfold wrap64; omega
          rw [← wt] at hg
          have WT := Lib.hid wt
          clear wt
          have HB3 := Lib.hid HB2
          have HKN := Lib.hid (show k + 1 ≤ n by omega)
          clear HB2 hT hv hfk hk
          go_wp2_with fail
          refine (HT.out _).mono ?_
          rintro e w3 ⟨rfl, hb3⟩
          clear a0 b0 d0
          have B2 := Lib.hid (B1.out.kept hb3)
          obtain ⟨⟨a0, b0, d0⟩, _⟩ := B2.out
          clear hck
          go_wp2_with fail
          refine (full_any r _ HR.out).mono ?_
          rintro e w4 ⟨rfl, hb4⟩
          have B3 := Lib.hid (B2.out.kept hb4)
          clear a0 b0 d0
          obtain ⟨⟨a0, b0, d0⟩, _⟩ := B3.out
          go_wp2
          refine ⟨⟨k + 1, v, u, t + 1, HKN.out, by go_num, rfl, rfl, by rw [WT.out], HB3, (hkx.trans hb3).trans hb4⟩, by simp [intOf]; omega⟩
        · have dfk : decide (fr ≤ (k : Int)) = false := by simp; omega
          have HB2 := HB.out.tickOut HR.out (by omega)
          obtain ⟨v, hv⟩ : ∃ v, v = tick l r := ⟨_, rfl⟩
          have hT := fun W => tick_any l r W HR.out HL.out.1 HL.out.2
          rw [← hv] at HB2 hT
          have HT := Lib.hid hT
          have hg := HB2.gate HR.out (by omega)
          obtain ⟨t1, t2⟩ := HB2.ends
          have HB3 := Lib.hid HB2
          have HKN := Lib.hid (show k + 1 ≤ n by omega)
          clear HB2 hT hv hfk hk
          go_wp2_with fail
          refine (HT.out _).mono ?_
          rintro e w3 ⟨rfl, hb3⟩
          clear a0 b0 d0
          have B2 := Lib.hid (B1.out.kept hb3)
          obtain ⟨⟨a0, b0, d0⟩, _⟩ := B2.out
          clear hck
          go_wp2_with fail
          refine (full_any r _ HR.out).mono ?_
          rintro e w4 ⟨rfl, hb4⟩
          have B3 := Lib.hid (B2.out.kept hb4)
          clear a0 b0 d0
          obtain ⟨⟨a0, b0, d0⟩, _⟩ := B3.out
          go_wp2
          refine ⟨⟨k + 1, v, u, t, HKN.out, by go_num, rfl, rfl, rfl, HB3, (hkx.trans hb3).trans hb4⟩, by simp [intOf]; omega⟩
    · obtain rfl : k = n := by omega
      go_wp2_with fail
      refine (awake_any _).mono ?_
      rintro e w2 ⟨rfl, hb2⟩
      go_wp2
      go_ret
      exact ⟨rfl, (k0.trans hkx).trans hb2⟩
end Go.Proofs.Ytlndmlgncljghaa.Bucket
