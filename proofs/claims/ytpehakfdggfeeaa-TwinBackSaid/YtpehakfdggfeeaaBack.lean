/- For every list of integers and every text the law TwinBack returns true and leaves its arguments as they were. Conditions: none. -/
import Derived.Test.YtpehakfdggfeeaaTw3
import Derived.Test.YtpehakfdggfeeaaOpen
namespace Go.Proofs.Ytpehakfdggfeeaa.TwinBack
set_option linter.unusedVariables false
open Go.ChangeShapes Go.WideShapes Go.ChangeAt Go.RowKit
open Go.ChangeMaps (open_string shut_string)


/-- The second half: from the text on. -/
def Half (w : World) (e : Ending) (w' : World) : Prop := e = .returned (.bool true) ∧ Below w.heap.size w w'

set_option maxHeartbeats 1000000 in
theorem walk (A : Option Addr) (n c : Nat) (zs : List Int) (s : ByteArray) (w : World) (hAI : IntsIn .i64 w A n zs) (_ : n ≤ maxLen) (hs : s.size ≤ maxLen) :
    Calls Try.prog 4 #[.slice A n c, .string s] w fun e w' => e = .returned (.bool true) ∧ Below w.heap.size w w' := by
  unfold maxLen at hs
  have hA := hAI.1
  by_cases h1 : 300 < s.size
  · go_enter Try.func4, Try.ntmps4
    go_wp2_with fail
    refine (awake_any _).mono ?_
    rintro e w1 ⟨rfl, hb⟩
    go_wp2
    go_ret
    exact ⟨rfl, hb⟩
  · by_cases h2 : 200 < n
    · go_enter Try.func4, Try.ntmps4
      go_wp2_with fail
      refine (awake_any _).mono ?_
      rintro e w1 ⟨rfl, hb⟩
      go_wp2
      go_ret
      exact ⟨rfl, hb⟩
    · have hl := Lib.hid hA.1
      go_enter Try.func4, Try.ntmps4
      go_wp2_with fail
      refine (putAll_any A n c zs _ (by omega) hA).mono ?_
      rintro e w1 ⟨rfl, hb1⟩
      have hK1 : Keep w w1 := hb1
      have hA1 := hA.kept hK1
      clear hb1
      have hpl := Tw.put_len zs
      rw [hl.out] at hpl
      by_cases hok : Tw.allIn zs = true
      · obtain ⟨B1, B2, B3⟩ := Tw.back1 zs hok
        obtain ⟨p, hp⟩ : ∃ p, p = st (Tw.put zs) := ⟨_, rfl⟩
        rw [hok]
        rw [← hp] at B1 B2 B3 hpl ⊢
        clear hp
        have H1 := Lib.hid B1
        have H2 := Lib.hid B2
        rw [hl.out] at B3
        have B4 : ((p.size : Int) == 2 * (n : Int)) = true := by simp; omega
        have B5 : ((p.size : Int) != 2 * (n : Int)) = false := by simp; omega
        clear B1 B2 B3
        go_wp2_with fail
        refine (getAll_any p _ (by omega)).mono ?_
        rintro e w2 ⟨A2, n2, c2, rfl, hA2, hb2⟩
        rw [H1.out]
        have hK2 := hK1.trans hb2
        have hA3 := hA1.kept hb2
        clear hb2 hA1 hK1
        rw [H2.out] at hA2
        go_wp2_with fail
        refine (Ref1.ints_any A A2 n n2 c c2 zs zs _ (by omega) hA3 hA2).mono ?_
        rintro e w3 ⟨rfl, hq3⟩
        have hK3 := hK2.trans hq3.keep
        clear hq3 hK2
        have hzz : (zs == zs) = true := beq_self_eq_true zs
        rw [hzz]
        go_wp2_with fail
        refine (getAll_any s _ (by omega)).mono ?_
        rintro e w4 ⟨A4, n4, c4, rfl, hA4, hb4⟩
        have hK4 := hK3.trans hb4
        have hl4 : n4 ≤ 1000000 := by have := hA4.1; have := Tw.getAll_len s; omega
        clear hb4 hK3
        by_cases hev : Tw.evenB s = true
        · obtain ⟨C1, C2⟩ := Tw.back2 s hev
          have HC1 := Lib.hid C1
          have HC2 := Lib.hid C2
          have hev2 : ((s.size : Int) % 2 == 0) = true := by simp [Tw.evenB] at hev; simp; omega
          clear C1 C2
          rw [hev]
          clear hev
          go_wp2_with fail
          refine (putAll_any A4 n4 c4 _ _ hl4 hA4).mono ?_
          rintro e w5 ⟨rfl, hb5⟩
          rw [HC1.out, HC2.out]
          have hK5 := hK4.trans hb5
          clear hb5 hK4
          go_wp2_with fail
          refine (awake_any _).mono ?_
          rintro e w6 ⟨rfl, hb6⟩
          have hK6 := hK5.trans hb6
          clear hb6 hK5
          have hss : (s.toList == s.toList) = true := by simp
          go_wp2
          go_ret
          exact ⟨rfl, hK6⟩
        · replace hev : Tw.evenB s = false := by simpa using hev
          have hev2 : ((s.size : Int) % 2 == 0) = false := by simp [Tw.evenB] at hev; simp; omega
          rw [hev]
          clear hev
          go_wp2_with fail
          refine (putAll_any A4 n4 c4 _ _ hl4 hA4).mono ?_
          rintro e w5 ⟨rfl, hb5⟩
          have hK5 := hK4.trans hb5
          clear hb5 hK4
          go_wp2_with fail
          refine (awake_any _).mono ?_
          rintro e w6 ⟨rfl, hb6⟩
          have hK6 := hK5.trans hb6
          clear hb6 hK5
          go_wp2
          go_ret
          exact ⟨rfl, hK6⟩
      · replace hok : Tw.allIn zs = false := by simpa using hok
        have hp : st (Tw.put zs) = ⟨#[]⟩ := by simp [Tw.put, hok, st]
        rw [hok, hp]
        rw [hp] at hpl
        clear hok hp
        go_wp2_with fail
        refine (getAll_any _ _ (by decide)).mono ?_
        rintro e w2 ⟨A2, n2, c2, rfl, hA2, hb2⟩
        have hK3 := hK1.trans hb2
        clear hb2 hA1 hK1
        generalize Tw.evenB ⟨#[]⟩ = ev
        go_wp2_with fail
        refine (getAll_any s _ (by omega)).mono ?_
        rintro e w4 ⟨A4, n4, c4, rfl, hA4, hb4⟩
        have hK4 := hK3.trans hb4
        have hl4 : n4 ≤ 1000000 := by have := hA4.1; have := Tw.getAll_len s; omega
        clear hb4 hK3
        by_cases hev : Tw.evenB s = true
        · obtain ⟨C1, C2⟩ := Tw.back2 s hev
          have HC1 := Lib.hid C1
          have HC2 := Lib.hid C2
          have hev2 : ((s.size : Int) % 2 == 0) = true := by simp [Tw.evenB] at hev; simp; omega
          clear C1 C2
          rw [hev]
          clear hev
          go_wp2_with fail
          refine (putAll_any A4 n4 c4 _ _ hl4 hA4).mono ?_
          rintro e w5 ⟨rfl, hb5⟩
          rw [HC1.out, HC2.out]
          have hK5 := hK4.trans hb5
          clear hb5 hK4
          go_wp2_with fail
          refine (awake_any _).mono ?_
          rintro e w6 ⟨rfl, hb6⟩
          have hK6 := hK5.trans hb6
          clear hb6 hK5
          have hss : (s.toList == s.toList) = true := by simp
          go_wp2
          go_ret
          exact ⟨rfl, hK6⟩
        · replace hev : Tw.evenB s = false := by simpa using hev
          have hev2 : ((s.size : Int) % 2 == 0) = false := by simp [Tw.evenB] at hev; simp; omega
          rw [hev]
          clear hev
          go_wp2_with fail
          refine (putAll_any A4 n4 c4 _ _ hl4 hA4).mono ?_
          rintro e w5 ⟨rfl, hb5⟩
          have hK5 := hK4.trans hb5
          clear hb5 hK4
          go_wp2_with fail
          refine (awake_any _).mono ?_
          rintro e w6 ⟨rfl, hb6⟩
          have hK6 := hK5.trans hb6
          clear hb6 hK5
          go_wp2
          go_ret
          exact ⟨rfl, hK6⟩

theorem own : ownKnob Try.prog.godebug = none := by kernel_rfl
theorem laidOut : laidOutB Try.prog = true := by kernel_rfl
set_option maxRecDepth 100000 in
theorem lifted (os : Os) (started : os.Started) (H : Type) (enc : TypeId × Value → H) :
    ReturnsInHanded {} Try.checked os 4 .any (Rows.twinBackSpec.pre6 enc Try.prog Try.f4 Rows.twinBackRow.domain false) (Rows.twinBackSpec.post enc Try.prog Try.f4 false true false false) := by
  refine returnsInHanded_of_change (C := Try.checked) own started (by kernel_rfl) Try.func4
    (ChangeSpec.witness6 (enc := enc) (C := Try.checked) false ⟨#[], #[.slice none 0 0, .string ByteArray.empty], []⟩ 8 (by kernel_rfl) (by kernel_rfl) (by kernel_rfl) (by kernel_rfl)) ?_
  intro W base args ds gs before hval0 hW hcnd _
  have hval : ∀ (j : Nat) t v, Try.f4.params[j]? = some t → args[j]? = some v → Value.okWide Try.prog W .any base t v := hval0
  have hW' := hW
  obtain ⟨p, q, hA0, hV, rfl, hfz, hnd⟩ := hW
  have hA : DataW.TrodAll enc Try.prog W 0 (fun _ => true) true Try.f4.params.toList args.toList ds p := hA0
  rw [Try.params4] at hA hval
  obtain ⟨v0, vs0, d0, ds0, p0, q0, hargs, rfl, rfl, h0, r0⟩ := trodAll_cons hA
  obtain ⟨v1, vs1, d1, ds1, p1, q1, rfl, rfl, rfl, h1, r1⟩ := trodAll_cons r0
  obtain ⟨rfl, rfl, rfl⟩ := trodAll_nil r1
  obtain rfl : args = #[v0, v1] := by cases args; simp_all
  obtain ⟨rfl, rfl⟩ := trodVars_none hV
  obtain ⟨x0, y0, u0, rfl⟩ := okWide_slice Try.underlying22 (hval 0 22 v0 rfl rfl)
  obtain ⟨A0, n0, c0, z0, e0, l0, m0, w0⟩ := (opens_ints Try.underlying22 Try.underlying3 (by kernel_rfl)).arg h0
  obtain ⟨rfl, rfl, rfl⟩ : x0 = A0 ∧ y0 = n0 ∧ u0 = c0 := by simpa [Value.cells] using e0
  obtain ⟨a1, rfl⟩ := okWide_string Try.underlying9 (hval 1 9 v1 rfl rfl)
  obtain ⟨s1, e1, w1⟩ := (opens_string Try.underlying9).arg h1
  obtain rfl : a1 = s1 := by simpa [Value.cells] using e1
  clear hA0 hval0
  refine (walk x0 y0 u0 z0 a1 W w0 (Nat.le_trans l0 m0) w1).mono fun e W' ⟨he, bel⟩ => ?_
  subst he
  exact ⟨_, rfl, _, _, _, [], _, [], hW', trodAll_mk1 (shut_bool Try.underlying4 _), (trodAll_cons_mk (Below.trod laidOut (by kernel_rfl) (of_decide_eq_true (by kernel_rfl)) h0 bel (trod_lt' h0)) (trodAll_cons_mk (Below.trod laidOut (by kernel_rfl) (of_decide_eq_true (by kernel_rfl)) h1 bel (trod_lt' h1)) trodAll_mk0)), rfl, bel.frame _, fun h => by cases h⟩
theorem proved : Rows.TwinBackSaid :=
  OpenClaim.holds_of_wide 4 Try.f4 rfl rfl rfl rfl rfl rfl rfl ⟨rfl, rfl, rfl, rfl, rfl⟩ rfl rfl rfl rfl rfl (by kernel_rfl) Try.func4 (by kernel_rfl)
    (of_decide_eq_true (by kernel_rfl)) (by unfold Func.isWrapper; first | (rw [if_pos (by decide +kernel)]; kernel_rfl) | (rw [if_neg (by decide +kernel)]; exact ⟨rfl, rfl⟩))
    (fun os started H enc _ => lifted os started H enc)
end Go.Proofs.Ytpehakfdggfeeaa.TwinBack
