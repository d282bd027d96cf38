/- The laws of layer 2 walk through. Conditions: the library's table of powers of ten lies as its initialiser lays it. -/
import Derived.Test.YtjabidppgnppgaaDoorGu2
import Derived.Test.YtjabidppgnppgaaDoorGuR
namespace Go.Proofs.YtjabidppgnppgaaDoor.Guard
open Go.ChangeShapes Go.WideShapes Go.ChangeAt Go.RowKit

theorem put_nought : Gu.put 0 = [48] := by
  rw [Gu.put_in (by rfl), show (0 : Int).toNat = 0 from rfl, Gu.dec_small (by omega)]; rfl
set_option maxHeartbeats 400000 in
theorem awake_any (w : World) (ht : Tab w) : Calls Tryd.prog 6 #[] w fun e w' => e = .returned (.bool true) ∧ Keep w w' := by
  have e1 : Gu.getOk (bl ⟨#[48, 48, 55]⟩) = false := rfl
  have e2 : Gu.getOk (bl ⟨#[55]⟩) = true := rfl
  have e3 : Gu.getN (bl ⟨#[55]⟩) = 7 := rfl
  have e4 : st (Gu.put 0) = ⟨#[48]⟩ := by rw [put_nought]; rfl
  have e5 : Gu.inR 0 = true := rfl
  have e6 : Gu.lead (bl ⟨#[49, 50, 120]⟩) = 2 := rfl
  go_enter Tryd.func6, Tryd.ntmps6
  go_wp2_with fail
  refine (get_any _ _ (by decide)).mono ?_
  rintro e w1 ⟨rfl, hb1⟩
  have t1 := ht.keep hb1
  rw [e1]
  clear e1
  go_wp2_with fail
  refine (get_any _ _ (by decide)).mono ?_
  rintro e w2 ⟨rfl, hb2⟩
  have t2 := t1.keep hb2
  have b2 := hb1.trans hb2
  rw [e2, e3]
  clear e2 e3 hb1 hb2 t1 ht
  go_wp2_with fail
  refine (put_any 0 _ t2).mono ?_
  rintro e w3 ⟨rfl, hb3⟩
  have b3 := b2.trans hb3
  rw [e4, e5]
  clear e4 e5 hb3 t2 b2
  go_wp2_with fail
  refine (lead_any _ _ (by decide)).mono ?_
  rintro e w4 ⟨rfl, hq⟩
  have b4 := b3.trans hq.keep
  rw [e6]
  clear e6 hq b3
  go_wp2
  go_ret
  exact ⟨rfl, b4⟩

set_option maxHeartbeats 1000000 in
theorem tells_any (N : Int) (s : ByteArray) (w : World) (ht : Tab w) (hs : s.size ≤ maxLen) :
    Calls Tryd.prog 3 #[.int .i64 N, .string s] w fun e w' => e = .returned (.bool true) ∧ Keep w w' := by
  unfold maxLen at hs
  by_cases h1 : 100 < s.size
  · have h1' : (100 : Int) < s.size := by omega
    go_enter Tryd.func3, Tryd.ntmps3
    go_wp2_with fail
    refine (awake_any _ ht).mono ?_
    rintro e w1 ⟨rfl, hb⟩
    go_wp2
    go_ret
    exact ⟨rfl, hb⟩
  · have h1' : ¬ (100 : Int) < s.size := by omega
    go_enter Tryd.func3, Tryd.ntmps3
    go_wp2_with fail
    refine (put_any N _ ht).mono ?_
    rintro e w1 ⟨rfl, hb1⟩
    have t1 := ht.keep hb1
    go_wp2_with fail
    refine (Ref2.put_any N _).mono ?_
    rintro e w2 ⟨rfl, hb2⟩
    have t2 := t1.keep hb2
    have b2 := hb1.trans hb2
    clear hb1 hb2 t1 ht
    generalize st (Gu.put N) = pN
    generalize Gu.inR N = iN
    go_wp2_with fail
    refine (get_any s _ (by omega)).mono ?_
    rintro e w3 ⟨rfl, hb3⟩
    have t3 := t2.keep hb3
    have b3 := b2.trans hb3
    clear hb3 t2 b2
    go_wp2_with fail
    refine (Ref2.get_any s _ (by omega)).mono ?_
    rintro e w4 ⟨rfl, hb4⟩
    have t4 := t3.keep hb4
    have b4 := b3.trans hb4
    clear hb4 t3 b3
    generalize Gu.getN (bl s) = gP
    generalize Gu.getOk (bl s) = iP
    have e1 : (pN.toList == pN.toList) = true := by simp
    have e2 : (iN == iN) = true := by simp
    have e3 : (gP == gP) = true := by simp
    have e4 : (iP == iP) = true := by simp
    go_wp2_with fail
    refine (awake_any _ t4).mono ?_
    rintro e w5 ⟨rfl, hb5⟩
    have b5 := b4.trans hb5
    clear hb5 t4 b4
    go_wp2_with fail
    refine (lead_any s _ (by omega)).mono ?_
    rintro e w6 ⟨rfl, hq6⟩
    have b6 := b5.trans hq6.keep
    clear hq6 b5
    go_wp2_with fail
    refine (Ref2.lead_any s _ (by omega)).mono ?_
    rintro e w7 ⟨rfl, hq7⟩
    have b7 := b6.trans hq7.keep
    clear hq7 b6
    go_wp2
    go_ret
    exact ⟨rfl, b7⟩
set_option maxHeartbeats 2000000 in
theorem back_any (n : Int) (s : ByteArray) (w : World) (ht : Tab w) (hs : s.size ≤ maxLen) :
    Calls Tryd.prog 4 #[.int .i64 n, .string s] w fun e w' => e = .returned (.bool true) ∧ Keep w w' := by
  unfold maxLen at hs
  by_cases h1 : 100 < s.size
  · have h1' : (100 : Int) < s.size := by omega
    go_enter Tryd.func4, Tryd.ntmps4
    go_wp2_with fail
    refine (awake_any _ ht).mono ?_
    rintro e w1 ⟨rfl, hb⟩
    go_wp2
    go_ret
    exact ⟨rfl, hb⟩
  · have h1' : ¬ (100 : Int) < s.size := by omega
    have hpa' : (st (Gu.put n)).size ≤ 1000000 := by rw [st_size]; have := Gu.put_len n; omega
    have hok := Gu.getOk_put n
    have hlead : ((Gu.lead (Gu.put n) : Int) == ((st (Gu.put n)).size : Int)) = true := by rw [st_size, Gu.lead_put]; simp
    have hn : (n < 0 ∧ Gu.inR n = false) ∨ (0 ≤ n ∧ ¬ n ≤ 9007199254740992 ∧ Gu.inR n = false) ∨ (0 ≤ n ∧ n ≤ 9007199254740992 ∧ Gu.inR n = true ∧ Gu.getN (Gu.put n) = n) := by
      rcases Int.lt_or_le n 0 with h | h
      · exact .inl ⟨h, Gu.inR_lo h⟩
      · by_cases h2 : n ≤ 9007199254740992
        · exact .inr (.inr ⟨h, h2, Gu.inR_mk h h2, Gu.getN_put (Gu.inR_mk h h2)⟩)
        · exact .inr (.inl ⟨h, h2, Gu.inR_hi (by omega)⟩)
    have hu : Gu.getOk (bl s) = false ∨ (Gu.getOk (bl s) = true ∧ ((st (Gu.put (Gu.getN (bl s)))).toList == s.toList) = true ∧ ((Gu.lead (bl s) : Int) == (s.size : Int)) = true) := by
      by_cases h : Gu.getOk (bl s) = true
      · refine .inr ⟨h, ?_, ?_⟩
        · rw [toList_eq, toList_eq, bl_st, Gu.put_getN h]; simp
        · rw [Gu.lead_ok h, bl_length]; simp
      · exact .inl (by simpa using h)
    have HOK := Lib.hid hok
    have HLEAD := Lib.hid hlead
    have HN := Lib.hid hn
    have HU := Lib.hid hu
    clear hok hlead hn hu
    go_enter Tryd.func4, Tryd.ntmps4
    go_wp2_with fail
    refine (put_any n _ ht).mono ?_
    rintro e w1 ⟨rfl, hb1⟩
    have t1 := ht.keep hb1
    go_wp2_with fail
    refine (get_any (st (Gu.put n)) _ hpa').mono ?_
    rintro e w2 ⟨rfl, hb2⟩
    have t2 := t1.keep hb2
    have b2 := hb1.trans hb2
    clear hb1 hb2 t1 ht
    rw [bl_st, HOK.out]
    go_wp2_with fail
    refine (get_any s _ (by omega)).mono ?_
    rintro e w3 ⟨rfl, hb3⟩
    have t3 := t2.keep hb3
    have b3 := b2.trans hb3
    clear hb3 t2 b2
    go_wp2_with fail
    refine (put_any (Gu.getN (bl s)) _ t3).mono ?_
    rintro e w4 ⟨rfl, hb4⟩
    have t4 := t3.keep hb4
    have b4 := b3.trans hb4
    clear hb4 t3 b3
    have hlead := HLEAD.out
    have hls : (Gu.lead (bl (st (Gu.put n))) : Int) = (Gu.lead (Gu.put n) : Int) := rfl
    rw [← hls] at hlead
    clear hls
    generalize hpan : st (Gu.put n) = pa at hpa' hlead ⊢
    have hpa := hpa'
    have HPA := Lib.hid hpan
    clear hpan hpa' HLEAD HOK
    have hun := HU.out
    clear HU
    generalize st (Gu.put (Gu.getN (bl s))) = pb at hun ⊢
    rcases HN.out with ⟨hn0, hin⟩ | ⟨hn0, hn1, hin⟩ | ⟨hn0, hn1, hin, hgn⟩
    · rw [hin]
      have hnn : ¬ 0 ≤ n := by omega
      rcases hun with hu | ⟨hu, hu1, hu2⟩
      · rw [hu]
        go_wp2_with fail
        refine (awake_any _ t4).mono ?_
        rintro e w5 ⟨rfl, hb5⟩
        have b5 := b4.trans hb5
        clear hb5 t4 b4
        go_wp2
        go_ret
        exact ⟨rfl, b5⟩
      · rw [hu]
        go_wp2_with fail
        refine (awake_any _ t4).mono ?_
        rintro e w5 ⟨rfl, hb5⟩
        have b5 := b4.trans hb5
        clear hb5 t4 b4
        go_wp2_with fail
        refine (lead_any s _ (by omega)).mono ?_
        rintro e w7 ⟨rfl, hq7⟩
        replace b5 := b5.trans hq7.keep
        clear hq7
        go_wp2
        go_ret
        exact ⟨rfl, b5⟩
    · rw [hin]
      have hnn : decide (n ≤ 9007199254740992) = false := by simp; omega
      rcases hun with hu | ⟨hu, hu1, hu2⟩
      · rw [hu]
        go_wp2_with fail
        refine (awake_any _ t4).mono ?_
        rintro e w5 ⟨rfl, hb5⟩
        have b5 := b4.trans hb5
        clear hb5 t4 b4
        go_wp2
        go_ret
        exact ⟨rfl, b5⟩
      · rw [hu]
        go_wp2_with fail
        refine (awake_any _ t4).mono ?_
        rintro e w5 ⟨rfl, hb5⟩
        have b5 := b4.trans hb5
        clear hb5 t4 b4
        go_wp2_with fail
        refine (lead_any s _ (by omega)).mono ?_
        rintro e w7 ⟨rfl, hq7⟩
        replace b5 := b5.trans hq7.keep
        clear hq7
        go_wp2
        go_ret
        exact ⟨rfl, b5⟩
    · rw [hin, hgn]
      have hnn : (n == n) = true := by simp
      clear hgn
      rcases hun with hu | ⟨hu, hu1, hu2⟩
      · rw [hu]
        go_wp2_with fail
        refine (awake_any _ t4).mono ?_
        rintro e w5 ⟨rfl, hb5⟩
        have b5 := b4.trans hb5
        clear hb5 t4 b4
        go_wp2_with fail
        refine (lead_any pa _ hpa).mono ?_
        rintro e w6 ⟨rfl, hq6⟩
        replace b5 := b5.trans hq6.keep
        clear hq6
        go_wp2
        go_ret
        exact ⟨rfl, b5⟩
      · rw [hu]
        go_wp2_with fail
        refine (awake_any _ t4).mono ?_
        rintro e w5 ⟨rfl, hb5⟩
        have b5 := b4.trans hb5
        clear hb5 t4 b4
        go_wp2_with fail
        refine (lead_any pa _ hpa).mono ?_
        rintro e w6 ⟨rfl, hq6⟩
        replace b5 := b5.trans hq6.keep
        clear hq6
        go_wp2_with fail
        refine (lead_any s _ (by omega)).mono ?_
        rintro e w7 ⟨rfl, hq7⟩
        replace b5 := b5.trans hq7.keep
        clear hq7
        go_wp2
        go_ret
        exact ⟨rfl, b5⟩
/-- Two numbers, and two texts, compare alike. -/
theorem compare {a b : Int} (ha : Gu.inR a = true) (hb : Gu.inR b = true) (s t : ByteArray) (hs : s = st (Gu.put a)) (ht : t = st (Gu.put b)) :
    (decide (a < b) = true ∧ (a == b) = false ∧ (s.toList == t.toList) = false ∧ (((s.size : Int) < t.size) ∨ (¬ ((s.size : Int) < t.size) ∧ ((s.size : Int) == t.size) = true ∧ Op.bytesLess s.toList t.toList = true))) ∨
    (decide (a < b) = false ∧ (∃ z : Bool, (a == b) = z ∧ (s.toList == t.toList) = z) ∧ decide (s.size < t.size) = false ∧ (((s.size : Int) == t.size) = false ∨ (((s.size : Int) == t.size) = true ∧ Op.bytesLess s.toList t.toList = false))) := by
  have es : s.toList = Gu.put a := by rw [hs, toList_eq, bl_st]
  have et : t.toList = Gu.put b := by rw [ht, toList_eq, bl_st]
  have zs : s.size = (Gu.put a).length := by rw [hs, st_size]
  have zt : t.size = (Gu.put b).length := by rw [ht, st_size]
  rw [es, et, zs, zt]
  by_cases h : a < b
  · left
    refine ⟨by simp [h], by rw [beq_eq_false_iff_ne]; omega, ?_, ?_⟩
    · rw [beq_eq_false_iff_ne]
      intro e
      have := Gu.put_inj ha hb e
      omega
    · rcases Gu.rises ha hb h with h1 | ⟨h1, h2⟩
      · left; omega
      · right; exact ⟨by omega, by rw [h1]; simp, h2⟩
  · right
    obtain ⟨h1, h2⟩ := Gu.falls ha hb (by omega)
    refine ⟨by simp; omega, ?_, by rw [decide_eq_false_iff_not]; exact h1, ?_⟩
    · by_cases e : a = b
      · exact ⟨true, by rw [e]; simp, by rw [e]; simp⟩
      · have e2 : Gu.put a ≠ Gu.put b := fun e3 => e (Gu.put_inj ha hb e3)
        exact ⟨false, beq_eq_false_iff_ne.2 e, beq_eq_false_iff_ne.2 e2⟩
    · by_cases e : (Gu.put a).length = (Gu.put b).length
      · right; exact ⟨by rw [e]; simp, h2 e⟩
      · left; rw [beq_eq_false_iff_ne]; omega

set_option maxHeartbeats 2000000 in
theorem rises_any (a b : Int) (w : World) (ht : Tab w) :
    Calls Tryd.prog 5 #[.int .i64 a, .int .i64 b] w fun e w' => e = .returned (.bool true) ∧ Keep w w' := by
  obtain ⟨s, hs⟩ : ∃ s, s = st (Gu.put a) := ⟨_, rfl⟩
  obtain ⟨t, hst⟩ : ∃ t, t = st (Gu.put b) := ⟨_, rfl⟩
  obtain ⟨p, hp⟩ : ∃ p, p = Gu.inR a := ⟨_, rfl⟩
  obtain ⟨q, hq⟩ : ∃ q, q = Gu.inR b := ⟨_, rfl⟩
  have hcmp : p = true → q = true → _ := fun h1 h2 => compare (hp.symm.trans h1) (hq.symm.trans h2) s t hs hst
  have HC := Lib.hid hcmp
  have hA := put_any a w ht
  rw [← hs, ← hp] at hA
  have hB := fun w ht => put_any b w ht
  rw [← hst, ← hq] at hB
  clear hcmp hs hst hp hq
  go_enter Tryd.func5, Tryd.ntmps5
  go_wp2_with fail
  refine hA.mono ?_
  rintro e w1 ⟨rfl, hb1⟩
  have t1 := ht.keep hb1
  clear hA
  go_wp2_with fail
  refine (hB _ t1).mono ?_
  rintro e w2 ⟨rfl, hb2⟩
  have t2 := t1.keep hb2
  have b2 := hb1.trans hb2
  clear hb1 hb2 t1 ht hB
  cases p
  · clear HC
    go_wp2_with fail
    refine (awake_any _ t2).mono ?_
    rintro e w3 ⟨rfl, hb3⟩
    have b3 := b2.trans hb3
    clear hb3 t2 b2
    go_wp2
    go_ret
    exact ⟨rfl, b3⟩
  · cases q
    · clear HC
      go_wp2_with fail
      refine (awake_any _ t2).mono ?_
      rintro e w3 ⟨rfl, hb3⟩
      have b3 := b2.trans hb3
      clear hb3 t2 b2
      go_wp2
      go_ret
      exact ⟨rfl, b3⟩
    · have hc := HC.out rfl rfl
      clear HC
      have HC := Lib.hid hc
      clear hc
      go_wp2_with fail
      refine (awake_any _ t2).mono ?_
      rintro e w3 ⟨rfl, hb3⟩
      have b3 := b2.trans hb3
      clear hb3 t2 b2
      rcases HC.out with ⟨h1, h2, h3, h4 | ⟨h4, h5, h6⟩⟩ | ⟨h1, ⟨z, h2, h3⟩, h4, h5 | ⟨h5, h6⟩⟩
      · clear HC
        go_wp2
        go_ret
        exact ⟨rfl, b3⟩
      · clear HC
        go_wp2
        go_ret
        exact ⟨rfl, b3⟩
      · clear HC
        cases z
        all_goals
          go_wp2
          go_ret
          exact ⟨rfl, b3⟩
      · clear HC
        cases z
        all_goals
          go_wp2
          go_ret
          exact ⟨rfl, b3⟩
end Go.Proofs.YtjabidppgnppgaaDoor.Guard
