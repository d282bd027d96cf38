/- Layer 5's laws: each answers true. Conditions: none. -/
import Derived.Test.YtgifhgjmlmepbaaCo
import Derived.Test.YtgifhgjmlmepbaaCoR
import Derived.Test.YtgifhgjmlmepbaaTw2
import Derived.Test.YtgifhgjmlmepbaaOpen
namespace Go.Proofs.Ytgifhgjmlmepbaa.Coil
set_option linter.unusedVariables false
open Go.ChangeShapes Go.WideShapes Go.ChangeAt Go.RowKit

set_option maxHeartbeats 1000000 in
theorem awake_any (w : World) : Calls Try.prog 6 #[] w fun e w' => e = .returned (.bool true) ∧ Keep w w' := by
  have e1 : st (Co.put [1, 0, 1]) = ⟨#[5]⟩ := by rw [show Co.put [1, 0, 1] = [5] from by decide]; rfl
  have e2 : Co.get ⟨#[5]⟩ 3 = [1, 0, 1] := by decide
  have e3 : Co.getOk ⟨#[5]⟩ 3 = true := by decide
  have e4 : Co.getOk ⟨#[8]⟩ 3 = false := by decide
  go_enter Try.func6, Try.ntmps6
  go_wp2_with fail
  refine (put_any _ 3 3 [1, 0, 1] _ (by omega) (by simpa using Ints.new .i64 w 3 [1, 0, 1] #[.int .i64 1, .int .i64 0, .int .i64 1] rfl)).mono ?_
  rintro e w1 ⟨rfl, hb1⟩
  rw [e1, show Co.allBits [1, 0, 1] = true from by decide]
  have hK1 : Keep w w1 := ((Keep.refl w).alloc _).trans hb1
  clear hb1
  go_wp2_with fail
  refine (get_any _ 3 _ (by decide) (by decide)).mono ?_
  rintro e w2 ⟨A, n, c, rfl, hI, hb2⟩
  rw [e2] at hI
  rw [e3]
  obtain rfl : 3 = n := hI.1
  obtain ⟨b, off, rfl, hb, hc⟩ := hI.2 (by omega)
  have hK2 := hK1.trans hb2
  clear hK1 hb2
  go_wp2_with fail
  refine (get_any _ 3 _ (by decide) (by decide)).mono ?_
  rintro e w3 ⟨B, m, d, rfl, hI3, hb3⟩
  rw [e4]
  have c0 : w3.cell? ⟨b, off, none⟩ = some (.int .i64 1) := (hb3.cell (p := ⟨b, off, none⟩) hb).trans (hc 0 (by omega))
  have c1 : w3.cell? ⟨b, off + 1, none⟩ = some (.int .i64 0) := (hb3.cell (p := ⟨b, off + 1, none⟩) hb).trans (hc 1 (by omega))
  have c2 : w3.cell? ⟨b, off + 2, none⟩ = some (.int .i64 1) := (hb3.cell (p := ⟨b, off + 2, none⟩) hb).trans (hc 2 (by omega))
  have hK3 := hK2.trans hb3
  clear hK2 hb3 hc hI hI3
  go_wp2
  go_ret
  exact ⟨rfl, hK3⟩

set_option maxHeartbeats 1000000 in
theorem tells_any (A : Option Addr) (n c : Nat) (zs : List Int) (s : ByteArray) (m : Int) (w : World) (hA : IntsIn .i64 w A n zs) (hn : n ≤ maxLen) (hs : s.size ≤ maxLen) (_hm : (Lit.int .i64 m).wf = true) :
    Calls Try.prog 3 #[.slice A n c, .string s, .int .i64 m] w fun e w' => e = .returned (.bool true) ∧ Keep w w' := by
  have hA := hA.1
  unfold maxLen at hs hn
  by_cases hl : n ≤ 300
  · by_cases hl2 : s.size ≤ 100
    · by_cases hm : m ≤ 1099511627776
      · have d1 : decide ((300 : Int) < n) = false := by simp; omega
        have d2 : decide ((100 : Int) < s.size) = false := by simp; omega
        have d3 : decide ((1099511627776 : Int) < m) = false := by simp; omega
        go_enter Try.func3, Try.ntmps3
        go_wp2_with fail
        refine (put_any _ _ _ zs _ (by omega) hA).mono ?_
        rintro e w1 ⟨rfl, hb1⟩
        have hA1 := hA.kept hb1
        have hK1 : Keep w w1 := hb1
        clear hb1
        go_wp2_with fail
        refine (Ref5.put_any _ _ _ zs _ (by omega) hA1).mono ?_
        rintro e w2 ⟨rfl, hb2⟩
        have hK2 := hK1.trans hb2
        clear hK1 hb2 hA1
        go_wp2_with fail
        refine (get_any s m _ (by omega) (by omega)).mono ?_
        rintro e w3 ⟨B, n3, c3, rfl, hI3, hb3⟩
        have hK3 := hK2.trans hb3
        clear hK2 hb3
        go_wp2_with fail
        refine (Ref5.get_any s m _ (by omega)).mono ?_
        rintro e w4 ⟨D, n4, c4, rfl, hI4, hb4⟩
        have hI3 := hI3.kept hb4
        have hK4 := hK3.trans hb4
        clear hK3 hb4
        go_wp2_with fail
        refine (awake_any _).mono ?_
        rintro e w5 ⟨rfl, hb5⟩
        have hI3 := hI3.kept hb5
        have hI4 := hI4.kept hb5
        have hK5 := hK4.trans hb5
        have hn3 : n3 ≤ 1000000 := by
          have h1 := hI3.1
          have h2 := Co.get_len8 s m
          omega
        clear hK4 hb5
        go_wp2_with fail
        refine (Ref1.ints_any _ _ _ _ _ _ _ _ _ hn3 hI3 hI4).mono ?_
        rintro e w6 ⟨rfl, hq6⟩
        rw [beq_self_eq_true]
        have hK6 := hK5.trans hq6.keep
        clear hK5 hq6
        go_wp2_with fail
        refine (size_any m _ (by omega)).mono ?_
        rintro e w7 ⟨rfl, rfl⟩
        go_wp2_with fail
        refine (Ref5.size_any m _ (by omega)).mono ?_
        rintro e w8 ⟨rfl, rfl⟩
        go_wp2
        go_ret
        exact ⟨rfl, hK6⟩
      · have d1 : decide ((300 : Int) < n) = false := by simp; omega
        have d2 : decide ((100 : Int) < s.size) = false := by simp; omega
        have d3 : decide ((1099511627776 : Int) < m) = true := by simp; omega
        go_enter Try.func3, Try.ntmps3
        go_wp2_with fail
        refine (awake_any _).mono ?_
        rintro e w1 ⟨rfl, hb1⟩
        go_wp2
        go_ret
        exact ⟨rfl, hb1⟩
    · have d1 : decide ((300 : Int) < n) = false := by simp; omega
      have d2 : decide ((100 : Int) < s.size) = true := by simp; omega
      go_enter Try.func3, Try.ntmps3
      go_wp2_with fail
      refine (awake_any _).mono ?_
      rintro e w1 ⟨rfl, hb1⟩
      go_wp2
      go_ret
      exact ⟨rfl, hb1⟩
  · have d1 : decide ((300 : Int) < n) = true := by simp; omega
    go_enter Try.func3, Try.ntmps3
    go_wp2_with fail
    refine (awake_any _).mono ?_
    rintro e w1 ⟨rfl, hb1⟩
    go_wp2
    go_ret
    exact ⟨rfl, hb1⟩

set_option maxHeartbeats 1000000 in
theorem back_any (A : Option Addr) (n c : Nat) (zs : List Int) (s : ByteArray) (m : Int) (w : World) (hA : IntsIn .i64 w A n zs) (hn : n ≤ maxLen) (hs : s.size ≤ maxLen) (hm : (Lit.int .u8 m).wf = true) :
    Calls Try.prog 4 #[.slice A n c, .string s, .int .u8 m] w fun e w' => e = .returned (.bool true) ∧ Keep w w' := by
  have hA := hA.1
  unfold maxLen at hs hn
  have hm2 : 0 ≤ m ∧ m ≤ 255 := by
    simp only [Lit.wf, Bool.and_eq_true, decide_eq_true_eq] at hm
    exact hm
  clear hm
  by_cases hl : n ≤ 300
  · by_cases hl2 : s.size ≤ 100
    · have d1 : decide ((300 : Int) < n) = false := by simp; omega
      have d2 : decide ((100 : Int) < s.size) = false := by simp; omega
      have hpl := Co.put_len zs
      have hlen := hA.1
      rw [hlen] at hpl
      have hpl : (st (Co.put zs)).size ≤ 1000000 := by unfold Co.nsize at hpl; omega
      have HL := Lib.hid hlen
      clear hlen
      have hgl := Co.get_len8 s m
      obtain ⟨ok, hok⟩ : ∃ b, b = Co.allBits zs := ⟨_, rfl⟩
      obtain ⟨ok2, hok2⟩ : ∃ b, b = Co.getOk s m := ⟨_, rfl⟩
      have HO := Lib.hid hok
      have HO2 := Lib.hid hok2
      clear hok hok2
      go_enter Try.func4, Try.ntmps4
      go_wp2_with fail
      refine (put_any _ _ _ zs _ (by omega) hA).mono ?_
      rintro e w1 ⟨rfl, hb1⟩
      rw [← HO.out]
      have hA := hA.kept hb1
      have hK1 : Keep w w1 := hb1
      clear hb1
      go_wp2_with fail
      refine (get_any _ (n : Int) _ hpl (by omega)).mono ?_
      rintro e w2 ⟨B2, n2, c2, rfl, hI2, hb2⟩
      have hA := hA.kept hb2
      have hK2 := hK1.trans hb2
      clear hK1 hb2
      go_wp2_with fail
      refine (get_any s m _ (by omega) (by omega)).mono ?_
      rintro e w3 ⟨B3, n3, c3, rfl, hI3, hb3⟩
      rw [← HO2.out]
      have hA := hA.kept hb3
      have hI2 := hI2.kept hb3
      have hK3 := hK2.trans hb3
      clear hK2 hb3
      have hn3 : n3 ≤ 800 := by
        have h1 := hI3.1
        omega
      go_wp2_with fail
      refine (put_any _ _ _ _ _ (by omega) hI3).mono ?_
      rintro e w4 ⟨rfl, hb4⟩
      have hA := hA.kept hb4
      have hI2 := hI2.kept hb4
      have hI3 := hI3.kept hb4
      have hK4 := hK3.trans hb4
      clear hK3 hb4
      go_wp2_with fail
      refine (awake_any _).mono ?_
      rintro e w5 ⟨rfl, hb5⟩
      have hA := hA.kept hb5
      have hI2 := hI2.kept hb5
      have hI3 := hI3.kept hb5
      have hK5 := hK4.trans hb5
      clear hK4 hb5
      cases ok
      · have hput : st (Co.put zs) = ⟨#[]⟩ := by rw [Co.put, ← HO.out]; rfl
        rw [hput]
        cases ok2
        · go_wp2
          go_ret
          exact ⟨rfl, hK5⟩
        · have hb2 := Co.back2 s m HO2.out.symm
          rw [hb2.1, hb2.2.1]
          have hl3 := hI3.1
          have hd4 : ((n3 : Int) == m) = true := by have := hb2.2.2; rw [hl3] at this; simp [this]
          clear hb2
          go_wp2
          go_ret
          exact ⟨rfl, hK5⟩
      · have hbk := Co.back1 zs HO.out.symm
        rw [HL.out] at hbk
        rw [hbk.1]
        rw [hbk.2.1] at hI2
        have hsz := hbk.2.2
        have HSZ := Lib.hid hsz
        have hd3 : (((st (Co.put zs)).size : Int) == Co.size (n : Int)) = true := by simp [hsz]
        clear hbk hsz
        go_wp2_with fail
        refine (Ref1.ints_any _ _ _ _ _ _ _ _ _ (by omega) hA hI2).mono ?_
        rintro e w6 ⟨rfl, hq6⟩
        rw [beq_self_eq_true]
        have hK6 := hK5.trans hq6.keep
        clear hK5 hq6
        go_wp2_with fail
        refine (size_any (n : Int) _ (by omega)).mono ?_
        rintro e w7 ⟨rfl, rfl⟩
        cases ok2
        · go_wp2
          go_ret
          exact ⟨rfl, hK6⟩
        · have hb2 := Co.back2 s m HO2.out.symm
          rw [hb2.1, hb2.2.1]
          have hl3 := hI3.1
          have hd4 : ((n3 : Int) == m) = true := by have := hb2.2.2; rw [hl3] at this; simp [this]
          clear hb2
          go_wp2
          go_ret
          exact ⟨rfl, hK6⟩
    · have d1 : decide ((300 : Int) < n) = false := by simp; omega
      have d2 : decide ((100 : Int) < s.size) = true := by simp; omega
      go_enter Try.func4, Try.ntmps4
      go_wp2_with fail
      refine (awake_any _).mono ?_
      rintro e w1 ⟨rfl, hb1⟩
      go_wp2
      go_ret
      exact ⟨rfl, hb1⟩
  · have d1 : decide ((300 : Int) < n) = true := by simp; omega
    go_enter Try.func4, Try.ntmps4
    go_wp2_with fail
    refine (awake_any _).mono ?_
    rintro e w1 ⟨rfl, hb1⟩
    go_wp2
    go_ret
    exact ⟨rfl, hb1⟩

/-- What the loop that fills up has laid. -/
def FillRel (w : World) (n : Nat) (zs : List Int) (v : Value) (wr : World) : Prop :=
  ∃ z : Nat, n + z ≤ 8 * Co.nsize n ∧ wr.ownsRow w.heap.size 3 1 v (n + z) ((zs ++ List.replicate z (0 : Int)).map (Value.int .i64)) ∧ Below w.heap.size w wr

set_option maxHeartbeats 1000000 in
theorem joins_any (A : Option Addr) (n c : Nat) (zs : List Int) (B : Option Addr) (m d : Nat) (ys : List Int) (w : World) (hA : IntsIn .i64 w A n zs) (hn : n ≤ maxLen) (hB : IntsIn .i64 w B m ys) (hm : m ≤ maxLen) :
    Calls Try.prog 5 #[.slice A n c, .slice B m d] w fun e w' => e = .returned (.bool true) ∧ Keep w w' := by
  have hA := hA.1
  have hB := hB.1
  unfold maxLen at hn hm
  by_cases hl : n ≤ 300
  · by_cases hl2 : m ≤ 300
    · have d1 : decide ((300 : Int) < n) = false := by simp; omega
      have d2 : decide ((300 : Int) < m) = false := by simp; omega
      have hown0 : (w.alloc (.cells #[] 3)).ownsRow w.heap.size 3 1 (.slice (some ⟨w.heap.size, 0, none⟩) 0 0) 0 (([] : List Int).map (Value.int .i64)) := World.ownsRow_lit w #[] 0 (Nat.le_refl _) (Nat.zero_le _) rfl
      have hK0 := (Keep.refl w).alloc (.cells #[] 3)
      have hA0 := hA.kept hK0
      have hs0 : w.heap.size ≤ (w.alloc (.cells #[] 3)).heap.size := hK0.size
      have HA := Lib.hid hA.1
      have HN := Lib.hid (show n ≤ 8 * Co.nsize n by unfold Co.nsize; omega)
      have hnz : 8 * Co.nsize n ≤ 307 := by unfold Co.nsize; omega
      go_enter Try.func5, Try.ntmps5
      go_wp2_with (at_builtin; refine append_ints rfl _ _ 22 rfl w.heap.size 3 .i64 8 Try.underlying22 info_int _ 0 [] rfl hown0 hs0 _ A n c zs rfl hA0 (by unfold maxLen; omega) (by omega) ?_)
      intro v1 w1 hown1 hb1
      have hK1 : Keep w w1 := Below.trans hK0 hb1
      clear hown0 hK0 hA0 hs0 hb1
      go_wp2
      go_loopw [5] (fun v wr => FillRel w n zs v wr) (fun v _ => 8 * Co.nsize n - lenOf v)
      case atStart => exact ⟨0, HN.out, by simpa using hown1, hK1⟩
      case round =>
        obtain ⟨z, hz, hown, hbel⟩ := hrel
        obtain ⟨A1, c1, rfl⟩ := own_slice hown
        by_cases h8 : ((n + z : Nat) : Int) % 8 = 0
        · have hlX : (zs ++ List.replicate z (0 : Int)).length = n + z := by simp [HA.out]
          obtain ⟨X, hX⟩ : ∃ X, X = zs ++ List.replicate z (0 : Int) := ⟨_, rfl⟩
          rw [← hX] at hown hlX
          clear hX
          have happ := Co.put_app X ys (by omega)
          have hplX := Co.put_len X
          have hplY := Co.put_len ys
          have HB := Lib.hid hB.1
          rw [hlX] at hplX
          rw [hB.1] at hplY
          have HAP := Lib.hid happ
          obtain ⟨p, hp⟩ : ∃ b, b = Co.allBits X := ⟨_, rfl⟩
          obtain ⟨q, hq⟩ : ∃ b, b = Co.allBits ys := ⟨_, rfl⟩
          have hadd := add_st (P := Try.prog) (Co.put X) (Co.put ys) (by
            rw [st_size] at hplX hplY
            unfold Co.nsize at *
            omega)
          have HP := Lib.hid hp
          have HQ := Lib.hid hq
          clear happ hplX hplY hp hq
          have HLX := Lib.hid hlX
          clear hlX
          have hd8 : (((n : Int) + (z : Int)) % 8 != 0) = false := by simp; omega
          go_wp2_with fail
          refine (put_any A1 (n + z) c1 X _ (by omega) (Ints.of_own hown)).mono ?_
          rintro e w2 ⟨rfl, hb2⟩
          rw [← HP.out]
          have hown2 := own_kept hown hb2
          have hK2 : Keep w w2 := Keep.trans hbel hb2
          have hB2 := hB.kept hK2
          clear hown hb2
          go_wp2_with fail
          refine (put_any B m d ys _ (by omega) hB2).mono ?_
          rintro e w3 ⟨rfl, hb3⟩
          rw [← HQ.out]
          have hown3 := own_kept hown2 hb3
          have hK3 := hK2.trans hb3
          have hB3 := hB2.kept hb3
          have hs3 := hK3.size
          clear hown2 hb3 hK2 hB2
          go_wp2_with (at_builtin; refine append_ints rfl _ _ 22 rfl w.heap.size 3 .i64 8 Try.underlying22 info_int _ (n + z) X rfl hown3 hs3 _ B m d ys rfl hB3 (by unfold maxLen; omega) (by omega) ?_)
          intro v4 w4 hown4 hb4
          obtain ⟨A4, c4, rfl⟩ := own_slice hown4
          rw [← List.map_append] at hown4
          have hI4 := Ints.of_own hown4
          have hK4 : Keep w w4 := Below.trans hK3 hb4
          clear hown3 hown4 hb4 hK3 hB3 hs3
          go_wp2_with fail
          refine (put_any A4 (n + z + m) c4 (X ++ ys) _ (by omega) hI4).mono ?_
          rintro e w5 ⟨rfl, hb5⟩
          rw [HAP.out.1, ← HP.out, ← HQ.out]
          have hK5 := hK4.trans hb5
          clear hK4 hb5 hI4
          go_wp2_with fail
          refine (awake_any _).mono ?_
          rintro e w6 ⟨rfl, hb6⟩
          have hK6 := hK5.trans hb6
          clear hK5 hb6
          cases p <;> cases q
          · go_wp2
            go_ret
            exact ⟨rfl, hK6⟩
          · go_wp2
            go_ret
            exact ⟨rfl, hK6⟩
          · go_wp2
            go_ret
            exact ⟨rfl, hK6⟩
          · rw [HAP.out.2 (by rw [HAP.out.1, ← HP.out, ← HQ.out]; rfl)]
            go_wp2
            go_ret
            exact ⟨rfl, hK6⟩
        · have hs2 := hbel.size
          have hd8 : (((n : Int) + (z : Int)) % 8 != 0) = true := by simp; omega
          go_wp2_with (at_builtin; refine append_new rfl _ _ 22 rfl w.heap.size 3 (.int .i64 0) 1 8 Try.underlying22 info_int rfl (by decide) _ _ _ rfl hown hs2 1 #[.int .i64 0] rfl rfl (by intro u hu; simp at hu; subst hu; rfl) (by unfold maxLen; omega) (by omega) ?_)
          intro v2 w2 hown2 hb2
          clear hown
          go_wp2
          go_roundw
          case rel =>
            refine ⟨z + 1, by unfold Co.nsize at *; omega, ?_, hbel.trans hb2⟩
            simpa [List.replicate_succ', Nat.add_assoc] using hown2
          case measure =>
            obtain ⟨A2, c2, rfl⟩ := own_slice hown2
            simp [lenOf]
            unfold Co.nsize at *
            omega
    · have d1 : decide ((300 : Int) < n) = false := by simp; omega
      have d2 : decide ((300 : Int) < m) = true := by simp; omega
      go_enter Try.func5, Try.ntmps5
      go_wp2_with fail
      refine (awake_any _).mono ?_
      rintro e w1 ⟨rfl, hb1⟩
      go_wp2
      go_ret
      exact ⟨rfl, hb1⟩
  · have d1 : decide ((300 : Int) < n) = true := by simp; omega
    go_enter Try.func5, Try.ntmps5
    go_wp2_with fail
    refine (awake_any _).mono ?_
    rintro e w1 ⟨rfl, hb1⟩
    go_wp2
    go_ret
    exact ⟨rfl, hb1⟩
end Go.Proofs.Ytgifhgjmlmepbaa.Coil
