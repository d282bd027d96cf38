/- Layer 3's texts: each function answers what the plain words of ReU say. Conditions: the library's table of powers of ten lies as its initialiser lays it. -/
import Derived.Test.YtffojilbhpefbaaReT
namespace Go.Proofs.Ytffojilbhpefbaa.Re
set_option linter.unusedVariables false
open Go.Proofs.Ytffojilbhpefbaa.Fp Go.ChangeShapes Go.WideShapes Go.ChangeAt Go.RowKit

theorem inf_string : st infL = ⟨#[105, 110, 102]⟩ := rfl
theorem nan_string : st [] = ⟨#[]⟩ := rfl


theorem readSize_any (l : List UInt8) (hl : l.length ≤ 1000000) (w : World) : Calls Try.prog 88 #[.string (st l)] w fun e w' => e = .returned (.tuple #[.float .f64 (fl false (rV l)), .bool (rOk l)]) ∧ Keep w w' := by
  have heq : ((st l).toList == [105, 110, 102]) = decide (l = infL) := by
    rw [toList_eq, bl_st]
    unfold infL
    rw [Bool.eq_iff_iff, beq_iff_eq, decide_eq_true_eq]
  unfold rV rOk
  by_cases h : l = infL
  · rw [decide_eq_true h] at heq
    rw [if_pos h, decide_eq_true h, Bool.true_or]
    have HH := Lib.hid h
    clear h
    generalize st l = s at *
    go_enter Try.func88, Try.ntmps88
    go_wp2_with fail
    refine (inf_any _).mono ?_
    rintro e w1 ⟨rfl, rfl⟩
    go_wp2
    go_ret2
    exact ⟨rfl, Keep.refl _⟩
  · rw [decide_eq_false h] at heq
    rw [if_neg h, decide_eq_false h, Bool.false_or]
    have hr := Gu.getN_range l
    have hfi := fint (n := (Gu.getN l).toNat) (by omega)
    rw [Int.toNat_of_nonneg hr.1] at hfi
    have hg := fun w => Guard.get_any (st l) w (by rw [st_size]; exact hl)
    rw [bl_st] at hg
    have HH := Lib.hid h
    have HR := Lib.hid hr
    have HF := Lib.hid hfi
    clear h hr hfi
    generalize st l = s at *
    go_enter Try.func88, Try.ntmps88
    go_wp2_with fail
    refine (hg _).mono ?_
    rintro e w1 ⟨rfl, hb⟩
    go_wp2
    go_ret2
    exact ⟨by rw [← HF.out]; rfl, hb⟩
theorem fl_neg {v : Nat} (h : Ex v) : 9223372036854775808 + fl false v % 9223372036854775808 = fl true v := by
  rw [fl_mod false h]
  unfold fl
  rw [if_neg (by decide), if_pos rfl]
theorem read_any (s : ByteArray) (hs : s.size ≤ 1000000) (w : World) : Calls Try.prog 86 #[.string s] w fun e w' => e = .returned (.tuple #[.float .f64 (rdF (bl s)), .bool (rdOk (bl s))]) ∧ Keep w w' := by
  have hc := fun w => cutPrefix_any s w
  have hl : (restL (bl s)).length ≤ 1000000 := by have := rest_len (bl s); rw [bl_length] at this; omega
  have hr := fun w => readSize_any (restL (bl s)) hl w
  have hx := ex_rV (restL (bl s))
  have hcs := fun w => neg_any (fl false (rV (restL (bl s)))) (fl_lt _ hx.2) w
  rw [fl_neg hx] at hcs
  have e : rdOk (bl s) = rOk (restL (bl s)) := rfl
  unfold rdF
  rw [e]
  have HX := Lib.hid hx
  have HL := Lib.hid hl
  clear hx hl e
  generalize rV (restL (bl s)) = v at *
  generalize restL (bl s) = m at *
  cases hk : rOk m
  · rw [hk] at hr
    rw [if_neg (by decide)]
    clear hcs
    generalize fl false v = a at *
    go_enter Try.func86, Try.ntmps86
    go_wp2_with fail
    refine (hc _).mono ?_
    rintro e w1 ⟨rfl, rfl⟩
    go_wp2_with fail
    refine (hr _).mono ?_
    rintro e w1 ⟨rfl, hb⟩
    go_wp2
    go_ret2
    exact ⟨rfl, hb⟩
  · rw [hk] at hr
    rw [if_pos rfl]
    cases hn : negL (bl s)
    · rw [hn] at hc
      clear hcs
      generalize fl false v = a at *
      go_enter Try.func86, Try.ntmps86
      go_wp2_with fail
      refine (hc _).mono ?_
      rintro e w1 ⟨rfl, rfl⟩
      go_wp2_with fail
      refine (hr _).mono ?_
      rintro e w1 ⟨rfl, hb⟩
      go_wp2
      go_ret2
      exact ⟨rfl, hb⟩
    · rw [hn] at hc
      generalize fl false v = a at *
      generalize fl true v = c at *
      go_enter Try.func86, Try.ntmps86
      go_wp2_with fail
      refine (hc _).mono ?_
      rintro e w1 ⟨rfl, rfl⟩
      go_wp2_with fail
      refine (hr _).mono ?_
      rintro e w1 ⟨rfl, hb⟩
      go_wp2_with fail
      refine (hcs _).mono ?_
      rintro e w2 ⟨rfl, rfl⟩
      go_wp2
      go_ret2
      exact ⟨rfl, hb⟩
end Go.Proofs.Ytffojilbhpefbaa.Re
