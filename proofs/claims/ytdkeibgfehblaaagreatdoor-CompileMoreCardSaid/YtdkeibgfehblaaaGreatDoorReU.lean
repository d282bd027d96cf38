/- Layer 3's texts in plain words, there and back. Conditions: none. -/
import Derived.Test.YtdkeibgfehblaaaGreatDoorReA
import Derived.Test.YtdkeibgfehblaaaGreatDoorGuA
namespace Go.Proofs.YtdkeibgfehblaaaGreatDoor.Re
open Go.Proofs.YtdkeibgfehblaaaGreatDoor.Fp Go.RowKit

/-- Does a text begin with a minus? And what is behind it. -/
def negL (l : List UInt8) : Bool := l.head? == some 45
def restL (l : List UInt8) : List UInt8 := if negL l then l.tail else l
/-- A whole number, at most 2^53. -/
def wholeB (v : Nat) : Bool := decide (v / un * un = v) && decide (v ≤ t53)
def infL : List UInt8 := [105, 110, 102]
def sizeOk (v : Nat) : Bool := decide (v = top) || wholeB v
def sizeL (v : Nat) : List UInt8 := if v = top then infL else if wholeB v then Gu.put ((v / un : Nat) : Int) else []
/-- The value of bits, but for the sign. -/
def vOf (b : Nat) : Nat := val (b % 9223372036854775808)
def tOk (b : Nat) : Bool := !nanB b && sizeOk (vOf b)
def tL (b : Nat) : List UInt8 := if tOk b then (if signB b then 45 :: sizeL (vOf b) else sizeL (vOf b)) else []
def rOk (l : List UInt8) : Bool := decide (l = infL) || Gu.getOk l
def rV (l : List UInt8) : Nat := if l = infL then top else (Gu.getN l).toNat * un
def rdOk (l : List UInt8) : Bool := rOk (restL l)
def rdF (l : List UInt8) : Nat := if rdOk l then fl (negL l) (rV (restL l)) else 0

theorem fl_mod (s : Bool) {v : Nat} (h : Ex v) : fl s v % 9223372036854775808 = fl false v := by
  have := rg_le h.2
  unfold fl
  cases s <;> simp only [Bool.false_eq_true, if_true, if_false] <;> omega
theorem vOf_fl (s : Bool) {v : Nat} (h : Ex v) : vOf (fl s v) = v := by
  unfold vOf
  rw [fl_mod s h]
  exact val_rg h
theorem tOk_fl (s : Bool) {v : Nat} (h : Ex v) : tOk (fl s v) = sizeOk v := by unfold tOk; rw [nanB_fl h, vOf_fl s h]; rfl
theorem tL_fl (s : Bool) {v : Nat} (h : Ex v) : tL (fl s v) = if sizeOk v then (if s then 45 :: sizeL v else sizeL v) else [] := by
  unfold tL
  rw [tOk_fl s h, vOf_fl s h, signB_fl h]
theorem tOk_nan {b : Nat} (h : nanB b = true) : tOk b = false := by unfold tOk; rw [h]; rfl
theorem tL_no {b : Nat} (h : tOk b = false) : tL b = [] := by unfold tL; rw [h]; rfl
theorem whole_out {v : Nat} (h : wholeB v = true) : v / un * un = v ∧ v ≤ t53 := by
  unfold wholeB at h
  simpa using h
theorem whole_top : wholeB top = false := by
  unfold wholeB
  have := t53_top
  rw [decide_eq_false (show ¬ top ≤ t53 by omega), Bool.and_false]
theorem whole_in {v : Nat} (h : wholeB v = true) : Gu.inR ((v / un : Nat) : Int) = true := by
  have h2 := (whole_out h).2
  have := Nat.div_le_div_right (c := un) h2
  unfold t53 at this
  rw [Nat.mul_div_cancel _ un_pos] at this
  generalize v / un = k at this ⊢
  exact Gu.inR_mk (by omega) (by omega)
theorem inf_not : Gu.getOk infL = false := by decide
theorem rOk_inf : rOk infL = true := by decide
theorem size_read {v : Nat} (h : sizeOk v = true) : rOk (sizeL v) = true ∧ rV (sizeL v) = v := by
  unfold sizeOk at h
  unfold sizeL
  by_cases h1 : v = top
  · rw [if_pos h1]
    exact ⟨rOk_inf, by unfold rV; rw [if_pos rfl, h1]⟩
  · rw [if_neg h1]
    rw [decide_eq_false h1, Bool.false_or] at h
    rw [h, if_pos rfl]
    have hin := whole_in h
    have hg : Gu.getOk (Gu.put ((v / un : Nat) : Int)) = true := by rw [Gu.getOk_put]; exact hin
    refine ⟨by unfold rOk; rw [hg, Bool.or_true], ?_⟩
    unfold rV
    rw [if_neg (by intro e; rw [e, inf_not] at hg; cases hg), Gu.getN_put hin, Int.toNat_natCast]
    exact (whole_out h).1
theorem head_dig {l : List UInt8} (h : Gu.getOk l = true) : negL l = false := by
  have ha := (Gu.getOk_out h).2.1
  match l with
  | [] => rfl
  | c :: r =>
    rw [List.all_cons, Bool.and_eq_true] at ha
    have := Gu.dgB_out ha.1
    unfold negL
    rw [List.head?_cons, beq_eq_false_iff_ne]
    intro e
    injection e with e
    subst e
    simp at this
theorem size_head {l : List UInt8} (h : rOk l = true) : negL l = false := by
  unfold rOk at h
  by_cases h1 : l = infL
  · rw [h1]; decide
  · rw [decide_eq_false h1, Bool.false_or] at h
    exact head_dig h
theorem ex_rV (l : List UInt8) : Ex (rV l) := by
  unfold rV
  split
  · exact ex_top
  · have := Gu.getN_range l
    exact ex_un (by omega)
theorem rdF_lt (l : List UInt8) : rdF l < 18446744073709551616 := by
  unfold rdF
  split
  · exact fl_lt _ (ex_rV _).2
  · decide
/-- What is written is read as it was. -/
theorem rest_neg (m : List UInt8) : restL (45 :: m) = m ∧ negL (45 :: m) = true := ⟨rfl, rfl⟩
theorem rest_pos {m : List UInt8} (h : negL m = false) : restL m = m := by unfold restL; rw [h, if_neg (by decide)]
theorem read_neg {m : List UInt8} (h : rOk m = true) : rdOk (45 :: m) = true ∧ rdF (45 :: m) = fl true (rV m) := by
  have e1 : rdOk (45 :: m) = true := by unfold rdOk; rw [(rest_neg m).1]; exact h
  refine ⟨e1, ?_⟩
  unfold rdF
  rw [e1, if_pos rfl, (rest_neg m).1, (rest_neg m).2]
theorem read_pos {m : List UInt8} (h : rOk m = true) : rdOk m = true ∧ rdF m = fl false (rV m) := by
  have h3 := size_head h
  have e1 : rdOk m = true := by unfold rdOk; rw [rest_pos h3]; exact h
  refine ⟨e1, ?_⟩
  unfold rdF
  rw [e1, if_pos rfl, rest_pos h3, h3]
theorem text_read {b : Nat} (hb : b < 18446744073709551616) (h : tOk b = true) : rdOk (tL b) = true ∧ rdF (tL b) = b := by
  rcases kinds hb with ⟨_, h1⟩ | ⟨_, s, v, hv, rfl⟩
  · rw [tOk_nan h1] at h; cases h
  · rw [tOk_fl s hv] at h
    rw [tL_fl s hv, if_pos h]
    obtain ⟨h1, h2⟩ := size_read h
    generalize sizeL v = m at h1 h2 ⊢
    cases s
    · rw [if_neg (by decide)]
      have := read_pos h1
      rw [h2] at this
      exact this
    · rw [if_pos rfl]
      have := read_neg h1
      rw [h2] at this
      exact this
/-- What is read is written as it was. -/
theorem read_size {l : List UInt8} (h : rOk l = true) : sizeOk (rV l) = true ∧ sizeL (rV l) = l := by
  unfold rOk at h
  unfold rV
  by_cases h1 : l = infL
  · rw [if_pos h1]
    refine ⟨by unfold sizeOk; rw [decide_eq_true rfl]; rfl, by unfold sizeL; rw [if_pos rfl, h1]⟩
  · rw [if_neg h1]
    rw [decide_eq_false h1, Bool.false_or] at h
    have hr := Gu.getN_range l
    obtain ⟨n, hn⟩ : ∃ n, n = (Gu.getN l).toNat := ⟨_, rfl⟩
    have hnn : n ≤ 9007199254740992 := by omega
    rw [← hn]
    have hne : n * un ≠ top := Nat.ne_of_lt (un_lt hnn)
    have hw : wholeB (n * un) = true := by
      unfold wholeB
      rw [Nat.mul_div_cancel _ un_pos, decide_eq_true rfl, decide_eq_true (show n * un ≤ t53 from Nat.mul_le_mul_right un hnn)]
      rfl
    refine ⟨by unfold sizeOk; rw [hw, Bool.or_true], ?_⟩
    unfold sizeL
    rw [if_neg hne, hw, if_pos rfl, Nat.mul_div_cancel _ un_pos, hn, Int.toNat_of_nonneg hr.1]
    exact Gu.put_getN h
theorem read_text {l : List UInt8} (h : rdOk l = true) : tL (rdF l) = l := by
  have h0 : rOk (restL l) = true := h
  unfold rdF
  rw [h, if_pos rfl, tL_fl _ (ex_rV _)]
  obtain ⟨h1, h2⟩ := read_size h0
  rw [h1, if_pos rfl, h2]
  unfold restL
  cases hn : negL l
  · rw [if_neg (by decide), if_neg (by decide)]
  · rw [if_pos rfl, if_pos rfl]
    unfold negL at hn
    match l with
    | [] => cases hn
    | c :: r =>
      rw [List.head?_cons, beq_iff_eq] at hn
      injection hn with hn
      rw [hn, List.tail_cons]
theorem sizeL_len (v : Nat) : (sizeL v).length ≤ 16 := by
  unfold sizeL
  split
  · decide
  · split
    · exact Gu.put_len _
    · exact Nat.zero_le _
theorem tL_len (b : Nat) : (tL b).length ≤ 17 := by
  unfold tL
  have := sizeL_len (vOf b)
  split
  · split
    · rw [List.length_cons]; omega
    · omega
  · exact Nat.zero_le _
theorem rest_len (l : List UInt8) : (restL l).length ≤ l.length := by
  unfold restL; split
  · rw [List.length_tail]; omega
  · exact Nat.le_refl _
/-- What the reference reads behind a minus. -/
theorem read_two {r : List UInt8} (h : negL r = true) : rOk r = false := by
  cases hr : rOk r
  · rfl
  · rw [size_head hr] at h; cases h
theorem gt_max {v : Nat} (hv : Ex v) : (FloatKind.f64.format.order (fl false v) 9218868437227405311 == some Ordering.gt) = decide (v = top) := by
  obtain ⟨d, hd⟩ : ∃ d, d = 2045 := ⟨_, rfl⟩
  have hm := ex_val (r := 9218868437227405311) (by omega)
  have hml := val_lt (r := 9218868437227405311) (by omega)
  have hvv : val 9218868437227405311 = 9007199254740991 * 2 ^ d := by
    rw [show 9218868437227405311 = (d + 1) * 4503599627370496 + 4503599627370495 by rw [hd], val_big (by omega)]
  have hb : fl false (val 9218868437227405311) = 9218868437227405311 := by unfold fl; rw [hm.2]; rfl
  have h := gt_fl (s := false) (t := false) hv hm.1
  rw [hb] at h
  rw [h]
  refine decide_eq_decide.2 ?_
  unfold sg
  simp only [Bool.false_eq_true, if_false]
  constructor
  · intro h1
    rcases Nat.lt_or_ge v top with h2 | h2
    · exfalso
      have h3 : v ≤ val 9218868437227405311 := by
        rw [hvv]
        have h4 := Nat.div_mul_cancel hv.1
        have h5 := head_lt v
        have h6 := log2_lt_top h2
        have h7 : q v ≤ d := by unfold q; omega
        rw [← h4]
        exact Nat.mul_le_mul (by omega) (Nat.pow_le_pow_right (by decide) h7)
      omega
    · exact Nat.le_antisymm hv.2 h2
  · intro h1
    rw [h1]
    omega
end Go.Proofs.YtdkeibgfehblaaaGreatDoor.Re
