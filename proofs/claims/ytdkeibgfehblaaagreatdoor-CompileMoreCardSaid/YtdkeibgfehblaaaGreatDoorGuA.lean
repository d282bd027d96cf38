/- Layer 2 in plain words: a number's digits, the number of digits, how many digits a text begins with; there and back; the order. Conditions: none. -/
import Derived.Test.YtdkeibgfehblaaaGreatDoorLib
import Derived.Lib.ItoaLen
namespace Go.Proofs.YtdkeibgfehblaaaGreatDoor
theorem loop_eq (s : ByteArray) : ∀ (n i : Nat) (r : List UInt8), s.size - i = n → ByteArray.toList.loop s i r = r.reverse ++ (bl s).drop i := by
  intro n
  induction n with
  | zero =>
    intro i r h
    rw [ByteArray.toList.loop, if_neg (by omega), List.drop_of_length_le (by rw [bl_length]; omega), List.append_nil]
  | succ n ih =>
    intro i r h
    have hi : i < (bl s).length := by rw [bl_length]; omega
    have hg : s.get! i = (bl s)[i] := by
      have hi' : i < s.data.size := by rw [bl_length] at hi; exact hi
      show s.data[i]! = s.data.toList[i]
      rw [getElem!_pos s.data i hi', Array.getElem_toList]
    rw [ByteArray.toList.loop, if_pos (by omega), ih (i + 1) _ (by omega), List.reverse_cons, List.append_assoc, hg, List.drop_eq_getElem_cons hi]
    rfl
theorem toList_eq (s : ByteArray) : s.toList = bl s := by
  have := loop_eq s _ 0 [] rfl
  rw [List.reverse_nil, List.nil_append, List.drop_zero] at this
  exact this
theorem isEmpty_false {s : ByteArray} (h : bl s ≠ []) : s.toList.isEmpty = false := by
  rw [toList_eq]
  cases he : bl s with
  | nil => exact absurd he h
  | cons a l => rfl
namespace Gu
open Go.Lib

/-- Whether a byte is a digit. -/
def dgB (z : Int) : Bool := decide (48 ≤ z ∧ z ≤ 57)
theorem dgB_mk {z : Int} (h0 : 48 ≤ z) (h1 : z ≤ 57) : dgB z = true := by simp [dgB]; omega
theorem dgB_lo {z : Int} (h : z < 48) : dgB z = false := by simp [dgB]; omega
theorem dgB_hi {z : Int} (h : 57 < z) : dgB z = false := by simp [dgB]; omega
theorem dgB_out {z : Int} (h : dgB z = true) : 48 ≤ z ∧ z ≤ 57 := by simpa [dgB] using h
theorem dgB_not {z : Int} (h : dgB z = false) : z < 48 ∨ 57 < z := by
  by_cases h0 : z < 48
  · exact .inl h0
  · right
    rcases Int.lt_or_le 57 z with h1 | h1
    · exact h1
    · rw [dgB_mk (by omega) h1] at h; cases h
def dig (c : UInt8) : Bool := dgB c.toNat
/-- How many digits a text begins with. -/
def lead : List UInt8 → Nat
  | [] => 0
  | c :: l => if dig c then lead l + 1 else 0
theorem lead_le : ∀ l : List UInt8, lead l ≤ l.length
  | [] => Nat.le_refl _
  | c :: l => by
    have := lead_le l
    simp only [lead, List.length_cons]
    split <;> omega
theorem lead_step : ∀ (l : List UInt8) (k : Nat), k ≤ lead l → k < l.length → dig (l.getD k 0) = true → k + 1 ≤ lead l
  | [], k, _, h, _ => by simp at h
  | c :: l, 0, _, _, hd => by
    simp at hd
    simp [lead, hd]
  | c :: l, k + 1, hk, hl, hd => by
    simp only [lead] at hk ⊢
    split at hk
    · have := lead_step l k (by omega) (by simpa using hl) (by simpa using hd)
      rename_i h
      simp [h]; omega
    · omega
theorem lead_stop : ∀ (l : List UInt8) (k : Nat), k ≤ lead l → dig (l.getD k 0) = false → lead l = k
  | [], k, h, _ => by simp [lead] at h ⊢; omega
  | c :: l, 0, _, hd => by
    simp at hd
    simp [lead, hd]
  | c :: l, k + 1, hk, hd => by
    simp only [lead] at hk ⊢
    split at hk
    · have := lead_stop l k (by omega) (by simpa using hd)
      rename_i h
      simp [h]; omega
    · omega
theorem lead_all : ∀ l : List UInt8, lead l = l.length ↔ l.all dig = true
  | [] => by simp [lead]
  | c :: l => by
    have h := lead_all l
    have hl := lead_le l
    simp only [lead, List.length_cons, List.all_cons, Bool.and_eq_true]
    split
    · rename_i hc; rw [← h]; simp [hc]
    · rename_i hc; simp [hc]

/-- The number of digits. -/
def val (l : List UInt8) : Nat := l.foldl (fun n c => 10 * n + (c.toNat - 48)) 0
theorem val_snoc (l : List UInt8) (c : UInt8) : val (l ++ [c]) = 10 * val l + (c.toNat - 48) := by simp [val]
theorem take_snoc (l : List UInt8) (k : Nat) (h : k < l.length) : l.take (k + 1) = l.take k ++ [l.getD k 0] := by
  rw [List.take_succ_eq_append_getElem h, List.getD_eq_getElem?_getD, List.getElem?_eq_getElem h]; rfl
theorem val_take_succ (l : List UInt8) (k : Nat) (h : k < l.length) : val (l.take (k + 1)) = 10 * val (l.take k) + ((l.getD k 0).toNat - 48) := by
  rw [take_snoc l k h, val_snoc]
theorem val_mono (l m : List UInt8) : val l ≤ val (l ++ m) := by
  induction m generalizing l with
  | nil => simp
  | cons c m ih =>
    have := ih (l ++ [c])
    rw [val_snoc] at this
    rw [List.append_assoc] at this
    simp only [List.singleton_append] at this
    omega
theorem val_take_le (l : List UInt8) (k : Nat) : val (l.take k) ≤ val l := by
  have := val_mono (l.take k) (l.drop k)
  rwa [List.take_append_drop] at this
theorem all_take_succ (l : List UInt8) (k : Nat) (h : k < l.length) : (l.take (k + 1)).all dig = ((l.take k).all dig && dig (l.getD k 0)) := by
  rw [take_snoc l k h]; simp
theorem all_not (l : List UInt8) (k : Nat) (h : k < l.length) (hd : dig (l.getD k 0) = false) : l.all dig = false := by
  rw [← Bool.not_eq_true]
  intro ha
  rw [List.all_eq_true] at ha
  have := ha (l.getD k 0) (by rw [List.getD_eq_getElem?_getD, List.getElem?_eq_getElem h]; exact List.getElem_mem h)
  rw [this] at hd; cases hd

/-- The greatest number. -/
def most : Nat := 9007199254740992
/-- Whether a number has digits. -/
def inR (n : Int) : Bool := decide (0 ≤ n ∧ n ≤ 9007199254740992)
theorem inR_mk {n : Int} (h0 : 0 ≤ n) (h1 : n ≤ 9007199254740992) : inR n = true := by simp [inR]; omega
theorem inR_lo {n : Int} (h : n < 0) : inR n = false := by simp [inR]; omega
theorem inR_hi {n : Int} (h : 9007199254740992 < n) : inR n = false := by simp [inR]; omega
theorem inR_out {n : Int} (h : inR n = true) : 0 ≤ n ∧ n ≤ 9007199254740992 := by simpa [inR] using h
/-- The digits of a number; none, if it has none. -/
def put (n : Int) : List UInt8 := if inR n then decDigits n.toNat else []
theorem put_in {n : Int} (h : inR n = true) : put n = decDigits n.toNat := by simp [put, h]
theorem put_out {n : Int} (h : inR n = false) : put n = [] := by simp [put, h]
/-- No nought ahead, and something at all. -/
def headOk (l : List UInt8) : Bool := decide (l ≠ [] ∧ (l.getD 0 0 ≠ 48 ∨ l.length = 1))
/-- Whether a text is the digits of a number. -/
def getOk (l : List UInt8) : Bool := headOk l && l.all dig && decide (val l ≤ 9007199254740992)
/-- The number whose digits a text is. -/
def getN (l : List UInt8) : Int := if getOk l then (val l : Int) else 0

theorem digit_byte (n : Nat) (h : n < 10) : (UInt8.ofNat (48 + n)).toNat = 48 + n := by
  rw [UInt8.toNat_ofNat']; omega
theorem dig_byte (n : Nat) (h : n < 10) : dig (UInt8.ofNat (48 + n)) = true := by
  unfold dig; rw [digit_byte n h]; exact dgB_mk (by omega) (by omega)
theorem byte_of (c : UInt8) (h : dig c = true) : UInt8.ofNat (48 + (c.toNat - 48)) = c := by
  have := dgB_out h
  rw [show 48 + (c.toNat - 48) = c.toNat by omega]; exact UInt8.ofNat_toNat
theorem dec_small {u : Nat} (h : u < 10) : decDigits u = [UInt8.ofNat (48 + u)] := by rw [decDigits, dif_pos h]
theorem dec_big {u : Nat} (h : ¬ u < 10) : decDigits u = decDigits (u / 10) ++ [UInt8.ofNat (48 + u % 10)] := by rw [decDigits, dif_neg h]
theorem dec_ne (u : Nat) : decDigits u ≠ [] := by
  by_cases h : u < 10
  · rw [dec_small h]; simp
  · rw [dec_big h]; simp
theorem dec_all (u : Nat) : (decDigits u).all dig = true := by
  induction u using Nat.strongRecOn with
  | _ u ih =>
    by_cases h : u < 10
    · rw [dec_small h, List.all_cons, dig_byte u h]; rfl
    · rw [dec_big h, List.all_append, ih (u / 10) (by omega), List.all_cons, dig_byte (u % 10) (by omega)]; rfl
theorem val_dec (u : Nat) : val (decDigits u) = u := by
  induction u using Nat.strongRecOn with
  | _ u ih =>
    by_cases h : u < 10
    · rw [dec_small h]; simp only [val, List.foldl_cons, List.foldl_nil]; rw [digit_byte u h]; omega
    · rw [dec_big h, val_snoc, ih (u / 10) (by omega), digit_byte (u % 10) (by omega)]; omega
theorem getD_append_zero (l m : List UInt8) (h : l ≠ []) : (l ++ m).getD 0 0 = l.getD 0 0 := by
  cases l with
  | nil => exact absurd rfl h
  | cons a l => rfl
theorem dec_head (u : Nat) : u = 0 ∨ (decDigits u).getD 0 0 ≠ 48 := by
  induction u using Nat.strongRecOn with
  | _ u ih =>
    by_cases h : u < 10
    · rcases Nat.eq_zero_or_pos u with h0 | h0
      · exact .inl h0
      · right
        rw [dec_small h]
        intro e
        have := congrArg UInt8.toNat (show UInt8.ofNat (48 + u) = 48 from e)
        rw [digit_byte u h] at this
        have h48 : (48 : UInt8).toNat = 48 := rfl
        omega
    · right
      rw [dec_big h, getD_append_zero _ _ (dec_ne _)]
      rcases ih (u / 10) (by omega) with h0 | h0
      · omega
      · exact h0
theorem dec_headOk (u : Nat) : headOk (decDigits u) = true := by
  simp only [headOk, decide_eq_true_eq]
  refine ⟨dec_ne u, ?_⟩
  rcases dec_head u with rfl | h
  · right; rw [dec_small (by omega)]; rfl
  · exact .inl h
theorem getOk_dec (u : Nat) (h : u ≤ 9007199254740992) : getOk (decDigits u) = true := by
  simp [getOk, dec_headOk, dec_all, val_dec, h]
theorem val_pos (l : List UInt8) (hn : l ≠ []) (ha : l.all dig = true) (hh : l.getD 0 0 ≠ 48) : 1 ≤ val l := by
  cases l with
  | nil => exact absurd rfl hn
  | cons c l =>
    have h1 := val_mono [c] l
    simp only [List.singleton_append] at h1
    have h2 : val [c] = c.toNat - 48 := by simp [val]
    simp only [List.all_cons, Bool.and_eq_true] at ha
    have h3 := dgB_out ha.1
    have h4 : c.toNat ≠ 48 := by
      intro e
      apply hh
      show c = 48
      exact UInt8.toNat_inj.1 e
    omega
theorem dec_val : ∀ (n : Nat) (l : List UInt8), l.length = n → l.all dig = true → headOk l = true → decDigits (val l) = l := by
  intro n
  induction n with
  | zero =>
    intro l hl _ hh
    simp only [headOk, decide_eq_true_eq] at hh
    exact absurd (List.eq_nil_of_length_eq_zero hl) hh.1
  | succ n ih =>
    intro l hl ha hh
    simp only [headOk, decide_eq_true_eq] at hh
    obtain ⟨m, c, rfl⟩ : ∃ m c, l = m ++ [c] := ⟨l.dropLast, l.getLast hh.1, (List.dropLast_concat_getLast hh.1).symm⟩
    have hlm : m.length = n := by simp at hl; exact hl
    rw [List.all_append, Bool.and_eq_true] at ha
    have hc : dig c = true := by simpa using ha.2
    have hc2 := dgB_out hc
    rw [val_snoc]
    cases m with
    | nil =>
      have : val [] = 0 := rfl
      rw [this, dec_small (by omega)]
      simp only [List.nil_append]
      rw [show 48 + (10 * 0 + (c.toNat - 48)) = 48 + (c.toNat - 48) by omega, byte_of c hc]
    | cons a m =>
      have h0 : (a :: m).getD 0 0 ≠ 48 := by
        rcases hh.2 with h | h
        · exact h
        · simp at h
      have hp := val_pos (a :: m) (by simp) ha.1 h0
      have hi := ih (a :: m) hlm ha.1 (by simp only [headOk, decide_eq_true_eq]; exact ⟨by simp, .inl h0⟩)
      rw [dec_big (by omega), show (10 * val (a :: m) + (c.toNat - 48)) / 10 = val (a :: m) by omega, show (10 * val (a :: m) + (c.toNat - 48)) % 10 = c.toNat - 48 by omega, hi, byte_of c hc]
theorem getOk_out {l : List UInt8} (h : getOk l = true) : headOk l = true ∧ l.all dig = true ∧ val l ≤ 9007199254740992 := by
  simpa [getOk, and_assoc] using h
theorem getOk_mk {l : List UInt8} (h0 : headOk l = true) (h1 : l.all dig = true) (h2 : val l ≤ 9007199254740992) : getOk l = true := by
  simp only [getOk, Bool.and_eq_true, decide_eq_true_eq]; exact ⟨⟨h0, h1⟩, h2⟩
theorem getOk_nohead {l : List UInt8} (h : headOk l = false) : getOk l = false := by simp [getOk, h]
theorem getOk_noall {l : List UInt8} (h : l.all dig = false) : getOk l = false := by simp [getOk, h]
theorem getOk_great {l : List UInt8} (h : 9007199254740992 < val l) : getOk l = false := by
  simp only [getOk, Bool.and_eq_false_iff, decide_eq_false_iff_not]; right; omega
theorem dec_getN {l : List UInt8} (h : getOk l = true) : decDigits (val l) = l :=
  dec_val _ l rfl (getOk_out h).2.1 (getOk_out h).1
theorem getN_ok {l : List UInt8} (h : getOk l = true) : getN l = val l := by simp [getN, h]
theorem getN_no {l : List UInt8} (h : getOk l = false) : getN l = 0 := by simp [getN, h]
theorem getN_range (l : List UInt8) : 0 ≤ getN l ∧ getN l ≤ 9007199254740992 := by
  by_cases h : getOk l = true
  · rw [getN_ok h]; have := (getOk_out h).2.2; omega
  · rw [getN_no (by simpa using h)]; omega
/-- A text that is digits is those of its number. -/
theorem put_getN {l : List UInt8} (h : getOk l = true) : put (getN l) = l := by
  have hr := getN_range l
  rw [put_in (inR_mk hr.1 hr.2), getN_ok h, Int.toNat_natCast, dec_getN h]
theorem getOk_put (n : Int) : getOk (put n) = inR n := by
  by_cases h : inR n = true
  · have := inR_out h
    rw [put_in h, h]; exact getOk_dec _ (by omega)
  · have h : inR n = false := by simpa using h
    rw [put_out h, h]; rfl
theorem getN_put {n : Int} (h : inR n = true) : getN (put n) = n := by
  have h1 := inR_out h
  rw [getN_ok (by rw [getOk_put, h]), put_in h, val_dec]; omega
theorem lead_put (n : Int) : lead (put n) = (put n).length := by
  rw [lead_all]
  by_cases h : inR n = true
  · rw [put_in h]; exact dec_all _
  · rw [put_out (by simpa using h)]; rfl
theorem lead_ok {l : List UInt8} (h : getOk l = true) : lead l = l.length := (lead_all l).2 (getOk_out h).2.1

theorem nDigits_le : ∀ (k u : Nat), 1 ≤ k → u < 10 ^ k → nDigits u ≤ k := by
  intro k
  induction k with
  | zero => intro u h; omega
  | succ k ih =>
    intro u _ h
    by_cases hu : u < 10
    · rw [nDigits_small hu]; omega
    · rw [nDigits_big hu]
      have hk : 1 ≤ k := by
        rcases Nat.eq_zero_or_pos k with rfl | h0
        · simp at h; omega
        · exact h0
      have := ih (u / 10) hk (by rw [Nat.pow_succ] at h; omega)
      omega
theorem getOk_len {l : List UInt8} (h : getOk l = true) : l.length ≤ 16 := by
  have h1 := dec_getN h
  have h2 := (getOk_out h).2.2
  rw [← h1, decDigits_length]
  exact nDigits_le 16 _ (by omega) (Nat.lt_of_le_of_lt h2 (by decide))
theorem put_len (n : Int) : (put n).length ≤ 16 := by
  by_cases h : inR n = true
  · exact getOk_len (by rw [getOk_put, h])
  · rw [put_out (by simpa using h)]; simp
theorem val_lt (l : List UInt8) (h : l.all dig = true) : val l < 10 ^ l.length := by
  induction hn : l.length generalizing l with
  | zero => rw [List.eq_nil_of_length_eq_zero hn]; simp [val]
  | succ n ih =>
    have hne : l ≠ [] := by intro e; rw [e] at hn; simp at hn
    obtain ⟨m, c, rfl⟩ : ∃ m c, l = m ++ [c] := ⟨l.dropLast, l.getLast hne, (List.dropLast_concat_getLast hne).symm⟩
    rw [List.all_append, Bool.and_eq_true] at h
    have hc := dgB_out (show dig c = true by simpa using h.2)
    have := ih m h.1 (by simpa using hn)
    rw [val_snoc, Nat.pow_succ]; omega
/-- The reference's way: a text is digits just if it is put back. -/
theorem getOk_ref {l : List UInt8} (ha : lead l = l.length) : getOk l = (inR (val l) && decide (put (val l) = l)) := by
  have ha := (lead_all l).1 ha
  rw [Bool.eq_iff_iff, Bool.and_eq_true, decide_eq_true_eq]
  constructor
  · intro h
    have h1 := getOk_out h
    have hr : inR (val l) = true := inR_mk (by omega) (by omega)
    exact ⟨hr, by rw [put_in hr, Int.toNat_natCast, dec_getN h]⟩
  · rintro ⟨hr, he⟩
    rw [← he, getOk_put, hr]
theorem getOk_long {l : List UInt8} (h : 16 < l.length) : getOk l = false := by
  rw [← Bool.not_eq_true]
  intro e
  have := getOk_len e
  omega
theorem getOk_lead {l : List UInt8} (h : lead l < l.length) : getOk l = false := by
  rw [← Bool.not_eq_true]
  intro e
  have := lead_ok e
  omega
theorem getOk_nil {l : List UInt8} (h : l.length = 0) : getOk l = false := by
  rw [List.eq_nil_of_length_eq_zero h]; rfl
theorem put_inj {a b : Int} (ha : inR a = true) (hb : inR b = true) (h : put a = put b) : a = b := by
  rw [← getN_put ha, ← getN_put hb, h]
theorem dig_at (s : ByteArray) (k : Nat) : dig ((bl s).getD k 0) = dgB (byteAt s (k : Int)) := rfl
theorem val_next (s : ByteArray) (k : Nat) (h : k < s.size) (hd : dgB (byteAt s (k : Int)) = true) : (val ((bl s).take (k + 1)) : Int) = 10 * (val ((bl s).take k) : Int) + (byteAt s (k : Int) - 48) := by
  rw [val_take_succ _ _ (by rw [bl_length]; exact h)]
  have h1 := dgB_out hd
  have h2 : byteAt s (k : Int) = (((bl s).getD k 0).toNat : Int) := rfl
  omega
theorem all_next (s : ByteArray) (k : Nat) (h : k < s.size) (ha : ((bl s).take k).all dig = true) (hd : dgB (byteAt s (k : Int)) = true) : ((bl s).take (k + 1)).all dig = true := by
  rw [all_take_succ _ _ (by rw [bl_length]; exact h), ha, dig_at, hd]; rfl
theorem no_digit (s : ByteArray) (k : Nat) (h : k < s.size) (hd : dgB (byteAt s (k : Int)) = false) : getOk (bl s) = false :=
  getOk_noall (all_not _ k (by rw [bl_length]; exact h) hd)
theorem too_great (s : ByteArray) (k : Nat) (h : k < s.size) (hd : dgB (byteAt s (k : Int)) = true) (hg : 9007199254740992 < 10 * (val ((bl s).take k) : Int) + (byteAt s (k : Int) - 48)) : getOk (bl s) = false := by
  apply getOk_great
  have h1 := val_next s k h hd
  have h2 := val_take_le (bl s) (k + 1)
  omega
theorem all_read (s : ByteArray) (hh : headOk (bl s) = true) (ha : ((bl s).take s.size).all dig = true) (hv : val ((bl s).take s.size) ≤ 9007199254740992) : getOk (bl s) = true := by
  rw [List.take_of_length_le (by rw [bl_length]; omega)] at ha hv
  exact getOk_mk hh ha hv
theorem val_whole (s : ByteArray) : val ((bl s).take s.size) = val (bl s) := by rw [List.take_of_length_le (by rw [bl_length]; omega)]
theorem less_snoc : ∀ (p q : List UInt8) (x y : UInt8), p.length = q.length → Op.bytesLess (p ++ [x]) (q ++ [y]) = (Op.bytesLess p q || (decide (p = q) && decide (x < y)))
  | [], [], x, y, _ => by simp [Op.bytesLess]
  | a :: p, b :: q, x, y, h => by
    have ih := less_snoc p q x y (by simpa using h)
    simp only [List.cons_append, Op.bytesLess, ih]
    by_cases hab : a = b
    · subst hab
      simp
    · have hab' : (a == b) = false := beq_eq_false_iff_ne.2 hab
      simp [hab, hab']
theorem val_inj : ∀ (n : Nat) (p q : List UInt8), p.length = n → q.length = n → p.all dig = true → q.all dig = true → val p = val q → p = q := by
  intro n
  induction n with
  | zero => intro p q hp hq _ _ _; rw [List.eq_nil_of_length_eq_zero hp, List.eq_nil_of_length_eq_zero hq]
  | succ n ih =>
    intro p q hp hq ap aq hv
    have hpn : p ≠ [] := by intro e; rw [e] at hp; simp at hp
    have hqn : q ≠ [] := by intro e; rw [e] at hq; simp at hq
    obtain ⟨p, x, rfl⟩ : ∃ m c, p = m ++ [c] := ⟨p.dropLast, p.getLast hpn, (List.dropLast_concat_getLast hpn).symm⟩
    obtain ⟨q, y, rfl⟩ : ∃ m c, q = m ++ [c] := ⟨q.dropLast, q.getLast hqn, (List.dropLast_concat_getLast hqn).symm⟩
    rw [List.all_append, Bool.and_eq_true] at ap aq
    have hx := dgB_out (show dig x = true by simpa using ap.2)
    have hy := dgB_out (show dig y = true by simpa using aq.2)
    rw [val_snoc, val_snoc] at hv
    have h1 := ih p q (by simpa using hp) (by simpa using hq) ap.1 aq.1 (by omega)
    have h2 : x = y := UInt8.toNat_inj.1 (by omega)
    rw [h1, h2]
theorem less_val : ∀ (n : Nat) (p q : List UInt8), p.length = n → q.length = n → p.all dig = true → q.all dig = true → Op.bytesLess p q = decide (val p < val q) := by
  intro n
  induction n with
  | zero => intro p q hp hq _ _; rw [List.eq_nil_of_length_eq_zero hp, List.eq_nil_of_length_eq_zero hq]; rfl
  | succ n ih =>
    intro p q hp hq ap aq
    have hpn : p ≠ [] := by intro e; rw [e] at hp; simp at hp
    have hqn : q ≠ [] := by intro e; rw [e] at hq; simp at hq
    obtain ⟨p, x, rfl⟩ : ∃ m c, p = m ++ [c] := ⟨p.dropLast, p.getLast hpn, (List.dropLast_concat_getLast hpn).symm⟩
    obtain ⟨q, y, rfl⟩ : ∃ m c, q = m ++ [c] := ⟨q.dropLast, q.getLast hqn, (List.dropLast_concat_getLast hqn).symm⟩
    rw [List.all_append, Bool.and_eq_true] at ap aq
    have hx := dgB_out (show dig x = true by simpa using ap.2)
    have hy := dgB_out (show dig y = true by simpa using aq.2)
    have hp' : p.length = n := by simpa using hp
    have hq' : q.length = n := by simpa using hq
    rw [less_snoc p q x y (by omega), ih p q hp' hq' ap.1 aq.1, val_snoc, val_snoc, Bool.eq_iff_iff, Bool.or_eq_true, Bool.and_eq_true, decide_eq_true_eq, decide_eq_true_eq, decide_eq_true_eq, decide_eq_true_eq, UInt8.lt_iff_toNat_lt]
    constructor
    · rintro (h | ⟨rfl, h⟩) <;> omega
    · intro h
      by_cases e : val p = val q
      · exact .inr ⟨val_inj n p q hp' hq' ap.1 aq.1 e, by omega⟩
      · left; omega
theorem nDigits_mono {u v : Nat} (h : u ≤ v) : nDigits u ≤ nDigits v := nDigits_le _ _ (nDigits_pos v) (Nat.lt_of_le_of_lt h (lt_pow_nDigits v))
theorem less_dec {u v : Nat} (h : nDigits u = nDigits v) : Op.bytesLess (decDigits u) (decDigits v) = decide (u < v) := by
  rw [less_val _ _ _ (decDigits_length u) ((decDigits_length v).trans h.symm) (dec_all u) (dec_all v), val_dec, val_dec]
/-- Of two numbers the smaller one has fewer digits, or smaller ones. -/
theorem rises {a b : Int} (ha : inR a = true) (hb : inR b = true) (h : a < b) :
    ((put a).length < (put b).length) ∨ ((put a).length = (put b).length ∧ Op.bytesLess (put a) (put b) = true) := by
  have h1 := inR_out ha
  have h2 := inR_out hb
  rw [put_in ha, put_in hb, decDigits_length, decDigits_length]
  have hm := nDigits_mono (show a.toNat ≤ b.toNat by omega)
  by_cases e : nDigits a.toNat = nDigits b.toNat
  · exact .inr ⟨e, by rw [less_dec e]; simp; omega⟩
  · left; omega
theorem falls {a b : Int} (ha : inR a = true) (hb : inR b = true) (h : b ≤ a) :
    ¬ ((put a).length < (put b).length) ∧ ((put a).length = (put b).length → Op.bytesLess (put a) (put b) = false) := by
  have h1 := inR_out ha
  have h2 := inR_out hb
  rw [put_in ha, put_in hb, decDigits_length, decDigits_length]
  have hm := nDigits_mono (show b.toNat ≤ a.toNat by omega)
  exact ⟨by omega, fun e => by rw [less_dec e]; simp; omega⟩
end Gu
end Go.Proofs.YtdkeibgfehblaaaGreatDoor
