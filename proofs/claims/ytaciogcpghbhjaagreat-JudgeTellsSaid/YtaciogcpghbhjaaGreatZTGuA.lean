/- Of these texts: GuA, LxA. Conditions: as each part says. -/
import Derived.Test.YtaciogcpghbhjaaGreatZTLib
import Derived.Lib.ItoaLen
/- Layer 2 in plain words: a number's digits, the number of digits, how many digits a text begins with; there and back; the order. Conditions: none. -/
namespace Go.Proofs.YtaciogcpghbhjaaGreat
theorem loop_eq (s : ByteArray) : ∀ (n i : Nat) (r : List UInt8), s.size - i = n -> ByteArray.toList.loop s i r = r.reverse ++ (bl s).drop i := by
 intro n
 induction n with
 | zero =>
   intro i r h
   rw [ByteArray.toList.loop, if_neg (by omega), List.drop_of_length_le (by rw [bl_length]; omega), List.append_nil]
 | succ n ih =>
   intro i r h
   have hi : i < (bl s).length := by rw [bl_length]; omega
   have hg : s.get! i = (bl s)[i] := by
    have hi' : i < s.data.size := by rw [bl_length] at hi; exact hi
    show s.data[i]! = s.data.toList[i]
    rw [getElem!_pos s.data i hi', Array.getElem_toList]
   rw [ByteArray.toList.loop, if_pos (by omega), ih (i + 1) _ (by omega), List.reverse_cons, List.append_assoc, hg, List.drop_eq_getElem_cons hi]
   rfl
theorem toList_eq (s : ByteArray) : s.toList = bl s := by
 have := loop_eq s _ 0 [] rfl
 rw [List.reverse_nil, List.nil_append, List.drop_zero] at this
 exact this
namespace Gu
open Go.Lib
def dgB (z : Int) : Bool := decide (48 <= z ∧ z <= 57)
theorem dgB_mk {z : Int} (h0 : 48 <= z) (h1 : z <= 57) : dgB z = true := by simp [dgB]; omega
theorem dgB_out {z : Int} (h : dgB z = true) : 48 <= z ∧ z <= 57 := by simpa [dgB] using h
def dig (c : UInt8) : Bool := dgB c.toNat
def lead : List UInt8 -> Nat
 | [] => 0
 | c :: l => if dig c then lead l + 1 else 0
def val (l : List UInt8) : Nat := l.foldl (fun n c => 10 * n + (c.toNat - 48)) 0
theorem val_snoc (l : List UInt8) (c : UInt8) : val (l ++ [c]) = 10 * val l + (c.toNat - 48) := by simp [val]
theorem take_snoc (l : List UInt8) (k : Nat) (h : k < l.length) : l.take (k + 1) = l.take k ++ [l.getD k 0] := by
 rw [List.take_succ_eq_append_getElem h, List.getD_eq_getElem?_getD, List.getElem?_eq_getElem h]; rfl
theorem val_mono (l m : List UInt8) : val l <= val (l ++ m) := by
 induction m generalizing l with
 | nil => simp
 | cons c m ih =>
   have := ih (l ++ [c])
   rw [val_snoc] at this
   rw [List.append_assoc] at this
   simp only [List.singleton_append] at this
   omega
def inR (n : Int) : Bool := decide (0 <= n ∧ n <= 9007199254740992)
theorem inR_mk {n : Int} (h0 : 0 <= n) (h1 : n <= 9007199254740992) : inR n = true := by simp [inR]; omega
theorem inR_lo {n : Int} (h : n < 0) : inR n = false := by simp [inR]; omega
theorem inR_hi {n : Int} (h : 9007199254740992 < n) : inR n = false := by simp [inR]; omega
theorem inR_out {n : Int} (h : inR n = true) : 0 <= n ∧ n <= 9007199254740992 := by simpa [inR] using h
def put (n : Int) : List UInt8 := if inR n then decDigits n.toNat else []
theorem put_in {n : Int} (h : inR n = true) : put n = decDigits n.toNat := by simp [put, h]
theorem put_out {n : Int} (h : inR n = false) : put n = [] := by simp [put, h]
def headOk (l : List UInt8) : Bool := decide (l ≠ [] ∧ (l.getD 0 0 ≠ 48 ∨ l.length = 1))
def getOk (l : List UInt8) : Bool := headOk l && l.all dig && decide (val l <= 9007199254740992)
def getN (l : List UInt8) : Int := if getOk l then (val l : Int) else 0
theorem digit_byte (n : Nat) (h : n < 10) : (UInt8.ofNat (48 + n)).toNat = 48 + n := by
 rw [UInt8.toNat_ofNat']; omega
theorem dig_byte (n : Nat) (h : n < 10) : dig (UInt8.ofNat (48 + n)) = true := by
 unfold dig; rw [digit_byte n h]; exact dgB_mk (by omega) (by omega)
theorem byte_of (c : UInt8) (h : dig c = true) : UInt8.ofNat (48 + (c.toNat - 48)) = c := by
 have := dgB_out h
 rw [show 48 + (c.toNat - 48) = c.toNat by omega]; exact UInt8.ofNat_toNat
theorem dec_small {u : Nat} (h : u < 10) : decDigits u = [UInt8.ofNat (48 + u)] := by rw [decDigits, dif_pos h]
theorem dec_big {u : Nat} (h : ¬ u < 10) : decDigits u = decDigits (u / 10) ++ [UInt8.ofNat (48 + u % 10)] := by rw [decDigits, dif_neg h]
theorem dec_ne (u : Nat) : decDigits u ≠ [] := by
 by_cases h : u < 10
 ·rw [dec_small h]; simp
 ·rw [dec_big h]; simp
theorem dec_all (u : Nat) : (decDigits u).all dig = true := by
 induction u using Nat.strongRecOn with
 | _ u ih =>
   by_cases h : u < 10
   ·rw [dec_small h, List.all_cons, dig_byte u h]; rfl
   ·rw [dec_big h, List.all_append, ih (u / 10) (by omega), List.all_cons, dig_byte (u % 10) (by omega)]; rfl
theorem val_dec (u : Nat) : val (decDigits u) = u := by
 induction u using Nat.strongRecOn with
 | _ u ih =>
   by_cases h : u < 10
   ·rw [dec_small h]; simp only [val, List.foldl_cons, List.foldl_nil]; rw [digit_byte u h]; omega
   ·rw [dec_big h, val_snoc, ih (u / 10) (by omega), digit_byte (u % 10) (by omega)]; omega
theorem getD_append_zero (l m : List UInt8) (h : l ≠ []) : (l ++ m).getD 0 0 = l.getD 0 0 := by
 cases l with
 | nil => exact absurd rfl h
 | cons a l => rfl
theorem dec_head (u : Nat) : u = 0 ∨ (decDigits u).getD 0 0 ≠ 48 := by
 induction u using Nat.strongRecOn with
 | _ u ih =>
   by_cases h : u < 10
   ·rcases Nat.eq_zero_or_pos u with h0 | h0
    ·exact .inl h0
    ·right
     rw [dec_small h]
     intro e
     have := congrArg UInt8.toNat (show UInt8.ofNat (48 + u) = 48 from e)
     rw [digit_byte u h] at this
     have h48 : (48 : UInt8).toNat = 48 := rfl
     omega
   ·right
    rw [dec_big h, getD_append_zero _ _ (dec_ne _)]
    rcases ih (u / 10) (by omega) with h0 | h0
    ·omega
    ·exact h0
theorem dec_headOk (u : Nat) : headOk (decDigits u) = true := by
 simp only [headOk, decide_eq_true_eq]
 refine ⟨dec_ne u, ?_⟩
 rcases dec_head u with rfl | h
 ·right; rw [dec_small (by omega)]; rfl
 ·exact .inl h
theorem getOk_dec (u : Nat) (h : u <= 9007199254740992) : getOk (decDigits u) = true := by
 simp [getOk, dec_headOk, dec_all, val_dec, h]
theorem val_pos (l : List UInt8) (hn : l ≠ []) (ha : l.all dig = true) (hh : l.getD 0 0 ≠ 48) : 1 <= val l := by
 cases l with
 | nil => exact absurd rfl hn
 | cons c l =>
   have h1 := val_mono [c] l
   simp only [List.singleton_append] at h1
   have h2 : val [c] = c.toNat - 48 := by simp [val]
   simp only [List.all_cons, Bool.and_eq_true] at ha
   have h3 := dgB_out ha.1
   have h4 : c.toNat ≠ 48 := by
    intro e
    apply hh
    show c = 48
    exact UInt8.toNat_inj.1 e
   omega
theorem dec_val : ∀ (n : Nat) (l : List UInt8), l.length = n -> l.all dig = true -> headOk l = true -> decDigits (val l) = l := by
 intro n
 induction n with
 | zero =>
   intro l hl _ hh
   simp only [headOk, decide_eq_true_eq] at hh
   exact absurd (List.eq_nil_of_length_eq_zero hl) hh.1
 | succ n ih =>
   intro l hl ha hh
   simp only [headOk, decide_eq_true_eq] at hh
   obtain ⟨m, c, rfl⟩ : ∃ m c, l = m ++ [c] := ⟨l.dropLast, l.getLast hh.1, (List.dropLast_concat_getLast hh.1).symm⟩
   have hlm : m.length = n := by simp at hl; exact hl
   rw [List.all_append, Bool.and_eq_true] at ha
   have hc : dig c = true := by simpa using ha.2
   have hc2 := dgB_out hc
   rw [val_snoc]
   cases m with
   | nil =>
     have : val [] = 0 := rfl
     rw [this, dec_small (by omega)]
     simp only [List.nil_append]
     rw [show 48 + (10 * 0 + (c.toNat - 48)) = 48 + (c.toNat - 48) by omega, byte_of c hc]
   | cons a m =>
     have h0 : (a :: m).getD 0 0 ≠ 48 := by
      rcases hh.2 with h | h
      ·exact h
      ·simp at h
     have hp := val_pos (a :: m) (by simp) ha.1 h0
     have hi := ih (a :: m) hlm ha.1 (by simp only [headOk, decide_eq_true_eq]; exact ⟨by simp, .inl h0⟩)
     rw [dec_big (by omega), show (10 * val (a :: m) + (c.toNat - 48)) / 10 = val (a :: m) by omega, show (10 * val (a :: m) + (c.toNat - 48)) % 10 = c.toNat - 48 by omega, hi, byte_of c hc]
theorem getOk_out {l : List UInt8} (h : getOk l = true) : headOk l = true ∧ l.all dig = true ∧ val l <= 9007199254740992 := by
 simpa [getOk, and_assoc] using h
theorem dec_getN {l : List UInt8} (h : getOk l = true) : decDigits (val l) = l :=
 dec_val _ l rfl (getOk_out h).2.1 (getOk_out h).1
theorem getOk_put (n : Int) : getOk (put n) = inR n := by
 by_cases h : inR n = true
 ·have := inR_out h
  rw [put_in h, h]; exact getOk_dec _ (by omega)
 ·have h : inR n = false := by simpa using h
  rw [put_out h, h]; rfl
theorem nDigits_le : ∀ (k u : Nat), 1 <= k -> u < 10 ^ k -> nDigits u <= k := by
 intro k
 induction k with
 | zero => intro u h; omega
 | succ k ih =>
   intro u _ h
   by_cases hu : u < 10
   ·rw [nDigits_small hu]; omega
   ·rw [nDigits_big hu]
    have hk : 1 <= k := by
     rcases Nat.eq_zero_or_pos k with rfl | h0
     ·simp at h; omega
     ·exact h0
    have := ih (u / 10) hk (by rw [Nat.pow_succ] at h; omega)
    omega
theorem getOk_len {l : List UInt8} (h : getOk l = true) : l.length <= 16 := by
 have h1 := dec_getN h
 have h2 := (getOk_out h).2.2
 rw [<- h1, decDigits_length]
 exact nDigits_le 16 _ (by omega) (Nat.lt_of_le_of_lt h2 (by decide))
theorem put_len (n : Int) : (put n).length <= 16 := by
 by_cases h : inR n = true
 ·exact getOk_len (by rw [getOk_put, h])
 ·rw [put_out (by simpa using h)]; simp
theorem val_lt (l : List UInt8) (h : l.all dig = true) : val l < 10 ^ l.length := by
 induction hn : l.length generalizing l with
 | zero => rw [List.eq_nil_of_length_eq_zero hn]; simp [val]
 | succ n ih =>
   have hne : l ≠ [] := by intro e; rw [e] at hn; simp at hn
   obtain ⟨m, c, rfl⟩ : ∃ m c, l = m ++ [c] := ⟨l.dropLast, l.getLast hne, (List.dropLast_concat_getLast hne).symm⟩
   rw [List.all_append, Bool.and_eq_true] at h
   have hc := dgB_out (show dig c = true by simpa using h.2)
   have := ih m h.1 (by simpa using hn)
   rw [val_snoc, Nat.pow_succ]; omega
end Gu
end Go.Proofs.YtaciogcpghbhjaaGreat
/- Tokens in plain words: the piece with which a text begins, the tokens of a text or the line where there is none; texts put together; tokens' texts with blanks between. Conditions: none. -/
structure Go.Proofs.YtaciogcpghbhjaaGreat.TokP where
 kind : Int
 text : ByteArray
 num : Int
 line : Int
namespace Go.Proofs.YtaciogcpghbhjaaGreat.Lx
set_option linter.unusedVariables false
open Go.Proofs.YtaciogcpghbhjaaGreat.Gu (lead dig dgB getOk getN)
def lwB (z : Int) : Bool := decide (97 <= z ∧ z <= 122)
def low (c : UInt8) : Bool := lwB c.toNat
def run (p : UInt8 -> Bool) : List UInt8 -> Nat
 | [] => 0
 | c :: l => if p c then run p l + 1 else 0
def noLf (c : UInt8) : Bool := !(c == 10)
def mark (c : UInt8) : Bool := c == 40 || c == 41 || c == 44 || c == 59
def blank (c : UInt8) : Bool := c == 32 || c == 9 || c == 10 || c == 13
def none_ : TokP := ⟨0, st [], 0, 0⟩
def piece (c : UInt8) (t : List UInt8) : Option (Nat × TokP) :=
 if low c then some (run low t, ⟨1, st (c :: t.take (run low t)), 0, 0⟩)
 else if dig c then (if getOk (c :: t.take (run dig t)) then some (run dig t, ⟨2, st (c :: t.take (run dig t)), getN (c :: t.take (run dig t)), 0⟩) else none)
 else if mark c then some (0, ⟨3, st [c], 0, 0⟩)
 else if c == 45 then some (0, ⟨4, st [c], 0, 0⟩)
 else if blank c then some (0, none_)
 else if c == 35 then some (run noLf t, none_)
 else none
def put (k : TokP) (line : Int) (r : List TokP) : List TokP := if k.kind = 0 then r else { k with line := line } :: r
def next (c : UInt8) (line : Int) : Int := if c = 10 then line + 1 else line
def go : List UInt8 -> Int -> Except Int (List TokP)
 | [], _ => .ok []
 | c :: t, line => match piece c t with
   | none => .error line
   | some (n, k) => (go (t.drop n) (next c line)).map (put k line)
termination_by l => l.length
decreasing_by simp; omega
def at_ (line : Int) (k : TokP) : TokP := { k with line := line }
theorem bl_st (l : List UInt8) : bl (st l) = l := rfl
def split (l : List UInt8) : List TokP × Int × Int :=
 if 4096 < l.length then ([], 0, 9) else match go l 1 with
  | .ok r => (r, 0, 0)
  | .error e => ([], e, 6)
end Go.Proofs.YtaciogcpghbhjaaGreat.Lx
