/- There and back, in plain words. Conditions: none. -/
import Derived.Test.YtmnmlhbmhfhgaaaTwA
namespace Go.Proofs.Ytmnmlhbmhfhgaaa.Tw
theorem ofNat_toNat (n : Nat) (h : n < 256) : (UInt8.ofNat n).toNat = n := by
  rw [UInt8.toNat_ofNat']; omega
theorem byteAt_two (p : List UInt8) (z : Int) (h0 : 0 ≤ z) (h1 : z ≤ 65535) (q : List UInt8) :
    byteAt (st (p ++ two z ++ q)) (p.length : Int) = z / 256 ∧ byteAt (st (p ++ two z ++ q)) ((p.length : Int) + 1) = z % 256 := by
  have e1 : ((p.length : Int)).toNat = p.length := by omega
  have e2 : ((p.length : Int) + 1).toNat = p.length + 1 := by omega
  constructor
  · rw [byteAt, bl_st, e1]
    rw [List.getD_eq_getElem?_getD, List.append_assoc, List.getElem?_append_right (by omega)]
    simp only [Nat.sub_self, two, List.cons_append, List.getElem?_cons_zero, Option.getD_some]
    rw [ofNat_toNat _ (by omega)]
    omega
  · rw [byteAt, bl_st, e2]
    rw [List.getD_eq_getElem?_getD, List.append_assoc, List.getElem?_append_right (by omega)]
    have : p.length + 1 - p.length = 1 := by omega
    simp only [this, two, List.cons_append, List.getElem?_cons_succ, List.getElem?_cons_zero, Option.getD_some]
    rw [ofNat_toNat _ (by omega)]
    omega
theorem num_two (p : List UInt8) (z : Int) (h0 : 0 ≤ z) (h1 : z ≤ 65535) (q : List UInt8) : num (st (p ++ two z ++ q)) (p.length : Int) = z := by
  have h := byteAt_two p z h0 h1 q
  rw [num, h.1, h.2]
  omega
theorem inR_iff (z : Int) : inR z = true ↔ 0 ≤ z ∧ z ≤ 65535 := by simp [inR]
theorem nums_bytes (k : Nat) : ∀ (l q : List _), allIn l = true → l.length = k → nums (st (bytes l ++ q)) k = l := by
  induction k with
  | zero => intro l q _ h; rw [List.eq_nil_of_length_eq_zero h]; rfl
  | succ k ih =>
    intro l q hall hl
    obtain ⟨l', z, rfl⟩ : ∃ l' z, l = l' ++ [z] := ⟨l.dropLast, l.getLast (by intro e; rw [e] at hl; simp at hl), (List.dropLast_concat_getLast _).symm⟩
    rw [allIn_snoc, Bool.and_eq_true, inR_iff] at hall
    have hl' : l'.length = k := by simpa using hl
    rw [nums_succ, bytes_snoc]
    have h := num_two (bytes l') z hall.2.1 hall.2.2 q
    rw [bytes_len, hl'] at h
    have e : ((2 * k : Nat) : Int) = 2 * (k : Int) := by omega
    rw [e] at h
    rw [h, List.append_assoc, ih l' (two z ++ q) hall.1 hl']
theorem back1 (l : List Int) (h : allIn l = true) : evenB (st (put l)) = true ∧ getAll (st (put l)) = l ∧ (st (put l)).size = 2 * l.length := by
  have e : put l = bytes l := by rw [put, h]; rfl
  have hs : (st (put l)).size = 2 * l.length := by rw [e, st_size, bytes_len]
  have he : evenB (st (put l)) = true := by rw [evenB, hs]; simp
  refine ⟨he, ?_, hs⟩
  rw [getAll, he, hs]
  have hk : 2 * l.length / 2 = l.length := by omega
  have := nums_bytes l.length l [] h rfl
  rw [List.append_nil] at this
  rw [hk, e]
  exact this
theorem allIn_nums (s : ByteArray) (k : Nat) : allIn (nums s k) = true := by
  simp only [allIn, nums, List.all_map, List.all_eq_true]
  intro i _
  exact (inR_iff _).2 (num_range _ _)
theorem two_num (s : ByteArray) (k : Nat) (h : 2 * k + 1 < (bl s).length) : two (num s (2 * (k : Int))) = [(bl s)[2 * k], (bl s)[2 * k + 1]] := by
  have h1 : byteAt s (2 * (k : Int)) = ((bl s)[2 * k]).toNat := by
    rw [byteAt, show (2 * (k : Int)).toNat = 2 * k from by omega, List.getD_eq_getElem?_getD, List.getElem?_eq_getElem (by omega)]; rfl
  have h2 : byteAt s (2 * (k : Int) + 1) = ((bl s)[2 * k + 1]).toNat := by
    rw [byteAt, show (2 * (k : Int) + 1).toNat = 2 * k + 1 from by omega, List.getD_eq_getElem?_getD, List.getElem?_eq_getElem (by omega)]; rfl
  have b1 := UInt8.toNat_lt (bl s)[2 * k]
  have b2 := UInt8.toNat_lt (bl s)[2 * k + 1]
  rw [num, h1, h2, two]
  congr 1
  · rw [show (((((bl s)[2 * k]).toNat : Int) * 256 + (((bl s)[2 * k + 1]).toNat : Int)) / 256).toNat = ((bl s)[2 * k]).toNat from by omega]
    simp
  · rw [show (((((bl s)[2 * k]).toNat : Int) * 256 + (((bl s)[2 * k + 1]).toNat : Int)) % 256).toNat = ((bl s)[2 * k + 1]).toNat from by omega]
    simp
theorem take_two (l : List UInt8) (n : Nat) (h : n + 1 < l.length) : l.take (n + 1 + 1) = l.take n ++ [l[n], l[n + 1]] := by
  rw [List.take_succ_eq_append_getElem (by omega), List.take_succ_eq_append_getElem (by omega), List.append_assoc]
  rfl
theorem bytes_nums (s : ByteArray) (k : Nat) (h : 2 * k ≤ (bl s).length) : bytes (nums s k) = (bl s).take (2 * k) := by
  induction k with
  | zero => rfl
  | succ k ih =>
    rw [nums_succ, bytes_snoc, ih (by omega), two_num s k (by omega)]
    exact (take_two (bl s) (2 * k) (by omega)).symm
theorem back2 (s : ByteArray) (h : evenB s = true) : st (put (getAll s)) = s ∧ allIn (getAll s) = true := by
  have ha : allIn (getAll s) = true := by rw [getAll, h]; exact allIn_nums _ _
  refine ⟨?_, ha⟩
  rw [put, ha, getAll, h]
  simp only [if_true]
  have h2 : s.size % 2 = 0 := by simpa [evenB] using h
  rw [bytes_nums s _ (by rw [bl_length]; omega), show 2 * (s.size / 2) = (bl s).length from by rw [bl_length]; omega, List.take_length, st_bl]
theorem put_app (a b : List Int) : allIn (a ++ b) = (allIn a && allIn b) ∧ (allIn (a ++ b) = true → put (a ++ b) = put a ++ put b) := by
  have e : allIn (a ++ b) = (allIn a && allIn b) := by simp [allIn]
  refine ⟨e, fun h => ?_⟩
  have h' := h
  rw [e, Bool.and_eq_true] at h'
  rw [put, put, put, h, h'.1, h'.2]
  simp [bytes]
theorem getAll_len (s : ByteArray) : (getAll s).length ≤ s.size := by
  unfold getAll
  split
  · rw [nums_len]; omega
  · simp
theorem put_len (l : List Int) : (st (put l)).size ≤ 2 * l.length := by
  unfold put
  split
  · rw [st_size, bytes_len]; exact Nat.le_refl _
  · rw [st_size]; simp
end Go.Proofs.Ytmnmlhbmhfhgaaa.Tw
