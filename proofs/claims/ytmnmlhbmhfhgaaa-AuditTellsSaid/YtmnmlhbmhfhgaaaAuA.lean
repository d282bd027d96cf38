/- Records of the log in plain words: which may be, their bytes, what bytes tell; there and back. Conditions: none. -/
import Derived.Test.YtmnmlhbmhfhgaaaTwB
/-- A record. -/
structure Go.Proofs.Ytmnmlhbmhfhgaaa.RecP where
  sq : Int
  tk : Int
  kd : Int
  cn : Int
  un : Int
  fn : Int
  vd : Int
  rl : Int
  id : Int
namespace Go.Proofs.Ytmnmlhbmhfhgaaa.Au
set_option linter.unusedVariables false
open Go.RowKit
def zero : RecP := ⟨0, 0, 0, 0, 0, 0, 0, 0, 0⟩
def among (n lo hi : Int) : Bool := decide (lo ≤ n) && decide (n ≤ hi)
def right (r : RecP) : Bool :=
  among r.sq 0 1099511627776 && (among r.tk 0 1099511627776 && (among r.kd 1 4 && (among r.cn (-1) 15 && (among r.un 0 255 && (among r.fn 0 255 && (among r.vd 0 255 && (among r.rl (-1) 63 && among r.id 0 65535)))))))
def six (n : Int) : List UInt8 := Tw.two (n / 65536 / 65536) ++ (Tw.two (n / 65536 % 65536) ++ Tw.two (n % 65536))
def num6 (s : ByteArray) (i : Int) : Int := (Tw.num s i * 65536 + Tw.num s (i + 2)) * 65536 + Tw.num s (i + 4)
def less (b : Int) : Int := if b = 255 then -1 else b
def one (n : Int) : UInt8 := UInt8.ofNat (n % 256).toNat
def bytes (r : RecP) : List UInt8 := six r.sq ++ (six r.tk ++ ([one r.kd, one r.cn, one r.un, one r.fn, one r.vd, one r.rl] ++ Tw.two r.id))
def put (r : RecP) : List UInt8 := if right r then bytes r else []
def read (s : ByteArray) : RecP := ⟨num6 s 0, num6 s 6, byteAt s 12, less (byteAt s 13), byteAt s 14, byteAt s 15, byteAt s 16, less (byteAt s 17), Tw.num s 18⟩
def getOk (s : ByteArray) : Bool := s.size == 20 && right (read s)
def get (s : ByteArray) : RecP := if getOk s then read s else zero
/-- The records of bytes, so many of them. -/
def allN : Nat → List UInt8 → Option (List RecP)
  | 0, _ => some []
  | k + 1, l => if getOk (st (l.take 20)) then (allN k (l.drop 20)).map (read (st (l.take 20)) :: ·) else none
def allOf (s : ByteArray) : Option (List RecP) := if s.size % 20 = 0 then allN (s.size / 20) (bl s) else none
def allOk (s : ByteArray) : Bool := (allOf s).isSome
def all (s : ByteArray) : List RecP := (allOf s).getD []
/-- The bytes of all that may be, one behind the other. -/
def puts (l : List RecP) : List UInt8 := l.flatMap put

theorem right_iff (r : RecP) : right r = true ↔ (0 ≤ r.sq ∧ r.sq ≤ 1099511627776) ∧ (0 ≤ r.tk ∧ r.tk ≤ 1099511627776) ∧ (1 ≤ r.kd ∧ r.kd ≤ 4) ∧ (-1 ≤ r.cn ∧ r.cn ≤ 15) ∧ (0 ≤ r.un ∧ r.un ≤ 255) ∧ (0 ≤ r.fn ∧ r.fn ≤ 255) ∧ (0 ≤ r.vd ∧ r.vd ≤ 255) ∧ (-1 ≤ r.rl ∧ r.rl ≤ 63) ∧ (0 ≤ r.id ∧ r.id ≤ 65535) := by
  simp [right, among]
theorem bytes_len (r : RecP) : (bytes r).length = 20 := rfl
theorem ofNat_val (z : Int) (h0 : 0 ≤ z) (h1 : z ≤ 255) : ((UInt8.ofNat z.toNat).toNat : Int) = z := by
  rw [UInt8.toNat_ofNat']; omega
theorem eq_of_val {a b : UInt8} (h : (a.toNat : Int) = b.toNat) : a = b := by
  apply UInt8.toNat_inj.1; omega
/-- There and back. -/
theorem back1 {r : RecP} (h : right r = true) : read (st (bytes r)) = r := by
  obtain ⟨⟨a1, a2⟩, ⟨b1, b2⟩, ⟨c1, c2⟩, ⟨d1, d2⟩, ⟨e1, e2⟩, ⟨f1, f2⟩, ⟨g1, g2⟩, ⟨h1, h2⟩, ⟨i1, i2⟩⟩ := (right_iff r).1 h
  obtain ⟨sq, tk, kd, cn, un, fn, vd, rl, id⟩ := r
  simp only at *
  have hb : ∀ (i : Int) (z : Int), (bytes ⟨sq, tk, kd, cn, un, fn, vd, rl, id⟩)[i.toNat]? = some (UInt8.ofNat z.toNat) → 0 ≤ z → z ≤ 255 → byteAt (st (bytes ⟨sq, tk, kd, cn, un, fn, vd, rl, id⟩)) i = z := fun i z hi h0 h1 => by
    unfold byteAt
    rw [bl_st, List.getD_eq_getElem?_getD, hi, Option.getD_some]
    exact ofNat_val z h0 h1
  have k0 := hb 0 (sq / 65536 / 65536 / 256) rfl (by omega) (by omega)
  have k1 := hb 1 (sq / 65536 / 65536 % 256) rfl (by omega) (by omega)
  have k2 := hb 2 (sq / 65536 % 65536 / 256) rfl (by omega) (by omega)
  have k3 := hb 3 (sq / 65536 % 65536 % 256) rfl (by omega) (by omega)
  have k4 := hb 4 (sq % 65536 / 256) rfl (by omega) (by omega)
  have k5 := hb 5 (sq % 65536 % 256) rfl (by omega) (by omega)
  have k6 := hb 6 (tk / 65536 / 65536 / 256) rfl (by omega) (by omega)
  have k7 := hb 7 (tk / 65536 / 65536 % 256) rfl (by omega) (by omega)
  have k8 := hb 8 (tk / 65536 % 65536 / 256) rfl (by omega) (by omega)
  have k9 := hb 9 (tk / 65536 % 65536 % 256) rfl (by omega) (by omega)
  have k10 := hb 10 (tk % 65536 / 256) rfl (by omega) (by omega)
  have k11 := hb 11 (tk % 65536 % 256) rfl (by omega) (by omega)
  have k12 := hb 12 (kd % 256) rfl (by omega) (by omega)
  have k13 := hb 13 (cn % 256) rfl (by omega) (by omega)
  have k14 := hb 14 (un % 256) rfl (by omega) (by omega)
  have k15 := hb 15 (fn % 256) rfl (by omega) (by omega)
  have k16 := hb 16 (vd % 256) rfl (by omega) (by omega)
  have k17 := hb 17 (rl % 256) rfl (by omega) (by omega)
  have k18 := hb 18 (id / 256) rfl (by omega) (by omega)
  have k19 := hb 19 (id % 256) rfl (by omega) (by omega)
  clear hb h
  generalize st (bytes ⟨sq, tk, kd, cn, un, fn, vd, rl, id⟩) = s at *
  unfold read num6 less Tw.num
  simp only [Int.zero_add, Int.reduceAdd]
  rw [k0, k1, k2, k3, k4, k5, k6, k7, k8, k9, k10, k11, k12, k13, k14, k15, k16, k17, k18, k19]
  congr 1
  · omega
  · omega
  · omega
  · split <;> omega
  · omega
  · omega
  · omega
  · split <;> omega
  · omega
theorem back1_ok {r : RecP} (h : right r = true) : getOk (st (bytes r)) = true ∧ get (st (bytes r)) = r := by
  have h1 := back1 h
  have h2 : getOk (st (bytes r)) = true := by
    unfold getOk
    rw [h1, h]
    rfl
  exact ⟨h2, by unfold get; rw [if_pos h2, h1]⟩
set_option maxRecDepth 100000 in
/-- Back and there. -/
theorem back2 {s : ByteArray} (h : getOk s = true) : bytes (read s) = bl s ∧ right (read s) = true := by
  simp only [getOk, Bool.and_eq_true, beq_iff_eq] at h
  obtain ⟨hs, hr⟩ := h
  refine ⟨?_, hr⟩
  have hl : (bl s).length = 20 := by rw [bl_length]; exact hs
  have hst := st_bl s
  generalize hL : bl s = L at hl hst
  subst hst
  obtain _ | ⟨b0, L⟩ := L
  · simp at hl
  obtain _ | ⟨b1, L⟩ := L
  · simp at hl
  obtain _ | ⟨b2, L⟩ := L
  · simp at hl
  obtain _ | ⟨b3, L⟩ := L
  · simp at hl
  obtain _ | ⟨b4, L⟩ := L
  · simp at hl
  obtain _ | ⟨b5, L⟩ := L
  · simp at hl
  obtain _ | ⟨b6, L⟩ := L
  · simp at hl
  obtain _ | ⟨b7, L⟩ := L
  · simp at hl
  obtain _ | ⟨b8, L⟩ := L
  · simp at hl
  obtain _ | ⟨b9, L⟩ := L
  · simp at hl
  obtain _ | ⟨b10, L⟩ := L
  · simp at hl
  obtain _ | ⟨b11, L⟩ := L
  · simp at hl
  obtain _ | ⟨b12, L⟩ := L
  · simp at hl
  obtain _ | ⟨b13, L⟩ := L
  · simp at hl
  obtain _ | ⟨b14, L⟩ := L
  · simp at hl
  obtain _ | ⟨b15, L⟩ := L
  · simp at hl
  obtain _ | ⟨b16, L⟩ := L
  · simp at hl
  obtain _ | ⟨b17, L⟩ := L
  · simp at hl
  obtain _ | ⟨b18, L⟩ := L
  · simp at hl
  obtain _ | ⟨b19, L⟩ := L
  · simp at hl
  obtain rfl : L = [] := by simpa using hl
  clear hl
  have r0 := UInt8.toNat_lt b0
  have r1 := UInt8.toNat_lt b1
  have r2 := UInt8.toNat_lt b2
  have r3 := UInt8.toNat_lt b3
  have r4 := UInt8.toNat_lt b4
  have r5 := UInt8.toNat_lt b5
  have r6 := UInt8.toNat_lt b6
  have r7 := UInt8.toNat_lt b7
  have r8 := UInt8.toNat_lt b8
  have r9 := UInt8.toNat_lt b9
  have r10 := UInt8.toNat_lt b10
  have r11 := UInt8.toNat_lt b11
  have r12 := UInt8.toNat_lt b12
  have r13 := UInt8.toNat_lt b13
  have r14 := UInt8.toNat_lt b14
  have r15 := UInt8.toNat_lt b15
  have r16 := UInt8.toNat_lt b16
  have r17 := UInt8.toNat_lt b17
  have r18 := UInt8.toNat_lt b18
  have r19 := UInt8.toNat_lt b19
  have key : ∀ (z : Int) (b : UInt8), z = b.toNat → UInt8.ofNat z.toNat = b := fun z b e => by
    have := UInt8.toNat_lt b
    exact eq_of_val (by rw [ofNat_val z (by omega) (by omega)]; exact e)
  have e6 : ∀ (x0 x1 x2 x3 x4 x5 : UInt8), six (((x0.toNat * 256 + x1.toNat : Int) * 65536 + (x2.toNat * 256 + x3.toNat)) * 65536 + (x4.toNat * 256 + x5.toNat)) = [x0, x1, x2, x3, x4, x5] := fun x0 x1 x2 x3 x4 x5 => by
    have t0 := UInt8.toNat_lt x0
    have t1 := UInt8.toNat_lt x1
    have t2 := UInt8.toNat_lt x2
    have t3 := UInt8.toNat_lt x3
    have t4 := UInt8.toNat_lt x4
    have t5 := UInt8.toNat_lt x5
    unfold six Tw.two
    simp only [List.cons_append, List.nil_append]
    rw [key _ x0 (by omega), key _ x1 (by omega), key _ x2 (by omega), key _ x3 (by omega), key _ x4 (by omega), key _ x5 (by omega)]
  have e2 : ∀ (x0 x1 : UInt8), Tw.two (x0.toNat * 256 + x1.toNat : Int) = [x0, x1] := fun x0 x1 => by
    have t0 := UInt8.toNat_lt x0
    have t1 := UInt8.toNat_lt x1
    unfold Tw.two
    rw [key _ x0 (by omega), key _ x1 (by omega)]
  have e1 : ∀ x : UInt8, one (x.toNat : Int) = x := fun x => by
    have t0 := UInt8.toNat_lt x
    exact key _ x (by omega)
  have el : ∀ x : UInt8, one (less (x.toNat : Int)) = x := fun x => by
    have t0 := UInt8.toNat_lt x
    unfold less
    split
    · exact key _ x (by omega)
    · exact key _ x (by omega)
  show six _ ++ (six _ ++ ([one _, one _, one _, one _, one _, one _] ++ Tw.two _)) = _
  have g1 : six (read (st [b0, b1, b2, b3, b4, b5, b6, b7, b8, b9, b10, b11, b12, b13, b14, b15, b16, b17, b18, b19])).sq = [b0, b1, b2, b3, b4, b5] := e6 b0 b1 b2 b3 b4 b5
  have g2 : six (read (st [b0, b1, b2, b3, b4, b5, b6, b7, b8, b9, b10, b11, b12, b13, b14, b15, b16, b17, b18, b19])).tk = [b6, b7, b8, b9, b10, b11] := e6 b6 b7 b8 b9 b10 b11
  have g3 : one (read (st [b0, b1, b2, b3, b4, b5, b6, b7, b8, b9, b10, b11, b12, b13, b14, b15, b16, b17, b18, b19])).kd = b12 := e1 b12
  have g4 : one (read (st [b0, b1, b2, b3, b4, b5, b6, b7, b8, b9, b10, b11, b12, b13, b14, b15, b16, b17, b18, b19])).cn = b13 := el b13
  have g5 : one (read (st [b0, b1, b2, b3, b4, b5, b6, b7, b8, b9, b10, b11, b12, b13, b14, b15, b16, b17, b18, b19])).un = b14 := e1 b14
  have g6 : one (read (st [b0, b1, b2, b3, b4, b5, b6, b7, b8, b9, b10, b11, b12, b13, b14, b15, b16, b17, b18, b19])).fn = b15 := e1 b15
  have g7 : one (read (st [b0, b1, b2, b3, b4, b5, b6, b7, b8, b9, b10, b11, b12, b13, b14, b15, b16, b17, b18, b19])).vd = b16 := e1 b16
  have g8 : one (read (st [b0, b1, b2, b3, b4, b5, b6, b7, b8, b9, b10, b11, b12, b13, b14, b15, b16, b17, b18, b19])).rl = b17 := el b17
  have g9 : Tw.two (read (st [b0, b1, b2, b3, b4, b5, b6, b7, b8, b9, b10, b11, b12, b13, b14, b15, b16, b17, b18, b19])).id = [b18, b19] := e2 b18 b19
  rw [g1, g2, g3, g4, g5, g6, g7, g8, g9]
  rfl
theorem put_right {r : RecP} (h : right r = true) : put r = bytes r := by unfold put; rw [if_pos h]
theorem puts_len (l : List RecP) (h : l.all right = true) : (puts l).length = 20 * l.length := by
  induction l with
  | nil => rfl
  | cons r l ih =>
    simp only [List.all_cons, Bool.and_eq_true] at h
    show (put r ++ puts l).length = _
    rw [List.length_append, put_right h.1, bytes_len, ih h.2, List.length_cons]; omega
theorem allN_puts (l : List RecP) (h : l.all right = true) : allN l.length (puts l) = some l := by
  induction l with
  | nil => rfl
  | cons r l ih =>
    simp only [List.all_cons, Bool.and_eq_true] at h
    show allN (l.length + 1) (put r ++ puts l) = _
    rw [put_right h.1]
    unfold allN
    have e1 : (bytes r ++ puts l).take 20 = bytes r := by rw [List.take_append_of_le_length (by rw [bytes_len]; exact Nat.le_refl _), List.take_of_length_le (by rw [bytes_len]; exact Nat.le_refl _)]
    have e2 : (bytes r ++ puts l).drop 20 = puts l := by rw [List.drop_append_of_le_length (by rw [bytes_len]; exact Nat.le_refl _), List.drop_of_length_le (by rw [bytes_len]; exact Nat.le_refl _), List.nil_append]
    rw [e1, e2, if_pos (back1_ok h.1).1, back1 h.1, ih h.2]; rfl
/-- Records that may be come back. -/
theorem all_puts (l : List RecP) (h : l.all right = true) : allOf (st (puts l)) = some l := by
  unfold allOf
  rw [st_size, puts_len l h, if_pos (by omega), Nat.mul_div_cancel_left _ (by omega), bl_st]
  exact allN_puts l h
theorem allN_back : ∀ (k : Nat) (b : List UInt8) (l : List RecP), b.length = 20 * k → allN k b = some l → puts l = b ∧ l.all right = true ∧ l.length = k
  | 0, b, l, hb, h => by
    simp only [allN, Option.some.injEq] at h
    subst h
    exact ⟨(List.eq_nil_of_length_eq_zero (by omega)).symm, rfl, rfl⟩
  | k + 1, b, l, hb, h => by
    unfold allN at h
    split at h
    · rename_i hg
      obtain ⟨m, hm, rfl⟩ := Option.map_eq_some_iff.1 h
      obtain ⟨h1, h2, h3⟩ := allN_back k (b.drop 20) m (by rw [List.length_drop]; omega) hm
      obtain ⟨h4, h5⟩ := back2 hg
      refine ⟨?_, by rw [List.all_cons, h5, h2]; rfl, by rw [List.length_cons, h3]⟩
      show put _ ++ puts m = b
      rw [put_right h5, h4, h1, bl_st, List.take_append_drop]
    · cases h
/-- Bytes that have records are theirs. -/
theorem all_back {s : ByteArray} {l : List RecP} (h : allOf s = some l) : st (puts l) = s ∧ l.all right = true ∧ 20 * l.length = s.size := by
  unfold allOf at h
  split at h
  · rename_i hm
    obtain ⟨h1, h2, h3⟩ := allN_back _ _ _ (by rw [bl_length]; omega) h
    exact ⟨by rw [h1, st_bl], h2, by omega⟩
  · cases h
/-- One record more. -/
theorem allN_succ : ∀ (k : Nat) (b : List UInt8), allN (k + 1) b = match allN k b with
    | none => none
    | some l => if getOk (st ((b.drop (20 * k)).take 20)) then some (l ++ [read (st ((b.drop (20 * k)).take 20))]) else none
  | 0, b => by
    unfold allN
    simp only [Nat.mul_zero, List.drop_zero, allN, Option.map_some, List.nil_append]
  | k + 1, b => by
    rw [allN, allN_succ k (b.drop 20), List.drop_drop, show 20 + 20 * k = 20 * (k + 1) by omega]
    rw [show allN (k + 1) b = if getOk (st (b.take 20)) then (allN k (b.drop 20)).map (read (st (b.take 20)) :: ·) else none from rfl]
    cases getOk (st (b.take 20))
    · rfl
    · simp only [if_true]
      cases allN k (b.drop 20) with
      | none => rfl
      | some l =>
        simp only [Option.map_some]
        cases getOk (st ((b.drop (20 * (k + 1))).take 20)) <;> simp
theorem allN_none {k m : Nat} {b : List UInt8} (h : allN k b = none) (hm : k ≤ m) : allN m b = none := by
  induction m with
  | zero =>
    obtain rfl : k = 0 := by omega
    exact h
  | succ m ih =>
    rcases Nat.lt_or_ge k (m + 1) with hlt | hge
    · rw [allN_succ, ih (by omega)]
    · obtain rfl : k = m + 1 := by omega
      exact h
end Go.Proofs.Ytmnmlhbmhfhgaaa.Au
