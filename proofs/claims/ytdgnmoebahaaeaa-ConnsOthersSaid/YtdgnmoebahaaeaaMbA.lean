/- Frames in plain words: which may be, their bytes, how many they need, what bytes tell; there and back. Conditions: none. -/
import Derived.Test.YtdgnmoebahaaeaaAskB
/-- A frame. -/
structure Go.Proofs.Ytdgnmoebahaaeaa.FrameP where
  id : Int
  unit : Int
  pdu : ByteArray
namespace Go.Proofs.Ytdgnmoebahaaeaa.Mb
set_option linter.unusedVariables false
open Go.RowKit
def zero : FrameP := ⟨0, 0, ⟨#[]⟩⟩
def right (f : FrameP) : Bool := decide (0 ≤ f.id) && decide (f.id ≤ 65535) && decide (0 ≤ f.unit) && decide (f.unit ≤ 255) && decide (1 ≤ f.pdu.size) && decide (f.pdu.size ≤ 253)
def bytes (f : FrameP) : List UInt8 := Tw.two f.id ++ (Tw.two 0 ++ (Tw.two (1 + (f.pdu.size : Int)) ++ (UInt8.ofNat f.unit.toNat :: bl f.pdu)))
def put (f : FrameP) : List UInt8 := if right f then bytes f else []
def bad (s : ByteArray) : Bool := !(Tw.num s 2 == 0) || decide (Tw.num s 4 < 2) || decide (254 < Tw.num s 4)
def needErr (s : ByteArray) : Int := if s.size < 6 then 0 else if bad s then 5 else 0
def need (s : ByteArray) : Int := if s.size < 6 then 0 else if bad s then 0 else 6 + Tw.num s 4
def whole (s : ByteArray) : Bool := decide (6 ≤ s.size) && !bad s && 6 + Tw.num s 4 == (s.size : Int)
def read (s : ByteArray) : FrameP := ⟨Tw.num s 0, byteAt s 6, Ak.sub s 7⟩
def get (s : ByteArray) : FrameP := if whole s then read s else zero
def getErr (s : ByteArray) : Int := if whole s then 0 else 5

theorem right_iff (f : FrameP) : right f = true ↔ (0 ≤ f.id ∧ f.id ≤ 65535) ∧ (0 ≤ f.unit ∧ f.unit ≤ 255) ∧ 1 ≤ f.pdu.size ∧ f.pdu.size ≤ 253 := by
  simp [right, and_assoc]
theorem bytes_len (f : FrameP) : (bytes f).length = 7 + f.pdu.size := by
  simp [bytes, Tw.two, bl_length]; omega
theorem bad_false (s : ByteArray) : bad s = false ↔ Tw.num s 2 = 0 ∧ 2 ≤ Tw.num s 4 ∧ Tw.num s 4 ≤ 254 := by
  simp [bad]; omega
theorem whole_iff (s : ByteArray) : whole s = true ↔ 6 ≤ s.size ∧ bad s = false ∧ 6 + Tw.num s 4 = (s.size : Int) := by
  simp [whole, and_assoc]
theorem whole_need (s : ByteArray) : whole s = (needErr s == 0 && !(need s == 0) && need s == (s.size : Int)) := by
  rw [Bool.eq_iff_iff, whole_iff]
  unfold needErr need
  have := Tw.num_range s 4
  by_cases h : s.size < 6
  · simp [h]; omega
  · cases hb : bad s
    · simp [h]; omega
    · simp [h]
theorem num_at (p : List UInt8) (z : Int) (h0 : 0 ≤ z) (h1 : z ≤ 65535) (q : List UInt8) (i : Int) (hi : i = (p.length : Int)) : Tw.num (st (p ++ (Tw.two z ++ q))) i = z := by
  subst hi
  rw [← List.append_assoc]
  exact Tw.num_two p z h0 h1 q
/-- There and back, from a frame. -/
theorem back1 {f : FrameP} (h : right f = true) : whole (st (bytes f)) = true ∧ read (st (bytes f)) = f := by
  obtain ⟨⟨h1, h2⟩, ⟨h3, h4⟩, h5, h6⟩ := (right_iff f).1 h
  have n0 := num_at [] f.id h1 h2 (Tw.two 0 ++ (Tw.two (1 + (f.pdu.size : Int)) ++ (UInt8.ofNat f.unit.toNat :: bl f.pdu))) 0 rfl
  have n2 := num_at (Tw.two f.id) 0 (by omega) (by omega) (Tw.two (1 + (f.pdu.size : Int)) ++ (UInt8.ofNat f.unit.toNat :: bl f.pdu)) 2 rfl
  have n4 := num_at (Tw.two f.id ++ Tw.two 0) (1 + (f.pdu.size : Int)) (by omega) (by omega) (UInt8.ofNat f.unit.toNat :: bl f.pdu) 4 rfl
  have b6 := Ak.byteAt_mid (Tw.two f.id ++ (Tw.two 0 ++ Tw.two (1 + (f.pdu.size : Int)))) (UInt8.ofNat f.unit.toNat) (bl f.pdu) 6 rfl
  have s7 := Ak.sub_mid (Tw.two f.id ++ (Tw.two 0 ++ Tw.two (1 + (f.pdu.size : Int)))) (UInt8.ofNat f.unit.toNat) (bl f.pdu) 7 rfl
  simp only [List.nil_append, List.append_assoc] at n0 n2 n4 b6 s7
  have hl := bytes_len f
  refine ⟨?_, ?_⟩
  · rw [whole_iff, bad_false, st_size, hl]
    unfold bytes
    rw [n2, n4]
    omega
  · unfold read bytes
    rw [n0, b6, s7, st_bl, Ak.ofNat_int _ h3 h4]
theorem six (l : List UInt8) (h : 7 ≤ l.length) : ∃ a b c d e f g t, l = a :: b :: c :: d :: e :: f :: g :: t := by
  match l, h with
  | a :: b :: c :: d :: e :: f :: g :: t, _ => exact ⟨a, b, c, d, e, f, g, t, rfl⟩
theorem num_mid (p : List UInt8) (x y : UInt8) (q : List UInt8) (i : Int) (hi : i = (p.length : Int)) : Tw.num (st (p ++ x :: y :: q)) i = (x.toNat : Int) * 256 + y.toNat := by
  subst hi
  have h1 := Ak.byteAt_mid p x (y :: q) (p.length : Int) rfl
  have h2 := Ak.byteAt_mid (p ++ [x]) y q ((p.length : Int) + 1) (by simp)
  rw [List.append_assoc] at h2
  rw [Tw.num, h1, show byteAt (st (p ++ x :: y :: q)) ((p.length : Int) + 1) = (y.toNat : Int) from h2]
theorem two_of (x y : UInt8) : Tw.two ((x.toNat : Int) * 256 + y.toNat) = [x, y] := by
  have b1 := UInt8.toNat_lt x
  have b2 := UInt8.toNat_lt y
  rw [Tw.two]
  congr 1
  · rw [show (((x.toNat : Int) * 256 + (y.toNat : Int)) / 256).toNat = x.toNat from by omega]
    simp
  · rw [show (((x.toNat : Int) * 256 + (y.toNat : Int)) % 256).toNat = y.toNat from by omega]
    simp
/-- There and back, from bytes. -/
theorem back2 {s : ByteArray} (h : whole s = true) : right (read s) = true ∧ bytes (read s) = bl s := by
  obtain ⟨l, rfl⟩ : ∃ l, s = st l := ⟨bl s, (st_bl s).symm⟩
  rw [whole_iff, bad_false, st_size] at h
  obtain ⟨h1, ⟨h2, h3, h4⟩, h5⟩ := h
  obtain ⟨a, b, c, d, e, f, g, t, rfl⟩ := six l (by omega)
  have n0 := num_mid [] a b (c :: d :: e :: f :: g :: t) 0 rfl
  have n2 := num_mid [a, b] c d (e :: f :: g :: t) 2 rfl
  have n4 := num_mid [a, b, c, d] e f (g :: t) 4 rfl
  have b6 := Ak.byteAt_mid [a, b, c, d, e, f] g t 6 rfl
  have s7 := Ak.sub_mid [a, b, c, d, e, f] g t 7 rfl
  simp only [List.nil_append, List.cons_append] at n0 n2 n4 b6 s7
  have hrd : read (st (a :: b :: c :: d :: e :: f :: g :: t)) = ⟨(a.toNat : Int) * 256 + b.toNat, (g.toNat : Int), st t⟩ := by
    unfold read
    rw [n0, b6, s7]
  rw [n4] at h3 h4 h5
  rw [n2] at h2
  rw [hrd, bl_st]
  simp only [List.length_cons] at h5
  have ba := UInt8.toNat_lt a
  have bb := UInt8.toNat_lt b
  have bc := UInt8.toNat_lt c
  have bd := UInt8.toNat_lt d
  have bg := UInt8.toNat_lt g
  refine ⟨(right_iff _).2 ⟨by simp only; omega, by simp only; omega, by simp only [st_size]; omega⟩, ?_⟩
  unfold bytes
  simp only [st_size, bl_st]
  rw [two_of, show (0 : Int) = (c.toNat : Int) * 256 + d.toNat from by omega, two_of, show (1 + (t.length : Int)) = (e.toNat : Int) * 256 + f.toNat from by omega, two_of]
  simp
theorem put_get {s : ByteArray} (h : whole s = true) : put (get s) = bl s ∧ right (get s) = true := by
  obtain ⟨h1, h2⟩ := back2 h
  have e : get s = read s := by rw [get, h]; rfl
  rw [e, put, h1]
  exact ⟨h2, rfl⟩
theorem get_put {f : FrameP} (h : right f = true) : getErr (st (put f)) = 0 ∧ get (st (put f)) = f ∧ 8 ≤ (put f).length ∧ (put f).length ≤ 260 := by
  obtain ⟨h1, h2⟩ := back1 h
  have e : put f = bytes f := by rw [put, h]; rfl
  have hl := bytes_len f
  obtain ⟨_, _, h5, h6⟩ := (right_iff f).1 h
  rw [e, getErr, get, h1]
  exact ⟨rfl, h2, by omega, by omega⟩
/-- The first six bytes alone tell how many a frame needs. -/
theorem num_app (s t : List UInt8) (i : Int) (h0 : 0 ≤ i) (h : i + 1 < s.length) : Tw.num (st (s ++ t)) i = Tw.num (st s) i := by
  have e : ∀ j : Int, 0 ≤ j → j < s.length → byteAt (st (s ++ t)) j = byteAt (st s) j := fun j h0 hj => by
    rw [byteAt, byteAt, bl_st, bl_st, List.getD_eq_getElem?_getD, List.getD_eq_getElem?_getD, List.getElem?_append_left (by omega)]
  rw [Tw.num, Tw.num, e i h0 (by omega), e (i + 1) (by omega) h]
theorem need_app (s t : List UInt8) (h : 6 ≤ s.length) : need (st (s ++ t)) = need (st s) ∧ needErr (st (s ++ t)) = needErr (st s) := by
  have e2 := num_app s t 2 (by omega) (by omega)
  have e4 := num_app s t 4 (by omega) (by omega)
  have eb : bad (st (s ++ t)) = bad (st s) := by rw [bad, bad, e2, e4]
  have hs : ¬ (st s).size < 6 := by rw [st_size]; omega
  have ht : ¬ (st (s ++ t)).size < 6 := by rw [st_size, List.length_append]; omega
  simp only [need, needErr, if_neg hs, if_neg ht, eb, e4]
  exact ⟨trivial, trivial⟩
theorem need_short (s : ByteArray) (h : s.size < 6) : need s = 0 ∧ needErr s = 0 := by
  rw [need, needErr, if_pos h, if_pos h]; exact ⟨rfl, rfl⟩
theorem need_range (s : ByteArray) (h : 6 ≤ s.size) : (needErr s = 0 ∧ 8 ≤ need s ∧ need s ≤ 260) ∨ (needErr s = 5 ∧ need s = 0) := by
  have hs : ¬ s.size < 6 := by omega
  simp only [need, needErr, if_neg hs]
  cases hb : bad s
  · left
    have := (bad_false s).1 hb
    simp
    omega
  · right; simp
theorem need_six {f : FrameP} (h : right f = true) : need (st ((put f).take 6)) = ((put f).length : Int) ∧ needErr (st ((put f).take 6)) = 0 := by
  obtain ⟨h1, h2⟩ := back1 h
  have e : put f = bytes f := by rw [put, h]; rfl
  have hl := bytes_len f
  have ha := need_app ((put f).take 6) ((put f).drop 6) (by rw [List.length_take, e]; omega)
  rw [List.take_append_drop] at ha
  rw [← ha.1, ← ha.2, e]
  rw [whole_iff, st_size] at h1
  have hs : ¬ (st (bytes f)).size < 6 := by rw [st_size]; omega
  simp only [need, needErr, if_neg hs, h1.2.1]
  simp
  omega
theorem same_iff (a b : FrameP) : a = b ↔ a.id = b.id ∧ a.unit = b.unit ∧ a.pdu = b.pdu := by
  cases a; cases b; simp
end Go.Proofs.Ytdgnmoebahaaeaa.Mb
