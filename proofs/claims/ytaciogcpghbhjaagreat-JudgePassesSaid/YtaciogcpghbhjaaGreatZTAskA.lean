/- Of these texts: AskA, AskB, MbA, AskW, SmA. Conditions: as each part says. -/
import Derived.Test.YtaciogcpghbhjaaGreatZTLib
import Derived.Lib.Strings
/- Requests in plain words: which may be, their bytes, and what bytes tell. Conditions: none. -/
namespace Go.Proofs.YtaciogcpghbhjaaGreat
open Go.RowKit
structure AskP where
 fc : Int
 rd : Int
 ct : Int
 wr : Int
 mn : Int
 vs : List Int
namespace Ak
def zero : AskP := ⟨0, 0, 0, 0, 0, []⟩
def known (fc : Int) : Bool := (decide (1 <= fc) && decide (fc <= 6)) || fc == 15 || fc == 16 || fc == 22 || fc == 23
def reads (fc : Int) : Int := if fc = 1 ∨ fc = 2 then 2000 else if fc = 3 ∨ fc = 4 ∨ fc = 23 then 125 else 0
def wmax (fc : Int) : Int := if fc = 5 ∨ fc = 6 ∨ fc = 22 then 1 else if fc = 15 then 1968 else if fc = 16 then 123 else if fc = 23 then 121 else 0
def wtwo (fc : Int) : Int := if fc = 22 then 2 else 0
def wtop (fc : Int) : Int := if fc = 5 ∨ fc = 15 then 1 else if fc = 6 ∨ fc = 16 ∨ fc = 22 ∨ fc = 23 then 65535 else 0
def inTo (most z : Int) : Bool := decide (0 <= z) && decide (z <= most)
def allTo (most : Int) (l : List Int) : Bool := l.all (inTo most)
def part (most lo n : Int) : Bool := inTo 65535 lo && inTo most n && !(decide (0 < most) && n == 0) && !(most == 0 && !(lo == 0))
def need (a : AskP) : Int := if wtwo a.fc = 0 then a.mn else wtwo a.fc
def formed (a : AskP) : Bool := known a.fc && part (reads a.fc) a.rd a.ct && part (wmax a.fc) a.wr a.mn && ((a.vs.length : Int) == need a && allTo (wtop a.fc) a.vs)
def right (a : AskP) : Bool := formed a && decide (a.rd + a.ct <= 65536) && decide (a.wr + a.mn <= 65536)
def load (a : AskP) : List UInt8 := if wtop a.fc = 1 then Co.bytes a.vs else Tw.bytes a.vs
def tail (a : AskP) : List UInt8 :=
 if a.fc = 5 then Tw.two (65280 * a.vs.getD 0 0) else if a.fc = 6 ∨ a.fc = 22 then Tw.bytes a.vs else Tw.two a.mn ++ (UInt8.ofNat (load a).length :: load a)
def bytes (a : AskP) : List UInt8 :=
 UInt8.ofNat a.fc.toNat :: ((if 0 < reads a.fc then Tw.two a.rd ++ Tw.two a.ct else []) ++ (if wmax a.fc = 0 then [] else Tw.two a.wr ++ tail a))
def put (a : AskP) : List UInt8 := if right a then bytes a else []
def same (a b : AskP) : Bool := a.fc == b.fc && a.rd == b.rd && a.ct == b.ct && a.wr == b.wr && a.mn == b.mn && a.vs == b.vs
def at_ (s : ByteArray) (i : Int) : Int := if Tw.getOk s i then Tw.get s i else -1
def sub (s : ByteArray) (i : Nat) : ByteArray := st ((bl s).drop i)
def valOk0 (s : ByteArray) (i : Nat) (many : Int) : Bool := decide (i < s.size) && ((s.size : Int) - i - 1 == byteAt s i) && decide (0 <= many)
def valOk (s : ByteArray) (i : Nat) (fc many : Int) : Bool := valOk0 s i many && (if fc = 15 then Co.getOk (sub s (i + 1)) many else Tw.evenB (sub s (i + 1)))
def vals (s : ByteArray) (i : Nat) (fc many : Int) : List Int := if valOk0 s i many then (if fc = 15 then Co.get (sub s (i + 1)) many else Tw.getAll (sub s (i + 1))) else []
def coil (z : Int) : Int := if z = 65280 then 1 else z
def read (s : ByteArray) : AskP :=
 let fc := byteAt s 0
 if fc = 1 ∨ fc = 2 ∨ fc = 3 ∨ fc = 4 then ⟨fc, at_ s 1, at_ s 3, 0, 0, []⟩
 else if fc = 5 then ⟨fc, 0, 0, at_ s 1, 1, [coil (at_ s 3)]⟩
 else if fc = 6 then ⟨fc, 0, 0, at_ s 1, 1, [at_ s 3]⟩
 else if fc = 22 then ⟨fc, 0, 0, at_ s 1, 1, [at_ s 3, at_ s 5]⟩
 else if fc = 15 ∨ fc = 16 then ⟨fc, 0, 0, at_ s 1, at_ s 3, vals s 5 fc (at_ s 3)⟩
 else ⟨fc, at_ s 1, at_ s 3, at_ s 5, at_ s 7, vals s 9 fc (at_ s 7)⟩
def readOk (s : ByteArray) : Bool :=
 let fc := byteAt s 0
 if fc = 1 ∨ fc = 2 ∨ fc = 3 ∨ fc = 4 then s.size == 5
 else if fc = 5 then s.size == 5 && (at_ s 3 == 65280 || at_ s 3 == 0)
 else if fc = 6 then s.size == 5
 else if fc = 22 then s.size == 7
 else if fc = 15 ∨ fc = 16 then valOk s 5 fc (at_ s 3)
 else valOk s 9 fc (at_ s 7)
def begins (s : ByteArray) : Bool := decide (0 < s.size) && known (byteAt s 0)
def err (s : ByteArray) : Int := if !begins s then 2 else if !(readOk s && formed (read s)) then 4 else if !right (read s) then 3 else 0
def get (s : ByteArray) : AskP := if err s = 0 then read s else zero
theorem extract_end (s : ByteArray) (a : Nat) : s.extract a s.size = sub s a := by
 rw [Lib.extract_eq, sub, st, bl, List.take_of_length_le]
 rw [List.length_drop, Array.length_toList]
 exact Nat.le_refl _
theorem inTo_iff (most z : Int) : inTo most z = true ↔ 0 <= z ∧ z <= most := by simp [inTo]
theorem known_iff (fc : Int) : known fc = true ↔ fc = 1 ∨ fc = 2 ∨ fc = 3 ∨ fc = 4 ∨ fc = 5 ∨ fc = 6 ∨ fc = 15 ∨ fc = 16 ∨ fc = 22 ∨ fc = 23 := by
 simp [known]; omega
theorem same_iff (a b : AskP) : same a b = true ↔ a = b := by
 cases a; cases b
 simp [same, and_assoc]
theorem allTo_iff (most : Int) (l : List Int) : allTo most l = true ↔ ∀ z ∈ l, 0 <= z ∧ z <= most := by simp [allTo, inTo_iff]
theorem allTo_bits (l : List Int) (h : allTo 1 l = true) : Co.allBits l = true := by
 rw [allTo_iff] at h
 rw [Co.allBits, List.all_eq_true]
 intro z hz
 rw [Co.isBit_iff]
 have := h z hz
 omega
theorem formed_iff (a : AskP) : formed a = true ↔
  (known a.fc = true ∧ (0 <= a.rd ∧ a.rd <= 65535) ∧ (0 <= a.ct ∧ a.ct <= reads a.fc) ∧ (reads a.fc <= 0 ∨ a.ct ≠ 0) ∧ (reads a.fc ≠ 0 ∨ a.rd = 0) ∧
   (0 <= a.wr ∧ a.wr <= 65535) ∧ (0 <= a.mn ∧ a.mn <= wmax a.fc) ∧ (wmax a.fc <= 0 ∨ a.mn ≠ 0) ∧ (wmax a.fc ≠ 0 ∨ a.wr = 0) ∧ (a.vs.length : Int) = need a ∧ allTo (wtop a.fc) a.vs = true) := by
 simp [formed, part, inTo_iff, and_assoc]
theorem right_iff (a : AskP) : right a = true ↔ formed a = true ∧ a.rd + a.ct <= 65536 ∧ a.wr + a.mn <= 65536 := by
 simp [right, and_assoc]
end Ak
end Go.Proofs.YtaciogcpghbhjaaGreat
/- Requests there and back, cut off, and how many bytes they have, in plain words. Conditions: none. -/
namespace Go.Proofs.YtaciogcpghbhjaaGreat.Ak
open Go.RowKit
theorem at_two (p : List UInt8) (z : Int) (h0 : 0 <= z) (h1 : z <= 65535) (q : List UInt8) (i : Int) (hi : i = (p.length : Int)) : at_ (st (p ++ (Tw.two z ++ q))) i = z := by
 subst hi
 rw [<- List.append_assoc]
 have hok : Tw.getOk (st (p ++ Tw.two z ++ q)) (p.length : Int) = true := by
  rw [Tw.getOk, Bool.and_eq_true, decide_eq_true_eq, decide_eq_true_eq, st_size]
  simp [Tw.two]
  omega
 rw [at_, Tw.get, hok]
 exact Tw.num_two p z h0 h1 q
theorem byteAt_mid (p : List UInt8) (b : UInt8) (q : List UInt8) (i : Int) (hi : i = (p.length : Int)) : byteAt (st (p ++ b :: q)) i = b.toNat := by
 subst hi
 rw [byteAt, bl_st, show ((p.length : Int)).toNat = p.length from by omega, List.getD_eq_getElem?_getD, List.getElem?_append_right (Nat.le_refl _), Nat.sub_self]
 rfl
theorem byteAt_head (b : UInt8) (q : List UInt8) : byteAt (st (b :: q)) 0 = b.toNat := byteAt_mid [] b q 0 rfl
theorem sub_mid (p : List UInt8) (b : UInt8) (v : List UInt8) (i : Nat) (hi : i = p.length + 1) : sub (st (p ++ b :: v)) i = st v := by
 subst hi
 rw [sub, bl_st, List.drop_append, List.drop_eq_nil_of_le (by omega)]
 simp
theorem two_len (z : Int) : (Tw.two z).length = 2 := rfl
theorem ofNat8 (n : Nat) (h : n < 256) : (UInt8.ofNat n).toNat = n := Tw.ofNat_toNat n h
theorem valOk0_mid (p v : List UInt8) (hv : v.length < 256) (many : Int) (hm : 0 <= many) (i : Nat) (hi : i = p.length) : valOk0 (st (p ++ UInt8.ofNat v.length :: v)) i many = true := by
 subst hi
 rw [valOk0, byteAt_mid p _ v _ rfl, ofNat8 _ hv, st_size]
 simp
 omega
theorem shapeR {fc : Int} (h : fc = 1 ∨ fc = 2 ∨ fc = 3 ∨ fc = 4) (rd ct wr mn : Int) (vs : List Int) : bytes ⟨fc, rd, ct, wr, mn, vs⟩ = UInt8.ofNat fc.toNat :: (Tw.two rd ++ (Tw.two ct ++ [])) := by
 rcases h with rfl | rfl | rfl | rfl <;> simp [bytes, reads, wmax]
theorem shape5 (rd ct wr mn : Int) (vs : List Int) : bytes ⟨5, rd, ct, wr, mn, vs⟩ = UInt8.ofNat 5 :: (Tw.two wr ++ (Tw.two (65280 * vs.getD 0 0) ++ [])) := by
 simp [bytes, reads, wmax, tail]
theorem shape6 (rd ct wr mn z : Int) : bytes ⟨6, rd, ct, wr, mn, [z]⟩ = UInt8.ofNat 6 :: (Tw.two wr ++ (Tw.two z ++ [])) := by
 simp [bytes, reads, wmax, tail, Tw.bytes]
theorem shape22 (rd ct wr mn y z : Int) : bytes ⟨22, rd, ct, wr, mn, [y, z]⟩ = UInt8.ofNat 22 :: (Tw.two wr ++ (Tw.two y ++ (Tw.two z ++ []))) := by
 simp [bytes, reads, wmax, tail, Tw.bytes]
theorem shape15 (rd ct wr mn : Int) (vs : List Int) : bytes ⟨15, rd, ct, wr, mn, vs⟩ = UInt8.ofNat 15 :: (Tw.two wr ++ (Tw.two mn ++ (UInt8.ofNat (Co.bytes vs).length :: Co.bytes vs))) := by
 simp [bytes, reads, wmax, tail, load, wtop]
theorem shape16 (rd ct wr mn : Int) (vs : List Int) : bytes ⟨16, rd, ct, wr, mn, vs⟩ = UInt8.ofNat 16 :: (Tw.two wr ++ (Tw.two mn ++ (UInt8.ofNat (Tw.bytes vs).length :: Tw.bytes vs))) := by
 simp [bytes, reads, wmax, tail, load, wtop]
theorem shape23 (rd ct wr mn : Int) (vs : List Int) : bytes ⟨23, rd, ct, wr, mn, vs⟩ =
  UInt8.ofNat 23 :: (Tw.two rd ++ (Tw.two ct ++ (Tw.two wr ++ (Tw.two mn ++ (UInt8.ofNat (Tw.bytes vs).length :: Tw.bytes vs))))) := by
 simp [bytes, reads, wmax, tail, load, wtop]
def sizeOf (a : AskP) : Int :=
 if a.fc = 15 then 6 + (a.mn + 7) / 8 else if a.fc = 16 then 6 + 2 * a.mn else if a.fc = 22 then 7 else if a.fc = 23 then 10 + 2 * a.mn else 5
theorem cases_formed {a : AskP} (h : formed a = true) :
  (∃ fc rd ct, a = ⟨fc, rd, ct, 0, 0, []⟩ ∧ (fc = 1 ∨ fc = 2 ∨ fc = 3 ∨ fc = 4) ∧ 0 <= rd ∧ rd <= 65535 ∧ 1 <= ct ∧ ct <= 2000) ∨
  (∃ wr z, a = ⟨5, 0, 0, wr, 1, [z]⟩ ∧ 0 <= wr ∧ wr <= 65535 ∧ (z = 0 ∨ z = 1)) ∨
  (∃ wr z, a = ⟨6, 0, 0, wr, 1, [z]⟩ ∧ 0 <= wr ∧ wr <= 65535 ∧ 0 <= z ∧ z <= 65535) ∨
  (∃ wr y z, a = ⟨22, 0, 0, wr, 1, [y, z]⟩ ∧ 0 <= wr ∧ wr <= 65535 ∧ (0 <= y ∧ y <= 65535) ∧ 0 <= z ∧ z <= 65535) ∨
  (∃ wr vs, a = ⟨15, 0, 0, wr, (vs.length : Int), vs⟩ ∧ 0 <= wr ∧ wr <= 65535 ∧ 1 <= vs.length ∧ vs.length <= 1968 ∧ Co.allBits vs = true) ∨
  (∃ wr vs, a = ⟨16, 0, 0, wr, (vs.length : Int), vs⟩ ∧ 0 <= wr ∧ wr <= 65535 ∧ 1 <= vs.length ∧ vs.length <= 123 ∧ Tw.allIn vs = true) ∨
  (∃ rd ct wr vs, a = ⟨23, rd, ct, wr, (vs.length : Int), vs⟩ ∧ (0 <= rd ∧ rd <= 65535) ∧ (1 <= ct ∧ ct <= 125) ∧ 0 <= wr ∧ wr <= 65535 ∧ 1 <= vs.length ∧ vs.length <= 121 ∧ Tw.allIn vs = true) := by
 obtain ⟨fc, rd, ct, wr, mn, vs⟩ := a
 rw [formed_iff] at h
 obtain ⟨hk, hrd, hct, h1, h2, hwr, hmn, h3, h4, hl, hall⟩ := h
 simp only [need] at *
 rw [known_iff] at hk
 have one : ∀ l : List Int, l.length = 1 -> ∃ z, l = [z] := fun l hl => by
  match l, hl with
  | [z], _ => exact ⟨z, rfl⟩
 have two : ∀ l : List Int, l.length = 2 -> ∃ y z, l = [y, z] := fun l hl => by
  match l, hl with
  | [y, z], _ => exact ⟨y, z, rfl⟩
 rcases hk with rfl | rfl | rfl | rfl | rfl | rfl | rfl | rfl | rfl | rfl <;> simp [reads, wmax, wtwo, wtop] at hct h1 h2 hmn h3 h4 hl hall
 ·left
  obtain rfl : mn = 0 := by omega
  obtain rfl : vs = [] := List.eq_nil_of_length_eq_zero (by omega)
  subst h4
  exact ⟨1, rd, ct, rfl, by simp, hrd.1, hrd.2, by omega, by omega⟩
 ·left
  obtain rfl : mn = 0 := by omega
  obtain rfl : vs = [] := List.eq_nil_of_length_eq_zero (by omega)
  subst h4
  exact ⟨2, rd, ct, rfl, by simp, hrd.1, hrd.2, by omega, by omega⟩
 ·left
  obtain rfl : mn = 0 := by omega
  obtain rfl : vs = [] := List.eq_nil_of_length_eq_zero (by omega)
  subst h4
  exact ⟨3, rd, ct, rfl, by simp, hrd.1, hrd.2, by omega, by omega⟩
 ·left
  obtain rfl : mn = 0 := by omega
  obtain rfl : vs = [] := List.eq_nil_of_length_eq_zero (by omega)
  subst h4
  exact ⟨4, rd, ct, rfl, by simp, hrd.1, hrd.2, by omega, by omega⟩
 ·right; left
  obtain rfl : mn = 1 := by omega
  obtain ⟨z, rfl⟩ := one vs (by omega)
  obtain rfl : ct = 0 := by omega
  subst h2
  rw [allTo_iff] at hall
  have := hall z (by simp)
  exact ⟨wr, z, rfl, hwr.1, hwr.2, by omega⟩
 ·right; right; left
  obtain rfl : mn = 1 := by omega
  obtain ⟨z, rfl⟩ := one vs (by omega)
  obtain rfl : ct = 0 := by omega
  subst h2
  rw [allTo_iff] at hall
  have := hall z (by simp)
  exact ⟨wr, z, rfl, hwr.1, hwr.2, this.1, this.2⟩
 ·right; right; right; right; left
  obtain rfl : mn = (vs.length : Int) := by omega
  obtain rfl : ct = 0 := by omega
  subst h2
  exact ⟨wr, vs, rfl, hwr.1, hwr.2, by omega, by omega, allTo_bits vs hall⟩
 ·right; right; right; right; right; left
  obtain rfl : mn = (vs.length : Int) := by omega
  obtain rfl : ct = 0 := by omega
  subst h2
  exact ⟨wr, vs, rfl, hwr.1, hwr.2, by omega, by omega, hall⟩
 ·right; right; right; left
  obtain rfl : mn = 1 := by omega
  obtain ⟨y, z, rfl⟩ := two vs (by omega)
  obtain rfl : ct = 0 := by omega
  subst h2
  rw [allTo_iff] at hall
  have hy := hall y (by simp)
  have hz := hall z (by simp)
  exact ⟨wr, y, z, rfl, hwr.1, hwr.2, hy, hz.1, hz.2⟩
 ·right; right; right; right; right; right
  obtain rfl : mn = (vs.length : Int) := by omega
  exact ⟨rd, ct, wr, vs, rfl, hrd, by omega, hwr.1, hwr.2, by omega, by omega, hall⟩
theorem ofNat_int (fc : Int) (h0 : 0 <= fc) (h1 : fc <= 255) : ((UInt8.ofNat fc.toNat).toNat : Int) = fc := by
 rw [ofNat8 _ (by omega)]; omega
theorem vals_mid (p v : List UInt8) (hv : v.length < 256) (fc many : Int) (hm : 0 <= many) (i : Nat) (hi : i = p.length) :
  vals (st (p ++ UInt8.ofNat v.length :: v)) i fc many = (if fc = 15 then Co.get (st v) many else Tw.getAll (st v)) ∧
   valOk (st (p ++ UInt8.ofNat v.length :: v)) i fc many = (if fc = 15 then Co.getOk (st v) many else Tw.evenB (st v)) := by
 have h0 := valOk0_mid p v hv many hm i hi
 have hs := sub_mid p (UInt8.ofNat v.length) v (i + 1) (by omega)
 rw [vals, valOk, h0, hs]
 simp
theorem back1 {a : AskP} (h : formed a = true) : read (st (bytes a)) = a ∧ readOk (st (bytes a)) = true ∧ begins (st (bytes a)) = true ∧ ((bytes a).length : Int) = sizeOf a := by
 rcases cases_formed h with ⟨fc, rd, ct, rfl, hf, h0, h1, h2, h3⟩ | ⟨wr, z, rfl, h0, h1, hz⟩ | ⟨wr, z, rfl, h0, h1, h2, h3⟩ | ⟨wr, y, z, rfl, h0, h1, hy, h2, h3⟩ |
  ⟨wr, vs, rfl, h0, h1, h2, h3, hb⟩ | ⟨wr, vs, rfl, h0, h1, h2, h3, hb⟩ | ⟨rd, ct, wr, vs, rfl, hrd, hct, h0, h1, h2, h3, hb⟩
 ·rw [shapeR hf]
  have hb0 : byteAt (st (UInt8.ofNat fc.toNat :: (Tw.two rd ++ (Tw.two ct ++ [])))) 0 = fc := by rw [byteAt_head, ofNat_int fc (by omega) (by omega)]
  have a1 := at_two [UInt8.ofNat fc.toNat] rd h0 h1 (Tw.two ct ++ []) 1 rfl
  have a3 := at_two (UInt8.ofNat fc.toNat :: Tw.two rd) ct (by omega) (by omega) [] 3 rfl
  simp only [List.cons_append, List.nil_append] at a1 a3
  refine ⟨?_, ?_, ?_, ?_⟩
  ·simp only [read, hb0, if_pos hf, a1, a3]
  ·simp only [readOk, hb0, if_pos hf]; rfl
  ·rw [begins, hb0, (known_iff fc).2 (by omega)]; rfl
  ·rcases hf with rfl | rfl | rfl | rfl <;> rfl
 ·rw [shape5]
  have hb0 : byteAt (st (UInt8.ofNat 5 :: (Tw.two wr ++ (Tw.two (65280 * [z].getD 0 0) ++ [])))) 0 = 5 := byteAt_head _ _
  have a1 := at_two [UInt8.ofNat 5] wr h0 h1 (Tw.two (65280 * [z].getD 0 0) ++ []) 1 rfl
  have hzz : 0 <= 65280 * [z].getD 0 0 ∧ 65280 * [z].getD 0 0 <= 65535 := by rcases hz with rfl | rfl <;> simp
  have a3 := at_two (UInt8.ofNat 5 :: Tw.two wr) (65280 * [z].getD 0 0) hzz.1 hzz.2 [] 3 rfl
  simp only [List.cons_append, List.nil_append] at a1 a3
  refine ⟨?_, ?_, ?_, rfl⟩
  ·simp only [read, hb0, a1, a3]
   rcases hz with rfl | rfl <;> simp [coil]
  ·simp only [readOk, hb0, a3]
   rcases hz with rfl | rfl <;> rfl
  ·rw [begins, hb0]; rfl
 ·rw [shape6]
  have hb0 : byteAt (st (UInt8.ofNat 6 :: (Tw.two wr ++ (Tw.two z ++ [])))) 0 = 6 := byteAt_head _ _
  have a1 := at_two [UInt8.ofNat 6] wr h0 h1 (Tw.two z ++ []) 1 rfl
  have a3 := at_two (UInt8.ofNat 6 :: Tw.two wr) z h2 h3 [] 3 rfl
  simp only [List.cons_append, List.nil_append] at a1 a3
  refine ⟨?_, ?_, ?_, rfl⟩
  ·generalize hS : st (UInt8.ofNat 6 :: (Tw.two wr ++ (Tw.two z ++ []))) = S at *
   simp [read, hb0, a1, a3]
  ·simp only [readOk, hb0]; rfl
  ·rw [begins, hb0]; rfl
 ·rw [shape22]
  have hb0 : byteAt (st (UInt8.ofNat 22 :: (Tw.two wr ++ (Tw.two y ++ (Tw.two z ++ []))))) 0 = 22 := byteAt_head _ _
  have a1 := at_two [UInt8.ofNat 22] wr h0 h1 (Tw.two y ++ (Tw.two z ++ [])) 1 rfl
  have a3 := at_two (UInt8.ofNat 22 :: Tw.two wr) y hy.1 hy.2 (Tw.two z ++ []) 3 rfl
  have a5 := at_two (UInt8.ofNat 22 :: (Tw.two wr ++ Tw.two y)) z h2 h3 [] 5 rfl
  simp only [List.cons_append, List.nil_append, List.append_assoc] at a1 a3 a5
  refine ⟨?_, ?_, ?_, rfl⟩
  ·generalize hS : st (UInt8.ofNat 22 :: (Tw.two wr ++ (Tw.two y ++ (Tw.two z ++ [])))) = S at *
   simp [read, hb0, a1, a3, a5]
  ·simp only [readOk, hb0]; rfl
  ·rw [begins, hb0]; rfl
 ·rw [shape15]
  have hlen := Co.bytes_len vs
  have hv : (Co.bytes vs).length < 256 := by rw [hlen]; unfold Co.nsize; omega
  have hbk := Co.back1 vs hb
  rw [Co.put_ok vs hb] at hbk
  have hlen2 : (UInt8.ofNat 15 :: (Tw.two wr ++ (Tw.two (vs.length : Int) ++ (UInt8.ofNat (Co.bytes vs).length :: Co.bytes vs)))).length = sizeOf ⟨15, 0, 0, wr, (vs.length : Int), vs⟩ := by
   simp only [List.length_cons, List.length_append, two_len, hlen, Co.nsize, sizeOf]
   simp
   omega
  clear hlen
  generalize Co.bytes vs = v at *
  have hb0 : byteAt (st (UInt8.ofNat 15 :: (Tw.two wr ++ (Tw.two (vs.length : Int) ++ (UInt8.ofNat v.length :: v))))) 0 = 15 := byteAt_head _ _
  have a1 := at_two [UInt8.ofNat 15] wr h0 h1 (Tw.two (vs.length : Int) ++ (UInt8.ofNat v.length :: v)) 1 rfl
  have a3 := at_two (UInt8.ofNat 15 :: Tw.two wr) (vs.length : Int) (by omega) (by omega) (UInt8.ofNat v.length :: v) 3 rfl
  have v5 := vals_mid (UInt8.ofNat 15 :: (Tw.two wr ++ Tw.two (vs.length : Int))) v hv 15 (vs.length : Int) (by omega) 5 rfl
  simp only [List.cons_append, List.nil_append, List.append_assoc] at a1 a3 v5
  simp only [if_true] at v5
  rw [hbk.1, hbk.2.1] at v5
  generalize hS : st (UInt8.ofNat 15 :: (Tw.two wr ++ (Tw.two (vs.length : Int) ++ (UInt8.ofNat v.length :: v)))) = S at *
  have hp : 0 < S.size := by rw [<- hS, st_size]; simp
  refine ⟨?_, ?_, ?_, hlen2⟩
  ·simp [read, hb0, a1, a3, v5.1]
  ·simp [readOk, hb0, a3, v5.2]
  ·rw [begins, hb0]; simp [known, hp]
 ·rw [shape16]
  have hlen := Tw.bytes_len vs
  have hv : (Tw.bytes vs).length < 256 := by rw [hlen]; omega
  have hbk := Tw.back1 vs hb
  rw [show Tw.put vs = Tw.bytes vs by rw [Tw.put, hb]; rfl] at hbk
  have hlen2 : (UInt8.ofNat 16 :: (Tw.two wr ++ (Tw.two (vs.length : Int) ++ (UInt8.ofNat (Tw.bytes vs).length :: Tw.bytes vs)))).length = sizeOf ⟨16, 0, 0, wr, (vs.length : Int), vs⟩ := by
   simp only [List.length_cons, List.length_append, two_len, hlen, sizeOf]
   simp
   omega
  clear hlen
  generalize Tw.bytes vs = v at *
  have hb0 : byteAt (st (UInt8.ofNat 16 :: (Tw.two wr ++ (Tw.two (vs.length : Int) ++ (UInt8.ofNat v.length :: v))))) 0 = 16 := byteAt_head _ _
  have a1 := at_two [UInt8.ofNat 16] wr h0 h1 (Tw.two (vs.length : Int) ++ (UInt8.ofNat v.length :: v)) 1 rfl
  have a3 := at_two (UInt8.ofNat 16 :: Tw.two wr) (vs.length : Int) (by omega) (by omega) (UInt8.ofNat v.length :: v) 3 rfl
  have v5 := vals_mid (UInt8.ofNat 16 :: (Tw.two wr ++ Tw.two (vs.length : Int))) v hv 16 (vs.length : Int) (by omega) 5 rfl
  simp only [List.cons_append, List.nil_append, List.append_assoc] at a1 a3 v5
  rw [if_neg (by decide), if_neg (by decide)] at v5
  rw [hbk.1, hbk.2.1] at v5
  generalize hS : st (UInt8.ofNat 16 :: (Tw.two wr ++ (Tw.two (vs.length : Int) ++ (UInt8.ofNat v.length :: v)))) = S at *
  have hp : 0 < S.size := by rw [<- hS, st_size]; simp
  refine ⟨?_, ?_, ?_, hlen2⟩
  ·simp [read, hb0, a1, a3, v5.1]
  ·simp [readOk, hb0, a3, v5.2]
  ·rw [begins, hb0]; simp [known, hp]
 ·rw [shape23]
  have hlen := Tw.bytes_len vs
  have hv : (Tw.bytes vs).length < 256 := by rw [hlen]; omega
  have hbk := Tw.back1 vs hb
  rw [show Tw.put vs = Tw.bytes vs by rw [Tw.put, hb]; rfl] at hbk
  have hlen2 : (UInt8.ofNat 23 :: (Tw.two rd ++ (Tw.two ct ++ (Tw.two wr ++ (Tw.two (vs.length : Int) ++ (UInt8.ofNat (Tw.bytes vs).length :: Tw.bytes vs)))))).length = sizeOf ⟨23, rd, ct, wr, (vs.length : Int), vs⟩ := by
   simp only [List.length_cons, List.length_append, two_len, hlen, sizeOf]
   simp
   omega
  clear hlen
  generalize Tw.bytes vs = v at *
  have hb0 : byteAt (st (UInt8.ofNat 23 :: (Tw.two rd ++ (Tw.two ct ++ (Tw.two wr ++ (Tw.two (vs.length : Int) ++ (UInt8.ofNat v.length :: v))))))) 0 = 23 := byteAt_head _ _
  have a1 := at_two [UInt8.ofNat 23] rd hrd.1 hrd.2 (Tw.two ct ++ (Tw.two wr ++ (Tw.two (vs.length : Int) ++ (UInt8.ofNat v.length :: v)))) 1 rfl
  have a3 := at_two (UInt8.ofNat 23 :: Tw.two rd) ct (by omega) (by omega) (Tw.two wr ++ (Tw.two (vs.length : Int) ++ (UInt8.ofNat v.length :: v))) 3 rfl
  have a5 := at_two (UInt8.ofNat 23 :: (Tw.two rd ++ Tw.two ct)) wr h0 h1 (Tw.two (vs.length : Int) ++ (UInt8.ofNat v.length :: v)) 5 rfl
  have a7 := at_two (UInt8.ofNat 23 :: (Tw.two rd ++ (Tw.two ct ++ Tw.two wr))) (vs.length : Int) (by omega) (by omega) (UInt8.ofNat v.length :: v) 7 rfl
  have v5 := vals_mid (UInt8.ofNat 23 :: (Tw.two rd ++ (Tw.two ct ++ (Tw.two wr ++ Tw.two (vs.length : Int))))) v hv 23 (vs.length : Int) (by omega) 9 rfl
  simp only [List.cons_append, List.nil_append, List.append_assoc] at a1 a3 a5 a7 v5
  rw [if_neg (by decide), if_neg (by decide)] at v5
  rw [hbk.1, hbk.2.1] at v5
  generalize hS : st (UInt8.ofNat 23 :: (Tw.two rd ++ (Tw.two ct ++ (Tw.two wr ++ (Tw.two (vs.length : Int) ++ (UInt8.ofNat v.length :: v)))))) = S at *
  have hp : 0 < S.size := by rw [<- hS, st_size]; simp
  refine ⟨?_, ?_, ?_, hlen2⟩
  ·simp [read, hb0, a1, a3, a5, a7, v5.1]
  ·simp [readOk, hb0, a7, v5.2]
  ·rw [begins, hb0]; simp [known, hp]
theorem len_le {a : AskP} (h : formed a = true) : (bytes a).length <= 253 := by
 have hs := (back1 h).2.2.2
 rcases cases_formed h with ⟨fc, rd, ct, rfl, hf, h0, h1, h2, h3⟩ | ⟨wr, z, rfl, h0, h1, hz⟩ | ⟨wr, z, rfl, h0, h1, h2, h3⟩ | ⟨wr, y, z, rfl, h0, h1, hy, h2, h3⟩ |
  ⟨wr, vs, rfl, h0, h1, h2, h3, hb⟩ | ⟨wr, vs, rfl, h0, h1, h2, h3, hb⟩ | ⟨rd, ct, wr, vs, rfl, hrd, hct, h0, h1, h2, h3, hb⟩
 ·rcases hf with rfl | rfl | rfl | rfl <;> simp [sizeOf] at hs <;> omega
 all_goals (simp [sizeOf] at hs; omega)
theorem err_right {a : AskP} (h : right a = true) : err (st (put a)) = 0 ∧ get (st (put a)) = a ∧ put a = bytes a := by
 have hf := ((right_iff a).1 h).1
 obtain ⟨h1, h2, h3, _⟩ := back1 hf
 have e : put a = bytes a := by rw [put, h]; rfl
 have e0 : err (st (put a)) = 0 := by rw [e, err, h3, h2, h1, hf, h]; rfl
 refine ⟨e0, ?_, e⟩
 rw [get, e0, e]
 exact h1
theorem two_mid (p : List UInt8) (x y : UInt8) (q : List UInt8) (i : Int) (hi : i = (p.length : Int)) : Tw.two (at_ (st (p ++ x :: y :: q)) i) = [x, y] := by
 subst hi
 have hok : Tw.getOk (st (p ++ x :: y :: q)) (p.length : Int) = true := by
  rw [Tw.getOk, Bool.and_eq_true, decide_eq_true_eq, decide_eq_true_eq, st_size]
  simp
  omega
 have h1 := byteAt_mid p x (y :: q) (p.length : Int) rfl
 have h2 := byteAt_mid (p ++ [x]) y q ((p.length : Int) + 1) (by simp)
 rw [List.append_assoc] at h2
 rw [at_, Tw.get, hok]
 simp only [if_true]
 rw [Tw.num, h1, show byteAt (st (p ++ x :: y :: q)) ((p.length : Int) + 1) = (y.toNat : Int) from h2, Tw.two]
 have b1 := UInt8.toNat_lt x
 have b2 := UInt8.toNat_lt y
 congr 1
 ·rw [show (((x.toNat : Int) * 256 + (y.toNat : Int)) / 256).toNat = x.toNat from by omega]
  simp
 ·rw [show (((x.toNat : Int) * 256 + (y.toNat : Int)) % 256).toNat = y.toNat from by omega]
  simp
theorem list_cons (l : List UInt8) (h : 0 < l.length) : ∃ x t, l = x :: t := by
 match l, h with
 | x :: t, _ => exact ⟨x, t, rfl⟩
theorem byte_of {b : UInt8} {n : Nat} (h : (b.toNat : Int) = (n : Int)) : b = UInt8.ofNat n := by
 have : b.toNat = n := by omega
 rw [<- this]; simp
theorem valOk_tail {s : ByteArray} {p : List UInt8} {b : UInt8} {v : List UInt8} {i : Nat} {fc many : Int} (hs : bl s = p ++ b :: v) (hi : i = p.length) (h : valOk s i fc many = true) :
  b = UInt8.ofNat v.length ∧ sub s (i + 1) = st v ∧ valOk0 s i many = true := by
 obtain rfl : s = st (p ++ b :: v) := by rw [<- hs, st_bl]
 rw [valOk, Bool.and_eq_true] at h
 have h0 := h.1
 refine ⟨?_, sub_mid p b v _ (by omega), h0⟩
 rw [valOk0, Bool.and_eq_true, Bool.and_eq_true, beq_iff_eq, byteAt_mid p b v _ (by omega), st_size] at h0
 apply byte_of
 have := h0.1.2
 simp at this
 omega
theorem take5 (l : List UInt8) (h : 5 <= l.length) : ∃ a b c d e t, l = a :: b :: c :: d :: e :: t := by
 match l, h with
 | a :: b :: c :: d :: e :: t, _ => exact ⟨a, b, c, d, e, t, rfl⟩
theorem take4 (l : List UInt8) (h : 4 <= l.length) : ∃ a b c d t, l = a :: b :: c :: d :: t := by
 match l, h with
 | a :: b :: c :: d :: t, _ => exact ⟨a, b, c, d, t, rfl⟩
theorem back2 {s : ByteArray} (hb : begins s = true) (hr : readOk s = true) (hf : formed (read s) = true) : bytes (read s) = bl s := by
 obtain ⟨l, rfl⟩ : ∃ l, s = st l := ⟨bl s, (st_bl s).symm⟩
 rw [bl_st]
 rw [begins, Bool.and_eq_true, decide_eq_true_eq] at hb
 obtain ⟨hp, hk⟩ := hb
 obtain ⟨x, t, rfl⟩ := list_cons l hp
 have hb0 : byteAt (st (x :: t)) 0 = (x.toNat : Int) := byteAt_head _ _
 have hx : ∀ n : Nat, (x.toNat : Int) = (n : Int) -> x = UInt8.ofNat n := fun n h => byte_of h
 rw [known_iff] at hk
 rw [hb0] at hk
 clear hp
 have R4 : ((x.toNat : Int) = 1 ∨ (x.toNat : Int) = 2 ∨ (x.toNat : Int) = 3 ∨ (x.toNat : Int) = 4) -> bytes (read (st (x :: t))) = x :: t := fun h4 => by
  have hr' : (st (x :: t)).size = 5 := by simpa [readOk, hb0, h4] using hr
  obtain ⟨b1, b2, b3, b4, t', rfl⟩ := take4 t (by rw [st_size] at hr'; simp only [List.length_cons] at hr'; omega)
  obtain rfl : t' = [] := List.eq_nil_of_length_eq_zero (by rw [st_size] at hr'; simp only [List.length_cons] at hr'; omega)
  have e1 := two_mid [x] b1 b2 [b3, b4] 1 rfl
  have e3 := two_mid [x, b1, b2] b3 b4 [] 3 rfl
  simp only [List.cons_append, List.nil_append] at e1 e3
  have er : read (st [x, b1, b2, b3, b4]) = ⟨(x.toNat : Int), at_ (st [x, b1, b2, b3, b4]) 1, at_ (st [x, b1, b2, b3, b4]) 3, 0, 0, []⟩ := by simp [read, hb0, h4]
  rw [er, shapeR h4, e1, e3]
  simp
 rcases hk with h | h | h | h | h | h | h | h | h | h
 ·exact R4 (by omega)
 ·exact R4 (by omega)
 ·exact R4 (by omega)
 ·exact R4 (by omega)
 ·have hxn := hx 5 h
  have hb0 : byteAt (st (x :: t)) 0 = 5 := by rw [hb0]; exact h
  clear hx R4
  have hr' : (st (x :: t)).size = 5 ∧ (at_ (st (x :: t)) 3 = 65280 ∨ at_ (st (x :: t)) 3 = 0) := by simpa [readOk, hb0] using hr
  obtain ⟨b1, b2, b3, b4, t', rfl⟩ := take4 t (by have := hr'.1; rw [st_size] at this; simp only [List.length_cons] at this; omega)
  obtain rfl : t' = [] := List.eq_nil_of_length_eq_zero (by have := hr'.1; rw [st_size] at this; simp only [List.length_cons] at this; omega)
  have e1 := two_mid [x] b1 b2 [b3, b4] 1 rfl
  have e3 := two_mid [x, b1, b2] b3 b4 [] 3 rfl
  simp only [List.cons_append, List.nil_append] at e1 e3
  generalize hS : st [x, b1, b2, b3, b4] = S at *
  have er : read S = ⟨5, 0, 0, at_ S 1, 1, [coil (at_ S 3)]⟩ := by simp [read, hb0]
  have ec : 65280 * [coil (at_ S 3)].getD 0 0 = at_ S 3 := by
   rcases hr'.2 with h | h <;> rw [h] <;> simp [coil]
  rw [er, shape5, ec, e1, e3, hxn]
  rfl
 ·have hxn := hx 6 h
  have hb0 : byteAt (st (x :: t)) 0 = 6 := by rw [hb0]; exact h
  clear hx R4
  have hr' : (st (x :: t)).size = 5 := by simpa [readOk, hb0] using hr
  obtain ⟨b1, b2, b3, b4, t', rfl⟩ := take4 t (by rw [st_size] at hr'; simp only [List.length_cons] at hr'; omega)
  obtain rfl : t' = [] := List.eq_nil_of_length_eq_zero (by rw [st_size] at hr'; simp only [List.length_cons] at hr'; omega)
  have e1 := two_mid [x] b1 b2 [b3, b4] 1 rfl
  have e3 := two_mid [x, b1, b2] b3 b4 [] 3 rfl
  simp only [List.cons_append, List.nil_append] at e1 e3
  generalize hS : st [x, b1, b2, b3, b4] = S at *
  have er : read S = ⟨6, 0, 0, at_ S 1, 1, [at_ S 3]⟩ := by simp [read, hb0]
  rw [er, shape6, e1, e3, hxn]
  rfl
 ·have hxn := hx 15 h
  have hb0 : byteAt (st (x :: t)) 0 = 15 := by rw [hb0]; exact h
  clear hx R4
  have hr' : valOk (st (x :: t)) 5 15 (at_ (st (x :: t)) 3) = true := by simpa [readOk, hb0] using hr
  have hs5 : 5 <= t.length := by
   have h := hr'
   rw [valOk, Bool.and_eq_true, valOk0, Bool.and_eq_true, Bool.and_eq_true, decide_eq_true_eq, st_size] at h
   have := h.1.1.1
   simp at this
   omega
  obtain ⟨b1, b2, b3, b4, b5, v, rfl⟩ := take5 t hs5
  have e1 := two_mid [x] b1 b2 (b3 :: b4 :: b5 :: v) 1 rfl
  have e3 := two_mid [x, b1, b2] b3 b4 (b5 :: v) 3 rfl
  have ht : b5 = UInt8.ofNat v.length ∧ sub (st (x :: b1 :: b2 :: b3 :: b4 :: b5 :: v)) (5 + 1) = st v ∧ valOk0 (st (x :: b1 :: b2 :: b3 :: b4 :: b5 :: v)) 5 (at_ (st (x :: b1 :: b2 :: b3 :: b4 :: b5 :: v)) 3) = true := valOk_tail (p := [x, b1, b2, b3, b4]) (b := b5) (v := v) (bl_st _) rfl hr'
  simp only [List.cons_append, List.nil_append] at e1 e3
  generalize hS : st (x :: b1 :: b2 :: b3 :: b4 :: b5 :: v) = S at *
  have er : read S = ⟨15, 0, 0, at_ S 1, at_ S 3, vals S 5 15 (at_ S 3)⟩ := by simp [read, hb0]
  have hv : Co.getOk (st v) (at_ S 3) = true := by
   rw [valOk, ht.2.1, Bool.and_eq_true] at hr'
   simpa using hr'.2
  have ev : vals S 5 15 (at_ S 3) = Co.get (st v) (at_ S 3) := by rw [vals, ht.2.2, ht.2.1]; rfl
  have hbk := Co.back2 (st v) _ hv
  have ep : Co.bytes (Co.get (st v) (at_ S 3)) = v := by
   rw [<- Co.put_ok _ hbk.1]
   have := congrArg bl hbk.2.1
   simpa [bl_st] using this
  rw [er, shape15, ev, ep, e1, e3, <- ht.1, hxn]
  rfl
 ·have hxn := hx 16 h
  have hb0 : byteAt (st (x :: t)) 0 = 16 := by rw [hb0]; exact h
  clear hx R4
  have hr' : valOk (st (x :: t)) 5 16 (at_ (st (x :: t)) 3) = true := by simpa [readOk, hb0] using hr
  have hs5 : 5 <= t.length := by
   have h := hr'
   rw [valOk, Bool.and_eq_true, valOk0, Bool.and_eq_true, Bool.and_eq_true, decide_eq_true_eq, st_size] at h
   have := h.1.1.1
   simp at this
   omega
  obtain ⟨b1, b2, b3, b4, b5, v, rfl⟩ := take5 t hs5
  have e1 := two_mid [x] b1 b2 (b3 :: b4 :: b5 :: v) 1 rfl
  have e3 := two_mid [x, b1, b2] b3 b4 (b5 :: v) 3 rfl
  have ht : b5 = UInt8.ofNat v.length ∧ sub (st (x :: b1 :: b2 :: b3 :: b4 :: b5 :: v)) (5 + 1) = st v ∧ valOk0 (st (x :: b1 :: b2 :: b3 :: b4 :: b5 :: v)) 5 (at_ (st (x :: b1 :: b2 :: b3 :: b4 :: b5 :: v)) 3) = true := valOk_tail (p := [x, b1, b2, b3, b4]) (b := b5) (v := v) (bl_st _) rfl hr'
  simp only [List.cons_append, List.nil_append] at e1 e3
  generalize hS : st (x :: b1 :: b2 :: b3 :: b4 :: b5 :: v) = S at *
  have er : read S = ⟨16, 0, 0, at_ S 1, at_ S 3, vals S 5 16 (at_ S 3)⟩ := by simp [read, hb0]
  have hv : Tw.evenB (st v) = true := by
   rw [valOk, ht.2.1, Bool.and_eq_true] at hr'
   simpa using hr'.2
  have ev : vals S 5 16 (at_ S 3) = Tw.getAll (st v) := by rw [vals, ht.2.2, ht.2.1]; rfl
  have hbk := Tw.back2 (st v) hv
  have ep : Tw.bytes (Tw.getAll (st v)) = v := by
   have := congrArg bl hbk.1
   rw [Tw.put, hbk.2] at this
   simpa [bl_st] using this
  rw [er, shape16, ev, ep, e1, e3, <- ht.1, hxn]
  rfl
 ·have hxn := hx 22 h
  have hb0 : byteAt (st (x :: t)) 0 = 22 := by rw [hb0]; exact h
  clear hx R4
  have hr' : (st (x :: t)).size = 7 := by simpa [readOk, hb0] using hr
  obtain ⟨b1, b2, b3, b4, t', rfl⟩ := take4 t (by rw [st_size] at hr'; simp only [List.length_cons] at hr'; omega)
  obtain ⟨b5, t'', rfl⟩ := list_cons t' (by rw [st_size] at hr'; simp only [List.length_cons] at hr'; omega)
  obtain ⟨b6, t3, rfl⟩ := list_cons t'' (by rw [st_size] at hr'; simp only [List.length_cons] at hr'; omega)
  obtain rfl : t3 = [] := List.eq_nil_of_length_eq_zero (by rw [st_size] at hr'; simp only [List.length_cons] at hr'; omega)
  have e1 := two_mid [x] b1 b2 [b3, b4, b5, b6] 1 rfl
  have e3 := two_mid [x, b1, b2] b3 b4 [b5, b6] 3 rfl
  have e5 := two_mid [x, b1, b2, b3, b4] b5 b6 [] 5 rfl
  simp only [List.cons_append, List.nil_append] at e1 e3 e5
  generalize hS : st [x, b1, b2, b3, b4, b5, b6] = S at *
  have er : read S = ⟨22, 0, 0, at_ S 1, 1, [at_ S 3, at_ S 5]⟩ := by simp [read, hb0]
  rw [er, shape22, e1, e3, e5, hxn]
  rfl
 ·have hxn := hx 23 h
  have hb0 : byteAt (st (x :: t)) 0 = 23 := by rw [hb0]; exact h
  clear hx R4
  have hr' : valOk (st (x :: t)) 9 23 (at_ (st (x :: t)) 7) = true := by simpa [readOk, hb0] using hr
  have hs5 : 9 <= t.length := by
   have h := hr'
   rw [valOk, Bool.and_eq_true, valOk0, Bool.and_eq_true, Bool.and_eq_true, decide_eq_true_eq, st_size] at h
   have := h.1.1.1
   simp at this
   omega
  obtain ⟨b1, b2, b3, b4, t4, rfl⟩ := take4 t (by omega)
  obtain ⟨b5, b6, b7, b8, b9, v, rfl⟩ := take5 t4 (by simp at hs5; omega)
  have e1 := two_mid [x] b1 b2 (b3 :: b4 :: b5 :: b6 :: b7 :: b8 :: b9 :: v) 1 rfl
  have e3 := two_mid [x, b1, b2] b3 b4 (b5 :: b6 :: b7 :: b8 :: b9 :: v) 3 rfl
  have e5 := two_mid [x, b1, b2, b3, b4] b5 b6 (b7 :: b8 :: b9 :: v) 5 rfl
  have e7 := two_mid [x, b1, b2, b3, b4, b5, b6] b7 b8 (b9 :: v) 7 rfl
  have ht : b9 = UInt8.ofNat v.length ∧ sub (st (x :: b1 :: b2 :: b3 :: b4 :: b5 :: b6 :: b7 :: b8 :: b9 :: v)) (9 + 1) = st v ∧ valOk0 (st (x :: b1 :: b2 :: b3 :: b4 :: b5 :: b6 :: b7 :: b8 :: b9 :: v)) 9 (at_ (st (x :: b1 :: b2 :: b3 :: b4 :: b5 :: b6 :: b7 :: b8 :: b9 :: v)) 7) = true := valOk_tail (p := [x, b1, b2, b3, b4, b5, b6, b7, b8]) (b := b9) (v := v) (bl_st _) rfl hr'
  simp only [List.cons_append, List.nil_append] at e1 e3 e5 e7
  generalize hS : st (x :: b1 :: b2 :: b3 :: b4 :: b5 :: b6 :: b7 :: b8 :: b9 :: v) = S at *
  have er : read S = ⟨23, at_ S 1, at_ S 3, at_ S 5, at_ S 7, vals S 9 23 (at_ S 7)⟩ := by simp [read, hb0]
  have hv : Tw.evenB (st v) = true := by
   rw [valOk, ht.2.1, Bool.and_eq_true] at hr'
   simpa using hr'.2
  have ev : vals S 9 23 (at_ S 7) = Tw.getAll (st v) := by rw [vals, ht.2.2, ht.2.1]; rfl
  have hbk := Tw.back2 (st v) hv
  have ep : Tw.bytes (Tw.getAll (st v)) = v := by
   have := congrArg bl hbk.1
   rw [Tw.put, hbk.2] at this
   simpa [bl_st] using this
  rw [er, shape23, ev, ep, e1, e3, e5, e7, <- ht.1, hxn]
  rfl
theorem get_right {s : ByteArray} (h : err s = 0) : right (get s) = true ∧ st (put (get s)) = s ∧ s.size <= 253 := by
 have e : get s = read s := by rw [get, if_pos h]
 rw [e]
 unfold err at h
 split at h
 ·omega
 ·split at h
  ·omega
  ·split at h
   ·omega
   ·rename_i h1 h2 h3
    have hb : begins s = true := by simpa using h1
    have h2' : readOk s = true ∧ formed (read s) = true := by simpa using h2
    have hr : right (read s) = true := by simpa using h3
    have hbk := back2 hb h2'.1 h2'.2
    have hp : put (read s) = bl s := by rw [put, hr]; exact hbk
    refine ⟨hr, by rw [hp, st_bl], ?_⟩
    have := len_le h2'.2
    rw [hbk, bl_length] at this
    exact this
end Go.Proofs.YtaciogcpghbhjaaGreat.Ak
/- Frames in plain words: which may be, their bytes, how many they need, what bytes tell; there and back. Conditions: none. -/
structure Go.Proofs.YtaciogcpghbhjaaGreat.FrameP where
 id : Int
 unit : Int
 pdu : ByteArray
namespace Go.Proofs.YtaciogcpghbhjaaGreat.Mb
set_option linter.unusedVariables false
open Go.RowKit
def zero : FrameP := ⟨0, 0, ⟨#[]⟩⟩
def right (f : FrameP) : Bool := decide (0 <= f.id) && decide (f.id <= 65535) && decide (0 <= f.unit) && decide (f.unit <= 255) && decide (1 <= f.pdu.size) && decide (f.pdu.size <= 253)
def bytes (f : FrameP) : List UInt8 := Tw.two f.id ++ (Tw.two 0 ++ (Tw.two (1 + (f.pdu.size : Int)) ++ (UInt8.ofNat f.unit.toNat :: bl f.pdu)))
def put (f : FrameP) : List UInt8 := if right f then bytes f else []
def bad (s : ByteArray) : Bool := !(Tw.num s 2 == 0) || decide (Tw.num s 4 < 2) || decide (254 < Tw.num s 4)
def needErr (s : ByteArray) : Int := if s.size < 6 then 0 else if bad s then 5 else 0
def need (s : ByteArray) : Int := if s.size < 6 then 0 else if bad s then 0 else 6 + Tw.num s 4
def whole (s : ByteArray) : Bool := decide (6 <= s.size) && !bad s && 6 + Tw.num s 4 == (s.size : Int)
def read (s : ByteArray) : FrameP := ⟨Tw.num s 0, byteAt s 6, Ak.sub s 7⟩
def get (s : ByteArray) : FrameP := if whole s then read s else zero
theorem right_iff (f : FrameP) : right f = true ↔ (0 <= f.id ∧ f.id <= 65535) ∧ (0 <= f.unit ∧ f.unit <= 255) ∧ 1 <= f.pdu.size ∧ f.pdu.size <= 253 := by
 simp [right, and_assoc]
theorem bytes_len (f : FrameP) : (bytes f).length = 7 + f.pdu.size := by
 simp [bytes, Tw.two, bl_length]; omega
theorem bad_false (s : ByteArray) : bad s = false ↔ Tw.num s 2 = 0 ∧ 2 <= Tw.num s 4 ∧ Tw.num s 4 <= 254 := by
 simp [bad]; omega
theorem whole_iff (s : ByteArray) : whole s = true ↔ 6 <= s.size ∧ bad s = false ∧ 6 + Tw.num s 4 = (s.size : Int) := by
 simp [whole, and_assoc]
theorem six (l : List UInt8) (h : 7 <= l.length) : ∃ a b c d e f g t, l = a :: b :: c :: d :: e :: f :: g :: t := by
 match l, h with
 | a :: b :: c :: d :: e :: f :: g :: t, _ => exact ⟨a, b, c, d, e, f, g, t, rfl⟩
theorem num_mid (p : List UInt8) (x y : UInt8) (q : List UInt8) (i : Int) (hi : i = (p.length : Int)) : Tw.num (st (p ++ x :: y :: q)) i = (x.toNat : Int) * 256 + y.toNat := by
 subst hi
 have h1 := Ak.byteAt_mid p x (y :: q) (p.length : Int) rfl
 have h2 := Ak.byteAt_mid (p ++ [x]) y q ((p.length : Int) + 1) (by simp)
 rw [List.append_assoc] at h2
 rw [Tw.num, h1, show byteAt (st (p ++ x :: y :: q)) ((p.length : Int) + 1) = (y.toNat : Int) from h2]
theorem two_of (x y : UInt8) : Tw.two ((x.toNat : Int) * 256 + y.toNat) = [x, y] := by
 have b1 := UInt8.toNat_lt x
 have b2 := UInt8.toNat_lt y
 rw [Tw.two]
 congr 1
 ·rw [show (((x.toNat : Int) * 256 + (y.toNat : Int)) / 256).toNat = x.toNat from by omega]
  simp
 ·rw [show (((x.toNat : Int) * 256 + (y.toNat : Int)) % 256).toNat = y.toNat from by omega]
  simp
theorem back2 {s : ByteArray} (h : whole s = true) : right (read s) = true ∧ bytes (read s) = bl s := by
 obtain ⟨l, rfl⟩ : ∃ l, s = st l := ⟨bl s, (st_bl s).symm⟩
 rw [whole_iff, bad_false, st_size] at h
 obtain ⟨h1, ⟨h2, h3, h4⟩, h5⟩ := h
 obtain ⟨a, b, c, d, e, f, g, t, rfl⟩ := six l (by omega)
 have n0 := num_mid [] a b (c :: d :: e :: f :: g :: t) 0 rfl
 have n2 := num_mid [a, b] c d (e :: f :: g :: t) 2 rfl
 have n4 := num_mid [a, b, c, d] e f (g :: t) 4 rfl
 have b6 := Ak.byteAt_mid [a, b, c, d, e, f] g t 6 rfl
 have s7 := Ak.sub_mid [a, b, c, d, e, f] g t 7 rfl
 simp only [List.nil_append, List.cons_append] at n0 n2 n4 b6 s7
 have hrd : read (st (a :: b :: c :: d :: e :: f :: g :: t)) = ⟨(a.toNat : Int) * 256 + b.toNat, (g.toNat : Int), st t⟩ := by
  unfold read
  rw [n0, b6, s7]
 rw [n4] at h3 h4 h5
 rw [n2] at h2
 rw [hrd, bl_st]
 simp only [List.length_cons] at h5
 have ba := UInt8.toNat_lt a
 have bb := UInt8.toNat_lt b
 have bc := UInt8.toNat_lt c
 have bd := UInt8.toNat_lt d
 have bg := UInt8.toNat_lt g
 refine ⟨(right_iff _).2 ⟨by simp only; omega, by simp only; omega, by simp only [st_size]; omega⟩, ?_⟩
 unfold bytes
 simp only [st_size, bl_st]
 rw [two_of, show (0 : Int) = (c.toNat : Int) * 256 + d.toNat from by omega, two_of, show (1 + (t.length : Int)) = (e.toNat : Int) * 256 + f.toNat from by omega, two_of]
 simp
theorem put_get {s : ByteArray} (h : whole s = true) : put (get s) = bl s ∧ right (get s) = true := by
 obtain ⟨h1, h2⟩ := back2 h
 have e : get s = read s := by rw [get, h]; rfl
 rw [e, put, h1]
 exact ⟨h2, rfl⟩
theorem need_short (s : ByteArray) (h : s.size < 6) : need s = 0 ∧ needErr s = 0 := by
 rw [need, needErr, if_pos h, if_pos h]; exact ⟨rfl, rfl⟩
theorem need_range (s : ByteArray) (h : 6 <= s.size) : (needErr s = 0 ∧ 8 <= need s ∧ need s <= 260) ∨ (needErr s = 5 ∧ need s = 0) := by
 have hs : ¬ s.size < 6 := by omega
 simp only [need, needErr, if_neg hs]
 cases hb : bad s
 ·left
  have := (bad_false s).1 hb
  simp
  omega
 ·right; simp
end Go.Proofs.YtaciogcpghbhjaaGreat.Mb
/- The developers' way to a request in plain words: shaped, inside, what is taken out of bytes; it comes to the same. Conditions: none. -/
namespace Go.Proofs.YtaciogcpghbhjaaGreat.Ak
set_option linter.unusedVariables false
open Go.RowKit
def partD (most lo n : Int) : Bool := if most = 0 then lo == 0 && n == 0 else decide (0 <= lo) && decide (1 <= n) && decide (n <= most)
def shaped (a : AskP) : Bool := known a.fc && partD (reads a.fc) a.rd a.ct && partD (wmax a.fc) a.wr a.mn && ((a.vs.length : Int) == need a && allTo (wtop a.fc) a.vs)
def inside (a : AskP) : Bool := decide (a.rd <= 65536 - a.ct) && decide (a.wr <= 65536 - a.mn)
def taken (s : ByteArray) : AskP :=
 let fc := byteAt s 0
 if fc = 1 ∨ fc = 2 ∨ fc = 3 ∨ fc = 4 then ⟨fc, Tw.get s 1, Tw.get s 3, 0, 0, []⟩
 else if fc = 5 then ⟨fc, 0, 0, Tw.get s 1, 1, [Tw.get s 3 / 65280]⟩
 else if fc = 6 then ⟨fc, 0, 0, Tw.get s 1, 1, [Tw.get s 3]⟩
 else if fc = 22 then ⟨fc, 0, 0, Tw.get s 1, 1, [Tw.get s 3, Tw.get s 5]⟩
 else if fc = 15 then ⟨fc, 0, 0, Tw.get s 1, Tw.get s 3, Co.get (sub s 6) (Tw.get s 3)⟩
 else if fc = 16 then ⟨fc, 0, 0, Tw.get s 1, Tw.get s 3, Tw.getAll (sub s 6)⟩
 else ⟨fc, Tw.get s 1, Tw.get s 3, Tw.get s 5, Tw.get s 7, Tw.getAll (sub s 10)⟩
theorem reads_nn (fc : Int) : 0 <= reads fc := by unfold reads; repeat (first | omega | split)
theorem wmax_nn (fc : Int) : 0 <= wmax fc := by unfold wmax; repeat (first | omega | split)
theorem reads_le (fc : Int) : reads fc <= 2000 := by unfold reads; repeat (first | omega | split)
theorem wmax_le (fc : Int) : wmax fc <= 1968 := by unfold wmax; repeat (first | omega | split)
theorem part_D (most lo n : Int) (h0 : 0 <= most) : part most lo n = (partD most lo n && decide (lo <= 65535)) := by
 rw [Bool.eq_iff_iff]
 unfold part partD
 split <;> simp [inTo_iff] <;> omega
theorem partD_nn (most lo n : Int) (h0 : 0 <= most) (h : partD most lo n = true) : 0 <= lo ∧ 0 <= n ∧ n <= most := by
 unfold partD at h
 split at h <;> simp at h <;> omega
theorem formed_D (a : AskP) : formed a = (shaped a && decide (a.rd <= 65535) && decide (a.wr <= 65535)) := by
 rw [formed, shaped, part_D _ _ _ (reads_nn _), part_D _ _ _ (wmax_nn _)]
 generalize known a.fc = k
 generalize partD _ a.rd _ = p
 generalize partD _ a.wr _ = q
 generalize decide (a.rd <= 65535) = x
 generalize decide (a.wr <= 65535) = y
 generalize ((a.vs.length : Int) == need a && allTo (wtop a.fc) a.vs) = z
 cases k <;> cases p <;> cases q <;> cases x <;> cases y <;> cases z <;> rfl
theorem shaped_nn {a : AskP} (h : shaped a = true) : (0 <= a.rd ∧ 0 <= a.ct ∧ a.ct <= 2000) ∧ 0 <= a.wr ∧ 0 <= a.mn ∧ a.mn <= 1968 := by
 simp only [shaped, Bool.and_eq_true] at h
 have h1 := partD_nn _ _ _ (reads_nn _) h.1.1.2
 have h2 := partD_nn _ _ _ (wmax_nn _) h.1.2
 have h3 := reads_le a.fc
 have h4 := wmax_le a.fc
 omega
theorem right_D (a : AskP) : right a = (shaped a && inside a) := by
 rw [Bool.eq_iff_iff, right_iff, formed_D]
 simp only [inside, Bool.and_eq_true, decide_eq_true_eq]
 constructor
 ·rintro ⟨⟨⟨h1, h2⟩, h3⟩, h4, h5⟩
  exact ⟨h1, by omega, by omega⟩
 ·rintro ⟨h1, h2, h3⟩
  have hn := shaped_nn h1
  refine ⟨⟨⟨h1, ?_⟩, ?_⟩, by omega, by omega⟩
  ·simp only [shaped, Bool.and_eq_true] at h1
   have h := h1.1.1.2
   unfold partD at h
   split at h <;> simp at h <;> omega
  ·simp only [shaped, Bool.and_eq_true] at h1
   have h := h1.1.2
   unfold partD at h
   split at h <;> simp at h <;> omega
theorem get_range (s : ByteArray) (i : Int) : 0 <= Tw.get s i ∧ Tw.get s i <= 65535 := by
 unfold Tw.get
 have := Tw.num_range s i
 split <;> omega
theorem taken_range (s : ByteArray) : ((taken s).rd <= 65535) ∧ (taken s).wr <= 65535 := by
 have h1 := get_range s 1
 have h5 := get_range s 5
 unfold taken
 simp only
 repeat' (first | (simp; done) | (simp; omega) | omega | split)
theorem taken_formed {s : ByteArray} (h : shaped (taken s) = true) : formed (taken s) = true := by
 have := taken_range s
 rw [formed_D, h]
 simp [this]
theorem at_get {s : ByteArray} {i : Int} (h : 0 <= at_ s i) : Tw.get s i = at_ s i := by
 unfold at_ at h ⊢
 split
 ·rfl
 ·rename_i hn
  rw [if_neg hn] at h
  omega
theorem taken_read {s : ByteArray} (hb : begins s = true) (hr : readOk s = true) (hf : formed (read s) = true) : taken s = read s := by
 rw [begins, Bool.and_eq_true, known_iff] at hb
 have hk := hb.2
 have hnn : 0 <= (read s).rd ∧ 0 <= (read s).ct ∧ 0 <= (read s).wr ∧ 0 <= (read s).mn := by
  rw [formed_D, Bool.and_eq_true, Bool.and_eq_true] at hf
  have := shaped_nn hf.1.1
  omega
 have hval : ∀ z ∈ (read s).vs, 0 <= z := by
  rw [formed_iff] at hf
  intro z hz
  exact ((allTo_iff _ _).1 hf.2.2.2.2.2.2.2.2.2.2 z hz).1
 have R4 : byteAt s 0 = 1 ∨ byteAt s 0 = 2 ∨ byteAt s 0 = 3 ∨ byteAt s 0 = 4 -> taken s = read s := fun h => by
  have e : read s = ⟨byteAt s 0, at_ s 1, at_ s 3, 0, 0, []⟩ := by simp [read, h]
  rw [e] at hnn ⊢
  simp only at hnn
  simp only [taken, if_pos h]
  rw [at_get hnn.1, at_get hnn.2.1]
 rcases hk with h | h | h | h | h | h | h | h | h | h
 ·exact R4 (by omega)
 ·exact R4 (by omega)
 ·exact R4 (by omega)
 ·exact R4 (by omega)
 ·have e : read s = ⟨5, 0, 0, at_ s 1, 1, [coil (at_ s 3)]⟩ := by simp [read, h]
  have h3 : at_ s 3 = 65280 ∨ at_ s 3 = 0 := by
   have := hr
   simp [readOk, h] at this
   exact this.2
  rw [e] at hnn ⊢
  simp only at hnn
  have e3 : Tw.get s 3 = at_ s 3 := at_get (by omega)
  have t : taken s = ⟨5, 0, 0, Tw.get s 1, 1, [Tw.get s 3 / 65280]⟩ := by simp [taken, h]
  rw [t, at_get hnn.2.2.1, e3]
  rcases h3 with h3 | h3 <;> rw [h3] <;> rfl
 ·have e : read s = ⟨6, 0, 0, at_ s 1, 1, [at_ s 3]⟩ := by simp [read, h]
  rw [e] at hnn hval ⊢
  simp only at hnn hval
  have t : taken s = ⟨6, 0, 0, Tw.get s 1, 1, [Tw.get s 3]⟩ := by simp [taken, h]
  rw [t, at_get hnn.2.2.1, at_get (hval _ (by simp))]
 ·have e : read s = ⟨15, 0, 0, at_ s 1, at_ s 3, vals s 5 15 (at_ s 3)⟩ := by simp [read, h]
  have hv : valOk0 s 5 (at_ s 3) = true := by
   have := hr
   simp [readOk, h, valOk] at this
   exact this.1
  rw [e] at hnn ⊢
  simp only at hnn
  have t : taken s = ⟨15, 0, 0, Tw.get s 1, Tw.get s 3, Co.get (sub s 6) (Tw.get s 3)⟩ := by simp [taken, h]
  rw [t, at_get hnn.2.2.1, at_get hnn.2.2.2, vals, hv]
  rfl
 ·have e : read s = ⟨16, 0, 0, at_ s 1, at_ s 3, vals s 5 16 (at_ s 3)⟩ := by simp [read, h]
  have hv : valOk0 s 5 (at_ s 3) = true := by
   have := hr
   simp [readOk, h, valOk] at this
   exact this.1
  rw [e] at hnn ⊢
  simp only at hnn
  have t : taken s = ⟨16, 0, 0, Tw.get s 1, Tw.get s 3, Tw.getAll (sub s 6)⟩ := by simp [taken, h]
  rw [t, at_get hnn.2.2.1, at_get hnn.2.2.2, vals, hv]
  rfl
 ·have e : read s = ⟨22, 0, 0, at_ s 1, 1, [at_ s 3, at_ s 5]⟩ := by simp [read, h]
  rw [e] at hnn hval ⊢
  simp only at hnn hval
  have t : taken s = ⟨22, 0, 0, Tw.get s 1, 1, [Tw.get s 3, Tw.get s 5]⟩ := by simp [taken, h]
  rw [t, at_get hnn.2.2.1, at_get (hval (at_ s 3) (by simp)), at_get (hval (at_ s 5) (by simp))]
 ·have e : read s = ⟨23, at_ s 1, at_ s 3, at_ s 5, at_ s 7, vals s 9 23 (at_ s 7)⟩ := by simp [read, h]
  have hv : valOk0 s 9 (at_ s 7) = true := by
   have := hr
   simp [readOk, h, valOk] at this
   exact this.1
  rw [e] at hnn ⊢
  simp only at hnn
  have t : taken s = ⟨23, Tw.get s 1, Tw.get s 3, Tw.get s 5, Tw.get s 7, Tw.getAll (sub s 10)⟩ := by simp [taken, h]
  rw [t, at_get hnn.1, at_get hnn.2.1, at_get hnn.2.2.1, at_get hnn.2.2.2, vals, hv]
  rfl
theorem taken_iff {s : ByteArray} (hb : begins s = true) : (shaped (taken s) && bytes (taken s) == bl s) = (readOk s && formed (read s)) := by
 rw [Bool.eq_iff_iff]
 constructor
 ·intro h
  rw [Bool.and_eq_true, beq_iff_eq] at h
  have hf := taken_formed h.1
  obtain ⟨h1, h2, _⟩ := back1 hf
  have hs : st (bytes (taken s)) = s := by rw [h.2, st_bl]
  rw [hs] at h1 h2
  rw [Bool.and_eq_true, h1]
  exact ⟨h2, hf⟩
 ·intro h
  rw [Bool.and_eq_true] at h
  have e := taken_read hb h.1 h.2
  rw [Bool.and_eq_true, beq_iff_eq, e]
  refine ⟨?_, back2 hb h.1 h.2⟩
  have hf := h.2
  rw [formed_D, Bool.and_eq_true, Bool.and_eq_true] at hf
  exact hf.1.1
theorem err_long {s : ByteArray} (hb : begins s = true) (h : 253 < s.size) : err s = 4 := by
 rw [err, hb]
 cases hx : readOk s && formed (read s)
 ·rfl
 ·rw [Bool.and_eq_true] at hx
  have h1 := len_le hx.2
  rw [back2 hb hx.1 hx.2, bl_length] at h1
  omega
theorem err_bad {s : ByteArray} (hb : begins s = true) (h : (shaped (taken s) && bytes (taken s) == bl s) = false) : err s = 4 := by
 rw [err, hb, <- taken_iff hb, h]; rfl
theorem err_far {s : ByteArray} (hb : begins s = true) (h : (shaped (taken s) && bytes (taken s) == bl s) = true) (hi : inside (taken s) = false) : err s = 3 := by
 have h' := h
 rw [taken_iff hb, Bool.and_eq_true] at h'
 have hr : right (read s) = false := by
  rw [<- taken_read hb h'.1 h'.2, right_D, hi, Bool.and_false]
 rw [err, hb, <- taken_iff hb, h, hr]; rfl
theorem err_ok {s : ByteArray} (hb : begins s = true) (h : (shaped (taken s) && bytes (taken s) == bl s) = true) (hi : inside (taken s) = true) : err s = 0 ∧ get s = taken s := by
 have h' := h
 rw [taken_iff hb, Bool.and_eq_true] at h'
 have e := taken_read hb h'.1 h'.2
 have hr : right (read s) = true := by
  rw [Bool.and_eq_true] at h
  rw [<- e, right_D, hi, h.1]; rfl
 have e0 : err s = 0 := by rw [err, hb, <- taken_iff hb, h, hr]; rfl
 refine ⟨e0, ?_⟩
 rw [get, e0, e]; rfl
theorem taken_len (s : ByteArray) : (taken s).vs.length <= 8 * s.size + 2 := by
 have hsub : ∀ i, (sub s i).size <= s.size := fun i => by rw [sub, st_size, List.length_drop, bl_length]; omega
 have h6 := hsub 6
 have h10 := hsub 10
 have c6 := Co.get_len8 (sub s 6) (Tw.get s 3)
 have g6 := Tw.getAll_len (sub s 6)
 have g10 := Tw.getAll_len (sub s 10)
 unfold taken
 simp only
 repeat' (first | (simp; done) | (simp; omega) | omega | split)
end Go.Proofs.YtaciogcpghbhjaaGreat.Ak
/- Streams in plain words: bytes come one by one, or all at once; however they are cut. Conditions: none. -/
namespace Go.Proofs.YtaciogcpghbhjaaGreat
structure StreamP where
 buf : List UInt8
 bad : Bool
namespace Sm
set_option linter.unusedVariables false
open Go.RowKit
def need (l : List UInt8) : Int := Mb.need (st l)
def err (l : List UInt8) : Int := Mb.needErr (st l)
def right (s : StreamP) : Bool := if s.bad then s.buf == [] else err s.buf == 0 && (need s.buf == 0 || decide ((s.buf.length : Int) < need s.buf))
theorem short (l : List UInt8) (h : l.length < 6) : need l = 0 ∧ err l = 0 := Mb.need_short (st l) h
theorem range (l : List UInt8) (h : 6 <= l.length) : (err l = 0 ∧ 8 <= need l ∧ need l <= 260) ∨ (err l = 5 ∧ need l = 0) := Mb.need_range (st l) h
theorem take_snoc (l : List UInt8) (k : Nat) (h : k < l.length) : l.take (k + 1) = l.take k ++ [l.getD k 0] := by
 rw [List.take_succ_eq_append_getElem h, List.getD_eq_getElem?_getD, List.getElem?_eq_getElem h]; rfl
def all (l : List FrameP) : List UInt8 := l.flatMap Mb.put
end Sm
end Go.Proofs.YtaciogcpghbhjaaGreat
