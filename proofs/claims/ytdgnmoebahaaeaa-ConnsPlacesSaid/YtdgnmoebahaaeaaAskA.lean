/- Requests in plain words: which may be, their bytes, and what bytes tell. Conditions: none. -/
import Derived.Test.YtdgnmoebahaaeaaTwB
import Derived.Test.YtdgnmoebahaaeaaCoA
import Derived.Lib.Strings
namespace Go.Proofs.Ytdgnmoebahaaeaa
open Go.RowKit
/-- A request: its function, what it reads and writes, its values. -/
structure AskP where
  fc : Int
  rd : Int
  ct : Int
  wr : Int
  mn : Int
  vs : List Int
namespace Ak
def zero : AskP := ⟨0, 0, 0, 0, 0, []⟩
def known (fc : Int) : Bool := (decide (1 ≤ fc) && decide (fc ≤ 6)) || fc == 15 || fc == 16 || fc == 22 || fc == 23
def reads (fc : Int) : Int := if fc = 1 ∨ fc = 2 then 2000 else if fc = 3 ∨ fc = 4 ∨ fc = 23 then 125 else 0
def wmax (fc : Int) : Int := if fc = 5 ∨ fc = 6 ∨ fc = 22 then 1 else if fc = 15 then 1968 else if fc = 16 then 123 else if fc = 23 then 121 else 0
def wtwo (fc : Int) : Int := if fc = 22 then 2 else 0
def wtop (fc : Int) : Int := if fc = 5 ∨ fc = 15 then 1 else if fc = 6 ∨ fc = 16 ∨ fc = 22 ∨ fc = 23 then 65535 else 0
def inTo (most z : Int) : Bool := decide (0 ≤ z) && decide (z ≤ most)
def allTo (most : Int) (l : List Int) : Bool := l.all (inTo most)
/-- A part of a request: from which address on, how many, of at most so many. -/
def part (most lo n : Int) : Bool := inTo 65535 lo && inTo most n && !(decide (0 < most) && n == 0) && !(most == 0 && !(lo == 0))
def need (a : AskP) : Int := if wtwo a.fc = 0 then a.mn else wtwo a.fc
def formed (a : AskP) : Bool := known a.fc && part (reads a.fc) a.rd a.ct && part (wmax a.fc) a.wr a.mn && ((a.vs.length : Int) == need a && allTo (wtop a.fc) a.vs)
def right (a : AskP) : Bool := formed a && decide (a.rd + a.ct ≤ 65536) && decide (a.wr + a.mn ≤ 65536)
/-- The values' bytes. -/
def load (a : AskP) : List UInt8 := if wtop a.fc = 1 then Co.bytes a.vs else Tw.bytes a.vs
def tail (a : AskP) : List UInt8 :=
  if a.fc = 5 then Tw.two (65280 * a.vs.getD 0 0) else if a.fc = 6 ∨ a.fc = 22 then Tw.bytes a.vs else Tw.two a.mn ++ (UInt8.ofNat (load a).length :: load a)
def bytes (a : AskP) : List UInt8 :=
  UInt8.ofNat a.fc.toNat :: ((if 0 < reads a.fc then Tw.two a.rd ++ Tw.two a.ct else []) ++ (if wmax a.fc = 0 then [] else Tw.two a.wr ++ tail a))
def put (a : AskP) : List UInt8 := if right a then bytes a else []
def same (a b : AskP) : Bool := a.fc == b.fc && a.rd == b.rd && a.ct == b.ct && a.wr == b.wr && a.mn == b.mn && a.vs == b.vs

/-- The number at a place; -1: it isn't there. -/
def at_ (s : ByteArray) (i : Int) : Int := if Tw.getOk s i then Tw.get s i else -1
def sub (s : ByteArray) (i : Nat) : ByteArray := st ((bl s).drop i)
def valOk0 (s : ByteArray) (i : Nat) (many : Int) : Bool := decide (i < s.size) && ((s.size : Int) - i - 1 == byteAt s i) && decide (0 ≤ many)
def valOk (s : ByteArray) (i : Nat) (fc many : Int) : Bool := valOk0 s i many && (if fc = 15 then Co.getOk (sub s (i + 1)) many else Tw.evenB (sub s (i + 1)))
def vals (s : ByteArray) (i : Nat) (fc many : Int) : List Int := if valOk0 s i many then (if fc = 15 then Co.get (sub s (i + 1)) many else Tw.getAll (sub s (i + 1))) else []
def coil (z : Int) : Int := if z = 65280 then 1 else z
/-- What bytes tell of a request of the function that their first byte is. -/
def read (s : ByteArray) : AskP :=
  let fc := byteAt s 0
  if fc = 1 ∨ fc = 2 ∨ fc = 3 ∨ fc = 4 then ⟨fc, at_ s 1, at_ s 3, 0, 0, []⟩
  else if fc = 5 then ⟨fc, 0, 0, at_ s 1, 1, [coil (at_ s 3)]⟩
  else if fc = 6 then ⟨fc, 0, 0, at_ s 1, 1, [at_ s 3]⟩
  else if fc = 22 then ⟨fc, 0, 0, at_ s 1, 1, [at_ s 3, at_ s 5]⟩
  else if fc = 15 ∨ fc = 16 then ⟨fc, 0, 0, at_ s 1, at_ s 3, vals s 5 fc (at_ s 3)⟩
  else ⟨fc, at_ s 1, at_ s 3, at_ s 5, at_ s 7, vals s 9 fc (at_ s 7)⟩
def readOk (s : ByteArray) : Bool :=
  let fc := byteAt s 0
  if fc = 1 ∨ fc = 2 ∨ fc = 3 ∨ fc = 4 then s.size == 5
  else if fc = 5 then s.size == 5 && (at_ s 3 == 65280 || at_ s 3 == 0)
  else if fc = 6 then s.size == 5
  else if fc = 22 then s.size == 7
  else if fc = 15 ∨ fc = 16 then valOk s 5 fc (at_ s 3)
  else valOk s 9 fc (at_ s 7)
def begins (s : ByteArray) : Bool := decide (0 < s.size) && known (byteAt s 0)
/-- Which error bytes are answered with: 0 none, 2 no function, 4 no request, 3 beyond the last address. -/
def err (s : ByteArray) : Int := if !begins s then 2 else if !(readOk s && formed (read s)) then 4 else if !right (read s) then 3 else 0
def get (s : ByteArray) : AskP := if err s = 0 then read s else zero
theorem extract_end (s : ByteArray) (a : Nat) : s.extract a s.size = sub s a := by
  rw [Lib.extract_eq, sub, st, bl, List.take_of_length_le]
  rw [List.length_drop, Array.length_toList]
  exact Nat.le_refl _
theorem inTo_iff (most z : Int) : inTo most z = true ↔ 0 ≤ z ∧ z ≤ most := by simp [inTo]
theorem known_iff (fc : Int) : known fc = true ↔ fc = 1 ∨ fc = 2 ∨ fc = 3 ∨ fc = 4 ∨ fc = 5 ∨ fc = 6 ∨ fc = 15 ∨ fc = 16 ∨ fc = 22 ∨ fc = 23 := by
  simp [known]; omega
theorem same_iff (a b : AskP) : same a b = true ↔ a = b := by
  cases a; cases b
  simp [same, and_assoc]
theorem allTo_iff (most : Int) (l : List Int) : allTo most l = true ↔ ∀ z ∈ l, 0 ≤ z ∧ z ≤ most := by simp [allTo, inTo_iff]
theorem allTo_bits (l : List Int) (h : allTo 1 l = true) : Co.allBits l = true := by
  rw [allTo_iff] at h
  rw [Co.allBits, List.all_eq_true]
  intro z hz
  rw [Co.isBit_iff]
  have := h z hz
  omega
theorem bits_allTo (l : List Int) (h : Co.allBits l = true) : allTo 1 l = true := by
  rw [allTo_iff]
  intro z hz
  have := (Co.isBit_iff z).1 (List.all_eq_true.1 h z hz)
  omega
theorem allTo_words (l : List Int) : allTo 65535 l = Tw.allIn l := rfl
/-- What being formed comes to, function by function. -/
theorem formed_iff (a : AskP) : formed a = true ↔
    (known a.fc = true ∧ (0 ≤ a.rd ∧ a.rd ≤ 65535) ∧ (0 ≤ a.ct ∧ a.ct ≤ reads a.fc) ∧ (reads a.fc ≤ 0 ∨ a.ct ≠ 0) ∧ (reads a.fc ≠ 0 ∨ a.rd = 0) ∧
      (0 ≤ a.wr ∧ a.wr ≤ 65535) ∧ (0 ≤ a.mn ∧ a.mn ≤ wmax a.fc) ∧ (wmax a.fc ≤ 0 ∨ a.mn ≠ 0) ∧ (wmax a.fc ≠ 0 ∨ a.wr = 0) ∧ (a.vs.length : Int) = need a ∧ allTo (wtop a.fc) a.vs = true) := by
  simp [formed, part, inTo_iff, and_assoc]
theorem right_iff (a : AskP) : right a = true ↔ formed a = true ∧ a.rd + a.ct ≤ 65536 ∧ a.wr + a.mn ≤ 65536 := by
  simp [right, and_assoc]
end Ak
end Go.Proofs.Ytdgnmoebahaaeaa
