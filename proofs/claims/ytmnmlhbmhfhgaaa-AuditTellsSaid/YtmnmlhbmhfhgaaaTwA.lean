/- The two bytes of each number of a list. Conditions: none. -/
import Derived.Test.YtmnmlhbmhfhgaaaLib
import Derived.Laws.BitsAllLaws
import Derived.Laws.BitsLemmas
namespace Go.Proofs.Ytmnmlhbmhfhgaaa
open Go.RowKit
namespace Tw
theorem ofInt_i64 (a : Nat) (ha : a < 9223372036854775808) : (BitVec.ofInt 64 (a : Int)).toNat = a := by
  rw [BitVec.ofInt_natCast, BitVec.toNat_ofNat]; exact Nat.mod_eq_of_lt (by omega)
theorem i64_or_nat (a b : Nat) (ha : a < 9223372036854775808) (hb : b < 9223372036854775808) : bits .or .i64 (a : Int) (b : Int) = ((a ||| b : Nat) : Int) := by
  have hx : a ||| b < 2 ^ 63 := Nat.or_lt_two_pow (by omega) (by omega)
  show IntKind.i64.wrap ((BitVec.ofInt 64 (a : Int) ||| BitVec.ofInt 64 (b : Int)).toNat : Int) = _
  rw [BitVec.toNat_or, ofInt_i64 a ha, ofInt_i64 b hb, IntKind.wrap_i64]
  omega
def inR (n : Int) : Bool := decide (0 ≤ n) && decide (n ≤ 65535)
def two (n : Int) : List UInt8 := [UInt8.ofNat (n / 256).toNat, UInt8.ofNat (n % 256).toNat]
def allIn (l : List Int) : Bool := l.all inR
def bytes (l : List Int) : List UInt8 := l.flatMap two
/-- What PutAll answers. -/
def put (l : List Int) : List UInt8 := if allIn l then bytes l else []
theorem bytes_len (l : List Int) : (bytes l).length = 2 * l.length := by
  unfold bytes
  induction l with
  | nil => rfl
  | cons a l ih => simp [List.flatMap_cons, ih, two]; omega
theorem inR_of {z : Int} (h0 : 0 ≤ z) (h1 : z ≤ 65535) : inR z = true := by simp [inR, h0, h1]
theorem not_inR {z : Int} (h : z < 0 ∨ 65535 < z) : inR z = false := by simp [inR]; omega
theorem take_snoc (l : List Int) (k : Nat) (h : k < l.length) : l.take (k + 1) = l.take k ++ [l.getD k 0] := by
  rw [List.take_succ_eq_append_getElem h, List.getD_eq_getElem?_getD, List.getElem?_eq_getElem h]; rfl
theorem allIn_snoc (l : List Int) (z : Int) : allIn (l ++ [z]) = (allIn l && inR z) := by simp [allIn]
theorem bytes_snoc (l : List Int) (z : Int) : bytes (l ++ [z]) = bytes l ++ two z := by simp [bytes]
theorem allIn_false (l : List Int) (k : Nat) (h : k < l.length) (hz : inR (l.getD k 0) = false) : allIn l = false := by
  rw [← List.take_append_drop (k + 1) l, take_snoc l k h]
  simp [allIn]
  rw [List.getD_eq_getElem?_getD] at hz
  simp [hz]
theorem two_cells {z : Int} (h0 : 0 ≤ z) (h1 : z ≤ 65535) : (two z).map bv = [.int .u8 (z / 256), .int .u8 (z % 256)] := by
  have e1 : (UInt8.ofNat (z / 256).toNat).toNat = (z / 256).toNat := by
    rw [UInt8.toNat_ofNat']; omega
  have e2 : (UInt8.ofNat (z % 256).toNat).toNat = (z % 256).toNat := by
    rw [UInt8.toNat_ofNat']; omega
  simp only [two, List.map_cons, List.map_nil, bv, e1, e2]
  rw [Int.toNat_of_nonneg (by omega), Int.toNat_of_nonneg (by omega)]

def getOk (s : ByteArray) (i : Int) : Bool := decide (0 ≤ i) && decide (i + 1 < s.size)
def num (s : ByteArray) (i : Int) : Int := byteAt s i * 256 + byteAt s (i + 1)
def get (s : ByteArray) (i : Int) : Int := if getOk s i then num s i else 0
theorem num_range (s : ByteArray) (i : Int) : 0 ≤ num s i ∧ num s i ≤ 65535 := by
  have h1 := byteAt_range s i
  have h2 := byteAt_range s (i + 1)
  unfold num
  omega
theorem or_num (a b : Int) (ha : 0 ≤ a ∧ a ≤ 255) (hb : 0 ≤ b ∧ b ≤ 255) : bits .or .i64 (a * 256) b = a * 256 + b := by
  obtain ⟨x, rfl⟩ := Int.eq_ofNat_of_zero_le ha.1
  obtain ⟨y, rfl⟩ := Int.eq_ofNat_of_zero_le hb.1
  have h := i64_or_nat (x * 256) y (by omega) (by omega)
  have e : (x * 256) ||| y = x * 256 + y := by
    have := Nat.two_pow_add_eq_or_of_lt (i := 8) (b := y) (by omega) x
    rw [Nat.mul_comm x 256]
    simpa using this.symm
  rw [e] at h
  exact h
/-- The first k numbers of a text. -/
def nums (s : ByteArray) (k : Nat) : List Int := (List.range k).map fun (i : Nat) => num s (2 * (i : Int))
theorem nums_succ (s : ByteArray) (k : Nat) : nums s (k + 1) = nums s k ++ [num s (2 * (k : Int))] := by simp [nums, List.range_succ]
theorem nums_len (s : ByteArray) (k : Nat) : (nums s k).length = k := by simp [nums]
def evenB (s : ByteArray) : Bool := s.size % 2 == 0
def getAll (s : ByteArray) : List Int := if evenB s then nums s (s.size / 2) else []
end Tw

/-- What the loop of the reference's PutAll holds behind k numbers. -/
def PutRel2 (w : World) (n : Nat) (zs : List Int) (v i : Value) (wr : World) : Prop :=
  ∃ k : Nat, k ≤ n ∧ i = .int .i64 k ∧ v = .string (st (Tw.bytes (zs.take k))) ∧ Below w.heap.size w wr ∧ Tw.allIn (zs.take k) = true
/-- What the loop of Ints holds: the first k are the same. -/
def SameRel (w : World) (n : Nat) (xs ys : List Int) (i : Value) (wr : World) : Prop :=
  ∃ k : Nat, k ≤ n ∧ i = .int .i64 k ∧ xs.take k = ys.take k ∧ Quiet w wr
/-- What the loop of GetAll holds behind k numbers. -/
def GetRel (w : World) (s : ByteArray) (v i : Value) (wr : World) : Prop :=
  ∃ k : Nat, 2 * k ≤ s.size ∧ i = .int .i64 (2 * k : Int) ∧ wr.ownsRow w.heap.size 3 1 v k ((Tw.nums s k).map (Value.int .i64)) ∧ Below w.heap.size w wr

/-- What the loop of PutAll holds behind k numbers. -/
def PutRel (w : World) (n : Nat) (zs : List Int) (v i : Value) (wr : World) : Prop :=
  ∃ k : Nat, k ≤ n ∧ i = .int .i64 k ∧ wr.ownsRow w.heap.size 5 1 v (2 * k) ((Tw.bytes (zs.take k)).map bv) ∧ Below w.heap.size w wr ∧ Tw.allIn (zs.take k) = true
end Go.Proofs.Ytmnmlhbmhfhgaaa
