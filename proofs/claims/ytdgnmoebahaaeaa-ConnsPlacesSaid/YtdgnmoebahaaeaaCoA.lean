/- Bits in bytes, in plain words: there and back, and one behind the other. Conditions: none. -/
import Derived.Test.YtdgnmoebahaaeaaInt
import Derived.Laws.BitsAllLaws
import Derived.Laws.BitsLemmas
namespace Go.Proofs.Ytdgnmoebahaaeaa
open Go.RowKit
namespace Co
/-- How many bytes n bits take. -/
def size (n : Int) : Int := if n < 0 then 0 else (n + 7) / 8
def nsize (n : Nat) : Nat := (n + 7) / 8
theorem size_nat (n : Nat) : size (n : Int) = (nsize n : Int) := by
  unfold size nsize
  rw [if_neg (by omega)]
  omega
def bit (zs : List Int) (i : Nat) : Nat := (zs.getD i 0).toNat
/-- What m bits from place a on are worth. -/
def val (zs : List Int) (a : Nat) : Nat → Nat
  | 0 => 0
  | m + 1 => val zs a m + bit zs (a + m) * 2 ^ m
def isBit (z : Int) : Bool := z == 0 || z == 1
def allBits (zs : List Int) : Bool := zs.all isBit
/-- The bytes behind the first k bits. -/
def cells (zs : List Int) (s k : Nat) : List Int := (List.range s).map fun j => (val zs (8 * j) (min 8 (k - 8 * j)) : Int)
def bytes (zs : List Int) : List UInt8 := (List.range (nsize zs.length)).map fun j => UInt8.ofNat (val zs (8 * j) 8)
def put (zs : List Int) : List UInt8 := if allBits zs then bytes zs else []
def nbit (s : ByteArray) (i : Nat) : Nat := ((bl s).getD (i / 8) 0).toNat / 2 ^ (i % 8) % 2
def bitsOf (s : ByteArray) (k : Nat) : List Int := (List.range k).map fun i => (nbit s i : Int)
def restNone (s : ByteArray) (n : Int) : Bool := (List.range (8 * s.size)).all fun i => decide ((i : Int) < n) || nbit s i == 0
def getOk (s : ByteArray) (n : Int) : Bool := decide (0 ≤ n) && decide ((s.size : Int) = size n) && restNone s n
def get (s : ByteArray) (n : Int) : List Int := if getOk s n then bitsOf s n.toNat else []
/-- Whether a bit behind the n isn't 0. -/
def left (s : ByteArray) (n : Int) : Bool := decide (0 < n % 8) && !(byteAt s ((s.size : Int) - 1) / 2 ^ (n % 8).toNat == 0)

theorem isBit_iff (z : Int) : isBit z = true ↔ z = 0 ∨ z = 1 := by simp [isBit]
theorem bit_lt (zs : List Int) (h : allBits zs = true) (i : Nat) : bit zs i < 2 := by
  unfold bit
  rw [List.getD_eq_getElem?_getD]
  rcases Nat.lt_or_ge i zs.length with hl | hl
  · rw [List.getElem?_eq_getElem hl]
    have := (isBit_iff _).1 (List.all_eq_true.1 h _ (List.getElem_mem hl))
    simp only [Option.getD_some]
    omega
  · rw [List.getElem?_eq_none hl]; simp
theorem bit_zero (zs : List Int) (i : Nat) (h : zs.length ≤ i) : bit zs i = 0 := by
  unfold bit
  rw [List.getD_eq_getElem?_getD, List.getElem?_eq_none h]; rfl
theorem val_lt_of (zs : List Int) (a : Nat) (m : Nat) (h : ∀ i, i < m → bit zs (a + i) < 2) : val zs a m < 2 ^ m := by
  induction m with
  | zero => exact Nat.one_pos
  | succ m ih =>
    have hb := h m (by omega)
    have hi := ih fun i hi => h i (by omega)
    rw [val, Nat.pow_succ]
    have : bit zs (a + m) = 0 ∨ bit zs (a + m) = 1 := by omega
    rcases this with e | e <;> rw [e] <;> omega
theorem val_lt (zs : List Int) (h : allBits zs = true) (a : Nat) (m : Nat) : val zs a m < 2 ^ m := val_lt_of zs a m fun _ _ => bit_lt zs h _
theorem val_bit (zs : List Int) (h : allBits zs = true) (a m i : Nat) (hi : i < m) : val zs a m / 2 ^ i % 2 = bit zs (a + i) := by
  induction m with
  | zero => omega
  | succ m ih =>
    have hv := val_lt zs h a m
    have hb := bit_lt zs h (a + m)
    rw [val]
    rcases Nat.lt_or_ge i m with hlt | hge
    · have e : 2 ^ m = 2 ^ i * (2 ^ (m - i - 1) * 2) := by
        rw [← Nat.pow_succ, ← Nat.pow_add]; congr 1; omega
      rw [e, ← Nat.mul_assoc, Nat.mul_comm (bit zs (a + m)), Nat.mul_assoc, Nat.add_mul_div_left _ _ (Nat.two_pow_pos i)]
      have := ih hlt
      rw [← this]
      have e2 : bit zs (a + m) * (2 ^ (m - i - 1) * 2) = 2 * (bit zs (a + m) * 2 ^ (m - i - 1)) := by
        rw [← Nat.mul_assoc, Nat.mul_comm]
      rw [e2]
      omega
    · obtain rfl : i = m := by omega
      rw [Nat.add_mul_div_right _ _ (Nat.two_pow_pos i), Nat.div_eq_of_lt hv, Nat.zero_add]
      omega
theorem val_congr (zs ys : List Int) (a b m : Nat) (h : ∀ i, i < m → bit zs (a + i) = bit ys (b + i)) : val zs a m = val ys b m := by
  induction m with
  | zero => rfl
  | succ m ih => rw [val, val, ih fun i hi => h i (by omega), h m (by omega)]
/-- The bits of a number make the number. -/
theorem val_bits (zs : List Int) (a x m : Nat) (h : ∀ i, i < m → bit zs (a + i) = x / 2 ^ i % 2) : val zs a m = x % 2 ^ m := by
  induction m with
  | zero => rw [val, Nat.pow_zero, Nat.mod_one]
  | succ m ih => rw [val, ih fun i hi => h i (by omega), h m (by omega), Nat.mod_pow_succ, Nat.mul_comm]
theorem val_stop (zs : List Int) (a m : Nat) (h : zs.length ≤ a + m) (d : Nat) : val zs a (m + d) = val zs a m := by
  induction d with
  | zero => rfl
  | succ d ih => rw [← Nat.add_assoc, val, ih, bit_zero zs _ (by omega), Nat.zero_mul, Nat.add_zero]

theorem cells_len (zs : List Int) (s k : Nat) : (cells zs s k).length = s := by simp [cells]
theorem cells_zero (zs : List Int) (s : Nat) : cells zs s 0 = List.replicate s 0 := by
  unfold cells
  rw [List.eq_replicate_iff]
  refine ⟨by simp, fun b hb => ?_⟩
  simp [val] at hb
  exact hb.2.symm ▸ rfl
theorem cells_get (zs : List Int) (s k : Nat) (h : k / 8 < s) : (cells zs s k)[k / 8]? = some (val zs (8 * (k / 8)) (k % 8) : Int) := by
  unfold cells
  rw [List.getElem?_map, List.getElem?_range h]
  have e : min 8 (k - 8 * (k / 8)) = k % 8 := by omega
  rw [Option.map_some, e]
theorem cells_step (zs : List Int) (s k : Nat) (h : k / 8 < s) :
    (cells zs s k).set (k / 8) ((val zs (8 * (k / 8)) (k % 8) + bit zs k * 2 ^ (k % 8) : Nat) : Int) = cells zs s (k + 1) := by
  apply List.ext_getElem?
  intro j
  rw [List.getElem?_set]
  have hl : (cells zs s k).length = s := cells_len _ _ _
  by_cases hj : k / 8 = j
  · subst hj
    rw [if_pos rfl, if_pos (by omega)]
    unfold cells
    rw [List.getElem?_map, List.getElem?_range h, Option.map_some]
    have e : min 8 (k + 1 - 8 * (k / 8)) = k % 8 + 1 := by omega
    have e2 : 8 * (k / 8) + k % 8 = k := by omega
    rw [e, val, e2]
  · rw [if_neg hj]
    unfold cells
    rw [List.getElem?_map, List.getElem?_map]
    rcases Nat.lt_or_ge j s with hjs | hjs
    · rw [List.getElem?_range hjs, Option.map_some, Option.map_some]
      have e : min 8 (k - 8 * j) = min 8 (k + 1 - 8 * j) := by omega
      rw [e]
    · rw [List.getElem?_eq_none (by simpa using hjs)]; rfl
/-- Behind all bits the bytes are there. -/
theorem cells_all (zs : List Int) (h : allBits zs = true) : (cells zs (nsize zs.length) zs.length).map (Value.int .u8) = (bytes zs).map bv := by
  unfold cells bytes
  rw [List.map_map, List.map_map]
  apply List.map_congr_left
  intro j hj
  have hj' : j < nsize zs.length := by simpa using hj
  have hlt : 8 * j < zs.length := by unfold nsize at hj'; omega
  have e : val zs (8 * j) 8 = val zs (8 * j) (min 8 (zs.length - 8 * j)) := by
    rcases Nat.lt_or_ge (zs.length - 8 * j) 8 with hm | hm
    · have := val_stop zs (8 * j) (zs.length - 8 * j) (by omega) (8 - (zs.length - 8 * j))
      rw [show zs.length - 8 * j + (8 - (zs.length - 8 * j)) = 8 from by omega] at this
      rw [this, show min 8 (zs.length - 8 * j) = zs.length - 8 * j from by omega]
    · rw [show min 8 (zs.length - 8 * j) = 8 from by omega]
  have hv := val_lt zs h (8 * j) 8
  simp only [Function.comp_apply, bv]
  rw [UInt8.toNat_ofNat', Nat.mod_eq_of_lt hv, e]
theorem take_snoc (l : List Int) (k : Nat) (h : k < l.length) : l.take (k + 1) = l.take k ++ [l.getD k 0] := by
  rw [List.take_succ_eq_append_getElem h, List.getD_eq_getElem?_getD, List.getElem?_eq_getElem h]; rfl
theorem all_snoc (l : List Int) (z : Int) : allBits (l ++ [z]) = (allBits l && isBit z) := by simp [allBits]
theorem all_false (l : List Int) (k : Nat) (h : k < l.length) (hz : isBit (l.getD k 0) = false) : allBits l = false := by
  rw [← List.take_append_drop (k + 1) l, take_snoc l k h]
  simp [allBits]
  rw [List.getD_eq_getElem?_getD] at hz
  simp [hz]
theorem bytes_len (zs : List Int) : (bytes zs).length = nsize zs.length := by simp [bytes]

theorem bit_take (zs : List Int) (k i : Nat) (h : i < k) : bit (zs.take k) i = bit zs i := by
  unfold bit
  rw [List.getD_eq_getElem?_getD, List.getD_eq_getElem?_getD, List.getElem?_take_of_lt h]
/-- The byte at hand has room for the next bit. -/
theorem val_room (zs : List Int) (k : Nat) (h : allBits (zs.take k) = true) : val zs (8 * (k / 8)) (k % 8) < 2 ^ (k % 8) :=
  val_lt_of _ _ _ fun i hi => by
    rw [← bit_take zs k _ (by omega)]
    exact bit_lt _ h _
theorem pow_le (m : Nat) (h : m < 8) : 2 ^ (m + 1) ≤ 256 := Nat.pow_le_pow_right (n := 2) (by decide) (show m + 1 ≤ 8 by omega)
theorem sum_lt (v b m : Nat) (hv : v < 2 ^ m) (hb : b < 2) (hm : m < 8) : v + b * 2 ^ m < 256 := by
  have := pow_le m hm
  rw [Nat.pow_succ] at this
  have : b = 0 ∨ b = 1 := by omega
  rcases this with e | e <;> rw [e] <;> omega
theorem or_sum (v b m : Nat) (hv : v < 2 ^ m) (hb : b < 2) (hm : m < 8) : bits .or .u8 (v : Int) ((b * 2 ^ m : Nat) : Int) = ((v + b * 2 ^ m : Nat) : Int) := by
  have hs := sum_lt v b m hv hb hm
  rw [u8_or_nat _ _ (by omega) (by omega), Nat.or_comm, Nat.mul_comm b, Nat.add_comm, Nat.two_pow_add_eq_or_of_lt hv]

/-- One bit more is laid. -/
theorem put_round {e : TypeId} {w wr : World} {n k : Nat} {zs : List Int} (hown : wr.ownsRow w.heap.size e 1 (.slice (some ⟨w.heap.size, 0, none⟩) (nsize n) (nsize n)) (nsize n) ((cells zs (nsize n) k).map (Value.int .u8)))
    (hbel : Below w.heap.size w wr) (hin : k / 8 < nsize n) (_hall : allBits (zs.take k) = true) (_hb : bit zs k < 2) (u : Int) (hu : u = ((val zs (8 * (k / 8)) (k % 8) + bit zs k * 2 ^ (k % 8) : Nat) : Int)) :
    (wr.setCell ⟨w.heap.size, k / 8, none⟩ (.int .u8 u)).drew.ownsRow w.heap.size e 1 (.slice (some ⟨w.heap.size, 0, none⟩) (nsize n) (nsize n)) (nsize n) ((cells zs (nsize n) (k + 1)).map (Value.int .u8)) ∧
      Below w.heap.size w (wr.setCell ⟨w.heap.size, k / 8, none⟩ (.int .u8 u)).drew := by
  subst hu
  refine ⟨own_drew ?_, ((Quiet.refl _).drew.below _) |> (hbel.setCell (Nat.le_refl _) _).trans⟩
  have := own_write_int hown (k / 8) ((val zs (8 * (k / 8)) (k % 8) + bit zs k * 2 ^ (k % 8) : Nat) : Int)
  rwa [cells_step zs _ k hin] at this

theorem sum_zero (x m : Nat) (h : x < 2 ^ m) (hm : m < 8) : ((x : Int) + 0) % 256 = ((x + 0 * 2 ^ m : Nat) : Int) ∧ (x : Int) % 256 = ((x + 0 * 2 ^ m : Nat) : Int) := by
  have := sum_lt x 0 m h (by decide) hm
  rw [Nat.zero_mul] at *
  omega
theorem sum_one (x m : Nat) (h : x < 2 ^ m) (hm : m < 8) : ((x : Int) + Go.RowKit.wrap64 (2 ^ m)) % 256 = ((x + 1 * 2 ^ m : Nat) : Int) := by
  have hs := sum_lt x 1 m h (by decide) hm
  have hp := pow_le m hm
  rw [Nat.pow_succ] at hp
  have e : ((2 : Int) ^ m) = ((2 ^ m : Nat) : Int) := by simp
  rw [Nat.one_mul] at *
  rw [e]
  generalize 2 ^ m = y at *
  rw [Go.RowKit.wrap64]
  try rw [IntKind.wrap_i64]
  omega
theorem bits_len (s : ByteArray) (k : Nat) : (bitsOf s k).length = k := by simp [bitsOf]
theorem bits_succ (s : ByteArray) (k : Nat) : bitsOf s (k + 1) = bitsOf s k ++ [(nbit s k : Int)] := by simp [bitsOf, List.range_succ]
theorem nbit_div (s : ByteArray) (k : Nat) : byteAt s ((k : Int) / 8) / 2 ^ (k % 8) = ((((bl s).getD (k / 8) 0).toNat / 2 ^ (k % 8) : Nat) : Int) := by
  rw [byteAt, show ((k : Int) / 8).toNat = k / 8 from by omega]
  simp
/-- A bit by shift and mask. -/
theorem nbit_mask (s : ByteArray) (k : Nat) : Go.RowKit.wrap64 (bits .and .u8 (byteAt s ((k : Int) / 8) / 2 ^ (k % 8)) 1) = (nbit s k : Int) := by
  have hl := UInt8.toNat_lt ((bl s).getD (k / 8) 0)
  have hd : ((bl s).getD (k / 8) 0).toNat / 2 ^ (k % 8) < 256 := Nat.lt_of_le_of_lt (Nat.div_le_self _ _) (by omega)
  have h1 := u8_and_nat (((bl s).getD (k / 8) 0).toNat / 2 ^ (k % 8)) 1 hd (by decide)
  rw [Nat.and_one_is_mod] at h1
  rw [nbit_div, show (1 : Int) = ((1 : Nat) : Int) from rfl, h1, Go.RowKit.wrap64, nbit]
  omega
theorem nbit_tmod (s : ByteArray) (k : Nat) : (byteAt s ((k : Int) / 8) / 2 ^ (k % 8)).tmod 2 = (nbit s k : Int) := by
  rw [nbit_div, nbit, show (2 : Int) = ((2 : Nat) : Int) from rfl, Int.ofNat_tmod]
theorem nbit_lt (s : ByteArray) (k : Nat) : nbit s k < 2 := Nat.mod_lt _ (by decide)
theorem allBits_bits (s : ByteArray) (k : Nat) : allBits (bitsOf s k) = true := by
  simp only [allBits, bitsOf, List.all_map, List.all_eq_true]
  intro i _
  have := nbit_lt s i
  simp only [Function.comp_apply, isBit_iff]
  omega
theorem bit_bits (s : ByteArray) (k i : Nat) (h : i < k) : bit (bitsOf s k) i = nbit s i := by
  unfold bit bitsOf
  rw [List.getD_eq_getElem?_getD, List.getElem?_map, List.getElem?_range h]
  simp
/-- One more bit of a row that is filled up from the left. -/
theorem fill_set (s : ByteArray) (n k : Nat) (h : k < n) : (bitsOf s k ++ List.replicate (n - k) (0 : Int)).set k (nbit s k) = bitsOf s (k + 1) ++ List.replicate (n - (k + 1)) 0 := by
  rw [List.set_append_right _ _ (by rw [bits_len]; exact Nat.le_refl _), bits_len, Nat.sub_self, show n - k = (n - (k + 1)) + 1 from by omega, List.replicate_succ, List.set_cons_zero, bits_succ, List.append_assoc]
  rfl
theorem fill_len (s : ByteArray) (n k : Nat) (h : k ≤ n) : (bitsOf s k ++ List.replicate (n - k) (0 : Int)).length = n := by simp [bits_len]; omega

theorem nbit_bytes (zs : List Int) (h : allBits zs = true) (i : Nat) (hi : i / 8 < nsize zs.length) : nbit (st (bytes zs)) i = bit zs i := by
  unfold nbit
  rw [bl_st, List.getD_eq_getElem?_getD, bytes, List.getElem?_map, List.getElem?_range hi, Option.map_some, Option.getD_some, UInt8.toNat_ofNat', Nat.mod_eq_of_lt (val_lt zs h _ 8),
    val_bit zs h _ _ _ (Nat.mod_lt _ (by decide)), show 8 * (i / 8) + i % 8 = i from by omega]
theorem bits_bytes (zs : List Int) (h : allBits zs = true) : bitsOf (st (bytes zs)) zs.length = zs := by
  apply List.ext_getElem?
  intro j
  rcases Nat.lt_or_ge j zs.length with hj | hj
  · rw [bitsOf, List.getElem?_map, List.getElem?_range hj, Option.map_some, nbit_bytes zs h j (by unfold nsize; omega), bit, List.getD_eq_getElem?_getD, List.getElem?_eq_getElem hj, Option.getD_some]
    have := (isBit_iff _).1 (List.all_eq_true.1 h _ (List.getElem_mem hj))
    congr 1
    omega
  · rw [List.getElem?_eq_none (by rw [bits_len]; exact hj), List.getElem?_eq_none hj]
theorem put_ok (zs : List Int) (h : allBits zs = true) : put zs = bytes zs := by rw [put, h]; rfl
theorem back1 (zs : List Int) (h : allBits zs = true) : getOk (st (put zs)) (zs.length : Int) = true ∧ get (st (put zs)) (zs.length : Int) = zs ∧ ((st (put zs)).size : Int) = size (zs.length : Int) := by
  have e := put_ok zs h
  have hs : ((st (put zs)).size : Int) = size (zs.length : Int) := by rw [e, st_size, bytes_len, size_nat]
  have hg : getOk (st (put zs)) (zs.length : Int) = true := by
    rw [getOk, Bool.and_eq_true, Bool.and_eq_true, decide_eq_true_eq, decide_eq_true_eq]
    refine ⟨⟨by omega, hs⟩, ?_⟩
    rw [restNone, List.all_eq_true]
    intro i hi
    have hi' : i < 8 * nsize zs.length := by rw [e, st_size, bytes_len] at hi; simpa using hi
    rcases Nat.lt_or_ge i zs.length with hlt | hge
    · simp [hlt]
    · rw [e, nbit_bytes zs h i (by omega), bit_zero zs i hge]
      simp
  refine ⟨hg, ?_, hs⟩
  rw [get, hg, e]
  exact bits_bytes zs h
theorem back2 (s : ByteArray) (n : Int) (h : getOk s n = true) : allBits (get s n) = true ∧ st (put (get s n)) = s ∧ ((get s n).length : Int) = n := by
  have hg := h
  rw [getOk, Bool.and_eq_true, Bool.and_eq_true, decide_eq_true_eq, decide_eq_true_eq] at h
  obtain ⟨⟨h0, hs⟩, hr⟩ := h
  obtain ⟨m, rfl⟩ := Int.eq_ofNat_of_zero_le h0
  have e : get s (m : Int) = bitsOf s m := by rw [get, hg]; rfl
  rw [e]
  have ha := allBits_bits s m
  have hsz : s.size = nsize m := by
    have := size_nat m
    rw [hs.symm] at this
    omega
  refine ⟨ha, ?_, by rw [bits_len]⟩
  rw [put_ok _ ha]
  rw [restNone, List.all_eq_true] at hr
  have hb : bytes (bitsOf s m) = bl s := by
    apply List.ext_getElem?
    intro j
    rcases Nat.lt_or_ge j s.size with hj | hj
    · have hjl : j < (bl s).length := by rw [bl_length]; exact hj
      rw [bytes, bits_len, ← hsz, List.getElem?_map, List.getElem?_range hj, Option.map_some, List.getElem?_eq_getElem hjl]
      congr 1
      have hv : val (bitsOf s m) (8 * j) 8 = (bl s)[j].toNat % 2 ^ 8 := by
        apply val_bits
        intro i hi
        have en : nbit s (8 * j + i) = (bl s)[j].toNat / 2 ^ i % 2 := by
          rw [nbit, show (8 * j + i) / 8 = j from by omega, show (8 * j + i) % 8 = i from by omega, List.getD_eq_getElem?_getD, List.getElem?_eq_getElem hjl]; rfl
        rw [← en]
        rcases Nat.lt_or_ge (8 * j + i) m with hlt | hge
        · exact bit_bits s m _ hlt
        · rw [bit_zero _ _ (by rw [bits_len]; exact hge)]
          have := hr (8 * j + i) (by simp; omega)
          simp at this
          rcases this with h | h
          · omega
          · exact h.symm
      rw [hv]
      have := UInt8.toNat_lt (bl s)[j]
      rw [Nat.mod_eq_of_lt (by omega)]
      simp
    · rw [List.getElem?_eq_none (by rw [bytes_len, bits_len]; omega), List.getElem?_eq_none (by rw [bl_length]; exact hj)]
  rw [hb, st_bl]

theorem bits_high (b u : Nat) (hb : b < 256) (hu : u < 8) : b / 2 ^ u = 0 ↔ ∀ i, u ≤ i → i < 8 → b / 2 ^ i % 2 = 0 := by
  constructor
  · intro h i hi h8
    have e : 2 ^ i = 2 ^ u * 2 ^ (i - u) := by rw [← Nat.pow_add]; congr 1; omega
    rw [e, ← Nat.div_div_eq_div_mul, h, Nat.zero_div]
  · intro h
    have : ∀ d, d ≤ 8 - u → b / 2 ^ (8 - d) = 0 := by
      intro d
      induction d with
      | zero => intro _; exact Nat.div_eq_of_lt hb
      | succ d ih =>
        intro hd
        have h1 := ih (by omega)
        have h2 := h (8 - (d + 1)) (by omega) (by omega)
        have e : 2 ^ (8 - d) = 2 ^ (8 - (d + 1)) * 2 := by rw [← Nat.pow_succ]; congr 1; omega
        rw [e, ← Nat.div_div_eq_div_mul] at h1
        omega
    have := this (8 - u) (Nat.le_refl _)
    rwa [show 8 - (8 - u) = u from by omega] at this
/-- Whether a bit is left: the code asks the last byte alone. -/
theorem left_eq (s : ByteArray) (n : Int) (h0 : 0 ≤ n) (hs : (s.size : Int) = size n) : restNone s n = !left s n := by
  obtain ⟨m, rfl⟩ := Int.eq_ofNat_of_zero_le h0
  have hsz : s.size = nsize m := by
    have := size_nat m
    rw [hs.symm] at this
    omega
  unfold nsize at hsz
  by_cases hu : m % 8 = 0
  · have e1 : left s (m : Int) = false := by
      rw [left, show decide (0 < (m : Int) % 8) = false from by simp; omega, Bool.false_and]
    rw [e1, Bool.not_false, restNone, List.all_eq_true]
    intro i hi
    have hi' : i < 8 * s.size := by simpa using hi
    have : (i : Int) < (m : Int) := by omega
    simp [this]
  · have hp : 0 < s.size := by omega
    have hjl : s.size - 1 < (bl s).length := by rw [bl_length]; omega
    have hbt : byteAt s ((s.size : Int) - 1) = ((bl s)[s.size - 1].toNat : Int) := by
      rw [byteAt, show ((s.size : Int) - 1).toNat = s.size - 1 from by omega, List.getD_eq_getElem?_getD, List.getElem?_eq_getElem hjl]; rfl
    have hlt := UInt8.toNat_lt (bl s)[s.size - 1]
    have hk := bits_high (bl s)[s.size - 1].toNat (m % 8) hlt (Nat.mod_lt _ (by decide))
    have hm : ((m : Int) % 8).toNat = m % 8 := by omega
    have e1 : left s (m : Int) = !((bl s)[s.size - 1].toNat / 2 ^ (m % 8) == 0) := by
      rw [left, show decide (0 < (m : Int) % 8) = true from by simp; omega, Bool.true_and, hbt, hm]
      congr 1
      rw [Bool.eq_iff_iff, beq_iff_eq, beq_iff_eq]
      rw [← Int.natCast_inj (m := (bl s)[s.size - 1].toNat / 2 ^ (m % 8)) (n := 0)]
      simp
    rw [e1, Bool.not_not, Bool.eq_iff_iff, beq_iff_eq, hk, restNone, List.all_eq_true]
    have enb : ∀ i, i < 8 → nbit s (8 * (s.size - 1) + i) = (bl s)[s.size - 1].toNat / 2 ^ i % 2 := by
      intro i hi
      rw [nbit, show (8 * (s.size - 1) + i) / 8 = s.size - 1 from by omega, show (8 * (s.size - 1) + i) % 8 = i from by omega, List.getD_eq_getElem?_getD, List.getElem?_eq_getElem hjl]; rfl
    constructor
    · intro h i hi h8
      have := h (8 * (s.size - 1) + i) (by simp; omega)
      rw [enb i h8] at this
      simp at this
      rcases this with h | h
      · omega
      · exact h
    · intro h i hi
      have hi' : i < 8 * s.size := by simpa using hi
      rcases Nat.lt_or_ge i m with hlt | hge
      · simp [hlt]
      · have := h (i % 8) (by omega) (Nat.mod_lt _ (by decide))
        rw [← enb _ (Nat.mod_lt _ (by decide)), show 8 * (s.size - 1) + i % 8 = i from by omega] at this
        simp [this]

theorem bit_app_left (a b : List Int) (i : Nat) (h : i < a.length) : bit (a ++ b) i = bit a i := by
  unfold bit
  rw [List.getD_eq_getElem?_getD, List.getD_eq_getElem?_getD, List.getElem?_append_left h]
theorem bit_app_right (a b : List Int) (i : Nat) : bit (a ++ b) (a.length + i) = bit b i := by
  unfold bit
  rw [List.getD_eq_getElem?_getD, List.getD_eq_getElem?_getD, List.getElem?_append_right (by omega), Nat.add_sub_cancel_left]
/-- Bits behind a multiple of eight bits. -/
theorem bytes_app (a b : List Int) (h : a.length % 8 = 0) : bytes (a ++ b) = bytes a ++ bytes b := by
  have hn : nsize (a ++ b).length = nsize a.length + nsize b.length := by unfold nsize; rw [List.length_append]; omega
  have ha : 8 * nsize a.length = a.length := by unfold nsize; omega
  rw [bytes, hn, List.range_add, List.map_append, List.map_map]
  congr 1
  · unfold bytes
    apply List.map_congr_left
    intro j hj
    have hj' : j < nsize a.length := by simpa using hj
    rw [val_congr (a ++ b) a _ _ 8 fun i hi => bit_app_left a b _ (by omega)]
  · unfold bytes
    apply List.map_congr_left
    intro j _
    simp only [Function.comp_apply]
    rw [val_congr (a ++ b) b (8 * (nsize a.length + j)) (8 * j) 8 fun i hi => by
      rw [show 8 * (nsize a.length + j) + i = a.length + (8 * j + i) from by omega]
      exact bit_app_right a b _]
theorem put_app (a b : List Int) (h : a.length % 8 = 0) : allBits (a ++ b) = (allBits a && allBits b) ∧ (allBits (a ++ b) = true → put (a ++ b) = put a ++ put b) := by
  have e : allBits (a ++ b) = (allBits a && allBits b) := by simp [allBits]
  refine ⟨e, fun h' => ?_⟩
  have h2 := h'
  rw [e, Bool.and_eq_true] at h2
  rw [put_ok _ h', put_ok _ h2.1, put_ok _ h2.2, bytes_app a b h]
theorem put_len (zs : List Int) : (st (put zs)).size ≤ nsize zs.length := by
  unfold put
  split
  · rw [st_size, bytes_len]; exact Nat.le_refl _
  · rw [st_size]; simp
theorem get_len8 (s : ByteArray) (n : Int) : (get s n).length ≤ 8 * s.size := by
  unfold get
  split
  · rename_i h
    rw [getOk, Bool.and_eq_true, Bool.and_eq_true, decide_eq_true_eq, decide_eq_true_eq] at h
    obtain ⟨⟨h0, hs⟩, _⟩ := h
    unfold size at hs
    rw [if_neg (by omega)] at hs
    rw [bits_len]
    omega
  · simp
theorem get_len (s : ByteArray) (n : Int) : (get s n).length ≤ n.toNat := by
  unfold get
  split
  · rw [bits_len]; exact Nat.le_refl _
  · simp
end Co
end Go.Proofs.Ytdgnmoebahaaeaa
