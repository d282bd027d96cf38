/- Requests there and back, cut off, and how many bytes they have, in plain words. Conditions: none. -/
import Derived.Test.YtdgnmoebahaaeaaAskA
namespace Go.Proofs.Ytdgnmoebahaaeaa.Ak
open Go.RowKit

theorem at_two (p : List UInt8) (z : Int) (h0 : 0 ≤ z) (h1 : z ≤ 65535) (q : List UInt8) (i : Int) (hi : i = (p.length : Int)) : at_ (st (p ++ (Tw.two z ++ q))) i = z := by
  subst hi
  rw [← List.append_assoc]
  have hok : Tw.getOk (st (p ++ Tw.two z ++ q)) (p.length : Int) = true := by
    rw [Tw.getOk, Bool.and_eq_true, decide_eq_true_eq, decide_eq_true_eq, st_size]
    simp [Tw.two]
    omega
  rw [at_, Tw.get, hok]
  exact Tw.num_two p z h0 h1 q
theorem byteAt_mid (p : List UInt8) (b : UInt8) (q : List UInt8) (i : Int) (hi : i = (p.length : Int)) : byteAt (st (p ++ b :: q)) i = b.toNat := by
  subst hi
  rw [byteAt, bl_st, show ((p.length : Int)).toNat = p.length from by omega, List.getD_eq_getElem?_getD, List.getElem?_append_right (Nat.le_refl _), Nat.sub_self]
  rfl
theorem byteAt_head (b : UInt8) (q : List UInt8) : byteAt (st (b :: q)) 0 = b.toNat := byteAt_mid [] b q 0 rfl
theorem sub_mid (p : List UInt8) (b : UInt8) (v : List UInt8) (i : Nat) (hi : i = p.length + 1) : sub (st (p ++ b :: v)) i = st v := by
  subst hi
  rw [sub, bl_st, List.drop_append, List.drop_eq_nil_of_le (by omega)]
  simp
theorem two_len (z : Int) : (Tw.two z).length = 2 := rfl
theorem ofNat8 (n : Nat) (h : n < 256) : (UInt8.ofNat n).toNat = n := Tw.ofNat_toNat n h
theorem valOk0_mid (p v : List UInt8) (hv : v.length < 256) (many : Int) (hm : 0 ≤ many) (i : Nat) (hi : i = p.length) : valOk0 (st (p ++ UInt8.ofNat v.length :: v)) i many = true := by
  subst hi
  rw [valOk0, byteAt_mid p _ v _ rfl, ofNat8 _ hv, st_size]
  simp
  omega

theorem shapeR {fc : Int} (h : fc = 1 ∨ fc = 2 ∨ fc = 3 ∨ fc = 4) (rd ct wr mn : Int) (vs : List Int) : bytes ⟨fc, rd, ct, wr, mn, vs⟩ = UInt8.ofNat fc.toNat :: (Tw.two rd ++ (Tw.two ct ++ [])) := by
  rcases h with rfl | rfl | rfl | rfl <;> simp [bytes, reads, wmax]
theorem shape5 (rd ct wr mn : Int) (vs : List Int) : bytes ⟨5, rd, ct, wr, mn, vs⟩ = UInt8.ofNat 5 :: (Tw.two wr ++ (Tw.two (65280 * vs.getD 0 0) ++ [])) := by
  simp [bytes, reads, wmax, tail]
theorem shape6 (rd ct wr mn z : Int) : bytes ⟨6, rd, ct, wr, mn, [z]⟩ = UInt8.ofNat 6 :: (Tw.two wr ++ (Tw.two z ++ [])) := by
  simp [bytes, reads, wmax, tail, Tw.bytes]
theorem shape22 (rd ct wr mn y z : Int) : bytes ⟨22, rd, ct, wr, mn, [y, z]⟩ = UInt8.ofNat 22 :: (Tw.two wr ++ (Tw.two y ++ (Tw.two z ++ []))) := by
  simp [bytes, reads, wmax, tail, Tw.bytes]
theorem shape15 (rd ct wr mn : Int) (vs : List Int) : bytes ⟨15, rd, ct, wr, mn, vs⟩ = UInt8.ofNat 15 :: (Tw.two wr ++ (Tw.two mn ++ (UInt8.ofNat (Co.bytes vs).length :: Co.bytes vs))) := by
  simp [bytes, reads, wmax, tail, load, wtop]
theorem shape16 (rd ct wr mn : Int) (vs : List Int) : bytes ⟨16, rd, ct, wr, mn, vs⟩ = UInt8.ofNat 16 :: (Tw.two wr ++ (Tw.two mn ++ (UInt8.ofNat (Tw.bytes vs).length :: Tw.bytes vs))) := by
  simp [bytes, reads, wmax, tail, load, wtop]
theorem shape23 (rd ct wr mn : Int) (vs : List Int) : bytes ⟨23, rd, ct, wr, mn, vs⟩ =
    UInt8.ofNat 23 :: (Tw.two rd ++ (Tw.two ct ++ (Tw.two wr ++ (Tw.two mn ++ (UInt8.ofNat (Tw.bytes vs).length :: Tw.bytes vs))))) := by
  simp [bytes, reads, wmax, tail, load, wtop]

/-- How many bytes a request has. -/
def sizeOf (a : AskP) : Int :=
  if a.fc = 15 then 6 + (a.mn + 7) / 8 else if a.fc = 16 then 6 + 2 * a.mn else if a.fc = 22 then 7 else if a.fc = 23 then 10 + 2 * a.mn else 5
/-- A request that is formed, function by function. -/
theorem cases_formed {a : AskP} (h : formed a = true) :
    (∃ fc rd ct, a = ⟨fc, rd, ct, 0, 0, []⟩ ∧ (fc = 1 ∨ fc = 2 ∨ fc = 3 ∨ fc = 4) ∧ 0 ≤ rd ∧ rd ≤ 65535 ∧ 1 ≤ ct ∧ ct ≤ 2000) ∨
    (∃ wr z, a = ⟨5, 0, 0, wr, 1, [z]⟩ ∧ 0 ≤ wr ∧ wr ≤ 65535 ∧ (z = 0 ∨ z = 1)) ∨
    (∃ wr z, a = ⟨6, 0, 0, wr, 1, [z]⟩ ∧ 0 ≤ wr ∧ wr ≤ 65535 ∧ 0 ≤ z ∧ z ≤ 65535) ∨
    (∃ wr y z, a = ⟨22, 0, 0, wr, 1, [y, z]⟩ ∧ 0 ≤ wr ∧ wr ≤ 65535 ∧ (0 ≤ y ∧ y ≤ 65535) ∧ 0 ≤ z ∧ z ≤ 65535) ∨
    (∃ wr vs, a = ⟨15, 0, 0, wr, (vs.length : Int), vs⟩ ∧ 0 ≤ wr ∧ wr ≤ 65535 ∧ 1 ≤ vs.length ∧ vs.length ≤ 1968 ∧ Co.allBits vs = true) ∨
    (∃ wr vs, a = ⟨16, 0, 0, wr, (vs.length : Int), vs⟩ ∧ 0 ≤ wr ∧ wr ≤ 65535 ∧ 1 ≤ vs.length ∧ vs.length ≤ 123 ∧ Tw.allIn vs = true) ∨
    (∃ rd ct wr vs, a = ⟨23, rd, ct, wr, (vs.length : Int), vs⟩ ∧ (0 ≤ rd ∧ rd ≤ 65535) ∧ (1 ≤ ct ∧ ct ≤ 125) ∧ 0 ≤ wr ∧ wr ≤ 65535 ∧ 1 ≤ vs.length ∧ vs.length ≤ 121 ∧ Tw.allIn vs = true) := by
  obtain ⟨fc, rd, ct, wr, mn, vs⟩ := a
  rw [formed_iff] at h
  obtain ⟨hk, hrd, hct, h1, h2, hwr, hmn, h3, h4, hl, hall⟩ := h
  simp only [need] at *
  rw [known_iff] at hk
  have one : ∀ l : List Int, l.length = 1 → ∃ z, l = [z] := fun l hl => by
    match l, hl with
    | [z], _ => exact ⟨z, rfl⟩
  have two : ∀ l : List Int, l.length = 2 → ∃ y z, l = [y, z] := fun l hl => by
    match l, hl with
    | [y, z], _ => exact ⟨y, z, rfl⟩
  rcases hk with rfl | rfl | rfl | rfl | rfl | rfl | rfl | rfl | rfl | rfl <;> simp [reads, wmax, wtwo, wtop] at hct h1 h2 hmn h3 h4 hl hall
  · left
    obtain rfl : mn = 0 := by omega
    obtain rfl : vs = [] := List.eq_nil_of_length_eq_zero (by omega)
    subst h4
    exact ⟨1, rd, ct, rfl, by simp, hrd.1, hrd.2, by omega, by omega⟩
  · left
    obtain rfl : mn = 0 := by omega
    obtain rfl : vs = [] := List.eq_nil_of_length_eq_zero (by omega)
    subst h4
    exact ⟨2, rd, ct, rfl, by simp, hrd.1, hrd.2, by omega, by omega⟩
  · left
    obtain rfl : mn = 0 := by omega
    obtain rfl : vs = [] := List.eq_nil_of_length_eq_zero (by omega)
    subst h4
    exact ⟨3, rd, ct, rfl, by simp, hrd.1, hrd.2, by omega, by omega⟩
  · left
    obtain rfl : mn = 0 := by omega
    obtain rfl : vs = [] := List.eq_nil_of_length_eq_zero (by omega)
    subst h4
    exact ⟨4, rd, ct, rfl, by simp, hrd.1, hrd.2, by omega, by omega⟩
  · right; left
    obtain rfl : mn = 1 := by omega
    obtain ⟨z, rfl⟩ := one vs (by omega)
    obtain rfl : ct = 0 := by omega
    subst h2
    rw [allTo_iff] at hall
    have := hall z (by simp)
    exact ⟨wr, z, rfl, hwr.1, hwr.2, by omega⟩
  · right; right; left
    obtain rfl : mn = 1 := by omega
    obtain ⟨z, rfl⟩ := one vs (by omega)
    obtain rfl : ct = 0 := by omega
    subst h2
    rw [allTo_iff] at hall
    have := hall z (by simp)
    exact ⟨wr, z, rfl, hwr.1, hwr.2, this.1, this.2⟩
  · right; right; right; right; left
    obtain rfl : mn = (vs.length : Int) := by omega
    obtain rfl : ct = 0 := by omega
    subst h2
    exact ⟨wr, vs, rfl, hwr.1, hwr.2, by omega, by omega, allTo_bits vs hall⟩
  · right; right; right; right; right; left
    obtain rfl : mn = (vs.length : Int) := by omega
    obtain rfl : ct = 0 := by omega
    subst h2
    exact ⟨wr, vs, rfl, hwr.1, hwr.2, by omega, by omega, hall⟩
  · right; right; right; left
    obtain rfl : mn = 1 := by omega
    obtain ⟨y, z, rfl⟩ := two vs (by omega)
    obtain rfl : ct = 0 := by omega
    subst h2
    rw [allTo_iff] at hall
    have hy := hall y (by simp)
    have hz := hall z (by simp)
    exact ⟨wr, y, z, rfl, hwr.1, hwr.2, hy, hz.1, hz.2⟩
  · right; right; right; right; right; right
    obtain rfl : mn = (vs.length : Int) := by omega
    exact ⟨rd, ct, wr, vs, rfl, hrd, by omega, hwr.1, hwr.2, by omega, by omega, hall⟩
theorem ofNat_int (fc : Int) (h0 : 0 ≤ fc) (h1 : fc ≤ 255) : ((UInt8.ofNat fc.toNat).toNat : Int) = fc := by
  rw [ofNat8 _ (by omega)]; omega
theorem vals_mid (p v : List UInt8) (hv : v.length < 256) (fc many : Int) (hm : 0 ≤ many) (i : Nat) (hi : i = p.length) :
    vals (st (p ++ UInt8.ofNat v.length :: v)) i fc many = (if fc = 15 then Co.get (st v) many else Tw.getAll (st v)) ∧
      valOk (st (p ++ UInt8.ofNat v.length :: v)) i fc many = (if fc = 15 then Co.getOk (st v) many else Tw.evenB (st v)) := by
  have h0 := valOk0_mid p v hv many hm i hi
  have hs := sub_mid p (UInt8.ofNat v.length) v (i + 1) (by omega)
  rw [vals, valOk, h0, hs]
  simp
/-- There and back, from a request. -/
theorem back1 {a : AskP} (h : formed a = true) : read (st (bytes a)) = a ∧ readOk (st (bytes a)) = true ∧ begins (st (bytes a)) = true ∧ ((bytes a).length : Int) = sizeOf a := by
  rcases cases_formed h with ⟨fc, rd, ct, rfl, hf, h0, h1, h2, h3⟩ | ⟨wr, z, rfl, h0, h1, hz⟩ | ⟨wr, z, rfl, h0, h1, h2, h3⟩ | ⟨wr, y, z, rfl, h0, h1, hy, h2, h3⟩ |
    ⟨wr, vs, rfl, h0, h1, h2, h3, hb⟩ | ⟨wr, vs, rfl, h0, h1, h2, h3, hb⟩ | ⟨rd, ct, wr, vs, rfl, hrd, hct, h0, h1, h2, h3, hb⟩
  · rw [shapeR hf]
    have hb0 : byteAt (st (UInt8.ofNat fc.toNat :: (Tw.two rd ++ (Tw.two ct ++ [])))) 0 = fc := by rw [byteAt_head, ofNat_int fc (by omega) (by omega)]
    have a1 := at_two [UInt8.ofNat fc.toNat] rd h0 h1 (Tw.two ct ++ []) 1 rfl
    have a3 := at_two (UInt8.ofNat fc.toNat :: Tw.two rd) ct (by omega) (by omega) [] 3 rfl
    simp only [List.cons_append, List.nil_append] at a1 a3
    refine ⟨?_, ?_, ?_, ?_⟩
    · simp only [read, hb0, if_pos hf, a1, a3]
    · simp only [readOk, hb0, if_pos hf]; rfl
    · rw [begins, hb0, (known_iff fc).2 (by omega)]; rfl
    · rcases hf with rfl | rfl | rfl | rfl <;> rfl
  · rw [shape5]
    have hb0 : byteAt (st (UInt8.ofNat 5 :: (Tw.two wr ++ (Tw.two (65280 * [z].getD 0 0) ++ [])))) 0 = 5 := byteAt_head _ _
    have a1 := at_two [UInt8.ofNat 5] wr h0 h1 (Tw.two (65280 * [z].getD 0 0) ++ []) 1 rfl
    have hzz : 0 ≤ 65280 * [z].getD 0 0 ∧ 65280 * [z].getD 0 0 ≤ 65535 := by rcases hz with rfl | rfl <;> simp
    have a3 := at_two (UInt8.ofNat 5 :: Tw.two wr) (65280 * [z].getD 0 0) hzz.1 hzz.2 [] 3 rfl
    simp only [List.cons_append, List.nil_append] at a1 a3
    refine ⟨?_, ?_, ?_, rfl⟩
    · simp only [read, hb0, a1, a3]
      rcases hz with rfl | rfl <;> simp [coil]
    · simp only [readOk, hb0, a3]
      rcases hz with rfl | rfl <;> rfl
    · rw [begins, hb0]; rfl
  · rw [shape6]
    have hb0 : byteAt (st (UInt8.ofNat 6 :: (Tw.two wr ++ (Tw.two z ++ [])))) 0 = 6 := byteAt_head _ _
    have a1 := at_two [UInt8.ofNat 6] wr h0 h1 (Tw.two z ++ []) 1 rfl
    have a3 := at_two (UInt8.ofNat 6 :: Tw.two wr) z h2 h3 [] 3 rfl
    simp only [List.cons_append, List.nil_append] at a1 a3
    refine ⟨?_, ?_, ?_, rfl⟩
    · generalize hS : st (UInt8.ofNat 6 :: (Tw.two wr ++ (Tw.two z ++ []))) = S at *
      simp [read, hb0, a1, a3]
    · simp only [readOk, hb0]; rfl
    · rw [begins, hb0]; rfl
  · rw [shape22]
    have hb0 : byteAt (st (UInt8.ofNat 22 :: (Tw.two wr ++ (Tw.two y ++ (Tw.two z ++ []))))) 0 = 22 := byteAt_head _ _
    have a1 := at_two [UInt8.ofNat 22] wr h0 h1 (Tw.two y ++ (Tw.two z ++ [])) 1 rfl
    have a3 := at_two (UInt8.ofNat 22 :: Tw.two wr) y hy.1 hy.2 (Tw.two z ++ []) 3 rfl
    have a5 := at_two (UInt8.ofNat 22 :: (Tw.two wr ++ Tw.two y)) z h2 h3 [] 5 rfl
    simp only [List.cons_append, List.nil_append, List.append_assoc] at a1 a3 a5
    refine ⟨?_, ?_, ?_, rfl⟩
    · generalize hS : st (UInt8.ofNat 22 :: (Tw.two wr ++ (Tw.two y ++ (Tw.two z ++ [])))) = S at *
      simp [read, hb0, a1, a3, a5]
    · simp only [readOk, hb0]; rfl
    · rw [begins, hb0]; rfl
  · rw [shape15]
    have hlen := Co.bytes_len vs
    have hv : (Co.bytes vs).length < 256 := by rw [hlen]; unfold Co.nsize; omega
    have hbk := Co.back1 vs hb
    rw [Co.put_ok vs hb] at hbk
    have hlen2 : (UInt8.ofNat 15 :: (Tw.two wr ++ (Tw.two (vs.length : Int) ++ (UInt8.ofNat (Co.bytes vs).length :: Co.bytes vs)))).length = sizeOf ⟨15, 0, 0, wr, (vs.length : Int), vs⟩ := by
      simp only [List.length_cons, List.length_append, two_len, hlen, Co.nsize, sizeOf]
      simp
      omega
    clear hlen
    generalize Co.bytes vs = v at *
    have hb0 : byteAt (st (UInt8.ofNat 15 :: (Tw.two wr ++ (Tw.two (vs.length : Int) ++ (UInt8.ofNat v.length :: v))))) 0 = 15 := byteAt_head _ _
    have a1 := at_two [UInt8.ofNat 15] wr h0 h1 (Tw.two (vs.length : Int) ++ (UInt8.ofNat v.length :: v)) 1 rfl
    have a3 := at_two (UInt8.ofNat 15 :: Tw.two wr) (vs.length : Int) (by omega) (by omega) (UInt8.ofNat v.length :: v) 3 rfl
    have v5 := vals_mid (UInt8.ofNat 15 :: (Tw.two wr ++ Tw.two (vs.length : Int))) v hv 15 (vs.length : Int) (by omega) 5 rfl
    simp only [List.cons_append, List.nil_append, List.append_assoc] at a1 a3 v5
    simp only [if_true] at v5
    rw [hbk.1, hbk.2.1] at v5
    generalize hS : st (UInt8.ofNat 15 :: (Tw.two wr ++ (Tw.two (vs.length : Int) ++ (UInt8.ofNat v.length :: v)))) = S at *
    have hp : 0 < S.size := by rw [← hS, st_size]; simp
    refine ⟨?_, ?_, ?_, hlen2⟩
    · simp [read, hb0, a1, a3, v5.1]
    · simp [readOk, hb0, a3, v5.2]
    · rw [begins, hb0]; simp [known, hp]
  · rw [shape16]
    have hlen := Tw.bytes_len vs
    have hv : (Tw.bytes vs).length < 256 := by rw [hlen]; omega
    have hbk := Tw.back1 vs hb
    rw [show Tw.put vs = Tw.bytes vs by rw [Tw.put, hb]; rfl] at hbk
    have hlen2 : (UInt8.ofNat 16 :: (Tw.two wr ++ (Tw.two (vs.length : Int) ++ (UInt8.ofNat (Tw.bytes vs).length :: Tw.bytes vs)))).length = sizeOf ⟨16, 0, 0, wr, (vs.length : Int), vs⟩ := by
      simp only [List.length_cons, List.length_append, two_len, hlen, sizeOf]
      simp
      omega
    clear hlen
    generalize Tw.bytes vs = v at *
    have hb0 : byteAt (st (UInt8.ofNat 16 :: (Tw.two wr ++ (Tw.two (vs.length : Int) ++ (UInt8.ofNat v.length :: v))))) 0 = 16 := byteAt_head _ _
    have a1 := at_two [UInt8.ofNat 16] wr h0 h1 (Tw.two (vs.length : Int) ++ (UInt8.ofNat v.length :: v)) 1 rfl
    have a3 := at_two (UInt8.ofNat 16 :: Tw.two wr) (vs.length : Int) (by omega) (by omega) (UInt8.ofNat v.length :: v) 3 rfl
    have v5 := vals_mid (UInt8.ofNat 16 :: (Tw.two wr ++ Tw.two (vs.length : Int))) v hv 16 (vs.length : Int) (by omega) 5 rfl
    simp only [List.cons_append, List.nil_append, List.append_assoc] at a1 a3 v5
    rw [if_neg (by decide), if_neg (by decide)] at v5
    rw [hbk.1, hbk.2.1] at v5
    generalize hS : st (UInt8.ofNat 16 :: (Tw.two wr ++ (Tw.two (vs.length : Int) ++ (UInt8.ofNat v.length :: v)))) = S at *
    have hp : 0 < S.size := by rw [← hS, st_size]; simp
    refine ⟨?_, ?_, ?_, hlen2⟩
    · simp [read, hb0, a1, a3, v5.1]
    · simp [readOk, hb0, a3, v5.2]
    · rw [begins, hb0]; simp [known, hp]
  · rw [shape23]
    have hlen := Tw.bytes_len vs
    have hv : (Tw.bytes vs).length < 256 := by rw [hlen]; omega
    have hbk := Tw.back1 vs hb
    rw [show Tw.put vs = Tw.bytes vs by rw [Tw.put, hb]; rfl] at hbk
    have hlen2 : (UInt8.ofNat 23 :: (Tw.two rd ++ (Tw.two ct ++ (Tw.two wr ++ (Tw.two (vs.length : Int) ++ (UInt8.ofNat (Tw.bytes vs).length :: Tw.bytes vs)))))).length = sizeOf ⟨23, rd, ct, wr, (vs.length : Int), vs⟩ := by
      simp only [List.length_cons, List.length_append, two_len, hlen, sizeOf]
      simp
      omega
    clear hlen
    generalize Tw.bytes vs = v at *
    have hb0 : byteAt (st (UInt8.ofNat 23 :: (Tw.two rd ++ (Tw.two ct ++ (Tw.two wr ++ (Tw.two (vs.length : Int) ++ (UInt8.ofNat v.length :: v))))))) 0 = 23 := byteAt_head _ _
    have a1 := at_two [UInt8.ofNat 23] rd hrd.1 hrd.2 (Tw.two ct ++ (Tw.two wr ++ (Tw.two (vs.length : Int) ++ (UInt8.ofNat v.length :: v)))) 1 rfl
    have a3 := at_two (UInt8.ofNat 23 :: Tw.two rd) ct (by omega) (by omega) (Tw.two wr ++ (Tw.two (vs.length : Int) ++ (UInt8.ofNat v.length :: v))) 3 rfl
    have a5 := at_two (UInt8.ofNat 23 :: (Tw.two rd ++ Tw.two ct)) wr h0 h1 (Tw.two (vs.length : Int) ++ (UInt8.ofNat v.length :: v)) 5 rfl
    have a7 := at_two (UInt8.ofNat 23 :: (Tw.two rd ++ (Tw.two ct ++ Tw.two wr))) (vs.length : Int) (by omega) (by omega) (UInt8.ofNat v.length :: v) 7 rfl
    have v5 := vals_mid (UInt8.ofNat 23 :: (Tw.two rd ++ (Tw.two ct ++ (Tw.two wr ++ Tw.two (vs.length : Int))))) v hv 23 (vs.length : Int) (by omega) 9 rfl
    simp only [List.cons_append, List.nil_append, List.append_assoc] at a1 a3 a5 a7 v5
    rw [if_neg (by decide), if_neg (by decide)] at v5
    rw [hbk.1, hbk.2.1] at v5
    generalize hS : st (UInt8.ofNat 23 :: (Tw.two rd ++ (Tw.two ct ++ (Tw.two wr ++ (Tw.two (vs.length : Int) ++ (UInt8.ofNat v.length :: v)))))) = S at *
    have hp : 0 < S.size := by rw [← hS, st_size]; simp
    refine ⟨?_, ?_, ?_, hlen2⟩
    · simp [read, hb0, a1, a3, a5, a7, v5.1]
    · simp [readOk, hb0, a7, v5.2]
    · rw [begins, hb0]; simp [known, hp]
theorem len_le {a : AskP} (h : formed a = true) : (bytes a).length ≤ 253 := by
  have hs := (back1 h).2.2.2
  rcases cases_formed h with ⟨fc, rd, ct, rfl, hf, h0, h1, h2, h3⟩ | ⟨wr, z, rfl, h0, h1, hz⟩ | ⟨wr, z, rfl, h0, h1, h2, h3⟩ | ⟨wr, y, z, rfl, h0, h1, hy, h2, h3⟩ |
    ⟨wr, vs, rfl, h0, h1, h2, h3, hb⟩ | ⟨wr, vs, rfl, h0, h1, h2, h3, hb⟩ | ⟨rd, ct, wr, vs, rfl, hrd, hct, h0, h1, h2, h3, hb⟩
  · rcases hf with rfl | rfl | rfl | rfl <;> simp [sizeOf] at hs <;> omega
  all_goals (simp [sizeOf] at hs; omega)
theorem err_right {a : AskP} (h : right a = true) : err (st (put a)) = 0 ∧ get (st (put a)) = a ∧ put a = bytes a := by
  have hf := ((right_iff a).1 h).1
  obtain ⟨h1, h2, h3, _⟩ := back1 hf
  have e : put a = bytes a := by rw [put, h]; rfl
  have e0 : err (st (put a)) = 0 := by rw [e, err, h3, h2, h1, hf, h]; rfl
  refine ⟨e0, ?_, e⟩
  rw [get, e0, e]
  exact h1

/-- Two bytes are those of their number. -/
theorem two_mid (p : List UInt8) (x y : UInt8) (q : List UInt8) (i : Int) (hi : i = (p.length : Int)) : Tw.two (at_ (st (p ++ x :: y :: q)) i) = [x, y] := by
  subst hi
  have hok : Tw.getOk (st (p ++ x :: y :: q)) (p.length : Int) = true := by
    rw [Tw.getOk, Bool.and_eq_true, decide_eq_true_eq, decide_eq_true_eq, st_size]
    simp
    omega
  have h1 := byteAt_mid p x (y :: q) (p.length : Int) rfl
  have h2 := byteAt_mid (p ++ [x]) y q ((p.length : Int) + 1) (by simp)
  rw [List.append_assoc] at h2
  rw [at_, Tw.get, hok]
  simp only [if_true]
  rw [Tw.num, h1, show byteAt (st (p ++ x :: y :: q)) ((p.length : Int) + 1) = (y.toNat : Int) from h2, Tw.two]
  have b1 := UInt8.toNat_lt x
  have b2 := UInt8.toNat_lt y
  congr 1
  · rw [show (((x.toNat : Int) * 256 + (y.toNat : Int)) / 256).toNat = x.toNat from by omega]
    simp
  · rw [show (((x.toNat : Int) * 256 + (y.toNat : Int)) % 256).toNat = y.toNat from by omega]
    simp
theorem list_cons (l : List UInt8) (h : 0 < l.length) : ∃ x t, l = x :: t := by
  match l, h with
  | x :: t, _ => exact ⟨x, t, rfl⟩
/-- A byte that is a number is that number's byte. -/
theorem byte_of {b : UInt8} {n : Nat} (h : (b.toNat : Int) = (n : Int)) : b = UInt8.ofNat n := by
  have : b.toNat = n := by omega
  rw [← this]; simp
theorem valOk_tail {s : ByteArray} {p : List UInt8} {b : UInt8} {v : List UInt8} {i : Nat} {fc many : Int} (hs : bl s = p ++ b :: v) (hi : i = p.length) (h : valOk s i fc many = true) :
    b = UInt8.ofNat v.length ∧ sub s (i + 1) = st v ∧ valOk0 s i many = true := by
  obtain rfl : s = st (p ++ b :: v) := by rw [← hs, st_bl]
  rw [valOk, Bool.and_eq_true] at h
  have h0 := h.1
  refine ⟨?_, sub_mid p b v _ (by omega), h0⟩
  rw [valOk0, Bool.and_eq_true, Bool.and_eq_true, beq_iff_eq, byteAt_mid p b v _ (by omega), st_size] at h0
  apply byte_of
  have := h0.1.2
  simp at this
  omega
theorem take5 (l : List UInt8) (h : 5 ≤ l.length) : ∃ a b c d e t, l = a :: b :: c :: d :: e :: t := by
  match l, h with
  | a :: b :: c :: d :: e :: t, _ => exact ⟨a, b, c, d, e, t, rfl⟩
theorem take4 (l : List UInt8) (h : 4 ≤ l.length) : ∃ a b c d t, l = a :: b :: c :: d :: t := by
  match l, h with
  | a :: b :: c :: d :: t, _ => exact ⟨a, b, c, d, t, rfl⟩
theorem size_st (l : List UInt8) : (st l).size = l.length := rfl
/-- There and back, from bytes. -/
theorem back2 {s : ByteArray} (hb : begins s = true) (hr : readOk s = true) (hf : formed (read s) = true) : bytes (read s) = bl s := by
  obtain ⟨l, rfl⟩ : ∃ l, s = st l := ⟨bl s, (st_bl s).symm⟩
  rw [bl_st]
  rw [begins, Bool.and_eq_true, decide_eq_true_eq] at hb
  obtain ⟨hp, hk⟩ := hb
  obtain ⟨x, t, rfl⟩ := list_cons l hp
  have hb0 : byteAt (st (x :: t)) 0 = (x.toNat : Int) := byteAt_head _ _
  have hx : ∀ n : Nat, (x.toNat : Int) = (n : Int) → x = UInt8.ofNat n := fun n h => byte_of h
  rw [known_iff] at hk
  rw [hb0] at hk
  clear hp
  have R4 : ((x.toNat : Int) = 1 ∨ (x.toNat : Int) = 2 ∨ (x.toNat : Int) = 3 ∨ (x.toNat : Int) = 4) → bytes (read (st (x :: t))) = x :: t := fun h4 => by
    have hr' : (st (x :: t)).size = 5 := by simpa [readOk, hb0, h4] using hr
    obtain ⟨b1, b2, b3, b4, t', rfl⟩ := take4 t (by rw [st_size] at hr'; simp only [List.length_cons] at hr'; omega)
    obtain rfl : t' = [] := List.eq_nil_of_length_eq_zero (by rw [st_size] at hr'; simp only [List.length_cons] at hr'; omega)
    have e1 := two_mid [x] b1 b2 [b3, b4] 1 rfl
    have e3 := two_mid [x, b1, b2] b3 b4 [] 3 rfl
    simp only [List.cons_append, List.nil_append] at e1 e3
    have er : read (st [x, b1, b2, b3, b4]) = ⟨(x.toNat : Int), at_ (st [x, b1, b2, b3, b4]) 1, at_ (st [x, b1, b2, b3, b4]) 3, 0, 0, []⟩ := by simp [read, hb0, h4]
    rw [er, shapeR h4, e1, e3]
    simp
  rcases hk with h | h | h | h | h | h | h | h | h | h
  · exact R4 (by omega)
  · exact R4 (by omega)
  · exact R4 (by omega)
  · exact R4 (by omega)
  · have hxn := hx 5 h
    have hb0 : byteAt (st (x :: t)) 0 = 5 := by rw [hb0]; exact h
    clear hx R4
    have hr' : (st (x :: t)).size = 5 ∧ (at_ (st (x :: t)) 3 = 65280 ∨ at_ (st (x :: t)) 3 = 0) := by simpa [readOk, hb0] using hr
    obtain ⟨b1, b2, b3, b4, t', rfl⟩ := take4 t (by have := hr'.1; rw [st_size] at this; simp only [List.length_cons] at this; omega)
    obtain rfl : t' = [] := List.eq_nil_of_length_eq_zero (by have := hr'.1; rw [st_size] at this; simp only [List.length_cons] at this; omega)
    have e1 := two_mid [x] b1 b2 [b3, b4] 1 rfl
    have e3 := two_mid [x, b1, b2] b3 b4 [] 3 rfl
    simp only [List.cons_append, List.nil_append] at e1 e3
    generalize hS : st [x, b1, b2, b3, b4] = S at *
    have er : read S = ⟨5, 0, 0, at_ S 1, 1, [coil (at_ S 3)]⟩ := by simp [read, hb0]
    have ec : 65280 * [coil (at_ S 3)].getD 0 0 = at_ S 3 := by
      rcases hr'.2 with h | h <;> rw [h] <;> simp [coil]
    rw [er, shape5, ec, e1, e3, hxn]
    rfl
  · have hxn := hx 6 h
    have hb0 : byteAt (st (x :: t)) 0 = 6 := by rw [hb0]; exact h
    clear hx R4
    have hr' : (st (x :: t)).size = 5 := by simpa [readOk, hb0] using hr
    obtain ⟨b1, b2, b3, b4, t', rfl⟩ := take4 t (by rw [st_size] at hr'; simp only [List.length_cons] at hr'; omega)
    obtain rfl : t' = [] := List.eq_nil_of_length_eq_zero (by rw [st_size] at hr'; simp only [List.length_cons] at hr'; omega)
    have e1 := two_mid [x] b1 b2 [b3, b4] 1 rfl
    have e3 := two_mid [x, b1, b2] b3 b4 [] 3 rfl
    simp only [List.cons_append, List.nil_append] at e1 e3
    generalize hS : st [x, b1, b2, b3, b4] = S at *
    have er : read S = ⟨6, 0, 0, at_ S 1, 1, [at_ S 3]⟩ := by simp [read, hb0]
    rw [er, shape6, e1, e3, hxn]
    rfl
  · have hxn := hx 15 h
    have hb0 : byteAt (st (x :: t)) 0 = 15 := by rw [hb0]; exact h
    clear hx R4
    have hr' : valOk (st (x :: t)) 5 15 (at_ (st (x :: t)) 3) = true := by simpa [readOk, hb0] using hr
    have hs5 : 5 ≤ t.length := by
      have h := hr'
      rw [valOk, Bool.and_eq_true, valOk0, Bool.and_eq_true, Bool.and_eq_true, decide_eq_true_eq, st_size] at h
      have := h.1.1.1
      simp at this
      omega
    obtain ⟨b1, b2, b3, b4, b5, v, rfl⟩ := take5 t hs5
    have e1 := two_mid [x] b1 b2 (b3 :: b4 :: b5 :: v) 1 rfl
    have e3 := two_mid [x, b1, b2] b3 b4 (b5 :: v) 3 rfl
    have ht : b5 = UInt8.ofNat v.length ∧ sub (st (x :: b1 :: b2 :: b3 :: b4 :: b5 :: v)) (5 + 1) = st v ∧ valOk0 (st (x :: b1 :: b2 :: b3 :: b4 :: b5 :: v)) 5 (at_ (st (x :: b1 :: b2 :: b3 :: b4 :: b5 :: v)) 3) = true := valOk_tail (p := [x, b1, b2, b3, b4]) (b := b5) (v := v) (bl_st _) rfl hr'
    simp only [List.cons_append, List.nil_append] at e1 e3
    generalize hS : st (x :: b1 :: b2 :: b3 :: b4 :: b5 :: v) = S at *
    have er : read S = ⟨15, 0, 0, at_ S 1, at_ S 3, vals S 5 15 (at_ S 3)⟩ := by simp [read, hb0]
    have hv : Co.getOk (st v) (at_ S 3) = true := by
      rw [valOk, ht.2.1, Bool.and_eq_true] at hr'
      simpa using hr'.2
    have ev : vals S 5 15 (at_ S 3) = Co.get (st v) (at_ S 3) := by rw [vals, ht.2.2, ht.2.1]; rfl
    have hbk := Co.back2 (st v) _ hv
    have ep : Co.bytes (Co.get (st v) (at_ S 3)) = v := by
      rw [← Co.put_ok _ hbk.1]
      have := congrArg bl hbk.2.1
      simpa [bl_st] using this
    rw [er, shape15, ev, ep, e1, e3, ← ht.1, hxn]
    rfl
  · have hxn := hx 16 h
    have hb0 : byteAt (st (x :: t)) 0 = 16 := by rw [hb0]; exact h
    clear hx R4
    have hr' : valOk (st (x :: t)) 5 16 (at_ (st (x :: t)) 3) = true := by simpa [readOk, hb0] using hr
    have hs5 : 5 ≤ t.length := by
      have h := hr'
      rw [valOk, Bool.and_eq_true, valOk0, Bool.and_eq_true, Bool.and_eq_true, decide_eq_true_eq, st_size] at h
      have := h.1.1.1
      simp at this
      omega
    obtain ⟨b1, b2, b3, b4, b5, v, rfl⟩ := take5 t hs5
    have e1 := two_mid [x] b1 b2 (b3 :: b4 :: b5 :: v) 1 rfl
    have e3 := two_mid [x, b1, b2] b3 b4 (b5 :: v) 3 rfl
    have ht : b5 = UInt8.ofNat v.length ∧ sub (st (x :: b1 :: b2 :: b3 :: b4 :: b5 :: v)) (5 + 1) = st v ∧ valOk0 (st (x :: b1 :: b2 :: b3 :: b4 :: b5 :: v)) 5 (at_ (st (x :: b1 :: b2 :: b3 :: b4 :: b5 :: v)) 3) = true := valOk_tail (p := [x, b1, b2, b3, b4]) (b := b5) (v := v) (bl_st _) rfl hr'
    simp only [List.cons_append, List.nil_append] at e1 e3
    generalize hS : st (x :: b1 :: b2 :: b3 :: b4 :: b5 :: v) = S at *
    have er : read S = ⟨16, 0, 0, at_ S 1, at_ S 3, vals S 5 16 (at_ S 3)⟩ := by simp [read, hb0]
    have hv : Tw.evenB (st v) = true := by
      rw [valOk, ht.2.1, Bool.and_eq_true] at hr'
      simpa using hr'.2
    have ev : vals S 5 16 (at_ S 3) = Tw.getAll (st v) := by rw [vals, ht.2.2, ht.2.1]; rfl
    have hbk := Tw.back2 (st v) hv
    have ep : Tw.bytes (Tw.getAll (st v)) = v := by
      have := congrArg bl hbk.1
      rw [Tw.put, hbk.2] at this
      simpa [bl_st] using this
    rw [er, shape16, ev, ep, e1, e3, ← ht.1, hxn]
    rfl
  · have hxn := hx 22 h
    have hb0 : byteAt (st (x :: t)) 0 = 22 := by rw [hb0]; exact h
    clear hx R4
    have hr' : (st (x :: t)).size = 7 := by simpa [readOk, hb0] using hr
    obtain ⟨b1, b2, b3, b4, t', rfl⟩ := take4 t (by rw [st_size] at hr'; simp only [List.length_cons] at hr'; omega)
    obtain ⟨b5, t'', rfl⟩ := list_cons t' (by rw [st_size] at hr'; simp only [List.length_cons] at hr'; omega)
    obtain ⟨b6, t3, rfl⟩ := list_cons t'' (by rw [st_size] at hr'; simp only [List.length_cons] at hr'; omega)
    obtain rfl : t3 = [] := List.eq_nil_of_length_eq_zero (by rw [st_size] at hr'; simp only [List.length_cons] at hr'; omega)
    have e1 := two_mid [x] b1 b2 [b3, b4, b5, b6] 1 rfl
    have e3 := two_mid [x, b1, b2] b3 b4 [b5, b6] 3 rfl
    have e5 := two_mid [x, b1, b2, b3, b4] b5 b6 [] 5 rfl
    simp only [List.cons_append, List.nil_append] at e1 e3 e5
    generalize hS : st [x, b1, b2, b3, b4, b5, b6] = S at *
    have er : read S = ⟨22, 0, 0, at_ S 1, 1, [at_ S 3, at_ S 5]⟩ := by simp [read, hb0]
    rw [er, shape22, e1, e3, e5, hxn]
    rfl
  · have hxn := hx 23 h
    have hb0 : byteAt (st (x :: t)) 0 = 23 := by rw [hb0]; exact h
    clear hx R4
    have hr' : valOk (st (x :: t)) 9 23 (at_ (st (x :: t)) 7) = true := by simpa [readOk, hb0] using hr
    have hs5 : 9 ≤ t.length := by
      have h := hr'
      rw [valOk, Bool.and_eq_true, valOk0, Bool.and_eq_true, Bool.and_eq_true, decide_eq_true_eq, st_size] at h
      have := h.1.1.1
      simp at this
      omega
    obtain ⟨b1, b2, b3, b4, t4, rfl⟩ := take4 t (by omega)
    obtain ⟨b5, b6, b7, b8, b9, v, rfl⟩ := take5 t4 (by simp at hs5; omega)
    have e1 := two_mid [x] b1 b2 (b3 :: b4 :: b5 :: b6 :: b7 :: b8 :: b9 :: v) 1 rfl
    have e3 := two_mid [x, b1, b2] b3 b4 (b5 :: b6 :: b7 :: b8 :: b9 :: v) 3 rfl
    have e5 := two_mid [x, b1, b2, b3, b4] b5 b6 (b7 :: b8 :: b9 :: v) 5 rfl
    have e7 := two_mid [x, b1, b2, b3, b4, b5, b6] b7 b8 (b9 :: v) 7 rfl
    have ht : b9 = UInt8.ofNat v.length ∧ sub (st (x :: b1 :: b2 :: b3 :: b4 :: b5 :: b6 :: b7 :: b8 :: b9 :: v)) (9 + 1) = st v ∧ valOk0 (st (x :: b1 :: b2 :: b3 :: b4 :: b5 :: b6 :: b7 :: b8 :: b9 :: v)) 9 (at_ (st (x :: b1 :: b2 :: b3 :: b4 :: b5 :: b6 :: b7 :: b8 :: b9 :: v)) 7) = true := valOk_tail (p := [x, b1, b2, b3, b4, b5, b6, b7, b8]) (b := b9) (v := v) (bl_st _) rfl hr'
    simp only [List.cons_append, List.nil_append] at e1 e3 e5 e7
    generalize hS : st (x :: b1 :: b2 :: b3 :: b4 :: b5 :: b6 :: b7 :: b8 :: b9 :: v) = S at *
    have er : read S = ⟨23, at_ S 1, at_ S 3, at_ S 5, at_ S 7, vals S 9 23 (at_ S 7)⟩ := by simp [read, hb0]
    have hv : Tw.evenB (st v) = true := by
      rw [valOk, ht.2.1, Bool.and_eq_true] at hr'
      simpa using hr'.2
    have ev : vals S 9 23 (at_ S 7) = Tw.getAll (st v) := by rw [vals, ht.2.2, ht.2.1]; rfl
    have hbk := Tw.back2 (st v) hv
    have ep : Tw.bytes (Tw.getAll (st v)) = v := by
      have := congrArg bl hbk.1
      rw [Tw.put, hbk.2] at this
      simpa [bl_st] using this
    rw [er, shape23, ev, ep, e1, e3, e5, e7, ← ht.1, hxn]
    rfl
/-- What is answered is a request whose bytes these are. -/
theorem get_right {s : ByteArray} (h : err s = 0) : right (get s) = true ∧ st (put (get s)) = s ∧ s.size ≤ 253 := by
  have e : get s = read s := by rw [get, if_pos h]
  rw [e]
  unfold err at h
  split at h
  · omega
  · split at h
    · omega
    · split at h
      · omega
      · rename_i h1 h2 h3
        have hb : begins s = true := by simpa using h1
        have h2' : readOk s = true ∧ formed (read s) = true := by simpa using h2
        have hr : right (read s) = true := by simpa using h3
        have hbk := back2 hb h2'.1 h2'.2
        have hp : put (read s) = bl s := by rw [put, hr]; exact hbk
        refine ⟨hr, by rw [hp, st_bl], ?_⟩
        have := len_le h2'.2
        rw [hbk, bl_length] at this
        exact this
/-- How many bytes there must be hangs on the bytes up to a place. -/
theorem readOk_len {s : ByteArray} (h : readOk s = true) :
    ((byteAt s 0 = 1 ∨ byteAt s 0 = 2 ∨ byteAt s 0 = 3 ∨ byteAt s 0 = 4 ∨ byteAt s 0 = 5 ∨ byteAt s 0 = 6) ∧ (s.size : Int) = 5) ∨
    (byteAt s 0 = 22 ∧ (s.size : Int) = 7) ∨
    ((byteAt s 0 = 15 ∨ byteAt s 0 = 16) ∧ 5 < s.size ∧ (s.size : Int) = 6 + byteAt s 5) ∨
    ((byteAt s 0 ≠ 1 ∧ byteAt s 0 ≠ 2 ∧ byteAt s 0 ≠ 3 ∧ byteAt s 0 ≠ 4 ∧ byteAt s 0 ≠ 5 ∧ byteAt s 0 ≠ 6 ∧ byteAt s 0 ≠ 22 ∧ byteAt s 0 ≠ 15 ∧ byteAt s 0 ≠ 16) ∧ 9 < s.size ∧ (s.size : Int) = 10 + byteAt s 9) := by
  have hv : ∀ (i : Nat) (j : Int) (fc many : Int), j = (i : Int) → valOk s i fc many = true → i < s.size ∧ (s.size : Int) = j + 1 + byteAt s j := fun i j fc many hj h => by
    subst hj
    rw [valOk, Bool.and_eq_true, valOk0, Bool.and_eq_true, Bool.and_eq_true, decide_eq_true_eq, beq_iff_eq] at h
    have := h.1.1
    omega
  unfold readOk at h
  simp only at h
  split at h
  · left
    rw [beq_iff_eq] at h
    omega
  · split at h
    · left
      rw [Bool.and_eq_true, beq_iff_eq] at h
      omega
    · split at h
      · left
        rw [beq_iff_eq] at h
        omega
      · split at h
        · right; left
          rw [beq_iff_eq] at h
          omega
        · split at h
          · right; right; left
            have := hv 5 5 _ _ rfl h
            omega
          · right; right; right
            have := hv 9 9 _ _ rfl h
            omega
theorem byteAt_pre (p q r : List UInt8) (i : Nat) (h : i < p.length) : byteAt (st (p ++ q)) (i : Int) = byteAt (st (p ++ r)) (i : Int) := by
  rw [byteAt, byteAt, bl_st, bl_st, show ((i : Int)).toNat = i from by omega, List.getD_eq_getElem?_getD, List.getD_eq_getElem?_getD, List.getElem?_append_left h, List.getElem?_append_left h]
/-- Two texts that begin alike, both a request's as far as their lengths go, are equally long. -/
theorem same_len (p q r : List UInt8) (hp : 0 < p.length) (hq : readOk (st (p ++ q)) = true) (hr : readOk (st (p ++ r)) = true) (h : q = [] ∨ r = []) : q.length = r.length := by
  have h0 := byteAt_pre p q r 0 hp
  have a := readOk_len hq
  have b := readOk_len hr
  rw [st_size, List.length_append] at a b
  have h5 : 5 < p.length → byteAt (st (p ++ q)) 5 = byteAt (st (p ++ r)) 5 := fun h => byteAt_pre p q r 5 h
  have h9 : 9 < p.length → byteAt (st (p ++ q)) 9 = byteAt (st (p ++ r)) 9 := fun h => byteAt_pre p q r 9 h
  have h0' : byteAt (st (p ++ q)) 0 = byteAt (st (p ++ r)) 0 := h0
  rw [h0'] at a
  have hqr : q.length = 0 ∨ r.length = 0 := by rcases h with rfl | rfl <;> simp
  clear h0 h0' hq hr h
  generalize byteAt (st (p ++ r)) 0 = x at *
  generalize byteAt (st (p ++ q)) 5 = y5 at *
  generalize byteAt (st (p ++ r)) 5 = z5 at *
  generalize byteAt (st (p ++ q)) 9 = y9 at *
  generalize byteAt (st (p ++ r)) 9 = z9 at *
  omega
theorem begins_pre (p q r : List UInt8) (hp : 0 < p.length) : begins (st (p ++ q)) = begins (st (p ++ r)) := by
  have h0 : byteAt (st (p ++ q)) 0 = byteAt (st (p ++ r)) 0 := byteAt_pre p q r 0 hp
  have s1 : decide (0 < (st (p ++ q)).size) = true := by rw [st_size, List.length_append, decide_eq_true_eq]; omega
  have s2 : decide (0 < (st (p ++ r)).size) = true := by rw [st_size, List.length_append, decide_eq_true_eq]; omega
  rw [begins, begins, h0, s1, s2]
/-- A request's bytes, cut off, are none's. -/
theorem err_cut {a : AskP} (h : right a = true) (n : Nat) (hn : 0 < n) (hl : n < (put a).length) : err (st ((put a).take n)) = 4 := by
  have hf := ((right_iff a).1 h).1
  obtain ⟨_, h2, h3, _⟩ := back1 hf
  have e : put a = bytes a := by rw [put, h]; rfl
  rw [← e] at h2 h3
  have ep := List.take_append_drop n (put a)
  rw [← ep] at h2 h3
  have hp : 0 < ((put a).take n).length := by rw [List.length_take]; omega
  have hb := begins_pre ((put a).take n) [] ((put a).drop n) hp
  rw [List.append_nil, h3] at hb
  have hr : readOk (st ((put a).take n)) = false := by
    rw [Bool.eq_false_iff]
    intro hc
    have := same_len ((put a).take n) [] ((put a).drop n) hp (by rw [List.append_nil]; exact hc) h2 (.inl rfl)
    rw [List.length_nil, List.length_drop] at this
    omega
  rw [err, hb, hr]
  rfl
/-- .. and so with a byte more. -/
theorem err_more {a : AskP} (h : right a = true) (m : UInt8) : err (st (put a ++ [m])) = 4 := by
  have hf := ((right_iff a).1 h).1
  obtain ⟨_, h2, h3, h4⟩ := back1 hf
  have e : put a = bytes a := by rw [put, h]; rfl
  rw [← e] at h2 h3 h4
  have hp : 0 < (put a).length := by
    rw [begins, Bool.and_eq_true, decide_eq_true_eq, st_size] at h3
    exact h3.1
  have hb := begins_pre (put a) [m] [] hp
  rw [List.append_nil, h3] at hb
  have hr : readOk (st (put a ++ [m])) = false := by
    rw [Bool.eq_false_iff]
    intro hc
    have := same_len (put a) [m] [] hp hc (by rw [List.append_nil]; exact h2) (.inr rfl)
    simp at this
  rw [err, hb, hr]
  rfl
theorem err_none : err (st []) = 2 := rfl
end Go.Proofs.Ytdgnmoebahaaeaa.Ak
