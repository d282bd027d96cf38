/- Layer 7's reference: each function answers what the plain words of RpA say. Conditions: lengths at most a million. -/
import Derived.Test.YtijnajlijdnbcaaRpA
import Derived.Test.YtijnajlijdnbcaaAskT
import Derived.Test.YtijnajlijdnbcaaStr
import Derived.Deep.RegionHeld3
namespace Go.Proofs.Ytijnajlijdnbcaa.Ref7
set_option linter.unusedVariables false
open Go.ChangeShapes Go.WideShapes Go.ChangeAt Go.RowKit
open Str (toList_eq)
open Ref6 (ret_bool ret_int Boxed ret_sb)

theorem st_take (l : List UInt8) (n : Nat) : (st l).extract 0 n = st (l.take n) := by
  rw [Lib.extract_eq]; rfl
theorem raw_1 (a : AskP) (l : List Int) (hf : a.fc = 1 ∨ a.fc = 2) : Rp.raw a l = UInt8.ofNat a.fc.toNat :: UInt8.ofNat (Co.put l).length :: Co.put l := by
  rw [Rp.raw, if_neg (by omega), if_neg (by omega), Rp.load, if_pos (by omega)]
theorem raw_3 (a : AskP) (l : List Int) (hf : a.fc = 3 ∨ a.fc = 4 ∨ a.fc = 23) : Rp.raw a l = UInt8.ofNat a.fc.toNat :: UInt8.ofNat (Tw.put l).length :: Tw.put l := by
  rw [Rp.raw, if_neg (by omega), if_neg (by omega), Rp.load, if_neg (by omega)]
theorem Boxed.kept {p : Nat} {a : AskP} {A : Option Addr} {n c : Nat} {w w' : World} (h : Boxed p a A n c w) (hk : Keep w w') (hp : p < w.heap.size) : Boxed p a A n c w' := h.below hk hp
set_option maxHeartbeats 400000 in
theorem code_any (n : Int) (w : World) :
    Calls Try.prog 24 #[.int .i64 n] w fun e w' => e = .returned (.bool (Rp.code n)) ∧ w = w' := by
  go_enter Try.func24, Try.ntmps24
  go_wp2
  all_goals (go_ret; refine ⟨ret_bool ?_, rfl⟩; rw [Bool.eq_iff_iff]; simp [Rp.code]; omega)

set_option maxHeartbeats 400000 in
theorem fault_any (fc c : Int) (w : World) :
    Calls Try.prog 22 #[.int .i64 fc, .int .i64 c] w fun e w' => e = .returned (.tuple #[.string (st (Rp.fault fc c)), .bool (Rp.faultOk fc c)]) ∧ Keep w w' := by
  by_cases h1 : fc < 1
  · have e : Rp.faultOk fc c = false := by rw [Rp.faultOk, show decide (1 ≤ fc) = false by simp; omega]; rfl
    rw [Rp.fault_not e, e]
    go_enter Try.func22, Try.ntmps22
    go_wp2
    go_ret2
    exact ⟨rfl, Keep.refl _⟩
  by_cases h2 : 127 < fc
  · have e : Rp.faultOk fc c = false := by rw [Rp.faultOk, show decide (fc ≤ 127) = false by simp; omega]; simp
    rw [Rp.fault_not e, e]
    go_enter Try.func22, Try.ntmps22
    go_wp2
    go_ret2
    exact ⟨rfl, Keep.refl _⟩
  cases hc : Rp.code c
  · have e : Rp.faultOk fc c = false := by rw [Rp.faultOk, hc]; simp
    rw [Rp.fault_not e, e]
    go_enter Try.func22, Try.ntmps22
    go_wp2_with fail
    refine (code_any c _).mono ?_
    rintro e w1 ⟨rfl, rfl⟩
    rw [hc]
    go_wp2
    go_ret2
    exact ⟨rfl, Keep.refl _⟩
  · have e : Rp.faultOk fc c = true := by rw [Rp.faultOk, hc, show decide (1 ≤ fc) = true by simp; omega, show decide (fc ≤ 127) = true by simp; omega]; rfl
    have ef : Rp.fault fc c = [UInt8.ofNat (fc + 128).toNat, UInt8.ofNat c.toNat] := by rw [Rp.fault, e]; rfl
    have hcc := (Rp.code_iff c).1 hc
    have h8 : IntKind.u8.wrap (fc + 128) = fc + 128 := by rw [IntKind.wrap_u8]; omega
    have h9 : IntKind.u8.wrap c = c := by rw [IntKind.wrap_u8]; omega
    have hcv : ∀ w : World, (convert 53 9 (.slice (some ⟨w.heap.size, 0, none⟩) 2 2)).run Try.prog (w.alloc (.cells #[.int .u8 (fc + 128), .int .u8 c] 5)) = .ok (.string (st [UInt8.ofNat (fc + 128).toNat, UInt8.ofNat c.toNat])) (w.alloc (.cells #[.int .u8 (fc + 128), .int .u8 c] 5)) :=
      fun w => conv_new Try.underlying53 Try.underlying5 Try.underlying9 _ 2 [UInt8.ofNat (fc + 128).toNat, UInt8.ofNat c.toNat] (by simp only [List.map_cons, List.map_nil, bv]; rw [Ak.ofNat_int (fc + 128) (by omega) (by omega), Ak.ofNat_int c (by omega) (by omega)]) rfl
    rw [ef, e]
    have HC := Lib.hid hc
    clear e ef hcc hc
    go_enter Try.func22, Try.ntmps22
    go_wp2_with fail
    refine (code_any c _).mono ?_
    rintro e w1 ⟨rfl, rfl⟩
    rw [HC.out]
    go_wp2
    go_ret2
    exact ⟨rfl, (Keep.refl w).alloc _⟩

set_option maxHeartbeats 1000000 in
theorem make_not (A D : Option Addr) (n c m d : Nat) (a : AskP) (l : List Int) (w : World) (hn : n ≤ 1000000) (hm : m ≤ 1000000) (hA : Ints .i64 w w.heap.size A n a.vs) (hD : Ints .i64 w w.heap.size D m l) (h : Ak.right a = false ∨ (Ak.right a = true ∧ (l.length : Int) ≠ a.ct)) :
    Calls Try.prog 33 #[.agg #[.int .i64 a.fc, .int .i64 a.rd, .int .i64 a.ct, .int .i64 a.wr, .int .i64 a.mn, .slice A n c], .slice D m d] w fun e w' => e = .returned (.tuple #[.string (st []), .bool false]) ∧ Keep w w' := by
  have hbx := Boxed.new w a A n c 33
  have k0 := (Keep.refl w).alloc (.cells #[.int .i64 a.fc, .int .i64 a.rd, .int .i64 a.ct, .int .i64 a.wr, .int .i64 a.mn, .slice A n c] 33)
  have hlt0 : w.heap.size < (w.alloc (.cells #[.int .i64 a.fc, .int .i64 a.rd, .int .i64 a.ct, .int .i64 a.wr, .int .i64 a.mn, .slice A n c] 33)).heap.size := by simp
  rcases h with hr | ⟨hr, hl⟩
  · go_enter Try.func33, Try.ntmps33
    go_wp2_with fail
    refine (Ref6.right_any A n c a _ hn (hA.kept k0)).mono ?_
    rintro e w1 ⟨rfl, hK⟩
    rw [hr]
    have hbx := hbx.below hK hlt0
    have hlt : w.heap.size < w1.heap.size := Nat.lt_of_lt_of_le hlt0 hK.size
    replace k0 := k0.trans hK
    clear hK hlt0
    have HX := Lib.hid hbx
    obtain ⟨c0, c1, c2, c3, c4, c5⟩ := hbx
    go_wp2
    go_ret2
    exact ⟨rfl, k0⟩
  · have hml : ((m : Int) != a.ct) = true := by rw [← hD.1]; simpa using hl
    go_enter Try.func33, Try.ntmps33
    go_wp2_with fail
    refine (Ref6.right_any A n c a _ hn (hA.kept k0)).mono ?_
    rintro e w1 ⟨rfl, hK⟩
    rw [hr]
    have hbx := hbx.below hK hlt0
    have hlt : w.heap.size < w1.heap.size := Nat.lt_of_lt_of_le hlt0 hK.size
    replace k0 := k0.trans hK
    clear hK hlt0
    have HX := Lib.hid hbx
    obtain ⟨c0, c1, c2, c3, c4, c5⟩ := hbx
    go_wp2
    go_ret2
    exact ⟨rfl, k0⟩

set_option maxHeartbeats 2000000 in
theorem make_bits (A D : Option Addr) (n c m d : Nat) (a : AskP) (l : List Int) (w : World) (hn : n ≤ 1000000) (hm : m ≤ 1000000) (hA : Ints .i64 w w.heap.size A n a.vs) (hD : Ints .i64 w w.heap.size D m l) (hr : Ak.right a = true) (hml : ((m : Int) != a.ct) = false) (hf : a.fc = 1 ∨ a.fc = 2) (ok : Bool) (hok : ok = Co.allBits l) (q : List UInt8) (hq : (if ok then UInt8.ofNat a.fc.toNat :: UInt8.ofNat (Co.put l).length :: Co.put l else []) = q) :
    Calls Try.prog 33 #[.agg #[.int .i64 a.fc, .int .i64 a.rd, .int .i64 a.ct, .int .i64 a.wr, .int .i64 a.mn, .slice A n c], .slice D m d] w fun e w' => e = .returned (.tuple #[.string (st q), .bool ok]) ∧ Keep w w' := by
  have hbx := Boxed.new w a A n c 33
  have k0 := (Keep.refl w).alloc (.cells #[.int .i64 a.fc, .int .i64 a.rd, .int .i64 a.ct, .int .i64 a.wr, .int .i64 a.mn, .slice A n c] 33)
  have hlt0 : w.heap.size < (w.alloc (.cells #[.int .i64 a.fc, .int .i64 a.rd, .int .i64 a.ct, .int .i64 a.wr, .int .i64 a.mn, .slice A n c] 33)).heap.size := by simp
  have e5 : (a.fc == 5) = false := by simp; omega
  have e6 : (a.fc == 6) = false := by simp; omega
  have e22 : (a.fc == 22) = false := by simp; omega
  have e15 : (a.fc == 15) = false := by simp; omega
  have e16 : (a.fc == 16) = false := by simp; omega
  have e2 : decide (a.fc ≤ 2) = true := by simp; omega
  have hct : (m : Int) = a.ct := by simpa using hml
  have hr0 := Rp.reads_cases hr
  have hm2 : m ≤ 2000 := by omega
  obtain ⟨p, hp⟩ : ∃ p, p = Co.put l := ⟨_, rfl⟩
  have hlen : p.length ≤ 250 := by
    rw [hp, Co.put]
    split
    · rw [Co.bytes_len, hD.1]; unfold Co.nsize; omega
    · simp
  have hsz : (st p).size = p.length := st_size p
  obtain ⟨b0, hb0⟩ : ∃ b, b = UInt8.ofNat a.fc.toNat := ⟨_, rfl⟩
  obtain ⟨b1, hb1⟩ : ∃ b, b = UInt8.ofNat p.length := ⟨_, rfl⟩
  have h8 : IntKind.u8.wrap a.fc = a.fc := by rw [IntKind.wrap_u8]; omega
  have h9 : IntKind.u8.wrap (p.length : Int) = (p.length : Int) := by rw [IntKind.wrap_u8]; omega
  have hcv : ∀ w : World, (convert 53 9 (.slice (some ⟨w.heap.size, 0, none⟩) 2 2)).run Try.prog (w.alloc (.cells #[.int .u8 a.fc, .int .u8 (p.length : Int)] 5)) = .ok (.string (st [b0, b1])) (w.alloc (.cells #[.int .u8 a.fc, .int .u8 (p.length : Int)] 5)) :=
    fun w => conv_new Try.underlying53 Try.underlying5 Try.underlying9 _ 2 [b0, b1] (by simp only [List.map_cons, List.map_nil, bv, hb0, hb1]; rw [Ak.ofNat_int a.fc (by omega) (by omega), Ak.ofNat8 _ (by omega)]) rfl
  have a1 := add_st (P := Try.prog) [b0, b1] p (by simp; omega)
  have HP := Lib.hid hp
  have HQ := Lib.hid (show (if ok then b0 :: b1 :: p else []) = q by rw [hb0, hb1, hp]; exact hq)
  have HOK := Lib.hid hok
  clear hp hb0 hb1 hr0 hct hf hq hok
  go_enter Try.func33, Try.ntmps33
  go_wp2_with fail
  refine (Ref6.right_any A n c a _ hn (hA.kept k0)).mono ?_
  rintro e w1 ⟨rfl, hK⟩
  rw [hr]
  have hbx := hbx.below hK hlt0
  have hlt : w.heap.size < w1.heap.size := Nat.lt_of_lt_of_le hlt0 hK.size
  replace k0 := k0.trans hK
  clear hK hlt0
  have HX := Lib.hid hbx
  obtain ⟨c0, c1, c2, c3, c4, c5⟩ := hbx
  go_wp2_with fail
  refine (Ref6.put_any A n c a _ hn (hA.kept k0)).mono ?_
  rintro e w2 ⟨rfl, hK2⟩
  have hbx := Boxed.kept HX.out hK2 hlt
  have hlt : w.heap.size < w2.heap.size := Nat.lt_of_lt_of_le hlt hK2.size
  replace k0 := k0.trans hK2
  clear hK2 c0 c1 c2 c3 c4 c5 HX
  have HX := Lib.hid hbx
  obtain ⟨c0, c1, c2, c3, c4, c5⟩ := hbx
  go_wp2_with fail
  refine (Ref1.putAll_any D m d l _ hm (hD.kept k0)).mono ?_
  rintro e w3 ⟨rfl, hK3⟩
  replace hK3 : Keep w2 w3 := hK3
  have hbx := Boxed.kept HX.out hK3 hlt
  have hlt : w.heap.size < w3.heap.size := Nat.lt_of_lt_of_le hlt hK3.size
  replace k0 := k0.trans hK3
  clear hK3 c0 c1 c2 c3 c4 c5 HX
  have HX := Lib.hid hbx
  obtain ⟨c0, c1, c2, c3, c4, c5⟩ := hbx
  go_wp2_with fail
  refine (Ref5.put_any D m d l _ hm (hD.kept k0)).mono ?_
  rintro e w4 ⟨rfl, hK4⟩
  replace hK4 : Keep w3 w4 := hK4
  have hbx := Boxed.kept HX.out hK4 hlt
  have hlt : w.heap.size < w4.heap.size := Nat.lt_of_lt_of_le hlt hK4.size
  replace k0 := k0.trans hK4
  clear hK4 c0 c1 c2 c3 c4 c5 HX
  have HX := Lib.hid hbx
  obtain ⟨c0, c1, c2, c3, c4, c5⟩ := hbx
  rw [← HP.out]
  rw [← HOK.out]
  cases ok
  · go_wp2
    go_ret2
    exact ⟨by rw [← HQ.out]; rfl, k0⟩
  · go_wp2
    go_ret2
    exact ⟨by rw [← HQ.out]; rfl, k0.alloc _⟩

set_option maxHeartbeats 2000000 in
theorem make_words (A D : Option Addr) (n c m d : Nat) (a : AskP) (l : List Int) (w : World) (hn : n ≤ 1000000) (hm : m ≤ 1000000) (hA : Ints .i64 w w.heap.size A n a.vs) (hD : Ints .i64 w w.heap.size D m l) (hr : Ak.right a = true) (hml : ((m : Int) != a.ct) = false) (hf : a.fc = 3 ∨ a.fc = 4 ∨ a.fc = 23) (ok : Bool) (hok : ok = Tw.allIn l) (q : List UInt8) (hq : (if ok then UInt8.ofNat a.fc.toNat :: UInt8.ofNat (Tw.put l).length :: Tw.put l else []) = q) :
    Calls Try.prog 33 #[.agg #[.int .i64 a.fc, .int .i64 a.rd, .int .i64 a.ct, .int .i64 a.wr, .int .i64 a.mn, .slice A n c], .slice D m d] w fun e w' => e = .returned (.tuple #[.string (st q), .bool ok]) ∧ Keep w w' := by
  have hbx := Boxed.new w a A n c 33
  have k0 := (Keep.refl w).alloc (.cells #[.int .i64 a.fc, .int .i64 a.rd, .int .i64 a.ct, .int .i64 a.wr, .int .i64 a.mn, .slice A n c] 33)
  have hlt0 : w.heap.size < (w.alloc (.cells #[.int .i64 a.fc, .int .i64 a.rd, .int .i64 a.ct, .int .i64 a.wr, .int .i64 a.mn, .slice A n c] 33)).heap.size := by simp
  have e5 : (a.fc == 5) = false := by simp; omega
  have e6 : (a.fc == 6) = false := by simp; omega
  have e22 : (a.fc == 22) = false := by simp; omega
  have e15 : (a.fc == 15) = false := by simp; omega
  have e16 : (a.fc == 16) = false := by simp; omega
  have e2 : decide (a.fc ≤ 2) = false := by simp; omega
  have hct : (m : Int) = a.ct := by simpa using hml
  have hr0 := Rp.reads_cases hr
  have hm2 : m ≤ 125 := by omega
  obtain ⟨p, hp⟩ : ∃ p, p = Tw.put l := ⟨_, rfl⟩
  have hlen : p.length ≤ 250 := by
    rw [hp, Tw.put]
    split
    · rw [Tw.bytes_len, hD.1]; omega
    · simp
  have hsz : (st p).size = p.length := st_size p
  obtain ⟨b0, hb0⟩ : ∃ b, b = UInt8.ofNat a.fc.toNat := ⟨_, rfl⟩
  obtain ⟨b1, hb1⟩ : ∃ b, b = UInt8.ofNat p.length := ⟨_, rfl⟩
  have h8 : IntKind.u8.wrap a.fc = a.fc := by rw [IntKind.wrap_u8]; omega
  have h9 : IntKind.u8.wrap (p.length : Int) = (p.length : Int) := by rw [IntKind.wrap_u8]; omega
  have hcv : ∀ w : World, (convert 53 9 (.slice (some ⟨w.heap.size, 0, none⟩) 2 2)).run Try.prog (w.alloc (.cells #[.int .u8 a.fc, .int .u8 (p.length : Int)] 5)) = .ok (.string (st [b0, b1])) (w.alloc (.cells #[.int .u8 a.fc, .int .u8 (p.length : Int)] 5)) :=
    fun w => conv_new Try.underlying53 Try.underlying5 Try.underlying9 _ 2 [b0, b1] (by simp only [List.map_cons, List.map_nil, bv, hb0, hb1]; rw [Ak.ofNat_int a.fc (by omega) (by omega), Ak.ofNat8 _ (by omega)]) rfl
  have a1 := add_st (P := Try.prog) [b0, b1] p (by simp; omega)
  have HP := Lib.hid hp
  have HQ := Lib.hid (show (if ok then b0 :: b1 :: p else []) = q by rw [hb0, hb1, hp]; exact hq)
  have HOK := Lib.hid hok
  clear hp hb0 hb1 hr0 hct hf hq hok
  go_enter Try.func33, Try.ntmps33
  go_wp2_with fail
  refine (Ref6.right_any A n c a _ hn (hA.kept k0)).mono ?_
  rintro e w1 ⟨rfl, hK⟩
  rw [hr]
  have hbx := hbx.below hK hlt0
  have hlt : w.heap.size < w1.heap.size := Nat.lt_of_lt_of_le hlt0 hK.size
  replace k0 := k0.trans hK
  clear hK hlt0
  have HX := Lib.hid hbx
  obtain ⟨c0, c1, c2, c3, c4, c5⟩ := hbx
  go_wp2_with fail
  refine (Ref6.put_any A n c a _ hn (hA.kept k0)).mono ?_
  rintro e w2 ⟨rfl, hK2⟩
  have hbx := Boxed.kept HX.out hK2 hlt
  have hlt : w.heap.size < w2.heap.size := Nat.lt_of_lt_of_le hlt hK2.size
  replace k0 := k0.trans hK2
  clear hK2 c0 c1 c2 c3 c4 c5 HX
  have HX := Lib.hid hbx
  obtain ⟨c0, c1, c2, c3, c4, c5⟩ := hbx
  go_wp2_with fail
  refine (Ref1.putAll_any D m d l _ hm (hD.kept k0)).mono ?_
  rintro e w3 ⟨rfl, hK3⟩
  replace hK3 : Keep w2 w3 := hK3
  have hbx := Boxed.kept HX.out hK3 hlt
  have hlt : w.heap.size < w3.heap.size := Nat.lt_of_lt_of_le hlt hK3.size
  replace k0 := k0.trans hK3
  clear hK3 c0 c1 c2 c3 c4 c5 HX
  have HX := Lib.hid hbx
  obtain ⟨c0, c1, c2, c3, c4, c5⟩ := hbx
  rw [← HP.out]
  rw [← HOK.out]
  cases ok
  · go_wp2
    go_ret2
    exact ⟨by rw [← HQ.out]; rfl, k0⟩
  · go_wp2
    go_ret2
    exact ⟨by rw [← HQ.out]; rfl, k0.alloc _⟩

set_option maxHeartbeats 2000000 in
theorem make_same (A D : Option Addr) (n c m d : Nat) (a : AskP) (l : List Int) (w : World) (hn : n ≤ 1000000) (hm : m ≤ 1000000) (hA : Ints .i64 w w.heap.size A n a.vs) (hD : Ints .i64 w w.heap.size D m l) (hr : Ak.right a = true) (hml : ((m : Int) != a.ct) = false) (hf : a.fc = 5 ∨ a.fc = 6 ∨ a.fc = 22) :
    Calls Try.prog 33 #[.agg #[.int .i64 a.fc, .int .i64 a.rd, .int .i64 a.ct, .int .i64 a.wr, .int .i64 a.mn, .slice A n c], .slice D m d] w fun e w' => e = .returned (.tuple #[.string (st (Ak.bytes a)), .bool true]) ∧ Keep w w' := by
  have hbx := Boxed.new w a A n c 33
  have k0 := (Keep.refl w).alloc (.cells #[.int .i64 a.fc, .int .i64 a.rd, .int .i64 a.ct, .int .i64 a.wr, .int .i64 a.mn, .slice A n c] 33)
  have hlt0 : w.heap.size < (w.alloc (.cells #[.int .i64 a.fc, .int .i64 a.rd, .int .i64 a.ct, .int .i64 a.wr, .int .i64 a.mn, .slice A n c] 33)).heap.size := by simp
  have HP := Lib.hid (show Ak.put a = Ak.bytes a by rw [Ak.put, hr]; rfl)
  rcases hf with e | e | e
  · skip
    have e5 : (a.fc == 5) = true := by rw [e]; decide
    clear e
    go_enter Try.func33, Try.ntmps33
    go_wp2_with fail
    refine (Ref6.right_any A n c a _ hn (hA.kept k0)).mono ?_
    rintro e w1 ⟨rfl, hK⟩
    rw [hr]
    have hbx := hbx.below hK hlt0
    have hlt : w.heap.size < w1.heap.size := Nat.lt_of_lt_of_le hlt0 hK.size
    replace k0 := k0.trans hK
    clear hK hlt0
    have HX := Lib.hid hbx
    obtain ⟨c0, c1, c2, c3, c4, c5⟩ := hbx
    go_wp2_with fail
    refine (Ref6.put_any A n c a _ hn (hA.kept k0)).mono ?_
    rintro e w2 ⟨rfl, hK2⟩
    have hbx := Boxed.kept HX.out hK2 hlt
    have hlt : w.heap.size < w2.heap.size := Nat.lt_of_lt_of_le hlt hK2.size
    replace k0 := k0.trans hK2
    clear hK2 c0 c1 c2 c3 c4 c5 HX
    have HX := Lib.hid hbx
    obtain ⟨c0, c1, c2, c3, c4, c5⟩ := hbx
    rw [HP.out]
    go_wp2
    go_ret2
    exact ⟨rfl, k0⟩
  · skip
    have e5 : (a.fc == 5) = false := by rw [e]; decide
    have e6 : (a.fc == 6) = true := by rw [e]; decide
    clear e
    go_enter Try.func33, Try.ntmps33
    go_wp2_with fail
    refine (Ref6.right_any A n c a _ hn (hA.kept k0)).mono ?_
    rintro e w1 ⟨rfl, hK⟩
    rw [hr]
    have hbx := hbx.below hK hlt0
    have hlt : w.heap.size < w1.heap.size := Nat.lt_of_lt_of_le hlt0 hK.size
    replace k0 := k0.trans hK
    clear hK hlt0
    have HX := Lib.hid hbx
    obtain ⟨c0, c1, c2, c3, c4, c5⟩ := hbx
    go_wp2_with fail
    refine (Ref6.put_any A n c a _ hn (hA.kept k0)).mono ?_
    rintro e w2 ⟨rfl, hK2⟩
    have hbx := Boxed.kept HX.out hK2 hlt
    have hlt : w.heap.size < w2.heap.size := Nat.lt_of_lt_of_le hlt hK2.size
    replace k0 := k0.trans hK2
    clear hK2 c0 c1 c2 c3 c4 c5 HX
    have HX := Lib.hid hbx
    obtain ⟨c0, c1, c2, c3, c4, c5⟩ := hbx
    rw [HP.out]
    go_wp2
    go_ret2
    exact ⟨rfl, k0⟩
  · skip
    have e5 : (a.fc == 5) = false := by rw [e]; decide
    have e6 : (a.fc == 6) = false := by rw [e]; decide
    have e22 : (a.fc == 22) = true := by rw [e]; decide
    clear e
    go_enter Try.func33, Try.ntmps33
    go_wp2_with fail
    refine (Ref6.right_any A n c a _ hn (hA.kept k0)).mono ?_
    rintro e w1 ⟨rfl, hK⟩
    rw [hr]
    have hbx := hbx.below hK hlt0
    have hlt : w.heap.size < w1.heap.size := Nat.lt_of_lt_of_le hlt0 hK.size
    replace k0 := k0.trans hK
    clear hK hlt0
    have HX := Lib.hid hbx
    obtain ⟨c0, c1, c2, c3, c4, c5⟩ := hbx
    go_wp2_with fail
    refine (Ref6.put_any A n c a _ hn (hA.kept k0)).mono ?_
    rintro e w2 ⟨rfl, hK2⟩
    have hbx := Boxed.kept HX.out hK2 hlt
    have hlt : w.heap.size < w2.heap.size := Nat.lt_of_lt_of_le hlt hK2.size
    replace k0 := k0.trans hK2
    clear hK2 c0 c1 c2 c3 c4 c5 HX
    have HX := Lib.hid hbx
    obtain ⟨c0, c1, c2, c3, c4, c5⟩ := hbx
    rw [HP.out]
    go_wp2
    go_ret2
    exact ⟨rfl, k0⟩

set_option maxHeartbeats 2000000 in
theorem make_five (A D : Option Addr) (n c m d : Nat) (a : AskP) (l : List Int) (w : World) (hn : n ≤ 1000000) (hm : m ≤ 1000000) (hA : Ints .i64 w w.heap.size A n a.vs) (hD : Ints .i64 w w.heap.size D m l) (hr : Ak.right a = true) (hml : ((m : Int) != a.ct) = false) (hf : a.fc = 15 ∨ a.fc = 16) :
    Calls Try.prog 33 #[.agg #[.int .i64 a.fc, .int .i64 a.rd, .int .i64 a.ct, .int .i64 a.wr, .int .i64 a.mn, .slice A n c], .slice D m d] w fun e w' => e = .returned (.tuple #[.string (st ((Ak.bytes a).take 5)), .bool true]) ∧ Keep w w' := by
  have hbx := Boxed.new w a A n c 33
  have k0 := (Keep.refl w).alloc (.cells #[.int .i64 a.fc, .int .i64 a.rd, .int .i64 a.ct, .int .i64 a.wr, .int .i64 a.mn, .slice A n c] 33)
  have hlt0 : w.heap.size < (w.alloc (.cells #[.int .i64 a.fc, .int .i64 a.rd, .int .i64 a.ct, .int .i64 a.wr, .int .i64 a.mn, .slice A n c] 33)).heap.size := by simp
  obtain ⟨q, hq⟩ : ∃ q, q = st (Ak.put a) := ⟨_, rfl⟩
  have hpb : Ak.put a = Ak.bytes a := by rw [Ak.put, hr]; rfl
  have h5 : 5 ≤ q.size := by
    rw [hq, st_size, hpb]
    have hb := (Ak.back1 ((Ak.right_iff a).1 hr).1).2.2.2
    have hmn := ((Ak.formed_iff a).1 ((Ak.right_iff a).1 hr).1).2.2.2.2.2.2.1.1
    unfold Ak.sizeOf at hb
    rcases hf with e | e <;> rw [e] at hb <;> simp at hb <;> omega
  have HT := Lib.hid (show q.extract 0 5 = st ((Ak.bytes a).take 5) by rw [hq, hpb, st_take])
  have HQ := Lib.hid hq
  clear hq hpb
  rcases hf with e | e
  · skip
    have e5 : (a.fc == 5) = false := by rw [e]; decide
    have e6 : (a.fc == 6) = false := by rw [e]; decide
    have e22 : (a.fc == 22) = false := by rw [e]; decide
    have e15 : (a.fc == 15) = true := by rw [e]; decide
    clear e
    go_enter Try.func33, Try.ntmps33
    go_wp2_with fail
    refine (Ref6.right_any A n c a _ hn (hA.kept k0)).mono ?_
    rintro e w1 ⟨rfl, hK⟩
    rw [hr]
    have hbx := hbx.below hK hlt0
    have hlt : w.heap.size < w1.heap.size := Nat.lt_of_lt_of_le hlt0 hK.size
    replace k0 := k0.trans hK
    clear hK hlt0
    have HX := Lib.hid hbx
    obtain ⟨c0, c1, c2, c3, c4, c5⟩ := hbx
    go_wp2_with fail
    refine (Ref6.put_any A n c a _ hn (hA.kept k0)).mono ?_
    rintro e w2 ⟨rfl, hK2⟩
    have hbx := Boxed.kept HX.out hK2 hlt
    have hlt : w.heap.size < w2.heap.size := Nat.lt_of_lt_of_le hlt hK2.size
    replace k0 := k0.trans hK2
    clear hK2 c0 c1 c2 c3 c4 c5 HX
    have HX := Lib.hid hbx
    obtain ⟨c0, c1, c2, c3, c4, c5⟩ := hbx
    rw [← HQ.out]
    go_wp2
    go_ret2
    exact ⟨by rw [HT.out]; rfl, k0⟩
  · skip
    have e5 : (a.fc == 5) = false := by rw [e]; decide
    have e6 : (a.fc == 6) = false := by rw [e]; decide
    have e22 : (a.fc == 22) = false := by rw [e]; decide
    have e15 : (a.fc == 15) = false := by rw [e]; decide
    have e16 : (a.fc == 16) = true := by rw [e]; decide
    clear e
    go_enter Try.func33, Try.ntmps33
    go_wp2_with fail
    refine (Ref6.right_any A n c a _ hn (hA.kept k0)).mono ?_
    rintro e w1 ⟨rfl, hK⟩
    rw [hr]
    have hbx := hbx.below hK hlt0
    have hlt : w.heap.size < w1.heap.size := Nat.lt_of_lt_of_le hlt0 hK.size
    replace k0 := k0.trans hK
    clear hK hlt0
    have HX := Lib.hid hbx
    obtain ⟨c0, c1, c2, c3, c4, c5⟩ := hbx
    go_wp2_with fail
    refine (Ref6.put_any A n c a _ hn (hA.kept k0)).mono ?_
    rintro e w2 ⟨rfl, hK2⟩
    have hbx := Boxed.kept HX.out hK2 hlt
    have hlt : w.heap.size < w2.heap.size := Nat.lt_of_lt_of_le hlt hK2.size
    replace k0 := k0.trans hK2
    clear hK2 c0 c1 c2 c3 c4 c5 HX
    have HX := Lib.hid hbx
    obtain ⟨c0, c1, c2, c3, c4, c5⟩ := hbx
    rw [← HQ.out]
    go_wp2
    go_ret2
    exact ⟨by rw [HT.out]; rfl, k0⟩

theorem make_any (A D : Option Addr) (n c m d : Nat) (a : AskP) (l : List Int) (w : World) (hn : n ≤ 1000000) (hm : m ≤ 1000000) (hA : Ints .i64 w w.heap.size A n a.vs) (hD : Ints .i64 w w.heap.size D m l) :
    Calls Try.prog 33 #[.agg #[.int .i64 a.fc, .int .i64 a.rd, .int .i64 a.ct, .int .i64 a.wr, .int .i64 a.mn, .slice A n c], .slice D m d] w fun e w' => e = .returned (.tuple #[.string (st (Rp.make a l)), .bool (Rp.ok a l)]) ∧ Keep w w' := by
  have hfalse : (Ak.right a = false ∨ (Ak.right a = true ∧ (l.length : Int) ≠ a.ct)) → Rp.ok a l = false := fun h => by
    rcases h with h | ⟨_, h⟩
    · rw [Rp.ok, h]; rfl
    · rw [Rp.ok, show ((l.length : Int) == a.ct) = false by simpa using h]; simp
  cases hr : Ak.right a
  · have e := hfalse (.inl hr)
    rw [Rp.make_not e, e]
    exact make_not A D n c m d a l w hn hm hA hD (.inl hr)
  · by_cases hl : (l.length : Int) = a.ct
    · have hml : ((m : Int) != a.ct) = false := by rw [← hD.1]; simpa using hl
      have hok : Rp.ok a l = Rp.dataOk a.fc l := by rw [Rp.ok, hr, show ((l.length : Int) == a.ct) = true by simpa using hl]; rfl
      have htrue : Rp.dataOk a.fc l = true → Rp.make a l = Rp.raw a l := fun h => Rp.make_ok (by rw [hok, h])
      have hnot : Rp.dataOk a.fc l = false → Rp.make a l = [] := fun h => Rp.make_not (by rw [hok, h])
      rcases Rp.reads_cases hr with ⟨hf, _⟩ | ⟨hf, _⟩ | ⟨hf, h0⟩ | ⟨hf, h0⟩
      · have hd : Rp.dataOk a.fc l = Co.allBits l := by rw [Rp.dataOk, if_pos (by omega)]
        have h := make_bits A D n c m d a l w hn hm hA hD hr hml hf _ rfl _ rfl
        rw [hok, hd]
        have e : (if Co.allBits l then UInt8.ofNat a.fc.toNat :: UInt8.ofNat (Co.put l).length :: Co.put l else []) = Rp.make a l := by
          cases hb : Co.allBits l
          · rw [hnot (by rw [hd, hb])]; rfl
          · rw [htrue (by rw [hd, hb]), raw_1 a l hf]; rfl
        rwa [e] at h
      · have hd : Rp.dataOk a.fc l = Tw.allIn l := by rw [Rp.dataOk, if_neg (by omega)]
        have h := make_words A D n c m d a l w hn hm hA hD hr hml hf _ rfl _ rfl
        rw [hok, hd]
        have e : (if Tw.allIn l then UInt8.ofNat a.fc.toNat :: UInt8.ofNat (Tw.put l).length :: Tw.put l else []) = Rp.make a l := by
          cases hb : Tw.allIn l
          · rw [hnot (by rw [hd, hb])]; rfl
          · rw [htrue (by rw [hd, hb]), raw_3 a l hf]; rfl
        rwa [e] at h
      · obtain rfl : l = [] := List.eq_nil_of_length_eq_zero (by omega)
        have hd : Rp.dataOk a.fc [] = true := by rw [Rp.dataOk, if_neg (by omega)]; rfl
        rw [hok, hd, htrue hd, Rp.raw, if_pos hf]
        exact make_same A D n c m d a [] w hn hm hA hD hr hml hf
      · obtain rfl : l = [] := List.eq_nil_of_length_eq_zero (by omega)
        have hd : Rp.dataOk a.fc [] = true := by rw [Rp.dataOk, if_neg (by omega)]; rfl
        rw [hok, hd, htrue hd, Rp.raw, if_neg (by omega), if_pos hf]
        exact make_five A D n c m d a [] w hn hm hA hD hr hml hf
    · have e := hfalse (.inr ⟨hr, hl⟩)
      rw [Rp.make_not e, e]
      exact make_not A D n c m d a l w hn hm hA hD (.inr ⟨hr, hl⟩)
end Go.Proofs.Ytijnajlijdnbcaa.Ref7
