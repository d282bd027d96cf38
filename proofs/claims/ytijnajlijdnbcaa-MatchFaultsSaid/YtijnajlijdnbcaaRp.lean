/- The developers' responses: each function answers what the plain words of RpA say. Conditions: lengths at most a million. -/
import Derived.Test.YtijnajlijdnbcaaRpC
import Derived.Test.YtijnajlijdnbcaaRpS
import Derived.Test.YtijnajlijdnbcaaAskY
namespace Go.Proofs.Ytijnajlijdnbcaa.Reply
set_option maxRecDepth 100000
set_option linter.unusedVariables false
open Go.ChangeShapes Go.WideShapes Go.ChangeAt Go.RowKit
open Str (toList_eq)
open Ref6 (ret_bool ret_int Boxed ret_sb)
open Ref7 (Boxed.kept raw_1 raw_3 st_take)

set_option maxHeartbeats 400000 in
theorem twoBytes_any (x y : Int) (w : World) (hx : 0 ≤ x ∧ x ≤ 255) (hy : 0 ≤ y ∧ y ≤ 255) :
    Calls Try.prog 30 #[.int .i64 x, .int .i64 y] w fun e w' => e = .returned (.string (st [UInt8.ofNat x.toNat, UInt8.ofNat y.toNat])) ∧ Keep w w' := by
  have h8 : IntKind.u8.wrap x = x := by rw [IntKind.wrap_u8]; omega
  have h9 : IntKind.u8.wrap y = y := by rw [IntKind.wrap_u8]; omega
  have hcv : ∀ w : World, (convert 53 9 (.slice (some ⟨w.heap.size, 0, none⟩) 2 2)).run Try.prog (w.alloc (.cells #[.int .u8 x, .int .u8 y] 5)) = .ok (.string (st [UInt8.ofNat x.toNat, UInt8.ofNat y.toNat])) (w.alloc (.cells #[.int .u8 x, .int .u8 y] 5)) :=
    fun w => conv_new Try.underlying53 Try.underlying5 Try.underlying9 _ 2 [UInt8.ofNat x.toNat, UInt8.ofNat y.toNat] (by simp only [List.map_cons, List.map_nil, bv]; rw [Ak.ofNat_int x (by omega) (by omega), Ak.ofNat_int y (by omega) (by omega)]) rfl
  clear hx hy
  go_enter Try.func30, Try.ntmps30
  go_wp2
  go_ret
  exact ⟨rfl, (Keep.refl w).alloc _⟩

set_option maxHeartbeats 400000 in
theorem fault_any (fc c : Int) (w : World) :
    Calls Try.prog 21 #[.int .i64 fc, .int .i64 c] w fun e w' => e = .returned (.tuple #[.string (st (Rp.fault fc c)), .bool (Rp.faultOk fc c)]) ∧ Keep w w' := by
  by_cases h1 : fc < 1
  · have e : Rp.faultOk fc c = false := by rw [Rp.faultOk, show decide (1 ≤ fc) = false by simp; omega]; rfl
    rw [Rp.fault_not e, e]
    go_enter Try.func21, Try.ntmps21
    go_wp2
    go_ret2
    exact ⟨rfl, Keep.refl _⟩
  by_cases h2 : 127 < fc
  · have e : Rp.faultOk fc c = false := by rw [Rp.faultOk, show decide (fc ≤ 127) = false by simp; omega]; simp
    rw [Rp.fault_not e, e]
    go_enter Try.func21, Try.ntmps21
    go_wp2
    go_ret2
    exact ⟨rfl, Keep.refl _⟩
  cases hc : Rp.code c
  · have e : Rp.faultOk fc c = false := by rw [Rp.faultOk, hc]; simp
    rw [Rp.fault_not e, e]
    go_enter Try.func21, Try.ntmps21
    go_wp2_with fail
    refine (code_any c _).mono ?_
    rintro e w1 ⟨rfl, hk⟩
    rw [hc]
    go_wp2
    go_ret2
    exact ⟨rfl, hk⟩
  · have e : Rp.faultOk fc c = true := by rw [Rp.faultOk, hc, show decide (1 ≤ fc) = true by simp; omega, show decide (fc ≤ 127) = true by simp; omega]; rfl
    have ef : Rp.fault fc c = [UInt8.ofNat (fc + 128).toNat, UInt8.ofNat c.toNat] := by rw [Rp.fault, e]; rfl
    have hcc := (Rp.code_iff c).1 hc
    have hcb : 0 ≤ c ∧ c ≤ 255 := by omega
    rw [ef, e]
    have HC := Lib.hid hc
    have HCB := Lib.hid hcb
    clear e ef hcc hc hcb
    go_enter Try.func21, Try.ntmps21
    go_wp2_with fail
    refine (code_any c _).mono ?_
    rintro e w1 ⟨rfl, hk⟩
    rw [HC.out]
    go_wp2_with fail
    refine (twoBytes_any (fc + 128) c _ (by omega) HCB.out).mono ?_
    rintro e w2 ⟨rfl, hk2⟩
    go_wp2
    go_ret2
    exact ⟨rfl, hk.trans hk2⟩

set_option maxHeartbeats 400000 in
theorem sized_any (fc : Int) (p : List UInt8) (ok : Bool) (w : World) (hf : 0 ≤ fc ∧ fc ≤ 255) (hp : p.length ≤ 255) :
    Calls Try.prog 60 #[.int .i64 fc, .string (st p), .bool ok] w fun e w' => e = .returned (.tuple #[.string (st (if ok then UInt8.ofNat fc.toNat :: UInt8.ofNat p.length :: p else [])), .bool ok]) ∧ Keep w w' := by
  have hsz : (st p).size = p.length := st_size p
  cases ok
  · go_enter Try.func60, Try.ntmps60
    go_wp2
    go_ret2
    exact ⟨rfl, Keep.refl _⟩
  · have a1 := add_st (P := Try.prog) [UInt8.ofNat fc.toNat, UInt8.ofNat p.length] p (by simp; omega)
    have HF := Lib.hid hf
    have HPL := Lib.hid hp
    clear hf
    go_enter Try.func60, Try.ntmps60
    go_wp2_with fail
    refine (twoBytes_any fc (p.length : Int) _ HF.out ⟨by omega, by omega⟩).mono ?_
    rintro e w2 ⟨rfl, hk2⟩
    rw [Int.toNat_natCast]
    go_wp2
    go_ret2
    exact ⟨rfl, hk2⟩

/-- Whether a text is an exception of the function. -/
def isF (fc : Int) (s : ByteArray) : Bool := s.size == 2 && Rp.faultOk fc (byteAt s 1) && Rp.fault fc (byteAt s 1) == bl s
theorem isF_eq {fc : Int} (h : 1 ≤ fc ∧ fc ≤ 23) (s : ByteArray) : isF fc s = (s.size == 2 && byteAt s 0 == fc + 128 && Rp.code (byteAt s 1)) := by
  unfold isF
  by_cases h2 : s.size = 2
  · have hl : (bl s).length = 2 := by rw [bl_length, h2]
    obtain ⟨x, y, hxy⟩ : ∃ x y, bl s = [x, y] := by
      match bl s, hl with
      | [x, y], _ => exact ⟨x, y, rfl⟩
    have b0 : byteAt s 0 = x.toNat := by unfold byteAt; rw [hxy]; rfl
    have b1 : byteAt s 1 = y.toNat := by unfold byteAt; rw [hxy]; rfl
    have hx := UInt8.toNat_lt x
    have hy := UInt8.toNat_lt y
    rw [h2, b0, b1, hxy]
    cases hc : Rp.code (y.toNat : Int)
    · rw [Rp.faultOk, hc]; simp
    · have e : Rp.faultOk fc (y.toNat : Int) = true := by rw [Rp.faultOk, hc, show decide (1 ≤ fc) = true by simp; omega, show decide (fc ≤ 127) = true by simp; omega]; rfl
      rw [e, Rp.fault, e, if_pos rfl, Int.toNat_natCast]
      have ey : UInt8.ofNat y.toNat = y := by simp
      rw [ey]
      by_cases hx8 : (x.toNat : Int) = fc + 128
      · have ex : UInt8.ofNat (fc + 128).toNat = x := by rw [← hx8, Int.toNat_natCast]; simp
        rw [ex, hx8]; simp
      · have : ¬ UInt8.ofNat (fc + 128).toNat = x := fun h' => hx8 (by rw [← h']; exact Ak.ofNat_int _ (by omega) (by omega))
        rw [show ((x.toNat : Int) == fc + 128) = false by simpa using hx8]
        simp [this]
  · rw [show (s.size == 2) = false by simpa using h2]; rfl
theorem kind_isF {a : AskP} (h : Ak.right a = true) (s : ByteArray) : Rp.kind a s = if isF a.fc s then 2 else if Rp.norm a s then 1 else 0 := by
  have hfc := Rp.right_fc h
  rw [Rp.kind, isF_eq hfc, h]
  cases hn : Rp.norm a s
  · simp
  · have hh := Rp.norm_head hn
    rw [hh, show (a.fc == a.fc + 128) = false by simp; omega]
    simp

set_option maxHeartbeats 1000000 in
theorem isFault_any (fc : Int) (s : ByteArray) (w : World) (hs : s.size ≤ 100000) :
    Calls Try.prog 39 #[.int .i64 fc, .string s] w fun e w' => e = .returned (.bool (isF fc s)) ∧ Keep w w' := by
  by_cases h2 : s.size = 2
  · have d2 : ((s.size : Int) != 2) = false := by simp; omega
    have hx1 := idx (P := Try.prog) (k := .i64) s 1 Try.underlying9 (by omega) (by omega)
    have hr1 := byteAt_range s 1
    obtain ⟨b, hb⟩ : ∃ b, b = byteAt s 1 := ⟨_, rfl⟩
    rw [← hb] at hx1 hr1
    obtain ⟨q, hq⟩ : ∃ q, q = st (Rp.fault fc b) := ⟨_, rfl⟩
    obtain ⟨ok, hok⟩ : ∃ q, q = Rp.faultOk fc b := ⟨_, rfl⟩
    have HF := Lib.hid (show isF fc s = (ok && s.toList == q.toList) by
      rw [isF, show (s.size == 2) = true by simpa using h2, ← hb, hok, toList_eq, hq, toList_eq, bl_st]
      rw [Bool.true_and, show (Rp.fault fc b == bl s) = (bl s == Rp.fault fc b) from BEq.comm])
    have hfa : ∀ W : World, Calls Try.prog 21 #[.int .i64 fc, .int .i64 b] W fun e w' => e = .returned (.tuple #[.string q, .bool ok]) ∧ Keep W w' := fun W => by rw [hq, hok]; exact fault_any fc b W
    clear hq hok hb h2
    go_enter Try.func39, Try.ntmps39
    go_wp2_with fail
    refine (hfa _).mono ?_
    rintro e w1 ⟨rfl, hk⟩
    cases ok
    · go_wp2
      go_ret
      exact ⟨ret_bool (by rw [HF.out]; rfl), hk⟩
    · go_wp2
      go_ret
      exact ⟨ret_bool (by rw [HF.out]; rfl), hk⟩
  · have d2 : ((s.size : Int) != 2) = true := by simp; omega
    have HF := Lib.hid (show isF fc s = false by rw [isF, show (s.size == 2) = false by simpa using h2]; rfl)
    go_enter Try.func39, Try.ntmps39
    go_wp2
    go_ret
    exact ⟨ret_bool (by rw [HF.out]), Keep.refl _⟩

set_option maxHeartbeats 2000000 in
theorem laid_not (A D : Option Addr) (n c m d : Nat) (a : AskP) (l : List Int) (w : World) (hn : n ≤ maxLen) (hm : m ≤ maxLen) (hA : Ints .i64 w w.heap.size A n a.vs) (hD : Ints .i64 w w.heap.size D m l) (hml : ((m : Int) != a.ct) = true) :
    Calls Try.prog 50 #[.agg #[.int .i64 a.fc, .int .i64 a.rd, .int .i64 a.ct, .int .i64 a.wr, .int .i64 a.mn, .slice A n c], .slice D m d] w fun e w' => e = .returned (.tuple #[.string (st []), .bool false]) ∧ Keep w w' := by
  obtain ⟨X, hX⟩ : ∃ X, X = w.alloc (.cells #[.int .i64 a.fc, .int .i64 a.rd, .int .i64 a.ct, .int .i64 a.wr, .int .i64 a.mn, .slice A n c] 33) := ⟨_, rfl⟩
  have hkX : Keep w X := by rw [hX]; exact (Keep.refl w).alloc _
  have hbX : Boxed w.heap.size a A n c X := by rw [hX]; exact Boxed.new w a A n c 33
  have hltX : w.heap.size < X.heap.size := by rw [hX]; simp
  have HXB := Lib.hid (show ∀ W, Keep X W → Boxed w.heap.size a A n c W from fun W h => hbX.below h hltX)
  have hAX := hA.kept hkX
  obtain ⟨c0, c1, c2, c3, c4, c5⟩ := hbX
  go_enter Try.func50, Try.ntmps50
  go_wp2
  go_ret2
  exact ⟨rfl, by rw [← hX]; exact hkX⟩

set_option maxHeartbeats 2000000 in
theorem laid_bits (A D : Option Addr) (n c m d : Nat) (a : AskP) (l : List Int) (w : World) (hn : n ≤ maxLen) (hm : m ≤ maxLen) (hA : Ints .i64 w w.heap.size A n a.vs) (hD : Ints .i64 w w.heap.size D m l) (hml : ((m : Int) != a.ct) = false) (hct : a.ct ≤ 2000) (hf : a.fc = 1 ∨ a.fc = 2) (ok : Bool) (hok : ok = Co.allBits l) (q : List UInt8) (hq : (if ok then UInt8.ofNat a.fc.toNat :: UInt8.ofNat (Co.put l).length :: Co.put l else []) = q) :
    Calls Try.prog 50 #[.agg #[.int .i64 a.fc, .int .i64 a.rd, .int .i64 a.ct, .int .i64 a.wr, .int .i64 a.mn, .slice A n c], .slice D m d] w fun e w' => e = .returned (.tuple #[.string (st q), .bool ok]) ∧ Keep w w' := by
  have hmc : (m : Int) = a.ct := by simpa using hml
  have hm2 : m ≤ 2000 := by omega
  obtain ⟨p, hp⟩ : ∃ p, p = Co.put l := ⟨_, rfl⟩
  have hlen : p.length ≤ 255 := by
    rw [hp, Co.put]
    split
    · rw [Co.bytes_len, hD.1]; unfold Co.nsize; omega
    · simp
  have e3 : (a.fc == 3) = false := by simp; omega
  have e4 : (a.fc == 4) = false := by simp; omega
  have e23 : (a.fc == 23) = false := by simp; omega
  have e5 : (a.fc == 5) = false := by simp; omega
  have e6 : (a.fc == 6) = false := by simp; omega
  have e22 : (a.fc == 22) = false := by simp; omega
  have e15 : (a.fc == 15) = false := by simp; omega
  have e16 : (a.fc == 16) = false := by simp; omega
  obtain ⟨X, hX⟩ : ∃ X, X = w.alloc (.cells #[.int .i64 a.fc, .int .i64 a.rd, .int .i64 a.ct, .int .i64 a.wr, .int .i64 a.mn, .slice A n c] 33) := ⟨_, rfl⟩
  have hkX : Keep w X := by rw [hX]; exact (Keep.refl w).alloc _
  have hbX : Boxed w.heap.size a A n c X := by rw [hX]; exact Boxed.new w a A n c 33
  have hltX : w.heap.size < X.heap.size := by rw [hX]; simp
  have HXB := Lib.hid (show ∀ W, Keep X W → Boxed w.heap.size a A n c W from fun W h => hbX.below h hltX)
  have hAX := hA.kept hkX
  obtain ⟨c0, c1, c2, c3, c4, c5⟩ := hbX
  have HP := Lib.hid hp
  have HQ := Lib.hid (show (if ok then UInt8.ofNat a.fc.toNat :: UInt8.ofNat p.length :: p else []) = q by rw [hp]; exact hq)
  have HOK := Lib.hid hok
  have HL := Lib.hid hlen
  have HFC := Lib.hid (show 0 ≤ a.fc ∧ a.fc ≤ 255 by omega)
  have hDX := hD.kept hkX
  clear hp hq hok hlen hA hD hmc hct
  have HF := Lib.hid hf
  clear hf
  rcases HF.out with e | e
  · skip
    have t1 : (a.fc == 1) = true := by simp; omega
    have t2 : (a.fc == 2) = false := by simp; omega
    clear e
    go_enter Try.func50, Try.ntmps50
    go_wp2_with fail
    rw [← hX]
    refine (Coil.put_any D m d l _ (by omega) hDX).mono ?_
    rintro e w1 ⟨rfl, hk1⟩
    replace hk1 : Keep X w1 := hk1
    rw [← HP.out, ← HOK.out]
    obtain ⟨c0, c1, c2, c3, c4, c5⟩ := HXB.out _ hk1
    go_wp2_with fail
    refine (sized_any a.fc p ok _ HFC.out HL.out).mono ?_
    rintro e w2 ⟨rfl, hk2⟩
    rw [HQ.out]
    go_wp2
    go_ret2
    exact ⟨rfl, (hkX.trans hk1).trans hk2⟩
  · skip
    have t1 : (a.fc == 1) = false := by simp; omega
    have t2 : (a.fc == 2) = true := by simp; omega
    clear e
    go_enter Try.func50, Try.ntmps50
    go_wp2_with fail
    rw [← hX]
    refine (Coil.put_any D m d l _ (by omega) hDX).mono ?_
    rintro e w1 ⟨rfl, hk1⟩
    replace hk1 : Keep X w1 := hk1
    rw [← HP.out, ← HOK.out]
    obtain ⟨c0, c1, c2, c3, c4, c5⟩ := HXB.out _ hk1
    go_wp2_with fail
    refine (sized_any a.fc p ok _ HFC.out HL.out).mono ?_
    rintro e w2 ⟨rfl, hk2⟩
    rw [HQ.out]
    go_wp2
    go_ret2
    exact ⟨rfl, (hkX.trans hk1).trans hk2⟩

set_option maxHeartbeats 2000000 in
theorem laid_words (A D : Option Addr) (n c m d : Nat) (a : AskP) (l : List Int) (w : World) (hn : n ≤ maxLen) (hm : m ≤ maxLen) (hA : Ints .i64 w w.heap.size A n a.vs) (hD : Ints .i64 w w.heap.size D m l) (hml : ((m : Int) != a.ct) = false) (hct : a.ct ≤ 125) (hf : a.fc = 3 ∨ a.fc = 4 ∨ a.fc = 23) (ok : Bool) (hok : ok = Tw.allIn l) (q : List UInt8) (hq : (if ok then UInt8.ofNat a.fc.toNat :: UInt8.ofNat (Tw.put l).length :: Tw.put l else []) = q) :
    Calls Try.prog 50 #[.agg #[.int .i64 a.fc, .int .i64 a.rd, .int .i64 a.ct, .int .i64 a.wr, .int .i64 a.mn, .slice A n c], .slice D m d] w fun e w' => e = .returned (.tuple #[.string (st q), .bool ok]) ∧ Keep w w' := by
  have hmc : (m : Int) = a.ct := by simpa using hml
  have hm2 : m ≤ 125 := by omega
  obtain ⟨p, hp⟩ : ∃ p, p = Tw.put l := ⟨_, rfl⟩
  have hlen : p.length ≤ 255 := by
    rw [hp, Tw.put]
    split
    · rw [Tw.bytes_len, hD.1]; omega
    · simp
  have e1 : (a.fc == 1) = false := by simp; omega
  have e2 : (a.fc == 2) = false := by simp; omega
  have e5 : (a.fc == 5) = false := by simp; omega
  have e6 : (a.fc == 6) = false := by simp; omega
  have e22 : (a.fc == 22) = false := by simp; omega
  have e15 : (a.fc == 15) = false := by simp; omega
  have e16 : (a.fc == 16) = false := by simp; omega
  obtain ⟨X, hX⟩ : ∃ X, X = w.alloc (.cells #[.int .i64 a.fc, .int .i64 a.rd, .int .i64 a.ct, .int .i64 a.wr, .int .i64 a.mn, .slice A n c] 33) := ⟨_, rfl⟩
  have hkX : Keep w X := by rw [hX]; exact (Keep.refl w).alloc _
  have hbX : Boxed w.heap.size a A n c X := by rw [hX]; exact Boxed.new w a A n c 33
  have hltX : w.heap.size < X.heap.size := by rw [hX]; simp
  have HXB := Lib.hid (show ∀ W, Keep X W → Boxed w.heap.size a A n c W from fun W h => hbX.below h hltX)
  have hAX := hA.kept hkX
  obtain ⟨c0, c1, c2, c3, c4, c5⟩ := hbX
  have HP := Lib.hid hp
  have HQ := Lib.hid (show (if ok then UInt8.ofNat a.fc.toNat :: UInt8.ofNat p.length :: p else []) = q by rw [hp]; exact hq)
  have HOK := Lib.hid hok
  have HL := Lib.hid hlen
  have HFC := Lib.hid (show 0 ≤ a.fc ∧ a.fc ≤ 255 by omega)
  have hDX := hD.kept hkX
  clear hp hq hok hlen hA hD hmc hct
  have HF := Lib.hid hf
  clear hf
  rcases HF.out with e | e | e
  · skip
    have t3 : (a.fc == 3) = true := by simp; omega
    have t4 : (a.fc == 4) = false := by simp; omega
    have t23 : (a.fc == 23) = false := by simp; omega
    clear e
    go_enter Try.func50, Try.ntmps50
    go_wp2_with fail
    rw [← hX]
    refine (Twin.putAll_any D m d l _ (by omega) hDX).mono ?_
    rintro e w1 ⟨rfl, hk1⟩
    replace hk1 : Keep X w1 := hk1
    rw [← HP.out, ← HOK.out]
    obtain ⟨c0, c1, c2, c3, c4, c5⟩ := HXB.out _ hk1
    go_wp2_with fail
    refine (sized_any a.fc p ok _ HFC.out HL.out).mono ?_
    rintro e w2 ⟨rfl, hk2⟩
    rw [HQ.out]
    go_wp2
    go_ret2
    exact ⟨rfl, (hkX.trans hk1).trans hk2⟩
  · skip
    have t3 : (a.fc == 3) = false := by simp; omega
    have t4 : (a.fc == 4) = true := by simp; omega
    have t23 : (a.fc == 23) = false := by simp; omega
    clear e
    go_enter Try.func50, Try.ntmps50
    go_wp2_with fail
    rw [← hX]
    refine (Twin.putAll_any D m d l _ (by omega) hDX).mono ?_
    rintro e w1 ⟨rfl, hk1⟩
    replace hk1 : Keep X w1 := hk1
    rw [← HP.out, ← HOK.out]
    obtain ⟨c0, c1, c2, c3, c4, c5⟩ := HXB.out _ hk1
    go_wp2_with fail
    refine (sized_any a.fc p ok _ HFC.out HL.out).mono ?_
    rintro e w2 ⟨rfl, hk2⟩
    rw [HQ.out]
    go_wp2
    go_ret2
    exact ⟨rfl, (hkX.trans hk1).trans hk2⟩
  · skip
    have t3 : (a.fc == 3) = false := by simp; omega
    have t4 : (a.fc == 4) = false := by simp; omega
    have t23 : (a.fc == 23) = true := by simp; omega
    clear e
    go_enter Try.func50, Try.ntmps50
    go_wp2_with fail
    rw [← hX]
    refine (Twin.putAll_any D m d l _ (by omega) hDX).mono ?_
    rintro e w1 ⟨rfl, hk1⟩
    replace hk1 : Keep X w1 := hk1
    rw [← HP.out, ← HOK.out]
    obtain ⟨c0, c1, c2, c3, c4, c5⟩ := HXB.out _ hk1
    go_wp2_with fail
    refine (sized_any a.fc p ok _ HFC.out HL.out).mono ?_
    rintro e w2 ⟨rfl, hk2⟩
    rw [HQ.out]
    go_wp2
    go_ret2
    exact ⟨rfl, (hkX.trans hk1).trans hk2⟩

set_option maxHeartbeats 2000000 in
theorem laid_whole (A D : Option Addr) (n c m d : Nat) (a : AskP) (l : List Int) (w : World) (hn : n ≤ maxLen) (hm : m ≤ maxLen) (hA : Ints .i64 w w.heap.size A n a.vs) (hD : Ints .i64 w w.heap.size D m l) (hr : Ak.right a = true) (hml : ((m : Int) != a.ct) = false) (hf : a.fc = 5 ∨ a.fc = 6 ∨ a.fc = 22) (q : List UInt8) (hq : Ak.put a = q) :
    Calls Try.prog 50 #[.agg #[.int .i64 a.fc, .int .i64 a.rd, .int .i64 a.ct, .int .i64 a.wr, .int .i64 a.mn, .slice A n c], .slice D m d] w fun e w' => e = .returned (.tuple #[.string (st q), .bool true]) ∧ Keep w w' := by
  have e1 : (a.fc == 1) = false := by simp; omega
  have e2 : (a.fc == 2) = false := by simp; omega
  have e3 : (a.fc == 3) = false := by simp; omega
  have e4 : (a.fc == 4) = false := by simp; omega
  have e23 : (a.fc == 23) = false := by simp; omega
  have e15 : (a.fc == 15) = false := by simp; omega
  have e16 : (a.fc == 16) = false := by simp; omega
  obtain ⟨X, hX⟩ : ∃ X, X = w.alloc (.cells #[.int .i64 a.fc, .int .i64 a.rd, .int .i64 a.ct, .int .i64 a.wr, .int .i64 a.mn, .slice A n c] 33) := ⟨_, rfl⟩
  have hkX : Keep w X := by rw [hX]; exact (Keep.refl w).alloc _
  have hbX : Boxed w.heap.size a A n c X := by rw [hX]; exact Boxed.new w a A n c 33
  have hltX : w.heap.size < X.heap.size := by rw [hX]; simp
  have HXB := Lib.hid (show ∀ W, Keep X W → Boxed w.heap.size a A n c W from fun W h => hbX.below h hltX)
  have hAX := hA.kept hkX
  obtain ⟨c0, c1, c2, c3, c4, c5⟩ := hbX
  have HQ := Lib.hid hq
  clear hq
  have HF := Lib.hid hf
  clear hf
  rcases HF.out with e | e | e
  · skip
    have t5 : (a.fc == 5) = true := by simp; omega
    have t6 : (a.fc == 6) = false := by simp; omega
    have t22 : (a.fc == 22) = false := by simp; omega
    clear e
    go_enter Try.func50, Try.ntmps50
    go_wp2_with fail
    rw [← hX]
    refine (Ask.put_any A n c a _ hn hAX).mono ?_
    rintro e w1 ⟨rfl, hk1⟩
    rw [hr, HQ.out]
    go_wp2
    go_ret2
    exact ⟨rfl, hkX.trans hk1⟩
  · skip
    have t5 : (a.fc == 5) = false := by simp; omega
    have t6 : (a.fc == 6) = true := by simp; omega
    have t22 : (a.fc == 22) = false := by simp; omega
    clear e
    go_enter Try.func50, Try.ntmps50
    go_wp2_with fail
    rw [← hX]
    refine (Ask.put_any A n c a _ hn hAX).mono ?_
    rintro e w1 ⟨rfl, hk1⟩
    rw [hr, HQ.out]
    go_wp2
    go_ret2
    exact ⟨rfl, hkX.trans hk1⟩
  · skip
    have t5 : (a.fc == 5) = false := by simp; omega
    have t6 : (a.fc == 6) = false := by simp; omega
    have t22 : (a.fc == 22) = true := by simp; omega
    clear e
    go_enter Try.func50, Try.ntmps50
    go_wp2_with fail
    rw [← hX]
    refine (Ask.put_any A n c a _ hn hAX).mono ?_
    rintro e w1 ⟨rfl, hk1⟩
    rw [hr, HQ.out]
    go_wp2
    go_ret2
    exact ⟨rfl, hkX.trans hk1⟩

set_option maxHeartbeats 2000000 in
theorem laid_cut (A D : Option Addr) (n c m d : Nat) (a : AskP) (l : List Int) (w : World) (hn : n ≤ maxLen) (hm : m ≤ maxLen) (hA : Ints .i64 w w.heap.size A n a.vs) (hD : Ints .i64 w w.heap.size D m l) (hr : Ak.right a = true) (hml : ((m : Int) != a.ct) = false) (hf : a.fc = 15 ∨ a.fc = 16) (p : List UInt8) (hp : Ak.put a = p) (hlen : 5 ≤ p.length) :
    Calls Try.prog 50 #[.agg #[.int .i64 a.fc, .int .i64 a.rd, .int .i64 a.ct, .int .i64 a.wr, .int .i64 a.mn, .slice A n c], .slice D m d] w fun e w' => e = .returned (.tuple #[.string (st (p.take 5)), .bool true]) ∧ Keep w w' := by
  have e1 : (a.fc == 1) = false := by simp; omega
  have e2 : (a.fc == 2) = false := by simp; omega
  have e3 : (a.fc == 3) = false := by simp; omega
  have e4 : (a.fc == 4) = false := by simp; omega
  have e23 : (a.fc == 23) = false := by simp; omega
  have e5 : (a.fc == 5) = false := by simp; omega
  have e6 : (a.fc == 6) = false := by simp; omega
  have e22 : (a.fc == 22) = false := by simp; omega
  obtain ⟨X, hX⟩ : ∃ X, X = w.alloc (.cells #[.int .i64 a.fc, .int .i64 a.rd, .int .i64 a.ct, .int .i64 a.wr, .int .i64 a.mn, .slice A n c] 33) := ⟨_, rfl⟩
  have hkX : Keep w X := by rw [hX]; exact (Keep.refl w).alloc _
  have hbX : Boxed w.heap.size a A n c X := by rw [hX]; exact Boxed.new w a A n c 33
  have hltX : w.heap.size < X.heap.size := by rw [hX]; simp
  have HXB := Lib.hid (show ∀ W, Keep X W → Boxed w.heap.size a A n c W from fun W h => hbX.below h hltX)
  have hAX := hA.kept hkX
  obtain ⟨c0, c1, c2, c3, c4, c5⟩ := hbX
  have HP := Lib.hid hp
  clear hp
  have HF := Lib.hid hf
  clear hf
  have hsz : (st p).size = p.length := st_size p
  have h5 : (5 : Int) ≤ ((st p).size : Int) := by omega
  have h5' : ¬ (p.length : Int) < 5 := by omega
  have hsl : ∀ W : World, (Instr.slice 9 (.string (st p)) none (some (.int .i64 5)) none).run Try.prog W = .ok (.string (st (p.take 5))) W := fun W => by
    have u := Try.underlying9
    rw [← st_take]
    go_simp
  clear hsz h5 h5'
  rcases HF.out with e | e
  · skip
    have t15 : (a.fc == 15) = true := by simp; omega
    have t16 : (a.fc == 16) = false := by simp; omega
    clear e
    go_enter Try.func50, Try.ntmps50
    go_wp2_with fail
    rw [← hX]
    refine (Ask.put_any A n c a _ hn hAX).mono ?_
    rintro e w1 ⟨rfl, hk1⟩
    rw [hr, HP.out]
    go_wp2
    go_ret2
    exact ⟨rfl, hkX.trans hk1⟩
  · skip
    have t15 : (a.fc == 15) = false := by simp; omega
    have t16 : (a.fc == 16) = true := by simp; omega
    clear e
    go_enter Try.func50, Try.ntmps50
    go_wp2_with fail
    rw [← hX]
    refine (Ask.put_any A n c a _ hn hAX).mono ?_
    rintro e w1 ⟨rfl, hk1⟩
    rw [hr, HP.out]
    go_wp2
    go_ret2
    exact ⟨rfl, hkX.trans hk1⟩

set_option maxHeartbeats 2000000 in
theorem laid_any (A D : Option Addr) (n c m d : Nat) (a : AskP) (l : List Int) (w : World) (hn : n ≤ maxLen) (hm : m ≤ maxLen) (hA : Ints .i64 w w.heap.size A n a.vs) (hD : Ints .i64 w w.heap.size D m l) (hr : Ak.right a = true) :
    Calls Try.prog 50 #[.agg #[.int .i64 a.fc, .int .i64 a.rd, .int .i64 a.ct, .int .i64 a.wr, .int .i64 a.mn, .slice A n c], .slice D m d] w fun e w' => e = .returned (.tuple #[.string (st (Rp.make a l)), .bool (Rp.ok a l)]) ∧ Keep w w' := by
  by_cases hml : (l.length : Int) = a.ct
  · have hml' : ((m : Int) != a.ct) = false := by rw [← hD.1]; simpa using hml
    have hf := ((Ak.right_iff a).1 hr).1
    have hb := (Ak.back1 hf).2.2.2
    have hpb : Ak.put a = Ak.bytes a := by rw [Ak.put, hr]; rfl
    rcases Rp.reads_cases hr with ⟨hc, h1, h2⟩ | ⟨hc, h1, h2⟩ | ⟨hc, h1⟩ | ⟨hc, h1⟩
    · have hok : Rp.ok a l = Co.allBits l := by rw [Rp.ok, hr, hml, Rp.dataOk, if_pos (by omega)]; simp
      refine (laid_bits A D n c m d a l w hn hm hA hD hml' h2 hc _ hok (Rp.make a l) ?_)
      rw [Rp.make, raw_1 a l hc]
    · have hok : Rp.ok a l = Tw.allIn l := by rw [Rp.ok, hr, hml, Rp.dataOk, if_neg (by omega)]; simp
      refine (laid_words A D n c m d a l w hn hm hA hD hml' h2 hc _ hok (Rp.make a l) ?_)
      rw [Rp.make, raw_3 a l hc]
    · obtain rfl : l = [] := List.eq_nil_of_length_eq_zero (by omega)
      have hok : Rp.ok a [] = true := by rw [Rp.ok, hr, hml, Rp.dataOk]; simp [Co.allBits, Tw.allIn]
      have hmk : Rp.make a [] = Ak.put a := by rw [Rp.make_ok hok, Rp.raw, if_pos hc, hpb]
      rw [hok]
      exact laid_whole A D n c m d a [] w hn hm hA hD hr hml' hc _ hmk.symm
    · obtain rfl : l = [] := List.eq_nil_of_length_eq_zero (by omega)
      have hok : Rp.ok a [] = true := by rw [Rp.ok, hr, hml, Rp.dataOk]; simp [Co.allBits, Tw.allIn]
      have hmk : Rp.make a [] = (Ak.put a).take 5 := by rw [Rp.make_ok hok, Rp.raw, if_neg (by omega), if_pos hc, hpb]
      have hz := Rp.raw_size hok
      rw [hok, hmk]
      refine laid_cut A D n c m d a [] w hn hm hA hD hr hml' hc _ rfl ?_
      have h5 : Rp.sizeOf a = 5 := by
        unfold Rp.sizeOf
        rcases hc with e | e <;> rw [e] <;> rfl
      rw [← Rp.make_ok hok, hmk, h5, List.length_take] at hz
      omega
  · have hml' : ((m : Int) != a.ct) = true := by rw [← hD.1]; simpa using hml
    have hok : Rp.ok a l = false := by rw [Rp.ok, show ((l.length : Int) == a.ct) = false by simpa using hml]; simp
    rw [hok, Rp.make_not hok]
    exact laid_not A D n c m d a l w hn hm hA hD hml'

/-- What comes back: a slice of integers. -/
def RetL (zs : List Int) (w : World) (e : Ending) (w' : World) : Prop := ∃ A n c, e = .returned (.slice A n c) ∧ Ints .i64 w' w'.heap.size A n zs ∧ Keep w w'
theorem sub_lo (s : ByteArray) (h : ¬ (2 : Int) ≤ (s.size : Int)) (W : World) : (Instr.slice 9 (.string s) (some (.int .i64 (s.size : Int))) none none).run Try.prog W = .ok (.string (Ak.sub s 2)) W := by
  have u := Try.underlying9
  have e : Ak.sub s 2 = Ak.sub s s.size := by
    unfold Ak.sub
    rw [List.drop_of_length_le (by rw [bl_length]; omega), List.drop_of_length_le (by rw [bl_length]; exact Nat.le_refl _)]
  rw [e, ← Ak.extract_end]
  have h3 : (0 : Int) ≤ (s.size : Int) := by omega
  go_simp
theorem sub_hi (s : ByteArray) (h : (2 : Int) ≤ (s.size : Int)) (W : World) : (Instr.slice 9 (.string s) (some (.int .i64 2)) none none).run Try.prog W = .ok (.string (Ak.sub s 2)) W := by
  rw [Ref7.slice2 s W (by omega), Ak.extract_end]

set_option maxHeartbeats 1000000 in
theorem taken_bits (A : Option Addr) (n c : Nat) (a : AskP) (s : ByteArray) (w : World) (hs : s.size ≤ 100000) (hA : Ints .i64 w w.heap.size A n a.vs) (hct : a.ct ≤ 2000) (hf : a.fc = 1 ∨ a.fc = 2) :
    Calls Try.prog 49 #[.agg #[.int .i64 a.fc, .int .i64 a.rd, .int .i64 a.ct, .int .i64 a.wr, .int .i64 a.mn, .slice A n c], .string s] w (RetL (Co.get (Ak.sub s 2) a.ct) w) := by
  have e3 : (a.fc == 3) = false := by simp; omega
  have e4 : (a.fc == 4) = false := by simp; omega
  have e23 : (a.fc == 23) = false := by simp; omega
  have e5 : (a.fc == 5) = false := by simp; omega
  have e6 : (a.fc == 6) = false := by simp; omega
  have e22 : (a.fc == 22) = false := by simp; omega
  have e15 : (a.fc == 15) = false := by simp; omega
  have e16 : (a.fc == 16) = false := by simp; omega
  obtain ⟨X, hX⟩ : ∃ X, X = w.alloc (.cells #[.int .i64 a.fc, .int .i64 a.rd, .int .i64 a.ct, .int .i64 a.wr, .int .i64 a.mn, .slice A n c] 33) := ⟨_, rfl⟩
  have hkX : Keep w X := by rw [hX]; exact (Keep.refl w).alloc _
  have hbX : Boxed w.heap.size a A n c X := by rw [hX]; exact Boxed.new w a A n c 33
  have hltX : w.heap.size < X.heap.size := by rw [hX]; simp
  have HXB := Lib.hid (show ∀ W, Keep X W → Boxed w.heap.size a A n c W from fun W h => hbX.below h hltX)
  have hAX := hA.kept hkX
  obtain ⟨c0, c1, c2, c3, c4, c5⟩ := hbX
  have hsub : (Ak.sub s 2).size ≤ s.size := by rw [Ak.sub, st_size, List.length_drop, bl_length]; omega
  have hct2 : a.ct ≤ 9223372036854775807 := by omega
  have HS1 := Lib.hid (show (Ak.sub s 2).size ≤ 1000000 by omega)
  clear hct hsub
  have HF := Lib.hid hf
  clear hf
  rcases HF.out with e | e
  · skip
    have t1 : (a.fc == 1) = true := by simp; omega
    have t2 : (a.fc == 2) = false := by simp; omega
    clear e
    by_cases h2 : (2 : Int) ≤ (s.size : Int)
    · have hmn := sub_hi s h2
      go_enter Try.func49, Try.ntmps49
      go_wp2_with fail
      rw [← hX]
      refine (Coil.getF_any (Ak.sub s 2) a.ct _ HS1.out hct2).mono ?_
      rintro e w2 ⟨A2, n2, c2', rfl, hI, hb2, _⟩
      replace hb2 : Keep X w2 := hb2
      go_wp2
      go_ret
      exact ⟨A2, n2, c2', rfl, hI, hkX.trans hb2⟩
    · have hmn := sub_lo s h2
      have h3 : (s.size : Int) < 2 := by omega
      go_enter Try.func49, Try.ntmps49
      go_wp2_with fail
      rw [← hX]
      refine (Coil.getF_any (Ak.sub s 2) a.ct _ HS1.out hct2).mono ?_
      rintro e w2 ⟨A2, n2, c2', rfl, hI, hb2, _⟩
      replace hb2 : Keep X w2 := hb2
      go_wp2
      go_ret
      exact ⟨A2, n2, c2', rfl, hI, hkX.trans hb2⟩
  · skip
    have t1 : (a.fc == 1) = false := by simp; omega
    have t2 : (a.fc == 2) = true := by simp; omega
    clear e
    by_cases h2 : (2 : Int) ≤ (s.size : Int)
    · have hmn := sub_hi s h2
      go_enter Try.func49, Try.ntmps49
      go_wp2_with fail
      rw [← hX]
      refine (Coil.getF_any (Ak.sub s 2) a.ct _ HS1.out hct2).mono ?_
      rintro e w2 ⟨A2, n2, c2', rfl, hI, hb2, _⟩
      replace hb2 : Keep X w2 := hb2
      go_wp2
      go_ret
      exact ⟨A2, n2, c2', rfl, hI, hkX.trans hb2⟩
    · have hmn := sub_lo s h2
      have h3 : (s.size : Int) < 2 := by omega
      go_enter Try.func49, Try.ntmps49
      go_wp2_with fail
      rw [← hX]
      refine (Coil.getF_any (Ak.sub s 2) a.ct _ HS1.out hct2).mono ?_
      rintro e w2 ⟨A2, n2, c2', rfl, hI, hb2, _⟩
      replace hb2 : Keep X w2 := hb2
      go_wp2
      go_ret
      exact ⟨A2, n2, c2', rfl, hI, hkX.trans hb2⟩

set_option maxHeartbeats 1000000 in
theorem taken_words (A : Option Addr) (n c : Nat) (a : AskP) (s : ByteArray) (w : World) (hs : s.size ≤ 100000) (hA : Ints .i64 w w.heap.size A n a.vs) (hct : a.ct ≤ 2000) (hf : a.fc = 3 ∨ a.fc = 4 ∨ a.fc = 23) :
    Calls Try.prog 49 #[.agg #[.int .i64 a.fc, .int .i64 a.rd, .int .i64 a.ct, .int .i64 a.wr, .int .i64 a.mn, .slice A n c], .string s] w (RetL (Tw.getAll (Ak.sub s 2)) w) := by
  have e1 : (a.fc == 1) = false := by simp; omega
  have e2 : (a.fc == 2) = false := by simp; omega
  have e5 : (a.fc == 5) = false := by simp; omega
  have e6 : (a.fc == 6) = false := by simp; omega
  have e22 : (a.fc == 22) = false := by simp; omega
  have e15 : (a.fc == 15) = false := by simp; omega
  have e16 : (a.fc == 16) = false := by simp; omega
  obtain ⟨X, hX⟩ : ∃ X, X = w.alloc (.cells #[.int .i64 a.fc, .int .i64 a.rd, .int .i64 a.ct, .int .i64 a.wr, .int .i64 a.mn, .slice A n c] 33) := ⟨_, rfl⟩
  have hkX : Keep w X := by rw [hX]; exact (Keep.refl w).alloc _
  have hbX : Boxed w.heap.size a A n c X := by rw [hX]; exact Boxed.new w a A n c 33
  have hltX : w.heap.size < X.heap.size := by rw [hX]; simp
  have HXB := Lib.hid (show ∀ W, Keep X W → Boxed w.heap.size a A n c W from fun W h => hbX.below h hltX)
  have hAX := hA.kept hkX
  obtain ⟨c0, c1, c2, c3, c4, c5⟩ := hbX
  have hsub : (Ak.sub s 2).size ≤ s.size := by rw [Ak.sub, st_size, List.length_drop, bl_length]; omega
  have hct2 : a.ct ≤ 9223372036854775807 := by omega
  have HS1 := Lib.hid (show (Ak.sub s 2).size ≤ 1000000 by omega)
  clear hct hsub
  have HF := Lib.hid hf
  clear hf
  rcases HF.out with e | e | e
  · skip
    have t3 : (a.fc == 3) = true := by simp; omega
    have t4 : (a.fc == 4) = false := by simp; omega
    have t23 : (a.fc == 23) = false := by simp; omega
    clear e
    by_cases h2 : (2 : Int) ≤ (s.size : Int)
    · have hmn := sub_hi s h2
      go_enter Try.func49, Try.ntmps49
      go_wp2_with fail
      rw [← hX]
      refine (Twin.getAllF_any (Ak.sub s 2) _ HS1.out).mono ?_
      rintro e w2 ⟨A2, n2, c2', rfl, hI, hb2, _⟩
      replace hb2 : Keep X w2 := hb2
      go_wp2
      go_ret
      exact ⟨A2, n2, c2', rfl, hI, hkX.trans hb2⟩
    · have hmn := sub_lo s h2
      have h3 : (s.size : Int) < 2 := by omega
      go_enter Try.func49, Try.ntmps49
      go_wp2_with fail
      rw [← hX]
      refine (Twin.getAllF_any (Ak.sub s 2) _ HS1.out).mono ?_
      rintro e w2 ⟨A2, n2, c2', rfl, hI, hb2, _⟩
      replace hb2 : Keep X w2 := hb2
      go_wp2
      go_ret
      exact ⟨A2, n2, c2', rfl, hI, hkX.trans hb2⟩
  · skip
    have t3 : (a.fc == 3) = false := by simp; omega
    have t4 : (a.fc == 4) = true := by simp; omega
    have t23 : (a.fc == 23) = false := by simp; omega
    clear e
    by_cases h2 : (2 : Int) ≤ (s.size : Int)
    · have hmn := sub_hi s h2
      go_enter Try.func49, Try.ntmps49
      go_wp2_with fail
      rw [← hX]
      refine (Twin.getAllF_any (Ak.sub s 2) _ HS1.out).mono ?_
      rintro e w2 ⟨A2, n2, c2', rfl, hI, hb2, _⟩
      replace hb2 : Keep X w2 := hb2
      go_wp2
      go_ret
      exact ⟨A2, n2, c2', rfl, hI, hkX.trans hb2⟩
    · have hmn := sub_lo s h2
      have h3 : (s.size : Int) < 2 := by omega
      go_enter Try.func49, Try.ntmps49
      go_wp2_with fail
      rw [← hX]
      refine (Twin.getAllF_any (Ak.sub s 2) _ HS1.out).mono ?_
      rintro e w2 ⟨A2, n2, c2', rfl, hI, hb2, _⟩
      replace hb2 : Keep X w2 := hb2
      go_wp2
      go_ret
      exact ⟨A2, n2, c2', rfl, hI, hkX.trans hb2⟩
  · skip
    have t3 : (a.fc == 3) = false := by simp; omega
    have t4 : (a.fc == 4) = false := by simp; omega
    have t23 : (a.fc == 23) = true := by simp; omega
    clear e
    by_cases h2 : (2 : Int) ≤ (s.size : Int)
    · have hmn := sub_hi s h2
      go_enter Try.func49, Try.ntmps49
      go_wp2_with fail
      rw [← hX]
      refine (Twin.getAllF_any (Ak.sub s 2) _ HS1.out).mono ?_
      rintro e w2 ⟨A2, n2, c2', rfl, hI, hb2, _⟩
      replace hb2 : Keep X w2 := hb2
      go_wp2
      go_ret
      exact ⟨A2, n2, c2', rfl, hI, hkX.trans hb2⟩
    · have hmn := sub_lo s h2
      have h3 : (s.size : Int) < 2 := by omega
      go_enter Try.func49, Try.ntmps49
      go_wp2_with fail
      rw [← hX]
      refine (Twin.getAllF_any (Ak.sub s 2) _ HS1.out).mono ?_
      rintro e w2 ⟨A2, n2, c2', rfl, hI, hb2, _⟩
      replace hb2 : Keep X w2 := hb2
      go_wp2
      go_ret
      exact ⟨A2, n2, c2', rfl, hI, hkX.trans hb2⟩

set_option maxHeartbeats 1000000 in
theorem taken_none (A : Option Addr) (n c : Nat) (a : AskP) (s : ByteArray) (w : World) (hs : s.size ≤ 100000) (hA : Ints .i64 w w.heap.size A n a.vs) (hct : a.ct ≤ 2000) (hf : a.fc = 5 ∨ a.fc = 6 ∨ a.fc = 22 ∨ a.fc = 15 ∨ a.fc = 16) :
    Calls Try.prog 49 #[.agg #[.int .i64 a.fc, .int .i64 a.rd, .int .i64 a.ct, .int .i64 a.wr, .int .i64 a.mn, .slice A n c], .string s] w (RetL ([]) w) := by
  have e1 : (a.fc == 1) = false := by simp; omega
  have e2 : (a.fc == 2) = false := by simp; omega
  have e3 : (a.fc == 3) = false := by simp; omega
  have e4 : (a.fc == 4) = false := by simp; omega
  have e23 : (a.fc == 23) = false := by simp; omega
  obtain ⟨X, hX⟩ : ∃ X, X = w.alloc (.cells #[.int .i64 a.fc, .int .i64 a.rd, .int .i64 a.ct, .int .i64 a.wr, .int .i64 a.mn, .slice A n c] 33) := ⟨_, rfl⟩
  have hkX : Keep w X := by rw [hX]; exact (Keep.refl w).alloc _
  have hbX : Boxed w.heap.size a A n c X := by rw [hX]; exact Boxed.new w a A n c 33
  have hltX : w.heap.size < X.heap.size := by rw [hX]; simp
  have HXB := Lib.hid (show ∀ W, Keep X W → Boxed w.heap.size a A n c W from fun W h => hbX.below h hltX)
  have hAX := hA.kept hkX
  obtain ⟨c0, c1, c2, c3, c4, c5⟩ := hbX
  have hsub : (Ak.sub s 2).size ≤ s.size := by rw [Ak.sub, st_size, List.length_drop, bl_length]; omega
  have hct2 : a.ct ≤ 9223372036854775807 := by omega
  have HS1 := Lib.hid (show (Ak.sub s 2).size ≤ 1000000 by omega)
  clear hct hsub
  clear hf
  by_cases h2 : (2 : Int) ≤ (s.size : Int)
  · have hmn := sub_hi s h2
    go_enter Try.func49, Try.ntmps49
    go_wp2
    go_ret
    exact ⟨none, 0, 0, rfl, Ints.none_ _ _ _ _, by rw [← hX]; exact hkX⟩
  · have hmn := sub_lo s h2
    have h3 : (s.size : Int) < 2 := by omega
    go_enter Try.func49, Try.ntmps49
    go_wp2
    go_ret
    exact ⟨none, 0, 0, rfl, Ints.none_ _ _ _ _, by rw [← hX]; exact hkX⟩

theorem taken_any (A : Option Addr) (n c : Nat) (a : AskP) (s : ByteArray) (w : World) (hs : s.size ≤ 100000) (hA : Ints .i64 w w.heap.size A n a.vs) (hr : Ak.right a = true) :
    Calls Try.prog 49 #[.agg #[.int .i64 a.fc, .int .i64 a.rd, .int .i64 a.ct, .int .i64 a.wr, .int .i64 a.mn, .slice A n c], .string s] w (RetL (Rp.part a s) w) := by
  rcases Rp.reads_cases hr with ⟨hc, h1, h2⟩ | ⟨hc, h1, h2⟩ | ⟨hc, h1⟩ | ⟨hc, h1⟩
  · rw [Rp.part, if_pos (by omega), if_pos (by omega)]
    exact taken_bits A n c a s w hs hA h2 hc
  · rw [Rp.part, if_pos (by omega), if_neg (by omega)]
    exact taken_words A n c a s w hs hA (by omega) hc
  · rw [Rp.part, if_neg (by omega)]
    exact taken_none A n c a s w hs hA (by omega) (by omega)
  · rw [Rp.part, if_neg (by omega)]
    exact taken_none A n c a s w hs hA (by omega) (by omega)

open Ref7 (ret_none)
set_option maxHeartbeats 2000000 in
theorem data_any (A : Option Addr) (n c : Nat) (a : AskP) (s : ByteArray) (w : World) (hn : n ≤ 1000000) (hs : s.size ≤ 100000) (hA : Ints .i64 w w.heap.size A n a.vs) :
    Calls Try.prog 40 #[.agg #[.int .i64 a.fc, .int .i64 a.rd, .int .i64 a.ct, .int .i64 a.wr, .int .i64 a.mn, .slice A n c], .string s] w (RetInts (Rp.data a s) (Rp.norm a s) w) := by
  obtain ⟨X, hX⟩ : ∃ X, X = w.alloc (.cells #[.int .i64 a.fc, .int .i64 a.rd, .int .i64 a.ct, .int .i64 a.wr, .int .i64 a.mn, .slice A n c] 33) := ⟨_, rfl⟩
  have hkX : Keep w X := by rw [hX]; exact (Keep.refl w).alloc _
  have hbX : Boxed w.heap.size a A n c X := by rw [hX]; exact Boxed.new w a A n c 33
  have hltX : w.heap.size < X.heap.size := by rw [hX]; simp
  have HXB := Lib.hid (show ∀ W, Keep X W → Boxed w.heap.size a A n c W from fun W h => hbX.below h hltX)
  have hAX := hA.kept hkX
  obtain ⟨c0, c1, c2, c3, c4, c5⟩ := hbX
  have hmx : n ≤ maxLen := by unfold maxLen; omega
  cases hr : Ak.right a
  · have HNO := Lib.hid (Rp.norm_right (s := s) hr)
    go_enter Try.func40, Try.ntmps40
    go_wp2_with fail
    rw [← hX]
    refine (Ask.right_any A n c a _ hmx hAX).mono ?_
    rintro e w1 ⟨rfl, hk1⟩
    rw [hr]
    go_wp2
    go_ret2
    exact ret_none HNO.out _ _ _ (by rw [Rp.data, HNO.out]; rfl) (hkX.trans hk1) _ rfl
  by_cases hz : 253 < s.size
  · have dz : decide ((253 : Int) < (s.size : Int)) = true := by simp; omega
    have HNO := Lib.hid (show Rp.norm a s = false by
      cases hn : Rp.norm a s
      · rfl
      · have := (Rp.norm_iff hn).2.2.2.2; omega)
    go_enter Try.func40, Try.ntmps40
    go_wp2_with fail
    rw [← hX]
    refine (Ask.right_any A n c a _ hmx hAX).mono ?_
    rintro e w1 ⟨rfl, hk1⟩
    rw [hr]
    go_wp2
    go_ret2
    exact ret_none HNO.out _ _ _ (by rw [Rp.data, HNO.out]; rfl) (hkX.trans hk1) _ rfl
  have dz : decide ((253 : Int) < (s.size : Int)) = false := by simp; omega
  have hpl : (Rp.part a s).length ≤ 100000 := by
    unfold Rp.part
    have hsub : (Ak.sub s 2).size ≤ s.size := by rw [Ak.sub, st_size, List.length_drop, bl_length]; omega
    have h8 := Co.get_len8 (Ak.sub s 2) a.ct
    have h9 := Tw.getAll_len (Ak.sub s 2)
    split
    · split <;> omega
    · simp
  go_enter Try.func40, Try.ntmps40
  go_wp2_with fail
  rw [← hX]
  refine (Ask.right_any A n c a _ hmx hAX).mono ?_
  rintro e w1 ⟨rfl, hk1⟩
  rw [hr]
  obtain ⟨c0, c1, c2, c3, c4, c5⟩ := HXB.out _ hk1
  go_wp2_with fail
  refine (taken_any A n c a s _ hs (hAX.kept hk1) hr).mono ?_
  rintro e w2 ⟨A2, n2, c2', rfl, hI, hk2⟩
  replace hk1 := hk1.trans hk2
  clear hk2 c0 c1 c2 c3 c4 c5
  obtain ⟨c0, c1, c2, c3, c4, c5⟩ := HXB.out _ hk1
  have hm2 : n2 ≤ maxLen := by have := hI.1; unfold maxLen; omega
  clear hpl
  go_wp2_with fail
  refine (laid_any A A2 n c n2 c2' a (Rp.part a s) _ hmx hm2 (hAX.kept hk1) hI hr).mono ?_
  rintro e w3 ⟨rfl, hk3⟩
  obtain ⟨ok, hok⟩ : ∃ b, b = Rp.ok a (Rp.part a s) := ⟨_, rfl⟩
  obtain ⟨q, hq⟩ : ∃ b, b = st (Rp.make a (Rp.part a s)) := ⟨_, rfl⟩
  rw [← hok, ← hq]
  have HN := Lib.hid (show Rp.norm a s = (ok && s.toList == q.toList) by
    rw [Ref7.norm_of (Rp.part a s) rfl, hok, hq]
    congr 1
    exact BEq.comm)
  have hI3 := hI.kept hk3
  have k0 := (hkX.trans hk1).trans hk3
  clear hok hq c0 c1 c2 c3 c4 c5 hI
  cases ok
  · go_wp2
    go_ret2
    have hno : Rp.norm a s = false := by rw [HN.out]; rfl
    exact ret_none hno _ _ _ (by rw [Rp.data, hno]; rfl) k0 _ rfl
  · cases hcmp : (s.toList == q.toList)
    · have hcmp' : (s.toList != q.toList) = true := by rw [bne, hcmp]; rfl
      go_wp2
      go_ret2
      have hno : Rp.norm a s = false := by rw [HN.out, hcmp]; rfl
      exact ret_none hno _ _ _ (by rw [Rp.data, hno]; rfl) k0 _ rfl
    · go_wp2
      go_ret2
      have hyes : Rp.norm a s = true := by rw [HN.out, hcmp]; rfl
      exact ⟨A2, n2, c2', by rw [hyes]; rfl, by rw [Rp.data, hyes, if_pos rfl]; exact hI3, k0⟩

set_option maxHeartbeats 2000000 in
theorem kind_any (A : Option Addr) (n c : Nat) (a : AskP) (s : ByteArray) (w : World) (hn : n ≤ 1000000) (hs : s.size ≤ 100000) (hA : Ints .i64 w w.heap.size A n a.vs) :
    Calls Try.prog 28 #[.agg #[.int .i64 a.fc, .int .i64 a.rd, .int .i64 a.ct, .int .i64 a.wr, .int .i64 a.mn, .slice A n c], .string s] w
      fun e w' => e = .returned (.int .i64 (Rp.kind a s)) ∧ Keep w w' := by
  obtain ⟨X, hX⟩ : ∃ X, X = w.alloc (.cells #[.int .i64 a.fc, .int .i64 a.rd, .int .i64 a.ct, .int .i64 a.wr, .int .i64 a.mn, .slice A n c] 33) := ⟨_, rfl⟩
  have hkX : Keep w X := by rw [hX]; exact (Keep.refl w).alloc _
  have hbX : Boxed w.heap.size a A n c X := by rw [hX]; exact Boxed.new w a A n c 33
  have hltX : w.heap.size < X.heap.size := by rw [hX]; simp
  have HXB := Lib.hid (show ∀ W, Keep X W → Boxed w.heap.size a A n c W from fun W h => hbX.below h hltX)
  have hAX := hA.kept hkX
  obtain ⟨c0, c1, c2, c3, c4, c5⟩ := hbX
  have hmx : n ≤ maxLen := by unfold maxLen; omega
  cases hr : Ak.right a
  · have HK := Lib.hid (show Rp.kind a s = 0 by rw [Rp.kind, Rp.norm_right hr, hr]; rfl)
    go_enter Try.func28, Try.ntmps28
    go_wp2_with fail
    rw [← hX]
    refine (Ask.right_any A n c a _ hmx hAX).mono ?_
    rintro e w1 ⟨rfl, hk1⟩
    rw [hr]
    go_wp2
    go_ret
    exact ⟨ret_int (by rw [HK.out]), hkX.trans hk1⟩
  · have HK := Lib.hid (kind_isF hr s)
    go_enter Try.func28, Try.ntmps28
    go_wp2_with fail
    rw [← hX]
    refine (Ask.right_any A n c a _ hmx hAX).mono ?_
    rintro e w1 ⟨rfl, hk1⟩
    rw [hr]
    obtain ⟨c0, c1, c2, c3, c4, c5⟩ := HXB.out _ hk1
    go_wp2_with fail
    refine (isFault_any a.fc s _ hs).mono ?_
    rintro e w2 ⟨rfl, hk2⟩
    replace hk1 := hk1.trans hk2
    clear hk2 c0 c1 c2 c3 c4 c5
    obtain ⟨c0, c1, c2, c3, c4, c5⟩ := HXB.out _ hk1
    cases hi : isF a.fc s
    · skip
      go_wp2_with fail
      refine (data_any A n c a s _ hn hs (hAX.kept hk1)).mono ?_
      rintro e w3 ⟨A3, n3, c3', rfl, _, hk3⟩
      replace hk3 : Keep w2 w3 := hk3
      cases hno : Rp.norm a s
      · go_wp2
        go_ret
        exact ⟨ret_int (by rw [HK.out, hi, hno]; rfl), (hkX.trans hk1).trans hk3⟩
      · go_wp2
        go_ret
        exact ⟨ret_int (by rw [HK.out, hi, hno]; rfl), (hkX.trans hk1).trans hk3⟩
    · go_wp2
      go_ret
      exact ⟨ret_int (by rw [HK.out, hi]; rfl), hkX.trans hk1⟩
end Go.Proofs.Ytijnajlijdnbcaa.Reply
