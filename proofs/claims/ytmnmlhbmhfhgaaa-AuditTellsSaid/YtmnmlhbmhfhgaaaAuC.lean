/- Layer 23's own code: Right, and the parts of Put and Get. Conditions: texts of Go's sizes. -/
import Derived.Test.YtmnmlhbmhfhgaaaAuH
import Derived.Test.YtmnmlhbmhfhgaaaTw
import Derived.Test.YtmnmlhbmhfhgaaaTail
import Derived.Test.YtmnmlhbmhfhgaaaInt
namespace Go.Proofs.Ytmnmlhbmhfhgaaa.Audit
set_option linter.unusedVariables false
set_option linter.unusedSimpArgs false
set_option maxRecDepth 100000
open Go.ChangeShapes Go.WideShapes Go.ChangeAt Go.RowKit
open Au
open Ref23 (aggR encR encR_len encR_one bx9 RetAll cellsR row_one set9 set9_keep set9_box ret_bool ret_int ret_string keepq info_rec)
theorem from_any (n lo hi : Int) (w : World) :
    Calls Try.prog 23 #[.int .i64 lo, .int .i64 n, .int .i64 hi] w fun e w' => e = .returned (.bool (among n lo hi)) ∧ Quiet w w' := by
  have HE := Lib.hid (show among n lo hi = (decide (lo ≤ n) && decide (n ≤ hi)) from rfl)
  cases d1 : decide (lo ≤ n)
  · have HD := Lib.hid d1
    go_enter Try.func23, Try.ntmps23
    go_wp2
    go_ret
    exact ⟨ret_bool (by rw [HE.out, HD.out]; rfl), Quiet.refl _⟩
  · have HD := Lib.hid d1
    cases d2 : decide (n ≤ hi)
    · have HD2 := Lib.hid d2
      go_enter Try.func23, Try.ntmps23
      go_wp2
      go_ret
      exact ⟨ret_bool (by rw [HE.out, HD.out, HD2.out]; rfl), Quiet.refl _⟩
    · have HD2 := Lib.hid d2
      go_enter Try.func23, Try.ntmps23
      go_wp2
      go_ret
      exact ⟨ret_bool (by rw [HE.out, HD.out, HD2.out]; rfl), Quiet.refl _⟩
set_option maxHeartbeats 4000000 in
theorem right_any (r : RecP) (w : World) :
    Calls Try.prog 12 #[aggR r] w fun e w' => e = .returned (.bool (right r)) ∧ Keep w w' := by
  obtain ⟨X, hX⟩ : ∃ X, X = w.alloc (.cells #[.int .i64 r.sq, .int .i64 r.tk, .int .i64 r.kd, .int .i64 r.cn, .int .i64 r.un, .int .i64 r.fn, .int .i64 r.vd, .int .i64 r.rl, .int .i64 r.id] 23) := ⟨_, rfl⟩
  have k0 : Keep w X := by rw [hX]; exact (Keep.refl w).alloc _
  have B0 : Hid (Bx X w.heap.size (encR r)) := Lib.hid (by rw [hX]; exact Bx.newq rfl)
  obtain ⟨b0, hb0⟩ : ∃ b, b = among r.sq 0 1099511627776 := ⟨_, rfl⟩
  have H0 := Lib.hid fun W => from_any r.sq 0 1099511627776 W
  rw [← hb0] at H0
  obtain ⟨b1, hb1⟩ : ∃ b, b = among r.tk 0 1099511627776 := ⟨_, rfl⟩
  have H1 := Lib.hid fun W => from_any r.tk 0 1099511627776 W
  rw [← hb1] at H1
  obtain ⟨b2, hb2⟩ : ∃ b, b = among r.kd 1 4 := ⟨_, rfl⟩
  have H2 := Lib.hid fun W => from_any r.kd 1 4 W
  rw [← hb2] at H2
  obtain ⟨b3, hb3⟩ : ∃ b, b = among r.cn (-1) 15 := ⟨_, rfl⟩
  have H3 := Lib.hid fun W => from_any r.cn (-1) 15 W
  rw [← hb3] at H3
  obtain ⟨b4, hb4⟩ : ∃ b, b = among r.un 0 255 := ⟨_, rfl⟩
  have H4 := Lib.hid fun W => from_any r.un 0 255 W
  rw [← hb4] at H4
  obtain ⟨b5, hb5⟩ : ∃ b, b = among r.fn 0 255 := ⟨_, rfl⟩
  have H5 := Lib.hid fun W => from_any r.fn 0 255 W
  rw [← hb5] at H5
  obtain ⟨b6, hb6⟩ : ∃ b, b = among r.vd 0 255 := ⟨_, rfl⟩
  have H6 := Lib.hid fun W => from_any r.vd 0 255 W
  rw [← hb6] at H6
  obtain ⟨b7, hb7⟩ : ∃ b, b = among r.rl (-1) 63 := ⟨_, rfl⟩
  have H7 := Lib.hid fun W => from_any r.rl (-1) 63 W
  rw [← hb7] at H7
  obtain ⟨b8, hb8⟩ : ∃ b, b = among r.id 0 65535 := ⟨_, rfl⟩
  have H8 := Lib.hid fun W => from_any r.id 0 65535 W
  rw [← hb8] at H8
  have HE := Lib.hid (show right r = (b0 && (b1 && (b2 && (b3 && (b4 && (b5 && (b6 && (b7 && b8)))))))) by rw [hb0, hb1, hb2, hb3, hb4, hb5, hb6, hb7, hb8]; rfl)
  have HX := Lib.hid hX
  clear hX hb0 hb1 hb2 hb3 hb4 hb5 hb6 hb7 hb8
  obtain ⟨c0, c1, c2, c3, c4, c5, c6, c7, c8⟩ := bx9 B0.out
  go_enter Try.func12, Try.ntmps12
  go_wp2_with fail
  rw [← HX.out]
  refine (H0.out _).mono ?_
  rintro e v0 ⟨rfl, q⟩
  have t0 := q.keep
  clear c0 c1 c2 c3 c4 c5 c6 c7 c8 q
  obtain ⟨c0, c1, c2, c3, c4, c5, c6, c7, c8⟩ := bx9 (B0.out.kept t0)
  cases b0
  · go_wp2
    go_ret
    exact ⟨ret_bool (by rw [HE.out]; rfl), k0.trans t0⟩
  go_wp2_with fail
  refine (H1.out _).mono ?_
  rintro e v1 ⟨rfl, q⟩
  have t1 := t0.trans q.keep
  clear c0 c1 c2 c3 c4 c5 c6 c7 c8 q
  obtain ⟨c0, c1, c2, c3, c4, c5, c6, c7, c8⟩ := bx9 (B0.out.kept t1)
  cases b1
  · go_wp2
    go_ret
    exact ⟨ret_bool (by rw [HE.out]; rfl), k0.trans t1⟩
  go_wp2_with fail
  refine (H2.out _).mono ?_
  rintro e v2 ⟨rfl, q⟩
  have t2 := t1.trans q.keep
  clear c0 c1 c2 c3 c4 c5 c6 c7 c8 q
  obtain ⟨c0, c1, c2, c3, c4, c5, c6, c7, c8⟩ := bx9 (B0.out.kept t2)
  cases b2
  · go_wp2
    go_ret
    exact ⟨ret_bool (by rw [HE.out]; rfl), k0.trans t2⟩
  go_wp2_with fail
  refine (H3.out _).mono ?_
  rintro e v3 ⟨rfl, q⟩
  have t3 := t2.trans q.keep
  clear c0 c1 c2 c3 c4 c5 c6 c7 c8 q
  obtain ⟨c0, c1, c2, c3, c4, c5, c6, c7, c8⟩ := bx9 (B0.out.kept t3)
  cases b3
  · go_wp2
    go_ret
    exact ⟨ret_bool (by rw [HE.out]; rfl), k0.trans t3⟩
  go_wp2_with fail
  refine (H4.out _).mono ?_
  rintro e v4 ⟨rfl, q⟩
  have t4 := t3.trans q.keep
  clear c0 c1 c2 c3 c4 c5 c6 c7 c8 q
  obtain ⟨c0, c1, c2, c3, c4, c5, c6, c7, c8⟩ := bx9 (B0.out.kept t4)
  cases b4
  · go_wp2
    go_ret
    exact ⟨ret_bool (by rw [HE.out]; rfl), k0.trans t4⟩
  go_wp2_with fail
  refine (H5.out _).mono ?_
  rintro e v5 ⟨rfl, q⟩
  have t5 := t4.trans q.keep
  clear c0 c1 c2 c3 c4 c5 c6 c7 c8 q
  obtain ⟨c0, c1, c2, c3, c4, c5, c6, c7, c8⟩ := bx9 (B0.out.kept t5)
  cases b5
  · go_wp2
    go_ret
    exact ⟨ret_bool (by rw [HE.out]; rfl), k0.trans t5⟩
  go_wp2_with fail
  refine (H6.out _).mono ?_
  rintro e v6 ⟨rfl, q⟩
  have t6 := t5.trans q.keep
  clear c0 c1 c2 c3 c4 c5 c6 c7 c8 q
  obtain ⟨c0, c1, c2, c3, c4, c5, c6, c7, c8⟩ := bx9 (B0.out.kept t6)
  cases b6
  · go_wp2
    go_ret
    exact ⟨ret_bool (by rw [HE.out]; rfl), k0.trans t6⟩
  go_wp2_with fail
  refine (H7.out _).mono ?_
  rintro e v7 ⟨rfl, q⟩
  have t7 := t6.trans q.keep
  clear c0 c1 c2 c3 c4 c5 c6 c7 c8 q
  obtain ⟨c0, c1, c2, c3, c4, c5, c6, c7, c8⟩ := bx9 (B0.out.kept t7)
  cases b7
  · go_wp2
    go_ret
    exact ⟨ret_bool (by rw [HE.out]; rfl), k0.trans t7⟩
  go_wp2_with fail
  refine (H8.out _).mono ?_
  rintro e v8 ⟨rfl, q⟩
  have t8 := t7.trans q.keep
  clear c0 c1 c2 c3 c4 c5 c6 c7 c8 q
  obtain ⟨c0, c1, c2, c3, c4, c5, c6, c7, c8⟩ := bx9 (B0.out.kept t8)
  go_wp2
  go_ret
  exact ⟨ret_bool (by rw [HE.out]; rfl), k0.trans t8⟩
theorem none_any (b : Int) (w : World) (h0 : 0 ≤ b) (h1 : b ≤ 255) :
    Calls Try.prog 29 #[.int .u8 b] w fun e w' => e = .returned (.int .i64 (less b)) ∧ Quiet w w' := by
  by_cases h : b = 255
  · have d : (b == 255) = true := by simp [h]
    have HE := Lib.hid (show less b = -1 by unfold less; rw [if_pos h])
    clear h
    go_enter Try.func29, Try.ntmps29
    go_wp2
    go_ret
    exact ⟨ret_int (by rw [HE.out]), Quiet.refl _⟩
  · have d : (b == 255) = false := by simp [h]
    have HE := Lib.hid (show less b = b by unfold less; rw [if_neg h])
    clear h
    go_enter Try.func29, Try.ntmps29
    go_wp2
    go_ret
    exact ⟨ret_int (by rw [HE.out]), Quiet.refl _⟩
/-- The number that the first k bytes from a place on tell. -/
def acc (s : ByteArray) (i : Int) : Nat → Int
  | 0 => 0
  | k + 1 => acc s i k * 256 + byteAt s (i + (k : Int))
theorem acc_six (s : ByteArray) (i : Int) : acc s i 6 = num6 s i := by
  unfold num6 Tw.num
  simp only [acc]
  rw [show i + 2 + 1 = i + 3 by omega, show i + 4 + 1 = i + 5 by omega, show i + ((0 : Nat) : Int) = i by omega]
  simp only [Nat.zero_add, Nat.reduceAdd, Int.natCast_one, Int.cast_ofNat_Int]
  omega
theorem acc_range (s : ByteArray) (i : Int) : ∀ k : Nat, 0 ≤ acc s i k ∧ acc s i k < (256 : Int) ^ k
  | 0 => by simp [acc]
  | k + 1 => by
    have h := acc_range s i k
    have r := byteAt_range s (i + (k : Int))
    simp only [acc, Int.pow_succ]
    omega
theorem acc_small (s : ByteArray) (i : Int) (k : Nat) (hk : k < 6) : 0 ≤ acc s i k ∧ acc s i k ≤ 1099511627776 := by
  have h := acc_range s i k
  have e : (256 : Int) ^ k ≤ 256 ^ 5 := by
    have := Nat.pow_le_pow_right (show 0 < 256 by omega) (show k ≤ 5 by omega)
    exact_mod_cast this
  omega
theorem or_byte (a b : Int) (ha : 0 ≤ a ∧ a ≤ 1099511627776) (hb : 0 ≤ b ∧ b ≤ 255) : bits .or .i64 (a * 256) b = a * 256 + b := by
  obtain ⟨x, rfl⟩ := Int.eq_ofNat_of_zero_le ha.1
  obtain ⟨y, rfl⟩ := Int.eq_ofNat_of_zero_le hb.1
  have h := Tw.i64_or_nat (x * 256) y (by omega) (by omega)
  have e : (x * 256) ||| y = x * 256 + y := by
    have := Nat.two_pow_add_eq_or_of_lt (i := 8) (b := y) (by omega) x
    rw [Nat.mul_comm x 256]
    simpa using this.symm
  rw [e] at h
  exact h
set_option maxHeartbeats 1000000 in
theorem number_any (s : ByteArray) (i : Int) (w : World) (hs : s.size = 20) (h0 : 0 ≤ i) (h1 : i ≤ 14) :
    Calls Try.prog 28 #[.string s, .int .i64 i] w fun e w' => e = .returned (.int .i64 (num6 s i)) ∧ Quiet w w' := by
  have HS := Lib.hid hs
  clear hs
  go_enter Try.func28, Try.ntmps28
  go_wp2
  go_loopw [5, 7] (fun n iv wr => ∃ k : Nat, k ≤ 6 ∧ iv = .int .i64 (k : Int) ∧ n = .int .i64 (acc s i k) ∧ Quiet w wr) (fun _ iv _ => 6 - (intOf iv).toNat)
  case atStart => exact ⟨0, by omega, rfl, rfl, Quiet.refl _⟩
  case round =>
    obtain ⟨k, hk, rfl, rfl, hq⟩ := hrel
    by_cases hlt : k < 6
    · have hx := idx (P := Try.prog) (k := .i64) s (i + (k : Int)) Try.underlying9 (by omega) (by have := HS.out; omega)
      have hr := byteAt_range s (i + (k : Int))
      have ha := acc_small s i k hlt
      have HA := Lib.hid (show acc s i (k + 1) = acc s i k * 256 + byteAt s (i + (k : Int)) from rfl)
      obtain ⟨a, hA⟩ : ∃ a, a = acc s i k := ⟨_, rfl⟩
      obtain ⟨b, hB⟩ : ∃ b, b = byteAt s (i + (k : Int)) := ⟨_, rfl⟩
      rw [← hA] at ha HA ⊢
      rw [← hB] at hx hr HA
      have ho := or_byte a b ha hr
      clear hA hB
      obtain ⟨a1, a2⟩ := ha
      obtain ⟨r1, r2⟩ := hr
      go_wp2
      refine ⟨⟨k + 1, by omega, by go_num, ?_, hq⟩, by simp [intOf]; omega⟩
      rw [HA.out]
    · obtain rfl : k = 6 := by omega
      have HA := Lib.hid (acc_six s i)
      go_wp2
      go_ret
      exact ⟨ret_int HA.out, hq⟩
theorem cell_of {z : Int} (h0 : 0 ≤ z) (h1 : z ≤ 255) : bv (UInt8.ofNat z.toNat) = .int .u8 z := by
  unfold bv
  rw [ofNat_val z h0 h1]
theorem six_cells {n : Int} (h0 : 0 ≤ n) (h1 : n ≤ 1099511627776) : (six n).map bv = [.int .u8 (n / 1099511627776), .int .u8 (n / 4294967296 % 256), .int .u8 (n / 16777216 % 256), .int .u8 (n / 65536 % 256), .int .u8 (n / 256 % 256), .int .u8 (n % 256)] := by
  unfold six
  rw [List.map_append, List.map_append, Tw.two_cells (by omega) (by omega), Tw.two_cells (by omega) (by omega), Tw.two_cells (by omega) (by omega)]
  simp only [List.cons_append, List.nil_append]
  rw [show n / 65536 / 65536 / 256 = n / 1099511627776 by omega, show n / 65536 / 65536 % 256 = n / 4294967296 % 256 by omega, show n / 65536 % 65536 / 256 = n / 16777216 % 256 by omega, show n / 65536 % 65536 % 256 = n / 65536 % 256 by omega, show n % 65536 / 256 = n / 256 % 256 by omega, show n % 65536 % 256 = n % 256 by omega]
set_option maxHeartbeats 2000000 in
theorem lay_any (base : Nat) (v : Value) (m : Nat) (l : List UInt8) (n : Int) (w : World) (h0 : 0 ≤ n) (h1 : n ≤ 1099511627776) (hm : m ≤ 1000) (hbase : base ≤ w.heap.size) (hown : w.ownsRow base 5 1 v m (l.map bv)) :
    Calls Try.prog 15 #[v, .int .i64 n] w fun e w' => ∃ v', e = .returned v' ∧ w'.ownsRow base 5 1 v' (m + 6) ((l ++ six n).map bv) ∧ Below base w w' := by
  obtain ⟨A, c, rfl⟩ := own_slice hown
  have HC := Lib.hid (six_cells h0 h1)
  go_enter Try.func15, Try.ntmps15
  go_wp2
  go_loopw [0, 5] (fun v iv wr => ∃ k : Nat, k ≤ 6 ∧ iv = .int .i64 (5 - (k : Int)) ∧ wr.ownsRow base 5 1 v (m + k) ((l ++ (six n).take k).map bv) ∧ Below base w wr) (fun _ iv _ => (intOf iv + 1).toNat)
  case atStart => exact ⟨0, by omega, rfl, by simpa using hown, Below.refl _ _⟩
  case round =>
    obtain ⟨k, hk, rfl, hown, hbel⟩ := hrel
    have hs := hbel.size
    obtain ⟨A, c, rfl⟩ := own_slice hown
    obtain rfl | rfl | rfl | rfl | rfl | rfl | rfl : k = 0 ∨ k = 1 ∨ k = 2 ∨ k = 3 ∨ k = 4 ∨ k = 5 ∨ k = 6 := by omega
    case inr.inr.inr.inr.inr.inr =>
      go_wp2
      go_ret
      exact ⟨_, rfl, hown, hbel⟩
    case inr.inr.inr.inr.inr.inl =>
      go_wp2_with (at_builtin; refine append_new rfl _ _ 36 rfl base 5 (.int .u8 0) 1 1 Try.underlying36 Twin.info_uint8 rfl (by decide) _ _ _ rfl hown (by omega) 1 _ rfl rfl (by intro u hu; simp at hu; subst hu; rfl) (by unfold maxLen; omega) (by omega) ?_)
      intro v' w1 hown' hb1
      clear hown
      go_wp2
      exact ⟨⟨6, by omega, rfl, by simpa [List.map_append, List.map_take, HC.out] using hown', hbel.trans hb1⟩, by simp [intOf]⟩
    case inr.inr.inr.inr.inl =>
      go_wp2_with (at_builtin; refine append_new rfl _ _ 36 rfl base 5 (.int .u8 0) 1 1 Try.underlying36 Twin.info_uint8 rfl (by decide) _ _ _ rfl hown (by omega) 1 _ rfl rfl (by intro u hu; simp at hu; subst hu; rfl) (by unfold maxLen; omega) (by omega) ?_)
      intro v' w1 hown' hb1
      clear hown
      go_wp2
      exact ⟨⟨5, by omega, rfl, by simpa [List.map_append, List.map_take, HC.out] using hown', hbel.trans hb1⟩, by simp [intOf]⟩
    case inr.inr.inr.inl =>
      go_wp2_with (at_builtin; refine append_new rfl _ _ 36 rfl base 5 (.int .u8 0) 1 1 Try.underlying36 Twin.info_uint8 rfl (by decide) _ _ _ rfl hown (by omega) 1 _ rfl rfl (by intro u hu; simp at hu; subst hu; rfl) (by unfold maxLen; omega) (by omega) ?_)
      intro v' w1 hown' hb1
      clear hown
      go_wp2
      exact ⟨⟨4, by omega, rfl, by simpa [List.map_append, List.map_take, HC.out] using hown', hbel.trans hb1⟩, by simp [intOf]⟩
    case inr.inr.inl =>
      go_wp2_with (at_builtin; refine append_new rfl _ _ 36 rfl base 5 (.int .u8 0) 1 1 Try.underlying36 Twin.info_uint8 rfl (by decide) _ _ _ rfl hown (by omega) 1 _ rfl rfl (by intro u hu; simp at hu; subst hu; rfl) (by unfold maxLen; omega) (by omega) ?_)
      intro v' w1 hown' hb1
      clear hown
      go_wp2
      exact ⟨⟨3, by omega, rfl, by simpa [List.map_append, List.map_take, HC.out] using hown', hbel.trans hb1⟩, by simp [intOf]⟩
    case inr.inl =>
      go_wp2_with (at_builtin; refine append_new rfl _ _ 36 rfl base 5 (.int .u8 0) 1 1 Try.underlying36 Twin.info_uint8 rfl (by decide) _ _ _ rfl hown (by omega) 1 _ rfl rfl (by intro u hu; simp at hu; subst hu; rfl) (by unfold maxLen; omega) (by omega) ?_)
      intro v' w1 hown' hb1
      clear hown
      go_wp2
      exact ⟨⟨2, by omega, rfl, by simpa [List.map_append, List.map_take, HC.out] using hown', hbel.trans hb1⟩, by simp [intOf]⟩
    case inl =>
      go_wp2_with (at_builtin; refine append_new rfl _ _ 36 rfl base 5 (.int .u8 0) 1 1 Try.underlying36 Twin.info_uint8 rfl (by decide) _ _ _ rfl hown (by omega) 1 _ rfl rfl (by intro u hu; simp at hu; subst hu; rfl) (by unfold maxLen; omega) (by omega) ?_)
      intro v' w1 hown' hb1
      clear hown
      go_wp2
      exact ⟨⟨1, by omega, rfl, by simpa [List.map_append, List.map_take, HC.out] using hown', hbel.trans hb1⟩, by simp [intOf]⟩
theorem results_cell {fn : Func} {p : Tmp} {ty : TypeId} (h : fn.results = #[.cell p ty]) (tmps : Array Value) (P : Program) (w : World) :
    (results fn tmps).run P w = ((asAddr (tmps.getD p undef)).run P w).andThen fun a w₁ => ((loadVar ty a).run P w₁).andThen fun v w₂ => .ok v w₂ := by
  simp only [results, h]
  simp [Sem.run_bind, Result.andThen]
  cases (asAddr (tmps[p]?.getD undef)).run P w with
  | ok a w1 => simp only; cases (loadVar ty a).run P w1 <;> rfl
  | halt h w1 => rfl
set_option maxHeartbeats 4000000 in
theorem read_any (s : ByteArray) (w : World) (hs : s.size = 20) :
    Calls Try.prog 19 #[.string s] w fun e w' => e = .returned (aggR (Au.read s)) ∧ Keep w w' := by
  obtain ⟨X, hX⟩ : ∃ X, X = w.alloc (.cells #[.int .i64 0, .int .i64 0, .int .i64 0, .int .i64 0, .int .i64 0, .int .i64 0, .int .i64 0, .int .i64 0, .int .i64 0] 23) := ⟨_, rfl⟩
  have k0 : Keep w X := by rw [hX]; exact (Keep.refl w).alloc _
  have B0 : Hid (Bx X w.heap.size (encR zero)) := Lib.hid (by rw [hX]; exact Bx.newq rfl)
  have F0 : Hid (∀ j, X.frozen? ⟨w.heap.size, j, none⟩ = false) := Lib.hid fun j => by rw [hX]; go_simp
  have HZ : Hid (X.heap.size = w.heap.size + 1) := Lib.hid (by rw [hX]; simp)
  have HX := Lib.hid hX
  clear hX
  obtain ⟨r, hr⟩ : ∃ r, r = Au.read s := ⟨_, rfl⟩
  have N0 := Lib.hid fun W => number_any s 0 W hs (by omega) (by omega)
  have N6 := Lib.hid fun W => number_any s 6 W hs (by omega) (by omega)
  have L1 := Lib.hid fun W => none_any (byteAt s 13) W (byteAt_range s 13).1 (byteAt_range s 13).2
  have L2 := Lib.hid fun W => none_any (byteAt s 17) W (byteAt_range s 17).1 (byteAt_range s 17).2
  have T := Lib.hid fun W => Twin.get_any s 18 W (by unfold maxLen; omega)
  rw [show num6 s 0 = r.sq by rw [hr]; rfl] at N0
  rw [show num6 s 6 = r.tk by rw [hr]; rfl] at N6
  rw [show less (byteAt s 13) = r.cn by rw [hr]; rfl] at L1
  rw [show less (byteAt s 17) = r.rl by rw [hr]; rfl] at L2
  rw [show Tw.get s 18 = r.id by rw [hr]; unfold Tw.get; rw [if_pos (by simp [Tw.getOk, hs])]; rfl] at T
  have x12 := idx (P := Try.prog) (k := .i64) s 12 Try.underlying9 (by omega) (by omega)
  have x13 := idx (P := Try.prog) (k := .i64) s 13 Try.underlying9 (by omega) (by omega)
  have x14 := idx (P := Try.prog) (k := .i64) s 14 Try.underlying9 (by omega) (by omega)
  have x15 := idx (P := Try.prog) (k := .i64) s 15 Try.underlying9 (by omega) (by omega)
  have x16 := idx (P := Try.prog) (k := .i64) s 16 Try.underlying9 (by omega) (by omega)
  have x17 := idx (P := Try.prog) (k := .i64) s 17 Try.underlying9 (by omega) (by omega)
  have r12 := byteAt_range s 12
  have r14 := byteAt_range s 14
  have r15 := byteAt_range s 15
  have r16 := byteAt_range s 16
  rw [show byteAt s 12 = r.kd by rw [hr]; rfl] at x12 r12
  rw [show byteAt s 14 = r.un by rw [hr]; rfl] at x14 r14
  rw [show byteAt s 15 = r.fn by rw [hr]; rfl] at x15 r15
  rw [show byteAt s 16 = r.vd by rw [hr]; rfl] at x16 r16
  obtain ⟨ra, rb⟩ := r12
  obtain ⟨rc, rd⟩ := r14
  obtain ⟨re, rf⟩ := r15
  obtain ⟨rg, rh⟩ := r16
  rw [← hr]
  clear hr hs
  go_enter Try.func19, Try.ntmps19
  go_wp2_with fail
  rw [← HX.out]
  refine (T.out _).mono ?_
  rintro e w1 ⟨rfl, q1⟩
  have k1 := q1.keep
  have kw := k0.trans k1
  have B1 := Lib.hid (B0.out.kept k1)
  have F1 := Lib.hid fun j => (Below.frozen k1 B0.out.1).trans (F0.out j)
  clear q1 k1
  go_wp2_with fail
  have y0 := fun p : KeptOf w1 => keepq (N0.out p.w)
  have y6 := fun p : KeptOf w1 => keepq (N6.out p.w)
  have z1 := fun p : KeptOf w1 => keepq (L1.out p.w)
  have z2 := fun p : KeptOf w1 => keepq (L2.out p.w)
  refine wp_region_kept_tail 24 (by kernel_rfl) (by kernel_rfl) ?_
  simp only [List.take_succ_cons, List.take_zero, List.drop_succ_cons, List.drop_zero]
  repeat (go_big_quiet_step (first | with_reducible exact KeptOf.of (y0 _) | with_reducible exact KeptOf.of (y6 _) | with_reducible exact KeptOf.of (z1 _) | with_reducible exact KeptOf.of (z2 _)))
  refine Go.wpQuiet_nil ?_
  intro p
  clear y0 y6 z1 z2 x12 x13 x14 x15 x16 x17 ra rb rc rd re rf rg rh
  have bq := B1.out.kept p.h
  obtain ⟨c0, c1, c2, c3, c4, c5, c6, c7, c8⟩ := bx9 bq
  have rfz := fun j => (Below.frozen p.h B1.out.1).trans (F1.out j)
  have kp := kw.trans p.h
  clear bq
  go_wp2
  (try simp only [Exit.inBlock, Exit.then])
  refine bodyPost_ret (v := aggR r) ?_ rfl ⟨rfl, set9_keep kp (Nat.le_refl _) r⟩
  rw [results_cell rfl]
  go_simp
end Go.Proofs.Ytmnmlhbmhfhgaaa.Audit
