/- Of these texts: ReM, Re, ReR, ReR3. Conditions: as each part says. -/
import Derived.Test.YtaciogcpghbhjaaGreatChecked
import Derived.Test.YtaciogcpghbhjaaGreatZTFp
import Derived.Tactics
import Derived.Tactics2
import Derived.StillTactics
import Derived.WalkLawsBesides
import Derived.Laws.Externs
import Derived.KernelRfl
import Derived.Laws.OwnMore
/- Package math's few functions that the seat calls: each answers what the plain words of FpC say. Conditions: none. -/
namespace Go.Proofs.YtaciogcpghbhjaaGreat.Re
open Go.Proofs.YtaciogcpghbhjaaGreat.Fp Go.ChangeShapes Go.WideShapes Go.ChangeAt Go.RowKit
theorem call_from (b : Nat) (w : World) : (callFunc 154 #[.int .u64 (b : Int)]).run Tryz.prog w = .ok (.value (.float .f64 b)) w := by
 rw [run_callFunc_extern (e := Extern.MathFloatBits.float64frombits) Tryz.func154 (by kernel_rfl) (by kernel_rfl) (by kernel_rfl) (by kernel_rfl)]
 rfl
end Go.Proofs.YtaciogcpghbhjaaGreat.Re
/- Layer 3: each function answers what the plain words of ReA say. Conditions: none. -/
namespace Go.Proofs.YtaciogcpghbhjaaGreat.Re
open Go.Proofs.YtaciogcpghbhjaaGreat.Fp Go.ChangeShapes Go.WideShapes Go.ChangeAt Go.RowKit
def leB (a b : Nat) : Bool := FloatKind.f64.format.order a b == some Ordering.lt || FloatKind.f64.format.order a b == some Ordering.eq
def withB (x low high : Nat) : Bool := leB low x && leB x high
theorem within_any (x low high : Nat) (w : World) : Calls Tryz.prog 139 #[.float .f64 x, .float .f64 low, .float .f64 high] w fun e w' => e = .returned (.bool (withB x low high)) ∧ w = w' := by
 cases h1 : leB low x
 ·have h1' : (FloatKind.f64.format.order low x == some Ordering.lt || FloatKind.f64.format.order low x == some Ordering.eq) = false := h1
  go_enter Tryz.func139, Tryz.ntmps139
  go_wp2
  go_ret
  exact ⟨by unfold withB; rw [h1]; rfl, rfl⟩
 ·have h1' : (FloatKind.f64.format.order low x == some Ordering.lt || FloatKind.f64.format.order low x == some Ordering.eq) = true := h1
  go_enter Tryz.func139, Tryz.ntmps139
  go_wp2
  go_ret
  exact ⟨by unfold withB; rw [h1]; rfl, rfl⟩
def OfRel (w : World) (zs : List Int) (v i : Value) (wr : World) : Prop :=
 ∃ k : Nat, k <= 4 ∧ i = .int .i64 (k : Int) ∧ v = .int .u64 ((bitsL (zs.take k) : Nat) : Int) ∧ Tw.allIn (zs.take k) = true ∧ wr = w
set_option maxHeartbeats 400000 in
theorem of_any (A : Option Addr) (n c : Nat) (zs : List Int) (w : World) (hA : Ints .i64 w w.heap.size A n zs) :
  Calls Tryz.prog 145 #[.slice A n c] w fun e w' => e = .returned (.tuple #[.float .f64 (ofB zs), .bool (okL zs)]) ∧ w = w' := by
 have hlen := hA.1
 have HL := Lib.hid hlen
 clear hlen
 by_cases hn : n = 4
 ·subst hn
  go_enter Tryz.func145, Tryz.ntmps145
  go_wp2
  go_loopw [4, 12] (fun v i wr => OfRel w zs v i wr) (fun _ i _ => 4 - (intOf i).toNat)
  case atStart => exact ⟨0, by omega, rfl, rfl, rfl, rfl⟩
  case round =>
   obtain ⟨k, hk, rfl, rfl, hall, rfl⟩ := hrel
   have HALL := Lib.hid hall
   clear hall
   by_cases hlt : k < 4
   ·obtain ⟨b, off, rfl, hb, hc⟩ := hA.2 (by omega)
    have hck := hc k hlt
    clear hc
    obtain ⟨z, hz⟩ : ∃ z, z = zs.getD k 0 := ⟨_, rfl⟩
    rw [<- hz] at hck
    have HZ := Lib.hid hz
    clear hz
    by_cases h0 : z < 0
    ·go_wp2
     go_ret2
     have e := Tw.allIn_false zs k (by rw [HL.out]; exact hlt) (by rw [<- HZ.out]; exact Tw.not_inR (.inl h0))
     unfold ofB okL
     rw [e, Bool.and_false]
     exact ⟨rfl, rfl⟩
    ·by_cases h1 : 65535 < z
     ·go_wp2
      go_ret2
      have e := Tw.allIn_false zs k (by rw [HL.out]; exact hlt) (by rw [<- HZ.out]; exact Tw.not_inR (.inr h1))
      unfold ofB okL
      rw [e, Bool.and_false]
      exact ⟨rfl, rfl⟩
     ·go_wp2
      go_roundw
      case rel =>
       have hm := bitsL_lt _ HALL.out
       rw [List.length_take, HL.out, Nat.min_eq_left (by omega)] at hm
       have hm2 : bitsL (zs.take k) < 281474976710656 := Nat.lt_of_lt_of_le hm (show 65536 ^ k <= 65536 ^ 3 from Nat.pow_le_pow_right (by decide) (by omega))
       refine ⟨k + 1, by omega, by go_num, ?_, ?_, rfl⟩
       ·obtain ⟨zn, rfl⟩ := Int.eq_ofNat_of_zero_le (show 0 <= z by omega)
        rw [Tw.take_snoc zs k (by rw [HL.out]; exact hlt), bitsL_snoc, <- HZ.out, IntKind.wrap_u64, Int.emod_eq_of_lt (by omega) (by omega), u64_or _ _ hm2 (by omega)]
        rfl
       ·rw [Tw.take_snoc zs k (by rw [HL.out]; exact hlt), Tw.allIn_snoc, HALL.out, <- HZ.out, Tw.inR_of (by omega) (by omega)]; rfl
      case measure => simp [intOf]; omega
   ·obtain rfl : k = 4 := by omega
    have hf := call_from (bitsL (zs.take 4))
    go_wp2
    go_ret2
    have e := HALL.out
    rw [List.take_of_length_le (by rw [HL.out]; omega)] at e ⊢
    unfold ofB okL
    rw [e, HL.out]
    exact ⟨rfl, rfl⟩
 ·have hne : ((n : Int) == 4) = false := by simp; omega
  go_enter Tryz.func145, Tryz.ntmps145
  go_wp2
  go_ret2
  unfold ofB okL
  rw [HL.out, decide_eq_false hn]
  exact ⟨rfl, rfl⟩
end Go.Proofs.YtaciogcpghbhjaaGreat.Re
/- Layer 3's reference: each function answers what the plain words of ReA say. Conditions: none. -/
namespace Go.Proofs.YtaciogcpghbhjaaGreat.Ref3
open Go.Proofs.YtaciogcpghbhjaaGreat.Fp Go.Proofs.YtaciogcpghbhjaaGreat.Re Go.ChangeShapes Go.WideShapes Go.ChangeAt Go.RowKit
theorem minus_any (s : Bool) {v : Nat} (hv : Ex v) (w : World) : Calls Tryz.prog 113 #[.float .f64 (fl s v)] w fun e w' => e = .returned (.bool s) ∧ w = w' := by
 have h1 := lt0 (s := s) hv
 have h2 := eq0 (s := s) hv
 by_cases h0 : v = 0
 ·subst h0
  have hq : ∀ t w, (binOp .quo t (.float .f64 4607182418800017408) (.float .f64 (fl s 0))).run Tryz.prog w = .ok (.float .f64 (fl s top)) w := fun t w => run_float_arith w .quo t .f64 _ _ _ (one_over s)
  have h3 := lt0 (s := s) ex_top
  rw [decide_eq_true (show top ≠ 0 from Nat.ne_of_gt top_pos), Bool.and_true] at h3
  rw [decide_eq_false (by simp), Bool.and_false] at h1
  rw [decide_eq_true rfl] at h2
  go_enter Tryz.func113, Tryz.ntmps113
  go_wp2
  go_ret
  exact ⟨rfl, rfl⟩
 ·rw [decide_eq_true h0, Bool.and_true] at h1
  rw [decide_eq_false h0] at h2
  cases s
  ·go_enter Tryz.func113, Tryz.ntmps113
   go_wp2
   go_ret
   exact ⟨rfl, rfl⟩
  ·go_enter Tryz.func113, Tryz.ntmps113
   go_wp2
   go_ret
   exact ⟨rfl, rfl⟩
theorem nan_any (w : World) : Calls Tryz.prog 121 #[] w fun e w' => ∃ r, e = .returned (.float .f64 r) ∧ IsN r ∧ r < 18446744073709551616 ∧ Quiet w w' := by
 have hq : ∀ t w, (binOp .quo t (.float .f64 0) (.float .f64 0)).run Tryz.prog w = .ok (.float .f64 (Question.cut (.nanBits .f64 0 0) (w.tape w.drawn (.nanBits .f64 0 0)))) w.drew := by
  intro t w
  have h : FloatKind.f64.format.div 0 0 = none := nought_over
  simp [binOp, Op.floatArith, h, Question.forced]
 go_enter Tryz.func121, Tryz.ntmps121
 go_wp2
 go_ret
 have := isN_cut 0 0 (w.tape w.drawn (.nanBits .f64 0 0))
 exact ⟨_, rfl, this.1, this.2, (Quiet.refl w).drew⟩
theorem inf_any (w : World) : Calls Tryz.prog 122 #[] w fun e w' => e = .returned (.float .f64 (fl false top)) ∧ w = w' := by
 have hq : ∀ t w, (binOp .quo t (.float .f64 4607182418800017408) (.float .f64 0)).run Tryz.prog w = .ok (.float .f64 (fl false top)) w := fun t w => run_float_arith w .quo t .f64 _ _ _ (by have := one_over false; rw [fl_zero] at this; exact this)
 go_enter Tryz.func122, Tryz.ntmps122
 go_wp2
 go_ret
 exact ⟨rfl, rfl⟩
theorem within_any (x low high : Nat) (w : World) : Calls Tryz.prog 90 #[.float .f64 x, .float .f64 low, .float .f64 high] w fun e w' => e = .returned (.bool (withB x low high)) ∧ w = w' := by
 cases h1 : leB low x
 ·have h1' : (FloatKind.f64.format.order low x == some Ordering.lt || FloatKind.f64.format.order low x == some Ordering.eq) = false := h1
  go_enter Tryz.func90, Tryz.ntmps90
  go_wp2
  go_ret
  exact ⟨by unfold withB; rw [h1]; rfl, rfl⟩
 ·have h1' : (FloatKind.f64.format.order low x == some Ordering.lt || FloatKind.f64.format.order low x == some Ordering.eq) = true := h1
  go_enter Tryz.func90, Tryz.ntmps90
  go_wp2
  go_ret
  exact ⟨by unfold withB; rw [h1]; rfl, rfl⟩
set_option maxHeartbeats 400000 in
theorem same_any (a b : Nat) (ha : a < 18446744073709551616) (hb : b < 18446744073709551616) (w : World) : Calls Tryz.prog 125 #[.float .f64 a, .float .f64 b] w fun e w' => e = .returned (.bool (sameB a b)) ∧ w = w' := by
 cases hna : nanB a <;> cases hnb : nanB b
 ·have hna' : (FloatKind.f64.format.order a a != some Ordering.eq) = false := hna
  have hnb' : (FloatKind.f64.format.order b b != some Ordering.eq) = false := hnb
  obtain ⟨s, v, hv, e1⟩ : ∃ s v, Ex v ∧ a = fl s v := by
   rcases kinds ha with ⟨_, h⟩ | ⟨_, h⟩
   ·rw [hna] at h; cases h
   ·exact h
  obtain ⟨t, u, hu, e2⟩ : ∃ s v, Ex v ∧ b = fl s v := by
   rcases kinds hb with ⟨_, h⟩ | ⟨_, h⟩
   ·rw [hnb] at h; cases h
   ·exact h
  have m1 := fun w => minus_any s hv w
  have m2 := fun w => minus_any t hu w
  have s1 := signB_fl (s := s) hv
  have s2 := signB_fl (s := t) hu
  rw [<- e1] at m1 s1
  rw [<- e2] at m2 s2
  clear e1 e2
  cases heq : (FloatKind.f64.format.order a b == some Ordering.eq)
  ·go_enter Tryz.func125, Tryz.ntmps125
   go_wp2
   go_ret
   exact ⟨by unfold sameB; rw [hna, hnb, heq]; rfl, rfl⟩
  ·go_enter Tryz.func125, Tryz.ntmps125
   go_wp2_with fail
   refine (m1 _).mono ?_
   rintro e w1 ⟨rfl, rfl⟩
   go_wp2_with fail
   refine (m2 _).mono ?_
   rintro e w1 ⟨rfl, rfl⟩
   go_wp2
   go_ret
   exact ⟨by unfold sameB; rw [hna, hnb, heq, s1, s2]; rfl, rfl⟩
 ·have hna' : (FloatKind.f64.format.order a a != some Ordering.eq) = false := hna
  have hnb' : (FloatKind.f64.format.order b b != some Ordering.eq) = true := hnb
  go_enter Tryz.func125, Tryz.ntmps125
  go_wp2
  go_ret
  exact ⟨by unfold sameB; rw [hna, hnb]; rfl, rfl⟩
 ·have hna' : (FloatKind.f64.format.order a a != some Ordering.eq) = true := hna
  have hnb' : (FloatKind.f64.format.order b b != some Ordering.eq) = false := hnb
  go_enter Tryz.func125, Tryz.ntmps125
  go_wp2
  go_ret
  exact ⟨by unfold sameB; rw [hna, hnb]; rfl, rfl⟩
 ·have hna' : (FloatKind.f64.format.order a a != some Ordering.eq) = true := hna
  have hnb' : (FloatKind.f64.format.order b b != some Ordering.eq) = true := hnb
  go_enter Tryz.func125, Tryz.ntmps125
  go_wp2
  go_ret
  exact ⟨by unfold sameB; rw [hna, hnb]; rfl, rfl⟩
theorem two_times {Q0 : Program} (s : Bool) {v : Nat} (h : Ex v) (ht : 2 * v < top) : ∀ t w, (binOp .mul t (.float .f64 (fl s v)) (.float .f64 4611686018427387904)).run Q0 w = .ok (.float .f64 (fl s (2 * v))) w :=
 fun t w => run_float_arith w .mul t .f64 _ _ _ (mul2 s h ht)
theorem halved {Q0 : Program} (s : Bool) {v : Nat} (h : Ex (2 * v)) (ht : 2 * v < top) : ∀ t w, (binOp .quo t (.float .f64 (fl s (2 * v))) (.float .f64 4611686018427387904)).run Q0 w = .ok (.float .f64 (fl s v)) w :=
 fun t w => run_float_arith w .quo t .f64 _ _ _ (half_even s h ht)
def UpRel (s : Bool) (v n : Nat) (w : World) (x i : Value) (wr : World) : Prop :=
 ∃ k j : Nat, k + j = n ∧ x = .float .f64 (fl s (v * 2 ^ j)) ∧ i = .int .i64 (k : Int) ∧ wr = w
def StayRel (w : World) (x0 i0 x i : Value) (wr : World) : Prop := x = x0 ∧ i = i0 ∧ wr = w
def DownRel (s : Bool) (v : Nat) (n : Nat) (w : World) (x i : Value) (wr : World) : Prop :=
 ∃ (k : Nat) (z : Int), k <= n ∧ x = .float .f64 (fl s (v * 2 ^ k)) ∧ i = .int .i64 z ∧ wr = w ∧ z + k = 0
set_option maxHeartbeats 400000 in
theorem up_any (s : Bool) {v n : Nat} (hv : Ex v) (hn : n <= 5000) (ht : v * 2 ^ n < top) (w : World) :
  Calls Tryz.prog 123 #[.float .f64 (fl s v), .int .i64 (n : Int)] w fun e w' => e = .returned (.float .f64 (fl s (v * 2 ^ n))) ∧ w = w' := by
 go_enter Tryz.func123, Tryz.ntmps123
 go_wp2
 go_loopw [0, 1] (fun x i wr => UpRel s v n w x i wr) (fun _ i _ => (intOf i).toNat)
 case atStart => exact ⟨n, 0, rfl, by rw [Nat.pow_zero, Nat.mul_one], rfl, rfl⟩
 case round =>
  obtain ⟨k, j, hk, rfl, rfl, rfl⟩ := hrel
  by_cases hlt : 0 < k
  ·have hle : 2 * (v * 2 ^ j) < top := by
    refine Nat.lt_of_le_of_lt ?_ ht
    have : v * 2 ^ (j + 1) <= v * 2 ^ n := Nat.mul_le_mul_left _ (Nat.pow_le_pow_right (by decide) (by omega))
    rw [Nat.pow_succ, <- Nat.mul_assoc] at this
    omega
   have hx : Ex (v * 2 ^ j) := ex_up hv (by omega)
   have hm := two_times (Q0 := Tryz.prog) s hx hle
   have HX := Lib.hid hx
   have HLE := Lib.hid hle
   clear hx hle
   go_wp2
   go_roundw
   case rel => exact ⟨k - 1, j + 1, by omega, by rw [show v * 2 ^ (j + 1) = 2 * (v * 2 ^ j) by rw [Nat.pow_succ, <- Nat.mul_assoc, Nat.mul_comm]], by go_num, rfl⟩
   case measure => simp [intOf]; omega
  ·obtain rfl : k = 0 := by omega
   obtain rfl : j = n := by omega
   go_wp2
   go_loopw [0, 1] (fun x i wr' => x = .float .f64 (fl s (v * 2 ^ j)) ∧ i = .int .i64 0 ∧ wr' = wr) (fun _ _ _ => 0)
   case atStart => exact ⟨rfl, rfl, rfl⟩
   case round =>
    obtain ⟨rfl, rfl, rfl⟩ := hrel
    go_wp2
    go_ret
    exact ⟨rfl, rfl⟩
set_option maxHeartbeats 400000 in
theorem down_any (s : Bool) {v n : Nat} {z : Int} (hz : z + n = 0) (hv : Ex (v * 2 ^ n)) (hn : n <= 5000) (ht : v * 2 ^ n < top) (w : World) :
  Calls Tryz.prog 123 #[.float .f64 (fl s (v * 2 ^ n)), .int .i64 z] w fun e w' => e = .returned (.float .f64 (fl s v)) ∧ w = w' := by
 have HV := Lib.hid hv
 have HT := Lib.hid ht
 clear hv ht
 have hz0 : decide (0 < z) = false := decide_eq_false (by omega)
 have HZ := Lib.hid hz
 clear hz
 go_enter Tryz.func123, Tryz.ntmps123
 go_wp2
 go_loopw [0, 1] (fun x i wr => StayRel w (.float .f64 (fl s (v * 2 ^ n))) (.int .i64 z) x i wr) (fun _ _ _ => 0)
 case atStart => exact ⟨rfl, rfl, rfl⟩
 case round =>
  obtain ⟨rfl, rfl, rfl⟩ := hrel
  go_wp2
  go_loopw [0, 1] (fun x i wr' => DownRel s v n wr x i wr') (fun _ i _ => (-(intOf i)).toNat)
  case atStart => exact ⟨n, z, Nat.le_refl _, rfl, rfl, rfl, HZ.out⟩
  case round =>
   obtain ⟨k, y, hk, rfl, rfl, rfl, hy⟩ := hrel
   by_cases hlt : 0 < k
   ·obtain ⟨j, rfl⟩ : ∃ j, k = j + 1 := ⟨k - 1, by omega⟩
    have e : v * 2 ^ (j + 1) = 2 * (v * 2 ^ j) := by rw [Nat.pow_succ, <- Nat.mul_assoc, Nat.mul_comm]
    rw [e]
    have hle : v * 2 ^ (j + 1) <= v * 2 ^ n := Nat.mul_le_mul_left _ (Nat.pow_le_pow_right (by decide) hk)
    have hx : Ex (v * 2 ^ (j + 1)) := ex_down (n := n - (j + 1)) (by rw [Nat.mul_assoc, <- Nat.pow_add, Nat.add_sub_cancel' hk]; exact HV.out)
    rw [e] at hle hx
    have hm := halved (Q0 := Tryz.prog) s hx (Nat.lt_of_le_of_lt hle HT.out)
    have HX := Lib.hid hx
    have HLE := Lib.hid hle
    clear hx hle
    have HE := Lib.hid e
    clear e
    have hy0 : y < 0 := by omega
    have hy1 : -5000 <= y := by omega
    have HY := Lib.hid hy
    clear hy
    go_wp2
    go_roundw
    case rel => exact ⟨j, y + 1, by omega, rfl, by go_num, rfl, by have := HY.out; omega⟩
    case measure => simp [intOf]; omega
   ·obtain rfl : k = 0 := by omega
    obtain rfl : y = 0 := by omega
    go_wp2
    go_ret
    exact ⟨by rw [Nat.pow_zero, Nat.mul_one]; rfl, rfl⟩
theorem scale_any {v u : Nat} {i : Int} (hv : Ex v) (hvt : v < top) (hut : u < top) (hi0 : -5000 <= i) (hi1 : i <= 5000) (h : v * 2 ^ i.toNat = u * 2 ^ (-i).toNat) (w : World) :
  Calls Tryz.prog 123 #[.float .f64 (fl false v), .int .i64 i] w fun e w' => e = .returned (.float .f64 (fl false u)) ∧ w = w' := by
 rcases (by omega : i < 0 ∨ 0 <= i) with h0 | h0
 ·rw [show i.toNat = 0 by omega, Nat.pow_zero, Nat.mul_one] at h
  rw [h] at hv hvt ⊢
  exact down_any false (by omega) hv (by omega) hvt w
 ·rw [show (-i).toNat = 0 by omega, Nat.pow_zero, Nat.mul_one] at h
  obtain ⟨n, rfl⟩ := Int.eq_ofNat_of_zero_le h0
  rw [Int.toNat_natCast] at h
  rw [<- h] at hut ⊢
  exact up_any false hv (by omega) hut w
def Of3Rel (w : World) (zs : List Int) (v i : Value) (wr : World) : Prop :=
 ∃ k : Nat, k <= 4 ∧ i = .int .i64 (k : Int) ∧ v = .int .i64 ((bitsL ((zs.take k).drop 1) : Nat) : Int) ∧ Tw.allIn (zs.take k) = true ∧ wr = w
def Ret3 (zs : List Int) (w : World) (e : Ending) (w' : World) : Prop :=
 ∃ x, e = .returned (.tuple #[.float .f64 x, .bool (okL zs)]) ∧ ((IsN (ofB zs) ∧ IsN x) ∨ x = ofB zs) ∧ x < 18446744073709551616 ∧ Quiet w w'
set_option maxHeartbeats 400000 in
theorem of_any (A : Option Addr) (n c : Nat) (zs : List Int) (w : World) (hA : Ints .i64 w w.heap.size A n zs) :
  Calls Tryz.prog 110 #[.slice A n c] w (Ret3 zs w) := by
 have hlen := hA.1
 have HL := Lib.hid hlen
 clear hlen
 by_cases hn : n = 4
 ·subst hn
  go_enter Tryz.func110, Tryz.ntmps110
  go_wp2
  go_loopw [4, 5] (fun v i wr => Of3Rel w zs v i wr) (fun _ i _ => 4 - (intOf i).toNat)
  case atStart => exact ⟨0, by omega, rfl, rfl, rfl, rfl⟩
  case round =>
   obtain ⟨k, hk, rfl, rfl, hall, rfl⟩ := hrel
   have HALL := Lib.hid hall
   clear hall
   by_cases hlt : k < 4
   ·obtain ⟨b, off, rfl, hb, hc⟩ := hA.2 (by omega)
    have hck := hc k hlt
    clear hc
    obtain ⟨z, hz⟩ : ∃ z, z = zs.getD k 0 := ⟨_, rfl⟩
    rw [<- hz] at hck
    have HZ := Lib.hid hz
    clear hz
    by_cases h0 : z < 0
    ·go_wp2
     go_ret2
     have e := Tw.allIn_false zs k (by rw [HL.out]; exact hlt) (by rw [<- HZ.out]; exact Tw.not_inR (.inl h0))
     unfold Ret3 ofB okL
     rw [e, Bool.and_false]
     exact ⟨0, rfl, .inr rfl, by decide, Quiet.refl _⟩
    ·by_cases h1 : 65535 < z
     ·go_wp2
      go_ret2
      have e := Tw.allIn_false zs k (by rw [HL.out]; exact hlt) (by rw [<- HZ.out]; exact Tw.not_inR (.inr h1))
      unfold Ret3 ofB okL
      rw [e, Bool.and_false]
      exact ⟨0, rfl, .inr rfl, by decide, Quiet.refl _⟩
     ·have hz1 : Tw.inR z = true := Tw.inR_of (by omega) (by omega)
      have hz2 : Tw.allIn (zs.take (k + 1)) = true := by rw [Tw.take_snoc zs k (by rw [HL.out]; exact hlt), Tw.allIn_snoc, HALL.out, <- HZ.out, hz1]; rfl
      have HZ2 := Lib.hid hz2
      clear hz2 hz1
      by_cases hk0 : k = 0
      ·subst hk0
       rw [Nat.add_zero] at hck
       go_wp2
       go_roundw
       case rel => exact ⟨1, by omega, by go_num, by rw [Tw.take_snoc zs 0 (by rw [HL.out]; exact hlt)]; rfl, HZ2.out, rfl⟩
       case measure => simp [intOf]
      ·have hm : bitsL ((zs.take k).drop 1) < 4294967296 := by
        have ha : Tw.allIn ((zs.take k).drop 1) = true := by
         have := HALL.out
         unfold Tw.allIn at this ⊢
         rw [List.all_eq_true] at this ⊢
         exact fun x hx => this x (List.mem_of_mem_drop hx)
        have := bitsL_lt _ ha
        rw [List.length_drop, List.length_take, HL.out, Nat.min_eq_left (by omega)] at this
        exact Nat.lt_of_lt_of_le this (show 65536 ^ (k - 1) <= 65536 ^ 2 from Nat.pow_le_pow_right (by decide) (by omega))
       have hs : (zs.take (k + 1)).drop 1 = (zs.take k).drop 1 ++ [z] := by
        rw [Tw.take_snoc zs k (by rw [HL.out]; exact hlt), List.drop_append_of_le_length (by rw [List.length_take, HL.out]; omega), <- HZ.out]
       have HS := Lib.hid hs
       clear hs
       generalize hmm : bitsL ((zs.take k).drop 1) = m at hm ⊢
       have HM := Lib.hid hmm
       clear hmm
       have hk1 : (0 : Int) < (k : Int) := by omega
       go_wp2
       go_roundw
       case rel =>
        refine ⟨k + 1, by omega, by go_num, ?_, HZ2.out, rfl⟩
        rw [HS.out, bitsL_snoc, HM.out]
        congr 1
        omega
       case measure => simp [intOf]; omega
   ·obtain rfl : k = 4 := by omega
    obtain ⟨b, off, rfl, hb, hc⟩ := hA.2 (by omega)
    have hc0 := hc 0 (by omega)
    rw [Nat.add_zero] at hc0
    clear hc
    have hok : okL zs = true := by
     have := HALL.out
     rw [List.take_of_length_le (by rw [HL.out]; omega)] at this
     unfold okL
     rw [this, HL.out]
     rfl
    obtain ⟨a, m, ha, hm, hz0, hz1, hz2⟩ := parts_of hok
    rw [List.take_of_length_le (by rw [HL.out]; omega), hz1]
    rw [hz0] at hc0
    have hof : ofB zs = a * 281474976710656 + m := by unfold ofB; rw [if_pos hok, hz2]
    have HOF := Lib.hid hof
    have HOK := Lib.hid hok
    clear hof hok hz2 hz1 hz0
    by_cases hE : (a % 32768) / 16 = 2047
    ·by_cases hF : 0 < m + a % 16 * 281474976710656
     ·go_wp2_with fail
      refine (nan_any _).mono ?_
      rintro e w1 ⟨r, rfl, hr, hr2, hq⟩
      go_wp2
      go_ret2
      exact ⟨r, by rw [HOK.out]; rfl, .inl ⟨by rw [HOF.out]; exact isN_big (by omega), hr⟩, hr2, hq⟩
     ·have hneg := neg_run false ex_top
      have hd : decide ((0 : Int) < (m : Int) + (a : Int) % 16 * 65536 * 65536 * 65536) = false := decide_eq_false (by omega)
      have HF := Lib.hid hF
      clear hF
      by_cases hs : 32768 <= a
      ·have hs1 : decide ((32768 : Int) <= (a : Int)) = true := decide_eq_true (by omega)
       go_wp2_with fail
       refine (inf_any _).mono ?_
       rintro e w1 ⟨rfl, rfl⟩
       go_wp2
       go_ret2
       refine ⟨_, by rw [HOK.out]; rfl, .inr ?_, ?_, Quiet.refl _⟩
       ·rw [HOF.out]; unfold fl; rw [rg_top]; have := HF.out; simp only [if_true]; omega
       ·exact fl_lt _ (Nat.le_refl _)
      ·have hs1 : decide ((32768 : Int) <= (a : Int)) = false := decide_eq_false (by omega)
       have HS := Lib.hid hs
       clear hs
       go_wp2_with fail
       refine (inf_any _).mono ?_
       rintro e w1 ⟨rfl, rfl⟩
       go_wp2
       go_ret2
       refine ⟨_, by rw [HOK.out]; rfl, .inr ?_, ?_, Quiet.refl _⟩
       ·rw [HOF.out]; unfold fl; rw [rg_top]; have := HF.out; have := HS.out; simp only [Bool.false_eq_true, if_false]; omega
       ·exact fl_lt _ (Nat.le_refl _)
    ·obtain ⟨F, hF⟩ : ∃ F, F = m + a % 16 * 281474976710656 := ⟨_, rfl⟩
     have hF2 : F < 4503599627370496 := by omega
     have hr : (a * 281474976710656 + m) % 9223372036854775808 = (a % 32768) / 16 * 4503599627370496 + F := by omega
     have hrt : (a * 281474976710656 + m) % 9223372036854775808 < 9218868437227405312 := by omega
     have hflo := fl_of (b := a * 281474976710656 + m) (by omega) (Nat.le_of_lt hrt)
     have hsg : signB (a * 281474976710656 + m) = decide (32768 <= a) := by unfold signB; exact decide_eq_decide.2 (by omega)
     have hex := (ex_val (Nat.le_of_lt hrt)).1
     have hvt := val_lt hrt
     rw [hsg] at hflo
     obtain ⟨u, hu⟩ : ∃ u, u = val ((a * 281474976710656 + m) % 9223372036854775808) := ⟨_, rfl⟩
     rw [<- hu] at hflo hex hvt
     have hneg := neg_run false hex
     have HFL := Lib.hid hflo
     have HEX := Lib.hid hex
     have HVT := Lib.hid hvt
     clear hflo hex hvt hsg hrt
     have hFi : (m : Int) + (a : Int) % 16 * 65536 * 65536 * 65536 = (F : Int) := by omega
     have HFI := Lib.hid hFi
     have hE1 : ((a : Int) % 32768 / 16 == 2047) = false := by simp; omega
     have HE := Lib.hid hE
     clear hFi hE
     by_cases hE0 : (a % 32768) / 16 = 0
     ·have hu2 : u = F := by rw [hu, hr, hE0, Nat.zero_mul, Nat.zero_add, val_small hF2]
      have HU := Lib.hid hu2
      have hsc : ∀ w, Calls Tryz.prog 123 #[.float .f64 (floatOfInt .f64 ((m : Int) + (a : Int) % 16 * 65536 * 65536 * 65536)), .int .i64 (-1074)] w fun e w' => e = .returned (.float .f64 (fl false u)) ∧ w = w' := by
       intro w
       rw [HFI.out, fint (by omega)]
       refine scale_any (ex_un (by omega)) (un_lt (by omega)) HVT.out (by omega) (by omega) ?_ w
       rw [show (-1074 : Int).toNat = 0 by decide, show (-(-1074) : Int).toNat = eU by rw [eU_eq]; decide, Nat.pow_zero, Nat.mul_one, HU.out, un]
      have hE2 : ((a : Int) % 32768 / 16 == 0) = true := by simp; omega
      have HE0 := Lib.hid hE0
      clear hu2 hu hr hF hE0
      have HSC := Lib.hid hsc
      clear hsc
      by_cases hs : 32768 <= a
      ·have hs1 : decide ((32768 : Int) <= (a : Int)) = true := decide_eq_true (by omega)
       go_wp2_with fail
       refine (HSC.out _).mono ?_
       rintro e w1 ⟨rfl, rfl⟩
       go_wp2
       go_ret2
       have hf := HFL.out
       rw [decide_eq_true hs] at hf
       exact ⟨fl true u, by rw [HOK.out]; rfl, .inr (by rw [HOF.out, hf]), fl_lt _ (Nat.le_of_lt HVT.out), Quiet.refl _⟩
      ·have hs1 : decide ((32768 : Int) <= (a : Int)) = false := decide_eq_false (by omega)
       have HS := Lib.hid hs
       clear hs
       go_wp2_with fail
       refine (HSC.out _).mono ?_
       rintro e w1 ⟨rfl, rfl⟩
       go_wp2
       go_ret2
       have hf := HFL.out
       rw [decide_eq_false HS.out] at hf
       exact ⟨fl false u, by rw [HOK.out]; rfl, .inr (by rw [HOF.out, hf]), fl_lt _ (Nat.le_of_lt HVT.out), Quiet.refl _⟩
     ·obtain ⟨d, hd⟩ : ∃ d, a % 32768 / 16 = d + 1 := ⟨a % 32768 / 16 - 1, by omega⟩
      have hu2 : u = (4503599627370496 + F) * 2 ^ d := by rw [hu, hr, hd, val_big hF2]
      have HU := Lib.hid hu2
      have HD := Lib.hid hd
      have hd3 : d < 2047 := by omega
      have hsc : ∀ w, Calls Tryz.prog 123 #[.float .f64 (floatOfInt .f64 ((m : Int) + (a : Int) % 16 * 65536 * 65536 * 65536 + 4503599627370496)), .int .i64 ((a : Int) % 32768 / 16 - 1075)] w fun e w' => e = .returned (.float .f64 (fl false u)) ∧ w = w' := by
       intro w
       have hdd := HD.out
       rw [HFI.out, show (F : Int) + 4503599627370496 = ((4503599627370496 + F : Nat) : Int) by omega, fint (by omega)]
       refine scale_any (ex_un (by omega)) (un_lt (by omega)) HVT.out (by omega) (by omega) ?_ w
       have hU := eU_eq
       rw [HU.out, un, Nat.mul_assoc, Nat.mul_assoc, <- Nat.pow_add, <- Nat.pow_add]
       congr 2
       omega
      have hE2 : ((a : Int) % 32768 / 16 == 0) = false := by simp; omega
      have HE0 := Lib.hid hE0
      clear hu2 hu hr hF hE0 hd
      have HSC := Lib.hid hsc
      clear hsc
      by_cases hs : 32768 <= a
      ·have hs1 : decide ((32768 : Int) <= (a : Int)) = true := decide_eq_true (by omega)
       go_wp2_with fail
       refine (HSC.out _).mono ?_
       rintro e w1 ⟨rfl, rfl⟩
       go_wp2
       go_ret2
       have hf := HFL.out
       rw [decide_eq_true hs] at hf
       exact ⟨fl true u, by rw [HOK.out]; rfl, .inr (by rw [HOF.out, hf]), fl_lt _ (Nat.le_of_lt HVT.out), Quiet.refl _⟩
      ·have hs1 : decide ((32768 : Int) <= (a : Int)) = false := decide_eq_false (by omega)
       have HS := Lib.hid hs
       clear hs
       go_wp2_with fail
       refine (HSC.out _).mono ?_
       rintro e w1 ⟨rfl, rfl⟩
       go_wp2
       go_ret2
       have hf := HFL.out
       rw [decide_eq_false HS.out] at hf
       exact ⟨fl false u, by rw [HOK.out]; rfl, .inr (by rw [HOF.out, hf]), fl_lt _ (Nat.le_of_lt HVT.out), Quiet.refl _⟩
 ·have hne : ((n : Int) == 4) = false := by simp; omega
  go_enter Tryz.func110, Tryz.ntmps110
  go_wp2
  go_ret2
  unfold Ret3 ofB okL
  rw [HL.out, decide_eq_false hn]
  exact ⟨0, rfl, .inr rfl, by decide, Quiet.refl _⟩
end Go.Proofs.YtaciogcpghbhjaaGreat.Ref3
/- Layer 3's reference: the four numbers of a float. Conditions: none. -/
namespace Go.Proofs.YtaciogcpghbhjaaGreat.Ref3
open Go.Proofs.YtaciogcpghbhjaaGreat.Fp Go.Proofs.YtaciogcpghbhjaaGreat.Re Go.ChangeShapes Go.WideShapes Go.ChangeAt Go.RowKit
end Go.Proofs.YtaciogcpghbhjaaGreat.Ref3
