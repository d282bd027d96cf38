/- Several texts in one: ReM, Re, ReR, ReR3. Conditions: as each part says. -/
import Derived.Test.YtfbckijagjidkaaChecked
import Derived.Test.YtfbckijagjidkaaReA
import Derived.Tactics
import Derived.Tactics2
import Derived.StillTactics
import Derived.WalkLawsBesides
import Derived.Laws.Externs
import Derived.KernelRfl
import Derived.Laws.OwnMore
/- Package math's few functions that the seat calls: each answers what the plain words of FpC say. Conditions: none. -/
namespace Go.Proofs.Ytfbckijagjidkaa.Re
open Go.Proofs.Ytfbckijagjidkaa.Fp Go.ChangeShapes Go.WideShapes Go.ChangeAt Go.RowKit

theorem call_from (b : Nat) (w : World) : (callFunc 31 #[.int .u64 (b : Int)]).run Try.prog w = .ok (.value (.float .f64 b)) w := by
  rw [run_callFunc_extern (e := Extern.MathFloatBits.float64frombits) Try.func31 (by kernel_rfl) (by kernel_rfl) (by kernel_rfl) (by kernel_rfl)]
  rfl
end Go.Proofs.Ytfbckijagjidkaa.Re
/- Layer 3: each function answers what the plain words of ReA say. Conditions: none. -/
namespace Go.Proofs.Ytfbckijagjidkaa.Re
open Go.Proofs.Ytfbckijagjidkaa.Fp Go.ChangeShapes Go.WideShapes Go.ChangeAt Go.RowKit



/-- Is the first at most the second one? -/
def leB (a b : Nat) : Bool := FloatKind.f64.format.order a b == some Ordering.lt || FloatKind.f64.format.order a b == some Ordering.eq
def withB (x low high : Nat) : Bool := leB low x && leB x high


def OfRel (w : World) (zs : List Int) (v i : Value) (wr : World) : Prop :=
  ∃ k : Nat, k ≤ 4 ∧ i = .int .i64 (k : Int) ∧ v = .int .u64 ((bitsL (zs.take k) : Nat) : Int) ∧ Tw.allIn (zs.take k) = true ∧ wr = w

set_option maxHeartbeats 400000 in
theorem of_any (A : Option Addr) (n c : Nat) (zs : List Int) (w : World) (hA : Ints .i64 w w.heap.size A n zs) :
    Calls Try.prog 18 #[.slice A n c] w fun e w' => e = .returned (.tuple #[.float .f64 (ofB zs), .bool (okL zs)]) ∧ w = w' := by
  have hlen := hA.1
  have HL := Lib.hid hlen
  clear hlen
  by_cases hn : n = 4
  · subst hn
    go_enter Try.func18, Try.ntmps18
    go_wp2
    go_loopw [4, 12] (fun v i wr => OfRel w zs v i wr) (fun _ i _ => 4 - (intOf i).toNat)
    case atStart => exact ⟨0, by omega, rfl, rfl, rfl, rfl⟩
    case round =>
      obtain ⟨k, hk, rfl, rfl, hall, rfl⟩ := hrel
      have HALL := Lib.hid hall
      clear hall
      by_cases hlt : k < 4
      · obtain ⟨b, off, rfl, hb, hc⟩ := hA.2 (by omega)
        have hck := hc k hlt
        clear hc
        obtain ⟨z, hz⟩ : ∃ z, z = zs.getD k 0 := ⟨_, rfl⟩
        rw [← hz] at hck
        have HZ := Lib.hid hz
        clear hz
        by_cases h0 : z < 0
        · go_wp2
          go_ret2
          have e := Tw.allIn_false zs k (by rw [HL.out]; exact hlt) (by rw [← HZ.out]; exact Tw.not_inR (.inl h0))
          unfold ofB okL
          rw [e, Bool.and_false]
          exact ⟨rfl, rfl⟩
        · by_cases h1 : 65535 < z
          · go_wp2
            go_ret2
            have e := Tw.allIn_false zs k (by rw [HL.out]; exact hlt) (by rw [← HZ.out]; exact Tw.not_inR (.inr h1))
            unfold ofB okL
            rw [e, Bool.and_false]
            exact ⟨rfl, rfl⟩
          · go_wp2
            go_roundw
            case rel =>
              have hm := bitsL_lt _ HALL.out
              rw [List.length_take, HL.out, Nat.min_eq_left (by omega)] at hm
              have hm2 : bitsL (zs.take k) < 281474976710656 := Nat.lt_of_lt_of_le hm (show 65536 ^ k ≤ 65536 ^ 3 from Nat.pow_le_pow_right (by decide) (by omega))
              refine ⟨k + 1, by omega, by go_num, ?_, ?_, rfl⟩
              · obtain ⟨zn, rfl⟩ := Int.eq_ofNat_of_zero_le (show 0 ≤ z by omega)
                rw [Tw.take_snoc zs k (by rw [HL.out]; exact hlt), bitsL_snoc, ← HZ.out, IntKind.wrap_u64, Int.emod_eq_of_lt (by omega) (by omega), u64_or _ _ hm2 (by omega)]
                rfl
              · rw [Tw.take_snoc zs k (by rw [HL.out]; exact hlt), Tw.allIn_snoc, HALL.out, ← HZ.out, Tw.inR_of (by omega) (by omega)]; rfl
            case measure => simp [intOf]; omega
      · obtain rfl : k = 4 := by omega
        have hf := call_from (bitsL (zs.take 4))
        go_wp2
        go_ret2
        have e := HALL.out
        rw [List.take_of_length_le (by rw [HL.out]; omega)] at e ⊢
        unfold ofB okL
        rw [e, HL.out]
        exact ⟨rfl, rfl⟩
  · have hne : ((n : Int) == 4) = false := by simp; omega
    go_enter Try.func18, Try.ntmps18
    go_wp2
    go_ret2
    unfold ofB okL
    rw [HL.out, decide_eq_false hn]
    exact ⟨rfl, rfl⟩

/-- What comes back: a slice of integers. -/
def RetL (zs : List Int) (w : World) (e : Ending) (w' : World) : Prop :=
  ∃ A n c, e = .returned (.slice A n c) ∧ Ints .i64 w' w'.heap.size A n zs ∧ Keep w w'
theorem info_int : (Try.prog.info? 3).map (fun i => (i.zero, i.size, i.bytes)) = some (some (.int .i64 0), 1, 8) := by kernel_rfl
def RegsRel (w : World) (m : Nat) (i : Value) (wr : World) : Prop :=
  ∃ k : Nat, k ≤ 4 ∧ i = .int .i64 (k : Int) ∧ wr.ownsRow w.heap.size 3 1 (.slice (some ⟨w.heap.size, 0, none⟩) 4 4) 4 ((part m k).map (Value.int .i64)) ∧ Keep w wr

end Go.Proofs.Ytfbckijagjidkaa.Re
/- Layer 3's reference: each function answers what the plain words of ReA say. Conditions: none. -/
namespace Go.Proofs.Ytfbckijagjidkaa.Ref3
open Go.Proofs.Ytfbckijagjidkaa.Fp Go.Proofs.Ytfbckijagjidkaa.Re Go.ChangeShapes Go.WideShapes Go.ChangeAt Go.RowKit

theorem minus_any (s : Bool) {v : Nat} (hv : Ex v) (w : World) : Calls Try.prog 29 #[.float .f64 (fl s v)] w fun e w' => e = .returned (.bool s) ∧ w = w' := by
  have h1 := lt0 (s := s) hv
  have h2 := eq0 (s := s) hv
  by_cases h0 : v = 0
  · subst h0
    have hq : ∀ t w, (binOp .quo t (.float .f64 4607182418800017408) (.float .f64 (fl s 0))).run Try.prog w = .ok (.float .f64 (fl s top)) w := fun t w => run_float_arith w .quo t .f64 _ _ _ (one_over s)
    have h3 := lt0 (s := s) ex_top
    rw [decide_eq_true (show top ≠ 0 from Nat.ne_of_gt top_pos), Bool.and_true] at h3
    rw [decide_eq_false (by simp), Bool.and_false] at h1
    rw [decide_eq_true rfl] at h2
    go_enter Try.func29, Try.ntmps29
    go_wp2
    go_ret
    exact ⟨rfl, rfl⟩
  · rw [decide_eq_true h0, Bool.and_true] at h1
    rw [decide_eq_false h0] at h2
    cases s
    · go_enter Try.func29, Try.ntmps29
      go_wp2
      go_ret
      exact ⟨rfl, rfl⟩
    · go_enter Try.func29, Try.ntmps29
      go_wp2
      go_ret
      exact ⟨rfl, rfl⟩

theorem nan_any (w : World) : Calls Try.prog 32 #[] w fun e w' => ∃ r, e = .returned (.float .f64 r) ∧ IsN r ∧ r < 18446744073709551616 ∧ Quiet w w' := by
  have hq : ∀ t w, (binOp .quo t (.float .f64 0) (.float .f64 0)).run Try.prog w = .ok (.float .f64 (Question.cut (.nanBits .f64 0 0) (w.tape w.drawn (.nanBits .f64 0 0)))) w.drew := by
    intro t w
    have h : FloatKind.f64.format.div 0 0 = none := nought_over
    simp [binOp, Op.floatArith, h, Question.forced]
  go_enter Try.func32, Try.ntmps32
  go_wp2
  go_ret
  have := isN_cut 0 0 (w.tape w.drawn (.nanBits .f64 0 0))
  exact ⟨_, rfl, this.1, this.2, (Quiet.refl w).drew⟩

theorem inf_any (w : World) : Calls Try.prog 33 #[] w fun e w' => e = .returned (.float .f64 (fl false top)) ∧ w = w' := by
  have hq : ∀ t w, (binOp .quo t (.float .f64 4607182418800017408) (.float .f64 0)).run Try.prog w = .ok (.float .f64 (fl false top)) w := fun t w => run_float_arith w .quo t .f64 _ _ _ (by have := one_over false; rw [fl_zero] at this; exact this)
  go_enter Try.func33, Try.ntmps33
  go_wp2
  go_ret
  exact ⟨rfl, rfl⟩


set_option maxHeartbeats 400000 in
theorem same_any (a b : Nat) (ha : a < 18446744073709551616) (hb : b < 18446744073709551616) (w : World) : Calls Try.prog 20 #[.float .f64 a, .float .f64 b] w fun e w' => e = .returned (.bool (sameB a b)) ∧ w = w' := by
  cases hna : nanB a <;> cases hnb : nanB b
  · have hna' : (FloatKind.f64.format.order a a != some Ordering.eq) = false := hna
    have hnb' : (FloatKind.f64.format.order b b != some Ordering.eq) = false := hnb
    obtain ⟨s, v, hv, e1⟩ : ∃ s v, Ex v ∧ a = fl s v := by
      rcases kinds ha with ⟨_, h⟩ | ⟨_, h⟩
      · rw [hna] at h; cases h
      · exact h
    obtain ⟨t, u, hu, e2⟩ : ∃ s v, Ex v ∧ b = fl s v := by
      rcases kinds hb with ⟨_, h⟩ | ⟨_, h⟩
      · rw [hnb] at h; cases h
      · exact h
    have m1 := fun w => minus_any s hv w
    have m2 := fun w => minus_any t hu w
    have s1 := signB_fl (s := s) hv
    have s2 := signB_fl (s := t) hu
    rw [← e1] at m1 s1
    rw [← e2] at m2 s2
    clear e1 e2
    cases heq : (FloatKind.f64.format.order a b == some Ordering.eq)
    · go_enter Try.func20, Try.ntmps20
      go_wp2
      go_ret
      exact ⟨by unfold sameB; rw [hna, hnb, heq]; rfl, rfl⟩
    · go_enter Try.func20, Try.ntmps20
      go_wp2_with fail
      refine (m1 _).mono ?_
      rintro e w1 ⟨rfl, rfl⟩
      go_wp2_with fail
      refine (m2 _).mono ?_
      rintro e w1 ⟨rfl, rfl⟩
      go_wp2
      go_ret
      exact ⟨by unfold sameB; rw [hna, hnb, heq, s1, s2]; rfl, rfl⟩
  · have hna' : (FloatKind.f64.format.order a a != some Ordering.eq) = false := hna
    have hnb' : (FloatKind.f64.format.order b b != some Ordering.eq) = true := hnb
    go_enter Try.func20, Try.ntmps20
    go_wp2
    go_ret
    exact ⟨by unfold sameB; rw [hna, hnb]; rfl, rfl⟩
  · have hna' : (FloatKind.f64.format.order a a != some Ordering.eq) = true := hna
    have hnb' : (FloatKind.f64.format.order b b != some Ordering.eq) = false := hnb
    go_enter Try.func20, Try.ntmps20
    go_wp2
    go_ret
    exact ⟨by unfold sameB; rw [hna, hnb]; rfl, rfl⟩
  · have hna' : (FloatKind.f64.format.order a a != some Ordering.eq) = true := hna
    have hnb' : (FloatKind.f64.format.order b b != some Ordering.eq) = true := hnb
    go_enter Try.func20, Try.ntmps20
    go_wp2
    go_ret
    exact ⟨by unfold sameB; rw [hna, hnb]; rfl, rfl⟩

theorem two_times {Q0 : Program} (s : Bool) {v : Nat} (h : Ex v) (ht : 2 * v < top) : ∀ t w, (binOp .mul t (.float .f64 (fl s v)) (.float .f64 4611686018427387904)).run Q0 w = .ok (.float .f64 (fl s (2 * v))) w :=
  fun t w => run_float_arith w .mul t .f64 _ _ _ (mul2 s h ht)
theorem halved {Q0 : Program} (s : Bool) {v : Nat} (h : Ex (2 * v)) (ht : 2 * v < top) : ∀ t w, (binOp .quo t (.float .f64 (fl s (2 * v))) (.float .f64 4611686018427387904)).run Q0 w = .ok (.float .f64 (fl s v)) w :=
  fun t w => run_float_arith w .quo t .f64 _ _ _ (half_even s h ht)

def UpRel (s : Bool) (v n : Nat) (w : World) (x i : Value) (wr : World) : Prop :=
  ∃ k j : Nat, k + j = n ∧ x = .float .f64 (fl s (v * 2 ^ j)) ∧ i = .int .i64 (k : Int) ∧ wr = w
def StayRel (w : World) (x0 i0 x i : Value) (wr : World) : Prop := x = x0 ∧ i = i0 ∧ wr = w
def DownRel (s : Bool) (v : Nat) (n : Nat) (w : World) (x i : Value) (wr : World) : Prop :=
  ∃ (k : Nat) (z : Int), k ≤ n ∧ x = .float .f64 (fl s (v * 2 ^ k)) ∧ i = .int .i64 z ∧ wr = w ∧ z + k = 0
set_option maxHeartbeats 400000 in
theorem up_any (s : Bool) {v n : Nat} (hv : Ex v) (hn : n ≤ 5000) (ht : v * 2 ^ n < top) (w : World) :
    Calls Try.prog 34 #[.float .f64 (fl s v), .int .i64 (n : Int)] w fun e w' => e = .returned (.float .f64 (fl s (v * 2 ^ n))) ∧ w = w' := by
  go_enter Try.func34, Try.ntmps34
  go_wp2
  go_loopw [0, 1] (fun x i wr => UpRel s v n w x i wr) (fun _ i _ => (intOf i).toNat)
  case atStart => exact ⟨n, 0, rfl, by rw [Nat.pow_zero, Nat.mul_one], rfl, rfl⟩
  case round =>
    obtain ⟨k, j, hk, rfl, rfl, rfl⟩ := hrel
    by_cases hlt : 0 < k
    · have hle : 2 * (v * 2 ^ j) < top := by
        refine Nat.lt_of_le_of_lt ?_ ht
        have : v * 2 ^ (j + 1) ≤ v * 2 ^ n := Nat.mul_le_mul_left _ (Nat.pow_le_pow_right (by decide) (by omega))
        rw [Nat.pow_succ, ← Nat.mul_assoc] at this
        omega
      have hx : Ex (v * 2 ^ j) := ex_up hv (by omega)
      have hm := two_times (Q0 := Try.prog) s hx hle
      have HX := Lib.hid hx
      have HLE := Lib.hid hle
      clear hx hle
      go_wp2
      go_roundw
      case rel => exact ⟨k - 1, j + 1, by omega, by rw [show v * 2 ^ (j + 1) = 2 * (v * 2 ^ j) by rw [Nat.pow_succ, ← Nat.mul_assoc, Nat.mul_comm]], by go_num, rfl⟩
      case measure => simp [intOf]; omega
    · obtain rfl : k = 0 := by omega
      obtain rfl : j = n := by omega
      go_wp2
      go_loopw [0, 1] (fun x i wr' => x = .float .f64 (fl s (v * 2 ^ j)) ∧ i = .int .i64 0 ∧ wr' = wr) (fun _ _ _ => 0)
      case atStart => exact ⟨rfl, rfl, rfl⟩
      case round =>
        obtain ⟨rfl, rfl, rfl⟩ := hrel
        go_wp2
        go_ret
        exact ⟨rfl, rfl⟩
set_option maxHeartbeats 400000 in
theorem down_any (s : Bool) {v n : Nat} {z : Int} (hz : z + n = 0) (hv : Ex (v * 2 ^ n)) (hn : n ≤ 5000) (ht : v * 2 ^ n < top) (w : World) :
    Calls Try.prog 34 #[.float .f64 (fl s (v * 2 ^ n)), .int .i64 z] w fun e w' => e = .returned (.float .f64 (fl s v)) ∧ w = w' := by
  have HV := Lib.hid hv
  have HT := Lib.hid ht
  clear hv ht
  have hz0 : decide (0 < z) = false := decide_eq_false (by omega)
  have HZ := Lib.hid hz
  clear hz
  go_enter Try.func34, Try.ntmps34
  go_wp2
  go_loopw [0, 1] (fun x i wr => StayRel w (.float .f64 (fl s (v * 2 ^ n))) (.int .i64 z) x i wr) (fun _ _ _ => 0)
  case atStart => exact ⟨rfl, rfl, rfl⟩
  case round =>
    obtain ⟨rfl, rfl, rfl⟩ := hrel
    go_wp2
    go_loopw [0, 1] (fun x i wr' => DownRel s v n wr x i wr') (fun _ i _ => (-(intOf i)).toNat)
    case atStart => exact ⟨n, z, Nat.le_refl _, rfl, rfl, rfl, HZ.out⟩
    case round =>
      obtain ⟨k, y, hk, rfl, rfl, rfl, hy⟩ := hrel
      by_cases hlt : 0 < k
      · obtain ⟨j, rfl⟩ : ∃ j, k = j + 1 := ⟨k - 1, by omega⟩
        have e : v * 2 ^ (j + 1) = 2 * (v * 2 ^ j) := by rw [Nat.pow_succ, ← Nat.mul_assoc, Nat.mul_comm]
        rw [e]
        have hle : v * 2 ^ (j + 1) ≤ v * 2 ^ n := Nat.mul_le_mul_left _ (Nat.pow_le_pow_right (by decide) hk)
        have hx : Ex (v * 2 ^ (j + 1)) := ex_down (n := n - (j + 1)) (by rw [Nat.mul_assoc, ← Nat.pow_add, Nat.add_sub_cancel' hk]; exact HV.out)
        rw [e] at hle hx
        have hm := halved (Q0 := Try.prog) s hx (Nat.lt_of_le_of_lt hle HT.out)
        have HX := Lib.hid hx
        have HLE := Lib.hid hle
        clear hx hle
        have HE := Lib.hid e
        clear e
        have hy0 : y < 0 := by omega
        have hy1 : -5000 ≤ y := by omega
        have HY := Lib.hid hy
        clear hy
        go_wp2
        go_roundw
        case rel => exact ⟨j, y + 1, by omega, rfl, by go_num, rfl, by have := HY.out; omega⟩
        case measure => simp [intOf]; omega
      · obtain rfl : k = 0 := by omega
        obtain rfl : y = 0 := by omega
        go_wp2
        go_ret
        exact ⟨by rw [Nat.pow_zero, Nat.mul_one]; rfl, rfl⟩

theorem scale_any {v u : Nat} {i : Int} (hv : Ex v) (hvt : v < top) (hut : u < top) (hi0 : -5000 ≤ i) (hi1 : i ≤ 5000) (h : v * 2 ^ i.toNat = u * 2 ^ (-i).toNat) (w : World) :
    Calls Try.prog 34 #[.float .f64 (fl false v), .int .i64 i] w fun e w' => e = .returned (.float .f64 (fl false u)) ∧ w = w' := by
  rcases (by omega : i < 0 ∨ 0 ≤ i) with h0 | h0
  · rw [show i.toNat = 0 by omega, Nat.pow_zero, Nat.mul_one] at h
    rw [h] at hv hvt ⊢
    exact down_any false (by omega) hv (by omega) hvt w
  · rw [show (-i).toNat = 0 by omega, Nat.pow_zero, Nat.mul_one] at h
    obtain ⟨n, rfl⟩ := Int.eq_ofNat_of_zero_le h0
    rw [Int.toNat_natCast] at h
    rw [← h] at hut ⊢
    exact up_any false hv (by omega) hut w

def Of3Rel (w : World) (zs : List Int) (v i : Value) (wr : World) : Prop :=
  ∃ k : Nat, k ≤ 4 ∧ i = .int .i64 (k : Int) ∧ v = .int .i64 ((bitsL ((zs.take k).drop 1) : Nat) : Int) ∧ Tw.allIn (zs.take k) = true ∧ wr = w
/-- What is answered: these bits, or, where they are no number's, any no number's. -/
def Ret3 (zs : List Int) (w : World) (e : Ending) (w' : World) : Prop :=
  ∃ x, e = .returned (.tuple #[.float .f64 x, .bool (okL zs)]) ∧ ((IsN (ofB zs) ∧ IsN x) ∨ x = ofB zs) ∧ x < 18446744073709551616 ∧ Quiet w w'
set_option maxHeartbeats 400000 in
theorem of_any (A : Option Addr) (n c : Nat) (zs : List Int) (w : World) (hA : Ints .i64 w w.heap.size A n zs) :
    Calls Try.prog 19 #[.slice A n c] w (Ret3 zs w) := by
  have hlen := hA.1
  have HL := Lib.hid hlen
  clear hlen
  by_cases hn : n = 4
  · subst hn
    go_enter Try.func19, Try.ntmps19
    go_wp2
    go_loopw [4, 5] (fun v i wr => Of3Rel w zs v i wr) (fun _ i _ => 4 - (intOf i).toNat)
    case atStart => exact ⟨0, by omega, rfl, rfl, rfl, rfl⟩
    case round =>
      obtain ⟨k, hk, rfl, rfl, hall, rfl⟩ := hrel
      have HALL := Lib.hid hall
      clear hall
      by_cases hlt : k < 4
      · obtain ⟨b, off, rfl, hb, hc⟩ := hA.2 (by omega)
        have hck := hc k hlt
        clear hc
        obtain ⟨z, hz⟩ : ∃ z, z = zs.getD k 0 := ⟨_, rfl⟩
        rw [← hz] at hck
        have HZ := Lib.hid hz
        clear hz
        by_cases h0 : z < 0
        · go_wp2
          go_ret2
          have e := Tw.allIn_false zs k (by rw [HL.out]; exact hlt) (by rw [← HZ.out]; exact Tw.not_inR (.inl h0))
          unfold Ret3 ofB okL
          rw [e, Bool.and_false]
          exact ⟨0, rfl, .inr rfl, by decide, Quiet.refl _⟩
        · by_cases h1 : 65535 < z
          · go_wp2
            go_ret2
            have e := Tw.allIn_false zs k (by rw [HL.out]; exact hlt) (by rw [← HZ.out]; exact Tw.not_inR (.inr h1))
            unfold Ret3 ofB okL
            rw [e, Bool.and_false]
            exact ⟨0, rfl, .inr rfl, by decide, Quiet.refl _⟩
          · have hz1 : Tw.inR z = true := Tw.inR_of (by omega) (by omega)
            have hz2 : Tw.allIn (zs.take (k + 1)) = true := by rw [Tw.take_snoc zs k (by rw [HL.out]; exact hlt), Tw.allIn_snoc, HALL.out, ← HZ.out, hz1]; rfl
            have HZ2 := Lib.hid hz2
            clear hz2 hz1
            by_cases hk0 : k = 0
            · subst hk0
              rw [Nat.add_zero] at hck
              go_wp2
              go_roundw
              case rel => exact ⟨1, by omega, by go_num, by rw [Tw.take_snoc zs 0 (by rw [HL.out]; exact hlt)]; rfl, HZ2.out, rfl⟩
              case measure => simp [intOf]
            · have hm : bitsL ((zs.take k).drop 1) < 4294967296 := by
                have ha : Tw.allIn ((zs.take k).drop 1) = true := by
                  have := HALL.out
                  unfold Tw.allIn at this ⊢
                  rw [List.all_eq_true] at this ⊢
                  exact fun x hx => this x (List.mem_of_mem_drop hx)
                have := bitsL_lt _ ha
                rw [List.length_drop, List.length_take, HL.out, Nat.min_eq_left (by omega)] at this
                exact Nat.lt_of_lt_of_le this (show 65536 ^ (k - 1) ≤ 65536 ^ 2 from Nat.pow_le_pow_right (by decide) (by omega))
              have hs : (zs.take (k + 1)).drop 1 = (zs.take k).drop 1 ++ [z] := by
                rw [Tw.take_snoc zs k (by rw [HL.out]; exact hlt), List.drop_append_of_le_length (by rw [List.length_take, HL.out]; omega), ← HZ.out]
              have HS := Lib.hid hs
              clear hs
              generalize hmm : bitsL ((zs.take k).drop 1) = m at hm ⊢
              have HM := Lib.hid hmm
              clear hmm
              have hk1 : (0 : Int) < (k : Int) := by omega
              go_wp2
              go_roundw
              case rel =>
                refine ⟨k + 1, by omega, by go_num, ?_, HZ2.out, rfl⟩
                rw [HS.out, bitsL_snoc, HM.out]
                congr 1
                omega
              case measure => simp [intOf]; omega
      · obtain rfl : k = 4 := by omega
        obtain ⟨b, off, rfl, hb, hc⟩ := hA.2 (by omega)
        have hc0 := hc 0 (by omega)
        rw [Nat.add_zero] at hc0
        clear hc
        have hok : okL zs = true := by
          have := HALL.out
          rw [List.take_of_length_le (by rw [HL.out]; omega)] at this
          unfold okL
          rw [this, HL.out]
          rfl
        obtain ⟨a, m, ha, hm, hz0, hz1, hz2⟩ := parts_of hok
        rw [List.take_of_length_le (by rw [HL.out]; omega), hz1]
        rw [hz0] at hc0
        have hof : ofB zs = a * 281474976710656 + m := by unfold ofB; rw [if_pos hok, hz2]
        have HOF := Lib.hid hof
        have HOK := Lib.hid hok
        clear hof hok hz2 hz1 hz0
        by_cases hE : (a % 32768) / 16 = 2047
        · by_cases hF : 0 < m + a % 16 * 281474976710656
          · go_wp2_with fail
            refine (nan_any _).mono ?_
            rintro e w1 ⟨r, rfl, hr, hr2, hq⟩
            go_wp2
            go_ret2
            exact ⟨r, by rw [HOK.out]; rfl, .inl ⟨by rw [HOF.out]; exact isN_big (by omega), hr⟩, hr2, hq⟩
          · have hneg := neg_run false ex_top
            have hd : decide ((0 : Int) < (m : Int) + (a : Int) % 16 * 65536 * 65536 * 65536) = false := decide_eq_false (by omega)
            have HF := Lib.hid hF
            clear hF
            by_cases hs : 32768 ≤ a
            · have hs1 : decide ((32768 : Int) ≤ (a : Int)) = true := decide_eq_true (by omega)
              go_wp2_with fail
              refine (inf_any _).mono ?_
              rintro e w1 ⟨rfl, rfl⟩
              go_wp2
              go_ret2
              refine ⟨_, by rw [HOK.out]; rfl, .inr ?_, ?_, Quiet.refl _⟩
              · rw [HOF.out]; unfold fl; rw [rg_top]; have := HF.out; simp only [if_true]; omega
              · exact fl_lt _ (Nat.le_refl _)
            · have hs1 : decide ((32768 : Int) ≤ (a : Int)) = false := decide_eq_false (by omega)
              have HS := Lib.hid hs
              clear hs
              go_wp2_with fail
              refine (inf_any _).mono ?_
              rintro e w1 ⟨rfl, rfl⟩
              go_wp2
              go_ret2
              refine ⟨_, by rw [HOK.out]; rfl, .inr ?_, ?_, Quiet.refl _⟩
              · rw [HOF.out]; unfold fl; rw [rg_top]; have := HF.out; have := HS.out; simp only [Bool.false_eq_true, if_false]; omega
              · exact fl_lt _ (Nat.le_refl _)
        · obtain ⟨F, hF⟩ : ∃ F, F = m + a % 16 * 281474976710656 := ⟨_, rfl⟩
          have hF2 : F < 4503599627370496 := by omega
          have hr : (a * 281474976710656 + m) % 9223372036854775808 = (a % 32768) / 16 * 4503599627370496 + F := by omega
          have hrt : (a * 281474976710656 + m) % 9223372036854775808 < 9218868437227405312 := by omega
          have hflo := fl_of (b := a * 281474976710656 + m) (by omega) (Nat.le_of_lt hrt)
          have hsg : signB (a * 281474976710656 + m) = decide (32768 ≤ a) := by unfold signB; exact decide_eq_decide.2 (by omega)
          have hex := (ex_val (Nat.le_of_lt hrt)).1
          have hvt := val_lt hrt
          rw [hsg] at hflo
          obtain ⟨u, hu⟩ : ∃ u, u = val ((a * 281474976710656 + m) % 9223372036854775808) := ⟨_, rfl⟩
          rw [← hu] at hflo hex hvt
          have hneg := neg_run false hex
          have HFL := Lib.hid hflo
          have HEX := Lib.hid hex
          have HVT := Lib.hid hvt
          clear hflo hex hvt hsg hrt
          have hFi : (m : Int) + (a : Int) % 16 * 65536 * 65536 * 65536 = (F : Int) := by omega
          have HFI := Lib.hid hFi
          have hE1 : ((a : Int) % 32768 / 16 == 2047) = false := by simp; omega
          have HE := Lib.hid hE
          clear hFi hE
          by_cases hE0 : (a % 32768) / 16 = 0
          · have hu2 : u = F := by rw [hu, hr, hE0, Nat.zero_mul, Nat.zero_add, val_small hF2]
            have HU := Lib.hid hu2
            have hsc : ∀ w, Calls Try.prog 34 #[.float .f64 (floatOfInt .f64 ((m : Int) + (a : Int) % 16 * 65536 * 65536 * 65536)), .int .i64 (-1074)] w fun e w' => e = .returned (.float .f64 (fl false u)) ∧ w = w' := by
              intro w
              rw [HFI.out, fint (by omega)]
              refine scale_any (ex_un (by omega)) (un_lt (by omega)) HVT.out (by omega) (by omega) ?_ w
              rw [show (-1074 : Int).toNat = 0 by decide, show (-(-1074) : Int).toNat = eU by rw [eU_eq]; decide, Nat.pow_zero, Nat.mul_one, HU.out, un]
            have hE2 : ((a : Int) % 32768 / 16 == 0) = true := by simp; omega
            have HE0 := Lib.hid hE0
            clear hu2 hu hr hF hE0
            have HSC := Lib.hid hsc
            clear hsc
            by_cases hs : 32768 ≤ a
            · have hs1 : decide ((32768 : Int) ≤ (a : Int)) = true := decide_eq_true (by omega)
              go_wp2_with fail
              refine (HSC.out _).mono ?_
              rintro e w1 ⟨rfl, rfl⟩
              go_wp2
              go_ret2
              have hf := HFL.out
              rw [decide_eq_true hs] at hf
              exact ⟨fl true u, by rw [HOK.out]; rfl, .inr (by rw [HOF.out, hf]), fl_lt _ (Nat.le_of_lt HVT.out), Quiet.refl _⟩
            · have hs1 : decide ((32768 : Int) ≤ (a : Int)) = false := decide_eq_false (by omega)
              have HS := Lib.hid hs
              clear hs
              go_wp2_with fail
              refine (HSC.out _).mono ?_
              rintro e w1 ⟨rfl, rfl⟩
              go_wp2
              go_ret2
              have hf := HFL.out
              rw [decide_eq_false HS.out] at hf
              exact ⟨fl false u, by rw [HOK.out]; rfl, .inr (by rw [HOF.out, hf]), fl_lt _ (Nat.le_of_lt HVT.out), Quiet.refl _⟩
          · obtain ⟨d, hd⟩ : ∃ d, a % 32768 / 16 = d + 1 := ⟨a % 32768 / 16 - 1, by omega⟩
            have hu2 : u = (4503599627370496 + F) * 2 ^ d := by rw [hu, hr, hd, val_big hF2]
            have HU := Lib.hid hu2
            have HD := Lib.hid hd
            have hd3 : d < 2047 := by omega
            have hsc : ∀ w, Calls Try.prog 34 #[.float .f64 (floatOfInt .f64 ((m : Int) + (a : Int) % 16 * 65536 * 65536 * 65536 + 4503599627370496)), .int .i64 ((a : Int) % 32768 / 16 - 1075)] w fun e w' => e = .returned (.float .f64 (fl false u)) ∧ w = w' := by
              intro w
              have hdd := HD.out
              rw [HFI.out, show (F : Int) + 4503599627370496 = ((4503599627370496 + F : Nat) : Int) by omega, fint (by omega)]
              refine scale_any (ex_un (by omega)) (un_lt (by omega)) HVT.out (by omega) (by omega) ?_ w
              have hU := eU_eq
              rw [HU.out, un, Nat.mul_assoc, Nat.mul_assoc, ← Nat.pow_add, ← Nat.pow_add]
              congr 2
              omega
            have hE2 : ((a : Int) % 32768 / 16 == 0) = false := by simp; omega
            have HE0 := Lib.hid hE0
            clear hu2 hu hr hF hE0 hd
            have HSC := Lib.hid hsc
            clear hsc
            by_cases hs : 32768 ≤ a
            · have hs1 : decide ((32768 : Int) ≤ (a : Int)) = true := decide_eq_true (by omega)
              go_wp2_with fail
              refine (HSC.out _).mono ?_
              rintro e w1 ⟨rfl, rfl⟩
              go_wp2
              go_ret2
              have hf := HFL.out
              rw [decide_eq_true hs] at hf
              exact ⟨fl true u, by rw [HOK.out]; rfl, .inr (by rw [HOF.out, hf]), fl_lt _ (Nat.le_of_lt HVT.out), Quiet.refl _⟩
            · have hs1 : decide ((32768 : Int) ≤ (a : Int)) = false := decide_eq_false (by omega)
              have HS := Lib.hid hs
              clear hs
              go_wp2_with fail
              refine (HSC.out _).mono ?_
              rintro e w1 ⟨rfl, rfl⟩
              go_wp2
              go_ret2
              have hf := HFL.out
              rw [decide_eq_false HS.out] at hf
              exact ⟨fl false u, by rw [HOK.out]; rfl, .inr (by rw [HOF.out, hf]), fl_lt _ (Nat.le_of_lt HVT.out), Quiet.refl _⟩
  · have hne : ((n : Int) == 4) = false := by simp; omega
    go_enter Try.func19, Try.ntmps19
    go_wp2
    go_ret2
    unfold Ret3 ofB okL
    rw [HL.out, decide_eq_false hn]
    exact ⟨0, rfl, .inr rfl, by decide, Quiet.refl _⟩

end Go.Proofs.Ytfbckijagjidkaa.Ref3
/- Layer 3's reference: the four numbers of a float. Conditions: none. -/
namespace Go.Proofs.Ytfbckijagjidkaa.Ref3
open Go.Proofs.Ytfbckijagjidkaa.Fp Go.Proofs.Ytfbckijagjidkaa.Re Go.ChangeShapes Go.WideShapes Go.ChangeAt Go.RowKit

def Reg1Rel (v : Nat) (w : World) (x i : Value) (wr : World) : Prop :=
  ∃ X e : Nat, x = .float .f64 (fl false X) ∧ i = .int .i64 (e : Int) ∧ wr = w ∧ 1 ≤ e ∧ e ≤ 1075 ∧ Ex X ∧ X < top ∧ X * 2 ^ e = v * 2 ^ (1 + eU) ∧ (e = 1075 ∨ X < t53)
def Reg2Rel (v : Nat) (w : World) (x i : Value) (wr : World) : Prop :=
  ∃ X e : Nat, x = .float .f64 (fl false X) ∧ i = .int .i64 (e : Int) ∧ wr = w ∧ 1 ≤ e ∧ e ≤ 2100 ∧ Ex X ∧ X < top ∧ X * 2 ^ e = v * 2 ^ (1 + eU) ∧ (X = 0 ∨ t52 ≤ X ∨ e = 1)
theorem regs_nan (b : Nat) (hb : nanB b = true) (w : World) :
    Calls Try.prog 16 #[.float .f64 b] w (RetL (regsN (canon b)) w) := by
  have hn : (FloatKind.f64.format.order b b != some Ordering.eq) = true := hb
  have e : regsN (canon b) = [32760, 0, 0, 0] := by unfold canon; rw [hb, if_pos rfl]; decide
  rw [e]
  have HB := Lib.hid hb
  clear hb e
  go_enter Try.func16, Try.ntmps16
  go_wp2
  go_ret
  exact ⟨_, 4, 4, rfl, (Ints.new .i64 w 3 [32760, 0, 0, 0] _ rfl).more (by simp), (Keep.refl w).alloc _⟩
theorem regsN_top (s : Bool) : regsN (fl s top) = [(if s then 32768 else 0) + 32752, 0, 0, 0] := by
  unfold fl; rw [rg_top]; cases s <;> decide
set_option maxHeartbeats 400000 in
theorem regs_top (s : Bool) (w : World) :
    Calls Try.prog 16 #[.float .f64 (fl s top)] w (RetL (regsN (fl s top)) w) := by
  have hmin := fun w => minus_any s ex_top w
  have hn : (FloatKind.f64.format.order (fl s top) (fl s top) != some Ordering.eq) = false := nanB_fl ex_top
  have hneg : Op.unary .neg (.float .f64 (fl true top)) = pure (.float .f64 (fl false top)) := neg_run true ex_top
  have hgt := gt0 (s := false) ex_top
  rw [Bool.not_false, Bool.true_and, decide_eq_true (show top ≠ 0 from Nat.ne_of_gt top_pos)] at hgt
  have hh : ∀ t w, (binOp .quo t (.float .f64 (fl false top)) (.float .f64 4611686018427387904)).run Try.prog w = .ok (.float .f64 (fl false top)) w := fun t w => run_float_arith w .quo t .f64 _ _ _ (half_top false)
  have heq : (FloatKind.f64.format.order (fl false top) (fl false top) == some Ordering.eq) = true := by rw [eq_fl ex_top ex_top]; exact decide_eq_true rfl
  rw [regsN_top s]
  cases s
  · generalize fl false top = c at *
    go_enter Try.func16, Try.ntmps16
    go_wp2_with fail
    refine (hmin _).mono ?_
    rintro e w1 ⟨rfl, rfl⟩
    go_wp2
    go_ret
    exact ⟨_, 4, 4, rfl, (Ints.new .i64 w 3 [32752, 0, 0, 0] _ rfl).more (by simp), (Keep.refl w).alloc _⟩
  · generalize fl false top = c at *
    generalize fl true top = d at *
    go_enter Try.func16, Try.ntmps16
    go_wp2_with fail
    refine (hmin _).mono ?_
    rintro e w1 ⟨rfl, rfl⟩
    go_wp2
    go_ret
    exact ⟨_, 4, 4, rfl, (Ints.new .i64 w 3 [65520, 0, 0, 0] _ rfl).more (by simp), (Keep.refl w).alloc _⟩
theorem cells4 {a b c d a' b' c' d' : Int} (h1 : a = a') (h2 : b = b') (h3 : c = c') (h4 : d = d') :
    (#[Value.int .i64 a, Value.int .i64 b, Value.int .i64 c, Value.int .i64 d]).toList = [a', b', c', d'].map (Value.int .i64) := by rw [h1, h2, h3, h4]; rfl
set_option maxHeartbeats 1000000 in
theorem regs_fin (s : Bool) {v : Nat} (hv : Ex v) (hvt : v < top) (hv0 : v ≠ 0) (w : World) :
    Calls Try.prog 16 #[.float .f64 (fl s v)] w (RetL (regsN (fl s v)) w) := by
  have hmin := fun w => minus_any s hv w
  have hn : (FloatKind.f64.format.order (fl s v) (fl s v) != some Ordering.eq) = false := nanB_fl hv
  have hneg : Op.unary .neg (.float .f64 (fl true v)) = pure (.float .f64 (fl false v)) := neg_run true hv
  have hgt := gt0 (s := false) hv
  rw [Bool.not_false, Bool.true_and, decide_eq_true hv0] at hgt
  obtain ⟨u, hu, hue, huv, _⟩ := half_any false hv hvt
  have hh : ∀ t w, (binOp .quo t (.float .f64 (fl false v)) (.float .f64 4611686018427387904)).run Try.prog w = .ok (.float .f64 (fl false u)) w := fun t w => run_float_arith w .quo t .f64 _ _ _ hu
  have heq : (FloatKind.f64.format.order (fl false u) (fl false v) == some Ordering.eq) = false := by
    rw [eq_fl hue hv]; refine decide_eq_false ?_; have := huv hv0; unfold sg; simp only [Bool.false_eq_true, if_false]; omega
  have HU := Lib.hid hu
  have HV := Lib.hid hv
  have HVT := Lib.hid hvt
  have HV0 := Lib.hid hv0
  clear hu hue huv hv hvt hv0
  generalize fl false u = d at *
  cases s
  · obtain ⟨c, hc⟩ : ∃ c, c = fl false v := ⟨_, rfl⟩
    rw [← hc] at hmin hn hneg hgt hh heq ⊢
    have HC := Lib.hid hc
    clear hc
    go_enter Try.func16, Try.ntmps16
    go_wp2_with fail
    refine (hmin _).mono ?_
    rintro e w1 ⟨rfl, rfl⟩
    go_wp2
    go_loopw [0, 4] (fun x i wr => Reg1Rel v w x i wr) (fun _ i _ => (intOf i).toNat)
    case atStart => exact ⟨v, 1 + eU, by rw [← HC.out], by rw [eU_eq]; rfl, rfl, by omega, by rw [eU_eq]; omega, HV.out, HVT.out, rfl, .inl (by rw [eU_eq])⟩
    case round =>
      obtain ⟨X, e, rfl, rfl, rfl, he1, he2, hX, hXt, hXe, hXb⟩ := hrel
      have h1 := ne0 (s := false) hX
      have h2 := lt52 hX
      have HX := Lib.hid hX
      have HXT := Lib.hid hXt
      have HXE := Lib.hid hXe
      have HXB := Lib.hid hXb
      clear hX hXt hXe hXb
      by_cases hgo : X ≠ 0 ∧ X < t52 ∧ 1 < e
      · obtain ⟨g1, g2, g3⟩ := hgo
        have hle : 2 * X < t53 := by rw [t53_two]; omega
        have hm := two_times (Q0 := Try.prog) false HX.out (Nat.lt_trans hle t53_top)
        rw [decide_eq_true g1] at h1
        rw [decide_eq_true g2] at h2
        have G1 := Lib.hid g1
        have G2 := Lib.hid g2
        have HLE := Lib.hid hle
        have h3 : decide ((1 : Int) < (e : Int)) = true := decide_eq_true (by omega)
        have HE1 := Lib.hid he1
        have HG3 := Lib.hid g3
        clear g1 g2 hle he1 g3
        generalize fl false X = x at *
        go_wp2
        go_roundw
        case rel =>
          have hd := ex_double HX.out (Nat.le_of_lt (Nat.lt_trans HLE.out t53_top))
          refine ⟨2 * X, e - 1, rfl, by have := HG3.out; go_num, rfl, by have := HG3.out; omega, by omega, hd, Nat.lt_trans HLE.out t53_top, ?_, .inr HLE.out⟩
          rw [← HXE.out, Nat.mul_comm 2 X, Nat.mul_assoc, ← Nat.pow_succ', show (e - 1).succ = e by have := HG3.out; omega]
        case measure => have := HG3.out; simp [intOf]; omega
      · have hX0 : X ≠ 0 := by
          intro h0
          have h := HXE.out
          rw [h0, Nat.zero_mul] at h
          have := Nat.mul_pos (Nat.pos_of_ne_zero HV0.out) (pos2 (1 + eU))
          omega
        rw [decide_eq_true hX0] at h1
        have HX0 := Lib.hid hX0
        have HE1 := Lib.hid he1
        clear hX0 he1
        have hend : t52 ≤ X ∨ (X < t52 ∧ e = 1) := by have := HE1.out; have := HX0.out; omega
        clear hgo
        rcases hend with hA | ⟨hA, hB⟩
        · rw [decide_eq_false (by omega)] at h2
          have HA : Hid (t52 ≤ X ∨ e = 1) := Lib.hid (.inl hA)
          clear hA
          obtain ⟨x, hx⟩ : ∃ x, x = fl false X := ⟨_, rfl⟩
          rw [← hx] at h1 h2 ⊢
          have HXX := Lib.hid hx
          clear hx
          go_wp2
          clear h1 h2
          go_loopw [0, 4] (fun x i wr' => Reg2Rel v wr x i wr') (fun _ i _ => 3000 - (intOf i).toNat)
          case atStart => exact ⟨X, e, by rw [← HXX.out], rfl, rfl, HE1.out, by omega, HX.out, HXT.out, HXE.out, .inr HA.out⟩
          case round =>
            obtain ⟨Y, k, rfl, rfl, rfl, hk1, hk2, hY, hYt, hYe, hYb⟩ := hrel
            have h4 := ge53 hY
            have HYE := Lib.hid hYe
            have HYB := Lib.hid hYb
            have HY := Lib.hid hY
            have HYT := Lib.hid hYt
            have HK1 := Lib.hid hk1
            clear hYe hYb hY hYt hk1
            by_cases hgo : t53 ≤ Y
            · rw [decide_eq_true hgo] at h4
              obtain ⟨Z, rfl⟩ : ∃ Z, Y = 2 * Z := ⟨Y / 2, by have := big_even HY.out hgo; omega⟩
              have hm := halved (Q0 := Try.prog) false HY.out HYT.out
              have hkb := norm_bound HVT.out HYE.out hgo
              have HGO := Lib.hid hgo
              clear hgo
              generalize fl false (2 * Z) = y at *
              go_wp2
              go_roundw
              case rel =>
                refine ⟨Z, k + 1, rfl, by go_num, rfl, by omega, by omega, ex_half HY.out, by have := HYT.out; omega, ?_, .inr (.inl (by have := HGO.out; rw [t53_two] at this; omega))⟩
                rw [← HYE.out, Nat.pow_succ', ← Nat.mul_assoc, Nat.mul_comm 2 Z]
              case measure => simp [intOf]; omega
            · rw [decide_eq_false hgo] at h4
              obtain ⟨hN1, hN2, hN3⟩ := norm_rg HV.out HYE.out HK1.out (Nat.lt_of_not_le hgo) HYB.out
              have hcv := fun w => run_convert_float_int (P := Try.prog) w 44 3 .f64 .i64 (fl false Y) _ (by rw [Try.underlying44]; rfl) Try.underlying3 (to_int HY.out (Nat.le_of_lt (Nat.lt_of_not_le hgo)))
              have HGO := Lib.hid hgo
              clear hgo
              generalize Y / un = N at *
              generalize fl false Y = y at *
              by_cases hs : N < 4503599627370496
              · have hs1 : decide ((N : Int) < 4503599627370496) = true := decide_eq_true (by omega)
                have hr := hN2 hs
                have HR := Lib.hid hr
                clear hN2 hN3 hr
                go_wp2
                go_ret
                refine ⟨_, 4, 4, rfl, (Ints.new .i64 wr 3 (regsN c) _ ?_).more ?_, (Keep.refl wr).alloc _⟩
                · have hr : c = 0 * 281474976710656 + N := by rw [HC.out]; unfold fl; rw [if_neg (by decide), HR.out] <;> omega
                  exact cells4 (by rw [hr]; unfold regN; go_num) (by rw [hr]; unfold regN; go_num) (by rw [hr]; unfold regN; go_num) (by rw [hr]; unfold regN; go_num)
                · simp
              · have hs1 : decide ((N : Int) < 4503599627370496) = false := decide_eq_false (by omega)
                have hr := hN3 (by omega)
                have hs2 : 4503599627370496 ≤ N := by omega
                have hkk : k < 2047 := by have := rg_lt HVT.out; omega
                have HR := Lib.hid hr
                clear hN2 hN3 hr hs
                go_wp2
                go_ret
                refine ⟨_, 4, 4, rfl, (Ints.new .i64 wr 3 (regsN c) _ ?_).more ?_, (Keep.refl wr).alloc _⟩
                · have hr : c = 0 * 281474976710656 + (k * 4503599627370496 + (N - 4503599627370496)) := by rw [HC.out]; unfold fl; rw [if_neg (by decide), HR.out] <;> omega
                  exact cells4 (by rw [hr]; unfold regN; go_num) (by rw [hr]; unfold regN; go_num) (by rw [hr]; unfold regN; go_num) (by rw [hr]; unfold regN; go_num)
                · simp
        · rw [decide_eq_true hA] at h2
          have h3 : decide ((1 : Int) < (e : Int)) = false := decide_eq_false (by omega)
          have HA : Hid (t52 ≤ X ∨ e = 1) := Lib.hid (.inr hB)
          clear hA hB
          obtain ⟨x, hx⟩ : ∃ x, x = fl false X := ⟨_, rfl⟩
          rw [← hx] at h1 h2 ⊢
          have HXX := Lib.hid hx
          clear hx
          go_wp2
          clear h1 h2
          go_loopw [0, 4] (fun x i wr' => Reg2Rel v wr x i wr') (fun _ i _ => 3000 - (intOf i).toNat)
          case atStart => exact ⟨X, e, by rw [← HXX.out], rfl, rfl, HE1.out, by omega, HX.out, HXT.out, HXE.out, .inr HA.out⟩
          case round =>
            obtain ⟨Y, k, rfl, rfl, rfl, hk1, hk2, hY, hYt, hYe, hYb⟩ := hrel
            have h4 := ge53 hY
            have HYE := Lib.hid hYe
            have HYB := Lib.hid hYb
            have HY := Lib.hid hY
            have HYT := Lib.hid hYt
            have HK1 := Lib.hid hk1
            clear hYe hYb hY hYt hk1
            by_cases hgo : t53 ≤ Y
            · rw [decide_eq_true hgo] at h4
              obtain ⟨Z, rfl⟩ : ∃ Z, Y = 2 * Z := ⟨Y / 2, by have := big_even HY.out hgo; omega⟩
              have hm := halved (Q0 := Try.prog) false HY.out HYT.out
              have hkb := norm_bound HVT.out HYE.out hgo
              have HGO := Lib.hid hgo
              clear hgo
              generalize fl false (2 * Z) = y at *
              go_wp2
              go_roundw
              case rel =>
                refine ⟨Z, k + 1, rfl, by go_num, rfl, by omega, by omega, ex_half HY.out, by have := HYT.out; omega, ?_, .inr (.inl (by have := HGO.out; rw [t53_two] at this; omega))⟩
                rw [← HYE.out, Nat.pow_succ', ← Nat.mul_assoc, Nat.mul_comm 2 Z]
              case measure => simp [intOf]; omega
            · rw [decide_eq_false hgo] at h4
              obtain ⟨hN1, hN2, hN3⟩ := norm_rg HV.out HYE.out HK1.out (Nat.lt_of_not_le hgo) HYB.out
              have hcv := fun w => run_convert_float_int (P := Try.prog) w 44 3 .f64 .i64 (fl false Y) _ (by rw [Try.underlying44]; rfl) Try.underlying3 (to_int HY.out (Nat.le_of_lt (Nat.lt_of_not_le hgo)))
              have HGO := Lib.hid hgo
              clear hgo
              generalize Y / un = N at *
              generalize fl false Y = y at *
              by_cases hs : N < 4503599627370496
              · have hs1 : decide ((N : Int) < 4503599627370496) = true := decide_eq_true (by omega)
                have hr := hN2 hs
                have HR := Lib.hid hr
                clear hN2 hN3 hr
                go_wp2
                go_ret
                refine ⟨_, 4, 4, rfl, (Ints.new .i64 wr 3 (regsN c) _ ?_).more ?_, (Keep.refl wr).alloc _⟩
                · have hr : c = 0 * 281474976710656 + N := by rw [HC.out]; unfold fl; rw [if_neg (by decide), HR.out] <;> omega
                  exact cells4 (by rw [hr]; unfold regN; go_num) (by rw [hr]; unfold regN; go_num) (by rw [hr]; unfold regN; go_num) (by rw [hr]; unfold regN; go_num)
                · simp
              · have hs1 : decide ((N : Int) < 4503599627370496) = false := decide_eq_false (by omega)
                have hr := hN3 (by omega)
                have hs2 : 4503599627370496 ≤ N := by omega
                have hkk : k < 2047 := by have := rg_lt HVT.out; omega
                have HR := Lib.hid hr
                clear hN2 hN3 hr hs
                go_wp2
                go_ret
                refine ⟨_, 4, 4, rfl, (Ints.new .i64 wr 3 (regsN c) _ ?_).more ?_, (Keep.refl wr).alloc _⟩
                · have hr : c = 0 * 281474976710656 + (k * 4503599627370496 + (N - 4503599627370496)) := by rw [HC.out]; unfold fl; rw [if_neg (by decide), HR.out] <;> omega
                  exact cells4 (by rw [hr]; unfold regN; go_num) (by rw [hr]; unfold regN; go_num) (by rw [hr]; unfold regN; go_num) (by rw [hr]; unfold regN; go_num)
                · simp

  · obtain ⟨c, hc⟩ : ∃ c, c = fl false v := ⟨_, rfl⟩
    obtain ⟨d, hd⟩ : ∃ d, d = fl true v := ⟨_, rfl⟩
    rw [← hc] at hneg hgt hh heq
    rw [← hd] at hmin hn hneg ⊢
    have HC := Lib.hid hc
    have HD := Lib.hid hd
    clear hc hd
    go_enter Try.func16, Try.ntmps16
    go_wp2_with fail
    refine (hmin _).mono ?_
    rintro e w1 ⟨rfl, rfl⟩
    go_wp2
    go_loopw [0, 4] (fun x i wr => Reg1Rel v w x i wr) (fun _ i _ => (intOf i).toNat)
    case atStart => exact ⟨v, 1 + eU, by rw [← HC.out], by rw [eU_eq]; rfl, rfl, by omega, by rw [eU_eq]; omega, HV.out, HVT.out, rfl, .inl (by rw [eU_eq])⟩
    case round =>
      obtain ⟨X, e, rfl, rfl, rfl, he1, he2, hX, hXt, hXe, hXb⟩ := hrel
      have h1 := ne0 (s := false) hX
      have h2 := lt52 hX
      have HX := Lib.hid hX
      have HXT := Lib.hid hXt
      have HXE := Lib.hid hXe
      have HXB := Lib.hid hXb
      clear hX hXt hXe hXb
      by_cases hgo : X ≠ 0 ∧ X < t52 ∧ 1 < e
      · obtain ⟨g1, g2, g3⟩ := hgo
        have hle : 2 * X < t53 := by rw [t53_two]; omega
        have hm := two_times (Q0 := Try.prog) false HX.out (Nat.lt_trans hle t53_top)
        rw [decide_eq_true g1] at h1
        rw [decide_eq_true g2] at h2
        have G1 := Lib.hid g1
        have G2 := Lib.hid g2
        have HLE := Lib.hid hle
        have h3 : decide ((1 : Int) < (e : Int)) = true := decide_eq_true (by omega)
        have HE1 := Lib.hid he1
        have HG3 := Lib.hid g3
        clear g1 g2 hle he1 g3
        generalize fl false X = x at *
        go_wp2
        go_roundw
        case rel =>
          have hd := ex_double HX.out (Nat.le_of_lt (Nat.lt_trans HLE.out t53_top))
          refine ⟨2 * X, e - 1, rfl, by have := HG3.out; go_num, rfl, by have := HG3.out; omega, by omega, hd, Nat.lt_trans HLE.out t53_top, ?_, .inr HLE.out⟩
          rw [← HXE.out, Nat.mul_comm 2 X, Nat.mul_assoc, ← Nat.pow_succ', show (e - 1).succ = e by have := HG3.out; omega]
        case measure => have := HG3.out; simp [intOf]; omega
      · have hX0 : X ≠ 0 := by
          intro h0
          have h := HXE.out
          rw [h0, Nat.zero_mul] at h
          have := Nat.mul_pos (Nat.pos_of_ne_zero HV0.out) (pos2 (1 + eU))
          omega
        rw [decide_eq_true hX0] at h1
        have HX0 := Lib.hid hX0
        have HE1 := Lib.hid he1
        clear hX0 he1
        have hend : t52 ≤ X ∨ (X < t52 ∧ e = 1) := by have := HE1.out; have := HX0.out; omega
        clear hgo
        rcases hend with hA | ⟨hA, hB⟩
        · rw [decide_eq_false (by omega)] at h2
          have HA : Hid (t52 ≤ X ∨ e = 1) := Lib.hid (.inl hA)
          clear hA
          obtain ⟨x, hx⟩ : ∃ x, x = fl false X := ⟨_, rfl⟩
          rw [← hx] at h1 h2 ⊢
          have HXX := Lib.hid hx
          clear hx
          go_wp2
          clear h1 h2
          go_loopw [0, 4] (fun x i wr' => Reg2Rel v wr x i wr') (fun _ i _ => 3000 - (intOf i).toNat)
          case atStart => exact ⟨X, e, by rw [← HXX.out], rfl, rfl, HE1.out, by omega, HX.out, HXT.out, HXE.out, .inr HA.out⟩
          case round =>
            obtain ⟨Y, k, rfl, rfl, rfl, hk1, hk2, hY, hYt, hYe, hYb⟩ := hrel
            have h4 := ge53 hY
            have HYE := Lib.hid hYe
            have HYB := Lib.hid hYb
            have HY := Lib.hid hY
            have HYT := Lib.hid hYt
            have HK1 := Lib.hid hk1
            clear hYe hYb hY hYt hk1
            by_cases hgo : t53 ≤ Y
            · rw [decide_eq_true hgo] at h4
              obtain ⟨Z, rfl⟩ : ∃ Z, Y = 2 * Z := ⟨Y / 2, by have := big_even HY.out hgo; omega⟩
              have hm := halved (Q0 := Try.prog) false HY.out HYT.out
              have hkb := norm_bound HVT.out HYE.out hgo
              have HGO := Lib.hid hgo
              clear hgo
              generalize fl false (2 * Z) = y at *
              go_wp2
              go_roundw
              case rel =>
                refine ⟨Z, k + 1, rfl, by go_num, rfl, by omega, by omega, ex_half HY.out, by have := HYT.out; omega, ?_, .inr (.inl (by have := HGO.out; rw [t53_two] at this; omega))⟩
                rw [← HYE.out, Nat.pow_succ', ← Nat.mul_assoc, Nat.mul_comm 2 Z]
              case measure => simp [intOf]; omega
            · rw [decide_eq_false hgo] at h4
              obtain ⟨hN1, hN2, hN3⟩ := norm_rg HV.out HYE.out HK1.out (Nat.lt_of_not_le hgo) HYB.out
              have hcv := fun w => run_convert_float_int (P := Try.prog) w 44 3 .f64 .i64 (fl false Y) _ (by rw [Try.underlying44]; rfl) Try.underlying3 (to_int HY.out (Nat.le_of_lt (Nat.lt_of_not_le hgo)))
              have HGO := Lib.hid hgo
              clear hgo
              generalize Y / un = N at *
              generalize fl false Y = y at *
              by_cases hs : N < 4503599627370496
              · have hs1 : decide ((N : Int) < 4503599627370496) = true := decide_eq_true (by omega)
                have hr := hN2 hs
                have HR := Lib.hid hr
                clear hN2 hN3 hr
                go_wp2
                go_ret
                refine ⟨_, 4, 4, rfl, (Ints.new .i64 wr 3 (regsN d) _ ?_).more ?_, (Keep.refl wr).alloc _⟩
                · have hr : d = 32768 * 281474976710656 + N := by rw [HD.out]; unfold fl; rw [if_pos rfl, HR.out] <;> omega
                  exact cells4 (by rw [hr]; unfold regN; go_num) (by rw [hr]; unfold regN; go_num) (by rw [hr]; unfold regN; go_num) (by rw [hr]; unfold regN; go_num)
                · simp
              · have hs1 : decide ((N : Int) < 4503599627370496) = false := decide_eq_false (by omega)
                have hr := hN3 (by omega)
                have hs2 : 4503599627370496 ≤ N := by omega
                have hkk : k < 2047 := by have := rg_lt HVT.out; omega
                have HR := Lib.hid hr
                clear hN2 hN3 hr hs
                go_wp2
                go_ret
                refine ⟨_, 4, 4, rfl, (Ints.new .i64 wr 3 (regsN d) _ ?_).more ?_, (Keep.refl wr).alloc _⟩
                · have hr : d = 32768 * 281474976710656 + (k * 4503599627370496 + (N - 4503599627370496)) := by rw [HD.out]; unfold fl; rw [if_pos rfl, HR.out] <;> omega
                  exact cells4 (by rw [hr]; unfold regN; go_num) (by rw [hr]; unfold regN; go_num) (by rw [hr]; unfold regN; go_num) (by rw [hr]; unfold regN; go_num)
                · simp
        · rw [decide_eq_true hA] at h2
          have h3 : decide ((1 : Int) < (e : Int)) = false := decide_eq_false (by omega)
          have HA : Hid (t52 ≤ X ∨ e = 1) := Lib.hid (.inr hB)
          clear hA hB
          obtain ⟨x, hx⟩ : ∃ x, x = fl false X := ⟨_, rfl⟩
          rw [← hx] at h1 h2 ⊢
          have HXX := Lib.hid hx
          clear hx
          go_wp2
          clear h1 h2
          go_loopw [0, 4] (fun x i wr' => Reg2Rel v wr x i wr') (fun _ i _ => 3000 - (intOf i).toNat)
          case atStart => exact ⟨X, e, by rw [← HXX.out], rfl, rfl, HE1.out, by omega, HX.out, HXT.out, HXE.out, .inr HA.out⟩
          case round =>
            obtain ⟨Y, k, rfl, rfl, rfl, hk1, hk2, hY, hYt, hYe, hYb⟩ := hrel
            have h4 := ge53 hY
            have HYE := Lib.hid hYe
            have HYB := Lib.hid hYb
            have HY := Lib.hid hY
            have HYT := Lib.hid hYt
            have HK1 := Lib.hid hk1
            clear hYe hYb hY hYt hk1
            by_cases hgo : t53 ≤ Y
            · rw [decide_eq_true hgo] at h4
              obtain ⟨Z, rfl⟩ : ∃ Z, Y = 2 * Z := ⟨Y / 2, by have := big_even HY.out hgo; omega⟩
              have hm := halved (Q0 := Try.prog) false HY.out HYT.out
              have hkb := norm_bound HVT.out HYE.out hgo
              have HGO := Lib.hid hgo
              clear hgo
              generalize fl false (2 * Z) = y at *
              go_wp2
              go_roundw
              case rel =>
                refine ⟨Z, k + 1, rfl, by go_num, rfl, by omega, by omega, ex_half HY.out, by have := HYT.out; omega, ?_, .inr (.inl (by have := HGO.out; rw [t53_two] at this; omega))⟩
                rw [← HYE.out, Nat.pow_succ', ← Nat.mul_assoc, Nat.mul_comm 2 Z]
              case measure => simp [intOf]; omega
            · rw [decide_eq_false hgo] at h4
              obtain ⟨hN1, hN2, hN3⟩ := norm_rg HV.out HYE.out HK1.out (Nat.lt_of_not_le hgo) HYB.out
              have hcv := fun w => run_convert_float_int (P := Try.prog) w 44 3 .f64 .i64 (fl false Y) _ (by rw [Try.underlying44]; rfl) Try.underlying3 (to_int HY.out (Nat.le_of_lt (Nat.lt_of_not_le hgo)))
              have HGO := Lib.hid hgo
              clear hgo
              generalize Y / un = N at *
              generalize fl false Y = y at *
              by_cases hs : N < 4503599627370496
              · have hs1 : decide ((N : Int) < 4503599627370496) = true := decide_eq_true (by omega)
                have hr := hN2 hs
                have HR := Lib.hid hr
                clear hN2 hN3 hr
                go_wp2
                go_ret
                refine ⟨_, 4, 4, rfl, (Ints.new .i64 wr 3 (regsN d) _ ?_).more ?_, (Keep.refl wr).alloc _⟩
                · have hr : d = 32768 * 281474976710656 + N := by rw [HD.out]; unfold fl; rw [if_pos rfl, HR.out] <;> omega
                  exact cells4 (by rw [hr]; unfold regN; go_num) (by rw [hr]; unfold regN; go_num) (by rw [hr]; unfold regN; go_num) (by rw [hr]; unfold regN; go_num)
                · simp
              · have hs1 : decide ((N : Int) < 4503599627370496) = false := decide_eq_false (by omega)
                have hr := hN3 (by omega)
                have hs2 : 4503599627370496 ≤ N := by omega
                have hkk : k < 2047 := by have := rg_lt HVT.out; omega
                have HR := Lib.hid hr
                clear hN2 hN3 hr hs
                go_wp2
                go_ret
                refine ⟨_, 4, 4, rfl, (Ints.new .i64 wr 3 (regsN d) _ ?_).more ?_, (Keep.refl wr).alloc _⟩
                · have hr : d = 32768 * 281474976710656 + (k * 4503599627370496 + (N - 4503599627370496)) := by rw [HD.out]; unfold fl; rw [if_pos rfl, HR.out] <;> omega
                  exact cells4 (by rw [hr]; unfold regN; go_num) (by rw [hr]; unfold regN; go_num) (by rw [hr]; unfold regN; go_num) (by rw [hr]; unfold regN; go_num)
                · simp
set_option maxHeartbeats 400000 in
theorem regs_zero (s : Bool) (w : World) :
    Calls Try.prog 16 #[.float .f64 (fl s 0)] w (RetL (regsN (fl s 0)) w) := by
  have hmin := fun w => minus_any s ex_zero w
  have hn : (FloatKind.f64.format.order (fl s 0) (fl s 0) != some Ordering.eq) = false := nanB_fl ex_zero
  have hneg : Op.unary .neg (.float .f64 (fl true 0)) = pure (.float .f64 (fl false 0)) := neg_run true ex_zero
  have hgt := gt0 (s := false) ex_zero
  have hne := ne0 (s := false) ex_zero
  have hge := ge53 ex_zero
  rw [Bool.not_false, Bool.true_and, decide_eq_false (by simp)] at hgt
  rw [decide_eq_false (by simp)] at hne
  rw [decide_eq_false (by have := t52_pos; rw [t53_two]; omega)] at hge
  have hcv := fun w => run_convert_float_int (P := Try.prog) w 44 3 .f64 .i64 (fl false 0) _ (by rw [Try.underlying44]; rfl) Try.underlying3 (to_int ex_zero (Nat.zero_le _))
  rw [Nat.zero_div] at hcv
  have hl : regsN (fl s 0) = [if s then 32768 else 0, 0, 0, 0] := by cases s <;> decide
  rw [hl]
  cases s
  · generalize fl false 0 = c at *
    go_enter Try.func16, Try.ntmps16
    go_wp2_with fail
    refine (hmin _).mono ?_
    rintro e w1 ⟨rfl, rfl⟩
    go_wp2
    go_loopw [0, 4] (fun x i wr => StayRel w (.float .f64 c) (.int .i64 1075) x i wr) (fun _ _ _ => 0)
    case atStart => exact ⟨rfl, rfl, rfl⟩
    case round =>
      obtain ⟨rfl, rfl, rfl⟩ := hrel
      go_wp2
      go_loopw [0, 4] (fun x i wr' => StayRel wr (.float .f64 c) (.int .i64 1075) x i wr') (fun _ _ _ => 0)
      case atStart => exact ⟨rfl, rfl, rfl⟩
      case round =>
        obtain ⟨rfl, rfl, rfl⟩ := hrel
        go_wp2
        go_ret
        exact ⟨_, 4, 4, rfl, (Ints.new .i64 wr 3 [0, 0, 0, 0] _ rfl).more (by simp), (Keep.refl wr).alloc _⟩
  · generalize fl false 0 = c at *
    generalize fl true 0 = d at *
    go_enter Try.func16, Try.ntmps16
    go_wp2_with fail
    refine (hmin _).mono ?_
    rintro e w1 ⟨rfl, rfl⟩
    go_wp2
    go_loopw [0, 4] (fun x i wr => StayRel w (.float .f64 c) (.int .i64 1075) x i wr) (fun _ _ _ => 0)
    case atStart => exact ⟨rfl, rfl, rfl⟩
    case round =>
      obtain ⟨rfl, rfl, rfl⟩ := hrel
      go_wp2
      go_loopw [0, 4] (fun x i wr' => StayRel wr (.float .f64 c) (.int .i64 1075) x i wr') (fun _ _ _ => 0)
      case atStart => exact ⟨rfl, rfl, rfl⟩
      case round =>
        obtain ⟨rfl, rfl, rfl⟩ := hrel
        go_wp2
        go_ret
        exact ⟨_, 4, 4, rfl, (Ints.new .i64 wr 3 [32768, 0, 0, 0] _ rfl).more (by simp), (Keep.refl wr).alloc _⟩
theorem regs_any (b : Nat) (hb : b < 18446744073709551616) (w : World) :
    Calls Try.prog 16 #[.float .f64 b] w (RetL (regsN (canon b)) w) := by
  rcases kinds hb with ⟨_, h⟩ | ⟨h, s, v, hv, rfl⟩
  · exact regs_nan b h w
  · have e : canon (fl s v) = fl s v := by unfold canon; rw [h, if_neg (by decide)]
    rw [e]
    by_cases h0 : v = 0
    · subst h0; exact regs_zero s w
    · by_cases h1 : v = top
      · rw [h1]; exact regs_top s w
      · exact regs_fin s hv (Nat.lt_of_le_of_ne hv.2 h1) h0 w
end Go.Proofs.Ytfbckijagjidkaa.Ref3
