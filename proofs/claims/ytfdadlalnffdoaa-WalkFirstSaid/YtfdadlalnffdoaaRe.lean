/- Layer 3: each function answers what the plain words of ReA say. Conditions: none. -/
import Derived.Test.YtfdadlalnffdoaaReM
import Derived.Laws.OwnMore
namespace Go.Proofs.Ytfdadlalnffdoaa.Re
open Go.Proofs.Ytfdadlalnffdoaa.Fp Go.ChangeShapes Go.WideShapes Go.ChangeAt Go.RowKit



/-- Is the first at most the second one? -/
def leB (a b : Nat) : Bool := FloatKind.f64.format.order a b == some Ordering.lt || FloatKind.f64.format.order a b == some Ordering.eq
def withB (x low high : Nat) : Bool := leB low x && leB x high

theorem within_any (x low high : Nat) (w : World) : Calls Try.prog 70 #[.float .f64 x, .float .f64 low, .float .f64 high] w fun e w' => e = .returned (.bool (withB x low high)) ∧ w = w' := by
  cases h1 : leB low x
  · have h1' : (FloatKind.f64.format.order low x == some Ordering.lt || FloatKind.f64.format.order low x == some Ordering.eq) = false := h1
    go_enter Try.func70, Try.ntmps70
    go_wp2
    go_ret
    exact ⟨by unfold withB; rw [h1]; rfl, rfl⟩
  · have h1' : (FloatKind.f64.format.order low x == some Ordering.lt || FloatKind.f64.format.order low x == some Ordering.eq) = true := h1
    go_enter Try.func70, Try.ntmps70
    go_wp2
    go_ret
    exact ⟨by unfold withB; rw [h1]; rfl, rfl⟩

def OfRel (w : World) (zs : List Int) (v i : Value) (wr : World) : Prop :=
  ∃ k : Nat, k ≤ 4 ∧ i = .int .i64 (k : Int) ∧ v = .int .u64 ((bitsL (zs.take k) : Nat) : Int) ∧ Tw.allIn (zs.take k) = true ∧ wr = w

set_option maxHeartbeats 400000 in
theorem of_any (A : Option Addr) (n c : Nat) (zs : List Int) (w : World) (hA : Ints .i64 w w.heap.size A n zs) :
    Calls Try.prog 77 #[.slice A n c] w fun e w' => e = .returned (.tuple #[.float .f64 (ofB zs), .bool (okL zs)]) ∧ w = w' := by
  have hlen := hA.1
  have HL := Lib.hid hlen
  clear hlen
  by_cases hn : n = 4
  · subst hn
    go_enter Try.func77, Try.ntmps77
    go_wp2
    go_loopw [4, 12] (fun v i wr => OfRel w zs v i wr) (fun _ i _ => 4 - (intOf i).toNat)
    case atStart => exact ⟨0, by omega, rfl, rfl, rfl, rfl⟩
    case round =>
      obtain ⟨k, hk, rfl, rfl, hall, rfl⟩ := hrel
      have HALL := Lib.hid hall
      clear hall
      by_cases hlt : k < 4
      · obtain ⟨b, off, rfl, hb, hc⟩ := hA.2 (by omega)
        have hck := hc k hlt
        clear hc
        obtain ⟨z, hz⟩ : ∃ z, z = zs.getD k 0 := ⟨_, rfl⟩
        rw [← hz] at hck
        have HZ := Lib.hid hz
        clear hz
        by_cases h0 : z < 0
        · go_wp2
          go_ret2
          have e := Tw.allIn_false zs k (by rw [HL.out]; exact hlt) (by rw [← HZ.out]; exact Tw.not_inR (.inl h0))
          unfold ofB okL
          rw [e, Bool.and_false]
          exact ⟨rfl, rfl⟩
        · by_cases h1 : 65535 < z
          · go_wp2
            go_ret2
            have e := Tw.allIn_false zs k (by rw [HL.out]; exact hlt) (by rw [← HZ.out]; exact Tw.not_inR (.inr h1))
            unfold ofB okL
            rw [e, Bool.and_false]
            exact ⟨rfl, rfl⟩
          · go_wp2
            go_roundw
            case rel =>
              have hm := bitsL_lt _ HALL.out
              rw [List.length_take, HL.out, Nat.min_eq_left (by omega)] at hm
              have hm2 : bitsL (zs.take k) < 281474976710656 := Nat.lt_of_lt_of_le hm (show 65536 ^ k ≤ 65536 ^ 3 from Nat.pow_le_pow_right (by decide) (by omega))
              refine ⟨k + 1, by omega, by go_num, ?_, ?_, rfl⟩
              · obtain ⟨zn, rfl⟩ := Int.eq_ofNat_of_zero_le (show 0 ≤ z by omega)
                rw [Tw.take_snoc zs k (by rw [HL.out]; exact hlt), bitsL_snoc, ← HZ.out, IntKind.wrap_u64, Int.emod_eq_of_lt (by omega) (by omega), u64_or _ _ hm2 (by omega)]
                rfl
              · rw [Tw.take_snoc zs k (by rw [HL.out]; exact hlt), Tw.allIn_snoc, HALL.out, ← HZ.out, Tw.inR_of (by omega) (by omega)]; rfl
            case measure => simp [intOf]; omega
      · obtain rfl : k = 4 := by omega
        have hf := call_from (bitsL (zs.take 4))
        go_wp2
        go_ret2
        have e := HALL.out
        rw [List.take_of_length_le (by rw [HL.out]; omega)] at e ⊢
        unfold ofB okL
        rw [e, HL.out]
        exact ⟨rfl, rfl⟩
  · have hne : ((n : Int) == 4) = false := by simp; omega
    go_enter Try.func77, Try.ntmps77
    go_wp2
    go_ret2
    unfold ofB okL
    rw [HL.out, decide_eq_false hn]
    exact ⟨rfl, rfl⟩

/-- What comes back: a slice of integers. -/
def RetL (zs : List Int) (w : World) (e : Ending) (w' : World) : Prop :=
  ∃ A n c, e = .returned (.slice A n c) ∧ Ints .i64 w' w'.heap.size A n zs ∧ Keep w w'
theorem info_int : (Try.prog.info? 3).map (fun i => (i.zero, i.size, i.bytes)) = some (some (.int .i64 0), 1, 8) := by kernel_rfl
def RegsRel (w : World) (m : Nat) (i : Value) (wr : World) : Prop :=
  ∃ k : Nat, k ≤ 4 ∧ i = .int .i64 (k : Int) ∧ wr.ownsRow w.heap.size 3 1 (.slice (some ⟨w.heap.size, 0, none⟩) 4 4) 4 ((part m k).map (Value.int .i64)) ∧ Keep w wr

end Go.Proofs.Ytfdadlalnffdoaa.Re
