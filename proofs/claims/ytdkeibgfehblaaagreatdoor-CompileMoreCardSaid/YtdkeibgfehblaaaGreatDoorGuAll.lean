/- Several texts in one: Gu, Gu2, GuR. Conditions: as each part says. -/
import Derived.Test.YtdkeibgfehblaaaGreatDoorItoa
import Derived.Recover
import Derived.WalkLawsBesides
import Derived.Defers
import Derived.Laws.Pointers
import Derived.Test.YtdkeibgfehblaaaGreatDoorRows
import Derived.Test.YtdkeibgfehblaaaGreatDoorGuA
/- Layer 2's functions: each answers what the plain words of GuA say. Conditions: texts at most a million bytes; the library's table lies. -/
namespace Go.Proofs.YtdkeibgfehblaaaGreatDoor.Guard
open Go.ChangeShapes Go.WideShapes Go.ChangeAt Go.RowKit

/-- What holds at the head of the reading's rounds. -/
def ReadRel (w : World) (s : ByteArray) (n i : Value) (wr : World) : Prop :=
  ∃ k : Nat, k ≤ s.size ∧ i = .int .i64 k ∧ n = .int .i64 (Gu.val ((bl s).take k)) ∧ ((bl s).take k).all Gu.dig = true ∧ Gu.val ((bl s).take k) ≤ 9007199254740992 ∧ Quiet w wr

end Go.Proofs.YtdkeibgfehblaaaGreatDoor.Guard
/- Layer 2's reading, its deferred function that recovers, and its writing. Conditions: texts at most a million bytes; the library's table lies. -/
namespace Go.Proofs.YtdkeibgfehblaaaGreatDoor.Guard
open Go.ChangeShapes Go.WideShapes Go.ChangeAt Go.RowKit

theorem lt_of_cell? {w : World} {p : Addr} {v : Value} (h : w.cell? p = some v) : p.block < w.heap.size := by
  rcases Nat.lt_or_ge p.block w.heap.size with hlt | hge
  · exact hlt
  · unfold World.cell? at h
    rw [Array.getElem?_eq_none hge] at h
    split at h <;> simp_all

/-- The world with the two named results' variables. -/
def res2 (w : World) : World := (w.alloc (.cells #[.int .i64 0] 3)).alloc (.cells #[.bool false] 4)
theorem res2_keep (w : World) : Below w.heap.size w (res2 w) := ((Below.refl _ _).alloc (Nat.le_refl _) _).alloc (by simp) _
theorem res2_n (w : World) : (res2 w).cell? ⟨w.heap.size, 0, none⟩ = some (.int .i64 0) := by simp [res2, go_sem]
theorem res2_ok (w : World) : (res2 w).cell? ⟨w.heap.size + 1, 0, none⟩ = some (.bool false) := by simp [res2, go_sem]
theorem res2_fn (w : World) : (res2 w).frozen? ⟨w.heap.size, 0, none⟩ = false := by simp [res2, go_sem]
theorem res2_fok (w : World) : (res2 w).frozen? ⟨w.heap.size + 1, 0, none⟩ = false := by simp [res2, go_sem]

set_option maxHeartbeats 400000 in
theorem put_any (n : Int) (w : World) (ht : Tab w) :
    Calls Tryz.prog 94 #[.int .i64 n] w fun e w' => e = .returned (.tuple #[.string (st (Gu.put n)), .bool (Gu.inR n)]) ∧ Keep w w' := by
  by_cases h0 : n < 0
  · have e := Gu.inR_lo h0
    rw [Gu.put_out e, e]
    clear e
    go_enter Tryz.func94, Tryz.ntmps94
    go_wp2
    go_ret2
    exact ⟨rfl, Keep.refl _⟩
  · by_cases h1 : 9007199254740992 < n
    · have e := Gu.inR_hi h1
      rw [Gu.put_out e, e]
      clear e
      go_enter Tryz.func94, Tryz.ntmps94
      go_wp2
      go_ret2
      exact ⟨rfl, Keep.refl _⟩
    · have e := Gu.inR_mk (n := n) (by omega) (by omega)
      rw [Gu.put_in e, e]
      clear e
      go_enter Tryz.func94, Tryz.ntmps94
      go_wp2_with fail
      refine (itoa_any n (by omega) (by omega) _ ht).mono ?_
      rintro e w1 ⟨rfl, hb⟩
      go_wp2
      go_ret2
      exact ⟨rfl, hb⟩
end Go.Proofs.YtdkeibgfehblaaaGreatDoor.Guard
/- Layer 2's reference: each function answers what the plain words of GuA say. Conditions: texts at most a million bytes. -/
namespace Go.Proofs.YtdkeibgfehblaaaGreatDoor.Ref2
open Go.ChangeShapes Go.WideShapes Go.ChangeAt Go.RowKit

set_option maxHeartbeats 400000 in
theorem most_any (w : World) : Calls Tryz.prog 95 #[] w fun e w' => e = .returned (.int .i64 9007199254740992) ∧ w = w' := by
  go_enter Tryz.func95, Tryz.ntmps95
  go_wp2
  go_ret
  exact ⟨rfl, rfl⟩

/-- What holds at the head of the counting's rounds. -/
def LeadRel (w : World) (s : ByteArray) (i : Value) (wr : World) : Prop :=
  ∃ k : Nat, k ≤ s.size ∧ k ≤ Gu.lead (bl s) ∧ i = .int .i64 k ∧ Quiet w wr
/-- What holds at the head of the rounds that put digits. -/
def PutRel (w : World) (n : Int) (m s : Value) (wr : World) : Prop :=
  ∃ (k : Nat) (acc : List UInt8), m = .int .i64 k ∧ s = .string (st acc) ∧ (k : Int) ≤ 9007199254740992 ∧ Gu.put n = Lib.decDigits k ++ acc ∧ Keep w wr
set_option maxHeartbeats 1000000 in
theorem put_any (n : Int) (w : World) :
    Calls Tryz.prog 80 #[.int .i64 n] w fun e w' => e = .returned (.tuple #[.string (st (Gu.put n)), .bool (Gu.inR n)]) ∧ Keep w w' := by
  by_cases h0 : n < 0
  · have e := Gu.inR_lo h0
    rw [Gu.put_out e, e]
    clear e
    go_enter Tryz.func80, Tryz.ntmps80
    go_wp2
    go_ret2
    exact ⟨rfl, Keep.refl _⟩
  · by_cases h1 : 9007199254740992 < n
    · have e := Gu.inR_hi h1
      rw [Gu.put_out e, e]
      clear e
      go_enter Tryz.func80, Tryz.ntmps80
      go_wp2_with fail
      refine (most_any _).mono ?_
      rintro e w1 ⟨rfl, rfl⟩
      go_wp2
      go_ret2
      exact ⟨rfl, Keep.refl _⟩
    · have e := Gu.inR_mk (n := n) (by omega) (by omega)
      rw [e]
      have HE := Lib.hid e
      clear e
      go_enter Tryz.func80, Tryz.ntmps80
      go_wp2_with fail
      refine (most_any _).mono ?_
      rintro e w1 ⟨rfl, rfl⟩
      go_wp2
      go_loopw [0, 4] (fun m s wr => PutRel w n m s wr) (fun m _ _ => (intOf m).toNat)
      case atStart => exact ⟨n.toNat, [], by rw [Int.toNat_of_nonneg (by omega)], rfl, by omega, by rw [Gu.put_in HE.out, List.append_nil], Keep.refl _⟩
      case round =>
        obtain ⟨k, acc, rfl, rfl, hk, hput, hkeep⟩ := hrel
        obtain ⟨d, hd⟩ : ∃ d, d = UInt8.ofNat (48 + k % 10) := ⟨_, rfl⟩
        have hdn : (d.toNat : Int) = 48 + (k : Int) % 10 := by rw [hd, Gu.digit_byte _ (by omega)]; omega
        have hcv : ∀ w : World, (convert 113 9 (.slice (some ⟨w.heap.size, 0, none⟩) 1 1)).run Tryz.prog (w.alloc (.cells #[.int .u8 (48 + (k : Int) % 10)] 5)) = .ok (.string (st [d])) (w.alloc (.cells #[.int .u8 (48 + (k : Int) % 10)] 5)) :=
          fun w => conv_new Tryz.underlying113 Tryz.underlying5 Tryz.underlying9 _ 1 [d] (by simp [bv, hdn]) rfl
        have hal : acc.length ≤ 16 := by
          have h1 := congrArg List.length hput
          have h2 := Gu.put_len n
          rw [List.length_append] at h1
          omega
        have hadd := add_st (P := Tryz.prog) [d] acc (by simp; omega)
        have HP := Lib.hid hput
        have HD := Lib.hid hd
        have hkeep2 := hkeep.alloc (.cells #[.int .u8 (48 + (k : Int) % 10)] 5)
        clear hput hd hdn hal hkeep
        by_cases hk0 : k < 10
        · have hz : ((k : Int) / 10 == 0) = true := by simp; omega
          have e1 : Gu.put n = [d] ++ acc := by rw [HP.out, Gu.dec_small hk0, HD.out, Nat.mod_eq_of_lt hk0]
          have HE1 := Lib.hid e1
          clear e1 hk0
          go_wp2
          go_ret2
          exact ⟨by rw [HE1.out]; rfl, hkeep2⟩
        · have hz : ((k : Int) / 10 == 0) = false := by simp; omega
          have e1 : Gu.put n = Lib.decDigits (k / 10) ++ ([d] ++ acc) := by rw [HP.out, Gu.dec_big hk0, HD.out, List.append_assoc]
          have HE1 := Lib.hid e1
          clear e1
          go_wp2
          go_roundw
          case rel => exact ⟨k / 10, [d] ++ acc, congrArg (Value.int .i64) (by omega), rfl, by omega, HE1.out, hkeep2⟩
          case measure => simp [intOf]; omega

/-- What holds at the head of the rounds that read digits. -/
def GetRel (w : World) (s : ByteArray) (n i : Value) (wr : World) : Prop :=
  ∃ k : Nat, k ≤ s.size ∧ i = .int .i64 k ∧ n = .int .i64 (Gu.val ((bl s).take k)) ∧ Quiet w wr
end Go.Proofs.YtdkeibgfehblaaaGreatDoor.Ref2
