/- Of these texts: GuAll. Conditions: as each part says. -/
import Derived.Test.YtaciogcpghbhjaaGreatZTItoa
import Derived.Recover
import Derived.WalkLawsBesides
import Derived.Defers
import Derived.Laws.Pointers
import Derived.Test.YtaciogcpghbhjaaGreatRows
import Derived.Test.YtaciogcpghbhjaaGreatZTGuA
/- Several texts in one: Gu, Gu2, GuR. Conditions: as each part says. -/
namespace Go.Proofs.YtaciogcpghbhjaaGreat.Guard
open Go.ChangeShapes Go.WideShapes Go.ChangeAt Go.RowKit
end Go.Proofs.YtaciogcpghbhjaaGreat.Guard
namespace Go.Proofs.YtaciogcpghbhjaaGreat.Guard
open Go.ChangeShapes Go.WideShapes Go.ChangeAt Go.RowKit
end Go.Proofs.YtaciogcpghbhjaaGreat.Guard
namespace Go.Proofs.YtaciogcpghbhjaaGreat.Ref2
open Go.ChangeShapes Go.WideShapes Go.ChangeAt Go.RowKit
set_option maxHeartbeats 400000 in
theorem most_any (w : World) : Calls Tryz.prog 114 #[] w fun e w' => e = .returned (.int .i64 9007199254740992) ∧ w = w' := by
 go_enter Tryz.func114, Tryz.ntmps114
 go_wp2
 go_ret
 exact ⟨rfl, rfl⟩
def PutRel (w : World) (n : Int) (m s : Value) (wr : World) : Prop :=
 ∃ (k : Nat) (acc : List UInt8), m = .int .i64 k ∧ s = .string (st acc) ∧ (k : Int) <= 9007199254740992 ∧ Gu.put n = Lib.decDigits k ++ acc ∧ Keep w wr
set_option maxHeartbeats 1000000 in
theorem put_any (n : Int) (w : World) :
  Calls Tryz.prog 96 #[.int .i64 n] w fun e w' => e = .returned (.tuple #[.string (st (Gu.put n)), .bool (Gu.inR n)]) ∧ Keep w w' := by
 by_cases h0 : n < 0
 ·have e := Gu.inR_lo h0
  rw [Gu.put_out e, e]
  clear e
  go_enter Tryz.func96, Tryz.ntmps96
  go_wp2
  go_ret2
  exact ⟨rfl, Keep.refl _⟩
 ·by_cases h1 : 9007199254740992 < n
  ·have e := Gu.inR_hi h1
   rw [Gu.put_out e, e]
   clear e
   go_enter Tryz.func96, Tryz.ntmps96
   go_wp2_with fail
   refine (most_any _).mono ?_
   rintro e w1 ⟨rfl, rfl⟩
   go_wp2
   go_ret2
   exact ⟨rfl, Keep.refl _⟩
  ·have e := Gu.inR_mk (n := n) (by omega) (by omega)
   rw [e]
   have HE := Lib.hid e
   clear e
   go_enter Tryz.func96, Tryz.ntmps96
   go_wp2_with fail
   refine (most_any _).mono ?_
   rintro e w1 ⟨rfl, rfl⟩
   go_wp2
   go_loopw [0, 4] (fun m s wr => PutRel w n m s wr) (fun m _ _ => (intOf m).toNat)
   case atStart => exact ⟨n.toNat, [], by rw [Int.toNat_of_nonneg (by omega)], rfl, by omega, by rw [Gu.put_in HE.out, List.append_nil], Keep.refl _⟩
   case round =>
    obtain ⟨k, acc, rfl, rfl, hk, hput, hkeep⟩ := hrel
    obtain ⟨d, hd⟩ : ∃ d, d = UInt8.ofNat (48 + k % 10) := ⟨_, rfl⟩
    have hdn : (d.toNat : Int) = 48 + (k : Int) % 10 := by rw [hd, Gu.digit_byte _ (by omega)]; omega
    have hcv : ∀ w : World, (convert 25 9 (.slice (some ⟨w.heap.size, 0, none⟩) 1 1)).run Tryz.prog (w.alloc (.cells #[.int .u8 (48 + (k : Int) % 10)] 5)) = .ok (.string (st [d])) (w.alloc (.cells #[.int .u8 (48 + (k : Int) % 10)] 5)) :=
     fun w => conv_new Tryz.underlying25 Tryz.underlying5 Tryz.underlying9 _ 1 [d] (by simp [bv, hdn]) rfl
    have hal : acc.length <= 16 := by
     have h1 := congrArg List.length hput
     have h2 := Gu.put_len n
     rw [List.length_append] at h1
     omega
    have hadd := add_st (P := Tryz.prog) [d] acc (by simp; omega)
    have HP := Lib.hid hput
    have HD := Lib.hid hd
    have hkeep2 := hkeep.alloc (.cells #[.int .u8 (48 + (k : Int) % 10)] 5)
    clear hput hd hdn hal hkeep
    by_cases hk0 : k < 10
    ·have hz : ((k : Int) / 10 == 0) = true := by simp; omega
     have e1 : Gu.put n = [d] ++ acc := by rw [HP.out, Gu.dec_small hk0, HD.out, Nat.mod_eq_of_lt hk0]
     have HE1 := Lib.hid e1
     clear e1 hk0
     go_wp2
     go_ret2
     exact ⟨by rw [HE1.out]; rfl, hkeep2⟩
    ·have hz : ((k : Int) / 10 == 0) = false := by simp; omega
     have e1 : Gu.put n = Lib.decDigits (k / 10) ++ ([d] ++ acc) := by rw [HP.out, Gu.dec_big hk0, HD.out, List.append_assoc]
     have HE1 := Lib.hid e1
     clear e1
     go_wp2
     go_roundw
     case rel => exact ⟨k / 10, [d] ++ acc, congrArg (Value.int .i64) (by omega), rfl, by omega, HE1.out, hkeep2⟩
     case measure => simp [intOf]; omega
end Go.Proofs.YtaciogcpghbhjaaGreat.Ref2
