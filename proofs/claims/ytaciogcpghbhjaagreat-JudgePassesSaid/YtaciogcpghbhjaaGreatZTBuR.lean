/- Of these texts: BuR, Bu, Boo. Conditions: as each part says. -/
import Derived.Test.YtaciogcpghbhjaaGreatRows
import Derived.Test.YtaciogcpghbhjaaGreatZTLib
import Derived.Test.YtaciogcpghbhjaaGreatZTOpen
/- Layer 18: plain words of a rate and its level, and the reference's contracts. Conditions: a rate that is right, a level from 0 to full, where said. -/
namespace Go.Proofs.YtaciogcpghbhjaaGreat
set_option linter.unusedVariables false
open Go.ChangeShapes Go.WideShapes Go.ChangeAt Go.RowKit
structure RateB where
 num : Int
 per : Int
 burst : Int
namespace Bu
def right (r : RateB) : Bool := decide (1 <= r.num) && decide (r.num <= 1048576) && decide (1 <= r.per) && decide (r.per <= 1048576) && decide (1 <= r.burst) && decide (r.burst <= 1048576)
def full (r : RateB) : Int := r.burst * r.per
def tick (l : Int) (r : RateB) : Int := if l + r.num <= full r then l + r.num else full r
theorem right_iff (r : RateB) : right r = true ↔ 1 <= r.num ∧ r.num <= 1048576 ∧ 1 <= r.per ∧ r.per <= 1048576 ∧ 1 <= r.burst ∧ r.burst <= 1048576 := by
 unfold right; simp [Bool.and_eq_true, and_assoc]
theorem full_range {r : RateB} (h : right r = true) : r.per <= full r ∧ full r <= 1099511627776 := by
 obtain ⟨_, _, h1, h2, h3, h4⟩ := (right_iff r).1 h
 unfold full
 constructor
 ·calc r.per = 1 * r.per := (Int.one_mul _).symm
   _ <= r.burst * r.per := Int.mul_le_mul_of_nonneg_right h3 (by omega)
 ·calc r.burst * r.per <= 1048576 * r.per := Int.mul_le_mul_of_nonneg_right h4 (by omega)
   _ <= 1048576 * 1048576 := Int.mul_le_mul_of_nonneg_left h2 (by omega)
theorem tick_range {l : Int} {r : RateB} (h : right r = true) (h0 : 0 <= l) (h1 : l <= full r) : l <= tick l r ∧ tick l r <= full r := by
 obtain ⟨_, _, _⟩ := (right_iff r).1 h
 unfold tick; split <;> omega
def Bx (p : Nat) (r : RateB) (w : World) : Prop := (w.cell? ⟨p, 0, none⟩ = some (.int .i64 r.num) ∧ w.cell? ⟨p, 1, none⟩ = some (.int .i64 r.per) ∧ w.cell? ⟨p, 2, none⟩ = some (.int .i64 r.burst)) ∧ p < w.heap.size
theorem Bx.new (w : World) (r : RateB) (e : TypeId) : Bx w.heap.size r (w.alloc (.cells #[.int .i64 r.num, .int .i64 r.per, .int .i64 r.burst] e)) := by
 have hc : ∀ j v, (#[Value.int .i64 r.num, .int .i64 r.per, .int .i64 r.burst] : Array Value)[j]? = some v -> (w.alloc (.cells #[.int .i64 r.num, .int .i64 r.per, .int .i64 r.burst] e)).cell? ⟨w.heap.size, j, none⟩ = some v := fun j v hj => by
  rw [World.cell?_alloc_at (hn := rfl), hj]
 exact ⟨⟨hc 0 _ rfl, hc 1 _ rfl, hc 2 _ rfl⟩, by simp⟩
theorem Bx.kept {p : Nat} {r : RateB} {w w' : World} (h : Bx p r w) (hk : Keep w w') : Bx p r w' := by
 obtain ⟨⟨h0, h1, h2⟩, hp⟩ := h
 refine ⟨⟨?_, ?_, ?_⟩, Nat.lt_of_lt_of_le hp hk.size⟩ <;> (rw [Below.cell hk hp]; assumption)
theorem ret_bool {b c : Bool} (h : b = c) : Ending.returned (.bool b) = Ending.returned (.bool c) := by rw [h]
theorem ret_int {a b : Int} (h : a = b) : Ending.returned (.int .i64 a) = Ending.returned (.int .i64 b) := by rw [h]
end Bu
namespace Ref18
open Bu
set_option maxHeartbeats 400000 in
theorem full_any (r : RateB) (w : World) (hr : right r = true) :
  Calls Tryz.prog 31 #[.agg #[.int .i64 r.num, .int .i64 r.per, .int .i64 r.burst]] w fun e w' => e = .returned (.int .i64 (full r)) ∧ Keep w w' := by
 obtain ⟨h1, h2⟩ := full_range hr
 obtain ⟨_, _, h3, _⟩ := (right_iff r).1 hr
 have hw : wrap64 (r.burst * r.per) = r.burst * r.per := by unfold full at h1 h2; unfold wrap64; omega
 have HW := Lib.hid hw
 unfold full
 clear hr hw
 go_enter Tryz.func31, Tryz.ntmps31
 go_wp2
 go_ret
 exact ⟨ret_int HW.out, (Keep.refl w).alloc _⟩
set_option maxHeartbeats 400000 in
theorem take_any (l : Int) (r : RateB) (w : World) (hr : right r = true) (h0 : 0 <= l) (h1 : l <= full r) :
  Calls Tryz.prog 24 #[.int .i64 l, .agg #[.int .i64 r.num, .int .i64 r.per, .int .i64 r.burst]] w fun e w' => e = .returned (if l < r.per then .tuple #[.int .i64 l, .bool false] else .tuple #[.int .i64 (l - r.per), .bool true]) ∧ Keep w w' := by
 obtain ⟨_, h2⟩ := full_range hr
 obtain ⟨_, _, h3, h4, _⟩ := (right_iff r).1 hr
 clear hr
 by_cases hl : l < r.per
 ·have dl : decide (l < r.per) = true := by simp [hl]
  rw [if_pos hl]
  clear hl
  go_enter Tryz.func24, Tryz.ntmps24
  go_wp2
  go_ret2
  exact ⟨rfl, (Keep.refl w).alloc _⟩
 ·have dl : decide (l < r.per) = false := by simp [hl]
  rw [if_neg hl]
  go_enter Tryz.func24, Tryz.ntmps24
  go_wp2
  go_ret2
  exact ⟨rfl, (Keep.refl w).alloc _⟩
set_option maxHeartbeats 400000 in
theorem tick_any (l : Int) (r : RateB) (w : World) (hr : right r = true) (h0 : 0 <= l) (h1 : l <= full r) :
  Calls Tryz.prog 34 #[.int .i64 l, .agg #[.int .i64 r.num, .int .i64 r.per, .int .i64 r.burst]] w fun e w' => e = .returned (.int .i64 (tick l r)) ∧ Keep w w' := by
 obtain ⟨_, h2⟩ := full_range hr
 obtain ⟨h3, h4, _⟩ := (right_iff r).1 hr
 obtain ⟨X, hX⟩ : ∃ X, X = w.alloc (.cells #[.int .i64 r.num, .int .i64 r.per, .int .i64 r.burst] 61) := ⟨_, rfl⟩
 have k0 : Keep w X := by rw [hX]; exact (Keep.refl w).alloc _
 have B0 : Bu.Bx w.heap.size r X := by rw [hX]; exact Bu.Bx.new w r _
 have hc : ∀ p : KeptOf X, Bu.Bx w.heap.size r p.w := fun p => B0.kept p.h
 have hc0 := fun p => (hc p).1.1
 have hc1 := fun p => (hc p).1.2.1
 have hc2 := fun p => (hc p).1.2.2
 have hR : ∀ p : KeptOf X, Calls Tryz.prog 31 #[.agg #[.int .i64 r.num, .int .i64 r.per, .int .i64 r.burst]] p.w fun e w' => e = .returned (.int .i64 (full r)) ∧ Keep p.w w' := fun p => full_any r p.w hr
 have HT := Lib.hid (show tick l r = if l + r.num <= full r then l + r.num else full r from rfl)
 clear hr hc B0
 go_enter Tryz.func34, Tryz.ntmps34
 go_wp2_with fail
 rw [<- hX]
 refine wp_region_kept (by kernel_rfl) (by kernel_rfl) ?_
 repeat (go_big_quiet_step (first | with_reducible exact KeptOf.of (hR _)))
 refine Go.wpQuiet_nil ?_
 intro _ hw'
 obtain ⟨⟨W, hw⟩, hw''⟩ := hw'
 subst hw''
 go_wp2
 all_goals (
  go_ret
  exact ⟨ret_int (by rw [HT.out]; split <;> omega), k0.trans hw⟩)
end Ref18
end Go.Proofs.YtaciogcpghbhjaaGreat
/- Layer 18, the code's own contracts. Conditions: a rate that is right, a level from 0 to full. -/
namespace Go.Proofs.YtaciogcpghbhjaaGreat
set_option linter.unusedVariables false
open Go.ChangeShapes Go.WideShapes Go.ChangeAt Go.RowKit
namespace Bucket
open Bu
set_option maxHeartbeats 400000 in
theorem full_any (r : RateB) (w : World) (hr : right r = true) :
  Calls Tryz.prog 30 #[.agg #[.int .i64 r.num, .int .i64 r.per, .int .i64 r.burst]] w fun e w' => e = .returned (.int .i64 (full r)) ∧ Keep w w' := by
 obtain ⟨h1, h2⟩ := full_range hr
 obtain ⟨_, _, h3, _⟩ := (right_iff r).1 hr
 have hw : wrap64 (r.burst * r.per) = r.burst * r.per := by unfold full at h1 h2; unfold wrap64; omega
 have HW := Lib.hid hw
 unfold full
 clear hr hw
 go_enter Tryz.func30, Tryz.ntmps30
 go_wp2
 go_ret
 exact ⟨ret_int HW.out, (Keep.refl w).alloc _⟩
set_option maxHeartbeats 400000 in
theorem take_any (l : Int) (r : RateB) (w : World) (hr : right r = true) (h0 : 0 <= l) (h1 : l <= full r) :
  Calls Tryz.prog 83 #[.int .i64 l, .agg #[.int .i64 r.num, .int .i64 r.per, .int .i64 r.burst]] w fun e w' => e = .returned (if l < r.per then .tuple #[.int .i64 l, .bool false] else .tuple #[.int .i64 (l - r.per), .bool true]) ∧ Keep w w' := by
 obtain ⟨_, h2⟩ := full_range hr
 obtain ⟨_, _, h3, h4, _⟩ := (right_iff r).1 hr
 clear hr
 by_cases hl : l < r.per
 ·have dl : decide (l < r.per) = true := by simp [hl]
  rw [if_pos hl]
  clear hl
  go_enter Tryz.func83, Tryz.ntmps83
  go_wp2
  go_ret2
  exact ⟨rfl, (Keep.refl w).alloc _⟩
 ·have dl : decide (l < r.per) = false := by simp [hl]
  rw [if_neg hl]
  go_enter Tryz.func83, Tryz.ntmps83
  go_wp2
  go_ret2
  exact ⟨rfl, (Keep.refl w).alloc _⟩
set_option maxHeartbeats 400000 in
theorem tick_any (l : Int) (r : RateB) (w : World) (hr : right r = true) (h0 : 0 <= l) (h1 : l <= full r) :
  Calls Tryz.prog 33 #[.int .i64 l, .agg #[.int .i64 r.num, .int .i64 r.per, .int .i64 r.burst]] w fun e w' => e = .returned (.int .i64 (tick l r)) ∧ Keep w w' := by
 obtain ⟨_, h2⟩ := full_range hr
 obtain ⟨h3, h4, _⟩ := (right_iff r).1 hr
 obtain ⟨X, hX⟩ : ∃ X, X = w.alloc (.cells #[.int .i64 r.num, .int .i64 r.per, .int .i64 r.burst] 61) := ⟨_, rfl⟩
 have k0 : Keep w X := by rw [hX]; exact (Keep.refl w).alloc _
 have B0 : Bu.Bx w.heap.size r X := by rw [hX]; exact Bu.Bx.new w r _
 have hc : ∀ p : KeptOf X, Bu.Bx w.heap.size r p.w := fun p => B0.kept p.h
 have hc0 := fun p => (hc p).1.1
 have hc1 := fun p => (hc p).1.2.1
 have hc2 := fun p => (hc p).1.2.2
 have hR : ∀ p : KeptOf X, Calls Tryz.prog 30 #[.agg #[.int .i64 r.num, .int .i64 r.per, .int .i64 r.burst]] p.w fun e w' => e = .returned (.int .i64 (full r)) ∧ Keep p.w w' := fun p => full_any r p.w hr
 have HT := Lib.hid (show tick l r = if l + r.num <= full r then l + r.num else full r from rfl)
 clear hr hc B0
 go_enter Tryz.func33, Tryz.ntmps33
 go_wp2_with fail
 rw [<- hX]
 refine wp_region_kept (by kernel_rfl) (by kernel_rfl) ?_
 repeat (go_big_quiet_step (first | with_reducible exact KeptOf.of (hR _)))
 refine Go.wpQuiet_nil ?_
 intro _ hw'
 obtain ⟨⟨W, hw⟩, hw''⟩ := hw'
 subst hw''
 go_wp2
 all_goals (
  go_ret
  exact ⟨ret_int (by rw [HT.out]; split <;> omega), k0.trans hw⟩)
end Bucket
end Go.Proofs.YtaciogcpghbhjaaGreat
/- Slices of booleans that came in. Conditions: none. -/
namespace Go.Proofs.YtaciogcpghbhjaaGreat
open Go.ChangeShapes Go.WideShapes Go.ChangeAt Go.RowKit
def Bools (w : World) (B : Nat) (A : Option Addr) (n : Nat) (zs : List Bool) : Prop :=
 zs.length = n ∧ (0 < n -> ∃ b off, A = some ⟨b, off, none⟩ ∧ b < B ∧ ∀ j, j < n -> w.cell? ⟨b, off + j, none⟩ = some (.bool (zs.getD j false)))
theorem Bools.keep {w w' : World} {B n : Nat} {A : Option Addr} {zs : List Bool} (h : Bools w B A n zs) (hk : ∀ p : Addr, p.block < B -> w'.cell? p = w.cell? p) : Bools w' B A n zs :=
 ⟨h.1, fun hn => by
  obtain ⟨b, off, e, hb, hc⟩ := h.2 hn
  exact ⟨b, off, e, hb, fun j hj => (hk _ hb).trans (hc j hj)⟩⟩
theorem Bools.none_ (w : World) (B : Nat) (A : Option Addr) : Bools w B A 0 [] := ⟨rfl, fun h => absurd h (by omega)⟩
def BoolsIn (w : World) (A : Option Addr) (n : Nat) (zs : List Bool) : Prop := Bools w w.heap.size A n zs
theorem opens_bools : Opens Tryz.prog 24 fun W cs => ∃ A n c zs, cs = [.slice A n c] ∧ n <= c ∧ c <= maxLen ∧ BoolsIn W A n zs :=
 (opens_slice (z := 1) Tryz.underlying24 (e := 4) (by kernel_rfl) (by omega) (opens_bool Tryz.underlying4)).mono fun W cs ⟨A, n, c, hcs, hn, hc, hE⟩ => by
  rcases Nat.eq_zero_or_pos n with rfl | hp
  ·exact ⟨A, 0, c, [], hcs, hn, hc, Bools.none_ _ _ _⟩
  ·obtain ⟨b, off, hA, hb, hE⟩ := hE hp
   obtain ⟨zs, hl, hzs⟩ := choose_list n (fun i z => W.cell? ⟨b, off + i, none⟩ = some (.bool z)) (fun i hi => by
    obtain ⟨es, _, hc, z, rfl⟩ := hE i hi
    have := hc 0 (by omega)
    exact ⟨z, by simpa using this⟩)
   refine ⟨A, n, c, zs, hcs, hn, hc, ⟨hl, fun _ => ⟨b, off, hA, hb, fun j hj => ?_⟩⟩⟩
   have hj' : j < zs.length := by omega
   have := hzs j zs[j] (List.getElem?_eq_getElem hj')
   rw [this, List.getD_eq_getElem?_getD, List.getElem?_eq_getElem hj']; rfl
theorem in_u8 {z : Int} (h : (Lit.int .u8 z).wf = true) : 0 <= z ∧ z <= 255 := by
 simp [Lit.wf] at h
 have e1 : IntKind.u8.min = 0 := rfl
 have e2 : IntKind.u8.max = 255 := rfl
 omega
end Go.Proofs.YtaciogcpghbhjaaGreat
