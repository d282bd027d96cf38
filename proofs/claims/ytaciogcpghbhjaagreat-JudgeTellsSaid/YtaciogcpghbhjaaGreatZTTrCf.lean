/- Of these texts: TrCf. Conditions: as each part says. -/
import Derived.Test.YtaciogcpghbhjaaGreatZTTrRef
/- slices.IndexFunc and ContainsFunc at expressions. Conditions: lists at most a million. -/
namespace Go.Proofs.YtaciogcpghbhjaaGreat.Tree
set_option linter.unusedVariables false
open Go.ChangeShapes Go.WideShapes Go.ChangeAt Go.RowKit
open Tr
def Tests (g : Nat) (lb : Array Value) (p : ExprP -> Bool) (o : List ExprP) (w : World) : Prop :=
 ∀ (W : World) (x : ExprP) (RA OA : Option Addr) (rc oc : Nat), Keep w W -> x ∈ o -> Ex W x RA OA -> Calls Tryz.prog g (#[.agg #[.int .i64 (kind x), .int .i64 (field x), .slice RA (rs x).length rc, .float .f64 (lo x), .float .f64 (hi x), .slice OA (of x).length oc]] ++ lb) W fun e w' => e = .returned (.bool (p x)) ∧ Keep W w'
theorem any_snoc {α : Type} (p : α -> Bool) (z : α) (l : List α) (k : Nat) (h : k < l.length) : (l.take (k + 1)).any p = ((l.take k).any p || p (l.getD k z)) := by
 rw [take_snoc z l k h]; simp
theorem any_yes {α : Type} (p : α -> Bool) (z : α) (l : List α) (k : Nat) (h : k < l.length) (hp : p (l.getD k z) = true) : l.any p = true := by
 rw [List.any_eq_true]
 exact ⟨_, getD_mem z l k h, hp⟩
set_option maxHeartbeats 1000000 in
theorem index_any (A : Option Addr) (c : Nat) (o : List ExprP) (g : Nat) (lb : Array Value) (p : ExprP -> Bool) (w : World) (hn : o.length <= 1000000) (hO : Exs w A o)
  (eg : ∀ args w, (callFunc g args).run Tryz.prog w = .ok (.enter g args) w) (hp : Tests g lb p o w) :
  Calls Tryz.prog 130 #[.slice A o.length c, .func (.func g) #[] lb] w fun e w' => ∃ i : Int, e = .returned (.int .i64 i) ∧ decide (0 <= i) = o.any p ∧ Keep w w' := by
 go_enter Tryz.func130, Tryz.ntmps130
 go_wp2
 go_loopw [8] (fun i wr => ∃ k : Nat, k <= o.length ∧ i = .int .i64 k ∧ Keep w wr ∧ Hid ((o.take k).any p = false)) (fun i _ => o.length - (intOf i).toNat)
 case atStart => exact ⟨0, Nat.zero_le _, rfl, Keep.refl _, rfl⟩
 case round =>
  obtain ⟨j, hj, rfl, hk, hall⟩ := hrel
  by_cases hlt : j < o.length
  ·have hi1 : (j : Int) < o.length := by omega
   have hj0 : (0 : Int) <= j := by omega
   have hOw := hO.kept hk
   obtain ⟨b, off, rfl, hbb⟩ := hOw.addr (by omega)
   obtain ⟨_, RA', OA', rc', oc', hx6, hx⟩ := hOw.elem j hlt
   have hmem := getD_mem zero o j hlt
   have HA := Lib.hid (any_snoc p zero o j hlt)
   have HY := Lib.hid (any_yes p zero o j hlt)
   have hcall := hp wr _ RA' OA' rc' oc' hk hmem hx
   generalize o.getD j zero = x at *
   obtain ⟨x0, x1, x2, x3, x4, x5⟩ := hx6
   clear hx hmem hOw
   cases hv : p x with
   | true =>
     rw [hv] at hcall
     have HV := Lib.hid (HY.out hv)
     clear hv HY HA
     go_wp2_with fail
     refine hcall.mono ?_
     rintro e w1 ⟨rfl, hk1⟩
     go_wp2
     go_ret
     exact ⟨j, rfl, by rw [HV.out]; simp, hk.trans hk1⟩
   | false =>
     rw [hv] at hcall
     have HV := Lib.hid (show (o.take (j + 1)).any p = false by rw [HA.out, hall.out, hv]; rfl)
     clear hv HY HA
     go_wp2_with fail
     refine hcall.mono ?_
     rintro e w1 ⟨rfl, hk1⟩
     go_wp2
     go_roundw
     case rel => exact ⟨j + 1, by omega, by go_num, hk.trans hk1, HV⟩
     case measure => simp [intOf]; omega
  ·obtain rfl : j = o.length := by omega
   have e := hall.out
   rw [List.take_length] at e
   have HE := Lib.hid e
   clear e
   go_wp2
   go_ret
   exact ⟨-1, rfl, by rw [HE.out]; rfl, hk⟩
set_option maxHeartbeats 1000000 in
theorem contains_any (A : Option Addr) (c : Nat) (o : List ExprP) (g : Nat) (lb : Array Value) (p : ExprP -> Bool) (w : World) (hn : o.length <= 1000000) (hO : Exs w A o)
  (eg : ∀ args w, (callFunc g args).run Tryz.prog w = .ok (.enter g args) w) (hp : Tests g lb p o w) :
  Calls Tryz.prog 120 #[.slice A o.length c, .func (.func g) #[] lb] w fun e w' => e = .returned (.bool (o.any p)) ∧ Keep w w' := by
 have hcon := index_any A c o g lb p w hn hO eg hp
 generalize o.any p = r at *
 clear hp hO
 go_enter Tryz.func120, Tryz.ntmps120
 go_wp2_with fail
 refine hcon.mono ?_
 rintro e w1 ⟨i, rfl, hi, hk⟩
 have HI := Lib.hid hi
 clear hi hcon
 go_wp2
 go_ret
 exact ⟨ret_bool HI.out, hk⟩
end Go.Proofs.YtaciogcpghbhjaaGreat.Tree
