/- Of these texts: AskN. Conditions: as each part says. -/
import Derived.Test.YtaciogcpghbhjaaGreatZTAskM
import Derived.Test.YtaciogcpghbhjaaGreatZTAskG
import Derived.Deep.RegionWith
import Derived.Shelf.Abstract
/- The developers' requests: whether one may be. Conditions: none. -/
namespace Go.Proofs.YtaciogcpghbhjaaGreat.Ask
set_option maxRecDepth 100000
set_option linter.unusedVariables false
open Go.ChangeShapes Go.WideShapes Go.ChangeAt Go.RowKit
open Ref6 (ret_bool ret_int)
set_option maxHeartbeats 400000 in
theorem isPart_any (lo n most : Int) (w : World) :
  Calls Tryz.prog 77 #[.int .i64 lo, .int .i64 n, .int .i64 most] w fun e w' => e = .returned (.bool (Ak.partD most lo n)) ∧ w = w' := by
 go_enter Tryz.func77, Tryz.ntmps77
 go_wp2
 all_goals (go_ret; refine ⟨ret_bool ?_, rfl⟩; first | (simp_all [Ak.partD]; done) | (simp_all [Ak.partD]; omega))
set_option maxHeartbeats 400000 in
theorem isInside_any (A : Option Addr) (n c : Nat) (fc rd ct wr mn : Int) (w : World) (h : 0 <= ct ∧ ct <= 2000 ∧ 0 <= mn ∧ mn <= 1968) (vs : List Int) :
  Calls Tryz.prog 55 #[.agg #[.int .i64 fc, .int .i64 rd, .int .i64 ct, .int .i64 wr, .int .i64 mn, .slice A n c]] w fun e w' => e = .returned (.bool (Ak.inside ⟨fc, rd, ct, wr, mn, vs⟩)) ∧ Keep w w' := by
 obtain ⟨h1, h2, h3, h4⟩ := h
 go_enter Tryz.func55, Tryz.ntmps55
 go_wp2
 all_goals (go_ret; refine ⟨ret_bool ?_, (Keep.refl w).alloc _⟩; first | (simp_all [Ak.inside]; done) | (simp_all [Ak.inside]; omega))
set_option maxHeartbeats 400000 in
theorem valueCount_any (A : Option Addr) (n c : Nat) (fc rd ct wr mn : Int) (w : World) (vs : List Int) :
  Calls Tryz.prog 101 #[.agg #[.int .i64 fc, .int .i64 rd, .int .i64 ct, .int .i64 wr, .int .i64 mn, .slice A n c]] w fun e w' => e = .returned (.int .i64 (Ak.need ⟨fc, rd, ct, wr, mn, vs⟩)) ∧ Keep w w' := by
 go_enter Tryz.func101, Tryz.ntmps101
 go_wp2
 all_goals (go_ret; refine ⟨ret_int ?_, (Keep.refl w).alloc _⟩; simp_all [Ak.need, Ak.wtwo])
set_option maxHeartbeats 400000 in
theorem outside_any (z most : Int) (p : Nat) (w : World) (hc : w.cell? ⟨p, 0, none⟩ = some (.int .i64 most)) :
  Calls Tryz.prog 103 #[.int .i64 z, .pointer (some ⟨p, 0, none⟩)] w fun e w' => e = .returned (.bool (!Ak.inTo most z)) ∧ w = w' := by
 go_enter Tryz.func103, Tryz.ntmps103
 go_wp2
 all_goals (go_ret; refine ⟨ret_bool ?_, rfl⟩; rw [Bool.eq_iff_iff]; simp_all [Ak.inTo] <;> omega)
set_option maxHeartbeats 400000 in
theorem index_any (A : Option Addr) (n c : Nat) (zs : List Int) (most : Int) (p : Nat) (w : World) (hn : n <= 1000000) (hA : Ints .i64 w w.heap.size A n zs) (hc : w.cell? ⟨p, 0, none⟩ = some (.int .i64 most)) :
  Calls Tryz.prog 115 #[.slice A n c, .func (.func 103) #[] #[.pointer (some ⟨p, 0, none⟩)]] w
   fun e w' => ∃ i : Int, e = .returned (.int .i64 i) ∧ decide (0 <= i) = (!Ak.allTo most zs) ∧ w = w' := by
 have HL := Lib.hid hA.1
 have eg := enters_of Tryz.func103 (by kernel_rfl) rfl
 go_enter Tryz.func115, Tryz.ntmps115
 go_wp2
 go_loopw [8] (fun i wr => ∃ k : Nat, k <= n ∧ i = .int .i64 k ∧ w = wr ∧ Hid (Ak.allTo most (zs.take k) = true)) (fun i _ => n - (intOf i).toNat)
 case atStart => exact ⟨0, Nat.zero_le _, rfl, rfl, (rfl : Ak.allTo most [] = true)⟩
 case round =>
  obtain ⟨k, hk, rfl, rfl, hg⟩ := hrel
  by_cases hlt : k < n
  ·obtain ⟨b, off, rfl, hb, hcl⟩ := hA.2 (by omega)
   have hck := hcl k hlt
   clear hcl
   obtain ⟨z, hz⟩ : ∃ z, z = zs.getD k 0 := ⟨_, rfl⟩
   rw [<- hz] at hck
   have HZ := Lib.hid hz
   clear hz
   have hltz : (k : Int) < n := by omega
   have hk0 : (0 : Int) <= k := by omega
   cases hv : Ak.inTo most z with
   | false =>
     have hf : Ak.allTo most zs = false := Ref6.allTo_false most zs k (by rw [HL.out]; exact hlt) (by rw [<- HZ.out]; exact hv)
     have HF := Lib.hid hf
     have HV := Lib.hid hv
     clear hf hv
     go_wp2_with fail
     refine (outside_any z most p _ hc).mono ?_
     rintro e w1 ⟨rfl, rfl⟩
     rw [HV.out]
     go_wp2
     go_ret
     refine ⟨k, rfl, ?_, rfl⟩
     rw [HF.out]
     simp
   | true =>
     have HV := Lib.hid hv
     clear hv
     go_wp2_with fail
     refine (outside_any z most p _ hc).mono ?_
     rintro e w1 ⟨rfl, rfl⟩
     rw [HV.out]
     go_wp2
     go_roundw
     case rel =>
      refine ⟨k + 1, by omega, by go_num, trivial, ?_⟩
      show Ak.allTo most (zs.take (k + 1)) = true
      rw [Co.take_snoc zs k (by rw [HL.out]; exact hlt), Ref6.allTo_snoc, hg.out, <- HZ.out, HV.out]; rfl
     case measure => simp [intOf]; omega
  ·obtain rfl : k = n := by omega
   have e := hg.out
   rw [List.take_of_length_le (by rw [HL.out]; omega)] at e
   have HE := Lib.hid e
   clear e
   go_wp2
   go_ret
   refine ⟨-1, rfl, ?_, rfl⟩
   rw [HE.out]; rfl
set_option maxHeartbeats 400000 in
theorem contains_any (A : Option Addr) (n c : Nat) (zs : List Int) (most : Int) (p : Nat) (w : World) (hn : n <= 1000000) (hA : Ints .i64 w w.heap.size A n zs) (hc : w.cell? ⟨p, 0, none⟩ = some (.int .i64 most)) :
  Calls Tryz.prog 102 #[.slice A n c, .func (.func 103) #[] #[.pointer (some ⟨p, 0, none⟩)]] w
   fun e w' => e = .returned (.bool (!Ak.allTo most zs)) ∧ w = w' := by
 have hcon := index_any A n c zs most p w hn hA hc
 obtain ⟨r, hr⟩ : ∃ r, r = (!Ak.allTo most zs) := ⟨_, rfl⟩
 rw [<- hr] at hcon ⊢
 clear hr hA
 go_enter Tryz.func102, Tryz.ntmps102
 go_wp2_with fail
 refine hcon.mono ?_
 rintro e w1 ⟨i, rfl, hi, rfl⟩
 have HI := Lib.hid hi
 clear hi hcon
 go_wp2
 go_ret
 exact ⟨ret_bool HI.out, rfl⟩
end Go.Proofs.YtaciogcpghbhjaaGreat.Ask
