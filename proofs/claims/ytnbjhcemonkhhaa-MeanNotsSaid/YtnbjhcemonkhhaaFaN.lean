/- The developers' facts: groups of four by an iterator, Reals. Conditions: at most a hundred thousand numbers. -/
import Derived.RangeFuncNested
import Derived.RangeFuncBound
import Derived.RangeFuncCalls
import Derived.RangeFuncLeaves
import Derived.RangeFuncBox
import Derived.Shelf.Abstract
import Derived.Shelf.RegionOpen
import Derived.WalkKit
import Derived.OwnWalkIn
import Derived.TacticsInMore
import Derived.LoopNIn
import Derived.LoopIn
import Derived.Maps.AppendAt
import Derived.Test.YtnbjhcemonkhhaaFaR
import Derived.Test.YtnbjhcemonkhhaaFaG
namespace Go.Proofs.Ytnbjhcemonkhhaa.Facts
set_option linter.unusedVariables false
open Go.RowKit Go.Shelf
open Fa
open Re (okL ofB)
attribute [local go_sem] Oper.semAt_some
abbrev Gix (n : Nat) := { k : Nat // 4 * k < n }
def sh (A : Option Addr) (i : Nat) : Option Addr := A.map fun a => ⟨a.block, a.off + i, none⟩
def enc4 (A : Option Addr) (n c : Nat) (k : Gix n) : Array Value := #[.slice (sh A (4 * k.1)) (min 4 (n - 4 * k.1)) (c - 4 * k.1)]
/-- A box stays as it is. -/
def KB (B : Nat) (t : TypeId) (v : Value) (W W' : World) : Prop := Boxed W B t v → Boxed W' B t v
set_option maxHeartbeats 1000000 in
theorem fours_any (A : Option Addr) (n c : Nat) (w : World) :
    Calls Try.prog 26 #[.slice A n c] w fun e w' => e = .returned (.func (.func 47) #[] #[.pointer (some ⟨w.heap.size, 0, none⟩)]) ∧ w' = w.alloc (.cells #[.slice A n c] 23) := by
  go_enter Try.func26, Try.ntmps26
  go_wp2
  go_ret
  exact ⟨rfl, rfl⟩
set_option maxRecDepth 100000 in
set_option maxHeartbeats 4000000 in
theorem fours1_in (F : Fence) (m : Nat) (h6 : F.fn 47) (hro : F.round = none) (hm : 1 ≤ m) (l Bn : Nat) (A : Option Addr) (n c : Nat) (hn : n ≤ 100000) (hc : n ≤ c) (hcm : c ≤ maxLen) (hA : 0 < n → ∃ b off, A = some ⟨b, off, none⟩) (J Jx : List (Gix n) → World → Prop)
    (hY : ∀ pre x W, J pre W → pre.length < n → YieldAt F (m - 1) Try.prog l (enc4 A n c x) W fun e W' =>
      (e = .returned (.bool true) ∧ J (pre ++ [x]) W' ∧ KB Bn 23 (.slice A n c) W W') ∨ (e = .returned (.bool false) ∧ Jx (pre ++ [x]) W'))
    (W : World) (hBn : Boxed W Bn 23 (.slice A n c)) (h0 : J [] W) :
    CallsIn F m Try.prog 47 #[.func (.yield l) #[] #[], .pointer (some ⟨Bn, 0, none⟩)] W fun e W' => (∃ v, e = .returned v) ∧
      ((∃ ys : List (Gix n), ys.map (·.1) = List.range ((n + 3) / 4) ∧ J ys W') ∨ (∃ pre : List (Gix n), True ∧ Jx pre W')) := by
  refine callsIn_of_wp Try.func47 rfl h6 ?_ hro
  simp only [Try.ntmps47, List.size_toArray, List.length_cons, List.length_nil, Nat.reduceAdd, Nat.reduceSub, Array.replicate_succ, Array.replicate_zero, List.push_toArray, List.append_toArray, List.nil_append, List.cons_append]
  gi_wp2
  gi_loopw [3] (fun i wr => ∃ (k : Nat) (pre : List (Gix n)), i = .int .i64 ((4 * k : Nat) : Int) ∧ pre.map (·.1) = List.range k ∧ 4 * k < n + 4 ∧ pre.length ≤ k ∧ J pre wr ∧ Boxed wr Bn 23 (.slice A n c))
    (fun i _ => n + 4 - (intOf i).toNat)
  case atStart =>
    exact ⟨0, [], rfl, rfl, by omega, Nat.le_refl _, h0, hBn⟩
  case round =>
    obtain ⟨k, pre, rfl, hp, hk, hpl, hJs, hbw⟩ := hrel
    have hcell : wr.cell? ⟨Bn, 0, none⟩ = some (.slice A n c) := hbw.cell
    have HP := Lib.hid hp
    have HPL := Lib.hid hpl
    clear hp hpl
    by_cases hlt : 4 * k < n
    · obtain ⟨b, off, rfl⟩ := hA (by omega)
      obtain ⟨x, hx⟩ : ∃ x : Gix n, x.1 = k := ⟨⟨k, hlt⟩, rfl⟩
      have hyy := hY pre x wr hJs (by have := HPL.out; omega)
      obtain ⟨j, hj⟩ : ∃ j, j = 4 * k := ⟨_, rfl⟩
      rw [← hj]
      have hltz : (j : Int) < n := by omega
      have hj0 : (0 : Int) ≤ j := by omega
      have hcc : ¬ c = j := by omega
      have hjn : j < n := by omega
      have hsum : IntKind.i64.wrap ((j : Int) + 4) = ((j + 4 : Nat) : Int) := by rw [IntKind.wrap_i64]; omega
      clear hlt hk
      by_cases hfull : j + 4 ≤ n
      · have hy' : YieldAt F (m - 1) Try.prog l #[.slice (some ⟨b, off + j, none⟩) 4 (c - j)] wr fun e W' =>
            (e = .returned (.bool true) ∧ J (pre ++ [x]) W' ∧ KB Bn 23 (.slice (some ⟨b, off, none⟩) n c) wr W') ∨ (e = .returned (.bool false) ∧ Jx (pre ++ [x]) W') := by
          have e : enc4 (some ⟨b, off, none⟩) n c x = #[.slice (some ⟨b, off + j, none⟩) 4 (c - j)] := by
            unfold enc4 sh
            simp only [hx, ← hj]
            rw [show min 4 (n - j) = 4 by omega]
            rfl
          rw [← e]; exact hyy
        have hsl : ∀ V : World, (Instr.slice 23 (.slice (some ⟨b, off, none⟩) n c) (some (.int .i64 (j : Int))) (some (.int .i64 (((j + 4 : Nat) : Int)))) none).run Try.prog V = .ok (.slice (some ⟨b, off + j, none⟩) (4) (c - j)) V := fun V => by
          clear hj hyy hy' hY hJs HP HPL hA
          go_simp
          have e1 : ((j : Int) + 4).toNat = j + 4 := by omega
          rw [if_pos (by omega), e1, if_pos (by omega), Nat.add_sub_cancel_left]
        have HJ := Lib.hid hj
        have HX := Lib.hid hx
        clear hj hx hyy hY hA hBn hcc
        obtain ⟨fn, tmps, assign, body, hy, hR⟩ := hy'
        gi_wp2
        refine hR.mono ?_
        rintro e W3 (⟨rfl, hJ3, hk3⟩ | ⟨rfl, hJx3⟩)
        · gi_wp2
          go_roundw
          case rel => exact ⟨k + 1, pre ++ [x], by have := HJ.out; go_num, by rw [List.map_append, HP.out, List.range_succ, List.map_cons, HX.out]; rfl, by have := HJ.out; omega, by have := HPL.out; simp; omega, hJ3, hk3 hbw⟩
          case measure => simp [intOf]; omega
        · gi_wp2
          refine bodyPost_ret (results_none rfl _ _ _) rfl ?_
          exact ⟨⟨_, rfl⟩, .inr ⟨pre ++ [x], trivial, hJx3⟩⟩
      · have hy' : YieldAt F (m - 1) Try.prog l #[.slice (some ⟨b, off + j, none⟩) (n - j) (c - j)] wr fun e W' =>
            (e = .returned (.bool true) ∧ J (pre ++ [x]) W' ∧ KB Bn 23 (.slice (some ⟨b, off, none⟩) n c) wr W') ∨ (e = .returned (.bool false) ∧ Jx (pre ++ [x]) W') := by
          have e : enc4 (some ⟨b, off, none⟩) n c x = #[.slice (some ⟨b, off + j, none⟩) (n - j) (c - j)] := by
            unfold enc4 sh
            simp only [hx, ← hj]
            rw [show min 4 (n - j) = (n - j) by omega]
            rfl
          rw [← e]; exact hyy
        have hsl : ∀ V : World, (Instr.slice 23 (.slice (some ⟨b, off, none⟩) n c) (some (.int .i64 (j : Int))) (some (.int .i64 ((n : Int)))) none).run Try.prog V = .ok (.slice (some ⟨b, off + j, none⟩) ((n - j)) (c - j)) V := fun V => by
          clear hj hyy hy' hY hJs HP HPL hA
          go_simp
          (intro h; omega)
        have HJ := Lib.hid hj
        have HX := Lib.hid hx
        clear hj hx hyy hY hA hBn hcc
        obtain ⟨fn, tmps, assign, body, hy, hR⟩ := hy'
        gi_wp2
        refine hR.mono ?_
        rintro e W3 (⟨rfl, hJ3, hk3⟩ | ⟨rfl, hJx3⟩)
        · gi_wp2
          go_roundw
          case rel => exact ⟨k + 1, pre ++ [x], by have := HJ.out; go_num, by rw [List.map_append, HP.out, List.range_succ, List.map_cons, HX.out]; rfl, by have := HJ.out; omega, by have := HPL.out; simp; omega, hJ3, hk3 hbw⟩
          case measure => simp [intOf]; omega
        · gi_wp2
          refine bodyPost_ret (results_none rfl _ _ _) rfl ?_
          exact ⟨⟨_, rfl⟩, .inr ⟨pre ++ [x], trivial, hJx3⟩⟩
    · have d1 : decide (((4 * k : Nat) : Int) < (n : Int)) = false := by simp; omega
      gi_wp2
      go_end0
      exact ⟨⟨_, rfl⟩, .inl ⟨pre, by rw [HP.out]; congr 1; omega, hJs⟩⟩
theorem fours_stops (F : Fence) (m : Nat) (h6 : F.fn 47) (hro : F.round = none) (hm : 1 ≤ m) (Bn : Nat) (A : Option Addr) (n c : Nat) (hn : n ≤ 100000) (hc : n ≤ c) (hcm : c ≤ maxLen) (hA : 0 < n → ∃ b off, A = some ⟨b, off, none⟩) (w : World)
    (hcl : Boxed w Bn 23 (.slice A n c)) :
    SeqStopsK F m Try.prog 47 #[.pointer (some ⟨Bn, 0, none⟩)] (enc4 A n c) (KB Bn 23 (.slice A n c)) (fun ys => ys.map (·.1) = List.range ((n + 3) / 4)) (fun _ => True) n w := fun l J Jx W hW _ _ hY h0 =>
  fours1_in F m h6 hro hm l Bn A n c hn hc hcm hA J Jx hY W ((hW.block Bn hcl.lt).trans hcl) h0
theorem KB.t {B : Nat} {t : TypeId} {v : Value} {X Y Z : World} (h : KB B t v X Y) (k : KB B t v Y Z) : KB B t v X Z := fun hx => k (h hx)
theorem KB.b {B : Nat} {t : TypeId} {v : Value} {w : World} (hB : B < w.heap.size) (W : World) (l : Nat) (o o' : Obj) (hl : w.heap.size ≤ l) (h : W.heap[l]? = some o) (_ : o.isCells = false) (_ : o.isWalk = false) : KB B t v W (W.putObj l o') := fun hx =>
  hx.kept (grownBy_putObj' W l o') (fun e => by cases e; omega)
end Go.Proofs.Ytnbjhcemonkhhaa.Facts
