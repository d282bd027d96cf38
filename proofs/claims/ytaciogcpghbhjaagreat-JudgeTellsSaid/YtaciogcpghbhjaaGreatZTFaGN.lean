/- Of these texts: FaGN. Conditions: as each part says. -/
import Derived.Test.YtaciogcpghbhjaaGreatZTFaA
import Derived.RangeFuncNested
import Derived.RangeFuncBound
import Derived.RangeFuncCalls
import Derived.RangeFuncLeaves
import Derived.RangeFuncBox
import Derived.Shelf.Abstract
import Derived.Shelf.RegionOpen
import Derived.WalkKit
import Derived.OwnWalkIn
import Derived.TacticsInMore
import Derived.LoopNIn
import Derived.LoopIn
import Derived.Maps.AppendAt
import Derived.Test.YtaciogcpghbhjaaGreatZTFaR
/- Several texts in one: FaG, FaN, FaV. Conditions: as each part says. -/
namespace Go.Proofs.YtaciogcpghbhjaaGreat.Fa
set_option linter.unusedVariables false
open Re (okL ofB)
def grp (zs : List Int) (k : Nat) : List Int := (zs.drop (4 * k)).take 4
theorem grp_step (a b c d : Int) (l : List Int) (k : Nat) : grp (a :: b :: c :: d :: l) (k + 1) = grp l k := by
 unfold grp
 rw [show 4 * (k + 1) = 4 * k + 1 + 1 + 1 + 1 by omega]
 rfl
theorem okL_short (l : List Int) (h : l.length ≠ 4) : okL l = false := by
 unfold okL
 rw [decide_eq_false h, Bool.false_and]
theorem reals_bad : ∀ (zs : List Int) (k : Nat), 4 * k < zs.length -> okL (grp zs k) = false -> reals zs = none
 | a :: b :: c :: d :: l, 0, _, h => by
   rw [reals]
   have h' : okL [a, b, c, d] = false := h
   rw [h', if_neg (by decide)]
 | a :: b :: c :: d :: l, k + 1, hk, h => by
   rw [grp_step] at h
   rw [reals, reals_bad l k (by simp at hk; omega) h]
   split <;> rfl
 | [], k, hk, _ => absurd hk (by simp)
 | [a], _, _, _ => rfl
 | [a, b], _, _, _ => rfl
 | [a, b, c], _, _, _ => rfl
theorem reals_all : ∀ (zs : List Int), (∀ k, 4 * k < zs.length -> okL (grp zs k) = true) -> reals zs = some ((List.range ((zs.length + 3) / 4)).map fun k => ofB (grp zs k))
 | [], _ => rfl
 | [a], h => by have := h 0 (by simp); rw [okL_short _ (by simp [grp])] at this; cases this
 | [a, b], h => by have := h 0 (by simp); rw [okL_short _ (by simp [grp])] at this; cases this
 | [a, b, c], h => by have := h 0 (by simp); rw [okL_short _ (by simp [grp])] at this; cases this
 | a :: b :: c :: d :: l, h => by
   have h0 : okL [a, b, c, d] = true := h 0 (by simp)
   have ih := reals_all l (fun k hk => by have := h (k + 1) (by simp; omega); rwa [grp_step] at this)
   rw [reals, if_pos h0, ih]
   have e : (l.length + 1 + 1 + 1 + 1 + 3) / 4 = (l.length + 3) / 4 + 1 := by omega
   simp only [List.length_cons, e, List.range_succ_eq_map, List.map_cons, List.map_map, Option.map_some]
   rfl
end Go.Proofs.YtaciogcpghbhjaaGreat.Fa
namespace Go.Proofs.YtaciogcpghbhjaaGreat.Facts
set_option linter.unusedVariables false
open Go.RowKit Go.Shelf
open Fa
open Re (okL ofB)
attribute [local go_sem] Oper.semAt_some
abbrev Gix (n : Nat) := { k : Nat // 4 * k < n }
def sh (A : Option Addr) (i : Nat) : Option Addr := A.map fun a => ⟨a.block, a.off + i, none⟩
def enc4 (A : Option Addr) (n c : Nat) (k : Gix n) : Array Value := #[.slice (sh A (4 * k.1)) (min 4 (n - 4 * k.1)) (c - 4 * k.1)]
def KB (B : Nat) (t : TypeId) (v : Value) (W W' : World) : Prop := Boxed W B t v -> Boxed W' B t v
set_option maxHeartbeats 1000000 in
theorem fours_any (A : Option Addr) (n c : Nat) (w : World) :
  Calls Tryz.prog 144 #[.slice A n c] w fun e w' => e = .returned (.func (.func 153) #[] #[.pointer (some ⟨w.heap.size, 0, none⟩)]) ∧ w' = w.alloc (.cells #[.slice A n c] 33) := by
 go_enter Tryz.func144, Tryz.ntmps144
 go_wp2
 go_ret
 exact ⟨rfl, rfl⟩
set_option maxRecDepth 100000 in
set_option maxHeartbeats 4000000 in
theorem fours1_in (F : Fence) (m : Nat) (h6 : F.fn 153) (hro : F.round = none) (hm : 1 <= m) (l Bn : Nat) (A : Option Addr) (n c : Nat) (hn : n <= 100000) (hc : n <= c) (hcm : c <= maxLen) (hA : 0 < n -> ∃ b off, A = some ⟨b, off, none⟩) (J Jx : List (Gix n) -> World -> Prop)
  (hY : ∀ pre x W, J pre W -> pre.length < n -> YieldAt F (m - 1) Tryz.prog l (enc4 A n c x) W fun e W' =>
   (e = .returned (.bool true) ∧ J (pre ++ [x]) W' ∧ KB Bn 33 (.slice A n c) W W') ∨ (e = .returned (.bool false) ∧ Jx (pre ++ [x]) W'))
  (W : World) (hBn : Boxed W Bn 33 (.slice A n c)) (h0 : J [] W) :
  CallsIn F m Tryz.prog 153 #[.func (.yield l) #[] #[], .pointer (some ⟨Bn, 0, none⟩)] W fun e W' => (∃ v, e = .returned v) ∧
   ((∃ ys : List (Gix n), ys.map (·.1) = List.range ((n + 3) / 4) ∧ J ys W') ∨ (∃ pre : List (Gix n), True ∧ Jx pre W')) := by
 refine callsIn_of_wp Tryz.func153 rfl h6 ?_ hro
 simp only [Tryz.ntmps153, List.size_toArray, List.length_cons, List.length_nil, Nat.reduceAdd, Nat.reduceSub, Array.replicate_succ, Array.replicate_zero, List.push_toArray, List.append_toArray, List.nil_append, List.cons_append]
 gi_wp2
 gi_loopw [3] (fun i wr => ∃ (k : Nat) (pre : List (Gix n)), i = .int .i64 ((4 * k : Nat) : Int) ∧ pre.map (·.1) = List.range k ∧ 4 * k < n + 4 ∧ pre.length <= k ∧ J pre wr ∧ Boxed wr Bn 33 (.slice A n c))
  (fun i _ => n + 4 - (intOf i).toNat)
 case atStart =>
  exact ⟨0, [], rfl, rfl, by omega, Nat.le_refl _, h0, hBn⟩
 case round =>
  obtain ⟨k, pre, rfl, hp, hk, hpl, hJs, hbw⟩ := hrel
  have hcell : wr.cell? ⟨Bn, 0, none⟩ = some (.slice A n c) := hbw.cell
  have HP := Lib.hid hp
  have HPL := Lib.hid hpl
  clear hp hpl
  by_cases hlt : 4 * k < n
  ·obtain ⟨b, off, rfl⟩ := hA (by omega)
   obtain ⟨x, hx⟩ : ∃ x : Gix n, x.1 = k := ⟨⟨k, hlt⟩, rfl⟩
   have hyy := hY pre x wr hJs (by have := HPL.out; omega)
   obtain ⟨j, hj⟩ : ∃ j, j = 4 * k := ⟨_, rfl⟩
   rw [<- hj]
   have hltz : (j : Int) < n := by omega
   have hj0 : (0 : Int) <= j := by omega
   have hcc : ¬ c = j := by omega
   have hjn : j < n := by omega
   have hsum : IntKind.i64.wrap ((j : Int) + 4) = ((j + 4 : Nat) : Int) := by rw [IntKind.wrap_i64]; omega
   clear hlt hk
   by_cases hfull : j + 4 <= n
   ·have hy' : YieldAt F (m - 1) Tryz.prog l #[.slice (some ⟨b, off + j, none⟩) 4 (c - j)] wr fun e W' =>
      (e = .returned (.bool true) ∧ J (pre ++ [x]) W' ∧ KB Bn 33 (.slice (some ⟨b, off, none⟩) n c) wr W') ∨ (e = .returned (.bool false) ∧ Jx (pre ++ [x]) W') := by
     have e : enc4 (some ⟨b, off, none⟩) n c x = #[.slice (some ⟨b, off + j, none⟩) 4 (c - j)] := by
      unfold enc4 sh
      simp only [hx, <- hj]
      rw [show min 4 (n - j) = 4 by omega]
      rfl
     rw [<- e]; exact hyy
    have hsl : ∀ V : World, (Instr.slice 33 (.slice (some ⟨b, off, none⟩) n c) (some (.int .i64 (j : Int))) (some (.int .i64 (((j + 4 : Nat) : Int)))) none).run Tryz.prog V = .ok (.slice (some ⟨b, off + j, none⟩) (4) (c - j)) V := fun V => by
     clear hj hyy hy' hY hJs HP HPL hA
     go_simp
     have e1 : ((j : Int) + 4).toNat = j + 4 := by omega
     rw [if_pos (by omega), e1, if_pos (by omega), Nat.add_sub_cancel_left]
    have HJ := Lib.hid hj
    have HX := Lib.hid hx
    clear hj hx hyy hY hA hBn hcc
    obtain ⟨fn, tmps, assign, body, hy, hR⟩ := hy'
    gi_wp2
    refine hR.mono ?_
    rintro e W3 (⟨rfl, hJ3, hk3⟩ | ⟨rfl, hJx3⟩)
    ·gi_wp2
     go_roundw
     case rel => exact ⟨k + 1, pre ++ [x], by have := HJ.out; go_num, by rw [List.map_append, HP.out, List.range_succ, List.map_cons, HX.out]; rfl, by have := HJ.out; omega, by have := HPL.out; simp; omega, hJ3, hk3 hbw⟩
     case measure => simp [intOf]; omega
    ·gi_wp2
     refine bodyPost_ret (results_none rfl _ _ _) rfl ?_
     exact ⟨⟨_, rfl⟩, .inr ⟨pre ++ [x], trivial, hJx3⟩⟩
   ·have hy' : YieldAt F (m - 1) Tryz.prog l #[.slice (some ⟨b, off + j, none⟩) (n - j) (c - j)] wr fun e W' =>
      (e = .returned (.bool true) ∧ J (pre ++ [x]) W' ∧ KB Bn 33 (.slice (some ⟨b, off, none⟩) n c) wr W') ∨ (e = .returned (.bool false) ∧ Jx (pre ++ [x]) W') := by
     have e : enc4 (some ⟨b, off, none⟩) n c x = #[.slice (some ⟨b, off + j, none⟩) (n - j) (c - j)] := by
      unfold enc4 sh
      simp only [hx, <- hj]
      rw [show min 4 (n - j) = (n - j) by omega]
      rfl
     rw [<- e]; exact hyy
    have hsl : ∀ V : World, (Instr.slice 33 (.slice (some ⟨b, off, none⟩) n c) (some (.int .i64 (j : Int))) (some (.int .i64 ((n : Int)))) none).run Tryz.prog V = .ok (.slice (some ⟨b, off + j, none⟩) ((n - j)) (c - j)) V := fun V => by
     clear hj hyy hy' hY hJs HP HPL hA
     go_simp
     (intro h; omega)
    have HJ := Lib.hid hj
    have HX := Lib.hid hx
    clear hj hx hyy hY hA hBn hcc
    obtain ⟨fn, tmps, assign, body, hy, hR⟩ := hy'
    gi_wp2
    refine hR.mono ?_
    rintro e W3 (⟨rfl, hJ3, hk3⟩ | ⟨rfl, hJx3⟩)
    ·gi_wp2
     go_roundw
     case rel => exact ⟨k + 1, pre ++ [x], by have := HJ.out; go_num, by rw [List.map_append, HP.out, List.range_succ, List.map_cons, HX.out]; rfl, by have := HJ.out; omega, by have := HPL.out; simp; omega, hJ3, hk3 hbw⟩
     case measure => simp [intOf]; omega
    ·gi_wp2
     refine bodyPost_ret (results_none rfl _ _ _) rfl ?_
     exact ⟨⟨_, rfl⟩, .inr ⟨pre ++ [x], trivial, hJx3⟩⟩
  ·have d1 : decide (((4 * k : Nat) : Int) < (n : Int)) = false := by simp; omega
   gi_wp2
   go_end0
   exact ⟨⟨_, rfl⟩, .inl ⟨pre, by rw [HP.out]; congr 1; omega, hJs⟩⟩
theorem fours_stops (F : Fence) (m : Nat) (h6 : F.fn 153) (hro : F.round = none) (hm : 1 <= m) (Bn : Nat) (A : Option Addr) (n c : Nat) (hn : n <= 100000) (hc : n <= c) (hcm : c <= maxLen) (hA : 0 < n -> ∃ b off, A = some ⟨b, off, none⟩) (w : World)
  (hcl : Boxed w Bn 33 (.slice A n c)) :
  SeqStopsK F m Tryz.prog 153 #[.pointer (some ⟨Bn, 0, none⟩)] (enc4 A n c) (KB Bn 33 (.slice A n c)) (fun ys => ys.map (·.1) = List.range ((n + 3) / 4)) (fun _ => True) n w := fun l J Jx W hW _ _ hY h0 =>
 fours1_in F m h6 hro hm l Bn A n c hn hc hcm hA J Jx hY W ((hW.block Bn hcl.lt).trans hcl) h0
theorem KB.t {B : Nat} {t : TypeId} {v : Value} {X Y Z : World} (h : KB B t v X Y) (k : KB B t v Y Z) : KB B t v X Z := fun hx => k (h hx)
theorem KB.b {B : Nat} {t : TypeId} {v : Value} {w : World} (hB : B < w.heap.size) (W : World) (l : Nat) (o o' : Obj) (hl : w.heap.size <= l) (h : W.heap[l]? = some o) (_ : o.isCells = false) (_ : o.isWalk = false) : KB B t v W (W.putObj l o') := fun hx =>
 hx.kept (grownBy_putObj' W l o') (fun e => by cases e; omega)
end Go.Proofs.YtaciogcpghbhjaaGreat.Facts
namespace Go.Proofs.YtaciogcpghbhjaaGreat.Facts
set_option linter.unusedVariables false
open Go.RowKit Go.Shelf
open Fa
open Re (okL ofB)
attribute [local go_sem] Oper.semAt_some
def sl4 (A : Option Addr) (n c : Nat) (k : Gix n) : Value := .slice (sh A (4 * k.1)) (min 4 (n - 4 * k.1)) (c - 4 * k.1)
theorem part_grp {W : World} {A : Option Addr} {n : Nat} {zs : List Int} (hA : Ints .i64 W W.heap.size A n zs) (k : Nat) (hk : 4 * k < n) : Ints .i64 W W.heap.size (sh A (4 * k)) (min 4 (n - 4 * k)) (grp zs k) := by
 have hl := hA.1
 obtain ⟨b, off, rfl, _⟩ := hA.2 (by omega)
 have h := Fa.Ints.part hA (4 * k) (min 4 (n - 4 * k)) (by omega)
 have e : (zs.drop (4 * k)).take (min 4 (n - 4 * k)) = grp zs k := by
  unfold grp
  rw [List.take_eq_take_iff, List.length_drop]
  omega
 rw [e] at h
 exact h
theorem near_refl : ∀ (xs : List Nat), (∀ x ∈ xs, x < 18446744073709551616) -> Near xs xs
 | [], _ => trivial
 | x :: xs, h => ⟨⟨.inr rfl, h x (List.mem_cons_self ..)⟩, near_refl xs fun y hy => h y (List.mem_cons_of_mem _ hy)⟩
def fls {n : Nat} (zs : List Int) (ys : List (Gix n)) : List Nat := ys.map fun k => ofB (grp zs k.1)
theorem fls_snoc {n : Nat} (zs : List Int) (ys : List (Gix n)) (x : Gix n) : fls zs (ys ++ [x]) = fls zs ys ++ [ofB (grp zs x.1)] := by simp [fls]
theorem fls_len {n : Nat} (zs : List Int) (ys : List (Gix n)) : (fls zs ys).length = ys.length := by simp [fls]
theorem fls_near {n : Nat} (zs : List Int) (ys : List (Gix n)) : Near (fls zs ys) (fls zs ys) := near_refl _ fun x hx => by
 unfold fls at hx
 obtain ⟨k, _, rfl⟩ := List.mem_map.1 hx
 exact Re.ofB_lt _
theorem fls_all {n : Nat} (zs : List Int) (hl : zs.length = n) (ys : List (Gix n)) (h : ys.map (·.1) = List.range ((n + 3) / 4)) (hk : ∀ k ∈ ys, okL (grp zs k.1) = true) : reals zs = some (fls zs ys) := by
 rw [reals_all zs]
 ·rw [hl, <- h]
  simp [fls]
 ·intro k hkn
  have : k ∈ ys.map (·.1) := by rw [h, List.mem_range]; omega
  obtain ⟨y, hy, rfl⟩ := List.mem_map.1 this
  exact hk y hy
set_option maxRecDepth 100000 in
set_option maxHeartbeats 8000000 in
theorem reals_any (A : Option Addr) (n c : Nat) (zs : List Int) (w : World) (hn : n <= 100000) (hc : n <= c) (hcm : c <= maxLen) (hA : Ints .i64 w w.heap.size A n zs) :
  Calls Tryz.prog 136 #[.slice A n c] w (RetReals zs w) := by
 have HL := Lib.hid hA.1
 have hA0 : 0 < n -> ∃ b off, A = some ⟨b, off, none⟩ := fun h => by obtain ⟨b, off, e, _⟩ := hA.2 h; exact ⟨b, off, e⟩
 refine (callsIn_wide (n := 9)).1 ?_
 refine callsIn_of_wp_marks Tryz.func136 rfl trivial ?_ rfl
 simp only [Tryz.ntmps136, List.size_toArray, List.length_cons, List.length_nil, Nat.reduceAdd, Nat.reduceSub, Array.replicate_succ, Array.replicate_zero, List.push_toArray, List.append_toArray, List.nil_append, List.cons_append]
 obtain ⟨i0, hi, hz0, hz1, hz2⟩ := info_parts info_float
 have hw0 := Boxed.new w 124 (.slice none 0 0)
 have r1 := hw0.alloc (.cells #[.bool false] 4)
 have r2 := Boxed.new (w.alloc (.cells #[.slice none 0 0] 124)) 4 (.bool false)
 have hB0 : Below w.heap.size w ((w.alloc (.cells #[.slice none 0 0] 124)).alloc (.cells #[.bool false] 4)) := ((Below.refl _ w).alloc (Nat.le_refl _) _).alloc (by simp) _
 rw [World.size_alloc] at r2
 gi_wp2_with (gi_at_make; refine wpListIn_make_own _ rfl _ _ 124 rfl w.heap.size 56 i0 (.float .f64 0) 1 Tryz.underlying124 hi hz0 hz1 .i64 .i64 ((n : Int) / 4) (n / 4) rfl rfl (by omega) (by rw [hz2]; omega) (by unfold maxLen; omega) (by simp; omega) ?_; intro w1 hown1 hgrow1)
 have hs1 : w.heap.size + 2 <= w1.heap.size := by have := hgrow1.size; simp at this; omega
 have r1 := r1.kept hgrow1 (by simp)
 have r2 := r2.kept hgrow1 (by simp)
 have hB1 : Below w.heap.size w w1 := hB0.trans ((Below.refl _ _).grown hgrow1 (by simp; omega) (fun k e => by cases e))
 have hown1 : w1.ownsRow w.heap.size 56 1 (.slice (some ⟨w.heap.size + 1 + 1, 0, none⟩) 0 (n / 4)) 0 [] := by simpa using hown1
 clear hgrow1 hw0 hB0
 have bX := Boxed.new w1 124 (.slice (some ⟨w.heap.size + 1 + 1, 0, none⟩) 0 (n / 4))
 have hK1 : Keep w (w1.alloc (.cells #[(.slice (some ⟨w.heap.size + 1 + 1, 0, none⟩) 0 (n / 4))] 124)) := hB1.alloc (by omega) _
 refine ⟨trivial, ?_⟩
 refine (callsIn_wide.2 (fours_any A n c _)).mono ?_
 rintro e w2 ⟨rfl, rfl⟩
 gi_wp2_with fail
 obtain ⟨V0, hV0⟩ : ∃ V0, V0 = w1.alloc (.cells #[(.slice (some ⟨w.heap.size + 1 + 1, 0, none⟩) 0 (n / 4))] 124) := ⟨_, rfl⟩
 have r1 := r1.alloc (.cells #[(.slice (some ⟨w.heap.size + 1 + 1, 0, none⟩) 0 (n / 4))] 124)
 have r2 := r2.alloc (.cells #[(.slice (some ⟨w.heap.size + 1 + 1, 0, none⟩) 0 (n / 4))] 124)
 have hown0 := hown1.alloc (.cells #[(.slice (some ⟨w.heap.size + 1 + 1, 0, none⟩) 0 (n / 4))] 124)
 have hV0s : V0.heap.size = w1.heap.size + 1 := by rw [hV0]; simp
 rw [<- hV0] at r1 r2 bX hK1 hown0 ⊢
 have bN := Boxed.new V0 33 (.slice A n c)
 rw [hV0s] at bN
 have hBV : Below w.heap.size w (V0.alloc (.cells #[.slice A n c] 33)) := hK1.alloc _
 refine wpIn_rangeFunc_ownG rfl (by omega) (gf := 153) (encs := fun x => #[sl4 A n c x]) (lb := #[.pointer (some ⟨w1.heap.size + 1, 0, none⟩)]) rfl trivial (enters_of Tryz.func153 (by kernel_rfl) rfl)
  (fours_stops Fence.wide _ trivial rfl (by omega) (w1.heap.size + 1) A n c hn hc hcm hA0 (V0.alloc (.cells #[.slice A n c] 33)) bN) KB.t (KB.b bN.lt) (Below.refl _ _) (fun _ => rfl)
  (fun pre W => ((∃ v, Boxed W w1.heap.size 124 v ∧ W.ownsRow w.heap.size 56 1 v pre.length (flat encFl (fls zs pre)) ∧ ∀ k ∈ pre, okL (grp zs k.1) = true) ∧ (Boxed W w.heap.size 124 (.slice none 0 0) ∧ Boxed W (w.heap.size + 1) 4 (.bool false))) ∧ Below w.heap.size w W)
  (fun c pre W => ((c = .ret ∧ ∃ k ∈ pre, okL (grp zs k.1) = false) ∧ (Boxed W w.heap.size 124 (.slice none 0 0) ∧ Boxed W (w.heap.size + 1) 4 (.bool false))) ∧ Below w.heap.size w W)
  (OwnFrom.and (OwnFrom.and (Own.from (holdsRow_own w.heap.size w1.heap.size 124 56 1 (fun pre => pre.length) (fun pre => flat encFl (fls zs pre)) (fun pre v => ∀ k ∈ pre, okL (grp zs k.1) = true)) _) (OwnFrom.and (Own.from (boxed_own _ _ _) _) (Own.from (boxed_own _ _ _) _))) (ownFrom_below (Nat.le_refl _) (by simp; omega)))
  (fun c => OwnFrom.and (OwnFrom.and (ownFrom_pure _ _) (OwnFrom.and (Own.from (boxed_own _ _ _) _) (Own.from (boxed_own _ _ _) _))) (ownFrom_below (Nat.le_refl _) (by simp; omega)))
  ⟨⟨⟨(.slice (some ⟨w.heap.size + 1 + 1, 0, none⟩) 0 (n / 4)), bX.alloc _, hown0.alloc _, fun k hk => by cases hk⟩, r1.alloc _, r2.alloc _⟩, hBV⟩
  (fun x => { tmps := #[.slice A n c, undef, .pointer (some ⟨w.heap.size, 0, none⟩), .pointer (some ⟨w.heap.size + 1, 0, none⟩), .pointer (some ⟨w1.heap.size, 0, none⟩), sl4 A n c x, undef, undef, .slice A n c, .int .i64 n, .int .i64 ((n : Int) / 4), (.slice (some ⟨w.heap.size + 1 + 1, 0, none⟩) 0 (n / 4)), .slice A n c, .func (.func 153) #[] #[.pointer (some ⟨w1.heap.size + 1, 0, none⟩)], sl4 A n c x, undef, undef, undef, undef, undef, undef, undef, undef, undef, undef, undef, undef], defers := [] }) ?assign ?body ?done ?stop
 case assign =>
  intro l x W K hK
  gi_wp2
  exact hK
 case body =>
  rintro l pre x W ⟨⟨⟨v, hv, hrow, hok⟩, hr1, hr2⟩, hB⟩ hlt
  have hP := part_grp (hA.kept hB) x.1 x.2
  have CC : Calls Tryz.prog 145 #[sl4 A n c x] W fun e w' => e = .returned (.tuple #[.float .f64 (ofB (grp zs x.1)), .bool (okL (grp zs x.1))]) ∧ W = w' := Re.of_any (sh A (4 * x.1)) (min 4 (n - 4 * x.1)) (c - 4 * x.1) (grp zs x.1) W hP
  have c1 := hr1.cell
  have f1 := hr1.frozen
  have c2 := hr2.cell
  have f2 := hr2.frozen
  have hcv := hv.cell
  clear hP
  cases hg : okL (grp zs x.1)
  ·rw [hg] at CC
   have HG := Lib.hid hg
   replace CC := Lib.hid CC
   clear hg
   gi_wp2_with (refine ⟨trivial, ?_⟩; gi_at_call 145; refine (CallsIn.inRound l (callsIn_wide.2 CC.out)).mono ?_; rintro e w' ⟨rfl, rfl⟩)
   exact ⟨((KeepsOthers.setCell _ _ _).trans (KeepsOthers.setCell _ _ _)).from _, ⟨⟨rfl, x, List.mem_append.2 (.inr (List.mem_singleton.2 rfl)), HG.out⟩, (hr1.set _).other (by omega) _, (hr2.other (by omega) _).set _⟩, (hB.setCell (p := ⟨w.heap.size, 0, none⟩) (Nat.le_refl _) _).setCell (p := ⟨w.heap.size + 1, 0, none⟩) (by simp) _⟩
  ·rw [hg] at CC
   have HG := Lib.hid hg
   replace CC := Lib.hid CC
   clear hg c1 f1 c2 f2
   obtain ⟨b, hb⟩ : ∃ b, b = ofB (grp zs x.1) := ⟨_, rfl⟩
   rw [<- hb] at CC
   have HB := Lib.hid hb
   clear hb
   gi_wp2_with (first
    | (refine ⟨trivial, ?_⟩; gi_at_call 145; refine (CallsIn.inRound l (callsIn_wide.2 CC.out)).mono ?_; rintro e w' ⟨rfl, rfl⟩)
    | (gi_at_builtin; refine wpListIn_append_own _ rfl _ _ 124 rfl w.heap.size 56 i0 (.float .f64 0) 1 8 Tryz.underlying124 hi hz0 hz1 hz2 rfl (by decide) _ _ _ rfl (hrow.alloc _) ⟨W.heap.size, 0, none⟩ 1 1 [.float .f64 b] rfl rfl (cell_one_new _ _ _) (by simp [Value.oneCell']) (by unfold maxLen; omega) (by omega) (by have := hB.size; simp; omega) ?_; intro v' w3 hown' hgrow _; obtain ⟨g', cap', rfl⟩ := ownsRow_succ hown'; obtain ⟨hv1, hv2, hr3, hk2, hb2⟩ := hv.appended (by decide) hrow hB.size (by omega) hown' hgrow; have hc1 := hv1.cell; have hf1 := hv1.frozen)
    | fail)
   refine ⟨hk2.from _, fun hbx => ((hbx.alloc _).kept hgrow (hbx.not_row (by decide) hrow)).other (by omega) _, ⟨⟨_, hv2, ?_, ?_⟩, ((hr1.alloc _).kept hgrow (hr1.not_row (by decide) hrow)).other (by omega) _, ((hr2.alloc _).kept hgrow (hr2.not_row (by decide) hrow)).other (by omega) _⟩, hB.trans hb2⟩
   ·rw [fls_snoc, <- HB.out, flat_append, flat_one, List.length_append]
    exact hr3
   ·intro k hk
    rcases List.mem_append.1 hk with h | h
    ·exact hok k h
    ·rw [List.mem_singleton.1 h]; exact HG.out
 case done =>
  rintro D ys W hD hys ⟨⟨⟨v, hv, hrow, hok⟩, hr1, hr2⟩, hB⟩ hK
  have hR := fls_all zs HL.out ys hys hok
  obtain ⟨OA, oc, rfl⟩ := own_slice hrow
  have c1 := hr1.cell
  have f1 := hr1.frozen
  have c2 := hr2.cell
  have f2 := hr2.frozen
  have hcv := hv.cell
  have HR := Lib.hid hR
  have HY := Lib.hid hys
  have HO := Lib.hid hok
  clear hR hys hok
  gi_wp2
  have hK' := ((KeepsOthers.setCell W ⟨w.heap.size, 0, none⟩ (.slice OA ys.length oc)).trans (KeepsOthers.setCell _ ⟨w.heap.size + 1, 0, none⟩ (.bool true))).same D _ hK rfl
  have q1 := (hr1.set (.slice OA ys.length oc)).other (B' := w.heap.size + 1) (by omega) (.bool true)
  have q2 := (hr2.other (B' := w.heap.size) (by omega) (.slice OA ys.length oc)).set (.bool true)
  have hB2 := (hB.setCell (p := ⟨w.heap.size, 0, none⟩) (Nat.le_refl _) (.slice OA ys.length oc)).setCell (p := ⟨w.heap.size + 1, 0, none⟩) (by simp) (.bool true)
  have hrow2 := (hrow.kept (grownBy_setCell' W w.heap.size (.slice OA ys.length oc)) (.inr (hr1.not_row (by decide) hrow).symm)).kept (grownBy_setCell' _ (w.heap.size + 1) (.bool true)) (.inr (hr2.not_row (by decide) hrow).symm)
  refine ⟨by simp, .inl ⟨_, _, rfl, run_takeDeferred hK', ?_⟩⟩
  have p1 := cell_kept q1.cell (grownBy_putObj' _ D (.deferred none)) (fun r e => by cases e; exact ⟨_, hK', rfl⟩)
  have p2 := cell_kept q2.cell (grownBy_putObj' _ D (.deferred none)) (fun r e => by cases e; exact ⟨_, hK', rfl⟩)
  refine ⟨.tuple #[.slice OA ys.length oc, .bool true], ?_, ?_⟩
  ·simp [results, Tryz.f136, go_sem, p1, p2]
  ·have h := RetReals.some_ (c := oc) (A := OA) HR.out (by rw [fls_len]; exact Row.of_own encFl_len (ownsRow_putObj hrow2 (.deferred none) hK' rfl) (by omega)) (fls_near zs ys) (hB2.trans (belowK_b (w := w) (Nat.le_refl _) _ D _ _ (by simp at hD; omega) hK' rfl rfl))
   rw [fls_len] at h
   exact h
 case stop =>
  rintro D cc pre W hD hpre ⟨⟨⟨rfl, k, hk, hbad⟩, hr1, hr2⟩, hB⟩ hK
  have HR := Lib.hid (reals_bad zs k.1 (by have := k.2; have := HL.out; omega) hbad)
  clear hbad
  gi_wp2
  refine ⟨by simp, .inl ⟨_, _, rfl, run_takeDeferred hK, ?_⟩⟩
  have p1 := cell_kept hr1.cell (grownBy_putObj' _ D (.deferred none)) (fun r e => by cases e; exact ⟨_, hK, rfl⟩)
  have p2 := cell_kept hr2.cell (grownBy_putObj' _ D (.deferred none)) (fun r e => by cases e; exact ⟨_, hK, rfl⟩)
  refine ⟨.tuple #[.slice none 0 0, .bool false], ?_, RetReals.none_ HR.out (hB.trans (belowK_b (w := w) (Nat.le_refl _) W D _ _ (by simp at hD; omega) hK rfl rfl))⟩
  simp [results, Tryz.f136, go_sem, p1, p2]
end Go.Proofs.YtaciogcpghbhjaaGreat.Facts
