/- Of these texts: SpN, SpM. Conditions: as each part says. -/
import Derived.Test.YtaciogcpghbhjaaGreatZTSpH
import Derived.Shelf.SlSortCmp.NoneTotal
import Derived.Lib.OwnBridge
import Derived.Shelf.SlSortCmp.QuietGrown
/- Layer 4: the ranges put in order by package slices (SortFunc, its comparison), and merged: 'Norm' of the program. Conditions: lengths at most a million, ends that fit. -/
namespace Go.Proofs.YtaciogcpghbhjaaGreat.Span
open Go.Shelf Go.ChangeShapes Go.WideShapes Go.ChangeAt Go.RowKit
def sortRen : Go.Shelf.Ren := ⟨fun | 6 => 149 | 14 => 155 | 15 => 156 | 20 => 158 | 21 => 159 | 22 => 160 | 23 => 161 | 24 => 162 | 25 => 163 | 26 => 164 | 27 => 165 | 28 => 166 | 29 => 167 | 46 => 168 | 47 => 169 | 48 => 170 | 49 => 171 | 50 => 172 | 57 => 173 | n => n, fun | 0 => 0 | 3 => 3 | 4 => 4 | 5 => 5 | 9 => 9 | 22 => 52 | 24 => 87 | 25 => 164 | 39 => 139 | 45 => 172 | 46 => 173 | 50 => 64 | 53 => 179 | 55 => 167 | 66 => 181 | 70 => 185 | 76 => 187 | 77 => 95 | n => n, fun | n => n⟩
set_option maxRecDepth 100000 in
theorem sortLays : SlLaysF0.n6 Tryz.prog sortRen := {
 mixed := by kernel_rfl
 f6 := ⟨Tryz.f149.name, by decide, Tryz.func149.trans (congrArg some (by kernel_rfl))⟩
 f14 := ⟨Tryz.f155.name, by decide, Tryz.func155.trans (congrArg some (by kernel_rfl))⟩
 f15 := Tryz.func156.trans (congrArg some (by kernel_rfl))
 f20 := ⟨Tryz.f158.name, by decide, Tryz.func158.trans (congrArg some (by kernel_rfl))⟩
 f21 := ⟨Tryz.f159.name, by decide, Tryz.func159.trans (congrArg some (by kernel_rfl))⟩
 f22 := ⟨Tryz.f160.name, by decide, Tryz.func160.trans (congrArg some (by kernel_rfl))⟩
 f23 := ⟨Tryz.f161.name, by decide, Tryz.func161.trans (congrArg some (by kernel_rfl))⟩
 f24 := ⟨Tryz.f162.name, by decide, Tryz.func162.trans (congrArg some (by kernel_rfl))⟩
 f25 := ⟨Tryz.f163.name, by decide, Tryz.func163.trans (congrArg some (by kernel_rfl))⟩
 f26 := ⟨Tryz.f164.name, by decide, Tryz.func164.trans (congrArg some (by kernel_rfl))⟩
 f27 := ⟨Tryz.f165.name, by decide, Tryz.func165.trans (congrArg some (by kernel_rfl))⟩
 f28 := Tryz.func166.trans (congrArg some (by kernel_rfl))
 f29 := Tryz.func167.trans (congrArg some (by kernel_rfl))
 f46 := ⟨Tryz.f168.name, by decide, Tryz.func168.trans (congrArg some (by kernel_rfl))⟩
 f47 := Tryz.func169.trans (congrArg some (by kernel_rfl))
 f48 := Tryz.func170.trans (congrArg some (by kernel_rfl))
 f49 := ⟨Tryz.f171.name, by decide, Tryz.func171.trans (congrArg some (by kernel_rfl))⟩
 f50 := ⟨Tryz.f172.name, by decide, Tryz.func172.trans (congrArg some (by kernel_rfl))⟩
 f57 := ⟨Tryz.f173.name, by decide, Tryz.func173.trans (congrArg some (by kernel_rfl))⟩
 t0 := Tryz.underlying0
 a0 := Tryz.isAgg0
 z0 := Tryz.sizeOf0
 v0 := Tryz.zeroValue0
 t3 := Tryz.underlying3
 a3 := Tryz.isAgg3
 z3 := Tryz.sizeOf3
 v3 := Tryz.zeroValue3
 t4 := Tryz.underlying4
 a4 := Tryz.isAgg4
 z4 := Tryz.sizeOf4
 v4 := Tryz.zeroValue4
 t5 := Tryz.underlying5
 a5 := Tryz.isAgg5
 z5 := Tryz.sizeOf5
 v5 := Tryz.zeroValue5
 t9 := Tryz.underlying9
 a9 := Tryz.isAgg9
 z9 := Tryz.sizeOf9
 v9 := Tryz.zeroValue9
 t22 := Tryz.underlying52
 a22 := Tryz.isAgg52
 z22 := Tryz.sizeOf52
 v22 := Tryz.zeroValue52
 t25 := Tryz.underlying164
 a25 := Tryz.isAgg164
 z25 := Tryz.sizeOf164
 v25 := Tryz.zeroValue164
 t39 := Tryz.underlying139
 a39 := Tryz.isAgg139
 z39 := Tryz.sizeOf139
 v39 := Tryz.zeroValue139
 t45 := Tryz.underlying172
 a45 := Tryz.isAgg172
 z45 := Tryz.sizeOf172
 v45 := Tryz.zeroValue172
 t46 := Tryz.underlying173
 a46 := Tryz.isAgg173
 z46 := Tryz.sizeOf173
 v46 := Tryz.zeroValue173
 t50 := Tryz.underlying64
 a50 := Tryz.isAgg64
 z50 := Tryz.sizeOf64
 v50 := Tryz.zeroValue64
 t53 := Tryz.underlying179
 a53 := Tryz.isAgg179
 z53 := Tryz.sizeOf179
 v53 := Tryz.zeroValue179
 t55 := Tryz.underlying167
 a55 := Tryz.isAgg167
 z55 := Tryz.sizeOf167
 v55 := Tryz.zeroValue167
 t66 := Tryz.underlying181
 a66 := Tryz.isAgg181
 z66 := Tryz.sizeOf181
 v66 := Tryz.zeroValue181
 t70 := Tryz.underlying185
 a70 := Tryz.isAgg185
 z70 := Tryz.sizeOf185
 v70 := Tryz.zeroValue185
 t76 := Tryz.underlying187
 a76 := Tryz.isAgg187
 z76 := Tryz.sizeOf187
 v76 := Tryz.zeroValue187
 t77 := Tryz.underlying95
 a77 := Tryz.isAgg95
 z77 := Tryz.sizeOf95
 v77 := Tryz.zeroValue95
}
theorem isNaN_any (x : Int) (w : World) : Calls Tryz.prog 157 #[.int .i64 x] w fun e w' => e = .returned (.bool false) ∧ w = w' := by
 go_enter Tryz.func157, Tryz.ntmps157
 go_wp2
 go_ret
 exact ⟨by simp, rfl⟩
theorem compare_any (x y : Int) (w : World) : Calls Tryz.prog 151 #[.int .i64 x, .int .i64 y] w fun e w' => e = .returned (.int .i64 (Lib.compareInt x y)) ∧ w = w' := by
 go_enter Tryz.func151, Tryz.ntmps151
 go_wp2_with (go_at_call 157; refine (isNaN_any _ _).mono ?_; rintro e w' ⟨rfl, rfl⟩)
 all_goals (go_ret; refine ⟨?_, rfl⟩; unfold Lib.compareInt; (repeat' split) <;> first | rfl | (exfalso; omega))
theorem norm1_any (x1 x2 y1 y2 : Int) (w : World) : Calls Tryz.prog 150 #[.agg #[.int .i64 x1, .int .i64 x2], .agg #[.int .i64 y1, .int .i64 y2]] w fun e w' => e = .returned (.int .i64 (Lib.compareInt x1 y1)) ∧ ∃ q os', w' = Sort.grow (w.drewN q) os' := by
 have hcon := fun W => compare_any x1 y1 W
 generalize Lib.compareInt x1 y1 = r at hcon ⊢
 go_enter Tryz.func150, Tryz.ntmps150
 go_wp2_with (go_at_call 151; refine (hcon _).mono ?_; rintro e w' ⟨rfl, rfl⟩)
 go_ret
 exact ⟨rfl, ((Grew.refl _).alloc _).alloc _⟩
theorem lowLt (x y : Int × Int) : ltOf (fun x y : Int × Int => Lib.compareInt x.1 y.1) x y = decide (x.1 < y.1) := by
 unfold ltOf Lib.compareInt
 by_cases h1 : x.1 < y.1
 ·simp [h1]
 ·by_cases h2 : y.1 < x.1 <;> simp [h1, h2]
theorem swoLow : Sort.SWO (ltOf fun x y : Int × Int => Lib.compareInt x.1 y.1) where
 irrefl x := by rw [lowLt]; simp
 trans x y z h1 h2 := by rw [lowLt] at *; simp at *; omega
 ntrans x y z h1 h2 := by rw [lowLt] at *; simp at *; omega
theorem holds_own {w : World} {base : Nat} {e : TypeId} {g cap n : Nat} {zs : List (Int × Int)} (h : w.ownsRow base e 2 (.slice (some ⟨g, 0, none⟩) n cap) n (flat encP zs)) : Sort.HoldsK encP 2 w g 0 zs.toArray := by
 intro j hj
 rw [Sort.size_flatK] at hj
 have hl := Row.length_own encP_len h (by omega)
 have hz : zs.toArray.size = zs.length := by simp
 rw [hz] at hj
 refine ⟨?_, h.frozenAt _⟩
 rw [Nat.zero_add, h.cellAt _ (by omega), Sort.get_flatK encP 2 _ _ (by rw [hz]; exact hj)]
 have hq : j / 2 < zs.length := by omega
 have hg := flat_get encP_len zs (j / 2) hq (j % 2) (by omega)
 rw [show j / 2 * 2 + j % 2 = j by omega] at hg
 rw [hg]
 have e1 : zs.toArray[j / 2]! = zs[j / 2] := by rw [getElem!_pos zs.toArray _ (by simpa using hq)]; simp
 rw [e1, getElem!_pos (encP zs[j / 2]) (j % 2) (by rw [encP_len]; omega), List.getElem?_eq_getElem (by rw [encP_len]; omega)]
 rfl
theorem row_of_holds {w : World} {g : Nat} {d : Array (Int × Int)} (h : Sort.HoldsK encP 2 w g 0 d) (hg : g < w.heap.size) : Row encP 2 w w.heap.size (some ⟨g, 0, none⟩) d.size d.toList := by
 refine Row.of_pairs (by simp) hg fun j hj => ?_
 have h0 := (Sort.HoldsK.cell h hj (show 0 < 2 by omega)).1
 have h1 := (Sort.HoldsK.cell h hj (show 1 < 2 by omega)).1
 have e : d.toList.getD j (0, 0) = d[j]! := by
  rw [getElem!_pos d j hj, List.getD_eq_getElem?_getD, List.getElem?_eq_getElem (by simpa using hj)]
  simp
 rw [e]
 exact ⟨by simpa [encP] using h0, by simpa [encP] using h1⟩
def Sorted (zs : List (Int × Int)) (A : Option Addr) (n : Nat) (w0 : World) (e : Ending) (w' : World) : Prop :=
 e = .returned (.tuple #[]) ∧ ∃ ys : List (Int × Int), Row encP 2 w' w'.heap.size A n ys ∧ ys.Perm zs ∧ (∀ i j, i < j -> j < ys.length -> (ys.getD i (0, 0)).1 <= (ys.getD j (0, 0)).1) ∧ Keep w0 w'
theorem sort_any (A : Option Addr) (n c : Nat) (zs : List (Int × Int)) (w0 w : World) (hn : n <= 1000000) (hk0 : Keep w0 w) (hown : w.ownsRow w0.heap.size 87 2 (.slice A n c) n (flat encP zs)) :
  Calls Tryz.prog 149 #[.slice A n c, .func (.func 150) #[] #[]] w (Sorted zs A n w0) := by
 have hl := Row.length_own encP_len hown (by omega)
 rcases Nat.eq_zero_or_pos n with h0 | h0
 ·subst h0
  obtain rfl : zs = [] := List.eq_nil_of_length_eq_zero hl
  have hcon := AnyF.slices_SortFunc_none sortLays A c (.func (.func 150) #[] #[]) w
  refine hcon.mono ?_
  rintro e w' ⟨rfl, rfl⟩
  exact ⟨rfl, [], Row.none_ _ _ _, List.Perm.refl _, fun i j h1 h2 => by simp at h2, hk0⟩
 ·obtain ⟨g, cap, hA, hb1, hb2⟩ := hown.form h0
  injection hA with hA1 _ hA2
  subst hA1 hA2
  have hH := holds_own hown
  have hz : zs.toArray.size = n := by simpa using hl
  have hcon := AnyQ.slices_SortFunc sortLays 2 Tryz.isAgg87 Tryz.sizeOf87 encP encP_len encP_one (fun x y => Lib.compareInt x.1 y.1) swoLow 150 #[] g 0 c zs.toArray w
   (enters_of Tryz.func150 (by kernel_rfl) rfl) (fun _ _ _ _ x y => norm1_any x.1 x.2 y.1 y.2 _) hH hb2 (by rw [hz]; omega)
  rw [hz] at hcon
  refine hcon.mono ?_
  rintro e w' ⟨rfl, d', m, os, hp, hs, rfl⟩
  have hd' : d'.size = n := by rw [hp.1, hz]
  have hS : Proofs.SWK encP 2 w g 0 d' (sortWorldK encP 2 w g 0 m d' os) := ⟨m, os, rfl⟩
  have hHd := hS.holds hb2 hH (by rw [hd', hz])
  have hkeep : Keep w0 (sortWorldK encP 2 w g 0 m d' os) := by
   have h1 : Below w0.heap.size w0 (Sort.putRow id (Sort.ahead w m) g 0 (Sort.flatK encP 2 d')) := Lib.below_putRow hk0 hb1
   exact Keep.trans h1 (Grew.keep ⟨0, os, rfl⟩)
  refine ⟨rfl, d'.toList, ?_, ?_, ?_, hkeep⟩
  ·have := row_of_holds hHd (Nat.lt_of_lt_of_le hb2 hS.le)
   rwa [hd'] at this
  ·have := hp.2.2
   rw [<- hz] at this
   have e1 : (d'.extract 0 zs.toArray.size).toList = d'.toList := by
    rw [hz, <- hd']; simp
   have e2 : (zs.toArray.extract 0 zs.toArray.size).toList = zs := by simp
   rwa [e1, e2] at this
  ·intro i j hij hj
   have hj' : j < n := by rw [<- hd']; simpa using hj
   have := hs i j (Nat.zero_le _) hij hj'
   rw [lowLt, decide_eq_false_iff_not] at this
   have gd : ∀ t, t < n -> d'.toList.getD t (0, 0) = d'[t]! := fun t ht => by
    rw [getElem!_pos d' t (by omega), List.getD_eq_getElem?_getD, List.getElem?_eq_getElem (by simpa [hd'] using ht)]
    simp
   rw [gd i (by omega), gd j hj']
   omega
end Go.Proofs.YtaciogcpghbhjaaGreat.Span
/- Layer 4: the program's Norm merges what package slices has put in order; Covers. Conditions: lengths at most a million, ends that fit. -/
namespace Go.Proofs.YtaciogcpghbhjaaGreat.Span
open Go.Shelf Go.ChangeShapes Go.WideShapes Go.ChangeAt Go.RowKit
theorem mixed : Tryz.prog.follows .mixedOrders = true := by kernel_rfl
theorem mem_get {zs : List (Int × Int)} {j : Nat} (hj : j < zs.length) : zs.getD j (0, 0) ∈ zs := by
 rw [List.getD_eq_getElem?_getD, List.getElem?_eq_getElem hj]
 exact List.getElem_mem _
def NormRel (w3 : World) (ys : List (Int × Int)) (n2 : Nat) (s4 s15 : Value) (wr : World) : Prop :=
 ∃ (k : Nat) (m : List (Int × Int)) (L : Nat), k <= n2 ∧ s15 = .int .i64 k ∧ L <= k ∧ wr.ownsRow w3.heap.size 87 2 s4 L (flat encP m) ∧ Keep w3 wr ∧ Hid (Sp.Merge ys k m) ∧ Hid (∀ r ∈ m, Fit r)
set_option maxHeartbeats 1000000 in
theorem norm_own (A : Option Addr) (n c : Nat) (zs : List (Int × Int)) (w : World) (hn : n <= 100000) (hA : Row encP 2 w w.heap.size A n zs) (hf : ∀ r ∈ zs, Fit r) :
  Calls Tryz.prog 142 #[.slice A n c] w fun e w' => RetRowF encP 2 (Sp.norm zs) w e w' ∧ Sp.NormOk zs ∧ (Sp.norm zs).length <= zs.length := by
 have HL := Lib.hid hA.1
 have hmix := mixed
 have hcl := clone_any A n c zs w (by omega) hA
 have htest : Tests 141 #[] Sp.emp w := fun W x1 x2 _ => (isEmpty_any x1 x2 W).mono fun _ _ ⟨he, hg⟩ => ⟨he, hg.keep⟩
 have hen := enters_of (P := Tryz.prog) Tryz.func141 (by kernel_rfl) rfl
 go_enter Tryz.func142, Tryz.ntmps142
 go_wp2_with fail
 refine hcl.mono ?_
 rintro e w1 ⟨A1, n1, c1, rfl, hown1, hk1⟩
 have hn1 := Row.length_own encP_len hown1 (by omega)
 rw [HL.out] at hn1
 subst hn1
 have hde := delete_any A1 n c1 zs 141 Sp.emp w w1 (by omega) hk1 hown1 hen htest
 clear hown1 hk1 hcl hA
 go_wp2_with fail
 refine hde.mono ?_
 rintro e w2 ⟨A2, n2, c2, rfl, hown2, hk2⟩
 have hn2 := Row.length_own encP_len hown2 (by omega)
 have hn2' : n2 <= n := by
  rw [<- hn2, <- HL.out]
  exact List.length_filter_le _ _
 have hso := sort_any A2 n2 c2 _ w w2 (by omega) hk2 hown2
 have HN2 := Lib.hid hn2
 clear hown2 hk2 hde htest hen hn2
 go_wp2_with fail
 refine hso.mono ?_
 rintro e w3 ⟨rfl, ys, hrow, hperm, hlow, hk3⟩
 have HP := Lib.hid hperm
 have HLOW := Lib.hid (show Sp.Lows ys from hlow)
 have HYL := Lib.hid hrow.1
 have HNE := Lib.hid (show ∀ r ∈ ys, r.1 <= r.2 ∧ Fit r from fun r hr => by
  obtain ⟨h1, h2⟩ := List.mem_filter.1 (HP.out.mem_iff.1 hr)
  refine ⟨?_, hf r h1⟩
  simp [Sp.emp] at h2
  exact h2)
 clear hso hperm hlow hf
 go_wp2
 go_loopw [4, 6, 7, 15] (fun s4 _ _ s15 wr => NormRel w3 ys n2 s4 s15 wr) (fun _ _ _ s15 _ => n2 - (intOf s15).toNat)
 case atStart => exact ⟨0, [], 0, Nat.zero_le _, rfl, Nat.le_refl _, World.ownsRow_nil _ _ _ _, Keep.refl _, Sp.Merge.start ys, fun r h => by cases h⟩
 case round =>
  obtain ⟨k, m, L, hk, rfl, hLk, hown, hkr, HM, HF⟩ := hrel
  by_cases hlt : k < n2
  ·obtain ⟨b0, off, rfl, _⟩ := hrow.addr (by omega)
   obtain ⟨hb0, q1, q2⟩ := hrow.pair k hlt
   have hky : k < ys.length := by rw [HYL.out]; exact hlt
   obtain ⟨fxy, fx⟩ := HNE.out _ (mem_get hky)
   have HKY := Lib.hid hky
   clear hky
   have d1 := (hkr.cell (p := ⟨b0, off + k * 2, none⟩) hb0).trans q1
   have d2 := (hkr.cell (p := ⟨b0, off + k * 2 + 1, none⟩) hb0).trans q2
   clear q1 q2
   obtain ⟨x, y, hx⟩ : ∃ x y, ys.getD k (0, 0) = (x, y) := ⟨_, _, rfl⟩
   rw [hx] at d1 d2 fx fxy
   have HX := Lib.hid hx
   clear hx
   have HFX := Lib.hid fx
   simp only [Fit] at d1 d2 fx fxy
   obtain ⟨⟨x0, x1⟩, y0, y1⟩ := fx
   have hkn : (k : Int) < n2 := by omega
   have hk0 : (0 : Int) <= k := by omega
   have hks := hkr.size
   have hbne : b0 ≠ wr.heap.size := by omega
   rcases List.eq_nil_or_concat m with rfl | ⟨m', ⟨a, b⟩, rfl⟩
   ·obtain rfl : 0 = L := Row.length_own encP_len hown (by omega)
    obtain ⟨A4, c4, rfl⟩ := own_slice hown
    have hG : ∀ n, Grew wr ((wr.alloc (.cells #[.int .i64 x, .int .i64 y] 87)).drewN n) := fun n => ((Grew.refl _).alloc _).drewN n
    have e1 : ∀ n, ((wr.alloc (.cells #[.int .i64 x, .int .i64 y] 87)).drewN n).cell? ⟨wr.heap.size, 0, none⟩ = some (.int .i64 x) := fun n => by simp
    have e2 : ∀ n, ((wr.alloc (.cells #[.int .i64 x, .int .i64 y] 87)).drewN n).cell? ⟨wr.heap.size, 1, none⟩ = some (.int .i64 y) := fun n => by simp
    go_wp2
    go_quiet (fail)
    replace hG := hG nq
    replace e1 := e1 nq
    replace e2 := e2 nq
    generalize _root_.Go.World.drewN _ nq = Y at hG e1 e2 ⊢
    replace hown := own_keep hown hG.keep
    replace hkr := hkr.trans hG.keep
    have hky := hkr.size
    clear hG d1 d2
    go_wp2_with (at_builtin; refine append_rows rfl _ _ 52 rfl w3.heap.size 87 _ 16 Tryz.underlying52 info_range rfl (by omega) encP_len encP_one _ 0 [] rfl (hown.alloc _) (by simp; omega) _ _ 1 1 [(x, y)] rfl (Row.new encP_len Y 87 [(x, y)] #[.int .i64 x, .int .i64 y] rfl) (by unfold maxLen; omega) (by omega) ?_)
    intro v5 w5 hown5 hb5
    have hk5 : Keep w3 w5 := Below.trans (Keep.alloc hkr _) hb5
    clear hown hkr
    go_wp2
    go_roundw
    case rel => exact ⟨k + 1, [(x, y)], 1, by omega, by go_num, by omega, hown5, hk5, by
     have := HM.out.first HLOW.out HKY.out (by rw [HX.out]; exact fxy)
     rwa [HX.out] at this, fun r hr => by simp only [List.mem_singleton] at hr; subst hr; exact HFX.out⟩
    case measure => simp [intOf]; omega
   ·simp only [List.concat_eq_append] at hown HM HF
    obtain ⟨M, hM⟩ : ∃ M, M = m'.length := ⟨_, rfl⟩
    obtain rfl : M + 1 = L := by
     have := Row.length_own encP_len hown (by omega)
     rw [List.length_append, <- hM] at this
     exact this
    have HM' := Lib.hid hM
    clear hM
    obtain ⟨g, c4, rfl, hg1, hg2⟩ := hown.form (by omega)
    obtain ⟨⟨q1, q2⟩, _, _⟩ := own_pair hown M (by omega)
    have hlast : (m' ++ [(a, b)]).getD M (0, 0) = (a, b) := by rw [HM'.out]; simp [List.getD]
    rw [hlast] at q1 q2
    have HLA := Lib.hid hlast
    clear hlast
    have fab : Fit (a, b) := HF.out (a, b) (by simp)
    have HFA := Lib.hid fab
    obtain ⟨⟨a0, a1⟩, hb0', hb1'⟩ := fab
    have hgne : g ≠ wr.heap.size := by omega
    have hgne' : wr.heap.size ≠ g := by omega
    have hM0 : (0 : Int) <= M := by omega
    have hM1 : (M : Int) < (M : Int) + 1 := by omega
    have hMk : M < k := by omega
    obtain ⟨X, hX⟩ : ∃ X, X = wr.alloc (.cells #[.int .i64 x, .int .i64 y] 87) := ⟨_, rfl⟩
    have hkX : Keep wr X := by rw [hX]; exact (Keep.refl _).alloc _
    have hXs : wr.heap.size < X.heap.size := by rw [hX]; simp
    have hgX : g < X.heap.size := by omega
    have r1 := (hkX.cell (p := ⟨g, M * 2, none⟩) hg2).trans q1
    have r2 := (hkX.cell (p := ⟨g, M * 2 + 1, none⟩) hg2).trans q2
    have r3 : X.cell? ⟨wr.heap.size, 0, none⟩ = some (.int .i64 x) := by rw [hX]; simp
    have r4 : X.cell? ⟨wr.heap.size, 1, none⟩ = some (.int .i64 y) := by rw [hX]; simp
    have r5 : X.frozen? ⟨wr.heap.size, 1, none⟩ = false := by rw [hX]; simp
    have hownX := own_keep hown hkX
    have HXX := Lib.hid hX
    clear hX q1 q2 hown
    have g1 := fun n os => Go.cell_grown (w := X) (a := ⟨g, M * 2, none⟩) hgX r1 n os
    have g2 := fun n os => Go.cell_grown (w := X) (a := ⟨g, M * 2 + 1, none⟩) hgX r2 n os
    have g3 := fun n os => Go.cell_grown (w := X) (a := ⟨wr.heap.size, 0, none⟩) hXs r3 n os
    have g4 := fun n os => Go.cell_grown (w := X) (a := ⟨wr.heap.size, 1, none⟩) hXs r4 n os
    have hcall : ∀ n os, Calls Tryz.prog 152 #[.agg #[.int .i64 a, .int .i64 b], .agg #[.int .i64 x, .int .i64 y]] (Sort.grow (X.drewN n) os) fun e w' => e = .returned (.bool (Sp.apart (a, b) (x, y))) ∧ ∃ q os', w' = Sort.grow ((Sort.grow (X.drewN n) os).drewN q) os' :=
     fun n os => isApart_any a b x y _ hb0' x1
    obtain ⟨ap, hap⟩ : ∃ ap, ap = Sp.apart (a, b) (x, y) := ⟨_, rfl⟩
    rw [<- hap] at hcall
    have HAP := Lib.hid hap
    clear hap r1 r2 r3 r4
    have hGX : ∀ n os, Grew X (Sort.grow (X.drewN n) os) := fun n os => ⟨n, os, rfl⟩
    cases ap with
    | true =>
      go_wp2
      rw [<- HXX.out]
      go_quiet_grown (first | (go_at_call 152; refine Go.Calls.grown_of (hcall _ _)))
      have hGY := hGX nq osq
      have e3 := g3 nq osq
      have e4 := g4 nq osq
      have e1 := g1 nq osq
      have e2 := g2 nq osq
      clear g1 g2 g3 g4 hGX hcall d1 d2
      generalize Sort.grow (_root_.Go.World.drewN X nq) osq = Y at hGY e1 e2 e3 e4 ⊢
      have hownY := own_keep hownX hGY.keep
      have hkY : Keep w3 Y := (hkr.trans hkX).trans hGY.keep
      have hYs := hkY.size
      have hXY := hGY.keep.size
      clear hownX hkr hGY r5
      go_wp2_with (at_builtin; refine append_rows rfl _ _ 52 rfl w3.heap.size 87 _ 16 Tryz.underlying52 info_range rfl (by omega) encP_len encP_one _ (M + 1) (m' ++ [(a, b)]) rfl (hownY.alloc _) (by simp; omega) _ _ 1 1 [(x, y)] rfl (Row.new encP_len Y 87 [(x, y)] #[.int .i64 x, .int .i64 y] rfl) (by unfold maxLen; omega) (by omega) ?_)
      intro v5 w5 hown5 hb5
      have hk5 : Keep w3 w5 := Below.trans (Keep.alloc hkY _) hb5
      clear hownY hkY
      go_wp2
      go_roundw
      case rel => exact ⟨k + 1, m' ++ [(a, b)] ++ [(x, y)], M + 1 + 1, by omega, by go_num, by omega, by simpa using hown5, hk5, by
       have := HM.out.apart HLOW.out HKY.out (by rw [HX.out]; exact fxy) (by rw [HX.out]; exact HAP.out.symm)
       rwa [HX.out] at this, fun r hr => by
        rw [List.mem_append] at hr
        rcases hr with hr | hr
        ·exact HF.out r hr
        ·simp only [List.mem_singleton] at hr; subst hr; exact HFX.out⟩
      case measure => simp [intOf]; omega
    | false =>
      go_wp2
      rw [<- HXX.out]
      go_quiet_grown (first | (go_at_call 152; refine Go.Calls.grown_of (hcall _ _)))
      have hGY := hGX nq osq
      have e3 := g3 nq osq
      have e4 := g4 nq osq
      have e1 := g1 nq osq
      have e2 := g2 nq osq
      clear g1 g2 g3 g4 hGX hcall d1 d2
      generalize Sort.grow (_root_.Go.World.drewN X nq) osq = Y at hGY e1 e2 e3 e4 ⊢
      have hownY := own_keep hownX hGY.keep
      have hkY : Keep w3 Y := (hkr.trans hkX).trans hGY.keep
      have hYs := hkY.size
      have hXY := hGY.keep.size
      clear hownX hkr hGY r5
      obtain ⟨_, _, f2⟩ := own_pair hownY M (by omega)
      have hown6 := fun v => own_write_snd hownY M v
      rw [HLA.out] at hown6
      have hset : ∀ v, (m' ++ [(a, b)]).set M (a, v) = m' ++ [(a, v)] := fun v => by rw [HM'.out]; simp
      simp only [hset] at hown6
      have hk6 : ∀ v, Keep w3 (Y.setCell ⟨g, M * 2 + 1, none⟩ v) := fun v => Below.setCell hkY (by simpa using hg1) v
      clear hset hownY hkY
      go_wp2
      go_region
      all_goals go_wp2
      all_goals
       go_roundw
       case rel => exact ⟨k + 1, m' ++ [(a, max b y)], M + 1, by omega, by go_num, by omega, (hown6 (max b y)).drew, keep_drew (hk6 _), by
        have := HM.out.into HKY.out (by rw [HX.out]; exact HAP.out.symm)
        rwa [HX.out] at this, fun r hr => by
         rw [List.mem_append] at hr
         rcases hr with hr | hr
         ·exact HF.out r (by simp [hr])
         ·simp only [List.mem_singleton] at hr; subst hr; simp only [Fit]; omega⟩
       case measure => simp [intOf]; omega
  ·obtain rfl : k = n2 := by omega
   have hz : ∀ t, Sp.has ys t = Sp.has zs t := fun t => by rw [Sp.has_perm HP.out, Sp.has_filter]
   have hm := HM.out
   rw [<- HYL.out] at hm
   have H := Lib.hid (hm.done hz)
   have hle : m.length <= zs.length := by
    have h1 := HM.out.2.2.2
    have h2 := HYL.out
    rw [HL.out]
    omega
   have HLE := Lib.hid hle
   clear hm hle hz
   obtain ⟨A4, c4, rfl⟩ := own_slice hown
   have hle4 := own_le hown
   have hr4 := Row.of_own encP_len hown (by omega)
   have hks := hk3.trans hkr
   have HFR := Lib.hid (FreshR.of_own hown hk3.size)
   clear hown
   go_wp2
   go_ret
   exact ⟨⟨A4, L, c4, rfl, hle4.1, hle4.2, by rw [H.out.1]; exact hr4, hks, HFR.out⟩, H.out.2, by rw [H.out.1]; exact HLE.out⟩
theorem norm_any (A : Option Addr) (n c : Nat) (zs : List (Int × Int)) (w : World) (hn : n <= 100000) (hA : Row encP 2 w w.heap.size A n zs) (hf : ∀ r ∈ zs, Fit r) :
  Calls Tryz.prog 142 #[.slice A n c] w fun e w' => RetRow encP 2 (Sp.norm zs) w e w' ∧ Sp.NormOk zs ∧ (Sp.norm zs).length <= zs.length :=
 (norm_own A n c zs w hn hA hf).mono fun _ _ ⟨h1, h2⟩ => ⟨h1.row, h2⟩
set_option maxHeartbeats 400000 in
theorem covers1_any (x1 x2 p q : Int) (B : Nat) (w : World) (hB : B < w.heap.size) (hc : w.cell? ⟨B, 0, none⟩ = some (.int .i64 p)) (hd : w.cell? ⟨B, 1, none⟩ = some (.int .i64 q)) :
  Calls Tryz.prog 143 #[.agg #[.int .i64 x1, .int .i64 x2], .pointer (some ⟨B, 0, none⟩)] w fun e w' => e = .returned (.bool (decide (x1 <= p) && decide (q <= x2))) ∧ Keep w w' := by
 have hne : B ≠ w.heap.size := by omega
 by_cases h : x1 <= p
 ·rw [decide_eq_true h, Bool.true_and]
  go_enter Tryz.func143, Tryz.ntmps143
  go_wp2
  go_ret
  exact ⟨rfl, (Keep.refl _).alloc _⟩
 ·have e : decide (x1 <= p) = false := by simpa using h
  rw [e, Bool.false_and]
  clear e
  go_enter Tryz.func143, Tryz.ntmps143
  go_wp2
  go_ret
  exact ⟨rfl, (Keep.refl _).alloc _⟩
set_option maxHeartbeats 400000 in
theorem covers_any (A : Option Addr) (n c : Nat) (zs : List (Int × Int)) (p q : Int) (w : World) (hn : n <= 100000) (hA : Row encP 2 w w.heap.size A n zs) (hf : ∀ r ∈ zs, Fit r) :
  Calls Tryz.prog 134 #[.slice A n c, .agg #[.int .i64 p, .int .i64 q]] w fun e w' => e = .returned (.bool (Sp.covers (Sp.norm zs) (p, q))) ∧ Keep w w' := by
 have hkB : Keep w (w.alloc (.cells #[.int .i64 p, .int .i64 q] 87)) := (Keep.refl _).alloc _
 have hem := fun W => isEmpty_any p q W
 by_cases hpq : Sp.emp (p, q) = true
 ·have he : Sp.covers (Sp.norm zs) (p, q) = true := by simp [Sp.covers, hpq]
  rw [he]
  rw [hpq] at hem
  clear he hpq hA
  go_enter Tryz.func134, Tryz.ntmps134
  go_wp2_with fail
  refine (hem _).mono ?_
  rintro e w1 ⟨rfl, hg⟩
  go_wp2
  go_ret
  exact ⟨rfl, hkB.trans hg.keep⟩
 ·replace hpq : Sp.emp (p, q) = false := by simpa using hpq
  have he : Sp.covers (Sp.norm zs) (p, q) = (Sp.norm zs).any fun o => decide (o.1 <= p) && decide (q <= o.2) := by simp [Sp.covers, hpq, Sp.cov]
  rw [he]
  rw [hpq] at hem
  clear he hpq
  have hzn := hA.1
  have hcon := fun W h => norm_any A n c zs W hn h hf
  obtain ⟨r, hr⟩ : ∃ r, r = (Sp.norm zs).any fun o => decide (o.1 <= p) && decide (q <= o.2) := ⟨_, rfl⟩
  rw [<- hr]
  have HR := Lib.hid hr
  clear hr
  go_enter Tryz.func134, Tryz.ntmps134
  go_wp2_with fail
  refine (hem _).mono ?_
  rintro e w1 ⟨rfl, hg⟩
  have hk1 := hkB.trans hg.keep
  have hcon := hcon w1 (hA.kept hk1)
  have b0 := (hg.keep.cell (p := ⟨w.heap.size, 0, none⟩) (by simp)).trans (show _ = some (Value.int .i64 p) by simp)
  have b1 := (hg.keep.cell (p := ⟨w.heap.size, 1, none⟩) (by simp)).trans (show _ = some (Value.int .i64 q) by simp)
  have hs1 : w.heap.size < w1.heap.size := Nat.lt_of_lt_of_le (by simp) hg.keep.size
  clear hem hA hg hkB
  go_wp2_with fail
  refine hcon.mono ?_
  rintro e w2 ⟨⟨A1, m, c1, rfl, hle1, hle2, hrow, hk2⟩, hok, hlen⟩
  have ht : Tests 143 #[.pointer (some ⟨w.heap.size, 0, none⟩)] (fun o => decide (o.1 <= p) && decide (q <= o.2)) w2 := fun W x1 x2 hk =>
   covers1_any x1 x2 p q w.heap.size W (Nat.lt_of_lt_of_le (Nat.lt_of_lt_of_le hs1 hk2.size) hk.size)
    ((hk.cell (p := ⟨w.heap.size, 0, none⟩) (Nat.lt_of_lt_of_le hs1 hk2.size)).trans ((hk2.cell (p := ⟨w.heap.size, 0, none⟩) hs1).trans b0))
    ((hk.cell (p := ⟨w.heap.size, 1, none⟩) (Nat.lt_of_lt_of_le hs1 hk2.size)).trans ((hk2.cell (p := ⟨w.heap.size, 1, none⟩) hs1).trans b1))
  have hm : m <= 1000000 := by
   have h1 := hrow.1
   omega
  have hct := contains_any A1 m c1 (Sp.norm zs) 143 #[.pointer (some ⟨w.heap.size, 0, none⟩)] (fun o => decide (o.1 <= p) && decide (q <= o.2)) w2 hm hrow (enters_of Tryz.func143 (by kernel_rfl) rfl) ht
  rw [<- HR.out] at hct
  have hk3 := hk1.trans hk2
  clear hcon ht hrow hk1 hk2 hok hlen b0 b1 hs1
  go_wp2_with fail
  refine hct.mono ?_
  rintro e w3 ⟨rfl, hk4⟩
  go_wp2
  go_ret
  exact ⟨rfl, hk3.trans hk4⟩
end Go.Proofs.YtaciogcpghbhjaaGreat.Span
