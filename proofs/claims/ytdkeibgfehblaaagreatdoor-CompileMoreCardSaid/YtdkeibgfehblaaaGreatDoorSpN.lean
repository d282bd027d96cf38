/- Layer 4: the ranges put in order by package slices (SortFunc, its comparison), and merged: 'Norm' of the program. Conditions: lengths at most a million, ends that fit. -/
import Derived.Test.YtdkeibgfehblaaaGreatDoorSpH
import Derived.Shelf.SlSortCmp.NoneTotal
import Derived.Lib.OwnBridge
namespace Go.Proofs.YtdkeibgfehblaaaGreatDoor.Span
open Go.Shelf Go.ChangeShapes Go.WideShapes Go.ChangeAt Go.RowKit

def sortRen : Go.Shelf.Ren := ⟨fun | 6 => 57 | 14 => 72 | 15 => 73 | 20 => 82 | 21 => 83 | 22 => 84 | 23 => 85 | 24 => 86 | 25 => 87 | 26 => 88 | 27 => 89 | 28 => 90 | 29 => 91 | 46 => 96 | 47 => 97 | 48 => 98 | 49 => 99 | 50 => 100 | 57 => 105 | n => n, fun | 0 => 0 | 3 => 3 | 4 => 4 | 5 => 5 | 9 => 9 | 22 => 31 | 24 => 42 | 25 => 84 | 39 => 94 | 45 => 101 | 46 => 102 | 50 => 106 | 53 => 109 | 55 => 98 | 66 => 114 | 70 => 118 | 76 => 122 | 77 => 123 | n => n, fun | n => n⟩
set_option maxRecDepth 100000 in
theorem sortLays : SlLaysF0.n6 Tryz.prog sortRen := {
  mixed := by kernel_rfl
  f6 := ⟨Tryz.f57.name, by decide, Tryz.func57.trans (congrArg some (by kernel_rfl))⟩
  f14 := ⟨Tryz.f72.name, by decide, Tryz.func72.trans (congrArg some (by kernel_rfl))⟩
  f15 := Tryz.func73.trans (congrArg some (by kernel_rfl))
  f20 := ⟨Tryz.f82.name, by decide, Tryz.func82.trans (congrArg some (by kernel_rfl))⟩
  f21 := ⟨Tryz.f83.name, by decide, Tryz.func83.trans (congrArg some (by kernel_rfl))⟩
  f22 := ⟨Tryz.f84.name, by decide, Tryz.func84.trans (congrArg some (by kernel_rfl))⟩
  f23 := ⟨Tryz.f85.name, by decide, Tryz.func85.trans (congrArg some (by kernel_rfl))⟩
  f24 := ⟨Tryz.f86.name, by decide, Tryz.func86.trans (congrArg some (by kernel_rfl))⟩
  f25 := ⟨Tryz.f87.name, by decide, Tryz.func87.trans (congrArg some (by kernel_rfl))⟩
  f26 := ⟨Tryz.f88.name, by decide, Tryz.func88.trans (congrArg some (by kernel_rfl))⟩
  f27 := ⟨Tryz.f89.name, by decide, Tryz.func89.trans (congrArg some (by kernel_rfl))⟩
  f28 := Tryz.func90.trans (congrArg some (by kernel_rfl))
  f29 := Tryz.func91.trans (congrArg some (by kernel_rfl))
  f46 := ⟨Tryz.f96.name, by decide, Tryz.func96.trans (congrArg some (by kernel_rfl))⟩
  f47 := Tryz.func97.trans (congrArg some (by kernel_rfl))
  f48 := Tryz.func98.trans (congrArg some (by kernel_rfl))
  f49 := ⟨Tryz.f99.name, by decide, Tryz.func99.trans (congrArg some (by kernel_rfl))⟩
  f50 := ⟨Tryz.f100.name, by decide, Tryz.func100.trans (congrArg some (by kernel_rfl))⟩
  f57 := ⟨Tryz.f105.name, by decide, Tryz.func105.trans (congrArg some (by kernel_rfl))⟩
  t0 := Tryz.underlying0
  a0 := Tryz.isAgg0
  z0 := Tryz.sizeOf0
  v0 := Tryz.zeroValue0
  t3 := Tryz.underlying3
  a3 := Tryz.isAgg3
  z3 := Tryz.sizeOf3
  v3 := Tryz.zeroValue3
  t4 := Tryz.underlying4
  a4 := Tryz.isAgg4
  z4 := Tryz.sizeOf4
  v4 := Tryz.zeroValue4
  t5 := Tryz.underlying5
  a5 := Tryz.isAgg5
  z5 := Tryz.sizeOf5
  v5 := Tryz.zeroValue5
  t9 := Tryz.underlying9
  a9 := Tryz.isAgg9
  z9 := Tryz.sizeOf9
  v9 := Tryz.zeroValue9
  t22 := Tryz.underlying31
  a22 := Tryz.isAgg31
  z22 := Tryz.sizeOf31
  v22 := Tryz.zeroValue31
  t25 := Tryz.underlying84
  a25 := Tryz.isAgg84
  z25 := Tryz.sizeOf84
  v25 := Tryz.zeroValue84
  t39 := Tryz.underlying94
  a39 := Tryz.isAgg94
  z39 := Tryz.sizeOf94
  v39 := Tryz.zeroValue94
  t45 := Tryz.underlying101
  a45 := Tryz.isAgg101
  z45 := Tryz.sizeOf101
  v45 := Tryz.zeroValue101
  t46 := Tryz.underlying102
  a46 := Tryz.isAgg102
  z46 := Tryz.sizeOf102
  v46 := Tryz.zeroValue102
  t50 := Tryz.underlying106
  a50 := Tryz.isAgg106
  z50 := Tryz.sizeOf106
  v50 := Tryz.zeroValue106
  t53 := Tryz.underlying109
  a53 := Tryz.isAgg109
  z53 := Tryz.sizeOf109
  v53 := Tryz.zeroValue109
  t55 := Tryz.underlying98
  a55 := Tryz.isAgg98
  z55 := Tryz.sizeOf98
  v55 := Tryz.zeroValue98
  t66 := Tryz.underlying114
  a66 := Tryz.isAgg114
  z66 := Tryz.sizeOf114
  v66 := Tryz.zeroValue114
  t70 := Tryz.underlying118
  a70 := Tryz.isAgg118
  z70 := Tryz.sizeOf118
  v70 := Tryz.zeroValue118
  t76 := Tryz.underlying122
  a76 := Tryz.isAgg122
  z76 := Tryz.sizeOf122
  v76 := Tryz.zeroValue122
  t77 := Tryz.underlying123
  a77 := Tryz.isAgg123
  z77 := Tryz.sizeOf123
  v77 := Tryz.zeroValue123
}

theorem isNaN_any (x : Int) (w : World) : Calls Tryz.prog 74 #[.int .i64 x] w fun e w' => e = .returned (.bool false) ∧ w = w' := by
  go_enter Tryz.func74, Tryz.ntmps74
  go_wp2
  go_ret
  exact ⟨by simp, rfl⟩
theorem compare_any (x y : Int) (w : World) : Calls Tryz.prog 59 #[.int .i64 x, .int .i64 y] w fun e w' => e = .returned (.int .i64 (Lib.compareInt x y)) ∧ w = w' := by
  go_enter Tryz.func59, Tryz.ntmps59
  go_wp2_with (go_at_call 74; refine (isNaN_any _ _).mono ?_; rintro e w' ⟨rfl, rfl⟩)
  all_goals (go_ret; refine ⟨?_, rfl⟩; unfold Lib.compareInt; (repeat' split) <;> first | rfl | (exfalso; omega))

theorem norm1_any (x1 x2 y1 y2 : Int) (w : World) : Calls Tryz.prog 58 #[.agg #[.int .i64 x1, .int .i64 x2], .agg #[.int .i64 y1, .int .i64 y2]] w fun e w' => e = .returned (.int .i64 (Lib.compareInt x1 y1)) ∧ ∃ q os', w' = Sort.grow (w.drewN q) os' := by
  have hcon := fun W => compare_any x1 y1 W
  generalize Lib.compareInt x1 y1 = r at hcon ⊢
  go_enter Tryz.func58, Tryz.ntmps58
  go_wp2_with (go_at_call 59; refine (hcon _).mono ?_; rintro e w' ⟨rfl, rfl⟩)
  go_ret
  exact ⟨rfl, ((Grew.refl _).alloc _).alloc _⟩
theorem lowLt (x y : Int × Int) : ltOf (fun x y : Int × Int => Lib.compareInt x.1 y.1) x y = decide (x.1 < y.1) := by
  unfold ltOf Lib.compareInt
  by_cases h1 : x.1 < y.1
  · simp [h1]
  · by_cases h2 : y.1 < x.1 <;> simp [h1, h2]
theorem swoLow : Sort.SWO (ltOf fun x y : Int × Int => Lib.compareInt x.1 y.1) where
  irrefl x := by rw [lowLt]; simp
  trans x y z h1 h2 := by rw [lowLt] at *; simp at *; omega
  ntrans x y z h1 h2 := by rw [lowLt] at *; simp at *; omega

theorem holds_own {w : World} {base : Nat} {e : TypeId} {g cap n : Nat} {zs : List (Int × Int)} (h : w.ownsRow base e 2 (.slice (some ⟨g, 0, none⟩) n cap) n (flat encP zs)) : Sort.HoldsK encP 2 w g 0 zs.toArray := by
  intro j hj
  rw [Sort.size_flatK] at hj
  have hl := Row.length_own encP_len h (by omega)
  have hz : zs.toArray.size = zs.length := by simp
  rw [hz] at hj
  refine ⟨?_, h.frozenAt _⟩
  rw [Nat.zero_add, h.cellAt _ (by omega), Sort.get_flatK encP 2 _ _ (by rw [hz]; exact hj)]
  have hq : j / 2 < zs.length := by omega
  have hg := flat_get encP_len zs (j / 2) hq (j % 2) (by omega)
  rw [show j / 2 * 2 + j % 2 = j by omega] at hg
  rw [hg]
  have e1 : zs.toArray[j / 2]! = zs[j / 2] := by rw [getElem!_pos zs.toArray _ (by simpa using hq)]; simp
  rw [e1, getElem!_pos (encP zs[j / 2]) (j % 2) (by rw [encP_len]; omega), List.getElem?_eq_getElem (by rw [encP_len]; omega)]
  rfl
theorem row_of_holds {w : World} {g : Nat} {d : Array (Int × Int)} (h : Sort.HoldsK encP 2 w g 0 d) (hg : g < w.heap.size) : Row encP 2 w w.heap.size (some ⟨g, 0, none⟩) d.size d.toList := by
  refine Row.of_pairs (by simp) hg fun j hj => ?_
  have h0 := (Sort.HoldsK.cell h hj (show 0 < 2 by omega)).1
  have h1 := (Sort.HoldsK.cell h hj (show 1 < 2 by omega)).1
  have e : d.toList.getD j (0, 0) = d[j]! := by
    rw [getElem!_pos d j hj, List.getD_eq_getElem?_getD, List.getElem?_eq_getElem (by simpa using hj)]
    simp
  rw [e]
  exact ⟨by simpa [encP] using h0, by simpa [encP] using h1⟩

/-- What the sort leaves: the same slice reads as the ranges in order of their Low. -/
def Sorted (zs : List (Int × Int)) (A : Option Addr) (n : Nat) (w0 : World) (e : Ending) (w' : World) : Prop :=
  e = .returned (.tuple #[]) ∧ ∃ ys : List (Int × Int), Row encP 2 w' w'.heap.size A n ys ∧ ys.Perm zs ∧ (∀ i j, i < j → j < ys.length → (ys.getD i (0, 0)).1 ≤ (ys.getD j (0, 0)).1) ∧ Keep w0 w'

theorem sort_any (A : Option Addr) (n c : Nat) (zs : List (Int × Int)) (w0 w : World) (hn : n ≤ 1000000) (hk0 : Keep w0 w) (hown : w.ownsRow w0.heap.size 42 2 (.slice A n c) n (flat encP zs)) :
    Calls Tryz.prog 57 #[.slice A n c, .func (.func 58) #[] #[]] w (Sorted zs A n w0) := by
  have hl := Row.length_own encP_len hown (by omega)
  rcases Nat.eq_zero_or_pos n with h0 | h0
  · subst h0
    obtain rfl : zs = [] := List.eq_nil_of_length_eq_zero hl
    have hcon := AnyF.slices_SortFunc_none sortLays A c (.func (.func 58) #[] #[]) w
    refine hcon.mono ?_
    rintro e w' ⟨rfl, rfl⟩
    exact ⟨rfl, [], Row.none_ _ _ _, List.Perm.refl _, fun i j h1 h2 => by simp at h2, hk0⟩
  · obtain ⟨g, cap, hA, hb1, hb2⟩ := hown.form h0
    injection hA with hA1 _ hA2
    subst hA1 hA2
    have hH := holds_own hown
    have hz : zs.toArray.size = n := by simpa using hl
    have hcon := AnyQ.slices_SortFunc sortLays 2 Tryz.isAgg42 Tryz.sizeOf42 encP encP_len encP_one (fun x y => Lib.compareInt x.1 y.1) swoLow 58 #[] g 0 c zs.toArray w
      (enters_of Tryz.func58 (by kernel_rfl) rfl) (fun _ _ _ _ x y => norm1_any x.1 x.2 y.1 y.2 _) hH hb2 (by rw [hz]; omega)
    rw [hz] at hcon
    refine hcon.mono ?_
    rintro e w' ⟨rfl, d', m, os, hp, hs, rfl⟩
    have hd' : d'.size = n := by rw [hp.1, hz]
    have hS : Proofs.SWK encP 2 w g 0 d' (sortWorldK encP 2 w g 0 m d' os) := ⟨m, os, rfl⟩
    have hHd := hS.holds hb2 hH (by rw [hd', hz])
    have hkeep : Keep w0 (sortWorldK encP 2 w g 0 m d' os) := by
      have h1 : Below w0.heap.size w0 (Sort.putRow id (Sort.ahead w m) g 0 (Sort.flatK encP 2 d')) := Lib.below_putRow hk0 hb1
      exact Keep.trans h1 (Grew.keep ⟨0, os, rfl⟩)
    refine ⟨rfl, d'.toList, ?_, ?_, ?_, hkeep⟩
    · have := row_of_holds hHd (Nat.lt_of_lt_of_le hb2 hS.le)
      rwa [hd'] at this
    · have := hp.2.2
      rw [← hz] at this
      have e1 : (d'.extract 0 zs.toArray.size).toList = d'.toList := by
        rw [hz, ← hd']; simp
      have e2 : (zs.toArray.extract 0 zs.toArray.size).toList = zs := by simp
      rwa [e1, e2] at this
    · intro i j hij hj
      have hj' : j < n := by rw [← hd']; simpa using hj
      have := hs i j (Nat.zero_le _) hij hj'
      rw [lowLt, decide_eq_false_iff_not] at this
      have gd : ∀ t, t < n → d'.toList.getD t (0, 0) = d'[t]! := fun t ht => by
        rw [getElem!_pos d' t (by omega), List.getD_eq_getElem?_getD, List.getElem?_eq_getElem (by simpa [hd'] using ht)]
        simp
      rw [gd i (by omega), gd j hj']
      omega
end Go.Proofs.YtdkeibgfehblaaaGreatDoor.Span
