/- Layer 4: the ranges put in order by package slices (SortFunc, its comparison), and merged: 'Norm' of the program. Conditions: lengths at most a million, ends that fit. -/
import Derived.Test.YtfdadlalnffdoaaSpH
import Derived.Shelf.SlSortCmp.NoneTotal
import Derived.Lib.OwnBridge
namespace Go.Proofs.Ytfdadlalnffdoaa.Span
open Go.Shelf Go.ChangeShapes Go.WideShapes Go.ChangeAt Go.RowKit

def sortRen : Go.Shelf.Ren := ⟨fun | 6 => 81 | 14 => 87 | 15 => 88 | 20 => 90 | 21 => 91 | 22 => 92 | 23 => 93 | 24 => 94 | 25 => 95 | 26 => 96 | 27 => 97 | 28 => 98 | 29 => 99 | 46 => 100 | 47 => 101 | 48 => 102 | 49 => 103 | 50 => 104 | 57 => 105 | n => n, fun | 0 => 0 | 3 => 3 | 4 => 4 | 5 => 5 | 9 => 9 | 22 => 23 | 24 => 53 | 25 => 100 | 39 => 104 | 45 => 109 | 46 => 110 | 50 => 114 | 53 => 117 | 55 => 103 | 66 => 119 | 70 => 123 | 76 => 125 | 77 => 54 | n => n, fun | n => n⟩
set_option maxRecDepth 100000 in
theorem sortLays : SlLaysF0.n6 Try.prog sortRen := {
  mixed := by kernel_rfl
  f6 := ⟨Try.f81.name, by decide, Try.func81.trans (congrArg some (by kernel_rfl))⟩
  f14 := ⟨Try.f87.name, by decide, Try.func87.trans (congrArg some (by kernel_rfl))⟩
  f15 := Try.func88.trans (congrArg some (by kernel_rfl))
  f20 := ⟨Try.f90.name, by decide, Try.func90.trans (congrArg some (by kernel_rfl))⟩
  f21 := ⟨Try.f91.name, by decide, Try.func91.trans (congrArg some (by kernel_rfl))⟩
  f22 := ⟨Try.f92.name, by decide, Try.func92.trans (congrArg some (by kernel_rfl))⟩
  f23 := ⟨Try.f93.name, by decide, Try.func93.trans (congrArg some (by kernel_rfl))⟩
  f24 := ⟨Try.f94.name, by decide, Try.func94.trans (congrArg some (by kernel_rfl))⟩
  f25 := ⟨Try.f95.name, by decide, Try.func95.trans (congrArg some (by kernel_rfl))⟩
  f26 := ⟨Try.f96.name, by decide, Try.func96.trans (congrArg some (by kernel_rfl))⟩
  f27 := ⟨Try.f97.name, by decide, Try.func97.trans (congrArg some (by kernel_rfl))⟩
  f28 := Try.func98.trans (congrArg some (by kernel_rfl))
  f29 := Try.func99.trans (congrArg some (by kernel_rfl))
  f46 := ⟨Try.f100.name, by decide, Try.func100.trans (congrArg some (by kernel_rfl))⟩
  f47 := Try.func101.trans (congrArg some (by kernel_rfl))
  f48 := Try.func102.trans (congrArg some (by kernel_rfl))
  f49 := ⟨Try.f103.name, by decide, Try.func103.trans (congrArg some (by kernel_rfl))⟩
  f50 := ⟨Try.f104.name, by decide, Try.func104.trans (congrArg some (by kernel_rfl))⟩
  f57 := ⟨Try.f105.name, by decide, Try.func105.trans (congrArg some (by kernel_rfl))⟩
  t0 := Try.underlying0
  a0 := Try.isAgg0
  z0 := Try.sizeOf0
  v0 := Try.zeroValue0
  t3 := Try.underlying3
  a3 := Try.isAgg3
  z3 := Try.sizeOf3
  v3 := Try.zeroValue3
  t4 := Try.underlying4
  a4 := Try.isAgg4
  z4 := Try.sizeOf4
  v4 := Try.zeroValue4
  t5 := Try.underlying5
  a5 := Try.isAgg5
  z5 := Try.sizeOf5
  v5 := Try.zeroValue5
  t9 := Try.underlying9
  a9 := Try.isAgg9
  z9 := Try.sizeOf9
  v9 := Try.zeroValue9
  t22 := Try.underlying23
  a22 := Try.isAgg23
  z22 := Try.sizeOf23
  v22 := Try.zeroValue23
  t25 := Try.underlying100
  a25 := Try.isAgg100
  z25 := Try.sizeOf100
  v25 := Try.zeroValue100
  t39 := Try.underlying104
  a39 := Try.isAgg104
  z39 := Try.sizeOf104
  v39 := Try.zeroValue104
  t45 := Try.underlying109
  a45 := Try.isAgg109
  z45 := Try.sizeOf109
  v45 := Try.zeroValue109
  t46 := Try.underlying110
  a46 := Try.isAgg110
  z46 := Try.sizeOf110
  v46 := Try.zeroValue110
  t50 := Try.underlying114
  a50 := Try.isAgg114
  z50 := Try.sizeOf114
  v50 := Try.zeroValue114
  t53 := Try.underlying117
  a53 := Try.isAgg117
  z53 := Try.sizeOf117
  v53 := Try.zeroValue117
  t55 := Try.underlying103
  a55 := Try.isAgg103
  z55 := Try.sizeOf103
  v55 := Try.zeroValue103
  t66 := Try.underlying119
  a66 := Try.isAgg119
  z66 := Try.sizeOf119
  v66 := Try.zeroValue119
  t70 := Try.underlying123
  a70 := Try.isAgg123
  z70 := Try.sizeOf123
  v70 := Try.zeroValue123
  t76 := Try.underlying125
  a76 := Try.isAgg125
  z76 := Try.sizeOf125
  v76 := Try.zeroValue125
  t77 := Try.underlying54
  a77 := Try.isAgg54
  z77 := Try.sizeOf54
  v77 := Try.zeroValue54
}

theorem isNaN_any (x : Int) (w : World) : Calls Try.prog 89 #[.int .i64 x] w fun e w' => e = .returned (.bool false) ∧ w = w' := by
  go_enter Try.func89, Try.ntmps89
  go_wp2
  go_ret
  exact ⟨by simp, rfl⟩
theorem compare_any (x y : Int) (w : World) : Calls Try.prog 83 #[.int .i64 x, .int .i64 y] w fun e w' => e = .returned (.int .i64 (Lib.compareInt x y)) ∧ w = w' := by
  go_enter Try.func83, Try.ntmps83
  go_wp2_with (go_at_call 89; refine (isNaN_any _ _).mono ?_; rintro e w' ⟨rfl, rfl⟩)
  all_goals (go_ret; refine ⟨?_, rfl⟩; unfold Lib.compareInt; (repeat' split) <;> first | rfl | (exfalso; omega))

theorem norm1_any (x1 x2 y1 y2 : Int) (w : World) : Calls Try.prog 82 #[.agg #[.int .i64 x1, .int .i64 x2], .agg #[.int .i64 y1, .int .i64 y2]] w fun e w' => e = .returned (.int .i64 (Lib.compareInt x1 y1)) ∧ ∃ q os', w' = Sort.grow (w.drewN q) os' := by
  have hcon := fun W => compare_any x1 y1 W
  generalize Lib.compareInt x1 y1 = r at hcon ⊢
  go_enter Try.func82, Try.ntmps82
  go_wp2_with (go_at_call 83; refine (hcon _).mono ?_; rintro e w' ⟨rfl, rfl⟩)
  go_ret
  exact ⟨rfl, ((Grew.refl _).alloc _).alloc _⟩
theorem lowLt (x y : Int × Int) : ltOf (fun x y : Int × Int => Lib.compareInt x.1 y.1) x y = decide (x.1 < y.1) := by
  unfold ltOf Lib.compareInt
  by_cases h1 : x.1 < y.1
  · simp [h1]
  · by_cases h2 : y.1 < x.1 <;> simp [h1, h2]
theorem swoLow : Sort.SWO (ltOf fun x y : Int × Int => Lib.compareInt x.1 y.1) where
  irrefl x := by rw [lowLt]; simp
  trans x y z h1 h2 := by rw [lowLt] at *; simp at *; omega
  ntrans x y z h1 h2 := by rw [lowLt] at *; simp at *; omega

theorem holds_own {w : World} {base : Nat} {e : TypeId} {g cap n : Nat} {zs : List (Int × Int)} (h : w.ownsRow base e 2 (.slice (some ⟨g, 0, none⟩) n cap) n (flat encP zs)) : Sort.HoldsK encP 2 w g 0 zs.toArray := by
  intro j hj
  rw [Sort.size_flatK] at hj
  have hl := Row.length_own encP_len h (by omega)
  have hz : zs.toArray.size = zs.length := by simp
  rw [hz] at hj
  refine ⟨?_, h.frozenAt _⟩
  rw [Nat.zero_add, h.cellAt _ (by omega), Sort.get_flatK encP 2 _ _ (by rw [hz]; exact hj)]
  have hq : j / 2 < zs.length := by omega
  have hg := flat_get encP_len zs (j / 2) hq (j % 2) (by omega)
  rw [show j / 2 * 2 + j % 2 = j by omega] at hg
  rw [hg]
  have e1 : zs.toArray[j / 2]! = zs[j / 2] := by rw [getElem!_pos zs.toArray _ (by simpa using hq)]; simp
  rw [e1, getElem!_pos (encP zs[j / 2]) (j % 2) (by rw [encP_len]; omega), List.getElem?_eq_getElem (by rw [encP_len]; omega)]
  rfl
theorem row_of_holds {w : World} {g : Nat} {d : Array (Int × Int)} (h : Sort.HoldsK encP 2 w g 0 d) (hg : g < w.heap.size) : Row encP 2 w w.heap.size (some ⟨g, 0, none⟩) d.size d.toList := by
  refine Row.of_pairs (by simp) hg fun j hj => ?_
  have h0 := (Sort.HoldsK.cell h hj (show 0 < 2 by omega)).1
  have h1 := (Sort.HoldsK.cell h hj (show 1 < 2 by omega)).1
  have e : d.toList.getD j (0, 0) = d[j]! := by
    rw [getElem!_pos d j hj, List.getD_eq_getElem?_getD, List.getElem?_eq_getElem (by simpa using hj)]
    simp
  rw [e]
  exact ⟨by simpa [encP] using h0, by simpa [encP] using h1⟩

/-- What the sort leaves: the same slice reads as the ranges in order of their Low. -/
def Sorted (zs : List (Int × Int)) (A : Option Addr) (n : Nat) (w0 : World) (e : Ending) (w' : World) : Prop :=
  e = .returned (.tuple #[]) ∧ ∃ ys : List (Int × Int), Row encP 2 w' w'.heap.size A n ys ∧ ys.Perm zs ∧ (∀ i j, i < j → j < ys.length → (ys.getD i (0, 0)).1 ≤ (ys.getD j (0, 0)).1) ∧ Keep w0 w'

theorem sort_any (A : Option Addr) (n c : Nat) (zs : List (Int × Int)) (w0 w : World) (hn : n ≤ 1000000) (hk0 : Keep w0 w) (hown : w.ownsRow w0.heap.size 53 2 (.slice A n c) n (flat encP zs)) :
    Calls Try.prog 81 #[.slice A n c, .func (.func 82) #[] #[]] w (Sorted zs A n w0) := by
  have hl := Row.length_own encP_len hown (by omega)
  rcases Nat.eq_zero_or_pos n with h0 | h0
  · subst h0
    obtain rfl : zs = [] := List.eq_nil_of_length_eq_zero hl
    have hcon := AnyF.slices_SortFunc_none sortLays A c (.func (.func 82) #[] #[]) w
    refine hcon.mono ?_
    rintro e w' ⟨rfl, rfl⟩
    exact ⟨rfl, [], Row.none_ _ _ _, List.Perm.refl _, fun i j h1 h2 => by simp at h2, hk0⟩
  · obtain ⟨g, cap, hA, hb1, hb2⟩ := hown.form h0
    injection hA with hA1 _ hA2
    subst hA1 hA2
    have hH := holds_own hown
    have hz : zs.toArray.size = n := by simpa using hl
    have hcon := AnyQ.slices_SortFunc sortLays 2 Try.isAgg53 Try.sizeOf53 encP encP_len encP_one (fun x y => Lib.compareInt x.1 y.1) swoLow 82 #[] g 0 c zs.toArray w
      (enters_of Try.func82 (by kernel_rfl) rfl) (fun _ _ _ _ x y => norm1_any x.1 x.2 y.1 y.2 _) hH hb2 (by rw [hz]; omega)
    rw [hz] at hcon
    refine hcon.mono ?_
    rintro e w' ⟨rfl, d', m, os, hp, hs, rfl⟩
    have hd' : d'.size = n := by rw [hp.1, hz]
    have hS : Proofs.SWK encP 2 w g 0 d' (sortWorldK encP 2 w g 0 m d' os) := ⟨m, os, rfl⟩
    have hHd := hS.holds hb2 hH (by rw [hd', hz])
    have hkeep : Keep w0 (sortWorldK encP 2 w g 0 m d' os) := by
      have h1 : Below w0.heap.size w0 (Sort.putRow id (Sort.ahead w m) g 0 (Sort.flatK encP 2 d')) := Lib.below_putRow hk0 hb1
      exact Keep.trans h1 (Grew.keep ⟨0, os, rfl⟩)
    refine ⟨rfl, d'.toList, ?_, ?_, ?_, hkeep⟩
    · have := row_of_holds hHd (Nat.lt_of_lt_of_le hb2 hS.le)
      rwa [hd'] at this
    · have := hp.2.2
      rw [← hz] at this
      have e1 : (d'.extract 0 zs.toArray.size).toList = d'.toList := by
        rw [hz, ← hd']; simp
      have e2 : (zs.toArray.extract 0 zs.toArray.size).toList = zs := by simp
      rwa [e1, e2] at this
    · intro i j hij hj
      have hj' : j < n := by rw [← hd']; simpa using hj
      have := hs i j (Nat.zero_le _) hij hj'
      rw [lowLt, decide_eq_false_iff_not] at this
      have gd : ∀ t, t < n → d'.toList.getD t (0, 0) = d'[t]! := fun t ht => by
        rw [getElem!_pos d' t (by omega), List.getD_eq_getElem?_getD, List.getElem?_eq_getElem (by simpa [hd'] using ht)]
        simp
      rw [gd i (by omega), gd j hj']
      omega
end Go.Proofs.Ytfdadlalnffdoaa.Span
