/- Layer 4: the law SpanCovers. Conditions: none beyond the law's own. -/
import Derived.Test.YtabmgneoliopaaaSpW
namespace Go.Proofs.Ytabmgneoliopaaa.Span
open Go.Shelf Go.ChangeShapes Go.WideShapes Go.ChangeAt Go.RowKit

/-- Every list has its one list in order. -/
theorem normOk (zs : List (Int × Int)) : Sp.NormOk zs := by
  let ys := (zs.filter fun r => !Sp.emp r).mergeSort fun a b => decide (a.1 ≤ b.1)
  have hp : ys.Perm (zs.filter fun r => !Sp.emp r) := List.mergeSort_perm _ _
  have hs : ys.Pairwise fun a b => decide (a.1 ≤ b.1) = true := List.pairwise_mergeSort (fun a b c h1 h2 => by simp at *; omega) (fun a b => by simp; omega) _
  have hlow : Sp.Lows ys := fun i j hij hj => by
    have := List.pairwise_iff_getElem.1 hs i j (by omega) hj hij
    simp only [List.getD_eq_getElem?_getD, List.getElem?_eq_getElem hj, List.getElem?_eq_getElem (show i < ys.length by omega), Option.getD_some]
    exact of_decide_eq_true this
  have hne : ∀ j, j < ys.length → (ys.getD j (0, 0)).1 ≤ (ys.getD j (0, 0)).2 := fun j hj => by
    have hm : ys.getD j (0, 0) ∈ ys := mem_get hj
    have := (List.mem_filter.1 (hp.mem_iff.1 hm)).2
    simp only [Sp.emp, Bool.not_eq_true', decide_eq_false_iff_not] at this
    omega
  have hall : ∀ k, k ≤ ys.length → ∃ m, Sp.Merge ys k m := by
    intro k
    induction k with
    | zero => exact fun _ => ⟨[], Sp.Merge.start ys⟩
    | succ k ih =>
      intro hk
      obtain ⟨m, hm⟩ := ih (by omega)
      rcases List.eq_nil_or_concat m with rfl | ⟨m', a, rfl⟩
      · exact ⟨_, hm.first hlow (by omega) (hne k (by omega))⟩
      · rw [List.concat_eq_append] at hm
        cases ha : Sp.apart a (ys.getD k (0, 0)) with
        | true => exact ⟨_, hm.apart hlow (by omega) (hne k (by omega)) ha⟩
        | false => exact ⟨_, hm.into (by omega) ha⟩
  obtain ⟨m, hm⟩ := hall ys.length (Nat.le_refl _)
  exact (hm.done fun t => by rw [Sp.has_perm hp, Sp.has_filter]).2

/-- The first j numbers from 'lo' on are there. -/
def allHas (zs : List (Int × Int)) (lo : Int) (j : Nat) : Bool := (List.range j).all fun i => Sp.has zs (lo + i)
theorem allHas_succ (zs : List (Int × Int)) (lo : Int) (j : Nat) : allHas zs lo (j + 1) = (allHas zs lo j && Sp.has zs (lo + j)) := by
  simp [allHas, List.range_succ]
theorem covers_allHas {zs : List (Int × Int)} (h : Sp.NormOk zs) (lo : Int) (c : Nat) : Sp.covers (Sp.norm zs) (lo, lo + c - 1) = allHas zs lo c := by
  rw [Bool.eq_iff_iff]
  unfold Sp.covers Sp.emp
  simp only [Bool.or_eq_true, decide_eq_true_eq]
  rcases Nat.eq_zero_or_pos c with rfl | hc
  · simp [allHas]
    omega
  · rw [Sp.cov_iff h.1 _ (by simp only; omega)]
    simp only [allHas, List.all_eq_true, List.mem_range]
    constructor
    · rintro (h1 | h1) i hi
      · omega
      · rw [← h.2]; exact h1 _ (by omega) (by omega)
    · intro h1
      refine .inr fun k h2 h3 => ?_
      rw [h.2]
      have := h1 (k - lo).toNat (by omega)
      rwa [show lo + ((k - lo).toNat : Int) = k by omega] at this

set_option maxHeartbeats 2000000 in
theorem coverslaw_any (A : Option Addr) (na c : Nat) (za : List (Int × Int)) (lo t : Int) (w : World) (iA : PairsIn w A na za) (hl : -32768 ≤ lo ∧ lo ≤ 32767) (ht : 0 ≤ t ∧ t ≤ 255) :
    Calls Try.prog 5 #[.slice A na c, .int .i16 lo, .int .u8 t] w fun e w' => e = .returned (.bool true) ∧ Keep w w' := by
  by_cases hbig : 30 < na
  · clear iA
    go_enter Try.func5, Try.ntmps5
    go_wp2_with fail
    refine (awake_any _).mono ?_
    rintro e w1 ⟨rfl, k1⟩
    go_wp2
    go_ret
    exact ⟨rfl, k1⟩
  · have fA := fit_of_in iA.2
    have hrow := iA.1
    clear iA
    obtain ⟨T, hT, hT9⟩ : ∃ T : Nat, t % 100 = T ∧ T < 100 := ⟨(t % 100).toNat, by omega, by omega⟩
    have hT0 : 0 ≤ t % 100 := by omega
    have hT1 : t % 100 ≤ 99 := by omega
    go_enter Try.func5, Try.ntmps5
    have HT := Lib.hid hT
    clear hT
    go_wp2
    rw [HT.out]
    clear hT0 hT1
    have hkB : Keep w (w.alloc (.cells #[.int .i64 lo, .int .i64 (lo + T - 1)] 24)) := (Keep.refl _).alloc _
    have b0 : (w.alloc (.cells #[.int .i64 lo, .int .i64 (lo + T - 1)] 24)).cell? ⟨w.heap.size, 0, none⟩ = some (.int .i64 lo) := by simp
    have b1 : (w.alloc (.cells #[.int .i64 lo, .int .i64 (lo + T - 1)] 24)).cell? ⟨w.heap.size, 1, none⟩ = some (.int .i64 (lo + T - 1)) := by simp
    have hs : w.heap.size < (w.alloc (.cells #[.int .i64 lo, .int .i64 (lo + T - 1)] 24)).heap.size := by simp
    generalize w.alloc (.cells #[.int .i64 lo, .int .i64 (lo + T - 1)] 24) = X at hkB b0 b1 hs ⊢
    have cH := fun W (h : Keep X W) k => has_any A na c za k W (by omega) (hrow.kept (hkB.trans h))
    have cC := fun W (h : Keep X W) => covers_any A na c za lo (lo + T - 1) W (by omega) (hrow.kept (hkB.trans h)) fA
    have cN := fun W (h : Keep X W) => norm_any A na c za W (by omega) (hrow.kept (hkB.trans h)) fA
    have hko : Keep X X := Keep.refl X
    clear hrow
    go_loopw [8, 9] (fun s8 s9 wr => ∃ (j : Nat) (r : Bool), j ≤ T ∧ s9 = .int .i64 (lo + j) ∧ s8 = .bool r ∧ Hid (r = allHas za lo j) ∧ Keep X wr) (fun _ s9 _ => (lo + T - intOf s9).toNat)
    case atStart => exact ⟨0, true, Nat.zero_le _, by simp, rfl, (rfl : true = allHas za lo 0), hko⟩
    case round =>
      obtain ⟨j, r, hj, rfl, rfl, hr, hk⟩ := hrel
      have e0 := (hk.cell (p := ⟨w.heap.size, 0, none⟩) hs).trans b0
      have e1 := (hk.cell (p := ⟨w.heap.size, 1, none⟩) hs).trans b1
      by_cases hlt : j < T
      · have hle : lo + (j : Int) ≤ lo + T - 1 := by omega
        cases r with
        | true =>
          obtain ⟨r', hr'⟩ : ∃ r', r' = Sp.has za (lo + j) := ⟨_, rfl⟩
          have hc := cH wr hk (lo + j)
          rw [← hr'] at hc
          have HR' := Lib.hid (show r' = allHas za lo (j + 1) by rw [allHas_succ, ← hr.out, Bool.true_and, hr'])
          clear hr' cH cC cN
          go_wp2_with fail
          refine hc.mono ?_
          rintro e w2 ⟨rfl, k2⟩
          go_wp2
          go_roundw
          case rel => exact ⟨j + 1, r', by omega, by push_cast; congr 1; omega, rfl, HR'.out, hk.trans k2⟩
          case measure => simp [intOf]; omega
        | false =>
          have HR' := Lib.hid (show false = allHas za lo (j + 1) by rw [allHas_succ, ← hr.out, Bool.false_and])
          clear cH cC cN
          go_wp2
          go_roundw
          case rel => exact ⟨j + 1, false, by omega, by push_cast; congr 1; omega, rfl, HR'.out, hk⟩
          case measure => simp [intOf]; omega
      · obtain rfl : j = T := by omega
        have hle : ¬ lo + (j : Int) ≤ lo + j - 1 := by omega
        have cNr := cN wr hk
        go_wp2_with fail
        refine (awake_any _).mono ?_
        rintro e w2 ⟨rfl, k2⟩
        have hk2 := hk.trans k2
        have e2 := (hk2.cell (p := ⟨w.heap.size, 0, none⟩) hs).trans b0
        have e3 := (hk2.cell (p := ⟨w.heap.size, 1, none⟩) hs).trans b1
        have hc := cC w2 hk2
        rw [covers_allHas (normOk za), ← hr.out] at hc
        clear cH cC cN cNr e0 e1
        go_wp2_with fail
        refine hc.mono ?_
        rintro e w3 ⟨rfl, k3⟩
        have hk3 := hkB.trans (hk2.trans k3)
        go_wp2
        go_ret
        exact ⟨rfl, hk3⟩
theorem coverslaw_row (A : Option Addr) (na c : Nat) (za : List (Int × Int)) (lo t : Int) (w : World) (iA : PairsIn w A na za) (_ : na ≤ c) (_ : c ≤ maxLen) (h1 : (Lit.int .i16 lo).wf = true) (h2 : (Lit.int .u8 t).wf = true) :
    Calls Try.prog 5 #[.slice A na c, .int .i16 lo, .int .u8 t] w fun e w' => e = .returned (.bool true) ∧ Keep w w' :=
  coverslaw_any A na c za lo t w iA (by simp [Lit.wf, IntKind.min, IntKind.max, IntKind.bits, IntKind.signed] at h1; omega) (by simp [Lit.wf, IntKind.min, IntKind.max, IntKind.bits, IntKind.signed] at h2; omega)
end Go.Proofs.Ytabmgneoliopaaa.Span
