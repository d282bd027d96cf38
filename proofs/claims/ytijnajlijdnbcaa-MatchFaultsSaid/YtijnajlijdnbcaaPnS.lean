/- Layer 20's reference. Conditions: lists of at most a million requests. -/
import Derived.Test.YtijnajlijdnbcaaPnR
import Derived.Test.YtijnajlijdnbcaaAskG
import Derived.RegionTactic
import Derived.Deep.RegionHeld3
namespace Go.Proofs.Ytijnajlijdnbcaa.Ref20
set_option linter.unusedVariables false
open Go.ChangeShapes Go.WideShapes Go.ChangeAt Go.RowKit
open Pn
set_option maxHeartbeats 1000000 in
theorem find_any (A : Option Addr) (n c : Nat) (zs : List PendP) (x : Int) (w : World) (hn : n ≤ maxLen) (hA : Row encQ 12 w w.heap.size A n zs) :
    Calls Try.prog 20 #[.slice A n c, .int .i64 x] w fun e w' => e = .returned (.int .i64 (find zs x)) ∧ Quiet w w' := by
  have hl := Lib.hid hA.1
  unfold maxLen at hn
  go_enter Try.func20, Try.ntmps20
  go_wp2
  go_loopw [5] (fun iv wr => ∃ k : Nat, k ≤ n ∧ iv = .int .i64 k ∧ Hid (has (zs.take k) x = false) ∧ Quiet w wr) (fun iv _ => n - (intOf iv).toNat)
  case atStart => exact ⟨0, Nat.zero_le _, rfl, Lib.hid rfl, Quiet.refl _⟩
  case round =>
    obtain ⟨k, hk, rfl, HH, hq⟩ := hrel
    by_cases hlt : k < n
    · obtain ⟨b, off, rfl, _⟩ := hA.addr (by omega)
      obtain ⟨_, hp⟩ := row_pend hA k hlt
      have c0 := (hp.quiet hq).1
      obtain ⟨p, hpe⟩ : ∃ p, p = zs.getD k zero := ⟨_, rfl⟩
      rw [← hpe] at c0
      have HP := Lib.hid hpe
      have HA := Lib.hid hA
      clear hpe hA hp
      have hltz : (k : Int) < n := by omega
      have hk0 : (0 : Int) ≤ k := by omega
      cases he : (p.o == x)
      · have HE := Lib.hid he
        go_wp2
        refine ⟨⟨k + 1, by omega, by go_num, Lib.hid ?_, hq⟩, by simp [intOf]; omega⟩
        rw [has_snoc zs x k (by rw [hl.out]; exact hlt), HH.out, ← HP.out, HE.out]; rfl
      · have HE := Lib.hid he
        go_wp2
        go_ret
        refine ⟨ret_int ?_, hq⟩
        exact (find_at zs x k (by rw [hl.out]; exact hlt) HH.out (by rw [← HP.out]; simpa using HE.out)).symm
    · obtain rfl : k = n := by omega
      go_wp2
      go_ret
      refine ⟨ret_int ?_, hq⟩
      have h := HH.out
      rw [List.take_of_length_le (by rw [hl.out]; omega)] at h
      exact (find_none h).symm
set_option maxHeartbeats 1000000 in
theorem right_any (A : Option Addr) (n c : Nat) (zs : List PendP) (w : World) (hn : n ≤ maxLen) (hA : Row encQ 12 w w.heap.size A n zs) :
    Calls Try.prog 7 #[.slice A n c] w fun e w' => e = .returned (.bool (right zs)) ∧ Quiet w w' := by
  have hl := Lib.hid hA.1
  unfold maxLen at hn
  go_enter Try.func7, Try.ntmps7
  go_wp2
  go_loopw [3, 4] (fun iv _ wr => ∃ i : Nat, i ≤ n ∧ iv = .int .i64 i ∧ Hid (upto zs i) ∧ Quiet w wr) (fun iv _ _ => n - (intOf iv).toNat)
  case atStart => exact ⟨0, Nat.zero_le _, rfl, Lib.hid (fun i hi => absurd hi (by omega)), Quiet.refl _⟩
  case round =>
    obtain ⟨i, hi, rfl, HU, hq⟩ := hrel
    by_cases hlt : i < n
    · have hltz : (i : Int) < n := by omega
      have hi0 : (0 : Int) ≤ i := by omega
      obtain ⟨b, off, rfl, _⟩ := hA.addr (by omega)
      go_wp2
      go_loopw [4] (fun kv wr => ∃ k : Nat, k ≤ i ∧ kv = .int .i64 k ∧ Hid (∀ j, j < k → (zs.getD j zero).o ≠ (zs.getD i zero).o) ∧ Quiet w wr) (fun kv _ => i - (intOf kv).toNat)
      case atStart => exact ⟨0, Nat.zero_le _, rfl, Lib.hid (fun j hj => absurd hj (by omega)), hq⟩
      case round =>
        obtain ⟨k, hk, rfl, HK, hq2⟩ := hrel
        by_cases hlt2 : k < i
        · obtain ⟨_, hp⟩ := row_pend hA k (by omega)
          obtain ⟨_, hp2⟩ := row_pend hA i hlt
          have c0 := (hp.quiet hq2).1
          have c1 := (hp2.quiet hq2).1
          obtain ⟨p, hpe⟩ : ∃ p, p = zs.getD k zero := ⟨_, rfl⟩
          obtain ⟨r, hre⟩ : ∃ p, p = zs.getD i zero := ⟨_, rfl⟩
          rw [← hpe] at c0
          rw [← hre] at c1
          have HP := Lib.hid hpe
          have HR := Lib.hid hre
          have HA := Lib.hid hA
          clear hpe hre hp hp2 hA
          have hltk : (k : Int) < i := by omega
          have hkn : (k : Int) < n := by omega
          have hk0 : (0 : Int) ≤ k := by omega
          cases he : (p.o == r.o)
          · have HE := Lib.hid he
            go_wp2
            go_quiet (fail)
            go_wp2
            refine ⟨⟨k + 1, by omega, by go_num, Lib.hid ?_, hq2.drewN _⟩, by simp [intOf]; omega⟩
            intro j hj
            rcases Nat.lt_succ_iff_lt_or_eq.1 hj with hj | rfl
            · exact HK.out j hj
            · rw [← HP.out, ← HR.out]; simpa using HE.out
          · have HE := Lib.hid he
            go_wp2
            go_quiet (fail)
            go_wp2
            go_ret
            refine ⟨ret_bool ?_, hq2.drewN _⟩
            exact (right_not (i := i) (k := k) (by rw [hl.out]; exact hlt) hlt2 (by rw [← HP.out, ← HR.out]; simpa using HE.out)).symm
        · obtain rfl : k = i := by omega
          go_wp2
          refine ⟨⟨k + 1, by omega, by go_num, Lib.hid ?_, hq2⟩, by simp [intOf]; omega⟩
          intro i2 hi2 j hj
          rcases Nat.lt_succ_iff_lt_or_eq.1 hi2 with hi2 | rfl
          · exact HU.out i2 hi2 j hj
          · exact HK.out j hj
    · obtain rfl : i = n := by omega
      go_wp2
      go_ret
      refine ⟨ret_bool ?_, hq⟩
      exact ((right_upto zs).2 (by rw [hl.out]; exact HU.out)).symm
/-- What a loop that picks has. -/
def PickRel (w : World) (q : PendP → Bool) (zs : List PendP) (out iv : Value) (wr : World) : Prop :=
  ∃ (k : Nat) (acc : List PendP), k ≤ zs.length ∧ iv = .int .i64 k ∧ Hid (acc = (zs.take k).filter q) ∧ wr.ownsRow w.heap.size 35 12 out acc.length (flat encQ acc) ∧ Keep w wr ∧ acc.length ≤ k
def DropRel (w : World) (x : Int) (zs : List PendP) (out iv : Value) (wr : World) : Prop :=
  ∃ (k : Nat) (acc : List PendP), k ≤ zs.length ∧ iv = .int .i64 k ∧ Hid (acc = drop (zs.take k) x) ∧ wr.ownsRow w.heap.size 35 12 out acc.length (flat encQ acc) ∧ Keep w wr ∧ acc.length ≤ k
set_option maxHeartbeats 2000000 in
theorem drop_any (A : Option Addr) (n c : Nat) (zs : List PendP) (x : Int) (w : World) (hn : n ≤ 1000000) (hA : Row encQ 12 w w.heap.size A n zs) :
    Calls Try.prog 16 #[.slice A n c, .int .i64 x] w (RetQ (drop zs x) w) := by
  have hl := Lib.hid hA.1
  go_enter Try.func16, Try.ntmps16
  go_wp2
  go_loopw [5, 6] (fun out iv wr => DropRel w x zs out iv wr) (fun _ iv _ => n - (intOf iv).toNat)
  case atStart => exact ⟨0, [], Nat.zero_le _, rfl, Lib.hid (by unfold drop; simp), ⟨rfl, .inl ⟨rfl, rfl⟩⟩, Keep.refl _, Nat.zero_le _⟩
  case round =>
    obtain ⟨k, acc, hk, rfl, HF, hown, hK, hal⟩ := hrel
    obtain ⟨OA, oc, rfl⟩ := own_slice hown
    rw [hl.out] at hk
    by_cases hlt : k < n
    · obtain ⟨b, off, rfl, _⟩ := hA.addr (by omega)
      obtain ⟨hb, hp⟩ := row_pend hA k hlt
      have hp' := hp.kept hb hK
      obtain ⟨p, hpe⟩ : ∃ p, p = zs.getD k zero := ⟨_, rfl⟩
      rw [← hpe] at hp'
      have hsn := drop_snoc zs x k (by rw [hl.out]; exact hlt)
      rw [← hpe] at hsn
      have HS := Lib.hid hsn
      clear hpe hsn hp
      obtain ⟨c0, c1, c2, c3, c4, c5, c6, c7, c8, c9, c10, c11⟩ := hp'
      have hltz : (k : Int) < n := by omega
      have hk0 : (0 : Int) ≤ k := by omega
      have hszV : w.heap.size ≤ wr.heap.size := hK.size
      have HA := Lib.hid hA
      clear hA
      by_cases he : x = (k : Int)
      · have he2 : ((k : Int) != x) = false := by simp [he]
        have HE := Lib.hid he
        clear he
        go_wp2
        refine ⟨⟨k + 1, acc, by rw [hl.out]; omega, by go_num, Lib.hid ?_, hown, hK, by omega⟩, by simp [intOf]; omega⟩
        rw [HS.out, HF.out, if_pos HE.out]; simp
      · have he2 : ((k : Int) != x) = true := by simp; exact fun e => he e.symm
        have HE := Lib.hid he
        clear he
        have hrow := row_one wr p 35
        have HB2 := Lib.hid ((Below.refl w.heap.size wr).alloc hszV (.cells (cellsQ p) 35))
        go_wp2_with (at_builtin; refine append_rows rfl _ _ 22 rfl w.heap.size 35 _ 112 Try.underlying22 info_pend rfl (by omega) encQ_len encQ_one _ acc.length acc rfl (hown.alloc _) (by simp; omega) _ _ 1 1 [p] rfl hrow (by unfold maxLen; omega) (by omega) ?_)
        intro v' w1 hown' hb1
        have hKw : Keep w w1 := Below.trans hK (HB2.out.trans hb1)
        go_wp2
        refine ⟨⟨k + 1, acc ++ [p], by rw [hl.out]; omega, by go_num, Lib.hid ?_, by rw [List.length_append]; exact hown', hKw, by simp; omega⟩, by simp [intOf]; omega⟩
        rw [HS.out, HF.out, if_neg HE.out]
    · obtain rfl : k = n := by omega
      go_wp2
      go_ret
      obtain ⟨h1, h2⟩ := own_le hown
      refine ⟨OA, acc.length, oc, rfl, h1, h2, ?_, hK⟩
      have h := HF.out
      rw [List.take_of_length_le (by rw [hl.out]; omega)] at h
      have hr := Row.of_own encQ_len hown (by omega)
      rw [h] at hr ⊢
      exact hr
end Go.Proofs.Ytijnajlijdnbcaa.Ref20
