/- Layer 20's own contracts. Conditions: lists of at most a million; where requests are copied, values of at most 2^44 numbers; where they are marked in a map, numbers that an int holds. -/
import Derived.Test.YtijnajlijdnbcaaPnC
import Derived.Test.YtijnajlijdnbcaaInt
import Derived.Maps.OwnSet
namespace Go.Proofs.Ytijnajlijdnbcaa.Pend
set_option linter.unusedVariables false
set_option maxRecDepth 100000
open Go.Shelf Go.ChangeShapes Go.WideShapes Go.ChangeAt Go.RowKit Go.Maps
open Pn
set_option maxHeartbeats 400000 in
theorem find1_any (p : PendP) (x : Int) (B : Nat) (w : World) (hB : B < w.heap.size) (hc : w.cell? ⟨B, 0, none⟩ = some (.int .i64 x)) :
    Calls Try.prog 27 (#[.agg (cellsQ p)] ++ #[.pointer (some ⟨B, 0, none⟩)]) w fun e w' => e = .returned (.bool (p.o == x)) ∧ Keep w w' := by
  have hne : B ≠ w.heap.size := by omega
  show Calls _ _ #[.agg (cellsQ p), .pointer (some ⟨B, 0, none⟩)] w _
  go_enter Try.func27, Try.ntmps27
  go_wp2
  go_ret
  exact ⟨rfl, (Keep.refl _).alloc _⟩
def TestsQ (g : Nat) (lb : Array Value) (q : PendP → Bool) (w : World) : Prop :=
  ∀ (W : World) (p : PendP), Keep w W → Calls Try.prog g (#[.agg (cellsQ p)] ++ lb) W fun e w' => e = .returned (.bool (q p)) ∧ Keep W w'
set_option maxHeartbeats 1000000 in
theorem index_any (A : Option Addr) (n c : Nat) (zs : List PendP) (g : Nat) (lb : Array Value) (x : Int) (w : World) (hn : n ≤ maxLen) (hA : Row encQ 12 w w.heap.size A n zs)
    (eg : ∀ args w, (callFunc g args).run Try.prog w = .ok (.enter g args) w) (hp : TestsQ g lb (fun p => p.o == x) w) :
    Calls Try.prog 26 #[.slice A n c, .func (.func g) #[] lb] w fun e w' => e = .returned (.int .i64 (find zs x)) ∧ Keep w w' := by
  have hl := Lib.hid hA.1
  have HA := Lib.hid hA
  have HT := Lib.hid hp
  clear hA hp
  unfold maxLen at hn
  go_enter Try.func26, Try.ntmps26
  go_wp2
  go_loopw [8] (fun iv wr => ∃ k : Nat, k ≤ n ∧ iv = .int .i64 k ∧ Hid (has (zs.take k) x = false) ∧ Keep w wr) (fun iv _ => n - (intOf iv).toNat)
  case atStart => exact ⟨0, Nat.zero_le _, rfl, Lib.hid rfl, Keep.refl _⟩
  case round =>
    obtain ⟨k, hk, rfl, HH, hq⟩ := hrel
    by_cases hlt : k < n
    · obtain ⟨b, off, rfl, _⟩ := HA.out.addr (by omega)
      obtain ⟨hb, hp⟩ := row_pend HA.out k hlt
      have hp' := hp.kept hb hq
      obtain ⟨p, hpe⟩ : ∃ p, p = zs.getD k zero := ⟨_, rfl⟩
      rw [← hpe] at hp'
      have HP := Lib.hid hpe
      clear hpe hp
      obtain ⟨c0, c1, c2, c3, c4, c5, c6, c7, c8, c9, c10, c11⟩ := hp'
      have hltz : (k : Int) < n := by omega
      have hk0 : (0 : Int) ≤ k := by omega
      have hcall := HT.out wr p hq
      cases he : (p.o == x)
      · have HE := Lib.hid he
        simp only [he] at hcall
        clear he
        go_wp2_with fail
        refine hcall.mono ?_
        rintro e w1 ⟨rfl, hk1⟩
        go_wp2
        refine ⟨⟨k + 1, by omega, by go_num, Lib.hid ?_, hq.trans hk1⟩, by simp [intOf]; omega⟩
        rw [has_snoc zs x k (by rw [hl.out]; exact hlt), HH.out, ← HP.out, HE.out]; rfl
      · have HE := Lib.hid he
        simp only [he] at hcall
        clear he
        go_wp2_with fail
        refine hcall.mono ?_
        rintro e w1 ⟨rfl, hk1⟩
        go_wp2
        go_ret
        refine ⟨ret_int ?_, hq.trans hk1⟩
        exact (find_at zs x k (by rw [hl.out]; exact hlt) HH.out (by rw [← HP.out]; simpa using HE.out)).symm
    · obtain rfl : k = n := by omega
      go_wp2
      go_ret
      refine ⟨ret_int ?_, hq⟩
      have h := HH.out
      rw [List.take_of_length_le (by rw [hl.out]; omega)] at h
      exact (find_none h).symm
set_option maxHeartbeats 400000 in
theorem find_any (A : Option Addr) (n c : Nat) (zs : List PendP) (x : Int) (w : World) (hn : n ≤ 1000000) (hc : n ≤ c) (hcm : c ≤ maxLen) (hA : Row encQ 12 w w.heap.size A n zs) :
    Calls Try.prog 18 #[.slice A n c, .int .i64 x] w fun e w' => e = .returned (.int .i64 (find zs x)) ∧ Keep w w' := by
  have ht : TestsQ 27 #[.pointer (some ⟨w.heap.size, 0, none⟩)] (fun p => p.o == x) (w.alloc (.cells #[.int .i64 x] 3)) := fun W p hk =>
    find1_any p x w.heap.size W (Nat.lt_of_lt_of_le (by simp) hk.size) ((hk.cell (p := ⟨w.heap.size, 0, none⟩) (by simp)).trans (by simp))
  have hcon := index_any A n c zs 27 #[.pointer (some ⟨w.heap.size, 0, none⟩)] x (w.alloc (.cells #[.int .i64 x] 3)) (by unfold maxLen; omega) (hA.kept ((Keep.refl _).alloc _)) (enters_of Try.func27 (by kernel_rfl) rfl) ht
  generalize find zs x = r at hcon ⊢
  clear ht hA
  go_enter Try.func18, Try.ntmps18
  go_wp2_with fail
  refine hcon.mono ?_
  rintro e w1 ⟨rfl, hk⟩
  go_wp2
  go_ret
  exact ⟨rfl, ((Keep.refl _).alloc _).trans hk⟩
end Go.Proofs.Ytijnajlijdnbcaa.Pend
