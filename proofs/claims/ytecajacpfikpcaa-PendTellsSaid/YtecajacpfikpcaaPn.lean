/- Layer 20's own contracts. Conditions: lists of at most a million; where requests are copied, values of at most 2^44 numbers; where they are marked in a map, numbers that an int holds. -/
import Derived.Test.YtecajacpfikpcaaPnC
import Derived.Test.YtecajacpfikpcaaInt
import Derived.Maps.OwnSet
namespace Go.Proofs.Ytecajacpfikpcaa.Pend
set_option linter.unusedVariables false
set_option maxRecDepth 100000
open Go.Shelf Go.ChangeShapes Go.WideShapes Go.ChangeAt Go.RowKit Go.Maps
open Pn
set_option maxHeartbeats 400000 in
theorem find1_any (p : PendP) (x : Int) (B : Nat) (w : World) (hB : B < w.heap.size) (hc : w.cell? ⟨B, 0, none⟩ = some (.int .i64 x)) :
    Calls Try.prog 29 (#[.agg (cellsQ p)] ++ #[.pointer (some ⟨B, 0, none⟩)]) w fun e w' => e = .returned (.bool (p.o == x)) ∧ Keep w w' := by
  have hne : B ≠ w.heap.size := by omega
  show Calls _ _ #[.agg (cellsQ p), .pointer (some ⟨B, 0, none⟩)] w _
  go_enter Try.func29, Try.ntmps29
  go_wp2
  go_ret
  exact ⟨rfl, (Keep.refl _).alloc _⟩
def TestsQ (g : Nat) (lb : Array Value) (q : PendP → Bool) (w : World) : Prop :=
  ∀ (W : World) (p : PendP), Keep w W → Calls Try.prog g (#[.agg (cellsQ p)] ++ lb) W fun e w' => e = .returned (.bool (q p)) ∧ Keep W w'
set_option maxHeartbeats 1000000 in
theorem index_any (A : Option Addr) (n c : Nat) (zs : List PendP) (g : Nat) (lb : Array Value) (x : Int) (w : World) (hn : n ≤ maxLen) (hA : Row encQ 12 w w.heap.size A n zs)
    (eg : ∀ args w, (callFunc g args).run Try.prog w = .ok (.enter g args) w) (hp : TestsQ g lb (fun p => p.o == x) w) :
    Calls Try.prog 28 #[.slice A n c, .func (.func g) #[] lb] w fun e w' => e = .returned (.int .i64 (find zs x)) ∧ Keep w w' := by
  have hl := Lib.hid hA.1
  have HA := Lib.hid hA
  have HT := Lib.hid hp
  clear hA hp
  unfold maxLen at hn
  go_enter Try.func28, Try.ntmps28
  go_wp2
  go_loopw [8] (fun iv wr => ∃ k : Nat, k ≤ n ∧ iv = .int .i64 k ∧ Hid (has (zs.take k) x = false) ∧ Keep w wr) (fun iv _ => n - (intOf iv).toNat)
  case atStart => exact ⟨0, Nat.zero_le _, rfl, Lib.hid rfl, Keep.refl _⟩
  case round =>
    obtain ⟨k, hk, rfl, HH, hq⟩ := hrel
    by_cases hlt : k < n
    · obtain ⟨b, off, rfl, _⟩ := HA.out.addr (by omega)
      obtain ⟨hb, hp⟩ := row_pend HA.out k hlt
      have hp' := hp.kept hb hq
      obtain ⟨p, hpe⟩ : ∃ p, p = zs.getD k zero := ⟨_, rfl⟩
      rw [← hpe] at hp'
      have HP := Lib.hid hpe
      clear hpe hp
      obtain ⟨c0, c1, c2, c3, c4, c5, c6, c7, c8, c9, c10, c11⟩ := hp'
      have hltz : (k : Int) < n := by omega
      have hk0 : (0 : Int) ≤ k := by omega
      have hcall := HT.out wr p hq
      cases he : (p.o == x)
      · have HE := Lib.hid he
        simp only [he] at hcall
        clear he
        go_wp2_with fail
        refine hcall.mono ?_
        rintro e w1 ⟨rfl, hk1⟩
        go_wp2
        refine ⟨⟨k + 1, by omega, by go_num, Lib.hid ?_, hq.trans hk1⟩, by simp [intOf]; omega⟩
        rw [has_snoc zs x k (by rw [hl.out]; exact hlt), HH.out, ← HP.out, HE.out]; rfl
      · have HE := Lib.hid he
        simp only [he] at hcall
        clear he
        go_wp2_with fail
        refine hcall.mono ?_
        rintro e w1 ⟨rfl, hk1⟩
        go_wp2
        go_ret
        refine ⟨ret_int ?_, hq.trans hk1⟩
        exact (find_at zs x k (by rw [hl.out]; exact hlt) HH.out (by rw [← HP.out]; simpa using HE.out)).symm
    · obtain rfl : k = n := by omega
      go_wp2
      go_ret
      refine ⟨ret_int ?_, hq⟩
      have h := HH.out
      rw [List.take_of_length_le (by rw [hl.out]; omega)] at h
      exact (find_none h).symm
set_option maxHeartbeats 400000 in
theorem find_any (A : Option Addr) (n c : Nat) (zs : List PendP) (x : Int) (w : World) (hn : n ≤ 1000000) (hc : n ≤ c) (hcm : c ≤ maxLen) (hA : Row encQ 12 w w.heap.size A n zs) :
    Calls Try.prog 14 #[.slice A n c, .int .i64 x] w fun e w' => e = .returned (.int .i64 (find zs x)) ∧ Keep w w' := by
  have ht : TestsQ 29 #[.pointer (some ⟨w.heap.size, 0, none⟩)] (fun p => p.o == x) (w.alloc (.cells #[.int .i64 x] 3)) := fun W p hk =>
    find1_any p x w.heap.size W (Nat.lt_of_lt_of_le (by simp) hk.size) ((hk.cell (p := ⟨w.heap.size, 0, none⟩) (by simp)).trans (by simp))
  have hcon := index_any A n c zs 29 #[.pointer (some ⟨w.heap.size, 0, none⟩)] x (w.alloc (.cells #[.int .i64 x] 3)) (by unfold maxLen; omega) (hA.kept ((Keep.refl _).alloc _)) (enters_of Try.func29 (by kernel_rfl) rfl) ht
  generalize find zs x = r at hcon ⊢
  clear ht hA
  go_enter Try.func14, Try.ntmps14
  go_wp2_with fail
  refine hcon.mono ?_
  rintro e w1 ⟨rfl, hk⟩
  go_wp2
  go_ret
  exact ⟨rfl, ((Keep.refl _).alloc _).trans hk⟩
set_option maxHeartbeats 400000 in
theorem due1_any (k : Nat) (p : PendP) (x : Int) (B : Nat) (w : World) (hB : B < w.heap.size) (hc : w.cell? ⟨B, 0, none⟩ = some (.int .i64 x)) :
    Calls Try.prog 26 (#[.int .i64 (k : Int), .agg (cellsQ p)] ++ #[.pointer (some ⟨B, 0, none⟩)]) w fun e w' => e = .returned (.bool (isDue x p)) ∧ Keep w w' := by
  have hne : B ≠ w.heap.size := by omega
  show Calls _ _ #[.int .i64 (k : Int), .agg (cellsQ p), .pointer (some ⟨B, 0, none⟩)] w _
  go_enter Try.func26, Try.ntmps26
  go_wp2
  go_ret
  exact ⟨rfl, (Keep.refl _).alloc _⟩
set_option maxHeartbeats 400000 in
theorem due_any (A : Option Addr) (n c : Nat) (zs : List PendP) (t : Int) (w : World) (hn : n ≤ 1000000) (hc : n ≤ c) (hcm : c ≤ maxLen) (hA : Row encQ 12 w w.heap.size A n zs) (hV : Vals w zs) (hS : SmV zs) :
    Calls Try.prog 11 #[.slice A n c, .int .i64 t] w (RetLL (Pn.due zs t) (rest zs t) w) := by
  have hk0 : Keep w (w.alloc (.cells #[.int .i64 t] 3)) := (Keep.refl _).alloc _
  have ht : TestsI 26 #[.pointer (some ⟨w.heap.size, 0, none⟩)] (fun _ p => isDue t p) (w.alloc (.cells #[.int .i64 t] 3)) := fun W k p hk =>
    due1_any k p t w.heap.size W (Nat.lt_of_lt_of_le (by simp) hk.size) ((hk.cell (p := ⟨w.heap.size, 0, none⟩) (by simp)).trans (by simp))
  have hl := hA.1
  have hcon := part_any A n c zs 26 #[.pointer (some ⟨w.heap.size, 0, none⟩)] (fun _ p => isDue t p) (fun k => (zs.take k).filter (isDue t)) (fun k => (zs.take k).filter fun p => !isDue t p) (w.alloc (.cells #[.int .i64 t] 3)) hn (hA.kept hk0) (hV.kept hk0) hS (enters_of Try.func26 (by kernel_rfl) rfl) ht ⟨rfl, rfl⟩ (fun k hk => by
    have h1 := filter_snoc (isDue t) zs k (by rw [hl]; exact hk)
    have h2 := filter_snoc (fun p => !isDue t p) zs k (by rw [hl]; exact hk)
    simp only [h1, h2]
    cases isDue t (zs.getD k zero) <;> simp)
  rw [List.take_of_length_le (by rw [hl]; omega)] at hcon
  replace hcon := Lib.hid hcon
  clear ht hA hl hV hS
  go_enter Try.func11, Try.ntmps11
  go_wp2_with fail
  refine hcon.out.mono ?_
  rintro e w1 ⟨A1, n1, c1, B1, m1, d1, us, vs, rfl, h1, h2, h3, h4, h5, h6, h7, h8, h9⟩
  go_wp2
  go_ret2
  exact ⟨A1, n1, c1, B1, m1, d1, us, vs, rfl, h1, h2, h3, h4, h5, h6, h7, h8, hk0.trans h9⟩
set_option maxHeartbeats 400000 in
theorem leave1_any (k : Nat) (p : PendP) (x : Int) (B : Nat) (w : World) (hB : B < w.heap.size) (hc : w.cell? ⟨B, 0, none⟩ = some (.int .i64 x)) :
    Calls Try.prog 31 (#[.int .i64 (k : Int), .agg (cellsQ p)] ++ #[.pointer (some ⟨B, 0, none⟩)]) w fun e w' => e = .returned (.bool (p.cn == x)) ∧ Keep w w' := by
  have hne : B ≠ w.heap.size := by omega
  show Calls _ _ #[.int .i64 (k : Int), .agg (cellsQ p), .pointer (some ⟨B, 0, none⟩)] w _
  go_enter Try.func31, Try.ntmps31
  go_wp2
  go_ret
  exact ⟨rfl, (Keep.refl _).alloc _⟩
set_option maxHeartbeats 400000 in
theorem leave_any (A : Option Addr) (n c : Nat) (zs : List PendP) (x : Int) (w : World) (hn : n ≤ 1000000) (hc : n ≤ c) (hcm : c ≤ maxLen) (hA : Row encQ 12 w w.heap.size A n zs) (hV : Vals w zs) (hS : SmV zs) :
    Calls Try.prog 18 #[.slice A n c, .int .i64 x] w (RetL (leave zs x) w) := by
  have hk0 : Keep w (w.alloc (.cells #[.int .i64 x] 3)) := (Keep.refl _).alloc _
  have ht : TestsI 31 #[.pointer (some ⟨w.heap.size, 0, none⟩)] (fun _ p => p.cn == x) (w.alloc (.cells #[.int .i64 x] 3)) := fun W k p hk =>
    leave1_any k p x w.heap.size W (Nat.lt_of_lt_of_le (by simp) hk.size) ((hk.cell (p := ⟨w.heap.size, 0, none⟩) (by simp)).trans (by simp))
  have hl := hA.1
  have hcon := part_any A n c zs 31 #[.pointer (some ⟨w.heap.size, 0, none⟩)] (fun _ p => p.cn == x) (fun k => (zs.take k).filter fun p => p.cn == x) (fun k => (zs.take k).filter fun p => !(p.cn == x)) (w.alloc (.cells #[.int .i64 x] 3)) hn (hA.kept hk0) (hV.kept hk0) hS (enters_of Try.func31 (by kernel_rfl) rfl) ht ⟨rfl, rfl⟩ (fun k hk => by
    have h1 := filter_snoc (fun p => p.cn == x) zs k (by rw [hl]; exact hk)
    have h2 := filter_snoc (fun p => !(p.cn == x)) zs k (by rw [hl]; exact hk)
    simp only [h1, h2]
    cases (zs.getD k zero).cn == x <;> simp)
  rw [List.take_of_length_le (by rw [hl]; omega)] at hcon
  replace hcon := Lib.hid hcon
  clear ht hA hl hV hS
  go_enter Try.func18, Try.ntmps18
  go_wp2_with fail
  refine hcon.out.mono ?_
  rintro e w1 ⟨A1, n1, c1, B1, m1, d1, us, vs, rfl, h1, h2, h3, h4, h5, h6, h7, h8, h9⟩
  go_wp2
  go_ret
  exact ⟨B1, m1, d1, vs, rfl, h2.1, h2.2, h4, h6, h8, hk0.trans h9⟩
set_option maxHeartbeats 400000 in
theorem drop1_any (k : Nat) (p : PendP) (x : Int) (B : Nat) (w : World) (hB : B < w.heap.size) (hc : w.cell? ⟨B, 0, none⟩ = some (.int .i64 x)) :
    Calls Try.prog 30 (#[.int .i64 (k : Int), .agg (cellsQ p)] ++ #[.pointer (some ⟨B, 0, none⟩)]) w fun e w' => e = .returned (.bool ((k : Int) == x)) ∧ Keep w w' := by
  have hne : B ≠ w.heap.size := by omega
  show Calls _ _ #[.int .i64 (k : Int), .agg (cellsQ p), .pointer (some ⟨B, 0, none⟩)] w _
  go_enter Try.func30, Try.ntmps30
  go_wp2
  go_ret
  exact ⟨rfl, (Keep.refl _).alloc _⟩
set_option maxHeartbeats 400000 in
theorem drop_any (A : Option Addr) (n c : Nat) (zs : List PendP) (x : Int) (w : World) (hn : n ≤ 1000000) (hc : n ≤ c) (hcm : c ≤ maxLen) (hA : Row encQ 12 w w.heap.size A n zs) (hV : Vals w zs) (hS : SmV zs) :
    Calls Try.prog 16 #[.slice A n c, .int .i64 x] w (RetL (drop zs x) w) := by
  have hk0 : Keep w (w.alloc (.cells #[.int .i64 x] 3)) := (Keep.refl _).alloc _
  have ht : TestsI 30 #[.pointer (some ⟨w.heap.size, 0, none⟩)] (fun k _ => (k : Int) == x) (w.alloc (.cells #[.int .i64 x] 3)) := fun W k p hk =>
    drop1_any k p x w.heap.size W (Nat.lt_of_lt_of_le (by simp) hk.size) ((hk.cell (p := ⟨w.heap.size, 0, none⟩) (by simp)).trans (by simp))
  have hl := hA.1
  have hcon := part_any A n c zs 30 #[.pointer (some ⟨w.heap.size, 0, none⟩)] (fun k _ => (k : Int) == x) (fun k => if 0 ≤ x ∧ x < (k : Int) then [zs.getD x.toNat zero] else []) (fun k => drop (zs.take k) x) (w.alloc (.cells #[.int .i64 x] 3)) hn (hA.kept hk0) (hV.kept hk0) hS (enters_of Try.func30 (by kernel_rfl) rfl) ht ⟨by rw [if_neg (by omega)], by unfold drop; split <;> simp⟩ (fun k hk => by
    have h1 := drop_snoc zs x k (by rw [hl]; exact hk)
    simp only [h1]
    by_cases e : (k : Int) = x
    · subst e
      rw [if_pos (by simp), if_pos rfl, if_pos (by omega), if_neg (by omega)]
      exact ⟨by simp, by simp⟩
    · rw [if_neg (by simpa using e)]
      refine ⟨?_, by rw [if_neg (fun h => e h.symm)]⟩
      by_cases h : 0 ≤ x ∧ x < (k : Int)
      · rw [if_pos h, if_pos (by omega)]
      · rw [if_neg h, if_neg (by omega)])
  rw [List.take_of_length_le (by rw [hl]; omega)] at hcon
  replace hcon := Lib.hid hcon
  clear ht hA hl hV hS
  go_enter Try.func16, Try.ntmps16
  go_wp2_with fail
  refine hcon.out.mono ?_
  rintro e w1 ⟨A1, n1, c1, B1, m1, d1, us, vs, rfl, h1, h2, h3, h4, h5, h6, h7, h8, h9⟩
  go_wp2
  go_ret
  exact ⟨B1, m1, d1, vs, rfl, h2.1, h2.2, h4, h6, h8, hk0.trans h9⟩
set_option maxHeartbeats 1000000 in
theorem add_any (A : Option Addr) (n c : Nat) (zs : List PendP) (p : PendP) (most : Int) (w : World) (hn : n ≤ 1000000) (hc : n ≤ c) (hcm : c ≤ maxLen) (hA : Row encQ 12 w w.heap.size A n zs) (hV : Vals w zs) (hS : SmV zs) (hpA : Ints .i64 w w.heap.size p.A p.ak.vs.length p.ak.vs) (hpS : p.ak.vs.length * 8 ≤ 140737488355328) :
    Calls Try.prog 9 #[.slice A n c, .agg (cellsQ p), .int .i64 most] w (RetLE (add zs p most) (addErr zs p most) w) := by
  have hl := Lib.hid hA.1
  have k0 : Keep w (w.alloc (.cells (cellsQ p) 27)) := (Keep.refl _).alloc _
  have HCA := Lib.hid (copyAll_any A n c zs (w.alloc (.cells (cellsQ p) 27)) hn (hA.kept k0) (hV.kept k0) hS)
  have HF := Lib.hid (show full zs most = decide (most ≤ (n : Int)) by unfold full; rw [hl.out])
  have HA := Lib.hid (hA.kept k0)
  have HPA := Lib.hid (And.intro (hpA.kept k0) hpS)
  clear hA hV hS hpA hpS
  go_enter Try.func9, Try.ntmps9
  go_wp2_with fail
  refine HCA.out.mono ?_
  rintro e w1 ⟨B, d, ys, rfl, hown, hlk, hov, k1⟩
  have hbx : ∀ i v, (cellsQ p)[i]? = some v → w1.cell? ⟨w.heap.size, i, none⟩ = some v := fun i v h => (Below.cell k1 (by simp)).trans (by simpa using h)
  have hsz : (w.alloc (.cells (cellsQ p) 27)).heap.size = w.heap.size + 1 := by simp
  have HB := Lib.hid (show ∀ W, Keep w1 W → ∀ i v, (cellsQ p)[i]? = some v → W.cell? ⟨w.heap.size, i, none⟩ = some v from fun W h i v e => (Below.cell h (by have := k1.size; simp at this; simp; omega)).trans (hbx i v e))
  have c0 := hbx 0 _ rfl
  have HO := Lib.hid hown
  have HL := Lib.hid hlk
  have HV := Lib.hid hov
  have HK := Lib.hid k1
  have HK0 := Lib.hid k0
  clear hown hlk hov hbx HCA
  by_cases h1 : most ≤ (n : Int)
  · have d1 : decide (most ≤ (n : Int)) = true := by simp [h1]
    have HE := Lib.hid (show add zs p most = zs ∧ addErr zs p most = 11 by unfold add addErr; rw [HF.out, d1]; exact ⟨rfl, rfl⟩)
    clear h1 c0 hsz
    go_wp2
    go_ret2
    obtain ⟨a1, a2⟩ := own_le HO.out
    exact ⟨B, n, d, ys, by rw [HE.out.2]; rfl, a1, a2, Row.of_own encQ_len HO.out (by omega), by rw [HE.out.1]; exact HL.out, HV.out.vals, HK0.out.trans HK.out⟩
  · have d1 : decide (most ≤ (n : Int)) = false := by simp [h1]
    clear h1
    have hfr := find_range zs p.o
    have HFD := Lib.hid (find_any A n c zs p.o w1 hn hc hcm (HA.out.kept k1))
    obtain ⟨q, hqe⟩ : ∃ q, q = find zs p.o := ⟨_, rfl⟩
    rw [← hqe] at HFD
    have HQ := Lib.hid hqe
    clear hqe hfr k1 hsz
    go_wp2_with fail
    refine HFD.out.mono ?_
    rintro e w2 ⟨rfl, k2⟩
    have HK2 := Lib.hid k2
    cases hh : has zs p.o
    · have hf1 : q = -1 := by rw [HQ.out]; exact find_none hh
      subst hf1
      have HE := Lib.hid (show add zs p most = zs ++ [p] ∧ addErr zs p most = 0 by unfold add addErr; rw [HF.out, d1, hh]; exact ⟨rfl, rfl⟩)
      have hb2 := HB.out w2 k2
      clear hh c0
      have c0 := hb2 0 _ rfl
      have c1 := hb2 1 _ rfl
      have c2 := hb2 2 _ rfl
      have c3 := hb2 3 _ rfl
      have c4 := hb2 4 _ rfl
      have c5 := hb2 5 _ rfl
      have c6 := hb2 6 _ rfl
      have c7 := hb2 7 _ rfl
      have c8 := hb2 8 _ rfl
      have c9 := hb2 9 _ rfl
      have c10 := hb2 10 _ rfl
      have c11 := hb2 11 _ rfl
      clear hb2 k2
      go_wp2_with fail
      refine (copyOf_any p w2 HPA.out.2 (HPA.out.1.kept (HK.out.trans HK2.out))).mono ?_
      rintro e w3 ⟨B2, d2, rfl, hvo, hk3⟩
      have kL : Keep w3 (w3.alloc (.cells #[.int .i64 p.o, .int .i64 p.cn, .int .i64 p.lf, .int .i64 p.id, .int .i64 p.un, .int .i64 p.ak.fc, .int .i64 p.ak.rd, .int .i64 p.ak.ct, .int .i64 p.ak.wr, .int .i64 p.ak.mn, .slice B2 p.ak.vs.length d2, .int .i64 p.due] 27)) := (Keep.refl w3).alloc _
      have hkk := (HK2.out.trans hk3).trans kL
      have hown := own_keep HO.out hkk
      have hV1 := HV.out.keep hkk
      have hv3 := OwnV.keep (l := [wh p B2 d2]) (base := w.heap.size) (fun q hq => by
        obtain rfl : q = wh p B2 d2 := by simpa using hq
        exact ownsRow_mono ((HK0.out.trans (HK.out.trans HK2.out)).size) hvo) kL
      have hrow : Row encQ 12 (w3.alloc (.cells #[.int .i64 p.o, .int .i64 p.cn, .int .i64 p.lf, .int .i64 p.id, .int .i64 p.un, .int .i64 p.ak.fc, .int .i64 p.ak.rd, .int .i64 p.ak.ct, .int .i64 p.ak.wr, .int .i64 p.ak.mn, .slice B2 p.ak.vs.length d2, .int .i64 p.due] 27)) (w3.heap.size + 1) (some ⟨w3.heap.size, 0, none⟩) 1 [wh p B2 d2] := row_one w3 (wh p B2 d2) 27
      have hkw := HK.out.trans hkk
      have hszV := hkw.size
      have HKW := Lib.hid hkw
      have HVV := Lib.hid (And.intro hV1 hv3)
      clear hkk hkw hV1 hv3 hvo hk3 kL
      go_wp2_with (at_builtin; refine append_rows_k rfl _ _ 22 rfl (w.alloc (.cells (cellsQ p) 27)).heap.size 27 _ 112 Try.underlying22 info_pend rfl (by omega) encQ_len encQ_one _ n ys rfl hown hszV _ _ 1 1 [wh p B2 d2] rfl hrow (by unfold maxLen; omega) (by omega) ?_)
      intro v' w4 hown' hb1 hg1 hat1
      have hK4 : Keep (w.alloc (.cells (cellsQ p) 27)) w4 := Below.trans HKW.out (by simpa using hb1)
      have hV4 := HVV.out.1.grown hown hg1
      have hV5 := HVV.out.2.grown hown hg1
      have HF2 := Lib.hid (And.intro hV4 hV5)
      clear hV4 hV5 hown hg1 hat1 hrow hb1
      obtain ⟨A4, c4, rfl⟩ := own_slice hown'
      go_wp2
      go_ret2
      obtain ⟨a1, a2⟩ := own_le hown'
      exact ⟨A4, n + 1, c4, ys ++ [wh p B2 d2], by rw [HE.out.2]; rfl, a1, a2, Row.of_own encQ_len hown' (by omega), by rw [HE.out.1]; exact HL.out.snoc p B2 d2, fun q hq => (List.mem_append.1 hq).elim (fun h => HF2.out.1.vals q h) (fun h => HF2.out.2.vals q h), HK0.out.trans hK4⟩
    · have hf1 := (find_has zs p.o).2 hh
      rw [← HQ.out] at hf1
      have d2 : decide (0 ≤ q) = true := by simp [hf1]
      have HE := Lib.hid (show add zs p most = zs ∧ addErr zs p most = 1 by unfold add addErr; rw [HF.out, d1, hh]; exact ⟨rfl, rfl⟩)
      clear hh hf1 k2
      go_wp2
      go_ret2
      have hown := own_keep HO.out HK2.out
      obtain ⟨a1, a2⟩ := own_le hown
      exact ⟨B, n, d, ys, by rw [HE.out.2]; rfl, a1, a2, Row.of_own encQ_len hown (by omega), by rw [HE.out.1]; exact HL.out, (HV.out.keep HK2.out).vals, HK0.out.trans (HK.out.trans HK2.out)⟩
set_option maxHeartbeats 1000000 in
theorem outers_any (A : Option Addr) (n c : Nat) (zs : List PendP) (w : World) (hn : n ≤ 1000000) (hc : n ≤ c) (hcm : c ≤ maxLen) (hA : Row encQ 12 w w.heap.size A n zs) :
    Calls Try.prog 21 #[.slice A n c] w (RetN (outers zs) w) := by
  have hl := Lib.hid hA.1
  have HA := Lib.hid hA
  obtain ⟨i0, hi, hz0, hz1, hz2⟩ := info_parts EqI.info_int
  clear hA
  go_enter Try.func21, Try.ntmps21
  go_wp2_with (at_make; refine wpList_make_own _ rfl _ _ 23 rfl w.heap.size 3 i0 (.int .i64 0) 1 Try.underlying23 hi hz0 hz1 _ _ _ n rfl rfl rfl ?b2 ?b3 (Nat.le_refl _) ?_)
  case b2 => rw [hz2]; omega
  case b3 => unfold maxLen; omega
  intro w0 hown0 hgrow0
  have hk0 : Keep w w0 := (Below.refl _ _).grown hgrow0 (Nat.le_refl _) (fun k h => by cases h)
  clear hgrow0 hi hz0 hz1 hz2
  go_wp2
  go_loopw [3, 11] (fun ov iv wr => ∃ (k : Nat), k ≤ n ∧ iv = .int .i64 k ∧ wr.ownsRow w.heap.size 3 1 ov k (((outers zs).take k).map (Value.int .i64)) ∧ Keep w wr) (fun _ iv _ => n - (intOf iv).toNat)
  case atStart => exact ⟨0, Nat.zero_le _, rfl, by simpa using hown0, hk0⟩
  case round =>
    obtain ⟨k, hk, rfl, hown, hK⟩ := hrel
    obtain ⟨OA, oc, rfl⟩ := own_slice hown
    by_cases hlt : k < n
    · obtain ⟨b, off, rfl, _⟩ := HA.out.addr (by omega)
      obtain ⟨hb, hp⟩ := row_pend HA.out k hlt
      have hp' := hp.kept hb hK
      have hts : (outers zs).take (k + 1) = (outers zs).take k ++ [(zs.getD k zero).o] := by
        have hk2 : k < (outers zs).length := by unfold outers; rw [List.length_map, hl.out]; exact hlt
        have hk3 : k < zs.length := by rw [hl.out]; exact hlt
        rw [List.take_succ_eq_append_getElem hk2]
        simp [outers, List.getD, List.getElem?_eq_getElem hk3]
      obtain ⟨p, hpe⟩ : ∃ p, p = zs.getD k zero := ⟨_, rfl⟩
      rw [← hpe] at hp' hts
      have HTS := Lib.hid hts
      clear hpe hp hts
      obtain ⟨c0, c1, c2, c3, c4, c5, c6, c7, c8, c9, c10, c11⟩ := hp'
      have hltz : (k : Int) < n := by omega
      have hk0 : (0 : Int) ≤ k := by omega
      have kX : Keep wr ((wr.alloc (.cells #[.int .i64 p.o, .int .i64 p.cn, .int .i64 p.lf, .int .i64 p.id, .int .i64 p.un, .int .i64 p.ak.fc, .int .i64 p.ak.rd, .int .i64 p.ak.ct, .int .i64 p.ak.wr, .int .i64 p.ak.mn, .slice p.A p.ak.vs.length p.c, .int .i64 p.due] 27)).alloc (.cells #[.int .i64 p.o] 3)) := ((Keep.refl wr).alloc _).alloc _
      have hown2 := own_keep hown kX
      have hone : Ints .i64 ((wr.alloc (.cells #[.int .i64 p.o, .int .i64 p.cn, .int .i64 p.lf, .int .i64 p.id, .int .i64 p.un, .int .i64 p.ak.fc, .int .i64 p.ak.rd, .int .i64 p.ak.ct, .int .i64 p.ak.wr, .int .i64 p.ak.mn, .slice p.A p.ak.vs.length p.c, .int .i64 p.due] 27)).alloc (.cells #[.int .i64 p.o] 3)) ((wr.alloc (.cells #[.int .i64 p.o, .int .i64 p.cn, .int .i64 p.lf, .int .i64 p.id, .int .i64 p.un, .int .i64 p.ak.fc, .int .i64 p.ak.rd, .int .i64 p.ak.ct, .int .i64 p.ak.wr, .int .i64 p.ak.mn, .slice p.A p.ak.vs.length p.c, .int .i64 p.due] 27)).heap.size + 1) (some ⟨(wr.alloc (.cells #[.int .i64 p.o, .int .i64 p.cn, .int .i64 p.lf, .int .i64 p.id, .int .i64 p.un, .int .i64 p.ak.fc, .int .i64 p.ak.rd, .int .i64 p.ak.ct, .int .i64 p.ak.wr, .int .i64 p.ak.mn, .slice p.A p.ak.vs.length p.c, .int .i64 p.due] 27)).heap.size, 0, none⟩) 1 [p.o] := Ints.new .i64 _ 3 [p.o] #[.int .i64 p.o] rfl
      have hszV : w.heap.size ≤ ((wr.alloc (.cells #[.int .i64 p.o, .int .i64 p.cn, .int .i64 p.lf, .int .i64 p.id, .int .i64 p.un, .int .i64 p.ak.fc, .int .i64 p.ak.rd, .int .i64 p.ak.ct, .int .i64 p.ak.wr, .int .i64 p.ak.mn, .slice p.A p.ak.vs.length p.c, .int .i64 p.due] 27)).alloc (.cells #[.int .i64 p.o] 3)).heap.size := (hK.trans kX).size
      have HKX := Lib.hid (hK.trans kX)
      clear hown kX hK
      rw [show (wr.alloc (.cells #[.int .i64 p.o, .int .i64 p.cn, .int .i64 p.lf, .int .i64 p.id, .int .i64 p.un, .int .i64 p.ak.fc, .int .i64 p.ak.rd, .int .i64 p.ak.ct, .int .i64 p.ak.wr, .int .i64 p.ak.mn, .slice p.A p.ak.vs.length p.c, .int .i64 p.due] 27)).heap.size = wr.heap.size + 1 by simp] at hone
      go_wp2_with (at_builtin; refine append_ints rfl _ _ 23 rfl w.heap.size 3 .i64 8 Try.underlying23 EqI.info_int _ k ((outers zs).take k) rfl hown2 hszV _ _ 1 1 [p.o] rfl hone (by unfold maxLen; omega) (by omega) ?_)
      intro v' w4 hown' hb1
      have hK4 : Keep w w4 := Below.trans HKX.out hb1
      clear hown2 hone hb1
      go_wp2
      refine ⟨⟨k + 1, by omega, by go_num, by rw [HTS.out]; simpa using hown', hK4⟩, by simp [intOf]; omega⟩
    · obtain rfl : k = n := by omega
      go_wp2
      go_ret
      obtain ⟨a1, a2⟩ := own_le hown
      have h1 : (outers zs).take k = outers zs := List.take_of_length_le (by unfold outers; rw [List.length_map, hl.out]; omega)
      rw [h1] at hown
      exact ⟨OA, k, oc, rfl, a1, a2, Ints.of_own hown, hK⟩
def boolElem (v : Value) : Option (DataW Unit × List MemPlace) :=
  match v with
  | .bool b => some (.lit (.bool b), [])
  | _ => none
theorem boolElem_mk (b : Bool) : boolElem (.bool b) = some (.lit (.bool b), []) := rfl
theorem boolElem_inv {v : Value} {b : Bool} {ps : List MemPlace} (h : boolElem v = some (.lit (.bool b), ps)) : v = .bool b := by
  unfold boolElem at h
  split at h
  · simp only [Option.some.injEq, Prod.mk.injEq, DataW.lit.injEq, Lit.bool.injEq] at h
    rw [h.1]
  · cases h
theorem keyLaw : Keyed Try.prog 3 := int_keyed Try.underlying3
theorem boolZero (w : World) : (zeroValue 4).run Try.prog w = .ok (.bool false) w := by kernel_rfl
theorem made_map (v : Int) (w : World) : (Instr.makeMap 46 (some (.int .i64 v))).run Try.prog w = .ok (.map (some w.heap.size)) (w.alloc (.map #[] 0)) := by
  simp [Instr.makeMap, run_underlying Try.underlying46, asInt, Result.andThen, Sem.run_bind]
  rfl
theorem ownsMap_keep {w w' : World} {P : Program} {k : TypeId} {b n : Nat} {D : DataW Unit} (h : w.ownsMap P k boolElem b n D) (hk : Keep w w') : w'.ownsMap P k boolElem b n D := by
  have hlt := World.ownsMap.lt h
  obtain ⟨es, clock, hb, F, hs, hD⟩ := h
  exact ⟨es, clock, (hk.block b hlt).trans hb, F, hs, hD⟩
/-- A map of marks: true at these numbers. -/
def Marks (D : DataW Unit) (l : List Int) : Prop := IsMap D ∧ ∀ x, D.atKey (.int .i64 x) (.lit (.bool false)) = .lit (.bool (decide (x ∈ l)))
theorem Marks.start : Marks (.map []) [] := ⟨⟨_, rfl⟩, fun x => rfl⟩
theorem Marks.snoc {D : DataW Unit} {l : List Int} (h : Marks D l) (x : Int) : Marks (D.put (.int .i64 x) (.lit (.bool true))) (l ++ [x]) := by
  refine ⟨h.1.put _ _, fun y => ?_⟩
  by_cases e : y = x
  · subst e
    rw [atKey_put_same h.1 (by simp [WideAt.IsKeyLit])]
    simp
  · rw [atKey_put_other (by intro h; injection h with _ h; exact e h), h.2 y]
    simp [e]
theorem Marks.look {D : DataW Unit} {l : List Int} (h : Marks D l) {w : World} {b n : Nat} (ho : w.ownsMap Try.prog 3 boolElem b n D) {x : Int} (hx : (Lit.int .i64 x).wf = true) :
    (Instr.lookup 46 (.map (some b)) (.int .i64 x) false).run Try.prog w = .ok (.bool (decide (x ∈ l))) w := by
  obtain ⟨v, ps, hrun, hv⟩ := World.ownsMap.lookup ho keyLaw Try.underlying46 (boolZero w) (boolElem_mk false) (keyOf_int_mk Try.underlying3 hx)
  rw [h.2 x] at hv
  rw [hrun, boolElem_inv hv]
theorem right_snoc (l : List PendP) (p : PendP) : right (l ++ [p]) = (right l && !decide (p.o ∈ outers l)) := by
  unfold right outers
  rw [Bool.eq_iff_iff, Bool.and_eq_true, decide_eq_true_iff, decide_eq_true_iff, List.map_append, List.nodup_append]
  constructor
  · rintro ⟨h1, _, h3⟩
    refine ⟨h1, ?_⟩
    cases hd : decide (p.o ∈ List.map (·.o) l)
    · rfl
    · exact absurd rfl (h3 _ (of_decide_eq_true hd) p.o (by simp))
  · rintro ⟨h1, h2⟩
    refine ⟨h1, by simp, fun a ha b hb e => ?_⟩
    simp at hb
    subst hb; subst e
    rw [decide_eq_true ha] at h2
    cases h2
theorem right_take {l : List PendP} (h : right l = true) {k : Nat} : right (l.take k) = true := by
  unfold right outers at *
  rw [decide_eq_true_iff] at *
  exact h.sublist ((List.take_sublist k l).map _)
set_option maxHeartbeats 1000000 in
theorem right_any (A : Option Addr) (n c : Nat) (zs : List PendP) (w : World) (hn : n ≤ 1000000) (hc : n ≤ c) (hcm : c ≤ maxLen) (hA : Row encQ 12 w w.heap.size A n zs) (hW : ∀ p ∈ zs, (Lit.int .i64 p.o).wf = true) :
    Calls Try.prog 7 #[.slice A n c] w fun e w' => e = .returned (.bool (right zs)) ∧ Keep w w' := by
  have hl := Lib.hid hA.1
  have HA := Lib.hid hA
  have HW := Lib.hid hW
  clear hA hW
  have hmm : ∀ (v : Int) (w : World), (Instr.makeMap 46 (some (.int .i64 v))).run Try.prog w = .ok (.map (some w.heap.size)) (w.alloc (.map #[] 0)) := fun v w => made_map v w
  go_enter Try.func7, Try.ntmps7
  go_wp2
  go_loopw [11] (fun iv wr => ∃ (k : Nat) (D : DataW Unit), k ≤ n ∧ iv = .int .i64 k ∧ Hid (right (zs.take k) = true) ∧ Hid (Marks D (outers (zs.take k))) ∧ Hid (wr.ownsMap Try.prog 3 boolElem w.heap.size k D) ∧ Keep w wr) (fun iv _ => n - (intOf iv).toNat)
  case atStart => exact ⟨0, .map [], Nat.zero_le _, rfl, Lib.hid (by simp [right, outers]), Lib.hid (Marks.start), Lib.hid (World.ownsMap_made w Try.prog 3 boolElem), (Keep.refl w).alloc _⟩
  case round =>
    obtain ⟨k, D, hk, rfl, HR, HM, HO, hK⟩ := hrel
    by_cases hlt : k < n
    · obtain ⟨b, off, rfl, _⟩ := HA.out.addr (by omega)
      obtain ⟨hb, hp⟩ := row_pend HA.out k hlt
      have hp' := hp.kept hb hK
      have hts := take_getD zs k (by rw [hl.out]; exact hlt)
      have hwf := HW.out _ (getD_mem zs k (by rw [hl.out]; exact hlt))
      obtain ⟨p, hpe⟩ : ∃ p, p = zs.getD k zero := ⟨_, rfl⟩
      rw [← hpe] at hp' hts hwf
      have HTS := Lib.hid hts
      have HF := Lib.hid hwf
      clear hpe hp hts hwf
      obtain ⟨c0, c1, c2, c3, c4, c5, c6, c7, c8, c9, c10, c11⟩ := hp'
      have hltz : (k : Int) < n := by omega
      have hk0 : (0 : Int) ≤ k := by omega
      have kX : Keep wr (wr.alloc (.cells #[.int .i64 p.o, .int .i64 p.cn, .int .i64 p.lf, .int .i64 p.id, .int .i64 p.un, .int .i64 p.ak.fc, .int .i64 p.ak.rd, .int .i64 p.ak.ct, .int .i64 p.ak.wr, .int .i64 p.ak.mn, .slice p.A p.ak.vs.length p.c, .int .i64 p.due] 27)) := (Keep.refl wr).alloc _
      have hoX := ownsMap_keep HO.out kX
      have hlk := HM.out.look hoX HF.out
      have HKX := Lib.hid (hK.trans kX)
      cases hh : decide (p.o ∈ outers (zs.take k))
      · rw [hh] at hlk
        have HH := Lib.hid hh
        clear hh kX hK
        go_wp2_with (at_mapUpdate; refine wpList_mapUpdate_own _ rfl _ _ _ 46 rfl 3 4 keyLaw Try.underlying46 boolElem w.heap.size k _ rfl hoX (by unfold maxLen; omega) _ _ _ rfl rfl (keyOf_int_mk Try.underlying3 HF.out) _ [] (boolElem_mk true) ?_)
        intro w4 o4 g4
        have k4 : Keep w w4 := keep_grown HKX.out g4 (fun j hj => by cases hj; exact Nat.le_refl _)
        clear g4 hoX hlk
        go_wp2
        refine ⟨⟨k + 1, _, by omega, by go_num, Lib.hid ?_, Lib.hid ?_, Lib.hid o4, k4⟩, by simp [intOf]; omega⟩
        · rw [HTS.out, right_snoc, HR.out, HH.out]; rfl
        · rw [HTS.out]
          unfold outers
          rw [List.map_append]
          exact HM.out.snoc p.o
      · rw [hh] at hlk
        have HH := Lib.hid hh
        clear hh
        go_wp2
        go_ret
        refine ⟨ret_bool ?_, HKX.out⟩
        have h1 : right (zs.take (k + 1)) = false := by rw [HTS.out, right_snoc, HR.out, HH.out]; rfl
        cases hr : right zs
        · rfl
        · rw [right_take hr] at h1; cases h1
    · obtain rfl : k = n := by omega
      go_wp2
      go_ret
      refine ⟨ret_bool ?_, hK⟩
      have h := HR.out
      rw [List.take_of_length_le (by rw [hl.out]; omega)] at h
      exact h.symm
end Go.Proofs.Ytecajacpfikpcaa.Pend
