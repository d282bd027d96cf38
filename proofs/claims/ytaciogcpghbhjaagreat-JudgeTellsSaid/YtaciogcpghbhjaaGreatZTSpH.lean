/- Of these texts: SpH. Conditions: as each part says. -/
import Derived.Test.YtaciogcpghbhjaaGreatZTSpAll
import Derived.Test.YtaciogcpghbhjaaGreatZTRow2
import Derived.Deep.AppendLies
import Derived.Shelf.Abstract
import Derived.Lib.SliceRun
/- Layer 4: 'Has' of the program (a closure that holds the number), slices.Clone, slices.DeleteFunc. Conditions: lengths at most a million. -/
namespace Go.Proofs.YtaciogcpghbhjaaGreat.Span
open Go.Shelf Go.ChangeShapes Go.WideShapes Go.ChangeAt Go.RowKit
set_option maxHeartbeats 400000 in
theorem has1_any (x1 x2 m : Int) (B : Nat) (w : World) (hB : B < w.heap.size) (hc : w.cell? ⟨B, 0, none⟩ = some (.int .i64 m)) :
  Calls Tryz.prog 132 #[.agg #[.int .i64 x1, .int .i64 x2], .pointer (some ⟨B, 0, none⟩)] w fun e w' => e = .returned (.bool (Sp.inR (x1, x2) m)) ∧ Keep w w' := by
 have hne : B ≠ w.heap.size := by omega
 have he : Sp.inR (x1, x2) m = (decide (x1 <= m) && decide (m <= x2)) := rfl
 rw [he]
 clear he
 by_cases h : x1 <= m
 ·rw [decide_eq_true h, Bool.true_and]
  go_enter Tryz.func132, Tryz.ntmps132
  go_wp2
  go_ret
  exact ⟨rfl, (Keep.refl _).alloc _⟩
 ·have e : decide (x1 <= m) = false := by simpa using h
  rw [e, Bool.false_and]
  clear e
  go_enter Tryz.func132, Tryz.ntmps132
  go_wp2
  go_ret
  exact ⟨rfl, (Keep.refl _).alloc _⟩
set_option maxHeartbeats 400000 in
theorem has_any (A : Option Addr) (n c : Nat) (zs : List (Int × Int)) (m : Int) (w : World) (hn : n <= 1000000) (hA : Row encP 2 w w.heap.size A n zs) :
  Calls Tryz.prog 126 #[.slice A n c, .int .i64 m] w fun e w' => e = .returned (.bool (Sp.has zs m)) ∧ Keep w w' := by
 have ht : Tests 132 #[.pointer (some ⟨w.heap.size, 0, none⟩)] (fun r => Sp.inR r m) (w.alloc (.cells #[.int .i64 m] 3)) := fun W x1 x2 hk =>
  has1_any x1 x2 m w.heap.size W (Nat.lt_of_lt_of_le (by simp) hk.size) ((hk.cell (p := ⟨w.heap.size, 0, none⟩) (by simp)).trans (by simp))
 have hcon := contains_any A n c zs 132 #[.pointer (some ⟨w.heap.size, 0, none⟩)] (fun r => Sp.inR r m) (w.alloc (.cells #[.int .i64 m] 3)) hn (hA.kept ((Keep.refl _).alloc _)) (enters_of Tryz.func132 (by kernel_rfl) rfl) ht
 have he : Sp.has zs m = zs.any fun r => Sp.inR r m := rfl
 rw [<- he] at hcon
 generalize Sp.has zs m = r at hcon ⊢
 clear he ht hA
 go_enter Tryz.func126, Tryz.ntmps126
 go_wp2_with fail
 refine hcon.mono ?_
 rintro e w1 ⟨rfl, hk⟩
 go_wp2
 go_ret
 exact ⟨rfl, ((Keep.refl _).alloc _).trans hk⟩
theorem info_range : (Tryz.prog.info? 87).map (fun i => (i.zero, i.size, i.bytes)) = some (some (.agg #[.int .i64 0, .int .i64 0]), 2, 16) := by kernel_rfl
def RetOwn (base : Nat) (zs : List (Int × Int)) (w : World) (e : Ending) (w' : World) : Prop :=
 ∃ A n c, e = .returned (.slice A n c) ∧ w'.ownsRow base 87 2 (.slice A n c) n (flat encP zs) ∧ Keep w w'
set_option maxHeartbeats 400000 in
theorem clone_any (A : Option Addr) (n c : Nat) (zs : List (Int × Int)) (w : World) (hn : n <= 1000000) (hA : Row encP 2 w w.heap.size A n zs) :
  Calls Tryz.prog 148 #[.slice A n c] w (RetOwn w.heap.size zs w) := by
 rcases A with _ | ad
 ·have h0 : n = 0 := by
   rcases Nat.eq_zero_or_pos n with h | h
   ·exact h
   ·obtain ⟨_, _, e, _⟩ := hA.2 h
    cases e
  have hz : zs = [] := List.eq_nil_of_length_eq_zero (by rw [hA.1, h0])
  subst hz
  clear hA
  have heq : ∀ (w : World) (a : Option Addr) (n c n' c' : Nat), (binOp .eql 52 (.slice a n c) (.slice none n' c')).run Tryz.prog w = .ok (.bool a.isNone) w := fun w a n c n' c' => Lib.run_eql_slice_nil w _ _ a n c n' c' Tryz.underlying52
  go_enter Tryz.func148, Tryz.ntmps148
  go_wp2
  go_ret
  exact ⟨none, 0, 0, rfl, World.ownsRow_nil _ _ _ _, Keep.refl _⟩
 ·have heq : ∀ (w : World) (a : Option Addr) (n c n' c' : Nat), (binOp .eql 52 (.slice a n c) (.slice none n' c')).run Tryz.prog w = .ok (.bool a.isNone) w := fun w a n c n' c' => Lib.run_eql_slice_nil w _ _ a n c n' c' Tryz.underlying52
  go_enter Tryz.func148, Tryz.ntmps148
  go_wp2_with (at_builtin; refine append_rows rfl _ _ 52 rfl w.heap.size 87 _ 16 Tryz.underlying52 info_range rfl (by omega) encP_len encP_one _ 0 [] rfl (World.ownsRow_lit w #[] 0 (Nat.le_refl _) (Nat.zero_le _) rfl) (by simp) w.heap.size (some ad) n c zs rfl (hA.keep fun p hp => by simp [World.cell?_alloc_lt, hp]) (by unfold maxLen; omega) (by omega) ?_)
  intro v' w1 hown hb
  obtain ⟨A1, c1, rfl⟩ := own_slice hown
  go_wp2
  go_ret
  exact ⟨A1, n, c1, rfl, hown, ((Below.refl w.heap.size w).alloc (Nat.le_refl _) _).trans hb⟩
def DelRel (p : Int × Int -> Bool) (w0 : World) (gb cap n : Nat) (zs : List (Int × Int)) (s5 s6 : Value) (wr : World) : Prop :=
 ∃ (i j : Nat) (ys : List (Int × Int)), s5 = .int .i64 i ∧ s6 = .int .i64 j ∧ Kept (fun r => !p r) zs i j ys ∧ wr.ownsRow w0.heap.size 87 2 (.slice (some ⟨gb, 0, none⟩) n cap) n (flat encP ys) ∧ Keep w0 wr
set_option maxHeartbeats 1000000 in
theorem delete_any (A : Option Addr) (n c : Nat) (zs : List (Int × Int)) (g : Nat) (p : Int × Int -> Bool) (w0 w : World) (hn : n <= 1000000) (hk0 : Keep w0 w) (hown : w.ownsRow w0.heap.size 87 2 (.slice A n c) n (flat encP zs))
  (eg : ∀ args w, (callFunc g args).run Tryz.prog w = .ok (.enter g args) w) (hp : Tests g #[] p w0) :
  Calls Tryz.prog 147 #[.slice A n c, .func (.func g) #[] #[]] w (RetOwn w0.heap.size (zs.filter fun r => !p r) w0) := by
 have HL := Lib.hid (Row.length_own encP_len hown (by omega))
 have hrow := Row.of_own encP_len hown (by omega)
 have hcon := index_any A n c zs g #[] p w hn hrow eg (fun W x1 x2 hW => hp W x1 x2 (hk0.trans hW))
 clear hrow
 have hk1 := Below.size hk0
 go_enter Tryz.func147, Tryz.ntmps147
 go_wp2_with fail
 refine hcon.mono ?_
 rintro e w1 ⟨i, rfl, hk, hi⟩
 have HI := Lib.hid hi
 clear hi hcon
 replace hown := own_keep hown hk
 replace hk0 := hk0.trans hk
 clear hk hk1
 rcases HI.out with ⟨h1, h2⟩ | ⟨k, h1, h2, h3, h4⟩
 ·obtain rfl := h1
  have HF := Lib.hid (show (zs.filter fun r => !p r) = zs from List.filter_eq_self.2 fun a ha => by
   obtain ⟨j, hj, rfl⟩ := List.mem_iff_getElem.1 ha
   have := h2 j hj
   rw [show zs.getD j (0, 0) = zs[j] by simp [List.getD, List.getElem?_eq_getElem hj]] at this
   simp [this])
  clear h2
  go_wp2
  go_ret
  exact ⟨A, n, c, rfl, by rw [HF.out]; exact hown, hk0⟩
 ·obtain rfl := h1
  have hkn : k < n := by rw [<- HL.out]; exact h2
  obtain ⟨gb, cap, hA, hb1, hb2⟩ := hown.form (by omega)
  injection hA with hA1 _ hA2
  subst hA1 hA2
  have HK := Lib.hid (Kept.start (p := fun r => !p r) (d := (0, 0)) h2 (by simpa using h3) (fun j hj => by simpa using h4 j hj))
  clear h2 h3 h4
  have hki : ((k : Int) == -1) = false := beq_eq_false_iff_ne.2 (by omega)
  have hbs := Below.size hk0
  clear HI
  go_wp2
  go_loopw [5, 6, 7] (fun s5 s6 _ wr => DelRel p w0 gb c n zs s5 s6 wr) (fun _ s6 _ _ => n - (intOf s6).toNat)
  case atStart => exact ⟨k, k + 1, zs, rfl, by go_num, HK.out, hown, hk0⟩
  case round =>
   obtain ⟨i, j, ys, rfl, rfl, hK, howr, hkr⟩ := hrel
   have HK := Lib.hid hK
   clear hK
   have hij := HK.out.1
   have hjz := HK.out.2.1
   rw [HL.out] at hjz
   have hks := Below.size hkr
   have hgw := (howr.lt gb rfl).2
   have hgne : gb ≠ wr.heap.size := by omega
   by_cases hlt : j < n
   ·obtain ⟨⟨c1, c2⟩, f1, f2⟩ := own_pair howr j hlt
    rw [HK.out.high] at c1 c2
    obtain ⟨x1, x2, hx⟩ : ∃ x1 x2, zs.getD j (0, 0) = (x1, x2) := ⟨_, _, rfl⟩
    rw [hx] at c1 c2
    have HX := Lib.hid hx
    clear hx
    simp only at c1 c2
    have hjn : (j : Int) < n := by omega
    have hj0 : (0 : Int) <= j := by omega
    have hcall := fun o => hp (wr.alloc o) x1 x2 (hkr.alloc o)
    simp only [Array.append_empty] at hcall
    cases hv : p (x1, x2) with
    | true =>
      rw [hv] at hcall
      have HV := Lib.hid hv
      clear hv
      go_wp2_with fail
      refine (hcall _).mono ?_
      rintro e w1 ⟨rfl, hk1⟩
      have howr1 := own_keep (howr.alloc _) hk1
      have hkr1 := (hkr.alloc _).trans hk1
      clear hk1 hcall howr hkr c1 c2 f1 f2
      go_wp2
      go_roundw
      case rel => exact ⟨i, j + 1, ys, rfl, by go_num, HK.out.skip (d := (0, 0)) (by rw [HL.out]; exact hlt) (by rw [HX.out]; simp [HV.out]), howr1, hkr1⟩
      case measure => simp [intOf]; omega
    | false =>
      rw [hv] at hcall
      have HV := Lib.hid hv
      clear hv
      go_wp2_with fail
      refine (hcall _).mono ?_
      rintro e w1 ⟨rfl, hk1⟩
      have howr1 := own_keep (howr.alloc _) hk1
      have hkr1 := (hkr.alloc _).trans hk1
      have d1 := (hk1.cell (p := ⟨wr.heap.size, 0, none⟩) (by simp)).trans (show _ = some (Value.int .i64 x1) by simp)
      have d2 := (hk1.cell (p := ⟨wr.heap.size, 1, none⟩) (by simp)).trans (show _ = some (Value.int .i64 x2) by simp)
      clear hk1 hcall howr hkr c1 c2 f1 f2
      obtain ⟨⟨c1, c2⟩, f1, f2⟩ := own_pair howr1 i (by omega)
      have howr2 := own_write howr1 i (x1, x2)
      have hkr2 : Keep w0 ((w1.setCell ⟨gb, i * 2, none⟩ (.int .i64 x1)).setCell ⟨gb, i * 2 + 1, none⟩ (.int .i64 x2)) := (hkr1.setCell (by simp; omega) _).setCell (by simp; omega) _
      clear howr1
      have hi0 : (0 : Int) <= i := by omega
      have hin : (i : Int) < n := by omega
      go_wp2
      go_roundw
      case rel => exact ⟨i + 1, j + 1, ys.set i (x1, x2), by go_num, by go_num, by
       have := HK.out.keep (d := (0, 0)) (by rw [HL.out]; exact hlt) (by rw [HX.out]; simp [HV.out])
       rwa [HX.out] at this, howr2, hkr2⟩
      case measure => simp [intOf]; omega
   ·obtain rfl : j = n := by omega
    have hle : j <= c := by
     rcases howr.2 with ⟨h, _⟩ | ⟨_, cap, _, h, _, _, hle, _⟩
     ·cases h
     ·injection h with _ _ h
      omega
    have hcl : ∀ ty, (Builtin.clear_ #[52] ty #[.slice (some ⟨gb, i * 2, none⟩) (j - i) (c - i)]).run Tryz.prog wr = .ok (.tuple #[]) (wr.setCells gb (i * 2) (Builtin.zeroCells (Value.agg #[.int .i64 0, .int .i64 0]).cells (j - i)).toList) :=
     fun ty => run_clear_rows wr _ _ ty _ 2 Tryz.underlying52 Tryz.zeroValue87 rfl (by intro v hv; simp [Value.cells] at hv; rcases hv with rfl | rfl <;> rfl) gb (i * 2) (j - i) (c - i) (by omega) (by omega)
      (fun t ht => by
       have hl := flat_length encP_len ys
       have hyl := HK.out.2.2.1
       rw [HL.out] at hyl
       rw [howr.cellAt _ (by omega), List.getElem?_eq_getElem (by rw [hl, hyl]; omega)]; rfl)
      (fun t ht => howr.frozenAt _)
    have howr2 := own_setCells (Builtin.zeroCells (Value.agg #[.int .i64 0, .int .i64 0]).cells (j - i)).toList (i * 2) (own_cut howr i (by omega)) (Nat.le_refl _)
    have hkr2 : Keep w0 (wr.setCells gb (i * 2) (Builtin.zeroCells (Value.agg #[.int .i64 0, .int .i64 0]).cells (j - i)).toList) := below_setCells hb1 _ _ hkr
    have HF := Lib.hid (show ys.take i = zs.filter fun r => !p r from by
     have := HK.out.2.2.2.1
     have e : zs.take j = zs := List.take_of_length_le (by rw [HL.out]; exact Nat.le_refl _)
     rwa [e] at this)
    rw [flat_take encP_len] at howr2
    clear howr
    have hi0 : (0 : Int) <= i := by omega
    have hin : (i : Int) <= j := by omega
    have hic : (i : Int) <= c := by omega
    have hjc : (j : Int) <= c := by omega
    go_wp2
    go_ret
    exact ⟨_, i, _, rfl, by rw [<- HF.out]; exact howr2, hkr2⟩
end Go.Proofs.YtaciogcpghbhjaaGreat.Span
