/- Layer 19's law IdentOwn. Conditions: none beyond the law's own. -/
import Derived.Test.YtbcodgmggecmiaaIdL
import Derived.Test.YtbcodgmggecmiaaBoo
namespace Go.Proofs.Ytbcodgmggecmiaa.Ident
set_option linter.unusedVariables false
open Go.ChangeShapes Go.WideShapes Go.ChangeAt Go.RowKit
open Idn

theorem info_int : (Try.prog.info? 3).map (fun i => (i.zero, i.size, i.bytes)) = some (some (.int .i64 0), 1, 8) := by kernel_rfl
theorem own_facts {zs : List Int} {fr : Int} (h0 : 0 ≤ fr) (h1 : fr ≤ 65535) (hl : zs.length ≤ 200) :
    ∃ u m : Int, next zs fr = some u ∧ next (zs ++ [u]) fr = some m ∧ next (zs ++ [u]) (after u) = some m ∧ m ≠ u ∧ 0 ≤ u ∧ u ≤ 65535 ∧ next [] fr = some fr := by
  obtain ⟨j, hj, hf, hu⟩ := found zs fr (by omega)
  have e := next_spec h0 h1 (show j < 65536 by omega) hu hf
  obtain ⟨m, a, b, c, d, f⟩ := own h0 h1 (by omega) e
  have e0 := next_spec (l := []) (fr := fr) (j := 0) h0 h1 (by omega) (fun i hi => by omega) rfl
  rw [it_zero h0 h1] at e0
  exact ⟨_, m, e, a, b, c, d, f, e0⟩
set_option maxHeartbeats 4000000 in
theorem own_any (A : Option Addr) (n c : Nat) (zs : List Int) (fr : Int) (w : World) (hn : n ≤ maxLen) (hA : Ints .i64 w w.heap.size A n zs) (hf0 : 0 ≤ fr) (hf1 : fr ≤ 65535) :
    Calls Try.prog 5 #[.slice A n c, .int .u16 fr] w fun e w' => e = .returned (.bool true) ∧ Keep w w' := by
  have hlen := hA.1
  unfold maxLen at hn
  by_cases h : 200 < n
  · have d : decide ((200 : Int) < (n : Int)) = true := by simp; omega
    clear h hlen
    go_enter Try.func5, Try.ntmps5
    go_wp2_with fail
    refine (awake_any _).mono ?_
    rintro e w2 ⟨rfl, hb2⟩
    go_wp2
    go_ret
    exact ⟨rfl, hb2⟩
  have d : decide ((200 : Int) < (n : Int)) = false := by simp; omega
  obtain ⟨u, m, e1, e2, e3, hne, hu0, hu1, e4⟩ := own_facts (zs := zs) hf0 hf1 (by omega)
  have dne : (m != u) = true := by simp [hne]
  have hT1 : ∀ W : World, Ints .i64 W W.heap.size A n zs → Calls Try.prog 7 #[.slice A n c, .int .i64 fr] W fun e w' => e = .returned (.tuple #[.int .i64 u, .bool true]) ∧ Keep W w' := fun W hW => by
    have h := next_any A n c zs fr W (by omega) hW
    rwa [e1] at h
  have hT2 : ∀ (W : World) (A2 : Option Addr) (c2 : Nat), Ints .i64 W W.heap.size A2 (n + 1) (zs ++ [u]) → Calls Try.prog 7 #[.slice A2 (n + 1) c2, .int .i64 fr] W fun e w' => e = .returned (.tuple #[.int .i64 m, .bool true]) ∧ Keep W w' := fun W A2 c2 hW => by
    have h := next_any A2 (n + 1) c2 (zs ++ [u]) fr W (by omega) hW
    rwa [e2] at h
  have hT3 : ∀ (W : World) (A2 : Option Addr) (c2 : Nat), Ints .i64 W W.heap.size A2 (n + 1) (zs ++ [u]) → Calls Try.prog 7 #[.slice A2 (n + 1) c2, .int .i64 (after u)] W fun e w' => e = .returned (.tuple #[.int .i64 m, .bool true]) ∧ Keep W w' := fun W A2 c2 hW => by
    have h := next_any A2 (n + 1) c2 (zs ++ [u]) (after u) W (by omega) hW
    rwa [e3] at h
  have hT4 : ∀ (W : World), Calls Try.prog 7 #[.slice none 0 0, .int .i64 fr] W fun e w' => e = .returned (.tuple #[.int .i64 fr, .bool true]) ∧ Keep W w' := fun W => by
    have h := next_any none 0 0 [] fr W (by omega) (Ints.none_ _ _ _ _)
    rwa [e4] at h
  have hT5 : ∀ (W : World), Calls Try.prog 9 #[.int .i64 u] W fun e w' => e = .returned (.int .i64 (after u)) ∧ Quiet W w' := fun W => after_any u W (wf_small hu0 hu1)
  have HT1 := Lib.hid hT1
  have HT2 := Lib.hid hT2
  have HT3 := Lib.hid hT3
  have HT4 := Lib.hid hT4
  have HT5 := Lib.hid hT5
  have hn2 : n ≤ 200 := by omega
  clear hT1 hT2 hT3 hT4 hT5 e1 e2 e3 e4 hne hu0 hu1 h hn
  go_enter Try.func5, Try.ntmps5
  go_wp2_with fail
  refine (HT1.out _ hA).mono ?_
  rintro e w1 ⟨rfl, hb1⟩
  have hA1 : Ints .i64 w1 w1.heap.size A n zs := hA.kept hb1
  have k1 : Keep w w1 := hb1
  clear hA hb1
  go_wp2_with (at_builtin; refine append_ints rfl _ _ 22 rfl w1.heap.size 3 .i64 8 Try.underlying22 info_int _ 0 [] rfl (World.ownsRow_lit w1 #[] 0 (Nat.le_refl _) (Nat.zero_le _) rfl) (by simp) w1.heap.size A n c zs rfl (hA1.keep fun p hp => by simp [World.cell?_alloc_lt, hp]) (by unfold maxLen; omega) (by omega) ?_)
  intro v2 w2 hown2 hb2
  replace hown2 : w2.ownsRow w1.heap.size 3 1 v2 n (zs.map (Value.int .i64)) := by simpa using hown2
  have hs2 : w1.heap.size ≤ w2.heap.size := Nat.le_trans (by simp) hb2.size
  go_wp2_with (at_builtin; refine append_new rfl _ _ 22 rfl w1.heap.size 3 (.int .i64 0) 1 8 Try.underlying22 info_int rfl (by decide) _ _ _ rfl hown2 hs2 1 #[.int .i64 u] rfl rfl (by intro x hx; simp at hx; rcases hx with rfl; rfl) (by unfold maxLen; omega) (by omega) ?_)
  intro v3 w3 hown3 hb3
  replace hown3 : w3.ownsRow w1.heap.size 3 1 v3 (n + 1) ((zs ++ [u]).map (Value.int .i64)) := by simpa using hown3
  obtain ⟨A3, c3, rfl⟩ := own_slice hown3
  have hI := Ints.of_own hown3
  have kw3 : Keep w1 w3 := (((Below.refl w1.heap.size w1).alloc (Nat.le_refl _) _).trans hb2).trans hb3
  replace hA1 := hA1.kept kw3
  clear hown2 hown3 hb2 hb3 hs2
  go_wp2_with fail
  refine (HT2.out _ A3 c3 hI).mono ?_
  rintro e w4 ⟨rfl, hb4⟩
  replace hA1 := hA1.kept hb4
  replace k1 := (k1.trans kw3).trans hb4
  clear hI kw3 hb4
  go_wp2_with (at_builtin; refine append_ints rfl _ _ 22 rfl w4.heap.size 3 .i64 8 Try.underlying22 info_int _ 0 [] rfl (World.ownsRow_lit w4 #[] 0 (Nat.le_refl _) (Nat.zero_le _) rfl) (by simp) w4.heap.size A n c zs rfl (hA1.keep fun p hp => by simp [World.cell?_alloc_lt, hp]) (by unfold maxLen; omega) (by omega) ?_)
  intro v2 w5 hown2 hb2
  replace hown2 : w5.ownsRow w4.heap.size 3 1 v2 n (zs.map (Value.int .i64)) := by simpa using hown2
  have hs2 : w4.heap.size ≤ w5.heap.size := Nat.le_trans (by simp) hb2.size
  go_wp2_with (at_builtin; refine append_new rfl _ _ 22 rfl w4.heap.size 3 (.int .i64 0) 1 8 Try.underlying22 info_int rfl (by decide) _ _ _ rfl hown2 hs2 1 #[.int .i64 u] rfl rfl (by intro x hx; simp at hx; rcases hx with rfl; rfl) (by unfold maxLen; omega) (by omega) ?_)
  intro v3 w6 hown3 hb3
  replace hown3 : w6.ownsRow w4.heap.size 3 1 v3 (n + 1) ((zs ++ [u]).map (Value.int .i64)) := by simpa using hown3
  obtain ⟨A3, c3, rfl⟩ := own_slice hown3
  have hI := Ints.of_own hown3
  have kw6 : Keep w4 w6 := (((Below.refl w4.heap.size w4).alloc (Nat.le_refl _) _).trans hb2).trans hb3
  replace hA1 := hA1.kept kw6
  clear hown2 hown3 hb2 hb3 hs2
  go_wp2_with fail
  refine (HT5.out _).mono ?_
  rintro e w7 ⟨rfl, hb7⟩
  replace hI := hI.kept hb7.keep
  go_wp2_with fail
  refine (HT3.out _ A3 c3 hI).mono ?_
  rintro e w8 ⟨rfl, hb8⟩
  replace k1 := ((k1.trans kw6).trans hb7.keep).trans hb8
  clear hI kw6 hb7 hb8 hA1
  go_wp2_with fail
  refine (HT4.out _).mono ?_
  rintro e w9 ⟨rfl, hb9⟩
  replace k1 := k1.trans hb9
  go_wp2_with fail
  refine (awake_any _).mono ?_
  rintro e w10 ⟨rfl, hb10⟩
  go_wp2
  go_ret
  exact ⟨rfl, k1.trans hb10⟩
theorem own_row (A : Option Addr) (n c : Nat) (zs : List Int) (fr : Int) (w : World) (hA : IntsIn .i64 w A n zs) (hn : n ≤ maxLen) (hf : (Lit.int .u16 fr).wf = true) :
    Calls Try.prog 5 #[.slice A n c, .int .u16 fr] w fun e w' => e = .returned (.bool true) ∧ Keep w w' := own_any A n c zs fr w hn hA.1 (in_u16 hf).1 (in_u16 hf).2
end Go.Proofs.Ytbcodgmggecmiaa.Ident
