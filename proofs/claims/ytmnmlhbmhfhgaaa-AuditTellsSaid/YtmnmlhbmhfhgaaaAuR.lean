/- Records in memory; layer 23's reference: among, Right, six, number, less, Same. Conditions: texts and lists of Go's sizes. -/
import Derived.Test.YtmnmlhbmhfhgaaaAuA
import Derived.Test.YtmnmlhbmhfhgaaaTw2
import Derived.Test.YtmnmlhbmhfhgaaaRow2
import Derived.Test.YtmnmlhbmhfhgaaaKept
import Derived.Test.YtmnmlhbmhfhgaaaBx
import Derived.Test.YtmnmlhbmhfhgaaaRows
import Derived.Laws.StructEq
import Derived.Laws.ResultCell
namespace Go.Proofs.Ytmnmlhbmhfhgaaa.Ref23
set_option linter.unusedVariables false
set_option linter.unusedSimpArgs false
set_option maxRecDepth 100000
open Go.ChangeShapes Go.WideShapes Go.ChangeAt Go.RowKit
open Au
theorem ret_bool {b c : Bool} (h : b = c) : Ending.returned (.bool b) = Ending.returned (.bool c) := by rw [h]
theorem ret_int {a b : Int} (h : a = b) : Ending.returned (.int .i64 a) = Ending.returned (.int .i64 b) := by rw [h]
theorem ret_string {a b : ByteArray} (h : a = b) : Ending.returned (.string a) = Ending.returned (.string b) := by rw [h]
def encR (r : RecP) : List Value := [.int .i64 r.sq, .int .i64 r.tk, .int .i64 r.kd, .int .i64 r.cn, .int .i64 r.un, .int .i64 r.fn, .int .i64 r.vd, .int .i64 r.rl, .int .i64 r.id]
theorem encR_len (r : RecP) : (encR r).length = 9 := rfl
theorem encR_one (r : RecP) : ∀ v ∈ encR r, v.oneCell' = true := by
  intro v hv
  simp [encR] at hv
  rcases hv with rfl | rfl | rfl | rfl | rfl | rfl | rfl | rfl | rfl <;> rfl
abbrev aggR (r : RecP) : Value := .agg #[.int .i64 r.sq, .int .i64 r.tk, .int .i64 r.kd, .int .i64 r.cn, .int .i64 r.un, .int .i64 r.fn, .int .i64 r.vd, .int .i64 r.rl, .int .i64 r.id]
theorem info_rec : (Try.prog.info? 23).map (fun i => (i.zero, i.size, i.bytes)) = some (some (.agg #[.int .i64 0, .int .i64 0, .int .i64 0, .int .i64 0, .int .i64 0, .int .i64 0, .int .i64 0, .int .i64 0, .int .i64 0]), 9, 72) := by kernel_rfl
theorem bx9 {W : World} {q : Nat} {r : RecP} (h : Bx W q (encR r)) : W.cell? ⟨q, 0, none⟩ = some (.int .i64 r.sq) ∧ W.cell? ⟨q, 1, none⟩ = some (.int .i64 r.tk) ∧ W.cell? ⟨q, 2, none⟩ = some (.int .i64 r.kd) ∧ W.cell? ⟨q, 3, none⟩ = some (.int .i64 r.cn) ∧ W.cell? ⟨q, 4, none⟩ = some (.int .i64 r.un) ∧ W.cell? ⟨q, 5, none⟩ = some (.int .i64 r.fn) ∧ W.cell? ⟨q, 6, none⟩ = some (.int .i64 r.vd) ∧ W.cell? ⟨q, 7, none⟩ = some (.int .i64 r.rl) ∧ W.cell? ⟨q, 8, none⟩ = some (.int .i64 r.id) :=
  ⟨h.2 0 _ rfl, h.2 1 _ rfl, h.2 2 _ rfl, h.2 3 _ rfl, h.2 4 _ rfl, h.2 5 _ rfl, h.2 6 _ rfl, h.2 7 _ rfl, h.2 8 _ rfl⟩
theorem row_rec {w : World} {B n b off : Nat} {zs : List RecP} (h : Row encR 9 w B (some ⟨b, off, none⟩) n zs) (j : Nat) (hj : j < n) : b < B ∧ w.cell? ⟨b, off + j * 9, none⟩ = some (.int .i64 (zs.getD j zero).sq) ∧ w.cell? ⟨b, off + j * 9 + 1, none⟩ = some (.int .i64 (zs.getD j zero).tk) ∧ w.cell? ⟨b, off + j * 9 + 2, none⟩ = some (.int .i64 (zs.getD j zero).kd) ∧ w.cell? ⟨b, off + j * 9 + 3, none⟩ = some (.int .i64 (zs.getD j zero).cn) ∧ w.cell? ⟨b, off + j * 9 + 4, none⟩ = some (.int .i64 (zs.getD j zero).un) ∧ w.cell? ⟨b, off + j * 9 + 5, none⟩ = some (.int .i64 (zs.getD j zero).fn) ∧ w.cell? ⟨b, off + j * 9 + 6, none⟩ = some (.int .i64 (zs.getD j zero).vd) ∧ w.cell? ⟨b, off + j * 9 + 7, none⟩ = some (.int .i64 (zs.getD j zero).rl) ∧ w.cell? ⟨b, off + j * 9 + 8, none⟩ = some (.int .i64 (zs.getD j zero).id) := by
  obtain ⟨hb, hc⟩ := h.cells (by omega)
  have hl := h.1
  have hj' : j < zs.length := by omega
  have e : zs.getD j zero = zs[j] := by rw [List.getD_eq_getElem?_getD, List.getElem?_eq_getElem hj']; rfl
  rw [e]
  exact ⟨hb, hc j hj' 0 _ rfl, hc j hj' 1 _ rfl, hc j hj' 2 _ rfl, hc j hj' 3 _ rfl, hc j hj' 4 _ rfl, hc j hj' 5 _ rfl, hc j hj' 6 _ rfl, hc j hj' 7 _ rfl, hc j hj' 8 _ rfl⟩
/-- '==' of two records that are one. -/
theorem eqR (r : RecP) (w : World) : (Op.equalIn 10000 23 (aggR r) (aggR r)).run Try.prog w = .ok true w := by
  have u3 := Try.underlying3
  have a3 := Try.isAgg3
  have z3 := Try.sizeOf3
  have hS : Try.prog.underlying 23 = some (.struct (Try.prog.fieldsOf 23)) := by kernel_rfl
  have hp : Try.prog.stoodInHeld 23 = false := by kernel_rfl
  rw [show (10000 : Nat) = 9999 + 1 from rfl, run_equalIn_agg w 9999 23 _ _ hS hp]
  simp only [Program.fieldsOf, Try.underlying23]
  go_simp
theorem guardR : Try.prog.eqGuardType Try.prog.depth 23 = false := by kernel_rfl
theorem among_any (n lo hi : Int) (w : World) :
    Calls Try.prog 24 #[.int .i64 n, .int .i64 lo, .int .i64 hi] w fun e w' => e = .returned (.bool (among n lo hi)) ∧ Quiet w w' := by
  have HE := Lib.hid (show among n lo hi = (decide (lo ≤ n) && decide (n ≤ hi)) from rfl)
  cases d1 : decide (lo ≤ n)
  · have HD := Lib.hid d1
    go_enter Try.func24, Try.ntmps24
    go_wp2
    go_ret
    exact ⟨ret_bool (by rw [HE.out, HD.out]; rfl), Quiet.refl _⟩
  · have HD := Lib.hid d1
    cases d2 : decide (n ≤ hi)
    · have HD2 := Lib.hid d2
      go_enter Try.func24, Try.ntmps24
      go_wp2
      go_ret
      exact ⟨ret_bool (by rw [HE.out, HD.out, HD2.out]; rfl), Quiet.refl _⟩
    · have HD2 := Lib.hid d2
      go_enter Try.func24, Try.ntmps24
      go_wp2
      go_ret
      exact ⟨ret_bool (by rw [HE.out, HD.out, HD2.out]; rfl), Quiet.refl _⟩
set_option maxHeartbeats 4000000 in
theorem right_any (r : RecP) (w : World) :
    Calls Try.prog 13 #[aggR r] w fun e w' => e = .returned (.bool (right r)) ∧ Keep w w' := by
  obtain ⟨X, hX⟩ : ∃ X, X = w.alloc (.cells #[.int .i64 r.sq, .int .i64 r.tk, .int .i64 r.kd, .int .i64 r.cn, .int .i64 r.un, .int .i64 r.fn, .int .i64 r.vd, .int .i64 r.rl, .int .i64 r.id] 23) := ⟨_, rfl⟩
  have k0 : Keep w X := by rw [hX]; exact (Keep.refl w).alloc _
  have B0 : Hid (Bx X w.heap.size (encR r)) := Lib.hid (by rw [hX]; exact Bx.newq rfl)
  obtain ⟨b0, hb0⟩ : ∃ b, b = among r.sq 0 1099511627776 := ⟨_, rfl⟩
  have H0 := Lib.hid fun W => among_any r.sq 0 1099511627776 W
  rw [← hb0] at H0
  obtain ⟨b1, hb1⟩ : ∃ b, b = among r.tk 0 1099511627776 := ⟨_, rfl⟩
  have H1 := Lib.hid fun W => among_any r.tk 0 1099511627776 W
  rw [← hb1] at H1
  obtain ⟨b2, hb2⟩ : ∃ b, b = among r.kd 1 4 := ⟨_, rfl⟩
  have H2 := Lib.hid fun W => among_any r.kd 1 4 W
  rw [← hb2] at H2
  obtain ⟨b3, hb3⟩ : ∃ b, b = among r.cn (-1) 15 := ⟨_, rfl⟩
  have H3 := Lib.hid fun W => among_any r.cn (-1) 15 W
  rw [← hb3] at H3
  obtain ⟨b4, hb4⟩ : ∃ b, b = among r.un 0 255 := ⟨_, rfl⟩
  have H4 := Lib.hid fun W => among_any r.un 0 255 W
  rw [← hb4] at H4
  obtain ⟨b5, hb5⟩ : ∃ b, b = among r.fn 0 255 := ⟨_, rfl⟩
  have H5 := Lib.hid fun W => among_any r.fn 0 255 W
  rw [← hb5] at H5
  obtain ⟨b6, hb6⟩ : ∃ b, b = among r.vd 0 255 := ⟨_, rfl⟩
  have H6 := Lib.hid fun W => among_any r.vd 0 255 W
  rw [← hb6] at H6
  obtain ⟨b7, hb7⟩ : ∃ b, b = among r.rl (-1) 63 := ⟨_, rfl⟩
  have H7 := Lib.hid fun W => among_any r.rl (-1) 63 W
  rw [← hb7] at H7
  obtain ⟨b8, hb8⟩ : ∃ b, b = among r.id 0 65535 := ⟨_, rfl⟩
  have H8 := Lib.hid fun W => among_any r.id 0 65535 W
  rw [← hb8] at H8
  have HE := Lib.hid (show right r = (b0 && (b1 && (b2 && (b3 && (b4 && (b5 && (b6 && (b7 && b8)))))))) by rw [hb0, hb1, hb2, hb3, hb4, hb5, hb6, hb7, hb8]; rfl)
  have HX := Lib.hid hX
  clear hX hb0 hb1 hb2 hb3 hb4 hb5 hb6 hb7 hb8
  obtain ⟨c0, c1, c2, c3, c4, c5, c6, c7, c8⟩ := bx9 B0.out
  go_enter Try.func13, Try.ntmps13
  go_wp2_with fail
  rw [← HX.out]
  refine (H0.out _).mono ?_
  rintro e v0 ⟨rfl, q⟩
  have t0 := q.keep
  clear c0 c1 c2 c3 c4 c5 c6 c7 c8 q
  obtain ⟨c0, c1, c2, c3, c4, c5, c6, c7, c8⟩ := bx9 (B0.out.kept t0)
  cases b0
  · go_wp2
    go_ret
    exact ⟨ret_bool (by rw [HE.out]; rfl), k0.trans t0⟩
  go_wp2_with fail
  refine (H1.out _).mono ?_
  rintro e v1 ⟨rfl, q⟩
  have t1 := t0.trans q.keep
  clear c0 c1 c2 c3 c4 c5 c6 c7 c8 q
  obtain ⟨c0, c1, c2, c3, c4, c5, c6, c7, c8⟩ := bx9 (B0.out.kept t1)
  cases b1
  · go_wp2
    go_ret
    exact ⟨ret_bool (by rw [HE.out]; rfl), k0.trans t1⟩
  go_wp2_with fail
  refine (H2.out _).mono ?_
  rintro e v2 ⟨rfl, q⟩
  have t2 := t1.trans q.keep
  clear c0 c1 c2 c3 c4 c5 c6 c7 c8 q
  obtain ⟨c0, c1, c2, c3, c4, c5, c6, c7, c8⟩ := bx9 (B0.out.kept t2)
  cases b2
  · go_wp2
    go_ret
    exact ⟨ret_bool (by rw [HE.out]; rfl), k0.trans t2⟩
  go_wp2_with fail
  refine (H3.out _).mono ?_
  rintro e v3 ⟨rfl, q⟩
  have t3 := t2.trans q.keep
  clear c0 c1 c2 c3 c4 c5 c6 c7 c8 q
  obtain ⟨c0, c1, c2, c3, c4, c5, c6, c7, c8⟩ := bx9 (B0.out.kept t3)
  cases b3
  · go_wp2
    go_ret
    exact ⟨ret_bool (by rw [HE.out]; rfl), k0.trans t3⟩
  go_wp2_with fail
  refine (H4.out _).mono ?_
  rintro e v4 ⟨rfl, q⟩
  have t4 := t3.trans q.keep
  clear c0 c1 c2 c3 c4 c5 c6 c7 c8 q
  obtain ⟨c0, c1, c2, c3, c4, c5, c6, c7, c8⟩ := bx9 (B0.out.kept t4)
  cases b4
  · go_wp2
    go_ret
    exact ⟨ret_bool (by rw [HE.out]; rfl), k0.trans t4⟩
  go_wp2_with fail
  refine (H5.out _).mono ?_
  rintro e v5 ⟨rfl, q⟩
  have t5 := t4.trans q.keep
  clear c0 c1 c2 c3 c4 c5 c6 c7 c8 q
  obtain ⟨c0, c1, c2, c3, c4, c5, c6, c7, c8⟩ := bx9 (B0.out.kept t5)
  cases b5
  · go_wp2
    go_ret
    exact ⟨ret_bool (by rw [HE.out]; rfl), k0.trans t5⟩
  go_wp2_with fail
  refine (H6.out _).mono ?_
  rintro e v6 ⟨rfl, q⟩
  have t6 := t5.trans q.keep
  clear c0 c1 c2 c3 c4 c5 c6 c7 c8 q
  obtain ⟨c0, c1, c2, c3, c4, c5, c6, c7, c8⟩ := bx9 (B0.out.kept t6)
  cases b6
  · go_wp2
    go_ret
    exact ⟨ret_bool (by rw [HE.out]; rfl), k0.trans t6⟩
  go_wp2_with fail
  refine (H7.out _).mono ?_
  rintro e v7 ⟨rfl, q⟩
  have t7 := t6.trans q.keep
  clear c0 c1 c2 c3 c4 c5 c6 c7 c8 q
  obtain ⟨c0, c1, c2, c3, c4, c5, c6, c7, c8⟩ := bx9 (B0.out.kept t7)
  cases b7
  · go_wp2
    go_ret
    exact ⟨ret_bool (by rw [HE.out]; rfl), k0.trans t7⟩
  go_wp2_with fail
  refine (H8.out _).mono ?_
  rintro e v8 ⟨rfl, q⟩
  have t8 := t7.trans q.keep
  clear c0 c1 c2 c3 c4 c5 c6 c7 c8 q
  obtain ⟨c0, c1, c2, c3, c4, c5, c6, c7, c8⟩ := bx9 (B0.out.kept t8)
  go_wp2
  go_ret
  exact ⟨ret_bool (by rw [HE.out]; rfl), k0.trans t8⟩
set_option maxHeartbeats 1000000 in
theorem six_any (n : Int) (w : World) (h0 : 0 ≤ n) (h1 : n ≤ 1099511627776) :
    Calls Try.prog 17 #[.int .i64 n] w fun e w' => e = .returned (.string (st (six n))) ∧ Keep w w' := by
  have hp : ∀ z : Int, 0 ≤ z → z ≤ 65535 → Tw.put [z] = Tw.two z := fun z a b => by
    unfold Tw.put
    rw [if_pos (by simp [Tw.allIn, Tw.inR, a, b])]
    simp [Tw.bytes]
  have e1 := hp (n / 65536 / 65536) (by omega) (by omega)
  have e2 := hp (n / 65536 % 65536) (by omega) (by omega)
  have e3 := hp (n % 65536) (by omega) (by omega)
  have H1 := Lib.hid fun W => Ref1.of_any (n / 65536 / 65536) W
  have H2 := Lib.hid fun W => Ref1.of_any (n / 65536 % 65536) W
  have H3 := Lib.hid fun W => Ref1.of_any (n % 65536) W
  rw [e1] at H1
  rw [e2] at H2
  rw [e3] at H3
  obtain ⟨s1, hs1⟩ : ∃ s, s = Tw.two (n / 65536 / 65536) := ⟨_, rfl⟩
  obtain ⟨s2, hs2⟩ : ∃ s, s = Tw.two (n / 65536 % 65536) := ⟨_, rfl⟩
  obtain ⟨s3, hs3⟩ : ∃ s, s = Tw.two (n % 65536) := ⟨_, rfl⟩
  have l1 : s1.length = 2 := by rw [hs1]; rfl
  have l2 : s2.length = 2 := by rw [hs2]; rfl
  have l3 : s3.length = 2 := by rw [hs3]; rfl
  have a1 := add_st (P := Try.prog) s1 s2 (by omega)
  have a2 := add_st (P := Try.prog) (s1 ++ s2) s3 (by rw [List.length_append]; omega)
  have HE := Lib.hid (show six n = s1 ++ s2 ++ s3 by unfold six; rw [hs1, hs2, hs3, List.append_assoc])
  rw [← hs1] at H1
  rw [← hs2] at H2
  rw [← hs3] at H3
  clear hp e1 e2 e3 hs1 hs2 hs3 l1 l2 l3
  go_enter Try.func17, Try.ntmps17
  go_wp2_with fail
  refine (H1.out _).mono ?_
  rintro e w1 ⟨rfl, k1⟩
  go_wp2_with fail
  refine (H2.out _).mono ?_
  rintro e w2 ⟨rfl, k2⟩
  go_wp2_with fail
  refine (H3.out _).mono ?_
  rintro e w3 ⟨rfl, k3⟩
  go_wp2
  go_ret
  exact ⟨ret_string (by rw [HE.out, List.append_assoc]), (Keep.trans k1 k2).trans k3⟩
set_option maxHeartbeats 1000000 in
theorem number_any (s : ByteArray) (i : Int) (w : World) (hs : s.size = 20) (h0 : 0 ≤ i) (h1 : i ≤ 14) :
    Calls Try.prog 20 #[.string s, .int .i64 i] w fun e w' => e = .returned (.int .i64 (num6 s i)) ∧ Quiet w w' := by
  have hg : ∀ j : Int, 0 ≤ j → j ≤ 18 → Tw.get s j = Tw.num s j := fun j a b => by
    unfold Tw.get
    rw [if_pos (by simp [Tw.getOk, hs]; omega)]
  have H1 := Lib.hid fun W => Ref1.at_any s i W (by unfold maxLen; omega)
  have H2 := Lib.hid fun W => Ref1.at_any s (i + 2) W (by unfold maxLen; omega)
  have H3 := Lib.hid fun W => Ref1.at_any s (i + 4) W (by unfold maxLen; omega)
  rw [hg i (by omega) (by omega)] at H1
  rw [hg (i + 2) (by omega) (by omega)] at H2
  rw [hg (i + 4) (by omega) (by omega)] at H3
  have r1 := Tw.num_range s i
  have r2 := Tw.num_range s (i + 2)
  have r3 := Tw.num_range s (i + 4)
  have HE := Lib.hid (show num6 s i = (Tw.num s i * 65536 + Tw.num s (i + 2)) * 65536 + Tw.num s (i + 4) from rfl)
  obtain ⟨z1, hz1⟩ : ∃ z, z = Tw.num s i := ⟨_, rfl⟩
  obtain ⟨z2, hz2⟩ : ∃ z, z = Tw.num s (i + 2) := ⟨_, rfl⟩
  obtain ⟨z3, hz3⟩ : ∃ z, z = Tw.num s (i + 4) := ⟨_, rfl⟩
  rw [← hz1] at H1 r1 HE
  rw [← hz2] at H2 r2 HE
  rw [← hz3] at H3 r3 HE
  obtain ⟨p1, p2⟩ := r1
  obtain ⟨p3, p4⟩ := r2
  obtain ⟨p5, p6⟩ := r3
  have w1 : wrap64 (z1 * 65536) = z1 * 65536 := by unfold wrap64; omega
  have w2 : wrap64 (z1 * 65536 + z2) = z1 * 65536 + z2 := by unfold wrap64; omega
  have w3 : wrap64 ((z1 * 65536 + z2) * 65536) = (z1 * 65536 + z2) * 65536 := by unfold wrap64; omega
  have w4 : wrap64 ((z1 * 65536 + z2) * 65536 + z3) = (z1 * 65536 + z2) * 65536 + z3 := by unfold wrap64; omega
  have w5 : wrap64 (i + 2) = i + 2 := by unfold wrap64; omega
  have w6 : wrap64 (i + 4) = i + 4 := by unfold wrap64; omega
  clear hg hz1 hz2 hz3 hs p1 p2 p3 p4 p5 p6
  go_enter Try.func20, Try.ntmps20
  go_wp2_with fail
  refine (H1.out _).mono ?_
  rintro e v1 ⟨rfl, k1⟩
  go_wp2_with fail
  refine (H2.out _).mono ?_
  rintro e v2 ⟨rfl, k2⟩
  go_wp2_with fail
  refine (H3.out _).mono ?_
  rintro e v3 ⟨rfl, k3⟩
  go_wp2
  go_ret
  exact ⟨ret_int (by rw [HE.out]; exact w4), (k1.trans k2).trans k3⟩
theorem less_any (b : Int) (w : World) (h0 : 0 ≤ b) (h1 : b ≤ 255) :
    Calls Try.prog 21 #[.int .u8 b] w fun e w' => e = .returned (.int .i64 (less b)) ∧ Quiet w w' := by
  by_cases h : b = 255
  · have d : (b == 255) = true := by simp [h]
    have HE := Lib.hid (show less b = -1 by unfold less; rw [if_pos h])
    clear h
    go_enter Try.func21, Try.ntmps21
    go_wp2
    go_ret
    exact ⟨ret_int HE.out.symm, Quiet.refl _⟩
  · have d : (b == 255) = false := by simp [h]
    have HE := Lib.hid (show less b = b by unfold less; rw [if_neg h])
    clear h
    go_enter Try.func21, Try.ntmps21
    go_wp2
    go_ret
    exact ⟨ret_int HE.out.symm, Quiet.refl _⟩
set_option maxHeartbeats 2000000 in
theorem same_any (A B : Option Addr) (n m c d : Nat) (zs : List RecP) (w : World) (hn : n ≤ maxLen) (hA : Row encR 9 w w.heap.size A n zs) (hB : Row encR 9 w w.heap.size B m zs) :
    Calls Try.prog 14 #[.slice A n c, .slice B m d] w fun e w' => e = .returned (.bool true) ∧ Quiet w w' := by
  obtain rfl : n = m := by have h1 := hA.1; have h2 := hB.1; omega
  have hgd := guardR
  unfold maxLen at hn
  go_enter Try.func14, Try.ntmps14
  go_wp2
  go_loopw [5] (fun i wr => ∃ k : Nat, k ≤ n ∧ i = .int .i64 k ∧ Quiet w wr) (fun i _ => n - (intOf i).toNat)
  case atStart => exact ⟨0, Nat.zero_le _, rfl, Quiet.refl _⟩
  case round =>
    obtain ⟨k, hk, rfl, hq⟩ := hrel
    by_cases hlt : k < n
    · obtain ⟨b, off, rfl, _⟩ := hA.addr (by omega)
      obtain ⟨b', off', rfl, _⟩ := hB.addr (by omega)
      obtain ⟨_, x0, x1, x2, x3, x4, x5, x6, x7, x8⟩ := row_rec hA k hlt
      obtain ⟨_, y0, y1, y2, y3, y4, y5, y6, y7, y8⟩ := row_rec hB k hlt
      replace x0 := (hq.cell _).trans x0
      replace x1 := (hq.cell _).trans x1
      replace x2 := (hq.cell _).trans x2
      replace x3 := (hq.cell _).trans x3
      replace x4 := (hq.cell _).trans x4
      replace x5 := (hq.cell _).trans x5
      replace x6 := (hq.cell _).trans x6
      replace x7 := (hq.cell _).trans x7
      replace x8 := (hq.cell _).trans x8
      replace y0 := (hq.cell _).trans y0
      replace y1 := (hq.cell _).trans y1
      replace y2 := (hq.cell _).trans y2
      replace y3 := (hq.cell _).trans y3
      replace y4 := (hq.cell _).trans y4
      replace y5 := (hq.cell _).trans y5
      replace y6 := (hq.cell _).trans y6
      replace y7 := (hq.cell _).trans y7
      replace y8 := (hq.cell _).trans y8
      generalize zs.getD k zero = r at x0 x1 x2 x3 x4 x5 x6 x7 x8 y0 y1 y2 y3 y4 y5 y6 y7 y8
      have he := eqR r
      have hltz : (k : Int) < n := by omega
      have hk0 : (0 : Int) ≤ k := by omega
      clear hA hB
      go_wp2
      go_quiet (fail)
      go_wp2
      exact ⟨⟨k + 1, by omega, by go_num, hq.drewN _⟩, by simp [intOf]; omega⟩
    · obtain rfl : k = n := by omega
      go_wp2
      go_ret
      exact ⟨rfl, hq⟩
end Go.Proofs.Ytmnmlhbmhfhgaaa.Ref23
