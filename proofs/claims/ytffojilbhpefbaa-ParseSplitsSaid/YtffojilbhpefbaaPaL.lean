/- Layer 12's laws: the example, and ParseDeep. Conditions: none beyond the law's own. -/
import Derived.Test.YtffojilbhpefbaaPaDev
import Derived.Test.YtffojilbhpefbaaOpen
namespace Go.Proofs.Ytffojilbhpefbaa.Parse
set_option linter.unusedVariables false
open Go.ChangeShapes Go.WideShapes Go.ChangeAt Go.RowKit
open Tr
def ex1 : List UInt8 := [97, 108, 108, 111, 119, 32, 119, 104, 101, 110, 32, 102, 117, 110, 99, 32, 51, 32, 111, 114, 32, 102, 117, 110, 99, 32, 52, 59, 32, 100, 101, 110, 121, 59]
def ex2 : List UInt8 := [97, 108, 108, 111, 119, 10, 119, 104, 101, 110, 32, 102, 117, 110, 99, 59]
def orX : ExprP := .mk 4 0 [] 0 0 [.mk 1 3 [(3, 3)] 0 0 [], .mk 1 3 [(4, 4)] 0 0 []]
theorem ex1_toks : Lx.go ex1 1 = .ok [Pa.tw 1 [97, 108, 108, 111, 119], Pa.tw 1 [119, 104, 101, 110], Pa.tw 1 [102, 117, 110, 99], ⟨2, st [51], 3, 1⟩, Pa.tw 1 [111, 114], Pa.tw 1 [102, 117, 110, 99], ⟨2, st [52], 4, 1⟩, Pa.tm 1 59, Pa.tw 1 [100, 101, 110, 121], Pa.tm 1 59] := by
  rw [Lx.goF_eq 40 _ _ (by decide)]; rfl
theorem ex2_toks : Lx.go ex2 1 = .ok [Pa.tw 1 [97, 108, 108, 111, 119], Pa.tw 2 [119, 104, 101, 110], Pa.tw 2 [102, 117, 110, 99], Pa.tm 2 59] := by
  rw [Lx.goF_eq 40 _ _ (by decide)]; rfl
theorem ex1_text : Pa.text ex1 = ([⟨true, orX, 0, 0, 0, 1⟩, ⟨false, zero, 0, 0, 0, 1⟩], 0, 0) := by
  rw [Pa.text_mk (by decide) ex1_toks]; rfl
theorem ex2_text : Pa.text ex2 = ([], 2, 7) := by
  rw [Pa.text_mk (by decide) ex2_toks]; rfl
theorem parse_to (s : ByteArray) (x : List RuleP × Int × Int) (h : Pa.text (bl s) = x) (w : World) (hs : s.size ≤ maxLen) : Calls Try.prog 10 #[.string s] w (Pa.RetRules x w) := h ▸ text_any s w hs
set_option maxHeartbeats 2000000 in
theorem awake_any (w : World) : Calls Try.prog 8 #[] w fun e w' => e = .returned (.bool true) ∧ Keep w w' := by
  have C1 := Lib.hid (fun W => parse_to (st ex1) _ ex1_text W (by decide))
  have C2 := Lib.hid (fun W => parse_to (st ex2) _ ex2_text W (by decide))
  go_enter Try.func8, Try.ntmps8
  go_wp2_with fail
  refine (C1.out w).mono ?_
  rintro e w1 ⟨A, c, rfl, hR, k1⟩
  go_wp2_with fail
  refine (C2.out w1).mono ?_
  rintro e w2 ⟨A2, c2, rfl, _, k2⟩
  replace hR := hR.kept k2
  replace k1 := k1.trans k2
  obtain ⟨b, off, rfl, _⟩ := hR.addr (by decide)
  obtain ⟨_, RA, OA, rc, oc, ⟨a0, a1, _, _, _, _, a6, _⟩, _⟩ := hR.elem 0 (by decide)
  obtain ⟨_, RA', OA', rc', oc', ⟨_, b1, _⟩, _⟩ := hR.elem 1 (by decide)
  change w2.cell? ⟨b, off + 0 * 11, none⟩ = some (.bool true) at a0
  change w2.cell? ⟨b, off + 0 * 11 + 1, none⟩ = some (.int .i64 4) at a1
  change w2.cell? ⟨b, off + 0 * 11 + 6, none⟩ = some (.slice OA 2 oc) at a6
  change w2.cell? ⟨b, off + 1 * 11 + 1, none⟩ = some (.int .i64 0) at b1
  simp only [Nat.zero_mul, Nat.add_zero, Nat.one_mul] at a0 a1 a6 b1
  clear hR
  go_wp2
  go_ret
  exact ⟨rfl, k1⟩
def encB (b : Bool) : List Value := [.bool b]
theorem encB_len (b : Bool) : (encB b).length = 1 := rfl
/-- A slice of bools that came in. -/
def BoolsIn (w : World) (A : Option Addr) (n : Nat) (zs : List Bool) : Prop := Row encB 1 w w.heap.size A n zs
theorem opens_bools : Opens Try.prog 32 fun W cs => ∃ A n c zs, cs = [.slice A n c] ∧ n ≤ c ∧ c ≤ maxLen ∧ BoolsIn W A n zs :=
  (opens_slice Try.underlying32 (show Try.prog.cellsOf 4 = 1 by kernel_rfl) (by omega) (opens_bool Try.underlying4)).mono fun W cs ⟨A, n, c, hcs, hn, hc, hE⟩ => by
    rcases Nat.eq_zero_or_pos n with rfl | hp
    · exact ⟨A, 0, c, [], hcs, hn, hc, Row.none_ _ _ _⟩
    · obtain ⟨b, off, hA, hb, hE⟩ := hE hp
      obtain ⟨l, hl, hls⟩ := choose_list n (fun i (z : Bool) => W.cell? ⟨b, off + i * 1, none⟩ = some (.bool z)) (fun i hi => by
        obtain ⟨es, hl, hc, z, hz⟩ := hE i hi
        subst hz
        exact ⟨z, by simpa using hc 0 (by omega)⟩)
      refine ⟨A, n, c, l, hcs, hn, hc, hl, fun _ => ⟨b, off, hA, hb, fun j hj i v hv => ?_⟩⟩
      match i, hv with
      | 0, hv => simp [encB] at hv; subst hv; exact hls j _ (List.getElem?_eq_getElem hj)
      | i + 1, hv => simp [encB] at hv
theorem opens_take (l : List Bool) (k : Nat) (h : k < l.length) (b : Bool) (hb : l[k] = b) : Pa.opens (l.take (k + 1)) = Pa.opens (l.take k) ++ (if b then [110, 111, 116, 32] else [40]) ∧ Pa.closes (l.take (k + 1)) = Pa.closes (l.take k) ++ (if b then [] else [41]) := by
  rw [List.take_succ_eq_append_getElem h, hb]
  simp [Pa.opens, Pa.closes]
theorem opens_len (l : List Bool) : (Pa.opens l).length ≤ 4 * l.length ∧ (Pa.closes l).length ≤ l.length := by
  induction l with
  | nil => exact ⟨Nat.le_refl _, Nat.le_refl _⟩
  | cons b l ih =>
    cases b
    · show ((40 : UInt8) :: Pa.opens l).length ≤ _ ∧ ((41 : UInt8) :: Pa.closes l).length ≤ _
      simp only [List.length_cons]; omega
    · show ([110, 111, 116, 32] ++ Pa.opens l : List UInt8).length ≤ _ ∧ (Pa.closes l).length ≤ _
      simp only [List.length_append, List.length_cons, List.length_nil]; omega
set_option maxHeartbeats 4000000 in
theorem deep_any (A : Option Addr) (n c : Nat) (l : List Bool) (w : World) (hA : BoolsIn w A n l) :
    Calls Try.prog 4 #[.slice A n c] w fun e w' => e = .returned (.bool true) ∧ Keep w w' := by
  have hl : l.length = n := hA.1
  by_cases h100 : 100 < n
  · have d : decide ((n : Int) > 100) = true := by simp; omega
    have CW := Lib.hid (awake_any w)
    clear hA hl h100
    go_enter Try.func4, Try.ntmps4
    go_wp2_with fail
    refine CW.out.mono ?_
    rintro e w1 ⟨rfl, k1⟩
    go_wp2
    go_ret
    exact ⟨rfl, k1⟩
  · have d : decide ((n : Int) > 100) = false := by simp; omega
    have hn : n ≤ 100 := by omega
    have CT := Lib.hid (fun W => parse_to (st (Pa.nest l)) _ (Pa.deep_text l (by have := Pa.nest_len l; omega)) W (by rw [st_size]; have := Pa.nest_len l; unfold maxLen; omega))
    have CW := Lib.hid (fun W => awake_any W)
    go_enter Try.func4, Try.ntmps4
    go_wp2
    go_loopw [3, 4, 5] (fun sv ev iv wr => ∃ k : Nat, k ≤ n ∧ iv = .int .i64 k ∧ sv = .string (st (Pa.opens (l.take k))) ∧ ev = .string (st (Pa.closes (l.take k))) ∧ Quiet w wr) (fun _ _ iv _ => n - (intOf iv).toNat)
    case atStart => exact ⟨0, Nat.zero_le _, rfl, rfl, rfl, Quiet.refl _⟩
    case round =>
      obtain ⟨k, hk, rfl, rfl, rfl, hq⟩ := hrel
      have hol := opens_len (l.take k)
      rw [List.length_take] at hol
      by_cases hlt : k < n
      · have hltz : (k : Int) < n := by omega
        have hk0 : (0 : Int) ≤ k := by omega
        obtain ⟨b, off, rfl, _⟩ := hA.addr (by omega)
        obtain ⟨_, hc⟩ := hA.cells (by omega)
        have x0 : wr.cell? ⟨b, off + k, none⟩ = some (.bool l[k]) := by
          have := hc k (by omega) 0 _ rfl
          rw [Nat.mul_one, Nat.add_zero] at this
          exact (hq.cell _).trans this
        obtain ⟨z, hz⟩ : ∃ z, l[k] = z := ⟨_, rfl⟩
        obtain ⟨o1, o2⟩ := opens_take l k (by omega) z hz
        rw [hz] at x0
        obtain ⟨po, hpo⟩ : ∃ p, p = Pa.opens (l.take k) := ⟨_, rfl⟩
        obtain ⟨pc, hpc⟩ : ∃ p, p = Pa.closes (l.take k) := ⟨_, rfl⟩
        rw [← hpo] at o1 hol
        rw [← hpc] at o2 hol
        rw [← hpo, ← hpc]
        have HO := Lib.hid (And.intro o1 o2)
        clear o1 o2 hz hpo hpc hc
        cases z
        · have a1 : ∀ W : World, (Op.stringOp .add (st po) ⟨#[40]⟩).run Try.prog W = .ok (.string (st (po ++ [40]))) W := add_st po [40] (by simp; omega)
          have a2 : ∀ W : World, (Op.stringOp .add (st pc) ⟨#[41]⟩).run Try.prog W = .ok (.string (st (pc ++ [41]))) W := add_st pc [41] (by simp; omega)
          obtain ⟨qo, hqo⟩ : ∃ p, p = po ++ [40] := ⟨_, rfl⟩
          obtain ⟨qc, hqc⟩ : ∃ p, p = pc ++ [41] := ⟨_, rfl⟩
          rw [← hqo] at a1
          rw [← hqc] at a2
          have HQ := Lib.hid (show Pa.opens (l.take (k + 1)) = qo ∧ Pa.closes (l.take (k + 1)) = qc by rw [HO.out.1, HO.out.2, hqo, hqc]; exact ⟨rfl, rfl⟩)
          clear hqo hqc
          go_wp2
          refine ⟨⟨k + 1, by omega, by go_num, by rw [HQ.out.1], by rw [HQ.out.2], by first | exact hq | exact hq.drewN _ | exact hq.drew⟩, by simp [intOf]; omega⟩
        · have a1 : ∀ W : World, (Op.stringOp .add (st po) ⟨#[110, 111, 116, 32]⟩).run Try.prog W = .ok (.string (st (po ++ [110, 111, 116, 32]))) W := add_st po [110, 111, 116, 32] (by simp; omega)
          obtain ⟨qo, hqo⟩ : ∃ p, p = po ++ [110, 111, 116, 32] := ⟨_, rfl⟩
          rw [← hqo] at a1
          have HQ := Lib.hid (show Pa.opens (l.take (k + 1)) = qo ∧ Pa.closes (l.take (k + 1)) = pc by rw [HO.out.1, HO.out.2, hqo]; exact ⟨rfl, by simp⟩)
          clear hqo
          go_wp2
          refine ⟨⟨k + 1, by omega, by go_num, by rw [HQ.out.1], by rw [HQ.out.2], by first | exact hq | exact hq.drewN _ | exact hq.drew⟩, by simp [intOf]; omega⟩
      · obtain rfl : k = n := by omega
        rw [List.take_of_length_le (by omega)] at hol ⊢
        obtain ⟨po, hpo⟩ : ∃ p, p = Pa.opens l := ⟨_, rfl⟩
        obtain ⟨pc, hpc⟩ : ∃ p, p = Pa.closes l := ⟨_, rfl⟩
        rw [← hpo, ← hpc] at hol ⊢
        obtain ⟨p1, hp1⟩ : ∃ p : List UInt8, p = [100, 101, 110, 121, 32, 119, 104, 101, 110, 32] ++ po := ⟨_, rfl⟩
        obtain ⟨p2, hp2⟩ : ∃ p : List UInt8, p = p1 ++ [102, 117, 110, 99, 32, 51] := ⟨_, rfl⟩
        obtain ⟨p3, hp3⟩ : ∃ p, p = p2 ++ pc := ⟨_, rfl⟩
        obtain ⟨p4, hp4⟩ : ∃ p, p = p3 ++ [59] := ⟨_, rfl⟩
        have a1 : ∀ W : World, (Op.stringOp .add ⟨#[100, 101, 110, 121, 32, 119, 104, 101, 110, 32]⟩ (st po)).run Try.prog W = .ok (.string (st p1)) W := by rw [hp1]; exact add_st _ po (by simp; omega)
        have l1 : p1.length ≤ 500 := by rw [hp1]; simp; omega
        have a2 : ∀ W : World, (Op.stringOp .add (st p1) ⟨#[102, 117, 110, 99, 32, 51]⟩).run Try.prog W = .ok (.string (st p2)) W := by rw [hp2]; exact add_st _ _ (by simp; omega)
        have l2 : p2.length ≤ 600 := by rw [hp2]; simp; omega
        have a3 : ∀ W : World, (Op.stringOp .add (st p2) (st pc)).run Try.prog W = .ok (.string (st p3)) W := by rw [hp3]; exact add_st _ _ (by omega)
        have l3 : p3.length ≤ 800 := by rw [hp3]; simp; omega
        have a4 : ∀ W : World, (Op.stringOp .add (st p3) ⟨#[59]⟩).run Try.prog W = .ok (.string (st p4)) W := by rw [hp4]; exact add_st _ _ (by simp; omega)
        have HP := Lib.hid (show p4 = Pa.nest l by rw [hp4, hp3, hp2, hp1, hpo, hpc]; simp [Pa.nest])
        clear hp1 hp2 hp3 hp4 hpo hpc l1 l2 l3 hol
        have hkq := hq.keep
        go_wp2_with fail
        have C := CT.out wr
        rw [← HP.out] at C
        by_cases h16 : l.length ≤ 16
        · rw [if_pos h16] at C
          have d16 : decide ((k : Int) > 16) = false := by simp; omega
          refine C.mono ?_
          rintro e w1 ⟨B, d, rfl, _, k1⟩
          go_wp2_with fail
          refine (CW.out _).mono ?_
          rintro e w2 ⟨rfl, k2⟩
          go_wp2
          go_ret
          exact ⟨rfl, (hkq.trans k1).trans k2⟩
        · rw [if_neg h16] at C
          have d16 : decide ((k : Int) > 16) = true := by simp; omega
          refine C.mono ?_
          rintro e w1 ⟨B, d, rfl, _, k1⟩
          go_wp2_with fail
          refine (CW.out _).mono ?_
          rintro e w2 ⟨rfl, k2⟩
          go_wp2
          go_ret
          exact ⟨rfl, (hkq.trans k1).trans k2⟩
end Go.Proofs.Ytffojilbhpefbaa.Parse
