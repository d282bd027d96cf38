/- Layer 14's reference: Floats, Same, Of. Conditions: at most a million floats, spans, values. -/
import Derived.Test.YtnbjhcemonkhhaaFaR
import Derived.Test.YtnbjhcemonkhhaaKept
namespace Go.Proofs.Ytnbjhcemonkhhaa.Fa
set_option linter.unusedVariables false
open Go.ChangeShapes Go.WideShapes Go.ChangeAt Go.RowKit
open Re (okL ofB)
open Fp (IsN sameB)
theorem floats_len : ∀ l m : List Nat, l.length ≠ m.length → floats l m = false
  | [], [], h => absurd rfl h
  | [], b :: m, _ => rfl
  | a :: l, [], _ => rfl
  | a :: l, b :: m, h => by rw [floats, floats_len l m (by simpa using h), Bool.and_false]
theorem floats_at : ∀ (l m : List Nat) (k : Nat), l.length = m.length → k < l.length → floats (l.drop k) (m.drop k) = (sameB (l.getD k 0) (m.getD k 0) && floats (l.drop (k + 1)) (m.drop (k + 1)))
  | a :: l, b :: m, 0, _, _ => rfl
  | a :: l, b :: m, k + 1, h, hk => floats_at l m k (by simpa using h) (by simpa using hk)
theorem row_float {w : World} {B n b off : Nat} {zs : List Nat} (h : Row encFl 1 w B (some ⟨b, off, none⟩) n zs) (j : Nat) (hj : j < n) : b < B ∧ w.cell? ⟨b, off + j, none⟩ = some (.float .f64 (zs.getD j 0)) := by
  obtain ⟨hb, hc⟩ := h.cells (by omega)
  have hl := h.1
  have hj' : j < zs.length := by omega
  have e : zs.getD j 0 = zs[j] := by rw [List.getD_eq_getElem?_getD, List.getElem?_eq_getElem hj']; rfl
  rw [e]
  have := hc j hj' 0 _ rfl
  rw [Nat.mul_one, Nat.add_zero] at this
  exact ⟨hb, this⟩
theorem mem64 {xs : List Nat} (h : ∀ x ∈ xs, x < 18446744073709551616) (k : Nat) : xs.getD k 0 < 18446744073709551616 := by
  rw [List.getD_eq_getElem?_getD]
  cases hx : xs[k]? with
  | none => decide
  | some x => exact h x (List.mem_of_getElem? hx)
set_option maxHeartbeats 1000000 in
theorem ref_floats_any (A B : Option Addr) (n m c d : Nat) (xs ys : List Nat) (w : World) (hn : n ≤ 1000000) (hA : Row encFl 1 w w.heap.size A n xs) (hB : Row encFl 1 w w.heap.size B m ys) (hx : ∀ x ∈ xs, x < 18446744073709551616) (hy : ∀ x ∈ ys, x < 18446744073709551616) :
    Calls Try.prog 11 #[.slice A n c, .slice B m d] w fun e w' => e = .returned (.bool (floats xs ys)) ∧ Keep w w' := by
  have hla := hA.1
  have hlb := hB.1
  by_cases hnm : n = m
  · subst hnm
    go_enter Try.func11, Try.ntmps11
    go_wp2
    go_loopw [5] (fun i wr => ∃ k : Nat, k ≤ n ∧ i = .int .i64 k ∧ Hid (floats xs ys = floats (xs.drop k) (ys.drop k)) ∧ Keep w wr) (fun i _ => n - (intOf i).toNat)
    case atStart => exact ⟨0, Nat.zero_le _, rfl, rfl, Keep.refl _⟩
    case round =>
      obtain ⟨k, hk, rfl, hf, hq⟩ := hrel
      by_cases hlt : k < n
      · obtain ⟨b, off, rfl, _⟩ := hA.addr (by omega)
        obtain ⟨b', off', rfl, _⟩ := hB.addr (by omega)
        have x0 := fun p : KeptOf wr => (row_float (hA.kept (hq.trans p.h)) k hlt).2
        have y0 := fun p : KeptOf wr => (row_float (hB.kept (hq.trans p.h)) k hlt).2
        have hat := floats_at xs ys k (by omega) (by omega)
        have lx := mem64 hx k
        have ly := mem64 hy k
        obtain ⟨x, hxx⟩ : ∃ x, x = xs.getD k 0 := ⟨_, rfl⟩
        obtain ⟨y, hyy⟩ : ∃ y, y = ys.getD k 0 := ⟨_, rfl⟩
        rw [← hxx] at x0 hat lx
        rw [← hyy] at y0 hat ly
        have HAT := Lib.hid (hf.out.trans hat)
        have hltz : (k : Int) < n := by omega
        have hk0 : (0 : Int) ≤ k := by omega
        have hC := fun p : KeptOf wr => (Ref3.same_any x y lx ly p.w).mono fun e w' h => (⟨h.1, by rw [h.2]; exact Keep.refl _⟩ : e = .returned (.bool (sameB x y)) ∧ Keep p.w w')
        clear hat hxx hyy lx ly
        cases hs : sameB x y
        · rw [hs] at hC
          have HF := Lib.hid (show floats xs ys = false by rw [HAT.out, hs]; rfl)
          clear HAT hs
          go_wp2
          refine wp_region_kept (by kernel_rfl) (by kernel_rfl) ?_
          repeat (go_big_quiet_step (first | with_reducible exact KeptOf.of (hC _)))
          refine Go.wpQuiet_nil ?_
          intro _ hw'
          obtain ⟨⟨V, hw⟩, hw''⟩ := hw'
          subst hw''
          go_wp2
          go_ret
          exact ⟨by rw [HF.out]; rfl, hq.trans hw⟩
        · rw [hs] at hC
          have HF := Lib.hid (show floats xs ys = floats (xs.drop (k + 1)) (ys.drop (k + 1)) by rw [HAT.out, hs]; rfl)
          clear HAT hs
          go_wp2
          refine wp_region_kept (by kernel_rfl) (by kernel_rfl) ?_
          repeat (go_big_quiet_step (first | with_reducible exact KeptOf.of (hC _)))
          refine Go.wpQuiet_nil ?_
          intro _ hw'
          obtain ⟨⟨V, hw⟩, hw''⟩ := hw'
          subst hw''
          go_wp2
          go_roundw
          case rel => exact ⟨k + 1, by omega, by go_num, HF, hq.trans hw⟩
          case measure => simp [intOf]; omega
      · obtain rfl : k = n := by omega
        have HF := Lib.hid (show floats xs ys = true by rw [hf.out, List.drop_of_length_le (by omega), List.drop_of_length_le (by omega)]; rfl)
        go_wp2
        go_ret
        exact ⟨by rw [HF.out]; rfl, hq⟩
  · have HF := Lib.hid (floats_len xs ys (by omega))
    have d : ((n : Int) != m) = true := by simp; omega
    go_enter Try.func11, Try.ntmps11
    go_wp2
    go_ret
    exact ⟨by rw [HF.out]; rfl, Keep.refl _⟩
/-- Facts whose slices lie there. -/
def FaAt (W : World) (f : FactsP) (SA VA RA : Option Addr) : Prop :=
  Row encP 2 W W.heap.size SA f.sp.length f.sp ∧ Ints .i64 W W.heap.size VA f.vs.length f.vs ∧ Ints .i64 W W.heap.size RA f.rg.length f.rg
theorem FaAt.kept {W W' : World} {f : FactsP} {SA VA RA : Option Addr} (h : FaAt W f SA VA RA) (hk : Keep W W') : FaAt W' f SA VA RA := ⟨h.1.kept hk, h.2.1.kept hk, h.2.2.kept hk⟩
def few (f : FactsP) : Prop := f.sp.length ≤ 1000000 ∧ f.vs.length ≤ 1000000 ∧ f.rg.length ≤ 1000000
set_option maxHeartbeats 4000000 in
theorem ref_same_any (f g : FactsP) (SA VA RA SB VB RB : Option Addr) (c1 c2 c3 d1 d2 d3 : Nat) (w : World) (hf : few f) (hg : few g) (hF : FaAt w f SA VA RA) (hG : FaAt w g SB VB RB) :
    Calls Try.prog 15 #[.agg #[.int .i64 f.cl, .int .i64 f.un, .int .i64 f.fc, .slice SA f.sp.length c1, .slice VA f.vs.length c2, .slice RA f.rg.length c3], .agg #[.int .i64 g.cl, .int .i64 g.un, .int .i64 g.fc, .slice SB g.sp.length d1, .slice VB g.vs.length d2, .slice RB g.rg.length d3]] w
      fun e w' => e = .returned (.bool (same f g)) ∧ Keep w w' := by
  obtain ⟨f1, f2, f3⟩ := hf
  obtain ⟨g1, g2, g3⟩ := hg
  have C1 := Lib.hid (fun (W : World) (hW : Keep w W) => Span.ref_same_any SA _ c1 f.sp SB _ d1 g.sp W f1 g1 (hF.kept hW).1 (hG.kept hW).1)
  have C2 := Lib.hid (fun (W : World) (hW : Keep w W) => Ref1.ints_any VA VB _ _ c2 d2 f.vs g.vs W f2 (hF.kept hW).2.1 (hG.kept hW).2.1)
  have C3 := Lib.hid (fun (W : World) (hW : Keep w W) => Ref1.ints_any RA RB _ _ c3 d3 f.rg g.rg W f3 (hF.kept hW).2.2 (hG.kept hW).2.2)
  have HS : same f g = (f.cl == g.cl && (f.un == g.un && (f.fc == g.fc && (decide (f.sp = g.sp) && (f.vs == g.vs && f.rg == g.rg))))) := rfl
  clear hF hG f1 f2 f3 g1 g2 g3
  obtain ⟨b4, h4⟩ : ∃ b, b = decide (f.sp = g.sp) := ⟨_, rfl⟩
  obtain ⟨b5, h5⟩ : ∃ b, b = (f.vs == g.vs) := ⟨_, rfl⟩
  obtain ⟨b6, h6⟩ : ∃ b, b = (f.rg == g.rg) := ⟨_, rfl⟩
  rw [← h4] at HS C1
  rw [← h5] at HS C2
  rw [← h6] at HS C3
  clear h4 h5 h6
  have kb := (((Keep.refl w).alloc (.cells #[.int .i64 f.cl, .int .i64 f.un, .int .i64 f.fc, .slice SA f.sp.length c1, .slice VA f.vs.length c2, .slice RA f.rg.length c3] 36)).alloc (.cells #[.int .i64 g.cl, .int .i64 g.un, .int .i64 g.fc, .slice SB g.sp.length d1, .slice VB g.vs.length d2, .slice RB g.rg.length d3] 36))
  cases e1 : f.cl == g.cl
  · have HR := Lib.hid (show same f g = false by rw [HS, e1]; rfl)
    clear HS
    go_enter Try.func15, Try.ntmps15
    go_wp2
    go_ret
    exact ⟨by rw [HR.out]; rfl, kb⟩
  cases e2 : f.un == g.un
  · have HR := Lib.hid (show same f g = false by rw [HS, e1, e2]; rfl)
    clear HS
    go_enter Try.func15, Try.ntmps15
    go_wp2
    go_ret
    exact ⟨by rw [HR.out]; rfl, kb⟩
  cases e3 : f.fc == g.fc
  · have HR := Lib.hid (show same f g = false by rw [HS, e1, e2, e3]; rfl)
    clear HS
    go_enter Try.func15, Try.ntmps15
    go_wp2
    go_ret
    exact ⟨by rw [HR.out]; rfl, kb⟩
  cases b4
  · have HR := Lib.hid (show same f g = false by rw [HS, e1, e2, e3]; rfl)
    clear HS
    go_enter Try.func15, Try.ntmps15
    go_wp2_with fail
    refine (C1.out _ kb).mono ?_
    rintro e w1 ⟨rfl, ⟨n1, rfl⟩⟩
    go_wp2
    go_ret
    exact ⟨by rw [HR.out]; rfl, ((Quiet.refl _).drewN n1 |> fun q => kb.trans q.keep)⟩
  have HS5 := Lib.hid (show same f g = (b5 && b6) by rw [HS, e1, e2, e3]; rfl)
  clear HS
  go_enter Try.func15, Try.ntmps15
  go_wp2_with fail
  refine (C1.out _ kb).mono ?_
  rintro e w1 ⟨rfl, ⟨n1, rfl⟩⟩
  have k1 := kb.trans ((Quiet.refl _).drewN n1).keep
  cases b5
  · go_wp2_with fail
    refine (C2.out _ k1).mono ?_
    rintro e w2 ⟨rfl, ⟨n2, rfl⟩⟩
    have k2 := k1.trans ((Quiet.refl _).drewN n2).keep
    go_wp2
    go_ret
    exact ⟨by rw [HS5.out]; rfl, kb.trans ((Quiet.refl _).drewN (n1 + n2)).keep⟩
  · go_wp2_with fail
    refine (C2.out _ k1).mono ?_
    rintro e w2 ⟨rfl, ⟨n2, rfl⟩⟩
    have k2 := kb.trans ((Quiet.refl _).drewN (n1 + n2)).keep
    go_wp2_with fail
    refine (C3.out _ k2).mono ?_
    rintro e w3 ⟨rfl, q3⟩
    have k3 := k2.trans q3.keep
    go_wp2
    go_ret
    exact ⟨by rw [HS5.out]; rfl, k3⟩
end Go.Proofs.Ytnbjhcemonkhhaa.Fa
