/- Layer 21's laws: the example, MatchTells. Conditions: none beyond the law's own. -/
import Derived.Test.YtijnajlijdnbcaaMt
import Derived.Test.YtijnajlijdnbcaaBx
import Derived.Laws.StructEq
namespace Go.Proofs.Ytijnajlijdnbcaa.Match
set_option linter.unusedVariables false
set_option linter.unusedSimpArgs false
set_option maxRecDepth 100000
open Go.ChangeShapes Go.WideShapes Go.ChangeAt Go.RowKit
open Pn (encQ row_pend PAt Vals cellsQ aggQ ret_bool ret_int row_one)
open Ref21 (aggF)
/-- '==' of two frames that are one. -/
theorem eqF (f : FrameP) (w : World) : (Op.equalIn 10000 24 (.agg #[.int .i64 f.id, .int .i64 f.unit, .string f.pdu]) (.agg #[.int .i64 f.id, .int .i64 f.unit, .string f.pdu])).run Try.prog w = .ok true w := by
  have u3 := Try.underlying3
  have a3 := Try.isAgg3
  have z3 := Try.sizeOf3
  have u9 := Try.underlying9
  have a9 := Try.isAgg9
  have z9 := Try.sizeOf9
  have hS : Try.prog.underlying 24 = some (.struct (Try.prog.fieldsOf 24)) := by kernel_rfl
  have hp : Try.prog.stoodInHeld 24 = false := by kernel_rfl
  rw [show (10000 : Nat) = 9999 + 1 from rfl, run_equalIn_agg w 9999 24 _ _ hS hp]
  simp only [Program.fieldsOf, Try.underlying24]
  go_simp
theorem guardF : Try.prog.eqGuardType Try.prog.depth 24 = false := by kernel_rfl
def ex1 : PendP := ⟨9, 0, 0, 5, 1, ⟨3, 0, 1, 0, 0, []⟩, none, 0, 0⟩
theorem exAt {W : World} {q : Nat} (h : Bx W q (cellsQ ex1).toList) : W.cell? ⟨q, 0, none⟩ = some (.int .i64 9) ∧ W.cell? ⟨q, 1, none⟩ = some (.int .i64 0) ∧ W.cell? ⟨q, 2, none⟩ = some (.int .i64 0) ∧ W.cell? ⟨q, 3, none⟩ = some (.int .i64 5) ∧ W.cell? ⟨q, 4, none⟩ = some (.int .i64 1) ∧ W.cell? ⟨q, 5, none⟩ = some (.int .i64 3) ∧ W.cell? ⟨q, 6, none⟩ = some (.int .i64 0) ∧ W.cell? ⟨q, 7, none⟩ = some (.int .i64 1) ∧ W.cell? ⟨q, 8, none⟩ = some (.int .i64 0) ∧ W.cell? ⟨q, 9, none⟩ = some (.int .i64 0) ∧ W.cell? ⟨q, 10, none⟩ = some (.slice none 0 0) ∧ W.cell? ⟨q, 11, none⟩ = some (.int .i64 0) :=
  ⟨h.2 0 _ rfl, h.2 1 _ rfl, h.2 2 _ rfl, h.2 3 _ rfl, h.2 4 _ rfl, h.2 5 _ rfl, h.2 6 _ rfl, h.2 7 _ rfl, h.2 8 _ rfl, h.2 9 _ rfl, h.2 10 _ rfl, h.2 11 _ rfl⟩
def fr1 : FrameP := ⟨9, 1, ⟨#[3, 2, 0, 7]⟩⟩
def fr2 : FrameP := ⟨9, 2, ⟨#[3, 2, 0, 7]⟩⟩
theorem ex_hits : Mt.hits [ex1] fr1 = true := by decide
theorem ex_find : Mt.find [ex1] fr1 = 0 := by decide
theorem ex_not : Mt.hits [ex1] fr2 = false := by decide
theorem ex_ok : Mt.faultOk ex1 11 = true := by decide
theorem ex_right : Pn.right [ex1] = true := by decide
set_option maxHeartbeats 2000000 in
theorem awake_any (w : World) : Calls Try.prog 8 #[] w fun e w' => e = .returned (.bool true) ∧ Keep w w' := by
  obtain ⟨X, hX⟩ : ∃ X, X = w.alloc (.cells (cellsQ ex1) 35) := ⟨_, rfl⟩
  have B0 : Hid (Bx X w.heap.size (cellsQ ex1).toList) := Lib.hid (by rw [hX]; exact Bx.newq rfl)
  have k0 : Keep w X := by rw [hX]; exact (Keep.refl w).alloc _
  have HX := Lib.hid hX
  have hF := fun (f : FrameP) (hf : f.pdu.size ≤ 100000) (W : World) => find_any (some ⟨W.heap.size, 0, none⟩) 1 1 [ex1] f (W.alloc (.cells (cellsQ ex1) 35)) (by omega) (by omega) (by decide) ex_right (by simpa using row_one W ex1 35)
    (fun p hp => by rw [List.mem_singleton.1 hp]; exact ⟨Ints.none_ _ _ _ _, by decide⟩) (fun p hp => by rw [List.mem_singleton.1 hp]; decide) hf
  have H1 := Lib.hid fun W => hF fr1 (by decide) W
  have H2 := Lib.hid fun W => hF fr2 (by decide) W
  rw [ex_hits, ex_find] at H1
  rw [ex_not] at H2
  have H3 := Lib.hid fun W => fault_any ex1 11 W
  rw [ex_ok] at H3
  have hfe : Mt.fault ex1 11 = ⟨5, 1, ⟨#[131, 11]⟩⟩ := by rw [Mt.fault, ex_ok]; rfl
  rw [hfe] at H3
  have he := eqF ⟨5, 1, ⟨#[131, 11]⟩⟩
  simp only at he
  have hgd := guardF
  clear hF hfe hX
  obtain ⟨g2, hg2⟩ : ∃ v, v = Mt.find [ex1] fr2 := ⟨_, rfl⟩
  rw [← hg2] at H2
  clear hg2
  go_enter Try.func8, Try.ntmps8
  go_wp2_with fail
  rw [show w.alloc (.cells #[.int .i64 9, .int .i64 0, .int .i64 0, .int .i64 5, .int .i64 1, .int .i64 3, .int .i64 0, .int .i64 1, .int .i64 0, .int .i64 0, .slice none 0 0, .int .i64 0] 35) = X from HX.out.symm]
  have hXs : X.heap.size = w.heap.size + 1 := by rw [HX.out]; simp
  have h1 := H1.out X
  rw [hXs] at h1
  refine h1.mono ?_
  rintro e w1 ⟨rfl, k1⟩
  clear h1 hXs
  replace k1 := ((Keep.refl X).alloc _).trans k1
  obtain ⟨c0, c1, c2, c3, c4, c5, c6, c7, c8, c9, c10, c11⟩ := exAt (B0.out.kept k1)
  go_wp2_with fail
  refine (H2.out w1).mono ?_
  rintro e w2 ⟨rfl, k2⟩
  replace k2 := k1.trans (((Keep.refl w1).alloc _).trans k2)
  clear c0 c1 c2 c3 c4 c5 c6 c7 c8 c9 c10 c11 k1
  obtain ⟨c0, c1, c2, c3, c4, c5, c6, c7, c8, c9, c10, c11⟩ := exAt (B0.out.kept k2)
  go_wp2_with fail
  refine (H3.out w2).mono ?_
  rintro e w3 ⟨rfl, k3⟩
  replace k3 := k2.trans k3
  clear c0 c1 c2 c3 c4 c5 c6 c7 c8 c9 c10 c11 k2
  go_wp2
  go_ret
  exact ⟨rfl, (k0.trans k3).alloc _⟩
theorem few_facts {zs : List PendP} (h : Ref21.fewB zs = true) : zs.length ≤ 80 ∧ ∀ p ∈ zs, p.ak.vs.length ≤ 2000 := (Ref21.few_iff zs).1 h
/-- A box that holds a frame. -/
theorem bx3 {W : World} {q : Nat} {f : FrameP} (h : Bx W q [.int .i64 f.id, .int .i64 f.unit, .string f.pdu]) : W.cell? ⟨q, 0, none⟩ = some (.int .i64 f.id) ∧ W.cell? ⟨q, 1, none⟩ = some (.int .i64 f.unit) ∧ W.cell? ⟨q, 2, none⟩ = some (.string f.pdu) :=
  ⟨h.2 0 _ rfl, h.2 1 _ rfl, h.2 2 _ rfl⟩
set_option maxHeartbeats 8000000 in
theorem tells_any (A : Option Addr) (n c : Nat) (zs : List PendP) (f : FrameP) (y : Int) (w : World) (hc : n ≤ c) (hcm : c ≤ maxLen) (hA : Row encQ 12 w w.heap.size A n zs) (hV : Vals w zs) (hfs : f.pdu.size ≤ maxLen) :
    Calls Try.prog 3 #[.slice A n c, aggF f, .int .i64 y] w fun e w' => e = .returned (.bool true) ∧ Keep w w' := by
  have hl := Lib.hid hA.1
  obtain ⟨X, hX⟩ : ∃ X, X = w.alloc (.cells #[.int .i64 f.id, .int .i64 f.unit, .string f.pdu] 24) := ⟨_, rfl⟩
  have k0 : Keep w X := by rw [hX]; exact (Keep.refl w).alloc _
  have B1 : Hid (Bx X w.heap.size [.int .i64 f.id, .int .i64 f.unit, .string f.pdu]) := Lib.hid (by rw [hX]; exact Bx.newq rfl)
  have HA := Lib.hid (hA.kept k0)
  have HV := Lib.hid (hV.kept k0)
  have HW := Lib.hid (And.intro hc hcm)
  have HX := Lib.hid hX
  have HFEW := Lib.hid (Ref21.few_any A n c zs X (Nat.le_trans hc hcm) HA.out)
  obtain ⟨fb, hfb⟩ : ∃ b, b = Ref21.fewB zs := ⟨_, rfl⟩
  rw [← hfb] at HFEW
  have HFB := Lib.hid hfb
  clear hX hA hV hfb
  cases fb
  · go_enter Try.func3, Try.ntmps3
    go_wp2_with fail
    rw [← HX.out]
    refine HFEW.out.mono ?_
    rintro e w1 ⟨rfl, hq⟩
    have k1 := k0.trans hq.keep
    go_wp2_with fail
    refine (awake_any _).mono ?_
    rintro e W2 ⟨rfl, hb2⟩
    go_wp2
    go_ret
    exact ⟨rfl, Keep.trans k1 hb2⟩
  · have hfew := few_facts HFB.out.symm
    have hn80 : n ≤ 80 := by rw [← hl.out]; exact hfew.1
    have hn1 : n ≤ 1000000 := by omega
    have HS := Lib.hid hfew.2
    clear hfew hc hcm
    obtain ⟨_, _, b2⟩ := bx3 B1.out
    by_cases h3 : 300 < f.pdu.size
    · have d3 : decide ((300 : Int) < (f.pdu.size : Int)) = true := by simp; omega
      clear h3
      go_enter Try.func3, Try.ntmps3
      go_wp2_with fail
      rw [← HX.out]
      refine HFEW.out.mono ?_
      rintro e w1 ⟨rfl, hq⟩
      have k1 := k0.trans hq.keep
      replace b2 := (hq.cell _).trans b2
      go_wp2_with fail
      refine (awake_any _).mono ?_
      rintro e W2 ⟨rfl, hb2⟩
      go_wp2
      go_ret
      exact ⟨rfl, Keep.trans k1 hb2⟩
    · have d3 : decide ((300 : Int) < (f.pdu.size : Int)) = false := by simp; omega
      have hf1 : f.pdu.size ≤ 100000 := by omega
      obtain ⟨rb, hrb⟩ : ∃ b, b = Pn.right zs := ⟨_, rfl⟩
      have HR := Lib.hid fun (W : World) (h : Keep X W) => Ref20.right_any A n c zs W (by unfold maxLen; omega) (HA.out.kept h)
      rw [← hrb] at HR
      have HRB := Lib.hid hrb
      clear hrb h3
      go_enter Try.func3, Try.ntmps3
      go_wp2_with fail
      rw [← HX.out]
      refine HFEW.out.mono ?_
      rintro e w1 ⟨rfl, hq⟩
      have k1 := hq.keep
      replace b2 := (hq.cell _).trans b2
      clear hq
      go_wp2_with fail
      refine (HR.out _ k1).mono ?_
      rintro e w2 ⟨rfl, hq⟩
      have k2 := k1.trans hq.keep
      clear hq k1 b2
      cases rb
      · skip
        go_wp2_with fail
        refine (awake_any _).mono ?_
        rintro e W2 ⟨rfl, hb2⟩
        go_wp2
        go_ret
        exact ⟨rfl, Keep.trans (k0.trans k2) hb2⟩
      · have HT := Lib.hid HRB.out.symm
        have HF1 := Lib.hid fun (W : World) (h : Keep X W) => find_any A n c zs f W hn1 HW.out.1 HW.out.2 HT.out (HA.out.kept h) (HV.out.kept h) (fun p hp => by have := HS.out p hp; omega) hf1
        have HF2 := Lib.hid fun (W : World) (h : Keep X W) => Ref21.find_any A n c zs f W hn1 (HA.out.kept h) (HV.out.kept h) (fun p hp => by have := HS.out p hp; omega) hf1
        obtain ⟨v, hv⟩ : ∃ v, v = Mt.find zs f := ⟨_, rfl⟩
        obtain ⟨u, hu⟩ : ∃ v, v = Mt.hits zs f := ⟨_, rfl⟩
        rw [← hv, ← hu] at HF1 HF2
        clear hv hu
        obtain ⟨e0, e1, e2⟩ := bx3 (B1.out.kept k2)
        go_wp2_with fail
        refine (HF1.out _ k2).mono ?_
        rintro e w3 ⟨rfl, k3⟩
        replace k3 := k2.trans k3
        clear e0 e1 e2 k2
        obtain ⟨e0, e1, e2⟩ := bx3 (B1.out.kept k3)
        go_wp2_with fail
        refine (HF2.out _ k3).mono ?_
        rintro e w4 ⟨rfl, k4⟩
        replace k4 := k3.trans k4
        clear e0 e1 e2 k3
        go_wp2
        go_loopw [11] (fun iv wr => ∃ k : Nat, k ≤ n ∧ iv = .int .i64 k ∧ Keep X wr) (fun iv _ => n - (intOf iv).toNat)
        case atStart => exact ⟨0, Nat.zero_le _, rfl, k4⟩
        case round =>
          obtain ⟨k, hk, rfl, hK⟩ := hrel
          by_cases hlt : k < n
          · have hltz : (k : Int) < n := by omega
            have hk0 : (0 : Int) ≤ k := by omega
            obtain ⟨b, off, rfl, _⟩ := HA.out.addr (by omega)
            obtain ⟨hb, hp⟩ := row_pend HA.out k hlt
            obtain ⟨p, hpe⟩ : ∃ p, p = zs.getD k Pn.zero := ⟨_, rfl⟩
            rw [← hpe] at hp
            have HP := Lib.hid hp
            have HB := Lib.hid hb
            obtain ⟨g, hg⟩ : ∃ g, g = Mt.fault p y := ⟨_, rfl⟩
            obtain ⟨gb, hgb⟩ : ∃ g, g = Mt.faultOk p y := ⟨_, rfl⟩
            have HG1 := Lib.hid fun W => fault_any p y W
            have HG2 := Lib.hid fun W => Ref21.fault_any p y W
            rw [← hg, ← hgb] at HG1 HG2
            clear hp hb hpe hg hgb
            obtain ⟨c0, c1, c2, c3, c4, c5, c6, c7, c8, c9, c10, c11⟩ := HP.out.kept HB.out hK
            go_wp2_with fail
            refine (HG1.out _).mono ?_
            rintro e v1 ⟨rfl, q1⟩
            replace q1 := hK.trans q1
            clear c0 c1 c2 c3 c4 c5 c6 c7 c8 c9 c10 c11
            obtain ⟨Y1, hY1⟩ : ∃ Y, Y = v1.alloc (.cells #[.int .i64 g.id, .int .i64 g.unit, .string g.pdu] 24) := ⟨_, rfl⟩
            have C1 : Hid (Bx Y1 v1.heap.size [.int .i64 g.id, .int .i64 g.unit, .string g.pdu]) := Lib.hid (by rw [hY1]; exact Bx.newq rfl)
            have r1 : Keep X Y1 := by rw [hY1]; exact q1.alloc _
            have HY1 := Lib.hid hY1
            have s1 : Hid (Y1.heap.size = v1.heap.size + 1) := Lib.hid (by rw [hY1]; simp)
            clear hY1
            obtain ⟨c0, c1, c2, c3, c4, c5, c6, c7, c8, c9, c10, c11⟩ := HP.out.kept HB.out (q1.alloc (.cells #[.int .i64 g.id, .int .i64 g.unit, .string g.pdu] 24))
            go_wp2_with fail
            rw [← HY1.out]
            refine (HG2.out _).mono ?_
            rintro e v2 ⟨rfl, q2⟩
            have t1 := Lib.hid (C1.out.kept q2)
            replace q2 := r1.trans q2
            clear c0 c1 c2 c3 c4 c5 c6 c7 c8 c9 c10 c11
            obtain ⟨Y2, hY2⟩ : ∃ Y, Y = v2.alloc (.cells #[.int .i64 g.id, .int .i64 g.unit, .string g.pdu] 24) := ⟨_, rfl⟩
            have C2 : Hid (Bx Y2 v2.heap.size [.int .i64 g.id, .int .i64 g.unit, .string g.pdu]) := Lib.hid (by rw [hY2]; exact Bx.newq rfl)
            have C1' : Hid (Bx Y2 v1.heap.size [.int .i64 g.id, .int .i64 g.unit, .string g.pdu]) := Lib.hid (by rw [hY2]; exact t1.out.alloc _)
            have r2 : Keep X Y2 := by rw [hY2]; exact q2.alloc _
            have HY2 := Lib.hid hY2
            clear hY2
            have hB1 := Lib.hid fun q : KeptOf Y2 => back_any p f q.w
            have hB2 := Lib.hid fun q : KeptOf Y2 => Ref21.back_any p f q.w
            obtain ⟨h, hh⟩ : ∃ h, h = Mt.back p f := ⟨_, rfl⟩
            rw [← hh] at hB1 hB2
            have he1 := eqF g
            have he2 := eqF h
            have hgd := guardF
            have hbb1 := hB1.out
            have hbb2 := hB2.out
            unfold aggQ at hbb1 hbb2
            have HPQ := fun q : KeptOf Y2 => HP.out.kept HB.out (r2.trans q.h)
            have x0 := fun q => (HPQ q).1
            have x1 := fun q => (HPQ q).2.1
            have x2 := fun q => (HPQ q).2.2.1
            have x3 := fun q => (HPQ q).2.2.2.1
            have x4 := fun q => (HPQ q).2.2.2.2.1
            have x5 := fun q => (HPQ q).2.2.2.2.2.1
            have x6 := fun q => (HPQ q).2.2.2.2.2.2.1
            have x7 := fun q => (HPQ q).2.2.2.2.2.2.2.1
            have x8 := fun q => (HPQ q).2.2.2.2.2.2.2.2.1
            have x9 := fun q => (HPQ q).2.2.2.2.2.2.2.2.2.1
            have x10 := fun q => (HPQ q).2.2.2.2.2.2.2.2.2.2.1
            have x11 := fun q => (HPQ q).2.2.2.2.2.2.2.2.2.2.2
            have y0 := fun q : KeptOf Y2 => (bx3 (C1'.out.kept q.h)).1
            have y1 := fun q : KeptOf Y2 => (bx3 (C1'.out.kept q.h)).2.1
            have y2 := fun q : KeptOf Y2 => (bx3 (C1'.out.kept q.h)).2.2
            have z0 := fun q : KeptOf Y2 => (bx3 (C2.out.kept q.h)).1
            have z1 := fun q : KeptOf Y2 => (bx3 (C2.out.kept q.h)).2.1
            have z2 := fun q : KeptOf Y2 => (bx3 (C2.out.kept q.h)).2.2
            have f0 := fun q : KeptOf Y2 => (bx3 (B1.out.kept (r2.trans q.h))).1
            have f1 := fun q : KeptOf Y2 => (bx3 (B1.out.kept (r2.trans q.h))).2.1
            have f2 := fun q : KeptOf Y2 => (bx3 (B1.out.kept (r2.trans q.h))).2.2
            clear hh HPQ q1 q2 r1
            go_wp2_with fail
            rw [← HY2.out]
            refine wp_region_kept (by kernel_rfl) (by kernel_rfl) ?_
            repeat (go_big_quiet_step (first | with_reducible exact KeptOf.of (hbb1 _) | with_reducible exact KeptOf.of (hbb2 _)))
            refine Go.wpQuiet_nil ?_
            intro _ hw'
            obtain ⟨⟨W, hw⟩, hw''⟩ := hw'
            subst hw''
            go_wp2
            exact ⟨⟨k + 1, by omega, by go_num, r2.trans hw⟩, by simp [intOf]; omega⟩
          · obtain rfl : k = n := by omega
            go_wp2_with fail
            refine (awake_any _).mono ?_
            rintro e W2 ⟨rfl, hb2⟩
            go_wp2
            go_ret
            exact ⟨rfl, Keep.trans (k0.trans hK) hb2⟩
end Go.Proofs.Ytijnajlijdnbcaa.Match
