/- Of these texts: JgL2. Conditions: as each part says. -/
import Derived.Test.YtaciogcpghbhjaaGreatZTJg
import Derived.Test.YtaciogcpghbhjaaGreatZTJgO
import Derived.Test.YtaciogcpghbhjaaGreatZTJgF
import Derived.Deep.CutRange
/- Layer 24's laws: JudgeTells. Conditions: none beyond the law's own. -/
namespace Go.Proofs.YtaciogcpghbhjaaGreat.Judge
set_option linter.unusedVariables false
set_option linter.unusedSimpArgs false
set_option maxRecDepth 100000
open Go.ChangeShapes Go.WideShapes Go.ChangeAt Go.RowKit
open Tr (zero zeroR Rus RuleAt RuIn RulesIn)
open Nd (Nds okRs)
open Wk (okF)
open Cp (rules)
open Jg
open JgM (mayB may_facts may_any)
open JgO (CaseP CaseIn)
open Strm (FramesIn)
open Ref24 (RetLv RetJ)
open Ref9 (encF row_frame)
theorem get_len (s : ByteArray) : (Ak.get s).vs.length <= 1000000 := by
 by_cases h : Ak.err s = 0
 ·have := (Ref24.ask_few s 0 0 h).2.1
  omega
 ·unfold Ak.get
  rw [if_neg (by simpa using h)]
  exact Nat.zero_le _
theorem same_self (a : AskP) : Ak.same a a = true := by
 unfold Ak.same
 simp
theorem verdict_len {l : List RuleP} {lv : List Int} (hj : okJ l) (h : okV l lv) (cl : Int) (f : FrameP) (full : Bool) : (verdict l lv cl f full).2.2.length = l.length := (okV_verdict hj h cl f full).1
theorem LvJ.on {lv : List Int} {u : Value} {β : Option Nat} {W : World} (h : LvJ lv u (Go.Proofs.YtaciogcpghbhjaaGreat.off β W)) : LvJ lv u W := by
 obtain ⟨B, m, d, e, h1, h2⟩ := h
 exact ⟨B, m, d, e, ints_on h1, h2⟩
theorem AskJ.on {a : AskP} {u : Value} {β : Option Nat} {W : World} (h : AskJ a u (Go.Proofs.YtaciogcpghbhjaaGreat.off β W)) : AskJ a u W := by
 obtain ⟨A, n, c, e, h1⟩ := h
 exact ⟨A, n, c, e, ints_on h1⟩
def BoxA (a : AskP) (b : Nat) (W : World) : Prop := b < W.heap.size ∧ ∃ A n c, Ref6.Boxed b a A n c W ∧ Ints .i64 W W.heap.size A n a.vs
theorem BoxA.kept {a : AskP} {b : Nat} {W W' : World} (h : BoxA a b W) (hk : Keep W W') : BoxA a b W' := by
 obtain ⟨hb, A, n, c, h1, h2⟩ := h
 exact ⟨Nat.lt_of_lt_of_le hb hk.size, A, n, c, h1.below hk hb, h2.kept hk⟩
theorem BoxA.of {a : AskP} {b : Nat} {W : World} {R : World -> Prop} (hb : b < W.heap.size) (h : ∃ cs : Array Value, cs.size = z6.size ∧ W.there b 0 z6.size ∧ W.rangeAt b 0 cs.toList ∧ AskJ a (.agg cs) (Go.Proofs.YtaciogcpghbhjaaGreat.off (some b) W)) : BoxA a b W := by
 obtain ⟨cs, _, _, hr, hA⟩ := h
 obtain ⟨A, n, c, e, hI⟩ := hA.on
 injection e with e
 subst e
 refine ⟨hb, A, n, c, ⟨?_, ?_, ?_, ?_, ?_, ?_⟩, hI⟩
 ·have := hr 0 _ rfl; rw [Nat.zero_add] at this; exact this
 ·have := hr 1 _ rfl; rw [Nat.zero_add] at this; exact this
 ·have := hr 2 _ rfl; rw [Nat.zero_add] at this; exact this
 ·have := hr 3 _ rfl; rw [Nat.zero_add] at this; exact this
 ·have := hr 4 _ rfl; rw [Nat.zero_add] at this; exact this
 ·have := hr 5 _ rfl; rw [Nat.zero_add] at this; exact this
def lv2R (lv : List Int) (t : Tmp) (u : Value) (W : World) : Prop := LvJ lv u W
def verR (c1 c2 x : Tmp) (a : AskP) (v : Int × Int × List Int) (t : Tmp) (u : Value) (W : World) : Prop := if t = c1 ∨ t = c2 then AnsJ a v u W else if t = x then AskJ a u W else LvJ v.2.2 u W
theorem verR_kept {c1 c2 x : Tmp} {a : AskP} {v : Int × Int × List Int} {t : Tmp} {u : Value} {W W' : World} (hk : Keep W W') (h : verR c1 c2 x a v t u W) : verR c1 c2 x a v t u W' := by
 unfold verR at *
 split
 ·rename_i e; rw [if_pos e] at h; exact h.kept hk
 rename_i e1; rw [if_neg e1] at h
 split
 ·rename_i e; rw [if_pos e] at h; exact h.kept hk
 rename_i e2; rw [if_neg e2] at h
 exact h.kept hk
set_option maxHeartbeats 8000000 in
theorem tells_any (p : CaseP) (v : Int) (w : World) (hC : CaseIn w p) :
  Calls Tryz.prog 3 #[.agg p.cells.toArray, .int .i64 v] w fun e w' => e = .returned (.bool true) ∧ Keep w w' := by
 obtain ⟨LA, ln, lc, l, cl, FA, fn, fc, fs, BA, bn, bc, bs, TA, tn, tc, ts⟩ := p
 obtain ⟨⟨_, _, hl, hR, hW⟩, ⟨_, hfm, hF, hFs⟩, ⟨_, hbm, hB⟩, ⟨_, htm, hT, hTw⟩⟩ := hC
 simp only at hl hR hW hF hFs hB hT hTw hfm hbm htm
 subst hl
 obtain ⟨X, hX⟩ : ∃ X, X = w.alloc (.cells #[.slice LA l.length lc, .int .i64 cl, .slice FA fn fc, .slice BA bn bc, .slice TA tn tc] 27) := ⟨_, rfl⟩
 have k0 : Keep w X := by rw [hX]; exact (Keep.refl w).alloc _
 have B0 : Hid (Bx X w.heap.size [.slice LA l.length lc, .int .i64 cl, .slice FA fn fc, .slice BA bn bc, .slice TA tn tc]) := Lib.hid (by rw [hX]; exact Bx.newq rfl)
 have HX := Lib.hid hX
 have HM := Lib.hid fun (W : World) (h : Keep X W) => may_any LA lc l W (hR.kept (k0.trans h)) hW
 have HMF := Lib.hid (may_facts hW)
 have HR := Lib.hid (hR.kept k0)
 have HF := Lib.hid (hF.kept k0)
 have HFS := Lib.hid hFs
 have HB := Lib.hid (hB.keep (w' := X) (fun p hp => Below.cell k0 hp))
 have HBL := Lib.hid (And.intro k0.size (And.intro hbm (And.intro htm hfm)))
 have HT := Lib.hid (hT.kept k0)
 have HTW := Lib.hid hTw
 have hcells : CaseP.cells ⟨LA, l.length, lc, l, cl, FA, fn, fc, fs, BA, bn, bc, bs, TA, tn, tc, ts⟩ = [.slice LA l.length lc, .int .i64 cl, .slice FA fn fc, .slice BA bn bc, .slice TA tn tc] := rfl
 rw [hcells]
 clear hX hR hW hF hFs hB hT hTw hcells hfm hbm htm
 obtain ⟨m, hm⟩ : ∃ m, m = mayB l := ⟨_, rfl⟩
 rw [<- hm] at HM HMF
 have y : ∀ W, Keep X W -> W.cell? ⟨w.heap.size, 0, none⟩ = some (.slice LA l.length lc) ∧ W.cell? ⟨w.heap.size, 1, none⟩ = some (.int .i64 cl) ∧ W.cell? ⟨w.heap.size, 2, none⟩ = some (.slice FA fn fc) ∧ W.cell? ⟨w.heap.size, 3, none⟩ = some (.slice BA bn bc) ∧ W.cell? ⟨w.heap.size, 4, none⟩ = some (.slice TA tn tc) := fun W h => ⟨(B0.out.kept h).2 0 _ rfl, (B0.out.kept h).2 1 _ rfl, (B0.out.kept h).2 2 _ rfl, (B0.out.kept h).2 3 _ rfl, (B0.out.kept h).2 4 _ rfl⟩
 have HY := Lib.hid y
 have HK0 := Lib.hid k0
 clear y k0 B0 hm
 have y0 := (HY.out X (Keep.refl X)).1
 cases m
 ·go_enter Tryz.func3, Tryz.ntmps3
  go_wp2_with fail
  rw [<- HX.out]
  go_wp2_with fail
  refine (HM.out X (Keep.refl X)).mono ?_
  rintro e w1 ⟨rfl, k1⟩
  clear y0
  obtain ⟨y0, y1, y2, y3, y4⟩ := HY.out w1 k1
  go_wp2_with fail
  refine (awake_any _).mono ?_
  rintro e w2 ⟨rfl, k2⟩
  go_wp2_with fail
  refine (code_any v _).mono ?_
  rintro e w3 ⟨rfl, k3⟩
  go_wp2_with fail
  refine (Ref24.code_any v _).mono ?_
  rintro e w4 ⟨rfl, rfl⟩
  go_wp2
  go_ret
  exact ⟨by simp, ((HK0.out.trans k1).trans k2).trans k3⟩
 ·obtain ⟨hl6, hok, hof, hj⟩ := HMF.out rfl
  by_cases h20 : 20 < fn
  ·have d : decide ((20 : Int) < (fn : Int)) = true := by simp; omega
   clear h20 hl6 hok hof hj
   go_enter Tryz.func3, Tryz.ntmps3
   go_wp2_with fail
   rw [<- HX.out]
   go_wp2_with fail
   refine (HM.out X (Keep.refl X)).mono ?_
   rintro e w1 ⟨rfl, k1⟩
   clear y0
   obtain ⟨y0, y1, y2, y3, y4⟩ := HY.out w1 k1
   go_wp2_with fail
   refine (awake_any _).mono ?_
   rintro e w2 ⟨rfl, k2⟩
   go_wp2_with fail
   refine (code_any v _).mono ?_
   rintro e w3 ⟨rfl, k3⟩
   go_wp2_with fail
   refine (Ref24.code_any v _).mono ?_
   rintro e w4 ⟨rfl, rfl⟩
   go_wp2
   go_ret
   exact ⟨by simp, ((HK0.out.trans k1).trans k2).trans k3⟩
  ·have d : decide ((20 : Int) < (fn : Int)) = false := by simp; omega
   have hn20 : fn <= 20 := by omega
   have hl1 : l.length <= 1000 := by omega
   clear h20 hl6
   go_enter Tryz.func3, Tryz.ntmps3
   go_wp2_with fail
   rw [<- HX.out]
   go_wp2_with fail
   refine (HM.out X (Keep.refl X)).mono ?_
   rintro e w1 ⟨rfl, k1⟩
   clear y0
   obtain ⟨y0, y1, y2, y3, y4⟩ := HY.out w1 k1
   go_wp2_with fail
   refine (code_any v _).mono ?_
   rintro e w2 ⟨rfl, k2⟩
   go_wp2_with fail
   refine (Ref24.code_any v _).mono ?_
   rintro e w3 ⟨rfl, rfl⟩
   have kX2 := k1.trans k2
   clear y0 y1 y2 y3 y4
   obtain ⟨y0, y1, y2, y3, y4⟩ := HY.out w2 kX2
   have hce : (code v != code v) = false := by simp
   have HRU := Lib.hid (Nd.ref_rules_any LA lc l w2 hok (HR.out.kept kX2))
   go_wp2_with fail
   refine HRU.out.mono ?_
   rintro e w3 ⟨NA, nc, rfl, hown, k3⟩
   have HN : Hid (∀ W, Keep w3 W -> Nds W NA (rules l).length (rules l)) := Lib.hid fun W h => hown.nds.kept h
   have HK3 := Lib.hid (kX2.trans k3)
   have HOK := Lib.hid (And.intro hok (And.intro hof (And.intro hj hl1)))
   clear y0 y1 y2 y3 y4 hown k1 k2 kX2 k3 HRU hok hof hj hl1 HM HMF
   have HLV := Lib.hid fun (W : World) (h : Keep w3 W) => levels_any LA lc l W HOK.out.2.2.2 HOK.out.2.2.1 (HR.out.kept (HK3.out.trans h))
   have HLW := Lib.hid fun (W : World) (h : Keep w3 W) => Ref24.levels_any LA lc l W HOK.out.2.2.2 HOK.out.2.2.1 (HR.out.kept (HK3.out.trans h))
   obtain ⟨lv, hlv⟩ : ∃ lv, lv = levels l := ⟨_, rfl⟩
   have HOV := Lib.hid (show okV l lv from by rw [hlv]; exact okV_levels HOK.out.2.2.1)
   rw [<- hlv] at HLV HLW
   clear hlv
   go_wp2_with fail
   refine Rel.wp_region_rel [53, 56, 6, 7] (lv2R lv) (by kernel_rfl) (by kernel_rfl) (fun d _ u W W' hk h => LvJ.kept h hk) ?_
   refine Rel.rel_take' 2 (by kernel_rfl) ?_
   apply Exists.intro
   refine ⟨fun F hF hne => ?_, ?_⟩
   ·simp only [List.take_succ_cons, List.take_zero]
    have y0 := fun q : Rel.KeptIn w3 F => (HY.out q.w (HK3.out.trans q.h)).1
    repeat (go_big_quiet_step (fail))
    refine Go.wpQuiet_nil ?_
    rfl
   simp only [List.drop_succ_cons, List.drop_zero]
   refine Rel.rel_call' 53 10 [.tmp 52] #[22] [] (fun V => [.slice LA l.length lc]) rfl rfl (by kernel_rfl) (fun _ => rfl) ?_ ?_
   ·intro V W hk _
    exact (HLV.out W hk).mono fun e W' h => LvJ.of h
   simp only [Act.put, List.setIfInBounds_toArray, List.set_cons_zero, List.set_cons_succ]
   refine Rel.rel_take' 2 (by kernel_rfl) ?_
   apply Exists.intro
   refine ⟨fun F hF hne => ?_, ?_⟩
   ·simp only [List.take_succ_cons, List.take_zero]
    have y0 := fun q : Rel.KeptIn w3 F => (HY.out q.w (HK3.out.trans q.h)).1
    repeat (go_big_quiet_step (fail))
    refine Go.wpQuiet_nil ?_
    rfl
   simp only [List.drop_succ_cons, List.drop_zero]
   refine Rel.rel_call' 56 11 [.tmp 55] #[22] [] (fun V => [.slice LA l.length lc]) rfl rfl (by kernel_rfl) (fun _ => rfl) ?_ ?_
   ·intro V W hk _
    exact (HLW.out W hk).mono fun e W' h => LvJ.of h
   simp only [Act.put, List.setIfInBounds_toArray, List.set_cons_zero, List.set_cons_succ]
   refine Rel.rel_move 6 53 rfl (.inr rfl) (by kernel_rfl) (fun v W _ h => h) ?_
   simp only [Act.put, List.setIfInBounds_toArray, List.set_cons_zero, List.set_cons_succ]
   refine Rel.rel_move 7 56 rfl (.inr rfl) (by kernel_rfl) (fun v W _ h => h) ?_
   simp only [Act.put, List.setIfInBounds_toArray, List.set_cons_zero, List.set_cons_succ]
   refine Rel.rel_nil fun V W4 k4 hV => ?_
   have h6 : LvJ lv (V 6) W4 := hV 6 (by simp)
   have h7 : LvJ lv (V 7) W4 := hV 7 (by simp)
   dsimp only [Rel.fill, Rel.ptr, List.foldl_cons, List.foldl_nil]
   simp only [Act.put, List.setIfInBounds_toArray, List.set_cons_zero, List.set_cons_succ]
   generalize V 6 = xv0 at h6 ⊢
   generalize V 7 = yv0 at h7 ⊢
   generalize V 53 = v53, V 56 = v56
   clear hV
   have HK4 := Lib.hid (HK3.out.trans k4)
   have HN4 : Hid (∀ W, Keep W4 W -> Nds W NA (rules l).length (rules l)) := Lib.hid fun W h => HN.out W (k4.trans h)
   clear HLV HLW HN k4
   go_wp2
   go_loopw [6, 7, 8] (fun xv yv iv wr => ∃ (i : Nat) (lw : List Int), i <= fn ∧ iv = .int .i64 i ∧ Hid (okV l lw) ∧ LvJ lw xv wr ∧ LvJ lw yv wr ∧ Keep W4 wr) (fun _ _ iv _ => fn - (intOf iv).toNat)
   case atStart => exact ⟨0, lv, Nat.zero_le _, rfl, HOV, h6, h7, Keep.refl _⟩
   case round =>
    obtain ⟨i, lw, hi, rfl, HLW, h6, h7, hK⟩ := hrel
    have hKX := HK4.out.trans hK
    obtain ⟨y0, y1, y2, y3, y4⟩ := HY.out wr hKX
    by_cases hlt : i < fn
    ·have hltz : (i : Int) < fn := by omega
     have hi0 : (0 : Int) <= i := by omega
     obtain ⟨bF, oF, rfl, _⟩ := HF.out.addr (by omega)
     have HFR : Hid (∀ W, Keep X W -> bF < X.heap.size ∧ W.cell? ⟨bF, oF + i * 3, none⟩ = some (.int .i64 (fs.getD i Mb.zero).id) ∧ W.cell? ⟨bF, oF + i * 3 + 1, none⟩ = some (.int .i64 (fs.getD i Mb.zero).unit) ∧ W.cell? ⟨bF, oF + i * 3 + 2, none⟩ = some (.string (fs.getD i Mb.zero).pdu)) := Lib.hid fun W h => by
      obtain ⟨g0, g1, g2, g3⟩ := row_frame HF.out i hlt
      exact ⟨g0, (Below.cell h g0).trans g1, (Below.cell h g0).trans g2, (Below.cell h g0).trans g3⟩
     have hfz : (fs.getD i Mb.zero).pdu.size <= maxLen := by
      have hl := HF.out.1
      rw [List.getD_eq_getElem?_getD, List.getElem?_eq_getElem (by omega)]
      exact HFS.out _ (List.getElem_mem _)
     generalize fs.getD i Mb.zero = f at HFR hfz
     obtain ⟨_, g1, g2, g3⟩ := HFR.out wr hKX
     have HRT := Lib.hid (Ref8.right_any f wr hfz)
     obtain ⟨rf, hrf⟩ : ∃ rf, rf = Mb.right f := ⟨_, rfl⟩
     rw [<- hrf] at HRT
     have HRF := Lib.hid hrf
     have HKX := Lib.hid hKX
     have HKR := Lib.hid hK
     have H67 := Lib.hid (And.intro h6 h7)
     clear hfz hrf hKX hK h6 h7
     go_wp2_with fail
     refine HRT.out.mono ?_
     rintro e w5 ⟨rfl, k5⟩
     have HK5 := Lib.hid (HKX.out.trans k5)
     have HK45 := Lib.hid (HKR.out.trans k5)
     have h65 := H67.out.1.kept k5
     have h75 := H67.out.2.kept k5
     clear y0 y1 y2 y3 y4 g1 g2 g3 k5 HRT HKX HKR H67
     cases rf
     ·go_wp2
      exact ⟨⟨i + 1, lw, by omega, by go_num, HLW, h65, h75, HK45.out⟩, by simp [intOf]; omega⟩
     ·go_wp2
      go_loopw [6, 7, 9] (fun xv yv nv wr => ∃ (n : Nat) (lz : List Int), n <= 8 ∧ nv = .int .i64 n ∧ Hid (okV l lz) ∧ LvJ lz xv wr ∧ LvJ lz yv wr ∧ Keep w5 wr) (fun _ _ nv _ => 8 - (intOf nv).toNat)
      case atStart => exact ⟨0, lw, Nat.zero_le _, rfl, HLW, h65, h75, Keep.refl _⟩
      case round =>
       obtain ⟨n, lz, hn, rfl, HLZ, h6, h7, hK⟩ := hrel
       have HWR := Lib.hid hK
       obtain ⟨y0, y1, y2, y3, y4⟩ := HY.out wr (HK5.out.trans hK)
       have HLL := Lib.hid (And.intro h6 h7)
       clear h6 h7
       obtain ⟨cB, hcB⟩ : ∃ cB, cB = (decide ((i : Int) < tn) && decide ((n : Int) < (ts.getD i 0) % 8)) := ⟨_, rfl⟩
       have hn8 : cB = true -> n < 8 := fun h => by
        rw [hcB] at h
        simp at h
        omega
       have HN8 := Lib.hid hn8
       have HCB := Lib.hid hcB
       clear hn8 hcB
       go_upto_region 10 with fail
       go_cut [86] from 71 to 85 (fun v W => v = .bool cB ∧ W = wr)
       case first =>
        by_cases hit : i < tn
        ·have hitz : (i : Int) < tn := by omega
         obtain ⟨bT, oT, rfl, hbT, hcT⟩ := HT.out.2 (by omega)
         have g := (Below.cell (HK5.out.trans hK) hbT).trans (hcT i hit)
         have hz : 0 <= ts.getD i 0 ∧ ts.getD i 0 <= 255 := by
          have hl := HT.out.1
          have hm : ts.getD i 0 ∈ ts := by
           rw [List.getD_eq_getElem?_getD, List.getElem?_eq_getElem (by omega)]
           exact List.getElem_mem _
          exact in_u8 (HTW.out _ hm)
         have hcc := HCB.out
         rw [show decide ((i : Int) < tn) = true by simp [hitz], Bool.true_and] at hcc
         generalize ts.getD i 0 = z at g hz hcc
         obtain ⟨k8, hk8, hk9⟩ : ∃ k8 : Nat, z % 8 = (k8 : Int) ∧ k8 < 8 := ⟨(z % 8).toNat, by omega, by omega⟩
         have ht8 : z.tmod 8 = (k8 : Int) := by rw [Int.tmod_eq_emod_of_nonneg hz.1]; exact hk8
         rw [hk8] at hcc
         have hnk := hcc.symm
         clear hcT hK hz hbT hk8 hcc
         go_wp2_with fail
         go_meet
         exact ⟨by rw [<- hnk]; simp, rfl⟩
        ·have hitz : decide ((i : Int) < tn) = false := by simp; omega
         have hcc := HCB.out
         rw [hitz, Bool.false_and] at hcc
         subst hcc
         clear hK
         go_wp2_with fail
         go_meet
         exact ⟨rfl, rfl⟩
       case rest =>
        obtain ⟨rfl, hwc⟩ := hcut
        obtain rfl : wr = wc := hwc.symm
        cases cB
        ·go_upto_region 13 with fail
         go_cut [10] from 97 to 108 (fun v W => (∃ b, v = .bool b) ∧ W = wr)
         case first =>
          have hbs := HBL.out
          by_cases hib : i < bn
          ·have hibz : (i : Int) < bn := by omega
           obtain ⟨bB, oB, rfl, hbB, hcB2⟩ := HB.out.2 (by omega)
           have g := (Below.cell (HK5.out.trans hK) (Nat.lt_of_lt_of_le hbB hbs.1)).trans ((hcB2 i hib))
           generalize bs.getD i false = bv at g
           clear hcB2 hbB hbs hK
           go_wp2_with fail
           go_meet
           exact ⟨⟨bv, rfl⟩, rfl⟩
          ·have hibz : decide ((i : Int) < bn) = false := by simp; omega
           clear hbs hK
           go_wp2_with fail
           go_meet
           exact ⟨⟨false, rfl⟩, rfl⟩
         case rest =>
          obtain ⟨⟨full, rfl⟩, hwc⟩ := hcut
          obtain rfl : wr = wc := hwc.symm
          obtain ⟨⟨XA, xm, xc, rfl, hx1, hx2, hx3⟩, ⟨YA, ym, yc, rfl, hy1, hy2, hy3⟩⟩ := HLL.out
          obtain rfl : l.length = xm := by rw [<- HLZ.out.1]; exact hx1.1
          obtain rfl : l.length = ym := by rw [<- HLZ.out.1]; exact hy1.1
          have HKX := Lib.hid (HK5.out.trans HWR.out)
          have HXI := Lib.hid (And.intro hx1 (And.intro hx2 hx3))
          have HYI := Lib.hid (And.intro hy1 (And.intro hy2 hy3))
          obtain ⟨ask, hask⟩ : ∃ a, a = Ak.get f.pdu := ⟨_, rfl⟩
          obtain ⟨ver, hver⟩ : ∃ v, v = verdict l lz cl f full := ⟨_, rfl⟩
          have HVL : Hid (ver.2.2.length = l.length) := Lib.hid (by rw [hver]; exact verdict_len HOK.out.2.2.1 HLZ.out cl f full)
          have HOV2 : Hid (okV l ver.2.2) := Lib.hid (by rw [hver]; exact okV_verdict HOK.out.2.2.1 HLZ.out cl f full)
          have HN5 : Hid (∀ W, Keep wr W -> Nds W NA (rules l).length (rules l)) := Lib.hid fun W h => HN4.out W ((HK45.out.trans HWR.out).trans h)
          have HC1 := Lib.hid fun (W : World) (h : Keep wr W) => frame_any LA NA XA lc nc xc l lz cl f full W HOK.out.2.2.2 HOK.out.2.2.1 HLZ.out HOK.out.1 HOK.out.2.1 HRF.out.symm (HR.out.kept (HKX.out.trans h)) (HN5.out W h) (HXI.out.1.kept h) HXI.out.2.1 HXI.out.2.2
          have HC2 := Lib.hid fun (W : World) (h : Keep wr W) => Ref24.frame_any LA NA YA lc nc yc l lz cl f full W HOK.out.2.2.2 HOK.out.2.2.1 HLZ.out HOK.out.1 HOK.out.2.1 HRF.out.symm (HR.out.kept (HKX.out.trans h)) (HN5.out W h) (HYI.out.1.kept h) HYI.out.2.1 HYI.out.2.2
          rw [<- hask, <- hver] at HC1 HC2
          have HASK : Hid (ask.vs.length <= 1000000) := Lib.hid (by rw [hask]; exact get_len f.pdu)
          clear hx1 hx2 hx3 hy1 hy2 hy3 hK HLL hask hver y0 y1 y2 y3 y4
          go_wp2_with fail
          refine wp_region_off 18 11 123 40 z6 [122, 109, 123, 126, 14] (verR 122 109 123 ask ver) (by kernel_rfl) (by kernel_rfl) zero6 info6 (fun d _ u W W' hk h => verR_kept hk h) (fun u W h => ask_form h) ?_
          simp only [List.take_succ_cons, List.take_zero, List.drop_succ_cons, List.drop_zero, List.cons_append, List.nil_append]
          apply Exists.intro
          refine ⟨fun Y β hY hf => ?_, ?_⟩
          ·refine Rel.rel_take' 12 (by kernel_rfl) ?_
           apply Exists.intro
           refine ⟨fun F hF hne => ?_, ?_⟩
           ·simp only [List.take_succ_cons, List.take_zero]
            have y0 := fun q : Rel.KeptIn Y F => (HY.out q.w (HKX.out.trans (hY.trans q.h))).1
            have y1 := fun q : Rel.KeptIn Y F => (HY.out q.w (HKX.out.trans (hY.trans q.h))).2.1
            have y2 := fun q : Rel.KeptIn Y F => (HY.out q.w (HKX.out.trans (hY.trans q.h))).2.2.1
            have g1 := fun q : Rel.KeptIn Y F => (HFR.out q.w (HKX.out.trans (hY.trans q.h))).2.1
            have g2 := fun q : Rel.KeptIn Y F => (HFR.out q.w (HKX.out.trans (hY.trans q.h))).2.2.1
            have g3 := fun q : Rel.KeptIn Y F => (HFR.out q.w (HKX.out.trans (hY.trans q.h))).2.2.2
            repeat (go_big_quiet_step (fail))
            refine Go.wpQuiet_nil ?_
            rfl
           simp only [List.drop_succ_cons, List.drop_zero]
           refine Rel.rel_call' 122 15 [.tmp 111, .tmp 112, .tmp 113, .tmp 115, .tmp 120, .tmp 121] #[22, 31, 33, 3, 37, 4] [] (fun V => [.slice LA l.length lc, .slice NA (rules l).length nc, .slice XA l.length xc, .int .i64 cl, .agg #[.int .i64 f.id, .int .i64 f.unit, .string f.pdu], .bool full]) rfl rfl (by kernel_rfl) (fun _ => rfl) ?_ ?_
           ·intro V W5 hk _
            have kk := hY.trans hk
            have hf5 := hf.mono hk.size
            refine (HC1.out W5 kk).mono fun e W' h => ?_
            have h2 := AnsJ.off hf5 (HXI.out.1.kept (keep_off hf5 kk)) HVL.out h
            exact h2
           simp only [Act.put, List.setIfInBounds_toArray, List.set_cons_zero, List.set_cons_succ]
           refine Rel.rel_move 109 122 rfl (.inl rfl) (by kernel_rfl) (fun v W _ h => h) ?_
           simp only [Act.put, List.setIfInBounds_toArray, List.set_cons_zero, List.set_cons_succ]
           refine Rel.rel_ext 123 109 0 rfl rfl (by kernel_rfl) (fun v W _ h => AnsJ.ask h) ?_
           simp only [Act.put, List.setIfInBounds_toArray, List.set_cons_zero, List.set_cons_succ]
           refine Rel.rel_extq (.int .i64 ver.1) 124 109 1 rfl rfl (by kernel_rfl) (fun v W _ h => AnsJ.ver (a := ask) (v := ver) h) ?_
           simp only [Act.put, List.setIfInBounds_toArray, List.set_cons_zero, List.set_cons_succ]
           refine Rel.rel_extq (.int .i64 ver.2.1) 125 109 2 rfl rfl (by kernel_rfl) (fun v W _ h => AnsJ.rul (a := ask) (v := ver) h) ?_
           simp only [Act.put, List.setIfInBounds_toArray, List.set_cons_zero, List.set_cons_succ]
           refine Rel.rel_ext 126 109 3 rfl rfl (by kernel_rfl) (fun v W _ h => AnsJ.lev (a := ask) (v := ver) h) ?_
           simp only [Act.put, List.setIfInBounds_toArray, List.set_cons_zero, List.set_cons_succ]
           refine Rel.rel_take' 2 (by kernel_rfl) ?_
           apply Exists.intro
           refine ⟨fun F hF hne => ?_, ?_⟩
           ·simp only [List.take_succ_cons, List.take_zero]
            repeat (go_big_quiet_step (fail))
            refine Go.wpQuiet_nil ?_
            rfl
           simp only [List.drop_succ_cons, List.drop_zero]
           refine Rel.rel_move 14 126 rfl (.inr rfl) (by kernel_rfl) (fun v W _ h => h) ?_
           simp only [Act.put, List.setIfInBounds_toArray, List.set_cons_zero, List.set_cons_succ]
           exact Rel.rel_nil rfl
          intro V b1 W1 k1 _ hb1 hl1 hr1
          have HA1 : Hid (BoxA ask b1 W1) := Lib.hid (BoxA.of (R := fun _ => True) hb1 hl1)
          have h14 : LvJ ver.2.2 (V 14) W1 := LvJ.on (hr1 14 (by simp))
          clear hl1 hr1
          dsimp only [Rel.fill, Rel.ptr, List.foldl_cons, List.foldl_nil]
          simp only [Act.put, List.setIfInBounds_toArray, List.set_cons_zero, List.set_cons_succ]
          generalize V 14 = v14 at h14 ⊢
          generalize V 122 = v122, V 109 = v109, V 123 = v123, V 126 = v126
          have HL14 := Lib.hid h14
          have HKX1 := Lib.hid (HKX.out.trans k1)
          have HWR1 := Lib.hid (HWR.out.trans k1)
          have HYI1 := Lib.hid (And.intro (HYI.out.1.kept k1) HYI.out.2)
          have HD2 := Lib.hid fun (W : World) (h : Keep W1 W) => HC2.out W (k1.trans h)
          have HB1 := Lib.hid hb1
          clear h14 HC1 HC2 HXI HYI k1 hb1
          go_wp2_with fail
          refine wp_region_off 18 15 141 40 z6 [140, 127, 141, 144, 18] (verR 140 127 141 ask ver) (by kernel_rfl) (by kernel_rfl) zero6 info6 (fun d _ u W W' hk h => verR_kept hk h) (fun u W h => ask_form h) ?_
          simp only [List.take_succ_cons, List.take_zero, List.drop_succ_cons, List.drop_zero, List.cons_append, List.nil_append]
          apply Exists.intro
          refine ⟨fun Y β hY hf => ?_, ?_⟩
          ·refine Rel.rel_take' 12 (by kernel_rfl) ?_
           apply Exists.intro
           refine ⟨fun F hF hne => ?_, ?_⟩
           ·simp only [List.take_succ_cons, List.take_zero]
            have y0 := fun q : Rel.KeptIn Y F => (HY.out q.w (HKX1.out.trans (hY.trans q.h))).1
            have y1 := fun q : Rel.KeptIn Y F => (HY.out q.w (HKX1.out.trans (hY.trans q.h))).2.1
            have y2 := fun q : Rel.KeptIn Y F => (HY.out q.w (HKX1.out.trans (hY.trans q.h))).2.2.1
            have g1 := fun q : Rel.KeptIn Y F => (HFR.out q.w (HKX1.out.trans (hY.trans q.h))).2.1
            have g2 := fun q : Rel.KeptIn Y F => (HFR.out q.w (HKX1.out.trans (hY.trans q.h))).2.2.1
            have g3 := fun q : Rel.KeptIn Y F => (HFR.out q.w (HKX1.out.trans (hY.trans q.h))).2.2.2
            repeat (go_big_quiet_step (fail))
            refine Go.wpQuiet_nil ?_
            rfl
           simp only [List.drop_succ_cons, List.drop_zero]
           refine Rel.rel_call' 140 16 [.tmp 129, .tmp 130, .tmp 131, .tmp 133, .tmp 138, .tmp 139] #[22, 31, 33, 3, 37, 4] [] (fun V => [.slice LA l.length lc, .slice NA (rules l).length nc, .slice YA l.length yc, .int .i64 cl, .agg #[.int .i64 f.id, .int .i64 f.unit, .string f.pdu], .bool full]) rfl rfl (by kernel_rfl) (fun _ => rfl) ?_ ?_
           ·intro V W5 hk _
            have kk := hY.trans hk
            have hf5 := hf.mono hk.size
            refine (HD2.out W5 kk).mono fun e W' h => ?_
            have h2 := AnsJ.off hf5 (HYI1.out.1.kept (keep_off hf5 kk)) HVL.out h
            exact h2
           simp only [Act.put, List.setIfInBounds_toArray, List.set_cons_zero, List.set_cons_succ]
           refine Rel.rel_move 127 140 rfl (.inl rfl) (by kernel_rfl) (fun v W _ h => h) ?_
           simp only [Act.put, List.setIfInBounds_toArray, List.set_cons_zero, List.set_cons_succ]
           refine Rel.rel_ext 141 127 0 rfl rfl (by kernel_rfl) (fun v W _ h => AnsJ.ask h) ?_
           simp only [Act.put, List.setIfInBounds_toArray, List.set_cons_zero, List.set_cons_succ]
           refine Rel.rel_extq (.int .i64 ver.1) 142 127 1 rfl rfl (by kernel_rfl) (fun v W _ h => AnsJ.ver (a := ask) (v := ver) h) ?_
           simp only [Act.put, List.setIfInBounds_toArray, List.set_cons_zero, List.set_cons_succ]
           refine Rel.rel_extq (.int .i64 ver.2.1) 143 127 2 rfl rfl (by kernel_rfl) (fun v W _ h => AnsJ.rul (a := ask) (v := ver) h) ?_
           simp only [Act.put, List.setIfInBounds_toArray, List.set_cons_zero, List.set_cons_succ]
           refine Rel.rel_ext 144 127 3 rfl rfl (by kernel_rfl) (fun v W _ h => AnsJ.lev (a := ask) (v := ver) h) ?_
           simp only [Act.put, List.setIfInBounds_toArray, List.set_cons_zero, List.set_cons_succ]
           refine Rel.rel_take' 2 (by kernel_rfl) ?_
           apply Exists.intro
           refine ⟨fun F hF hne => ?_, ?_⟩
           ·simp only [List.take_succ_cons, List.take_zero]
            repeat (go_big_quiet_step (fail))
            refine Go.wpQuiet_nil ?_
            rfl
           simp only [List.drop_succ_cons, List.drop_zero]
           refine Rel.rel_move 18 144 rfl (.inr rfl) (by kernel_rfl) (fun v W _ h => h) ?_
           simp only [Act.put, List.setIfInBounds_toArray, List.set_cons_zero, List.set_cons_succ]
           exact Rel.rel_nil rfl
          intro V b2 W2 k2 hb2l hb2 hl2 hr2
          have HA2 : Hid (BoxA ask b2 W2) := Lib.hid (BoxA.of (R := fun _ => True) hb2 hl2)
          have h18 : LvJ ver.2.2 (V 18) W2 := LvJ.on (hr2 18 (by simp))
          clear hl2 hr2
          dsimp only [Rel.fill, Rel.ptr, List.foldl_cons, List.foldl_nil]
          simp only [Act.put, List.setIfInBounds_toArray, List.set_cons_zero, List.set_cons_succ]
          generalize V 18 = v18 at h18 ⊢
          generalize V 140 = v140, V 127 = v127, V 141 = v141, V 144 = v144
          have HL18 := Lib.hid (And.intro (HL14.out.kept k2) h18)
          have HA12 := Lib.hid (And.intro (HA1.out.kept k2) HA2.out)
          have HKX2 := Lib.hid (HKX1.out.trans k2)
          have HWR2 := Lib.hid (HWR1.out.trans k2)
          obtain ⟨y0, y1, y2, y3, y4⟩ := HY.out W2 HKX2.out
          obtain ⟨_, g1, g2, g3⟩ := HFR.out W2 HKX2.out
          have HE1 := Lib.hid fun W => excuse_any f ver.1 W HRF.out.symm
          have HE2 := Lib.hid fun W => Ref24.excuse_any f ver.1 W HRF.out.symm
          obtain ⟨ef, hef⟩ : ∃ e, e = excuse f ver.1 := ⟨_, rfl⟩
          obtain ⟨eo, heo⟩ : ∃ e, e = excuseOk ver.1 := ⟨_, rfl⟩
          rw [<- hef, <- heo] at HE1 HE2
          clear hef heo h18 HL14 HA1 HA2 HD2 HYI1 HKX1 HWR1 HB1 k2 hb2 hb2l HN5
          go_wp2_with fail
          refine (HE1.out W2).mono ?_
          rintro e W3 ⟨rfl, k3⟩
          have HKX3 := Lib.hid (HKX2.out.trans k3)
          have HK23 := Lib.hid k3
          clear y0 y1 y2 y3 y4 g1 g2 g3 k3
          have ka := fun O => HKX3.out.trans ((Keep.refl W3).alloc O)
          have y2 := fun O => (HY.out _ (ka O)).2.2.1
          have g1 := fun O => (HFR.out _ (ka O)).2.1
          have g2 := fun O => (HFR.out _ (ka O)).2.2.1
          have g3 := fun O => (HFR.out _ (ka O)).2.2.2
          clear ka
          go_wp2_with fail
          obtain ⟨X3, hX3⟩ : ∃ X3, X3 = W3.alloc (.cells #[.int .i64 ef.id, .int .i64 ef.unit, .string ef.pdu] 37) := ⟨_, rfl⟩
          rw [<- hX3]
          have B3 : Hid (Bx X3 W3.heap.size [.int .i64 ef.id, .int .i64 ef.unit, .string ef.pdu]) := Lib.hid (by rw [hX3]; exact Bx.newq rfl)
          have k3 : Keep W3 X3 := by rw [hX3]; exact (Keep.refl W3).alloc _
          have HX3 := Lib.hid hX3
          clear hX3 y2 g1 g2 g3
          refine (HE2.out X3).mono ?_
          rintro e W4b ⟨rfl, k4⟩
          have kk := HK23.out.trans (k3.trans k4)
          have hb3 := B3.out.kept k4
          have hba1 := HA12.out.1.kept kk
          have hba2 := HA12.out.2.kept kk
          have HLK := Lib.hid (And.intro (HL18.out.1.kept kk) (HL18.out.2.kept kk))
          have HKW := Lib.hid (HWR2.out.trans kk)
          obtain ⟨hb1, A1, n1, c1, ⟨p0, p1, p2, p3, p4, p5⟩, hI1⟩ := hba1
          obtain ⟨hb2, A2, n2, c2, ⟨q0, q1, q2, q3, q4, q5⟩, hI2⟩ := hba2
          have kz := fun O => (Keep.refl W4b).alloc O
          have r0 := fun O => (Below.cell (kz O) hb1).trans p0
          have r1 := fun O => (Below.cell (kz O) hb1).trans p1
          have r2 := fun O => (Below.cell (kz O) hb1).trans p2
          have r3 := fun O => (Below.cell (kz O) hb1).trans p3
          have r4 := fun O => (Below.cell (kz O) hb1).trans p4
          have r5 := fun O => (Below.cell (kz O) hb1).trans p5
          have s0 := fun O => (Below.cell (kz O) hb2).trans q0
          have s1 := fun O => (Below.cell (kz O) hb2).trans q1
          have s2 := fun O => (Below.cell (kz O) hb2).trans q2
          have s3 := fun O => (Below.cell (kz O) hb2).trans q3
          have s4 := fun O => (Below.cell (kz O) hb2).trans q4
          have s5 := fun O => (Below.cell (kz O) hb2).trans q5
          have HI12 := Lib.hid (And.intro hI1 hI2)
          have HB3 := Lib.hid hb3
          have HAL : Hid (ask.vs.length <= 1000000) := HASK
          clear p0 p1 p2 p3 p4 p5 q0 q1 q2 q3 q4 q5 hI1 hI2 hb3 kk k3 k4 kz B3 HX3 HK23 HL18 HA12
          go_wp2_with fail
          obtain ⟨X4, hX4⟩ : ∃ X4, X4 = W4b.alloc (.cells #[.int .i64 ef.id, .int .i64 ef.unit, .string ef.pdu] 37) := ⟨_, rfl⟩
          rw [<- hX4]
          have B4 : Hid (Bx X4 W4b.heap.size [.int .i64 ef.id, .int .i64 ef.unit, .string ef.pdu]) := Lib.hid (by rw [hX4]; exact Bx.newq rfl)
          have k4 : Keep W4b X4 := by rw [hX4]; exact (Keep.refl W4b).alloc _
          clear hX4 r0 r1 r2 r3 r4 r5 s0 s1 s2 s3 s4 s5 hb1 hb2
          have HS6 := Ref6.same_any A1 A2 n1 c1 n2 c2 ask ask X4 (by have := HI12.out.1.1; rw [<- this]; exact HAL.out) (HI12.out.1.kept k4) (HI12.out.2.kept k4)
          rw [same_self] at HS6
          have HB34 := Lib.hid (HB3.out.kept k4)
          have HLK4 := Lib.hid (And.intro (HLK.out.1.kept k4) (HLK.out.2.kept k4))
          have HKW4 := Lib.hid (HKW.out.trans k4)
          refine HS6.mono ?_
          rintro e W5b ⟨rfl, k5b⟩
          have HB35 := Lib.hid (HB34.out.kept k5b)
          have HB45 := Lib.hid (B4.out.kept k5b)
          have HKW5 := Lib.hid (HKW4.out.trans k5b)
          have hlk1 := HLK4.out.1.kept k5b
          have hlk2 := HLK4.out.2.kept k5b
          obtain ⟨V1, vm, vc, rfl, hv1, hv1c⟩ := hlk1
          obtain ⟨V2, um, uc, rfl, hv2, hv2c⟩ := hlk2
          have HIN := Ref1.ints_any V1 V2 vm um vc uc ver.2.2 ver.2.2 W5b (by have := hv1.1; have := HVL.out; have := HOK.out.2.2.2; omega) hv1 hv2
          rw [show (ver.2.2 == ver.2.2) = true by simp] at HIN
          have HIN2 := Lib.hid HIN
          have HVS := Lib.hid (And.intro (And.intro hv1 hv1c) (And.intro hv2 hv2c))
          have n1' : (ver.1 != ver.1) = false := by simp
          have n2' : (ver.2.1 != ver.2.1) = false := by simp
          have n3' : (eo != eo) = false := by simp
          clear HIN HS6 hv1 hv1c hv2 hv2c k5b k4 HB3 HLK HKW HLK4 HKW4 HB34 B4 HI12
          go_wp2_with fail
          refine HIN2.out.mono ?_
          rintro e W6b ⟨rfl, q6⟩
          have k6 := q6.keep
          obtain ⟨_, e3⟩ := HB35.out.kept k6
          obtain ⟨_, e4⟩ := HB45.out.kept k6
          have f30 := e3 0 _ rfl
          have f31 := e3 1 _ rfl
          have f32 := e3 2 _ rfl
          have f40 := e4 0 _ rfl
          have f41 := e4 1 _ rfl
          have f42 := e4 2 _ rfl
          have HKW6 := Lib.hid (HKW5.out.trans k6)
          have HV6 : Hid (LvJ ver.2.2 (.slice V1 vm vc) W6b ∧ LvJ ver.2.2 (.slice V2 um uc) W6b) := Lib.hid ⟨⟨_, _, _, rfl, HVS.out.1.1.kept k6, HVS.out.1.2⟩, ⟨_, _, _, rfl, HVS.out.2.1.kept k6, HVS.out.2.2⟩⟩
          have heq := eqF ef.id ef.unit ef.pdu
          have hgd := guardF
          clear e3 e4 k6 q6 HIN2 HVS HB35 HB45 HKW5
          go_wp2_with fail
          exact ⟨⟨i + 1, ver.2.2, by omega, by go_num, HOV2, HV6.out.1, HV6.out.2, HK45.out.trans HKW6.out⟩, by simp [intOf]; omega⟩
        ·have hnlt := HN8.out rfl
         go_wp2_with fail
         obtain ⟨⟨XA, xm, xc, rfl, hx1, hx2, hx3⟩, ⟨YA, ym, yc, rfl, hy1, hy2, hy3⟩⟩ := HLL.out
         obtain rfl : l.length = xm := by rw [<- HLZ.out.1]; exact hx1.1
         obtain rfl : l.length = ym := by rw [<- HLZ.out.1]; exact hy1.1
         have HT1 := Lib.hid fun (W : World) (h : Keep wr W) => tick_any LA XA lc xc l lz W HOK.out.2.2.2 HOK.out.2.2.1 HLZ.out (HR.out.kept ((HK5.out.trans HWR.out).trans h)) hx2 hx3 (hx1.kept h)
         have HT2 := Lib.hid fun (W : World) (h : Keep wr W) => Ref24.tick_any LA YA lc yc l lz W HOK.out.2.2.2 HOK.out.2.2.1 HLZ.out (HR.out.kept ((HK5.out.trans HWR.out).trans h)) (hy1.kept h)
         have HLT := Lib.hid (okV_tick HOK.out.2.2.1 HLZ.out)
         generalize tick l lz = lt at HT1 HT2 HLT
         clear hx1 hx2 hx3 hy1 hy2 hy3 HLL y1 y2 y3 y4 y0
         refine Rel.wp_region_rel_tail 8 [92, 96] (lv2R lt) (by kernel_rfl) (by kernel_rfl) (fun d _ u W W' hk h => LvJ.kept h hk) ?_
         simp only [List.take_succ_cons, List.take_zero]
         refine Rel.rel_take' 3 (by kernel_rfl) ?_
         apply Exists.intro
         refine ⟨fun F hF hne => ?_, ?_⟩
         ·simp only [List.take_succ_cons, List.take_zero]
          have y0 := fun q : Rel.KeptIn wr F => (HY.out q.w ((HK5.out.trans HWR.out).trans q.h)).1
          repeat (go_big_quiet_step (fail))
          refine Go.wpQuiet_nil ?_
          rfl
         simp only [List.drop_succ_cons, List.drop_zero]
         refine Rel.rel_call' 92 13 [.tmp 90, .tmp 91] #[22, 33] [] (fun V => [.slice LA l.length lc, .slice XA l.length xc]) rfl rfl (by kernel_rfl) (fun _ => rfl) ?_ ?_
         ·intro V W hk _
          exact (HT1.out W hk).mono fun e W' h => LvJ.of h
         simp only [Act.put, List.setIfInBounds_toArray, List.set_cons_zero, List.set_cons_succ]
         refine Rel.rel_take' 3 (by kernel_rfl) ?_
         apply Exists.intro
         refine ⟨fun F hF hne => ?_, ?_⟩
         ·simp only [List.take_succ_cons, List.take_zero]
          have y0 := fun q : Rel.KeptIn wr F => (HY.out q.w ((HK5.out.trans HWR.out).trans q.h)).1
          repeat (go_big_quiet_step (fail))
          refine Go.wpQuiet_nil ?_
          rfl
         simp only [List.drop_succ_cons, List.drop_zero]
         refine Rel.rel_call' 96 14 [.tmp 94, .tmp 95] #[22, 33] [] (fun V => [.slice LA l.length lc, .slice YA l.length yc]) rfl rfl (by kernel_rfl) (fun _ => rfl) ?_ ?_
         ·intro V W hk _
          exact (HT2.out W hk).mono fun e W' h => LvJ.of h
         simp only [Act.put, List.setIfInBounds_toArray, List.set_cons_zero, List.set_cons_succ]
         refine Rel.rel_nil fun V W6 k6 hV => ?_
         have h6 : LvJ lt (V 92) W6 := hV 92 (by simp)
         have h7 : LvJ lt (V 96) W6 := hV 96 (by simp)
         clear hV
         try simp only [List.drop_succ_cons, List.drop_zero]
         dsimp only [Rel.fill, Rel.ptr, List.foldl_cons, List.foldl_nil]
         simp only [Act.put, List.setIfInBounds_toArray, List.set_cons_zero, List.set_cons_succ]
         generalize V 92 = v92 at h6 ⊢
         generalize V 96 = v96 at h7 ⊢
         have HKN := Lib.hid (HWR.out.trans k6)
         clear k6
         go_wp2
         exact ⟨⟨n + 1, lt, by omega, by go_num, HLT, h6, h7, HKN.out⟩, by simp [intOf]; omega⟩
    ·obtain rfl : i = fn := by omega
     clear hlt
     go_wp2_with fail
     refine (awake_any _).mono ?_
     rintro e w5 ⟨rfl, k5⟩
     go_wp2
     go_ret
     exact ⟨rfl, (HK0.out.trans hKX).trans k5⟩
end Go.Proofs.YtaciogcpghbhjaaGreat.Judge
