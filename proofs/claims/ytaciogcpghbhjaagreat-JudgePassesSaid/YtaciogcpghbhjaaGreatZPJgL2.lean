/- Of these texts: JgL2, JgL3. Conditions: as each part says. -/
import Derived.Test.YtaciogcpghbhjaaGreatZTJg
import Derived.Test.YtaciogcpghbhjaaGreatZTJgO
import Derived.Test.YtaciogcpghbhjaaGreatZTJgF
import Derived.Deep.CutRange
import Derived.Test.YtaciogcpghbhjaaGreatZTMeR
/- Layer 24's laws: JudgeTells. Conditions: none beyond the law's own. -/
namespace Go.Proofs.YtaciogcpghbhjaaGreat.Judge
set_option linter.unusedVariables false
set_option linter.unusedSimpArgs false
set_option maxRecDepth 100000
open Go.ChangeShapes Go.WideShapes Go.ChangeAt Go.RowKit
open Tr (zero zeroR Rus RuleAt RuIn RulesIn)
open Nd (Nds okRs)
open Wk (okF)
open Cp (rules)
open Jg
open JgM (mayB may_facts may_any)
open JgO (CaseP CaseIn)
open Strm (FramesIn)
open Ref24 (RetLv RetJ)
open Ref9 (encF row_frame)
theorem get_len (s : ByteArray) : (Ak.get s).vs.length <= 1000000 := by
 by_cases h : Ak.err s = 0
 ·have := (Ref24.ask_few s 0 0 h).2.1
  omega
 ·unfold Ak.get
  rw [if_neg (by simpa using h)]
  exact Nat.zero_le _
theorem same_self (a : AskP) : Ak.same a a = true := by
 unfold Ak.same
 simp
theorem verdict_len {l : List RuleP} {lv : List Int} (hj : okJ l) (h : okV l lv) (cl : Int) (f : FrameP) (full : Bool) : (verdict l lv cl f full).2.2.length = l.length := (okV_verdict hj h cl f full).1
theorem LvJ.on {lv : List Int} {u : Value} {β : Option Nat} {W : World} (h : LvJ lv u (Go.Proofs.YtaciogcpghbhjaaGreat.off β W)) : LvJ lv u W := by
 obtain ⟨B, m, d, e, h1, h2⟩ := h
 exact ⟨B, m, d, e, ints_on h1, h2⟩
theorem AskJ.on {a : AskP} {u : Value} {β : Option Nat} {W : World} (h : AskJ a u (Go.Proofs.YtaciogcpghbhjaaGreat.off β W)) : AskJ a u W := by
 obtain ⟨A, n, c, e, h1⟩ := h
 exact ⟨A, n, c, e, ints_on h1⟩
def BoxA (a : AskP) (b : Nat) (W : World) : Prop := b < W.heap.size ∧ ∃ A n c, Ref6.Boxed b a A n c W ∧ Ints .i64 W W.heap.size A n a.vs
theorem BoxA.kept {a : AskP} {b : Nat} {W W' : World} (h : BoxA a b W) (hk : Keep W W') : BoxA a b W' := by
 obtain ⟨hb, A, n, c, h1, h2⟩ := h
 exact ⟨Nat.lt_of_lt_of_le hb hk.size, A, n, c, h1.below hk hb, h2.kept hk⟩
theorem BoxA.of {a : AskP} {b : Nat} {W : World} {R : World -> Prop} (hb : b < W.heap.size) (h : ∃ cs : Array Value, cs.size = z6.size ∧ W.there b 0 z6.size ∧ W.rangeAt b 0 cs.toList ∧ AskJ a (.agg cs) (Go.Proofs.YtaciogcpghbhjaaGreat.off (some b) W)) : BoxA a b W := by
 obtain ⟨cs, _, _, hr, hA⟩ := h
 obtain ⟨A, n, c, e, hI⟩ := hA.on
 injection e with e
 subst e
 refine ⟨hb, A, n, c, ⟨?_, ?_, ?_, ?_, ?_, ?_⟩, hI⟩
 ·have := hr 0 _ rfl; rw [Nat.zero_add] at this; exact this
 ·have := hr 1 _ rfl; rw [Nat.zero_add] at this; exact this
 ·have := hr 2 _ rfl; rw [Nat.zero_add] at this; exact this
 ·have := hr 3 _ rfl; rw [Nat.zero_add] at this; exact this
 ·have := hr 4 _ rfl; rw [Nat.zero_add] at this; exact this
 ·have := hr 5 _ rfl; rw [Nat.zero_add] at this; exact this
def verR (c1 c2 x : Tmp) (a : AskP) (v : Int × Int × List Int) (t : Tmp) (u : Value) (W : World) : Prop := if t = c1 ∨ t = c2 then AnsJ a v u W else if t = x then AskJ a u W else LvJ v.2.2 u W
theorem verR_kept {c1 c2 x : Tmp} {a : AskP} {v : Int × Int × List Int} {t : Tmp} {u : Value} {W W' : World} (hk : Keep W W') (h : verR c1 c2 x a v t u W) : verR c1 c2 x a v t u W' := by
 unfold verR at *
 split
 ·rename_i e; rw [if_pos e] at h; exact h.kept hk
 rename_i e1; rw [if_neg e1] at h
 split
 ·rename_i e; rw [if_pos e] at h; exact h.kept hk
 rename_i e2; rw [if_neg e2] at h
 exact h.kept hk
end Go.Proofs.YtaciogcpghbhjaaGreat.Judge
/- Layer 24's laws: JudgePasses. Conditions: none beyond the law's own. -/
namespace Go.Proofs.YtaciogcpghbhjaaGreat.Judge
set_option linter.unusedVariables false
set_option linter.unusedSimpArgs false
set_option maxRecDepth 100000
open Go.ChangeShapes Go.WideShapes Go.ChangeAt Go.RowKit
open Tr (zero zeroR Rus RuleAt RuIn RulesIn)
open Nd (Nds okRs)
open Wk (okF)
open Cp (rules)
open Jg
open JgM (mayB may_facts may_any)
open JgO (CaseP CaseIn)
open Strm (FramesIn)
open Ref24 (RetLv RetJ)
open Ref9 (encF row_frame)
theorem roomy_short : ∀ (N : Nat) (e : ExprP), Nd.roomy e -> Me.short N e
 | 0, _, _ => trivial
 | N + 1, e, h => by
   obtain ⟨k, f, r, l, hh, o⟩ := e
   rw [Nd.roomy] at h
   exact ⟨by show r.length <= 100000; omega, fun y hy => roomy_short N y (Nd.roomyL_mem h.2 y hy)⟩
theorem okX_of {e : ExprP} (h : okF e) : Me.okX e := by
 obtain ⟨⟨hw, hs, hr⟩, _⟩ := h
 exact ⟨⟨hw, Nd.roomy_fits _ e (Nat.le_refl _) hw hs⟩, fun N => roomy_short N e hs, hr⟩
theorem ver_bad (l : List RuleP) (lv : List Int) (cl : Int) (f : FrameP) (full : Bool) (h : Ak.err f.pdu ≠ 0) : ∃ k : Int, verdict l lv cl f full = (k, -1, lv) ∧ k ≠ 1 ∧ Ak.get f.pdu = Ak.zero := by
 have hz : Ak.get f.pdu = Ak.zero := by unfold Ak.get; rw [if_neg h]
 unfold verdict
 rcases err_four f.pdu with h0 | h2 | h3 | h4
 ·exact absurd h0 h
 ·exact ⟨3, by rw [if_pos h2], by decide, hz⟩
 ·exact ⟨4, by rw [if_neg (by omega), if_pos h3], by decide, hz⟩
 ·exact ⟨5, by rw [if_neg (by omega), if_neg (by omega), if_pos h4], by decide, hz⟩
def passA (l : List RuleP) (k : Int) (full : Bool) : Bool := decide (0 <= k) && ((l.getD k.toNat zeroR).allow && !full)
def passB (l : List RuleP) (lv : List Int) (k : Int) : Bool := !decide (lv.getD k.toNat 0 < (l.getD k.toNat zeroR).per)
theorem ver_good (l : List RuleP) (lv : List Int) (cl : Int) (f : FrameP) (full : Bool) (h : Ak.err f.pdu = 0) :
  (verdict l lv cl f full).2.1 = rule l cl f ∧ ((verdict l lv cl f full).1 == 1) = (passA l (rule l cl f) full && ((l.getD (rule l cl f).toNat zeroR).per == 0 || passB l lv (rule l cl f))) ∧
  (verdict l lv cl f full).2.2 = if (passA l (rule l cl f) full && (!((l.getD (rule l cl f).toNat zeroR).per == 0) && passB l lv (rule l cl f))) = true then lv.set (rule l cl f).toNat (lv.getD (rule l cl f).toNat 0 - (l.getD (rule l cl f).toNat zeroR).per) else lv := by
 unfold verdict passA passB
 rw [if_neg (by omega), if_neg (by omega), if_neg (by omega)]
 generalize rule l cl f = k
 generalize l.getD k.toNat zeroR = r
 generalize lv.getD k.toNat 0 = x
 by_cases h1 : k < 0 ∨ r.allow = false
 ·rw [if_pos h1]
  have e : (decide (0 <= k) && (r.allow && !full)) = false := by
   rcases h1 with h1 | h1
   ·simp; omega
   ·simp [h1]
  simp [e]
 ·rw [if_neg h1]
  have e : (decide (0 <= k) && (r.allow && !full)) = !full := by
   have h2 : r.allow = true := by
    cases ha : r.allow
    ·exact absurd (.inr ha) h1
    ·rfl
   have h3 : 0 <= k := by omega
   simp [h2, h3]
  rw [e]
  cases full
  ·rw [if_neg (by decide)]
   by_cases h2 : r.per = 0
   ·rw [if_pos h2]; simp [h2]
   ·rw [if_neg h2]
    by_cases h3 : x < r.per
    ·rw [if_pos h3]; simp [h2, h3]
    ·rw [if_neg h3]; simp [h2, h3]
  ·rw [if_pos rfl]; simp
theorem set_only {lv : List Int} {k : Int} {z : Int} (hk : 0 <= k) (n : Nat) (hn : n < lv.length) (h : (lv.set k.toNat z).getD n 0 ≠ lv.getD n 0) : (n : Int) = k := by
 by_cases e : k.toNat = n
 ·omega
 ·exact absurd (by simp [List.getD_eq_getElem?_getD, List.getElem?_set, e]) h
theorem BoxA.new {a : AskP} {A : Option Addr} {n c : Nat} {W : World} (hI : Ints .i64 W W.heap.size A n a.vs) : BoxA a W.heap.size (W.alloc (.cells #[.int .i64 a.fc, .int .i64 a.rd, .int .i64 a.ct, .int .i64 a.wr, .int .i64 a.mn, .slice A n c] 40)) :=
 ⟨by simp, A, n, c, Ref6.Boxed.new .., hI.kept ((Keep.refl W).alloc _)⟩
def FaJ (x : FactsP) (u : Value) (W : World) : Prop := ∃ SA VA QA c1 c2 c3, u = .agg #[.int .i64 x.cl, .int .i64 x.un, .int .i64 x.fc, .slice SA x.sp.length c1, .slice VA x.vs.length c2, .slice QA x.rg.length c3] ∧ Fa.FaAt W x SA VA QA ∧ x.rg.length <= c3 ∧ c3 <= maxLen
theorem FaJ.kept {x : FactsP} {u : Value} {W W' : World} (h : FaJ x u W) (hk : Keep W W') : FaJ x u W' := by
 obtain ⟨SA, VA, QA, c1, c2, c3, e, h1, h2⟩ := h
 exact ⟨SA, VA, QA, c1, c2, c3, e, h1.kept hk, h2⟩
set_option maxHeartbeats 16000000 in
theorem passes_any (p : CaseP) (w : World) (hC : CaseIn w p) :
  Calls Tryz.prog 4 #[.agg p.cells.toArray] w fun e w' => e = .returned (.bool true) ∧ Keep w w' := by
 obtain ⟨LA, ln, lc, l, cl, FA, fn, fc, fs, BA, bn, bc, bs, TA, tn, tc, ts⟩ := p
 obtain ⟨⟨_, _, hl, hR, hW⟩, ⟨_, hfm, hF, hFs⟩, ⟨_, hbm, hB⟩, ⟨_, htm, hT, hTw⟩⟩ := hC
 simp only at hl hR hW hF hFs hB hT hTw hfm hbm htm
 subst hl
 obtain ⟨X, hX⟩ : ∃ X, X = w.alloc (.cells #[.slice LA l.length lc, .int .i64 cl, .slice FA fn fc, .slice BA bn bc, .slice TA tn tc] 27) := ⟨_, rfl⟩
 have k0 : Keep w X := by rw [hX]; exact (Keep.refl w).alloc _
 have B0 : Hid (Bx X w.heap.size [.slice LA l.length lc, .int .i64 cl, .slice FA fn fc, .slice BA bn bc, .slice TA tn tc]) := Lib.hid (by rw [hX]; exact Bx.newq rfl)
 have HX := Lib.hid hX
 have HM := Lib.hid fun (W : World) (h : Keep X W) => may_any LA lc l W (hR.kept (k0.trans h)) hW
 have HMF := Lib.hid (may_facts hW)
 have HR := Lib.hid (hR.kept k0)
 have HF := Lib.hid (hF.kept k0)
 have HFS := Lib.hid hFs
 have HB := Lib.hid (hB.keep (w' := X) (fun p hp => Below.cell k0 hp))
 have HBL := Lib.hid (And.intro k0.size (And.intro hbm hfm))
 have hcells : CaseP.cells ⟨LA, l.length, lc, l, cl, FA, fn, fc, fs, BA, bn, bc, bs, TA, tn, tc, ts⟩ = [.slice LA l.length lc, .int .i64 cl, .slice FA fn fc, .slice BA bn bc, .slice TA tn tc] := rfl
 rw [hcells]
 clear hX hR hW hF hFs hB hT hTw hcells hfm hbm htm
 obtain ⟨m, hm⟩ : ∃ m, m = mayB l := ⟨_, rfl⟩
 rw [<- hm] at HM HMF
 have y : ∀ W, Keep X W -> W.cell? ⟨w.heap.size, 0, none⟩ = some (.slice LA l.length lc) ∧ W.cell? ⟨w.heap.size, 1, none⟩ = some (.int .i64 cl) ∧ W.cell? ⟨w.heap.size, 2, none⟩ = some (.slice FA fn fc) ∧ W.cell? ⟨w.heap.size, 3, none⟩ = some (.slice BA bn bc) := fun W h => ⟨(B0.out.kept h).2 0 _ rfl, (B0.out.kept h).2 1 _ rfl, (B0.out.kept h).2 2 _ rfl, (B0.out.kept h).2 3 _ rfl⟩
 have HY := Lib.hid y
 have HK0 := Lib.hid k0
 clear y k0 B0 hm
 have y0 := (HY.out X (Keep.refl X)).1
 cases m
 ·go_enter Tryz.func4, Tryz.ntmps4
  go_wp2_with fail
  rw [<- HX.out]
  go_wp2_with fail
  refine (HM.out X (Keep.refl X)).mono ?_
  rintro e w1 ⟨rfl, k1⟩
  clear y0
  obtain ⟨y0, y1, y2, y3⟩ := HY.out w1 k1
  go_wp2_with fail
  refine (awake_any _).mono ?_
  rintro e w2 ⟨rfl, k2⟩
  go_wp2
  go_ret
  exact ⟨rfl, (HK0.out.trans k1).trans k2⟩
 ·obtain ⟨hl6, hok, hof, hj⟩ := HMF.out rfl
  by_cases h20 : 20 < fn
  ·have d : decide ((20 : Int) < (fn : Int)) = true := by simp; omega
   clear h20 hl6 hok hof hj
   go_enter Tryz.func4, Tryz.ntmps4
   go_wp2_with fail
   rw [<- HX.out]
   go_wp2_with fail
   refine (HM.out X (Keep.refl X)).mono ?_
   rintro e w1 ⟨rfl, k1⟩
   clear y0
   obtain ⟨y0, y1, y2, y3⟩ := HY.out w1 k1
   go_wp2_with fail
   refine (awake_any _).mono ?_
   rintro e w2 ⟨rfl, k2⟩
   go_wp2
   go_ret
   exact ⟨rfl, (HK0.out.trans k1).trans k2⟩
  ·have d : decide ((20 : Int) < (fn : Int)) = false := by simp; omega
   have hn20 : fn <= 20 := by omega
   have hl1 : l.length <= 1000 := by omega
   clear h20 hl6
   go_enter Tryz.func4, Tryz.ntmps4
   go_wp2_with fail
   rw [<- HX.out]
   go_wp2_with fail
   refine (HM.out X (Keep.refl X)).mono ?_
   rintro e w1 ⟨rfl, k1⟩
   clear y0
   obtain ⟨y0, y1, y2, y3⟩ := HY.out w1 k1
   have HRU := Lib.hid fun (W : World) (h : Keep X W) => Nd.ref_rules_any LA lc l W hok (HR.out.kept h)
   go_wp2_with fail
   refine (HRU.out w1 k1).mono ?_
   rintro e w2 ⟨NA, nc, rfl, hown, k2⟩
   have HN : Hid (∀ W, Keep w2 W -> Nds W NA (rules l).length (rules l)) := Lib.hid fun W h => hown.nds.kept h
   have HK2 := Lib.hid (k1.trans k2)
   have HOK := Lib.hid (And.intro hok (And.intro hof (And.intro hj hl1)))
   clear y0 y1 y2 y3 hown k1 k2 HRU hok hof hj hl1 HM HMF
   obtain ⟨y0, y1, y2, y3⟩ := HY.out w2 HK2.out
   have HLV := Lib.hid (levels_any LA lc l w2 HOK.out.2.2.2 HOK.out.2.2.1 (HR.out.kept HK2.out))
   obtain ⟨lv, hlv⟩ : ∃ lv, lv = levels l := ⟨_, rfl⟩
   have HOV := Lib.hid (show okV l lv from by rw [hlv]; exact okV_levels HOK.out.2.2.1)
   rw [<- hlv] at HLV
   clear hlv
   go_wp2_with fail
   refine HLV.out.mono ?_
   rintro e W4 h4
   obtain ⟨xv0, rfl, k4, h6⟩ := LvJ.of h4
   have HK4 := Lib.hid (HK2.out.trans k4)
   have HN4 : Hid (∀ W, Keep W4 W -> Nds W NA (rules l).length (rules l)) := Lib.hid fun W h => HN.out W (k4.trans h)
   clear HLV HN k4 h4 y0 y1 y2 y3
   go_wp2
   go_loopw [4, 5] (fun xv iv wr => ∃ (i : Nat) (lw : List Int), i <= fn ∧ iv = .int .i64 i ∧ Hid (okV l lw) ∧ LvJ lw xv wr ∧ Keep W4 wr) (fun _ iv _ => fn - (intOf iv).toNat)
   case atStart => exact ⟨0, lv, Nat.zero_le _, rfl, HOV, h6, Keep.refl _⟩
   case round =>
    obtain ⟨i, lz, hi, rfl, HLZ, h6, hK⟩ := hrel
    have hKX := HK4.out.trans hK
    obtain ⟨y0, y1, y2, y3⟩ := HY.out wr hKX
    by_cases hlt : i < fn
    ·have hltz : (i : Int) < fn := by omega
     have hi0 : (0 : Int) <= i := by omega
     obtain ⟨bF, oF, rfl, _⟩ := HF.out.addr (by omega)
     have HFR : Hid (∀ W, Keep X W -> bF < X.heap.size ∧ W.cell? ⟨bF, oF + i * 3, none⟩ = some (.int .i64 (fs.getD i Mb.zero).id) ∧ W.cell? ⟨bF, oF + i * 3 + 1, none⟩ = some (.int .i64 (fs.getD i Mb.zero).unit) ∧ W.cell? ⟨bF, oF + i * 3 + 2, none⟩ = some (.string (fs.getD i Mb.zero).pdu)) := Lib.hid fun W h => by
      obtain ⟨g0, g1, g2, g3⟩ := row_frame HF.out i hlt
      exact ⟨g0, (Below.cell h g0).trans g1, (Below.cell h g0).trans g2, (Below.cell h g0).trans g3⟩
     have hfz : (fs.getD i Mb.zero).pdu.size <= maxLen := by
      have hl := HF.out.1
      rw [List.getD_eq_getElem?_getD, List.getElem?_eq_getElem (by omega)]
      exact HFS.out _ (List.getElem_mem _)
     generalize fs.getD i Mb.zero = f at HFR hfz
     obtain ⟨_, g1, g2, g3⟩ := HFR.out wr hKX
     have HRT := Lib.hid (Ref8.right_any f wr hfz)
     obtain ⟨rf, hrf⟩ : ∃ rf, rf = Mb.right f := ⟨_, rfl⟩
     rw [<- hrf] at HRT
     have HRF := Lib.hid hrf
     have HKX0 := Lib.hid hKX
     have HKR := Lib.hid hK
     have H6 := Lib.hid h6
     clear hfz hrf hKX hK h6
     go_wp2_with fail
     refine HRT.out.mono ?_
     rintro e w5 ⟨rfl, k5⟩
     have HKX := Lib.hid (HKX0.out.trans k5)
     have HWR := Lib.hid (HKR.out.trans k5)
     have h65 := H6.out.kept k5
     clear y0 y1 y2 y3 g1 g2 g3 k5 HRT HKX0 HKR H6
     cases rf
     ·go_wp2
      exact ⟨⟨i + 1, lz, by omega, by go_num, HLZ, h65, HWR.out⟩, by simp [intOf]; omega⟩
     ·obtain ⟨y0, y1, y2, y3⟩ := HY.out w5 HKX.out
      have H65 := Lib.hid h65
      clear h65
      go_upto_region 9 with fail
      go_cut [6] from 49 to 60 (fun v W => (∃ b, v = .bool b) ∧ W = w5)
      case first =>
       have hbs := HBL.out
       by_cases hib : i < bn
       ·have hibz : (i : Int) < bn := by omega
        obtain ⟨bB, oB, rfl, hbB, hcB2⟩ := HB.out.2 (by omega)
        have g := (Below.cell HKX.out (Nat.lt_of_lt_of_le hbB hbs.1)).trans ((hcB2 i hib))
        generalize bs.getD i false = bv at g
        clear hcB2 hbB hbs
        go_wp2_with fail
        go_meet
        exact ⟨⟨bv, rfl⟩, rfl⟩
       ·have hibz : decide ((i : Int) < bn) = false := by simp; omega
        clear hbs
        go_wp2_with fail
        go_meet
        exact ⟨⟨false, rfl⟩, rfl⟩
      case rest =>
       obtain ⟨⟨full, rfl⟩, hwc⟩ := hcut
       obtain rfl : w5 = wc := hwc.symm
       obtain ⟨XA, xm, xc, rfl, hx1, hx2, hx3⟩ := H65.out
       obtain rfl : l.length = xm := by rw [<- HLZ.out.1]; exact hx1.1
       have HXI := Lib.hid (And.intro hx1 (And.intro hx2 hx3))
       obtain ⟨ask, hask⟩ : ∃ a, a = Ak.get f.pdu := ⟨_, rfl⟩
       obtain ⟨ver, hver⟩ : ∃ v, v = verdict l lz cl f full := ⟨_, rfl⟩
       have HVL : Hid (ver.2.2.length = l.length) := Lib.hid (by rw [hver]; exact verdict_len HOK.out.2.2.1 HLZ.out cl f full)
       have HOV2 : Hid (okV l ver.2.2) := Lib.hid (by rw [hver]; exact okV_verdict HOK.out.2.2.1 HLZ.out cl f full)
       have HN5 : Hid (∀ W, Keep w5 W -> Nds W NA (rules l).length (rules l)) := Lib.hid fun W h => HN4.out W (HWR.out.trans h)
       have HC1 := Lib.hid fun (W : World) (h : Keep w5 W) => frame_any LA NA XA lc nc xc l lz cl f full W HOK.out.2.2.2 HOK.out.2.2.1 HLZ.out HOK.out.1 HOK.out.2.1 HRF.out.symm (HR.out.kept (HKX.out.trans h)) (HN5.out W h) (HXI.out.1.kept h) HXI.out.2.1 HXI.out.2.2
       have HG := Lib.hid fun W => Ref6.get_any f.pdu W (by have := (Mb.right_iff f).1 HRF.out.symm; omega)
       have HBAD := Lib.hid (ver_bad l lz cl f full)
       have HGOOD := Lib.hid (ver_good l lz cl f full)
       have HASK : Hid (ask.vs.length <= 1000000) := Lib.hid (by rw [hask]; exact get_len f.pdu)
       obtain ⟨er, her⟩ : ∃ e, e = Ak.err f.pdu := ⟨_, rfl⟩
       have HFIT : Hid (er = 0 -> Fa.Fit ask ∧ ask.vs.length <= 2000 ∧ Me.fewF (Fa.of cl f.unit ask) ∧ (ask.fc = 6 ∨ ask.fc = 16 ∨ ask.fc = 23 -> 0 < ask.vs.length)) := Lib.hid (by rw [her, hask]; exact fun h => Ref24.ask_few f.pdu cl f.unit h)
       have HRUL : Hid (rule l cl f = Me.first (Fa.of cl f.unit ask) l) := Lib.hid (by rw [hask]; rfl)
       rw [<- hask] at HC1 HG HBAD
       rw [<- hver] at HC1 HBAD HGOOD
       rw [<- her] at HG HBAD HGOOD
       clear hx1 hx2 hx3 H65 hask hver her y0 y1 y2 y3
       go_wp2_with fail
       refine wp_region_off 18 7 75 40 z6 [74, 61, 75, 78, 10] (verR 74 61 75 ask ver) (by kernel_rfl) (by kernel_rfl) zero6 info6 (fun d _ u W W' hk h => verR_kept hk h) (fun u W h => ask_form h) ?_
       simp only [List.take_succ_cons, List.take_zero, List.drop_succ_cons, List.drop_zero, List.cons_append, List.nil_append]
       apply Exists.intro
       refine ⟨fun Y β hY hf => ?_, ?_⟩
       ·refine Rel.rel_take' 12 (by kernel_rfl) ?_
        apply Exists.intro
        refine ⟨fun F hF hne => ?_, ?_⟩
        ·simp only [List.take_succ_cons, List.take_zero]
         have y0 := fun q : Rel.KeptIn Y F => (HY.out q.w (HKX.out.trans (hY.trans q.h))).1
         have y1 := fun q : Rel.KeptIn Y F => (HY.out q.w (HKX.out.trans (hY.trans q.h))).2.1
         have y2 := fun q : Rel.KeptIn Y F => (HY.out q.w (HKX.out.trans (hY.trans q.h))).2.2.1
         have g1 := fun q : Rel.KeptIn Y F => (HFR.out q.w (HKX.out.trans (hY.trans q.h))).2.1
         have g2 := fun q : Rel.KeptIn Y F => (HFR.out q.w (HKX.out.trans (hY.trans q.h))).2.2.1
         have g3 := fun q : Rel.KeptIn Y F => (HFR.out q.w (HKX.out.trans (hY.trans q.h))).2.2.2
         repeat (go_big_quiet_step (fail))
         refine Go.wpQuiet_nil ?_
         rfl
        simp only [List.drop_succ_cons, List.drop_zero]
        refine Rel.rel_call' 74 15 [.tmp 63, .tmp 64, .tmp 65, .tmp 67, .tmp 72, .tmp 73] #[22, 31, 33, 3, 37, 4] [] (fun V => [.slice LA l.length lc, .slice NA (rules l).length nc, .slice XA l.length xc, .int .i64 cl, .agg #[.int .i64 f.id, .int .i64 f.unit, .string f.pdu], .bool full]) rfl rfl (by kernel_rfl) (fun _ => rfl) ?_ ?_
        ·intro V W5 hk _
         have kk := hY.trans hk
         have hf5 := hf.mono hk.size
         refine (HC1.out W5 kk).mono fun e W' h => ?_
         have h2 := AnsJ.off hf5 (HXI.out.1.kept (keep_off hf5 kk)) HVL.out h
         exact h2
        simp only [Act.put, List.setIfInBounds_toArray, List.set_cons_zero, List.set_cons_succ]
        refine Rel.rel_move 61 74 rfl (.inl rfl) (by kernel_rfl) (fun v W _ h => h) ?_
        simp only [Act.put, List.setIfInBounds_toArray, List.set_cons_zero, List.set_cons_succ]
        refine Rel.rel_ext 75 61 0 rfl rfl (by kernel_rfl) (fun v W _ h => AnsJ.ask h) ?_
        simp only [Act.put, List.setIfInBounds_toArray, List.set_cons_zero, List.set_cons_succ]
        refine Rel.rel_extq (.int .i64 ver.1) 76 61 1 rfl rfl (by kernel_rfl) (fun v W _ h => AnsJ.ver (a := ask) (v := ver) h) ?_
        simp only [Act.put, List.setIfInBounds_toArray, List.set_cons_zero, List.set_cons_succ]
        refine Rel.rel_extq (.int .i64 ver.2.1) 77 61 2 rfl rfl (by kernel_rfl) (fun v W _ h => AnsJ.rul (a := ask) (v := ver) h) ?_
        simp only [Act.put, List.setIfInBounds_toArray, List.set_cons_zero, List.set_cons_succ]
        refine Rel.rel_ext 78 61 3 rfl rfl (by kernel_rfl) (fun v W _ h => AnsJ.lev (a := ask) (v := ver) h) ?_
        simp only [Act.put, List.setIfInBounds_toArray, List.set_cons_zero, List.set_cons_succ]
        refine Rel.rel_take' 2 (by kernel_rfl) ?_
        apply Exists.intro
        refine ⟨fun F hF hne => ?_, ?_⟩
        ·simp only [List.take_succ_cons, List.take_zero]
         repeat (go_big_quiet_step (fail))
         refine Go.wpQuiet_nil ?_
         rfl
        simp only [List.drop_succ_cons, List.drop_zero]
        refine Rel.rel_move 10 78 rfl (.inr rfl) (by kernel_rfl) (fun v W _ h => h) ?_
        simp only [Act.put, List.setIfInBounds_toArray, List.set_cons_zero, List.set_cons_succ]
        exact Rel.rel_nil rfl
       intro V b1 W1 k1 _ hb1 hl1 hr1
       have HA1 : Hid (BoxA ask b1 W1) := Lib.hid (BoxA.of (R := fun _ => True) hb1 hl1)
       have h10 : LvJ ver.2.2 (V 10) W1 := LvJ.on (hr1 10 (by simp))
       clear hl1 hr1
       dsimp only [Rel.fill, Rel.ptr, List.foldl_cons, List.foldl_nil]
       simp only [Act.put, List.setIfInBounds_toArray, List.set_cons_zero, List.set_cons_succ]
       generalize V 10 = v10 at h10 ⊢
       generalize V 74 = v74, V 61 = v61, V 75 = v75, V 78 = v78
       have HL10 := Lib.hid h10
       have HKX1 := Lib.hid (HKX.out.trans k1)
       have HWR1 := Lib.hid (HWR.out.trans k1)
       have HXI1 := Lib.hid (And.intro (HXI.out.1.kept k1) HXI.out.2)
       obtain ⟨y0, y1, y2, y3⟩ := HY.out W1 HKX1.out
       obtain ⟨_, g1, g2, g3⟩ := HFR.out W1 HKX1.out
       clear h10 HC1 HXI k1 hb1 HN5 HKX HWR
       go_wp2_with fail
       refine (HG.out W1).mono ?_
       rintro e W2 ⟨A2, n2, c2, rfl, hI2, hb2, hfr2⟩
       have k2 : Keep W1 W2 := hb2
       obtain ⟨X2, hX2⟩ : ∃ X2, X2 = W2.alloc (.cells #[.int .i64 ask.fc, .int .i64 ask.rd, .int .i64 ask.ct, .int .i64 ask.wr, .int .i64 ask.mn, .slice A2 n2 c2] 40) := ⟨_, rfl⟩
       have k3 : Keep W2 X2 := by rw [hX2]; exact (Keep.refl W2).alloc _
       have HA2 : Hid (BoxA ask W2.heap.size X2) := Lib.hid (by rw [hX2]; exact BoxA.new hI2)
       have hbx2 : Ref6.Boxed W2.heap.size ask A2 n2 c2 X2 := by rw [hX2]; exact Ref6.Boxed.new ..
       have HBX2 := Lib.hid (And.intro hbx2 (And.intro (show W2.heap.size < X2.heap.size from by rw [hX2]; simp) (And.intro (hI2.kept k3) hfr2)))
       have HX2 := Lib.hid hX2
       have k23 := k2.trans k3
       have HA12 := Lib.hid (And.intro (HA1.out.kept k23) HA2.out)
       have HLX := Lib.hid (And.intro (HL10.out.kept k23) (And.intro (HXI1.out.1.kept k23) HXI1.out.2))
       have HKX2 := Lib.hid (HKX1.out.trans k23)
       have HWR2 := Lib.hid (HWR1.out.trans k23)
       clear y0 y1 y2 y3 g1 g2 g3 hX2 k3 hbx2 hI2 hb2 hfr2 k2 k23 HA1 HA2 HL10 HXI1 HKX1 HWR1
       obtain ⟨V1, vm, vc, rfl, hv1, hv1c⟩ := HLX.out.1
       obtain rfl : l.length = vm := by rw [<- HVL.out]; exact hv1.1
       clear hv1 hv1c
       have ka := HKX2.out
       rw [HX2.out] at ka
       obtain ⟨y0, y1, y2, y3⟩ := HY.out _ ka
       clear ka
       by_cases her : er = 0
       ·have HER := Lib.hid her
        subst her
        obtain ⟨g1, g2, g3⟩ := HGOOD.out rfl
        have hkr := rule_range l cl f
        rw [<- HX2.out] at y0 y1 y2 y3
        obtain ⟨k, hk⟩ : ∃ k, k = rule l cl f := ⟨_, rfl⟩
        rw [<- hk] at g1 g2 g3 hkr
        have HK := Lib.hid (show Me.first (Fa.of cl f.unit ask) l = k from by rw [<- HRUL.out, hk])
        obtain ⟨hfit, hvl, hfw, h6f⟩ := HFIT.out rfl
        have HG := Lib.hid (And.intro g2 g3)
        have HKR := Lib.hid hkr
        have hll : ((l.length : Int) != l.length) = false := by simp
        obtain ⟨hbx, hbx2, hI2, hfr2⟩ := HBX2.out
        obtain rfl : n2 = ask.vs.length := hI2.1.symm
        have HOF := Lib.hid fun (W : World) (h : Keep X2 W) => Fa.ref_of_cap cl f.unit ask A2 c2 W HASK.out hfit (hI2.kept h)
        have HFI := Lib.hid fun (W : World) (h : Keep X2 W) (SA VA QA : Option Addr) (c1 c2 c3 : Nat) (h3 : (Fa.of cl f.unit ask).rg.length <= c3) (h3m : c3 <= maxLen) (hF : Fa.FaAt W (Fa.of cl f.unit ask) SA VA QA) =>
         Me.ref_first_any LA lc l (Fa.of cl f.unit ask) SA VA QA c1 c2 c3 W (by have := HOK.out.2.2.2; omega) (HR.out.kept (HKX2.out.trans h)) (fun r hr => okX_of (HOK.out.2.1 r hr)) h3 h3m hfw hF
        rw [HK.out] at HFI
        have HFC : Hid (∀ (W W' : World) (e : Ending), Keep X2 W -> Fa.RetOfC A2 c2 (Fa.of cl f.unit ask) W e W' -> ∃ u, e = .returned u ∧ Keep W W' ∧ FaJ (Fa.of cl f.unit ask) u W') := Lib.hid fun W W' e hk h => by
         obtain ⟨SA, VB, RA, c1, c2', c3, rfl, hFa, k3, _, hcap⟩ := h
         refine ⟨_, rfl, k3, SA, VB, RA, c1, c2', c3, rfl, hFa, ?_⟩
         rcases hcap with ⟨h1, h2⟩ | ⟨h1, h2⟩
         ·exact ⟨by omega, by rw [h2]; exact Nat.zero_le _⟩
         ·obtain ⟨_, _, _, h7, h8⟩ := hfr2 (h6f h2)
          refine ⟨?_, by rw [h1]; exact h8⟩
          show (Fa.regs ask).length <= c3
          unfold Fa.regs
          rw [h1, if_pos (show ask.fc = 6 ∨ ask.fc = 16 ∨ ask.fc = 23 from h2)]
          exact h7
        have HBB : Hid (∀ W, Keep X2 W -> Ref6.Boxed W2.heap.size ask A2 ask.vs.length c2 W) := Lib.hid fun W h => hbx.below h hbx2
        clear g2 g3 hkr hfit hvl hfw h6f hbx hbx2 hI2 hfr2 HBX2 HFIT HRUL HGOOD HBAD hk
        rw [g1]
        rw [HX2.out] at y0 y1 y2 y3
        go_wp2_with fail
        rw [<- HX2.out]
        clear y0 y1 y2 y3
        refine Rel.wp_region_rel [133] (fun _ u W => FaJ (Fa.of cl f.unit ask) u W) (by kernel_rfl) (by kernel_rfl) (fun d _ u W W' hk h => h.kept hk) ?_
        refine Rel.rel_take' 11 (by kernel_rfl) ?_
        apply Exists.intro
        refine ⟨fun F hF hne => ?_, ?_⟩
        ·simp only [List.take_succ_cons, List.take_zero]
         have y0 := fun q : Rel.KeptIn X2 F => (HY.out q.w (HKX2.out.trans q.h)).1
         have y1 := fun q : Rel.KeptIn X2 F => (HY.out q.w (HKX2.out.trans q.h)).2.1
         have y2 := fun q : Rel.KeptIn X2 F => (HY.out q.w (HKX2.out.trans q.h)).2.2.1
         have g2 := fun q : Rel.KeptIn X2 F => (HFR.out q.w (HKX2.out.trans q.h)).2.2.1
         have x0 := fun q : Rel.KeptIn X2 F => (HBB.out q.w q.h).1
         have x1 := fun q : Rel.KeptIn X2 F => (HBB.out q.w q.h).2.1
         have x2 := fun q : Rel.KeptIn X2 F => (HBB.out q.w q.h).2.2.1
         have x3 := fun q : Rel.KeptIn X2 F => (HBB.out q.w q.h).2.2.2.1
         have x4 := fun q : Rel.KeptIn X2 F => (HBB.out q.w q.h).2.2.2.2.1
         have x5 := fun q : Rel.KeptIn X2 F => (HBB.out q.w q.h).2.2.2.2.2
         repeat (go_big_quiet_step (fail))
         refine Go.wpQuiet_nil ?_
         rfl
        simp only [List.drop_succ_cons, List.drop_zero]
        refine Rel.rel_call' 133 23 [.tmp 125, .tmp 131, .tmp 132] #[3, 3, 40] [] (fun V => [.int .i64 cl, .int .i64 f.unit, .agg #[.int .i64 ask.fc, .int .i64 ask.rd, .int .i64 ask.ct, .int .i64 ask.wr, .int .i64 ask.mn, .slice A2 ask.vs.length c2]]) rfl rfl (by kernel_rfl) (fun _ => rfl) ?_ ?_
        ·intro V W hk _
         exact (HOF.out W hk).mono fun e W' h => HFC.out W W' e hk h
        simp only [Act.put, List.setIfInBounds_toArray, List.set_cons_zero, List.set_cons_succ]
        refine Rel.rel_callq' (.int .i64 k) 134 22 [.tmp 123, .tmp 133] #[22, 54] [133] (fun V => [.slice LA l.length lc, V 133]) rfl rfl (by kernel_rfl) (fun _ => rfl) ?_ ?_
        ·intro V W hk hV
         have h133 : FaJ (Fa.of cl f.unit ask) (V 133) W := hV 133 (by simp)
         obtain ⟨SA, VA, QA, c1, c2', c3, e133, hFa, h3, h3m⟩ := h133
         rw [e133]
         exact HFI.out W hk SA VA QA c1 c2' c3 h3 h3m hFa
        simp only [Act.put, List.setIfInBounds_toArray, List.set_cons_zero, List.set_cons_succ]
        refine Rel.rel_take' 1 (by kernel_rfl) ?_
        apply Exists.intro
        refine ⟨fun F hF hne => ?_, ?_⟩
        ·simp only [List.take_succ_cons, List.take_zero]
         repeat (go_big_quiet_step (fail))
         refine Go.wpQuiet_nil ?_
         rfl
        simp only [List.drop_succ_cons, List.drop_zero]
        refine Rel.rel_nil fun V W3 k3 _ => ?_
        dsimp only [Rel.fill, Rel.ptr, List.foldl_cons, List.foldl_nil]
        simp only [Act.put, List.setIfInBounds_toArray, List.set_cons_zero, List.set_cons_succ]
        generalize V 133 = v133
        have HKX3 := Lib.hid (HKX2.out.trans k3)
        have HWR3 := Lib.hid (HWR2.out.trans k3)
        have HA3 := Lib.hid (And.intro (HA12.out.1.kept k3) (HA12.out.2.kept k3))
        obtain ⟨V2, vm2, vc2, e2, hv2, hv2c⟩ := HLX.out.1.kept k3
        injection e2 with e21 e22 e23
        subst e21 e22 e23
        have HL3 := Lib.hid (And.intro (And.intro hv2 hv2c) (And.intro (HLX.out.2.1.kept k3) HLX.out.2.2))
        clear hv2 hv2c HFI HFC HOF HBB k3 HX2 HKX2 HWR2 HA12 HLX
        obtain ⟨y0, y1, y2, y3⟩ := HY.out W3 HKX3.out
        obtain ⟨pA, hpA⟩ : ∃ b, b = passA l k full := ⟨_, rfl⟩
        have HPA := Lib.hid hpA
        have HG2 := HG.out
        rw [<- hpA] at HG2
        have HG := Lib.hid HG2
        clear hpA HG2
        go_upto_region 18 with fail
        go_cut [14] from 135 to 148 (fun v W => v = .bool pA ∧ W = W3)
        case first =>
         rcases HKR.out with rfl | ⟨hk0, hkl⟩
         ·have e : pA = false := HPA.out
          clear y1 y2 y3
          go_wp2_with fail
          go_meet
          exact ⟨by rw [e], rfl⟩
         ·obtain ⟨j, rfl⟩ := Int.eq_ofNat_of_zero_le hk0
          have hj : j < l.length := by omega
          have hjz : (j : Int) < l.length := by omega
          obtain ⟨b, off, RA2, OA2, rc2, oc2, rfl, hb4, hr⟩ := Ref24.Rus.has (HR.out.kept HKX3.out) j hj
          have hpa := HPA.out
          unfold passA at hpa
          rw [Int.toNat_natCast, show decide ((0 : Int) <= (j : Int)) = true by simp, Bool.true_and] at hpa
          generalize l.getD j zeroR = r at hr hpa
          obtain ⟨r0, _⟩ := hr
          clear y1 y2 y3 hb4
          cases hal : r.allow
          ·rw [hal] at r0 hpa
           have e : pA = false := hpa
           clear hpa hal
           go_wp2_with fail
           go_meet
           exact ⟨by rw [e], rfl⟩
          ·rw [hal] at r0 hpa
           have e : pA = !full := hpa
           clear hpa hal
           go_wp2_with fail
           go_meet
           exact ⟨by rw [e], rfl⟩
        case rest =>
         obtain ⟨rfl, hwc⟩ := hcut
         obtain rfl : W3 = wc := hwc.symm
         obtain ⟨ps, hps⟩ : ∃ b, b = (ver.1 == 1) := ⟨_, rfl⟩
         have HPS := Lib.hid hps
         obtain ⟨pp, hpp⟩ : ∃ b, b = !((l.getD k.toNat zeroR).per == 0) := ⟨_, rfl⟩
         have HPP := Lib.hid hpp
         clear hps hpp
         have HJK : Hid (pA = true -> 0 <= k ∧ k < l.length) := Lib.hid fun h => by
          rcases HKR.out with rfl | h2
          ·rw [HPA.out] at h; simp [passA] at h
          ·exact h2
         obtain ⟨q, hq⟩ : ∃ q, q = (pA && pp) := ⟨_, rfl⟩
         have HQ := Lib.hid hq
         clear hq
         go_upto_region 19 with fail
         go_cut [159] from 149 to 158 (fun v W => v = .bool q ∧ W = W3)
         case first =>
          cases pA
          ·clear y1 y2 y3
           go_wp2_with fail
           go_meet
           exact ⟨by rw [HQ.out]; rfl, rfl⟩
          ·obtain ⟨hk0, hkl⟩ := HJK.out rfl
           obtain ⟨j, rfl⟩ := Int.eq_ofNat_of_zero_le hk0
           have hj : j < l.length := by omega
           have hjz : (j : Int) < l.length := by omega
           obtain ⟨b, off, RA2, OA2, rc2, oc2, rfl, hb4, hr⟩ := Ref24.Rus.has (HR.out.kept HKX3.out) j hj
           have hpp := HPP.out
           have hjk := HOK.out.2.2.1.at j hj
           rw [Int.toNat_natCast] at hpp
           generalize l.getD j zeroR = r at hr hpp hjk
           obtain ⟨_, _, _, _, _, _, _, r7, r8, r9, _⟩ := hr
           have e : decide (0 < r.per) = pp := by
            rw [hpp]
            rcases hjk with h | h
            ·rw [h.1]; rfl
            ·have := ((Bu.right_iff _).1 h).2.2.1
             have h1 : 1 <= r.per := this
             rw [show (r.per == 0) = false by simp; omega]
             simp; omega
           clear y1 y2 y3 hb4 hpp hjk
           go_wp2_with fail
           go_meet
           exact ⟨by rw [HQ.out]; first | rfl | (rw [e]; rfl), rfl⟩
         case rest =>
          obtain ⟨rfl, hwc⟩ := hcut
          obtain rfl : W3 = wc := hwc.symm
          go_upto_if 159 with fail
          go_cut [14, 15, 16] from 160 to 183 (fun v _ _ W => v = .bool ps ∧ Keep W3 W)
          case first =>
           obtain ⟨hg2, hg3⟩ := HG.out
           rw [<- HPS.out] at hg2
           cases q
           ·have e : ps = pA := by
             rw [hg2]
             cases pA
             ·rfl
             ·have h1 : pp = false := HQ.out.symm
              have h2 := HPP.out
              rw [h1] at h2
              have h3 : ((l.getD k.toNat zeroR).per == 0) = true := by simpa using h2.symm
              rw [h3]; rfl
            clear hg2 hg3 y0 y1 y2 y3
            go_wp2_with fail
            go_meet
            exact ⟨by rw [e], Keep.refl _⟩
           ·have hpa1 : pA = true := ((Bool.and_eq_true _ _).mp HQ.out.symm).1
            have hpp1 : pp = true := ((Bool.and_eq_true _ _).mp HQ.out.symm).2
            subst hpa1
            subst hpp1
            obtain ⟨hk0, hkl⟩ := HJK.out rfl
            obtain ⟨j, rfl⟩ := Int.eq_ofNat_of_zero_le hk0
            have hj : j < l.length := by omega
            have hjz : (j : Int) < l.length := by omega
            have hk0' : (0 : Int) <= j := by omega
            obtain ⟨b, off, RA2, OA2, rc2, oc2, rfl, hb4, hr⟩ := Ref24.Rus.has (HR.out.kept HKX3.out) j hj
            obtain ⟨bX, oX, rfl, hbX⟩ := Ref24.ints_addr HL3.out.2.1 (by omega)
            obtain ⟨_, hcX⟩ := Ref24.ints_at HL3.out.2.1 j hj
            obtain ⟨bV, oV, rfl, hbV⟩ := Ref24.ints_addr HL3.out.1.1 (by omega)
            obtain ⟨_, hcV⟩ := Ref24.ints_at HL3.out.1.1 j hj
            have hpp := HPP.out
            have hjk := HOK.out.2.2.1.at j hj
            have hvk := HLZ.out.2 j hj
            have hlz := HLZ.out.1
            rw [Int.toNat_natCast] at hpp hg2 hg3
            unfold passB at hg2 hg3
            rw [Int.toNat_natCast] at hg2 hg3
            generalize l.getD j zeroR = r at hr hpp hjk hvk hg2 hg3
            have hne : (r.per == 0) = false := by simpa using hpp.symm
            have hri : Bu.right (rate r) = true := by
             rcases hjk with h | h
             ·rw [h.1] at hne; exact absurd hne (by decide)
             ·exact h
            generalize hxv : lz.getD j 0 = x at hcX hvk hg2 hg3
            rw [hne] at hg2 hg3
            obtain ⟨_, _, _, _, _, _, _, r7, r8, r9, _⟩ := hr
            have z0 := fun q : KeptOf W3 => (HY.out q.w (HKX3.out.trans q.h)).1
            have z7 := fun q : KeptOf W3 => (Below.cell q.h (p := ⟨b, off + j * 11 + 7, none⟩) hb4).trans r7
            have z8 := fun q : KeptOf W3 => (Below.cell q.h (p := ⟨b, off + j * 11 + 7 + 1, none⟩) hb4).trans r8
            have z9 := fun q : KeptOf W3 => (Below.cell q.h (p := ⟨b, off + j * 11 + 7 + 2, none⟩) hb4).trans r9
            have zX := fun q : KeptOf W3 => (Below.cell q.h (p := ⟨bX, oX + j, none⟩) hbX).trans hcX
            have hC := fun q : KeptOf W3 => Ref18.take_any x (rate r) q.w hri hvk.1 hvk.2
            have HV := Lib.hid (And.intro hbV hcV)
            clear hri hvk hjk hpp y0 y1 y2 y3 r7 r8 r9 hcX hbX hb4 hbV hcV
            by_cases hlt' : x < r.per
            ·have d : decide (x < r.per) = true := by simp [hlt']
             simp only [d] at hg2 hg3
             have e : ps = false := by rw [hg2]; rfl
             simp only [show (rate r).per = r.per from rfl, if_pos hlt'] at hC
             simp only [rate] at hC
             clear d hg2 hg3 hlt'
             go_wp2_with fail
             refine wp_region_kept (by kernel_rfl) (by kernel_rfl) ?_
             repeat (go_big_quiet_step (first | with_reducible exact KeptOf.of (hC _)))
             refine Go.wpQuiet_nil ?_
             intro W5 hw'
             have hw : Keep W3 W5 := by
              obtain ⟨⟨W', hw⟩, hw''⟩ := hw'
              subst hw''
              exact hw
             clear hw' z0 z7 z8 z9 zX hC
             go_wp2_with fail
             go_meet
             exact ⟨by rw [e], hw⟩
            ·have d : decide (x < r.per) = false := by simp; omega
             simp only [d] at hg2 hg3
             have e : ps = true := by rw [hg2]; rfl
             have hv3 : ver.2.2.getD j 0 = x - r.per := by
              rw [hg3, if_pos (by rfl)]
              simp [List.getD_eq_getElem?_getD, show j < lz.length by omega]
             simp only [show (rate r).per = r.per from rfl, if_neg hlt'] at hC
             simp only [rate] at hC
             clear d hg2 hg3 hlt'
             go_wp2_with fail
             refine wp_region_kept (by kernel_rfl) (by kernel_rfl) ?_
             repeat (go_big_quiet_step (first | with_reducible exact KeptOf.of (hC _)))
             refine Go.wpQuiet_nil ?_
             intro W5 hw'
             have hw : Keep W3 W5 := by
              obtain ⟨⟨W', hw⟩, hw''⟩ := hw'
              subst hw''
              exact hw
             clear hw' z0 z7 z8 z9 zX hC
             have zV := (Below.cell hw (p := ⟨bV, oV + j, none⟩) HV.out.1).trans HV.out.2
             rw [hv3] at zV
             go_wp2_with fail
             go_meet
             exact ⟨by rw [e], hw⟩
          case rest =>
           obtain ⟨rfl, hkW⟩ := hcut
           obtain ⟨W5, hW5⟩ : ∃ W5, W5 = wc := ⟨_, rfl⟩
           rw [<- hW5] at hkW ⊢
           clear hW5
           have HWR5 := Lib.hid (HWR3.out.trans hkW)
           obtain ⟨hb1, A1, n1, c1, ⟨p0, p1, p2, p3, p4, p5⟩, hI1⟩ := HA3.out.1.kept hkW
           obtain ⟨hb2, A3, n3, c3, ⟨q0, q1, q2, q3, q4, q5⟩, hI3⟩ := HA3.out.2.kept hkW
           have HL5 := Lib.hid (And.intro (HL3.out.1.1.kept hkW) (HL3.out.2.1.kept hkW))
           have HLC := Lib.hid (And.intro HL3.out.1.2 HL3.out.2.2)
           have HS6 := Lib.hid (Ref6.same_any A1 A3 n1 c1 n3 c3 ask ask W5 (by have := hI1.1; rw [<- this]; exact HASK.out) hI1 hI3)
           have hps := HPS.out.symm
           have n2' : (ps != ps) = false := by simp
           have n3' : (k != k) = false := by simp
           have HVN : Hid (∀ n, n < l.length -> ver.2.2.getD n 0 ≠ lz.getD n 0 -> (n : Int) = k ∧ ps = true) := Lib.hid fun n hn hne => by
            obtain ⟨hg2, hg3⟩ := HG.out
            rw [<- HPS.out] at hg2
            by_cases hc : (pA && (!((l.getD k.toNat zeroR).per == 0) && passB l lz k)) = true
            ·rw [hg3, if_pos hc] at hne
             simp only [Bool.and_eq_true, Bool.not_eq_true'] at hc
             obtain ⟨h1, h2, h3⟩ := hc
             refine ⟨set_only (HJK.out h1).1 n (by rw [HLZ.out.1]; exact hn) hne, ?_⟩
             rw [hg2, h1, h3]; simp
            ·rw [hg3, if_neg hc] at hne
             exact absurd rfl hne
           clear hkW HA3 HL3 hb1 hb2 hI1 hI3 y0 y1 y2 y3 HWR3 HKX3
           go_wp2_with fail
           refine HS6.out.mono ?_
           rintro e W6 ⟨rfl, k6⟩
           rw [same_self]
           have hL1 := HL5.out.1.kept k6
           have hL2 := HL5.out.2.kept k6
           have HWR6 := Lib.hid (HWR5.out.trans k6)
           have HL6 := Lib.hid (And.intro hL1 hL2)
           clear hL1 hL2 p0 p1 p2 p3 p4 p5 q0 q1 q2 q3 q4 q5 HS6 hps n2' n3' k6 HL5 HWR5
           go_wp2
           go_loopw [17] (fun nv wr => ∃ n : Nat, n <= l.length ∧ nv = .int .i64 n ∧ Keep W6 wr) (fun nv _ => l.length - (intOf nv).toNat)
           case atStart => exact ⟨0, Nat.zero_le _, rfl, Keep.refl _⟩
           case round =>
            obtain ⟨n, hn, rfl, hK⟩ := hrel
            by_cases hnl : n < l.length
            ·have hnz : (n : Int) < l.length := by omega
             have hn9 : (n : Int) < 1000 := by have := HOK.out.2.2.2; omega
             have hn0 : (0 : Int) <= n := by omega
             obtain ⟨bX, oX, rfl, hbX⟩ := Ref24.ints_addr HL6.out.2 (by omega)
             obtain ⟨_, hcX⟩ := Ref24.ints_at HL6.out.2 n hnl
             obtain ⟨bV, oV, rfl, hbV⟩ := Ref24.ints_addr HL6.out.1 (by omega)
             obtain ⟨_, hcV⟩ := Ref24.ints_at HL6.out.1 n hnl
             replace hcX := (Below.cell hK (p := ⟨bX, oX + n, none⟩) hbX).trans hcX
             replace hcV := (Below.cell hK (p := ⟨bV, oV + n, none⟩) hbV).trans hcV
             have hvn := HVN.out n hnl
             generalize ver.2.2.getD n 0 = x at hcV hvn
             generalize lz.getD n 0 = y at hcX hvn
             have HKN := Lib.hid hK
             clear hK hbX hbV
             by_cases hxy : x = y
             ·have d : (x != y) = false := by simp [hxy]
              clear hxy hvn
              go_wp2
              go_quiet (fail)
              go_wp2
              exact ⟨⟨n + 1, by omega, by go_num, HKN.out.trans (((Quiet.refl _).drewN _).keep)⟩, by simp [intOf]; omega⟩
             ·have d : (x != y) = true := by simp [hxy]
              obtain ⟨d2, d3⟩ := hvn hxy
              have d4 : ((n : Int) != k) = false := by simp [d2]
              have HD2 := Lib.hid d2
              clear hxy hvn d2
              rw [d3]
              clear HPS HG HVN
              go_wp2
              go_quiet (fail)
              go_wp2
              exact ⟨⟨n + 1, by omega, by go_num, HKN.out.trans (((Quiet.refl _).drewN _).keep)⟩, by simp [intOf]; omega⟩
            ·obtain rfl : n = l.length := by omega
             have HKN := Lib.hid hK
             clear hK
             go_wp2
             exact ⟨⟨i + 1, ver.2.2, by omega, by go_num, HOV2, ⟨_, _, _, rfl, HL6.out.1.kept HKN.out, HLC.out.1⟩, HWR6.out.trans HKN.out⟩, by simp [intOf]; omega⟩
       ·have de : (er != 0) = true := by simp [her]
        obtain ⟨kv, hv, hkv, hz⟩ := HBAD.out her
        subst hz
        subst hv
        have hk1 : (kv == 1) = false := by simp [hkv]
        obtain ⟨V2, vm2, vc2, e2, hv2, hv2c⟩ := HLX.out.1
        injection e2 with e21 e22 e23
        subst e21 e22 e23
        have HIN := Lib.hid (Ref1.ints_any XA V1 l.length l.length xc vc lz lz X2 (by have := HOK.out.2.2.2; omega) HLX.out.2.1 hv2)
        have hll : ((l.length : Int) != l.length) = false := by simp
        clear hkv her hv2 hv2c
        go_wp2_with fail
        rw [<- HX2.out]
        refine HIN.out.mono ?_
        rintro e W3 ⟨rfl, q3⟩
        have k3 := q3.keep
        obtain ⟨hb1, A1, n1, c1, ⟨p0, p1, p2, p3, p4, p5⟩, hI1⟩ := HA12.out.1.kept k3
        have hbe : (lz == lz) = true := by simp
        have HS6 := Lib.hid (Ref6.same_any A1 none n1 c1 0 0 Ak.zero Ak.zero W3 (by have := hI1.1; rw [<- this]; exact Nat.zero_le _) hI1 (Ints.none_ _ _ _ _))
        have HLW := Lib.hid (And.intro (HLX.out.2.1.kept k3) HLX.out.2.2)
        have HKW := Lib.hid (HWR2.out.trans k3)
        clear y0 y1 y2 y3 HIN k3 q3 hI1 hb1
        go_wp2_with fail
        refine HS6.out.mono ?_
        rintro e W4b ⟨rfl, k4⟩
        rw [same_self]
        clear HS6 p0 p1 p2 p3 p4 p5
        go_wp2
        exact ⟨⟨i + 1, lz, by omega, by go_num, HLZ, ⟨_, _, _, rfl, HLW.out.1.kept k4, HLW.out.2⟩, HKW.out.trans k4⟩, by simp [intOf]; omega⟩
    ·obtain rfl : i = fn := by omega
     clear hlt
     go_wp2_with fail
     refine (awake_any _).mono ?_
     rintro e w5 ⟨rfl, k5⟩
     go_wp2
     go_ret
     exact ⟨rfl, (HK0.out.trans hKX).trans k5⟩
end Go.Proofs.YtaciogcpghbhjaaGreat.Judge
