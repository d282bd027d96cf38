/- Of these texts: Jg, JgL. Conditions: as each part says. -/
import Derived.Test.YtaciogcpghbhjaaGreatZTJgB
import Derived.Test.YtaciogcpghbhjaaGreatZTJgF
import Derived.Test.YtaciogcpghbhjaaGreatZTWkAll
import Derived.Test.YtaciogcpghbhjaaGreatZTFaM
import Derived.Test.YtaciogcpghbhjaaGreatZTAskO
import Derived.Test.YtaciogcpghbhjaaGreatZTBox
import Derived.Test.YtaciogcpghbhjaaGreatZTJgR
import Derived.Test.YtaciogcpghbhjaaGreatZTJgM
import Derived.Test.YtaciogcpghbhjaaGreatZTAskP
import Derived.Test.YtaciogcpghbhjaaGreatZTLib
import Derived.Test.YtaciogcpghbhjaaGreatZTOff
import Derived.Deep.Cut
/- Layer 24's own contracts: Frame. Conditions: at most a thousand rules that may be used, laid; levels as they are; a frame that may be. -/
namespace Go.Proofs.YtaciogcpghbhjaaGreat.Judge
set_option linter.unusedVariables false
set_option linter.unusedSimpArgs false
set_option maxRecDepth 100000
open Go.ChangeShapes Go.WideShapes Go.ChangeAt Go.RowKit
open Tr (zeroR Rus RuleAt)
open Nd (Nds okRs)
open Wk (okF)
open Cp (rules)
open Jg
open Ref24 (RetLv RetJ ret_int results_cell3 ask_few Zero6 end6 fresh6 own_le1)
open Ref6 (RetAsk)
open Facts (sets6)
theorem nonneg {a : AskP} (h : Ak.right a = true) : 0 <= a.ct ∧ 0 <= a.mn := by
 unfold Ak.right Ak.formed Ak.part Ak.inTo at h
 simp only [Bool.and_eq_true, decide_eq_true_eq] at h
 omega
theorem verdict_ok {l : List RuleP} {lv : List Int} {cl : Int} {f : FrameP} {full : Bool} (h : Ak.err f.pdu = 0) : verdict l lv cl f full = ((ver l lv (rule l cl f) full).1, rule l cl f, (ver l lv (rule l cl f) full).2) := by
 unfold verdict
 rw [if_neg (by omega), if_neg (by omega), if_neg (by omega)]
 generalize rule l cl f = k
 unfold ver
 split
 ·rfl
 split
 ·rfl
 split
 ·rfl
 split
 ·rfl
 ·rfl
theorem verdict_no {l : List RuleP} {lv : List Int} {cl : Int} {f : FrameP} {full : Bool} (h : Ak.err f.pdu ≠ 0) : verdict l lv cl f full = (if Ak.err f.pdu = 2 then 3 else if Ak.err f.pdu = 3 then 4 else 5, -1, lv) := by
 unfold verdict
 rcases err_four f.pdu with h0 | h2 | h3 | h4
 ·exact absurd h0 h
 ·rw [h2]; rfl
 ·rw [h3]; rfl
 ·rw [h4]; rfl
theorem own_where {w : World} {base : Nat} {e : TypeId} {B : Option Addr} {n c : Nat} {xs : List Value} (h : w.ownsRow base e 1 (.slice B n c) n xs) : (B = none ∧ n = 0) ∨ ∃ g, B = some ⟨g, 0, none⟩ ∧ base <= g ∧ g < w.heap.size := by
 rcases h.2 with ⟨hv, h0⟩ | ⟨g, cap, cur, hv, hb, hh, _⟩
 ·injection hv with hv
  exact .inl ⟨hv, h0⟩
 ·injection hv with hv
  exact .inr ⟨g, hv, hb, (Array.getElem?_eq_some_iff.1 hh).1⟩
theorem Ints.but {k : IntKind} {g : Nat} {w w' : World} {n : Nat} {A : Option Addr} {zs : List Int} (h : Ints k w w.heap.size A n zs) (hb : But g w w') (hA : 0 < n -> ∃ b, A = some ⟨b, 0, none⟩ ∧ b ≠ g) : Ints k w' w'.heap.size A n zs :=
 ⟨h.1, fun hn => by
  obtain ⟨b, off, e, hlt, hc⟩ := h.2 hn
  obtain ⟨b', e', hne⟩ := hA hn
  have e2 := e.symm.trans e'
  injection e2 with e2
  injection e2 with e3
  subst e3
  exact ⟨b, off, e, Nat.lt_of_lt_of_le hlt hb.size, fun i hi => (hb.cell hlt hne).trans (hc i hi)⟩⟩
set_option maxHeartbeats 40000000 in
theorem frame_any (LA TA VA : Option Addr) (lc tc vc : Nat) (l : List RuleP) (lv : List Int) (cl : Int) (f : FrameP) (full : Bool) (w : World) (hl : l.length <= 1000) (hj : okJ l) (hv : okV l lv) (hok : okRs l) (hof : ∀ r ∈ l, okF r.when_)
  (hf : Mb.right f = true) (hR : Rus w LA l) (hN : Nds w TA (rules l).length (rules l)) (hV : Ints .i64 w w.heap.size VA l.length lv) (hc1 : l.length <= vc) (hc2 : vc <= maxLen) :
  Calls Tryz.prog 15 #[.slice LA l.length lc, .slice TA (rules l).length tc, .slice VA l.length vc, .int .i64 cl, .agg #[.int .i64 f.id, .int .i64 f.unit, .string f.pdu], .bool full] w (RetJ VA (Ak.get f.pdu) (verdict l lv cl f full) w) := by
 have hps := ((Mb.right_iff f).1 hf).2.2.2
 clear hf
 obtain ⟨X, hX⟩ : ∃ X, X = (w.alloc (.cells #[.int .i64 f.id, .int .i64 f.unit, .string f.pdu] 37)).alloc (.cells #[.int .i64 0, .int .i64 0, .int .i64 0, .int .i64 0, .int .i64 0, .slice none 0 0] 40) := ⟨_, rfl⟩
 have k0 : Keep w X := by rw [hX]; exact ((Keep.refl w).alloc _).alloc _
 have hsz : X.heap.size = w.heap.size + 1 + 1 := by rw [hX]; simp
 have b1 : X.cell? ⟨w.heap.size, 1, none⟩ = some (.int .i64 f.unit) := by rw [hX]; go_simp
 have b2 : X.cell? ⟨w.heap.size, 2, none⟩ = some (.string f.pdu) := by rw [hX]; go_simp
 have bz : Zero6 (w.heap.size + 1) X := by
  rw [hX]
  exact ⟨by have := Ref6.Boxed.new (w.alloc (.cells #[.int .i64 f.id, .int .i64 f.unit, .string f.pdu] 37)) Ak.zero none 0 0 40; rw [show (w.alloc (.cells #[.int .i64 f.id, .int .i64 f.unit, .string f.pdu] 37)).heap.size = w.heap.size + 1 by simp] at this; exact this, fun j => by go_simp⟩
 have HCL := Lib.hid (EqI.clone_any VA l.length vc lv X (by omega) (hV.kept k0))
 have HG := Lib.hid (fun W => Ask.get_any f.pdu W (by omega))
 have HX := Lib.hid hX
 clear hX
 obtain ⟨a, ha⟩ : ∃ a, a = Ak.get f.pdu := ⟨_, rfl⟩
 obtain ⟨er, he⟩ : ∃ er, er = Ak.err f.pdu := ⟨_, rfl⟩
 have HRI : Hid (er = 0 -> Ak.right a = true) := Lib.hid (by rw [he, ha]; intro h; exact (Ak.get_right h).1)
 have HAZ : Hid (er ≠ 0 -> a = Ak.zero) := Lib.hid (by rw [he, ha]; intro h; rw [Ak.get, if_neg h])
 have HF := Lib.hid (fun h => ask_few f.pdu cl f.unit h)
 have HV0 := Lib.hid (fun h => verdict_ok (l := l) (lv := lv) (cl := cl) (f := f) (full := full) h)
 have HV1 := Lib.hid (fun h => verdict_no (l := l) (lv := lv) (cl := cl) (f := f) (full := full) h)
 have HRU := Lib.hid (show rule l cl f = Me.first (Fa.of cl f.unit (Ak.get f.pdu)) l from rfl)
 rw [<- he] at HG HF HV0 HV1
 rw [<- ha] at HG HF HRU ⊢
 clear ha he
 have HLV := Lib.hid hv
 have HJ := Lib.hid hj
 have HOK := Lib.hid hok
 have HOF := Lib.hid hof
 have HR := Lib.hid (hR.kept k0)
 have HN := Lib.hid (hN.kept k0)
 clear hj hv hok hof hR hN hV
 obtain ⟨v, hvv⟩ : ∃ v, v = verdict l lv cl f full := ⟨_, rfl⟩
 rw [<- hvv] at HV0 HV1 ⊢
 clear hvv
 by_cases h0 : er = 0
 ·subst h0
  obtain ⟨hfit, hvl, hfw, h6⟩ := HF.out rfl
  have hnn := nonneg (HRI.out rfl)
  have HE := Lib.hid (HV0.out rfl)
  obtain ⟨k, hk⟩ : ∃ k, k = rule l cl f := ⟨_, rfl⟩
  have hkr := rule_range l cl f
  rw [<- hk] at HRU HE hkr
  clear hk HV0 HV1 HF HRI HAZ h6
  have HCW := Lib.hid (fun (W : World) (h : Keep X W) (SA VB RA : Option Addr) (c1 c2 c3 : Nat) (g3 : (Fa.of cl f.unit a).rg.length <= c3) (g4 : c3 <= maxLen) (hF : Fa.FaAt W (Fa.of cl f.unit a) SA VB RA) =>
   Wk.rule_any TA tc (rules l) (Fa.of cl f.unit a) SA VB RA c1 c2 c3 W (WkD.rules_ok HOK.out) (Wk.rules_right l HOF.out) g3 g4 hfw (HN.out.kept h) hF)
  rw [(Wk.top_rules l HOF.out _).1, <- HRU.out] at HCW
  go_enter Tryz.func15, Tryz.ntmps15
  go_wp2_with fail
  rw [<- HX.out]
  refine HCL.out.mono ?_
  rintro e w1 ⟨B, d, rfl, hown1, k1⟩
  replace b1 := (Below.cell k1 (p := ⟨w.heap.size, 1, none⟩) (by show w.heap.size < X.heap.size; omega)).trans b1
  replace b2 := (Below.cell k1 (p := ⟨w.heap.size, 2, none⟩) (by show w.heap.size < X.heap.size; omega)).trans b2
  have z1 := bz.kept k1 (by omega)
  have hs1 := k1.size
  have hwB := own_where hown1
  have HO1 := Lib.hid hown1
  clear bz hown1
  go_wp2_with fail
  refine (HG.out _).mono ?_
  rintro e w2 ⟨A, n, c, rfl, hI, k2, hfr⟩
  replace k2 : Keep w1 w2 := k2
  have hs2 := k2.size
  have hn : n = a.vs.length := hI.1.symm
  subst hn
  have HI0 := Lib.hid hI
  have y1 := (Below.cell k2 (p := ⟨w.heap.size, 1, none⟩) (by show w.heap.size < w1.heap.size; omega)).trans b1
  have z2 := z1.kept k2 (by omega)
  obtain ⟨X2, hX2⟩ : ∃ X2, X2 = w2.alloc (.cells #[.int .i64 a.fc, .int .i64 a.rd, .int .i64 a.ct, .int .i64 a.wr, .int .i64 a.mn, .slice A a.vs.length c] 40) := ⟨_, rfl⟩
  have k3 : Keep w2 X2 := by rw [hX2]; exact (Keep.refl w2).alloc _
  have hs3 : X2.heap.size = w2.heap.size + 1 := by rw [hX2]; simp
  have bx : Ref6.Boxed w2.heap.size a A a.vs.length c X2 := by rw [hX2]; exact Ref6.Boxed.new ..
  have z3 := z2.kept k3 (by omega)
  have HO := Lib.hid (Facts.ofR_any cl f.unit a A c X2 (by omega) hfit hnn.1 hnn.2 (hI.kept k3))
  have HX2 := Lib.hid hX2
  have kx2 : Keep X X2 := (k1.trans k2).trans k3
  have k12 : Keep w1 X2 := k2.trans k3
  have HFR : Hid (0 < a.vs.length -> ∃ b, A = some ⟨b, 0, none⟩ ∧ w.heap.size + 1 + 1 <= b) := Lib.hid fun h => by
   obtain ⟨b, e, h1, _⟩ := hfr h
   exact ⟨b, e, by omega⟩
  have HFQ : Hid (0 < a.vs.length -> ∃ b, A = some ⟨b, 0, none⟩ ∧ w1.heap.size <= b) := Lib.hid fun h => by
   obtain ⟨b, e, h1, _⟩ := hfr h
   exact ⟨b, e, h1⟩
  have HIX := Lib.hid (hI.kept k3)
  have hlt0 : w.heap.size < w2.heap.size := by omega
  clear hX2 hI hfit hfw z1 z2 hfr k2 k3 b1 b2 hnn HI0
  go_wp2_with fail
  rw [<- HX2.out]
  refine HO.out.mono ?_
  rintro e w3 ⟨SA, VB, RA, c1, c2, c3, rfl, hFa, k3, hfresh, g3, g4⟩
  have HC3 := Lib.hid (HCW.out w3 (kx2.trans k3) SA VB RA c1 c2 c3 g3 g4 hFa)
  clear hFa hfresh g3 g4 HCW
  go_wp2_with fail
  refine HC3.out.mono ?_
  rintro e w4 ⟨rfl, k4⟩
  have k24 : Keep X2 w4 := k3.trans k4
  have hs4 := k24.size
  have z4 := z3.kept k24 (by omega)
  have x4 := bx.below k24 (by omega)
  have kw4 : Keep w w4 := (k0.trans kx2).trans k24
  have HV := Lib.hid (fun W (h : Keep w4 W) => verdict_any X.heap.size LA B lc d l lv k full W hl HJ.out HLV.out hkr ((HR.out.kept (kx2.trans k24)).kept h) (own_keep (own_keep HO1.out (k12.trans k24)) h))
  have HI4 := Lib.hid (HIX.out.kept k24)
  obtain ⟨g, hg1, hg2, hg5⟩ : ∃ g, (∀ g', B = some ⟨g', 0, none⟩ -> g' = g) ∧ X.heap.size <= g ∧ ∀ b, w1.heap.size <= b -> b < w4.heap.size -> b ≠ g := by
   rcases hwB with ⟨e, _⟩ | ⟨g', e, h1, h2⟩
   ·exact ⟨w4.heap.size, fun g' h => (by rw [e] at h; cases h), by omega, fun b _ _ => by omega⟩
   ·exact ⟨g', fun g'' h => (by rw [e] at h; injection h with h; injection h with h; exact h.symm), h1, fun b _ _ => by omega⟩
  have hg3 : g ≠ w2.heap.size := Ne.symm (hg5 _ hs2 (by omega))
  have hq1 : w2.heap.size ≠ w.heap.size + 1 := by omega
  have hq2 : w2.heap.size < w4.heap.size := by omega
  have hq3 : w.heap.size + 1 < w4.heap.size := by omega
  have hg4 : w.heap.size + 1 ≠ g := by omega
  have hwg : w.heap.size <= g := by omega
  have hgb : w.heap.size + 1 + 1 <= g := by omega
  have HVB : ∀ W, Keep w4 W -> Calls Tryz.prog 39 #[.slice LA l.length lc, .int .i64 k, .slice B l.length d, .bool full] W fun e W' => e = .returned (.int .i64 (ver l lv k full).1) ∧ W'.ownsRow X.heap.size 3 1 (.slice B l.length d) l.length ((ver l lv k full).2.map (Value.int .i64)) ∧ But g W W' := fun W h => (HV.out W h).mono fun e W' h => ⟨h.1, h.2.1, by
   rcases h.2.2 with h | ⟨g', e, _, _, h⟩
   ·exact But.of h
   ·rw [hg1 g' e] at h; exact h⟩
  have hS : ∀ W, But g w4 W -> W.cell? ⟨w2.heap.size, 0, none⟩ = some (.int .i64 a.fc) ∧ W.cell? ⟨w2.heap.size, 1, none⟩ = some (.int .i64 a.rd) ∧ W.cell? ⟨w2.heap.size, 2, none⟩ = some (.int .i64 a.ct) ∧ W.cell? ⟨w2.heap.size, 3, none⟩ = some (.int .i64 a.wr) ∧ W.cell? ⟨w2.heap.size, 4, none⟩ = some (.int .i64 a.mn) ∧ W.cell? ⟨w2.heap.size, 5, none⟩ = some (.slice A a.vs.length c) := fun W h => by
   obtain ⟨x0, x1, x2, x3, x4, x5⟩ := x4
   exact ⟨(h.cell hq2 (Ne.symm hg3)).trans x0, (h.cell hq2 (Ne.symm hg3)).trans x1, (h.cell hq2 (Ne.symm hg3)).trans x2, (h.cell hq2 (Ne.symm hg3)).trans x3, (h.cell hq2 (Ne.symm hg3)).trans x4, (h.cell hq2 (Ne.symm hg3)).trans x5⟩
  have hT : ∀ W, But g w4 W -> Zero6 (w.heap.size + 1) W := fun W h => by
   obtain ⟨⟨x0, x1, x2, x3, x4, x5⟩, hf⟩ := z4
   exact ⟨⟨(h.cell hq3 hg4).trans x0, (h.cell hq3 hg4).trans x1, (h.cell hq3 hg4).trans x2, (h.cell hq3 hg4).trans x3, (h.cell hq3 hg4).trans x4, (h.cell hq3 hg4).trans x5⟩, fun j => (h.frozen hq3 hg4).trans (hf j)⟩
  have hI5 : ∀ W, But g w4 W -> Ints .i64 W W.heap.size A a.vs.length a.vs := fun W h => Ints.but HI4.out h (fun hn => by
   obtain ⟨b, e, h1⟩ := HFQ.out hn
   obtain ⟨b', _, e', h2, _⟩ := HI4.out.2 hn
   rw [e] at e'
   injection e' with e'
   injection e' with e'
   subst e'
   exact ⟨b, e, hg5 b h1 h2⟩)
  have HI5 := Lib.hid hI5
  have HVC := Lib.hid HVB
  have HKW := Lib.hid kw4
  have HG := Lib.hid (And.intro hwg hgb)
  have HSZ := Lib.hid hsz
  clear HV HVB x4 z4 bx z3 y1 hg1 hwB HO1 HR HN HLV HJ HOK HOF hkr kx2 k12 k24 k3 k4 k1 k0 hwg hgb HO HC3 HCL hI5 HFQ hg5 HI4 HIX
  have hw : But g w4 w4.drew := But.of (keepd (Keep.refl w4))
  go_wp2_with fail
  go_region_held3 (fun W => W.cell? ⟨w2.heap.size, 0, none⟩ = some (.int .i64 a.fc) ∧ W.cell? ⟨w2.heap.size, 1, none⟩ = some (.int .i64 a.rd) ∧ W.cell? ⟨w2.heap.size, 2, none⟩ = some (.int .i64 a.ct) ∧ W.cell? ⟨w2.heap.size, 3, none⟩ = some (.int .i64 a.wr) ∧ W.cell? ⟨w2.heap.size, 4, none⟩ = some (.int .i64 a.mn) ∧ W.cell? ⟨w2.heap.size, 5, none⟩ = some (.slice A a.vs.length c))
   (first
    | exact hS _ hw
    | exact sets6 (hS _ hw) hq1 _ _ _ _ _ _
    | fail)
   ((first
     | (go_at_call 39; refine (HVC.out _ (keepd (Keep.refl w4))).mono ?_; rintro e w5 ⟨rfl, hown5, hb5⟩; have hw := hw.trans hb5; obtain ⟨⟨t0, t1, t2, t3, t4, t5⟩, uu⟩ := hT _ hw; have u0 := uu 0; have u1 := uu 1; have u2 := uu 2; have u3 := uu 3; have u4 := uu 4; have u5 := uu 5)
     | fail))
  all_goals (
   go_wp2
   (try simp only [Exit.inBlock, Exit.then])
   have hlt5 : w.heap.size + 1 < w5.heap.size := Nat.lt_of_lt_of_le hq3 hw.size
   have hk5 : Keep w w5 := Below.trans HKW.out (hw.below HG.out.1 HKW.out.size)
   have hF5 : 0 < l.length -> ∃ b, B = some ⟨b, 0, none⟩ ∧ w.heap.size + 1 + 1 <= b := fun hn => by
    rcases own_where hown5 with ⟨_, h⟩ | ⟨b, e, h, _⟩
    ·omega
    ·exact ⟨b, e, by have := HSZ.out; omega⟩
   refine bodyPost_ret (v := .tuple #[.agg #[.int .i64 a.fc, .int .i64 a.rd, .int .i64 a.ct, .int .i64 a.wr, .int .i64 a.mn, .slice A a.vs.length c], .int .i64 (ver l lv k full).1, .int .i64 k, .slice B l.length d]) ?_ rfl ⟨A, a.vs.length, c, B, l.length, d, by rw [HE.out], ?_, ?_, ?_, (own_le1 hown5).1, (own_le1 hown5).2, fresh6 HFR.out, .inl (fresh6 hF5)⟩
   ·rw [results_cell3 rfl]
    go_simp
   ·exact (end6 (w := w) _ _ _ _ _ _ hlt5 hk5 (HI5.out _ hw) HFR.out).2
   ·rw [HE.out]; exact (end6 (w := w) _ _ _ _ _ _ hlt5 hk5 (Ints.of_own hown5) hF5).2
   ·exact (end6 (w := w) _ _ _ _ _ _ hlt5 hk5 (HI5.out _ hw) HFR.out).1)
 ·have HZ := Lib.hid (HAZ.out h0)
  obtain ⟨z, hz⟩ : ∃ z : Int, z = (if er = 2 then 3 else if er = 3 then 4 else 5) := ⟨_, rfl⟩
  have HE := Lib.hid (HV1.out h0)
  have HRF := Lib.hid fun W => refusal_any er W
  rw [<- hz] at HE HRF
  have hne : (er == 0) = false := by simp [h0]
  have HSZ := Lib.hid hsz
  clear hz HF HV0 HV1 HRI HRU HAZ HJ HOK HOF HR HN HLV h0 b1
  go_enter Tryz.func15, Tryz.ntmps15
  go_wp2_with fail
  rw [<- HX.out]
  refine HCL.out.mono ?_
  rintro e w1 ⟨B, d, rfl, hown1, k1⟩
  replace b2 := (Below.cell k1 (p := ⟨w.heap.size, 2, none⟩) (by show w.heap.size < X.heap.size; omega)).trans b2
  have z1 := bz.kept k1 (by omega)
  have hs1 := k1.size
  have HO1 := Lib.hid hown1
  clear bz hown1 HCL
  go_wp2_with fail
  refine (HG.out _).mono ?_
  rintro e w2 ⟨A, n, c, rfl, hI, k2, hfr⟩
  replace k2 : Keep w1 w2 := k2
  have hs2 := k2.size
  obtain ⟨X2, hX2⟩ : ∃ X2, X2 = w2.alloc (.cells #[.int .i64 a.fc, .int .i64 a.rd, .int .i64 a.ct, .int .i64 a.wr, .int .i64 a.mn, .slice A n c] 40) := ⟨_, rfl⟩
  have k3 : Keep w2 X2 := by rw [hX2]; exact (Keep.refl w2).alloc _
  have hs3 := k3.size
  obtain ⟨⟨c00, c01, c02, c03, c04, c05⟩, f0⟩ := (z1.kept k2 (by omega)).kept k3 (by omega)
  have HK := Lib.hid (((k0.trans k1).trans k2).trans k3)
  have HO2 := Lib.hid (own_keep (own_keep HO1.out k2) k3)
  have hlt : w.heap.size + 1 < X2.heap.size := by omega
  have HX2 := Lib.hid hX2
  simp only [Ak.zero] at c00 c01 c02 c03 c04 c05
  clear z1 k0 k1 k2 k3 hI hfr HO1 HG b2 hs1 hs2 hs3 hX2
  go_wp2_with fail
  rw [<- HX2.out]
  refine (HRF.out _).mono ?_
  rintro e _ ⟨rfl, rfl⟩
  clear HRF HX HX2
  go_wp2
  (try simp only [Exit.inBlock, Exit.then])
  refine bodyPost_ret (v := .tuple #[.agg #[.int .i64 0, .int .i64 0, .int .i64 0, .int .i64 0, .int .i64 0, .slice none 0 0], .int .i64 z, .int .i64 (-1), .slice B l.length d]) ?_ rfl ⟨none, 0, 0, B, l.length, d, by rw [HE.out, HZ.out]; rfl, ?_, ?_, ?_, ?_, ?_, ?_, ?_⟩
  ·rw [results_cell3 rfl]
   go_simp
  ·rw [HZ.out]; exact (end6 (w := w) _ _ _ _ _ _ hlt HK.out (Ints.none_ _ _ _ _) (fun h => absurd h (by decide))).2
  ·rw [HE.out]
   exact (end6 (w := w) _ _ _ _ _ _ hlt HK.out (Ints.of_own HO2.out) (fun hn => by
    rcases own_where HO2.out with ⟨_, h⟩ | ⟨b, e, h, _⟩
    ·omega
    ·exact ⟨b, e, by have := HSZ.out; omega⟩)).2
  ·exact (end6 (w := w) (A := none) (n := 0) (zs := []) _ _ _ _ _ _ hlt HK.out (Ints.none_ _ _ _ _) (fun h => absurd h (by decide))).1
  ·exact (own_le1 HO2.out).1
  ·exact (own_le1 HO2.out).2
  ·exact fun h => absurd h (by decide)
  ·exact .inl (FreshR.of_own HO2.out (by have := HSZ.out; omega))
end Go.Proofs.YtaciogcpghbhjaaGreat.Judge
/- Layer 24's laws: what is told of slots; the example. Conditions: none. -/
namespace Go.Proofs.YtaciogcpghbhjaaGreat.Judge
set_option linter.unusedVariables false
set_option linter.unusedSimpArgs false
set_option maxRecDepth 100000
open Go.ChangeShapes Go.WideShapes Go.ChangeAt Go.RowKit
open Tr (zero zeroR Rus RuleAt RuIn)
open Nd (Nds okRs)
open Wk (okF)
open Cp (rules)
open Jg
open Ref24 (RetLv RetJ)
def AnsJ (a : AskP) (v : Int × Int × List Int) (u : Value) (W : World) : Prop :=
 ∃ A n c B m d, u = .tuple #[.agg #[.int .i64 a.fc, .int .i64 a.rd, .int .i64 a.ct, .int .i64 a.wr, .int .i64 a.mn, .slice A n c], .int .i64 v.1, .int .i64 v.2.1, .slice B m d] ∧ Ints .i64 W W.heap.size A n a.vs ∧ Ints .i64 W W.heap.size B m v.2.2 ∧ m <= d ∧ d <= maxLen
theorem AnsJ.kept {a : AskP} {v : Int × Int × List Int} {u : Value} {W W' : World} (h : AnsJ a v u W) (hk : Keep W W') : AnsJ a v u W' := by
 obtain ⟨A, n, c, B, m, d, e, h1, h2, h3⟩ := h
 exact ⟨A, n, c, B, m, d, e, h1.kept hk, h2.kept hk, h3⟩
theorem AnsJ.of {a : AskP} {v : Int × Int × List Int} {w w' : World} {e : Ending} {VA : Option Addr} (h : RetJ VA a v w e w') : ∃ u, e = .returned u ∧ Keep w w' ∧ AnsJ a v u w' := by
 obtain ⟨A, n, c, B, m, d, rfl, h1, h2, h3, h4, h5, _⟩ := h
 exact ⟨_, rfl, h3, A, n, c, B, m, d, rfl, h1, h2, h4, h5⟩
def AskJ (a : AskP) (u : Value) (W : World) : Prop := ∃ A n c, u = .agg #[.int .i64 a.fc, .int .i64 a.rd, .int .i64 a.ct, .int .i64 a.wr, .int .i64 a.mn, .slice A n c] ∧ Ints .i64 W W.heap.size A n a.vs
theorem AskJ.kept {a : AskP} {u : Value} {W W' : World} (h : AskJ a u W) (hk : Keep W W') : AskJ a u W' := by
 obtain ⟨A, n, c, e, h1⟩ := h
 exact ⟨A, n, c, e, h1.kept hk⟩
def LvJ (lv : List Int) (u : Value) (W : World) : Prop := ∃ B m d, u = .slice B m d ∧ Ints .i64 W W.heap.size B m lv ∧ m <= d ∧ d <= maxLen
theorem LvJ.kept {lv : List Int} {u : Value} {W W' : World} (h : LvJ lv u W) (hk : Keep W W') : LvJ lv u W' := by
 obtain ⟨B, m, d, e, h1, h2⟩ := h
 exact ⟨B, m, d, e, h1.kept hk, h2⟩
theorem LvJ.of {lv : List Int} {w w' : World} {e : Ending} (h : RetLv lv w e w') : ∃ u, e = .returned u ∧ Keep w w' ∧ LvJ lv u w' := by
 obtain ⟨A, n, c, rfl, h1, h2, h3, h4, _⟩ := h
 exact ⟨_, rfl, h4, A, n, c, rfl, h3, h1, h2⟩
def NdsJ (l : List RuleP) (u : Value) (W : World) : Prop := ∃ A c, u = .slice A (rules l).length c ∧ NdsF W A (rules l).length (rules l)
theorem NdsJ.kept {l : List RuleP} {u : Value} {W W' : World} (h : NdsJ l u W) (hk : Keep W W') : NdsJ l u W' := by
 obtain ⟨A, c, e, h1⟩ := h
 exact ⟨A, c, e, h1.kept hk⟩
theorem NdsJ.off {X w w' : World} {β : Option Nat} {l : List RuleP} {e : Ending} (hf : Rel.FreshO X β w) (h : Nd.RetNodes (rules l) w e w') : ∃ u, e = .returned u ∧ Keep w w' ∧ NdsJ l u (off β w') := by
 obtain ⟨A, c, rfl, h1, h2⟩ := h
 exact ⟨_, rfl, h2, A, c, rfl, NdsF.of_own (nodes_fresh hf h1)⟩
theorem LvJ.off {X w w' : World} {β : Option Nat} {lv : List Int} {e : Ending} (hf : Rel.FreshO X β w) (h : RetLv lv w e w') : ∃ u, e = .returned u ∧ Keep w w' ∧ LvJ lv u (off β w') := by
 obtain ⟨A, n, c, rfl, h1, h2, h3, h4, h5⟩ := h
 exact ⟨_, rfl, h4, A, n, c, rfl, ints_fresh hf h5 h3, h1, h2⟩
theorem AnsJ.ask {a : AskP} {v : Int × Int × List Int} {u : Value} {W : World} (h : AnsJ a v u W) : ∃ (vs : Array Value) (x : Value), u = .tuple vs ∧ vs[0]? = some x ∧ AskJ a x W := by
 obtain ⟨A, n, c, B, m, d, rfl, h1, _⟩ := h
 exact ⟨_, _, rfl, rfl, A, n, c, rfl, h1⟩
theorem AnsJ.ver {a : AskP} {v : Int × Int × List Int} {u : Value} {W : World} (h : AnsJ a v u W) : ∃ vs : Array Value, u = .tuple vs ∧ vs[1]? = some (.int .i64 v.1) := by
 obtain ⟨A, n, c, B, m, d, rfl, h1, _⟩ := h
 exact ⟨_, rfl, rfl⟩
theorem AnsJ.rul {a : AskP} {v : Int × Int × List Int} {u : Value} {W : World} (h : AnsJ a v u W) : ∃ vs : Array Value, u = .tuple vs ∧ vs[2]? = some (.int .i64 v.2.1) := by
 obtain ⟨A, n, c, B, m, d, rfl, h1, _⟩ := h
 exact ⟨_, rfl, rfl⟩
theorem AnsJ.lev {a : AskP} {v : Int × Int × List Int} {u : Value} {W : World} (h : AnsJ a v u W) : ∃ (vs : Array Value) (x : Value), u = .tuple vs ∧ vs[3]? = some x ∧ LvJ v.2.2 x W := by
 obtain ⟨A, n, c, B, m, d, rfl, _, h2, h3⟩ := h
 exact ⟨_, _, rfl, rfl, B, m, d, rfl, h2, h3⟩
theorem AnsJ.off {X w w' : World} {β : Option Nat} {a : AskP} {v : Int × Int × List Int} {e : Ending} {VA : Option Addr} {n : Nat} {lv : List Int} (hf : Rel.FreshO X β w) (hV : Ints .i64 (off β w) (off β w).heap.size VA n lv) (hn : v.2.2.length = n) (h : RetJ VA a v w e w') : ∃ u, e = .returned u ∧ Keep w w' ∧ AnsJ a v u (off β w') := by
 obtain ⟨A, k, c, B, m, d, rfl, h1, h2, h3, h4, h5, h6, h7⟩ := h
 refine ⟨_, rfl, h3, A, k, c, B, m, d, rfl, ints_fresh hf h6 h1, ?_, h4, h5⟩
 rcases h7 with h7 | rfl
 ·exact ints_fresh hf h7 h2
 ·cases β with
  | none => exact h2
  | some b =>
    obtain rfl : m = n := by rw [<- hn]; exact h2.1.symm
    exact ints_off h2 (ints_apart hV)
def z6 : Array Value := #[.int .i64 0, .int .i64 0, .int .i64 0, .int .i64 0, .int .i64 0, .slice none 0 0]
theorem zero6 (W : World) : (zeroValue 40).run Tryz.prog W = .ok (.agg z6) W := Tryz.zeroValue40 W
theorem info6 : (Tryz.prog.info? 40).map (·.size) = some z6.size := by kernel_rfl
theorem ask_form {a : AskP} {u : Value} {W : World} (h : AskJ a u W) : ∃ cs : Array Value, u = .agg cs ∧ cs.size = z6.size ∧ cs.all (·.oneCell') = true := by
 obtain ⟨A, n, c, rfl, _⟩ := h
 exact ⟨_, rfl, rfl, by simp [Value.oneCell']⟩
def fA : FrameP := ⟨1, 17, ⟨#[3, 0, 100, 0, 2]⟩⟩
def aA : AskP := ⟨3, 100, 2, 0, 0, []⟩
def lA : List RuleP := [⟨true, zero, 0, 0, 0, 0⟩]
theorem getA : Ak.err fA.pdu = 0 ∧ Ak.get fA.pdu = aA := by
 obtain ⟨h1, h2, h3⟩ := Ak.err_right (a := aA) (by decide)
 have e : st (Ak.put aA) = fA.pdu := by rw [h3]; rfl
 rw [e] at h1 h2
 exact ⟨h1, h2⟩
theorem rightA : Mb.right fA = true := by decide
theorem verN : verdict [] [] 1 fA false = (2, -1, []) := by
 unfold verdict
 rw [getA.1, if_neg (by decide), if_neg (by decide), if_neg (by decide), if_pos (.inl (by decide))]
 rfl
theorem ruleA : rule lA 1 fA = 0 := by
 unfold rule Me.first lA
 rw [Me.firstF, Me.holds_zero]; rfl
theorem verA : verdict lA [0] 1 fA false = (1, 0, [0]) := by
 unfold verdict
 rw [getA.1, if_neg (by decide), if_neg (by decide), if_neg (by decide), ruleA, if_neg (by decide), if_neg (by decide), if_pos (by decide)]
theorem levA : levels lA = [0] := rfl
theorem excA : excuse fA 2 = ⟨1, 17, ⟨#[131, 1]⟩⟩ := by rfl
theorem okJA : okJ lA := fun r hr => by
 unfold lA at hr
 rw [List.mem_singleton] at hr
 subst hr
 exact .inl ⟨rfl, rfl, rfl⟩
theorem okVA : okV lA [0] := by have := okV_levels okJA; rwa [levA] at this
theorem okRsA : okRs lA := ⟨by decide, fun r hr => by
 unfold lA at hr
 rw [List.mem_singleton] at hr
 subst hr
 exact ⟨⟨WkD.wf_zero, Nd.roomy_small (d := 3) (by decide), by decide⟩, by decide⟩⟩
theorem okFA : ∀ r ∈ lA, okF r.when_ := fun r hr => ⟨(okRsA.2 r hr).1, by
 unfold lA at hr
 rw [List.mem_singleton] at hr
 subst hr
 decide⟩
theorem okRsN : okRs [] := ⟨by decide, fun r hr => by cases hr⟩
theorem rusA {W : World} {q : Nat} (h : Bx W q [.bool true, .int .i64 0, .int .i64 0, .slice none 0 0, .float .f64 0, .float .f64 0, .slice none 0 0, .int .i64 0, .int .i64 0, .int .i64 0, .int .i64 0]) : Rus W (some ⟨q, 0, none⟩) lA := fun _ => ⟨q, 0, rfl, h.1, fun k hk => by
 have hk0 : k < 1 := hk
 obtain rfl : k = 0 := by omega
 refine ⟨_, fun j v hv => ?_, ⟨_, rfl, rfl, (show Tr.Ex W zero none none from ⟨Row.none_ _ _ _, fun hn => absurd hn (by simp [Tr.of, zero])⟩).into 0 0⟩⟩
 have := h.2 j v hv
 simpa using this⟩
theorem eqF (a b : Int) (s : ByteArray) (w : World) : (Op.equalIn 10000 37 (.agg #[.int .i64 a, .int .i64 b, .string s]) (.agg #[.int .i64 a, .int .i64 b, .string s])).run Tryz.prog w = .ok true w := by
 have u1 := Tryz.underlying3
 have a1 := Tryz.isAgg3
 have z1 := Tryz.sizeOf3
 have u9 := Tryz.underlying9
 have a9 := Tryz.isAgg9
 have z9 := Tryz.sizeOf9
 have hS : Tryz.prog.underlying 37 = some (.struct (Tryz.prog.fieldsOf 37)) := by kernel_rfl
 have hp : Tryz.prog.stoodInHeld 37 = false := by kernel_rfl
 rw [show (10000 : Nat) = 9999 + 1 from rfl, run_equalIn_agg w _ 37 _ _ hS hp]
 simp only [Program.fieldsOf, Tryz.underlying37]
 go_simp
theorem guardF : Tryz.prog.eqGuardType Tryz.prog.depth 37 = false := by kernel_rfl
def a4D : List Tmp := [27, 29, 31, 24, 32, 35, 10]
def a4R (t : Tmp) (u : Value) (W : World) : Prop := if t = 27 then NdsJ lA u W else if t = 31 ∨ t = 24 then AnsJ aA (1, 0, [0]) u W else if t = 32 then AskJ aA u W else LvJ [0] u W
theorem a4R_kept {t : Tmp} {u : Value} {W W' : World} (hk : Keep W W') (h : a4R t u W) : a4R t u W' := by
 unfold a4R at *
 split
 ·rename_i e; rw [if_pos e] at h; exact h.kept hk
 rename_i e1; rw [if_neg e1] at h
 split
 ·rename_i e; rw [if_pos e] at h; exact h.kept hk
 rename_i e2; rw [if_neg e2] at h
 split
 ·rename_i e; rw [if_pos e] at h; exact h.kept hk
 rename_i e3; rw [if_neg e3] at h
 exact h.kept hk
def a2D : List Tmp := [15, 17, 14, 18, 21, 5]
def a2R (t : Tmp) (u : Value) (W : World) : Prop := if t = 15 then NdsJ [] u W else if t = 17 ∨ t = 14 then AnsJ aA (2, -1, []) u W else if t = 18 then AskJ aA u W else LvJ [] u W
theorem a2R_kept {t : Tmp} {u : Value} {W W' : World} (hk : Keep W W') (h : a2R t u W) : a2R t u W' := by
 unfold a2R at *
 split
 ·rename_i e; rw [if_pos e] at h; exact h.kept hk
 rename_i e1; rw [if_neg e1] at h
 split
 ·rename_i e; rw [if_pos e] at h; exact h.kept hk
 rename_i e2; rw [if_neg e2] at h
 split
 ·rename_i e; rw [if_pos e] at h; exact h.kept hk
 rename_i e3; rw [if_neg e3] at h
 exact h.kept hk
set_option maxHeartbeats 4000000 in
theorem awake_any (w : World) : Calls Tryz.prog 8 #[] w fun e w' => e = .returned (.bool true) ∧ Keep w w' := by
 obtain ⟨X, hX⟩ : ∃ X, X = w.alloc (.cells #[.int .i64 1, .int .i64 17, .string ⟨#[3, 0, 100, 0, 2]⟩] 37) := ⟨_, rfl⟩
 have k0 : Keep w X := by rw [hX]; exact (Keep.refl w).alloc _
 have B0 : Hid (Bx X w.heap.size [.int .i64 1, .int .i64 17, .string ⟨#[3, 0, 100, 0, 2]⟩]) := Lib.hid (by rw [hX]; exact Bx.newq rfl)
 have HX := Lib.hid hX
 clear hX
 go_enter Tryz.func8, Tryz.ntmps8
 go_wp2
 rw [<- HX.out]
 refine wp_region_off 8 2 18 40 z6 a2D a2R (by kernel_rfl) (by kernel_rfl) zero6 info6 (fun d _ v W W' hk h => a2R_kept hk h) (fun v W h => ask_form h) ?_
 simp only [List.take_succ_cons, List.take_zero, List.drop_succ_cons, List.drop_zero, List.cons_append, List.nil_append]
 apply Exists.intro
 refine ⟨fun Y β hY hf => ?_, ?_⟩
 ·refine Rel.rel_call' 15 9 [.const (.slice none 0 0)] #[22] [] (fun V => [.slice none 0 0]) rfl rfl (by kernel_rfl) (fun _ => rfl) ?_ ?_
  ·intro V W hk _
   exact (Nd.ref_rules_any none 0 [] W okRsN (fun h => absurd h (by decide))).mono fun e W' h => NdsJ.off (hf.mono hk.size) h
  simp only [Act.put, List.setIfInBounds_toArray, List.set_cons_zero, List.set_cons_succ]
  refine Rel.rel_take' 1 (by kernel_rfl) ?_
  apply Exists.intro
  refine ⟨fun F hF hne => ?_, ?_⟩
  ·simp only [List.take_succ_cons, List.take_zero]
   have y0 := fun q : Rel.KeptIn Y F => (B0.out.kept (hY.trans q.h)).2 0 _ rfl
   have y1 := fun q : Rel.KeptIn Y F => (B0.out.kept (hY.trans q.h)).2 1 _ rfl
   have y2 := fun q : Rel.KeptIn Y F => (B0.out.kept (hY.trans q.h)).2 2 _ rfl
   repeat (go_big_quiet_step (fail))
   refine Go.wpQuiet_nil ?_
   rfl
  simp only [List.drop_succ_cons, List.drop_zero]
  refine Rel.rel_call' 17 15 [.const (.slice none 0 0), .tmp 15, .const (.slice none 0 0), .const (.int .i64 1), .tmp 16, .const (.bool false)] #[22, 31, 33, 3, 37, 4] [15] (fun V => [.slice none 0 0, V 15, .slice none 0 0, .int .i64 1, .agg #[.int .i64 1, .int .i64 17, .string ⟨#[3, 0, 100, 0, 2]⟩], .bool false]) rfl rfl (by kernel_rfl) (fun _ => rfl) ?_ ?_
  ·intro V W hk hV
   have h15 : NdsJ [] (V 15) (off β W) := hV 15 (by simp)
   obtain ⟨TA, tc, e15, hN⟩ := h15
   rw [e15]
   have h := frame_any none TA none 0 tc 0 [] [] 1 fA false W (by decide) (fun r hr => by cases hr) ⟨rfl, fun k hk => absurd hk (by simp)⟩ okRsN (fun r hr => by cases hr) rightA (fun h => absurd h (by decide)) (hN.sub (off_sub β W)).nds (Ints.none_ _ _ _ _) (Nat.le_refl _) (Nat.zero_le _)
   rw [verN, getA.2] at h
   exact h.mono fun e W' h => AnsJ.off (hf.mono hk.size) (Ints.none_ _ _ _ none) rfl h
  simp only [Act.put, List.setIfInBounds_toArray, List.set_cons_zero, List.set_cons_succ]
  refine Rel.rel_move 14 17 rfl (.inl rfl) (by kernel_rfl) (fun v W _ h => h) ?_
  simp only [Act.put, List.setIfInBounds_toArray, List.set_cons_zero, List.set_cons_succ]
  refine Rel.rel_ext 18 14 0 rfl rfl (by kernel_rfl) (fun v W _ h => AnsJ.ask h) ?_
  simp only [Act.put, List.setIfInBounds_toArray, List.set_cons_zero, List.set_cons_succ]
  refine Rel.rel_extq (.int .i64 2) 19 14 1 rfl rfl (by kernel_rfl) (fun v W _ h => AnsJ.ver (a := aA) (v := (2, -1, [])) h) ?_
  simp only [Act.put, List.setIfInBounds_toArray, List.set_cons_zero, List.set_cons_succ]
  refine Rel.rel_extq (.int .i64 (-1)) 20 14 2 rfl rfl (by kernel_rfl) (fun v W _ h => AnsJ.rul (a := aA) (v := (2, -1, [])) h) ?_
  simp only [Act.put, List.setIfInBounds_toArray, List.set_cons_zero, List.set_cons_succ]
  refine Rel.rel_ext 21 14 3 rfl rfl (by kernel_rfl) (fun v W _ h => AnsJ.lev (a := aA) (v := (2, -1, [])) h) ?_
  simp only [Act.put, List.setIfInBounds_toArray, List.set_cons_zero, List.set_cons_succ]
  refine Rel.rel_take' 2 (by kernel_rfl) ?_
  apply Exists.intro
  refine ⟨fun F hF hne => ?_, ?_⟩
  ·simp only [List.take_succ_cons, List.take_zero]
   repeat (go_big_quiet_step (fail))
   refine Go.wpQuiet_nil ?_
   rfl
  simp only [List.drop_succ_cons, List.drop_zero]
  refine Rel.rel_move 5 21 rfl (.inr rfl) (by kernel_rfl) (fun v W _ h => h) ?_
  simp only [Act.put, List.setIfInBounds_toArray, List.set_cons_zero, List.set_cons_succ]
  exact Rel.rel_nil rfl
 intro V b W kW hb1 hb2 _ _
 dsimp only [a2D, Rel.fill, Rel.ptr, List.foldl_cons, List.foldl_nil]
 simp only [Act.put, List.setIfInBounds_toArray, List.set_cons_zero, List.set_cons_succ]
 obtain ⟨X4, hX4⟩ : ∃ X4, X4 = W.alloc (.cells #[.bool true, .int .i64 0, .int .i64 0, .slice none 0 0, .float .f64 0, .float .f64 0, .slice none 0 0, .int .i64 0, .int .i64 0, .int .i64 0, .int .i64 0] 63) := ⟨_, rfl⟩
 have k4 : Keep W X4 := by rw [hX4]; exact (Keep.refl W).alloc _
 have HRu : Hid (Rus X4 (some ⟨W.heap.size, 0, none⟩) lA) := Lib.hid (by rw [hX4]; exact rusA (Bx.newq rfl))
 have B4 := Lib.hid ((B0.out.kept kW).kept k4)
 have HK4 := Lib.hid ((k0.trans kW).trans k4)
 have HX4 := Lib.hid hX4
 clear hX4 k4 B0 HX k0 kW hb1 hb2
 generalize V 18 = v18, V 15 = v15, V 17 = v17, V 14 = v14, V 21 = v21, V 5 = v5
 go_wp2
 rw [<- HX4.out]
 refine wp_region_off 12 7 32 40 z6 a4D a4R (by kernel_rfl) (by kernel_rfl) zero6 info6 (fun d _ v W W' hk h => a4R_kept hk h) (fun v W h => ask_form h) ?_
 simp only [List.take_succ_cons, List.take_zero, List.drop_succ_cons, List.drop_zero, List.cons_append, List.nil_append]
 apply Exists.intro
 refine ⟨fun Y β hY hf => ?_, ?_⟩
 ·
  refine Rel.rel_take' 2 (by kernel_rfl) ?_
  apply Exists.intro
  refine ⟨fun F hF hne => ?_, ?_⟩
  ·simp only [List.take_succ_cons, List.take_zero]
   repeat (go_big_quiet_step (fail))
   refine Go.wpQuiet_nil ?_
   rfl
  simp only [List.drop_succ_cons, List.drop_zero]
  refine Rel.rel_call' 27 9 [.tmp 26] #[22] [] (fun V => [.slice (some ⟨W.heap.size, 0, none⟩) 1 1]) rfl rfl (by kernel_rfl) (fun _ => rfl) ?_ ?_
  ·intro V W5 hk _
   exact (Nd.ref_rules_any (some ⟨W.heap.size, 0, none⟩) 1 lA W5 okRsA (HRu.out.kept (hY.trans hk))).mono fun e W' h => NdsJ.off (hf.mono hk.size) h
  simp only [Act.put, List.setIfInBounds_toArray, List.set_cons_zero, List.set_cons_succ]
  refine Rel.rel_take' 1 (by kernel_rfl) ?_
  apply Exists.intro
  refine ⟨fun F hF hne => ?_, ?_⟩
  ·simp only [List.take_succ_cons, List.take_zero]
   repeat (go_big_quiet_step (fail))
   refine Go.wpQuiet_nil ?_
   rfl
  simp only [List.drop_succ_cons, List.drop_zero]
  refine Rel.rel_call' 29 10 [.tmp 28] #[22] [] (fun V => [.slice (some ⟨W.heap.size, 0, none⟩) 1 1]) rfl rfl (by kernel_rfl) (fun _ => rfl) ?_ ?_
  ·intro V W5 hk _
   have h := levels_any (some ⟨W.heap.size, 0, none⟩) 1 lA W5 (by decide) okJA (HRu.out.kept (hY.trans hk))
   rw [levA] at h
   exact h.mono fun e W' h => LvJ.off (hf.mono hk.size) h
  simp only [Act.put, List.setIfInBounds_toArray, List.set_cons_zero, List.set_cons_succ]
  refine Rel.rel_take' 1 (by kernel_rfl) ?_
  apply Exists.intro
  refine ⟨fun F hF hne => ?_, ?_⟩
  ·simp only [List.take_succ_cons, List.take_zero]
   have y0 := fun q : Rel.KeptIn Y F => (B4.out.kept (hY.trans q.h)).2 0 _ rfl
   have y1 := fun q : Rel.KeptIn Y F => (B4.out.kept (hY.trans q.h)).2 1 _ rfl
   have y2 := fun q : Rel.KeptIn Y F => (B4.out.kept (hY.trans q.h)).2 2 _ rfl
   repeat (go_big_quiet_step (fail))
   refine Go.wpQuiet_nil ?_
   rfl
  simp only [List.drop_succ_cons, List.drop_zero]
  refine Rel.rel_call' 31 15 [.tmp 25, .tmp 27, .tmp 29, .const (.int .i64 1), .tmp 30, .const (.bool false)] #[22, 31, 33, 3, 37, 4] [27, 29] (fun V => [.slice (some ⟨W.heap.size, 0, none⟩) 1 1, V 27, V 29, .int .i64 1, .agg #[.int .i64 1, .int .i64 17, .string ⟨#[3, 0, 100, 0, 2]⟩], .bool false]) rfl rfl (by kernel_rfl) (fun _ => rfl) ?_ ?_
  ·intro V W5 hk hV
   have h27 : NdsJ lA (V 27) (off β W5) := hV 27 (by simp)
   have h29 : LvJ [0] (V 29) (off β W5) := hV 29 (by simp)
   obtain ⟨TA, tc, e27, hN⟩ := h27
   obtain ⟨VA, vm, vc, e29, hV2, hc1, hc2⟩ := h29
   rw [e27, e29]
   obtain rfl : vm = 1 := hV2.1.symm
   have h := frame_any (some ⟨W.heap.size, 0, none⟩) TA VA 1 tc vc lA [0] 1 fA false W5 (by decide) okJA okVA okRsA okFA rightA (HRu.out.kept (hY.trans hk)) (hN.sub (off_sub β W5)).nds (ints_on hV2) hc1 hc2
   rw [verA, getA.2] at h
   exact h.mono fun e W' h => AnsJ.off (hf.mono hk.size) hV2 rfl h
  simp only [Act.put, List.setIfInBounds_toArray, List.set_cons_zero, List.set_cons_succ]
  refine Rel.rel_move 24 31 rfl (.inl rfl) (by kernel_rfl) (fun v W _ h => h) ?_
  simp only [Act.put, List.setIfInBounds_toArray, List.set_cons_zero, List.set_cons_succ]
  refine Rel.rel_ext 32 24 0 rfl rfl (by kernel_rfl) (fun v W _ h => AnsJ.ask h) ?_
  simp only [Act.put, List.setIfInBounds_toArray, List.set_cons_zero, List.set_cons_succ]
  refine Rel.rel_extq (.int .i64 1) 33 24 1 rfl rfl (by kernel_rfl) (fun v W _ h => AnsJ.ver (a := aA) (v := (1, 0, [0])) h) ?_
  simp only [Act.put, List.setIfInBounds_toArray, List.set_cons_zero, List.set_cons_succ]
  refine Rel.rel_extq (.int .i64 0) 34 24 2 rfl rfl (by kernel_rfl) (fun v W _ h => AnsJ.rul (a := aA) (v := (1, 0, [0])) h) ?_
  simp only [Act.put, List.setIfInBounds_toArray, List.set_cons_zero, List.set_cons_succ]
  refine Rel.rel_ext 35 24 3 rfl rfl (by kernel_rfl) (fun v W _ h => AnsJ.lev (a := aA) (v := (1, 0, [0])) h) ?_
  simp only [Act.put, List.setIfInBounds_toArray, List.set_cons_zero, List.set_cons_succ]
  refine Rel.rel_take' 2 (by kernel_rfl) ?_
  apply Exists.intro
  refine ⟨fun F hF hne => ?_, ?_⟩
  ·simp only [List.take_succ_cons, List.take_zero]
   repeat (go_big_quiet_step (fail))
   refine Go.wpQuiet_nil ?_
   rfl
  simp only [List.drop_succ_cons, List.drop_zero]
  refine Rel.rel_move 10 35 rfl (.inr rfl) (by kernel_rfl) (fun v W _ h => h) ?_
  simp only [Act.put, List.setIfInBounds_toArray, List.set_cons_zero, List.set_cons_succ]
  exact Rel.rel_nil rfl
 intro V b2 W2 kW hb1 hb2 ⟨cs, _, _, hrg, hask⟩ _
 obtain ⟨A2, n2, c2, ecs, _⟩ := hask
 injection ecs with ecs
 subst ecs
 have c2b : W2.cell? ⟨b2, 2, none⟩ = some (.int .i64 2) := by have := hrg 2 _ rfl; rw [Nat.zero_add] at this; exact this
 dsimp only [a4D, Rel.fill, Rel.ptr, List.foldl_cons, List.foldl_nil]
 simp only [Act.put, List.setIfInBounds_toArray, List.set_cons_zero, List.set_cons_succ]
 generalize V 27 = v27, V 29 = v29, V 31 = v31, V 24 = v24, V 32 = v32, V 35 = v35, V 10 = v10
 have y0 := (B4.out.kept kW).2 0 _ rfl
 have y1 := (B4.out.kept kW).2 1 _ rfl
 have y2 := (B4.out.kept kW).2 2 _ rfl
 have HE := excuse_any fA 2 W2 rightA
 rw [excA, show excuseOk 2 = true from rfl] at HE
 have HE2 := Lib.hid HE
 have kk := HK4.out.trans kW
 clear HE hrg B4 HK4 HRu HX4 kW
 go_wp2_with fail
 refine HE2.out.mono ?_
 rintro e W3 ⟨rfl, k3⟩
 replace c2b := (Below.cell k3 hb2).trans c2b
 have hb3 := Nat.lt_of_lt_of_le hb2 k3.size
 have hne : b2 ≠ W3.heap.size := by omega
 have c2c : ∀ O, (W3.alloc O).cell? ⟨b2, 2, none⟩ = some (.int .i64 2) := fun O => (Below.cell ((Keep.refl W3).alloc O) hb3).trans c2b
 have kk3 := Lib.hid (kk.trans k3)
 have heq := eqF 1 17 ⟨#[131, 1]⟩
 have hgd := guardF
 clear y0 y1 y2 kk k3 hb1 hb2 hb3 HE2
 go_wp2
 go_ret
 exact ⟨rfl, kk3.out.alloc _⟩
end Go.Proofs.YtaciogcpghbhjaaGreat.Judge
