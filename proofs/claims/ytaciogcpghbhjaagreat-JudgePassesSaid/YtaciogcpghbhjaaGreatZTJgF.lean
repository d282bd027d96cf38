/- Of these texts: JgF. Conditions: as each part says. -/
import Derived.Test.YtaciogcpghbhjaaGreatZTJgR
import Derived.Test.YtaciogcpghbhjaaGreatZTWkAll
import Derived.Test.YtaciogcpghbhjaaGreatZTFaR
import Derived.Test.YtaciogcpghbhjaaGreatZTAskP
/- Layer 24's reference: Frame. Conditions: at most a thousand rules that may be used, laid; levels as they are; a frame that may be. -/
namespace Go.Proofs.YtaciogcpghbhjaaGreat.Ref24
set_option linter.unusedVariables false
set_option linter.unusedSimpArgs false
set_option maxRecDepth 100000
open Go.ChangeShapes Go.WideShapes Go.ChangeAt Go.RowKit
open Tr (zeroR Rus RuleAt)
open Nd (Nds okRs)
open Wk (okF)
open Cp (rules)
open Jg
open Ref6 (RetAsk ints_box far_set below_drewN)
open Ref8 (ret_bool)
theorem results_cell3 {fn : Func} {p u v x : Tmp} {ty : TypeId} (h : fn.results = #[.cell p ty, .tmp u, .tmp v, .tmp x]) (tmps : Array Value) (P : Program) (w : World) :
  (results fn tmps).run P w =
   ((asAddr (tmps.getD p undef)).run P w).andThen fun a w₁ => ((loadVar ty a).run P w₁).andThen fun y w₂ => .ok (.tuple #[y, tmps.getD u undef, tmps.getD v undef, tmps.getD x undef]) w₂ := by
 simp only [results, h]
 simp [Sem.run_bind, Result.andThen]
theorem ask_few (s : ByteArray) (cl un : Int) (h : Ak.err s = 0) : Fa.Fit (Ak.get s) ∧ (Ak.get s).vs.length <= 2000 ∧ Me.fewF (Fa.of cl un (Ak.get s)) ∧ ((Ak.get s).fc = 6 ∨ (Ak.get s).fc = 16 ∨ (Ak.get s).fc = 23 -> 0 < (Ak.get s).vs.length) := by
 obtain ⟨hr, _, _⟩ := Ak.get_right h
 refine ⟨Fa.right_fit hr, ?_⟩
 generalize Ak.get s = a at hr ⊢
 unfold Ak.right Ak.formed Ak.part Ak.inTo Ak.need at hr
 simp only [Bool.and_eq_true, Bool.or_eq_true, Bool.not_eq_true', Bool.and_eq_false_imp, decide_eq_true_eq, decide_eq_false_iff_not, beq_iff_eq] at hr
 obtain ⟨⟨⟨⟨⟨hk, hrd⟩, hw⟩, hvs, _⟩, _⟩, _⟩ := hr
 obtain ⟨⟨⟨_, hw1, hw2⟩, hw3⟩, _⟩ := hw
 have h1 : Ak.wmax a.fc <= 1968 ∧ ((a.fc = 6 ∨ a.fc = 16 ∨ a.fc = 23) -> 0 < Ak.wmax a.fc ∧ Ak.wmax a.fc <= 123) := by
  unfold Ak.wmax
  refine ⟨?_, fun h => ?_⟩ <;> (repeat' split) <;> omega
 have h2 : Ak.wtwo a.fc = 0 ∨ (Ak.wtwo a.fc = 2 ∧ a.fc = 22) := by unfold Ak.wtwo; split <;> omega
 have hl : a.vs.length <= 1968 ∧ ((a.fc = 6 ∨ a.fc = 16 ∨ a.fc = 23) -> 0 < a.vs.length ∧ a.vs.length <= 123) := by
  rcases h2 with h2 | ⟨h2, h22⟩
  ·rw [h2] at hvs
   rw [if_pos rfl] at hvs
   refine ⟨by omega, fun h => ?_⟩
   have h3 := h1.2 h
   have h4 := hw3 h3.1
   have : a.mn ≠ 0 := by simpa using h4
   omega
  ·rw [h2] at hvs
   rw [if_neg (by decide)] at hvs
   refine ⟨by omega, fun h => by omega⟩
 refine ⟨by omega, ⟨?_, ?_, ?_⟩, fun h => (hl.2 h).1⟩
 ·show (Fa.reads a ++ Fa.writes a).length <= 1000
  unfold Fa.reads Fa.writes
  split <;> split <;> simp
 ·show a.vs.length <= 3000
  omega
 ·show (Fa.regs a).length <= 1000
  unfold Fa.regs
  split
  ·rename_i h; have := hl.2 h; omega
  ·simp
def Zero6 (p : Nat) (w : World) : Prop := Ref6.Boxed p Ak.zero none 0 0 w ∧ ∀ j, w.frozen? ⟨p, j, none⟩ = false
theorem Zero6.kept {p : Nat} {w w' : World} (h : Zero6 p w) (hk : Keep w w') (hp : p < w.heap.size) : Zero6 p w' := ⟨h.1.below hk hp, fun j => (Below.frozen hk hp).trans (h.2 j)⟩
theorem end6 {w W : World} {A : Option Addr} {n : Nat} {zs : List Int} (v0 v1 v2 v3 v4 v5 : Value) (hs : w.heap.size + 1 < W.heap.size) (hK : Keep w W) (hI : Ints .i64 W W.heap.size A n zs) (hF : 0 < n -> ∃ b, A = some ⟨b, 0, none⟩ ∧ w.heap.size + 1 + 1 <= b) :
  Keep w ((((((W.setCell ⟨w.heap.size + 1, 0, none⟩ v0).setCell ⟨w.heap.size + 1, 1, none⟩ v1).setCell ⟨w.heap.size + 1, 2, none⟩ v2).setCell ⟨w.heap.size + 1, 3, none⟩ v3).setCell ⟨w.heap.size + 1, 4, none⟩ v4).setCell ⟨w.heap.size + 1, 5, none⟩ v5) ∧
  Ints .i64 ((((((W.setCell ⟨w.heap.size + 1, 0, none⟩ v0).setCell ⟨w.heap.size + 1, 1, none⟩ v1).setCell ⟨w.heap.size + 1, 2, none⟩ v2).setCell ⟨w.heap.size + 1, 3, none⟩ v3).setCell ⟨w.heap.size + 1, 4, none⟩ v4).setCell ⟨w.heap.size + 1, 5, none⟩ v5) ((((((W.setCell ⟨w.heap.size + 1, 0, none⟩ v0).setCell ⟨w.heap.size + 1, 1, none⟩ v1).setCell ⟨w.heap.size + 1, 2, none⟩ v2).setCell ⟨w.heap.size + 1, 3, none⟩ v3).setCell ⟨w.heap.size + 1, 4, none⟩ v4).setCell ⟨w.heap.size + 1, 5, none⟩ v5).heap.size A n zs := by
 have h1 : w.heap.size <= w.heap.size + 1 := by omega
 refine ⟨(((((hK.setCell h1 _).setCell h1 _).setCell h1 _).setCell h1 _).setCell h1 _).setCell h1 _, ?_⟩
 refine ints_box hI hF _ (by simp) (fun p h1 h2 => ?_)
 repeat (rw [far_set _ (by show p.block ≠ w.heap.size + 1; omega)])
theorem fresh6 {w : World} {A : Option Addr} {n : Nat} (h : 0 < n -> ∃ b, A = some ⟨b, 0, none⟩ ∧ w.heap.size + 1 + 1 <= b) : FreshR w A n := fun hn p hp => by
 obtain ⟨b, e, h⟩ := h hn
 rw [e] at hp
 injection hp with hp
 subst hp
 show w.heap.size <= b
 omega
theorem Rus.has {W : World} {A : Option Addr} {l : List RuleP} (h : Rus W A l) (j : Nat) (hj : j < l.length) : ∃ b off RA OA rc oc, A = some ⟨b, off, none⟩ ∧ b < W.heap.size ∧ RuleAt W (l.getD j zeroR) RA OA rc oc b (off + j * 11) := by
 obtain ⟨b, off, rfl, _⟩ := h.addr (by omega)
 obtain ⟨hb, RA, OA, rc, oc, hr, _⟩ := h.elem j hj
 exact ⟨b, off, RA, OA, rc, oc, rfl, hb, hr⟩
set_option maxHeartbeats 40000000 in
theorem frame_any (LA TA VA : Option Addr) (lc tc vc : Nat) (l : List RuleP) (lv : List Int) (cl : Int) (f : FrameP) (full : Bool) (w : World) (hl : l.length <= 1000) (hj : okJ l) (hv : okV l lv) (hok : okRs l) (hof : ∀ r ∈ l, okF r.when_)
  (hf : Mb.right f = true) (hR : Rus w LA l) (hN : Nds w TA (rules l).length (rules l)) (hV : Ints .i64 w w.heap.size VA l.length lv) (hc1 : l.length <= vc) (hc2 : vc <= maxLen) :
  Calls Tryz.prog 16 #[.slice LA l.length lc, .slice TA (rules l).length tc, .slice VA l.length vc, .int .i64 cl, .agg #[.int .i64 f.id, .int .i64 f.unit, .string f.pdu], .bool full] w (RetJ VA (Ak.get f.pdu) (verdict l lv cl f full) w) := by
 have hp := (Mb.right_iff f).1 hf
 have hps := hp.2.2.2
 clear hp hf
 obtain ⟨X, hX⟩ : ∃ X, X = (w.alloc (.cells #[.int .i64 f.id, .int .i64 f.unit, .string f.pdu] 37)).alloc (.cells #[.int .i64 0, .int .i64 0, .int .i64 0, .int .i64 0, .int .i64 0, .slice none 0 0] 40) := ⟨_, rfl⟩
 have k0 : Keep w X := by rw [hX]; exact ((Keep.refl w).alloc _).alloc _
 have hsz : X.heap.size = w.heap.size + 1 + 1 := by rw [hX]; simp
 have b1 : X.cell? ⟨w.heap.size, 1, none⟩ = some (.int .i64 f.unit) := by rw [hX]; go_simp
 have b2 : X.cell? ⟨w.heap.size, 2, none⟩ = some (.string f.pdu) := by rw [hX]; go_simp
 have bz : Zero6 (w.heap.size + 1) X := by
  rw [hX]
  exact ⟨by have := Ref6.Boxed.new (w.alloc (.cells #[.int .i64 f.id, .int .i64 f.unit, .string f.pdu] 37)) Ak.zero none 0 0 40; rw [show (w.alloc (.cells #[.int .i64 f.id, .int .i64 f.unit, .string f.pdu] 37)).heap.size = w.heap.size + 1 by simp] at this; exact this, fun j => by go_simp⟩
 have HG := Lib.hid (Ref6.get_any f.pdu X (by omega))
 have HX := Lib.hid hX
 clear hX
 obtain ⟨a, ha⟩ : ∃ a, a = Ak.get f.pdu := ⟨_, rfl⟩
 obtain ⟨er, he⟩ : ∃ er, er = Ak.err f.pdu := ⟨_, rfl⟩
 have HF := Lib.hid (fun h => ask_few f.pdu cl f.unit h)
 have HV0 := Lib.hid (show verdict l lv cl f full = (if Ak.err f.pdu = 2 then (3, -1, lv) else if Ak.err f.pdu = 3 then (4, -1, lv) else if Ak.err f.pdu = 4 then (5, -1, lv)
  else if rule l cl f < 0 ∨ (l.getD (rule l cl f).toNat zeroR).allow = false then (2, rule l cl f, lv)
  else if full then (7, rule l cl f, lv)
  else if (l.getD (rule l cl f).toNat zeroR).per = 0 then (1, rule l cl f, lv)
  else if lv.getD (rule l cl f).toNat 0 < (l.getD (rule l cl f).toNat zeroR).per then (6, rule l cl f, lv)
  else (1, rule l cl f, lv.set (rule l cl f).toNat (lv.getD (rule l cl f).toNat 0 - (l.getD (rule l cl f).toNat zeroR).per))) from rfl)
 have HRU := Lib.hid (show rule l cl f = Me.first (Fa.of cl f.unit (Ak.get f.pdu)) l from rfl)
 have her := err_four f.pdu
 rw [<- he] at HG HF HV0 her
 rw [<- ha] at HG HF HRU ⊢
 have HA := Lib.hid (And.intro ha he)
 clear ha he
 have HLV := Lib.hid hv
 have HJ := Lib.hid hj
 have HOK := Lib.hid hok
 have HOF := Lib.hid hof
 have HR := Lib.hid (hR.kept k0)
 have HN := Lib.hid (hN.kept k0)
 have HV := Lib.hid (hV.kept k0)
 have HVK : Hid (∀ W, Keep w W -> Ints .i64 W W.heap.size VA l.length lv) := Lib.hid fun W h => hV.kept h
 clear hj hv hok hof hR hN hV
 obtain ⟨v, hvv⟩ : ∃ v, v = verdict l lv cl f full := ⟨_, rfl⟩
 rw [<- hvv] at HV0 ⊢
 have HVV := Lib.hid hvv
 clear hvv
 rcases her with h0 | h2 | h3 | h4
 ·obtain rfl : er = 0 := h0
  obtain ⟨hfit, hvl, hfw, h6⟩ := HF.out rfl
  obtain ⟨k, hk⟩ : ∃ k, k = rule l cl f := ⟨_, rfl⟩
  have hkr := rule_range l cl f
  rw [<- hk] at HRU HV0 hkr
  clear hk
  have HCW := Lib.hid (fun (W : World) (h : Keep X W) (SA VB RA : Option Addr) (c1 c2 c3 : Nat) (g3 : (Fa.of cl f.unit a).rg.length <= c3) (g4 : c3 <= maxLen) (hF : Fa.FaAt W (Fa.of cl f.unit a) SA VB RA) =>
   Wk.ref_rule_any TA tc (rules l) (Fa.of cl f.unit a) SA VB RA c1 c2 c3 W (WkD.rules_ok HOK.out) (Wk.rules_right l HOF.out) g3 g4 hfw (HN.out.kept h) hF)
  rw [(Wk.top_rules l HOF.out _).1, <- HRU.out] at HCW
  go_enter Tryz.func16, Tryz.ntmps16
  go_wp2_with fail
  rw [<- HX.out]
  refine HG.out.mono ?_
  rintro e w1 ⟨A, n, c, rfl, hI, hb, hfr⟩
  have hs1 := hb.size
  have hI0 : Ints .i64 w1 w1.heap.size A n a.vs := hI
  have HFR : Hid (0 < n -> ∃ b, A = some ⟨b, 0, none⟩ ∧ w.heap.size + 1 + 1 <= b ∧ n <= c ∧ c <= maxLen) := Lib.hid fun h => by
   obtain ⟨b, e, h1, h2⟩ := hfr h
   exact ⟨b, e, by omega, h2⟩
  have kb : Keep X w1 := hb
  clear hI hfr hb
  have z1 := bz.kept kb (by omega)
  have hlt : w.heap.size + 1 < w1.heap.size := by omega
  have kw1 : Keep w w1 := k0.trans kb
  have hn : n = a.vs.length := hI0.1.symm
  subst hn
  have y1 := (Below.cell kb (p := ⟨w.heap.size, 1, none⟩) (by show w.heap.size < X.heap.size; omega)).trans b1
  have hlt0 : w.heap.size < w1.heap.size := by omega
  obtain ⟨X2, hX2⟩ : ∃ X2, X2 = w1.alloc (.cells #[.int .i64 a.fc, .int .i64 a.rd, .int .i64 a.ct, .int .i64 a.wr, .int .i64 a.mn, .slice A a.vs.length c] 40) := ⟨_, rfl⟩
  have k2 : Keep w1 X2 := by rw [hX2]; exact (Keep.refl w1).alloc _
  have hs2 : X2.heap.size = w1.heap.size + 1 := by rw [hX2]; simp
  have bx : Ref6.Boxed w1.heap.size a A a.vs.length c X2 := by rw [hX2]; exact Ref6.Boxed.new ..
  have z2 := z1.kept k2 hlt
  have HO := Lib.hid (Fa.ref_of_cap cl f.unit a A c X2 (by omega) hfit (hI0.kept k2))
  have HX2 := Lib.hid hX2
  have HI0 := Lib.hid (hI0.kept k2)
  clear hX2 hI0 hfit hfw b2 bz z1
  have kx2 : Keep X X2 := kb.trans k2
  have kw2 : Keep w X2 := kw1.trans k2
  go_wp2_with fail
  rw [<- HX2.out]
  refine HO.out.mono ?_
  rintro e w3 ⟨SA, VB, RA, c1, c2, c3, rfl, hFa, k3, hfresh, hcap⟩
  have g3 : (Fa.of cl f.unit a).rg.length <= c3 ∧ c3 <= maxLen := by
   rcases hcap with ⟨h1, h2⟩ | ⟨h1, h2⟩
   ·exact ⟨by omega, by rw [h2]; exact Nat.zero_le _⟩
   ·obtain ⟨_, _, _, h7, h8⟩ := HFR.out (h6 h2)
    refine ⟨?_, by rw [h1]; exact h8⟩
    show (Fa.regs a).length <= c3
    unfold Fa.regs
    rw [h1, if_pos (show a.fc = 6 ∨ a.fc = 16 ∨ a.fc = 23 from h2)]
    exact h7
  have HC3 := Lib.hid (HCW.out w3 (kx2.trans k3) SA VB RA c1 c2 c3 g3.1 g3.2 hFa)
  clear hFa hfresh hcap g3 h6 HCW
  go_wp2_with fail
  refine HC3.out.mono ?_
  rintro e w4 ⟨rfl, k4⟩
  have k24 : Keep X2 w4 := k3.trans k4
  have hs4 := k24.size
  have z4 := z2.kept k24 (by omega)
  have x4 := bx.below k24 (by omega)
  have kw4 : Keep w w4 := kw2.trans k24
  have HI := Lib.hid (HI0.out.kept k24)
  have HK := Lib.hid kw4
  have HR4 := Lib.hid ((HR.out.kept kx2).kept k24)
  have HFR6 : Hid (0 < a.vs.length -> ∃ b, A = some ⟨b, 0, none⟩ ∧ w.heap.size + 1 + 1 <= b) := Lib.hid fun h => by
   obtain ⟨b, e, h1, _⟩ := HFR.out h
   exact ⟨b, e, h1⟩
  have hlt4 : w.heap.size + 1 < w4.heap.size := by omega
  have hlw4 : w1.heap.size < w4.heap.size := by omega
  have hne1 : w.heap.size + 1 ≠ w1.heap.size := by omega
  have hne2 : w1.heap.size ≠ w.heap.size + 1 := by omega
  clear k3 k4 k24 z2 bx y1 k2 kx2 kw2 kb k0 hs4 hs2 b1
  obtain ⟨⟨c00, c01, c02, c03, c04, c05⟩, f0⟩ := z4
  obtain ⟨x0, x1, x2, x3, x4, x5⟩ := x4
  simp only [Ak.zero] at c00 c01 c02 c03 c04 c05
  rcases hkr with hkm | ⟨hk0, hkl⟩
  ·subst hkm
   have HE := Lib.hid (show v = (2, -1, lv) from HV0.out.trans ((if_neg (by decide)).trans ((if_neg (by decide)).trans ((if_neg (by decide)).trans (if_pos (.inl (by decide)))))))
   go_wp2
   (try simp only [Exit.inBlock, Exit.then])
   refine bodyPost_ret (v := .tuple #[.agg #[.int .i64 a.fc, .int .i64 a.rd, .int .i64 a.ct, .int .i64 a.wr, .int .i64 a.mn, .slice A a.vs.length c], .int .i64 2, .int .i64 (-1), .slice VA l.length vc]) ?_ rfl ⟨A, a.vs.length, c, VA, l.length, vc, by rw [HE.out], ?_, ?_, ?_, hc1, hc2, ?_, .inr rfl⟩
   ·rw [results_cell3 rfl]
    go_simp
   ·exact (end6 (w := w) _ _ _ _ _ _ (by first | exact hlt4 | exact hltY | (simp; omega) | omega) HK.out HI.out HFR6.out).2
   ·rw [HE.out]; exact HVK.out _ (end6 (w := w) _ _ _ _ _ _ hlt4 HK.out HI.out HFR6.out).1
   ·exact (end6 (w := w) _ _ _ _ _ _ (by first | exact hlt4 | exact hltY | (simp; omega) | omega) HK.out HI.out HFR6.out).1
   ·exact fresh6 HFR6.out
  ·obtain ⟨j, rfl⟩ := Int.eq_ofNat_of_zero_le hk0
   have hj : j < l.length := by omega
   have hjz : (j : Int) < l.length := by omega
   obtain ⟨b, off, RA2, OA2, rc2, oc2, rfl, hb4, hr⟩ := Rus.has HR4.out j hj
   have hjk := HJ.out.at j hj
   have hvk := HLV.out.2 j hj
   have hV1 : v = (if (l.getD j zeroR).allow = false then (2, (j : Int), lv) else if full then (7, (j : Int), lv) else if (l.getD j zeroR).per = 0 then (1, (j : Int), lv) else if lv.getD j 0 < (l.getD j zeroR).per then (6, (j : Int), lv) else (1, (j : Int), lv.set j (lv.getD j 0 - (l.getD j zeroR).per))) := by
    rw [HV0.out, if_neg (by decide), if_neg (by decide), if_neg (by decide)]
    simp only [Int.toNat_natCast, show ¬ ((j : Int) < 0) by omega, false_or]
   generalize l.getD j zeroR = r at hr hjk hvk hV1
   obtain ⟨r0, _, _, _, _, _, _, r7, r8, r9, _⟩ := hr
   have dk : decide ((j : Int) < 0) = false := by simp
   clear HV0 HR4 HRU
   cases hal : r.allow
   ·have HE := Lib.hid (hV1.trans (if_pos hal))
    rw [hal] at r0
    clear hV1 hal hjk hvk r7 r8 r9
    go_wp2
    (try simp only [Exit.inBlock, Exit.then])
    refine bodyPost_ret (v := .tuple #[.agg #[.int .i64 a.fc, .int .i64 a.rd, .int .i64 a.ct, .int .i64 a.wr, .int .i64 a.mn, .slice A a.vs.length c], .int .i64 2, .int .i64 j, .slice VA l.length vc]) ?_ rfl ⟨A, a.vs.length, c, VA, l.length, vc, by rw [HE.out], ?_, ?_, ?_, hc1, hc2, ?_, .inr rfl⟩
    ·rw [results_cell3 rfl]
     go_simp
    ·exact (end6 (w := w) _ _ _ _ _ _ (by first | exact hlt4 | exact hltY | (simp; omega) | omega) HK.out HI.out HFR6.out).2
    ·rw [HE.out]; exact HVK.out _ (end6 (w := w) _ _ _ _ _ _ hlt4 HK.out HI.out HFR6.out).1
    ·exact (end6 (w := w) _ _ _ _ _ _ (by first | exact hlt4 | exact hltY | (simp; omega) | omega) HK.out HI.out HFR6.out).1
    ·exact fresh6 HFR6.out
   ·have hV2 := hV1.trans (if_neg (by rw [hal]; decide))
    rw [hal] at r0
    clear hV1 hal
    cases full
    ·rw [if_neg (by decide)] at hV2
     by_cases hp : r.per = 0
     ·rw [if_pos hp] at hV2
      have HE := Lib.hid hV2
      rw [hp] at r8
      clear hV2 hjk hvk r7 r9 hp
      go_wp2
      (try simp only [Exit.inBlock, Exit.then])
      refine bodyPost_ret (v := .tuple #[.agg #[.int .i64 a.fc, .int .i64 a.rd, .int .i64 a.ct, .int .i64 a.wr, .int .i64 a.mn, .slice A a.vs.length c], .int .i64 1, .int .i64 j, .slice VA l.length vc]) ?_ rfl ⟨A, a.vs.length, c, VA, l.length, vc, by rw [HE.out], ?_, ?_, ?_, hc1, hc2, ?_, .inr rfl⟩
      ·rw [results_cell3 rfl]
       go_simp
      ·exact (end6 (w := w) _ _ _ _ _ _ (by first | exact hlt4 | exact hltY | (simp; omega) | omega) HK.out HI.out HFR6.out).2
      ·rw [HE.out]; exact HVK.out _ (end6 (w := w) _ _ _ _ _ _ hlt4 HK.out HI.out HFR6.out).1
      ·exact (end6 (w := w) _ _ _ _ _ _ (by first | exact hlt4 | exact hltY | (simp; omega) | omega) HK.out HI.out HFR6.out).1
      ·exact fresh6 HFR6.out
     ·rw [if_neg hp] at hV2
      have dp : (r.per == 0) = false := by simp [hp]
      have hri : Bu.right (rate r) = true := by
       rcases hjk with h | h
       ·exact absurd h.1 hp
       ·exact h
      obtain ⟨b2, off2, rfl, hb2⟩ := ints_addr (HVK.out w4 kw4) (by omega)
      obtain ⟨_, hcell⟩ := ints_at (HVK.out w4 kw4) j hj
      generalize hxv : lv.getD j 0 = x at hcell hvk hV2
      clear hjk hp hxv
      have yx := fun q : KeptOf w4 => (Below.cell q.h (p := ⟨b2, off2 + j, none⟩) hb2).trans hcell
      have y7 := fun q : KeptOf w4 => (Below.cell q.h (p := ⟨b, off + j * 11 + 7, none⟩) hb4).trans r7
      have y8 := fun q : KeptOf w4 => (Below.cell q.h (p := ⟨b, off + j * 11 + 8, none⟩) hb4).trans r8
      have y9 := fun q : KeptOf w4 => (Below.cell q.h (p := ⟨b, off + j * 11 + 9, none⟩) hb4).trans r9
      have hC := fun q : KeptOf w4 => Ref18.take_any x (rate r) q.w hri hvk.1 hvk.2
      clear hri hvk
      by_cases hlt' : x < r.per
      ·rw [if_pos hlt'] at hV2
       have HE := Lib.hid hV2
       simp only [show (rate r).per = r.per from rfl, if_pos hlt'] at hC
       simp only [rate] at hC
       clear hV2 hlt' hcell
       go_wp2_with fail
       refine wp_region_kept (by kernel_rfl) (by kernel_rfl) ?_
       repeat (go_big_quiet_step (first | with_reducible exact KeptOf.of (hC _)))
       refine Go.wpQuiet_nil ?_
       intro W hw'
       have hw : Keep w4 W := by
        obtain ⟨⟨W', hw⟩, hw''⟩ := hw'
        subst hw''
        exact hw
       clear hw'
       clear yx y7 y8 y9 hC r0 r7 r8 r9
       replace c00 := (Below.cell hw hlt4).trans c00
       replace c01 := (Below.cell hw hlt4).trans c01
       replace c02 := (Below.cell hw hlt4).trans c02
       replace c03 := (Below.cell hw hlt4).trans c03
       replace c04 := (Below.cell hw hlt4).trans c04
       replace c05 := (Below.cell hw hlt4).trans c05
       replace f0 := fun j => (Below.frozen hw hlt4).trans (f0 j)
       replace x0 := (Below.cell hw hlw4).trans x0
       replace x1 := (Below.cell hw hlw4).trans x1
       replace x2 := (Below.cell hw hlw4).trans x2
       replace x3 := (Below.cell hw hlw4).trans x3
       replace x4 := (Below.cell hw hlw4).trans x4
       replace x5 := (Below.cell hw hlw4).trans x5
       replace HI := Lib.hid (HI.out.kept hw)
       replace HK := Lib.hid (HK.out.trans hw)
       replace hlt4 : w.heap.size + 1 < W.heap.size := Nat.lt_of_lt_of_le hlt4 hw.size
       replace hlw4 : w1.heap.size < W.heap.size := Nat.lt_of_lt_of_le hlw4 hw.size
       clear hw kw4
       go_wp2
       (try simp only [Exit.inBlock, Exit.then])
       refine bodyPost_ret (v := .tuple #[.agg #[.int .i64 a.fc, .int .i64 a.rd, .int .i64 a.ct, .int .i64 a.wr, .int .i64 a.mn, .slice A a.vs.length c], .int .i64 6, .int .i64 j, .slice (some ⟨b2, off2, none⟩) l.length vc]) ?_ rfl ⟨A, a.vs.length, c, (some ⟨b2, off2, none⟩), l.length, vc, by rw [HE.out], ?_, ?_, ?_, hc1, hc2, ?_, .inr rfl⟩
       ·rw [results_cell3 rfl]
        go_simp
       ·exact (end6 (w := w) _ _ _ _ _ _ (by first | exact hlt4 | exact hltY | (simp; omega) | omega) HK.out HI.out HFR6.out).2
       ·rw [HE.out]; exact HVK.out _ (end6 (w := w) _ _ _ _ _ _ hlt4 HK.out HI.out HFR6.out).1
       ·exact (end6 (w := w) _ _ _ _ _ _ (by first | exact hlt4 | exact hltY | (simp; omega) | omega) HK.out HI.out HFR6.out).1
       ·exact fresh6 HFR6.out
      ·rw [if_neg hlt'] at hV2
       have HE := Lib.hid hV2
       simp only [show (rate r).per = r.per from rfl, if_neg hlt'] at hC
       simp only [rate] at hC
       clear hV2 hlt' hcell
       go_wp2_with fail
       refine wp_region_kept (by kernel_rfl) (by kernel_rfl) ?_
       repeat (go_big_quiet_step (first | with_reducible exact KeptOf.of (hC _)))
       refine Go.wpQuiet_nil ?_
       intro W hw'
       have hw : Keep w4 W := by
        obtain ⟨⟨W', hw⟩, hw''⟩ := hw'
        subst hw''
        exact hw
       clear hw'
       clear yx y7 y8 y9 hC r0 r7 r8 r9
       replace c00 := (Below.cell hw hlt4).trans c00
       replace c01 := (Below.cell hw hlt4).trans c01
       replace c02 := (Below.cell hw hlt4).trans c02
       replace c03 := (Below.cell hw hlt4).trans c03
       replace c04 := (Below.cell hw hlt4).trans c04
       replace c05 := (Below.cell hw hlt4).trans c05
       replace f0 := fun j => (Below.frozen hw hlt4).trans (f0 j)
       replace x0 := (Below.cell hw hlw4).trans x0
       replace x1 := (Below.cell hw hlw4).trans x1
       replace x2 := (Below.cell hw hlw4).trans x2
       replace x3 := (Below.cell hw hlw4).trans x3
       replace x4 := (Below.cell hw hlw4).trans x4
       replace x5 := (Below.cell hw hlw4).trans x5
       replace HI := Lib.hid (HI.out.kept hw)
       replace HK := Lib.hid (HK.out.trans hw)
       replace hlt4 : w.heap.size + 1 < W.heap.size := Nat.lt_of_lt_of_le hlt4 hw.size
       replace hlw4 : w1.heap.size < W.heap.size := Nat.lt_of_lt_of_le hlw4 hw.size
       have hVW := HVK.out W HK.out
       have hwsz := hw.size
       clear hw kw4
       go_wp2_with (at_builtin; refine append_ints rfl _ _ 33 rfl W.heap.size 3 .i64 8 Tryz.underlying33 info_int _ 0 [] rfl (World.ownsRow_lit W #[] 0 (Nat.le_refl _) (Nat.zero_le _) rfl) (by simp) W.heap.size _ l.length vc lv rfl (hVW.keep fun p hp => by simp [World.cell?_alloc_lt, hp]) (by unfold maxLen; omega) (by omega) ?_)
       intro v' w5 hown hb5
       replace hown : w5.ownsRow W.heap.size 3 1 v' l.length (lv.map (Value.int .i64)) := by
        first
         | exact hown
         | (have h := hown; rw [Nat.zero_add] at h; exact h)
       obtain ⟨g, gc, rfl, hgc, hgf, hgb, hgn⟩ := own_int hown j hj
       have HROOM := Lib.hid (own_le1 hown)
       have HOWN := Lib.hid hown
       have k5 : Keep W w5 := Below.trans ((Keep.refl W).alloc _) hb5
       clear hb5 hown hVW
       replace c00 := (Below.cell k5 hlt4).trans c00
       replace c01 := (Below.cell k5 hlt4).trans c01
       replace c02 := (Below.cell k5 hlt4).trans c02
       replace c03 := (Below.cell k5 hlt4).trans c03
       replace c04 := (Below.cell k5 hlt4).trans c04
       replace c05 := (Below.cell k5 hlt4).trans c05
       replace f0 := fun j => (Below.frozen k5 hlt4).trans (f0 j)
       replace x0 := (Below.cell k5 hlw4).trans x0
       replace x1 := (Below.cell k5 hlw4).trans x1
       replace x2 := (Below.cell k5 hlw4).trans x2
       replace x3 := (Below.cell k5 hlw4).trans x3
       replace x4 := (Below.cell k5 hlw4).trans x4
       replace x5 := (Below.cell k5 hlw4).trans x5
       have k5s := k5.size
       have hg1 : g ≠ w.heap.size + 1 := by omega
       have hg2 : g ≠ w1.heap.size := by omega
       have hg3 : w.heap.size + 1 ≠ g := by omega
       have hg4 : w1.heap.size ≠ g := by omega
       have HY := Lib.hid (show Keep W (w5.setCell ⟨g, j, none⟩ (.int .i64 (x - r.per))) from Below.setCell k5 hgb _)
       replace HI := Lib.hid (HI.out.kept HY.out)
       replace HK := Lib.hid (HK.out.trans HY.out)
       have HOY := Lib.hid (Ints.of_own (own_write_int HOWN.out j (x - r.per)))
       have hltY : w.heap.size + 1 < (w5.setCell ⟨g, j, none⟩ (.int .i64 (x - r.per))).heap.size := by simp; omega
       clear k5 hwsz
       go_wp2
       (try simp only [Exit.inBlock, Exit.then])
       refine bodyPost_ret (v := .tuple #[.agg #[.int .i64 a.fc, .int .i64 a.rd, .int .i64 a.ct, .int .i64 a.wr, .int .i64 a.mn, .slice A a.vs.length c], .int .i64 1, .int .i64 j, .slice (some ⟨g, 0, none⟩) l.length gc]) ?_ rfl ⟨A, a.vs.length, c, (some ⟨g, 0, none⟩), l.length, gc, by rw [HE.out], ?_, ?_, ?_, HROOM.out.1, HROOM.out.2, ?_, .inl (fun hn p hp => by injection hp with hp; subst hp; show w.heap.size <= g; omega)⟩
       ·rw [results_cell3 rfl]
        go_simp
       ·exact (end6 (w := w) _ _ _ _ _ _ (by first | exact hlt4 | exact hltY | (simp; omega) | omega) HK.out HI.out HFR6.out).2
       ·rw [HE.out]; exact (end6 (w := w) _ _ _ _ _ _ hltY HK.out HOY.out (fun _ => ⟨g, rfl, by omega⟩)).2
       ·exact (end6 (w := w) _ _ _ _ _ _ (by first | exact hlt4 | exact hltY | (simp; omega) | omega) HK.out HI.out HFR6.out).1
       ·exact fresh6 HFR6.out
    ·rw [if_pos rfl] at hV2
     have HE := Lib.hid hV2
     clear hV2 hjk hvk r7 r8 r9
     go_wp2
     (try simp only [Exit.inBlock, Exit.then])
     refine bodyPost_ret (v := .tuple #[.agg #[.int .i64 a.fc, .int .i64 a.rd, .int .i64 a.ct, .int .i64 a.wr, .int .i64 a.mn, .slice A a.vs.length c], .int .i64 7, .int .i64 j, .slice VA l.length vc]) ?_ rfl ⟨A, a.vs.length, c, VA, l.length, vc, by rw [HE.out], ?_, ?_, ?_, hc1, hc2, ?_, .inr rfl⟩
     ·rw [results_cell3 rfl]
      go_simp
     ·exact (end6 (w := w) _ _ _ _ _ _ (by first | exact hlt4 | exact hltY | (simp; omega) | omega) HK.out HI.out HFR6.out).2
     ·rw [HE.out]; exact HVK.out _ (end6 (w := w) _ _ _ _ _ _ hlt4 HK.out HI.out HFR6.out).1
     ·exact (end6 (w := w) _ _ _ _ _ _ (by first | exact hlt4 | exact hltY | (simp; omega) | omega) HK.out HI.out HFR6.out).1
     ·exact fresh6 HFR6.out
 ·obtain rfl : er = 2 := h2
  have HE := Lib.hid (show v = (3, -1, lv) from HV0.out.trans (if_pos rfl))
  go_enter Tryz.func16, Tryz.ntmps16
  go_wp2_with fail
  rw [<- HX.out]
  refine HG.out.mono ?_
  rintro e w1 ⟨A, n, c, rfl, hI, hb, hfr⟩
  have hs1 := hb.size
  have hI0 : Ints .i64 w1 w1.heap.size A n a.vs := hI
  have HFR : Hid (0 < n -> ∃ b, A = some ⟨b, 0, none⟩ ∧ w.heap.size + 1 + 1 <= b ∧ n <= c ∧ c <= maxLen) := Lib.hid fun h => by
   obtain ⟨b, e, h1, h2⟩ := hfr h
   exact ⟨b, e, by omega, h2⟩
  have kb : Keep X w1 := hb
  clear hI hfr hb
  have z1 := bz.kept kb (by omega)
  have hlt : w.heap.size + 1 < w1.heap.size := by omega
  have kw1 : Keep w w1 := k0.trans kb
  obtain ⟨⟨c00, c01, c02, c03, c04, c05⟩, f0⟩ := z1
  simp only [Ak.zero] at c00 c01 c02 c03 c04 c05
  have k2 : Keep w1 (w1.alloc (.cells #[.int .i64 a.fc, .int .i64 a.rd, .int .i64 a.ct, .int .i64 a.wr, .int .i64 a.mn, .slice A n c] 40)) := (Keep.refl w1).alloc _
  have HFR6 : Hid (0 < n -> ∃ b, A = some ⟨b, 0, none⟩ ∧ w.heap.size + 1 + 1 <= b) := Lib.hid fun h => by
   obtain ⟨b, e, h1, _⟩ := HFR.out h
   exact ⟨b, e, h1⟩
  have HI := Lib.hid hI0
  have HK := Lib.hid kw1
  have E6 := fun v0 v1 v2 v3 v4 v5 => end6 (w := w) (W := w1) v0 v1 v2 v3 v4 v5 hlt HK.out HI.out HFR6.out
  have hne1 : w.heap.size + 1 ≠ w1.heap.size := by omega
  have hne2 : w1.heap.size ≠ w.heap.size + 1 := by omega
  have HE6 := Lib.hid E6
  clear E6 k2 kw1 kb k0 hI0 b1 b2 bz
  go_wp2
  (try simp only [Exit.inBlock, Exit.then])
  refine bodyPost_ret (v := .tuple #[.agg #[.int .i64 a.fc, .int .i64 a.rd, .int .i64 a.ct, .int .i64 a.wr, .int .i64 a.mn, .slice A n c], .int .i64 3, .int .i64 (-1), .slice VA l.length vc]) ?_ rfl ⟨A, n, c, VA, l.length, vc, by rw [HE.out], ?_, ?_, ?_, hc1, hc2, fresh6 HFR6.out, .inr rfl⟩
  ·rw [results_cell3 rfl]
   go_simp
  ·exact (HE6.out _ _ _ _ _ _).2.kept ((Keep.refl _).alloc _)
  ·rw [HE.out]; exact HVK.out _ ((HE6.out _ _ _ _ _ _).1.alloc _)
  ·exact (HE6.out _ _ _ _ _ _).1.alloc _
 ·obtain rfl : er = 3 := h3
  have HE := Lib.hid (show v = (4, -1, lv) from HV0.out.trans ((if_neg (by decide)).trans (if_pos rfl)))
  go_enter Tryz.func16, Tryz.ntmps16
  go_wp2_with fail
  rw [<- HX.out]
  refine HG.out.mono ?_
  rintro e w1 ⟨A, n, c, rfl, hI, hb, hfr⟩
  have hs1 := hb.size
  have hI0 : Ints .i64 w1 w1.heap.size A n a.vs := hI
  have HFR : Hid (0 < n -> ∃ b, A = some ⟨b, 0, none⟩ ∧ w.heap.size + 1 + 1 <= b ∧ n <= c ∧ c <= maxLen) := Lib.hid fun h => by
   obtain ⟨b, e, h1, h2⟩ := hfr h
   exact ⟨b, e, by omega, h2⟩
  have kb : Keep X w1 := hb
  clear hI hfr hb
  have z1 := bz.kept kb (by omega)
  have hlt : w.heap.size + 1 < w1.heap.size := by omega
  have kw1 : Keep w w1 := k0.trans kb
  obtain ⟨⟨c00, c01, c02, c03, c04, c05⟩, f0⟩ := z1
  simp only [Ak.zero] at c00 c01 c02 c03 c04 c05
  have k2 : Keep w1 (w1.alloc (.cells #[.int .i64 a.fc, .int .i64 a.rd, .int .i64 a.ct, .int .i64 a.wr, .int .i64 a.mn, .slice A n c] 40)) := (Keep.refl w1).alloc _
  have HFR6 : Hid (0 < n -> ∃ b, A = some ⟨b, 0, none⟩ ∧ w.heap.size + 1 + 1 <= b) := Lib.hid fun h => by
   obtain ⟨b, e, h1, _⟩ := HFR.out h
   exact ⟨b, e, h1⟩
  have HI := Lib.hid hI0
  have HK := Lib.hid kw1
  have E6 := fun v0 v1 v2 v3 v4 v5 => end6 (w := w) (W := w1) v0 v1 v2 v3 v4 v5 hlt HK.out HI.out HFR6.out
  have hne1 : w.heap.size + 1 ≠ w1.heap.size := by omega
  have hne2 : w1.heap.size ≠ w.heap.size + 1 := by omega
  have HE6 := Lib.hid E6
  clear E6 k2 kw1 kb k0 hI0 b1 b2 bz
  go_wp2
  (try simp only [Exit.inBlock, Exit.then])
  refine bodyPost_ret (v := .tuple #[.agg #[.int .i64 a.fc, .int .i64 a.rd, .int .i64 a.ct, .int .i64 a.wr, .int .i64 a.mn, .slice A n c], .int .i64 4, .int .i64 (-1), .slice VA l.length vc]) ?_ rfl ⟨A, n, c, VA, l.length, vc, by rw [HE.out], ?_, ?_, ?_, hc1, hc2, fresh6 HFR6.out, .inr rfl⟩
  ·rw [results_cell3 rfl]
   go_simp
  ·exact (HE6.out _ _ _ _ _ _).2.kept ((Keep.refl _).alloc _)
  ·rw [HE.out]; exact HVK.out _ ((HE6.out _ _ _ _ _ _).1.alloc _)
  ·exact (HE6.out _ _ _ _ _ _).1.alloc _
 ·obtain rfl : er = 4 := h4
  have HE := Lib.hid (show v = (5, -1, lv) from HV0.out.trans ((if_neg (by decide)).trans ((if_neg (by decide)).trans (if_pos rfl))))
  go_enter Tryz.func16, Tryz.ntmps16
  go_wp2_with fail
  rw [<- HX.out]
  refine HG.out.mono ?_
  rintro e w1 ⟨A, n, c, rfl, hI, hb, hfr⟩
  have hs1 := hb.size
  have hI0 : Ints .i64 w1 w1.heap.size A n a.vs := hI
  have HFR : Hid (0 < n -> ∃ b, A = some ⟨b, 0, none⟩ ∧ w.heap.size + 1 + 1 <= b ∧ n <= c ∧ c <= maxLen) := Lib.hid fun h => by
   obtain ⟨b, e, h1, h2⟩ := hfr h
   exact ⟨b, e, by omega, h2⟩
  have kb : Keep X w1 := hb
  clear hI hfr hb
  have z1 := bz.kept kb (by omega)
  have hlt : w.heap.size + 1 < w1.heap.size := by omega
  have kw1 : Keep w w1 := k0.trans kb
  obtain ⟨⟨c00, c01, c02, c03, c04, c05⟩, f0⟩ := z1
  simp only [Ak.zero] at c00 c01 c02 c03 c04 c05
  have k2 : Keep w1 (w1.alloc (.cells #[.int .i64 a.fc, .int .i64 a.rd, .int .i64 a.ct, .int .i64 a.wr, .int .i64 a.mn, .slice A n c] 40)) := (Keep.refl w1).alloc _
  have HFR6 : Hid (0 < n -> ∃ b, A = some ⟨b, 0, none⟩ ∧ w.heap.size + 1 + 1 <= b) := Lib.hid fun h => by
   obtain ⟨b, e, h1, _⟩ := HFR.out h
   exact ⟨b, e, h1⟩
  have HI := Lib.hid hI0
  have HK := Lib.hid kw1
  have E6 := fun v0 v1 v2 v3 v4 v5 => end6 (w := w) (W := w1) v0 v1 v2 v3 v4 v5 hlt HK.out HI.out HFR6.out
  have hne1 : w.heap.size + 1 ≠ w1.heap.size := by omega
  have hne2 : w1.heap.size ≠ w.heap.size + 1 := by omega
  have HE6 := Lib.hid E6
  clear E6 k2 kw1 kb k0 hI0 b1 b2 bz
  go_wp2
  (try simp only [Exit.inBlock, Exit.then])
  refine bodyPost_ret (v := .tuple #[.agg #[.int .i64 a.fc, .int .i64 a.rd, .int .i64 a.ct, .int .i64 a.wr, .int .i64 a.mn, .slice A n c], .int .i64 5, .int .i64 (-1), .slice VA l.length vc]) ?_ rfl ⟨A, n, c, VA, l.length, vc, by rw [HE.out], ?_, ?_, ?_, hc1, hc2, fresh6 HFR6.out, .inr rfl⟩
  ·rw [results_cell3 rfl]
   go_simp
  ·exact (HE6.out _ _ _ _ _ _).2.kept ((Keep.refl _).alloc _)
  ·rw [HE.out]; exact HVK.out _ ((HE6.out _ _ _ _ _ _).1.alloc _)
  ·exact (HE6.out _ _ _ _ _ _).1.alloc _
end Go.Proofs.YtaciogcpghbhjaaGreat.Ref24
