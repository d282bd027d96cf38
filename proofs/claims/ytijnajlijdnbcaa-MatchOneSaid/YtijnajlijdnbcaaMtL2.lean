/- Layer 21's law MatchOne. Conditions: none beyond the law's own. -/
import Derived.Test.YtijnajlijdnbcaaMtL
import Derived.Test.YtijnajlijdnbcaaRel
import Derived.Deep.Cut
import Derived.Deep.CutRange
import Derived.Deep.RegionHeld3
namespace Go.Proofs.Ytijnajlijdnbcaa.Match
set_option linter.unusedVariables false
set_option linter.unusedSimpArgs false
set_option maxRecDepth 100000
open Go.ChangeShapes Go.WideShapes Go.ChangeAt Go.RowKit
open Pn (encQ row_pend PAt Vals cellsQ aggQ ret_bool ret_int row_one)
open Ref21 (aggF)
theorem new3 {Y w6 : World} {t : TypeId} (q6 : Keep (Y.alloc (.cells #[.int .i64 0, .int .i64 0, .string ⟨#[]⟩] t)).drew w6) :
    (w6.cell? ⟨Y.heap.size, 0, none⟩ = some (.int .i64 0) ∧ w6.cell? ⟨Y.heap.size, 1, none⟩ = some (.int .i64 0) ∧ w6.cell? ⟨Y.heap.size, 2, none⟩ = some (.string ⟨#[]⟩)) ∧ (∀ j, w6.frozen? ⟨Y.heap.size, j, none⟩ = false) ∧ Y.heap.size < w6.heap.size := by
  have hs : Y.heap.size < (Y.alloc (.cells #[.int .i64 0, .int .i64 0, .string ⟨#[]⟩] t)).drew.heap.size := by simp
  refine ⟨⟨?_, ?_, ?_⟩, fun j => ?_, Nat.lt_of_lt_of_le hs q6.size⟩
  · rw [Below.cell q6 hs]; go_simp
  · rw [Below.cell q6 hs]; go_simp
  · rw [Below.cell q6 hs]; go_simp
  · rw [Below.frozen q6 hs]; go_simp
theorem box3 {w6 : World} {q : Nat} (a b : Int) (s : ByteArray) {u0 u1 u2 : Value} (n0 : w6.cell? ⟨q, 0, none⟩ = some u0) (n1 : w6.cell? ⟨q, 1, none⟩ = some u1) (n2 : w6.cell? ⟨q, 2, none⟩ = some u2) (hq : q < w6.heap.size) :
    Bx (((w6.setCell ⟨q, 0, none⟩ (.int .i64 a)).setCell ⟨q, 1, none⟩ (.int .i64 b)).setCell ⟨q, 2, none⟩ (.string s)) q [.int .i64 a, .int .i64 b, .string s] := by
  refine ⟨by simpa [World.setCell] using hq, fun j v hj => ?_⟩
  match j, hj with
  | 0, hj => simp at hj; subst hj; go_simp
  | 1, hj => simp at hj; subst hj; go_simp
  | 2, hj => simp at hj; subst hj; go_simp
  | j + 3, hj => simp at hj
theorem keepd {a b : World} (h : Keep a b) : Keep a b.drew := h.trans ((Quiet.refl b).drew).keep
/-- The slot of what is dropped. -/
def oneR (ys : List PendP) (t : Tmp) (v : Value) (w : World) : Prop := ∃ A n c, v = .slice A n c ∧ n ≤ c ∧ c ≤ maxLen ∧ Row encQ 12 w w.heap.size A n ys
def oneD : List Tmp := [100]
set_option maxHeartbeats 8000000 in
theorem one_any (A : Option Addr) (n c : Nat) (zs : List PendP) (f : FrameP) (w : World) (hc : n ≤ c) (hcm : c ≤ maxLen) (hA : Row encQ 12 w w.heap.size A n zs) (hV : Vals w zs) (hfs : f.pdu.size ≤ maxLen) :
    Calls Try.prog 4 #[.slice A n c, aggF f] w fun e w' => e = .returned (.bool true) ∧ Keep w w' := by
  have hl := Lib.hid hA.1
  obtain ⟨X, hX⟩ : ∃ X, X = w.alloc (.cells #[.int .i64 f.id, .int .i64 f.unit, .string f.pdu] 24) := ⟨_, rfl⟩
  have k0 : Keep w X := by rw [hX]; exact (Keep.refl w).alloc _
  have B1 : Hid (Bx X w.heap.size [.int .i64 f.id, .int .i64 f.unit, .string f.pdu]) := Lib.hid (by rw [hX]; exact Bx.newq rfl)
  have HA := Lib.hid (hA.kept k0)
  have HV := Lib.hid (hV.kept k0)
  have HW := Lib.hid (And.intro hc hcm)
  have HX := Lib.hid hX
  have HFEW := Lib.hid (Ref21.few_any A n c zs X (Nat.le_trans hc hcm) HA.out)
  obtain ⟨fb, hfb⟩ : ∃ b, b = Ref21.fewB zs := ⟨_, rfl⟩
  rw [← hfb] at HFEW
  have HFB := Lib.hid hfb
  clear hX hA hV hfb
  cases fb
  · go_enter Try.func4, Try.ntmps4
    go_wp2_with fail
    rw [← HX.out]
    refine HFEW.out.mono ?_
    rintro e w1 ⟨rfl, hq⟩
    have k1 := k0.trans hq.keep
    go_wp2_with fail
    refine (awake_any _).mono ?_
    rintro e W2 ⟨rfl, hb2⟩
    go_wp2
    go_ret
    exact ⟨rfl, Keep.trans k1 hb2⟩
  · have hfew := few_facts HFB.out.symm
    have hn80 : n ≤ 80 := by rw [← hl.out]; exact hfew.1
    have hn1 : n ≤ 1000000 := by omega
    have HS := Lib.hid hfew.2
    clear hfew hc hcm
    obtain ⟨_, _, b2⟩ := bx3 B1.out
    by_cases h3 : 300 < f.pdu.size
    · have d3 : decide ((300 : Int) < (f.pdu.size : Int)) = true := by simp; omega
      clear h3
      go_enter Try.func4, Try.ntmps4
      go_wp2_with fail
      rw [← HX.out]
      refine HFEW.out.mono ?_
      rintro e w1 ⟨rfl, hq⟩
      have k1 := k0.trans hq.keep
      replace b2 := (hq.cell _).trans b2
      go_wp2_with fail
      refine (awake_any _).mono ?_
      rintro e W2 ⟨rfl, hb2⟩
      go_wp2
      go_ret
      exact ⟨rfl, Keep.trans k1 hb2⟩
    · have d3 : decide ((300 : Int) < (f.pdu.size : Int)) = false := by simp; omega
      have hf1 : f.pdu.size ≤ 100000 := by omega
      obtain ⟨rb, hrb⟩ : ∃ b, b = Pn.right zs := ⟨_, rfl⟩
      have HR := Lib.hid fun (W : World) (h : Keep X W) => Ref20.right_any A n c zs W (by unfold maxLen; omega) (HA.out.kept h)
      rw [← hrb] at HR
      have HRB := Lib.hid hrb
      clear hrb h3
      go_enter Try.func4, Try.ntmps4
      go_wp2_with fail
      rw [← HX.out]
      refine HFEW.out.mono ?_
      rintro e w1 ⟨rfl, hq⟩
      have k1 := hq.keep
      replace b2 := (hq.cell _).trans b2
      clear hq
      go_wp2_with fail
      refine (HR.out _ k1).mono ?_
      rintro e w2 ⟨rfl, hq⟩
      have k2 := k1.trans hq.keep
      clear hq k1 b2
      cases rb
      · skip
        go_wp2_with fail
        refine (awake_any _).mono ?_
        rintro e W2 ⟨rfl, hb2⟩
        go_wp2
        go_ret
        exact ⟨rfl, Keep.trans (k0.trans k2) hb2⟩
      · have HT := Lib.hid HRB.out.symm
        have HF1 := Lib.hid fun (W : World) (h : Keep X W) => find_any A n c zs f W hn1 HW.out.1 HW.out.2 HT.out (HA.out.kept h) (HV.out.kept h) (fun p hp => by have := HS.out p hp; omega) hf1
        obtain ⟨v, hv⟩ : ∃ v, v = Mt.find zs f := ⟨_, rfl⟩
        obtain ⟨u, hu⟩ : ∃ v, v = Mt.hits zs f := ⟨_, rfl⟩
        rw [← hv, ← hu] at HF1
        have HVU := Lib.hid (And.intro hv hu)
        clear hv hu
        obtain ⟨e0, e1, e2⟩ := bx3 (B1.out.kept k2)
        go_wp2_with fail
        refine (HF1.out _ k2).mono ?_
        rintro e w3 ⟨rfl, k3⟩
        replace k3 := k2.trans k3
        clear e0 e1 e2 k2
        cases u
        · obtain rfl : v = 0 := by rw [HVU.out.1, Mt.find, ← HVU.out.2]; rfl
          go_wp2_with fail
          refine (awake_any _).mono ?_
          rintro e w4 ⟨rfl, k4⟩
          go_wp2
          go_ret
          exact ⟨rfl, (k0.trans k3).trans k4⟩
        · have hh := HVU.out.2.symm
          obtain ⟨g1, g2, g3⟩ := (Mt.hits_iff zs f).1 hh
          have hvf : v = Pn.find zs f.id := by rw [HVU.out.1, Mt.find, hh]; rfl
          obtain ⟨g4, g5⟩ := Mt.find_get zs f.id g1
          have hfr := Pn.find_range zs f.id
          obtain ⟨k, hk⟩ : ∃ k : Nat, v = k := ⟨v.toNat, by omega⟩
          have hkf : (Pn.find zs f.id).toNat = k := by omega
          rw [hkf] at g2 g3 g4 g5
          have HDR := Lib.hid (show Mt.hits (Pn.drop zs (k : Int)) f = false by
            have := Mt.hits_drop (f := f) HT.out
            rwa [show Pn.find zs f.id = (k : Int) by omega] at this)
          subst hk
          have hkn : k < n := by rw [← hl.out]; exact g4
          obtain ⟨b, off, rfl, _⟩ := HA.out.addr (by omega)
          obtain ⟨hb, hp⟩ := row_pend HA.out k hkn
          have hmem := Pn.getD_mem zs k g4
          obtain ⟨p, hpe⟩ : ∃ p, p = zs.getD k Pn.zero := ⟨_, rfl⟩
          rw [← hpe] at hp hmem g2 g3 g5
          obtain ⟨g6, g7, _⟩ := Mt.kind_head g3
          have HP := Lib.hid hp
          have HB := Lib.hid hb
          have HI := Lib.hid (show p.ak.vs.length ≤ 1000000 ∧ Ints .i64 X X.heap.size p.A p.ak.vs.length p.ak.vs from ⟨by have := HS.out p hmem; omega, (HV.out p hmem).1⟩)
          obtain ⟨kd, hkd⟩ : ∃ x, x = Rp.kind p.ak f.pdu := ⟨_, rfl⟩
          rw [← hkd] at g3
          have HK := Lib.hid fun (W : World) (h : Keep X W) => Ref7.kind_any p.A p.ak.vs.length p.c p.ak f.pdu W HI.out.1 hf1 (HI.out.2.kept h)
          rw [← hkd] at HK
          have d1 : decide ((k : Int) < 0) = false := by simp
          have d2 : decide ((n : Int) ≤ (k : Int)) = false := by simp; omega
          have d2' : decide (n ≤ k) = false := by simp; omega
          have d6' : decide (f.pdu.size < 2) = false := by simp; omega
          have d4 : (p.o != f.id) = false := by simp [g5]
          have d5 : (p.un != f.unit) = false := by simp [g2]
          have d6 : decide ((f.pdu.size : Int) < 2) = false := by simp; omega
          have hbr := byteAt_range f.pdu 0
          have hx := idx (P := Try.prog) (k := .i64) f.pdu 0 Try.underlying9 (by omega) (by omega)
          obtain ⟨by0, hby⟩ : ∃ z, z = byteAt f.pdu 0 := ⟨_, rfl⟩
          rw [← hby] at hx hbr g7
          have d7 : (by0 % 128 != p.ak.fc) = false := by simp [g7]
          have d8 : (kd == 0) = false := by simp [g3]
          have hltz : (k : Int) < n := by omega
          have hk0 : (0 : Int) ≤ k := by omega
          have HG5 := Lib.hid (And.intro g5 g2)
          clear g1 g2 g3 g4 g5 g6 g7 hh hvf hfr hkf hp hb hmem hpe hkd hby
          have HPQ := fun q : KeptOf w3 => HP.out.kept HB.out (k3.trans q.h)
          have x0 := fun q => (HPQ q).1
          have x1 := fun q => (HPQ q).2.1
          have x2 := fun q => (HPQ q).2.2.1
          have x3 := fun q => (HPQ q).2.2.2.1
          have x4 := fun q => (HPQ q).2.2.2.2.1
          have x5 := fun q => (HPQ q).2.2.2.2.2.1
          have x6 := fun q => (HPQ q).2.2.2.2.2.2.1
          have x7 := fun q => (HPQ q).2.2.2.2.2.2.2.1
          have x8 := fun q => (HPQ q).2.2.2.2.2.2.2.2.1
          have x9 := fun q => (HPQ q).2.2.2.2.2.2.2.2.2.1
          have x10 := fun q => (HPQ q).2.2.2.2.2.2.2.2.2.2.1
          have x11 := fun q => (HPQ q).2.2.2.2.2.2.2.2.2.2.2
          have f0 := fun q : KeptOf w3 => (bx3 (B1.out.kept (k3.trans q.h))).1
          have f1 := fun q : KeptOf w3 => (bx3 (B1.out.kept (k3.trans q.h))).2.1
          have f2 := fun q : KeptOf w3 => (bx3 (B1.out.kept (k3.trans q.h))).2.2
          have hKQ := fun q : KeptOf w3 => HK.out q.w (k3.trans q.h)
          clear HPQ
          go_wp2_with fail
          refine wp_region_kept (by kernel_rfl) (by kernel_rfl) ?_
          repeat (go_big_quiet_step (first | with_reducible exact KeptOf.of (hKQ _)))
          refine Go.wpQuiet_nil ?_
          intro w4 hw'
          obtain ⟨⟨W4, k4⟩, hw''⟩ := hw'
          replace hw'' : w4 = W4 := hw''
          subst hw''
          replace k4 := k3.trans k4
          clear k3 hKQ f0 f1 f2 x0 x1 x2 x3 x4 x5 x6 x7 x8 x9 x10 x11 d1 d2 d4 d5 d6 d7 d8 hx hbr d2' d6'
          -- without it
          have HDP := Lib.hid fun (W : World) (h : Keep X W) => Ref20.drop_any (some ⟨b, off, none⟩) n c zs (k : Int) W hn1 (HA.out.kept h)
          obtain ⟨ys, hys⟩ : ∃ ys, ys = Pn.drop zs (k : Int) := ⟨_, rfl⟩
          rw [← hys] at HDP HDR
          have HY := Lib.hid (show ys.length ≤ 80 ∧ Pn.right ys = true ∧ ∀ q ∈ ys, q ∈ zs from by
            rw [hys]
            refine ⟨Nat.le_trans (Pn.drop_le zs k) (by rw [hl.out]; exact hn80), Pn.right_drop HT.out, fun q hq => ?_⟩
            unfold Pn.drop at hq
            rw [if_neg (by omega)] at hq
            exact List.mem_of_mem_eraseIdx hq)
          obtain ⟨z2, hz2⟩ : ∃ z, z = Mt.find ys f := ⟨_, rfl⟩
          have HZ2 := Lib.hid hz2
          clear hys hz2
          go_wp2_with fail
          refine Rel.wp_region_rel oneD (oneR ys) (by kernel_rfl) (by kernel_rfl) (fun t _ v W W' hk ⟨B, m, q, e, h1, h2, hr⟩ => ⟨B, m, q, e, h1, h2, hr.kept hk⟩) ?_
          refine Rel.rel_take' 2 (by kernel_rfl) ?_
          apply Exists.intro
          refine ⟨fun F hF hne => ?_, ?_⟩
          · simp only [List.take_succ_cons, List.take_zero]
            repeat (go_big_quiet_step (fail))
            refine Go.wpQuiet_nil ?_
            rfl
          simp only [List.drop_succ_cons, List.drop_zero]
          refine Rel.rel_call' 100 16 [.tmp 98, .tmp 99] #[22, 3] [] (fun V => [.slice (some ⟨b, off, none⟩) n c, .int .i64 (k : Int)]) rfl rfl (by kernel_rfl) (fun _ => rfl) ?_ ?_
          · intro V W hk hV
            exact (HDP.out W (k4.trans hk)).mono fun e W' ⟨B, m, q, he, h1, h2, hr, hk'⟩ => ⟨_, he, hk', B, m, q, rfl, h1, h2, hr⟩
          simp only [Act.put, List.setIfInBounds_toArray, List.set_cons_zero, List.set_cons_succ]
          refine Rel.rel_take' 1 (by kernel_rfl) ?_
          apply Exists.intro
          refine ⟨fun F hF hne => ?_, ?_⟩
          · simp only [List.take_succ_cons, List.take_zero]
            have f0 := fun q : Rel.KeptIn w4 F => (bx3 (B1.out.kept (k4.trans q.h))).1
            have f1 := fun q : Rel.KeptIn w4 F => (bx3 (B1.out.kept (k4.trans q.h))).2.1
            have f2 := fun q : Rel.KeptIn w4 F => (bx3 (B1.out.kept (k4.trans q.h))).2.2
            repeat (go_big_quiet_step (fail))
            refine Go.wpQuiet_nil ?_
            rfl
          simp only [List.drop_succ_cons, List.drop_zero]
          refine Rel.rel_callq' (.tuple #[.int .i64 z2, .bool false]) 102 9 [.tmp 100, .tmp 101] #[22, 24] [100] (fun V => [V 100, aggF f]) rfl rfl (by kernel_rfl) (fun _ => rfl) ?_ ?_
          · intro V W hk hV
            obtain ⟨B, m, q, e1, h1, h2, hr⟩ := hV 100 (by simp)
            show Calls _ _ #[V 100, aggF f] W _
            rw [e1]
            have := find_any B m q ys f W (by have := hr.1; have := HY.out.1; omega) h1 h2 HY.out.2.1 hr (fun p hp => (HV.out.kept (k4.trans hk)) p (HY.out.2.2 p hp)) (fun p hp => by have := HS.out p (HY.out.2.2 p hp); omega) hf1
            rwa [HDR.out, ← HZ2.out] at this
          simp only [Act.put, List.setIfInBounds_toArray, List.set_cons_zero, List.set_cons_succ]
          refine Rel.rel_take' 5 (by kernel_rfl) ?_
          apply Exists.intro
          refine ⟨fun F hF hne => ?_, ?_⟩
          · simp only [List.take_succ_cons, List.take_zero]
            repeat (go_big_quiet_step (fail))
            refine Go.wpQuiet_nil ?_
            rfl
          simp only [List.drop_succ_cons, List.drop_zero]
          refine Rel.rel_nil ?_
          intro V W hk _
          simp only [oneD, Rel.fill, List.foldl_cons, List.foldl_nil, Act.put, List.setIfInBounds_toArray, List.set_cons_zero, List.set_cons_succ]
          have k5 := k4.trans hk
          clear hk k4
          obtain ⟨Y, hY⟩ : ∃ Y, Y = W := ⟨_, rfl⟩
          rw [← hY] at k5 ⊢
          clear hY
          have hS : ∀ W, Keep Y W → (W.cell? ⟨b, off + k * 12, none⟩ = some (.int .i64 p.o) ∧ W.cell? ⟨b, off + k * 12 + 1, none⟩ = some (.int .i64 p.cn) ∧ W.cell? ⟨b, off + k * 12 + 2, none⟩ = some (.int .i64 p.lf) ∧ W.cell? ⟨b, off + k * 12 + 3, none⟩ = some (.int .i64 p.id) ∧ W.cell? ⟨b, off + k * 12 + 4, none⟩ = some (.int .i64 p.un) ∧ W.cell? ⟨b, off + k * 12 + 5, none⟩ = some (.int .i64 p.ak.fc) ∧ W.cell? ⟨b, off + k * 12 + 6, none⟩ = some (.int .i64 p.ak.rd) ∧ W.cell? ⟨b, off + k * 12 + 7, none⟩ = some (.int .i64 p.ak.ct) ∧ W.cell? ⟨b, off + k * 12 + 8, none⟩ = some (.int .i64 p.ak.wr) ∧ W.cell? ⟨b, off + k * 12 + 9, none⟩ = some (.int .i64 p.ak.mn) ∧ W.cell? ⟨b, off + k * 12 + 10, none⟩ = some (.slice p.A p.ak.vs.length p.c) ∧ W.cell? ⟨b, off + k * 12 + 11, none⟩ = some (.int .i64 p.due)) ∧ W.cell? ⟨w.heap.size, 0, none⟩ = some (.int .i64 f.id) ∧ W.cell? ⟨w.heap.size, 1, none⟩ = some (.int .i64 f.unit) ∧ W.cell? ⟨w.heap.size, 2, none⟩ = some (.string f.pdu) := fun W h => by
            have h1 := HP.out.kept HB.out (k5.trans h)
            exact ⟨h1, bx3 (B1.out.kept (k5.trans h))⟩
          have hS2 : ∀ W, Keep Y W → W.cell? ⟨b, off + k * 12, none⟩ = some (.int .i64 p.o) ∧ W.cell? ⟨b, off + k * 12 + 1, none⟩ = some (.int .i64 p.cn) ∧ W.cell? ⟨b, off + k * 12 + 2, none⟩ = some (.int .i64 p.lf) ∧ W.cell? ⟨b, off + k * 12 + 3, none⟩ = some (.int .i64 p.id) ∧ W.cell? ⟨b, off + k * 12 + 4, none⟩ = some (.int .i64 p.un) ∧ W.cell? ⟨b, off + k * 12 + 5, none⟩ = some (.int .i64 p.ak.fc) ∧ W.cell? ⟨b, off + k * 12 + 6, none⟩ = some (.int .i64 p.ak.rd) ∧ W.cell? ⟨b, off + k * 12 + 7, none⟩ = some (.int .i64 p.ak.ct) ∧ W.cell? ⟨b, off + k * 12 + 8, none⟩ = some (.int .i64 p.ak.wr) ∧ W.cell? ⟨b, off + k * 12 + 9, none⟩ = some (.int .i64 p.ak.mn) ∧ W.cell? ⟨b, off + k * 12 + 10, none⟩ = some (.slice p.A p.ak.vs.length p.c) ∧ W.cell? ⟨b, off + k * 12 + 11, none⟩ = some (.int .i64 p.due) ∧ W.cell? ⟨w.heap.size, 0, none⟩ = some (.int .i64 f.id) ∧ W.cell? ⟨w.heap.size, 1, none⟩ = some (.int .i64 f.unit) ∧ W.cell? ⟨w.heap.size, 2, none⟩ = some (.string f.pdu) := fun W h => by
            obtain ⟨⟨h0, h1, h2, h3, h4, h5, h6, h7, h8, h9, h10, h11⟩, g0, g1, g2⟩ := hS W h
            exact ⟨h0, h1, h2, h3, h4, h5, h6, h7, h8, h9, h10, h11, g0, g1, g2⟩
          have hbb := fun W => back_any p f W
          have hbk : Mt.back p f = ⟨p.id, p.un, f.pdu⟩ := rfl
          unfold aggQ at hbb
          rw [hbk] at hbb
          have HBK := Lib.hid hbb
          clear hbb
          have kX := Keep.refl Y
          have kD := keepd (Keep.refl Y)
          clear hbk hS
          go_wp2_with fail
          go_cut [9] from 105 to 110 (fun pv W => ∃ q9, pv = .pointer (some ⟨q9, 0, none⟩) ∧ Bx W q9 [.int .i64 p.id, .int .i64 p.un, .string f.pdu] ∧ Keep Y W)
          case first =>
            go_region_held3 (fun W => W.cell? ⟨b, off + k * 12, none⟩ = some (.int .i64 p.o) ∧ W.cell? ⟨b, off + k * 12 + 1, none⟩ = some (.int .i64 p.cn) ∧ W.cell? ⟨b, off + k * 12 + 2, none⟩ = some (.int .i64 p.lf) ∧ W.cell? ⟨b, off + k * 12 + 3, none⟩ = some (.int .i64 p.id) ∧ W.cell? ⟨b, off + k * 12 + 4, none⟩ = some (.int .i64 p.un) ∧ W.cell? ⟨b, off + k * 12 + 5, none⟩ = some (.int .i64 p.ak.fc) ∧ W.cell? ⟨b, off + k * 12 + 6, none⟩ = some (.int .i64 p.ak.rd) ∧ W.cell? ⟨b, off + k * 12 + 7, none⟩ = some (.int .i64 p.ak.ct) ∧ W.cell? ⟨b, off + k * 12 + 8, none⟩ = some (.int .i64 p.ak.wr) ∧ W.cell? ⟨b, off + k * 12 + 9, none⟩ = some (.int .i64 p.ak.mn) ∧ W.cell? ⟨b, off + k * 12 + 10, none⟩ = some (.slice p.A p.ak.vs.length p.c) ∧ W.cell? ⟨b, off + k * 12 + 11, none⟩ = some (.int .i64 p.due) ∧ W.cell? ⟨w.heap.size, 0, none⟩ = some (.int .i64 f.id) ∧ W.cell? ⟨w.heap.size, 1, none⟩ = some (.int .i64 f.unit) ∧ W.cell? ⟨w.heap.size, 2, none⟩ = some (.string f.pdu))
              (first
                | with_reducible exact hS2 _ kX
                | with_reducible exact hS2 _ kD
                | with_reducible exact hS2 _ (kX.alloc _)
                | with_reducible exact hS2 _ (kD.alloc _)
                | with_reducible exact hS2 _ (keepd (kX.alloc _))
                | with_reducible exact hS2 _ kw
                | with_reducible exact hS2 _ (kw.alloc _)
                | with_reducible exact hS2 _ (keep_set (keep_set (keep_set kw _ (Nat.le_refl _) _) _ (Nat.le_refl _) _) _ (Nat.le_refl _) _)
                | fail)
              ((first
                | (go_at_call 13; with_reducible refine (HBK.out Y.drew).mono ?_; rintro e w6 ⟨rfl, q6⟩; have kw := kD.trans q6)
                | (go_at_call 13; with_reducible refine (HBK.out _).mono ?_; rintro e w6 ⟨rfl, q6⟩; have kw := (keepd (kX.alloc (.cells #[.int .i64 0, .int .i64 0, .string ⟨#[]⟩] 24))).trans q6; have ⟨⟨n0, n1, n2⟩, nf, ns⟩ := new3 q6)
                | fail))
            all_goals (
              go_wp2_with fail
              go_meet
              refine ⟨_, rfl, ?_, ?_⟩
              all_goals repeat' (first
                | with_reducible exact kw
                | with_reducible exact Bx.newq (by first | rfl | (simp; done))
                | with_reducible refine keepd ?_
                | with_reducible refine Keep.alloc ?_ _
                | with_reducible refine keep_set ?_ _ ?_ _
                | exact Nat.le_refl _
                | exact box3 _ _ _ n0 n1 n2 ns
                | fail))
          case rest =>
            obtain ⟨q9, rfl, B9, k9⟩ := hcut
            have HPQ := fun q : KeptOf wc => HP.out.kept HB.out ((k5.trans k9).trans q.h)
            have x0 := fun q => (HPQ q).1
            have x1 := fun q => (HPQ q).2.1
            have x2 := fun q => (HPQ q).2.2.1
            have x3 := fun q => (HPQ q).2.2.2.1
            have x4 := fun q => (HPQ q).2.2.2.2.1
            have x5 := fun q => (HPQ q).2.2.2.2.2.1
            have x6 := fun q => (HPQ q).2.2.2.2.2.2.1
            have x7 := fun q => (HPQ q).2.2.2.2.2.2.2.1
            have x8 := fun q => (HPQ q).2.2.2.2.2.2.2.2.1
            have x9 := fun q => (HPQ q).2.2.2.2.2.2.2.2.2.1
            have x10 := fun q => (HPQ q).2.2.2.2.2.2.2.2.2.2.1
            have x11 := fun q => (HPQ q).2.2.2.2.2.2.2.2.2.2.2
            have f0 := fun q : KeptOf wc => (bx3 (B1.out.kept ((k5.trans k9).trans q.h))).1
            have f1 := fun q : KeptOf wc => (bx3 (B1.out.kept ((k5.trans k9).trans q.h))).2.1
            have f2 := fun q : KeptOf wc => (bx3 (B1.out.kept ((k5.trans k9).trans q.h))).2.2
            have y0 := fun q : KeptOf wc => (bx3 (f := ⟨p.id, p.un, f.pdu⟩) (B9.kept q.h)).1
            have y1 := fun q : KeptOf wc => (bx3 (f := ⟨p.id, p.un, f.pdu⟩) (B9.kept q.h)).2.1
            have y2 := fun q : KeptOf wc => (bx3 (f := ⟨p.id, p.un, f.pdu⟩) (B9.kept q.h)).2.2
            simp only at y0 y1 y2
            have haw := fun q : KeptOf wc => awake_any q.w
            have dun : (p.un == f.unit) = true := by simp [HG5.out.2]
            have KK := Lib.hid (k0.trans (k5.trans k9))
            clear HPQ hS2 kX kD k5 k9 k0 B9
            go_wp2_with fail
            refine wp_region_kept (by kernel_rfl) (by kernel_rfl) ?_
            repeat (go_big_quiet_step (first | with_reducible exact KeptOf.of (haw _)))
            refine Go.wpQuiet_nil ?_
            intro _ hw'
            obtain ⟨⟨W, hw⟩, hw''⟩ := hw'
            subst hw''
            go_wp2
            go_ret
            exact ⟨rfl, KK.out.trans hw⟩
end Go.Proofs.Ytijnajlijdnbcaa.Match
