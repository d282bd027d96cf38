/- Layer 21's law MatchFaults. Conditions: none beyond the law's own. -/
import Derived.Test.YtijnajlijdnbcaaMtL
namespace Go.Proofs.Ytijnajlijdnbcaa.Match
set_option linter.unusedVariables false
set_option linter.unusedSimpArgs false
set_option maxRecDepth 100000
open Go.ChangeShapes Go.WideShapes Go.ChangeAt Go.RowKit
open Pn (encQ row_pend PAt Vals cellsQ aggQ ret_bool ret_int row_one)
open Ref21 (aggF)
theorem bx12 {W : World} {q : Nat} {p : PendP} (h : Bx W q (cellsQ p).toList) : W.cell? ⟨q, 0, none⟩ = some (.int .i64 p.o) ∧ W.cell? ⟨q, 1, none⟩ = some (.int .i64 p.cn) ∧ W.cell? ⟨q, 2, none⟩ = some (.int .i64 p.lf) ∧ W.cell? ⟨q, 3, none⟩ = some (.int .i64 p.id) ∧ W.cell? ⟨q, 4, none⟩ = some (.int .i64 p.un) ∧ W.cell? ⟨q, 5, none⟩ = some (.int .i64 p.ak.fc) ∧ W.cell? ⟨q, 6, none⟩ = some (.int .i64 p.ak.rd) ∧ W.cell? ⟨q, 7, none⟩ = some (.int .i64 p.ak.ct) ∧ W.cell? ⟨q, 8, none⟩ = some (.int .i64 p.ak.wr) ∧ W.cell? ⟨q, 9, none⟩ = some (.int .i64 p.ak.mn) ∧ W.cell? ⟨q, 10, none⟩ = some (.slice p.A p.ak.vs.length p.c) ∧ W.cell? ⟨q, 11, none⟩ = some (.int .i64 p.due) :=
  ⟨h.2 0 _ rfl, h.2 1 _ rfl, h.2 2 _ rfl, h.2 3 _ rfl, h.2 4 _ rfl, h.2 5 _ rfl, h.2 6 _ rfl, h.2 7 _ rfl, h.2 8 _ rfl, h.2 9 _ rfl, h.2 10 _ rfl, h.2 11 _ rfl⟩
set_option maxHeartbeats 8000000 in
theorem faults_any (p : PendP) (y : Int) (w : World) (hp : Ints .i64 w w.heap.size p.A p.ak.vs.length p.ak.vs) (hpl : p.ak.vs.length ≤ maxLen) :
    Calls Try.prog 5 #[aggQ p, .int .i64 y] w fun e w' => e = .returned (.bool true) ∧ Keep w w' := by
  obtain ⟨X, hX⟩ : ∃ X, X = w.alloc (.cells (cellsQ p) 35) := ⟨_, rfl⟩
  have k0 : Keep w X := by rw [hX]; exact (Keep.refl w).alloc _
  have B0 : Hid (Bx X w.heap.size (cellsQ p).toList) := Lib.hid (by rw [hX]; exact Bx.newq rfl)
  have HP := Lib.hid (hp.kept k0)
  have HX := Lib.hid hX
  clear hp hX
  obtain ⟨c0, c1, c2, c3, c4, c5, c6, c7, c8, c9, c10, c11⟩ := bx12 B0.out
  unfold aggQ
  by_cases h1 : 2000 < p.ak.vs.length
  · have d1 : decide ((2000 : Int) < (p.ak.vs.length : Int)) = true := by simp; omega
    clear h1
    go_enter Try.func5, Try.ntmps5
    go_wp2_with fail
    rw [← HX.out]
    go_wp2_with fail
    go_wp2_with fail
    refine (awake_any _).mono ?_
    rintro e W2 ⟨rfl, hb2⟩
    go_wp2
    go_ret
    exact ⟨rfl, Keep.trans k0 hb2⟩

  · have d1 : decide ((2000 : Int) < (p.ak.vs.length : Int)) = false := by simp; omega
    have hn1 : p.ak.vs.length ≤ 1000000 := by omega
    obtain ⟨rb, hrb⟩ : ∃ b, b = Ak.right p.ak := ⟨_, rfl⟩
    have HR := Lib.hid (Ref6.right_any p.A p.ak.vs.length p.c p.ak X hn1 HP.out)
    rw [← hrb] at HR
    have HRB := Lib.hid hrb
    clear hrb h1
    cases rb
    · go_enter Try.func5, Try.ntmps5
      go_wp2_with fail
      rw [← HX.out]
      go_wp2_with fail
      refine HR.out.mono ?_
      rintro e w1 ⟨rfl, k1⟩
      replace k1 := k0.trans k1
      clear c0 c1 c2 c3 c4 c5 c6 c7 c8 c9 c10 c11
      go_wp2_with fail
      refine (awake_any _).mono ?_
      rintro e W2 ⟨rfl, hb2⟩
      go_wp2
      go_ret
      exact ⟨rfl, Keep.trans k1 hb2⟩

    · have HRT := Lib.hid HRB.out.symm
      obtain ⟨gb, hgb⟩ : ∃ g, g = Mt.faultOk p y := ⟨_, rfl⟩
      have HG := Lib.hid fun W => fault_any p y W
      rw [← hgb] at HG
      have HGB := Lib.hid hgb
      clear hgb
      cases gb
      · have e0 : Mt.fault p y = Mb.zero := by unfold Mt.fault; rw [← HGB.out]; rfl
        rw [e0] at HG
        clear e0
        have he := eqF Mb.zero
        have hgd := guardF
        go_enter Try.func5, Try.ntmps5
        go_wp2_with fail
        rw [← HX.out]
        go_wp2_with fail
        refine HR.out.mono ?_
        rintro e w1 ⟨rfl, k1⟩
        clear c0 c1 c2 c3 c4 c5 c6 c7 c8 c9 c10 c11
        obtain ⟨c0, c1, c2, c3, c4, c5, c6, c7, c8, c9, c10, c11⟩ := bx12 (B0.out.kept k1)
        go_wp2_with fail
        refine (HG.out _).mono ?_
        rintro e w2 ⟨rfl, k2⟩
        replace k2 := k1.trans k2
        clear c0 c1 c2 c3 c4 c5 c6 c7 c8 c9 c10 c11 k1
        obtain ⟨Y, hY⟩ : ∃ Y, Y = w2.alloc (.cells #[.int .i64 Mb.zero.id, .int .i64 Mb.zero.unit, .string Mb.zero.pdu] 24) := ⟨_, rfl⟩
        have C : Hid (Bx Y w2.heap.size [.int .i64 Mb.zero.id, .int .i64 Mb.zero.unit, .string Mb.zero.pdu]) := Lib.hid (by rw [hY]; exact Bx.newq rfl)
        have k3 : Keep X Y := by rw [hY]; exact k2.alloc _
        go_wp2_with fail
        rw [← hY]
        refine (awake_any _).mono ?_
        rintro e w3 ⟨rfl, k4⟩
        obtain ⟨a0, a1, a2⟩ := bx3 (C.out.kept k4)
        simp only [Mb.zero] at a0 a1 a2 he
        clear hY
        go_wp2
        go_ret
        exact ⟨rfl, (k0.trans k3).trans k4⟩
      · have hok := HGB.out.symm
        have hfk : Rp.faultOk p.ak.fc y = true := hok
        obtain ⟨s, hs⟩ : ∃ s, s = st (Rp.fault p.ak.fc y) := ⟨_, rfl⟩
        have e0 : Mt.fault p y = ⟨p.id, p.un, s⟩ := by unfold Mt.fault; rw [hok, hs]; rfl
        have hh := Mt.fault_hits HRT.out hok
        rw [← hs] at hh
        have hfi : Mt.find [p] ⟨p.o, p.un, s⟩ = 0 := by unfold Mt.find; rw [hh]; simp [Pn.find]
        have hcode := Mt.fault_code hfk
        rw [← hs] at hcode
        have hbk : Mt.back p ⟨p.o, p.un, s⟩ = ⟨p.id, p.un, s⟩ := rfl
        have hyr := Mt.fault_range hfk
        have hwy : wrap64 y = y := by unfold wrap64; omega
        clear hyr
        rw [e0] at HG
        have hsz : s.size = 2 := hcode.2
        have hx := idx (P := Try.prog) (k := .i64) s 1 Try.underlying9 (by omega) (by omega)
        rw [hcode.1] at hx
        have HFI := Lib.hid fun (W : World) (h : Keep X W) => find_any (some ⟨W.heap.size, 0, none⟩) 1 1 [p] ⟨p.o, p.un, s⟩ (W.alloc (.cells (cellsQ p) 35)) (by omega) (by omega) (by decide) (by simp [Pn.right, Pn.outers]) (by simpa using row_one W p 35)
          (fun q hq => by rw [List.mem_singleton.1 hq]; exact ⟨HP.out.kept (h.alloc _), hpl⟩) (fun q hq => by rw [List.mem_singleton.1 hq]; exact hn1) (by show s.size ≤ 100000; omega)
        rw [hh, hfi] at HFI
        have HBK := Lib.hid fun W => back_any p ⟨p.o, p.un, s⟩ W
        rw [hbk] at HBK
        have he := eqF ⟨p.id, p.un, s⟩
        simp only at he
        have hgd := guardF
        clear hok hfk hs e0 hh hfi hcode hbk
        go_enter Try.func5, Try.ntmps5
        go_wp2_with fail
        rw [← HX.out]
        go_wp2_with fail
        refine HR.out.mono ?_
        rintro e w1 ⟨rfl, k1⟩
        clear c0 c1 c2 c3 c4 c5 c6 c7 c8 c9 c10 c11
        obtain ⟨c0, c1, c2, c3, c4, c5, c6, c7, c8, c9, c10, c11⟩ := bx12 (B0.out.kept k1)
        go_wp2_with fail
        refine (HG.out _).mono ?_
        rintro e w2 ⟨rfl, k2⟩
        replace k2 := k1.trans k2
        clear c0 c1 c2 c3 c4 c5 c6 c7 c8 c9 c10 c11 k1
        obtain ⟨Y, hY⟩ : ∃ Y, Y = w2.alloc (.cells #[.int .i64 p.id, .int .i64 p.un, .string s] 24) := ⟨_, rfl⟩
        have C : Hid (Bx Y w2.heap.size [.int .i64 p.id, .int .i64 p.un, .string s]) := Lib.hid (by rw [hY]; exact Bx.newq rfl)
        have k3 : Keep X Y := by rw [hY]; exact k2.alloc _
        have hys : Y.heap.size = w2.heap.size + 1 := by rw [hY]; simp
        have h3 := HFI.out Y k3
        rw [hys] at h3
        have HY := Lib.hid hY
        have H3 := Lib.hid h3
        obtain ⟨c0, c1, c2, c3, c4, c5, c6, c7, c8, c9, c10, c11⟩ := bx12 (B0.out.kept (k2.alloc (.cells #[.int .i64 p.id, .int .i64 p.un, .string s] 24)))
        have HS := Lib.hid hys
        obtain ⟨g0, g1, g2, g3, g4, g5, g6, g7, g8, g9, g10, g11⟩ := bx12 (B0.out.kept ((k2.alloc (.cells #[.int .i64 p.id, .int .i64 p.un, .string s] 24)).alloc (.cells #[.int .i64 p.o, .int .i64 p.cn, .int .i64 p.lf, .int .i64 p.id, .int .i64 p.un, .int .i64 p.ak.fc, .int .i64 p.ak.rd, .int .i64 p.ak.ct, .int .i64 p.ak.wr, .int .i64 p.ak.mn, .slice p.A p.ak.vs.length p.c, .int .i64 p.due] 35)))
        have a2 := (bx3 (f := ⟨p.id, p.un, s⟩) ((show Bx (w2.alloc (.cells #[.int .i64 p.id, .int .i64 p.un, .string s] 24)) w2.heap.size [.int .i64 p.id, .int .i64 p.un, .string s] from Bx.newq rfl).alloc (.cells #[.int .i64 p.o, .int .i64 p.cn, .int .i64 p.lf, .int .i64 p.id, .int .i64 p.un, .int .i64 p.ak.fc, .int .i64 p.ak.rd, .int .i64 p.ak.ct, .int .i64 p.ak.wr, .int .i64 p.ak.mn, .slice p.A p.ak.vs.length p.c, .int .i64 p.due] 35))).2.2
        simp only at a2
        clear hY h3 hys
        go_wp2_with fail
        rw [← HY.out]
        refine H3.out.mono ?_
        rintro e w3 ⟨rfl, k4⟩
        have k5 := (k3.alloc (.cells (cellsQ p) 35)).trans k4
        have k6 := Lib.hid (((Keep.refl Y).alloc (.cells (cellsQ p) 35)).trans k4)
        clear c0 c1 c2 c3 c4 c5 c6 c7 c8 c9 c10 c11 g0 g1 g2 g3 g4 g5 g6 g7 g8 g9 g10 g11 a2 k4
        have hbb := fun q : KeptOf w3 => HBK.out q.w
        have haw := fun q : KeptOf w3 => awake_any q.w
        unfold aggQ at hbb
        have HPQ := fun q : KeptOf w3 => bx12 (B0.out.kept (k5.trans q.h))
        have x0 := fun q => (HPQ q).1
        have x1 := fun q => (HPQ q).2.1
        have x2 := fun q => (HPQ q).2.2.1
        have x3 := fun q => (HPQ q).2.2.2.1
        have x4 := fun q => (HPQ q).2.2.2.2.1
        have x5 := fun q => (HPQ q).2.2.2.2.2.1
        have x6 := fun q => (HPQ q).2.2.2.2.2.2.1
        have x7 := fun q => (HPQ q).2.2.2.2.2.2.2.1
        have x8 := fun q => (HPQ q).2.2.2.2.2.2.2.2.1
        have x9 := fun q => (HPQ q).2.2.2.2.2.2.2.2.2.1
        have x10 := fun q => (HPQ q).2.2.2.2.2.2.2.2.2.2.1
        have x11 := fun q => (HPQ q).2.2.2.2.2.2.2.2.2.2.2
        have y0 := fun q : KeptOf w3 => (bx3 (f := ⟨p.id, p.un, s⟩) (C.out.kept (k6.out.trans q.h))).1
        have y1 := fun q : KeptOf w3 => (bx3 (f := ⟨p.id, p.un, s⟩) (C.out.kept (k6.out.trans q.h))).2.1
        have y2 := fun q : KeptOf w3 => (bx3 (f := ⟨p.id, p.un, s⟩) (C.out.kept (k6.out.trans q.h))).2.2
        simp only at y0 y1 y2
        have KK := Lib.hid (k0.trans k5)
        clear HPQ k5 k3 k2 k0
        go_wp2_with fail
        refine wp_region_kept (by kernel_rfl) (by kernel_rfl) ?_
        repeat (go_big_quiet_step (first | with_reducible exact KeptOf.of (hbb _) | with_reducible exact KeptOf.of (haw _)))
        refine Go.wpQuiet_nil ?_
        intro _ hw'
        obtain ⟨⟨W, hw⟩, hw''⟩ := hw'
        subst hw''
        go_wp2
        go_ret
        exact ⟨rfl, KK.out.trans hw⟩
end Go.Proofs.Ytijnajlijdnbcaa.Match
