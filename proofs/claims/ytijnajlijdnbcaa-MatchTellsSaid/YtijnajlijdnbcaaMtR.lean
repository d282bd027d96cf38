/- Layer 21's reference, and the law's few. Conditions: lists of at most a million requests, texts of at most a hundred thousand bytes. -/
import Derived.Test.YtijnajlijdnbcaaMtA
import Derived.Test.YtijnajlijdnbcaaPnS
import Derived.Test.YtijnajlijdnbcaaRpS
import Derived.Test.YtijnajlijdnbcaaKept
import Derived.Laws.ResultCell
namespace Go.Proofs.Ytijnajlijdnbcaa.Ref21
set_option linter.unusedVariables false
set_option linter.unusedSimpArgs false
set_option maxRecDepth 100000
open Go.ChangeShapes Go.WideShapes Go.ChangeAt Go.RowKit
open Pn (encQ row_pend PAt Vals cellsQ aggQ ret_bool ret_int)
theorem results_cell {fn : Func} {p : Tmp} {ty : TypeId} (h : fn.results = #[.cell p ty]) (tmps : Array Value) (P : Program) (w : World) :
    (results fn tmps).run P w = ((asAddr (tmps.getD p undef)).run P w).andThen fun a w₁ => ((loadVar ty a).run P w₁).andThen fun v w₂ => .ok v w₂ := by
  simp only [results, h]
  simp [Sem.run_bind, Result.andThen]
  cases (asAddr (tmps[p]?.getD undef)).run P w with
  | ok a w1 => simp only; cases (loadVar ty a).run P w1 <;> rfl
  | halt h w1 => rfl
/-- A frame as a struct. -/
abbrev aggF (f : FrameP) : Value := .agg #[.int .i64 f.id, .int .i64 f.unit, .string f.pdu]
set_option maxHeartbeats 2000000 in
theorem find_any (A : Option Addr) (n c : Nat) (zs : List PendP) (f : FrameP) (w : World) (hn : n ≤ 1000000) (hA : Row encQ 12 w w.heap.size A n zs) (hV : Vals w zs) (hs : ∀ p ∈ zs, p.ak.vs.length ≤ 1000000) (hf : f.pdu.size ≤ 100000) :
    Calls Try.prog 10 #[.slice A n c, aggF f] w fun e w' => e = .returned (.tuple #[.int .i64 (Mt.find zs f), .bool (Mt.hits zs f)]) ∧ Keep w w' := by
  have hl := Lib.hid hA.1
  obtain ⟨X, hX⟩ : ∃ X, X = w.alloc (.cells #[.int .i64 f.id, .int .i64 f.unit, .string f.pdu] 24) := ⟨_, rfl⟩
  have k0 : Keep w X := by rw [hX]; exact (Keep.refl w).alloc _
  have hlt : w.heap.size < X.heap.size := by rw [hX]; simp
  have b0 : X.cell? ⟨w.heap.size, 0, none⟩ = some (.int .i64 f.id) := by rw [hX]; go_simp
  have b1 : X.cell? ⟨w.heap.size, 1, none⟩ = some (.int .i64 f.unit) := by rw [hX]; go_simp
  have b2 : X.cell? ⟨w.heap.size, 2, none⟩ = some (.string f.pdu) := by rw [hX]; go_simp
  have HF := Lib.hid (Ref20.find_any A n c zs f.id X (by unfold maxLen; omega) (hA.kept k0))
  have HA := Lib.hid (hA.kept k0)
  have HV := Lib.hid (hV.kept k0)
  have hfr := Pn.find_range zs f.id
  obtain ⟨v, hv⟩ : ∃ v, v = Pn.find zs f.id := ⟨_, rfl⟩
  have HH := Lib.hid (show Mt.find zs f = (if Mt.hits zs f then v else 0) by unfold Mt.find; rw [hv])
  have hhits := show Mt.hits zs f = (decide (0 ≤ v) && ((zs.getD v.toNat Pn.zero).un == f.unit && !(Rp.kind (zs.getD v.toNat Pn.zero).ak f.pdu == 0))) by unfold Mt.hits; rw [hv]
  rw [← hv] at HF hfr
  have HX := Lib.hid hX
  clear hv hA hV hX
  by_cases hv0 : v < 0
  · have HE := Lib.hid (show Mt.hits zs f = false by rw [hhits, show decide (0 ≤ v) = false by simp; omega]; rfl)
    have d0 : decide (v < 0) = true := by simp [hv0]
    clear hhits hfr hv0
    go_enter Try.func10, Try.ntmps10
    go_wp2_with fail
    rw [← HX.out]
    refine HF.out.mono ?_
    rintro e w1 ⟨rfl, hq⟩
    have k1 := k0.trans hq.keep
    clear hq
    go_wp2_with fail
    refine wp_region_kept (by kernel_rfl) (by kernel_rfl) ?_
    repeat (go_big_quiet_step (fail))
    refine Go.wpQuiet_nil ?_
    intro _ hw'
    obtain ⟨⟨W, hw⟩, hw''⟩ := hw'
    subst hw''
    go_wp2
    go_ret2
    exact ⟨by rw [HH.out, HE.out]; rfl, k1.trans hw⟩
  · obtain ⟨k, rfl⟩ : ∃ k : Nat, v = k := ⟨v.toNat, by omega⟩
    have hkz : k < zs.length := by have := hfr.2; omega
    have hkn : k < n := by rw [← hl.out]; exact hkz
    rw [Int.toNat_natCast] at hhits
    obtain ⟨b, off, rfl, _⟩ := HA.out.addr (by omega)
    obtain ⟨hb, hp⟩ := row_pend HA.out k hkn
    have hmem := Pn.getD_mem zs k hkz
    obtain ⟨p, hpe⟩ : ∃ p, p = zs.getD k Pn.zero := ⟨_, rfl⟩
    rw [← hpe] at hp hmem hhits
    have hI := Lib.hid (And.intro (hs p hmem) (HV.out p hmem).1)
    obtain ⟨kd, hkd⟩ : ∃ x, x = Rp.kind p.ak f.pdu := ⟨_, rfl⟩
    rw [← hkd] at hhits
    have HKD := Lib.hid hkd
    have hhits' : Mt.hits zs f = ((p.un == f.unit) && !(kd == 0)) := by rw [hhits, show decide ((0 : Int) ≤ (k : Int)) = true by simp]; rfl
    have HHT := Lib.hid hhits'
    have HP := Lib.hid hp
    have d0 : decide ((k : Int) < 0) = false := by simp
    have hkn' : (k : Int) < n := by omega
    have hk0 : (0 : Int) ≤ k := by omega
    clear hhits hhits' hpe hmem hkd hs hp hfr hv0
    go_enter Try.func10, Try.ntmps10
    go_wp2_with fail
    rw [← HX.out]
    refine HF.out.mono ?_
    rintro e w1 ⟨rfl, hq⟩
    have kq := hq.keep
    have k1 := k0.trans kq
    have hlt1 : w.heap.size < w1.heap.size := Nat.lt_of_lt_of_le hlt kq.size
    have hb1 := Nat.lt_of_lt_of_le hb kq.size
    have hc := fun q : KeptOf w1 => (HP.out.kept hb kq).kept hb1 q.h
    have c4 := fun q => (hc q).2.2.2.2.1
    have c5 := fun q => (hc q).2.2.2.2.2.1
    have c6 := fun q => (hc q).2.2.2.2.2.2.1
    have c7 := fun q => (hc q).2.2.2.2.2.2.2.1
    have c8 := fun q => (hc q).2.2.2.2.2.2.2.2.1
    have c9 := fun q => (hc q).2.2.2.2.2.2.2.2.2.1
    have c10 := fun q => (hc q).2.2.2.2.2.2.2.2.2.2.1
    have e0 : ∀ q : KeptOf w1, q.w.cell? ⟨w.heap.size, 1, none⟩ = some (.int .i64 f.unit) := fun q => (Below.cell q.h hlt1).trans ((Below.cell kq hlt).trans b1)
    have e1 : ∀ q : KeptOf w1, q.w.cell? ⟨w.heap.size, 2, none⟩ = some (.string f.pdu) := fun q => (Below.cell q.h hlt1).trans ((Below.cell kq hlt).trans b2)
    have hK := fun q : KeptOf w1 => Ref7.kind_any p.A p.ak.vs.length p.c p.ak f.pdu q.w hI.out.1 hf (hI.out.2.kept (kq.trans q.h))
    rw [← HKD.out] at hK
    have HB := Lib.hid b0
    clear hc hq b0 b1 b2 hlt hb hlt1 hb1
    cases u1 : (p.un == f.unit)
    · have u2 : (p.un != f.unit) = true := by rw [bne, u1]; rfl
      have HE := Lib.hid (show Mt.hits zs f = false by rw [HHT.out, u1]; rfl)
      go_wp2_with fail
      refine wp_region_kept (by kernel_rfl) (by kernel_rfl) ?_
      repeat (go_big_quiet_step (first | with_reducible exact KeptOf.of (hK _)))
      refine Go.wpQuiet_nil ?_
      intro _ hw'
      obtain ⟨⟨W, hw⟩, hw''⟩ := hw'
      subst hw''
      go_wp2
      go_ret2
      exact ⟨by rw [HH.out, HE.out]; rfl, k1.trans hw⟩
    · have u2 : (p.un != f.unit) = false := by rw [bne, u1]; rfl
      cases u3 : (kd == 0)
      · have HE := Lib.hid (show Mt.hits zs f = true by rw [HHT.out, u1, u3]; rfl)
        go_wp2_with fail
        refine wp_region_kept (by kernel_rfl) (by kernel_rfl) ?_
        repeat (go_big_quiet_step (first | with_reducible exact KeptOf.of (hK _)))
        refine Go.wpQuiet_nil ?_
        intro _ hw'
        obtain ⟨⟨W, hw⟩, hw''⟩ := hw'
        subst hw''
        go_wp2
        go_ret2
        exact ⟨by rw [HH.out, HE.out]; rfl, k1.trans hw⟩
      · have HE := Lib.hid (show Mt.hits zs f = false by rw [HHT.out, u1, u3]; rfl)
        go_wp2_with fail
        refine wp_region_kept (by kernel_rfl) (by kernel_rfl) ?_
        repeat (go_big_quiet_step (first | with_reducible exact KeptOf.of (hK _)))
        refine Go.wpQuiet_nil ?_
        intro _ hw'
        obtain ⟨⟨W, hw⟩, hw''⟩ := hw'
        subst hw''
        go_wp2
        go_ret2
        exact ⟨by rw [HH.out, HE.out]; rfl, k1.trans hw⟩
set_option maxHeartbeats 1000000 in
theorem back_any (p : PendP) (f : FrameP) (w : World) :
    Calls Try.prog 14 #[aggQ p, aggF f] w fun e w' => e = .returned (aggF (Mt.back p f)) ∧ Keep w w' := by
  unfold aggQ
  go_enter Try.func14, Try.ntmps14
  go_wp2
  (try simp only [Exit.inBlock, Exit.then])
  refine bodyPost_ret (v := aggF (Mt.back p f)) ?_ rfl ⟨rfl, ?_⟩
  · rw [results_cell rfl]
    go_simp
    exact ⟨rfl, rfl, rfl⟩
  · repeat' (first | with_reducible exact Keep.refl _ | with_reducible refine Keep.alloc ?_ _ | with_reducible refine Below.setCell ?_ ?_ _ | (simp; done) | (simp; omega))
set_option maxHeartbeats 1000000 in
theorem fault_any (p : PendP) (c : Int) (w : World) :
    Calls Try.prog 12 #[aggQ p, .int .i64 c] w fun e w' => e = .returned (.tuple #[aggF (Mt.fault p c), .bool (Mt.faultOk p c)]) ∧ Keep w w' := by
  unfold aggQ
  obtain ⟨X, hX⟩ : ∃ X, X = (w.alloc (.cells (cellsQ p) 35)).alloc (.cells #[.int .i64 0, .int .i64 0, .string ⟨#[]⟩] 24) := ⟨_, rfl⟩
  have k0 : Keep w X := by rw [hX]; exact ((Keep.refl w).alloc _).alloc _
  have hs1 : w.heap.size < X.heap.size := by rw [hX]; simp; omega
  have hs2 : w.heap.size + 1 < X.heap.size := by rw [hX]; simp
  have b3 : X.cell? ⟨w.heap.size, 3, none⟩ = some (.int .i64 p.id) := by rw [hX]; go_simp
  have b4 : X.cell? ⟨w.heap.size, 4, none⟩ = some (.int .i64 p.un) := by rw [hX]; go_simp
  have b5 : X.cell? ⟨w.heap.size, 5, none⟩ = some (.int .i64 p.ak.fc) := by rw [hX]; go_simp
  have a0 : X.cell? ⟨w.heap.size + 1, 0, none⟩ = some (.int .i64 0) := by rw [hX]; go_simp
  have a1 : X.cell? ⟨w.heap.size + 1, 1, none⟩ = some (.int .i64 0) := by rw [hX]; go_simp
  have a2 : X.cell? ⟨w.heap.size + 1, 2, none⟩ = some (.string ⟨#[]⟩) := by rw [hX]; go_simp
  have f0 : ∀ j, X.frozen? ⟨w.heap.size + 1, j, none⟩ = false := fun j => by rw [hX]; go_simp
  have HX := Lib.hid hX
  have HF := Lib.hid (Ref7.fault_any p.ak.fc c X)
  have HE := Lib.hid (show Mt.fault p c = (if Mt.faultOk p c then ⟨p.id, p.un, st (Rp.fault p.ak.fc c)⟩ else Mb.zero) from rfl)
  obtain ⟨ok, hok⟩ : ∃ b, b = Rp.faultOk p.ak.fc c := ⟨_, rfl⟩
  have HOK := Lib.hid (show Mt.faultOk p c = ok by rw [hok]; rfl)
  rw [← hok] at HF
  obtain ⟨s, hs⟩ : ∃ s, s = st (Rp.fault p.ak.fc c) := ⟨_, rfl⟩
  rw [← hs] at HF HE
  clear hok hs hX
  go_enter Try.func12, Try.ntmps12
  go_wp2_with fail
  rw [← HX.out]
  refine HF.out.mono ?_
  rintro e V ⟨rfl, hk⟩
  replace b3 := (Below.cell hk hs1).trans b3
  replace b4 := (Below.cell hk hs1).trans b4
  replace a0 := (Below.cell hk hs2).trans a0
  replace a1 := (Below.cell hk hs2).trans a1
  replace a2 := (Below.cell hk hs2).trans a2
  replace f0 := fun j => (Below.frozen hk hs2).trans (f0 j)
  have hbW := k0.trans hk
  clear hk b5 hs1 hs2 k0
  cases ok
  · go_wp2
    (try simp only [Exit.inBlock, Exit.then])
    refine bodyPost_ret (v := .tuple #[aggF Mb.zero, .bool false]) ?_ rfl ⟨by rw [HE.out, HOK.out]; rfl, ?_⟩
    · rw [results_cell_tmp rfl]
      go_simp
      exact ⟨rfl, rfl, rfl⟩
    · clear a0 a1 a2 f0 b3 b4
      exact ((hbW.setCell (by simp) _).setCell (by simp) _).setCell (by simp) _
  · go_wp2
    (try simp only [Exit.inBlock, Exit.then])
    refine bodyPost_ret (v := .tuple #[.agg #[.int .i64 p.id, .int .i64 p.un, .string s], .bool true]) ?_ rfl ⟨by rw [HE.out, HOK.out]; rfl, ?_⟩
    · rw [results_cell_tmp rfl]
      go_simp
    · clear a0 a1 a2 f0 b3 b4
      exact ((hbW.setCell (by simp) _).setCell (by simp) _).setCell (by simp) _
/-- Few requests, of few values. -/
def fewB (zs : List PendP) : Bool := decide (zs.length ≤ 80) && zs.all fun p => decide (p.ak.vs.length ≤ 2000)
set_option maxHeartbeats 1000000 in
theorem few_any (A : Option Addr) (n c : Nat) (zs : List PendP) (w : World) (hn : n ≤ maxLen) (hA : Row encQ 12 w w.heap.size A n zs) :
    Calls Try.prog 6 #[.slice A n c] w fun e w' => e = .returned (.bool (fewB zs)) ∧ Quiet w w' := by
  have hl := Lib.hid hA.1
  unfold maxLen at hn
  by_cases h1 : 80 < n
  · have d1 : decide ((80 : Int) < (n : Int)) = true := by simp; omega
    have HE := Lib.hid (show fewB zs = false by unfold fewB; rw [show decide (zs.length ≤ 80) = false by simp; rw [hl.out]; exact h1]; rfl)
    clear h1
    go_enter Try.func6, Try.ntmps6
    go_wp2
    go_ret
    exact ⟨ret_bool HE.out.symm, Quiet.refl _⟩
  · have d1 : decide ((80 : Int) < (n : Int)) = false := by simp; omega
    have HE := Lib.hid (show fewB zs = zs.all fun p => decide (p.ak.vs.length ≤ 2000) by unfold fewB; rw [show decide (zs.length ≤ 80) = true by simp; rw [hl.out]; omega]; rfl)
    clear h1
    go_enter Try.func6, Try.ntmps6
    go_wp2
    go_loopw [3] (fun iv wr => ∃ k : Nat, k ≤ n ∧ iv = .int .i64 k ∧ Hid (∀ j, j < k → (zs.getD j Pn.zero).ak.vs.length ≤ 2000) ∧ Quiet w wr) (fun iv _ => n - (intOf iv).toNat)
    case atStart => exact ⟨0, Nat.zero_le _, rfl, Lib.hid (fun j hj => absurd hj (by omega)), Quiet.refl _⟩
    case round =>
      obtain ⟨k, hk, rfl, HK, hq⟩ := hrel
      by_cases hlt : k < n
      · obtain ⟨b, off, rfl, _⟩ := hA.addr (by omega)
        obtain ⟨_, hp⟩ := row_pend hA k hlt
        have hp' := hp.quiet hq
        obtain ⟨p, hpe⟩ : ∃ p, p = zs.getD k Pn.zero := ⟨_, rfl⟩
        rw [← hpe] at hp'
        have HP := Lib.hid hpe
        have HA := Lib.hid hA
        obtain ⟨_, _, _, _, _, _, _, _, _, _, c10, _⟩ := hp'
        clear hpe hA hp
        have hltz : (k : Int) < n := by omega
        have hk0 : (0 : Int) ≤ k := by omega
        by_cases h2 : 2000 < p.ak.vs.length
        · have d2 : decide ((2000 : Int) < (p.ak.vs.length : Int)) = true := by simp; omega
          have HN := Lib.hid (show fewB zs = false by
            rw [HE.out, List.all_eq_false]
            exact ⟨p, by rw [HP.out]; exact Pn.getD_mem zs k (by rw [hl.out]; exact hlt), by simp; exact h2⟩)
          clear h2
          go_wp2
          go_ret
          exact ⟨ret_bool HN.out.symm, hq⟩
        · have d2 : decide ((2000 : Int) < (p.ak.vs.length : Int)) = false := by simp; omega
          go_wp2
          refine ⟨⟨k + 1, by omega, by go_num, Lib.hid ?_, hq⟩, by simp [intOf]; omega⟩
          intro j hj
          rcases Nat.lt_succ_iff_lt_or_eq.1 hj with hj | rfl
          · exact HK.out j hj
          · rw [← HP.out]; omega
      · obtain rfl : k = n := by omega
        go_wp2
        go_ret
        refine ⟨ret_bool ?_, hq⟩
        rw [HE.out, eq_comm, List.all_eq_true]
        intro p hp
        obtain ⟨j, hj, rfl⟩ := List.mem_iff_getElem.1 hp
        have := HK.out j (by rw [← hl.out]; exact hj)
        rw [show zs.getD j Pn.zero = zs[j] by simp [List.getD, List.getElem?_eq_getElem hj]] at this
        simpa using this
theorem few_iff (zs : List PendP) : fewB zs = true ↔ zs.length ≤ 80 ∧ ∀ p ∈ zs, p.ak.vs.length ≤ 2000 := by
  simp [fewB]
end Go.Proofs.Ytijnajlijdnbcaa.Ref21
