/- Layer 21's own contracts. Conditions: lists of at most a million, texts of at most a hundred thousand bytes. -/
import Derived.Test.YtijnajlijdnbcaaMtR
import Derived.Test.YtijnajlijdnbcaaPn
import Derived.Test.YtijnajlijdnbcaaRp
namespace Go.Proofs.Ytijnajlijdnbcaa.Match
set_option linter.unusedVariables false
set_option linter.unusedSimpArgs false
set_option maxRecDepth 100000
open Go.ChangeShapes Go.WideShapes Go.ChangeAt Go.RowKit
open Pn (encQ row_pend PAt Vals cellsQ aggQ ret_bool ret_int)
open Ref21 (aggF results_cell)
/-- Whether a frame whose number is this request's answers it. -/
def ans (p : PendP) (f : FrameP) : Bool := f.unit == p.un && !(Rp.kind p.ak f.pdu == 0)
set_option maxHeartbeats 1000000 in
theorem isAnswer_any (p : PendP) (f : FrameP) (w : World) (hn : p.ak.vs.length ≤ 1000000) (hs : f.pdu.size ≤ 100000) (hA : Ints .i64 w w.heap.size p.A p.ak.vs.length p.ak.vs) :
    Calls Try.prog 19 #[aggQ p, aggF f] w fun e w' => e = .returned (.bool (ans p f)) ∧ Keep w w' := by
  obtain ⟨X, hX⟩ : ∃ X, X = (w.alloc (.cells (cellsQ p) 35)).alloc (.cells #[.int .i64 f.id, .int .i64 f.unit, .string f.pdu] 24) := ⟨_, rfl⟩
  have k0 : Keep w X := by rw [hX]; exact ((Keep.refl w).alloc _).alloc _
  have HK := Lib.hid (Reply.kind_any p.A p.ak.vs.length p.c p.ak f.pdu X hn hs (hA.kept k0))
  have HE := Lib.hid (show ans p f = (f.unit == p.un && !(Rp.kind p.ak f.pdu == 0)) from rfl)
  obtain ⟨kd, hkd⟩ : ∃ x, x = Rp.kind p.ak f.pdu := ⟨_, rfl⟩
  rw [← hkd] at HK HE
  have HX := Lib.hid hX
  clear hkd hA hX hn hs
  unfold aggQ
  cases u1 : (f.unit == p.un)
  · have HV := Lib.hid (show ans p f = false by rw [HE.out, u1]; rfl)
    go_enter Try.func19, Try.ntmps19
    go_wp2_with fail
    go_ret
    exact ⟨ret_bool HV.out.symm, by rw [← HX.out]; exact k0⟩
  · have HV := Lib.hid (show ans p f = (kd != 0) by rw [HE.out, u1]; rfl)
    obtain ⟨v, hv⟩ : ∃ v, v = (kd != 0) := ⟨_, rfl⟩
    rw [← hv] at HV
    replace hv := hv.symm
    go_enter Try.func19, Try.ntmps19
    go_wp2_with fail
    rw [← HX.out]
    refine HK.out.mono ?_
    rintro e w1 ⟨rfl, hk⟩
    go_wp2
    go_ret
    exact ⟨ret_bool HV.out.symm, k0.trans hk⟩
set_option maxHeartbeats 2000000 in
theorem find_any (A : Option Addr) (n c : Nat) (zs : List PendP) (f : FrameP) (w : World) (hn : n ≤ 1000000) (hc : n ≤ c) (hcm : c ≤ maxLen) (hr : Pn.right zs = true) (hA : Row encQ 12 w w.heap.size A n zs) (hV : Vals w zs) (hs : ∀ p ∈ zs, p.ak.vs.length ≤ 1000000) (hf : f.pdu.size ≤ 100000) :
    Calls Try.prog 9 #[.slice A n c, aggF f] w fun e w' => e = .returned (.tuple #[.int .i64 (Mt.find zs f), .bool (Mt.hits zs f)]) ∧ Keep w w' := by
  have hl := Lib.hid hA.1
  obtain ⟨X, hX⟩ : ∃ X, X = w.alloc (.cells #[.int .i64 f.id, .int .i64 f.unit, .string f.pdu] 24) := ⟨_, rfl⟩
  have k0 : Keep w X := by rw [hX]; exact (Keep.refl w).alloc _
  have hlt : w.heap.size < X.heap.size := by rw [hX]; simp
  have b0 : X.cell? ⟨w.heap.size, 0, none⟩ = some (.int .i64 f.id) := by rw [hX]; go_simp
  have b1 : X.cell? ⟨w.heap.size, 1, none⟩ = some (.int .i64 f.unit) := by rw [hX]; go_simp
  have b2 : X.cell? ⟨w.heap.size, 2, none⟩ = some (.string f.pdu) := by rw [hX]; go_simp
  have HF := Lib.hid (Pend.find_any A n c zs f.id X hn hc hcm (hA.kept k0))
  have HA := Lib.hid (hA.kept k0)
  have HV := Lib.hid (hV.kept k0)
  have hfr := Pn.find_range zs f.id
  obtain ⟨v, hv⟩ : ∃ v, v = Pn.find zs f.id := ⟨_, rfl⟩
  have HH := Lib.hid (show Mt.find zs f = (if Mt.hits zs f then v else 0) by unfold Mt.find; rw [hv])
  have hhits := show Mt.hits zs f = (decide (0 ≤ v) && ((zs.getD v.toNat Pn.zero).un == f.unit && !(Rp.kind (zs.getD v.toNat Pn.zero).ak f.pdu == 0))) by unfold Mt.hits; rw [hv]
  rw [← hv] at HF hfr
  have HX := Lib.hid hX
  clear hv hA hV hX hr
  by_cases hv0 : v < 0
  · have HE := Lib.hid (show Mt.hits zs f = false by rw [hhits, show decide (0 ≤ v) = false by simp; omega]; rfl)
    have d0 : decide (v < 0) = true := by simp [hv0]
    clear hhits hfr hv0
    go_enter Try.func9, Try.ntmps9
    go_wp2_with fail
    rw [← HX.out]
    refine HF.out.mono ?_
    rintro e w1 ⟨rfl, kq⟩
    have k1 := k0.trans kq
    clear kq
    go_wp2_with fail
    refine wp_region_kept (by kernel_rfl) (by kernel_rfl) ?_
    repeat (go_big_quiet_step (fail))
    refine Go.wpQuiet_nil ?_
    intro _ hw'
    obtain ⟨⟨W, hw⟩, hw''⟩ := hw'
    subst hw''
    go_wp2
    go_ret2
    exact ⟨by rw [HH.out, HE.out]; rfl, k1.trans hw⟩
  · obtain ⟨k, rfl⟩ : ∃ k : Nat, v = k := ⟨v.toNat, by omega⟩
    have hkz : k < zs.length := by have := hfr.2; omega
    have hkn : k < n := by rw [← hl.out]; exact hkz
    rw [Int.toNat_natCast] at hhits
    obtain ⟨b, off, rfl, _⟩ := HA.out.addr (by omega)
    obtain ⟨hb, hp⟩ := row_pend HA.out k hkn
    have hmem := Pn.getD_mem zs k hkz
    obtain ⟨p, hpe⟩ : ∃ p, p = zs.getD k Pn.zero := ⟨_, rfl⟩
    rw [← hpe] at hp hmem hhits
    have hI := Lib.hid (And.intro (hs p hmem) (HV.out p hmem).1)
    have hhits' : Mt.hits zs f = ans p f := by
      rw [hhits, show decide ((0 : Int) ≤ (k : Int)) = true by simp, ans, Bool.true_and, Bool.beq_comm (a := p.un)]
    obtain ⟨r, hre⟩ : ∃ r, r = ans p f := ⟨_, rfl⟩
    rw [← hre] at hhits'
    have HHT := Lib.hid hhits'
    have HR := Lib.hid hre
    have HP := Lib.hid hp
    have d0 : decide ((k : Int) < 0) = false := by simp
    have hkn' : (k : Int) < n := by omega
    have hk0 : (0 : Int) ≤ k := by omega
    clear hhits hhits' hpe hmem hs hp hfr hv0 hre
    go_enter Try.func9, Try.ntmps9
    go_wp2_with fail
    rw [← HX.out]
    refine HF.out.mono ?_
    rintro e w1 ⟨rfl, kq⟩
    have k1 := k0.trans kq
    have hlt1 : w.heap.size < w1.heap.size := Nat.lt_of_lt_of_le hlt kq.size
    have hb1 := Nat.lt_of_lt_of_le hb kq.size
    have hc := fun q : KeptOf w1 => (HP.out.kept hb kq).kept hb1 q.h
    have c0 := fun q => (hc q).1
    have c1 := fun q => (hc q).2.1
    have c2 := fun q => (hc q).2.2.1
    have c3 := fun q => (hc q).2.2.2.1
    have c4 := fun q => (hc q).2.2.2.2.1
    have c5 := fun q => (hc q).2.2.2.2.2.1
    have c6 := fun q => (hc q).2.2.2.2.2.2.1
    have c7 := fun q => (hc q).2.2.2.2.2.2.2.1
    have c8 := fun q => (hc q).2.2.2.2.2.2.2.2.1
    have c9 := fun q => (hc q).2.2.2.2.2.2.2.2.2.1
    have c10 := fun q => (hc q).2.2.2.2.2.2.2.2.2.2.1
    have c11 := fun q => (hc q).2.2.2.2.2.2.2.2.2.2.2
    have e0 : ∀ q : KeptOf w1, q.w.cell? ⟨w.heap.size, 0, none⟩ = some (.int .i64 f.id) := fun q => (Below.cell q.h hlt1).trans ((Below.cell kq hlt).trans b0)
    have e1 : ∀ q : KeptOf w1, q.w.cell? ⟨w.heap.size, 1, none⟩ = some (.int .i64 f.unit) := fun q => (Below.cell q.h hlt1).trans ((Below.cell kq hlt).trans b1)
    have e2 : ∀ q : KeptOf w1, q.w.cell? ⟨w.heap.size, 2, none⟩ = some (.string f.pdu) := fun q => (Below.cell q.h hlt1).trans ((Below.cell kq hlt).trans b2)
    have hK := fun q : KeptOf w1 => isAnswer_any p f q.w hI.out.1 hf (hI.out.2.kept (kq.trans q.h))
    rw [← HR.out] at hK
    simp only [aggQ, cellsQ] at hK
    have HB := Lib.hid b0
    clear hc b0 b1 b2 hlt hb hlt1 hb1
    cases r
    · have HE := Lib.hid (show Mt.hits zs f = false from HHT.out)
      go_wp2_with fail
      refine wp_region_kept (by kernel_rfl) (by kernel_rfl) ?_
      repeat (go_big_quiet_step (first | with_reducible exact KeptOf.of (hK _)))
      refine Go.wpQuiet_nil ?_
      intro _ hw'
      obtain ⟨⟨W, hw⟩, hw''⟩ := hw'
      subst hw''
      go_wp2
      go_ret2
      exact ⟨by rw [HH.out, HE.out]; rfl, k1.trans hw⟩
    · have HE := Lib.hid (show Mt.hits zs f = true from HHT.out)
      go_wp2_with fail
      refine wp_region_kept (by kernel_rfl) (by kernel_rfl) ?_
      repeat (go_big_quiet_step (first | with_reducible exact KeptOf.of (hK _)))
      refine Go.wpQuiet_nil ?_
      intro _ hw'
      obtain ⟨⟨W, hw⟩, hw''⟩ := hw'
      subst hw''
      go_wp2
      go_ret2
      exact ⟨by rw [HH.out, HE.out]; rfl, k1.trans hw⟩
set_option maxHeartbeats 1000000 in
theorem back_any (p : PendP) (f : FrameP) (w : World) :
    Calls Try.prog 13 #[aggQ p, aggF f] w fun e w' => e = .returned (aggF (Mt.back p f)) ∧ Keep w w' := by
  unfold aggQ
  go_enter Try.func13, Try.ntmps13
  go_wp2
  (try simp only [Exit.inBlock, Exit.then])
  refine bodyPost_ret (v := aggF (Mt.back p f)) ?_ rfl ⟨rfl, ?_⟩
  · rw [results_cell rfl]
    go_simp
    (first | exact ⟨rfl, rfl, rfl⟩ | rfl)
  · repeat' (first | with_reducible exact Keep.refl _ | with_reducible refine Keep.alloc ?_ _ | with_reducible refine Below.setCell ?_ ?_ _ | (simp; done) | (simp; omega))
set_option maxHeartbeats 1000000 in
theorem fault_any (p : PendP) (c : Int) (w : World) :
    Calls Try.prog 11 #[aggQ p, .int .i64 c] w fun e w' => e = .returned (.tuple #[aggF (Mt.fault p c), .bool (Mt.faultOk p c)]) ∧ Keep w w' := by
  unfold aggQ
  obtain ⟨X, hX⟩ : ∃ X, X = (w.alloc (.cells (cellsQ p) 35)).alloc (.cells #[.int .i64 0, .int .i64 0, .string ⟨#[]⟩] 24) := ⟨_, rfl⟩
  have k0 : Keep w X := by rw [hX]; exact ((Keep.refl w).alloc _).alloc _
  have hs1 : w.heap.size < X.heap.size := by rw [hX]; simp; omega
  have hs2 : w.heap.size + 1 < X.heap.size := by rw [hX]; simp
  have b3 : X.cell? ⟨w.heap.size, 3, none⟩ = some (.int .i64 p.id) := by rw [hX]; go_simp
  have b4 : X.cell? ⟨w.heap.size, 4, none⟩ = some (.int .i64 p.un) := by rw [hX]; go_simp
  have b5 : X.cell? ⟨w.heap.size, 5, none⟩ = some (.int .i64 p.ak.fc) := by rw [hX]; go_simp
  have a0 : X.cell? ⟨w.heap.size + 1, 0, none⟩ = some (.int .i64 0) := by rw [hX]; go_simp
  have a1 : X.cell? ⟨w.heap.size + 1, 1, none⟩ = some (.int .i64 0) := by rw [hX]; go_simp
  have a2 : X.cell? ⟨w.heap.size + 1, 2, none⟩ = some (.string ⟨#[]⟩) := by rw [hX]; go_simp
  have f0 : ∀ j, X.frozen? ⟨w.heap.size + 1, j, none⟩ = false := fun j => by rw [hX]; go_simp
  have HX := Lib.hid hX
  have HF := Lib.hid (Reply.fault_any p.ak.fc c X)
  have HE := Lib.hid (show Mt.fault p c = (if Mt.faultOk p c then ⟨p.id, p.un, st (Rp.fault p.ak.fc c)⟩ else Mb.zero) from rfl)
  obtain ⟨ok, hok⟩ : ∃ b, b = Rp.faultOk p.ak.fc c := ⟨_, rfl⟩
  have HOK := Lib.hid (show Mt.faultOk p c = ok by rw [hok]; rfl)
  rw [← hok] at HF
  obtain ⟨s, hs⟩ : ∃ s, s = st (Rp.fault p.ak.fc c) := ⟨_, rfl⟩
  rw [← hs] at HF HE
  clear hok hs hX
  go_enter Try.func11, Try.ntmps11
  go_wp2_with fail
  rw [← HX.out]
  refine HF.out.mono ?_
  rintro e V ⟨rfl, hk⟩
  replace b3 := (Below.cell hk hs1).trans b3
  replace b4 := (Below.cell hk hs1).trans b4
  replace a0 := (Below.cell hk hs2).trans a0
  replace a1 := (Below.cell hk hs2).trans a1
  replace a2 := (Below.cell hk hs2).trans a2
  replace f0 := fun j => (Below.frozen hk hs2).trans (f0 j)
  have hbW := k0.trans hk
  clear hk b5 hs1 hs2 k0
  cases ok
  · go_wp2
    (try simp only [Exit.inBlock, Exit.then])
    refine bodyPost_ret (v := .tuple #[aggF Mb.zero, .bool false]) ?_ rfl ⟨by rw [HE.out, HOK.out]; rfl, ?_⟩
    · rw [results_cell_tmp rfl]
      go_simp
      exact ⟨rfl, rfl, rfl⟩
    · clear a0 a1 a2 f0 b3 b4
      exact ((hbW.setCell (by simp) _).setCell (by simp) _).setCell (by simp) _
  · go_wp2
    (try simp only [Exit.inBlock, Exit.then])
    refine bodyPost_ret (v := .tuple #[.agg #[.int .i64 p.id, .int .i64 p.un, .string s], .bool true]) ?_ rfl ⟨by rw [HE.out, HOK.out]; rfl, ?_⟩
    · rw [results_cell_tmp rfl]
      go_simp
    · clear a0 a1 a2 f0 b3 b4
      exact ((hbW.setCell (by simp) _).setCell (by simp) _).setCell (by simp) _
end Go.Proofs.Ytijnajlijdnbcaa.Match
