/- Layer 15's law MeanTurned. Conditions: none beyond the law's own. -/
import Derived.Test.YtnbjhcemonkhhaaMeL2
import Derived.Test.YtnbjhcemonkhhaaRaw
import Derived.Deep.RegionHeld3
import Derived.Deep.Cut
namespace Go.Proofs.Ytnbjhcemonkhhaa.Mean
set_option linter.unusedVariables false
set_option linter.unusedSimpArgs false
set_option maxRecDepth 100000
open Go.ChangeShapes Go.WideShapes Go.ChangeAt Go.RowKit
open Tr (kind field rs lo hi of zero zeroR dp dp_of dp_pos Ex Exs ExIn ElemAt Rus RuleAt RulesIn ExprsIn wf wfL wfL_mk fits fitsL_mk wfR getD_mem all_snoc all_no ret_bool small_fits opens_expr)
open Fa (FaAt)
open Raw
open Me
/-- May one be of an and? -/
def partB (e : ExprP) : Bool := Tr.small e 4 && (Tr.right e && !(kind e == 0))
theorem short_mk {ls : List ExprP} {k : Int} (h : ∀ e ∈ ls, ∀ N, short N e) : ∀ N, short N (.mk k 0 [] 0 0 ls)
  | 0 => trivial
  | N + 1 => ⟨by show 0 ≤ 100000; omega, fun y hy => h y hy N⟩
/-- An and, or an or, of such. -/
theorem ok_mk {ls : List ExprP} {k : Int} (hk : k = 3 ∨ k = 4) (h2 : 2 ≤ ls.length) (h6 : ls.length ≤ 6) (hw : ∀ e ∈ ls, wf e) (hp : ∀ e ∈ ls, partB e = true) : okX (.mk k 0 [] 0 0 ls) := by
  have hp' : ∀ e ∈ ls, Tr.small e 4 = true ∧ Tr.right e = true ∧ kind e ≠ 0 := fun e he => by
    have := hp e he
    unfold partB at this
    simp only [Bool.and_eq_true, Bool.not_eq_true', beq_eq_false_iff_ne] at this
    exact this
  refine ⟨⟨?_, ?_⟩, short_mk fun e he N => small_short N e 4 (hp' e he).1, ?_⟩
  · rw [wf]
    refine ⟨⟨by rcases hk with rfl | rfl <;> decide, by decide⟩, fun p hp => by (cases hp), ⟨by decide, by decide⟩, ⟨by unfold maxLen; simp, by unfold maxLen; omega⟩, wfL_mk hw⟩
  · rw [fits]
    exact ⟨⟨by simp, by omega⟩, ⟨by decide, by decide⟩, fitsL_mk fun e he => (small_fits (dp e) e 4 (Nat.le_refl _) (hw e he) (hp' e he).1).1⟩
  · have hm : Tr.manyR k ls.length = true := by
      unfold Tr.manyR
      rw [if_neg (by omega), if_neg (by omega), if_pos hk]
      simpa using h2
    have hr : Tr.rightL ls = true := by
      rw [Tr.rightL_all, List.all_eq_true]
      intro e he
      have := hp' e he
      simp only [Bool.and_eq_true, Bool.not_eq_true', beq_eq_false_iff_ne]
      exact ⟨this.2.2, this.2.1⟩
    rw [Tr.right, if_neg (by omega), hm, hr]
    rfl
theorem wf_u8 {z : Int} (h : (Lit.int .u8 z).wf = true) : 0 ≤ z ∧ z ≤ 255 := by
  simp [Lit.wf] at h
  have e1 : IntKind.u8.min = 0 := rfl
  have e2 : IntKind.u8.max = 255 := rfl
  omega
set_option maxHeartbeats 16000000 in
theorem turned_any (A : Option Addr) (n c : Nat) (ls : List ExprP) (x : FactsP) (SA VA QA : Option Addr) (c1 c2 c3 : Nat) (t : Int) (w : World) (hR : ExprsIn w A n ls) (hc : n ≤ c) (hcm : c ≤ maxLen) (hF : FIn w x SA VA QA c3) (ht : (Lit.int .u8 t).wf = true) :
    Calls Try.prog 7 #[.slice A n c, .agg #[.int .i64 x.cl, .int .i64 x.un, .int .i64 x.fc, .slice SA x.sp.length c1, .slice VA x.vs.length c2, .slice QA x.rg.length c3], .int .u8 t] w fun e' w' => e' = .returned (.bool true) ∧ Keep w w' := by
  obtain ⟨rfl, hRu, hwR⟩ := hR
  obtain ⟨hFa, h3, h3m⟩ := hF
  have ht2 := wf_u8 ht
  obtain ⟨T, rfl⟩ : ∃ T : Nat, t = T := ⟨t.toNat, by omega⟩
  have hT : T ≤ 255 := by omega
  clear ht ht2
  have CW := Lib.hid (fun W => awake_any W)
  obtain ⟨X, hX⟩ : ∃ X, X = w.alloc (.cells #[.int .i64 x.cl, .int .i64 x.un, .int .i64 x.fc, .slice SA x.sp.length c1, .slice VA x.vs.length c2, .slice QA x.rg.length c3] 36) := ⟨_, rfl⟩
  have hkX : Keep w X := by rw [hX]; exact (Keep.refl w).alloc _
  have bF : Bx X w.heap.size [.int .i64 x.cl, .int .i64 x.un, .int .i64 x.fc, .slice SA x.sp.length c1, .slice VA x.vs.length c2, .slice QA x.rg.length c3] := by rw [hX]; exact Bx.newq rfl
  have HF := Lib.hid (show ∀ W, Keep X W → Bx W w.heap.size [.int .i64 x.cl, .int .i64 x.un, .int .i64 x.fc, .slice SA x.sp.length c1, .slice VA x.vs.length c2, .slice QA x.rg.length c3] from fun W hk => bF.kept hk)
  have hFX := hFa.kept hkX
  have hRX := hRu.kept hkX
  have CFF := Lib.hid (fun W => few_any x SA VA QA c1 c2 c3 W)
  clear bF hFa hRu
  by_cases g1 : ls.length < 2
  · have e1 : decide ((ls.length : Int) < 2) = true := by first | (simp; done) | (simp; omega)
    have e1' : decide (ls.length < 2) = true := decide_eq_true g1
    clear g1
    go_enter Try.func7, Try.ntmps7
    go_wp2_with fail
    refine (CW.out _).mono ?_
    rintro e9 w9 ⟨rfl, k9⟩
    go_wp2
    go_ret
    exact ⟨rfl, ((Keep.refl w).alloc _).trans k9⟩
  have e1 : decide ((ls.length : Int) < 2) = false := by first | (simp; done) | (simp; omega)
  have e1' : decide (ls.length < 2) = false := decide_eq_false g1
  by_cases g2 : 6 < ls.length
  · have e2 : decide ((ls.length : Int) > 6) = true := by first | (simp; done) | (simp; omega)
    have e2' : decide (6 < ls.length) = true := decide_eq_true g2
    clear g1 g2
    go_enter Try.func7, Try.ntmps7
    go_wp2_with fail
    refine (CW.out _).mono ?_
    rintro e9 w9 ⟨rfl, k9⟩
    go_wp2
    go_ret
    exact ⟨rfl, ((Keep.refl w).alloc _).trans k9⟩
  have e2 : decide ((ls.length : Int) > 6) = false := by first | (simp; done) | (simp; omega)
  have e2' : decide (6 < ls.length) = false := decide_eq_false g2
  have hn2 : 2 ≤ ls.length := by omega
  have hn6 : ls.length ≤ 6 := by omega
  cases hg : fewB x
  · rw [hg] at CFF
    clear hg g1 g2
    go_enter Try.func7, Try.ntmps7
    go_wp2_with fail
    rw [← hX]
    clear hX
    refine (CFF.out _).mono ?_
    rintro e4 w4 ⟨rfl, k4⟩
    go_wp2_with fail
    refine (CW.out _).mono ?_
    rintro e9 w9 ⟨rfl, k9⟩
    go_wp2
    go_ret
    exact ⟨rfl, (hkX.trans k4).trans k9⟩
  rw [hg] at CFF
  have hx := fewB_fewF hg
  have CSM := Lib.hid (fun (W : World) (e : ExprP) (RA' OA' : Option Addr) (rc' oc' : Nat) (hy : Ex W e RA' OA') => Tr.small_any (dp e) e RA' OA' rc' oc' 4 W (Nat.le_refl _) (by omega) (by omega) hy)
  have CRR := Lib.hid (fun (W : World) (e : ExprP) (RA' OA' : Option Addr) (rc' oc' : Nat) (hm : e ∈ ls) (hs : Tr.small e 4 = true) (hy : Ex W e RA' OA') => Tr.right_any (dp e) e RA' OA' rc' oc' W (Nat.le_refl _) (small_fits (dp e) e 4 (Nat.le_refl _) (hwR e hm) hs).1 hy)
  clear hg g1 g2
  go_enter Try.func7, Try.ntmps7
  go_wp2_with fail
  rw [← hX]
  clear hX
  refine (CFF.out _).mono ?_
  rintro e4 w4 ⟨rfl, k14⟩
  clear CFF e1 e2 e1' e2'
  go_wp2
  go_loopw [7] (fun iv wr => ∃ j : Nat, j ≤ ls.length ∧ iv = .int .i64 j ∧ Hid ((ls.take j).all partB = true) ∧ Keep X wr) (fun iv _ => ls.length - (intOf iv).toNat)
  case atStart => exact ⟨0, Nat.zero_le _, rfl, rfl, k14⟩
  case round =>
    obtain ⟨j, hj, rfl, hall, hk⟩ := hrel
    by_cases hlt : j < ls.length
    · have hi1 : (j : Int) < ls.length := by omega
      have hj0 : (0 : Int) ≤ j := by omega
      have hOw := hRX.kept hk
      obtain ⟨b, off, rfl, _⟩ := hOw.addr (by omega)
      obtain ⟨hbb, RA', OA', rc', oc', hx6, hy⟩ := hOw.elem j hlt
      have hm := getD_mem zero ls j hlt
      have HN := Lib.hid (all_snoc partB zero ls j hlt)
      obtain ⟨y, hu⟩ : ∃ y, ls.getD j zero = y := ⟨_, rfl⟩
      rw [hu] at hx6 hm HN hy
      have HX6 := Lib.hid (fun W (h : Keep wr W) => hx6.kept hbb h)
      obtain ⟨r0, r1, r2, r3, r4, r5⟩ := hx6
      have hC1 := CSM.out wr y RA' OA' rc' oc' hy
      clear hOw hu
      cases hs : Tr.small y 4
      · rw [hs] at hC1
        replace hC1 := Lib.hid hC1
        clear hs HN hlt
        go_wp2_with fail
        refine hC1.out.mono ?_
        rintro e5 w5 ⟨rfl, k5⟩
        go_wp2_with fail
        refine (CW.out _).mono ?_
        rintro e9 w9 ⟨rfl, k9⟩
        go_wp2
        go_ret
        exact ⟨rfl, ((hkX.trans hk).trans k5).trans k9⟩
      rw [hs] at hC1
      replace hC1 := Lib.hid hC1
      have hC2 := Lib.hid (fun W (h : Keep wr W) => CRR.out W y RA' OA' rc' oc' hm hs (hy.kept h))
      cases hv : Tr.right y
      · rw [hv] at hC2
        clear hs hv HN hlt
        go_wp2_with fail
        refine hC1.out.mono ?_
        rintro e5 w5 ⟨rfl, k5⟩
        clear r0 r1 r2 r3 r4 r5
        obtain ⟨r0, r1, r2, r3, r4, r5⟩ := HX6.out _ k5
        go_wp2_with fail
        refine (hC2.out _ k5).mono ?_
        rintro e6 w6 ⟨rfl, k6⟩
        go_wp2_with fail
        refine (CW.out _).mono ?_
        rintro e9 w9 ⟨rfl, k9⟩
        go_wp2
        go_ret
        exact ⟨rfl, (((hkX.trans hk).trans k5).trans k6).trans k9⟩
      rw [hv] at hC2
      by_cases hz : kind y = 0
      · have q1 : (kind y == 0) = true := by simpa using hz
        clear hs hv HN hlt hz
        go_wp2_with fail
        refine hC1.out.mono ?_
        rintro e5 w5 ⟨rfl, k5⟩
        clear r0 r1 r2 r3 r4 r5
        obtain ⟨r0, r1, r2, r3, r4, r5⟩ := HX6.out _ k5
        go_wp2_with fail
        refine (hC2.out _ k5).mono ?_
        rintro e6 w6 ⟨rfl, k6⟩
        clear r0 r1 r2 r3 r4 r5
        obtain ⟨r0, r1, r2, r3, r4, r5⟩ := HX6.out _ (k5.trans k6)
        go_wp2_with fail
        refine (CW.out _).mono ?_
        rintro e9 w9 ⟨rfl, k9⟩
        go_wp2
        go_ret
        exact ⟨rfl, (((hkX.trans hk).trans k5).trans k6).trans k9⟩
      · have q1 : (kind y == 0) = false := by simpa using hz
        have HFF := Lib.hid (show (ls.take (j + 1)).all partB = true by
          rw [HN.out, hall.out]
          show partB y = true
          unfold partB
          rw [hs, hv, q1]; rfl)
        clear hs hv HN hlt hz
        go_wp2_with fail
        refine hC1.out.mono ?_
        rintro e5 w5 ⟨rfl, k5⟩
        clear r0 r1 r2 r3 r4 r5
        obtain ⟨r0, r1, r2, r3, r4, r5⟩ := HX6.out _ k5
        go_wp2_with fail
        refine (hC2.out _ k5).mono ?_
        rintro e6 w6 ⟨rfl, k6⟩
        clear r0 r1 r2 r3 r4 r5
        obtain ⟨r0, r1, r2, r3, r4, r5⟩ := HX6.out _ (k5.trans k6)
        go_wp2
        go_roundw
        case rel => exact ⟨j + 1, by omega, by go_num, HFF, (hk.trans k5).trans k6⟩
        case measure => simp [intOf]; omega
    · obtain rfl : j = ls.length := by omega
      have hl : ∀ e ∈ ls, partB e = true := List.all_eq_true.1 (by have := hall.out; rwa [List.take_length] at this)
      clear hall CRR CSM k14
      have hRw := hRX.kept hk
      obtain ⟨raws, hmap, hrow, hex⟩ := raws_ofE hRw
      obtain ⟨K, hK, hKn⟩ : ∃ K : Nat, (T : Int) % ls.length = K ∧ K < ls.length := ⟨T % ls.length, by rfl, Nat.mod_lt _ (by omega)⟩
      have HOK := Lib.hid (fun (k : Int) (hk : k = 3 ∨ k = 4) => ok_mk hk hn2 hn6 hwR hl)
      have HOM := Lib.hid (fun (k : Int) (hk : k = 3 ∨ k = 4) => (ok_mk hk (by rw [List.length_append, List.length_drop, List.length_take]; omega) (by rw [List.length_append, List.length_drop, List.length_take]; omega) (fun e he => by
        rcases List.mem_append.1 he with he | he
        · exact hwR e (List.mem_of_mem_drop he)
        · exact hwR e (List.mem_of_mem_take he)) (fun e he => by
        rcases List.mem_append.1 he with he | he
        · exact hl e (List.mem_of_mem_drop he)
        · exact hl e (List.mem_of_mem_take he)) : okX (.mk k 0 [] 0 0 (ls.drop K ++ ls.take K))))
      have HTU := Lib.hid (fun (k : Int) (hk : k = 3 ∨ k = 4) => turned x ls K k hk)
      have hlr : raws.length = ls.length := hrow.1
      obtain ⟨b, off, rfl, _⟩ := hrow.addr (by omega)
      have hK0 : (0 : Int) ≤ K := by omega
      have hK1 : (K : Int) ≤ ls.length := by omega
      have hK2 : (K : Int) ≤ c := by omega
      have hnc : (ls.length : Int) ≤ c := by omega
      have hK3 : K ≤ ls.length := by omega
      have hnm : (0 : Int) < ls.length := by omega
      have hn0 : ((ls.length : Int) == 0) = false := by rw [beq_eq_false_iff_ne]; omega
      have hsrc1 : Row encE 6 (wr.alloc (.cells #[] 43)).drew wr.heap.size (if c = K then some ⟨b, off, none⟩ else some ⟨b, off + K * 6, none⟩) (ls.length - K) (raws.drop K) := (hrow.tail K hK3 hc).below (keep_drew (Keep.alloc (Keep.refl wr) _))
      have HRW := Lib.hid hrow
      have HEX := Lib.hid hex
      clear hl hex hwR
      go_wp2
      rw [hK]
      clear hK
      go_region_held3 (fun w' => Keep wr w')
        (first
          | exact Keep.refl wr
          | exact keep_drew (Keep.refl wr)
          | exact keep_drew (Keep.alloc (Keep.refl wr) _)
          | exact hw
          | fail)
        ((first
          | (have hsrc2 := (hrow.take K hK3).below hw; refine step_append_rows (by rfl) _ _ 41 (by rfl) wr.heap.size 43 _ 80 Try.underlying41 info_expr rfl (by omega) encE_len encE_one v2 _ _ (by rfl) hown2 hw.size wr.heap.size _ K _ _ (by rfl) (hsrc2) (by unfold maxLen; omega) (by omega) ?_; intro v3 w3 hown3 hg3 hat3 hb3; have hsum : 0 + (ls.length - K) + K = ls.length := (by omega); rw [hsum] at hown3; have hw : Keep wr w3 := Below.trans hw hb3; obtain ⟨A3, c3', rfl⟩ := own_slice hown3; have hr3 := Row.of_own encE_len hown3 (by omega))
          | (refine step_append_rows (by rfl) _ _ 41 (by rfl) wr.heap.size 43 _ 80 Try.underlying41 info_expr rfl (by omega) encE_len encE_one (.slice (some ⟨wr.heap.size, 0, none⟩) 0 0) 0 [] (by rfl) (World.ownsRow_lit wr #[] 0 (Nat.le_refl _) (Nat.zero_le _) rfl).drew (by simp) wr.heap.size _ (ls.length - K) _ _ (by rfl) (hsrc1) (by unfold maxLen; omega) (by omega) ?_; intro v2 w2 hown2 hg2 hat2 hb2; have hw : Keep wr w2 := Below.trans (keep_drew (Keep.alloc (Keep.refl wr) _)) hb2)
          | fail))
      have hlen : (ls.drop K ++ ls.take K).length = ls.length := by rw [List.length_append, List.length_drop, List.length_take]; omega
      have hE3 : Exs w3 A3 (ls.drop K ++ ls.take K) := by
        have := exs_of hr3 (fun y hy => by
          have hm : y ∈ raws := by
            simp only [List.nil_append, List.mem_append] at hy
            rcases hy with hy | hy
            · exact List.mem_of_mem_drop hy
            · exact List.mem_of_mem_take hy
          exact (HEX.out y hm).kept hw)
        rw [List.nil_append, List.map_append, List.map_drop, List.map_take, hmap] at this
        exact this
      have hkw := hk.trans hw
      have hFw := hFX.kept hkw
      have hRw3 := hRw.kept hw
      clear hr3 hown3 hown2 hsrc1 hrow HRW HEX hmap hRw hRX hFX hg3 hat3 hb3 hg2 hat2 hb2
      go_wp2
      go_loopw [10] (fun kv wq => ∃ k : Nat, (3 ≤ k ∧ k ≤ 5) ∧ kv = .int .i64 k ∧ Keep w3 wq) (fun kv _ => 5 - (intOf kv).toNat)
      case atStart => exact ⟨3, ⟨by omega, by omega⟩, rfl, Keep.refl _⟩
      case round =>
        obtain ⟨k, ⟨hk3, hk5⟩, rfl, hkq⟩ := hrel
        by_cases hk4 : k ≤ 4
        · have hk34 : (k : Int) = 3 ∨ (k : Int) = 4 := by omega
          have q0 : (k : Int) ≤ 4 := by omega
          have o1 := HOK.out k hk34
          have o2 := HOM.out k hk34
          have ht := HTU.out k hk34
          have hC1 := fun p : KeptOf wr => holdsN x SA VA QA c1 c2 c3 h3 h3m hx (dp (.mk k 0 [] 0 0 ls)) (.mk k 0 [] 0 0 ls) none (some ⟨b, off, none⟩) 0 c p.w (Nat.le_refl _) o1.1 (o1.2.1 _) o1.2.2 ⟨Row.none_ _ _ _, (hRw3.kept (hkq.trans p.h))⟩ (hFw.kept (hkq.trans p.h))
          have hC2 := fun p : KeptOf wr => holdsN x SA VA QA c1 c2 c3 h3 h3m hx (dp (.mk k 0 [] 0 0 (ls.drop K ++ ls.take K))) (.mk k 0 [] 0 0 (ls.drop K ++ ls.take K)) none A3 0 c3' p.w (Nat.le_refl _) o2.1 (o2.2.1 _) o2.2.2 ⟨Row.none_ _ _ _, (hE3.kept (hkq.trans p.h))⟩ (hFw.kept (hkq.trans p.h))
          rw [ht] at hC2
          simp only [kind, field, rs, lo, hi, of, List.length_nil, hlen] at hC1 hC2
          generalize holds x (.mk k 0 [] 0 0 ls) = v at hC1 hC2
          have g0 := fun p : KeptOf wr => (HF.out _ ((hkw.trans hkq).trans p.h)).six
          have f0 := fun p => (g0 p).1
          have f1 := fun p => (g0 p).2.1
          have f2 := fun p => (g0 p).2.2.1
          have f3 := fun p => (g0 p).2.2.2.1
          have f4 := fun p => (g0 p).2.2.2.2.1
          have f5 := fun p => (g0 p).2.2.2.2.2
          clear o1 o2 ht g0 hk34
          cases v
          · go_wp2
            refine wp_region_kept (by kernel_rfl) (by kernel_rfl) ?_
            repeat (go_big_quiet_step (first | with_reducible exact KeptOf.of (hC1 _) | with_reducible exact KeptOf.of (hC2 _)))
            refine Go.wpQuiet_nil ?_
            intro _ hw'
            obtain ⟨⟨V, hw9⟩, hw''⟩ := hw'
            subst hw''
            go_wp2
            go_roundw
            case rel => exact ⟨k + 1, ⟨by omega, by omega⟩, by go_num, hkq.trans hw9⟩
            case measure => simp [intOf]; omega
          · go_wp2
            refine wp_region_kept (by kernel_rfl) (by kernel_rfl) ?_
            repeat (go_big_quiet_step (first | with_reducible exact KeptOf.of (hC1 _) | with_reducible exact KeptOf.of (hC2 _)))
            refine Go.wpQuiet_nil ?_
            intro _ hw'
            obtain ⟨⟨V, hw9⟩, hw''⟩ := hw'
            subst hw''
            go_wp2
            go_roundw
            case rel => exact ⟨k + 1, ⟨by omega, by omega⟩, by go_num, hkq.trans hw9⟩
            case measure => simp [intOf]; omega
        · have q0 : ¬ (k : Int) ≤ 4 := by omega
          have q1 : decide ((k : Int) ≤ 4) = false := decide_eq_false q0
          have q2 : decide (k ≤ 4) = false := decide_eq_false hk4
          clear q0
          go_wp2_with fail
          refine (CW.out _).mono ?_
          rintro e9 w9 ⟨rfl, k9⟩
          go_wp2
          go_ret
          exact ⟨rfl, ((hkX.trans hkw).trans hkq).trans k9⟩
end Go.Proofs.Ytnbjhcemonkhhaa.Mean
