/- Layer 4: the law SpanJoins. Conditions: none beyond the law's own. -/
import Derived.Test.YtabmgneoliopaaaSpW
namespace Go.Proofs.Ytabmgneoliopaaa.Span
open Go.Shelf Go.ChangeShapes Go.WideShapes Go.ChangeAt Go.RowKit

set_option maxHeartbeats 2000000 in
theorem joinslaw_any (A : Option Addr) (na ca : Nat) (za : List (Int × Int)) (B : Option Addr) (nb cb : Nat) (zb : List (Int × Int)) (w : World) (iA : PairsIn w A na za) (iB : PairsIn w B nb zb) :
    Calls Try.prog 6 #[.slice A na ca, .slice B nb cb] w fun e w' => e = .returned (.bool true) ∧ Keep w w' := by
  by_cases hA30 : 30 < na
  · clear iA iB
    go_enter Try.func6, Try.ntmps6
    go_wp2_with fail
    refine (awake_any _).mono ?_
    rintro e w1 ⟨rfl, k1⟩
    go_wp2
    go_ret
    exact ⟨rfl, k1⟩
  · by_cases hB30 : 30 < nb
    · clear iA iB
      go_enter Try.func6, Try.ntmps6
      go_wp2_with fail
      refine (awake_any _).mono ?_
      rintro e w1 ⟨rfl, k1⟩
      go_wp2
      go_ret
      exact ⟨rfl, k1⟩
    · have fA := fit_of_in iA.2
      have fB := fit_of_in iB.2
      have rA0 := iA.1
      have rB0 := iB.1
      clear iA iB
      have rA := fun W (h : Keep w W) => rA0.kept h
      have rB := fun W (h : Keep w W) => rB0.kept h
      have k0 : Keep w (w.alloc (.cells #[] 24)) := (Keep.refl _).alloc _
      have hown0 := World.ownsRow_lit (base := w.heap.size) (e := 24) (size := 2) w #[] 0 (Nat.le_refl _) (Nat.zero_le _) rfl
      have HLA := Lib.hid rA0.1
      have HLB := Lib.hid rB0.1
      clear rA0 rB0
      go_enter Try.func6, Try.ntmps6
      go_wp2_with fail
      refine (norm_any A na ca za _ (by omega) (rA _ k0) fA).mono ?_
      rintro e w1 ⟨⟨A1, n1, c1, rfl, l1, l1', row1, k1⟩, okA, len1⟩
      have hown1 := own_keep hown0 k1
      have kk1 := k0.trans k1
      have hn1 : n1 ≤ 30 := by have := row1.1; have := HLA.out; omega
      have hks1 := kk1.size
      clear hown0 k0 k1 len1
      go_wp2_with (at_builtin; refine append_rows rfl _ _ 22 rfl w.heap.size 24 _ 16 Try.underlying22 info_range rfl (by omega) encP_len encP_one _ 0 [] rfl hown1 hks1 _ A1 n1 c1 (Sp.norm za) rfl row1 (by unfold maxLen; omega) (by omega) ?_)
      intro v2 w2 hown2 hb2
      have kk2 : Keep w w2 := Below.trans kk1 hb2
      replace hown2 : w2.ownsRow w.heap.size 24 2 v2 n1 (flat encP (Sp.norm za)) := by simpa using hown2
      clear hown1 kk1 hks1 row1 hb2
      go_wp2_with fail
      refine (norm_any B nb cb zb _ (by omega) (rB _ kk2) fB).mono ?_
      rintro e w3 ⟨⟨A3, n3, c3, rfl, l3, l3', row3, k3⟩, okB, len3⟩
      have hown3 := own_keep hown2 k3
      have kk3 := kk2.trans k3
      have hn3 : n3 ≤ 30 := by have := row3.1; have := HLB.out; omega
      have hks3 := kk3.size
      clear hown2 kk2 k3 len3
      go_wp2_with (at_builtin; refine append_rows rfl _ _ 22 rfl w.heap.size 24 _ 16 Try.underlying22 info_range rfl (by omega) encP_len encP_one _ n1 (Sp.norm za) rfl hown3 hks3 _ A3 n3 c3 (Sp.norm zb) rfl row3 (by unfold maxLen; omega) (by omega) ?_)
      intro v4 w4 hown4 hb4
      have kk4 : Keep w w4 := Below.trans kk3 hb4
      obtain ⟨A4, c4, rfl⟩ := own_slice hown4
      have row4 := Row.of_own encP_len hown4 (by omega)
      have fJ : ∀ r ∈ Sp.norm za ++ Sp.norm zb, Fit r := fun r hr => by
        rw [List.mem_append] at hr
        rcases hr with hr | hr
        · exact Sp.norm_fit okA fA r hr
        · exact Sp.norm_fit okB fB r hr
      clear hown3 kk3 hks3 row3 hb4 hown4
      go_wp2_with fail
      refine (norm_any A4 (n1 + n3) c4 _ _ (by omega) row4 fJ).mono ?_
      rintro e w5 ⟨⟨A5, n5, c5, rfl, l5, l5', row5, k5⟩, okJ, len5⟩
      have hn5 : n5 ≤ 60 := by have := row5.1; have := row4.1; omega
      have kk5 := kk4.trans k5
      clear row4 kk4 k5 len5 fJ
      have k6 : Keep w5 (w5.alloc (.cells #[] 24)) := (Keep.refl _).alloc _
      have hown6 := World.ownsRow_lit (base := w5.heap.size) (e := 24) (size := 2) w5 #[] 0 (Nat.le_refl _) (Nat.zero_le _) rfl
      have rA6 := rA _ (kk5.trans k6)
      have hks6 := k6.size
      go_wp2_with (at_builtin; refine append_rows rfl _ _ 22 rfl w5.heap.size 24 _ 16 Try.underlying22 info_range rfl (by omega) encP_len encP_one _ 0 [] rfl hown6 hks6 _ A na ca za rfl rA6 (by unfold maxLen; omega) (by omega) ?_)
      intro v7 w7 hown7 hb7
      have k7 : Keep w5 w7 := Below.trans k6 hb7
      replace hown7 : w7.ownsRow w5.heap.size 24 2 v7 na (flat encP za) := by simpa using hown7
      have rB7 := rB _ (kk5.trans k7)
      have hks7 := k7.size
      clear hown6 k6 rA6 hks6 hb7
      go_wp2_with (at_builtin; refine append_rows rfl _ _ 22 rfl w5.heap.size 24 _ 16 Try.underlying22 info_range rfl (by omega) encP_len encP_one _ na za rfl hown7 hks7 _ B nb cb zb rfl rB7 (by unfold maxLen; omega) (by omega) ?_)
      intro v8 w8 hown8 hb8
      have k8 : Keep w5 w8 := Below.trans k7 hb8
      obtain ⟨A8, c8, rfl⟩ := own_slice hown8
      have row8 := Row.of_own encP_len hown8 (by omega)
      have fU : ∀ r ∈ za ++ zb, Fit r := fun r hr => by
        rw [List.mem_append] at hr
        rcases hr with hr | hr
        · exact fA r hr
        · exact fB r hr
      clear hown7 k7 rB7 hks7 hb8 hown8 rA rB
      go_wp2_with fail
      refine (norm_any A8 (na + nb) c8 _ _ (by omega) row8 fU).mono ?_
      rintro e w9 ⟨⟨A9, n9, c9, rfl, l9, l9', row9, k9⟩, okU, len9⟩
      have hn9 : n9 ≤ 60 := by have := row9.1; have := row8.1; omega
      have row5' := row5.kept (k8.trans k9)
      have kk9 := kk5.trans (k8.trans k9)
      have hjoin := Sp.norm_join okA okB okU
      rw [hjoin] at row5'
      have hrt : Sp.rightB (Sp.norm (za ++ zb)) = true := (Sp.rightB_iff _).2 okU.1
      have fN := Sp.norm_fit okU (lo := -9223372036854775808) (hi := 9223372036854775807) fU
      have cR := fun W h => right_any A5 n5 c5 (Sp.norm (za ++ zb)) W (by omega) h fN
      have cS := fun W h h' => same_any A5 n5 c5 (Sp.norm (za ++ zb)) A9 n9 c9 (Sp.norm (za ++ zb)) W (by omega) (by omega) h h'
      rw [hrt] at cR
      rw [decide_eq_true rfl] at cS
      clear row8 fU k8 k9 row5 okJ hjoin hrt fN kk5 len9
      go_wp2_with fail
      refine (awake_any _).mono ?_
      rintro e w10 ⟨rfl, k10⟩
      have a10 := row5'.kept k10
      have b10 := row9.kept k10
      have kk10 := kk9.trans k10
      clear row5' row9 kk9 k10
      go_wp2_with fail
      refine (cS _ a10 b10).mono ?_
      rintro e w11 ⟨rfl, k11⟩
      have k11 := k11.keep
      have a11 := a10.kept k11
      have kk11 := kk10.trans k11
      clear a10 b10 kk10 k11 cS
      go_wp2_with fail
      refine (cR _ a11).mono ?_
      rintro e w12 ⟨rfl, k12⟩
      have kk12 := kk11.trans k12
      clear a11 kk11 k12 cR
      go_wp2
      go_ret
      exact ⟨rfl, kk12⟩
theorem joinslaw_row (A : Option Addr) (na ca : Nat) (za : List (Int × Int)) (B : Option Addr) (nb cb : Nat) (zb : List (Int × Int)) (w : World) (iA : PairsIn w A na za) (_ : na ≤ ca) (_ : ca ≤ maxLen) (iB : PairsIn w B nb zb) (_ : nb ≤ cb) (_ : cb ≤ maxLen) :
    Calls Try.prog 6 #[.slice A na ca, .slice B nb cb] w fun e w' => e = .returned (.bool true) ∧ Keep w w' :=
  joinslaw_any A na ca za B nb cb zb w iA iB
end Go.Proofs.Ytabmgneoliopaaa.Span
