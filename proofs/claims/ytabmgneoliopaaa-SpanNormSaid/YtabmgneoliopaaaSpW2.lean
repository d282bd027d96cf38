/- Layer 4: the law SpanNorm. Conditions: none beyond the law's own. -/
import Derived.Test.YtabmgneoliopaaaSpW
namespace Go.Proofs.Ytabmgneoliopaaa.Span
open Go.Shelf Go.ChangeShapes Go.WideShapes Go.ChangeAt Go.RowKit

set_option maxHeartbeats 2000000 in
theorem normlaw_any (A : Option Addr) (na c : Nat) (za : List (Int × Int)) (m t : Int) (w : World) (hc : na ≤ c) (iA : PairsIn w A na za) (ht : 0 ≤ t ∧ t ≤ 255) :
    Calls Try.prog 4 #[.slice A na c, .int .i64 m, .int .u8 t] w fun e w' => e = .returned (.bool true) ∧ Keep w w' := by
  by_cases hbig : 30 < na
  · clear iA
    go_enter Try.func4, Try.ntmps4
    go_wp2_with fail
    refine (awake_any _).mono ?_
    rintro e w1 ⟨rfl, k1⟩
    go_wp2
    go_ret
    exact ⟨rfl, k1⟩
  · have fA := fit_of_in iA.2
    have HL := Lib.hid iA.1.1
    obtain ⟨T, rfl⟩ := Int.eq_ofNat_of_zero_le ht.1
    have hmix := mixed
    go_enter Try.func4, Try.ntmps4
    go_wp2_with fail
    refine (norm_any A na c za _ (by omega) iA.1 fA).mono ?_
    rintro e w1 ⟨⟨A1, n1, c1, rfl, l1, l1', row1, k1⟩, ok1, len1⟩
    have rowL := iA.1.kept k1
    clear iA
    rcases Nat.eq_zero_or_pos na with h0 | h0
    · subst h0
      obtain rfl : za = [] := List.eq_nil_of_length_eq_zero HL.out
      have HZ : Sp.norm ([] ++ [] ++ []) = Sp.norm [] := rfl
      have hf3 : ∀ r ∈ ([] ++ [] ++ [] : List (Int × Int)), Fit r := fun r hr => by cases hr
      go_wp2
      go_region_held3 (fun w' => Keep w1 w')
        (first
          | exact Keep.refl w1
          | exact keep_drew (Keep.refl w1)
          | exact keep_drew (Keep.alloc (Keep.refl w1) _)
          | exact hw
          | fail)
        ((first
          | (go_at_call 11; refine (norm_any _ _ _ _ _ (by omega) hr3 hf3).mono ?_; rintro e w4 ⟨⟨A4, n4, c4, rfl, l4, l4', row4, kk⟩, ok4, len4⟩; have hw := hw.trans kk)
          | (refine step_append_rows (by rfl) _ _ 22 (by rfl) w1.heap.size 24 _ 16 Try.underlying22 info_range rfl (by omega) encP_len encP_one v2 _ _ (by rfl) hown2 hw.size w1.heap.size _ 0 _ _ (by rfl) (Row.none_ _ _ _) (by unfold maxLen; omega) (by omega) ?_; intro v3 w3 hown3 hg3 hat3 hb3; have hw : Keep w1 w3 := Below.trans hw hb3; obtain ⟨A3, c3, rfl⟩ := own_slice hown3; have hr3 := Row.of_own encP_len hown3 (by omega))
          | (refine step_append_rows (by rfl) _ _ 22 (by rfl) w1.heap.size 24 _ 16 Try.underlying22 info_range rfl (by omega) encP_len encP_one (.slice (some ⟨w1.heap.size, 0, none⟩) 0 0) 0 [] (by rfl) (World.ownsRow_lit w1 #[] 0 (Nat.le_refl _) (Nat.zero_le _) rfl).drew (by simp) w1.heap.size _ 0 _ _ (by rfl) (Row.none_ _ _ _) (by unfold maxLen; omega) (by omega) ?_; intro v2 w2 hown2 hg2 hat2 hb2; have hw : Keep w1 w2 := Below.trans (keep_drew (Keep.alloc (Keep.refl w1) _)) hb2)
          | fail))
      have hnn : Sp.norm ([] ++ [] ++ []) = Sp.norm ([] : List (Int × Int)) := HZ
      rw [hnn] at row4
      clear ok4 hr3 hnn
      have row1' := row1.kept hw
      have rowL' := rowL.kept hw
      replace k1 := k1.trans hw
      clear row1 rowL hw
      have fN := Sp.norm_fit ok1 (lo := -9223372036854775808) (hi := 9223372036854775807) fA
      have hn1 : n1 ≤ 30 := by have := row1'.1; have := HL.out; omega
      have hn4 : n4 ≤ 30 := by have := row4.1; have := row1'.1; omega
      have hrt : Sp.rightB (Sp.norm ([] : List (Int × Int))) = true := (Sp.rightB_iff _).2 ok1.1
      have hnn2 := Sp.norm_norm ok1
      have hhas := ok1.2 m
      have cR := fun W h => right_any A1 n1 c1 (Sp.norm ([] : List (Int × Int))) W (by omega) h fN
      have cN := fun W h => norm_any A1 n1 c1 (Sp.norm ([] : List (Int × Int))) W (by omega) h fN
      have cH := fun W h => has_any A1 n1 c1 (Sp.norm ([] : List (Int × Int))) m W (by omega) h
      have cH' := fun W h => has_any A 0 c [] m W (by omega) h
      have cS := fun W A2 n2 c2 h2 h h' => same_any A1 n1 c1 (Sp.norm ([] : List (Int × Int))) A2 n2 c2 (Sp.norm ([] : List (Int × Int))) W (by omega) h2 h h'
      rw [hrt] at cR
      rw [hnn2] at cN
      rw [hhas] at cH
      rw [decide_eq_true rfl] at cS
      obtain ⟨h1, hh1⟩ : ∃ r, r = Sp.has ([] : List (Int × Int)) m := ⟨_, rfl⟩
      rw [← hh1] at cH cH'
      have hlen : n1 ≤ 0 := by have := row1'.1; have := HL.out; omega
      have hlen' : decide (n1 = 0) = true := decide_eq_true (by omega)
      clear hh1 hrt hnn2 hhas fN
      go_wp2_with fail
      refine (awake_any _).mono ?_
      rintro e w5 ⟨rfl, k5⟩
      have a5 := row1'.kept k5
      have b5 := row4.kept k5
      have l5 := rowL'.kept k5
      have kk5 := k1.trans k5
      clear row1' row4 rowL' k1 k5
      go_wp2_with fail
      refine (cR _ a5).mono ?_
      rintro e w6 ⟨rfl, k6⟩
      have a6 := a5.kept k6
      have b6 := b5.kept k6
      have l6 := l5.kept k6
      have kk6 := kk5.trans k6
      clear a5 b5 l5 kk5 k6 cR
      go_wp2_with fail
      refine (cN _ a6).mono ?_
      rintro e w7 ⟨⟨A7, n7, c7, rfl, l71, l72, row7, k7⟩, _, _⟩
      have a7 := a6.kept k7
      have b7 := b6.kept k7
      have l7 := l6.kept k7
      have kk7 := kk6.trans k7
      have hn7 : n7 ≤ 30 := by have := row7.1; have := a7.1; omega
      clear a6 b6 l6 kk6 k7 cN
      go_wp2_with fail
      refine (cS _ _ _ _ (by omega) a7 row7).mono ?_
      rintro e w8 ⟨rfl, k8⟩
      have k8 := k8.keep
      have a8 := a7.kept k8
      have b8 := b7.kept k8
      have l8 := l7.kept k8
      have kk8 := kk7.trans k8
      clear a7 b7 l7 kk7 k8 row7
      go_wp2_with fail
      refine (cS _ _ _ _ (by omega) a8 b8).mono ?_
      rintro e w9 ⟨rfl, k9⟩
      have k9 := k9.keep
      have a9 := a8.kept k9
      have l9 := l8.kept k9
      have kk9 := kk8.trans k9
      clear a8 b8 l8 kk8 k9 cS
      go_wp2_with fail
      refine (cH _ a9).mono ?_
      rintro e w10 ⟨rfl, k10⟩
      have l10 := l9.kept k10
      have kk10 := kk9.trans k10
      clear a9 l9 kk9 k10 cH
      go_wp2_with fail
      refine (cH' _ l10).mono ?_
      rintro e w11 ⟨rfl, k11⟩
      have kk11 := kk10.trans k11
      clear l10 kk10 k11 cH'
      go_wp2
      go_ret
      exact ⟨rfl, kk11⟩
    · have hnm : (0 : Int) < na := by omega
      obtain ⟨K, hK, hKn⟩ : ∃ K : Nat, (T : Int) % na = K ∧ K < na := ⟨T % na, by rfl, Nat.mod_lt _ h0⟩
      obtain ⟨b, off, rfl, _⟩ := rowL.addr h0
      have HZ : Sp.norm ([] ++ za.drop K ++ za.take K) = Sp.norm za := by rw [List.nil_append]; exact Sp.norm_turn ok1 K
      have hf3 : ∀ r ∈ ([] ++ za.drop K ++ za.take K : List (Int × Int)), Fit r := fun r hr => by
        simp only [List.nil_append, List.mem_append] at hr
        rcases hr with hr | hr
        · exact fA r (List.mem_of_mem_drop hr)
        · exact fA r (List.mem_of_mem_take hr)
      have hK0 : (0 : Int) ≤ K := by omega
      have hK1 : (K : Int) ≤ na := by omega
      have hK2 : (K : Int) ≤ c := by omega
      have hnc : (na : Int) ≤ c := by omega
      have hK3 : K ≤ na := by omega
      have hsrc1 : Row encP 2 (w1.alloc (.cells #[] 24)).drew w1.heap.size (if c = K then some ⟨b, off, none⟩ else some ⟨b, off + K * 2, none⟩) (na - K) (za.drop K) := (rowL.tail K hK3 hc).below (keep_drew (Keep.alloc (Keep.refl w1) _))
      go_wp2
      rw [hK]
      clear hK
      go_region_held3 (fun w' => Keep w1 w')
        (first
          | exact Keep.refl w1
          | exact keep_drew (Keep.refl w1)
          | exact keep_drew (Keep.alloc (Keep.refl w1) _)
          | exact hw
          | fail)
        ((first
          | (go_at_call 11; refine (norm_any _ _ _ _ _ (by omega) hr3 hf3).mono ?_; rintro e w4 ⟨⟨A4, n4, c4, rfl, l4, l4', row4, kk⟩, ok4, len4⟩; have hw := hw.trans kk)
          | (have hsrc2 := (rowL.take K hK3).below hw; refine step_append_rows (by rfl) _ _ 22 (by rfl) w1.heap.size 24 _ 16 Try.underlying22 info_range rfl (by omega) encP_len encP_one v2 _ _ (by rfl) hown2 hw.size w1.heap.size _ K _ _ (by rfl) (hsrc2) (by unfold maxLen; omega) (by omega) ?_; intro v3 w3 hown3 hg3 hat3 hb3; have hsum : 0 + (na - K) + K = na := (by omega); rw [hsum] at hown3; have hw : Keep w1 w3 := Below.trans hw hb3; obtain ⟨A3, c3, rfl⟩ := own_slice hown3; have hr3 := Row.of_own encP_len hown3 (by omega))
          | (refine step_append_rows (by rfl) _ _ 22 (by rfl) w1.heap.size 24 _ 16 Try.underlying22 info_range rfl (by omega) encP_len encP_one (.slice (some ⟨w1.heap.size, 0, none⟩) 0 0) 0 [] (by rfl) (World.ownsRow_lit w1 #[] 0 (Nat.le_refl _) (Nat.zero_le _) rfl).drew (by simp) w1.heap.size _ (na - K) _ _ (by rfl) (hsrc1) (by unfold maxLen; omega) (by omega) ?_; intro v2 w2 hown2 hg2 hat2 hb2; have hw : Keep w1 w2 := Below.trans (keep_drew (Keep.alloc (Keep.refl w1) _)) hb2)
          | fail))
      have hnn : Sp.norm ([] ++ za.drop K ++ za.take K) = Sp.norm za := HZ
      rw [hnn] at row4
      clear ok4 hr3 hnn
      have row1' := row1.kept hw
      have rowL' := rowL.kept hw
      replace k1 := k1.trans hw
      clear row1 rowL hw
      have fN := Sp.norm_fit ok1 (lo := -9223372036854775808) (hi := 9223372036854775807) fA
      have hn1 : n1 ≤ 30 := by have := row1'.1; have := HL.out; omega
      have hn4 : n4 ≤ 30 := by have := row4.1; have := row1'.1; omega
      have hrt : Sp.rightB (Sp.norm za) = true := (Sp.rightB_iff _).2 ok1.1
      have hnn2 := Sp.norm_norm ok1
      have hhas := ok1.2 m
      have cR := fun W h => right_any A1 n1 c1 (Sp.norm za) W (by omega) h fN
      have cN := fun W h => norm_any A1 n1 c1 (Sp.norm za) W (by omega) h fN
      have cH := fun W h => has_any A1 n1 c1 (Sp.norm za) m W (by omega) h
      have cH' := fun W h => has_any (some ⟨b, off, none⟩) na c za m W (by omega) h
      have cS := fun W A2 n2 c2 h2 h h' => same_any A1 n1 c1 (Sp.norm za) A2 n2 c2 (Sp.norm za) W (by omega) h2 h h'
      rw [hrt] at cR
      rw [hnn2] at cN
      rw [hhas] at cH
      rw [decide_eq_true rfl] at cS
      obtain ⟨h1, hh1⟩ : ∃ r, r = Sp.has za m := ⟨_, rfl⟩
      rw [← hh1] at cH cH'
      have hlen : n1 ≤ na := by have := row1'.1; have := HL.out; omega
      have hlen' : (n1 : Int) ≤ na := by omega
      clear hh1 hrt hnn2 hhas fN
      go_wp2_with fail
      refine (awake_any _).mono ?_
      rintro e w5 ⟨rfl, k5⟩
      have a5 := row1'.kept k5
      have b5 := row4.kept k5
      have l5 := rowL'.kept k5
      have kk5 := k1.trans k5
      clear row1' row4 rowL' k1 k5
      go_wp2_with fail
      refine (cR _ a5).mono ?_
      rintro e w6 ⟨rfl, k6⟩
      have a6 := a5.kept k6
      have b6 := b5.kept k6
      have l6 := l5.kept k6
      have kk6 := kk5.trans k6
      clear a5 b5 l5 kk5 k6 cR
      go_wp2_with fail
      refine (cN _ a6).mono ?_
      rintro e w7 ⟨⟨A7, n7, c7, rfl, l71, l72, row7, k7⟩, _, _⟩
      have a7 := a6.kept k7
      have b7 := b6.kept k7
      have l7 := l6.kept k7
      have kk7 := kk6.trans k7
      have hn7 : n7 ≤ 30 := by have := row7.1; have := a7.1; omega
      clear a6 b6 l6 kk6 k7 cN
      go_wp2_with fail
      refine (cS _ _ _ _ (by omega) a7 row7).mono ?_
      rintro e w8 ⟨rfl, k8⟩
      have k8 := k8.keep
      have a8 := a7.kept k8
      have b8 := b7.kept k8
      have l8 := l7.kept k8
      have kk8 := kk7.trans k8
      clear a7 b7 l7 kk7 k8 row7
      go_wp2_with fail
      refine (cS _ _ _ _ (by omega) a8 b8).mono ?_
      rintro e w9 ⟨rfl, k9⟩
      have k9 := k9.keep
      have a9 := a8.kept k9
      have l9 := l8.kept k9
      have kk9 := kk8.trans k9
      clear a8 b8 l8 kk8 k9 cS
      go_wp2_with fail
      refine (cH _ a9).mono ?_
      rintro e w10 ⟨rfl, k10⟩
      have l10 := l9.kept k10
      have kk10 := kk9.trans k10
      clear a9 l9 kk9 k10 cH
      go_wp2_with fail
      refine (cH' _ l10).mono ?_
      rintro e w11 ⟨rfl, k11⟩
      have kk11 := kk10.trans k11
      clear l10 kk10 k11 cH'
      go_wp2
      go_ret
      exact ⟨rfl, kk11⟩
theorem normlaw_row (A : Option Addr) (na c : Nat) (za : List (Int × Int)) (m t : Int) (w : World) (iA : PairsIn w A na za) (l : na ≤ c) (_ : c ≤ maxLen) (_ : (Lit.int .i64 m).wf = true) (h2 : (Lit.int .u8 t).wf = true) :
    Calls Try.prog 4 #[.slice A na c, .int .i64 m, .int .u8 t] w fun e w' => e = .returned (.bool true) ∧ Keep w w' :=
  normlaw_any A na c za m t w l iA (by simp [Lit.wf, IntKind.min, IntKind.max, IntKind.bits, IntKind.signed] at h2; omega)
end Go.Proofs.Ytabmgneoliopaaa.Span
