/- Of these texts: SpI, SpJ. Conditions: as each part says. -/
import Derived.Test.YtaciogcpghbhjaaGreatZTSpAll
import Derived.Test.YtaciogcpghbhjaaGreatZTRow2
import Derived.Deep.AppendLies
import Derived.Deep.RegionHeld3
/- Layer 4's reference: a range laid among others in order. Conditions: lengths at most a million, ends that fit. -/
namespace Go.Proofs.YtaciogcpghbhjaaGreat.Span
open Go.ChangeShapes Go.WideShapes Go.ChangeAt Go.RowKit
theorem info_rangeI : (Tryz.prog.info? 87).map (fun i => (i.zero, i.size, i.bytes)) = some (some (.agg #[.int .i64 0, .int .i64 0]), 2, 16) := by kernel_rfl
theorem fit_getD {zs : List (Int × Int)} (hf : ∀ r ∈ zs, Fit r) {j : Nat} (hj : j < zs.length) : Fit (zs.getD j (0, 0)) := by
 rw [List.getD_eq_getElem?_getD, List.getElem?_eq_getElem hj]
 exact hf _ (List.getElem_mem _)
def IntoRel (w : World) (zs : List (Int × Int)) (r : Int × Int) (B n : Nat) (s5 s6 : Value) (wr : World) : Prop :=
 ∃ (k : Nat) (out : List (Int × Int)) (s t : Int), k <= n ∧ s6 = .int .i64 k ∧ wr.ownsRow (B + 1) 87 2 s5 out.length (flat encP out) ∧ Keep w wr ∧ B < wr.heap.size ∧
   (wr.cell? ⟨B, 0, none⟩ = some (.int .i64 s) ∧ wr.cell? ⟨B, 1, none⟩ = some (.int .i64 t)) ∧ (wr.frozen? ⟨B, 0, none⟩ = false ∧ wr.frozen? ⟨B, 1, none⟩ = false) ∧ Fit (s, t) ∧ Hid (Sp.Into zs r k out (s, t))
set_option maxHeartbeats 1000000 in
theorem into_own (A : Option Addr) (n c : Nat) (zs : List (Int × Int)) (p q : Int) (w : World) (hn : n <= 1000000) (hA : Row encP 2 w w.heap.size A n zs) (hf : ∀ r ∈ zs, Fit r) (hR : Sp.Right zs) (hpq : p <= q) (hfit : Fit (p, q)) :
  Calls Tryz.prog 71 #[.slice A n c, .agg #[.int .i64 p, .int .i64 q]] w fun e w' => ∃ ys, RetRowF encP 2 ys w e w' ∧ (Sp.Right ys ∧ ∀ m, Sp.has ys m = (Sp.has zs m || Sp.inR (p, q) m)) ∧ ys.length <= n + 1 := by
 have HL := Lib.hid hA.1
 have HR := Lib.hid hR
 have HP := Lib.hid hpq
 clear hR hpq
 go_enter Tryz.func71, Tryz.ntmps71
 go_wp2
 go_loopw [5, 6, 7, 8] (fun s5 s6 _ _ wr => IntoRel w zs (p, q) w.heap.size n s5 s6 wr) (fun _ s6 _ _ _ => n - (intOf s6).toNat)
 case atStart => exact ⟨0, [], p, q, Nat.zero_le _, rfl, World.ownsRow_nil _ _ _ _, (Keep.refl _).alloc _, by simp, by simp, by simp, hfit, Sp.Into.start zs (p, q) HP.out⟩
 case round =>
  obtain ⟨k, out, s, t, hk, rfl, hown, hkr, hB, ⟨b0, b1⟩, ⟨f0, f1⟩, hst, HI⟩ := hrel
  by_cases hlt : k < n
  ·obtain ⟨b, off, rfl, _⟩ := hA.addr (by omega)
   obtain ⟨hb, c1, c2⟩ := hA.pair k hlt
   have fx := fit_getD hf (j := k) (by rw [HL.out]; exact hlt)
   have hxx : (zs.getD k (0, 0)).1 <= (zs.getD k (0, 0)).2 := HR.out.1 _ (by
    rw [List.getD_eq_getElem?_getD, List.getElem?_eq_getElem (by rw [HL.out]; exact hlt)]
    exact List.getElem_mem _)
   have hstle : s <= t := HI.out.2.1
   have d1 := (hkr.cell (p := ⟨b, off + k * 2, none⟩) hb).trans c1
   have d2 := (hkr.cell (p := ⟨b, off + k * 2 + 1, none⟩) hb).trans c2
   clear c1 c2
   obtain ⟨x, y, hx⟩ : ∃ x y, zs.getD k (0, 0) = (x, y) := ⟨_, _, rfl⟩
   rw [hx] at d1 d2 fx hxx
   have HX := Lib.hid hx
   clear hx
   simp only [Fit] at d1 d2 fx hst hxx
   obtain ⟨⟨x0, x1⟩, y0, y1⟩ := fx
   obtain ⟨⟨s0, s1⟩, t0, t1⟩ := hst
   have hbB : b ≠ wr.heap.size := by have := hkr.size; omega
   have hBne : w.heap.size ≠ wr.heap.size := by omega
   have hkn : (k : Int) < n := by omega
   have hk0 : (0 : Int) <= k := by omega
   have hol : out.length <= k := by
    have := HI.out.1.length_le
    simp at this
    omega
   have hnew : Row encP 2 ((wr.alloc (.cells #[.int .i64 x, .int .i64 y] 87)).alloc (.cells #[.int .i64 x, .int .i64 y] 87)) (wr.heap.size + 2) (some ⟨wr.heap.size + 1, 0, none⟩) 1 [(x, y)] := by
    simpa using Row.new encP_len (wr.alloc (.cells #[.int .i64 x, .int .i64 y] 87)) 87 [(x, y)] #[.int .i64 x, .int .i64 y] rfl
   by_cases h1 : y + 1 < s
   ·have h2 : y < s := by omega
    have HAP : y + 1 < s ∨ t + 1 < x := .inl h1
    go_wp2_with (at_builtin; refine append_rows rfl _ _ 52 rfl (w.heap.size + 1) 87 _ 16 Tryz.underlying52 info_rangeI rfl (by omega) encP_len encP_one _ out.length out rfl ((hown.alloc _).alloc _) (by simp; omega) (wr.heap.size + 2) _ 1 1 [(x, y)] rfl hnew (by unfold maxLen; omega) (by omega) ?_)
    intro v' w1 hown' hb1
    have hk2 := ((Keep.refl wr).alloc (.cells #[.int .i64 x, .int .i64 y] 87)).alloc (.cells #[.int .i64 x, .int .i64 y] 87)
    have e0 := (hb1.cell (p := ⟨w.heap.size, 0, none⟩) (by simp)).trans ((hk2.cell (p := ⟨w.heap.size, 0, none⟩) hB).trans b0)
    have e1 := (hb1.cell (p := ⟨w.heap.size, 1, none⟩) (by simp)).trans ((hk2.cell (p := ⟨w.heap.size, 1, none⟩) hB).trans b1)
    have g0 := (hb1.frozen (p := ⟨w.heap.size, 0, none⟩) (by simp)).trans ((hk2.frozen (p := ⟨w.heap.size, 0, none⟩) hB).trans f0)
    have g1 := (hb1.frozen (p := ⟨w.heap.size, 1, none⟩) (by simp)).trans ((hk2.frozen (p := ⟨w.heap.size, 1, none⟩) hB).trans f1)
    have hk3 : Keep w w1 := keep_below (hkr.trans hk2) hb1 (by omega)
    have hB3 := Nat.lt_of_lt_of_le hB (Nat.le_trans hk2.size hb1.size)
    clear hk2 hb1 hown hkr hnew b0 b1 f0 f1 d1 d2
    go_wp2
    go_roundw
    case rel => exact ⟨k + 1, out ++ [(x, y)], s, t, by omega, by go_num, by rw [List.length_append]; exact hown', hk3, hB3, ⟨e0, e1⟩, ⟨g0, g1⟩, ⟨⟨s0, s1⟩, t0, t1⟩, by
     have := HI.out.apart (by rw [HL.out]; exact hlt) (by rw [HX.out]; exact HAP)
     rwa [HX.out] at this⟩
    case measure => simp [intOf]; omega
   ·by_cases h3 : t + 1 < x
    ·have HAP : y + 1 < s ∨ t + 1 < x := .inr h3
     have h2 : ¬ y < s := by omega
     have h4 : t < x := by omega
     go_wp2_with (at_builtin; refine append_rows rfl _ _ 52 rfl (w.heap.size + 1) 87 _ 16 Tryz.underlying52 info_rangeI rfl (by omega) encP_len encP_one _ out.length out rfl ((hown.alloc _).alloc _) (by simp; omega) (wr.heap.size + 2) _ 1 1 [(x, y)] rfl hnew (by unfold maxLen; omega) (by omega) ?_)
     intro v' w1 hown' hb1
     have hk2 := ((Keep.refl wr).alloc (.cells #[.int .i64 x, .int .i64 y] 87)).alloc (.cells #[.int .i64 x, .int .i64 y] 87)
     have e0 := (hb1.cell (p := ⟨w.heap.size, 0, none⟩) (by simp)).trans ((hk2.cell (p := ⟨w.heap.size, 0, none⟩) hB).trans b0)
     have e1 := (hb1.cell (p := ⟨w.heap.size, 1, none⟩) (by simp)).trans ((hk2.cell (p := ⟨w.heap.size, 1, none⟩) hB).trans b1)
     have g0 := (hb1.frozen (p := ⟨w.heap.size, 0, none⟩) (by simp)).trans ((hk2.frozen (p := ⟨w.heap.size, 0, none⟩) hB).trans f0)
     have g1 := (hb1.frozen (p := ⟨w.heap.size, 1, none⟩) (by simp)).trans ((hk2.frozen (p := ⟨w.heap.size, 1, none⟩) hB).trans f1)
     have hk3 : Keep w w1 := keep_below (hkr.trans hk2) hb1 (by omega)
     have hB3 := Nat.lt_of_lt_of_le hB (Nat.le_trans hk2.size hb1.size)
     clear hk2 hb1 hown hkr hnew b0 b1 f0 f1 d1 d2
     go_wp2
     go_roundw
     case rel => exact ⟨k + 1, out ++ [(x, y)], s, t, by omega, by go_num, by rw [List.length_append]; exact hown', hk3, hB3, ⟨e0, e1⟩, ⟨g0, g1⟩, ⟨⟨s0, s1⟩, t0, t1⟩, by
      have := HI.out.apart (by rw [HL.out]; exact hlt) (by rw [HX.out]; exact HAP)
      rwa [HX.out] at this⟩
     case measure => simp [intOf]; omega
    ·by_cases h5 : y < s
     ·have h6 : ¬ t < x := by omega
      have hXne : wr.heap.size ≠ w.heap.size := by omega
      go_wp2
      go_region
      all_goals go_wp2
      all_goals
       go_roundw
       case rel =>
        refine ⟨k + 1, out, min s x, max t y, by omega, by go_num, ?_, ?_, ?_, ⟨?_, ?_⟩, ⟨?_, ?_⟩, ?_, ?_⟩
        ·exact ((RowKit.ownsRow_setCell_below (RowKit.ownsRow_setCell_below hown (by simp) _) (by simp) _).alloc _).drew
        ·exact keep_drew (Keep.alloc (keep_set (keep_set hkr _ (by simp) _) _ (by simp) _) _)
        ·simp; omega
        ·go_simp
         all_goals first | omega | (split <;> omega)
        ·go_simp
         all_goals first | omega | (split <;> omega)
        ·go_simp
        ·go_simp
        ·simp only [Fit]; omega
        ·have := HI.out.touch (by rw [HL.out]; exact hlt) HR.out (by rw [HX.out]; simp only; omega) (by rw [HX.out]; simp only; omega)
         rwa [HX.out] at this
       case measure => simp [intOf]; omega
     ·by_cases h6 : t < x
      ·skip
       have hXne : wr.heap.size ≠ w.heap.size := by omega
       go_wp2
       go_region
       all_goals go_wp2
       all_goals
        go_roundw
        case rel =>
         refine ⟨k + 1, out, min s x, max t y, by omega, by go_num, ?_, ?_, ?_, ⟨?_, ?_⟩, ⟨?_, ?_⟩, ?_, ?_⟩
         ·exact ((RowKit.ownsRow_setCell_below (RowKit.ownsRow_setCell_below hown (by simp) _) (by simp) _).alloc _).drew
         ·exact keep_drew (Keep.alloc (keep_set (keep_set hkr _ (by simp) _) _ (by simp) _) _)
         ·simp; omega
         ·go_simp
          all_goals first | omega | (split <;> omega)
         ·go_simp
          all_goals first | omega | (split <;> omega)
         ·go_simp
         ·go_simp
         ·simp only [Fit]; omega
         ·have := HI.out.touch (by rw [HL.out]; exact hlt) HR.out (by rw [HX.out]; simp only; omega) (by rw [HX.out]; simp only; omega)
          rwa [HX.out] at this
        case measure => simp [intOf]; omega
      ·skip
       have hXne : wr.heap.size ≠ w.heap.size := by omega
       go_wp2
       go_region
       all_goals go_wp2
       all_goals
        go_roundw
        case rel =>
         refine ⟨k + 1, out, min s x, max t y, by omega, by go_num, ?_, ?_, ?_, ⟨?_, ?_⟩, ⟨?_, ?_⟩, ?_, ?_⟩
         ·exact ((RowKit.ownsRow_setCell_below (RowKit.ownsRow_setCell_below hown (by simp) _) (by simp) _).alloc _).drew
         ·exact keep_drew (Keep.alloc (keep_set (keep_set hkr _ (by simp) _) _ (by simp) _) _)
         ·simp; omega
         ·go_simp
          all_goals first | omega | (split <;> omega)
         ·go_simp
          all_goals first | omega | (split <;> omega)
         ·go_simp
         ·go_simp
         ·simp only [Fit]; omega
         ·have := HI.out.touch (by rw [HL.out]; exact hlt) HR.out (by rw [HX.out]; simp only; omega) (by rw [HX.out]; simp only; omega)
          rwa [HX.out] at this
        case measure => simp [intOf]; omega
  ·obtain rfl : k = n := by omega
   have HD := Lib.hid (show Sp.Into zs (p, q) zs.length out (s, t) by rw [HL.out]; exact HI.out)
   have hstle : s <= t := HI.out.2.1
   have hol : out.length <= k := by
    have := HI.out.1.length_le
    simp at this
    omega
   have hks := Below.size hkr
   clear HI
   obtain ⟨L, hL⟩ : ∃ L, L = out.length := ⟨_, rfl⟩
   rw [<- hL] at hown hol
   obtain ⟨A1, c1, rfl⟩ := own_slice hown
   have HLO := Lib.hid hL.symm
   clear hL
   have hrow := Row.of_own encP_len hown (by omega)
   have hlc : L <= c1 := by
    rcases hown.2 with ⟨h, h'⟩ | ⟨_, cap, _, h, _, _, hle, _⟩
    ·omega
    ·injection h with _ _ h
     omega
   go_wp2
   go_loopw [9] (fun s9 W => ∃ i : Nat, i <= L ∧ s9 = .int .i64 i ∧ Quiet wr W ∧ Hid (∀ j, j < i -> (out.getD j (0, 0)).1 < s)) (fun s9 _ => L - (intOf s9).toNat)
   case atStart => exact ⟨0, Nat.zero_le _, rfl, Quiet.refl _, fun j hj => absurd hj (Nat.not_lt_zero _)⟩
   case round =>
    obtain ⟨i, hi, rfl, hq, hlow⟩ := hrel
    by_cases hstep : i < L ∧ (out.getD i (0, 0)).1 < s
    ·obtain ⟨hiL, hls⟩ := hstep
     obtain ⟨g, _, rfl, _⟩ := hrow.addr (by omega)
     obtain ⟨hb, d1, d2⟩ := hrow.pair i hiL
     have e1 := (hq.cell _).trans d1
     have e2 := (hq.cell _).trans b0
     have e3 := (hq.cell _).trans b1
     clear d1 d2
     obtain ⟨x, hx⟩ : ∃ x, (out.getD i (0, 0)).1 = x := ⟨_, rfl⟩
     rw [hx] at e1 hls
     have HX := Lib.hid hx
     clear hx
     have hi0 : (0 : Int) <= i := by omega
     have hiL' : (i : Int) < L := by omega
     go_wp2
     go_quiet (fail)
     go_wp2
     go_roundw
     case rel => exact ⟨i + 1, by omega, by go_num, hq.drewN _, fun j hj => by
      rcases Nat.lt_or_ge j i with h | h
      ·exact hlow.out j h
      ·obtain rfl : j = i := by omega
       rw [HX.out]; exact hls⟩
     case measure => simp [intOf]; omega
    ·have HS := Lib.hid (show i < L -> s <= (out.getD i (0, 0)).1 from fun h => by
      rcases Int.lt_or_le (out.getD i (0, 0)).1 s with h1 | h1
      ·exact absurd ⟨h, h1⟩ hstep
      ·exact h1)
     clear hstep
     have e2 := (hq.cell _).trans b0
     have e3 := (hq.cell _).trans b1
     by_cases hiL : i < L
     ·obtain ⟨g, _, rfl, _⟩ := hrow.addr (by omega)
      obtain ⟨hb, d1, d2⟩ := hrow.pair i hiL
      have e1 := (hq.cell _).trans d1
      clear d1 d2
      obtain ⟨x, hx⟩ : ∃ x, (out.getD i (0, 0)).1 = x := ⟨_, rfl⟩
      have hxs : ¬ x < s := by have := HS.out hiL; rw [hx] at this; omega
      rw [hx] at e1
      clear hx
      have hi0 : (0 : Int) <= i := by omega
      have hiL' : (i : Int) < L := by omega
      go_wp2
      go_quiet (fail)
      have hX := hq.drewN nq
      generalize _root_.Go.World.drewN _ nq = X at hX ⊢
      have hkX := hkr.trans hX.keep
      have hrX := hrow.kept hX.keep
      have e4 := (hX.cell _).trans b0
      have e5 := (hX.cell _).trans b1
      have hBX : w.heap.size < X.heap.size := by rw [hX.size]; exact hB
      have hic : (i : Int) <= c1 := by omega
      clear e1 e2 e3 b0 b1 f0 f1 hown hrow hq
      have hownE : ((X.alloc (.cells #[.int .i64 s, .int .i64 t] 87)).alloc (.cells #[] 87)).drew.ownsRow X.heap.size 87 2 (.slice (some ⟨X.heap.size + 1, 0, none⟩) 0 0) 0 (flat encP []) := by
       have := World.ownsRow_lit (base := X.heap.size) (e := 87) (size := 2) (X.alloc (.cells #[.int .i64 s, .int .i64 t] 87)) #[] 0 (by simp) (Nat.zero_le _) rfl
       simp at this
       exact this
      have hrE2 : Row encP 2 ((X.alloc (.cells #[] 87)).alloc (.cells #[.int .i64 s, .int .i64 t] 87)).drew (X.heap.size + 2) (some ⟨X.heap.size + 1, 0, none⟩) 1 [(s, t)] := by
       have := Row.new encP_len (X.alloc (.cells #[] 87)) 87 [(s, t)] #[.int .i64 s, .int .i64 t] rfl
       simp at this
       exact this
      have hrE3 : Row encP 2 ((X.alloc (.cells #[.int .i64 s, .int .i64 t] 87)).alloc (.cells #[] 87)).drew (X.heap.size + 2) (some ⟨X.heap.size, 0, none⟩) 1 [(s, t)] := by
       have := ((Row.new encP_len X 87 [(s, t)] #[.int .i64 s, .int .i64 t] rfl).below (w' := (X.alloc (.cells #[.int .i64 s, .int .i64 t] 87)).alloc (.cells #[] 87)) (by
        have := Keep.alloc (Keep.refl (X.alloc (.cells #[.int .i64 s, .int .i64 t] 87))) (.cells #[] 87)
        unfold Keep at this
        simpa using this)).more (B' := X.heap.size + 2) (by omega)
       exact this
      go_wp2
      go_region_held3 (fun w' => w'.cell? ⟨w.heap.size, 0, none⟩ = some (.int .i64 s) ∧ w'.cell? ⟨w.heap.size, 1, none⟩ = some (.int .i64 t))
       (first
        | go_keep
        | (go_split_ands; exact ⟨(hb3.cell (p := ⟨w.heap.size, 0, none⟩) hBX).trans (by assumption), (hb3.cell (p := ⟨w.heap.size, 1, none⟩) hBX).trans (by assumption)⟩)
        | (go_split_ands; exact ⟨(hb2.cell (p := ⟨w.heap.size, 0, none⟩) hBX).trans (by assumption), (hb2.cell (p := ⟨w.heap.size, 1, none⟩) hBX).trans (by assumption)⟩)
        | (go_split_ands; exact ⟨(hb1.cell (p := ⟨w.heap.size, 0, none⟩) hBX).trans (by assumption), (hb1.cell (p := ⟨w.heap.size, 1, none⟩) hBX).trans (by assumption)⟩))
       ((first
       | (have hdr := (hrX.tail i hi hlc).below hk2; refine step_append_rows (by rfl) _ _ 52 (by rfl) X.heap.size 87 _ 16 Tryz.underlying52 info_rangeI rfl (by omega) encP_len encP_one v2 _ _ (by rfl) hown2 hk2.size X.heap.size _ (L - i) _ _ (by rfl) hdr (by unfold maxLen; omega) (by omega) ?_; intro v3 w3 hown3 hg3 hat3 hb3; have hk3 : Keep X w3 := Below.trans hk2 hb3)
       | (refine step_append_rows (by rfl) _ _ 52 (by rfl) X.heap.size 87 _ 16 Tryz.underlying52 info_rangeI rfl (by omega) encP_len encP_one v1 _ _ (by rfl) (by first | exact hown1 | exact hown1.alloc _) (by have := hb1.size; simp at this ⊢; omega) _ _ 1 1 [(s, t)] (by rfl) (by first | exact Row.new encP_len w1 87 [(s, t)] #[.int .i64 s, .int .i64 t] rfl | exact hrE2.far hg1 (by simp) (by simp [Value.ownBlock]) | exact hrE3.far hg1 (by simp <;> omega) (by simp [Value.ownBlock]) | fail) (by unfold maxLen; omega) (by omega) ?_; intro v2 w2 hown2 hg2 hat2 hb2; have hk2 : Keep X w2 := Below.trans (by first | exact hk1 | exact Keep.alloc hk1 _) hb2)
       | (refine step_append_rows (by rfl) _ _ 52 (by rfl) X.heap.size 87 _ 16 Tryz.underlying52 info_rangeI rfl (by omega) encP_len encP_one (.slice (some ⟨X.heap.size, 0, none⟩) 0 0) 0 [] (by rfl) (by first | exact (World.ownsRow_lit X #[] 0 (Nat.le_refl _) (Nat.zero_le _) rfl).drew | exact ((World.ownsRow_lit X #[] 0 (Nat.le_refl _) (Nat.zero_le _) rfl).alloc _).drew) (by simp <;> omega) X.heap.size _ i c1 (out.take i) (by rfl) (by first | exact (hrX.take i (by omega)).below (keep_drew ((Keep.refl X).alloc _)) | exact (hrX.take i (by omega)).below (keep_drew (((Keep.refl X).alloc _).alloc _))) (by unfold maxLen; omega) (by omega) ?_; intro v1 w1 hown1 hg1 hat1 hb1; have hk1 : Keep X w1 := Below.trans (by first | exact keep_drew (Keep.alloc (Keep.refl X) _) | exact keep_drew (Keep.alloc (Keep.alloc (Keep.refl X) _) _)) hb1)
       | (refine step_append_rows (by rfl) _ _ 52 (by rfl) X.heap.size 87 _ 16 Tryz.underlying52 info_rangeI rfl (by omega) encP_len encP_one (.slice (some ⟨X.heap.size + 1, 0, none⟩) 0 0) 0 [] (by rfl) hownE (by simp <;> omega) X.heap.size _ i c1 (out.take i) (by rfl) (by first | exact (hrX.take i (by omega)).below (keep_drew ((Keep.refl X).alloc _)) | exact (hrX.take i (by omega)).below (keep_drew (((Keep.refl X).alloc _).alloc _))) (by unfold maxLen; omega) (by omega) ?_; intro v1 w1 hown1 hg1 hat1 hb1; have hk1 : Keep X w1 := Below.trans (by first | exact keep_drew (Keep.alloc (Keep.refl X) _) | exact keep_drew (Keep.alloc (Keep.alloc (Keep.refl X) _) _)) hb1)
       | fail))
      all_goals
       simp only [Nat.zero_add] at hown3
       obtain ⟨A3, c3, rfl⟩ := own_slice hown3
       have hle3 := own_le hown3
       have HFR3 := Lib.hid (FreshR.of_own hown3 hkX.size)
       have hr3 := Row.of_own encP_len hown3 (by omega)
       simp only [List.nil_append] at hr3
       have HF := Lib.hid (HD.out.done HR.out i (fun j hj => hlow.out j hj) (by rw [HLO.out]; exact hi) (fun h => HS.out (by rw [HLO.out] at h; exact h)))
       clear hown3 hg1 hg2 hg3 hat1 hat2 hat3 hrE2 hrE3 hownE hdr
       go_wp2
       all_goals
        go_ret
        exact ⟨_, ⟨A3, _, c3, rfl, hle3.1, hle3.2, hr3, hkX.trans hk3, HFR3.out⟩, HF.out, by have := HLO.out; simp <;> omega⟩
     ·have hd : decide (i < L) = false := by simpa using hiL
      rcases own_form hown with ⟨rfl, rfl, rfl⟩ | ⟨g, rfl⟩
      ·obtain rfl : i = 0 := by omega
       obtain rfl : out = [] := List.eq_nil_of_length_eq_zero HLO.out
       clear hiL hd
       go_wp2
       go_quiet (fail)
       go_wp2
       have hX := hq.drewN nq
       generalize _root_.Go.World.drewN _ nq = X at hX ⊢
       have hkX := hkr.trans hX.keep
       have e4 := (hX.cell _).trans b0
       have e5 := (hX.cell _).trans b1
       have hBX : w.heap.size < X.heap.size := by rw [hX.size]; exact hB
       clear e2 e3 b0 b1 f0 f1 hown hrow hq
       have hownE : ((X.alloc (.cells #[.int .i64 s, .int .i64 t] 87)).alloc (.cells #[] 87)).drew.ownsRow X.heap.size 87 2 (.slice (some ⟨X.heap.size + 1, 0, none⟩) 0 0) 0 (flat encP []) := by
        have := World.ownsRow_lit (base := X.heap.size) (e := 87) (size := 2) (X.alloc (.cells #[.int .i64 s, .int .i64 t] 87)) #[] 0 (by simp) (Nat.zero_le _) rfl
        simp at this
        exact this
       have hrE2 : Row encP 2 ((X.alloc (.cells #[] 87)).alloc (.cells #[.int .i64 s, .int .i64 t] 87)).drew (X.heap.size + 2) (some ⟨X.heap.size + 1, 0, none⟩) 1 [(s, t)] := by
        have := Row.new encP_len (X.alloc (.cells #[] 87)) 87 [(s, t)] #[.int .i64 s, .int .i64 t] rfl
        simp at this
        exact this
       have hrE3 : Row encP 2 ((X.alloc (.cells #[.int .i64 s, .int .i64 t] 87)).alloc (.cells #[] 87)).drew (X.heap.size + 2) (some ⟨X.heap.size, 0, none⟩) 1 [(s, t)] := by
        have := ((Row.new encP_len X 87 [(s, t)] #[.int .i64 s, .int .i64 t] rfl).below (w' := (X.alloc (.cells #[.int .i64 s, .int .i64 t] 87)).alloc (.cells #[] 87)) (by
         have := Keep.alloc (Keep.refl (X.alloc (.cells #[.int .i64 s, .int .i64 t] 87))) (.cells #[] 87)
         unfold Keep at this
         simpa using this)).more (B' := X.heap.size + 2) (by omega)
        exact this
       go_wp2
       go_region_held3 (fun w' => w'.cell? ⟨w.heap.size, 0, none⟩ = some (.int .i64 s) ∧ w'.cell? ⟨w.heap.size, 1, none⟩ = some (.int .i64 t))
        (first
         | go_keep
         | (go_split_ands; exact ⟨(hb3.cell (p := ⟨w.heap.size, 0, none⟩) hBX).trans (by assumption), (hb3.cell (p := ⟨w.heap.size, 1, none⟩) hBX).trans (by assumption)⟩)
         | (go_split_ands; exact ⟨(hb2.cell (p := ⟨w.heap.size, 0, none⟩) hBX).trans (by assumption), (hb2.cell (p := ⟨w.heap.size, 1, none⟩) hBX).trans (by assumption)⟩)
         | (go_split_ands; exact ⟨(hb1.cell (p := ⟨w.heap.size, 0, none⟩) hBX).trans (by assumption), (hb1.cell (p := ⟨w.heap.size, 1, none⟩) hBX).trans (by assumption)⟩))
        ((first
        | (refine step_append_rows (by rfl) _ _ 52 (by rfl) X.heap.size 87 _ 16 Tryz.underlying52 info_rangeI rfl (by omega) encP_len encP_one v2 _ _ (by rfl) hown2 hk2.size X.heap.size _ 0 _ [] (by rfl) (Row.none_ _ _ _) (by unfold maxLen; omega) (by omega) ?_; intro v3 w3 hown3 hg3 hat3 hb3; have hk3 : Keep X w3 := Below.trans hk2 hb3)
        | (refine step_append_rows (by rfl) _ _ 52 (by rfl) X.heap.size 87 _ 16 Tryz.underlying52 info_rangeI rfl (by omega) encP_len encP_one v1 _ _ (by rfl) (by first | exact hown1 | exact hown1.alloc _) (by have := hb1.size; simp at this ⊢; omega) _ _ 1 1 [(s, t)] (by rfl) (by first | exact Row.new encP_len w1 87 [(s, t)] #[.int .i64 s, .int .i64 t] rfl | exact hrE2.far hg1 (by simp) (by simp [Value.ownBlock]) | exact hrE3.far hg1 (by simp <;> omega) (by simp [Value.ownBlock]) | fail) (by unfold maxLen; omega) (by omega) ?_; intro v2 w2 hown2 hg2 hat2 hb2; have hk2 : Keep X w2 := Below.trans (by first | exact hk1 | exact Keep.alloc hk1 _) hb2)
        | (refine step_append_rows (by rfl) _ _ 52 (by rfl) X.heap.size 87 _ 16 Tryz.underlying52 info_rangeI rfl (by omega) encP_len encP_one (.slice (some ⟨X.heap.size, 0, none⟩) 0 0) 0 [] (by rfl) (by first | exact (World.ownsRow_lit X #[] 0 (Nat.le_refl _) (Nat.zero_le _) rfl).drew | exact ((World.ownsRow_lit X #[] 0 (Nat.le_refl _) (Nat.zero_le _) rfl).alloc _).drew) (by simp <;> omega) X.heap.size _ 0 _ [] (by rfl) (Row.none_ _ _ _) (by unfold maxLen; omega) (by omega) ?_; intro v1 w1 hown1 hg1 hat1 hb1; have hk1 : Keep X w1 := Below.trans (by first | exact keep_drew (Keep.alloc (Keep.refl X) _) | exact keep_drew (Keep.alloc (Keep.alloc (Keep.refl X) _) _)) hb1)
        | (refine step_append_rows (by rfl) _ _ 52 (by rfl) X.heap.size 87 _ 16 Tryz.underlying52 info_rangeI rfl (by omega) encP_len encP_one (.slice (some ⟨X.heap.size + 1, 0, none⟩) 0 0) 0 [] (by rfl) hownE (by simp <;> omega) X.heap.size _ 0 _ [] (by rfl) (Row.none_ _ _ _) (by unfold maxLen; omega) (by omega) ?_; intro v1 w1 hown1 hg1 hat1 hb1; have hk1 : Keep X w1 := Below.trans (by first | exact keep_drew (Keep.alloc (Keep.refl X) _) | exact keep_drew (Keep.alloc (Keep.alloc (Keep.refl X) _) _)) hb1)
        | fail))
       all_goals
        simp only [Nat.zero_add] at hown3
        obtain ⟨A3, c3, rfl⟩ := own_slice hown3
        have hle3 := own_le hown3
        have HFR3 := Lib.hid (FreshR.of_own hown3 hkX.size)
        have hr3 := Row.of_own encP_len hown3 (by omega)
        simp only [List.nil_append] at hr3
        skip
        have HF := Lib.hid (HD.out.done HR.out 0 (fun j hj => absurd hj (Nat.not_lt_zero _)) (Nat.zero_le _) (fun h => absurd h (by simp)))
        clear hown3 hg1 hg2 hg3 hat1 hat2 hat3 hrE2 hrE3 hownE
        go_wp2
        all_goals
         go_ret
         exact ⟨_, ⟨A3, _, c3, rfl, hle3.1, hle3.2, hr3, hkX.trans hk3, HFR3.out⟩, HF.out, by have := HLO.out; simp <;> omega⟩
      ·obtain rfl : i = L := by omega
       clear hiL
       go_wp2
       go_quiet (fail)
       go_wp2
       have hX := hq.drewN nq
       generalize _root_.Go.World.drewN _ nq = X at hX ⊢
       have hkX := hkr.trans hX.keep
       have hrX := hrow.kept hX.keep
       have e4 := (hX.cell _).trans b0
       have e5 := (hX.cell _).trans b1
       have hBX : w.heap.size < X.heap.size := by rw [hX.size]; exact hB
       have hic : (i : Int) <= c1 := by omega
       clear e2 e3 b0 b1 f0 f1 hown hrow hq
       have hownE : ((X.alloc (.cells #[.int .i64 s, .int .i64 t] 87)).alloc (.cells #[] 87)).drew.ownsRow X.heap.size 87 2 (.slice (some ⟨X.heap.size + 1, 0, none⟩) 0 0) 0 (flat encP []) := by
        have := World.ownsRow_lit (base := X.heap.size) (e := 87) (size := 2) (X.alloc (.cells #[.int .i64 s, .int .i64 t] 87)) #[] 0 (by simp) (Nat.zero_le _) rfl
        simp at this
        exact this
       have hrE2 : Row encP 2 ((X.alloc (.cells #[] 87)).alloc (.cells #[.int .i64 s, .int .i64 t] 87)).drew (X.heap.size + 2) (some ⟨X.heap.size + 1, 0, none⟩) 1 [(s, t)] := by
        have := Row.new encP_len (X.alloc (.cells #[] 87)) 87 [(s, t)] #[.int .i64 s, .int .i64 t] rfl
        simp at this
        exact this
       have hrE3 : Row encP 2 ((X.alloc (.cells #[.int .i64 s, .int .i64 t] 87)).alloc (.cells #[] 87)).drew (X.heap.size + 2) (some ⟨X.heap.size, 0, none⟩) 1 [(s, t)] := by
        have := ((Row.new encP_len X 87 [(s, t)] #[.int .i64 s, .int .i64 t] rfl).below (w' := (X.alloc (.cells #[.int .i64 s, .int .i64 t] 87)).alloc (.cells #[] 87)) (by
         have := Keep.alloc (Keep.refl (X.alloc (.cells #[.int .i64 s, .int .i64 t] 87))) (.cells #[] 87)
         unfold Keep at this
         simpa using this)).more (B' := X.heap.size + 2) (by omega)
        exact this
       go_wp2
       go_region_held3 (fun w' => w'.cell? ⟨w.heap.size, 0, none⟩ = some (.int .i64 s) ∧ w'.cell? ⟨w.heap.size, 1, none⟩ = some (.int .i64 t))
        (first
         | go_keep
         | (go_split_ands; exact ⟨(hb3.cell (p := ⟨w.heap.size, 0, none⟩) hBX).trans (by assumption), (hb3.cell (p := ⟨w.heap.size, 1, none⟩) hBX).trans (by assumption)⟩)
         | (go_split_ands; exact ⟨(hb2.cell (p := ⟨w.heap.size, 0, none⟩) hBX).trans (by assumption), (hb2.cell (p := ⟨w.heap.size, 1, none⟩) hBX).trans (by assumption)⟩)
         | (go_split_ands; exact ⟨(hb1.cell (p := ⟨w.heap.size, 0, none⟩) hBX).trans (by assumption), (hb1.cell (p := ⟨w.heap.size, 1, none⟩) hBX).trans (by assumption)⟩))
        ((first
        | (refine step_append_rows (by rfl) _ _ 52 (by rfl) X.heap.size 87 _ 16 Tryz.underlying52 info_rangeI rfl (by omega) encP_len encP_one v2 _ _ (by rfl) hown2 hk2.size X.heap.size _ 0 _ [] (by rfl) (Row.none_ _ _ _) (by unfold maxLen; omega) (by omega) ?_; intro v3 w3 hown3 hg3 hat3 hb3; have hk3 : Keep X w3 := Below.trans hk2 hb3)
        | (refine step_append_rows (by rfl) _ _ 52 (by rfl) X.heap.size 87 _ 16 Tryz.underlying52 info_rangeI rfl (by omega) encP_len encP_one v1 _ _ (by rfl) (by first | exact hown1 | exact hown1.alloc _) (by have := hb1.size; simp at this ⊢; omega) _ _ 1 1 [(s, t)] (by rfl) (by first | exact Row.new encP_len w1 87 [(s, t)] #[.int .i64 s, .int .i64 t] rfl | exact hrE2.far hg1 (by simp) (by simp [Value.ownBlock]) | exact hrE3.far hg1 (by simp <;> omega) (by simp [Value.ownBlock]) | fail) (by unfold maxLen; omega) (by omega) ?_; intro v2 w2 hown2 hg2 hat2 hb2; have hk2 : Keep X w2 := Below.trans (by first | exact hk1 | exact Keep.alloc hk1 _) hb2)
        | (refine step_append_rows (by rfl) _ _ 52 (by rfl) X.heap.size 87 _ 16 Tryz.underlying52 info_rangeI rfl (by omega) encP_len encP_one (.slice (some ⟨X.heap.size, 0, none⟩) 0 0) 0 [] (by rfl) (by first | exact (World.ownsRow_lit X #[] 0 (Nat.le_refl _) (Nat.zero_le _) rfl).drew | exact ((World.ownsRow_lit X #[] 0 (Nat.le_refl _) (Nat.zero_le _) rfl).alloc _).drew) (by simp <;> omega) X.heap.size _ i c1 (out.take i) (by rfl) (by first | exact (hrX.take i (by omega)).below (keep_drew ((Keep.refl X).alloc _)) | exact (hrX.take i (by omega)).below (keep_drew (((Keep.refl X).alloc _).alloc _))) (by unfold maxLen; omega) (by omega) ?_; intro v1 w1 hown1 hg1 hat1 hb1; have hk1 : Keep X w1 := Below.trans (by first | exact keep_drew (Keep.alloc (Keep.refl X) _) | exact keep_drew (Keep.alloc (Keep.alloc (Keep.refl X) _) _)) hb1)
        | (refine step_append_rows (by rfl) _ _ 52 (by rfl) X.heap.size 87 _ 16 Tryz.underlying52 info_rangeI rfl (by omega) encP_len encP_one (.slice (some ⟨X.heap.size + 1, 0, none⟩) 0 0) 0 [] (by rfl) hownE (by simp <;> omega) X.heap.size _ i c1 (out.take i) (by rfl) (by first | exact (hrX.take i (by omega)).below (keep_drew ((Keep.refl X).alloc _)) | exact (hrX.take i (by omega)).below (keep_drew (((Keep.refl X).alloc _).alloc _))) (by unfold maxLen; omega) (by omega) ?_; intro v1 w1 hown1 hg1 hat1 hb1; have hk1 : Keep X w1 := Below.trans (by first | exact keep_drew (Keep.alloc (Keep.refl X) _) | exact keep_drew (Keep.alloc (Keep.alloc (Keep.refl X) _) _)) hb1)
        | fail))
       all_goals
        simp only [Nat.zero_add] at hown3
        obtain ⟨A3, c3, rfl⟩ := own_slice hown3
        have hle3 := own_le hown3
        have HFR3 := Lib.hid (FreshR.of_own hown3 hkX.size)
        have hr3 := Row.of_own encP_len hown3 (by omega)
        simp only [List.nil_append] at hr3
        have HDR := Lib.hid (show out.drop i = [] from List.drop_of_length_le (by rw [HLO.out]; exact Nat.le_refl _))
        replace hr3 := (show Row encP 2 w3 w3.heap.size A3 _ (out.take i ++ [(s, t)] ++ out.drop i) by rw [HDR.out]; exact hr3)
        have HF := Lib.hid (HD.out.done HR.out i (fun j hj => hlow.out j hj) (by rw [HLO.out]; exact hi) (fun h => HS.out (by rw [HLO.out] at h; exact h)))
        clear hown3 hg1 hg2 hg3 hat1 hat2 hat3 hrE2 hrE3 hownE
        go_wp2
        all_goals
         go_ret
         exact ⟨_, ⟨A3, _, c3, rfl, hle3.1, hle3.2, hr3, hkX.trans hk3, HFR3.out⟩, HF.out, by have := HLO.out; simp <;> omega⟩
end Go.Proofs.YtaciogcpghbhjaaGreat.Span
/- Layer 4's reference: Norm and Covers. Conditions: lengths at most a hundred thousand, ends that fit. -/
namespace Go.Proofs.YtaciogcpghbhjaaGreat.Span
open Go.ChangeShapes Go.WideShapes Go.ChangeAt Go.RowKit
theorem getD_mem {zs : List (Int × Int)} {j : Nat} (hj : j < zs.length) : zs.getD j (0, 0) ∈ zs := by
 rw [List.getD_eq_getElem?_getD, List.getElem?_eq_getElem hj]
 exact List.getElem_mem hj
set_option maxHeartbeats 400000 in
theorem ref_norm_own (A : Option Addr) (n c : Nat) (zs : List (Int × Int)) (w : World) (hn : n <= 100000) (hA : Row encP 2 w w.heap.size A n zs) (hf : ∀ r ∈ zs, Fit r) :
  Calls Tryz.prog 50 #[.slice A n c] w fun e w' => RetRowF encP 2 (Sp.norm zs) w e w' ∧ Sp.NormOk zs := by
 have HL := Lib.hid hA.1
 go_enter Tryz.func50, Tryz.ntmps50
 go_wp2
 go_loopw [3, 4] (fun s3 s4 wr => ∃ (k : Nat) (A' : Option Addr) (m c' : Nat) (ys : List (Int × Int)), k <= n ∧ s4 = .int .i64 k ∧ s3 = .slice A' m c' ∧ m <= c' ∧ c' <= maxLen ∧ Row encP 2 wr wr.heap.size A' m ys ∧ m <= k ∧ Keep w wr ∧ Hid (Sp.Right ys ∧ ∀ t, Sp.has ys t = Sp.has (zs.take k) t) ∧ Hid (∀ r ∈ ys, Fit r) ∧ Hid (FreshR w A' m)) (fun _ s4 _ => n - (intOf s4).toNat)
 case atStart => exact ⟨0, none, 0, 0, [], Nat.zero_le _, rfl, rfl, Nat.le_refl _, Nat.zero_le _, Row.none_ _ _ _, Nat.le_refl _, Keep.refl _, ⟨Sp.Right.nil, fun t => by simp⟩, (fun r h => by cases h), FreshR.zero _ _⟩
 case round =>
  obtain ⟨k, A', m, c', ys, hk, rfl, rfl, hmc, hcm, hrow, hmk, hkr, HY, HF, HFR⟩ := hrel
  by_cases hlt : k < n
  ·obtain ⟨b, off, rfl, _⟩ := hA.addr (by omega)
   obtain ⟨hb, c1, c2⟩ := hA.pair k hlt
   have hkz : k < zs.length := by rw [HL.out]; exact hlt
   have fx := fit_getD hf hkz
   have HT := Lib.hid (Sp.take_snoc zs k hkz)
   clear hkz
   have d1 := (hkr.cell (p := ⟨b, off + k * 2, none⟩) hb).trans c1
   have d2 := (hkr.cell (p := ⟨b, off + k * 2 + 1, none⟩) hb).trans c2
   clear c1 c2
   obtain ⟨x, y, hx⟩ : ∃ x y, zs.getD k (0, 0) = (x, y) := ⟨_, _, rfl⟩
   rw [hx] at d1 d2 fx
   have HX := Lib.hid hx
   clear hx
   have HFX := Lib.hid fx
   clear fx
   simp only at d1 d2
   have hkn : (k : Int) < n := by omega
   have hk0 : (0 : Int) <= k := by omega
   by_cases hxy : x <= y
   ·have hcon := into_own A' m c' ys x y
    go_wp2
    go_quiet (fail)
    have hq : Quiet wr (wr.drewN nq) := ⟨nq, rfl⟩
    generalize _root_.Go.World.drewN wr nq = X at hq ⊢
    have hcon := hcon X (by omega) (hrow.kept hq.keep) HF.out HY.out.1 hxy HFX.out
    have HKR := Lib.hid (hkr.trans hq.keep)
    replace hkr := hkr.trans hq.keep
    replace d1 := (hq.cell _).trans d1
    replace d2 := (hq.cell _).trans d2
    clear hq hrow
    go_wp2_with fail
    refine hcon.mono ?_
    rintro e w1 ⟨ys1, ⟨A1, m1, c1, rfl, hle1, hle2, hrow1, hk1, hfr1⟩, hys, hlen⟩
    have HFR1 := Lib.hid (hfr1.mono HKR.out)
    clear hfr1
    have HY1 := Lib.hid hys
    clear hys hcon
    have hm1 := hrow1.1
    have hm2 : m1 <= k + 1 := by omega
    clear hm1 hlen
    have HK : Hid (Sp.Right ys1 ∧ ∀ t, Sp.has ys1 t = Sp.has (zs.take (k + 1)) t) := ⟨HY1.out.1, fun t => by
     rw [HY1.out.2, HY.out.2, HT.out, HX.out, Sp.has_append, Sp.has_one]⟩
    have HF1 : Hid (∀ r ∈ ys1, Fit r) := by
     have h1 : Sp.NormOk (ys ++ [(x, y)]) := (Sp.norm_of HY1.out.1 fun t => by rw [HY1.out.2, Sp.has_append, Sp.has_one]).2
     have h2 := (Sp.norm_of (zs := ys ++ [(x, y)]) HY1.out.1 fun t => by rw [HY1.out.2, Sp.has_append, Sp.has_one]).1
     have h3 := Sp.norm_fit h1 (lo := -9223372036854775808) (hi := 9223372036854775807) (fun r hr => by
      rw [List.mem_append] at hr
      rcases hr with hr | hr
      ·exact HF.out r hr
      ·simp only [List.mem_singleton] at hr
       subst hr
       exact HFX.out)
     rw [h2] at h3
     exact h3
    go_wp2
    go_roundw
    case rel => exact ⟨k + 1, A1, m1, c1, ys1, by omega, by go_num, rfl, hle1, hle2, hrow1, hm2, hkr.trans hk1, HK, HF1, HFR1⟩
    case measure => simp [intOf]; omega
   ·have HK : Hid (Sp.Right ys ∧ ∀ t, Sp.has ys t = Sp.has (zs.take (k + 1)) t) := ⟨HY.out.1, fun t => by
     rw [HY.out.2, HT.out, HX.out, Sp.has_snoc_emp (by simp [Sp.emp]; omega)]⟩
    go_wp2
    go_quiet (fail)
    go_wp2
    go_roundw
    case rel => exact ⟨k + 1, A', m, c', ys, by omega, by go_num, rfl, hmc, hcm, hrow.kept ⟨rfl, rfl, rfl, Nat.le_refl _, fun _ _ => rfl⟩, by omega, hkr.trans (Quiet.keep ⟨nq, rfl⟩), HK, HF, HFR⟩
    case measure => simp [intOf]; omega
  ·obtain rfl : k = n := by omega
   have h := Sp.norm_of (zs := zs) HY.out.1 (fun t => by
    have e : zs.take k = zs := List.take_of_length_le (by rw [HL.out]; exact Nat.le_refl _)
    rw [HY.out.2, e])
   have H := Lib.hid h
   clear h
   go_wp2
   go_ret
   exact ⟨⟨A', m, c', rfl, hmc, hcm, by rw [H.out.1]; exact hrow, hkr, HFR.out⟩, H.out.2⟩
theorem ref_norm_any (A : Option Addr) (n c : Nat) (zs : List (Int × Int)) (w : World) (hn : n <= 100000) (hA : Row encP 2 w w.heap.size A n zs) (hf : ∀ r ∈ zs, Fit r) :
  Calls Tryz.prog 50 #[.slice A n c] w fun e w' => RetRow encP 2 (Sp.norm zs) w e w' ∧ Sp.NormOk zs :=
 (ref_norm_own A n c zs w hn hA hf).mono fun _ _ ⟨h1, h2⟩ => ⟨h1.row, h2⟩
theorem cov_true (zs : List (Int × Int)) (r : Int × Int) (k : Nat) (hk : k < zs.length) (h1 : (zs.getD k (0, 0)).1 <= r.1) (h2 : r.2 <= (zs.getD k (0, 0)).2) : Sp.cov zs r = true := by
 simp only [Sp.cov, List.any_eq_true, Bool.and_eq_true, decide_eq_true_eq]
 exact ⟨_, getD_mem hk, h1, h2⟩
theorem cov_false (zs : List (Int × Int)) (r : Int × Int) (h : ∀ k, k < zs.length -> ¬ ((zs.getD k (0, 0)).1 <= r.1 ∧ r.2 <= (zs.getD k (0, 0)).2)) : Sp.cov zs r = false := by
 cases e : Sp.cov zs r with
 | false => rfl
 | true =>
   simp only [Sp.cov, List.any_eq_true, Bool.and_eq_true, decide_eq_true_eq] at e
   obtain ⟨o, ho, h1⟩ := e
   obtain ⟨i, hi, rfl⟩ := List.mem_iff_getElem.1 ho
   have := h i hi
   rw [List.getD_eq_getElem?_getD, List.getElem?_eq_getElem hi] at this
   exact absurd h1 this
set_option maxHeartbeats 400000 in
theorem ref_covers_any (A : Option Addr) (n c : Nat) (zs : List (Int × Int)) (p q : Int) (w : World) (hn : n <= 100000) (hA : Row encP 2 w w.heap.size A n zs) (hf : ∀ r ∈ zs, Fit r) :
  Calls Tryz.prog 88 #[.slice A n c, .agg #[.int .i64 p, .int .i64 q]] w fun e w' => e = .returned (.bool (Sp.covers (Sp.norm zs) (p, q))) ∧ Keep w w' := by
 by_cases hpq : q < p
 ·have he : Sp.covers (Sp.norm zs) (p, q) = true := by simp [Sp.covers, Sp.emp, hpq]
  rw [he]
  clear he
  go_enter Tryz.func88, Tryz.ntmps88
  go_wp2
  go_ret
  exact ⟨rfl, (Keep.refl _).alloc _⟩
 ·have he : Sp.covers (Sp.norm zs) (p, q) = Sp.cov (Sp.norm zs) (p, q) := by simp [Sp.covers, Sp.emp, hpq]
  rw [he]
  clear he
  have hkB : Keep w (w.alloc (.cells #[.int .i64 p, .int .i64 q] 87)) := (Keep.refl _).alloc _
  have hcon := ref_norm_any A n c zs (w.alloc (.cells #[.int .i64 p, .int .i64 q] 87)) hn (hA.kept hkB) hf
  clear hA
  generalize Sp.norm zs = ys at hcon ⊢
  go_enter Tryz.func88, Tryz.ntmps88
  go_wp2_with fail
  refine hcon.mono ?_
  rintro e w1 ⟨⟨A1, m, c1, rfl, hle1, hle2, hrow, hk1⟩, hok⟩
  clear hok hcon
  have b0 := (hk1.cell (p := ⟨w.heap.size, 0, none⟩) (by simp)).trans (show _ = some (Value.int .i64 p) by simp)
  have b1 := (hk1.cell (p := ⟨w.heap.size, 1, none⟩) (by simp)).trans (show _ = some (Value.int .i64 q) by simp)
  have hk2 := hkB.trans hk1
  have HL := Lib.hid hrow.1
  have hm : m <= maxLen := Nat.le_trans hle1 hle2
  unfold maxLen at hm
  clear hk1 hkB
  go_wp2
  go_loopw [6] (fun s6 wr => ∃ k : Nat, k <= m ∧ s6 = .int .i64 k ∧ Quiet w1 wr ∧ Hid (∀ j, j < k -> ¬ ((ys.getD j (0, 0)).1 <= p ∧ q <= (ys.getD j (0, 0)).2))) (fun s6 _ => m - (intOf s6).toNat)
  case atStart => exact ⟨0, Nat.zero_le _, rfl, Quiet.refl _, fun j hj => absurd hj (Nat.not_lt_zero _)⟩
  case round =>
   obtain ⟨k, hk, rfl, hq, hg⟩ := hrel
   by_cases hlt : k < m
   ·obtain ⟨b, off, rfl, _⟩ := hrow.addr (by omega)
    obtain ⟨_, c2, c3⟩ := hrow.pair k hlt
    have d1 := (hq.cell _).trans c2
    have d2 := (hq.cell _).trans c3
    have d3 := (hq.cell _).trans b0
    have d4 := (hq.cell _).trans b1
    clear c2 c3
    obtain ⟨x, y, hx⟩ : ∃ x y, ys.getD k (0, 0) = (x, y) := ⟨_, _, rfl⟩
    rw [hx] at d1 d2
    have HX := Lib.hid hx
    clear hx
    simp only at d1 d2
    have hkn : (k : Int) < m := by omega
    have hk0 : (0 : Int) <= k := by omega
    have go_on : ¬ (x <= p ∧ q <= y) -> ∀ j, j < k + 1 -> ¬ ((ys.getD j (0, 0)).1 <= p ∧ q <= (ys.getD j (0, 0)).2) := fun h j hj => by
     rcases Nat.lt_or_ge j k with h1 | h1
     ·exact hg.out j h1
     ·obtain rfl : j = k := by omega
      rw [HX.out]; exact h
    by_cases h1 : x <= p
    ·by_cases h2 : q <= y
     ·go_wp2
      go_quiet (fail)
      go_wp2
      go_ret
      rw [cov_true ys (p, q) k (by rw [HL.out]; exact hlt) (by rw [HX.out]; exact h1) (by rw [HX.out]; exact h2)]
      exact ⟨rfl, hk2.trans (hq.drewN _).keep⟩
     ·have hd : decide (q <= y) = false := by simpa using h2
      go_wp2
      go_quiet (fail)
      go_wp2
      go_roundw
      case rel => exact ⟨k + 1, by omega, by go_num, hq.drewN _, go_on fun h => by omega⟩
      case measure => simp [intOf]; omega
    ·have hd : decide (x <= p) = false := by simpa using h1
     go_wp2
     go_quiet (fail)
     go_wp2
     go_roundw
     case rel => exact ⟨k + 1, by omega, by go_num, hq.drewN _, go_on fun h => by omega⟩
     case measure => simp [intOf]; omega
   ·obtain rfl : k = m := by omega
    go_wp2
    go_ret
    rw [cov_false ys (p, q) (fun j hj => hg.out j (by rw [<- HL.out]; exact hj))]
    exact ⟨rfl, hk2.trans hq.keep⟩
end Go.Proofs.YtaciogcpghbhjaaGreat.Span
