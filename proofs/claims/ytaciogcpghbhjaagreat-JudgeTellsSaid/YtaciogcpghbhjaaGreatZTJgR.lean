/- Of these texts: JgR. Conditions: as each part says. -/
import Derived.Test.YtaciogcpghbhjaaGreatZTWkAll
import Derived.Test.YtaciogcpghbhjaaGreatZTTrRu
import Derived.Test.YtaciogcpghbhjaaGreatZTMbR
import Derived.Test.YtaciogcpghbhjaaGreatZTRel
import Derived.Great.BuildSlice
/- Layer 24's reference: Levels, Tick, Code, Excuse. Conditions: at most a thousand rules that may be used; levels as they are; frames that may be. -/
namespace Go.Proofs.YtaciogcpghbhjaaGreat.Ref24
set_option linter.unusedVariables false
set_option linter.unusedSimpArgs false
set_option maxRecDepth 100000
open Go.ChangeShapes Go.WideShapes Go.ChangeAt Go.RowKit
open Tr (zeroR Rus RuleAt)
open Jg
open Ref8 (ret_bool)
theorem ret_int {a b : Int} (h : a = b) : Ending.returned (.int .i64 a) = Ending.returned (.int .i64 b) := by rw [h]
theorem info_int : (Tryz.prog.info? 3).map (fun i => (i.zero, i.size, i.bytes)) = some (some (.int .i64 0), 1, 8) := by kernel_rfl
def RetJ (VA : Option Addr) (a : AskP) (v : Int × Int × List Int) (w : World) (e : Ending) (w' : World) : Prop :=
 ∃ A n c B m d, e = .returned (.tuple #[.agg #[.int .i64 a.fc, .int .i64 a.rd, .int .i64 a.ct, .int .i64 a.wr, .int .i64 a.mn, .slice A n c], .int .i64 v.1, .int .i64 v.2.1, .slice B m d]) ∧
   Ints .i64 w' w'.heap.size A n a.vs ∧ Ints .i64 w' w'.heap.size B m v.2.2 ∧ Keep w w' ∧ m <= d ∧ d <= maxLen ∧ FreshR w A n ∧ (FreshR w B m ∨ B = VA)
def RetLv (lv : List Int) (w : World) (e : Ending) (w' : World) : Prop :=
 ∃ A n c, e = .returned (.slice A n c) ∧ n <= c ∧ c <= maxLen ∧ Ints .i64 w' w'.heap.size A n lv ∧ Keep w w' ∧ FreshR w A n
theorem ints_at {w : World} {B n b off : Nat} {zs : List Int} (h : Ints .i64 w B (some ⟨b, off, none⟩) n zs) (j : Nat) (hj : j < n) : b < B ∧ w.cell? ⟨b, off + j, none⟩ = some (.int .i64 (zs.getD j 0)) := by
 obtain ⟨b', off', e, hb, hc⟩ := h.2 (by omega)
 injection e with e
 injection e with e1 e2
 subst e1 e2
 exact ⟨hb, hc j hj⟩
theorem ints_addr {w : World} {B n : Nat} {A : Option Addr} {zs : List Int} (h : Ints .i64 w B A n zs) (hn : 0 < n) : ∃ b off, A = some ⟨b, off, none⟩ ∧ b < B := by
 obtain ⟨b, off, e, hb, _⟩ := h.2 hn
 exact ⟨b, off, e, hb⟩
theorem own_le1 {w : World} {base : Nat} {e : TypeId} {k : Nat} {A : Option Addr} {n c : Nat} {xs : List Value} (h : w.ownsRow base e k (.slice A n c) n xs) : n <= c ∧ c <= maxLen := by
 rcases h.2 with ⟨h, _⟩ | ⟨_, cap, _, h, _, _, h1, h2, _⟩
 ·injection h with _ h1 h2
  subst h1 h2
  exact ⟨Nat.le_refl _, Nat.zero_le _⟩
 ·injection h with _ _ h3
  subst h3
  exact ⟨h1, h2⟩
theorem full_all (r : RuleP) (w : World) (h : (r.per = 0 ∧ r.num = 0 ∧ r.burst = 0) ∨ Bu.right (rate r) = true) :
  Calls Tryz.prog 31 #[.agg #[.int .i64 r.num, .int .i64 r.per, .int .i64 r.burst]] w fun e w' => e = .returned (.int .i64 (Bu.full (rate r))) ∧ Keep w w' := by
 rcases h with h | h
 ·rw [full_zero h, h.1, h.2.1, h.2.2]
  clear h
  go_enter Tryz.func31, Tryz.ntmps31
  go_wp2
  go_ret
  exact ⟨rfl, (Keep.refl w).alloc _⟩
 ·exact Ref18.full_any (rate r) w h
theorem levels_snoc (l : List RuleP) (k : Nat) (h : k < l.length) : levels (l.take (k + 1)) = levels (l.take k) ++ [Bu.full (rate (l.getD k zeroR))] := by
 rw [getR l k h, List.take_succ_eq_append_getElem h]
 unfold levels
 rw [List.map_append]; rfl
theorem tick_snoc (l : List RuleP) (lv : List Int) (k : Nat) (h : k < l.length) (h2 : k < lv.length) : tick (l.take (k + 1)) (lv.take (k + 1)) = tick (l.take k) (lv.take k) ++ [tick1 (l.getD k zeroR) (lv.getD k 0)] := by
 rw [getR l k h, getI lv k h2, List.take_succ_eq_append_getElem h, List.take_succ_eq_append_getElem h2]
 unfold tick
 rw [List.zipWith_append (by simp; omega)]
 rfl
set_option maxHeartbeats 2000000 in
theorem levels_any (A : Option Addr) (c : Nat) (l : List RuleP) (w : World) (hl : l.length <= 1000) (hj : okJ l) (hR : Rus w A l) :
  Calls Tryz.prog 11 #[.slice A l.length c] w (RetLv (levels l) w) := by
 go_enter Tryz.func11, Tryz.ntmps11
 go_wp2
 go_loopw [3, 4] (fun o iv wr => ∃ (k : Nat) (xs : List Int), k <= l.length ∧ iv = .int .i64 k ∧ Hid (xs = levels (l.take k)) ∧ wr.ownsRow w.heap.size 3 1 o k (xs.map (Value.int .i64)) ∧ Keep w wr) (fun _ iv _ => l.length - (intOf iv).toNat)
 case atStart => exact ⟨0, [], Nat.zero_le _, rfl, Lib.hid rfl, ⟨rfl, .inl ⟨rfl, rfl⟩⟩, Keep.refl _⟩
 case round =>
  obtain ⟨k, xs, hk, rfl, HX, hown, hK⟩ := hrel
  obtain ⟨OA, oc, rfl⟩ := own_slice hown
  by_cases hlt : k < l.length
  ·have hltz : (k : Int) < l.length := by omega
   have hk0 : (0 : Int) <= k := by omega
   have hRw := hR.kept hK
   obtain ⟨b, off, rfl, _⟩ := hRw.addr (by omega)
   obtain ⟨_, RA, OA', rc, oc', hr, _⟩ := hRw.elem k hlt
   have hjk := hj.at k hlt
   have hsn := levels_snoc l k hlt
   rw [<- HX.out] at hsn
   generalize l.getD k zeroR = r at hr hjk hsn
   obtain ⟨_, _, _, _, _, _, _, c7, c8, c9, _⟩ := hr
   have HC := Lib.hid (full_all r wr hjk)
   obtain ⟨z, hz⟩ : ∃ z, z = Bu.full (rate r) := ⟨_, rfl⟩
   rw [<- hz] at HC hsn
   have HSN := Lib.hid hsn
   clear hRw hjk hsn hz
   go_wp2_with fail
   refine HC.out.mono ?_
   rintro e w1 ⟨rfl, k1⟩
   have hown1 := own_keep hown k1
   have hK1 := hK.trans k1
   have hs1 := hK1.size
   clear hown hK k1 c7 c8 c9
   go_wp2_with (at_builtin; refine append_new rfl _ _ 33 rfl w.heap.size 3 (.int .i64 0) 1 8 Tryz.underlying33 info_int rfl (by decide) _ _ _ rfl hown1 hs1 1 #[.int .i64 z] rfl rfl (by intro u hu; simp at hu; subst hu; rfl) (by unfold maxLen; omega) (by omega) ?_)
   intro v' w2 hown' hb1
   have hK2 : Keep w w2 := Below.trans hK1 hb1
   clear hown1 hK1 hs1 hb1
   go_wp2
   refine ⟨⟨k + 1, xs ++ [z], by omega, by go_num, Lib.hid HSN.out.symm, by rw [List.map_append]; exact hown', hK2⟩, by simp [intOf]; omega⟩
  ·obtain rfl : k = l.length := by omega
   have h := HX.out
   rw [List.take_of_length_le (Nat.le_refl _)] at h
   have H := Lib.hid h
   clear h
   go_wp2
   go_ret
   exact ⟨OA, l.length, oc, rfl, (own_le1 hown).1, (own_le1 hown).2, by rw [<- H.out]; exact Ints.of_own hown, hK, FreshR.of_own hown (Nat.le_refl _)⟩
set_option maxHeartbeats 4000000 in
theorem tick_any (A B : Option Addr) (c d : Nat) (l : List RuleP) (lv : List Int) (w : World) (hl : l.length <= 1000) (hj : okJ l) (hv : okV l lv) (hR : Rus w A l) (hB : Ints .i64 w w.heap.size B l.length lv) :
  Calls Tryz.prog 14 #[.slice A l.length c, .slice B l.length d] w (RetLv (tick l lv) w) := by
 have hlen := Lib.hid hv.1
 go_enter Tryz.func14, Tryz.ntmps14
 go_wp2
 go_loopw [5, 6] (fun o iv wr => ∃ (k : Nat) (xs : List Int), k <= l.length ∧ iv = .int .i64 k ∧ Hid (xs = tick (l.take k) (lv.take k)) ∧ wr.ownsRow w.heap.size 3 1 o k (xs.map (Value.int .i64)) ∧ Keep w wr) (fun _ iv _ => l.length - (intOf iv).toNat)
 case atStart => exact ⟨0, [], Nat.zero_le _, rfl, Lib.hid rfl, ⟨rfl, .inl ⟨rfl, rfl⟩⟩, Keep.refl _⟩
 case round =>
  obtain ⟨k, xs, hk, rfl, HX, hown, hK⟩ := hrel
  obtain ⟨OA, oc, rfl⟩ := own_slice hown
  by_cases hlt : k < l.length
  ·have hltz : (k : Int) < l.length := by omega
   have hk0 : (0 : Int) <= k := by omega
   have hRw := hR.kept hK
   obtain ⟨b, off, rfl, _⟩ := hRw.addr (by omega)
   obtain ⟨hbb, RA, OA', rc, oc', hr, _⟩ := hRw.elem k hlt
   have hBw := hB.kept hK
   obtain ⟨b2, off2, rfl, _⟩ := ints_addr hBw (by omega)
   obtain ⟨hb2, hcell⟩ := ints_at hBw k hlt
   have hjk := hj.at k hlt
   have hvk := hv.2 k hlt
   have hsn := tick_snoc l lv k hlt (by rw [hlen.out]; exact hlt)
   rw [<- HX.out] at hsn
   generalize l.getD k zeroR = r at hr hjk hvk hsn
   generalize lv.getD k 0 = x at hcell hvk hsn
   obtain ⟨_, _, _, _, _, _, _, c7, c8, c9, _⟩ := hr
   obtain ⟨z, hz⟩ : ∃ z, z = tick1 r x := ⟨_, rfl⟩
   rw [<- hz] at hsn
   have HSN := Lib.hid hsn
   have hown0 := own_le1 hown
   have hs0 := hK.size
   have HRK := Lib.hid (And.intro hRw hBw)
   clear hsn hRw hBw
   by_cases hp : 0 < r.per
   ·have d1 : decide (0 < r.per) = true := by simp [hp]
    have hr : Bu.right (rate r) = true := by
     rcases hjk with h | h
     ·omega
     ·exact h
    have HZ := Lib.hid (show z = Bu.tick x (rate r) by rw [hz]; unfold tick1; rw [if_pos hp])
    have hC := fun q : KeptOf wr => Ref18.tick_any x (rate r) q.w hr hvk.1 hvk.2
    rw [<- HZ.out] at hC
    have y7 := fun q : KeptOf wr => (Below.cell q.h (p := ⟨b, off + k * 11 + 7, none⟩) hbb).trans c7
    have y8 := fun q : KeptOf wr => (Below.cell q.h (p := ⟨b, off + k * 11 + 8, none⟩) hbb).trans c8
    have y9 := fun q : KeptOf wr => (Below.cell q.h (p := ⟨b, off + k * 11 + 9, none⟩) hbb).trans c9
    have yx := fun q : KeptOf wr => (Below.cell q.h (p := ⟨b2, off2 + k, none⟩) hb2).trans hcell
    clear hz hjk hvk hp hr hcell
    simp only [rate] at hC
    go_wp2_with fail
    refine wp_region_kept (by kernel_rfl) (by kernel_rfl) ?_
    repeat (go_big_quiet_step (first | with_reducible exact KeptOf.of (hC _)))
    refine Go.wpQuiet_nil ?_
    intro _ hw'
    obtain ⟨⟨W, hw⟩, hw''⟩ := hw'
    subst hw''
    have hown1 := own_keep hown hw
    have hK1 := hK.trans hw
    have hs1 := hK1.size
    clear hown hK hw c7 c8 c9 y7 y8 y9 yx hC
    go_wp2_with (at_builtin; refine append_new rfl _ _ 33 rfl w.heap.size 3 (.int .i64 0) 1 8 Tryz.underlying33 info_int rfl (by decide) _ _ _ rfl hown1 hs1 1 #[.int .i64 z] rfl rfl (by intro u hu; simp at hu; subst hu; rfl) (by unfold maxLen; omega) (by omega) ?_)
    intro v' w2 hown' hb1
    have hK2 : Keep w w2 := Below.trans hK1 hb1
    clear hown1 hK1 hs1 hb1
    go_wp2
    refine ⟨⟨k + 1, xs ++ [z], by omega, by go_num, Lib.hid HSN.out.symm, by rw [List.map_append]; exact hown', hK2⟩, by simp [intOf]; omega⟩
   ·have d1 : decide (0 < r.per) = false := by simp; omega
    obtain rfl : z = 0 := by rw [hz]; unfold tick1; rw [if_neg hp]
    clear hz hjk hvk hp hcell
    go_wp2_with (at_builtin; refine append_new rfl _ _ 33 rfl w.heap.size 3 (.int .i64 0) 1 8 Tryz.underlying33 info_int rfl (by decide) _ _ _ rfl hown hs0 1 #[.int .i64 0] rfl rfl (by intro u hu; simp at hu; subst hu; rfl) (by unfold maxLen; omega) (by omega) ?_)
    intro v' w2 hown' hb1
    have hK2 : Keep w w2 := Below.trans hK hb1
    clear hown hK hs0 hb1
    go_wp2
    refine ⟨⟨k + 1, xs ++ [0], by omega, by go_num, Lib.hid HSN.out.symm, by rw [List.map_append]; exact hown', hK2⟩, by simp [intOf]; omega⟩
  ·obtain rfl : k = l.length := by omega
   have h := HX.out
   rw [List.take_of_length_le (Nat.le_refl _), List.take_of_length_le (by rw [hlen.out]; exact Nat.le_refl _)] at h
   have H := Lib.hid h
   clear h
   go_wp2
   go_ret
   exact ⟨OA, l.length, oc, rfl, (own_le1 hown).1, (own_le1 hown).2, by rw [<- H.out]; exact Ints.of_own hown, hK, FreshR.of_own hown (Nat.le_refl _)⟩
set_option maxHeartbeats 1000000 in
theorem code_any (v : Int) (w : World) :
  Calls Tryz.prog 7 #[.int .i64 v] w fun e w' => e = .returned (.int .i64 (code v)) ∧ w = w' := by
 have HE := Lib.hid (show code v = if v = 3 ∨ v = 2 then 1 else if v = 4 then 2 else if v = 5 then 3 else if v = 6 ∨ v = 7 then 6 else 0 from rfl)
 go_enter Tryz.func7, Tryz.ntmps7
 go_wp2
 all_goals (go_ret; refine ⟨ret_int ?_, rfl⟩; rw [HE.out]; simp_all)
theorem info_byte : (Tryz.prog.info? 5).map (fun i => (i.zero, i.size, i.bytes)) = some (some (.int .u8 0), 1, 1) := by kernel_rfl
theorem code_range (v : Int) : 0 <= code v ∧ code v <= 6 := by
 unfold code
 split
 ·omega
 split
 ·omega
 split
 ·omega
 split
 ·omega
 ·omega
def exD : List Tmp := [22]
def exR (x y : Int) (t : Tmp) (v : Value) (w : World) : Prop := ∃ g, v = .slice (some ⟨g, 0, none⟩) 2 2 ∧ g < w.heap.size ∧ w.cell? ⟨g, 0, none⟩ = some (.int .u8 x) ∧ w.cell? ⟨g, 1, none⟩ = some (.int .u8 y)
set_option maxHeartbeats 4000000 in
theorem excuse_any (f : FrameP) (v : Int) (w : World) (hf : Mb.right f = true) :
  Calls Tryz.prog 18 #[.agg #[.int .i64 f.id, .int .i64 f.unit, .string f.pdu], .int .i64 v] w fun e w' => e = .returned (.tuple #[.agg #[.int .i64 (excuse f v).id, .int .i64 (excuse f v).unit, .string (excuse f v).pdu], .bool (excuseOk v)]) ∧ Keep w w' := by
 have hp := (Mb.right_iff f).1 hf
 obtain ⟨iB, hiB, hzB, hyB, hlB⟩ := info_parts info_byte
 obtain ⟨X, hX⟩ : ∃ X, X = (w.alloc (.cells #[.int .i64 f.id, .int .i64 f.unit, .string f.pdu] 37)).alloc (.cells #[.int .i64 0, .int .i64 0, .string ⟨#[]⟩] 37) := ⟨_, rfl⟩
 have k0 : Keep w X := by rw [hX]; exact ((Keep.refl w).alloc _).alloc _
 have hs1 : w.heap.size < X.heap.size := by rw [hX]; simp; omega
 have hs2 : w.heap.size + 1 < X.heap.size := by rw [hX]; simp
 have b0 : X.cell? ⟨w.heap.size, 0, none⟩ = some (.int .i64 f.id) := by rw [hX]; go_simp
 have b1 : X.cell? ⟨w.heap.size, 1, none⟩ = some (.int .i64 f.unit) := by rw [hX]; go_simp
 have b2 : X.cell? ⟨w.heap.size, 2, none⟩ = some (.string f.pdu) := by rw [hX]; go_simp
 have a0 : X.cell? ⟨w.heap.size + 1, 0, none⟩ = some (.int .i64 0) := by rw [hX]; go_simp
 have a1 : X.cell? ⟨w.heap.size + 1, 1, none⟩ = some (.int .i64 0) := by rw [hX]; go_simp
 have a2 : X.cell? ⟨w.heap.size + 1, 2, none⟩ = some (.string ⟨#[]⟩) := by rw [hX]; go_simp
 have f0 : ∀ j, X.frozen? ⟨w.heap.size + 1, j, none⟩ = false := fun j => by rw [hX]; go_simp
 have HC := Lib.hid fun W => code_any v W
 have hcr := code_range v
 have HEX := Lib.hid (show excuse f v = (if code v = 0 then Mb.zero else ⟨f.id, f.unit, st [UInt8.ofNat (byteAt f.pdu 0 % 128 + 128).toNat, UInt8.ofNat (code v).toNat]⟩) from rfl)
 have HOK := Lib.hid (show excuseOk v = !(code v == 0) from rfl)
 obtain ⟨c, hc⟩ : ∃ c, c = code v := ⟨_, rfl⟩
 rw [<- hc] at HC hcr HEX HOK
 have HX := Lib.hid hX
 clear hX hc hf
 by_cases h0 : c = 0
 ·subst h0
  have HE := Lib.hid (show excuse f v = Mb.zero from HEX.out.trans (if_pos rfl))
  clear hp hcr b0 b1 b2
  go_enter Tryz.func18, Tryz.ntmps18
  go_wp2_with fail
  rw [<- HX.out]
  refine (HC.out _).mono ?_
  rintro e _ ⟨rfl, rfl⟩
  go_wp2
  (try simp only [Exit.inBlock, Exit.then])
  refine bodyPost_ret (v := .tuple #[.agg #[.int .i64 0, .int .i64 0, .string ⟨#[]⟩], .bool false]) ?_ rfl ⟨by rw [HE.out, HOK.out]; rfl, ?_⟩
  ·rw [results_cell_tmp rfl]
   go_simp
   (try exact ⟨rfl, rfl, rfl⟩)
  ·exact ((k0.setCell (by simp) _).setCell (by simp) _).setCell (by simp) _
 ·have d0 : (c == 0) = false := by simp [h0]
  have HE := Lib.hid (show excuse f v = ⟨f.id, f.unit, st [UInt8.ofNat (byteAt f.pdu 0 % 128 + 128).toNat, UInt8.ofNat c.toNat]⟩ from HEX.out.trans (if_neg h0))
  have hsz : 0 < f.pdu.size := hp.2.2.1
  have x0 := idx (P := Tryz.prog) (k := .i64) f.pdu 0 Tryz.underlying9 (by omega) (by omega)
  have hr := byteAt_range f.pdu 0
  obtain ⟨y, hy⟩ : ∃ y, y = byteAt f.pdu 0 % 128 + 128 := ⟨_, rfl⟩
  have hyr : 0 <= y ∧ y <= 255 := by omega
  have hwy : IntKind.u8.wrap (byteAt f.pdu 0 % 128 + 128) = y := by rw [IntKind.wrap_u8]; omega
  have hwc : IntKind.u8.wrap c = c := by rw [IntKind.wrap_u8]; omega
  rw [<- hy] at HE
  have HY := Lib.hid (And.intro hyr.1 hyr.2)
  have HCR := Lib.hid (And.intro hcr.1 hcr.2)
  clear h0 hp hcr hyr
  go_enter Tryz.func18, Tryz.ntmps18
  go_wp2_with fail
  rw [<- HX.out]
  refine (HC.out _).mono ?_
  rintro e _ ⟨rfl, rfl⟩
  go_wp2_with fail
  refine Rel.wp_region_rel_tail 15 exD (exR y c) (by kernel_rfl) (by kernel_rfl) (fun t _ v W W' hk ⟨g, e, hg, h1, h2⟩ => ⟨g, e, Nat.lt_of_lt_of_le hg hk.size, (Below.cell hk hg).trans h1, (Below.cell hk hg).trans h2⟩) ?_
  simp only [List.take_succ_cons, List.take_zero]
  refine Rel.rel_take' 12 (by kernel_rfl) ?_
  apply Exists.intro
  refine ⟨fun F hF hne => ?_, ?_⟩
  ·simp only [List.take_succ_cons, List.take_zero]
   have z0 := fun q : Rel.KeptIn X F => (Below.cell (p := ⟨w.heap.size, 0, none⟩) q.h hs1).trans b0
   have z1 := fun q : Rel.KeptIn X F => (Below.cell (p := ⟨w.heap.size, 1, none⟩) q.h hs1).trans b1
   have z2 := fun q : Rel.KeptIn X F => (Below.cell (p := ⟨w.heap.size, 2, none⟩) q.h hs1).trans b2
   have cc := fun q : Rel.KeptIn X F => (HC.out q.w).mono fun e w' h => And.intro h.1 (show Keep q.w w' from h.2 ▸ Keep.refl _)
   repeat (go_big_quiet_step (first | with_reducible exact Rel.KeptIn.of hF (cc _)))
   refine Go.wpQuiet_nil ?_
   rfl
  simp only [List.drop_succ_cons, List.drop_zero]
  refine Rel.rel_opR 22 [] rfl (by kernel_rfl) ?_ ?_
  ·intro V W hk _
   refine ⟨.slice (some ⟨W.heap.size, 0, none⟩) 2 2, W.alloc (.cells #[.int .u8 y, .int .u8 c] 5), ?_, (Keep.refl W).alloc _, W.heap.size, rfl, by simp, by go_simp, by go_simp⟩
   have hp1 : ∀ a : Act, a.tmps.getD 18 undef = .int .u8 y -> Rel.pickV exD V a (.tmp 18) = .int .u8 y := fun a ha => by rw [Rel.pickV, if_neg (by decide), ha]
   have hp2 : ∀ a : Act, a.tmps.getD 21 undef = .int .u8 c -> Rel.pickV exD V a (.tmp 21) = .int .u8 c := fun a ha => by rw [Rel.pickV, if_neg (by decide), ha]
   simp only [execOp, Sem.run_bind]
   go_simp
  simp only [Act.put, List.setIfInBounds_toArray, List.set_cons_zero, List.set_cons_succ]
  refine Rel.rel_opq (.string (st [UInt8.ofNat y.toNat, UInt8.ofNat c.toNat])) 23 [22] rfl (by kernel_rfl) ?_ ?_
  ·intro V W hk hV
   obtain ⟨g, e, hg, h1, h2⟩ := hV 22 (by simp)
   have h := run_convert_bytes_arg (P := Tryz.prog) W 25 5 Tryz.underlying25 Tryz.underlying5 g 0 2 2 [y, c] rfl (fun i hi => by
    match i, hi with
    | 0, _ => exact h1
    | 1, _ => exact h2) 9 Tryz.underlying9
   have h2 : strOfNums [y, c] = st [UInt8.ofNat y.toNat, UInt8.ofNat c.toNat] := rfl
   rw [h2] at h
   simp only [execOp, Rel.pickV, Sem.run_bind]
   rw [if_pos (show exD.contains 22 = true from rfl), e, h]
   rfl
  simp only [Act.put, List.setIfInBounds_toArray, List.set_cons_zero, List.set_cons_succ]
  refine Rel.rel_take' 1 (by kernel_rfl) ?_
  apply Exists.intro
  refine ⟨fun F hF hne => ?_, ?_⟩
  ·simp only [List.take_succ_cons, List.take_zero]
   repeat (go_big_quiet_step (fail))
   refine Go.wpQuiet_nil ?_
   rfl
  simp only [List.drop_succ_cons, List.drop_zero]
  refine Rel.rel_nil fun V w3 k3 _ => ?_
  (try simp only [List.drop_succ_cons, List.drop_zero])
  dsimp only [exD, Rel.fill, List.foldl_cons, List.foldl_nil]
  simp only [Act.put, List.setIfInBounds_toArray, List.set_cons_zero, List.set_cons_succ]
  replace a0 := (Below.cell k3 hs2).trans a0
  replace a1 := (Below.cell k3 hs2).trans a1
  replace a2 := (Below.cell k3 hs2).trans a2
  replace f0 := fun j => (Below.frozen k3 hs2).trans (f0 j)
  have hbW := k0.trans k3
  clear k3 hs1 hs2 k0 b0 b1 b2
  go_wp2
  (try simp only [Exit.inBlock, Exit.then])
  refine bodyPost_ret (v := .tuple #[.agg #[.int .i64 f.id, .int .i64 f.unit, .string (st [UInt8.ofNat y.toNat, UInt8.ofNat c.toNat])], .bool true]) ?_ rfl ⟨by rw [HE.out, HOK.out, d0]; rfl, ?_⟩
  ·rw [results_cell_tmp rfl]
   go_simp
  ·clear a0 a1 a2 f0
   exact ((hbW.setCell (by simp) _).setCell (by simp) _).setCell (by simp) _
end Go.Proofs.YtaciogcpghbhjaaGreat.Ref24
