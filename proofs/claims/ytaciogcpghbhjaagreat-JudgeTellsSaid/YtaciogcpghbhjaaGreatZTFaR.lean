/- Of these texts: FaR, FaS, FaO. Conditions: as each part says. -/
import Derived.Test.YtaciogcpghbhjaaGreatZTFaA
import Derived.Test.YtaciogcpghbhjaaGreatZTReM
import Derived.Test.YtaciogcpghbhjaaGreatZTSpAll
import Derived.Test.YtaciogcpghbhjaaGreatZTRow2
import Derived.Test.YtaciogcpghbhjaaGreatZTTw2
import Derived.Test.YtaciogcpghbhjaaGreatZTLib
/- Layer 14's reference: Reals, Floats, Same, Of. Conditions: at most a hundred thousand numbers, spans, values. -/
namespace Go.Proofs.YtaciogcpghbhjaaGreat.Fa
set_option linter.unusedVariables false
open Go.ChangeShapes Go.WideShapes Go.ChangeAt Go.RowKit
open Re (okL ofB)
open Fp (IsN sameB)
def encFl (b : Nat) : List Value := [.float .f64 b]
theorem encFl_len (b : Nat) : (encFl b).length = 1 := rfl
theorem encFl_one (b : Nat) : ∀ v ∈ encFl b, v.oneCell' = true := by
 intro v hv
 simp [encFl] at hv
 subst hv; rfl
theorem info_float : (Tryz.prog.info? 56).map (fun i => (i.zero, i.size, i.bytes)) = some (some (.float .f64 0), 1, 8) := by kernel_rfl
theorem Ints.part {k : IntKind} {w : World} {B n b off : Nat} {zs : List Int} (h : Ints k w B (some ⟨b, off, none⟩) n zs) (i m : Nat) (hi : i + m <= n) : Ints k w B (some ⟨b, off + i, none⟩) m ((zs.drop i).take m) := by
 have hl := h.1
 refine ⟨by rw [List.length_take, List.length_drop]; omega, fun hm => ?_⟩
 obtain ⟨b', off', e, hb, hc⟩ := h.2 (by omega)
 injection e with e
 injection e with e1 e2
 subst e1 e2
 refine ⟨b, off + i, rfl, hb, fun j hj => ?_⟩
 have := hc (i + j) (by omega)
 rw [<- Nat.add_assoc] at this
 rw [this]
 have e : ((zs.drop i).take m).getD j 0 = zs.getD (i + j) 0 := by
  rw [List.getD_eq_getElem?_getD, List.getD_eq_getElem?_getD, List.getElem?_take_of_lt hj, List.getElem?_drop]
 rw [e]
def RetReals (zs : List Int) (w : World) (e : Ending) (w' : World) : Prop :=
 match reals zs with
 | none => ∃ A c, e = .returned (.tuple #[.slice A 0 c, .bool false]) ∧ Keep w w'
 | some bs => ∃ A c xs, e = .returned (.tuple #[.slice A xs.length c, .bool true]) ∧ Row encFl 1 w' w'.heap.size A xs.length xs ∧ Near xs bs ∧ Keep w w'
theorem RetReals.none_ {zs : List Int} {w w' : World} {A : Option Addr} {c : Nat} (h : reals zs = none) (hk : Keep w w') : RetReals zs w (.returned (.tuple #[.slice A 0 c, .bool false])) w' := by
 unfold RetReals
 rw [h]
 exact ⟨A, c, rfl, hk⟩
theorem RetReals.some_ {zs : List Int} {w w' : World} {A : Option Addr} {c : Nat} {bs xs : List Nat} (h : reals zs = some bs) (hr : Row encFl 1 w' w'.heap.size A xs.length xs) (hn : Near xs bs) (hk : Keep w w') : RetReals zs w (.returned (.tuple #[.slice A xs.length c, .bool true])) w' := by
 unfold RetReals
 rw [h]
 exact ⟨A, c, xs, rfl, hr, hn, hk⟩
def RealsRel (w : World) (zs : List Int) (out iv : Value) (wr : World) : Prop :=
 ∃ (k : Nat) (bs xs : List Nat), k <= zs.length ∧ k % 4 = 0 ∧ iv = .int .i64 k ∧ Hid (reals (zs.take k) = some bs) ∧ wr.ownsRow w.heap.size 56 1 out xs.length (flat encFl xs) ∧ Hid (Near xs bs) ∧ Keep w wr ∧ xs.length <= k
set_option maxHeartbeats 4000000 in
theorem ref_reals_any (A : Option Addr) (n c : Nat) (zs : List Int) (w : World) (hn : n <= 100000) (hc : n <= c) (hcm : c <= maxLen) (hA : Ints .i64 w w.heap.size A n zs) :
  Calls Tryz.prog 89 #[.slice A n c] w (RetReals zs w) := by
 have hl : zs.length = n := hA.1
 by_cases hm : n % 4 = 0
 ·have d4 : ((n : Int) % 4 != 0) = false := by simp; omega
  have HM := Lib.hid hm
  clear hm
  go_enter Tryz.func89, Tryz.ntmps89
  go_wp2
  go_loopw [4, 5] (fun out iv wr => RealsRel w zs out iv wr) (fun _ iv _ => n - (intOf iv).toNat)
  case atStart => exact ⟨0, [], [], Nat.zero_le _, rfl, rfl, rfl, ⟨rfl, .inl ⟨rfl, rfl⟩⟩, trivial, Keep.refl _, Nat.zero_le _⟩
  case round =>
   obtain ⟨k, bs, xs, hk, hk4, rfl, hb, hown, hnr, hK, hbl⟩ := hrel
   obtain ⟨OA, oc, rfl⟩ := own_slice hown
   rw [hl] at hk
   by_cases hlt : k < n
   ·have hm := HM.out
    have hk4n : k + 4 <= n := by omega
    have hltz : (k : Int) < n := by omega
    have hk0 : (0 : Int) <= k := by omega
    obtain ⟨b, off, rfl, hbB⟩ : ∃ b off, A = some ⟨b, off, none⟩ ∧ b < w.heap.size := by
     obtain ⟨b, off, e, h1, _⟩ := hA.2 (by omega)
     exact ⟨b, off, e, h1⟩
    have hP := Ints.part (hA.kept hK) k 4 hk4n
    obtain ⟨g, hg⟩ : ∃ g, g = (zs.drop k).take 4 := ⟨_, rfl⟩
    rw [<- hg] at hP
    have hcc : ¬ c = k := by omega
    have hks : IntKind.i64.wrap ((k : Int) + 4) = ((k + 4 : Nat) : Int) := by rw [IntKind.wrap_i64]; omega
    have hsl : ∀ W : World, (Instr.slice 33 (.slice (some ⟨b, off, none⟩) n c) (some (.int .i64 (k : Int))) (some (.int .i64 ((k + 4 : Nat) : Int))) none).run Tryz.prog W = .ok (.slice (some ⟨b, off + k, none⟩) 4 (c - k)) W := fun W => by
     go_simp
     have e1 : ((k : Int) + 4).toNat = k + 4 := by omega
     rw [if_pos (by omega), e1, if_pos (by omega), Nat.add_sub_cancel_left]
    have HG := Lib.hid hg
    clear hg hm hcc
    go_wp2_with fail
    refine (Ref3.of_any _ 4 (c - k) g _ hP).mono ?_
    rintro e V ⟨x, rfl, hx, hx64, hq⟩
    have hKV := hK.trans hq.keep
    have hoV := hq.own hown
    have hsV : w.heap.size <= V.heap.size := hKV.size
    have hbm : xs.length <= 100000 := by omega
    cases hok : okL g
    ·have HN := Lib.hid (reals_stop zs k (by omega) hk4 bs hb.out (by rw [<- HG.out]; exact hok))
     clear hok
     go_wp2
     go_ret2
     exact RetReals.none_ HN.out hKV
    ·have HN := Lib.hid (reals_step zs k (by omega) hk4 bs hb.out (by rw [<- HG.out]; exact hok))
     have HNR := Lib.hid (Near.snoc hnr.out (show near x (ofB g) from ⟨hx, hx64⟩))
     rw [<- HG.out] at HN
     clear hok hx
     have hrow : Row encFl 1 (V.alloc (.cells #[.float .f64 x] 56)) (V.heap.size + 1) (some ⟨V.heap.size, 0, none⟩) 1 [x] := Row.new encFl_len V 56 [x] #[.float .f64 x] rfl
     have HB2 := Lib.hid ((Below.refl w.heap.size V).alloc hsV (.cells #[.float .f64 x] 56))
     go_wp2_with (at_builtin; refine append_rows rfl _ _ 124 rfl w.heap.size 56 _ 8 Tryz.underlying124 info_float rfl (by omega) encFl_len encFl_one _ xs.length xs rfl (hoV.alloc _) (by simp; omega) _ _ 1 1 [x] rfl hrow (by unfold maxLen; omega) (by omega) ?_)
     intro v' w1 hown' hb1
     have hKw : Keep w w1 := Below.trans hKV (HB2.out.trans hb1)
     go_wp2
     refine ⟨⟨k + 4, bs ++ [ofB g], xs ++ [x], by omega, by omega, by go_num, HN, ?_, HNR, hKw, by simp; omega⟩, by simp [intOf]; omega⟩
     rw [List.length_append]
     exact hown'
   ·obtain rfl : k = n := by omega
    have HE := Lib.hid (show reals zs = some bs by have := hb.out; rwa [List.take_of_length_le (by omega)] at this)
    go_wp2
    go_ret2
    exact RetReals.some_ HE.out (Row.of_own encFl_len hown (by omega)) hnr.out hK
 ·have HR := Lib.hid (reals_mod zs (by rw [hl]; exact hm))
  have d4 : ((n : Int) % 4 != 0) = true := by simp; omega
  clear hm
  go_enter Tryz.func89, Tryz.ntmps89
  go_wp2
  go_ret2
  exact RetReals.none_ HR.out (Keep.refl _)
end Go.Proofs.YtaciogcpghbhjaaGreat.Fa
/- Layer 14's reference: Floats, Same, Of. Conditions: at most a million floats, spans, values. -/
namespace Go.Proofs.YtaciogcpghbhjaaGreat.Fa
set_option linter.unusedVariables false
open Go.ChangeShapes Go.WideShapes Go.ChangeAt Go.RowKit
open Re (okL ofB)
open Fp (IsN sameB)
theorem row_float {w : World} {B n b off : Nat} {zs : List Nat} (h : Row encFl 1 w B (some ⟨b, off, none⟩) n zs) (j : Nat) (hj : j < n) : b < B ∧ w.cell? ⟨b, off + j, none⟩ = some (.float .f64 (zs.getD j 0)) := by
 obtain ⟨hb, hc⟩ := h.cells (by omega)
 have hl := h.1
 have hj' : j < zs.length := by omega
 have e : zs.getD j 0 = zs[j] := by rw [List.getD_eq_getElem?_getD, List.getElem?_eq_getElem hj']; rfl
 rw [e]
 have := hc j hj' 0 _ rfl
 rw [Nat.mul_one, Nat.add_zero] at this
 exact ⟨hb, this⟩
def FaAt (W : World) (f : FactsP) (SA VA RA : Option Addr) : Prop :=
 Row encP 2 W W.heap.size SA f.sp.length f.sp ∧ Ints .i64 W W.heap.size VA f.vs.length f.vs ∧ Ints .i64 W W.heap.size RA f.rg.length f.rg
theorem FaAt.kept {W W' : World} {f : FactsP} {SA VA RA : Option Addr} (h : FaAt W f SA VA RA) (hk : Keep W W') : FaAt W' f SA VA RA := ⟨h.1.kept hk, h.2.1.kept hk, h.2.2.kept hk⟩
def few (f : FactsP) : Prop := f.sp.length <= 1000000 ∧ f.vs.length <= 1000000 ∧ f.rg.length <= 1000000
end Go.Proofs.YtaciogcpghbhjaaGreat.Fa
/- Layer 14's reference: Of, of requests whose numbers are small. Conditions: at most a million values. -/
namespace Go.Proofs.YtaciogcpghbhjaaGreat.Fa
set_option linter.unusedVariables false
open Go.ChangeShapes Go.WideShapes Go.ChangeAt Go.RowKit
theorem info_range : (Tryz.prog.info? 87).map (fun i => (i.zero, i.size, i.bytes)) = some (some (.agg #[.int .i64 0, .int .i64 0]), 2, 16) := by kernel_rfl
def FreshB (w : World) (A : Option Addr) (n : Nat) : Prop := 0 < n -> ∀ p, A = some p -> w.heap.size <= p.block
theorem FreshB.of_own {W w : World} {base : Nat} {e : TypeId} {A : Option Addr} {k n c : Nat} {xs : List Value} (h : w.ownsRow base e k (.slice A n c) n xs) (hb : W.heap.size <= base) : FreshB W A n := fun hn p hp => by
 rcases h.2 with ⟨hv, h0⟩ | ⟨g, cap, cur, hv, hg, _⟩
 ·omega
 ·injection hv with hA
  rw [hp] at hA
  injection hA with hA
  rw [hA]
  show W.heap.size <= g
  omega
theorem FreshB.mono {w w' : World} {A : Option Addr} {n : Nat} (h : FreshB w' A n) (hk : Keep w w') : FreshB w A n := fun hn p hp => Nat.le_trans hk.size (h hn p hp)
theorem FreshB.zero (w : World) (A : Option Addr) : FreshB w A 0 := fun h => absurd h (Nat.lt_irrefl 0)
def RetOf (A : Option Addr) (f : FactsP) (w : World) (e : Ending) (w' : World) : Prop :=
 ∃ SA VA RA c1 c2 c3, e = .returned (.agg #[.int .i64 f.cl, .int .i64 f.un, .int .i64 f.fc, .slice SA f.sp.length c1, .slice VA f.vs.length c2, .slice RA f.rg.length c3]) ∧ FaAt w' f SA VA RA ∧ Keep w w' ∧
   (FreshB w SA f.sp.length ∧ (FreshB w VA f.vs.length ∨ VA = A) ∧ (FreshB w RA f.rg.length ∨ RA = A))
def RetOfC (A : Option Addr) (cc : Nat) (f : FactsP) (w : World) (e : Ending) (w' : World) : Prop :=
 ∃ SA VA RA c1 c2 c3, e = .returned (.agg #[.int .i64 f.cl, .int .i64 f.un, .int .i64 f.fc, .slice SA f.sp.length c1, .slice VA f.vs.length c2, .slice RA f.rg.length c3]) ∧ FaAt w' f SA VA RA ∧ Keep w w' ∧
   (FreshB w SA f.sp.length ∧ (FreshB w VA f.vs.length ∨ VA = A) ∧ (FreshB w RA f.rg.length ∨ RA = A)) ∧ ((f.rg.length = 0 ∧ c3 = 0) ∨ (c3 = cc ∧ (f.fc = 6 ∨ f.fc = 16 ∨ f.fc = 23)))
theorem RetOfC.of {A : Option Addr} {cc : Nat} {f : FactsP} {w w' : World} {e : Ending} (h : RetOfC A cc f w e w') : RetOf A f w e w' := by
 obtain ⟨SA, VA, RA, c1, c2, c3, h1, h2, h3, h4, _⟩ := h
 exact ⟨SA, VA, RA, c1, c2, c3, h1, h2, h3, h4⟩
def Fit (a : AskP) : Prop := -1000000 <= a.rd ∧ a.rd <= 1000000 ∧ a.ct <= 1000000 ∧ -1000000 <= a.wr ∧ a.wr <= 1000000 ∧ a.mn <= 1000000
theorem right_fit {a : AskP} (h : Ak.right a = true) : Fit a := by
 unfold Ak.right Ak.formed Ak.part Ak.inTo at h
 simp only [Bool.and_eq_true, decide_eq_true_eq] at h
 unfold Fit
 omega
def Six (W : World) (b : Nat) (v0 v1 v2 v3 v4 v5 : Value) : Prop :=
 W.cell? ⟨b, 0, none⟩ = some v0 ∧ W.cell? ⟨b, 1, none⟩ = some v1 ∧ W.cell? ⟨b, 2, none⟩ = some v2 ∧ W.cell? ⟨b, 3, none⟩ = some v3 ∧ W.cell? ⟨b, 4, none⟩ = some v4 ∧ W.cell? ⟨b, 5, none⟩ = some v5
theorem Six.below {B : Nat} {W W' : World} {b : Nat} {v0 v1 v2 v3 v4 v5 : Value} (h : Six W b v0 v1 v2 v3 v4 v5) (hb : Below B W W') (hlt : b < B) : Six W' b v0 v1 v2 v3 v4 v5 := by
 obtain ⟨a0, a1, a2, a3, a4, a5⟩ := h
 exact ⟨(hb.cell hlt).trans a0, (hb.cell hlt).trans a1, (hb.cell hlt).trans a2, (hb.cell hlt).trans a3, (hb.cell hlt).trans a4, (hb.cell hlt).trans a5⟩
theorem Six.set {W : World} {b q i : Nat} {v0 v1 v2 v3 v4 v5 v : Value} (h : Six W b v0 v1 v2 v3 v4 v5) (hq : b ≠ q) : Six (W.setCell ⟨q, i, none⟩ v) b v0 v1 v2 v3 v4 v5 := by
 have hc : ∀ j, (W.setCell ⟨q, i, none⟩ v).cell? ⟨b, j, none⟩ = W.cell? ⟨b, j, none⟩ := fun j => World.cell?_of_block (Below.heap_setCell _ _ _ _ hq)
 obtain ⟨a0, a1, a2, a3, a4, a5⟩ := h
 exact ⟨(hc 0).trans a0, (hc 1).trans a1, (hc 2).trans a2, (hc 3).trans a3, (hc 4).trans a4, (hc 5).trans a5⟩
theorem results_c {fn : Func} {p : Tmp} {ty : TypeId} (h : fn.results = #[.cell p ty]) (tmps : Array Value) (P : Program) (w : World) :
  (results fn tmps).run P w = ((asAddr (tmps.getD p undef)).run P w).andThen fun a w₁ => (loadVar ty a).run P w₁ := by
 simp only [results, h]
 simp [Sem.run_bind, Result.andThen]
theorem own_set2 {w : World} {base : Nat} {e : TypeId} {k n : Nat} {v : Value} {xs : List Value} (h : w.ownsRow base e k v n xs) (p : Addr) (u : Value) (hp : p.block < base) : (w.setCell p u).ownsRow base e k v n xs := by
 rcases h with ⟨hl, h⟩
 refine ⟨hl, ?_⟩
 rcases h with h | ⟨g, cap, cur, hv, hg, hh, hr⟩
 ·exact .inl h
 ·refine .inr ⟨g, cap, cur, hv, hg, ?_, hr⟩
  rw [Below.heap_setCell _ _ _ _ (by omega)]
  exact hh
theorem past {X V : World} {base : Nat} {e : TypeId} {SA : Option Addr} {n c : Nat} {xs : List (Int × Int)} (hown : X.ownsRow base e 2 (.slice SA n c) n (flat encP xs)) (hX : base <= X.heap.size) (hl : xs.length = n) (hc : ∀ p : Addr, base <= p.block -> V.cell? p = X.cell? p) (hs : X.heap.size <= V.heap.size) : Row encP 2 V V.heap.size SA n xs := by
 subst hl
 have hr := Row.of_own encP_len hown (by omega)
 refine ⟨hr.1, fun hn => ?_⟩
 obtain ⟨b', off, ea, hbb, hcl⟩ := hr.2 hn
 have hg : base <= b' := by
  rcases hown.2 with ⟨hv, h0⟩ | ⟨g, cap, cur, hv, hg, _⟩
  ·omega
  ·injection hv with hA
   rw [ea] at hA
   injection hA with hA
   injection hA with hA
   omega
 exact ⟨b', off, ea, by omega, fun j hj i v hv => (hc _ hg).trans (hcl j hj i v hv)⟩
set_option maxHeartbeats 4000000 in
theorem of_11_6 (c u : Int) (a : AskP) (A : Option Addr) (cc : Nat) (w : World) (hn : a.vs.length <= 1000000) (hf : Fit a) (hA : Ints .i64 w w.heap.size A a.vs.length a.vs) (h1 : 0 < a.ct) (h2 : 0 < a.mn) (h3 : a.fc = 6) :
  Calls Tryz.prog 23 #[.int .i64 c, .int .i64 u, .agg #[.int .i64 a.fc, .int .i64 a.rd, .int .i64 a.ct, .int .i64 a.wr, .int .i64 a.mn, .slice A a.vs.length cc]] w (RetOfC A cc (of c u a) w) := by
 obtain ⟨fc, rd, ct, wr, mn, vs⟩ := a
 simp only at hn hA h1 h2 h3 ⊢
 subst h3
 unfold Fit at hf
 simp only at hf
 obtain ⟨f1, f2, f3, f4, f5, f6⟩ := hf
 have HOF := Lib.hid (show of c u ⟨6, rd, ct, wr, mn, vs⟩ = ⟨c, u, 6, [(rd, rd + ct - 1)] ++ [(wr, wr + mn - 1)], vs, vs⟩ by
  unfold of reads writes regs
  simp only
  rw [if_pos h1, if_pos h2, if_pos (by decide)])
 have d1 : decide (ct > 0) = true := by simpa using h1
 have d2 : decide (mn > 0) = true := by simpa using h2
 have s1 : IntKind.i64.wrap (rd + ct) = rd + ct := by rw [IntKind.wrap_i64]; omega
 have s2 : IntKind.i64.wrap (rd + ct - 1) = rd + ct - 1 := by rw [IntKind.wrap_i64]; omega
 have s3 : IntKind.i64.wrap (wr + mn) = wr + mn := by rw [IntKind.wrap_i64]; omega
 have s4 : IntKind.i64.wrap (wr + mn - 1) = wr + mn - 1 := by rw [IntKind.wrap_i64]; omega
 clear h1 h2
 go_enter Tryz.func23, Tryz.ntmps23
 have A5 : Six ((((w.alloc (.cells #[.int .i64 6, .int .i64 rd, .int .i64 ct, .int .i64 wr, .int .i64 mn, .slice A vs.length cc] 40)).alloc (.cells #[.int .i64 0, .int .i64 0, .int .i64 0, .slice none 0 0, .slice none 0 0, .slice none 0 0] 54)).alloc (.cells #[.int .i64 c, .int .i64 u, .int .i64 6, .slice none 0 0, .slice A vs.length cc, .slice none 0 0] 54)).alloc (.cells #[.int .i64 (rd), .int .i64 (rd + ct - 1)] 87)) w.heap.size (.int .i64 6) (.int .i64 rd) (.int .i64 ct) (.int .i64 wr) (.int .i64 mn) (.slice A vs.length cc) := by refine ⟨?_, ?_, ?_, ?_, ?_, ?_⟩ <;> go_simp
 have A6 : Six ((((w.alloc (.cells #[.int .i64 6, .int .i64 rd, .int .i64 ct, .int .i64 wr, .int .i64 mn, .slice A vs.length cc] 40)).alloc (.cells #[.int .i64 0, .int .i64 0, .int .i64 0, .slice none 0 0, .slice none 0 0, .slice none 0 0] 54)).alloc (.cells #[.int .i64 c, .int .i64 u, .int .i64 6, .slice none 0 0, .slice A vs.length cc, .slice none 0 0] 54)).alloc (.cells #[.int .i64 (rd), .int .i64 (rd + ct - 1)] 87)) (w.heap.size + 1) (.int .i64 0) (.int .i64 0) (.int .i64 0) (.slice none 0 0) (.slice none 0 0) (.slice none 0 0) := by refine ⟨?_, ?_, ?_, ?_, ?_, ?_⟩ <;> go_simp
 have A7 : Six ((((w.alloc (.cells #[.int .i64 6, .int .i64 rd, .int .i64 ct, .int .i64 wr, .int .i64 mn, .slice A vs.length cc] 40)).alloc (.cells #[.int .i64 0, .int .i64 0, .int .i64 0, .slice none 0 0, .slice none 0 0, .slice none 0 0] 54)).alloc (.cells #[.int .i64 c, .int .i64 u, .int .i64 6, .slice none 0 0, .slice A vs.length cc, .slice none 0 0] 54)).alloc (.cells #[.int .i64 (rd), .int .i64 (rd + ct - 1)] 87)) (w.heap.size + 1 + 1) (.int .i64 c) (.int .i64 u) (.int .i64 6) (.slice none 0 0) (.slice A vs.length cc) (.slice none 0 0) := by refine ⟨?_, ?_, ?_, ?_, ?_, ?_⟩ <;> go_simp
 have Z6 : ∀ j, ((((w.alloc (.cells #[.int .i64 6, .int .i64 rd, .int .i64 ct, .int .i64 wr, .int .i64 mn, .slice A vs.length cc] 40)).alloc (.cells #[.int .i64 0, .int .i64 0, .int .i64 0, .slice none 0 0, .slice none 0 0, .slice none 0 0] 54)).alloc (.cells #[.int .i64 c, .int .i64 u, .int .i64 6, .slice none 0 0, .slice A vs.length cc, .slice none 0 0] 54)).alloc (.cells #[.int .i64 (rd), .int .i64 (rd + ct - 1)] 87)).frozen? ⟨w.heap.size + 1, j, none⟩ = false := fun j => by go_simp
 have Z7 : ∀ j, ((((w.alloc (.cells #[.int .i64 6, .int .i64 rd, .int .i64 ct, .int .i64 wr, .int .i64 mn, .slice A vs.length cc] 40)).alloc (.cells #[.int .i64 0, .int .i64 0, .int .i64 0, .slice none 0 0, .slice none 0 0, .slice none 0 0] 54)).alloc (.cells #[.int .i64 c, .int .i64 u, .int .i64 6, .slice none 0 0, .slice A vs.length cc, .slice none 0 0] 54)).alloc (.cells #[.int .i64 (rd), .int .i64 (rd + ct - 1)] 87)).frozen? ⟨w.heap.size + 1 + 1, j, none⟩ = false := fun j => by go_simp
 have K0 : Keep w ((((w.alloc (.cells #[.int .i64 6, .int .i64 rd, .int .i64 ct, .int .i64 wr, .int .i64 mn, .slice A vs.length cc] 40)).alloc (.cells #[.int .i64 0, .int .i64 0, .int .i64 0, .slice none 0 0, .slice none 0 0, .slice none 0 0] 54)).alloc (.cells #[.int .i64 c, .int .i64 u, .int .i64 6, .slice none 0 0, .slice A vs.length cc, .slice none 0 0] 54)).alloc (.cells #[.int .i64 (rd), .int .i64 (rd + ct - 1)] 87)) := (((((Keep.refl w).alloc _).alloc _).alloc _).alloc _)
 have own0 : ((((w.alloc (.cells #[.int .i64 6, .int .i64 rd, .int .i64 ct, .int .i64 wr, .int .i64 mn, .slice A vs.length cc] 40)).alloc (.cells #[.int .i64 0, .int .i64 0, .int .i64 0, .slice none 0 0, .slice none 0 0, .slice none 0 0] 54)).alloc (.cells #[.int .i64 c, .int .i64 u, .int .i64 6, .slice none 0 0, .slice A vs.length cc, .slice none 0 0] 54)).alloc (.cells #[.int .i64 (rd), .int .i64 (rd + ct - 1)] 87)).ownsRow (w.heap.size + 3) 87 2 (.slice none 0 0) 0 (flat encP []) := ⟨rfl, .inl ⟨rfl, rfl⟩⟩
 have hrow1 : Row encP 2 ((((w.alloc (.cells #[.int .i64 6, .int .i64 rd, .int .i64 ct, .int .i64 wr, .int .i64 mn, .slice A vs.length cc] 40)).alloc (.cells #[.int .i64 0, .int .i64 0, .int .i64 0, .slice none 0 0, .slice none 0 0, .slice none 0 0] 54)).alloc (.cells #[.int .i64 c, .int .i64 u, .int .i64 6, .slice none 0 0, .slice A vs.length cc, .slice none 0 0] 54)).alloc (.cells #[.int .i64 (rd), .int .i64 (rd + ct - 1)] 87)) (w.heap.size + 1 + 1 + 1 + 1) (some ⟨w.heap.size + 1 + 1 + 1, 0, none⟩) 1 [(rd, rd + ct - 1)] := by
  have h := Row.new encP_len (((w.alloc (.cells #[.int .i64 6, .int .i64 rd, .int .i64 ct, .int .i64 wr, .int .i64 mn, .slice A vs.length cc] 40)).alloc (.cells #[.int .i64 0, .int .i64 0, .int .i64 0, .slice none 0 0, .slice none 0 0, .slice none 0 0] 54)).alloc (.cells #[.int .i64 c, .int .i64 u, .int .i64 6, .slice none 0 0, .slice A vs.length cc, .slice none 0 0] 54)) 87 [(rd, rd + ct - 1)] #[.int .i64 (rd), .int .i64 (rd + ct - 1)] rfl
  simpa using h
 go_wp2_with (at_builtin; refine append_rows rfl _ _ 52 rfl (w.heap.size + 3) 87 _ 16 Tryz.underlying52 info_range rfl (by omega) encP_len encP_one (.slice none 0 0) 0 [] rfl own0 (by simp) _ _ 1 1 [(rd, rd + ct - 1)] rfl hrow1 (by unfold maxLen; omega) (by omega) ?_)
 intro v1 w1 own1 hb1
 have own1 : w1.ownsRow (w.heap.size + 3) 87 2 v1 1 (flat encP [(rd, rd + ct - 1)]) := by simpa using own1
 obtain ⟨S1, q1, rfl⟩ := own_slice own1
 have B5 := A5.below hb1 (by omega)
 have B6 := A6.below hb1 (by omega)
 have B7 := A7.below hb1 (by omega)
 have Y6 : ∀ j, w1.frozen? ⟨w.heap.size + 1, j, none⟩ = false := fun j => (hb1.frozen (by show w.heap.size + 1 < _; omega)).trans (Z6 j)
 have Y7 : ∀ j, w1.frozen? ⟨w.heap.size + 1 + 1, j, none⟩ = false := fun j => (hb1.frozen (by show w.heap.size + 1 + 1 < _; omega)).trans (Z7 j)
 have K1 : Keep w w1 := Below.trans K0 (hb1.mono (by omega))
 have hs1 : w.heap.size + 4 <= w1.heap.size := by have := hb1.size; simp at this; omega
 clear A5 A6 A7 Z6 Z7 K0 own0 hrow1 hb1
 have HB7 := Lib.hid B7
 have HK1 := Lib.hid K1
 have HB5 := Lib.hid B5
 have HB6 := Lib.hid B6
 obtain ⟨y0, y1, y2, y3, y4, y5⟩ := B7
 obtain ⟨x0, x1, x2, x3, x4, x5⟩ := B5
 have y3f := Y7 3
 have C5 : Six ((w1.setCell ⟨w.heap.size + 1 + 1, 3, none⟩ (.slice S1 1 q1)).alloc (.cells #[.int .i64 (wr), .int .i64 (wr + mn - 1)] 87)) w.heap.size (.int .i64 6) (.int .i64 rd) (.int .i64 ct) (.int .i64 wr) (.int .i64 mn) (.slice A vs.length cc) := (HB5.out.set (by omega)).below (B := w.heap.size + 3) ((Below.refl _ _).alloc (by simp; omega) _) (by omega)
 have C6 : Six ((w1.setCell ⟨w.heap.size + 1 + 1, 3, none⟩ (.slice S1 1 q1)).alloc (.cells #[.int .i64 (wr), .int .i64 (wr + mn - 1)] 87)) (w.heap.size + 1) (.int .i64 0) (.int .i64 0) (.int .i64 0) (.slice none 0 0) (.slice none 0 0) (.slice none 0 0) := (HB6.out.set (by omega)).below (B := w.heap.size + 3) ((Below.refl _ _).alloc (by simp; omega) _) (by omega)
 have C7 : Six ((w1.setCell ⟨w.heap.size + 1 + 1, 3, none⟩ (.slice S1 1 q1)).alloc (.cells #[.int .i64 (wr), .int .i64 (wr + mn - 1)] 87)) (w.heap.size + 1 + 1) (.int .i64 c) (.int .i64 u) (.int .i64 6) (.slice S1 1 q1) (.slice A vs.length cc) (.slice none 0 0) := by
  have h : Six (w1.setCell ⟨w.heap.size + 1 + 1, 3, none⟩ (.slice S1 1 q1)) (w.heap.size + 1 + 1) (.int .i64 c) (.int .i64 u) (.int .i64 6) (.slice S1 1 q1) (.slice A vs.length cc) (.slice none 0 0) := by refine ⟨?_, ?_, ?_, ?_, ?_, ?_⟩ <;> go_simp
  exact h.below (B := w.heap.size + 3) ((Below.refl _ _).alloc (by simp; omega) _) (by omega)
 have Z6 : ∀ j, ((w1.setCell ⟨w.heap.size + 1 + 1, 3, none⟩ (.slice S1 1 q1)).alloc (.cells #[.int .i64 (wr), .int .i64 (wr + mn - 1)] 87)).frozen? ⟨w.heap.size + 1, j, none⟩ = false := fun j => (Below.frozen (B := w.heap.size + 3) ((Below.refl _ _).alloc (by simp; omega) _) (by show w.heap.size + 1 < _; omega)).trans (by have := Y6 j; go_simp)
 have Z7 : ∀ j, ((w1.setCell ⟨w.heap.size + 1 + 1, 3, none⟩ (.slice S1 1 q1)).alloc (.cells #[.int .i64 (wr), .int .i64 (wr + mn - 1)] 87)).frozen? ⟨w.heap.size + 1 + 1, j, none⟩ = false := fun j => (Below.frozen (B := w.heap.size + 3) ((Below.refl _ _).alloc (by simp; omega) _) (by show w.heap.size + 1 + 1 < _; omega)).trans (by have := Y7 j; go_simp)
 have K2 : Keep w ((w1.setCell ⟨w.heap.size + 1 + 1, 3, none⟩ (.slice S1 1 q1)).alloc (.cells #[.int .i64 (wr), .int .i64 (wr + mn - 1)] 87)) := (show Keep w (w1.setCell ⟨w.heap.size + 1 + 1, 3, none⟩ (.slice S1 1 q1)) from Below.setCell HK1.out (by show w.heap.size <= w.heap.size + 1 + 1; omega) _).alloc _
 have own2 : ((w1.setCell ⟨w.heap.size + 1 + 1, 3, none⟩ (.slice S1 1 q1)).alloc (.cells #[.int .i64 (wr), .int .i64 (wr + mn - 1)] 87)).ownsRow (w.heap.size + 3) 87 2 (.slice S1 1 q1) 1 (flat encP [(rd, rd + ct - 1)]) := (own_set2 own1 _ _ (by show w.heap.size + 1 + 1 < _; omega)).alloc _
 have hrow2 : Row encP 2 ((w1.setCell ⟨w.heap.size + 1 + 1, 3, none⟩ (.slice S1 1 q1)).alloc (.cells #[.int .i64 (wr), .int .i64 (wr + mn - 1)] 87)) (w1.heap.size + 1) (some ⟨w1.heap.size, 0, none⟩) 1 [(wr, wr + mn - 1)] := by
  have h := Row.new encP_len (w1.setCell ⟨w.heap.size + 1 + 1, 3, none⟩ (.slice S1 1 q1)) 87 [(wr, wr + mn - 1)] #[.int .i64 (wr), .int .i64 (wr + mn - 1)] rfl
  simpa using h
 go_wp2_with (at_builtin; refine append_rows rfl _ _ 52 rfl (w.heap.size + 3) 87 _ 16 Tryz.underlying52 info_range rfl (by omega) encP_len encP_one (.slice S1 1 q1) 1 [(rd, rd + ct - 1)] rfl own2 (by simp; omega) _ _ 1 1 [(wr, wr + mn - 1)] rfl hrow2 (by unfold maxLen; omega) (by omega) ?_)
 intro v2 w2 own3 hb2
 have own3 : w2.ownsRow (w.heap.size + 3) 87 2 v2 2 (flat encP ([(rd, rd + ct - 1)] ++ [(wr, wr + mn - 1)])) := own3
 obtain ⟨S2, q2, rfl⟩ := own_slice own3
 have D5 := C5.below hb2 (by omega)
 have D6 := C6.below hb2 (by omega)
 have D7 := C7.below hb2 (by omega)
 have W6 : ∀ j, w2.frozen? ⟨w.heap.size + 1, j, none⟩ = false := fun j => (hb2.frozen (by show w.heap.size + 1 < _; omega)).trans (Z6 j)
 have W7 : ∀ j, w2.frozen? ⟨w.heap.size + 1 + 1, j, none⟩ = false := fun j => (hb2.frozen (by show w.heap.size + 1 + 1 < _; omega)).trans (Z7 j)
 have K3 : Keep w w2 := Below.trans K2 (hb2.mono (by omega))
 have hs2 : w.heap.size + 4 <= w2.heap.size := by have := hb2.size; simp at this; omega
 clear C5 C6 C7 Z6 Z7 K2 own2 hrow2 hb2 x0 x1 x2 x3 x4 x5 y0 y1 y2 y3 y4 y5 y3f HB5 HB6 HB7 HK1 own1 Y6 Y7 B6 hs1
 have OWN := Lib.hid own3
 have KK := Lib.hid K3
 obtain ⟨x0, x1, x2, x3, x4, x5⟩ := D5
 obtain ⟨z0, z1, z2, z3, z4, z5⟩ := D6
 obtain ⟨y0, y1, y2, y3, y4, y5⟩ := D7
 have g3 := W7 3
 have g5 := W7 5
 have e0 := W6 0
 have e1 := W6 1
 have e2 := W6 2
 have e3 := W6 3
 have e4 := W6 4
 have e5 := W6 5
 clear own3 K3 W6 W7
 go_wp2
 (try simp only [Exit.inBlock, Exit.then])
 refine bodyPost_ret (v := .agg #[.int .i64 c, .int .i64 u, .int .i64 6, .slice S2 2 q2, .slice A vs.length cc, .slice A vs.length cc]) ?_ rfl ?_
 ·rw [results_c rfl]
  go_simp
 ·rw [HOF.out]
  have kp : ∀ V, Below w.heap.size w V -> (∀ p : Addr, w.heap.size + 3 <= p.block -> V.cell? p = w2.cell? p) -> w2.heap.size <= V.heap.size -> RetOfC A cc ⟨c, u, 6, ([(rd, rd + ct - 1)] ++ [(wr, wr + mn - 1)]), vs, vs⟩ w (.returned (.agg #[.int .i64 c, .int .i64 u, .int .i64 6, .slice S2 2 q2, .slice A vs.length cc, .slice A vs.length cc])) V := fun V hK hc hs =>
   ⟨S2, A, A, q2, cc, cc, rfl, ⟨past OWN.out (by omega) rfl hc hs, hA.kept hK, hA.kept hK⟩, hK, ⟨FreshB.of_own OWN.out (by omega), .inr rfl, .inr rfl⟩, .inr ⟨rfl, by simp⟩⟩
  refine kp _ ?_ (fun p hp => ?_) ?_
  ·have KB : Below w.heap.size w w2 := KK.out
   repeat' (first | with_reducible exact KB | with_reducible refine Below.setCell ?_ ?_ _ | (show w.heap.size <= w.heap.size + 1; omega) | (show w.heap.size <= w.heap.size + 1 + 1; omega))
  ·repeat (rw [World.cell?_of_block (Below.heap_setCell _ _ _ _ (by first | (show p.block ≠ w.heap.size + 1; omega) | (show p.block ≠ w.heap.size + 1 + 1; omega)))])
  ·simp
set_option maxHeartbeats 4000000 in
theorem of_11_16 (c u : Int) (a : AskP) (A : Option Addr) (cc : Nat) (w : World) (hn : a.vs.length <= 1000000) (hf : Fit a) (hA : Ints .i64 w w.heap.size A a.vs.length a.vs) (h1 : 0 < a.ct) (h2 : 0 < a.mn) (h3 : a.fc = 16) :
  Calls Tryz.prog 23 #[.int .i64 c, .int .i64 u, .agg #[.int .i64 a.fc, .int .i64 a.rd, .int .i64 a.ct, .int .i64 a.wr, .int .i64 a.mn, .slice A a.vs.length cc]] w (RetOfC A cc (of c u a) w) := by
 obtain ⟨fc, rd, ct, wr, mn, vs⟩ := a
 simp only at hn hA h1 h2 h3 ⊢
 subst h3
 unfold Fit at hf
 simp only at hf
 obtain ⟨f1, f2, f3, f4, f5, f6⟩ := hf
 have HOF := Lib.hid (show of c u ⟨16, rd, ct, wr, mn, vs⟩ = ⟨c, u, 16, [(rd, rd + ct - 1)] ++ [(wr, wr + mn - 1)], vs, vs⟩ by
  unfold of reads writes regs
  simp only
  rw [if_pos h1, if_pos h2, if_pos (by decide)])
 have d1 : decide (ct > 0) = true := by simpa using h1
 have d2 : decide (mn > 0) = true := by simpa using h2
 have s1 : IntKind.i64.wrap (rd + ct) = rd + ct := by rw [IntKind.wrap_i64]; omega
 have s2 : IntKind.i64.wrap (rd + ct - 1) = rd + ct - 1 := by rw [IntKind.wrap_i64]; omega
 have s3 : IntKind.i64.wrap (wr + mn) = wr + mn := by rw [IntKind.wrap_i64]; omega
 have s4 : IntKind.i64.wrap (wr + mn - 1) = wr + mn - 1 := by rw [IntKind.wrap_i64]; omega
 clear h1 h2
 go_enter Tryz.func23, Tryz.ntmps23
 have A5 : Six ((((w.alloc (.cells #[.int .i64 16, .int .i64 rd, .int .i64 ct, .int .i64 wr, .int .i64 mn, .slice A vs.length cc] 40)).alloc (.cells #[.int .i64 0, .int .i64 0, .int .i64 0, .slice none 0 0, .slice none 0 0, .slice none 0 0] 54)).alloc (.cells #[.int .i64 c, .int .i64 u, .int .i64 16, .slice none 0 0, .slice A vs.length cc, .slice none 0 0] 54)).alloc (.cells #[.int .i64 (rd), .int .i64 (rd + ct - 1)] 87)) w.heap.size (.int .i64 16) (.int .i64 rd) (.int .i64 ct) (.int .i64 wr) (.int .i64 mn) (.slice A vs.length cc) := by refine ⟨?_, ?_, ?_, ?_, ?_, ?_⟩ <;> go_simp
 have A6 : Six ((((w.alloc (.cells #[.int .i64 16, .int .i64 rd, .int .i64 ct, .int .i64 wr, .int .i64 mn, .slice A vs.length cc] 40)).alloc (.cells #[.int .i64 0, .int .i64 0, .int .i64 0, .slice none 0 0, .slice none 0 0, .slice none 0 0] 54)).alloc (.cells #[.int .i64 c, .int .i64 u, .int .i64 16, .slice none 0 0, .slice A vs.length cc, .slice none 0 0] 54)).alloc (.cells #[.int .i64 (rd), .int .i64 (rd + ct - 1)] 87)) (w.heap.size + 1) (.int .i64 0) (.int .i64 0) (.int .i64 0) (.slice none 0 0) (.slice none 0 0) (.slice none 0 0) := by refine ⟨?_, ?_, ?_, ?_, ?_, ?_⟩ <;> go_simp
 have A7 : Six ((((w.alloc (.cells #[.int .i64 16, .int .i64 rd, .int .i64 ct, .int .i64 wr, .int .i64 mn, .slice A vs.length cc] 40)).alloc (.cells #[.int .i64 0, .int .i64 0, .int .i64 0, .slice none 0 0, .slice none 0 0, .slice none 0 0] 54)).alloc (.cells #[.int .i64 c, .int .i64 u, .int .i64 16, .slice none 0 0, .slice A vs.length cc, .slice none 0 0] 54)).alloc (.cells #[.int .i64 (rd), .int .i64 (rd + ct - 1)] 87)) (w.heap.size + 1 + 1) (.int .i64 c) (.int .i64 u) (.int .i64 16) (.slice none 0 0) (.slice A vs.length cc) (.slice none 0 0) := by refine ⟨?_, ?_, ?_, ?_, ?_, ?_⟩ <;> go_simp
 have Z6 : ∀ j, ((((w.alloc (.cells #[.int .i64 16, .int .i64 rd, .int .i64 ct, .int .i64 wr, .int .i64 mn, .slice A vs.length cc] 40)).alloc (.cells #[.int .i64 0, .int .i64 0, .int .i64 0, .slice none 0 0, .slice none 0 0, .slice none 0 0] 54)).alloc (.cells #[.int .i64 c, .int .i64 u, .int .i64 16, .slice none 0 0, .slice A vs.length cc, .slice none 0 0] 54)).alloc (.cells #[.int .i64 (rd), .int .i64 (rd + ct - 1)] 87)).frozen? ⟨w.heap.size + 1, j, none⟩ = false := fun j => by go_simp
 have Z7 : ∀ j, ((((w.alloc (.cells #[.int .i64 16, .int .i64 rd, .int .i64 ct, .int .i64 wr, .int .i64 mn, .slice A vs.length cc] 40)).alloc (.cells #[.int .i64 0, .int .i64 0, .int .i64 0, .slice none 0 0, .slice none 0 0, .slice none 0 0] 54)).alloc (.cells #[.int .i64 c, .int .i64 u, .int .i64 16, .slice none 0 0, .slice A vs.length cc, .slice none 0 0] 54)).alloc (.cells #[.int .i64 (rd), .int .i64 (rd + ct - 1)] 87)).frozen? ⟨w.heap.size + 1 + 1, j, none⟩ = false := fun j => by go_simp
 have K0 : Keep w ((((w.alloc (.cells #[.int .i64 16, .int .i64 rd, .int .i64 ct, .int .i64 wr, .int .i64 mn, .slice A vs.length cc] 40)).alloc (.cells #[.int .i64 0, .int .i64 0, .int .i64 0, .slice none 0 0, .slice none 0 0, .slice none 0 0] 54)).alloc (.cells #[.int .i64 c, .int .i64 u, .int .i64 16, .slice none 0 0, .slice A vs.length cc, .slice none 0 0] 54)).alloc (.cells #[.int .i64 (rd), .int .i64 (rd + ct - 1)] 87)) := (((((Keep.refl w).alloc _).alloc _).alloc _).alloc _)
 have own0 : ((((w.alloc (.cells #[.int .i64 16, .int .i64 rd, .int .i64 ct, .int .i64 wr, .int .i64 mn, .slice A vs.length cc] 40)).alloc (.cells #[.int .i64 0, .int .i64 0, .int .i64 0, .slice none 0 0, .slice none 0 0, .slice none 0 0] 54)).alloc (.cells #[.int .i64 c, .int .i64 u, .int .i64 16, .slice none 0 0, .slice A vs.length cc, .slice none 0 0] 54)).alloc (.cells #[.int .i64 (rd), .int .i64 (rd + ct - 1)] 87)).ownsRow (w.heap.size + 3) 87 2 (.slice none 0 0) 0 (flat encP []) := ⟨rfl, .inl ⟨rfl, rfl⟩⟩
 have hrow1 : Row encP 2 ((((w.alloc (.cells #[.int .i64 16, .int .i64 rd, .int .i64 ct, .int .i64 wr, .int .i64 mn, .slice A vs.length cc] 40)).alloc (.cells #[.int .i64 0, .int .i64 0, .int .i64 0, .slice none 0 0, .slice none 0 0, .slice none 0 0] 54)).alloc (.cells #[.int .i64 c, .int .i64 u, .int .i64 16, .slice none 0 0, .slice A vs.length cc, .slice none 0 0] 54)).alloc (.cells #[.int .i64 (rd), .int .i64 (rd + ct - 1)] 87)) (w.heap.size + 1 + 1 + 1 + 1) (some ⟨w.heap.size + 1 + 1 + 1, 0, none⟩) 1 [(rd, rd + ct - 1)] := by
  have h := Row.new encP_len (((w.alloc (.cells #[.int .i64 16, .int .i64 rd, .int .i64 ct, .int .i64 wr, .int .i64 mn, .slice A vs.length cc] 40)).alloc (.cells #[.int .i64 0, .int .i64 0, .int .i64 0, .slice none 0 0, .slice none 0 0, .slice none 0 0] 54)).alloc (.cells #[.int .i64 c, .int .i64 u, .int .i64 16, .slice none 0 0, .slice A vs.length cc, .slice none 0 0] 54)) 87 [(rd, rd + ct - 1)] #[.int .i64 (rd), .int .i64 (rd + ct - 1)] rfl
  simpa using h
 go_wp2_with (at_builtin; refine append_rows rfl _ _ 52 rfl (w.heap.size + 3) 87 _ 16 Tryz.underlying52 info_range rfl (by omega) encP_len encP_one (.slice none 0 0) 0 [] rfl own0 (by simp) _ _ 1 1 [(rd, rd + ct - 1)] rfl hrow1 (by unfold maxLen; omega) (by omega) ?_)
 intro v1 w1 own1 hb1
 have own1 : w1.ownsRow (w.heap.size + 3) 87 2 v1 1 (flat encP [(rd, rd + ct - 1)]) := by simpa using own1
 obtain ⟨S1, q1, rfl⟩ := own_slice own1
 have B5 := A5.below hb1 (by omega)
 have B6 := A6.below hb1 (by omega)
 have B7 := A7.below hb1 (by omega)
 have Y6 : ∀ j, w1.frozen? ⟨w.heap.size + 1, j, none⟩ = false := fun j => (hb1.frozen (by show w.heap.size + 1 < _; omega)).trans (Z6 j)
 have Y7 : ∀ j, w1.frozen? ⟨w.heap.size + 1 + 1, j, none⟩ = false := fun j => (hb1.frozen (by show w.heap.size + 1 + 1 < _; omega)).trans (Z7 j)
 have K1 : Keep w w1 := Below.trans K0 (hb1.mono (by omega))
 have hs1 : w.heap.size + 4 <= w1.heap.size := by have := hb1.size; simp at this; omega
 clear A5 A6 A7 Z6 Z7 K0 own0 hrow1 hb1
 have HB7 := Lib.hid B7
 have HK1 := Lib.hid K1
 have HB5 := Lib.hid B5
 have HB6 := Lib.hid B6
 obtain ⟨y0, y1, y2, y3, y4, y5⟩ := B7
 obtain ⟨x0, x1, x2, x3, x4, x5⟩ := B5
 have y3f := Y7 3
 have C5 : Six ((w1.setCell ⟨w.heap.size + 1 + 1, 3, none⟩ (.slice S1 1 q1)).alloc (.cells #[.int .i64 (wr), .int .i64 (wr + mn - 1)] 87)) w.heap.size (.int .i64 16) (.int .i64 rd) (.int .i64 ct) (.int .i64 wr) (.int .i64 mn) (.slice A vs.length cc) := (HB5.out.set (by omega)).below (B := w.heap.size + 3) ((Below.refl _ _).alloc (by simp; omega) _) (by omega)
 have C6 : Six ((w1.setCell ⟨w.heap.size + 1 + 1, 3, none⟩ (.slice S1 1 q1)).alloc (.cells #[.int .i64 (wr), .int .i64 (wr + mn - 1)] 87)) (w.heap.size + 1) (.int .i64 0) (.int .i64 0) (.int .i64 0) (.slice none 0 0) (.slice none 0 0) (.slice none 0 0) := (HB6.out.set (by omega)).below (B := w.heap.size + 3) ((Below.refl _ _).alloc (by simp; omega) _) (by omega)
 have C7 : Six ((w1.setCell ⟨w.heap.size + 1 + 1, 3, none⟩ (.slice S1 1 q1)).alloc (.cells #[.int .i64 (wr), .int .i64 (wr + mn - 1)] 87)) (w.heap.size + 1 + 1) (.int .i64 c) (.int .i64 u) (.int .i64 16) (.slice S1 1 q1) (.slice A vs.length cc) (.slice none 0 0) := by
  have h : Six (w1.setCell ⟨w.heap.size + 1 + 1, 3, none⟩ (.slice S1 1 q1)) (w.heap.size + 1 + 1) (.int .i64 c) (.int .i64 u) (.int .i64 16) (.slice S1 1 q1) (.slice A vs.length cc) (.slice none 0 0) := by refine ⟨?_, ?_, ?_, ?_, ?_, ?_⟩ <;> go_simp
  exact h.below (B := w.heap.size + 3) ((Below.refl _ _).alloc (by simp; omega) _) (by omega)
 have Z6 : ∀ j, ((w1.setCell ⟨w.heap.size + 1 + 1, 3, none⟩ (.slice S1 1 q1)).alloc (.cells #[.int .i64 (wr), .int .i64 (wr + mn - 1)] 87)).frozen? ⟨w.heap.size + 1, j, none⟩ = false := fun j => (Below.frozen (B := w.heap.size + 3) ((Below.refl _ _).alloc (by simp; omega) _) (by show w.heap.size + 1 < _; omega)).trans (by have := Y6 j; go_simp)
 have Z7 : ∀ j, ((w1.setCell ⟨w.heap.size + 1 + 1, 3, none⟩ (.slice S1 1 q1)).alloc (.cells #[.int .i64 (wr), .int .i64 (wr + mn - 1)] 87)).frozen? ⟨w.heap.size + 1 + 1, j, none⟩ = false := fun j => (Below.frozen (B := w.heap.size + 3) ((Below.refl _ _).alloc (by simp; omega) _) (by show w.heap.size + 1 + 1 < _; omega)).trans (by have := Y7 j; go_simp)
 have K2 : Keep w ((w1.setCell ⟨w.heap.size + 1 + 1, 3, none⟩ (.slice S1 1 q1)).alloc (.cells #[.int .i64 (wr), .int .i64 (wr + mn - 1)] 87)) := (show Keep w (w1.setCell ⟨w.heap.size + 1 + 1, 3, none⟩ (.slice S1 1 q1)) from Below.setCell HK1.out (by show w.heap.size <= w.heap.size + 1 + 1; omega) _).alloc _
 have own2 : ((w1.setCell ⟨w.heap.size + 1 + 1, 3, none⟩ (.slice S1 1 q1)).alloc (.cells #[.int .i64 (wr), .int .i64 (wr + mn - 1)] 87)).ownsRow (w.heap.size + 3) 87 2 (.slice S1 1 q1) 1 (flat encP [(rd, rd + ct - 1)]) := (own_set2 own1 _ _ (by show w.heap.size + 1 + 1 < _; omega)).alloc _
 have hrow2 : Row encP 2 ((w1.setCell ⟨w.heap.size + 1 + 1, 3, none⟩ (.slice S1 1 q1)).alloc (.cells #[.int .i64 (wr), .int .i64 (wr + mn - 1)] 87)) (w1.heap.size + 1) (some ⟨w1.heap.size, 0, none⟩) 1 [(wr, wr + mn - 1)] := by
  have h := Row.new encP_len (w1.setCell ⟨w.heap.size + 1 + 1, 3, none⟩ (.slice S1 1 q1)) 87 [(wr, wr + mn - 1)] #[.int .i64 (wr), .int .i64 (wr + mn - 1)] rfl
  simpa using h
 go_wp2_with (at_builtin; refine append_rows rfl _ _ 52 rfl (w.heap.size + 3) 87 _ 16 Tryz.underlying52 info_range rfl (by omega) encP_len encP_one (.slice S1 1 q1) 1 [(rd, rd + ct - 1)] rfl own2 (by simp; omega) _ _ 1 1 [(wr, wr + mn - 1)] rfl hrow2 (by unfold maxLen; omega) (by omega) ?_)
 intro v2 w2 own3 hb2
 have own3 : w2.ownsRow (w.heap.size + 3) 87 2 v2 2 (flat encP ([(rd, rd + ct - 1)] ++ [(wr, wr + mn - 1)])) := own3
 obtain ⟨S2, q2, rfl⟩ := own_slice own3
 have D5 := C5.below hb2 (by omega)
 have D6 := C6.below hb2 (by omega)
 have D7 := C7.below hb2 (by omega)
 have W6 : ∀ j, w2.frozen? ⟨w.heap.size + 1, j, none⟩ = false := fun j => (hb2.frozen (by show w.heap.size + 1 < _; omega)).trans (Z6 j)
 have W7 : ∀ j, w2.frozen? ⟨w.heap.size + 1 + 1, j, none⟩ = false := fun j => (hb2.frozen (by show w.heap.size + 1 + 1 < _; omega)).trans (Z7 j)
 have K3 : Keep w w2 := Below.trans K2 (hb2.mono (by omega))
 have hs2 : w.heap.size + 4 <= w2.heap.size := by have := hb2.size; simp at this; omega
 clear C5 C6 C7 Z6 Z7 K2 own2 hrow2 hb2 x0 x1 x2 x3 x4 x5 y0 y1 y2 y3 y4 y5 y3f HB5 HB6 HB7 HK1 own1 Y6 Y7 B6 hs1
 have OWN := Lib.hid own3
 have KK := Lib.hid K3
 obtain ⟨x0, x1, x2, x3, x4, x5⟩ := D5
 obtain ⟨z0, z1, z2, z3, z4, z5⟩ := D6
 obtain ⟨y0, y1, y2, y3, y4, y5⟩ := D7
 have g3 := W7 3
 have g5 := W7 5
 have e0 := W6 0
 have e1 := W6 1
 have e2 := W6 2
 have e3 := W6 3
 have e4 := W6 4
 have e5 := W6 5
 clear own3 K3 W6 W7
 go_wp2
 (try simp only [Exit.inBlock, Exit.then])
 refine bodyPost_ret (v := .agg #[.int .i64 c, .int .i64 u, .int .i64 16, .slice S2 2 q2, .slice A vs.length cc, .slice A vs.length cc]) ?_ rfl ?_
 ·rw [results_c rfl]
  go_simp
 ·rw [HOF.out]
  have kp : ∀ V, Below w.heap.size w V -> (∀ p : Addr, w.heap.size + 3 <= p.block -> V.cell? p = w2.cell? p) -> w2.heap.size <= V.heap.size -> RetOfC A cc ⟨c, u, 16, ([(rd, rd + ct - 1)] ++ [(wr, wr + mn - 1)]), vs, vs⟩ w (.returned (.agg #[.int .i64 c, .int .i64 u, .int .i64 16, .slice S2 2 q2, .slice A vs.length cc, .slice A vs.length cc])) V := fun V hK hc hs =>
   ⟨S2, A, A, q2, cc, cc, rfl, ⟨past OWN.out (by omega) rfl hc hs, hA.kept hK, hA.kept hK⟩, hK, ⟨FreshB.of_own OWN.out (by omega), .inr rfl, .inr rfl⟩, .inr ⟨rfl, by simp⟩⟩
  refine kp _ ?_ (fun p hp => ?_) ?_
  ·have KB : Below w.heap.size w w2 := KK.out
   repeat' (first | with_reducible exact KB | with_reducible refine Below.setCell ?_ ?_ _ | (show w.heap.size <= w.heap.size + 1; omega) | (show w.heap.size <= w.heap.size + 1 + 1; omega))
  ·repeat (rw [World.cell?_of_block (Below.heap_setCell _ _ _ _ (by first | (show p.block ≠ w.heap.size + 1; omega) | (show p.block ≠ w.heap.size + 1 + 1; omega)))])
  ·simp
set_option maxHeartbeats 4000000 in
theorem of_11_23 (c u : Int) (a : AskP) (A : Option Addr) (cc : Nat) (w : World) (hn : a.vs.length <= 1000000) (hf : Fit a) (hA : Ints .i64 w w.heap.size A a.vs.length a.vs) (h1 : 0 < a.ct) (h2 : 0 < a.mn) (h3 : a.fc = 23) :
  Calls Tryz.prog 23 #[.int .i64 c, .int .i64 u, .agg #[.int .i64 a.fc, .int .i64 a.rd, .int .i64 a.ct, .int .i64 a.wr, .int .i64 a.mn, .slice A a.vs.length cc]] w (RetOfC A cc (of c u a) w) := by
 obtain ⟨fc, rd, ct, wr, mn, vs⟩ := a
 simp only at hn hA h1 h2 h3 ⊢
 subst h3
 unfold Fit at hf
 simp only at hf
 obtain ⟨f1, f2, f3, f4, f5, f6⟩ := hf
 have HOF := Lib.hid (show of c u ⟨23, rd, ct, wr, mn, vs⟩ = ⟨c, u, 23, [(rd, rd + ct - 1)] ++ [(wr, wr + mn - 1)], vs, vs⟩ by
  unfold of reads writes regs
  simp only
  rw [if_pos h1, if_pos h2, if_pos (by decide)])
 have d1 : decide (ct > 0) = true := by simpa using h1
 have d2 : decide (mn > 0) = true := by simpa using h2
 have s1 : IntKind.i64.wrap (rd + ct) = rd + ct := by rw [IntKind.wrap_i64]; omega
 have s2 : IntKind.i64.wrap (rd + ct - 1) = rd + ct - 1 := by rw [IntKind.wrap_i64]; omega
 have s3 : IntKind.i64.wrap (wr + mn) = wr + mn := by rw [IntKind.wrap_i64]; omega
 have s4 : IntKind.i64.wrap (wr + mn - 1) = wr + mn - 1 := by rw [IntKind.wrap_i64]; omega
 clear h1 h2
 go_enter Tryz.func23, Tryz.ntmps23
 have A5 : Six ((((w.alloc (.cells #[.int .i64 23, .int .i64 rd, .int .i64 ct, .int .i64 wr, .int .i64 mn, .slice A vs.length cc] 40)).alloc (.cells #[.int .i64 0, .int .i64 0, .int .i64 0, .slice none 0 0, .slice none 0 0, .slice none 0 0] 54)).alloc (.cells #[.int .i64 c, .int .i64 u, .int .i64 23, .slice none 0 0, .slice A vs.length cc, .slice none 0 0] 54)).alloc (.cells #[.int .i64 (rd), .int .i64 (rd + ct - 1)] 87)) w.heap.size (.int .i64 23) (.int .i64 rd) (.int .i64 ct) (.int .i64 wr) (.int .i64 mn) (.slice A vs.length cc) := by refine ⟨?_, ?_, ?_, ?_, ?_, ?_⟩ <;> go_simp
 have A6 : Six ((((w.alloc (.cells #[.int .i64 23, .int .i64 rd, .int .i64 ct, .int .i64 wr, .int .i64 mn, .slice A vs.length cc] 40)).alloc (.cells #[.int .i64 0, .int .i64 0, .int .i64 0, .slice none 0 0, .slice none 0 0, .slice none 0 0] 54)).alloc (.cells #[.int .i64 c, .int .i64 u, .int .i64 23, .slice none 0 0, .slice A vs.length cc, .slice none 0 0] 54)).alloc (.cells #[.int .i64 (rd), .int .i64 (rd + ct - 1)] 87)) (w.heap.size + 1) (.int .i64 0) (.int .i64 0) (.int .i64 0) (.slice none 0 0) (.slice none 0 0) (.slice none 0 0) := by refine ⟨?_, ?_, ?_, ?_, ?_, ?_⟩ <;> go_simp
 have A7 : Six ((((w.alloc (.cells #[.int .i64 23, .int .i64 rd, .int .i64 ct, .int .i64 wr, .int .i64 mn, .slice A vs.length cc] 40)).alloc (.cells #[.int .i64 0, .int .i64 0, .int .i64 0, .slice none 0 0, .slice none 0 0, .slice none 0 0] 54)).alloc (.cells #[.int .i64 c, .int .i64 u, .int .i64 23, .slice none 0 0, .slice A vs.length cc, .slice none 0 0] 54)).alloc (.cells #[.int .i64 (rd), .int .i64 (rd + ct - 1)] 87)) (w.heap.size + 1 + 1) (.int .i64 c) (.int .i64 u) (.int .i64 23) (.slice none 0 0) (.slice A vs.length cc) (.slice none 0 0) := by refine ⟨?_, ?_, ?_, ?_, ?_, ?_⟩ <;> go_simp
 have Z6 : ∀ j, ((((w.alloc (.cells #[.int .i64 23, .int .i64 rd, .int .i64 ct, .int .i64 wr, .int .i64 mn, .slice A vs.length cc] 40)).alloc (.cells #[.int .i64 0, .int .i64 0, .int .i64 0, .slice none 0 0, .slice none 0 0, .slice none 0 0] 54)).alloc (.cells #[.int .i64 c, .int .i64 u, .int .i64 23, .slice none 0 0, .slice A vs.length cc, .slice none 0 0] 54)).alloc (.cells #[.int .i64 (rd), .int .i64 (rd + ct - 1)] 87)).frozen? ⟨w.heap.size + 1, j, none⟩ = false := fun j => by go_simp
 have Z7 : ∀ j, ((((w.alloc (.cells #[.int .i64 23, .int .i64 rd, .int .i64 ct, .int .i64 wr, .int .i64 mn, .slice A vs.length cc] 40)).alloc (.cells #[.int .i64 0, .int .i64 0, .int .i64 0, .slice none 0 0, .slice none 0 0, .slice none 0 0] 54)).alloc (.cells #[.int .i64 c, .int .i64 u, .int .i64 23, .slice none 0 0, .slice A vs.length cc, .slice none 0 0] 54)).alloc (.cells #[.int .i64 (rd), .int .i64 (rd + ct - 1)] 87)).frozen? ⟨w.heap.size + 1 + 1, j, none⟩ = false := fun j => by go_simp
 have K0 : Keep w ((((w.alloc (.cells #[.int .i64 23, .int .i64 rd, .int .i64 ct, .int .i64 wr, .int .i64 mn, .slice A vs.length cc] 40)).alloc (.cells #[.int .i64 0, .int .i64 0, .int .i64 0, .slice none 0 0, .slice none 0 0, .slice none 0 0] 54)).alloc (.cells #[.int .i64 c, .int .i64 u, .int .i64 23, .slice none 0 0, .slice A vs.length cc, .slice none 0 0] 54)).alloc (.cells #[.int .i64 (rd), .int .i64 (rd + ct - 1)] 87)) := (((((Keep.refl w).alloc _).alloc _).alloc _).alloc _)
 have own0 : ((((w.alloc (.cells #[.int .i64 23, .int .i64 rd, .int .i64 ct, .int .i64 wr, .int .i64 mn, .slice A vs.length cc] 40)).alloc (.cells #[.int .i64 0, .int .i64 0, .int .i64 0, .slice none 0 0, .slice none 0 0, .slice none 0 0] 54)).alloc (.cells #[.int .i64 c, .int .i64 u, .int .i64 23, .slice none 0 0, .slice A vs.length cc, .slice none 0 0] 54)).alloc (.cells #[.int .i64 (rd), .int .i64 (rd + ct - 1)] 87)).ownsRow (w.heap.size + 3) 87 2 (.slice none 0 0) 0 (flat encP []) := ⟨rfl, .inl ⟨rfl, rfl⟩⟩
 have hrow1 : Row encP 2 ((((w.alloc (.cells #[.int .i64 23, .int .i64 rd, .int .i64 ct, .int .i64 wr, .int .i64 mn, .slice A vs.length cc] 40)).alloc (.cells #[.int .i64 0, .int .i64 0, .int .i64 0, .slice none 0 0, .slice none 0 0, .slice none 0 0] 54)).alloc (.cells #[.int .i64 c, .int .i64 u, .int .i64 23, .slice none 0 0, .slice A vs.length cc, .slice none 0 0] 54)).alloc (.cells #[.int .i64 (rd), .int .i64 (rd + ct - 1)] 87)) (w.heap.size + 1 + 1 + 1 + 1) (some ⟨w.heap.size + 1 + 1 + 1, 0, none⟩) 1 [(rd, rd + ct - 1)] := by
  have h := Row.new encP_len (((w.alloc (.cells #[.int .i64 23, .int .i64 rd, .int .i64 ct, .int .i64 wr, .int .i64 mn, .slice A vs.length cc] 40)).alloc (.cells #[.int .i64 0, .int .i64 0, .int .i64 0, .slice none 0 0, .slice none 0 0, .slice none 0 0] 54)).alloc (.cells #[.int .i64 c, .int .i64 u, .int .i64 23, .slice none 0 0, .slice A vs.length cc, .slice none 0 0] 54)) 87 [(rd, rd + ct - 1)] #[.int .i64 (rd), .int .i64 (rd + ct - 1)] rfl
  simpa using h
 go_wp2_with (at_builtin; refine append_rows rfl _ _ 52 rfl (w.heap.size + 3) 87 _ 16 Tryz.underlying52 info_range rfl (by omega) encP_len encP_one (.slice none 0 0) 0 [] rfl own0 (by simp) _ _ 1 1 [(rd, rd + ct - 1)] rfl hrow1 (by unfold maxLen; omega) (by omega) ?_)
 intro v1 w1 own1 hb1
 have own1 : w1.ownsRow (w.heap.size + 3) 87 2 v1 1 (flat encP [(rd, rd + ct - 1)]) := by simpa using own1
 obtain ⟨S1, q1, rfl⟩ := own_slice own1
 have B5 := A5.below hb1 (by omega)
 have B6 := A6.below hb1 (by omega)
 have B7 := A7.below hb1 (by omega)
 have Y6 : ∀ j, w1.frozen? ⟨w.heap.size + 1, j, none⟩ = false := fun j => (hb1.frozen (by show w.heap.size + 1 < _; omega)).trans (Z6 j)
 have Y7 : ∀ j, w1.frozen? ⟨w.heap.size + 1 + 1, j, none⟩ = false := fun j => (hb1.frozen (by show w.heap.size + 1 + 1 < _; omega)).trans (Z7 j)
 have K1 : Keep w w1 := Below.trans K0 (hb1.mono (by omega))
 have hs1 : w.heap.size + 4 <= w1.heap.size := by have := hb1.size; simp at this; omega
 clear A5 A6 A7 Z6 Z7 K0 own0 hrow1 hb1
 have HB7 := Lib.hid B7
 have HK1 := Lib.hid K1
 have HB5 := Lib.hid B5
 have HB6 := Lib.hid B6
 obtain ⟨y0, y1, y2, y3, y4, y5⟩ := B7
 obtain ⟨x0, x1, x2, x3, x4, x5⟩ := B5
 have y3f := Y7 3
 have C5 : Six ((w1.setCell ⟨w.heap.size + 1 + 1, 3, none⟩ (.slice S1 1 q1)).alloc (.cells #[.int .i64 (wr), .int .i64 (wr + mn - 1)] 87)) w.heap.size (.int .i64 23) (.int .i64 rd) (.int .i64 ct) (.int .i64 wr) (.int .i64 mn) (.slice A vs.length cc) := (HB5.out.set (by omega)).below (B := w.heap.size + 3) ((Below.refl _ _).alloc (by simp; omega) _) (by omega)
 have C6 : Six ((w1.setCell ⟨w.heap.size + 1 + 1, 3, none⟩ (.slice S1 1 q1)).alloc (.cells #[.int .i64 (wr), .int .i64 (wr + mn - 1)] 87)) (w.heap.size + 1) (.int .i64 0) (.int .i64 0) (.int .i64 0) (.slice none 0 0) (.slice none 0 0) (.slice none 0 0) := (HB6.out.set (by omega)).below (B := w.heap.size + 3) ((Below.refl _ _).alloc (by simp; omega) _) (by omega)
 have C7 : Six ((w1.setCell ⟨w.heap.size + 1 + 1, 3, none⟩ (.slice S1 1 q1)).alloc (.cells #[.int .i64 (wr), .int .i64 (wr + mn - 1)] 87)) (w.heap.size + 1 + 1) (.int .i64 c) (.int .i64 u) (.int .i64 23) (.slice S1 1 q1) (.slice A vs.length cc) (.slice none 0 0) := by
  have h : Six (w1.setCell ⟨w.heap.size + 1 + 1, 3, none⟩ (.slice S1 1 q1)) (w.heap.size + 1 + 1) (.int .i64 c) (.int .i64 u) (.int .i64 23) (.slice S1 1 q1) (.slice A vs.length cc) (.slice none 0 0) := by refine ⟨?_, ?_, ?_, ?_, ?_, ?_⟩ <;> go_simp
  exact h.below (B := w.heap.size + 3) ((Below.refl _ _).alloc (by simp; omega) _) (by omega)
 have Z6 : ∀ j, ((w1.setCell ⟨w.heap.size + 1 + 1, 3, none⟩ (.slice S1 1 q1)).alloc (.cells #[.int .i64 (wr), .int .i64 (wr + mn - 1)] 87)).frozen? ⟨w.heap.size + 1, j, none⟩ = false := fun j => (Below.frozen (B := w.heap.size + 3) ((Below.refl _ _).alloc (by simp; omega) _) (by show w.heap.size + 1 < _; omega)).trans (by have := Y6 j; go_simp)
 have Z7 : ∀ j, ((w1.setCell ⟨w.heap.size + 1 + 1, 3, none⟩ (.slice S1 1 q1)).alloc (.cells #[.int .i64 (wr), .int .i64 (wr + mn - 1)] 87)).frozen? ⟨w.heap.size + 1 + 1, j, none⟩ = false := fun j => (Below.frozen (B := w.heap.size + 3) ((Below.refl _ _).alloc (by simp; omega) _) (by show w.heap.size + 1 + 1 < _; omega)).trans (by have := Y7 j; go_simp)
 have K2 : Keep w ((w1.setCell ⟨w.heap.size + 1 + 1, 3, none⟩ (.slice S1 1 q1)).alloc (.cells #[.int .i64 (wr), .int .i64 (wr + mn - 1)] 87)) := (show Keep w (w1.setCell ⟨w.heap.size + 1 + 1, 3, none⟩ (.slice S1 1 q1)) from Below.setCell HK1.out (by show w.heap.size <= w.heap.size + 1 + 1; omega) _).alloc _
 have own2 : ((w1.setCell ⟨w.heap.size + 1 + 1, 3, none⟩ (.slice S1 1 q1)).alloc (.cells #[.int .i64 (wr), .int .i64 (wr + mn - 1)] 87)).ownsRow (w.heap.size + 3) 87 2 (.slice S1 1 q1) 1 (flat encP [(rd, rd + ct - 1)]) := (own_set2 own1 _ _ (by show w.heap.size + 1 + 1 < _; omega)).alloc _
 have hrow2 : Row encP 2 ((w1.setCell ⟨w.heap.size + 1 + 1, 3, none⟩ (.slice S1 1 q1)).alloc (.cells #[.int .i64 (wr), .int .i64 (wr + mn - 1)] 87)) (w1.heap.size + 1) (some ⟨w1.heap.size, 0, none⟩) 1 [(wr, wr + mn - 1)] := by
  have h := Row.new encP_len (w1.setCell ⟨w.heap.size + 1 + 1, 3, none⟩ (.slice S1 1 q1)) 87 [(wr, wr + mn - 1)] #[.int .i64 (wr), .int .i64 (wr + mn - 1)] rfl
  simpa using h
 go_wp2_with (at_builtin; refine append_rows rfl _ _ 52 rfl (w.heap.size + 3) 87 _ 16 Tryz.underlying52 info_range rfl (by omega) encP_len encP_one (.slice S1 1 q1) 1 [(rd, rd + ct - 1)] rfl own2 (by simp; omega) _ _ 1 1 [(wr, wr + mn - 1)] rfl hrow2 (by unfold maxLen; omega) (by omega) ?_)
 intro v2 w2 own3 hb2
 have own3 : w2.ownsRow (w.heap.size + 3) 87 2 v2 2 (flat encP ([(rd, rd + ct - 1)] ++ [(wr, wr + mn - 1)])) := own3
 obtain ⟨S2, q2, rfl⟩ := own_slice own3
 have D5 := C5.below hb2 (by omega)
 have D6 := C6.below hb2 (by omega)
 have D7 := C7.below hb2 (by omega)
 have W6 : ∀ j, w2.frozen? ⟨w.heap.size + 1, j, none⟩ = false := fun j => (hb2.frozen (by show w.heap.size + 1 < _; omega)).trans (Z6 j)
 have W7 : ∀ j, w2.frozen? ⟨w.heap.size + 1 + 1, j, none⟩ = false := fun j => (hb2.frozen (by show w.heap.size + 1 + 1 < _; omega)).trans (Z7 j)
 have K3 : Keep w w2 := Below.trans K2 (hb2.mono (by omega))
 have hs2 : w.heap.size + 4 <= w2.heap.size := by have := hb2.size; simp at this; omega
 clear C5 C6 C7 Z6 Z7 K2 own2 hrow2 hb2 x0 x1 x2 x3 x4 x5 y0 y1 y2 y3 y4 y5 y3f HB5 HB6 HB7 HK1 own1 Y6 Y7 B6 hs1
 have OWN := Lib.hid own3
 have KK := Lib.hid K3
 obtain ⟨x0, x1, x2, x3, x4, x5⟩ := D5
 obtain ⟨z0, z1, z2, z3, z4, z5⟩ := D6
 obtain ⟨y0, y1, y2, y3, y4, y5⟩ := D7
 have g3 := W7 3
 have g5 := W7 5
 have e0 := W6 0
 have e1 := W6 1
 have e2 := W6 2
 have e3 := W6 3
 have e4 := W6 4
 have e5 := W6 5
 clear own3 K3 W6 W7
 go_wp2
 (try simp only [Exit.inBlock, Exit.then])
 refine bodyPost_ret (v := .agg #[.int .i64 c, .int .i64 u, .int .i64 23, .slice S2 2 q2, .slice A vs.length cc, .slice A vs.length cc]) ?_ rfl ?_
 ·rw [results_c rfl]
  go_simp
 ·rw [HOF.out]
  have kp : ∀ V, Below w.heap.size w V -> (∀ p : Addr, w.heap.size + 3 <= p.block -> V.cell? p = w2.cell? p) -> w2.heap.size <= V.heap.size -> RetOfC A cc ⟨c, u, 23, ([(rd, rd + ct - 1)] ++ [(wr, wr + mn - 1)]), vs, vs⟩ w (.returned (.agg #[.int .i64 c, .int .i64 u, .int .i64 23, .slice S2 2 q2, .slice A vs.length cc, .slice A vs.length cc])) V := fun V hK hc hs =>
   ⟨S2, A, A, q2, cc, cc, rfl, ⟨past OWN.out (by omega) rfl hc hs, hA.kept hK, hA.kept hK⟩, hK, ⟨FreshB.of_own OWN.out (by omega), .inr rfl, .inr rfl⟩, .inr ⟨rfl, by simp⟩⟩
  refine kp _ ?_ (fun p hp => ?_) ?_
  ·have KB : Below w.heap.size w w2 := KK.out
   repeat' (first | with_reducible exact KB | with_reducible refine Below.setCell ?_ ?_ _ | (show w.heap.size <= w.heap.size + 1; omega) | (show w.heap.size <= w.heap.size + 1 + 1; omega))
  ·repeat (rw [World.cell?_of_block (Below.heap_setCell _ _ _ _ (by first | (show p.block ≠ w.heap.size + 1; omega) | (show p.block ≠ w.heap.size + 1 + 1; omega)))])
  ·simp
set_option maxHeartbeats 4000000 in
theorem of_11_0 (c u : Int) (a : AskP) (A : Option Addr) (cc : Nat) (w : World) (hn : a.vs.length <= 1000000) (hf : Fit a) (hA : Ints .i64 w w.heap.size A a.vs.length a.vs) (h1 : 0 < a.ct) (h2 : 0 < a.mn) (h3 : ¬ (a.fc = 6 ∨ a.fc = 16 ∨ a.fc = 23)) :
  Calls Tryz.prog 23 #[.int .i64 c, .int .i64 u, .agg #[.int .i64 a.fc, .int .i64 a.rd, .int .i64 a.ct, .int .i64 a.wr, .int .i64 a.mn, .slice A a.vs.length cc]] w (RetOfC A cc (of c u a) w) := by
 obtain ⟨fc, rd, ct, wr, mn, vs⟩ := a
 simp only at hn hA h1 h2 h3 ⊢
 unfold Fit at hf
 simp only at hf
 obtain ⟨f1, f2, f3, f4, f5, f6⟩ := hf
 have HOF := Lib.hid (show of c u ⟨fc, rd, ct, wr, mn, vs⟩ = ⟨c, u, fc, [(rd, rd + ct - 1)] ++ [(wr, wr + mn - 1)], vs, []⟩ by
  unfold of reads writes regs
  simp only
  rw [if_pos h1, if_pos h2, if_neg h3])
 have d1 : decide (ct > 0) = true := by simpa using h1
 have d2 : decide (mn > 0) = true := by simpa using h2
 have s1 : IntKind.i64.wrap (rd + ct) = rd + ct := by rw [IntKind.wrap_i64]; omega
 have s2 : IntKind.i64.wrap (rd + ct - 1) = rd + ct - 1 := by rw [IntKind.wrap_i64]; omega
 have s3 : IntKind.i64.wrap (wr + mn) = wr + mn := by rw [IntKind.wrap_i64]; omega
 have s4 : IntKind.i64.wrap (wr + mn - 1) = wr + mn - 1 := by rw [IntKind.wrap_i64]; omega
 have d3 : (fc == 6) = false := by simp; omega
 have d4 : (fc == 16) = false := by simp; omega
 have d5 : (fc == 23) = false := by simp; omega
 clear h3 h1 h2
 go_enter Tryz.func23, Tryz.ntmps23
 have A5 : Six ((((w.alloc (.cells #[.int .i64 fc, .int .i64 rd, .int .i64 ct, .int .i64 wr, .int .i64 mn, .slice A vs.length cc] 40)).alloc (.cells #[.int .i64 0, .int .i64 0, .int .i64 0, .slice none 0 0, .slice none 0 0, .slice none 0 0] 54)).alloc (.cells #[.int .i64 c, .int .i64 u, .int .i64 fc, .slice none 0 0, .slice A vs.length cc, .slice none 0 0] 54)).alloc (.cells #[.int .i64 (rd), .int .i64 (rd + ct - 1)] 87)) w.heap.size (.int .i64 fc) (.int .i64 rd) (.int .i64 ct) (.int .i64 wr) (.int .i64 mn) (.slice A vs.length cc) := by refine ⟨?_, ?_, ?_, ?_, ?_, ?_⟩ <;> go_simp
 have A6 : Six ((((w.alloc (.cells #[.int .i64 fc, .int .i64 rd, .int .i64 ct, .int .i64 wr, .int .i64 mn, .slice A vs.length cc] 40)).alloc (.cells #[.int .i64 0, .int .i64 0, .int .i64 0, .slice none 0 0, .slice none 0 0, .slice none 0 0] 54)).alloc (.cells #[.int .i64 c, .int .i64 u, .int .i64 fc, .slice none 0 0, .slice A vs.length cc, .slice none 0 0] 54)).alloc (.cells #[.int .i64 (rd), .int .i64 (rd + ct - 1)] 87)) (w.heap.size + 1) (.int .i64 0) (.int .i64 0) (.int .i64 0) (.slice none 0 0) (.slice none 0 0) (.slice none 0 0) := by refine ⟨?_, ?_, ?_, ?_, ?_, ?_⟩ <;> go_simp
 have A7 : Six ((((w.alloc (.cells #[.int .i64 fc, .int .i64 rd, .int .i64 ct, .int .i64 wr, .int .i64 mn, .slice A vs.length cc] 40)).alloc (.cells #[.int .i64 0, .int .i64 0, .int .i64 0, .slice none 0 0, .slice none 0 0, .slice none 0 0] 54)).alloc (.cells #[.int .i64 c, .int .i64 u, .int .i64 fc, .slice none 0 0, .slice A vs.length cc, .slice none 0 0] 54)).alloc (.cells #[.int .i64 (rd), .int .i64 (rd + ct - 1)] 87)) (w.heap.size + 1 + 1) (.int .i64 c) (.int .i64 u) (.int .i64 fc) (.slice none 0 0) (.slice A vs.length cc) (.slice none 0 0) := by refine ⟨?_, ?_, ?_, ?_, ?_, ?_⟩ <;> go_simp
 have Z6 : ∀ j, ((((w.alloc (.cells #[.int .i64 fc, .int .i64 rd, .int .i64 ct, .int .i64 wr, .int .i64 mn, .slice A vs.length cc] 40)).alloc (.cells #[.int .i64 0, .int .i64 0, .int .i64 0, .slice none 0 0, .slice none 0 0, .slice none 0 0] 54)).alloc (.cells #[.int .i64 c, .int .i64 u, .int .i64 fc, .slice none 0 0, .slice A vs.length cc, .slice none 0 0] 54)).alloc (.cells #[.int .i64 (rd), .int .i64 (rd + ct - 1)] 87)).frozen? ⟨w.heap.size + 1, j, none⟩ = false := fun j => by go_simp
 have Z7 : ∀ j, ((((w.alloc (.cells #[.int .i64 fc, .int .i64 rd, .int .i64 ct, .int .i64 wr, .int .i64 mn, .slice A vs.length cc] 40)).alloc (.cells #[.int .i64 0, .int .i64 0, .int .i64 0, .slice none 0 0, .slice none 0 0, .slice none 0 0] 54)).alloc (.cells #[.int .i64 c, .int .i64 u, .int .i64 fc, .slice none 0 0, .slice A vs.length cc, .slice none 0 0] 54)).alloc (.cells #[.int .i64 (rd), .int .i64 (rd + ct - 1)] 87)).frozen? ⟨w.heap.size + 1 + 1, j, none⟩ = false := fun j => by go_simp
 have K0 : Keep w ((((w.alloc (.cells #[.int .i64 fc, .int .i64 rd, .int .i64 ct, .int .i64 wr, .int .i64 mn, .slice A vs.length cc] 40)).alloc (.cells #[.int .i64 0, .int .i64 0, .int .i64 0, .slice none 0 0, .slice none 0 0, .slice none 0 0] 54)).alloc (.cells #[.int .i64 c, .int .i64 u, .int .i64 fc, .slice none 0 0, .slice A vs.length cc, .slice none 0 0] 54)).alloc (.cells #[.int .i64 (rd), .int .i64 (rd + ct - 1)] 87)) := (((((Keep.refl w).alloc _).alloc _).alloc _).alloc _)
 have own0 : ((((w.alloc (.cells #[.int .i64 fc, .int .i64 rd, .int .i64 ct, .int .i64 wr, .int .i64 mn, .slice A vs.length cc] 40)).alloc (.cells #[.int .i64 0, .int .i64 0, .int .i64 0, .slice none 0 0, .slice none 0 0, .slice none 0 0] 54)).alloc (.cells #[.int .i64 c, .int .i64 u, .int .i64 fc, .slice none 0 0, .slice A vs.length cc, .slice none 0 0] 54)).alloc (.cells #[.int .i64 (rd), .int .i64 (rd + ct - 1)] 87)).ownsRow (w.heap.size + 3) 87 2 (.slice none 0 0) 0 (flat encP []) := ⟨rfl, .inl ⟨rfl, rfl⟩⟩
 have hrow1 : Row encP 2 ((((w.alloc (.cells #[.int .i64 fc, .int .i64 rd, .int .i64 ct, .int .i64 wr, .int .i64 mn, .slice A vs.length cc] 40)).alloc (.cells #[.int .i64 0, .int .i64 0, .int .i64 0, .slice none 0 0, .slice none 0 0, .slice none 0 0] 54)).alloc (.cells #[.int .i64 c, .int .i64 u, .int .i64 fc, .slice none 0 0, .slice A vs.length cc, .slice none 0 0] 54)).alloc (.cells #[.int .i64 (rd), .int .i64 (rd + ct - 1)] 87)) (w.heap.size + 1 + 1 + 1 + 1) (some ⟨w.heap.size + 1 + 1 + 1, 0, none⟩) 1 [(rd, rd + ct - 1)] := by
  have h := Row.new encP_len (((w.alloc (.cells #[.int .i64 fc, .int .i64 rd, .int .i64 ct, .int .i64 wr, .int .i64 mn, .slice A vs.length cc] 40)).alloc (.cells #[.int .i64 0, .int .i64 0, .int .i64 0, .slice none 0 0, .slice none 0 0, .slice none 0 0] 54)).alloc (.cells #[.int .i64 c, .int .i64 u, .int .i64 fc, .slice none 0 0, .slice A vs.length cc, .slice none 0 0] 54)) 87 [(rd, rd + ct - 1)] #[.int .i64 (rd), .int .i64 (rd + ct - 1)] rfl
  simpa using h
 go_wp2_with (at_builtin; refine append_rows rfl _ _ 52 rfl (w.heap.size + 3) 87 _ 16 Tryz.underlying52 info_range rfl (by omega) encP_len encP_one (.slice none 0 0) 0 [] rfl own0 (by simp) _ _ 1 1 [(rd, rd + ct - 1)] rfl hrow1 (by unfold maxLen; omega) (by omega) ?_)
 intro v1 w1 own1 hb1
 have own1 : w1.ownsRow (w.heap.size + 3) 87 2 v1 1 (flat encP [(rd, rd + ct - 1)]) := by simpa using own1
 obtain ⟨S1, q1, rfl⟩ := own_slice own1
 have B5 := A5.below hb1 (by omega)
 have B6 := A6.below hb1 (by omega)
 have B7 := A7.below hb1 (by omega)
 have Y6 : ∀ j, w1.frozen? ⟨w.heap.size + 1, j, none⟩ = false := fun j => (hb1.frozen (by show w.heap.size + 1 < _; omega)).trans (Z6 j)
 have Y7 : ∀ j, w1.frozen? ⟨w.heap.size + 1 + 1, j, none⟩ = false := fun j => (hb1.frozen (by show w.heap.size + 1 + 1 < _; omega)).trans (Z7 j)
 have K1 : Keep w w1 := Below.trans K0 (hb1.mono (by omega))
 have hs1 : w.heap.size + 4 <= w1.heap.size := by have := hb1.size; simp at this; omega
 clear A5 A6 A7 Z6 Z7 K0 own0 hrow1 hb1
 have HB7 := Lib.hid B7
 have HK1 := Lib.hid K1
 have HB5 := Lib.hid B5
 have HB6 := Lib.hid B6
 obtain ⟨y0, y1, y2, y3, y4, y5⟩ := B7
 obtain ⟨x0, x1, x2, x3, x4, x5⟩ := B5
 have y3f := Y7 3
 have C5 : Six ((w1.setCell ⟨w.heap.size + 1 + 1, 3, none⟩ (.slice S1 1 q1)).alloc (.cells #[.int .i64 (wr), .int .i64 (wr + mn - 1)] 87)) w.heap.size (.int .i64 fc) (.int .i64 rd) (.int .i64 ct) (.int .i64 wr) (.int .i64 mn) (.slice A vs.length cc) := (HB5.out.set (by omega)).below (B := w.heap.size + 3) ((Below.refl _ _).alloc (by simp; omega) _) (by omega)
 have C6 : Six ((w1.setCell ⟨w.heap.size + 1 + 1, 3, none⟩ (.slice S1 1 q1)).alloc (.cells #[.int .i64 (wr), .int .i64 (wr + mn - 1)] 87)) (w.heap.size + 1) (.int .i64 0) (.int .i64 0) (.int .i64 0) (.slice none 0 0) (.slice none 0 0) (.slice none 0 0) := (HB6.out.set (by omega)).below (B := w.heap.size + 3) ((Below.refl _ _).alloc (by simp; omega) _) (by omega)
 have C7 : Six ((w1.setCell ⟨w.heap.size + 1 + 1, 3, none⟩ (.slice S1 1 q1)).alloc (.cells #[.int .i64 (wr), .int .i64 (wr + mn - 1)] 87)) (w.heap.size + 1 + 1) (.int .i64 c) (.int .i64 u) (.int .i64 fc) (.slice S1 1 q1) (.slice A vs.length cc) (.slice none 0 0) := by
  have h : Six (w1.setCell ⟨w.heap.size + 1 + 1, 3, none⟩ (.slice S1 1 q1)) (w.heap.size + 1 + 1) (.int .i64 c) (.int .i64 u) (.int .i64 fc) (.slice S1 1 q1) (.slice A vs.length cc) (.slice none 0 0) := by refine ⟨?_, ?_, ?_, ?_, ?_, ?_⟩ <;> go_simp
  exact h.below (B := w.heap.size + 3) ((Below.refl _ _).alloc (by simp; omega) _) (by omega)
 have Z6 : ∀ j, ((w1.setCell ⟨w.heap.size + 1 + 1, 3, none⟩ (.slice S1 1 q1)).alloc (.cells #[.int .i64 (wr), .int .i64 (wr + mn - 1)] 87)).frozen? ⟨w.heap.size + 1, j, none⟩ = false := fun j => (Below.frozen (B := w.heap.size + 3) ((Below.refl _ _).alloc (by simp; omega) _) (by show w.heap.size + 1 < _; omega)).trans (by have := Y6 j; go_simp)
 have Z7 : ∀ j, ((w1.setCell ⟨w.heap.size + 1 + 1, 3, none⟩ (.slice S1 1 q1)).alloc (.cells #[.int .i64 (wr), .int .i64 (wr + mn - 1)] 87)).frozen? ⟨w.heap.size + 1 + 1, j, none⟩ = false := fun j => (Below.frozen (B := w.heap.size + 3) ((Below.refl _ _).alloc (by simp; omega) _) (by show w.heap.size + 1 + 1 < _; omega)).trans (by have := Y7 j; go_simp)
 have K2 : Keep w ((w1.setCell ⟨w.heap.size + 1 + 1, 3, none⟩ (.slice S1 1 q1)).alloc (.cells #[.int .i64 (wr), .int .i64 (wr + mn - 1)] 87)) := (show Keep w (w1.setCell ⟨w.heap.size + 1 + 1, 3, none⟩ (.slice S1 1 q1)) from Below.setCell HK1.out (by show w.heap.size <= w.heap.size + 1 + 1; omega) _).alloc _
 have own2 : ((w1.setCell ⟨w.heap.size + 1 + 1, 3, none⟩ (.slice S1 1 q1)).alloc (.cells #[.int .i64 (wr), .int .i64 (wr + mn - 1)] 87)).ownsRow (w.heap.size + 3) 87 2 (.slice S1 1 q1) 1 (flat encP [(rd, rd + ct - 1)]) := (own_set2 own1 _ _ (by show w.heap.size + 1 + 1 < _; omega)).alloc _
 have hrow2 : Row encP 2 ((w1.setCell ⟨w.heap.size + 1 + 1, 3, none⟩ (.slice S1 1 q1)).alloc (.cells #[.int .i64 (wr), .int .i64 (wr + mn - 1)] 87)) (w1.heap.size + 1) (some ⟨w1.heap.size, 0, none⟩) 1 [(wr, wr + mn - 1)] := by
  have h := Row.new encP_len (w1.setCell ⟨w.heap.size + 1 + 1, 3, none⟩ (.slice S1 1 q1)) 87 [(wr, wr + mn - 1)] #[.int .i64 (wr), .int .i64 (wr + mn - 1)] rfl
  simpa using h
 go_wp2_with (at_builtin; refine append_rows rfl _ _ 52 rfl (w.heap.size + 3) 87 _ 16 Tryz.underlying52 info_range rfl (by omega) encP_len encP_one (.slice S1 1 q1) 1 [(rd, rd + ct - 1)] rfl own2 (by simp; omega) _ _ 1 1 [(wr, wr + mn - 1)] rfl hrow2 (by unfold maxLen; omega) (by omega) ?_)
 intro v2 w2 own3 hb2
 have own3 : w2.ownsRow (w.heap.size + 3) 87 2 v2 2 (flat encP ([(rd, rd + ct - 1)] ++ [(wr, wr + mn - 1)])) := own3
 obtain ⟨S2, q2, rfl⟩ := own_slice own3
 have D5 := C5.below hb2 (by omega)
 have D6 := C6.below hb2 (by omega)
 have D7 := C7.below hb2 (by omega)
 have W6 : ∀ j, w2.frozen? ⟨w.heap.size + 1, j, none⟩ = false := fun j => (hb2.frozen (by show w.heap.size + 1 < _; omega)).trans (Z6 j)
 have W7 : ∀ j, w2.frozen? ⟨w.heap.size + 1 + 1, j, none⟩ = false := fun j => (hb2.frozen (by show w.heap.size + 1 + 1 < _; omega)).trans (Z7 j)
 have K3 : Keep w w2 := Below.trans K2 (hb2.mono (by omega))
 have hs2 : w.heap.size + 4 <= w2.heap.size := by have := hb2.size; simp at this; omega
 clear C5 C6 C7 Z6 Z7 K2 own2 hrow2 hb2 x0 x1 x2 x3 x4 x5 y0 y1 y2 y3 y4 y5 y3f HB5 HB6 HB7 HK1 own1 Y6 Y7 B6 hs1
 have OWN := Lib.hid own3
 have KK := Lib.hid K3
 obtain ⟨x0, x1, x2, x3, x4, x5⟩ := D5
 obtain ⟨z0, z1, z2, z3, z4, z5⟩ := D6
 obtain ⟨y0, y1, y2, y3, y4, y5⟩ := D7
 have g3 := W7 3
 have g5 := W7 5
 have e0 := W6 0
 have e1 := W6 1
 have e2 := W6 2
 have e3 := W6 3
 have e4 := W6 4
 have e5 := W6 5
 clear own3 K3 W6 W7
 go_wp2
 (try simp only [Exit.inBlock, Exit.then])
 refine bodyPost_ret (v := .agg #[.int .i64 c, .int .i64 u, .int .i64 fc, .slice S2 2 q2, .slice A vs.length cc, .slice none 0 0]) ?_ rfl ?_
 ·rw [results_c rfl]
  go_simp
 ·rw [HOF.out]
  have kp : ∀ V, Below w.heap.size w V -> (∀ p : Addr, w.heap.size + 3 <= p.block -> V.cell? p = w2.cell? p) -> w2.heap.size <= V.heap.size -> RetOfC A cc ⟨c, u, fc, ([(rd, rd + ct - 1)] ++ [(wr, wr + mn - 1)]), vs, []⟩ w (.returned (.agg #[.int .i64 c, .int .i64 u, .int .i64 fc, .slice S2 2 q2, .slice A vs.length cc, .slice none 0 0])) V := fun V hK hc hs =>
   ⟨S2, A, none, q2, cc, 0, rfl, ⟨past OWN.out (by omega) rfl hc hs, hA.kept hK, Ints.none_ _ _ _ _⟩, hK, ⟨FreshB.of_own OWN.out (by omega), .inr rfl, .inl (FreshB.zero _ _)⟩, .inl ⟨rfl, rfl⟩⟩
  refine kp _ ?_ (fun p hp => ?_) ?_
  ·have KB : Below w.heap.size w w2 := KK.out
   repeat' (first | with_reducible exact KB | with_reducible refine Below.setCell ?_ ?_ _ | (show w.heap.size <= w.heap.size + 1; omega) | (show w.heap.size <= w.heap.size + 1 + 1; omega))
  ·repeat (rw [World.cell?_of_block (Below.heap_setCell _ _ _ _ (by first | (show p.block ≠ w.heap.size + 1; omega) | (show p.block ≠ w.heap.size + 1 + 1; omega)))])
  ·simp
set_option maxHeartbeats 4000000 in
theorem of_10_6 (c u : Int) (a : AskP) (A : Option Addr) (cc : Nat) (w : World) (hn : a.vs.length <= 1000000) (hf : Fit a) (hA : Ints .i64 w w.heap.size A a.vs.length a.vs) (h1 : 0 < a.ct) (h2 : ¬ 0 < a.mn) (h3 : a.fc = 6) :
  Calls Tryz.prog 23 #[.int .i64 c, .int .i64 u, .agg #[.int .i64 a.fc, .int .i64 a.rd, .int .i64 a.ct, .int .i64 a.wr, .int .i64 a.mn, .slice A a.vs.length cc]] w (RetOfC A cc (of c u a) w) := by
 obtain ⟨fc, rd, ct, wr, mn, vs⟩ := a
 simp only at hn hA h1 h2 h3 ⊢
 subst h3
 unfold Fit at hf
 simp only at hf
 obtain ⟨f1, f2, f3, f4, f5, f6⟩ := hf
 have HOF := Lib.hid (show of c u ⟨6, rd, ct, wr, mn, vs⟩ = ⟨c, u, 6, [(rd, rd + ct - 1)] ++ [], vs, vs⟩ by
  unfold of reads writes regs
  simp only
  rw [if_pos h1, if_neg h2, if_pos (by decide)])
 have d1 : decide (ct > 0) = true := by simpa using h1
 have d2 : decide (mn > 0) = false := by simpa using h2
 have s1 : IntKind.i64.wrap (rd + ct) = rd + ct := by rw [IntKind.wrap_i64]; omega
 have s2 : IntKind.i64.wrap (rd + ct - 1) = rd + ct - 1 := by rw [IntKind.wrap_i64]; omega
 clear h1 h2
 go_enter Tryz.func23, Tryz.ntmps23
 have A5 : Six ((((w.alloc (.cells #[.int .i64 6, .int .i64 rd, .int .i64 ct, .int .i64 wr, .int .i64 mn, .slice A vs.length cc] 40)).alloc (.cells #[.int .i64 0, .int .i64 0, .int .i64 0, .slice none 0 0, .slice none 0 0, .slice none 0 0] 54)).alloc (.cells #[.int .i64 c, .int .i64 u, .int .i64 6, .slice none 0 0, .slice A vs.length cc, .slice none 0 0] 54)).alloc (.cells #[.int .i64 (rd), .int .i64 (rd + ct - 1)] 87)) w.heap.size (.int .i64 6) (.int .i64 rd) (.int .i64 ct) (.int .i64 wr) (.int .i64 mn) (.slice A vs.length cc) := by refine ⟨?_, ?_, ?_, ?_, ?_, ?_⟩ <;> go_simp
 have A6 : Six ((((w.alloc (.cells #[.int .i64 6, .int .i64 rd, .int .i64 ct, .int .i64 wr, .int .i64 mn, .slice A vs.length cc] 40)).alloc (.cells #[.int .i64 0, .int .i64 0, .int .i64 0, .slice none 0 0, .slice none 0 0, .slice none 0 0] 54)).alloc (.cells #[.int .i64 c, .int .i64 u, .int .i64 6, .slice none 0 0, .slice A vs.length cc, .slice none 0 0] 54)).alloc (.cells #[.int .i64 (rd), .int .i64 (rd + ct - 1)] 87)) (w.heap.size + 1) (.int .i64 0) (.int .i64 0) (.int .i64 0) (.slice none 0 0) (.slice none 0 0) (.slice none 0 0) := by refine ⟨?_, ?_, ?_, ?_, ?_, ?_⟩ <;> go_simp
 have A7 : Six ((((w.alloc (.cells #[.int .i64 6, .int .i64 rd, .int .i64 ct, .int .i64 wr, .int .i64 mn, .slice A vs.length cc] 40)).alloc (.cells #[.int .i64 0, .int .i64 0, .int .i64 0, .slice none 0 0, .slice none 0 0, .slice none 0 0] 54)).alloc (.cells #[.int .i64 c, .int .i64 u, .int .i64 6, .slice none 0 0, .slice A vs.length cc, .slice none 0 0] 54)).alloc (.cells #[.int .i64 (rd), .int .i64 (rd + ct - 1)] 87)) (w.heap.size + 1 + 1) (.int .i64 c) (.int .i64 u) (.int .i64 6) (.slice none 0 0) (.slice A vs.length cc) (.slice none 0 0) := by refine ⟨?_, ?_, ?_, ?_, ?_, ?_⟩ <;> go_simp
 have Z6 : ∀ j, ((((w.alloc (.cells #[.int .i64 6, .int .i64 rd, .int .i64 ct, .int .i64 wr, .int .i64 mn, .slice A vs.length cc] 40)).alloc (.cells #[.int .i64 0, .int .i64 0, .int .i64 0, .slice none 0 0, .slice none 0 0, .slice none 0 0] 54)).alloc (.cells #[.int .i64 c, .int .i64 u, .int .i64 6, .slice none 0 0, .slice A vs.length cc, .slice none 0 0] 54)).alloc (.cells #[.int .i64 (rd), .int .i64 (rd + ct - 1)] 87)).frozen? ⟨w.heap.size + 1, j, none⟩ = false := fun j => by go_simp
 have Z7 : ∀ j, ((((w.alloc (.cells #[.int .i64 6, .int .i64 rd, .int .i64 ct, .int .i64 wr, .int .i64 mn, .slice A vs.length cc] 40)).alloc (.cells #[.int .i64 0, .int .i64 0, .int .i64 0, .slice none 0 0, .slice none 0 0, .slice none 0 0] 54)).alloc (.cells #[.int .i64 c, .int .i64 u, .int .i64 6, .slice none 0 0, .slice A vs.length cc, .slice none 0 0] 54)).alloc (.cells #[.int .i64 (rd), .int .i64 (rd + ct - 1)] 87)).frozen? ⟨w.heap.size + 1 + 1, j, none⟩ = false := fun j => by go_simp
 have K0 : Keep w ((((w.alloc (.cells #[.int .i64 6, .int .i64 rd, .int .i64 ct, .int .i64 wr, .int .i64 mn, .slice A vs.length cc] 40)).alloc (.cells #[.int .i64 0, .int .i64 0, .int .i64 0, .slice none 0 0, .slice none 0 0, .slice none 0 0] 54)).alloc (.cells #[.int .i64 c, .int .i64 u, .int .i64 6, .slice none 0 0, .slice A vs.length cc, .slice none 0 0] 54)).alloc (.cells #[.int .i64 (rd), .int .i64 (rd + ct - 1)] 87)) := (((((Keep.refl w).alloc _).alloc _).alloc _).alloc _)
 have own0 : ((((w.alloc (.cells #[.int .i64 6, .int .i64 rd, .int .i64 ct, .int .i64 wr, .int .i64 mn, .slice A vs.length cc] 40)).alloc (.cells #[.int .i64 0, .int .i64 0, .int .i64 0, .slice none 0 0, .slice none 0 0, .slice none 0 0] 54)).alloc (.cells #[.int .i64 c, .int .i64 u, .int .i64 6, .slice none 0 0, .slice A vs.length cc, .slice none 0 0] 54)).alloc (.cells #[.int .i64 (rd), .int .i64 (rd + ct - 1)] 87)).ownsRow (w.heap.size + 3) 87 2 (.slice none 0 0) 0 (flat encP []) := ⟨rfl, .inl ⟨rfl, rfl⟩⟩
 have hrow1 : Row encP 2 ((((w.alloc (.cells #[.int .i64 6, .int .i64 rd, .int .i64 ct, .int .i64 wr, .int .i64 mn, .slice A vs.length cc] 40)).alloc (.cells #[.int .i64 0, .int .i64 0, .int .i64 0, .slice none 0 0, .slice none 0 0, .slice none 0 0] 54)).alloc (.cells #[.int .i64 c, .int .i64 u, .int .i64 6, .slice none 0 0, .slice A vs.length cc, .slice none 0 0] 54)).alloc (.cells #[.int .i64 (rd), .int .i64 (rd + ct - 1)] 87)) (w.heap.size + 1 + 1 + 1 + 1) (some ⟨w.heap.size + 1 + 1 + 1, 0, none⟩) 1 [(rd, rd + ct - 1)] := by
  have h := Row.new encP_len (((w.alloc (.cells #[.int .i64 6, .int .i64 rd, .int .i64 ct, .int .i64 wr, .int .i64 mn, .slice A vs.length cc] 40)).alloc (.cells #[.int .i64 0, .int .i64 0, .int .i64 0, .slice none 0 0, .slice none 0 0, .slice none 0 0] 54)).alloc (.cells #[.int .i64 c, .int .i64 u, .int .i64 6, .slice none 0 0, .slice A vs.length cc, .slice none 0 0] 54)) 87 [(rd, rd + ct - 1)] #[.int .i64 (rd), .int .i64 (rd + ct - 1)] rfl
  simpa using h
 go_wp2_with (at_builtin; refine append_rows rfl _ _ 52 rfl (w.heap.size + 3) 87 _ 16 Tryz.underlying52 info_range rfl (by omega) encP_len encP_one (.slice none 0 0) 0 [] rfl own0 (by simp) _ _ 1 1 [(rd, rd + ct - 1)] rfl hrow1 (by unfold maxLen; omega) (by omega) ?_)
 intro v1 w1 own1 hb1
 have own1 : w1.ownsRow (w.heap.size + 3) 87 2 v1 1 (flat encP [(rd, rd + ct - 1)]) := by simpa using own1
 obtain ⟨S1, q1, rfl⟩ := own_slice own1
 have B5 := A5.below hb1 (by omega)
 have B6 := A6.below hb1 (by omega)
 have B7 := A7.below hb1 (by omega)
 have Y6 : ∀ j, w1.frozen? ⟨w.heap.size + 1, j, none⟩ = false := fun j => (hb1.frozen (by show w.heap.size + 1 < _; omega)).trans (Z6 j)
 have Y7 : ∀ j, w1.frozen? ⟨w.heap.size + 1 + 1, j, none⟩ = false := fun j => (hb1.frozen (by show w.heap.size + 1 + 1 < _; omega)).trans (Z7 j)
 have K1 : Keep w w1 := Below.trans K0 (hb1.mono (by omega))
 have hs1 : w.heap.size + 4 <= w1.heap.size := by have := hb1.size; simp at this; omega
 clear A5 A6 A7 Z6 Z7 K0 own0 hrow1 hb1
 have OWN := Lib.hid own1
 have KK := Lib.hid K1
 obtain ⟨x0, x1, x2, x3, x4, x5⟩ := B5
 obtain ⟨z0, z1, z2, z3, z4, z5⟩ := B6
 obtain ⟨y0, y1, y2, y3, y4, y5⟩ := B7
 have g3 := Y7 3
 have g5 := Y7 5
 have e0 := Y6 0
 have e1 := Y6 1
 have e2 := Y6 2
 have e3 := Y6 3
 have e4 := Y6 4
 have e5 := Y6 5
 clear own1 K1 Y6 Y7
 go_wp2
 (try simp only [Exit.inBlock, Exit.then])
 refine bodyPost_ret (v := .agg #[.int .i64 c, .int .i64 u, .int .i64 6, .slice S1 1 q1, .slice A vs.length cc, .slice A vs.length cc]) ?_ rfl ?_
 ·rw [results_c rfl]
  go_simp
 ·rw [HOF.out]
  have kp : ∀ V, Below w.heap.size w V -> (∀ p : Addr, w.heap.size + 3 <= p.block -> V.cell? p = w1.cell? p) -> w1.heap.size <= V.heap.size -> RetOfC A cc ⟨c, u, 6, [(rd, rd + ct - 1)], vs, vs⟩ w (.returned (.agg #[.int .i64 c, .int .i64 u, .int .i64 6, .slice S1 1 q1, .slice A vs.length cc, .slice A vs.length cc])) V := fun V hK hc hs =>
   ⟨S1, A, A, q1, cc, cc, rfl, ⟨past OWN.out (by omega) rfl hc hs, hA.kept hK, hA.kept hK⟩, hK, ⟨FreshB.of_own OWN.out (by omega), .inr rfl, .inr rfl⟩, .inr ⟨rfl, by simp⟩⟩
  refine kp _ ?_ (fun p hp => ?_) ?_
  ·have KB : Below w.heap.size w w1 := KK.out
   repeat' (first | with_reducible exact KB | with_reducible refine Below.setCell ?_ ?_ _ | (show w.heap.size <= w.heap.size + 1; omega) | (show w.heap.size <= w.heap.size + 1 + 1; omega))
  ·repeat (rw [World.cell?_of_block (Below.heap_setCell _ _ _ _ (by first | (show p.block ≠ w.heap.size + 1; omega) | (show p.block ≠ w.heap.size + 1 + 1; omega)))])
  ·simp
set_option maxHeartbeats 4000000 in
theorem of_10_16 (c u : Int) (a : AskP) (A : Option Addr) (cc : Nat) (w : World) (hn : a.vs.length <= 1000000) (hf : Fit a) (hA : Ints .i64 w w.heap.size A a.vs.length a.vs) (h1 : 0 < a.ct) (h2 : ¬ 0 < a.mn) (h3 : a.fc = 16) :
  Calls Tryz.prog 23 #[.int .i64 c, .int .i64 u, .agg #[.int .i64 a.fc, .int .i64 a.rd, .int .i64 a.ct, .int .i64 a.wr, .int .i64 a.mn, .slice A a.vs.length cc]] w (RetOfC A cc (of c u a) w) := by
 obtain ⟨fc, rd, ct, wr, mn, vs⟩ := a
 simp only at hn hA h1 h2 h3 ⊢
 subst h3
 unfold Fit at hf
 simp only at hf
 obtain ⟨f1, f2, f3, f4, f5, f6⟩ := hf
 have HOF := Lib.hid (show of c u ⟨16, rd, ct, wr, mn, vs⟩ = ⟨c, u, 16, [(rd, rd + ct - 1)] ++ [], vs, vs⟩ by
  unfold of reads writes regs
  simp only
  rw [if_pos h1, if_neg h2, if_pos (by decide)])
 have d1 : decide (ct > 0) = true := by simpa using h1
 have d2 : decide (mn > 0) = false := by simpa using h2
 have s1 : IntKind.i64.wrap (rd + ct) = rd + ct := by rw [IntKind.wrap_i64]; omega
 have s2 : IntKind.i64.wrap (rd + ct - 1) = rd + ct - 1 := by rw [IntKind.wrap_i64]; omega
 clear h1 h2
 go_enter Tryz.func23, Tryz.ntmps23
 have A5 : Six ((((w.alloc (.cells #[.int .i64 16, .int .i64 rd, .int .i64 ct, .int .i64 wr, .int .i64 mn, .slice A vs.length cc] 40)).alloc (.cells #[.int .i64 0, .int .i64 0, .int .i64 0, .slice none 0 0, .slice none 0 0, .slice none 0 0] 54)).alloc (.cells #[.int .i64 c, .int .i64 u, .int .i64 16, .slice none 0 0, .slice A vs.length cc, .slice none 0 0] 54)).alloc (.cells #[.int .i64 (rd), .int .i64 (rd + ct - 1)] 87)) w.heap.size (.int .i64 16) (.int .i64 rd) (.int .i64 ct) (.int .i64 wr) (.int .i64 mn) (.slice A vs.length cc) := by refine ⟨?_, ?_, ?_, ?_, ?_, ?_⟩ <;> go_simp
 have A6 : Six ((((w.alloc (.cells #[.int .i64 16, .int .i64 rd, .int .i64 ct, .int .i64 wr, .int .i64 mn, .slice A vs.length cc] 40)).alloc (.cells #[.int .i64 0, .int .i64 0, .int .i64 0, .slice none 0 0, .slice none 0 0, .slice none 0 0] 54)).alloc (.cells #[.int .i64 c, .int .i64 u, .int .i64 16, .slice none 0 0, .slice A vs.length cc, .slice none 0 0] 54)).alloc (.cells #[.int .i64 (rd), .int .i64 (rd + ct - 1)] 87)) (w.heap.size + 1) (.int .i64 0) (.int .i64 0) (.int .i64 0) (.slice none 0 0) (.slice none 0 0) (.slice none 0 0) := by refine ⟨?_, ?_, ?_, ?_, ?_, ?_⟩ <;> go_simp
 have A7 : Six ((((w.alloc (.cells #[.int .i64 16, .int .i64 rd, .int .i64 ct, .int .i64 wr, .int .i64 mn, .slice A vs.length cc] 40)).alloc (.cells #[.int .i64 0, .int .i64 0, .int .i64 0, .slice none 0 0, .slice none 0 0, .slice none 0 0] 54)).alloc (.cells #[.int .i64 c, .int .i64 u, .int .i64 16, .slice none 0 0, .slice A vs.length cc, .slice none 0 0] 54)).alloc (.cells #[.int .i64 (rd), .int .i64 (rd + ct - 1)] 87)) (w.heap.size + 1 + 1) (.int .i64 c) (.int .i64 u) (.int .i64 16) (.slice none 0 0) (.slice A vs.length cc) (.slice none 0 0) := by refine ⟨?_, ?_, ?_, ?_, ?_, ?_⟩ <;> go_simp
 have Z6 : ∀ j, ((((w.alloc (.cells #[.int .i64 16, .int .i64 rd, .int .i64 ct, .int .i64 wr, .int .i64 mn, .slice A vs.length cc] 40)).alloc (.cells #[.int .i64 0, .int .i64 0, .int .i64 0, .slice none 0 0, .slice none 0 0, .slice none 0 0] 54)).alloc (.cells #[.int .i64 c, .int .i64 u, .int .i64 16, .slice none 0 0, .slice A vs.length cc, .slice none 0 0] 54)).alloc (.cells #[.int .i64 (rd), .int .i64 (rd + ct - 1)] 87)).frozen? ⟨w.heap.size + 1, j, none⟩ = false := fun j => by go_simp
 have Z7 : ∀ j, ((((w.alloc (.cells #[.int .i64 16, .int .i64 rd, .int .i64 ct, .int .i64 wr, .int .i64 mn, .slice A vs.length cc] 40)).alloc (.cells #[.int .i64 0, .int .i64 0, .int .i64 0, .slice none 0 0, .slice none 0 0, .slice none 0 0] 54)).alloc (.cells #[.int .i64 c, .int .i64 u, .int .i64 16, .slice none 0 0, .slice A vs.length cc, .slice none 0 0] 54)).alloc (.cells #[.int .i64 (rd), .int .i64 (rd + ct - 1)] 87)).frozen? ⟨w.heap.size + 1 + 1, j, none⟩ = false := fun j => by go_simp
 have K0 : Keep w ((((w.alloc (.cells #[.int .i64 16, .int .i64 rd, .int .i64 ct, .int .i64 wr, .int .i64 mn, .slice A vs.length cc] 40)).alloc (.cells #[.int .i64 0, .int .i64 0, .int .i64 0, .slice none 0 0, .slice none 0 0, .slice none 0 0] 54)).alloc (.cells #[.int .i64 c, .int .i64 u, .int .i64 16, .slice none 0 0, .slice A vs.length cc, .slice none 0 0] 54)).alloc (.cells #[.int .i64 (rd), .int .i64 (rd + ct - 1)] 87)) := (((((Keep.refl w).alloc _).alloc _).alloc _).alloc _)
 have own0 : ((((w.alloc (.cells #[.int .i64 16, .int .i64 rd, .int .i64 ct, .int .i64 wr, .int .i64 mn, .slice A vs.length cc] 40)).alloc (.cells #[.int .i64 0, .int .i64 0, .int .i64 0, .slice none 0 0, .slice none 0 0, .slice none 0 0] 54)).alloc (.cells #[.int .i64 c, .int .i64 u, .int .i64 16, .slice none 0 0, .slice A vs.length cc, .slice none 0 0] 54)).alloc (.cells #[.int .i64 (rd), .int .i64 (rd + ct - 1)] 87)).ownsRow (w.heap.size + 3) 87 2 (.slice none 0 0) 0 (flat encP []) := ⟨rfl, .inl ⟨rfl, rfl⟩⟩
 have hrow1 : Row encP 2 ((((w.alloc (.cells #[.int .i64 16, .int .i64 rd, .int .i64 ct, .int .i64 wr, .int .i64 mn, .slice A vs.length cc] 40)).alloc (.cells #[.int .i64 0, .int .i64 0, .int .i64 0, .slice none 0 0, .slice none 0 0, .slice none 0 0] 54)).alloc (.cells #[.int .i64 c, .int .i64 u, .int .i64 16, .slice none 0 0, .slice A vs.length cc, .slice none 0 0] 54)).alloc (.cells #[.int .i64 (rd), .int .i64 (rd + ct - 1)] 87)) (w.heap.size + 1 + 1 + 1 + 1) (some ⟨w.heap.size + 1 + 1 + 1, 0, none⟩) 1 [(rd, rd + ct - 1)] := by
  have h := Row.new encP_len (((w.alloc (.cells #[.int .i64 16, .int .i64 rd, .int .i64 ct, .int .i64 wr, .int .i64 mn, .slice A vs.length cc] 40)).alloc (.cells #[.int .i64 0, .int .i64 0, .int .i64 0, .slice none 0 0, .slice none 0 0, .slice none 0 0] 54)).alloc (.cells #[.int .i64 c, .int .i64 u, .int .i64 16, .slice none 0 0, .slice A vs.length cc, .slice none 0 0] 54)) 87 [(rd, rd + ct - 1)] #[.int .i64 (rd), .int .i64 (rd + ct - 1)] rfl
  simpa using h
 go_wp2_with (at_builtin; refine append_rows rfl _ _ 52 rfl (w.heap.size + 3) 87 _ 16 Tryz.underlying52 info_range rfl (by omega) encP_len encP_one (.slice none 0 0) 0 [] rfl own0 (by simp) _ _ 1 1 [(rd, rd + ct - 1)] rfl hrow1 (by unfold maxLen; omega) (by omega) ?_)
 intro v1 w1 own1 hb1
 have own1 : w1.ownsRow (w.heap.size + 3) 87 2 v1 1 (flat encP [(rd, rd + ct - 1)]) := by simpa using own1
 obtain ⟨S1, q1, rfl⟩ := own_slice own1
 have B5 := A5.below hb1 (by omega)
 have B6 := A6.below hb1 (by omega)
 have B7 := A7.below hb1 (by omega)
 have Y6 : ∀ j, w1.frozen? ⟨w.heap.size + 1, j, none⟩ = false := fun j => (hb1.frozen (by show w.heap.size + 1 < _; omega)).trans (Z6 j)
 have Y7 : ∀ j, w1.frozen? ⟨w.heap.size + 1 + 1, j, none⟩ = false := fun j => (hb1.frozen (by show w.heap.size + 1 + 1 < _; omega)).trans (Z7 j)
 have K1 : Keep w w1 := Below.trans K0 (hb1.mono (by omega))
 have hs1 : w.heap.size + 4 <= w1.heap.size := by have := hb1.size; simp at this; omega
 clear A5 A6 A7 Z6 Z7 K0 own0 hrow1 hb1
 have OWN := Lib.hid own1
 have KK := Lib.hid K1
 obtain ⟨x0, x1, x2, x3, x4, x5⟩ := B5
 obtain ⟨z0, z1, z2, z3, z4, z5⟩ := B6
 obtain ⟨y0, y1, y2, y3, y4, y5⟩ := B7
 have g3 := Y7 3
 have g5 := Y7 5
 have e0 := Y6 0
 have e1 := Y6 1
 have e2 := Y6 2
 have e3 := Y6 3
 have e4 := Y6 4
 have e5 := Y6 5
 clear own1 K1 Y6 Y7
 go_wp2
 (try simp only [Exit.inBlock, Exit.then])
 refine bodyPost_ret (v := .agg #[.int .i64 c, .int .i64 u, .int .i64 16, .slice S1 1 q1, .slice A vs.length cc, .slice A vs.length cc]) ?_ rfl ?_
 ·rw [results_c rfl]
  go_simp
 ·rw [HOF.out]
  have kp : ∀ V, Below w.heap.size w V -> (∀ p : Addr, w.heap.size + 3 <= p.block -> V.cell? p = w1.cell? p) -> w1.heap.size <= V.heap.size -> RetOfC A cc ⟨c, u, 16, [(rd, rd + ct - 1)], vs, vs⟩ w (.returned (.agg #[.int .i64 c, .int .i64 u, .int .i64 16, .slice S1 1 q1, .slice A vs.length cc, .slice A vs.length cc])) V := fun V hK hc hs =>
   ⟨S1, A, A, q1, cc, cc, rfl, ⟨past OWN.out (by omega) rfl hc hs, hA.kept hK, hA.kept hK⟩, hK, ⟨FreshB.of_own OWN.out (by omega), .inr rfl, .inr rfl⟩, .inr ⟨rfl, by simp⟩⟩
  refine kp _ ?_ (fun p hp => ?_) ?_
  ·have KB : Below w.heap.size w w1 := KK.out
   repeat' (first | with_reducible exact KB | with_reducible refine Below.setCell ?_ ?_ _ | (show w.heap.size <= w.heap.size + 1; omega) | (show w.heap.size <= w.heap.size + 1 + 1; omega))
  ·repeat (rw [World.cell?_of_block (Below.heap_setCell _ _ _ _ (by first | (show p.block ≠ w.heap.size + 1; omega) | (show p.block ≠ w.heap.size + 1 + 1; omega)))])
  ·simp
set_option maxHeartbeats 4000000 in
theorem of_10_23 (c u : Int) (a : AskP) (A : Option Addr) (cc : Nat) (w : World) (hn : a.vs.length <= 1000000) (hf : Fit a) (hA : Ints .i64 w w.heap.size A a.vs.length a.vs) (h1 : 0 < a.ct) (h2 : ¬ 0 < a.mn) (h3 : a.fc = 23) :
  Calls Tryz.prog 23 #[.int .i64 c, .int .i64 u, .agg #[.int .i64 a.fc, .int .i64 a.rd, .int .i64 a.ct, .int .i64 a.wr, .int .i64 a.mn, .slice A a.vs.length cc]] w (RetOfC A cc (of c u a) w) := by
 obtain ⟨fc, rd, ct, wr, mn, vs⟩ := a
 simp only at hn hA h1 h2 h3 ⊢
 subst h3
 unfold Fit at hf
 simp only at hf
 obtain ⟨f1, f2, f3, f4, f5, f6⟩ := hf
 have HOF := Lib.hid (show of c u ⟨23, rd, ct, wr, mn, vs⟩ = ⟨c, u, 23, [(rd, rd + ct - 1)] ++ [], vs, vs⟩ by
  unfold of reads writes regs
  simp only
  rw [if_pos h1, if_neg h2, if_pos (by decide)])
 have d1 : decide (ct > 0) = true := by simpa using h1
 have d2 : decide (mn > 0) = false := by simpa using h2
 have s1 : IntKind.i64.wrap (rd + ct) = rd + ct := by rw [IntKind.wrap_i64]; omega
 have s2 : IntKind.i64.wrap (rd + ct - 1) = rd + ct - 1 := by rw [IntKind.wrap_i64]; omega
 clear h1 h2
 go_enter Tryz.func23, Tryz.ntmps23
 have A5 : Six ((((w.alloc (.cells #[.int .i64 23, .int .i64 rd, .int .i64 ct, .int .i64 wr, .int .i64 mn, .slice A vs.length cc] 40)).alloc (.cells #[.int .i64 0, .int .i64 0, .int .i64 0, .slice none 0 0, .slice none 0 0, .slice none 0 0] 54)).alloc (.cells #[.int .i64 c, .int .i64 u, .int .i64 23, .slice none 0 0, .slice A vs.length cc, .slice none 0 0] 54)).alloc (.cells #[.int .i64 (rd), .int .i64 (rd + ct - 1)] 87)) w.heap.size (.int .i64 23) (.int .i64 rd) (.int .i64 ct) (.int .i64 wr) (.int .i64 mn) (.slice A vs.length cc) := by refine ⟨?_, ?_, ?_, ?_, ?_, ?_⟩ <;> go_simp
 have A6 : Six ((((w.alloc (.cells #[.int .i64 23, .int .i64 rd, .int .i64 ct, .int .i64 wr, .int .i64 mn, .slice A vs.length cc] 40)).alloc (.cells #[.int .i64 0, .int .i64 0, .int .i64 0, .slice none 0 0, .slice none 0 0, .slice none 0 0] 54)).alloc (.cells #[.int .i64 c, .int .i64 u, .int .i64 23, .slice none 0 0, .slice A vs.length cc, .slice none 0 0] 54)).alloc (.cells #[.int .i64 (rd), .int .i64 (rd + ct - 1)] 87)) (w.heap.size + 1) (.int .i64 0) (.int .i64 0) (.int .i64 0) (.slice none 0 0) (.slice none 0 0) (.slice none 0 0) := by refine ⟨?_, ?_, ?_, ?_, ?_, ?_⟩ <;> go_simp
 have A7 : Six ((((w.alloc (.cells #[.int .i64 23, .int .i64 rd, .int .i64 ct, .int .i64 wr, .int .i64 mn, .slice A vs.length cc] 40)).alloc (.cells #[.int .i64 0, .int .i64 0, .int .i64 0, .slice none 0 0, .slice none 0 0, .slice none 0 0] 54)).alloc (.cells #[.int .i64 c, .int .i64 u, .int .i64 23, .slice none 0 0, .slice A vs.length cc, .slice none 0 0] 54)).alloc (.cells #[.int .i64 (rd), .int .i64 (rd + ct - 1)] 87)) (w.heap.size + 1 + 1) (.int .i64 c) (.int .i64 u) (.int .i64 23) (.slice none 0 0) (.slice A vs.length cc) (.slice none 0 0) := by refine ⟨?_, ?_, ?_, ?_, ?_, ?_⟩ <;> go_simp
 have Z6 : ∀ j, ((((w.alloc (.cells #[.int .i64 23, .int .i64 rd, .int .i64 ct, .int .i64 wr, .int .i64 mn, .slice A vs.length cc] 40)).alloc (.cells #[.int .i64 0, .int .i64 0, .int .i64 0, .slice none 0 0, .slice none 0 0, .slice none 0 0] 54)).alloc (.cells #[.int .i64 c, .int .i64 u, .int .i64 23, .slice none 0 0, .slice A vs.length cc, .slice none 0 0] 54)).alloc (.cells #[.int .i64 (rd), .int .i64 (rd + ct - 1)] 87)).frozen? ⟨w.heap.size + 1, j, none⟩ = false := fun j => by go_simp
 have Z7 : ∀ j, ((((w.alloc (.cells #[.int .i64 23, .int .i64 rd, .int .i64 ct, .int .i64 wr, .int .i64 mn, .slice A vs.length cc] 40)).alloc (.cells #[.int .i64 0, .int .i64 0, .int .i64 0, .slice none 0 0, .slice none 0 0, .slice none 0 0] 54)).alloc (.cells #[.int .i64 c, .int .i64 u, .int .i64 23, .slice none 0 0, .slice A vs.length cc, .slice none 0 0] 54)).alloc (.cells #[.int .i64 (rd), .int .i64 (rd + ct - 1)] 87)).frozen? ⟨w.heap.size + 1 + 1, j, none⟩ = false := fun j => by go_simp
 have K0 : Keep w ((((w.alloc (.cells #[.int .i64 23, .int .i64 rd, .int .i64 ct, .int .i64 wr, .int .i64 mn, .slice A vs.length cc] 40)).alloc (.cells #[.int .i64 0, .int .i64 0, .int .i64 0, .slice none 0 0, .slice none 0 0, .slice none 0 0] 54)).alloc (.cells #[.int .i64 c, .int .i64 u, .int .i64 23, .slice none 0 0, .slice A vs.length cc, .slice none 0 0] 54)).alloc (.cells #[.int .i64 (rd), .int .i64 (rd + ct - 1)] 87)) := (((((Keep.refl w).alloc _).alloc _).alloc _).alloc _)
 have own0 : ((((w.alloc (.cells #[.int .i64 23, .int .i64 rd, .int .i64 ct, .int .i64 wr, .int .i64 mn, .slice A vs.length cc] 40)).alloc (.cells #[.int .i64 0, .int .i64 0, .int .i64 0, .slice none 0 0, .slice none 0 0, .slice none 0 0] 54)).alloc (.cells #[.int .i64 c, .int .i64 u, .int .i64 23, .slice none 0 0, .slice A vs.length cc, .slice none 0 0] 54)).alloc (.cells #[.int .i64 (rd), .int .i64 (rd + ct - 1)] 87)).ownsRow (w.heap.size + 3) 87 2 (.slice none 0 0) 0 (flat encP []) := ⟨rfl, .inl ⟨rfl, rfl⟩⟩
 have hrow1 : Row encP 2 ((((w.alloc (.cells #[.int .i64 23, .int .i64 rd, .int .i64 ct, .int .i64 wr, .int .i64 mn, .slice A vs.length cc] 40)).alloc (.cells #[.int .i64 0, .int .i64 0, .int .i64 0, .slice none 0 0, .slice none 0 0, .slice none 0 0] 54)).alloc (.cells #[.int .i64 c, .int .i64 u, .int .i64 23, .slice none 0 0, .slice A vs.length cc, .slice none 0 0] 54)).alloc (.cells #[.int .i64 (rd), .int .i64 (rd + ct - 1)] 87)) (w.heap.size + 1 + 1 + 1 + 1) (some ⟨w.heap.size + 1 + 1 + 1, 0, none⟩) 1 [(rd, rd + ct - 1)] := by
  have h := Row.new encP_len (((w.alloc (.cells #[.int .i64 23, .int .i64 rd, .int .i64 ct, .int .i64 wr, .int .i64 mn, .slice A vs.length cc] 40)).alloc (.cells #[.int .i64 0, .int .i64 0, .int .i64 0, .slice none 0 0, .slice none 0 0, .slice none 0 0] 54)).alloc (.cells #[.int .i64 c, .int .i64 u, .int .i64 23, .slice none 0 0, .slice A vs.length cc, .slice none 0 0] 54)) 87 [(rd, rd + ct - 1)] #[.int .i64 (rd), .int .i64 (rd + ct - 1)] rfl
  simpa using h
 go_wp2_with (at_builtin; refine append_rows rfl _ _ 52 rfl (w.heap.size + 3) 87 _ 16 Tryz.underlying52 info_range rfl (by omega) encP_len encP_one (.slice none 0 0) 0 [] rfl own0 (by simp) _ _ 1 1 [(rd, rd + ct - 1)] rfl hrow1 (by unfold maxLen; omega) (by omega) ?_)
 intro v1 w1 own1 hb1
 have own1 : w1.ownsRow (w.heap.size + 3) 87 2 v1 1 (flat encP [(rd, rd + ct - 1)]) := by simpa using own1
 obtain ⟨S1, q1, rfl⟩ := own_slice own1
 have B5 := A5.below hb1 (by omega)
 have B6 := A6.below hb1 (by omega)
 have B7 := A7.below hb1 (by omega)
 have Y6 : ∀ j, w1.frozen? ⟨w.heap.size + 1, j, none⟩ = false := fun j => (hb1.frozen (by show w.heap.size + 1 < _; omega)).trans (Z6 j)
 have Y7 : ∀ j, w1.frozen? ⟨w.heap.size + 1 + 1, j, none⟩ = false := fun j => (hb1.frozen (by show w.heap.size + 1 + 1 < _; omega)).trans (Z7 j)
 have K1 : Keep w w1 := Below.trans K0 (hb1.mono (by omega))
 have hs1 : w.heap.size + 4 <= w1.heap.size := by have := hb1.size; simp at this; omega
 clear A5 A6 A7 Z6 Z7 K0 own0 hrow1 hb1
 have OWN := Lib.hid own1
 have KK := Lib.hid K1
 obtain ⟨x0, x1, x2, x3, x4, x5⟩ := B5
 obtain ⟨z0, z1, z2, z3, z4, z5⟩ := B6
 obtain ⟨y0, y1, y2, y3, y4, y5⟩ := B7
 have g3 := Y7 3
 have g5 := Y7 5
 have e0 := Y6 0
 have e1 := Y6 1
 have e2 := Y6 2
 have e3 := Y6 3
 have e4 := Y6 4
 have e5 := Y6 5
 clear own1 K1 Y6 Y7
 go_wp2
 (try simp only [Exit.inBlock, Exit.then])
 refine bodyPost_ret (v := .agg #[.int .i64 c, .int .i64 u, .int .i64 23, .slice S1 1 q1, .slice A vs.length cc, .slice A vs.length cc]) ?_ rfl ?_
 ·rw [results_c rfl]
  go_simp
 ·rw [HOF.out]
  have kp : ∀ V, Below w.heap.size w V -> (∀ p : Addr, w.heap.size + 3 <= p.block -> V.cell? p = w1.cell? p) -> w1.heap.size <= V.heap.size -> RetOfC A cc ⟨c, u, 23, [(rd, rd + ct - 1)], vs, vs⟩ w (.returned (.agg #[.int .i64 c, .int .i64 u, .int .i64 23, .slice S1 1 q1, .slice A vs.length cc, .slice A vs.length cc])) V := fun V hK hc hs =>
   ⟨S1, A, A, q1, cc, cc, rfl, ⟨past OWN.out (by omega) rfl hc hs, hA.kept hK, hA.kept hK⟩, hK, ⟨FreshB.of_own OWN.out (by omega), .inr rfl, .inr rfl⟩, .inr ⟨rfl, by simp⟩⟩
  refine kp _ ?_ (fun p hp => ?_) ?_
  ·have KB : Below w.heap.size w w1 := KK.out
   repeat' (first | with_reducible exact KB | with_reducible refine Below.setCell ?_ ?_ _ | (show w.heap.size <= w.heap.size + 1; omega) | (show w.heap.size <= w.heap.size + 1 + 1; omega))
  ·repeat (rw [World.cell?_of_block (Below.heap_setCell _ _ _ _ (by first | (show p.block ≠ w.heap.size + 1; omega) | (show p.block ≠ w.heap.size + 1 + 1; omega)))])
  ·simp
set_option maxHeartbeats 4000000 in
theorem of_10_0 (c u : Int) (a : AskP) (A : Option Addr) (cc : Nat) (w : World) (hn : a.vs.length <= 1000000) (hf : Fit a) (hA : Ints .i64 w w.heap.size A a.vs.length a.vs) (h1 : 0 < a.ct) (h2 : ¬ 0 < a.mn) (h3 : ¬ (a.fc = 6 ∨ a.fc = 16 ∨ a.fc = 23)) :
  Calls Tryz.prog 23 #[.int .i64 c, .int .i64 u, .agg #[.int .i64 a.fc, .int .i64 a.rd, .int .i64 a.ct, .int .i64 a.wr, .int .i64 a.mn, .slice A a.vs.length cc]] w (RetOfC A cc (of c u a) w) := by
 obtain ⟨fc, rd, ct, wr, mn, vs⟩ := a
 simp only at hn hA h1 h2 h3 ⊢
 unfold Fit at hf
 simp only at hf
 obtain ⟨f1, f2, f3, f4, f5, f6⟩ := hf
 have HOF := Lib.hid (show of c u ⟨fc, rd, ct, wr, mn, vs⟩ = ⟨c, u, fc, [(rd, rd + ct - 1)] ++ [], vs, []⟩ by
  unfold of reads writes regs
  simp only
  rw [if_pos h1, if_neg h2, if_neg h3])
 have d1 : decide (ct > 0) = true := by simpa using h1
 have d2 : decide (mn > 0) = false := by simpa using h2
 have s1 : IntKind.i64.wrap (rd + ct) = rd + ct := by rw [IntKind.wrap_i64]; omega
 have s2 : IntKind.i64.wrap (rd + ct - 1) = rd + ct - 1 := by rw [IntKind.wrap_i64]; omega
 have d3 : (fc == 6) = false := by simp; omega
 have d4 : (fc == 16) = false := by simp; omega
 have d5 : (fc == 23) = false := by simp; omega
 clear h3 h1 h2
 go_enter Tryz.func23, Tryz.ntmps23
 have A5 : Six ((((w.alloc (.cells #[.int .i64 fc, .int .i64 rd, .int .i64 ct, .int .i64 wr, .int .i64 mn, .slice A vs.length cc] 40)).alloc (.cells #[.int .i64 0, .int .i64 0, .int .i64 0, .slice none 0 0, .slice none 0 0, .slice none 0 0] 54)).alloc (.cells #[.int .i64 c, .int .i64 u, .int .i64 fc, .slice none 0 0, .slice A vs.length cc, .slice none 0 0] 54)).alloc (.cells #[.int .i64 (rd), .int .i64 (rd + ct - 1)] 87)) w.heap.size (.int .i64 fc) (.int .i64 rd) (.int .i64 ct) (.int .i64 wr) (.int .i64 mn) (.slice A vs.length cc) := by refine ⟨?_, ?_, ?_, ?_, ?_, ?_⟩ <;> go_simp
 have A6 : Six ((((w.alloc (.cells #[.int .i64 fc, .int .i64 rd, .int .i64 ct, .int .i64 wr, .int .i64 mn, .slice A vs.length cc] 40)).alloc (.cells #[.int .i64 0, .int .i64 0, .int .i64 0, .slice none 0 0, .slice none 0 0, .slice none 0 0] 54)).alloc (.cells #[.int .i64 c, .int .i64 u, .int .i64 fc, .slice none 0 0, .slice A vs.length cc, .slice none 0 0] 54)).alloc (.cells #[.int .i64 (rd), .int .i64 (rd + ct - 1)] 87)) (w.heap.size + 1) (.int .i64 0) (.int .i64 0) (.int .i64 0) (.slice none 0 0) (.slice none 0 0) (.slice none 0 0) := by refine ⟨?_, ?_, ?_, ?_, ?_, ?_⟩ <;> go_simp
 have A7 : Six ((((w.alloc (.cells #[.int .i64 fc, .int .i64 rd, .int .i64 ct, .int .i64 wr, .int .i64 mn, .slice A vs.length cc] 40)).alloc (.cells #[.int .i64 0, .int .i64 0, .int .i64 0, .slice none 0 0, .slice none 0 0, .slice none 0 0] 54)).alloc (.cells #[.int .i64 c, .int .i64 u, .int .i64 fc, .slice none 0 0, .slice A vs.length cc, .slice none 0 0] 54)).alloc (.cells #[.int .i64 (rd), .int .i64 (rd + ct - 1)] 87)) (w.heap.size + 1 + 1) (.int .i64 c) (.int .i64 u) (.int .i64 fc) (.slice none 0 0) (.slice A vs.length cc) (.slice none 0 0) := by refine ⟨?_, ?_, ?_, ?_, ?_, ?_⟩ <;> go_simp
 have Z6 : ∀ j, ((((w.alloc (.cells #[.int .i64 fc, .int .i64 rd, .int .i64 ct, .int .i64 wr, .int .i64 mn, .slice A vs.length cc] 40)).alloc (.cells #[.int .i64 0, .int .i64 0, .int .i64 0, .slice none 0 0, .slice none 0 0, .slice none 0 0] 54)).alloc (.cells #[.int .i64 c, .int .i64 u, .int .i64 fc, .slice none 0 0, .slice A vs.length cc, .slice none 0 0] 54)).alloc (.cells #[.int .i64 (rd), .int .i64 (rd + ct - 1)] 87)).frozen? ⟨w.heap.size + 1, j, none⟩ = false := fun j => by go_simp
 have Z7 : ∀ j, ((((w.alloc (.cells #[.int .i64 fc, .int .i64 rd, .int .i64 ct, .int .i64 wr, .int .i64 mn, .slice A vs.length cc] 40)).alloc (.cells #[.int .i64 0, .int .i64 0, .int .i64 0, .slice none 0 0, .slice none 0 0, .slice none 0 0] 54)).alloc (.cells #[.int .i64 c, .int .i64 u, .int .i64 fc, .slice none 0 0, .slice A vs.length cc, .slice none 0 0] 54)).alloc (.cells #[.int .i64 (rd), .int .i64 (rd + ct - 1)] 87)).frozen? ⟨w.heap.size + 1 + 1, j, none⟩ = false := fun j => by go_simp
 have K0 : Keep w ((((w.alloc (.cells #[.int .i64 fc, .int .i64 rd, .int .i64 ct, .int .i64 wr, .int .i64 mn, .slice A vs.length cc] 40)).alloc (.cells #[.int .i64 0, .int .i64 0, .int .i64 0, .slice none 0 0, .slice none 0 0, .slice none 0 0] 54)).alloc (.cells #[.int .i64 c, .int .i64 u, .int .i64 fc, .slice none 0 0, .slice A vs.length cc, .slice none 0 0] 54)).alloc (.cells #[.int .i64 (rd), .int .i64 (rd + ct - 1)] 87)) := (((((Keep.refl w).alloc _).alloc _).alloc _).alloc _)
 have own0 : ((((w.alloc (.cells #[.int .i64 fc, .int .i64 rd, .int .i64 ct, .int .i64 wr, .int .i64 mn, .slice A vs.length cc] 40)).alloc (.cells #[.int .i64 0, .int .i64 0, .int .i64 0, .slice none 0 0, .slice none 0 0, .slice none 0 0] 54)).alloc (.cells #[.int .i64 c, .int .i64 u, .int .i64 fc, .slice none 0 0, .slice A vs.length cc, .slice none 0 0] 54)).alloc (.cells #[.int .i64 (rd), .int .i64 (rd + ct - 1)] 87)).ownsRow (w.heap.size + 3) 87 2 (.slice none 0 0) 0 (flat encP []) := ⟨rfl, .inl ⟨rfl, rfl⟩⟩
 have hrow1 : Row encP 2 ((((w.alloc (.cells #[.int .i64 fc, .int .i64 rd, .int .i64 ct, .int .i64 wr, .int .i64 mn, .slice A vs.length cc] 40)).alloc (.cells #[.int .i64 0, .int .i64 0, .int .i64 0, .slice none 0 0, .slice none 0 0, .slice none 0 0] 54)).alloc (.cells #[.int .i64 c, .int .i64 u, .int .i64 fc, .slice none 0 0, .slice A vs.length cc, .slice none 0 0] 54)).alloc (.cells #[.int .i64 (rd), .int .i64 (rd + ct - 1)] 87)) (w.heap.size + 1 + 1 + 1 + 1) (some ⟨w.heap.size + 1 + 1 + 1, 0, none⟩) 1 [(rd, rd + ct - 1)] := by
  have h := Row.new encP_len (((w.alloc (.cells #[.int .i64 fc, .int .i64 rd, .int .i64 ct, .int .i64 wr, .int .i64 mn, .slice A vs.length cc] 40)).alloc (.cells #[.int .i64 0, .int .i64 0, .int .i64 0, .slice none 0 0, .slice none 0 0, .slice none 0 0] 54)).alloc (.cells #[.int .i64 c, .int .i64 u, .int .i64 fc, .slice none 0 0, .slice A vs.length cc, .slice none 0 0] 54)) 87 [(rd, rd + ct - 1)] #[.int .i64 (rd), .int .i64 (rd + ct - 1)] rfl
  simpa using h
 go_wp2_with (at_builtin; refine append_rows rfl _ _ 52 rfl (w.heap.size + 3) 87 _ 16 Tryz.underlying52 info_range rfl (by omega) encP_len encP_one (.slice none 0 0) 0 [] rfl own0 (by simp) _ _ 1 1 [(rd, rd + ct - 1)] rfl hrow1 (by unfold maxLen; omega) (by omega) ?_)
 intro v1 w1 own1 hb1
 have own1 : w1.ownsRow (w.heap.size + 3) 87 2 v1 1 (flat encP [(rd, rd + ct - 1)]) := by simpa using own1
 obtain ⟨S1, q1, rfl⟩ := own_slice own1
 have B5 := A5.below hb1 (by omega)
 have B6 := A6.below hb1 (by omega)
 have B7 := A7.below hb1 (by omega)
 have Y6 : ∀ j, w1.frozen? ⟨w.heap.size + 1, j, none⟩ = false := fun j => (hb1.frozen (by show w.heap.size + 1 < _; omega)).trans (Z6 j)
 have Y7 : ∀ j, w1.frozen? ⟨w.heap.size + 1 + 1, j, none⟩ = false := fun j => (hb1.frozen (by show w.heap.size + 1 + 1 < _; omega)).trans (Z7 j)
 have K1 : Keep w w1 := Below.trans K0 (hb1.mono (by omega))
 have hs1 : w.heap.size + 4 <= w1.heap.size := by have := hb1.size; simp at this; omega
 clear A5 A6 A7 Z6 Z7 K0 own0 hrow1 hb1
 have OWN := Lib.hid own1
 have KK := Lib.hid K1
 obtain ⟨x0, x1, x2, x3, x4, x5⟩ := B5
 obtain ⟨z0, z1, z2, z3, z4, z5⟩ := B6
 obtain ⟨y0, y1, y2, y3, y4, y5⟩ := B7
 have g3 := Y7 3
 have g5 := Y7 5
 have e0 := Y6 0
 have e1 := Y6 1
 have e2 := Y6 2
 have e3 := Y6 3
 have e4 := Y6 4
 have e5 := Y6 5
 clear own1 K1 Y6 Y7
 go_wp2
 (try simp only [Exit.inBlock, Exit.then])
 refine bodyPost_ret (v := .agg #[.int .i64 c, .int .i64 u, .int .i64 fc, .slice S1 1 q1, .slice A vs.length cc, .slice none 0 0]) ?_ rfl ?_
 ·rw [results_c rfl]
  go_simp
 ·rw [HOF.out]
  have kp : ∀ V, Below w.heap.size w V -> (∀ p : Addr, w.heap.size + 3 <= p.block -> V.cell? p = w1.cell? p) -> w1.heap.size <= V.heap.size -> RetOfC A cc ⟨c, u, fc, [(rd, rd + ct - 1)], vs, []⟩ w (.returned (.agg #[.int .i64 c, .int .i64 u, .int .i64 fc, .slice S1 1 q1, .slice A vs.length cc, .slice none 0 0])) V := fun V hK hc hs =>
   ⟨S1, A, none, q1, cc, 0, rfl, ⟨past OWN.out (by omega) rfl hc hs, hA.kept hK, Ints.none_ _ _ _ _⟩, hK, ⟨FreshB.of_own OWN.out (by omega), .inr rfl, .inl (FreshB.zero _ _)⟩, .inl ⟨rfl, rfl⟩⟩
  refine kp _ ?_ (fun p hp => ?_) ?_
  ·have KB : Below w.heap.size w w1 := KK.out
   repeat' (first | with_reducible exact KB | with_reducible refine Below.setCell ?_ ?_ _ | (show w.heap.size <= w.heap.size + 1; omega) | (show w.heap.size <= w.heap.size + 1 + 1; omega))
  ·repeat (rw [World.cell?_of_block (Below.heap_setCell _ _ _ _ (by first | (show p.block ≠ w.heap.size + 1; omega) | (show p.block ≠ w.heap.size + 1 + 1; omega)))])
  ·simp
set_option maxHeartbeats 4000000 in
theorem of_01_6 (c u : Int) (a : AskP) (A : Option Addr) (cc : Nat) (w : World) (hn : a.vs.length <= 1000000) (hf : Fit a) (hA : Ints .i64 w w.heap.size A a.vs.length a.vs) (h1 : ¬ 0 < a.ct) (h2 : 0 < a.mn) (h3 : a.fc = 6) :
  Calls Tryz.prog 23 #[.int .i64 c, .int .i64 u, .agg #[.int .i64 a.fc, .int .i64 a.rd, .int .i64 a.ct, .int .i64 a.wr, .int .i64 a.mn, .slice A a.vs.length cc]] w (RetOfC A cc (of c u a) w) := by
 obtain ⟨fc, rd, ct, wr, mn, vs⟩ := a
 simp only at hn hA h1 h2 h3 ⊢
 subst h3
 unfold Fit at hf
 simp only at hf
 obtain ⟨f1, f2, f3, f4, f5, f6⟩ := hf
 have HOF := Lib.hid (show of c u ⟨6, rd, ct, wr, mn, vs⟩ = ⟨c, u, 6, [] ++ [(wr, wr + mn - 1)], vs, vs⟩ by
  unfold of reads writes regs
  simp only
  rw [if_neg h1, if_pos h2, if_pos (by decide)])
 have d1 : decide (ct > 0) = false := by simpa using h1
 have d2 : decide (mn > 0) = true := by simpa using h2
 have s3 : IntKind.i64.wrap (wr + mn) = wr + mn := by rw [IntKind.wrap_i64]; omega
 have s4 : IntKind.i64.wrap (wr + mn - 1) = wr + mn - 1 := by rw [IntKind.wrap_i64]; omega
 clear h1 h2
 go_enter Tryz.func23, Tryz.ntmps23
 have A5 : Six ((((w.alloc (.cells #[.int .i64 6, .int .i64 rd, .int .i64 ct, .int .i64 wr, .int .i64 mn, .slice A vs.length cc] 40)).alloc (.cells #[.int .i64 0, .int .i64 0, .int .i64 0, .slice none 0 0, .slice none 0 0, .slice none 0 0] 54)).alloc (.cells #[.int .i64 c, .int .i64 u, .int .i64 6, .slice none 0 0, .slice A vs.length cc, .slice none 0 0] 54)).alloc (.cells #[.int .i64 (wr), .int .i64 (wr + mn - 1)] 87)) w.heap.size (.int .i64 6) (.int .i64 rd) (.int .i64 ct) (.int .i64 wr) (.int .i64 mn) (.slice A vs.length cc) := by refine ⟨?_, ?_, ?_, ?_, ?_, ?_⟩ <;> go_simp
 have A6 : Six ((((w.alloc (.cells #[.int .i64 6, .int .i64 rd, .int .i64 ct, .int .i64 wr, .int .i64 mn, .slice A vs.length cc] 40)).alloc (.cells #[.int .i64 0, .int .i64 0, .int .i64 0, .slice none 0 0, .slice none 0 0, .slice none 0 0] 54)).alloc (.cells #[.int .i64 c, .int .i64 u, .int .i64 6, .slice none 0 0, .slice A vs.length cc, .slice none 0 0] 54)).alloc (.cells #[.int .i64 (wr), .int .i64 (wr + mn - 1)] 87)) (w.heap.size + 1) (.int .i64 0) (.int .i64 0) (.int .i64 0) (.slice none 0 0) (.slice none 0 0) (.slice none 0 0) := by refine ⟨?_, ?_, ?_, ?_, ?_, ?_⟩ <;> go_simp
 have A7 : Six ((((w.alloc (.cells #[.int .i64 6, .int .i64 rd, .int .i64 ct, .int .i64 wr, .int .i64 mn, .slice A vs.length cc] 40)).alloc (.cells #[.int .i64 0, .int .i64 0, .int .i64 0, .slice none 0 0, .slice none 0 0, .slice none 0 0] 54)).alloc (.cells #[.int .i64 c, .int .i64 u, .int .i64 6, .slice none 0 0, .slice A vs.length cc, .slice none 0 0] 54)).alloc (.cells #[.int .i64 (wr), .int .i64 (wr + mn - 1)] 87)) (w.heap.size + 1 + 1) (.int .i64 c) (.int .i64 u) (.int .i64 6) (.slice none 0 0) (.slice A vs.length cc) (.slice none 0 0) := by refine ⟨?_, ?_, ?_, ?_, ?_, ?_⟩ <;> go_simp
 have Z6 : ∀ j, ((((w.alloc (.cells #[.int .i64 6, .int .i64 rd, .int .i64 ct, .int .i64 wr, .int .i64 mn, .slice A vs.length cc] 40)).alloc (.cells #[.int .i64 0, .int .i64 0, .int .i64 0, .slice none 0 0, .slice none 0 0, .slice none 0 0] 54)).alloc (.cells #[.int .i64 c, .int .i64 u, .int .i64 6, .slice none 0 0, .slice A vs.length cc, .slice none 0 0] 54)).alloc (.cells #[.int .i64 (wr), .int .i64 (wr + mn - 1)] 87)).frozen? ⟨w.heap.size + 1, j, none⟩ = false := fun j => by go_simp
 have Z7 : ∀ j, ((((w.alloc (.cells #[.int .i64 6, .int .i64 rd, .int .i64 ct, .int .i64 wr, .int .i64 mn, .slice A vs.length cc] 40)).alloc (.cells #[.int .i64 0, .int .i64 0, .int .i64 0, .slice none 0 0, .slice none 0 0, .slice none 0 0] 54)).alloc (.cells #[.int .i64 c, .int .i64 u, .int .i64 6, .slice none 0 0, .slice A vs.length cc, .slice none 0 0] 54)).alloc (.cells #[.int .i64 (wr), .int .i64 (wr + mn - 1)] 87)).frozen? ⟨w.heap.size + 1 + 1, j, none⟩ = false := fun j => by go_simp
 have K0 : Keep w ((((w.alloc (.cells #[.int .i64 6, .int .i64 rd, .int .i64 ct, .int .i64 wr, .int .i64 mn, .slice A vs.length cc] 40)).alloc (.cells #[.int .i64 0, .int .i64 0, .int .i64 0, .slice none 0 0, .slice none 0 0, .slice none 0 0] 54)).alloc (.cells #[.int .i64 c, .int .i64 u, .int .i64 6, .slice none 0 0, .slice A vs.length cc, .slice none 0 0] 54)).alloc (.cells #[.int .i64 (wr), .int .i64 (wr + mn - 1)] 87)) := (((((Keep.refl w).alloc _).alloc _).alloc _).alloc _)
 have own0 : ((((w.alloc (.cells #[.int .i64 6, .int .i64 rd, .int .i64 ct, .int .i64 wr, .int .i64 mn, .slice A vs.length cc] 40)).alloc (.cells #[.int .i64 0, .int .i64 0, .int .i64 0, .slice none 0 0, .slice none 0 0, .slice none 0 0] 54)).alloc (.cells #[.int .i64 c, .int .i64 u, .int .i64 6, .slice none 0 0, .slice A vs.length cc, .slice none 0 0] 54)).alloc (.cells #[.int .i64 (wr), .int .i64 (wr + mn - 1)] 87)).ownsRow (w.heap.size + 3) 87 2 (.slice none 0 0) 0 (flat encP []) := ⟨rfl, .inl ⟨rfl, rfl⟩⟩
 have hrow1 : Row encP 2 ((((w.alloc (.cells #[.int .i64 6, .int .i64 rd, .int .i64 ct, .int .i64 wr, .int .i64 mn, .slice A vs.length cc] 40)).alloc (.cells #[.int .i64 0, .int .i64 0, .int .i64 0, .slice none 0 0, .slice none 0 0, .slice none 0 0] 54)).alloc (.cells #[.int .i64 c, .int .i64 u, .int .i64 6, .slice none 0 0, .slice A vs.length cc, .slice none 0 0] 54)).alloc (.cells #[.int .i64 (wr), .int .i64 (wr + mn - 1)] 87)) (w.heap.size + 1 + 1 + 1 + 1) (some ⟨w.heap.size + 1 + 1 + 1, 0, none⟩) 1 [(wr, wr + mn - 1)] := by
  have h := Row.new encP_len (((w.alloc (.cells #[.int .i64 6, .int .i64 rd, .int .i64 ct, .int .i64 wr, .int .i64 mn, .slice A vs.length cc] 40)).alloc (.cells #[.int .i64 0, .int .i64 0, .int .i64 0, .slice none 0 0, .slice none 0 0, .slice none 0 0] 54)).alloc (.cells #[.int .i64 c, .int .i64 u, .int .i64 6, .slice none 0 0, .slice A vs.length cc, .slice none 0 0] 54)) 87 [(wr, wr + mn - 1)] #[.int .i64 (wr), .int .i64 (wr + mn - 1)] rfl
  simpa using h
 go_wp2_with (at_builtin; refine append_rows rfl _ _ 52 rfl (w.heap.size + 3) 87 _ 16 Tryz.underlying52 info_range rfl (by omega) encP_len encP_one (.slice none 0 0) 0 [] rfl own0 (by simp) _ _ 1 1 [(wr, wr + mn - 1)] rfl hrow1 (by unfold maxLen; omega) (by omega) ?_)
 intro v1 w1 own1 hb1
 have own1 : w1.ownsRow (w.heap.size + 3) 87 2 v1 1 (flat encP [(wr, wr + mn - 1)]) := by simpa using own1
 obtain ⟨S1, q1, rfl⟩ := own_slice own1
 have B5 := A5.below hb1 (by omega)
 have B6 := A6.below hb1 (by omega)
 have B7 := A7.below hb1 (by omega)
 have Y6 : ∀ j, w1.frozen? ⟨w.heap.size + 1, j, none⟩ = false := fun j => (hb1.frozen (by show w.heap.size + 1 < _; omega)).trans (Z6 j)
 have Y7 : ∀ j, w1.frozen? ⟨w.heap.size + 1 + 1, j, none⟩ = false := fun j => (hb1.frozen (by show w.heap.size + 1 + 1 < _; omega)).trans (Z7 j)
 have K1 : Keep w w1 := Below.trans K0 (hb1.mono (by omega))
 have hs1 : w.heap.size + 4 <= w1.heap.size := by have := hb1.size; simp at this; omega
 clear A5 A6 A7 Z6 Z7 K0 own0 hrow1 hb1
 have OWN := Lib.hid own1
 have KK := Lib.hid K1
 obtain ⟨x0, x1, x2, x3, x4, x5⟩ := B5
 obtain ⟨z0, z1, z2, z3, z4, z5⟩ := B6
 obtain ⟨y0, y1, y2, y3, y4, y5⟩ := B7
 have g3 := Y7 3
 have g5 := Y7 5
 have e0 := Y6 0
 have e1 := Y6 1
 have e2 := Y6 2
 have e3 := Y6 3
 have e4 := Y6 4
 have e5 := Y6 5
 clear own1 K1 Y6 Y7
 go_wp2
 (try simp only [Exit.inBlock, Exit.then])
 refine bodyPost_ret (v := .agg #[.int .i64 c, .int .i64 u, .int .i64 6, .slice S1 1 q1, .slice A vs.length cc, .slice A vs.length cc]) ?_ rfl ?_
 ·rw [results_c rfl]
  go_simp
 ·rw [HOF.out]
  have kp : ∀ V, Below w.heap.size w V -> (∀ p : Addr, w.heap.size + 3 <= p.block -> V.cell? p = w1.cell? p) -> w1.heap.size <= V.heap.size -> RetOfC A cc ⟨c, u, 6, [(wr, wr + mn - 1)], vs, vs⟩ w (.returned (.agg #[.int .i64 c, .int .i64 u, .int .i64 6, .slice S1 1 q1, .slice A vs.length cc, .slice A vs.length cc])) V := fun V hK hc hs =>
   ⟨S1, A, A, q1, cc, cc, rfl, ⟨past OWN.out (by omega) rfl hc hs, hA.kept hK, hA.kept hK⟩, hK, ⟨FreshB.of_own OWN.out (by omega), .inr rfl, .inr rfl⟩, .inr ⟨rfl, by simp⟩⟩
  refine kp _ ?_ (fun p hp => ?_) ?_
  ·have KB : Below w.heap.size w w1 := KK.out
   repeat' (first | with_reducible exact KB | with_reducible refine Below.setCell ?_ ?_ _ | (show w.heap.size <= w.heap.size + 1; omega) | (show w.heap.size <= w.heap.size + 1 + 1; omega))
  ·repeat (rw [World.cell?_of_block (Below.heap_setCell _ _ _ _ (by first | (show p.block ≠ w.heap.size + 1; omega) | (show p.block ≠ w.heap.size + 1 + 1; omega)))])
  ·simp
set_option maxHeartbeats 4000000 in
theorem of_01_16 (c u : Int) (a : AskP) (A : Option Addr) (cc : Nat) (w : World) (hn : a.vs.length <= 1000000) (hf : Fit a) (hA : Ints .i64 w w.heap.size A a.vs.length a.vs) (h1 : ¬ 0 < a.ct) (h2 : 0 < a.mn) (h3 : a.fc = 16) :
  Calls Tryz.prog 23 #[.int .i64 c, .int .i64 u, .agg #[.int .i64 a.fc, .int .i64 a.rd, .int .i64 a.ct, .int .i64 a.wr, .int .i64 a.mn, .slice A a.vs.length cc]] w (RetOfC A cc (of c u a) w) := by
 obtain ⟨fc, rd, ct, wr, mn, vs⟩ := a
 simp only at hn hA h1 h2 h3 ⊢
 subst h3
 unfold Fit at hf
 simp only at hf
 obtain ⟨f1, f2, f3, f4, f5, f6⟩ := hf
 have HOF := Lib.hid (show of c u ⟨16, rd, ct, wr, mn, vs⟩ = ⟨c, u, 16, [] ++ [(wr, wr + mn - 1)], vs, vs⟩ by
  unfold of reads writes regs
  simp only
  rw [if_neg h1, if_pos h2, if_pos (by decide)])
 have d1 : decide (ct > 0) = false := by simpa using h1
 have d2 : decide (mn > 0) = true := by simpa using h2
 have s3 : IntKind.i64.wrap (wr + mn) = wr + mn := by rw [IntKind.wrap_i64]; omega
 have s4 : IntKind.i64.wrap (wr + mn - 1) = wr + mn - 1 := by rw [IntKind.wrap_i64]; omega
 clear h1 h2
 go_enter Tryz.func23, Tryz.ntmps23
 have A5 : Six ((((w.alloc (.cells #[.int .i64 16, .int .i64 rd, .int .i64 ct, .int .i64 wr, .int .i64 mn, .slice A vs.length cc] 40)).alloc (.cells #[.int .i64 0, .int .i64 0, .int .i64 0, .slice none 0 0, .slice none 0 0, .slice none 0 0] 54)).alloc (.cells #[.int .i64 c, .int .i64 u, .int .i64 16, .slice none 0 0, .slice A vs.length cc, .slice none 0 0] 54)).alloc (.cells #[.int .i64 (wr), .int .i64 (wr + mn - 1)] 87)) w.heap.size (.int .i64 16) (.int .i64 rd) (.int .i64 ct) (.int .i64 wr) (.int .i64 mn) (.slice A vs.length cc) := by refine ⟨?_, ?_, ?_, ?_, ?_, ?_⟩ <;> go_simp
 have A6 : Six ((((w.alloc (.cells #[.int .i64 16, .int .i64 rd, .int .i64 ct, .int .i64 wr, .int .i64 mn, .slice A vs.length cc] 40)).alloc (.cells #[.int .i64 0, .int .i64 0, .int .i64 0, .slice none 0 0, .slice none 0 0, .slice none 0 0] 54)).alloc (.cells #[.int .i64 c, .int .i64 u, .int .i64 16, .slice none 0 0, .slice A vs.length cc, .slice none 0 0] 54)).alloc (.cells #[.int .i64 (wr), .int .i64 (wr + mn - 1)] 87)) (w.heap.size + 1) (.int .i64 0) (.int .i64 0) (.int .i64 0) (.slice none 0 0) (.slice none 0 0) (.slice none 0 0) := by refine ⟨?_, ?_, ?_, ?_, ?_, ?_⟩ <;> go_simp
 have A7 : Six ((((w.alloc (.cells #[.int .i64 16, .int .i64 rd, .int .i64 ct, .int .i64 wr, .int .i64 mn, .slice A vs.length cc] 40)).alloc (.cells #[.int .i64 0, .int .i64 0, .int .i64 0, .slice none 0 0, .slice none 0 0, .slice none 0 0] 54)).alloc (.cells #[.int .i64 c, .int .i64 u, .int .i64 16, .slice none 0 0, .slice A vs.length cc, .slice none 0 0] 54)).alloc (.cells #[.int .i64 (wr), .int .i64 (wr + mn - 1)] 87)) (w.heap.size + 1 + 1) (.int .i64 c) (.int .i64 u) (.int .i64 16) (.slice none 0 0) (.slice A vs.length cc) (.slice none 0 0) := by refine ⟨?_, ?_, ?_, ?_, ?_, ?_⟩ <;> go_simp
 have Z6 : ∀ j, ((((w.alloc (.cells #[.int .i64 16, .int .i64 rd, .int .i64 ct, .int .i64 wr, .int .i64 mn, .slice A vs.length cc] 40)).alloc (.cells #[.int .i64 0, .int .i64 0, .int .i64 0, .slice none 0 0, .slice none 0 0, .slice none 0 0] 54)).alloc (.cells #[.int .i64 c, .int .i64 u, .int .i64 16, .slice none 0 0, .slice A vs.length cc, .slice none 0 0] 54)).alloc (.cells #[.int .i64 (wr), .int .i64 (wr + mn - 1)] 87)).frozen? ⟨w.heap.size + 1, j, none⟩ = false := fun j => by go_simp
 have Z7 : ∀ j, ((((w.alloc (.cells #[.int .i64 16, .int .i64 rd, .int .i64 ct, .int .i64 wr, .int .i64 mn, .slice A vs.length cc] 40)).alloc (.cells #[.int .i64 0, .int .i64 0, .int .i64 0, .slice none 0 0, .slice none 0 0, .slice none 0 0] 54)).alloc (.cells #[.int .i64 c, .int .i64 u, .int .i64 16, .slice none 0 0, .slice A vs.length cc, .slice none 0 0] 54)).alloc (.cells #[.int .i64 (wr), .int .i64 (wr + mn - 1)] 87)).frozen? ⟨w.heap.size + 1 + 1, j, none⟩ = false := fun j => by go_simp
 have K0 : Keep w ((((w.alloc (.cells #[.int .i64 16, .int .i64 rd, .int .i64 ct, .int .i64 wr, .int .i64 mn, .slice A vs.length cc] 40)).alloc (.cells #[.int .i64 0, .int .i64 0, .int .i64 0, .slice none 0 0, .slice none 0 0, .slice none 0 0] 54)).alloc (.cells #[.int .i64 c, .int .i64 u, .int .i64 16, .slice none 0 0, .slice A vs.length cc, .slice none 0 0] 54)).alloc (.cells #[.int .i64 (wr), .int .i64 (wr + mn - 1)] 87)) := (((((Keep.refl w).alloc _).alloc _).alloc _).alloc _)
 have own0 : ((((w.alloc (.cells #[.int .i64 16, .int .i64 rd, .int .i64 ct, .int .i64 wr, .int .i64 mn, .slice A vs.length cc] 40)).alloc (.cells #[.int .i64 0, .int .i64 0, .int .i64 0, .slice none 0 0, .slice none 0 0, .slice none 0 0] 54)).alloc (.cells #[.int .i64 c, .int .i64 u, .int .i64 16, .slice none 0 0, .slice A vs.length cc, .slice none 0 0] 54)).alloc (.cells #[.int .i64 (wr), .int .i64 (wr + mn - 1)] 87)).ownsRow (w.heap.size + 3) 87 2 (.slice none 0 0) 0 (flat encP []) := ⟨rfl, .inl ⟨rfl, rfl⟩⟩
 have hrow1 : Row encP 2 ((((w.alloc (.cells #[.int .i64 16, .int .i64 rd, .int .i64 ct, .int .i64 wr, .int .i64 mn, .slice A vs.length cc] 40)).alloc (.cells #[.int .i64 0, .int .i64 0, .int .i64 0, .slice none 0 0, .slice none 0 0, .slice none 0 0] 54)).alloc (.cells #[.int .i64 c, .int .i64 u, .int .i64 16, .slice none 0 0, .slice A vs.length cc, .slice none 0 0] 54)).alloc (.cells #[.int .i64 (wr), .int .i64 (wr + mn - 1)] 87)) (w.heap.size + 1 + 1 + 1 + 1) (some ⟨w.heap.size + 1 + 1 + 1, 0, none⟩) 1 [(wr, wr + mn - 1)] := by
  have h := Row.new encP_len (((w.alloc (.cells #[.int .i64 16, .int .i64 rd, .int .i64 ct, .int .i64 wr, .int .i64 mn, .slice A vs.length cc] 40)).alloc (.cells #[.int .i64 0, .int .i64 0, .int .i64 0, .slice none 0 0, .slice none 0 0, .slice none 0 0] 54)).alloc (.cells #[.int .i64 c, .int .i64 u, .int .i64 16, .slice none 0 0, .slice A vs.length cc, .slice none 0 0] 54)) 87 [(wr, wr + mn - 1)] #[.int .i64 (wr), .int .i64 (wr + mn - 1)] rfl
  simpa using h
 go_wp2_with (at_builtin; refine append_rows rfl _ _ 52 rfl (w.heap.size + 3) 87 _ 16 Tryz.underlying52 info_range rfl (by omega) encP_len encP_one (.slice none 0 0) 0 [] rfl own0 (by simp) _ _ 1 1 [(wr, wr + mn - 1)] rfl hrow1 (by unfold maxLen; omega) (by omega) ?_)
 intro v1 w1 own1 hb1
 have own1 : w1.ownsRow (w.heap.size + 3) 87 2 v1 1 (flat encP [(wr, wr + mn - 1)]) := by simpa using own1
 obtain ⟨S1, q1, rfl⟩ := own_slice own1
 have B5 := A5.below hb1 (by omega)
 have B6 := A6.below hb1 (by omega)
 have B7 := A7.below hb1 (by omega)
 have Y6 : ∀ j, w1.frozen? ⟨w.heap.size + 1, j, none⟩ = false := fun j => (hb1.frozen (by show w.heap.size + 1 < _; omega)).trans (Z6 j)
 have Y7 : ∀ j, w1.frozen? ⟨w.heap.size + 1 + 1, j, none⟩ = false := fun j => (hb1.frozen (by show w.heap.size + 1 + 1 < _; omega)).trans (Z7 j)
 have K1 : Keep w w1 := Below.trans K0 (hb1.mono (by omega))
 have hs1 : w.heap.size + 4 <= w1.heap.size := by have := hb1.size; simp at this; omega
 clear A5 A6 A7 Z6 Z7 K0 own0 hrow1 hb1
 have OWN := Lib.hid own1
 have KK := Lib.hid K1
 obtain ⟨x0, x1, x2, x3, x4, x5⟩ := B5
 obtain ⟨z0, z1, z2, z3, z4, z5⟩ := B6
 obtain ⟨y0, y1, y2, y3, y4, y5⟩ := B7
 have g3 := Y7 3
 have g5 := Y7 5
 have e0 := Y6 0
 have e1 := Y6 1
 have e2 := Y6 2
 have e3 := Y6 3
 have e4 := Y6 4
 have e5 := Y6 5
 clear own1 K1 Y6 Y7
 go_wp2
 (try simp only [Exit.inBlock, Exit.then])
 refine bodyPost_ret (v := .agg #[.int .i64 c, .int .i64 u, .int .i64 16, .slice S1 1 q1, .slice A vs.length cc, .slice A vs.length cc]) ?_ rfl ?_
 ·rw [results_c rfl]
  go_simp
 ·rw [HOF.out]
  have kp : ∀ V, Below w.heap.size w V -> (∀ p : Addr, w.heap.size + 3 <= p.block -> V.cell? p = w1.cell? p) -> w1.heap.size <= V.heap.size -> RetOfC A cc ⟨c, u, 16, [(wr, wr + mn - 1)], vs, vs⟩ w (.returned (.agg #[.int .i64 c, .int .i64 u, .int .i64 16, .slice S1 1 q1, .slice A vs.length cc, .slice A vs.length cc])) V := fun V hK hc hs =>
   ⟨S1, A, A, q1, cc, cc, rfl, ⟨past OWN.out (by omega) rfl hc hs, hA.kept hK, hA.kept hK⟩, hK, ⟨FreshB.of_own OWN.out (by omega), .inr rfl, .inr rfl⟩, .inr ⟨rfl, by simp⟩⟩
  refine kp _ ?_ (fun p hp => ?_) ?_
  ·have KB : Below w.heap.size w w1 := KK.out
   repeat' (first | with_reducible exact KB | with_reducible refine Below.setCell ?_ ?_ _ | (show w.heap.size <= w.heap.size + 1; omega) | (show w.heap.size <= w.heap.size + 1 + 1; omega))
  ·repeat (rw [World.cell?_of_block (Below.heap_setCell _ _ _ _ (by first | (show p.block ≠ w.heap.size + 1; omega) | (show p.block ≠ w.heap.size + 1 + 1; omega)))])
  ·simp
set_option maxHeartbeats 4000000 in
theorem of_01_23 (c u : Int) (a : AskP) (A : Option Addr) (cc : Nat) (w : World) (hn : a.vs.length <= 1000000) (hf : Fit a) (hA : Ints .i64 w w.heap.size A a.vs.length a.vs) (h1 : ¬ 0 < a.ct) (h2 : 0 < a.mn) (h3 : a.fc = 23) :
  Calls Tryz.prog 23 #[.int .i64 c, .int .i64 u, .agg #[.int .i64 a.fc, .int .i64 a.rd, .int .i64 a.ct, .int .i64 a.wr, .int .i64 a.mn, .slice A a.vs.length cc]] w (RetOfC A cc (of c u a) w) := by
 obtain ⟨fc, rd, ct, wr, mn, vs⟩ := a
 simp only at hn hA h1 h2 h3 ⊢
 subst h3
 unfold Fit at hf
 simp only at hf
 obtain ⟨f1, f2, f3, f4, f5, f6⟩ := hf
 have HOF := Lib.hid (show of c u ⟨23, rd, ct, wr, mn, vs⟩ = ⟨c, u, 23, [] ++ [(wr, wr + mn - 1)], vs, vs⟩ by
  unfold of reads writes regs
  simp only
  rw [if_neg h1, if_pos h2, if_pos (by decide)])
 have d1 : decide (ct > 0) = false := by simpa using h1
 have d2 : decide (mn > 0) = true := by simpa using h2
 have s3 : IntKind.i64.wrap (wr + mn) = wr + mn := by rw [IntKind.wrap_i64]; omega
 have s4 : IntKind.i64.wrap (wr + mn - 1) = wr + mn - 1 := by rw [IntKind.wrap_i64]; omega
 clear h1 h2
 go_enter Tryz.func23, Tryz.ntmps23
 have A5 : Six ((((w.alloc (.cells #[.int .i64 23, .int .i64 rd, .int .i64 ct, .int .i64 wr, .int .i64 mn, .slice A vs.length cc] 40)).alloc (.cells #[.int .i64 0, .int .i64 0, .int .i64 0, .slice none 0 0, .slice none 0 0, .slice none 0 0] 54)).alloc (.cells #[.int .i64 c, .int .i64 u, .int .i64 23, .slice none 0 0, .slice A vs.length cc, .slice none 0 0] 54)).alloc (.cells #[.int .i64 (wr), .int .i64 (wr + mn - 1)] 87)) w.heap.size (.int .i64 23) (.int .i64 rd) (.int .i64 ct) (.int .i64 wr) (.int .i64 mn) (.slice A vs.length cc) := by refine ⟨?_, ?_, ?_, ?_, ?_, ?_⟩ <;> go_simp
 have A6 : Six ((((w.alloc (.cells #[.int .i64 23, .int .i64 rd, .int .i64 ct, .int .i64 wr, .int .i64 mn, .slice A vs.length cc] 40)).alloc (.cells #[.int .i64 0, .int .i64 0, .int .i64 0, .slice none 0 0, .slice none 0 0, .slice none 0 0] 54)).alloc (.cells #[.int .i64 c, .int .i64 u, .int .i64 23, .slice none 0 0, .slice A vs.length cc, .slice none 0 0] 54)).alloc (.cells #[.int .i64 (wr), .int .i64 (wr + mn - 1)] 87)) (w.heap.size + 1) (.int .i64 0) (.int .i64 0) (.int .i64 0) (.slice none 0 0) (.slice none 0 0) (.slice none 0 0) := by refine ⟨?_, ?_, ?_, ?_, ?_, ?_⟩ <;> go_simp
 have A7 : Six ((((w.alloc (.cells #[.int .i64 23, .int .i64 rd, .int .i64 ct, .int .i64 wr, .int .i64 mn, .slice A vs.length cc] 40)).alloc (.cells #[.int .i64 0, .int .i64 0, .int .i64 0, .slice none 0 0, .slice none 0 0, .slice none 0 0] 54)).alloc (.cells #[.int .i64 c, .int .i64 u, .int .i64 23, .slice none 0 0, .slice A vs.length cc, .slice none 0 0] 54)).alloc (.cells #[.int .i64 (wr), .int .i64 (wr + mn - 1)] 87)) (w.heap.size + 1 + 1) (.int .i64 c) (.int .i64 u) (.int .i64 23) (.slice none 0 0) (.slice A vs.length cc) (.slice none 0 0) := by refine ⟨?_, ?_, ?_, ?_, ?_, ?_⟩ <;> go_simp
 have Z6 : ∀ j, ((((w.alloc (.cells #[.int .i64 23, .int .i64 rd, .int .i64 ct, .int .i64 wr, .int .i64 mn, .slice A vs.length cc] 40)).alloc (.cells #[.int .i64 0, .int .i64 0, .int .i64 0, .slice none 0 0, .slice none 0 0, .slice none 0 0] 54)).alloc (.cells #[.int .i64 c, .int .i64 u, .int .i64 23, .slice none 0 0, .slice A vs.length cc, .slice none 0 0] 54)).alloc (.cells #[.int .i64 (wr), .int .i64 (wr + mn - 1)] 87)).frozen? ⟨w.heap.size + 1, j, none⟩ = false := fun j => by go_simp
 have Z7 : ∀ j, ((((w.alloc (.cells #[.int .i64 23, .int .i64 rd, .int .i64 ct, .int .i64 wr, .int .i64 mn, .slice A vs.length cc] 40)).alloc (.cells #[.int .i64 0, .int .i64 0, .int .i64 0, .slice none 0 0, .slice none 0 0, .slice none 0 0] 54)).alloc (.cells #[.int .i64 c, .int .i64 u, .int .i64 23, .slice none 0 0, .slice A vs.length cc, .slice none 0 0] 54)).alloc (.cells #[.int .i64 (wr), .int .i64 (wr + mn - 1)] 87)).frozen? ⟨w.heap.size + 1 + 1, j, none⟩ = false := fun j => by go_simp
 have K0 : Keep w ((((w.alloc (.cells #[.int .i64 23, .int .i64 rd, .int .i64 ct, .int .i64 wr, .int .i64 mn, .slice A vs.length cc] 40)).alloc (.cells #[.int .i64 0, .int .i64 0, .int .i64 0, .slice none 0 0, .slice none 0 0, .slice none 0 0] 54)).alloc (.cells #[.int .i64 c, .int .i64 u, .int .i64 23, .slice none 0 0, .slice A vs.length cc, .slice none 0 0] 54)).alloc (.cells #[.int .i64 (wr), .int .i64 (wr + mn - 1)] 87)) := (((((Keep.refl w).alloc _).alloc _).alloc _).alloc _)
 have own0 : ((((w.alloc (.cells #[.int .i64 23, .int .i64 rd, .int .i64 ct, .int .i64 wr, .int .i64 mn, .slice A vs.length cc] 40)).alloc (.cells #[.int .i64 0, .int .i64 0, .int .i64 0, .slice none 0 0, .slice none 0 0, .slice none 0 0] 54)).alloc (.cells #[.int .i64 c, .int .i64 u, .int .i64 23, .slice none 0 0, .slice A vs.length cc, .slice none 0 0] 54)).alloc (.cells #[.int .i64 (wr), .int .i64 (wr + mn - 1)] 87)).ownsRow (w.heap.size + 3) 87 2 (.slice none 0 0) 0 (flat encP []) := ⟨rfl, .inl ⟨rfl, rfl⟩⟩
 have hrow1 : Row encP 2 ((((w.alloc (.cells #[.int .i64 23, .int .i64 rd, .int .i64 ct, .int .i64 wr, .int .i64 mn, .slice A vs.length cc] 40)).alloc (.cells #[.int .i64 0, .int .i64 0, .int .i64 0, .slice none 0 0, .slice none 0 0, .slice none 0 0] 54)).alloc (.cells #[.int .i64 c, .int .i64 u, .int .i64 23, .slice none 0 0, .slice A vs.length cc, .slice none 0 0] 54)).alloc (.cells #[.int .i64 (wr), .int .i64 (wr + mn - 1)] 87)) (w.heap.size + 1 + 1 + 1 + 1) (some ⟨w.heap.size + 1 + 1 + 1, 0, none⟩) 1 [(wr, wr + mn - 1)] := by
  have h := Row.new encP_len (((w.alloc (.cells #[.int .i64 23, .int .i64 rd, .int .i64 ct, .int .i64 wr, .int .i64 mn, .slice A vs.length cc] 40)).alloc (.cells #[.int .i64 0, .int .i64 0, .int .i64 0, .slice none 0 0, .slice none 0 0, .slice none 0 0] 54)).alloc (.cells #[.int .i64 c, .int .i64 u, .int .i64 23, .slice none 0 0, .slice A vs.length cc, .slice none 0 0] 54)) 87 [(wr, wr + mn - 1)] #[.int .i64 (wr), .int .i64 (wr + mn - 1)] rfl
  simpa using h
 go_wp2_with (at_builtin; refine append_rows rfl _ _ 52 rfl (w.heap.size + 3) 87 _ 16 Tryz.underlying52 info_range rfl (by omega) encP_len encP_one (.slice none 0 0) 0 [] rfl own0 (by simp) _ _ 1 1 [(wr, wr + mn - 1)] rfl hrow1 (by unfold maxLen; omega) (by omega) ?_)
 intro v1 w1 own1 hb1
 have own1 : w1.ownsRow (w.heap.size + 3) 87 2 v1 1 (flat encP [(wr, wr + mn - 1)]) := by simpa using own1
 obtain ⟨S1, q1, rfl⟩ := own_slice own1
 have B5 := A5.below hb1 (by omega)
 have B6 := A6.below hb1 (by omega)
 have B7 := A7.below hb1 (by omega)
 have Y6 : ∀ j, w1.frozen? ⟨w.heap.size + 1, j, none⟩ = false := fun j => (hb1.frozen (by show w.heap.size + 1 < _; omega)).trans (Z6 j)
 have Y7 : ∀ j, w1.frozen? ⟨w.heap.size + 1 + 1, j, none⟩ = false := fun j => (hb1.frozen (by show w.heap.size + 1 + 1 < _; omega)).trans (Z7 j)
 have K1 : Keep w w1 := Below.trans K0 (hb1.mono (by omega))
 have hs1 : w.heap.size + 4 <= w1.heap.size := by have := hb1.size; simp at this; omega
 clear A5 A6 A7 Z6 Z7 K0 own0 hrow1 hb1
 have OWN := Lib.hid own1
 have KK := Lib.hid K1
 obtain ⟨x0, x1, x2, x3, x4, x5⟩ := B5
 obtain ⟨z0, z1, z2, z3, z4, z5⟩ := B6
 obtain ⟨y0, y1, y2, y3, y4, y5⟩ := B7
 have g3 := Y7 3
 have g5 := Y7 5
 have e0 := Y6 0
 have e1 := Y6 1
 have e2 := Y6 2
 have e3 := Y6 3
 have e4 := Y6 4
 have e5 := Y6 5
 clear own1 K1 Y6 Y7
 go_wp2
 (try simp only [Exit.inBlock, Exit.then])
 refine bodyPost_ret (v := .agg #[.int .i64 c, .int .i64 u, .int .i64 23, .slice S1 1 q1, .slice A vs.length cc, .slice A vs.length cc]) ?_ rfl ?_
 ·rw [results_c rfl]
  go_simp
 ·rw [HOF.out]
  have kp : ∀ V, Below w.heap.size w V -> (∀ p : Addr, w.heap.size + 3 <= p.block -> V.cell? p = w1.cell? p) -> w1.heap.size <= V.heap.size -> RetOfC A cc ⟨c, u, 23, [(wr, wr + mn - 1)], vs, vs⟩ w (.returned (.agg #[.int .i64 c, .int .i64 u, .int .i64 23, .slice S1 1 q1, .slice A vs.length cc, .slice A vs.length cc])) V := fun V hK hc hs =>
   ⟨S1, A, A, q1, cc, cc, rfl, ⟨past OWN.out (by omega) rfl hc hs, hA.kept hK, hA.kept hK⟩, hK, ⟨FreshB.of_own OWN.out (by omega), .inr rfl, .inr rfl⟩, .inr ⟨rfl, by simp⟩⟩
  refine kp _ ?_ (fun p hp => ?_) ?_
  ·have KB : Below w.heap.size w w1 := KK.out
   repeat' (first | with_reducible exact KB | with_reducible refine Below.setCell ?_ ?_ _ | (show w.heap.size <= w.heap.size + 1; omega) | (show w.heap.size <= w.heap.size + 1 + 1; omega))
  ·repeat (rw [World.cell?_of_block (Below.heap_setCell _ _ _ _ (by first | (show p.block ≠ w.heap.size + 1; omega) | (show p.block ≠ w.heap.size + 1 + 1; omega)))])
  ·simp
set_option maxHeartbeats 4000000 in
theorem of_01_0 (c u : Int) (a : AskP) (A : Option Addr) (cc : Nat) (w : World) (hn : a.vs.length <= 1000000) (hf : Fit a) (hA : Ints .i64 w w.heap.size A a.vs.length a.vs) (h1 : ¬ 0 < a.ct) (h2 : 0 < a.mn) (h3 : ¬ (a.fc = 6 ∨ a.fc = 16 ∨ a.fc = 23)) :
  Calls Tryz.prog 23 #[.int .i64 c, .int .i64 u, .agg #[.int .i64 a.fc, .int .i64 a.rd, .int .i64 a.ct, .int .i64 a.wr, .int .i64 a.mn, .slice A a.vs.length cc]] w (RetOfC A cc (of c u a) w) := by
 obtain ⟨fc, rd, ct, wr, mn, vs⟩ := a
 simp only at hn hA h1 h2 h3 ⊢
 unfold Fit at hf
 simp only at hf
 obtain ⟨f1, f2, f3, f4, f5, f6⟩ := hf
 have HOF := Lib.hid (show of c u ⟨fc, rd, ct, wr, mn, vs⟩ = ⟨c, u, fc, [] ++ [(wr, wr + mn - 1)], vs, []⟩ by
  unfold of reads writes regs
  simp only
  rw [if_neg h1, if_pos h2, if_neg h3])
 have d1 : decide (ct > 0) = false := by simpa using h1
 have d2 : decide (mn > 0) = true := by simpa using h2
 have s3 : IntKind.i64.wrap (wr + mn) = wr + mn := by rw [IntKind.wrap_i64]; omega
 have s4 : IntKind.i64.wrap (wr + mn - 1) = wr + mn - 1 := by rw [IntKind.wrap_i64]; omega
 have d3 : (fc == 6) = false := by simp; omega
 have d4 : (fc == 16) = false := by simp; omega
 have d5 : (fc == 23) = false := by simp; omega
 clear h3 h1 h2
 go_enter Tryz.func23, Tryz.ntmps23
 have A5 : Six ((((w.alloc (.cells #[.int .i64 fc, .int .i64 rd, .int .i64 ct, .int .i64 wr, .int .i64 mn, .slice A vs.length cc] 40)).alloc (.cells #[.int .i64 0, .int .i64 0, .int .i64 0, .slice none 0 0, .slice none 0 0, .slice none 0 0] 54)).alloc (.cells #[.int .i64 c, .int .i64 u, .int .i64 fc, .slice none 0 0, .slice A vs.length cc, .slice none 0 0] 54)).alloc (.cells #[.int .i64 (wr), .int .i64 (wr + mn - 1)] 87)) w.heap.size (.int .i64 fc) (.int .i64 rd) (.int .i64 ct) (.int .i64 wr) (.int .i64 mn) (.slice A vs.length cc) := by refine ⟨?_, ?_, ?_, ?_, ?_, ?_⟩ <;> go_simp
 have A6 : Six ((((w.alloc (.cells #[.int .i64 fc, .int .i64 rd, .int .i64 ct, .int .i64 wr, .int .i64 mn, .slice A vs.length cc] 40)).alloc (.cells #[.int .i64 0, .int .i64 0, .int .i64 0, .slice none 0 0, .slice none 0 0, .slice none 0 0] 54)).alloc (.cells #[.int .i64 c, .int .i64 u, .int .i64 fc, .slice none 0 0, .slice A vs.length cc, .slice none 0 0] 54)).alloc (.cells #[.int .i64 (wr), .int .i64 (wr + mn - 1)] 87)) (w.heap.size + 1) (.int .i64 0) (.int .i64 0) (.int .i64 0) (.slice none 0 0) (.slice none 0 0) (.slice none 0 0) := by refine ⟨?_, ?_, ?_, ?_, ?_, ?_⟩ <;> go_simp
 have A7 : Six ((((w.alloc (.cells #[.int .i64 fc, .int .i64 rd, .int .i64 ct, .int .i64 wr, .int .i64 mn, .slice A vs.length cc] 40)).alloc (.cells #[.int .i64 0, .int .i64 0, .int .i64 0, .slice none 0 0, .slice none 0 0, .slice none 0 0] 54)).alloc (.cells #[.int .i64 c, .int .i64 u, .int .i64 fc, .slice none 0 0, .slice A vs.length cc, .slice none 0 0] 54)).alloc (.cells #[.int .i64 (wr), .int .i64 (wr + mn - 1)] 87)) (w.heap.size + 1 + 1) (.int .i64 c) (.int .i64 u) (.int .i64 fc) (.slice none 0 0) (.slice A vs.length cc) (.slice none 0 0) := by refine ⟨?_, ?_, ?_, ?_, ?_, ?_⟩ <;> go_simp
 have Z6 : ∀ j, ((((w.alloc (.cells #[.int .i64 fc, .int .i64 rd, .int .i64 ct, .int .i64 wr, .int .i64 mn, .slice A vs.length cc] 40)).alloc (.cells #[.int .i64 0, .int .i64 0, .int .i64 0, .slice none 0 0, .slice none 0 0, .slice none 0 0] 54)).alloc (.cells #[.int .i64 c, .int .i64 u, .int .i64 fc, .slice none 0 0, .slice A vs.length cc, .slice none 0 0] 54)).alloc (.cells #[.int .i64 (wr), .int .i64 (wr + mn - 1)] 87)).frozen? ⟨w.heap.size + 1, j, none⟩ = false := fun j => by go_simp
 have Z7 : ∀ j, ((((w.alloc (.cells #[.int .i64 fc, .int .i64 rd, .int .i64 ct, .int .i64 wr, .int .i64 mn, .slice A vs.length cc] 40)).alloc (.cells #[.int .i64 0, .int .i64 0, .int .i64 0, .slice none 0 0, .slice none 0 0, .slice none 0 0] 54)).alloc (.cells #[.int .i64 c, .int .i64 u, .int .i64 fc, .slice none 0 0, .slice A vs.length cc, .slice none 0 0] 54)).alloc (.cells #[.int .i64 (wr), .int .i64 (wr + mn - 1)] 87)).frozen? ⟨w.heap.size + 1 + 1, j, none⟩ = false := fun j => by go_simp
 have K0 : Keep w ((((w.alloc (.cells #[.int .i64 fc, .int .i64 rd, .int .i64 ct, .int .i64 wr, .int .i64 mn, .slice A vs.length cc] 40)).alloc (.cells #[.int .i64 0, .int .i64 0, .int .i64 0, .slice none 0 0, .slice none 0 0, .slice none 0 0] 54)).alloc (.cells #[.int .i64 c, .int .i64 u, .int .i64 fc, .slice none 0 0, .slice A vs.length cc, .slice none 0 0] 54)).alloc (.cells #[.int .i64 (wr), .int .i64 (wr + mn - 1)] 87)) := (((((Keep.refl w).alloc _).alloc _).alloc _).alloc _)
 have own0 : ((((w.alloc (.cells #[.int .i64 fc, .int .i64 rd, .int .i64 ct, .int .i64 wr, .int .i64 mn, .slice A vs.length cc] 40)).alloc (.cells #[.int .i64 0, .int .i64 0, .int .i64 0, .slice none 0 0, .slice none 0 0, .slice none 0 0] 54)).alloc (.cells #[.int .i64 c, .int .i64 u, .int .i64 fc, .slice none 0 0, .slice A vs.length cc, .slice none 0 0] 54)).alloc (.cells #[.int .i64 (wr), .int .i64 (wr + mn - 1)] 87)).ownsRow (w.heap.size + 3) 87 2 (.slice none 0 0) 0 (flat encP []) := ⟨rfl, .inl ⟨rfl, rfl⟩⟩
 have hrow1 : Row encP 2 ((((w.alloc (.cells #[.int .i64 fc, .int .i64 rd, .int .i64 ct, .int .i64 wr, .int .i64 mn, .slice A vs.length cc] 40)).alloc (.cells #[.int .i64 0, .int .i64 0, .int .i64 0, .slice none 0 0, .slice none 0 0, .slice none 0 0] 54)).alloc (.cells #[.int .i64 c, .int .i64 u, .int .i64 fc, .slice none 0 0, .slice A vs.length cc, .slice none 0 0] 54)).alloc (.cells #[.int .i64 (wr), .int .i64 (wr + mn - 1)] 87)) (w.heap.size + 1 + 1 + 1 + 1) (some ⟨w.heap.size + 1 + 1 + 1, 0, none⟩) 1 [(wr, wr + mn - 1)] := by
  have h := Row.new encP_len (((w.alloc (.cells #[.int .i64 fc, .int .i64 rd, .int .i64 ct, .int .i64 wr, .int .i64 mn, .slice A vs.length cc] 40)).alloc (.cells #[.int .i64 0, .int .i64 0, .int .i64 0, .slice none 0 0, .slice none 0 0, .slice none 0 0] 54)).alloc (.cells #[.int .i64 c, .int .i64 u, .int .i64 fc, .slice none 0 0, .slice A vs.length cc, .slice none 0 0] 54)) 87 [(wr, wr + mn - 1)] #[.int .i64 (wr), .int .i64 (wr + mn - 1)] rfl
  simpa using h
 go_wp2_with (at_builtin; refine append_rows rfl _ _ 52 rfl (w.heap.size + 3) 87 _ 16 Tryz.underlying52 info_range rfl (by omega) encP_len encP_one (.slice none 0 0) 0 [] rfl own0 (by simp) _ _ 1 1 [(wr, wr + mn - 1)] rfl hrow1 (by unfold maxLen; omega) (by omega) ?_)
 intro v1 w1 own1 hb1
 have own1 : w1.ownsRow (w.heap.size + 3) 87 2 v1 1 (flat encP [(wr, wr + mn - 1)]) := by simpa using own1
 obtain ⟨S1, q1, rfl⟩ := own_slice own1
 have B5 := A5.below hb1 (by omega)
 have B6 := A6.below hb1 (by omega)
 have B7 := A7.below hb1 (by omega)
 have Y6 : ∀ j, w1.frozen? ⟨w.heap.size + 1, j, none⟩ = false := fun j => (hb1.frozen (by show w.heap.size + 1 < _; omega)).trans (Z6 j)
 have Y7 : ∀ j, w1.frozen? ⟨w.heap.size + 1 + 1, j, none⟩ = false := fun j => (hb1.frozen (by show w.heap.size + 1 + 1 < _; omega)).trans (Z7 j)
 have K1 : Keep w w1 := Below.trans K0 (hb1.mono (by omega))
 have hs1 : w.heap.size + 4 <= w1.heap.size := by have := hb1.size; simp at this; omega
 clear A5 A6 A7 Z6 Z7 K0 own0 hrow1 hb1
 have OWN := Lib.hid own1
 have KK := Lib.hid K1
 obtain ⟨x0, x1, x2, x3, x4, x5⟩ := B5
 obtain ⟨z0, z1, z2, z3, z4, z5⟩ := B6
 obtain ⟨y0, y1, y2, y3, y4, y5⟩ := B7
 have g3 := Y7 3
 have g5 := Y7 5
 have e0 := Y6 0
 have e1 := Y6 1
 have e2 := Y6 2
 have e3 := Y6 3
 have e4 := Y6 4
 have e5 := Y6 5
 clear own1 K1 Y6 Y7
 go_wp2
 (try simp only [Exit.inBlock, Exit.then])
 refine bodyPost_ret (v := .agg #[.int .i64 c, .int .i64 u, .int .i64 fc, .slice S1 1 q1, .slice A vs.length cc, .slice none 0 0]) ?_ rfl ?_
 ·rw [results_c rfl]
  go_simp
 ·rw [HOF.out]
  have kp : ∀ V, Below w.heap.size w V -> (∀ p : Addr, w.heap.size + 3 <= p.block -> V.cell? p = w1.cell? p) -> w1.heap.size <= V.heap.size -> RetOfC A cc ⟨c, u, fc, [(wr, wr + mn - 1)], vs, []⟩ w (.returned (.agg #[.int .i64 c, .int .i64 u, .int .i64 fc, .slice S1 1 q1, .slice A vs.length cc, .slice none 0 0])) V := fun V hK hc hs =>
   ⟨S1, A, none, q1, cc, 0, rfl, ⟨past OWN.out (by omega) rfl hc hs, hA.kept hK, Ints.none_ _ _ _ _⟩, hK, ⟨FreshB.of_own OWN.out (by omega), .inr rfl, .inl (FreshB.zero _ _)⟩, .inl ⟨rfl, rfl⟩⟩
  refine kp _ ?_ (fun p hp => ?_) ?_
  ·have KB : Below w.heap.size w w1 := KK.out
   repeat' (first | with_reducible exact KB | with_reducible refine Below.setCell ?_ ?_ _ | (show w.heap.size <= w.heap.size + 1; omega) | (show w.heap.size <= w.heap.size + 1 + 1; omega))
  ·repeat (rw [World.cell?_of_block (Below.heap_setCell _ _ _ _ (by first | (show p.block ≠ w.heap.size + 1; omega) | (show p.block ≠ w.heap.size + 1 + 1; omega)))])
  ·simp
set_option maxHeartbeats 4000000 in
theorem of_00_6 (c u : Int) (a : AskP) (A : Option Addr) (cc : Nat) (w : World) (hn : a.vs.length <= 1000000) (hf : Fit a) (hA : Ints .i64 w w.heap.size A a.vs.length a.vs) (h1 : ¬ 0 < a.ct) (h2 : ¬ 0 < a.mn) (h3 : a.fc = 6) :
  Calls Tryz.prog 23 #[.int .i64 c, .int .i64 u, .agg #[.int .i64 a.fc, .int .i64 a.rd, .int .i64 a.ct, .int .i64 a.wr, .int .i64 a.mn, .slice A a.vs.length cc]] w (RetOfC A cc (of c u a) w) := by
 obtain ⟨fc, rd, ct, wr, mn, vs⟩ := a
 simp only at hn hA h1 h2 h3 ⊢
 subst h3
 unfold Fit at hf
 simp only at hf
 obtain ⟨f1, f2, f3, f4, f5, f6⟩ := hf
 have HOF := Lib.hid (show of c u ⟨6, rd, ct, wr, mn, vs⟩ = ⟨c, u, 6, [] ++ [], vs, vs⟩ by
  unfold of reads writes regs
  simp only
  rw [if_neg h1, if_neg h2, if_pos (by decide)])
 have d1 : decide (ct > 0) = false := by simpa using h1
 have d2 : decide (mn > 0) = false := by simpa using h2
 clear h1 h2
 go_enter Tryz.func23, Tryz.ntmps23
 go_wp2
 (try simp only [Exit.inBlock, Exit.then])
 refine bodyPost_ret (v := .agg #[.int .i64 c, .int .i64 u, .int .i64 6, .slice none 0 0, .slice A vs.length cc, .slice A vs.length cc]) ?_ rfl ?_
 ·rw [results_c rfl]
  go_simp
 ·rw [HOF.out]
  have kp : ∀ V, Below w.heap.size w V -> RetOfC A cc ⟨c, u, 6, [] ++ [], vs, vs⟩ w (.returned (.agg #[.int .i64 c, .int .i64 u, .int .i64 6, .slice none 0 0, .slice A vs.length cc, .slice A vs.length cc])) V := fun V hK =>
   ⟨none, A, A, 0, cc, cc, rfl, ⟨⟨rfl, fun h => absurd h (Nat.lt_irrefl 0)⟩, hA.kept hK, hA.kept hK⟩, hK, ⟨FreshB.zero _ _, .inr rfl, .inr rfl⟩, .inr ⟨rfl, by simp⟩⟩
  refine kp _ ?_
  show Below w.heap.size w _
  repeat' (first | with_reducible exact Below.refl _ _ | with_reducible refine Below.setCell ?_ ?_ _ | with_reducible refine Below.alloc ?_ ?_ _ | (show w.heap.size <= w.heap.size + 1; omega) | (show w.heap.size <= w.heap.size + 1 + 1; omega) | exact Nat.le_refl _ | (simp; done) | (simp; omega))
set_option maxHeartbeats 4000000 in
theorem of_00_16 (c u : Int) (a : AskP) (A : Option Addr) (cc : Nat) (w : World) (hn : a.vs.length <= 1000000) (hf : Fit a) (hA : Ints .i64 w w.heap.size A a.vs.length a.vs) (h1 : ¬ 0 < a.ct) (h2 : ¬ 0 < a.mn) (h3 : a.fc = 16) :
  Calls Tryz.prog 23 #[.int .i64 c, .int .i64 u, .agg #[.int .i64 a.fc, .int .i64 a.rd, .int .i64 a.ct, .int .i64 a.wr, .int .i64 a.mn, .slice A a.vs.length cc]] w (RetOfC A cc (of c u a) w) := by
 obtain ⟨fc, rd, ct, wr, mn, vs⟩ := a
 simp only at hn hA h1 h2 h3 ⊢
 subst h3
 unfold Fit at hf
 simp only at hf
 obtain ⟨f1, f2, f3, f4, f5, f6⟩ := hf
 have HOF := Lib.hid (show of c u ⟨16, rd, ct, wr, mn, vs⟩ = ⟨c, u, 16, [] ++ [], vs, vs⟩ by
  unfold of reads writes regs
  simp only
  rw [if_neg h1, if_neg h2, if_pos (by decide)])
 have d1 : decide (ct > 0) = false := by simpa using h1
 have d2 : decide (mn > 0) = false := by simpa using h2
 clear h1 h2
 go_enter Tryz.func23, Tryz.ntmps23
 go_wp2
 (try simp only [Exit.inBlock, Exit.then])
 refine bodyPost_ret (v := .agg #[.int .i64 c, .int .i64 u, .int .i64 16, .slice none 0 0, .slice A vs.length cc, .slice A vs.length cc]) ?_ rfl ?_
 ·rw [results_c rfl]
  go_simp
 ·rw [HOF.out]
  have kp : ∀ V, Below w.heap.size w V -> RetOfC A cc ⟨c, u, 16, [] ++ [], vs, vs⟩ w (.returned (.agg #[.int .i64 c, .int .i64 u, .int .i64 16, .slice none 0 0, .slice A vs.length cc, .slice A vs.length cc])) V := fun V hK =>
   ⟨none, A, A, 0, cc, cc, rfl, ⟨⟨rfl, fun h => absurd h (Nat.lt_irrefl 0)⟩, hA.kept hK, hA.kept hK⟩, hK, ⟨FreshB.zero _ _, .inr rfl, .inr rfl⟩, .inr ⟨rfl, by simp⟩⟩
  refine kp _ ?_
  show Below w.heap.size w _
  repeat' (first | with_reducible exact Below.refl _ _ | with_reducible refine Below.setCell ?_ ?_ _ | with_reducible refine Below.alloc ?_ ?_ _ | (show w.heap.size <= w.heap.size + 1; omega) | (show w.heap.size <= w.heap.size + 1 + 1; omega) | exact Nat.le_refl _ | (simp; done) | (simp; omega))
set_option maxHeartbeats 4000000 in
theorem of_00_23 (c u : Int) (a : AskP) (A : Option Addr) (cc : Nat) (w : World) (hn : a.vs.length <= 1000000) (hf : Fit a) (hA : Ints .i64 w w.heap.size A a.vs.length a.vs) (h1 : ¬ 0 < a.ct) (h2 : ¬ 0 < a.mn) (h3 : a.fc = 23) :
  Calls Tryz.prog 23 #[.int .i64 c, .int .i64 u, .agg #[.int .i64 a.fc, .int .i64 a.rd, .int .i64 a.ct, .int .i64 a.wr, .int .i64 a.mn, .slice A a.vs.length cc]] w (RetOfC A cc (of c u a) w) := by
 obtain ⟨fc, rd, ct, wr, mn, vs⟩ := a
 simp only at hn hA h1 h2 h3 ⊢
 subst h3
 unfold Fit at hf
 simp only at hf
 obtain ⟨f1, f2, f3, f4, f5, f6⟩ := hf
 have HOF := Lib.hid (show of c u ⟨23, rd, ct, wr, mn, vs⟩ = ⟨c, u, 23, [] ++ [], vs, vs⟩ by
  unfold of reads writes regs
  simp only
  rw [if_neg h1, if_neg h2, if_pos (by decide)])
 have d1 : decide (ct > 0) = false := by simpa using h1
 have d2 : decide (mn > 0) = false := by simpa using h2
 clear h1 h2
 go_enter Tryz.func23, Tryz.ntmps23
 go_wp2
 (try simp only [Exit.inBlock, Exit.then])
 refine bodyPost_ret (v := .agg #[.int .i64 c, .int .i64 u, .int .i64 23, .slice none 0 0, .slice A vs.length cc, .slice A vs.length cc]) ?_ rfl ?_
 ·rw [results_c rfl]
  go_simp
 ·rw [HOF.out]
  have kp : ∀ V, Below w.heap.size w V -> RetOfC A cc ⟨c, u, 23, [] ++ [], vs, vs⟩ w (.returned (.agg #[.int .i64 c, .int .i64 u, .int .i64 23, .slice none 0 0, .slice A vs.length cc, .slice A vs.length cc])) V := fun V hK =>
   ⟨none, A, A, 0, cc, cc, rfl, ⟨⟨rfl, fun h => absurd h (Nat.lt_irrefl 0)⟩, hA.kept hK, hA.kept hK⟩, hK, ⟨FreshB.zero _ _, .inr rfl, .inr rfl⟩, .inr ⟨rfl, by simp⟩⟩
  refine kp _ ?_
  show Below w.heap.size w _
  repeat' (first | with_reducible exact Below.refl _ _ | with_reducible refine Below.setCell ?_ ?_ _ | with_reducible refine Below.alloc ?_ ?_ _ | (show w.heap.size <= w.heap.size + 1; omega) | (show w.heap.size <= w.heap.size + 1 + 1; omega) | exact Nat.le_refl _ | (simp; done) | (simp; omega))
set_option maxHeartbeats 4000000 in
theorem of_00_0 (c u : Int) (a : AskP) (A : Option Addr) (cc : Nat) (w : World) (hn : a.vs.length <= 1000000) (hf : Fit a) (hA : Ints .i64 w w.heap.size A a.vs.length a.vs) (h1 : ¬ 0 < a.ct) (h2 : ¬ 0 < a.mn) (h3 : ¬ (a.fc = 6 ∨ a.fc = 16 ∨ a.fc = 23)) :
  Calls Tryz.prog 23 #[.int .i64 c, .int .i64 u, .agg #[.int .i64 a.fc, .int .i64 a.rd, .int .i64 a.ct, .int .i64 a.wr, .int .i64 a.mn, .slice A a.vs.length cc]] w (RetOfC A cc (of c u a) w) := by
 obtain ⟨fc, rd, ct, wr, mn, vs⟩ := a
 simp only at hn hA h1 h2 h3 ⊢
 unfold Fit at hf
 simp only at hf
 obtain ⟨f1, f2, f3, f4, f5, f6⟩ := hf
 have HOF := Lib.hid (show of c u ⟨fc, rd, ct, wr, mn, vs⟩ = ⟨c, u, fc, [] ++ [], vs, []⟩ by
  unfold of reads writes regs
  simp only
  rw [if_neg h1, if_neg h2, if_neg h3])
 have d1 : decide (ct > 0) = false := by simpa using h1
 have d2 : decide (mn > 0) = false := by simpa using h2
 have d3 : (fc == 6) = false := by simp; omega
 have d4 : (fc == 16) = false := by simp; omega
 have d5 : (fc == 23) = false := by simp; omega
 clear h3 h1 h2
 go_enter Tryz.func23, Tryz.ntmps23
 go_wp2
 (try simp only [Exit.inBlock, Exit.then])
 refine bodyPost_ret (v := .agg #[.int .i64 c, .int .i64 u, .int .i64 fc, .slice none 0 0, .slice A vs.length cc, .slice none 0 0]) ?_ rfl ?_
 ·rw [results_c rfl]
  go_simp
 ·rw [HOF.out]
  have kp : ∀ V, Below w.heap.size w V -> RetOfC A cc ⟨c, u, fc, [] ++ [], vs, []⟩ w (.returned (.agg #[.int .i64 c, .int .i64 u, .int .i64 fc, .slice none 0 0, .slice A vs.length cc, .slice none 0 0])) V := fun V hK =>
   ⟨none, A, none, 0, cc, 0, rfl, ⟨⟨rfl, fun h => absurd h (Nat.lt_irrefl 0)⟩, hA.kept hK, Ints.none_ _ _ _ _⟩, hK, ⟨FreshB.zero _ _, .inr rfl, .inl (FreshB.zero _ _)⟩, .inl ⟨rfl, rfl⟩⟩
  refine kp _ ?_
  show Below w.heap.size w _
  repeat' (first | with_reducible exact Below.refl _ _ | with_reducible refine Below.setCell ?_ ?_ _ | with_reducible refine Below.alloc ?_ ?_ _ | (show w.heap.size <= w.heap.size + 1; omega) | (show w.heap.size <= w.heap.size + 1 + 1; omega) | exact Nat.le_refl _ | (simp; done) | (simp; omega))
theorem ref_of_cap (c u : Int) (a : AskP) (A : Option Addr) (cc : Nat) (w : World) (hn : a.vs.length <= 1000000) (hf : Fit a) (hA : Ints .i64 w w.heap.size A a.vs.length a.vs) :
  Calls Tryz.prog 23 #[.int .i64 c, .int .i64 u, .agg #[.int .i64 a.fc, .int .i64 a.rd, .int .i64 a.ct, .int .i64 a.wr, .int .i64 a.mn, .slice A a.vs.length cc]] w (RetOfC A cc (of c u a) w) := by
 have h3 : a.fc = 6 ∨ a.fc = 16 ∨ a.fc = 23 ∨ ¬ (a.fc = 6 ∨ a.fc = 16 ∨ a.fc = 23) := by omega
 by_cases h1 : 0 < a.ct <;> by_cases h2 : 0 < a.mn <;> rcases h3 with h3 | h3 | h3 | h3
 ·exact of_11_6 c u a A cc w hn hf hA h1 h2 h3
 ·exact of_11_16 c u a A cc w hn hf hA h1 h2 h3
 ·exact of_11_23 c u a A cc w hn hf hA h1 h2 h3
 ·exact of_11_0 c u a A cc w hn hf hA h1 h2 h3
 ·exact of_10_6 c u a A cc w hn hf hA h1 h2 h3
 ·exact of_10_16 c u a A cc w hn hf hA h1 h2 h3
 ·exact of_10_23 c u a A cc w hn hf hA h1 h2 h3
 ·exact of_10_0 c u a A cc w hn hf hA h1 h2 h3
 ·exact of_01_6 c u a A cc w hn hf hA h1 h2 h3
 ·exact of_01_16 c u a A cc w hn hf hA h1 h2 h3
 ·exact of_01_23 c u a A cc w hn hf hA h1 h2 h3
 ·exact of_01_0 c u a A cc w hn hf hA h1 h2 h3
 ·exact of_00_6 c u a A cc w hn hf hA h1 h2 h3
 ·exact of_00_16 c u a A cc w hn hf hA h1 h2 h3
 ·exact of_00_23 c u a A cc w hn hf hA h1 h2 h3
 ·exact of_00_0 c u a A cc w hn hf hA h1 h2 h3
end Go.Proofs.YtaciogcpghbhjaaGreat.Fa
