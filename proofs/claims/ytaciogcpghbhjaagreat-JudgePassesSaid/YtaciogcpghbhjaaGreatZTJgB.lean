/- Of these texts: JgB, JgX. Conditions: as each part says. -/
import Derived.Test.YtaciogcpghbhjaaGreatZTJgR
import Derived.Test.YtaciogcpghbhjaaGreatZTBuR
import Derived.Test.YtaciogcpghbhjaaGreatZTEqI
import Derived.Test.YtaciogcpghbhjaaGreatZTLib
import Derived.Test.YtaciogcpghbhjaaGreatZTRel
import Derived.Laws.ResultCell
/- Layer 24's own contracts: all but Frame. Conditions: at most a thousand rules that may be used, laid; levels as they are; a frame that may be. -/
namespace Go.Proofs.YtaciogcpghbhjaaGreat.Judge
set_option linter.unusedVariables false
set_option linter.unusedSimpArgs false
set_option maxRecDepth 100000
open Go.ChangeShapes Go.WideShapes Go.ChangeAt Go.RowKit
open Tr (zeroR Rus RuleAt)
open Jg
open Ref24 (RetLv RetJ ret_int levels_snoc tick_snoc ints_at ints_addr own_le1)
theorem info_int : (Tryz.prog.info? 3).map (fun i => (i.zero, i.size, i.bytes)) = some (some (.int .i64 0), 1, 8) := by kernel_rfl
theorem made_ints (n : Nat) : (madeCells (Value.int .i64 0).cells (n * 1)).toList = (List.replicate n (0 : Int)).map (Value.int .i64) := by
 simp [madeCells, Value.cells]
 apply List.ext_getElem <;> simp [Nat.mod_one]
structure But (b : Nat) (w w' : World) : Prop where
 os : w'.os = w.os
 tape : w'.tape = w.tape
 output : w'.output = w.output
 size : w.heap.size <= w'.heap.size
 block : ∀ k, k < w.heap.size -> k ≠ b -> w'.heap[k]? = w.heap[k]?
theorem But.of {b : Nat} {w w' : World} (h : Keep w w') : But b w w' := ⟨h.os, h.tape, h.output, h.size, fun k hk _ => h.block k hk⟩
theorem But.trans {b : Nat} {a c d : World} (h : But b a c) (k : But b c d) : But b a d :=
 ⟨k.os.trans h.os, k.tape.trans h.tape, k.output.trans h.output, Nat.le_trans h.size k.size, fun i hi hb => (k.block i (Nat.lt_of_lt_of_le hi h.size) hb).trans (h.block i hi hb)⟩
theorem But.set {b : Nat} {a w : World} (h : But b a w) (j : Nat) (v : Value) : But b a (w.setCell ⟨b, j, none⟩ v) :=
 h.trans ⟨rfl, rfl, rfl, by simp [World.setCell], fun k hk hb => Below.heap_setCell _ _ _ _ (show k ≠ b from hb)⟩
theorem But.cell {b : Nat} {w w' : World} (h : But b w w') {p : Addr} (hp : p.block < w.heap.size) (hb : p.block ≠ b) : w'.cell? p = w.cell? p := World.cell?_of_block (h.block _ hp hb)
theorem But.frozen {b : Nat} {w w' : World} (h : But b w w') {p : Addr} (hp : p.block < w.heap.size) (hb : p.block ≠ b) : w'.frozen? p = w.frozen? p := World.frozen?_of_block (h.block _ hp hb)
theorem But.below {b : Nat} {w w' : World} (h : But b w w') {B : Nat} (hB : B <= b) (hw : B <= w.heap.size) : Below B w w' :=
 ⟨h.os, h.tape, h.output, h.size, fun k hk => h.block k (by omega) (by omega)⟩
theorem own_lt {k : IntKind} {w : World} {base : Nat} {e : TypeId} {g cap n : Nat} {zs : List Int} (h : w.ownsRow base e 1 (.slice (some ⟨g, 0, none⟩) n cap) n (zs.map (Value.int k))) (hn : 0 < n) : g < w.heap.size := by
 obtain ⟨b, off, e, hb, _⟩ := (Ints.of_own h).2 hn
 injection e with e
 injection e with e
 subst e
 exact hb
theorem own_cell {k : IntKind} {w : World} {base : Nat} {e : TypeId} {g cap n : Nat} {zs : List Int} (h : w.ownsRow base e 1 (.slice (some ⟨g, 0, none⟩) n cap) n (zs.map (Value.int k))) (j : Nat) (hj : j < n) : w.cell? ⟨g, j, none⟩ = some (.int k (zs.getD j 0)) := by
 obtain ⟨g', c', eg, hc, _⟩ := own_int h j hj
 injection eg with e1
 injection e1 with e1
 injection e1 with e1
 subst e1
 exact hc
def mix (l : List RuleP) (k : Nat) : List Int := levels (l.take k) ++ List.replicate (l.length - k) 0
theorem levels_len (l : List RuleP) : (levels l).length = l.length := by simp [levels]
theorem mix_zero (l : List RuleP) : mix l 0 = List.replicate l.length 0 := by simp [mix, levels]
theorem mix_all (l : List RuleP) : mix l l.length = levels l := by simp [mix]
theorem mix_step (l : List RuleP) (k : Nat) (h : k < l.length) : (mix l k).set k (Bu.full (rate (l.getD k zeroR))) = mix l (k + 1) := by
 unfold mix
 rw [levels_snoc l k h, show l.length - k = (l.length - (k + 1)) + 1 by omega, List.replicate_succ, List.set_append_right _ _ (by rw [levels_len, List.length_take]; omega)]
 rw [levels_len, List.length_take, show k - min k l.length = 0 by omega, List.set_cons_zero, List.append_assoc]; rfl
theorem mix_same (l : List RuleP) (k : Nat) (h : k < l.length) (h0 : Bu.full (rate (l.getD k zeroR)) = 0) : mix l k = mix l (k + 1) := by
 unfold mix
 rw [levels_snoc l k h, h0, show l.length - k = (l.length - (k + 1)) + 1 by omega, List.replicate_succ, List.append_assoc]; rfl
def mixT (l : List RuleP) (lv : List Int) (k : Nat) : List Int := tick (l.take k) (lv.take k) ++ lv.drop k
theorem mixT_zero (l : List RuleP) (lv : List Int) : mixT l lv 0 = lv := by simp [mixT, tick]
theorem mixT_all (l : List RuleP) (lv : List Int) (h : lv.length = l.length) : mixT l lv l.length = tick l lv := by
 unfold mixT; rw [List.take_length, <- h, List.take_length, List.drop_length, List.append_nil]
theorem tick_take_len {l : List RuleP} {lv : List Int} (h : lv.length = l.length) {k : Nat} (hk : k < l.length) : (tick (l.take k) (lv.take k)).length = k := by
 unfold tick; rw [List.length_zipWith, List.length_take, List.length_take]; omega
theorem mixT_get (l : List RuleP) (lv : List Int) (k : Nat) (h : lv.length = l.length) (hk : k < l.length) : (mixT l lv k).getD k 0 = lv.getD k 0 := by
 unfold mixT
 simp only [List.getD_eq_getElem?_getD]
 rw [List.getElem?_append_right (by rw [tick_take_len h hk]; exact Nat.le_refl _), tick_take_len h hk, Nat.sub_self, List.getElem?_drop, Nat.add_zero]
theorem mixT_step (l : List RuleP) (lv : List Int) (k : Nat) (h : lv.length = l.length) (hk : k < l.length) : (mixT l lv k).set k (tick1 (l.getD k zeroR) (lv.getD k 0)) = mixT l lv (k + 1) := by
 unfold mixT
 rw [tick_snoc l lv k hk (by omega), List.set_append_right _ _ (by rw [tick_take_len h hk]; exact Nat.le_refl _), tick_take_len h hk, Nat.sub_self, List.drop_eq_getElem_cons (by omega), List.set_cons_zero, List.append_assoc]; rfl
theorem mixT_same (l : List RuleP) (lv : List Int) (k : Nat) (h : lv.length = l.length) (hk : k < l.length) (h0 : tick1 (l.getD k zeroR) (lv.getD k 0) = lv.getD k 0) : mixT l lv k = mixT l lv (k + 1) := by
 rw [<- mixT_step l lv k h hk, h0]
 unfold mixT
 rw [List.set_append_right _ _ (by rw [tick_take_len h hk]; exact Nat.le_refl _), tick_take_len h hk, Nat.sub_self, List.drop_eq_getElem_cons (by omega), List.set_cons_zero, getI lv k (by omega)]
set_option maxHeartbeats 400000 in
theorem code_any (v : Int) (w : World) :
  Calls Tryz.prog 6 #[.int .i64 v] w fun e w' => e = .returned (.int .i64 (code v)) ∧ Keep w w' := by
 have HE := Lib.hid (show code v = if v = 3 ∨ v = 2 then 1 else if v = 4 then 2 else if v = 5 then 3 else if v = 6 ∨ v = 7 then 6 else 0 from rfl)
 go_enter Tryz.func6, Tryz.ntmps6
 go_wp2
 all_goals (go_ret; refine ⟨ret_int ?_, Keep.refl _⟩; rw [HE.out]; simp_all)
theorem hasRate_any (al : Bool) (k f : Int) (RA : Option Addr) (rn rc : Nat) (lo hi : Nat) (OA : Option Addr) (on oc : Nat) (n p b ln : Int) (w : World) :
  Calls Tryz.prog 29 #[.agg #[.bool al, .int .i64 k, .int .i64 f, .slice RA rn rc, .float .f64 lo, .float .f64 hi, .slice OA on oc, .int .i64 n, .int .i64 p, .int .i64 b, .int .i64 ln]] w fun e w' => e = .returned (.bool (!(p == 0))) ∧ Keep w w' := by
 go_enter Tryz.func29, Tryz.ntmps29
 go_wp2
 go_ret
 exact ⟨rfl, (Keep.refl w).alloc _⟩
theorem refusal_any (er : Int) (w : World) :
  Calls Tryz.prog 36 #[.int .i64 er] w fun e w' => e = .returned (.int .i64 (if er = 2 then 3 else if er = 3 then 4 else 5)) ∧ w = w' := by
 obtain ⟨z, hz⟩ : ∃ z : Int, z = (if er = 2 then 3 else if er = 3 then 4 else 5) := ⟨_, rfl⟩
 rw [<- hz]
 have HZ := Lib.hid hz
 clear hz
 go_enter Tryz.func36, Tryz.ntmps36
 go_wp2
 all_goals (go_ret; refine ⟨ret_int ?_, rfl⟩; rw [HZ.out]; simp_all)
def LevRel (w : World) (l : List RuleP) (i : Value) (wr : World) : Prop :=
 ∃ k : Nat, k <= l.length ∧ i = .int .i64 k ∧ wr.ownsRow w.heap.size 3 1 (.slice (some ⟨w.heap.size, 0, none⟩) l.length l.length) l.length ((mix l k).map (Value.int .i64)) ∧ Keep w wr
set_option maxHeartbeats 2000000 in
theorem levels_any (A : Option Addr) (c : Nat) (l : List RuleP) (w : World) (hl : l.length <= 1000) (hj : okJ l) (hR : Rus w A l) :
  Calls Tryz.prog 10 #[.slice A l.length c] w (RetLv (levels l) w) := by
 obtain ⟨i0, hi, hz0, hz1, hz2⟩ := info_parts info_int
 have HJ := Lib.hid hj
 have hsf : ∀ (w : World) (a : Addr) (b : Nat) (m : Mode), (store a (.float .f64 b) m).run Tryz.prog w = stored Tryz.prog w a (.float .f64 b) m := fun w a b m => run_store Tryz.prog w a _ m rfl
 clear hj
 go_enter Tryz.func10, Tryz.ntmps10
 go_wp2_with (at_make; refine wpList_make_full _ rfl _ _ 33 rfl w.heap.size 3 i0 (.int .i64 0) 1 Tryz.underlying33 hi hz0 hz1 _ _ _ _ l.length rfl rfl rfl rfl ?b2 ?b3 (Nat.le_refl _) ?_)
 case b2 => rw [hz2]; omega
 case b3 => unfold maxLen; omega
 intro w0 hown0 hgrow0
 have HR := Lib.hid hR
 clear hR
 go_wp2
 go_loopw [4, 5, 11] (fun _ _ i wr => LevRel w l i wr) (fun _ _ i _ => l.length - (intOf i).toNat)
 case atStart => exact ⟨0, Nat.zero_le _, rfl, by rw [mix_zero, <- made_ints, Nat.mul_one]; exact hown0, (Below.refl _ _).grown hgrow0 (Nat.le_refl _) (fun k h => by cases h)⟩
 case round =>
  obtain ⟨k, hk, rfl, hown, hK⟩ := hrel
  by_cases hlt : k < l.length
  ·have hltz : (k : Int) < l.length := by omega
   have hk0 : (0 : Int) <= k := by omega
   have hRw := HR.out.kept hK
   obtain ⟨b, off, rfl, _⟩ := hRw.addr (by omega)
   obtain ⟨hbb, RA, OA', rc, oc', hr, _⟩ := hRw.elem k hlt
   have hjk := HJ.out.at k hlt
   have hst := mix_step l k hlt
   have hsm := mix_same l k hlt
   generalize l.getD k zeroR = r at hr hjk hst hsm
   obtain ⟨c0, c1, c2, c3, c4, c5, c6, c7, c8, c9, c10⟩ := hr
   obtain ⟨X, hX⟩ : ∃ X, X = wr.alloc (.cells #[.bool r.allow, .int .i64 (Tr.kind r.when_), .int .i64 (Tr.field r.when_), .slice RA (Tr.rs r.when_).length rc, .float .f64 (Tr.lo r.when_), .float .f64 (Tr.hi r.when_), .slice OA' (Tr.of r.when_).length oc', .int .i64 r.num, .int .i64 r.per, .int .i64 r.burst, .int .i64 r.line] 63) := ⟨_, rfl⟩
   have kX : Keep wr X := by rw [hX]; exact (Keep.refl wr).alloc _
   have hsX : wr.heap.size < X.heap.size := by rw [hX]; simp
   have b7 : X.cell? ⟨wr.heap.size, 7, none⟩ = some (.int .i64 r.num) := by rw [hX]; go_simp
   have b8 : X.cell? ⟨wr.heap.size, 8, none⟩ = some (.int .i64 r.per) := by rw [hX]; go_simp
   have b9 : X.cell? ⟨wr.heap.size, 9, none⟩ = some (.int .i64 r.burst) := by rw [hX]; go_simp
   have HC := Lib.hid (hasRate_any r.allow (Tr.kind r.when_) (Tr.field r.when_) RA (Tr.rs r.when_).length rc (Tr.lo r.when_) (Tr.hi r.when_) OA' (Tr.of r.when_).length oc' r.num r.per r.burst r.line X)
   have HX := Lib.hid hX
   clear hX hRw
   by_cases hp : r.per = 0
   ·have d : (!(r.per == 0)) = false := by simp [hp]
    have HS := Lib.hid (hsm (by
     rcases hjk with h | h
     ·exact full_zero h
     ·have := ((Bu.right_iff _).1 h).2.2.1
      have : 1 <= r.per := this
      omega))
    clear hst hsm hjk hp
    go_wp2_with fail
    rw [<- HX.out]
    refine HC.out.mono ?_
    rintro e w1 ⟨rfl, k1⟩
    have kr : Keep wr w1 := kX.trans k1
    clear b7 b8 b9 k1 c0 c1 c2 c3 c4 c5 c6 c7 c8 c9 c10
    go_wp2
    exact ⟨⟨k + 1, by omega, by go_num, by rw [<- HS.out]; exact own_keep hown kr, hK.trans kr⟩, by simp [intOf]; omega⟩
   ·have d : (!(r.per == 0)) = true := by simp [hp]
    have hrt : Bu.right (rate r) = true := by
     rcases hjk with h | h
     ·exact absurd h.1 hp
     ·exact h
    have HS := Lib.hid hst
    have HF := Lib.hid fun W => Bucket.full_any (rate r) W hrt
    simp only [rate] at HF
    clear hst hsm hjk hp hrt
    go_wp2_with fail
    rw [<- HX.out]
    refine HC.out.mono ?_
    rintro e w1 ⟨rfl, k1⟩
    replace b7 := (Below.cell k1 hsX).trans b7
    replace b8 := (Below.cell k1 hsX).trans b8
    replace b9 := (Below.cell k1 hsX).trans b9
    have kr : Keep wr w1 := kX.trans k1
    clear k1 c0 c1 c2 c3 c4 c5 c6 c7 c8 c9 c10
    go_wp2_with fail
    refine (HF.out _).mono ?_
    rintro e w2 ⟨rfl, k2⟩
    have hown2 := own_keep hown (kr.trans k2)
    have hK2 := hK.trans (kr.trans k2)
    have hfz : w2.frozen? ⟨w.heap.size, k, none⟩ = false := hown2.frozenAt _
    have hcx := own_cell hown2 k hlt
    go_wp2
    exact ⟨⟨k + 1, by omega, by go_num, by rw [<- HS.out]; exact own_write_int hown2 k _, hK2.setCell (Nat.le_refl _) _⟩, by simp [intOf]; omega⟩
  ·obtain rfl : k = l.length := by omega
   rw [mix_all] at hown
   go_wp2
   go_ret
   exact ⟨_, _, _, rfl, (own_le1 hown).1, (own_le1 hown).2, Ints.of_own hown, hK, FreshR.of_own hown (Nat.le_refl _)⟩
def TickRel (w : World) (l : List RuleP) (lv : List Int) (B : Option Addr) (d : Nat) (i : Value) (wr : World) : Prop :=
 ∃ k : Nat, k <= l.length ∧ i = .int .i64 k ∧ wr.ownsRow w.heap.size 3 1 (.slice B l.length d) l.length ((mixT l lv k).map (Value.int .i64)) ∧ Keep w wr
set_option maxHeartbeats 4000000 in
theorem tick_any (A B : Option Addr) (c d : Nat) (l : List RuleP) (lv : List Int) (w : World) (hl : l.length <= 1000) (hj : okJ l) (hv : okV l lv) (hR : Rus w A l) (hd : l.length <= d) (hd2 : d <= maxLen) (hB : Ints .i64 w w.heap.size B l.length lv) :
  Calls Tryz.prog 13 #[.slice A l.length c, .slice B l.length d] w (RetLv (tick l lv) w) := by
 have HJ := Lib.hid hj
 have HV := Lib.hid hv
 have HR := Lib.hid hR
 have HC := Lib.hid (EqI.clone_any B l.length d lv w (by omega) hB)
 clear hj hv hR hB
 go_enter Tryz.func13, Tryz.ntmps13
 go_wp2_with fail
 refine HC.out.mono ?_
 rintro e w0 ⟨D, dc, rfl, hown0, k0⟩
 have hmin : min (l.length : Int) (l.length : Int) = (l.length : Int) := Int.min_self _
 go_wp2
 go_loopw [6, 14] (fun _ i wr => TickRel w l lv D dc i wr) (fun _ i _ => l.length - (intOf i).toNat)
 case atStart => exact ⟨0, Nat.zero_le _, rfl, by rw [mixT_zero]; exact hown0, k0⟩
 case round =>
  obtain ⟨k, hk, rfl, hown, hK⟩ := hrel
  by_cases hlt : k < l.length
  ·have hltz : (k : Int) < l.length := by omega
   have hk0 : (0 : Int) <= k := by omega
   have hRw := HR.out.kept hK
   obtain ⟨b, off, rfl, _⟩ := hRw.addr (by omega)
   obtain ⟨hbb, RA, OA', rc, oc', hr, _⟩ := hRw.elem k hlt
   obtain ⟨g, gc, eg, hgc, hgf, hgb, hgn⟩ := own_int hown k hlt
   injection eg with e1 _ e2
   subst e1 e2
   rw [mixT_get l lv k HV.out.1 hlt] at hgc
   have hjk := HJ.out.at k hlt
   have hvk := HV.out.2 k hlt
   have hst := mixT_step l lv k HV.out.1 hlt
   have hsm := mixT_same l lv k HV.out.1 hlt
   generalize l.getD k zeroR = r at hr hjk hst hsm hvk
   generalize lv.getD k 0 = x at hgc hst hsm hvk
   obtain ⟨c0, c1, c2, c3, c4, c5, c6, c7, c8, c9, c10⟩ := hr
   have HC := Lib.hid (hasRate_any r.allow (Tr.kind r.when_) (Tr.field r.when_) RA (Tr.rs r.when_).length rc (Tr.lo r.when_) (Tr.hi r.when_) OA' (Tr.of r.when_).length oc' r.num r.per r.burst r.line wr)
   clear hRw
   by_cases hp : r.per = 0
   ·have d : (!(r.per == 0)) = false := by simp [hp]
    have HS := Lib.hid (hsm (by
     have hf : Bu.full (rate r) = 0 := by
      rcases hjk with h | h
      ·exact full_zero h
      ·have := ((Bu.right_iff _).1 h).2.2.1
       have : 1 <= r.per := this
       omega
     unfold tick1
     rw [if_neg (by omega)]
     omega))
    clear hst hsm hjk hp hvk
    go_wp2_with fail
    refine HC.out.mono ?_
    rintro e w1 ⟨rfl, k1⟩
    clear c0 c1 c2 c3 c4 c5 c6 c7 c8 c9 c10 hgc hgf
    go_wp2
    exact ⟨⟨k + 1, by omega, by go_num, by rw [<- HS.out]; exact own_keep hown k1, hK.trans k1⟩, by simp [intOf]; omega⟩
   ·have d : (!(r.per == 0)) = true := by simp [hp]
    have hrt : Bu.right (rate r) = true := by
     rcases hjk with h | h
     ·exact absurd h.1 hp
     ·exact h
    have hp0 : 0 < r.per := by
     have := ((Bu.right_iff _).1 hrt).2.2.1
     have : 1 <= r.per := this
     omega
    have HS := Lib.hid (show (mixT l lv k).set k (Bu.tick x (rate r)) = mixT l lv (k + 1) by rw [<- hst]; unfold tick1; rw [if_pos hp0])
    have hT := fun p : KeptOf wr => Bucket.tick_any x (rate r) p.w hrt hvk.1 hvk.2
    simp only [rate] at hT
    have HT := Lib.hid hT
    clear hst hsm hjk hp hrt hvk hT hp0
    go_wp2_with fail
    refine HC.out.mono ?_
    rintro e w1 ⟨rfl, k1⟩
    have hown1 := own_keep hown k1
    have hK1 := hK.trans k1
    have hbw : b < w1.heap.size := Nat.lt_of_lt_of_le hbb k1.size
    have hgl : g < wr.heap.size := own_lt hown (by omega)
    replace hgc := (Below.cell k1 hgl).trans hgc
    replace c7 := (Below.cell k1 hbb).trans c7
    replace c8 := (Below.cell k1 hbb).trans c8
    replace c9 := (Below.cell k1 hbb).trans c9
    have z0 : ∀ p : KeptOf w1, p.w.cell? ⟨g, k, none⟩ = some (.int .i64 x) := fun p => (Below.cell p.h (Nat.lt_of_lt_of_le hgl k1.size)).trans hgc
    have z7 : ∀ p : KeptOf w1, p.w.cell? ⟨b, off + k * 11 + 7, none⟩ = some (.int .i64 r.num) := fun p => (Below.cell p.h hbw).trans c7
    have z8 : ∀ p : KeptOf w1, p.w.cell? ⟨b, off + k * 11 + 8, none⟩ = some (.int .i64 r.per) := fun p => (Below.cell p.h hbw).trans c8
    have z9 : ∀ p : KeptOf w1, p.w.cell? ⟨b, off + k * 11 + 9, none⟩ = some (.int .i64 r.burst) := fun p => (Below.cell p.h hbw).trans c9
    have hT := fun p : KeptOf w1 => HT.out ⟨p.w, k1.trans p.h⟩
    clear c0 c1 c2 c3 c4 c5 c6 c7 c8 c9 c10 hgc hown hK hgf
    go_wp2_with fail
    refine wp_region_kept_tail 13 (by kernel_rfl) (by kernel_rfl) ?_
    simp only [List.take_succ_cons, List.take_zero, List.drop_succ_cons, List.drop_zero]
    repeat (go_big_quiet_step (first | with_reducible exact KeptOf.of (hT _)))
    refine Go.wpQuiet_nil ?_
    intro p
    have hown2 := own_keep hown1 p.h
    have hK2 := hK1.trans p.h
    have hfz : p.w.frozen? ⟨g, k, none⟩ = false := hown2.frozenAt _
    have hcx := own_cell hown2 k hlt
    clear z0 z7 z8 z9 hT
    go_wp2
    exact ⟨⟨k + 1, by omega, by go_num, by rw [<- HS.out]; exact own_write_int hown2 k _, hK2.setCell hgb _⟩, by simp [intOf]; omega⟩
  ·obtain rfl : k = l.length := by omega
   rw [mixT_all l lv HV.out.1] at hown
   go_wp2
   go_ret
   exact ⟨_, _, _, rfl, (own_le1 hown).1, (own_le1 hown).2, Ints.of_own hown, hK, FreshR.of_own hown (Nat.le_refl _)⟩
set_option maxHeartbeats 2000000 in
theorem take_any (base g n cap k : Nat) (lv : List Int) (r : RateB) (w : World) (hk : k < n) (hr : Bu.right r = true) (h0 : 0 <= lv.getD k 0) (h1 : lv.getD k 0 <= Bu.full r) (hown : w.ownsRow base 3 1 (.slice (some ⟨g, 0, none⟩) n cap) n (lv.map (Value.int .i64))) :
  Calls Tryz.prog 59 #[.slice (some ⟨g, 0, none⟩) n cap, .int .i64 k, .agg #[.int .i64 r.num, .int .i64 r.per, .int .i64 r.burst]] w fun e w' =>
   e = .returned (.bool (!decide (lv.getD k 0 < r.per))) ∧ w'.ownsRow base 3 1 (.slice (some ⟨g, 0, none⟩) n cap) n ((lv.set k (if lv.getD k 0 < r.per then lv.getD k 0 else lv.getD k 0 - r.per)).map (Value.int .i64)) ∧ But g w w' := by
 have hcx := own_cell hown k hk
 have hltz : ¬ (n : Int) <= k := by omega
 have hk0 : (0 : Int) <= k := by omega
 have hgl : g < w.heap.size := own_lt hown (by omega)
 have HOWN := Lib.hid hown
 clear hown
 obtain ⟨x, hx⟩ : ∃ x, x = lv.getD k 0 := ⟨_, rfl⟩
 rw [<- hx] at hcx h0 h1 ⊢
 clear hx
 obtain ⟨X, hX⟩ : ∃ X, X = w.alloc (.cells #[.int .i64 r.num, .int .i64 r.per, .int .i64 r.burst] 61) := ⟨_, rfl⟩
 have kX : Keep w X := by rw [hX]; exact (Keep.refl w).alloc _
 have B0 : Bu.Bx w.heap.size r X := by rw [hX]; exact Bu.Bx.new w r _
 have hT := fun p : KeptOf X => Bucket.take_any x r p.w hr h0 h1
 have z0 : ∀ p : KeptOf X, p.w.cell? ⟨g, k, none⟩ = some (.int .i64 x) := fun p => (Below.cell p.h (Nat.lt_of_lt_of_le hgl kX.size)).trans ((Below.cell kX hgl).trans hcx)
 have hc : ∀ p : KeptOf X, Bu.Bx w.heap.size r p.w := fun p => B0.kept p.h
 have hc0 := fun p => (hc p).1.1
 have hc1 := fun p => (hc p).1.2.1
 have hc2 := fun p => (hc p).1.2.2
 clear hc B0 hcx
 have HX := Lib.hid hX
 clear hX
 by_cases hlt : x < r.per
 ·have d : decide (x < r.per) = true := by simp [hlt]
  simp only [if_pos hlt, d, Bool.not_true] at hT ⊢
  go_enter Tryz.func59, Tryz.ntmps59
  go_wp2_with fail
  rw [<- HX.out]
  refine wp_region_kept (by kernel_rfl) (by kernel_rfl) ?_
  repeat (go_big_quiet_step (first | with_reducible exact KeptOf.of (hT _)))
  refine Go.wpQuiet_nil ?_
  intro W hw'
  have hw : Keep X W := by
   obtain ⟨⟨W', hw⟩, hw''⟩ := hw'
   subst hw''
   exact hw
  have hownW := own_keep (own_keep HOWN.out kX) hw
  have hfz : W.frozen? ⟨g, k, none⟩ = false := hownW.frozenAt _
  have hcx := z0 ⟨W, hw⟩
  clear z0 hc0 hc1 hc2 hT
  go_wp2
  go_ret
  exact ⟨rfl, (hownW.stored k (.int .i64 x)).1, (But.of (kX.trans hw)).set k _⟩
 ·have d : decide (x < r.per) = false := by simp [hlt]
  simp only [if_neg hlt, d, Bool.not_false] at hT ⊢
  go_enter Tryz.func59, Tryz.ntmps59
  go_wp2_with fail
  rw [<- HX.out]
  refine wp_region_kept (by kernel_rfl) (by kernel_rfl) ?_
  repeat (go_big_quiet_step (first | with_reducible exact KeptOf.of (hT _)))
  refine Go.wpQuiet_nil ?_
  intro W hw'
  have hw : Keep X W := by
   obtain ⟨⟨W', hw⟩, hw''⟩ := hw'
   subst hw''
   exact hw
  have hownW := own_keep (own_keep HOWN.out kX) hw
  have hfz : W.frozen? ⟨g, k, none⟩ = false := hownW.frozenAt _
  have hcx := z0 ⟨W, hw⟩
  clear z0 hc0 hc1 hc2 hT
  go_wp2
  go_ret
  exact ⟨rfl, (hownW.stored k (.int .i64 (x - r.per))).1, (But.of (kX.trans hw)).set k _⟩
def ver (l : List RuleP) (lv : List Int) (k : Int) (full : Bool) : Int × List Int :=
 if k < 0 ∨ (l.getD k.toNat zeroR).allow = false then (2, lv) else if full then (7, lv) else if (l.getD k.toNat zeroR).per = 0 then (1, lv)
 else if lv.getD k.toNat 0 < (l.getD k.toNat zeroR).per then (6, lv) else (1, lv.set k.toNat (lv.getD k.toNat 0 - (l.getD k.toNat zeroR).per))
def RetV (v : Int × List Int) (base : Nat) (B : Option Addr) (n d : Nat) (w : World) (e : Ending) (w' : World) : Prop :=
 e = .returned (.int .i64 v.1) ∧ w'.ownsRow base 3 1 (.slice B n d) n (v.2.map (Value.int .i64)) ∧ (Keep w w' ∨ ∃ g, B = some ⟨g, 0, none⟩ ∧ base <= g ∧ g < w.heap.size ∧ But g w w')
set_option maxHeartbeats 4000000 in
theorem verdict_any (base : Nat) (LA B : Option Addr) (lc dc : Nat) (l : List RuleP) (lv : List Int) (k : Int) (full : Bool) (w : World) (hl : l.length <= 1000) (hj : okJ l) (hv : okV l lv) (hk : k = -1 ∨ (0 <= k ∧ k < l.length)) (hR : Rus w LA l) (hown : w.ownsRow base 3 1 (.slice B l.length dc) l.length (lv.map (Value.int .i64))) :
  Calls Tryz.prog 39 #[.slice LA l.length lc, .int .i64 k, .slice B l.length dc, .bool full] w (RetV (ver l lv k full) base B l.length dc w) := by
 rcases hk with rfl | ⟨hk0, hk1⟩
 ·have HE := Lib.hid (show ver l lv (-1) full = (2, lv) by unfold ver; rw [if_pos (.inl (by decide))])
  have HO := Lib.hid hown
  clear hj hv hR hown
  go_enter Tryz.func39, Tryz.ntmps39
  go_wp2
  go_ret
  rw [HE.out]
  exact ⟨rfl, HO.out, .inl (Keep.refl _)⟩
 obtain ⟨j, rfl⟩ : ∃ j : Nat, k = j := ⟨k.toNat, by omega⟩
 have hlt : j < l.length := by omega
 have hn0 : ¬ (j : Int) < 0 := by omega
 have hn1 : ¬ (l.length : Int) <= j := by omega
 obtain ⟨b, off, rfl, _⟩ := hR.addr (by omega)
 obtain ⟨hbb, RA, OA', rc, oc', hr, _⟩ := hR.elem j hlt
 have hjk := hj.at j hlt
 have hvk := hv.2 j hlt
 obtain ⟨g, gc, eg, _, _, hgb, hgn⟩ := own_int hown j hlt
 injection eg with e1 _ e2
 subst e1 e2
 have hgl : g < w.heap.size := own_lt hown (by omega)
 have HV := Lib.hid (show ver l lv j full = (if (j : Int) < 0 ∨ (l.getD j zeroR).allow = false then (2, lv) else if full then (7, lv) else if (l.getD j zeroR).per = 0 then (1, lv)
  else if lv.getD j 0 < (l.getD j zeroR).per then (6, lv) else (1, lv.set j (lv.getD j 0 - (l.getD j zeroR).per))) from rfl)
 obtain ⟨v, hv⟩ : ∃ v, v = ver l lv j full := ⟨_, rfl⟩
 have hset : lv.set j (lv.getD j 0) = lv := by
  have h1 : j < lv.length := by
   have := hown.1
   rw [List.length_map] at this
   omega
  rw [getI lv j h1, List.set_getElem_self]
 have HSET := Lib.hid hset
 have HO := Lib.hid hown
 rw [<- hv] at HV ⊢
 clear hset hv hown hj hR
 generalize l.getD j zeroR = r at hr hjk hvk HV
 obtain ⟨c0, c1, c2, c3, c4, c5, c6, c7, c8, c9, c10⟩ := hr
 by_cases ha : r.allow = false
 ·have HE := Lib.hid (show v = (2, lv) by rw [HV.out, if_pos (.inr ha)])
  rw [ha] at c0
  clear HV c1 c2 c3 c4 c5 c6 c7 c8 c9 c10
  go_enter Tryz.func39, Tryz.ntmps39
  go_wp2
  go_ret
  rw [HE.out]
  exact ⟨rfl, HO.out, .inl (Keep.refl _)⟩
 have ha1 : r.allow = true := by simpa using ha
 rw [ha1] at c0
 have HV1 := Lib.hid (HV.out.trans (if_neg (by rintro (h | h); exact hn0 h; exact ha h)))
 clear HV ha
 cases full with
 | true =>
   have HE := Lib.hid (HV1.out.trans (if_pos rfl))
   clear HV1 c1 c2 c3 c4 c5 c6 c7 c8 c9 c10
   go_enter Tryz.func39, Tryz.ntmps39
   go_wp2
   go_ret
   rw [HE.out]
   exact ⟨rfl, HO.out, .inl (Keep.refl _)⟩
 | false =>
   have HV2 := Lib.hid (HV1.out.trans (if_neg (by decide)))
   have HC := Lib.hid (hasRate_any true (Tr.kind r.when_) (Tr.field r.when_) RA (Tr.rs r.when_).length rc (Tr.lo r.when_) (Tr.hi r.when_) OA' (Tr.of r.when_).length oc' r.num r.per r.burst r.line w)
   clear HV1
   by_cases hp : r.per = 0
   ·have HE := Lib.hid (HV2.out.trans (if_pos hp))
    have d : (!(r.per == 0)) = false := by simp [hp]
    clear HV2 hp hjk hvk
    go_enter Tryz.func39, Tryz.ntmps39
    go_wp2_with fail
    refine HC.out.mono ?_
    rintro e w1 ⟨rfl, k1⟩
    clear c0 c1 c2 c3 c4 c5 c6 c7 c8 c9 c10
    go_wp2
    go_ret
    rw [HE.out]
    exact ⟨rfl, own_keep HO.out k1, .inl k1⟩
   ·have d : (!(r.per == 0)) = true := by simp [hp]
    have hrt : Bu.right (rate r) = true := by
     rcases hjk with h | h
     ·exact absurd h.1 hp
     ·exact h
    have HV3 := Lib.hid (HV2.out.trans (if_neg hp))
    obtain ⟨x, hx⟩ : ∃ x, x = lv.getD j 0 := ⟨_, rfl⟩
    rw [<- hx] at HV3 HSET
    have HT : Hid (∀ W, Keep w W -> Calls Tryz.prog 59 #[.slice (some ⟨g, 0, none⟩) l.length dc, .int .i64 j, .agg #[.int .i64 r.num, .int .i64 r.per, .int .i64 r.burst]] W fun e w' =>
      e = .returned (.bool (!decide (x < r.per))) ∧ w'.ownsRow base 3 1 (.slice (some ⟨g, 0, none⟩) l.length dc) l.length ((lv.set j (if x < r.per then x else x - r.per)).map (Value.int .i64)) ∧ But g W w') :=
     Lib.hid (by rw [hx]; exact fun W h => take_any base g l.length dc j lv (rate r) W hlt hrt hvk.1 hvk.2 (own_keep HO.out h))
    clear HV2 hp hjk hvk hrt hx
    go_enter Tryz.func39, Tryz.ntmps39
    go_wp2_with fail
    refine HC.out.mono ?_
    rintro e w1 ⟨rfl, k1⟩
    have hbw : b < w1.heap.size := Nat.lt_of_lt_of_le hbb k1.size
    replace c7 := (Below.cell k1 hbb).trans c7
    replace c8 := (Below.cell k1 hbb).trans c8
    replace c9 := (Below.cell k1 hbb).trans c9
    clear c0 c1 c2 c3 c4 c5 c6 c10
    go_wp2_with fail
    refine (HT.out w1 k1).mono ?_
    rintro e w2 ⟨rfl, hown2, hb2⟩
    by_cases hlx : x < r.per
    ·have dx : decide (x < r.per) = true := by simp [hlx]
     have HE := Lib.hid (HV3.out.trans (if_pos hlx))
     simp only [hlx, ↓reduceIte, HSET.out] at hown2
     simp only [dx, Bool.not_true]
     clear HV3 hlx
     go_wp2
     go_ret
     rw [HE.out]
     exact ⟨rfl, hown2, .inr ⟨g, rfl, hgb, hgl, (But.of k1).trans hb2⟩⟩
    ·have dx : decide (x < r.per) = false := by simp [hlx]
     have HE := Lib.hid (HV3.out.trans (if_neg hlx))
     simp only [hlx, ↓reduceIte] at hown2
     simp only [dx, Bool.not_false]
     clear HV3 hlx
     go_wp2
     go_ret
     rw [HE.out]
     exact ⟨rfl, hown2, .inr ⟨g, rfl, hgb, hgl, (But.of k1).trans hb2⟩⟩
end Go.Proofs.YtaciogcpghbhjaaGreat.Judge
/- Layer 24's own contracts: Excuse. Conditions: a frame that may be. -/
namespace Go.Proofs.YtaciogcpghbhjaaGreat.Judge
set_option linter.unusedVariables false
set_option linter.unusedSimpArgs false
set_option maxRecDepth 100000
open Go.ChangeShapes Go.WideShapes Go.ChangeAt Go.RowKit
open Jg
open Ref24 (ret_int code_range)
theorem or_all : (List.range 256).all (fun n => bits BinOp.or IntKind.u8 (n : Int) 128 == (n : Int) % 128 + 128) = true := by kernel_rfl
theorem or_any {z : Int} (h0 : 0 <= z) (h1 : z <= 255) : bits BinOp.or IntKind.u8 z 128 = z % 128 + 128 := by
 obtain ⟨n, rfl⟩ : ∃ n : Nat, z = n := ⟨z.toNat, by omega⟩
 exact beq_iff_eq.1 (List.all_eq_true.1 or_all n (List.mem_range.2 (by omega)))
set_option maxHeartbeats 4000000 in
theorem excuse_any (f : FrameP) (v : Int) (w : World) (hf : Mb.right f = true) :
  Calls Tryz.prog 17 #[.agg #[.int .i64 f.id, .int .i64 f.unit, .string f.pdu], .int .i64 v] w fun e w' => e = .returned (.tuple #[.agg #[.int .i64 (excuse f v).id, .int .i64 (excuse f v).unit, .string (excuse f v).pdu], .bool (excuseOk v)]) ∧ Keep w w' := by
 have hp := (Mb.right_iff f).1 hf
 obtain ⟨X, hX⟩ : ∃ X, X = (w.alloc (.cells #[.int .i64 f.id, .int .i64 f.unit, .string f.pdu] 37)).alloc (.cells #[.int .i64 0, .int .i64 0, .string ⟨#[]⟩] 37) := ⟨_, rfl⟩
 have k0 : Keep w X := by rw [hX]; exact ((Keep.refl w).alloc _).alloc _
 have hs1 : w.heap.size < X.heap.size := by rw [hX]; simp; omega
 have hs2 : w.heap.size + 1 < X.heap.size := by rw [hX]; simp
 have b0 : X.cell? ⟨w.heap.size, 0, none⟩ = some (.int .i64 f.id) := by rw [hX]; go_simp
 have b1 : X.cell? ⟨w.heap.size, 1, none⟩ = some (.int .i64 f.unit) := by rw [hX]; go_simp
 have b2 : X.cell? ⟨w.heap.size, 2, none⟩ = some (.string f.pdu) := by rw [hX]; go_simp
 have a0 : X.cell? ⟨w.heap.size + 1, 0, none⟩ = some (.int .i64 0) := by rw [hX]; go_simp
 have a1 : X.cell? ⟨w.heap.size + 1, 1, none⟩ = some (.int .i64 0) := by rw [hX]; go_simp
 have a2 : X.cell? ⟨w.heap.size + 1, 2, none⟩ = some (.string ⟨#[]⟩) := by rw [hX]; go_simp
 have f0 : ∀ j, X.frozen? ⟨w.heap.size + 1, j, none⟩ = false := fun j => by rw [hX]; go_simp
 have HC := Lib.hid fun W => code_any v W
 have hcr := code_range v
 have HEX := Lib.hid (show excuse f v = (if code v = 0 then Mb.zero else ⟨f.id, f.unit, st [UInt8.ofNat (byteAt f.pdu 0 % 128 + 128).toNat, UInt8.ofNat (code v).toNat]⟩) from rfl)
 have HOK := Lib.hid (show excuseOk v = !(code v == 0) from rfl)
 obtain ⟨c, hc⟩ : ∃ c, c = code v := ⟨_, rfl⟩
 rw [<- hc] at HC hcr HEX HOK
 have HX := Lib.hid hX
 clear hX hc hf
 by_cases h0 : c = 0
 ·subst h0
  have HE := Lib.hid (show excuse f v = Mb.zero from HEX.out.trans (if_pos rfl))
  clear hp hcr b0 b1 b2
  go_enter Tryz.func17, Tryz.ntmps17
  go_wp2_with fail
  rw [<- HX.out]
  refine (HC.out _).mono ?_
  rintro e w1 ⟨rfl, k1⟩
  replace a0 := (Below.cell k1 hs2).trans a0
  replace a1 := (Below.cell k1 hs2).trans a1
  replace a2 := (Below.cell k1 hs2).trans a2
  replace f0 := fun j => (Below.frozen k1 hs2).trans (f0 j)
  have kw := k0.trans k1
  clear k1 k0
  go_wp2
  (try simp only [Exit.inBlock, Exit.then])
  refine bodyPost_ret (v := .tuple #[.agg #[.int .i64 0, .int .i64 0, .string ⟨#[]⟩], .bool false]) ?_ rfl ⟨by rw [HE.out, HOK.out]; rfl, ?_⟩
  ·rw [results_cell_tmp rfl]
   go_simp
   (try exact ⟨rfl, rfl, rfl⟩)
  ·exact ((kw.setCell (by simp) _).setCell (by simp) _).setCell (by simp) _
 ·have d0 : (c == 0) = false := by simp [h0]
  have HE := Lib.hid (show excuse f v = ⟨f.id, f.unit, st [UInt8.ofNat (byteAt f.pdu 0 % 128 + 128).toNat, UInt8.ofNat c.toNat]⟩ from HEX.out.trans (if_neg h0))
  have hsz : 0 < f.pdu.size := hp.2.2.1
  have hse : (f.pdu.toList == []) = false := by
   rw [toList_eq]
   apply Bool.eq_false_iff.2
   intro h
   have := List.length_eq_zero_iff.2 (beq_iff_eq.1 h)
   rw [bl_length] at this
   omega
  have x0 := idx (P := Tryz.prog) (k := .i64) f.pdu 0 Tryz.underlying9 (by omega) (by omega)
  have hr := byteAt_range f.pdu 0
  have hwc : IntKind.u8.wrap c = c := by rw [IntKind.wrap_u8]; omega
  have hor := or_any hr.1 hr.2
  obtain ⟨y, hy⟩ : ∃ y, y = byteAt f.pdu 0 % 128 + 128 := ⟨_, rfl⟩
  have hyr : 0 <= y ∧ y <= 255 := by omega
  rw [<- hy] at hor HE
  have hcv : ∀ w : World, (convert 25 9 (.slice (some ⟨w.heap.size, 0, none⟩) 2 2)).run Tryz.prog (w.alloc (.cells #[.int .u8 y, .int .u8 c] 5)) = .ok (.string (st [UInt8.ofNat y.toNat, UInt8.ofNat c.toNat])) (w.alloc (.cells #[.int .u8 y, .int .u8 c] 5)) :=
   fun w => conv_new Tryz.underlying25 Tryz.underlying5 Tryz.underlying9 _ 2 [UInt8.ofNat y.toNat, UInt8.ofNat c.toNat] (by simp only [List.map_cons, List.map_nil, bv]; rw [Ak.ofNat_int y (by omega) (by omega), Ak.ofNat_int c (by omega) (by omega)]) rfl
  have HEX' := HEX
  clear HEX HEX' hy hyr
  clear h0 hp
  go_enter Tryz.func17, Tryz.ntmps17
  go_wp2_with fail
  rw [<- HX.out]
  refine (HC.out _).mono ?_
  rintro e w1 ⟨rfl, k1⟩
  replace a0 := (Below.cell k1 hs2).trans a0
  replace a1 := (Below.cell k1 hs2).trans a1
  replace a2 := (Below.cell k1 hs2).trans a2
  replace b0 := (Below.cell k1 hs1).trans b0
  replace b1 := (Below.cell k1 hs1).trans b1
  replace b2 := (Below.cell k1 hs1).trans b2
  replace f0 := fun j => (Below.frozen k1 hs2).trans (f0 j)
  have kw := k0.trans k1
  have hs3 : w.heap.size < w1.heap.size := Nat.lt_of_lt_of_le hs1 k1.size
  have hs4 : w.heap.size + 1 < w1.heap.size := Nat.lt_of_lt_of_le hs2 k1.size
  clear k1 k0 hcr
  go_wp2
  (try simp only [Exit.inBlock, Exit.then])
  refine bodyPost_ret (v := .tuple #[.agg #[.int .i64 f.id, .int .i64 f.unit, .string (st [UInt8.ofNat y.toNat, UInt8.ofNat c.toNat])], .bool true]) ?_ rfl ⟨by rw [HE.out, HOK.out, d0]; rfl, ?_⟩
  ·rw [results_cell_tmp rfl]
   go_simp
   (try exact ⟨rfl, rfl, rfl⟩)
  ·refine Keep.alloc ?_ _
   refine ((kw.setCell ?_ _).setCell ?_ _).setCell ?_ _ <;> exact Nat.le_succ _
end Go.Proofs.YtaciogcpghbhjaaGreat.Judge
