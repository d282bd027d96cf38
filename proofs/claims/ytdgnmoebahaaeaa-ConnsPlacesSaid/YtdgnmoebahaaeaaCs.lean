/- Layer 22's own contracts. Conditions: lists of at most a million; New of at most a thousand; lives below 2^40 where a place is taken; streams of at most a hundred thousand bytes. -/
import Derived.Test.YtdgnmoebahaaeaaCsR
import Derived.Test.YtdgnmoebahaaeaaSm
import Derived.Deep.AppendLies
import Derived.Shelf.Abstract
import Derived.Lib.SliceRun
namespace Go.Proofs.Ytdgnmoebahaaeaa.Conns
set_option linter.unusedVariables false
set_option linter.unusedSimpArgs false
set_option maxRecDepth 100000
open Go.Shelf Go.ChangeShapes Go.WideShapes Go.ChangeAt Go.RowKit
open Cs
theorem info_conn : (Try.prog.info? 34).map (fun i => (i.zero, i.size, i.bytes)) = some (some (.agg #[.bool false, .int .i64 0, .int .i64 0, .string ⟨#[]⟩, .bool false]), 5, 48) := by kernel_rfl
theorem flat_replicate (n : Nat) : (madeCells #[.bool false, .int .i64 0, .int .i64 0, .string ⟨#[]⟩, .bool false] (n * 5)).toList = flat encC (List.replicate n zero) := by
  have hl : (flat encC (List.replicate n zero)).length = n * 5 := by rw [flat_length encC_len]; simp
  apply List.ext_getElem
  · rw [hl]; simp [madeCells]
  · intro i h1 h2
    rw [hl] at h2
    have e : (flat encC (List.replicate n zero))[i]? = (encC zero)[i % 5]? := by
      have := flat_get encC_len (List.replicate n zero) (i / 5) (by simp; omega) (i % 5) (by omega)
      rw [show i / 5 * 5 + i % 5 = i by omega] at this
      rw [this]; simp
    have h5 : i % 5 < 5 := by omega
    rw [← Option.some_inj, ← List.getElem?_eq_getElem, ← List.getElem?_eq_getElem, e]
    simp only [madeCells, Array.toList_map, Array.toList_range, List.getElem?_map]
    rw [List.getElem?_eq_getElem (by simpa using h2)]
    simp only [List.getElem_range, Option.map_some]
    show some (_ : Value) = _
    rcases (show i % 5 = 0 ∨ i % 5 = 1 ∨ i % 5 = 2 ∨ i % 5 = 3 ∨ i % 5 = 4 by omega) with h | h | h | h | h <;> (simp [h, encC, zero])
theorem set_app5 (a b : List Value) (m : Nat) (v : Value) (h : a.length = 5) : (a ++ b).set (5 + m) v = a ++ b.set m v := by
  rw [List.set_append_right _ _ (by omega), h, Nat.add_sub_cancel_left]
theorem flat_put (x : ConnP) : ∀ (zs : List ConnP) (i : Nat), ((((((flat encC zs).set (i * 5) (.bool x.opn)).set (i * 5 + 1) (.int .i64 x.cl)).set (i * 5 + 2) (.int .i64 x.lf)).set (i * 5 + 3) (.string x.buf)).set (i * 5 + 4) (.bool x.bad)) = flat encC (zs.set i x)
  | [], i => by simp [flat]
  | z :: zs, 0 => by
    simp only [flat_cons, List.set_cons_zero, Nat.zero_mul, Nat.zero_add]
    simp [encC]
  | z :: zs, i + 1 => by
    have ih := flat_put x zs i
    have e0 : (i + 1) * 5 = 5 + i * 5 := by omega
    rw [List.set_cons_succ, flat_cons, flat_cons, ← ih]
    simp only [e0, Nat.add_assoc, set_app5 _ _ _ _ (encC_len z)]
theorem own_put {w : World} {base : Nat} {e : TypeId} {g cap n : Nat} {zs : List ConnP} (h : w.ownsRow base e 5 (.slice (some ⟨g, 0, none⟩) n cap) n (flat encC zs)) (i : Nat) (x : ConnP) :
    (((((w.setCell ⟨g, i * 5, none⟩ (.bool x.opn)).setCell ⟨g, i * 5 + 1, none⟩ (.int .i64 x.cl)).setCell ⟨g, i * 5 + 2, none⟩ (.int .i64 x.lf)).setCell ⟨g, i * 5 + 3, none⟩ (.string x.buf)).setCell ⟨g, i * 5 + 4, none⟩ (.bool x.bad)).ownsRow base e 5 (.slice (some ⟨g, 0, none⟩) n cap) n (flat encC (zs.set i x)) := by
  have := (((((h.stored (i * 5) (.bool x.opn)).1.stored (i * 5 + 1) (.int .i64 x.cl)).1.stored (i * 5 + 2) (.int .i64 x.lf)).1.stored (i * 5 + 3) (.string x.buf)).1.stored (i * 5 + 4) (.bool x.bad)).1
  rwa [flat_put] at this
theorem flat_put2 (b : ByteArray) (d : Bool) : ∀ (zs : List ConnP) (i : Nat), ((flat encC zs).set (i * 5 + 3) (.string b)).set (i * 5 + 4) (.bool d) = flat encC (zs.set i { zs.getD i zero with buf := b, bad := d })
  | [], i => by simp [flat]
  | z :: zs, 0 => by
    simp only [flat_cons, List.set_cons_zero, Nat.zero_mul, Nat.zero_add]
    simp [encC]
  | z :: zs, i + 1 => by
    have ih := flat_put2 b d zs i
    have e0 : (i + 1) * 5 = 5 + i * 5 := by omega
    rw [List.set_cons_succ, flat_cons, flat_cons, List.getD_cons_succ, ← ih]
    simp only [e0, Nat.add_assoc, set_app5 _ _ _ _ (encC_len z)]
theorem own_put2 {w : World} {base : Nat} {e : TypeId} {g cap n : Nat} {zs : List ConnP} (h : w.ownsRow base e 5 (.slice (some ⟨g, 0, none⟩) n cap) n (flat encC zs)) (i : Nat) (b : ByteArray) (d : Bool) :
    ((w.setCell ⟨g, i * 5 + 3, none⟩ (.string b)).setCell ⟨g, i * 5 + 4, none⟩ (.bool d)).ownsRow base e 5 (.slice (some ⟨g, 0, none⟩) n cap) n (flat encC (zs.set i { zs.getD i zero with buf := b, bad := d })) := by
  have := ((h.stored (i * 5 + 3) (.string b)).1.stored (i * 5 + 4) (.bool d)).1
  rwa [flat_put2] at this
/-- A place of a row of the call's own: its cells, and that they may be written. -/
theorem own_conn {w : World} {base : Nat} {e : TypeId} {g cap n : Nat} {zs : List ConnP} (h : w.ownsRow base e 5 (.slice (some ⟨g, 0, none⟩) n cap) n (flat encC zs)) (j : Nat) (hj : j < n) :
    CAt w g (j * 5) (zs.getD j zero) ∧ ∀ i, w.frozen? ⟨g, i, none⟩ = false := by
  have hr := Row.of_own encC_len h (by omega)
  have := (row_conn hr j hj).2
  rw [Nat.zero_add] at this
  exact ⟨this, fun i => h.frozenAt i⟩
theorem ret_int {b c : Int} (h : b = c) : Ending.returned (.int .i64 b) = Ending.returned (.int .i64 c) := by rw [h]
set_option maxHeartbeats 400000 in
theorem new_any (n : Int) (w : World) (hn : n ≤ 1000) :
    Calls Try.prog 6 #[.int .i64 n] w (RetRow encC 5 (Cs.new n) w) := by
  obtain ⟨i0, hi, hz0, hz1, hz2⟩ := info_parts info_conn
  have hN := Lib.hid (show Cs.new n = List.replicate n.toNat zero from rfl)
  by_cases h : n < 0
  · have HE := Lib.hid (show Cs.new n = [] by rw [hN.out, show n.toNat = 0 by omega]; rfl)
    clear hN hn
    go_enter Try.func6, Try.ntmps6
    go_wp2_with (at_make; refine wpList_make_full _ rfl _ _ 24 rfl w.heap.size 34 i0 (.agg #[.bool false, .int .i64 0, .int .i64 0, .string ⟨#[]⟩, .bool false]) 5 Try.underlying24 hi hz0 hz1 .i64 .i64 0 0 0 rfl rfl rfl rfl (by rw [hz2]; omega) (by unfold maxLen; omega) (Nat.le_refl _) ?_)
    intro w0 hown0 hgrow0
    replace hown0 : w0.ownsRow w.heap.size 34 5 (.slice (some ⟨w.heap.size, 0, none⟩) 0 0) 0 (flat encC []) := by simpa [madeCells, flat] using hown0
    have k0 : Keep w w0 := (Below.refl _ _).grown hgrow0 (Nat.le_refl _) (fun k h => by cases h)
    clear hgrow0
    go_wp2
    go_ret
    obtain ⟨a1, a2⟩ := own_le hown0
    exact ⟨_, 0, 0, rfl, a1, a2, by rw [HE.out]; exact Row.of_own encC_len hown0 (by omega), k0⟩
  · obtain ⟨m, rfl⟩ : ∃ m : Nat, n = m := ⟨n.toNat, by omega⟩
    have h2 : ¬ (1000 : Int) < m := by omega
    have HE := Lib.hid (show Cs.new m = List.replicate m zero by rw [hN.out]; rfl)
    have hm : m ≤ 1000 := by omega
    clear hN hn
    go_enter Try.func6, Try.ntmps6
    go_wp2_with (at_make; refine wpList_make_full _ rfl _ _ 24 rfl w.heap.size 34 i0 (.agg #[.bool false, .int .i64 0, .int .i64 0, .string ⟨#[]⟩, .bool false]) 5 Try.underlying24 hi hz0 hz1 .i64 .i64 m m m rfl rfl rfl rfl (by rw [hz2]; omega) (by unfold maxLen; omega) (Nat.le_refl _) ?_)
    intro w0 hown0 hgrow0
    rw [flat_replicate] at hown0
    have k0 : Keep w w0 := (Below.refl _ _).grown hgrow0 (Nat.le_refl _) (fun k h => by cases h)
    clear hgrow0
    go_wp2
    go_ret
    obtain ⟨a1, a2⟩ := own_le hown0
    exact ⟨_, m, m, rfl, a1, a2, by rw [HE.out]; exact Row.of_own encC_len hown0 (by omega), k0⟩
theorem isPlace_any (A : Option Addr) (n c : Nat) (k : Int) (w : World) :
    Calls Try.prog 15 #[.slice A n c, .int .i64 k] w fun e w' => e = .returned (.bool (decide (0 ≤ k) && decide (k < (n : Int)))) ∧ w' = w := by
  by_cases h : 0 ≤ k
  · have d : decide (0 ≤ k) = true := by simp [h]
    rw [d, Bool.true_and]
    clear h
    obtain ⟨b, hb⟩ : ∃ b, b = decide (k < (n : Int)) := ⟨_, rfl⟩
    rw [← hb]
    replace hb := hb.symm
    go_enter Try.func15, Try.ntmps15
    go_wp2
    go_ret
    exact ⟨rfl, rfl⟩
  · have d : decide (0 ≤ k) = false := by simp; omega
    rw [d, Bool.false_and]
    clear h
    go_enter Try.func15, Try.ntmps15
    go_wp2
    go_ret
    exact ⟨rfl, rfl⟩
theorem results_cell {fn : Func} {p : Tmp} {ty : TypeId} (h : fn.results = #[.cell p ty]) (tmps : Array Value) (P : Program) (w : World) :
    (results fn tmps).run P w = ((asAddr (tmps.getD p undef)).run P w).andThen fun a w₁ => ((loadVar ty a).run P w₁).andThen fun v w₂ => .ok v w₂ := by
  simp only [results, h]
  simp [Sem.run_bind, Result.andThen]
  cases (asAddr (tmps[p]?.getD undef)).run P w with
  | ok a w1 => simp only; cases (loadVar ty a).run P w1 <;> rfl
  | halt h w1 => rfl
theorem free_any (lf : Int) (w : World) :
    Calls Try.prog 16 #[.int .i64 lf] w fun e w' => e = .returned (.agg #[.bool false, .int .i64 0, .int .i64 lf, .string ⟨#[]⟩, .bool false]) ∧ Keep w w' := by
  go_enter Try.func16, Try.ntmps16
  go_wp2
  (try simp only [Exit.inBlock, Exit.then])
  refine bodyPost_ret (v := .agg #[.bool false, .int .i64 0, .int .i64 lf, .string ⟨#[]⟩, .bool false]) ?_ rfl ⟨rfl, (Keep.refl _).alloc _⟩
  rw [results_cell rfl]
  go_simp
set_option maxHeartbeats 400000 in
theorem clone_any (A : Option Addr) (n c : Nat) (zs : List ConnP) (w : World) (hn : n ≤ 1000000) (hA : Row encC 5 w w.heap.size A n zs) :
    Calls Try.prog 14 #[.slice A n c] w fun e w' => ∃ B d, e = .returned (.slice B n d) ∧ w'.ownsRow w.heap.size 34 5 (.slice B n d) n (flat encC zs) ∧ Keep w w' := by
  rcases A with _ | ad
  · have h0 : n = 0 := by
      rcases Nat.eq_zero_or_pos n with h | h
      · exact h
      · obtain ⟨_, _, e, _⟩ := hA.2 h
        cases e
    have hz : zs = [] := List.eq_nil_of_length_eq_zero (by rw [hA.1, h0])
    subst hz h0
    clear hA
    have heq : ∀ (w : World) (a : Option Addr) (n c n' c' : Nat), (binOp .eql 24 (.slice a n c) (.slice none n' c')).run Try.prog w = .ok (.bool a.isNone) w := fun w a n c n' c' => Lib.run_eql_slice_nil w _ _ a n c n' c' Try.underlying24
    go_enter Try.func14, Try.ntmps14
    go_wp2
    go_ret
    exact ⟨none, 0, rfl, World.ownsRow_nil _ _ _ _, Keep.refl _⟩
  · have heq : ∀ (w : World) (a : Option Addr) (n c n' c' : Nat), (binOp .eql 24 (.slice a n c) (.slice none n' c')).run Try.prog w = .ok (.bool a.isNone) w := fun w a n c n' c' => Lib.run_eql_slice_nil w _ _ a n c n' c' Try.underlying24
    go_enter Try.func14, Try.ntmps14
    go_wp2_with (at_builtin; refine append_rows rfl _ _ 24 rfl w.heap.size 34 _ 48 Try.underlying24 info_conn rfl (by omega) encC_len encC_one _ 0 [] rfl (World.ownsRow_lit w #[] 0 (Nat.le_refl _) (Nat.zero_le _) rfl) (by simp) w.heap.size (some ad) n c zs rfl (hA.keep fun p hp => by simp [World.cell?_alloc_lt, hp]) (by unfold maxLen; omega) (by omega) ?_)
    intro v' w1 hown hb
    obtain ⟨A1, c1, rfl⟩ := own_slice hown
    have e0 : 0 + n = n := Nat.zero_add n
    try rw [e0] at hown
    go_wp2
    go_ret
    exact ⟨A1, c1, by first | rfl | (rw [e0]), by first | exact hown | (rw [e0]; exact hown), ((Below.refl w.heap.size w).alloc (Nat.le_refl _) _).trans hb⟩
/-- A closure that tests one of these. -/
def TestsC (g : Nat) (q : ConnP → Bool) (zs : List ConnP) : Prop :=
  ∀ (W : World) (p : ConnP), p ∈ zs → Calls Try.prog g #[.agg #[.bool p.opn, .int .i64 p.cl, .int .i64 p.lf, .string p.buf, .bool p.bad]] W fun e w' => e = .returned (.bool (q p)) ∧ Keep W w'
def FirstAt (q : ConnP → Bool) (zs : List ConnP) (i : Int) : Prop :=
  (i = -1 ∧ ∀ j, j < zs.length → q (zs.getD j zero) = false) ∨ ∃ k : Nat, i = k ∧ k < zs.length ∧ q (zs.getD k zero) = true ∧ ∀ j, j < k → q (zs.getD j zero) = false
set_option maxHeartbeats 1000000 in
theorem index_any (A : Option Addr) (n c : Nat) (zs : List ConnP) (g : Nat) (q : ConnP → Bool) (w : World) (hn : n ≤ maxLen) (hA : Row encC 5 w w.heap.size A n zs)
    (eg : ∀ args w, (callFunc g args).run Try.prog w = .ok (.enter g args) w) (hp : TestsC g q zs) :
    Calls Try.prog 17 #[.slice A n c, .func (.func g) #[] #[]] w fun e w' => ∃ i, e = .returned (.int .i64 i) ∧ FirstAt q zs i ∧ Keep w w' := by
  have hl := Lib.hid hA.1
  have HA := Lib.hid hA
  have HT := Lib.hid hp
  clear hA hp
  unfold maxLen at hn
  go_enter Try.func17, Try.ntmps17
  go_wp2
  go_loopw [8] (fun iv wr => ∃ k : Nat, k ≤ n ∧ iv = .int .i64 k ∧ Hid (∀ j, j < k → q (zs.getD j zero) = false) ∧ Keep w wr) (fun iv _ => n - (intOf iv).toNat)
  case atStart => exact ⟨0, Nat.zero_le _, rfl, Lib.hid (fun j hj => absurd hj (by omega)), Keep.refl _⟩
  case round =>
    obtain ⟨k, hk, rfl, HH, hq⟩ := hrel
    by_cases hlt : k < n
    · obtain ⟨b, off, rfl, _⟩ := HA.out.addr (by omega)
      obtain ⟨hb, hp⟩ := row_conn HA.out k hlt
      have hp' := hp.kept hb hq
      have hmem := getD_mem zs k (by rw [hl.out]; exact hlt)
      obtain ⟨p, hpe⟩ : ∃ p, p = zs.getD k zero := ⟨_, rfl⟩
      rw [← hpe] at hp' hmem
      have HP := Lib.hid hpe
      clear hpe hp
      obtain ⟨c0, c1, c2, c3, c4⟩ := hp'
      have hltz : (k : Int) < n := by omega
      have hk0 : (0 : Int) ≤ k := by omega
      have hcall := HT.out wr p hmem
      clear hmem
      cases he : q p
      · have HE := Lib.hid he
        simp only [he] at hcall
        clear he
        go_wp2_with fail
        refine hcall.mono ?_
        rintro e w1 ⟨rfl, hk1⟩
        go_wp2
        refine ⟨⟨k + 1, by omega, by go_num, Lib.hid fun j hj => ?_, hq.trans hk1⟩, by simp [intOf]; omega⟩
        rcases Nat.lt_succ_iff_lt_or_eq.1 hj with hj | rfl
        · exact HH.out j hj
        · rw [← HP.out]; exact HE.out
      · have HE := Lib.hid he
        simp only [he] at hcall
        clear he
        go_wp2_with fail
        refine hcall.mono ?_
        rintro e w1 ⟨rfl, hk1⟩
        go_wp2
        go_ret
        exact ⟨_, rfl, .inr ⟨k, rfl, by rw [hl.out]; exact hlt, by rw [← HP.out]; exact HE.out, HH.out⟩, hq.trans hk1⟩
    · obtain rfl : k = n := by omega
      go_wp2
      go_ret
      exact ⟨_, rfl, .inl ⟨rfl, fun j hj => HH.out j (by rw [← hl.out]; exact hj)⟩, hq⟩
set_option maxHeartbeats 400000 in
theorem contains_any (A : Option Addr) (n c : Nat) (zs : List ConnP) (g : Nat) (q : ConnP → Bool) (w : World) (hn : n ≤ maxLen) (hA : Row encC 5 w w.heap.size A n zs)
    (eg : ∀ args w, (callFunc g args).run Try.prog w = .ok (.enter g args) w) (hp : TestsC g q zs) :
    Calls Try.prog 19 #[.slice A n c, .func (.func g) #[] #[]] w fun e w' => e = .returned (.bool (zs.any q)) ∧ Keep w w' := by
  have HI := Lib.hid (index_any A n c zs g q w hn hA eg hp)
  clear hA hp
  go_enter Try.func19, Try.ntmps19
  go_wp2_with fail
  refine HI.out.mono ?_
  rintro e w1 ⟨i, rfl, hf, hk⟩
  have he : zs.any q = decide (0 ≤ i) := by
    rcases hf with ⟨rfl, h⟩ | ⟨k, rfl, hk, h1, _⟩
    · rw [show decide ((0 : Int) ≤ -1) = false from rfl, List.any_eq_false]
      intro x hx
      obtain ⟨j, hj, rfl⟩ := List.mem_iff_getElem.1 hx
      have := h j hj
      rw [show zs.getD j zero = zs[j] by simp [List.getD, List.getElem?_eq_getElem hj]] at this
      simp [this]
    · rw [show decide ((0 : Int) ≤ k) = true by simp, List.any_eq_true]
      exact ⟨_, getD_mem zs k hk, h1⟩
  have HE := Lib.hid he
  clear he hf HI
  go_wp2
  go_ret
  exact ⟨by rw [HE.out]; rfl, hk⟩
theorem accept1_any (p : ConnP) (w : World) :
    Calls Try.prog 18 #[.agg #[.bool p.opn, .int .i64 p.cl, .int .i64 p.lf, .string p.buf, .bool p.bad]] w fun e w' => e = .returned (.bool (!p.opn)) ∧ Keep w w' := by
  obtain ⟨o, ho⟩ : ∃ o, o = p.opn := ⟨_, rfl⟩
  rw [← ho]
  clear ho
  go_enter Try.func18, Try.ntmps18
  go_wp2
  go_ret
  exact ⟨rfl, (Keep.refl _).alloc _⟩
theorem free_first {zs : List ConnP} {i : Int} (h : FirstAt (fun p => !p.opn) zs i) : (i = -1 ∧ free zs = zs.length) ∨ (i = (free zs : Int) ∧ free zs < zs.length) := by
  rcases h with ⟨rfl, h⟩ | ⟨k, rfl, hk, h1, h2⟩
  · refine .inl ⟨rfl, free_is zs zs.length (Nat.le_refl _) (fun i hi => by simpa using h i hi) (fun h => absurd h (Nat.lt_irrefl _))⟩
  · have e := free_is zs k (Nat.le_of_lt hk) (fun i hi => by simpa using h2 i hi) (fun _ => by simpa using h1)
    exact .inr ⟨by rw [e], by rw [e]; exact hk⟩
set_option maxHeartbeats 1000000 in
theorem accept_any (A : Option Addr) (n c : Nat) (zs : List ConnP) (x : Int) (w : World) (hn : n ≤ 1000000) (hc : n ≤ c) (hcm : c ≤ maxLen) (hA : Row encC 5 w w.heap.size A n zs) (hr : right zs = true) (hl : ∀ c ∈ zs, c.lf < 1099511627776) :
    Calls Try.prog 8 #[.slice A n c, .int .i64 x] w (RetAcc (accept zs x) (acceptAt zs) (hasFree zs) w) := by
  have HL := Lib.hid hA.1
  have HC := Lib.hid (clone_any A n c zs w hn hA)
  have HB := Lib.hid (And.intro hr hl)
  clear hA hr hl hc hcm
  go_enter Try.func8, Try.ntmps8
  go_wp2_with fail
  refine HC.out.mono ?_
  rintro e w1 ⟨B, d, rfl, hown, k1⟩
  have hI := index_any B n d zs 18 (fun p => !p.opn) w1 (by unfold maxLen; omega) (Row.of_own encC_len hown (by omega)) (enters_of Try.func18 (by kernel_rfl) rfl) (fun W p _ => accept1_any p W)
  have HI := Lib.hid hI
  clear hI
  go_wp2_with fail
  refine HI.out.mono ?_
  rintro e w2 ⟨i, rfl, hf, k2⟩
  replace hown := own_keep hown k2
  replace k1 := k1.trans k2
  have hfi := free_first hf
  clear hf k2 HI
  rcases hfi with ⟨rfl, hfr⟩ | ⟨rfl, hfr⟩
  · have HE := Lib.hid (show accept zs x = zs ∧ acceptAt zs = 0 ∧ hasFree zs = false by unfold accept acceptAt hasFree; rw [hfr]; simp)
    clear hfr
    go_wp2
    go_ret3
    obtain ⟨a1, a2⟩ := own_le hown
    refine ⟨B, n, d, ?_, a1, a2, ?_, k1⟩
    · rw [HE.out.2.1, HE.out.2.2]; rfl
    · rw [HE.out.1]; exact Row.of_own encC_len hown (by omega)
  · obtain ⟨k, hke⟩ : ∃ k, k = free zs := ⟨_, rfl⟩
    have hkn : k < n := by rw [hke, ← HL.out]; exact hfr
    have HE := Lib.hid (show accept zs x = zs.set k (opened (zs.getD k zero) x) ∧ acceptAt zs = k ∧ hasFree zs = true by unfold accept acceptAt hasFree; rw [hke]; simp [hfr])
    have hlf := HB.out.2 _ (getD_mem zs k (by rw [HL.out]; exact hkn))
    have hlf0 := ((rightC_iff _).1 (right_at HB.out.1 k (by rw [HL.out]; exact hkn))).1
    rw [← hke]
    obtain ⟨g, cap, hA1, hb1, hb2⟩ := hown.form (by omega)
    injection hA1 with hA1 _ hA2
    subst hA1 hA2
    obtain ⟨hp, hfz⟩ := own_conn hown k hkn
    have hput := own_put hown k (opened (zs.getD k zero) x)
    obtain ⟨p, hpe⟩ : ∃ p, p = zs.getD k zero := ⟨_, rfl⟩
    rw [← hpe] at hp hput hlf hlf0 HE
    simp only [opened] at hput
    have HP := Lib.hid hput
    have HK := Lib.hid k1
    clear hpe hke hfr hput k1 hown HB HC
    obtain ⟨c0, c1, c2, c3, c4⟩ := hp
    have f0 := hfz (k * 5)
    have f1 := hfz (k * 5 + 1)
    have f2 := hfz (k * 5 + 2)
    have f3 := hfz (k * 5 + 3)
    have f4 := hfz (k * 5 + 4)
    have hltz : (k : Int) < n := by omega
    have hk0 : (0 : Int) ≤ k := by omega
    clear hfz
    go_wp2
    go_ret3
    obtain ⟨a1, a2⟩ := own_le HP.out
    refine ⟨_, n, d, by rw [HE.out.2.1, HE.out.2.2]; rfl, a1, a2, ?_, ?_⟩
    · rw [HE.out.1]; exact Row.of_own encC_len HP.out (by omega)
    · repeat refine keep_set ?_ _ hb1 _
      exact HK.out
set_option maxHeartbeats 1000000 in
theorem close_any (A : Option Addr) (n c : Nat) (zs : List ConnP) (k : Int) (w : World) (hn : n ≤ 1000000) (hc : n ≤ c) (hcm : c ≤ maxLen) (hA : Row encC 5 w w.heap.size A n zs) (hr : right zs = true) :
    Calls Try.prog 7 #[.slice A n c, .int .i64 k] w (RetRow encC 5 (close zs k) w) := by
  have HL := Lib.hid hA.1
  have HC := Lib.hid (clone_any A n c zs w hn hA)
  have HT := Lib.hid (show close zs k = if (decide (0 ≤ k) && decide (k < (n : Int))) then zs.set k.toNat (closed (zs.getD k.toNat zero)) else zs by unfold close there; rw [HL.out])
  obtain ⟨t, ht⟩ : ∃ t, t = (decide (0 ≤ k) && decide (k < (n : Int))) := ⟨_, rfl⟩
  have HPL := Lib.hid fun (B : Option Addr) (d : Nat) (W : World) => isPlace_any B n d k W
  rw [← ht] at HT HPL
  have HTE := Lib.hid ht
  clear hA hr hc hcm ht
  go_enter Try.func7, Try.ntmps7
  go_wp2_with fail
  refine HC.out.mono ?_
  rintro e w1 ⟨B, d, rfl, hown, k1⟩
  go_wp2_with fail
  refine (HPL.out _ _ _).mono ?_
  rintro e w2 ⟨rfl, rfl⟩
  cases t
  · go_wp2
    go_ret
    obtain ⟨a1, a2⟩ := own_le hown
    exact ⟨B, n, d, rfl, a1, a2, by rw [HT.out]; exact Row.of_own encC_len hown (by omega), k1⟩
  · have hk2 := HTE.out
    simp at hk2
    obtain ⟨m, rfl⟩ : ∃ m : Nat, k = m := ⟨k.toNat, by omega⟩
    have hkn : m < n := by omega
    have HE := Lib.hid (show close zs m = zs.set m (closed (zs.getD m zero)) by rw [HT.out]; simp)
    obtain ⟨g, cap, hA1, hb1, hb2⟩ := hown.form (by omega)
    injection hA1 with hA1 _ hA2
    subst hA1 hA2
    obtain ⟨hp, hfz⟩ := own_conn hown m hkn
    obtain ⟨p, hpe⟩ : ∃ p, p = zs.getD m zero := ⟨_, rfl⟩
    rw [← hpe] at hp HE
    have HK := Lib.hid k1
    have HO := Lib.hid hown
    clear hpe k1 hown HC hk2 HT HTE HPL
    obtain ⟨c0, c1, c2, c3, c4⟩ := hp
    have hltz : (m : Int) < n := by omega
    have hk0 : (0 : Int) ≤ m := by omega
    clear hfz
    go_wp2_with fail
    refine (free_any p.lf w2).mono ?_
    rintro e w3 ⟨rfl, k3⟩
    have hown3 := own_keep HO.out k3
    obtain ⟨hp3, hfz⟩ := own_conn hown3 m hkn
    clear c0 c1 c2 c3 c4
    obtain ⟨c0, c1, c2, c3, c4⟩ := hp3
    have f0 := hfz (m * 5)
    have f1 := hfz (m * 5 + 1)
    have f2 := hfz (m * 5 + 2)
    have f3 := hfz (m * 5 + 3)
    have f4 := hfz (m * 5 + 4)
    have hput := own_put hown3 m (closed p)
    simp only [closed] at hput
    have HP := Lib.hid hput
    have HK3 := Lib.hid (HK.out.trans k3)
    clear hput hown3 hfz k3
    go_wp2
    go_ret
    obtain ⟨a1, a2⟩ := own_le HP.out
    refine ⟨_, n, d, rfl, a1, a2, ?_, ?_⟩
    · rw [HE.out]; exact Row.of_own encC_len HP.out (by omega)
    · repeat refine keep_set ?_ _ hb1 _
      exact HK3.out
set_option maxHeartbeats 400000 in
theorem open_any (A : Option Addr) (n c : Nat) (zs : List ConnP) (k : Int) (w : World) (hn : n ≤ 1000000) (hc : n ≤ c) (hcm : c ≤ maxLen) (hA : Row encC 5 w w.heap.size A n zs) (hr : right zs = true) :
    Calls Try.prog 9 #[.slice A n c, .int .i64 k] w fun e w' => e = .returned (.bool (isOpen zs k)) ∧ Keep w w' := by
  have HT := Lib.hid (show isOpen zs k = ((decide (0 ≤ k) && decide (k < (n : Int))) && (zs.getD k.toNat zero).opn) by unfold isOpen; rw [hA.1, Bool.and_assoc])
  have HPL := Lib.hid (isPlace_any A n c k w)
  obtain ⟨t, ht⟩ : ∃ t, t = (decide (0 ≤ k) && decide (k < (n : Int))) := ⟨_, rfl⟩
  rw [← ht] at HT HPL
  cases t
  · rw [HT.out, Bool.false_and]
    clear hA ht HT
    go_enter Try.func9, Try.ntmps9
    go_wp2_with fail
    refine HPL.out.mono ?_
    rintro e w2 ⟨rfl, rfl⟩
    go_wp2
    go_ret
    exact ⟨rfl, Keep.refl _⟩
  · have hk2 := ht
    simp at hk2
    obtain ⟨m, rfl⟩ : ∃ m : Nat, k = m := ⟨k.toNat, by omega⟩
    have hkn : m < n := by omega
    obtain ⟨b, off, rfl, _⟩ := hA.addr (by omega)
    obtain ⟨hb, hp⟩ := row_conn hA m hkn
    rw [HT.out, Bool.true_and, Int.toNat_natCast]
    generalize (zs.getD m zero) = p at hp
    obtain ⟨c0, c1, c2, c3, c4⟩ := hp
    have hltz : (m : Int) < n := by omega
    have hk0 : (0 : Int) ≤ m := by omega
    clear hA ht HT hk2
    go_enter Try.func9, Try.ntmps9
    go_wp2_with fail
    refine HPL.out.mono ?_
    rintro e w2 ⟨rfl, rfl⟩
    go_wp2
    go_ret
    exact ⟨rfl, Keep.refl _⟩
theorem row_skip {α : Type} {enc : α → List Value} {k : Nat} {w w' : World} {n q : Nat} {A : Option Addr} {zs : List α} (h : Row enc k w w.heap.size A n zs) (hf : 0 < n → ∃ b, A = some ⟨b, 0, none⟩ ∧ b ≠ q) (hs : w.heap.size ≤ w'.heap.size)
    (hc : ∀ p : Addr, p.block ≠ q → w'.cell? p = w.cell? p) : Row enc k w' w'.heap.size A n zs :=
  ⟨h.1, fun hn => by
    obtain ⟨b, off, e, hb, hcl⟩ := h.2 hn
    obtain ⟨b', e', hq⟩ := hf hn
    have : b = b' := by rw [e] at e'; injection e' with e'; injection e'
    subst this
    exact ⟨b, off, e, by omega, fun j hj i v hv => (hc _ hq).trans (hcl j hj i v hv)⟩⟩
set_option maxHeartbeats 1000000 in
theorem push_any (A : Option Addr) (n c : Nat) (zs : List ConnP) (k : Int) (b : ByteArray) (w : World) (hn : n ≤ 1000000) (hc : n ≤ c) (hcm : c ≤ maxLen) (hA : Row encC 5 w w.heap.size A n zs) (hr : right zs = true) (hb : b.size ≤ 100000) :
    Calls Try.prog 13 #[.slice A n c, .int .i64 k, .string b] w (RetCF (push zs k b) (pushed zs k b) w) := by
  have HL := Lib.hid hA.1
  have HC := Lib.hid (clone_any A n c zs w hn hA)
  have HR := Lib.hid hr
  clear hA hr hc hcm
  go_enter Try.func13, Try.ntmps13
  go_wp2_with fail
  refine HC.out.mono ?_
  rintro e w1 ⟨B, d, rfl, hown, k1⟩
  have hO := open_any B n d zs k w1 hn (own_le hown).1 (own_le hown).2 (Row.of_own encC_len hown (by omega)) HR.out
  obtain ⟨t, ht⟩ : ∃ t, t = isOpen zs k := ⟨_, rfl⟩
  rw [← ht] at hO
  have HO := Lib.hid hO
  have HT := Lib.hid ht
  clear hO ht
  go_wp2_with fail
  refine HO.out.mono ?_
  rintro e w2 ⟨rfl, k2⟩
  replace hown := own_keep hown k2
  replace k1 := k1.trans k2
  clear k2 HO
  cases t
  · have HE := Lib.hid (show push zs k b = zs ∧ pushed zs k b = [] by unfold push pushed; rw [← HT.out]; exact ⟨rfl, rfl⟩)
    go_wp2
    go_ret2
    obtain ⟨a1, a2⟩ := own_le hown
    exact ⟨B, n, d, none, 0, 0, rfl, ⟨a1, a2⟩, by rw [HE.out.1]; exact Row.of_own encC_len hown (by omega), by rw [HE.out.2]; exact Row.none_ _ _ _, k1⟩
  · obtain ⟨h0, h1, h2⟩ := open_at HT.out.symm
    obtain ⟨m, rfl⟩ : ∃ m : Nat, k = m := ⟨k.toNat, by omega⟩
    rw [Int.toNat_natCast] at h1 h2
    have hkn : m < n := by rw [← HL.out]; exact h1
    have HE := Lib.hid (show push zs m b = zs.set m { zs.getD m zero with buf := st (fed (zs.getD m zero) b).1.buf, bad := (fed (zs.getD m zero) b).1.bad } ∧ pushed zs m b = (fed (zs.getD m zero) b).2 by
      unfold push pushed; rw [← HT.out]; exact ⟨by simp, by simp⟩)
    have hsr := ((rightC_iff _).1 (right_at HR.out m h1)).2.1
    have hsz := Sm.right_len _ hsr
    simp only [bl_length] at hsz
    obtain ⟨g, cap, hA1, hb1, hb2⟩ := hown.form (by omega)
    injection hA1 with hA1 _ hA2
    subst hA1 hA2
    obtain ⟨hp, hfz⟩ := own_conn hown m hkn
    obtain ⟨p, hpe⟩ : ∃ p, p = zs.getD m zero := ⟨_, rfl⟩
    rw [← hpe] at hp hsr hsz
    have HPE := Lib.hid hpe
    have HK := Lib.hid k1
    have HO := Lib.hid hown
    have HPS := Lib.hid fun W => Strm.push_any p.buf b p.bad W (by omega) hb hsr
    clear hpe k1 hown HC hfz h0 h1 h2 hsr hsz HT
    obtain ⟨c0, c1, c2, c3, c4⟩ := hp
    have hltz : (m : Int) < n := by omega
    have hk0 : (0 : Int) ≤ m := by omega
    go_wp2_with fail
    refine (HPS.out w2).mono ?_
    rintro e w3 ⟨FA, fn, fc, rfl, hF, k3, hFr⟩
    obtain ⟨nb, hnb⟩ : ∃ s, s = (Sm.feed (⟨bl p.buf, p.bad⟩, []) (bl b)) := ⟨_, rfl⟩
    rw [← hnb] at hF ⊢
    have HN := Lib.hid hnb
    have hown3 := own_keep HO.out k3
    have hg2 := (HO.out.lt g rfl).2
    obtain ⟨hp3, hfz⟩ := own_conn hown3 m hkn
    clear c0 c1 c2 c3 c4
    obtain ⟨_, _, _, c3, c4⟩ := hp3
    have f3 := hfz (m * 5 + 3)
    have f4 := hfz (m * 5 + 3 + 1)
    replace c4 : w3.cell? ⟨g, m * 5 + 3 + 1, none⟩ = _ := c4
    have hgw := (hown3.lt g rfl).2
    have hgne : g ≠ w3.heap.size := by omega
    have hput := own_put2 hown3 m (st nb.1.buf) nb.1.bad
    have HFR := Lib.hid hFr
    have HF := Lib.hid hF
    have HP := Lib.hid hput
    have HK4 := Lib.hid (HK.out.trans k3)
    clear hput hown3 hfz k3 hnb hFr hF
    go_wp2
    go_ret2
    obtain ⟨a1, a2⟩ := own_le HP.out
    refine ⟨_, n, d, FA, fn, fc, rfl, ⟨a1, a2⟩, ?_, ?_, ?_⟩
    · rw [HE.out.1, ← HPE.out]; unfold fed; rw [← HN.out]
      have := own_keep HP.out ((Keep.refl _).alloc (.cells #[.string (st nb.1.buf), .bool nb.1.bad] 32))
      rw [← HPE.out] at this
      exact Row.of_own encC_len this (by omega)
    · rw [HE.out.2, ← HPE.out]; unfold fed; rw [← HN.out]
      have h1 : Row Ref9.encF 3 ((w3.setCell ⟨g, m * 5 + 3, none⟩ (.string (st nb.1.buf))).setCell ⟨g, m * 5 + 3 + 1, none⟩ (.bool nb.1.bad)) _ FA fn nb.2 := row_skip (q := g) HF.out (fun hn => by
        obtain ⟨b, e, hb⟩ := HFR.out hn
        exact ⟨b, e, by omega⟩) (by simp) (fun p hp => by
        rw [World.cell?_of_block (Below.heap_setCell _ _ _ _ hp), World.cell?_of_block (Below.heap_setCell _ _ _ _ hp)])
      exact h1.kept ((Keep.refl _).alloc _)
    · refine Keep.alloc ?_ _
      refine keep_set ?_ _ hb1 _
      refine keep_set ?_ _ hb1 _
      exact HK4.out
/-- '==' of a connection and one that is free, of its life. -/
theorem eqC0 (cl lf : Int) (buf : ByteArray) (bad : Bool) (w : World) : (Op.equalIn 10000 34 (.agg #[.bool false, .int .i64 cl, .int .i64 lf, .string buf, .bool bad]) (.agg #[.bool false, .int .i64 0, .int .i64 lf, .string ⟨#[]⟩, .bool false])).run Try.prog w = .ok (cl == 0 && ((bl buf).isEmpty && !bad)) w := by
  have u1 := Try.underlying3
  have a1 := Try.isAgg3
  have z1 := Try.sizeOf3
  have u3 := Try.underlying4
  have a3 := Try.isAgg4
  have z3 := Try.sizeOf4
  have u9 := Try.underlying9
  have a9 := Try.isAgg9
  have z9 := Try.sizeOf9
  have u8 := Try.underlying32
  have a8 := Try.isAgg32
  have z8 := Try.sizeOf32
  have hS : Try.prog.underlying 34 = some (.struct (Try.prog.fieldsOf 34)) := by kernel_rfl
  have hp : Try.prog.stoodInHeld 34 = false := by kernel_rfl
  have hS2 : Try.prog.underlying 32 = some (.struct (Try.prog.fieldsOf 32)) := by kernel_rfl
  have hp2 : Try.prog.stoodInHeld 32 = false := by kernel_rfl
  rw [show (10000 : Nat) = 9998 + 1 + 1 from rfl, run_equalIn_agg w _ 34 _ _ hS hp]
  simp only [Program.fieldsOf, Try.underlying34]
  rw [← Str.toList_eq]
  go_simp
  cases bad <;> by_cases h : buf.toList = [] <;> by_cases h0 : cl = 0 <;> simp [h, h0, List.isEmpty_iff]
set_option maxHeartbeats 1000000 in
theorem isRight_any (p : ConnP) (w : World) (hs : p.buf.size ≤ maxLen) :
    Calls Try.prog 21 #[.agg #[.bool p.opn, .int .i64 p.cl, .int .i64 p.lf, .string p.buf, .bool p.bad]] w fun e w' => e = .returned (.bool (rightC p)) ∧ Keep w w' := by
  have k0 : Keep w (w.alloc (.cells #[.bool p.opn, .int .i64 p.cl, .int .i64 p.lf, .string p.buf, .bool p.bad] 34)) := (Keep.refl w).alloc _
  obtain ⟨op, cl, lf, buf, bad⟩ := p
  simp only at hs k0 ⊢
  have heq := eqC0 cl lf buf bad
  have hgd := guardC
  obtain ⟨q, hq⟩ : ∃ q, q = (cl == 0 && ((bl buf).isEmpty && !bad)) := ⟨_, rfl⟩
  rw [← hq] at heq
  have HS := Lib.hid (show rightC ⟨op, cl, lf, buf, bad⟩ = (decide (0 ≤ lf) && (Sm.right ⟨bl buf, bad⟩ && (op || q))) by rw [hq]; rfl)
  obtain ⟨sr, hsr⟩ : ∃ q, q = Sm.right ⟨bl buf, bad⟩ := ⟨_, rfl⟩
  have HR := Lib.hid fun W => Strm.right_any buf bad W hs
  rw [← hsr] at HR HS
  clear hq hsr hs
  obtain ⟨Y, hY⟩ : ∃ Y, Y = w.alloc (.cells #[.bool op, .int .i64 cl, .int .i64 lf, .string buf, .bool bad] 34) := ⟨_, rfl⟩
  rw [← hY] at k0
  have hys : w.heap.size < Y.heap.size := by rw [hY]; simp
  have b0 : Y.cell? ⟨w.heap.size, 0, none⟩ = some (.bool op) := by rw [hY]; go_simp
  have b1 : Y.cell? ⟨w.heap.size, 1, none⟩ = some (.int .i64 cl) := by rw [hY]; go_simp
  have b2 : Y.cell? ⟨w.heap.size, 2, none⟩ = some (.int .i64 lf) := by rw [hY]; go_simp
  have b3 : Y.cell? ⟨w.heap.size, 3, none⟩ = some (.string buf) := by rw [hY]; go_simp
  have b4 : Y.cell? ⟨w.heap.size, 4, none⟩ = some (.bool bad) := by rw [hY]; go_simp
  have HY := Lib.hid hY
  clear hY
  have e0 : ∀ p : KeptOf Y, p.w.cell? ⟨w.heap.size, 0, none⟩ = some (.bool op) := fun p => (Below.cell p.h hys).trans b0
  have e1 : ∀ p : KeptOf Y, p.w.cell? ⟨w.heap.size, 1, none⟩ = some (.int .i64 cl) := fun p => (Below.cell p.h hys).trans b1
  have e2 : ∀ p : KeptOf Y, p.w.cell? ⟨w.heap.size, 2, none⟩ = some (.int .i64 lf) := fun p => (Below.cell p.h hys).trans b2
  have e3 : ∀ p : KeptOf Y, p.w.cell? ⟨w.heap.size, 3, none⟩ = some (.string buf) := fun p => (Below.cell p.h hys).trans b3
  have e4 : ∀ p : KeptOf Y, p.w.cell? ⟨w.heap.size, 4, none⟩ = some (.bool bad) := fun p => (Below.cell p.h hys).trans b4
  have HB := Lib.hid (And.intro e0 (And.intro e1 (And.intro e2 (And.intro e3 e4))))
  have HYS := Lib.hid hys
  have hF := fun p : KeptOf Y => free_any lf p.w
  clear b0 b1 b2 b3 b4 hys
  have hfin : ∀ (b : Bool), rightC ⟨op, cl, lf, buf, bad⟩ = b → Ending.returned (.bool b) = Ending.returned (.bool (rightC ⟨op, cl, lf, buf, bad⟩)) := fun b h => by rw [h]
  have HFN := Lib.hid hfin
  clear hfin
  cases op
  · cases q
    · have HE := Lib.hid (show rightC ⟨false, cl, lf, buf, bad⟩ = false by rw [HS.out]; simp)
      go_enter Try.func21, Try.ntmps21
      go_wp2_with fail
      (try rw [← HY.out])
      refine wp_region_kept (by kernel_rfl) (by kernel_rfl) ?_
      repeat (go_big_quiet_step (first | with_reducible exact KeptOf.of (hF _)))
      refine Go.wpQuiet_nil ?_
      intro w1 hw'
      obtain ⟨⟨W, hw⟩, hw''⟩ := hw'
      replace hw'' : w1 = W := hw''
      subst hw''
      go_wp2
      go_ret
      exact ⟨HFN.out _ HE.out, k0.trans hw⟩
    · have HE := Lib.hid (show rightC ⟨false, cl, lf, buf, bad⟩ = (decide (0 ≤ lf) && sr) by rw [HS.out]; simp)
      go_enter Try.func21, Try.ntmps21
      go_wp2_with fail
      (try rw [← HY.out])
      refine wp_region_kept (by kernel_rfl) (by kernel_rfl) ?_
      repeat (go_big_quiet_step (first | with_reducible exact KeptOf.of (hF _)))
      refine Go.wpQuiet_nil ?_
      intro w1 hw'
      obtain ⟨⟨W, hw⟩, hw''⟩ := hw'
      replace hw'' : w1 = W := hw''
      subst hw''
      have b2 := HB.out.2.2.1 ⟨w1, hw⟩
      have b3 := HB.out.2.2.2.1 ⟨w1, hw⟩
      have b4 := HB.out.2.2.2.2 ⟨w1, hw⟩
      simp only at b2 b3 b4
      clear e0 e1 e2 e3 e4 hF
      by_cases hlf : 0 ≤ lf
      · have d1 : decide (0 ≤ lf) = true := by simp [hlf]
        have HE2 := Lib.hid (show rightC ⟨false, cl, lf, buf, bad⟩ = sr by rw [HE.out, d1]; rfl)
        clear hlf
        go_wp2_with fail
        refine (HR.out _).mono ?_
        rintro e w2 ⟨rfl, k2⟩
        go_wp2
        go_ret
        exact ⟨HFN.out _ HE2.out, (k0.trans hw).trans k2⟩
      · have d1 : decide (0 ≤ lf) = false := by simp; omega
        have HE2 := Lib.hid (show rightC ⟨false, cl, lf, buf, bad⟩ = false by rw [HE.out, d1]; rfl)
        clear hlf
        go_wp2_with fail
        go_ret
        exact ⟨HFN.out _ HE2.out, k0.trans hw⟩
  · have HE := Lib.hid (show rightC ⟨true, cl, lf, buf, bad⟩ = (decide (0 ≤ lf) && sr) by rw [HS.out]; simp)
    go_enter Try.func21, Try.ntmps21
    go_wp2_with fail
    (try rw [← HY.out])
    refine wp_region_kept (by kernel_rfl) (by kernel_rfl) ?_
    repeat (go_big_quiet_step (first | with_reducible exact KeptOf.of (hF _)))
    refine Go.wpQuiet_nil ?_
    intro w1 hw'
    obtain ⟨⟨W, hw⟩, hw''⟩ := hw'
    replace hw'' : w1 = W := hw''
    subst hw''
    have b2 := HB.out.2.2.1 ⟨w1, hw⟩
    have b3 := HB.out.2.2.2.1 ⟨w1, hw⟩
    have b4 := HB.out.2.2.2.2 ⟨w1, hw⟩
    simp only at b2 b3 b4
    clear e0 e1 e2 e3 e4 hF
    by_cases hlf : 0 ≤ lf
    · have d1 : decide (0 ≤ lf) = true := by simp [hlf]
      have HE2 := Lib.hid (show rightC ⟨true, cl, lf, buf, bad⟩ = sr by rw [HE.out, d1]; rfl)
      clear hlf
      go_wp2_with fail
      refine (HR.out _).mono ?_
      rintro e w2 ⟨rfl, k2⟩
      go_wp2
      go_ret
      exact ⟨HFN.out _ HE2.out, (k0.trans hw).trans k2⟩
    · have d1 : decide (0 ≤ lf) = false := by simp; omega
      have HE2 := Lib.hid (show rightC ⟨true, cl, lf, buf, bad⟩ = false by rw [HE.out, d1]; rfl)
      clear hlf
      go_wp2_with fail
      go_ret
      exact ⟨HFN.out _ HE2.out, k0.trans hw⟩
set_option maxHeartbeats 400000 in
theorem right1_any (p : ConnP) (w : World) (hs : p.buf.size ≤ maxLen) :
    Calls Try.prog 20 #[.agg #[.bool p.opn, .int .i64 p.cl, .int .i64 p.lf, .string p.buf, .bool p.bad]] w fun e w' => e = .returned (.bool (!rightC p)) ∧ Keep w w' := by
  have HR := Lib.hid fun W => isRight_any p W hs
  have k0 : Keep w (w.alloc (.cells #[.bool p.opn, .int .i64 p.cl, .int .i64 p.lf, .string p.buf, .bool p.bad] 34)) := (Keep.refl w).alloc _
  obtain ⟨r, hr⟩ : ∃ r, r = rightC p := ⟨_, rfl⟩
  rw [← hr] at HR ⊢
  clear hr
  go_enter Try.func20, Try.ntmps20
  go_wp2_with fail
  refine (HR.out _).mono ?_
  rintro e w1 ⟨rfl, k1⟩
  go_wp2
  go_ret
  exact ⟨rfl, k0.trans k1⟩
set_option maxHeartbeats 400000 in
theorem right_any (A : Option Addr) (n c : Nat) (zs : List ConnP) (w : World) (hn : n ≤ 1000000) (hc : n ≤ c) (hcm : c ≤ maxLen) (hA : Row encC 5 w w.heap.size A n zs) (hT : Texts zs) :
    Calls Try.prog 10 #[.slice A n c] w fun e w' => e = .returned (.bool (right zs)) ∧ Keep w w' := by
  have hcon := contains_any A n c zs 20 (fun p => !rightC p) w (by unfold maxLen; omega) hA (enters_of Try.func20 (by kernel_rfl) rfl) (fun W p hp => right1_any p W (hT p hp))
  have he : right zs = !(zs.any fun p => !rightC p) := by
    unfold right
    rw [Bool.eq_iff_iff]
    simp [List.all_eq_true]
  rw [he]
  have HC := Lib.hid hcon
  generalize (zs.any fun p => !rightC p) = r at HC ⊢
  clear he hcon hA hT hc hcm
  go_enter Try.func10, Try.ntmps10
  go_wp2_with fail
  refine HC.out.mono ?_
  rintro e w1 ⟨rfl, k1⟩
  go_wp2
  go_ret
  exact ⟨rfl, k1⟩
end Go.Proofs.Ytdgnmoebahaaeaa.Conns
