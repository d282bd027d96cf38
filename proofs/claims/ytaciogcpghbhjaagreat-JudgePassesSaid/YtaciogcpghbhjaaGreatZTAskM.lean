/- Of these texts: AskM. Conditions: as each part says. -/
import Derived.Test.YtaciogcpghbhjaaGreatRows
import Derived.Test.YtaciogcpghbhjaaGreatZTAskA
import Derived.Maps.OwnSet
/- The developers' table of what a request may read and write: a map that a call makes, and the look-up in it. Conditions: none. -/
namespace Go.Proofs.YtaciogcpghbhjaaGreat.Ask
set_option maxRecDepth 100000
set_option linter.unusedVariables false
open Go.ChangeShapes Go.WideShapes Go.ChangeAt Go.RowKit Go.Maps
theorem wpList_insert_own {H : Type} {P : Program} (w : World) {ops : Array Oper} {rest : List Oper} {o : Oper} {a : Act} {Q : Exit -> Act -> World -> Prop}
  (hg : o.guard = none) (m x v : Operand) (t : TypeId) (hop : o.op = Op.insert t m x v)
  (k e : TypeId) (K : Keyed P k) (ht : P.underlying t = some (.map k e)) (R : Value -> Option (DataW H × List MemPlace)) (b n : Nat) (D : DataW H)
  (hm : a.eval m = .map (some b)) (hown : w.ownsMap P k R b n D) (hn : n < maxLen) (key val : Value) (kl : Lit) (hx : a.eval x = key) (hv : a.eval v = val) (hkey : keyOf P k key = some kl)
  (d : DataW H) (ps : List MemPlace) (hval : R val = some (d, ps))
  (hK : ∀ w', w'.ownsMap P k R b (n + 1) (D.put kl d) -> w.grownBy w' (some b) -> wpList P ops Q rest (a.put o.dst undef) w') :
  wpList P ops Q (o :: rest) a w := by
 refine wpList_plain hg fun K' hK' => ?_
 obtain ⟨w', hrun, r1, r2⟩ := hown.update K ht hn hkey hval
 unfold Oper.wp
 simp [execOp, hop, hm, hx, hv, hrun, Result.andThen]
 exact hK' _ _ (hK w' r1 r2)
def limD (a b c : Int) : DataW Unit := .agg [.lit (.int .i64 a), .lit (.int .i64 b), .lit (.int .i64 c)]
def limElem (v : Value) : Option (DataW Unit × List MemPlace) :=
 match v with
 | .agg cs => match cs.toList with
   | [.int .i64 a, .int .i64 b, .int .i64 c] => some (limD a b c, [])
   | _ => none
 | _ => none
theorem limElem_mk (a b c : Int) : limElem (.agg #[.int .i64 a, .int .i64 b, .int .i64 c]) = some (limD a b c, []) := rfl
theorem limElem_inv {v : Value} {a b c : Int} {ps : List MemPlace} (h : limElem v = some (limD a b c, ps)) : v = .agg #[.int .i64 a, .int .i64 b, .int .i64 c] := by
 unfold limElem at h
 split at h
 ·rename_i cs
  split at h
  ·rename_i x y z e
   simp only [Option.some.injEq, Prod.mk.injEq, limD, DataW.agg.injEq, List.cons.injEq, DataW.lit.injEq, Lit.int.injEq, true_and, and_true] at h
   obtain ⟨⟨h1, h2, h3⟩, _⟩ := h
   subst h1 h2 h3
   congr 1
   exact Array.toList_inj.1 e
  ·cases h
 ·cases h
def limM : DataW Unit := (((((((((((.map [] : DataW Unit).put (.int .i64 1) (limD 2000 0 0)).put (.int .i64 2) (limD 2000 0 0)).put (.int .i64 3) (limD 125 0 0)).put (.int .i64 4) (limD 125 0 0)).put (.int .i64 5) (limD 0 1 1)).put (.int .i64 6) (limD 0 1 65535)).put (.int .i64 15) (limD 0 1968 1)).put (.int .i64 16) (limD 0 123 65535)).put (.int .i64 22) (limD 0 1 65535)).put (.int .i64 23) (limD 125 121 65535))
theorem limM_eq : limM = .map [(.int .i64 1, limD 2000 0 0), (.int .i64 2, limD 2000 0 0), (.int .i64 3, limD 125 0 0), (.int .i64 4, limD 125 0 0), (.int .i64 5, limD 0 1 1), (.int .i64 6, limD 0 1 65535), (.int .i64 15, limD 0 1968 1), (.int .i64 16, limD 0 123 65535), (.int .i64 22, limD 0 1 65535), (.int .i64 23, limD 125 121 65535)] := by
 simp [limM, DataW.put, DataW.insert, Lit.sameKey, Lit.before]
theorem not_known {fc : Int} (h : Ak.known fc = false) : Ak.reads fc = 0 ∧ Ak.wmax fc = 0 ∧ Ak.wtop fc = 0 := by
 have hk := mt (Ak.known_iff fc).2 (by rw [h]; decide)
 unfold Ak.reads Ak.wmax Ak.wtop
 refine ⟨?_, ?_, ?_⟩ <;> repeat (first | rfl | (exfalso; omega) | split)
theorem limM_at (fc : Int) : limM.atKey (.int .i64 fc) (limD 0 0 0) = limD (Ak.reads fc) (Ak.wmax fc) (Ak.wtop fc) ∧ Maps.has limM (.int .i64 fc) = Ak.known fc := by
 rw [limM_eq]
 by_cases h : fc = 1 ∨ fc = 2 ∨ fc = 3 ∨ fc = 4 ∨ fc = 5 ∨ fc = 6 ∨ fc = 15 ∨ fc = 16 ∨ fc = 22 ∨ fc = 23
 ·rcases h with rfl | rfl | rfl | rfl | rfl | rfl | rfl | rfl | rfl | rfl <;> exact ⟨rfl, rfl⟩
 ·have hk : Ak.known fc = false := by
   cases hk : Ak.known fc
   ·rfl
   ·exact absurd ((Ak.known_iff fc).1 hk) h
  have hr := not_known hk
  rw [hk, hr.1, hr.2.1, hr.2.2]
  have hn : ∀ j : Int, j ≠ fc -> Lit.sameKey (.int .i64 j) (.int .i64 fc) = false := fun j hj => by simp [Lit.sameKey, hj]
  have ne : (1 ≠ fc ∧ 2 ≠ fc ∧ 3 ≠ fc ∧ 4 ≠ fc ∧ 5 ≠ fc) ∧ 6 ≠ fc ∧ 15 ≠ fc ∧ 16 ≠ fc ∧ 22 ≠ fc ∧ 23 ≠ fc := by omega
  obtain ⟨⟨n1, n2, n3, n4, n5⟩, n6, n7, n8, n9, n10⟩ := ne
  constructor
  ·simp only [DataW.atKey, List.find?, hn _ n1, hn _ n2, hn _ n3, hn _ n4, hn _ n5, hn _ n6, hn _ n7, hn _ n8, hn _ n9, hn _ n10]
  ·simp only [Maps.has, List.any, hn _ n1, hn _ n2, hn _ n3, hn _ n4, hn _ n5, hn _ n6, hn _ n7, hn _ n8, hn _ n9, hn _ n10, Bool.or_false]
theorem keyLaw : Keyed Tryz.prog 3 := int_keyed Tryz.underlying3
theorem limZero (w : World) : (zeroValue 110).run Tryz.prog w = .ok (.agg #[.int .i64 0, .int .i64 0, .int .i64 0]) w := by kernel_rfl
def Lims (w : World) (b : Nat) : Prop := w.ownsMap Tryz.prog 3 limElem b 10 limM
theorem Lims.keep {w w' : World} {b : Nat} (h : Lims w b) (hk : Keep w w') : Lims w' b := by
 have hlt := World.ownsMap.lt h
 obtain ⟨es, clock, hb, F, hs, hD⟩ := h
 exact ⟨es, clock, (hk.block b hlt).trans hb, F, hs, hD⟩
theorem Lims.look {w : World} {b : Nat} (h : Lims w b) (fc : Int) :
  (Instr.lookup 112 (.map (some b)) (.int .i64 fc) true).run Tryz.prog w = .ok (.tuple #[.agg #[.int .i64 (Ak.reads fc), .int .i64 (Ak.wmax fc), .int .i64 (Ak.wtop fc)], .bool (Ak.known fc)]) w := by
 by_cases hf : (Lit.int .i64 fc).wf = true
 ·obtain ⟨v, ps, hrun, hv⟩ := World.ownsMap.look_ok h keyLaw Tryz.underlying112 (limZero w) (limElem_mk 0 0 0) (keyOf_int_mk Tryz.underlying3 hf)
  rw [(limM_at fc).1] at hv
  rw [hrun, limElem_inv hv, (limM_at fc).2]
 ·have hk : Ak.known fc = false := by
   cases hk : Ak.known fc
   ·rfl
   ·exfalso
    rcases (Ak.known_iff fc).1 hk with rfl | rfl | rfl | rfl | rfl | rfl | rfl | rfl | rfl | rfl <;> exact hf (by decide)
  rw [hk, (not_known hk).1, (not_known hk).2.1, (not_known hk).2.2]
  obtain ⟨es, clock, hb, F, hs, hD⟩ := h
  have hkeys : ∀ x ∈ es.toList, ∃ n, x.key = .int .i64 n ∧ (Lit.int .i64 n).wf = true := fun x hx => by
   obtain ⟨y, hy⟩ := F.reads x hx
   have h1 := WideElems.rd_key hy
   simp only [keyOf, Tryz.underlying3, mapKey] at h1
   generalize x.key = kk at h1
   cases kk <;> simp at h1
   obtain ⟨⟨rfl, hw⟩, _⟩ := h1
   exact ⟨_, rfl, hw⟩
  have hisk : ∀ n : Int, MapKept.IsKey (.int .i64) (.int .i64 n) := fun n => by simp [MapKept.IsKey]
  rcases MapKept.findNow_spec (hisk fc) es.toList 0 (fun x hx => by obtain ⟨n, e, _⟩ := hkeys x hx; rw [e]; exact hisk n) with ⟨h1, _⟩ | ⟨j, e0, _, h2, h3⟩
  ·have hfk := MapKept.run_findKey (w := w) Tryz.underlying3 h1
   have hck := fun em => MapKept.run_checkKey (w := w) Tryz.underlying3 (hisk fc) em 9999
   simp [Instr.lookup, run_underlying Tryz.underlying112, MapKept.run_getObj_map hb, hck, hfk, Result.andThen]
  ·exfalso
   obtain ⟨n, e, hw⟩ := hkeys e0 (List.mem_of_getElem? h2)
   rw [h3] at e
   injection e with _ e
   rw [e] at hf
   exact hf hw
set_option maxHeartbeats 1000000 in
theorem limits_any (w : World) :
  Calls Tryz.prog 72 #[] w fun e w' => e = .returned (.map (some w.heap.size)) ∧ Lims w' w.heap.size ∧ Keep w w' := by
 have hmm := @run_makeMap Tryz.prog
 go_enter Tryz.func72, Tryz.ntmps72
 have o0 := World.ownsMap_made w Tryz.prog 3 limElem
 have k0 : Keep w (w.alloc (.map #[] 0)) := (Keep.refl w).alloc _
 go_wp2_with (refine wpList_insert_own _ rfl _ _ _ 112 rfl 3 110 keyLaw Tryz.underlying112 limElem w.heap.size 0 _ rfl o0 (by unfold maxLen; omega) _ _ _ rfl rfl (keyOf_int_mk Tryz.underlying3 (by decide)) _ [] (limElem_mk 2000 0 0) ?_)
 intro w1 o1 g1
 have k1 : Keep w w1 := k0.grown g1 k0.size (fun j hj => by cases hj; exact Nat.le_refl _)
 clear o0 g1 k0
 go_wp2_with (refine wpList_insert_own _ rfl _ _ _ 112 rfl 3 110 keyLaw Tryz.underlying112 limElem w.heap.size 1 _ rfl o1 (by unfold maxLen; omega) _ _ _ rfl rfl (keyOf_int_mk Tryz.underlying3 (by decide)) _ [] (limElem_mk 2000 0 0) ?_)
 intro w2 o2 g2
 have k2 : Keep w w2 := k1.grown g2 k1.size (fun j hj => by cases hj; exact Nat.le_refl _)
 clear o1 g2 k1
 go_wp2_with (refine wpList_insert_own _ rfl _ _ _ 112 rfl 3 110 keyLaw Tryz.underlying112 limElem w.heap.size 2 _ rfl o2 (by unfold maxLen; omega) _ _ _ rfl rfl (keyOf_int_mk Tryz.underlying3 (by decide)) _ [] (limElem_mk 125 0 0) ?_)
 intro w3 o3 g3
 have k3 : Keep w w3 := k2.grown g3 k2.size (fun j hj => by cases hj; exact Nat.le_refl _)
 clear o2 g3 k2
 go_wp2_with (refine wpList_insert_own _ rfl _ _ _ 112 rfl 3 110 keyLaw Tryz.underlying112 limElem w.heap.size 3 _ rfl o3 (by unfold maxLen; omega) _ _ _ rfl rfl (keyOf_int_mk Tryz.underlying3 (by decide)) _ [] (limElem_mk 125 0 0) ?_)
 intro w4 o4 g4
 have k4 : Keep w w4 := k3.grown g4 k3.size (fun j hj => by cases hj; exact Nat.le_refl _)
 clear o3 g4 k3
 go_wp2_with (refine wpList_insert_own _ rfl _ _ _ 112 rfl 3 110 keyLaw Tryz.underlying112 limElem w.heap.size 4 _ rfl o4 (by unfold maxLen; omega) _ _ _ rfl rfl (keyOf_int_mk Tryz.underlying3 (by decide)) _ [] (limElem_mk 0 1 1) ?_)
 intro w5 o5 g5
 have k5 : Keep w w5 := k4.grown g5 k4.size (fun j hj => by cases hj; exact Nat.le_refl _)
 clear o4 g5 k4
 go_wp2_with (refine wpList_insert_own _ rfl _ _ _ 112 rfl 3 110 keyLaw Tryz.underlying112 limElem w.heap.size 5 _ rfl o5 (by unfold maxLen; omega) _ _ _ rfl rfl (keyOf_int_mk Tryz.underlying3 (by decide)) _ [] (limElem_mk 0 1 65535) ?_)
 intro w6 o6 g6
 have k6 : Keep w w6 := k5.grown g6 k5.size (fun j hj => by cases hj; exact Nat.le_refl _)
 clear o5 g6 k5
 go_wp2_with (refine wpList_insert_own _ rfl _ _ _ 112 rfl 3 110 keyLaw Tryz.underlying112 limElem w.heap.size 6 _ rfl o6 (by unfold maxLen; omega) _ _ _ rfl rfl (keyOf_int_mk Tryz.underlying3 (by decide)) _ [] (limElem_mk 0 1968 1) ?_)
 intro w7 o7 g7
 have k7 : Keep w w7 := k6.grown g7 k6.size (fun j hj => by cases hj; exact Nat.le_refl _)
 clear o6 g7 k6
 go_wp2_with (refine wpList_insert_own _ rfl _ _ _ 112 rfl 3 110 keyLaw Tryz.underlying112 limElem w.heap.size 7 _ rfl o7 (by unfold maxLen; omega) _ _ _ rfl rfl (keyOf_int_mk Tryz.underlying3 (by decide)) _ [] (limElem_mk 0 123 65535) ?_)
 intro w8 o8 g8
 have k8 : Keep w w8 := k7.grown g8 k7.size (fun j hj => by cases hj; exact Nat.le_refl _)
 clear o7 g8 k7
 go_wp2_with (refine wpList_insert_own _ rfl _ _ _ 112 rfl 3 110 keyLaw Tryz.underlying112 limElem w.heap.size 8 _ rfl o8 (by unfold maxLen; omega) _ _ _ rfl rfl (keyOf_int_mk Tryz.underlying3 (by decide)) _ [] (limElem_mk 0 1 65535) ?_)
 intro w9 o9 g9
 have k9 : Keep w w9 := k8.grown g9 k8.size (fun j hj => by cases hj; exact Nat.le_refl _)
 clear o8 g9 k8
 go_wp2_with (refine wpList_insert_own _ rfl _ _ _ 112 rfl 3 110 keyLaw Tryz.underlying112 limElem w.heap.size 9 _ rfl o9 (by unfold maxLen; omega) _ _ _ rfl rfl (keyOf_int_mk Tryz.underlying3 (by decide)) _ [] (limElem_mk 125 121 65535) ?_)
 intro w10 o10 g10
 have k10 : Keep w w10 := k9.grown g10 k9.size (fun j hj => by cases hj; exact Nat.le_refl _)
 clear o9 g10 k9
 go_wp2
 go_ret
 exact ⟨rfl, o10, k10⟩
set_option maxHeartbeats 400000 in
theorem known_any (fc : Int) (w : World) :
  Calls Tryz.prog 51 #[.int .i64 fc] w fun e w' => e = .returned (.bool (Ak.known fc)) ∧ Keep w w' := by
 go_enter Tryz.func51, Tryz.ntmps51
 go_wp2_with fail
 refine (limits_any _).mono ?_
 rintro e w1 ⟨rfl, hl, hk⟩
 have hlk := hl.look fc
 go_wp2
 go_ret
 exact ⟨rfl, hk.alloc _⟩
end Go.Proofs.YtaciogcpghbhjaaGreat.Ask
