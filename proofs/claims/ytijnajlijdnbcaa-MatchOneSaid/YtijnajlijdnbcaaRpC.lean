/- The developers' codes of exceptions: a map that a call makes, and the look-up in it. Conditions: none. -/
import Derived.Test.YtijnajlijdnbcaaAskM
import Derived.Test.YtijnajlijdnbcaaRpA
namespace Go.Proofs.Ytijnajlijdnbcaa.Reply
set_option maxRecDepth 100000
set_option linter.unusedVariables false
open Go.ChangeShapes Go.WideShapes Go.ChangeAt Go.RowKit Go.Maps
open Go.Proofs.Ytijnajlijdnbcaa.Ask (wpList_insert_own keyLaw)

def yesD : DataW Unit := .lit (.bool true)
def noD : DataW Unit := .lit (.bool false)
def boolElem (v : Value) : Option (DataW Unit × List MemPlace) :=
  match v with
  | .bool b => some (.lit (.bool b), [])
  | _ => none
theorem boolElem_mk (b : Bool) : boolElem (.bool b) = some (.lit (.bool b), []) := rfl
theorem boolElem_inv {v : Value} {b : Bool} {ps : List MemPlace} (h : boolElem v = some (.lit (.bool b), ps)) : v = .bool b := by
  unfold boolElem at h
  split at h
  · simp only [Option.some.injEq, Prod.mk.injEq, DataW.lit.injEq, Lit.bool.injEq] at h
    rw [h.1]
  · cases h

def codM : DataW Unit := ((((((((((.map [] : DataW Unit).put (.int .i64 1) (.lit (.bool true))).put (.int .i64 2) (.lit (.bool true))).put (.int .i64 3) (.lit (.bool true))).put (.int .i64 4) (.lit (.bool true))).put (.int .i64 5) (.lit (.bool true))).put (.int .i64 6) (.lit (.bool true))).put (.int .i64 8) (.lit (.bool true))).put (.int .i64 10) (.lit (.bool true))).put (.int .i64 11) (.lit (.bool true)))
theorem codM_eq : codM = .map [(.int .i64 1, .lit (.bool true)), (.int .i64 2, .lit (.bool true)), (.int .i64 3, .lit (.bool true)), (.int .i64 4, .lit (.bool true)), (.int .i64 5, .lit (.bool true)), (.int .i64 6, .lit (.bool true)), (.int .i64 8, .lit (.bool true)), (.int .i64 10, .lit (.bool true)), (.int .i64 11, .lit (.bool true))] := by
  simp [codM, DataW.put, DataW.insert, Lit.sameKey, Lit.before]
theorem codM_at (n : Int) : codM.atKey (.int .i64 n) (.lit (.bool false)) = .lit (.bool (Rp.code n)) := by
  rw [codM_eq]
  by_cases h : n = 1 ∨ n = 2 ∨ n = 3 ∨ n = 4 ∨ n = 5 ∨ n = 6 ∨ n = 8 ∨ n = 10 ∨ n = 11
  · rcases h with rfl | rfl | rfl | rfl | rfl | rfl | rfl | rfl | rfl <;> rfl
  · have hk : Rp.code n = false := by
      cases hk : Rp.code n
      · rfl
      · exact absurd ((Rp.code_iff n).1 hk) h
    rw [hk]
    have hn : ∀ j : Int, j ≠ n → Lit.sameKey (.int .i64 j) (.int .i64 n) = false := fun j hj => by simp [Lit.sameKey, hj]
    have ne : (1 ≠ n ∧ 2 ≠ n ∧ 3 ≠ n ∧ 4 ≠ n ∧ 5 ≠ n) ∧ 6 ≠ n ∧ 8 ≠ n ∧ 10 ≠ n ∧ 11 ≠ n := by omega
    obtain ⟨⟨n0, n1, n2, n3, n4⟩, n5, n6, n7, n8⟩ := ne
    simp only [DataW.atKey, List.find?, hn _ n0, hn _ n1, hn _ n2, hn _ n3, hn _ n4, hn _ n5, hn _ n6, hn _ n7, hn _ n8]
theorem codZero (w : World) : (zeroValue 4).run Try.prog w = .ok (.bool false) w := by kernel_rfl
/-- A block that is the codes. -/
def Cods (w : World) (b : Nat) : Prop := w.ownsMap Try.prog 3 boolElem b 9 codM
theorem Cods.keep {w w' : World} {b : Nat} (h : Cods w b) (hk : Keep w w') : Cods w' b := by
  have hlt := World.ownsMap.lt h
  obtain ⟨es, clock, hb, F, hs, hD⟩ := h
  exact ⟨es, clock, (hk.block b hlt).trans hb, F, hs, hD⟩
/-- What the look-up gives. -/
theorem Cods.look {w : World} {b : Nat} (h : Cods w b) (n : Int) :
    (Instr.lookup 62 (.map (some b)) (.int .i64 n) false).run Try.prog w = .ok (.bool (Rp.code n)) w := by
  by_cases hf : (Lit.int .i64 n).wf = true
  · obtain ⟨v, ps, hrun, hv⟩ := World.ownsMap.lookup h keyLaw Try.underlying62 (codZero w) (boolElem_mk false) (keyOf_int_mk Try.underlying3 hf)
    rw [codM_at n] at hv
    rw [hrun, boolElem_inv hv]
  · have hk : Rp.code n = false := by
      cases hk : Rp.code n
      · rfl
      · exfalso
        rcases (Rp.code_iff n).1 hk with rfl | rfl | rfl | rfl | rfl | rfl | rfl | rfl | rfl <;> exact hf (by decide)
    rw [hk]
    obtain ⟨es, clock, hb, F, hs, hD⟩ := h
    have hkeys : ∀ x ∈ es.toList, ∃ n, x.key = .int .i64 n ∧ (Lit.int .i64 n).wf = true := fun x hx => by
      obtain ⟨y, hy⟩ := F.reads x hx
      have h1 := WideElems.rd_key hy
      simp only [keyOf, Try.underlying3, mapKey] at h1
      generalize x.key = kk at h1
      cases kk <;> simp at h1
      obtain ⟨⟨rfl, hw⟩, _⟩ := h1
      exact ⟨_, rfl, hw⟩
    have hisk : ∀ n : Int, MapKept.IsKey (.int .i64) (.int .i64 n) := fun n => by simp [MapKept.IsKey]
    rcases MapKept.findNow_spec (hisk n) es.toList 0 (fun x hx => by obtain ⟨n, e, _⟩ := hkeys x hx; rw [e]; exact hisk n) with ⟨h1, _⟩ | ⟨j, e0, _, h2, h3⟩
    · have hfk := MapKept.run_findKey (w := w) Try.underlying3 h1
      have hck := fun em => MapKept.run_checkKey (w := w) Try.underlying3 (hisk n) em 9999
      simp [Instr.lookup, run_underlying Try.underlying62, MapKept.run_getObj_map hb, hck, hfk, Result.andThen]
    · exfalso
      obtain ⟨n, e, hw⟩ := hkeys e0 (List.mem_of_getElem? h2)
      rw [h3] at e
      injection e with _ e
      rw [e] at hf
      exact hf hw

set_option maxHeartbeats 1000000 in
theorem codes_any (w : World) :
    Calls Try.prog 41 #[] w fun e w' => e = .returned (.map (some w.heap.size)) ∧ Cods w' w.heap.size ∧ Keep w w' := by
  have hmm := @run_makeMap Try.prog
  go_enter Try.func41, Try.ntmps41
  have o0 := World.ownsMap_made w Try.prog 3 boolElem
  have k0 : Keep w (w.alloc (.map #[] 0)) := (Keep.refl w).alloc _
  go_wp2_with (refine wpList_insert_own _ rfl _ _ _ 62 rfl 3 4 keyLaw Try.underlying62 boolElem w.heap.size 0 _ rfl o0 (by unfold maxLen; omega) _ _ _ rfl rfl (keyOf_int_mk Try.underlying3 (by decide)) _ [] (boolElem_mk true) ?_)
  intro w1 o1 g1
  have k1 : Keep w w1 := k0.grown g1 k0.size (fun j hj => by cases hj; exact Nat.le_refl _)
  clear o0 g1 k0
  go_wp2_with (refine wpList_insert_own _ rfl _ _ _ 62 rfl 3 4 keyLaw Try.underlying62 boolElem w.heap.size 1 _ rfl o1 (by unfold maxLen; omega) _ _ _ rfl rfl (keyOf_int_mk Try.underlying3 (by decide)) _ [] (boolElem_mk true) ?_)
  intro w2 o2 g2
  have k2 : Keep w w2 := k1.grown g2 k1.size (fun j hj => by cases hj; exact Nat.le_refl _)
  clear o1 g2 k1
  go_wp2_with (refine wpList_insert_own _ rfl _ _ _ 62 rfl 3 4 keyLaw Try.underlying62 boolElem w.heap.size 2 _ rfl o2 (by unfold maxLen; omega) _ _ _ rfl rfl (keyOf_int_mk Try.underlying3 (by decide)) _ [] (boolElem_mk true) ?_)
  intro w3 o3 g3
  have k3 : Keep w w3 := k2.grown g3 k2.size (fun j hj => by cases hj; exact Nat.le_refl _)
  clear o2 g3 k2
  go_wp2_with (refine wpList_insert_own _ rfl _ _ _ 62 rfl 3 4 keyLaw Try.underlying62 boolElem w.heap.size 3 _ rfl o3 (by unfold maxLen; omega) _ _ _ rfl rfl (keyOf_int_mk Try.underlying3 (by decide)) _ [] (boolElem_mk true) ?_)
  intro w4 o4 g4
  have k4 : Keep w w4 := k3.grown g4 k3.size (fun j hj => by cases hj; exact Nat.le_refl _)
  clear o3 g4 k3
  go_wp2_with (refine wpList_insert_own _ rfl _ _ _ 62 rfl 3 4 keyLaw Try.underlying62 boolElem w.heap.size 4 _ rfl o4 (by unfold maxLen; omega) _ _ _ rfl rfl (keyOf_int_mk Try.underlying3 (by decide)) _ [] (boolElem_mk true) ?_)
  intro w5 o5 g5
  have k5 : Keep w w5 := k4.grown g5 k4.size (fun j hj => by cases hj; exact Nat.le_refl _)
  clear o4 g5 k4
  go_wp2_with (refine wpList_insert_own _ rfl _ _ _ 62 rfl 3 4 keyLaw Try.underlying62 boolElem w.heap.size 5 _ rfl o5 (by unfold maxLen; omega) _ _ _ rfl rfl (keyOf_int_mk Try.underlying3 (by decide)) _ [] (boolElem_mk true) ?_)
  intro w6 o6 g6
  have k6 : Keep w w6 := k5.grown g6 k5.size (fun j hj => by cases hj; exact Nat.le_refl _)
  clear o5 g6 k5
  go_wp2_with (refine wpList_insert_own _ rfl _ _ _ 62 rfl 3 4 keyLaw Try.underlying62 boolElem w.heap.size 6 _ rfl o6 (by unfold maxLen; omega) _ _ _ rfl rfl (keyOf_int_mk Try.underlying3 (by decide)) _ [] (boolElem_mk true) ?_)
  intro w7 o7 g7
  have k7 : Keep w w7 := k6.grown g7 k6.size (fun j hj => by cases hj; exact Nat.le_refl _)
  clear o6 g7 k6
  go_wp2_with (refine wpList_insert_own _ rfl _ _ _ 62 rfl 3 4 keyLaw Try.underlying62 boolElem w.heap.size 7 _ rfl o7 (by unfold maxLen; omega) _ _ _ rfl rfl (keyOf_int_mk Try.underlying3 (by decide)) _ [] (boolElem_mk true) ?_)
  intro w8 o8 g8
  have k8 : Keep w w8 := k7.grown g8 k7.size (fun j hj => by cases hj; exact Nat.le_refl _)
  clear o7 g8 k7
  go_wp2_with (refine wpList_insert_own _ rfl _ _ _ 62 rfl 3 4 keyLaw Try.underlying62 boolElem w.heap.size 8 _ rfl o8 (by unfold maxLen; omega) _ _ _ rfl rfl (keyOf_int_mk Try.underlying3 (by decide)) _ [] (boolElem_mk true) ?_)
  intro w9 o9 g9
  have k9 : Keep w w9 := k8.grown g9 k8.size (fun j hj => by cases hj; exact Nat.le_refl _)
  clear o8 g9 k8
  go_wp2
  go_ret
  exact ⟨rfl, o9, k9⟩

set_option maxHeartbeats 400000 in
theorem code_any (n : Int) (w : World) :
    Calls Try.prog 29 #[.int .i64 n] w fun e w' => e = .returned (.bool (Rp.code n)) ∧ Keep w w' := by
  go_enter Try.func29, Try.ntmps29
  go_wp2_with fail
  refine (codes_any _).mono ?_
  rintro e w1 ⟨rfl, hl, hk⟩
  have hlk := hl.look n
  go_wp2
  go_ret
  exact ⟨rfl, hk⟩
end Go.Proofs.Ytijnajlijdnbcaa.Reply
