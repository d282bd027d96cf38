/- Layer 11's law: what its example is built of. Conditions: none. -/
import Derived.Test.YtnlpaceahgedkaaDoorTrDev
import Derived.Deep.RegionHeld3
import Derived.Deep.Cut
namespace Go.Proofs.YtnlpaceahgedkaaDoor.Tree
set_option linter.unusedVariables false
set_option maxRecDepth 100000
open Go.ChangeShapes Go.WideShapes Go.ChangeAt Go.RowKit
open Tr
theorem results_c {fn : Func} {p : Tmp} {ty : TypeId} (h : fn.results = #[.cell p ty]) (tmps : Array Value) (P : Program) (w : World) :
    (results fn tmps).run P w = ((asAddr (tmps.getD p undef)).run P w).andThen fun a w₁ => (loadVar ty a).run P w₁ := by
  simp only [results, h]
  simp [Sem.run_bind, Result.andThen]
def FuncAt (n : Int) (w : World) (e : Ending) (w' : World) : Prop :=
  ∃ b, e = .returned (.agg #[.int .i64 1, .int .i64 3, .slice (some ⟨b, 0, none⟩) 1 1, .float .f64 0, .float .f64 0, .slice none 0 0]) ∧ (w.heap.size ≤ b ∧ b < w'.heap.size) ∧ (w'.cell? ⟨b, 0, none⟩ = some (.int .i64 n) ∧ w'.cell? ⟨b, 1, none⟩ = some (.int .i64 n)) ∧ Keep w w'
set_option maxHeartbeats 2000000 in
theorem func_any (n : Int) (w : World) : Calls Tryd.prog 22 #[.int .i64 n] w (FuncAt n w) := by
  have hsf := store_float Tryd.prog
  go_enter Tryd.func22, Tryd.ntmps22
  go_wp2
  (try simp only [Exit.inBlock, Exit.then])
  refine bodyPost_ret (v := .agg #[.int .i64 1, .int .i64 3, .slice (some ⟨w.heap.size + 1, 0, none⟩) 1 1, .float .f64 0, .float .f64 0, .slice none 0 0]) ?_ rfl ⟨w.heap.size + 1, rfl, ?_, ?_, ?_⟩
  · rw [results_c rfl]
    go_simp
  · simp
  · exact ⟨by go_simp, by go_simp⟩
  · show Below w.heap.size w _
    repeat' (first | exact Below.refl _ _ | with_reducible refine Below.setCell ?_ ?_ _ | with_reducible refine Below.alloc ?_ ?_ _ | exact Nat.le_refl _ | (simp; done))
/-- An expression's box, still empty. -/
def ZeroAt (W : World) (b : Nat) : Prop :=
  (W.cell? ⟨b, 0, none⟩ = some (.int .i64 0) ∧ W.cell? ⟨b, 1, none⟩ = some (.int .i64 0) ∧ W.cell? ⟨b, 2, none⟩ = some (.slice none 0 0) ∧ W.cell? ⟨b, 3, none⟩ = some (.float .f64 0) ∧ W.cell? ⟨b, 4, none⟩ = some (.float .f64 0) ∧ W.cell? ⟨b, 5, none⟩ = some (.slice none 0 0)) ∧ (∀ j, W.frozen? ⟨b, j, none⟩ = false) ∧ b < W.heap.size
theorem ZeroAt.kept {W W' : World} {b : Nat} (h : ZeroAt W b) (hk : Keep W W') : ZeroAt W' b := by
  obtain ⟨⟨a0, a1, a2, a3, a4, a5⟩, hf, hb⟩ := h
  exact ⟨⟨(Below.cell hk hb).trans a0, (Below.cell hk hb).trans a1, (Below.cell hk hb).trans a2, (Below.cell hk hb).trans a3, (Below.cell hk hb).trans a4, (Below.cell hk hb).trans a5⟩, fun j => (Below.frozen hk hb).trans (hf j), Nat.lt_of_lt_of_le hb hk.size⟩
theorem ZeroAt.new (W : World) (t : TypeId) : ZeroAt (W.alloc (.cells #[.int .i64 0, .int .i64 0, .slice none 0 0, .float .f64 0, .float .f64 0, .slice none 0 0] t)) W.heap.size := by
  refine ⟨⟨?_, ?_, ?_, ?_, ?_, ?_⟩, fun j => ?_, by simp⟩
  all_goals go_simp
theorem zero_call {W w' : World} {t : TypeId} (hk : Keep (W.alloc (.cells #[.int .i64 0, .int .i64 0, .slice none 0 0, .float .f64 0, .float .f64 0, .slice none 0 0] t)) w') : ZeroAt w' W.heap.size := (ZeroAt.new W t).kept hk
theorem zero_call2 {W w' : World} {t : TypeId} (hk : Keep (W.alloc (.cells #[.int .i64 0, .int .i64 0, .slice none 0 0, .float .f64 0, .float .f64 0, .slice none 0 0] t)).drew w') : ZeroAt w' W.heap.size := ((ZeroAt.new W t).kept (keep_drew' (Keep.refl _))).kept hk
theorem zero_towers {w6 : World} {b : Nat} (h : ZeroAt w6 b) : (∀ O O' O'' : Obj, (((w6.alloc O).alloc O').alloc O'').cell? ⟨b, 0, none⟩ = some (.int .i64 0)) ∧
    (∀ O O' O'' : Obj, (((w6.alloc O).alloc O').alloc O'').cell? ⟨b, 1, none⟩ = some (.int .i64 0)) ∧
    (∀ O O' O'' : Obj, (((w6.alloc O).alloc O').alloc O'').cell? ⟨b, 2, none⟩ = some (.slice none 0 0)) ∧
    (∀ O O' O'' : Obj, (((w6.alloc O).alloc O').alloc O'').cell? ⟨b, 3, none⟩ = some (.float .f64 0)) ∧
    (∀ O O' O'' : Obj, (((w6.alloc O).alloc O').alloc O'').cell? ⟨b, 4, none⟩ = some (.float .f64 0)) ∧
    (∀ O O' O'' : Obj, (((w6.alloc O).alloc O').alloc O'').cell? ⟨b, 5, none⟩ = some (.slice none 0 0)) ∧
    (∀ (O O' O'' : Obj) (j : Nat), (((w6.alloc O).alloc O').alloc O'').frozen? ⟨b, j, none⟩ = false) := by
  have k := fun O O' O'' => h.kept ((((Keep.refl w6).alloc O).alloc O').alloc O'')
  exact ⟨fun O O' O'' => (k O O' O'').1.1, fun O O' O'' => (k O O' O'').1.2.1, fun O O' O'' => (k O O' O'').1.2.2.1, fun O O' O'' => (k O O' O'').1.2.2.2.1, fun O O' O'' => (k O O' O'').1.2.2.2.2.1, fun O O' O'' => (k O O' O'').1.2.2.2.2.2, fun O O' O'' => (k O O' O'').2.1⟩
/-- The six cells of a box stand where another box is written. -/
theorem sets6 {T : World} {u b : Nat} {c0 c1 c2 c3 c4 c5 : Value}
    (h : T.cell? ⟨u, 0, none⟩ = some c0 ∧ T.cell? ⟨u, 1, none⟩ = some c1 ∧ T.cell? ⟨u, 2, none⟩ = some c2 ∧ T.cell? ⟨u, 3, none⟩ = some c3 ∧ T.cell? ⟨u, 4, none⟩ = some c4 ∧ T.cell? ⟨u, 5, none⟩ = some c5) (hb : u ≠ b) (v0 v1 v2 v3 v4 v5 : Value) :
    ((((((T.setCell ⟨b, 0, none⟩ v0).setCell ⟨b, 1, none⟩ v1).setCell ⟨b, 2, none⟩ v2).setCell ⟨b, 3, none⟩ v3).setCell ⟨b, 4, none⟩ v4).setCell ⟨b, 5, none⟩ v5).cell? ⟨u, 0, none⟩ = some c0 ∧
    ((((((T.setCell ⟨b, 0, none⟩ v0).setCell ⟨b, 1, none⟩ v1).setCell ⟨b, 2, none⟩ v2).setCell ⟨b, 3, none⟩ v3).setCell ⟨b, 4, none⟩ v4).setCell ⟨b, 5, none⟩ v5).cell? ⟨u, 1, none⟩ = some c1 ∧
    ((((((T.setCell ⟨b, 0, none⟩ v0).setCell ⟨b, 1, none⟩ v1).setCell ⟨b, 2, none⟩ v2).setCell ⟨b, 3, none⟩ v3).setCell ⟨b, 4, none⟩ v4).setCell ⟨b, 5, none⟩ v5).cell? ⟨u, 2, none⟩ = some c2 ∧
    ((((((T.setCell ⟨b, 0, none⟩ v0).setCell ⟨b, 1, none⟩ v1).setCell ⟨b, 2, none⟩ v2).setCell ⟨b, 3, none⟩ v3).setCell ⟨b, 4, none⟩ v4).setCell ⟨b, 5, none⟩ v5).cell? ⟨u, 3, none⟩ = some c3 ∧
    ((((((T.setCell ⟨b, 0, none⟩ v0).setCell ⟨b, 1, none⟩ v1).setCell ⟨b, 2, none⟩ v2).setCell ⟨b, 3, none⟩ v3).setCell ⟨b, 4, none⟩ v4).setCell ⟨b, 5, none⟩ v5).cell? ⟨u, 4, none⟩ = some c4 ∧
    ((((((T.setCell ⟨b, 0, none⟩ v0).setCell ⟨b, 1, none⟩ v1).setCell ⟨b, 2, none⟩ v2).setCell ⟨b, 3, none⟩ v3).setCell ⟨b, 4, none⟩ v4).setCell ⟨b, 5, none⟩ v5).cell? ⟨u, 5, none⟩ = some c5 := by
  have hc : ∀ j, ((((((T.setCell ⟨b, 0, none⟩ v0).setCell ⟨b, 1, none⟩ v1).setCell ⟨b, 2, none⟩ v2).setCell ⟨b, 3, none⟩ v3).setCell ⟨b, 4, none⟩ v4).setCell ⟨b, 5, none⟩ v5).cell? ⟨u, j, none⟩ = T.cell? ⟨u, j, none⟩ := fun j => World.cell?_of_block (by
    rw [Below.heap_setCell _ _ _ _ hb, Below.heap_setCell _ _ _ _ hb, Below.heap_setCell _ _ _ _ hb, Below.heap_setCell _ _ _ _ hb, Below.heap_setCell _ _ _ _ hb, Below.heap_setCell _ _ _ _ hb])
  rw [hc, hc, hc, hc, hc, hc]
  exact h
/-- Cells of a block, from its first one on. -/
def Cells (W : World) (b : Nat) (L : List Value) : Prop := ∀ j v, L[j]? = some v → W.cell? ⟨b, j, none⟩ = some v
theorem Cells.new {T : World} {b : Nat} (vs : Array Value) (t : TypeId) (h : b = T.heap.size) : Cells (T.alloc (.cells vs t)) b vs.toList := fun j v hj => by
  subst h
  rw [World.cell?_alloc_at (hn := rfl)]
  simpa using hj
theorem Cells.kept {W W' : World} {b : Nat} {L : List Value} (h : Cells W b L) (hk : Keep W W') (hb : b < W.heap.size) : Cells W' b L := fun j v hj => (Below.cell hk hb).trans (h j v hj)
theorem Cells.alloc {W : World} {b : Nat} {L : List Value} (h : Cells W b L) (hb : b < W.heap.size) (O : Obj) : Cells (W.alloc O) b L := h.kept ((Keep.refl W).alloc O) hb
theorem Cells.set {W : World} {b q i : Nat} {L : List Value} (h : Cells W b L) (hb : b ≠ q) (v : Value) : Cells (W.setCell ⟨q, i, none⟩ v) b L := fun j u hj => (World.cell?_of_block (Below.heap_setCell _ _ _ _ hb)).trans (h j u hj)
theorem cells2 {W : World} {b : Nat} {n : Int} (h : W.cell? ⟨b, 0, none⟩ = some (.int .i64 n) ∧ W.cell? ⟨b, 1, none⟩ = some (.int .i64 n)) : Cells W b [.int .i64 n, .int .i64 n] := fun j v hj => by
  match j, hj with
  | 0, hj => obtain rfl : Value.int .i64 n = v := by simpa using hj
             exact h.1
  | 1, hj => obtain rfl : Value.int .i64 n = v := by simpa using hj
             exact h.2
def at1 (f : Int) (n : Int) : ExprP := .mk 1 f [(n, n)] 0 0 []
def orE : ExprP := .mk 4 0 [] 0 0 [at1 3 3, at1 3 4]
def notE : ExprP := .mk 2 0 [] 0 0 [orE]
def exE : ExprP := .mk 3 0 [] 0 0 [notE, at1 2 17]
def at6 (f : Int) (b : Nat) : List Value := [.int .i64 1, .int .i64 f, .slice (some ⟨b, 0, none⟩) 1 1, .float .f64 0, .float .f64 0, .slice none 0 0]
def in6 (k : Int) (b n : Nat) : List Value := [.int .i64 k, .int .i64 0, .slice none 0 0, .float .f64 0, .float .f64 0, .slice (some ⟨b, 0, none⟩) n n]
theorem at1_in {W : World} {b : Nat} {f n : Int} (h : Cells W b [.int .i64 n, .int .i64 n]) (hb : b < W.heap.size) : ExIn W W.heap.size (at1 f n) (at6 f b) := by
  unfold at1
  rw [ExIn]
  refine ⟨some ⟨b, 0, none⟩, 1, none, 0, rfl, ⟨rfl, fun _ => ⟨b, 0, rfl, hb, fun j hj i v hv => ?_⟩⟩, fun h => absurd h (by simp)⟩
  have hj0 : j = 0 := by simpa using hj
  subst hj0
  have := h i v (by simpa [encP] using hv)
  simpa using this
theorem inner_in {W : World} {b : Nat} {k : Int} {o : List ExprP} (hb : b < W.heap.size) (h : ExsIn W W.heap.size o b 0) (n : Nat) (hn : n = o.length) : ExIn W W.heap.size (.mk k 0 [] 0 0 o) (in6 k b n) := by
  subst hn
  rw [ExIn]
  exact ⟨none, 0, some ⟨b, 0, none⟩, o.length, rfl, ⟨rfl, fun h => absurd h (by simp)⟩, fun _ => ⟨b, 0, rfl, hb, h⟩⟩
theorem one_in {W : World} {b : Nat} {x : ExprP} {cx : List Value} (hc : Cells W b cx) (hx : ExIn W W.heap.size x cx) : ExsIn W W.heap.size [x] b 0 := by
  rw [ExsIn, ExsIn]
  exact ⟨⟨cx, fun j v hj => by rw [Nat.zero_add]; exact hc j v hj, hx⟩, trivial⟩
theorem two_in {W : World} {b : Nat} {x y : ExprP} {cx cy : List Value} (hl : cx.length = 6) (hc : Cells W b (cx ++ cy)) (hx : ExIn W W.heap.size x cx) (hy : ExIn W W.heap.size y cy) : ExsIn W W.heap.size [x, y] b 0 := by
  rw [ExsIn, ExsIn, ExsIn]
  refine ⟨⟨cx, fun j v hj => ?_, hx⟩, ⟨cy, fun j v hj => ?_, hy⟩, trivial⟩
  · rw [Nat.zero_add]
    refine hc j v ?_
    have : j < cx.length := by
      rcases Nat.lt_or_ge j cx.length with h | h
      · exact h
      · rw [List.getElem?_eq_none h] at hj; cases hj
    rw [List.getElem?_append_left this]; exact hj
  · rw [Nat.zero_add]
    refine hc (6 + j) v ?_
    rw [List.getElem?_append_right (by omega), hl, Nat.add_sub_cancel_left]; exact hj
/-- The example lies there. -/
theorem built {W : World} {b5 b6 bu p13 p15 p18 : Nat} (h5 : Cells W b5 [.int .i64 3, .int .i64 3]) (h6 : Cells W b6 [.int .i64 4, .int .i64 4]) (hu : Cells W bu [.int .i64 17, .int .i64 17])
    (l5 : b5 < W.heap.size) (l6 : b6 < W.heap.size) (lu : bu < W.heap.size) (c13 : Cells W p13 (at6 3 b5 ++ at6 3 b6)) (l13 : p13 < W.heap.size) (c15 : Cells W p15 (in6 4 p13 2)) (l15 : p15 < W.heap.size) (c18 : Cells W p18 (in6 2 p15 1 ++ at6 2 bu)) (l18 : p18 < W.heap.size) :
    Ex W exE none (some ⟨p18, 0, none⟩) :=
  ⟨⟨rfl, fun h => absurd h (Nat.lt_irrefl 0)⟩, fun _ => ⟨p18, 0, rfl, l18, two_in rfl c18 (inner_in l15 (one_in c15 (inner_in l13 (two_in rfl c13 (at1_in h5 l5) (at1_in h6 l6)) 2 rfl)) 1 rfl) (at1_in hu lu)⟩⟩
theorem exE_at {W : World} {q : Nat} {OA : Option Addr} (h0 : W.cell? ⟨q, 0, none⟩ = some (.int .i64 3)) (h1 : W.cell? ⟨q, 1, none⟩ = some (.int .i64 0)) (h2 : W.cell? ⟨q, 2, none⟩ = some (.slice none 0 0)) (h3 : W.cell? ⟨q, 3, none⟩ = some (.float .f64 0)) (h4 : W.cell? ⟨q, 4, none⟩ = some (.float .f64 0)) (h5 : W.cell? ⟨q, 5, none⟩ = some (.slice OA 2 2)) :
    ElemAt W exE none OA 0 2 q 0 := ⟨h0, h1, h2, h3, h4, h5⟩
def exR : RuleP := ⟨true, exE, 0, 0, 0, 0⟩
theorem plain0 : plain 0 = true := Fp.sameB_self (by decide)
theorem exE_right : right exE = true := by
  simp [exE, notE, orE, at1, right, rightL, atomR, manyR, rangesR, plain0, kind, numR, Gu.inR]
theorem exE_atoms : atoms exE = 3 := by simp [exE, notE, orE, at1, atoms, atomsL, inner]
theorem exE_deep : deep exE = 3 := by simp [exE, notE, orE, at1, deep, deepL, inner]
theorem exE_same : same exE exE = true := by
  have h0 : Fp.sameB 0 0 = true := plain0
  simp [exE, notE, orE, at1, same, sameL, h0]
theorem exE_fits : fits exE := by simp [exE, notE, orE, at1, fits, fitsL]
theorem exR_ok : textOk [exR] = true := by simp [textOk, ruleR, exR, exE_right, numR, Gu.inR]
theorem exR_bytes : rtxt exR = [97, 108, 108, 111, 119, 32, 119, 104, 101, 110, 32, 110, 111, 116, 32, 40, 102, 117, 110, 99, 32, 51, 32, 111, 114, 32, 102, 117, 110, 99, 32, 52, 41, 32, 97, 110, 100, 32, 117, 110, 105, 116, 32, 49, 55, 59, 10] := by
  have p3 : Gu.put 3 = [51] := Gu.put_getN (l := [51]) (by decide)
  have p4 : Gu.put 4 = [52] := Gu.put_getN (l := [52]) (by decide)
  have p17 : Gu.put 17 = [49, 55] := Gu.put_getN (l := [49, 55]) (by decide)
  simp [rtxt, exR, exE, notE, orE, at1, txt, txtL, kind, word, rng, range1, p3, p4, p17, brack, must, sep, wAnd, wOr, wNot, wAllow, wWhen]
theorem exR_text : text [exR] = [97, 108, 108, 111, 119, 32, 119, 104, 101, 110, 32, 110, 111, 116, 32, 40, 102, 117, 110, 99, 32, 51, 32, 111, 114, 32, 102, 117, 110, 99, 32, 52, 41, 32, 97, 110, 100, 32, 117, 110, 105, 116, 32, 49, 55, 59, 10] := by
  unfold text
  rw [exR_ok, if_pos rfl]
  show rtxt exR ++ [] = _
  rw [exR_bytes]; rfl
theorem exR_fits : ∀ r ∈ [exR], fits r.when_ := fun r h => by
  rw [List.mem_singleton] at h
  subst h
  exact exE_fits
theorem exR_len : ∀ r ∈ [exR], ruleR r = true → (rtxt r).length ≤ 3000000 := fun r h _ => by
  rw [List.mem_singleton] at h
  subst h
  rw [exR_bytes]; decide
theorem exR_in {W : World} {b : Nat} {OA : Option Addr} (hc : Cells W b (.bool true :: ([.int .i64 3, .int .i64 0, .slice none 0 0, .float .f64 0, .float .f64 0, .slice OA 2 2] ++ [.int .i64 0, .int .i64 0, .int .i64 0, .int .i64 0]))) (hb : b < W.heap.size) (hX : Ex W exE none OA) :
    Rus W (some ⟨b, 0, none⟩) [exR] := fun _ => ⟨b, 0, rfl, hb, fun k hk => by
      have hk0 : k = 0 := by simpa using hk
      subst hk0
      exact ⟨_, fun j v hj => by simpa using hc j v hj, _, rfl, rfl, hX.into 0 2⟩⟩
set_option maxHeartbeats 4000000 in
theorem awake_any (w : World) (ht : Tab w) : Calls Tryd.prog 8 #[] w fun e w' => e = .returned (.bool true) ∧ Keep w w' := by
  have hsf := store_float Tryd.prog
  go_enter Tryd.func8, Tryd.ntmps8
  go_wp2
  obtain ⟨X, hX⟩ : ∃ X, X = (w.alloc (.cells #[.int .i64 17, .int .i64 17] 39)).alloc (.cells #[.int .i64 1, .int .i64 2, .slice (some ⟨w.heap.size, 0, none⟩) 1 1, .float .f64 0, .float .f64 0, .slice none 0 0] 26) := ⟨_, rfl⟩
  rw [← hX]
  have hkX : Keep w X := by rw [hX]; exact ((Keep.refl w).alloc _).alloc _
  have hsX : X.heap.size = w.heap.size + 2 := by rw [hX]; simp
  have hS0 : (X.cell? ⟨w.heap.size + 1, 0, none⟩ = some (.int .i64 1) ∧ X.cell? ⟨w.heap.size + 1, 1, none⟩ = some (.int .i64 2) ∧ X.cell? ⟨w.heap.size + 1, 2, none⟩ = some (.slice (some ⟨w.heap.size, 0, none⟩) 1 1) ∧ X.cell? ⟨w.heap.size + 1, 3, none⟩ = some (.float .f64 0) ∧ X.cell? ⟨w.heap.size + 1, 4, none⟩ = some (.float .f64 0) ∧ X.cell? ⟨w.heap.size + 1, 5, none⟩ = some (.slice none 0 0)) ∧ X.cell? ⟨w.heap.size, 0, none⟩ = some (.int .i64 17) ∧ X.cell? ⟨w.heap.size, 1, none⟩ = some (.int .i64 17) := by
    rw [hX]
    refine ⟨⟨?_, ?_, ?_, ?_, ?_, ?_⟩, ?_, ?_⟩ <;> go_simp
  have hS : ∀ W, Keep X W → W.cell? ⟨w.heap.size + 1, 0, none⟩ = some (.int .i64 1) ∧ W.cell? ⟨w.heap.size + 1, 1, none⟩ = some (.int .i64 2) ∧ W.cell? ⟨w.heap.size + 1, 2, none⟩ = some (.slice (some ⟨w.heap.size, 0, none⟩) 1 1) ∧ W.cell? ⟨w.heap.size + 1, 3, none⟩ = some (.float .f64 0) ∧ W.cell? ⟨w.heap.size + 1, 4, none⟩ = some (.float .f64 0) ∧ W.cell? ⟨w.heap.size + 1, 5, none⟩ = some (.slice none 0 0) := fun W hk => by
    obtain ⟨⟨a0, a1, a2, a3, a4, a5⟩, _⟩ := hS0
    exact ⟨(Below.cell hk (by show w.heap.size + 1 < _; omega)).trans a0, (Below.cell hk (by show w.heap.size + 1 < _; omega)).trans a1, (Below.cell hk (by show w.heap.size + 1 < _; omega)).trans a2, (Below.cell hk (by show w.heap.size + 1 < _; omega)).trans a3, (Below.cell hk (by show w.heap.size + 1 < _; omega)).trans a4, (Below.cell hk (by show w.heap.size + 1 < _; omega)).trans a5⟩
  have hU : ∀ W, Keep X W → W.cell? ⟨w.heap.size, 0, none⟩ = some (.int .i64 17) ∧ W.cell? ⟨w.heap.size, 1, none⟩ = some (.int .i64 17) := fun W hk =>
    ⟨(Below.cell hk (by show w.heap.size < _; omega)).trans hS0.2.1, (Below.cell hk (by show w.heap.size < _; omega)).trans hS0.2.2⟩
  clear hX hS0
  have kX := Keep.refl X
  have kD := keep_drew' (Keep.refl X)
  have HU := Lib.hid hU
  have HX2 := Lib.hid hsX
  have HT := Lib.hid ht
  clear hU ht hsX
  have hltX : w.heap.size + 1 < X.heap.size := by rw [HX2.out]; omega
  go_cut [3] from 9 (fun p W => ∃ q OA, p = .pointer (some ⟨q, 0, none⟩) ∧ ElemAt W exE none OA 0 2 q 0 ∧ Ex W exE none OA ∧ q < W.heap.size ∧ Keep X W)
  case first =>
    go_region_held3 (fun W => W.cell? ⟨w.heap.size + 1, 0, none⟩ = some (.int .i64 1) ∧ W.cell? ⟨w.heap.size + 1, 1, none⟩ = some (.int .i64 2) ∧ W.cell? ⟨w.heap.size + 1, 2, none⟩ = some (.slice (some ⟨w.heap.size, 0, none⟩) 1 1) ∧ W.cell? ⟨w.heap.size + 1, 3, none⟩ = some (.float .f64 0) ∧ W.cell? ⟨w.heap.size + 1, 4, none⟩ = some (.float .f64 0) ∧ W.cell? ⟨w.heap.size + 1, 5, none⟩ = some (.slice none 0 0))
      (first
        | with_reducible exact hS _ kX
        | with_reducible exact hS _ kD
        | with_reducible exact hS _ (kX.alloc _)
        | with_reducible exact hS _ (keep_drew' (kX.alloc _))
        | with_reducible exact hS _ ((hw5.alloc _).alloc _)
        | with_reducible exact hS _ (kD.alloc _)
        | with_reducible exact hS _ hw6
        | with_reducible exact hS _ (hw6.alloc _)
        | with_reducible exact hS _ ((hw6.alloc _).alloc _)
        | with_reducible exact hS _ (((hw6.alloc _).alloc _).alloc _)
        | with_reducible exact hS _ ((((hw6.alloc _).alloc _).alloc _).alloc _)
        | with_reducible exact sets6 (by assumption) (by omega) _ _ _ _ _ _
        | with_reducible exact hS _ hw5
        | with_reducible exact hS _ (hw5.alloc _)
        | fail)
      ((first
        | (go_at_call 22; refine (func_any 4 _).mono ?_; rintro e w6 ⟨b6, rfl, hb6, hc6, hk6⟩; have hz6 : ZeroAt w6 w5.heap.size := (by with_reducible exact zero_call hk6); have hw6 : Keep X w6 := (by with_reducible exact (hw5.alloc _).trans hk6); have hs6 := hw6.size; obtain ⟨t0, t1, t2, t3, t4, t5, tf⟩ := zero_towers hz6)
        | (go_at_call 22; refine (func_any 4 _).mono ?_; rintro e w6 ⟨b6, rfl, hb6, hc6, hk6⟩; have hz6 : ZeroAt w6 X.heap.size := (by with_reducible exact hz5.kept hk6); have hw6 : Keep X w6 := (by with_reducible exact hw5.trans hk6); have hs6 := hw6.size; obtain ⟨t0, t1, t2, t3, t4, t5, tf⟩ := zero_towers hz6)
        | (go_at_call 22; refine (func_any 4 _).mono ?_; rintro e w6 ⟨b6, rfl, hb6, hc6, hk6⟩; have hw6 : Keep X w6 := (by with_reducible exact hw5.trans hk6); have hs6 := hw6.size)
        | (go_at_call 22; refine (func_any 3 _).mono ?_; rintro e w5 ⟨b5, rfl, hb5, hc5, hk5⟩; have hz5 : ZeroAt w5 X.heap.size := (by with_reducible exact zero_call2 hk5); have hw5 : Keep X w5 := (by with_reducible exact (keep_drew' (kX.alloc _)).trans hk5); have hs5 := hw5.size)
        | (go_at_call 22; refine (func_any 3 _).mono ?_; rintro e w5 ⟨b5, rfl, hb5, hc5, hk5⟩; have hz5 : ZeroAt w5 X.drew.heap.size := (by with_reducible exact zero_call hk5); have hz5 : ZeroAt w5 X.heap.size := hz5; have hw5 : Keep X w5 := (by with_reducible exact (kD.alloc _).trans hk5); have hs5 := hw5.size)
        | (go_at_call 22; refine (func_any 3 _).mono ?_; rintro e w5 ⟨b5, rfl, hb5, hc5, hk5⟩; have hw5 : Keep X w5 := (by with_reducible exact kD.trans hk5); have hs5 := hw5.size)
        | fail))
    · go_wp2_with fail
      go_meet
      have hz5 := hk5.size
      have hz6 := hk6.size
      obtain ⟨hb5, hb5'⟩ := hb5
      obtain ⟨hb6, hb6'⟩ := hb6
      have c5 := cells2 hc5
      have c6 := cells2 hc6
      have c56 : Cells w6 b5 [.int .i64 3, .int .i64 3] := c5.kept hk6 (by omega)
      have cu := cells2 (HU.out _ hw6)
      simp at hz5 hz6 hb5 hb6
      refine ⟨w6.heap.size + 1 + 1 + 1, some ⟨w6.heap.size + 1 + 1, 0, none⟩, rfl, exE_at (by go_simp) (by go_simp) (by go_simp) (by go_simp) (by go_simp) (by go_simp), ?_, by simp; try omega, ?_⟩
      · refine built (b5 := b5) (b6 := b6) (bu := w.heap.size) (p13 := w6.heap.size) (p15 := w6.heap.size + 1) ?_ ?_ ?_ (by (try simp); (try omega)) (by (try simp); (try omega)) (by (try simp); (try omega)) ?_ (by (try simp); (try omega)) ?_ (by (try simp); (try omega)) ?_ (by (try simp); (try omega))
        · exact Cells.alloc (Cells.alloc (Cells.alloc (Cells.alloc (c56) (by (try simp); (try omega)) _) (by (try simp); (try omega)) _) (by (try simp); (try omega)) _) (by (try simp); (try omega)) _
        · exact Cells.alloc (Cells.alloc (Cells.alloc (Cells.alloc (c6) (by (try simp); (try omega)) _) (by (try simp); (try omega)) _) (by (try simp); (try omega)) _) (by (try simp); (try omega)) _
        · exact Cells.alloc (Cells.alloc (Cells.alloc (Cells.alloc (cu) (by (try simp); (try omega)) _) (by (try simp); (try omega)) _) (by (try simp); (try omega)) _) (by (try simp); (try omega)) _
        · exact Cells.alloc (Cells.alloc (Cells.alloc (Cells.new _ _ (by first | rfl | simp)) (by (try simp); (try omega)) _) (by (try simp); (try omega)) _) (by (try simp); (try omega)) _
        · exact Cells.alloc (Cells.alloc (Cells.new _ _ (by first | rfl | simp)) (by (try simp); (try omega)) _) (by (try simp); (try omega)) _
        · exact Cells.alloc (Cells.new _ _ (by first | rfl | simp)) (by (try simp); (try omega)) _
      · exact ((((hw6).alloc _).alloc _).alloc _).alloc _
    · go_wp2_with fail
      go_meet
      have hz5 := hk5.size
      have hz6 := hk6.size
      obtain ⟨hb5, hb5'⟩ := hb5
      obtain ⟨hb6, hb6'⟩ := hb6
      have c5 := cells2 hc5
      have c6 := cells2 hc6
      have c56 : Cells w6 b5 [.int .i64 3, .int .i64 3] := c5.kept hk6 (by omega)
      have cu := cells2 (HU.out _ hw6)
      simp at hz5 hz6 hb5 hb6
      refine ⟨w6.heap.size + 1 + 1, some ⟨w6.heap.size + 1 + 1 + 1, 0, none⟩, rfl, exE_at (by go_simp) (by go_simp) (by go_simp) (by go_simp) (by go_simp) (by go_simp), ?_, by simp; try omega, ?_⟩
      · refine built (b5 := b5) (b6 := b6) (bu := w.heap.size) (p13 := w6.heap.size) (p15 := w6.heap.size + 1) ?_ ?_ ?_ (by (try simp); (try omega)) (by (try simp); (try omega)) (by (try simp); (try omega)) ?_ (by (try simp); (try omega)) ?_ (by (try simp); (try omega)) ?_ (by (try simp); (try omega))
        · exact Cells.alloc (Cells.alloc (Cells.alloc (Cells.alloc (c56) (by (try simp); (try omega)) _) (by (try simp); (try omega)) _) (by (try simp); (try omega)) _) (by (try simp); (try omega)) _
        · exact Cells.alloc (Cells.alloc (Cells.alloc (Cells.alloc (c6) (by (try simp); (try omega)) _) (by (try simp); (try omega)) _) (by (try simp); (try omega)) _) (by (try simp); (try omega)) _
        · exact Cells.alloc (Cells.alloc (Cells.alloc (Cells.alloc (cu) (by (try simp); (try omega)) _) (by (try simp); (try omega)) _) (by (try simp); (try omega)) _) (by (try simp); (try omega)) _
        · exact Cells.alloc (Cells.alloc (Cells.alloc (Cells.new _ _ (by first | rfl | simp)) (by (try simp); (try omega)) _) (by (try simp); (try omega)) _) (by (try simp); (try omega)) _
        · exact Cells.alloc (Cells.alloc (Cells.new _ _ (by first | rfl | simp)) (by (try simp); (try omega)) _) (by (try simp); (try omega)) _
        · exact Cells.new _ _ (by first | rfl | simp)
      · exact ((((hw6).alloc _).alloc _).alloc _).alloc _
    · go_wp2_with fail
      go_meet
      have hz5 := hk5.size
      have hz6 := hk6.size
      obtain ⟨hb5, hb5'⟩ := hb5
      obtain ⟨hb6, hb6'⟩ := hb6
      have c5 := cells2 hc5
      have c6 := cells2 hc6
      have c56 : Cells w6 b5 [.int .i64 3, .int .i64 3] := c5.kept hk6 (by omega)
      have cu := cells2 (HU.out _ hw6)
      simp at hz5 hz6 hb5 hb6
      refine ⟨w6.heap.size + 1, some ⟨w6.heap.size + 1 + 1 + 1, 0, none⟩, rfl, exE_at (by go_simp) (by go_simp) (by go_simp) (by go_simp) (by go_simp) (by go_simp), ?_, by simp; try omega, ?_⟩
      · refine built (b5 := b5) (b6 := b6) (bu := w.heap.size) (p13 := w6.heap.size) (p15 := w6.heap.size + 1 + 1) ?_ ?_ ?_ (by (try simp); (try omega)) (by (try simp); (try omega)) (by (try simp); (try omega)) ?_ (by (try simp); (try omega)) ?_ (by (try simp); (try omega)) ?_ (by (try simp); (try omega))
        · exact Cells.alloc (Cells.alloc (Cells.alloc (Cells.alloc (c56) (by (try simp); (try omega)) _) (by (try simp); (try omega)) _) (by (try simp); (try omega)) _) (by (try simp); (try omega)) _
        · exact Cells.alloc (Cells.alloc (Cells.alloc (Cells.alloc (c6) (by (try simp); (try omega)) _) (by (try simp); (try omega)) _) (by (try simp); (try omega)) _) (by (try simp); (try omega)) _
        · exact Cells.alloc (Cells.alloc (Cells.alloc (Cells.alloc (cu) (by (try simp); (try omega)) _) (by (try simp); (try omega)) _) (by (try simp); (try omega)) _) (by (try simp); (try omega)) _
        · exact Cells.alloc (Cells.alloc (Cells.alloc (Cells.new _ _ (by first | rfl | simp)) (by (try simp); (try omega)) _) (by (try simp); (try omega)) _) (by (try simp); (try omega)) _
        · exact Cells.alloc (Cells.new _ _ (by first | rfl | simp)) (by (try simp); (try omega)) _
        · exact Cells.new _ _ (by first | rfl | simp)
      · exact ((((hw6).alloc _).alloc _).alloc _).alloc _
    · go_wp2_with fail
      go_meet
      have hz5 := hk5.size
      have hz6 := hk6.size
      obtain ⟨hb5, hb5'⟩ := hb5
      obtain ⟨hb6, hb6'⟩ := hb6
      have c5 := cells2 hc5
      have c6 := cells2 hc6
      have c56 : Cells w6 b5 [.int .i64 3, .int .i64 3] := c5.kept hk6 (by omega)
      have cu := cells2 (HU.out _ hw6)
      simp at hz5 hz6 hb5 hb6
      refine ⟨w6.heap.size, some ⟨w6.heap.size + 1 + 1 + 1, 0, none⟩, rfl, exE_at (by go_simp) (by go_simp) (by go_simp) (by go_simp) (by go_simp) (by go_simp), ?_, by simp; try omega, ?_⟩
      · refine built (b5 := b5) (b6 := b6) (bu := w.heap.size) (p13 := w6.heap.size + 1) (p15 := w6.heap.size + 1 + 1) ?_ ?_ ?_ (by (try simp); (try omega)) (by (try simp); (try omega)) (by (try simp); (try omega)) ?_ (by (try simp); (try omega)) ?_ (by (try simp); (try omega)) ?_ (by (try simp); (try omega))
        · exact Cells.alloc (Cells.alloc (Cells.alloc (Cells.alloc (c56) (by (try simp); (try omega)) _) (by (try simp); (try omega)) _) (by (try simp); (try omega)) _) (by (try simp); (try omega)) _
        · exact Cells.alloc (Cells.alloc (Cells.alloc (Cells.alloc (c6) (by (try simp); (try omega)) _) (by (try simp); (try omega)) _) (by (try simp); (try omega)) _) (by (try simp); (try omega)) _
        · exact Cells.alloc (Cells.alloc (Cells.alloc (Cells.alloc (cu) (by (try simp); (try omega)) _) (by (try simp); (try omega)) _) (by (try simp); (try omega)) _) (by (try simp); (try omega)) _
        · exact Cells.alloc (Cells.alloc (Cells.new _ _ (by first | rfl | simp)) (by (try simp); (try omega)) _) (by (try simp); (try omega)) _
        · exact Cells.alloc (Cells.new _ _ (by first | rfl | simp)) (by (try simp); (try omega)) _
        · exact Cells.new _ _ (by first | rfl | simp)
      · exact ((((hw6).alloc _).alloc _).alloc _).alloc _
    · go_wp2_with fail
      go_meet
      have hz5 := hk5.size
      have hz6 := hk6.size
      obtain ⟨hb5, hb5'⟩ := hb5
      obtain ⟨hb6, hb6'⟩ := hb6
      have c5 := cells2 hc5
      have c6 := cells2 hc6
      have c56 : Cells w6 b5 [.int .i64 3, .int .i64 3] := (Cells.alloc c5 (by omega) _).kept hk6 (by (try simp); (try omega))
      have cu := cells2 (HU.out _ hw6)
      simp at hz5 hz6 hb5 hb6
      refine ⟨w5.heap.size, some ⟨w6.heap.size + 1 + 1, 0, none⟩, rfl, exE_at (by go_simp) (by go_simp) (by go_simp) (by go_simp) (by go_simp) (by go_simp), ?_, by simp; try omega, ?_⟩
      · refine built (b5 := b5) (b6 := b6) (bu := w.heap.size) (p13 := w6.heap.size) (p15 := w6.heap.size + 1) ?_ ?_ ?_ (by (try simp); (try omega)) (by (try simp); (try omega)) (by (try simp); (try omega)) ?_ (by (try simp); (try omega)) ?_ (by (try simp); (try omega)) ?_ (by (try simp); (try omega))
        · exact Cells.set (Cells.set (Cells.set (Cells.set (Cells.set (Cells.set (Cells.alloc (Cells.alloc (Cells.alloc (c56) (by (try simp); (try omega)) _) (by (try simp); (try omega)) _) (by (try simp); (try omega)) _) (by omega) _) (by omega) _) (by omega) _) (by omega) _) (by omega) _) (by omega) _
        · exact Cells.set (Cells.set (Cells.set (Cells.set (Cells.set (Cells.set (Cells.alloc (Cells.alloc (Cells.alloc (c6) (by (try simp); (try omega)) _) (by (try simp); (try omega)) _) (by (try simp); (try omega)) _) (by omega) _) (by omega) _) (by omega) _) (by omega) _) (by omega) _) (by omega) _
        · exact Cells.set (Cells.set (Cells.set (Cells.set (Cells.set (Cells.set (Cells.alloc (Cells.alloc (Cells.alloc (cu) (by (try simp); (try omega)) _) (by (try simp); (try omega)) _) (by (try simp); (try omega)) _) (by omega) _) (by omega) _) (by omega) _) (by omega) _) (by omega) _) (by omega) _
        · exact Cells.set (Cells.set (Cells.set (Cells.set (Cells.set (Cells.set (Cells.alloc (Cells.alloc (Cells.new _ _ (by first | rfl | simp)) (by (try simp); (try omega)) _) (by (try simp); (try omega)) _) (by omega) _) (by omega) _) (by omega) _) (by omega) _) (by omega) _) (by omega) _
        · exact Cells.set (Cells.set (Cells.set (Cells.set (Cells.set (Cells.set (Cells.alloc (Cells.new _ _ (by first | rfl | simp)) (by (try simp); (try omega)) _) (by omega) _) (by omega) _) (by omega) _) (by omega) _) (by omega) _) (by omega) _
        · exact Cells.set (Cells.set (Cells.set (Cells.set (Cells.set (Cells.set (Cells.new _ _ (by first | rfl | simp)) (by omega) _) (by omega) _) (by omega) _) (by omega) _) (by omega) _) (by omega) _
      · exact Below.setCell (Below.setCell (Below.setCell (Below.setCell (Below.setCell (Below.setCell ((((hw6).alloc _).alloc _).alloc _) (by show X.heap.size ≤ w5.heap.size; omega) _) (by show X.heap.size ≤ w5.heap.size; omega) _) (by show X.heap.size ≤ w5.heap.size; omega) _) (by show X.heap.size ≤ w5.heap.size; omega) _) (by show X.heap.size ≤ w5.heap.size; omega) _) (by show X.heap.size ≤ w5.heap.size; omega) _
    · go_wp2_with fail
      go_meet
      have hz5 := hk5.size
      have hz6 := hk6.size
      obtain ⟨hb5, hb5'⟩ := hb5
      obtain ⟨hb6, hb6'⟩ := hb6
      have c5 := cells2 hc5
      have c6 := cells2 hc6
      have c56 : Cells w6 b5 [.int .i64 3, .int .i64 3] := c5.kept hk6 (by omega)
      have cu := cells2 (HU.out _ hw6)
      simp at hz5 hz6 hb5 hb6
      refine ⟨X.heap.size, some ⟨w6.heap.size + 1 + 1, 0, none⟩, rfl, exE_at (by go_simp) (by go_simp) (by go_simp) (by go_simp) (by go_simp) (by go_simp), ?_, by simp; try omega, ?_⟩
      · refine built (b5 := b5) (b6 := b6) (bu := w.heap.size) (p13 := w6.heap.size) (p15 := w6.heap.size + 1) ?_ ?_ ?_ (by (try simp); (try omega)) (by (try simp); (try omega)) (by (try simp); (try omega)) ?_ (by (try simp); (try omega)) ?_ (by (try simp); (try omega)) ?_ (by (try simp); (try omega))
        · exact Cells.set (Cells.set (Cells.set (Cells.set (Cells.set (Cells.set (Cells.alloc (Cells.alloc (Cells.alloc (c56) (by (try simp); (try omega)) _) (by (try simp); (try omega)) _) (by (try simp); (try omega)) _) (by omega) _) (by omega) _) (by omega) _) (by omega) _) (by omega) _) (by omega) _
        · exact Cells.set (Cells.set (Cells.set (Cells.set (Cells.set (Cells.set (Cells.alloc (Cells.alloc (Cells.alloc (c6) (by (try simp); (try omega)) _) (by (try simp); (try omega)) _) (by (try simp); (try omega)) _) (by omega) _) (by omega) _) (by omega) _) (by omega) _) (by omega) _) (by omega) _
        · exact Cells.set (Cells.set (Cells.set (Cells.set (Cells.set (Cells.set (Cells.alloc (Cells.alloc (Cells.alloc (cu) (by (try simp); (try omega)) _) (by (try simp); (try omega)) _) (by (try simp); (try omega)) _) (by omega) _) (by omega) _) (by omega) _) (by omega) _) (by omega) _) (by omega) _
        · exact Cells.set (Cells.set (Cells.set (Cells.set (Cells.set (Cells.set (Cells.alloc (Cells.alloc (Cells.new _ _ (by first | rfl | simp)) (by (try simp); (try omega)) _) (by (try simp); (try omega)) _) (by omega) _) (by omega) _) (by omega) _) (by omega) _) (by omega) _) (by omega) _
        · exact Cells.set (Cells.set (Cells.set (Cells.set (Cells.set (Cells.set (Cells.alloc (Cells.new _ _ (by first | rfl | simp)) (by (try simp); (try omega)) _) (by omega) _) (by omega) _) (by omega) _) (by omega) _) (by omega) _) (by omega) _
        · exact Cells.set (Cells.set (Cells.set (Cells.set (Cells.set (Cells.set (Cells.new _ _ (by first | rfl | simp)) (by omega) _) (by omega) _) (by omega) _) (by omega) _) (by omega) _) (by omega) _
      · exact Below.setCell (Below.setCell (Below.setCell (Below.setCell (Below.setCell (Below.setCell ((((hw6).alloc _).alloc _).alloc _) (Nat.le_refl _) _) (Nat.le_refl _) _) (Nat.le_refl _) _) (Nat.le_refl _) _) (Nat.le_refl _) _) (Nat.le_refl _) _
  case rest =>
    obtain ⟨q, OA, rfl, hE, hX, hq, hkc⟩ := hcut
    have hkw : Keep w wc := hkX.trans hkc
    have htc : Tab wc := HT.out.keep hkw
    clear hkX hkc hltX hS HU HX2 kX kD hsf
    obtain ⟨Y, hY⟩ : ∃ Y, Y = wc.alloc (.cells #[.bool true, .int .i64 (kind exE), .int .i64 (field exE), .slice none (rs exE).length 0, .float .f64 (lo exE), .float .f64 (hi exE), .slice OA (of exE).length 2, .int .i64 0, .int .i64 0, .int .i64 0, .int .i64 0] 44) := ⟨_, rfl⟩
    have hkY : Keep wc Y := by rw [hY]; exact (Keep.refl wc).alloc _
    have hR : Rus Y (some ⟨wc.heap.size, 0, none⟩) [exR] := by
      have hc : Cells Y wc.heap.size (.bool true :: ([.int .i64 3, .int .i64 0, .slice none 0 0, .float .f64 0, .float .f64 0, .slice OA 2 2] ++ [.int .i64 0, .int .i64 0, .int .i64 0, .int .i64 0])) := by rw [hY]; exact Cells.new _ _ rfl
      exact exR_in hc (by rw [hY]; simp) (hX.kept hkY)
    have CT := Lib.hid (texts_any (some ⟨wc.heap.size, 0, none⟩) 1 [exR] Y (htc.keep hkY) (by simp) exR_fits exR_len hR)
    have CE := fun (V : World) (hV : Keep wc V) => hE.kept hq hV
    have CX := fun (V : World) (hV : Keep wc V) => hX.kept hV
    have CR := Lib.hid (fun (V : World) (hV : Keep wc V) => right_any exE none OA 0 2 V (htc.keep hV) exE_fits (CX V hV))
    have CA := Lib.hid (fun (V : World) (hV : Keep wc V) => atoms_any exE none OA 0 2 V (htc.keep hV) exE_fits (by rw [exE_atoms]; decide) (CX V hV))
    have CD := Lib.hid (fun (V : World) (hV : Keep wc V) => deep_any exE none OA 0 2 V (htc.keep hV) exE_fits (by rw [exE_deep]; decide) (CX V hV))
    have CS := Lib.hid (fun (V : World) (hV : Keep wc V) => same_any exE exE none OA 0 2 none OA 0 2 V (htc.keep hV) exE_fits exE_fits (CX V hV) (CX V hV))
    rw [exE_right] at CR
    rw [exE_atoms] at CA
    rw [exE_deep] at CD
    rw [exE_same] at CS
    rw [exR_text, exR_ok] at CT
    replace CE := Lib.hid CE
    obtain ⟨e0, e1, e2, e3, e4, e5⟩ := CE.out _ (Keep.refl wc)
    clear hR CX hE hX
    go_wp2_with fail
    rw [← hY]
    refine CT.out.mono ?_
    rintro e v1 ⟨rfl, k1⟩
    replace k1 : Keep wc v1 := hkY.trans k1
    clear hY hkY CT
    have hs : ((st [97, 108, 108, 111, 119, 32, 119, 104, 101, 110, 32, 110, 111, 116, 32, 40, 102, 117, 110, 99, 32, 51, 32, 111, 114, 32, 102, 117, 110, 99, 32, 52, 41, 32, 97, 110, 100, 32, 117, 110, 105, 116, 32, 49, 55, 59, 10]).toList == [97, 108, 108, 111, 119, 32, 119, 104, 101, 110, 32, 110, 111, 116, 32, 40, 102, 117, 110, 99, 32, 51, 32, 111, 114, 32, 102, 117, 110, 99, 32, 52, 41, 32, 97, 110, 100, 32, 117, 110, 105, 116, 32, 49, 55, 59, 10]) = true := by rw [toList_eq]; exact beq_self_eq_true _
    obtain ⟨e0, e1, e2, e3, e4, e5⟩ := CE.out _ k1
    go_wp2_with fail
    refine (CR.out _ k1).mono ?_
    rintro e v2 ⟨rfl, k2⟩
    replace k1 := k1.trans k2
    clear e0 e1 e2 e3 e4 e5
    obtain ⟨e0, e1, e2, e3, e4, e5⟩ := CE.out _ k1
    go_wp2_with fail
    refine (CA.out _ k1).mono ?_
    rintro e v3 ⟨rfl, k2⟩
    replace k1 := k1.trans k2
    clear e0 e1 e2 e3 e4 e5
    obtain ⟨e0, e1, e2, e3, e4, e5⟩ := CE.out _ k1
    go_wp2_with fail
    refine (CD.out _ k1).mono ?_
    rintro e v4 ⟨rfl, k2⟩
    replace k1 := k1.trans k2
    clear e0 e1 e2 e3 e4 e5
    obtain ⟨e0, e1, e2, e3, e4, e5⟩ := CE.out _ k1
    go_wp2_with fail
    refine (CS.out _ k1).mono ?_
    rintro e v5 ⟨rfl, k2⟩
    replace k1 := k1.trans k2
    go_wp2
    go_ret
    exact ⟨rfl, hkw.trans k1⟩
end Go.Proofs.YtnlpaceahgedkaaDoor.Tree
