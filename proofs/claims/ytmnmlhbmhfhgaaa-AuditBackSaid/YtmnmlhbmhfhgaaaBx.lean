/- Boxes: a block whose first cells are these. Conditions: none. -/
import Derived.Test.YtmnmlhbmhfhgaaaInt
namespace Go.Proofs.Ytmnmlhbmhfhgaaa
set_option linter.unusedVariables false
open Go.ChangeShapes Go.WideShapes Go.ChangeAt Go.RowKit
/-- A box with these cells. -/
def Bx (W : World) (q : Nat) (L : List Value) : Prop := q < W.heap.size ∧ ∀ j v, L[j]? = some v → W.cell? ⟨q, j, none⟩ = some v
theorem Bx.kept {W W' : World} {q : Nat} {L : List Value} (h : Bx W q L) (hk : Keep W W') : Bx W' q L :=
  ⟨Nat.lt_of_lt_of_le h.1 hk.size, fun j v hj => (Below.cell hk h.1).trans (h.2 j v hj)⟩
theorem Bx.newq {W : World} {q : Nat} {L : List Value} {t : TypeId} (h : q = W.heap.size) : Bx (W.alloc (.cells L.toArray t)) q L := by
  subst h
  exact ⟨by simp, fun j v hj => by
    rw [World.cell?_alloc_at (hn := rfl)]
    simpa using hj⟩
theorem Bx.new0 {W : World} {L : List Value} {t : TypeId} : Bx (W.alloc (.cells L.toArray t)) W.heap.size L := Bx.newq rfl
theorem Bx.new1 {W : World} {O : Obj} {L : List Value} {t : TypeId} : Bx ((W.alloc O).alloc (.cells L.toArray t)) (W.heap.size + 1) L := Bx.newq (by simp)
theorem Bx.new2 {W : World} {O O' : Obj} {L : List Value} {t : TypeId} : Bx (((W.alloc O).alloc O').alloc (.cells L.toArray t)) (W.heap.size + 1 + 1) L := Bx.newq (by simp)
theorem Bx.new3 {W : World} {O O' O'' : Obj} {L : List Value} {t : TypeId} : Bx ((((W.alloc O).alloc O').alloc O'').alloc (.cells L.toArray t)) (W.heap.size + 1 + 1 + 1) L := Bx.newq (by simp)
theorem Bx.alloc {W : World} {q : Nat} {L : List Value} (h : Bx W q L) (O : Obj) : Bx (W.alloc O) q L := h.kept ((Keep.refl W).alloc O)
theorem Bx.drew {W : World} {q : Nat} {L : List Value} (h : Bx W q L) : Bx W.drew q L := h.kept ((Quiet.refl W).drew).keep
theorem Bx.set {W : World} {q b i : Nat} {L : List Value} (h : Bx W q L) (hb : q ≠ b) (v : Value) : Bx (W.setCell ⟨b, i, none⟩ v) q L :=
  ⟨by simpa [World.setCell] using h.1, fun j u hj => (World.cell?_of_block (Below.heap_setCell _ _ _ _ hb)).trans (h.2 j u hj)⟩
theorem Bx.six {W : World} {q : Nat} {v0 v1 v2 v3 v4 v5 : Value} (h : Bx W q [v0, v1, v2, v3, v4, v5]) :
    W.cell? ⟨q, 0, none⟩ = some v0 ∧ W.cell? ⟨q, 1, none⟩ = some v1 ∧ W.cell? ⟨q, 2, none⟩ = some v2 ∧ W.cell? ⟨q, 3, none⟩ = some v3 ∧ W.cell? ⟨q, 4, none⟩ = some v4 ∧ W.cell? ⟨q, 5, none⟩ = some v5 :=
  ⟨h.2 0 _ rfl, h.2 1 _ rfl, h.2 2 _ rfl, h.2 3 _ rfl, h.2 4 _ rfl, h.2 5 _ rfl⟩
theorem Bx.one {W : World} {q : Nat} {v0 : Value} {l : List Value} (h : Bx W q (v0 :: l)) : W.cell? ⟨q, 0, none⟩ = some v0 := h.2 0 _ rfl
theorem Bx.two {W : World} {q : Nat} {v0 v1 : Value} {l : List Value} (h : Bx W q (v0 :: v1 :: l)) : W.cell? ⟨q, 0, none⟩ = some v0 ∧ W.cell? ⟨q, 1, none⟩ = some v1 := ⟨h.2 0 _ rfl, h.2 1 _ rfl⟩
end Go.Proofs.Ytmnmlhbmhfhgaaa
