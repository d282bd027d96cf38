/- Slices of booleans that came in. Conditions: none. -/
import Derived.Test.YtbcodgmggecmiaaOpen
import Derived.Test.YtbcodgmggecmiaaRows
namespace Go.Proofs.Ytbcodgmggecmiaa
open Go.ChangeShapes Go.WideShapes Go.ChangeAt Go.RowKit
/-- A slice of booleans, nil let in, that reads as the list 'zs', and lies below block 'B'. -/
def Bools (w : World) (B : Nat) (A : Option Addr) (n : Nat) (zs : List Bool) : Prop :=
  zs.length = n ∧ (0 < n → ∃ b off, A = some ⟨b, off, none⟩ ∧ b < B ∧ ∀ j, j < n → w.cell? ⟨b, off + j, none⟩ = some (.bool (zs.getD j false)))
theorem Bools.keep {w w' : World} {B n : Nat} {A : Option Addr} {zs : List Bool} (h : Bools w B A n zs) (hk : ∀ p : Addr, p.block < B → w'.cell? p = w.cell? p) : Bools w' B A n zs :=
  ⟨h.1, fun hn => by
    obtain ⟨b, off, e, hb, hc⟩ := h.2 hn
    exact ⟨b, off, e, hb, fun j hj => (hk _ hb).trans (hc j hj)⟩⟩
theorem Bools.below {w w' : World} {B n : Nat} {A : Option Addr} {zs : List Bool} (h : Bools w B A n zs) (hb : Below B w w') : Bools w' B A n zs := h.keep fun _ hp => hb.cell hp
theorem Bools.more {w : World} {B B' n : Nat} {A : Option Addr} {zs : List Bool} (h : Bools w B A n zs) (hB : B ≤ B') : Bools w B' A n zs :=
  ⟨h.1, fun hn => by
    obtain ⟨b, off, e, hb, hc⟩ := h.2 hn
    exact ⟨b, off, e, by omega, hc⟩⟩
theorem Bools.kept {w w' : World} {n : Nat} {A : Option Addr} {zs : List Bool} (h : Bools w w.heap.size A n zs) (hb : Keep w w') : Bools w' w'.heap.size A n zs := (h.below hb).more hb.size
theorem Bools.none_ (w : World) (B : Nat) (A : Option Addr) : Bools w B A 0 [] := ⟨rfl, fun h => absurd h (by omega)⟩
def BoolsIn (w : World) (A : Option Addr) (n : Nat) (zs : List Bool) : Prop := Bools w w.heap.size A n zs
theorem opens_bools : Opens Try.prog 31 fun W cs => ∃ A n c zs, cs = [.slice A n c] ∧ n ≤ c ∧ c ≤ maxLen ∧ BoolsIn W A n zs :=
  (opens_slice (z := 1) Try.underlying31 (e := 4) (by kernel_rfl) (by omega) (opens_bool Try.underlying4)).mono fun W cs ⟨A, n, c, hcs, hn, hc, hE⟩ => by
    rcases Nat.eq_zero_or_pos n with rfl | hp
    · exact ⟨A, 0, c, [], hcs, hn, hc, Bools.none_ _ _ _⟩
    · obtain ⟨b, off, hA, hb, hE⟩ := hE hp
      obtain ⟨zs, hl, hzs⟩ := choose_list n (fun i z => W.cell? ⟨b, off + i, none⟩ = some (.bool z)) (fun i hi => by
        obtain ⟨es, _, hc, z, rfl⟩ := hE i hi
        have := hc 0 (by omega)
        exact ⟨z, by simpa using this⟩)
      refine ⟨A, n, c, zs, hcs, hn, hc, ⟨hl, fun _ => ⟨b, off, hA, hb, fun j hj => ?_⟩⟩⟩
      have hj' : j < zs.length := by omega
      have := hzs j zs[j] (List.getElem?_eq_getElem hj')
      rw [this, List.getD_eq_getElem?_getD, List.getElem?_eq_getElem hj']; rfl
theorem in_u8 {z : Int} (h : (Lit.int .u8 z).wf = true) : 0 ≤ z ∧ z ≤ 255 := by
  simp [Lit.wf] at h
  have e1 : IntKind.u8.min = 0 := rfl
  have e2 : IntKind.u8.max = 255 := rfl
  omega
theorem in_u16 {z : Int} (h : (Lit.int .u16 z).wf = true) : 0 ≤ z ∧ z ≤ 65535 := by
  simp [Lit.wf] at h
  have e1 : IntKind.u16.min = 0 := rfl
  have e2 : IntKind.u16.max = 65535 := rfl
  omega
end Go.Proofs.Ytbcodgmggecmiaa
