/- What tables a seat's world has: none, the digits' tables, and the bounds of fields. Conditions: none. -/
import Derived.Test.YtdkeibgfehblaaaGreatDoorLib
import Derived.Test.YtdkeibgfehblaaaGreatDoorItoa
import Derived.Lib.LaidTab
namespace Go.Proofs.YtdkeibgfehblaaaGreatDoor
open Go.RowKit
/-- A package's variable keeps its cells where the old blocks stay. -/
theorem tabIs_keep {P : Program} {w w' : World} {n : String} {k : IntKind} {zs : List Int} (h : Lib.TabIs P w n k zs) (hb : Keep w w') : Lib.TabIs P w' n k zs := by
  unfold Lib.TabIs World.var? at *
  cases hg : P.globalNamed n with
  | none => simp [hg] at h
  | some g =>
    simp only [hg, Option.bind_some] at h ⊢
    have hlt : g < w.heap.size := by
      rcases Nat.lt_or_ge g w.heap.size with h' | h'
      · exact h'
      · rw [Array.getElem?_eq_none h'] at h; simp at h
    rw [hb.block g hlt]
    exact h
def highest : List Int := [0, 255, 255, 255, 65535, 65535]
def Hi (_ : World) : Prop := True
theorem Hi.keep {w w' : World} (_ : Hi w) (_ : Keep w w') : Hi w' := trivial
theorem Hi.free (w : World) : Hi w := trivial
def TB (w : World) : Prop := Tab w ∧ Hi w
theorem TB.keep {w w' : World} (h : TB w) (hb : Keep w w') : TB w' := ⟨Tab.keep h.1 hb, h.2.keep hb⟩
theorem TB.tab {w : World} (h : TB w) : Tab w := h.1
theorem TB.mk {w : World} (h : Tab w) (h' : Hi w) : TB w := ⟨h, h'⟩
theorem TB.hi {w : World} (h : TB w) : Hi w := h.2
end Go.Proofs.YtdkeibgfehblaaaGreatDoor
