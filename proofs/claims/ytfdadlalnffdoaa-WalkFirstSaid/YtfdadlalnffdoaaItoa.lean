/- strconv.Itoa at this program: the shelf's contract at the program's own numbers: a number's decimal digits. Conditions: the library's table of powers of ten reads as its initialiser lays it. -/
import Derived.Test.YtfdadlalnffdoaaRows
import Derived.Test.YtfdadlalnffdoaaGuA
import Derived.Shelf.Strconv.Itoa3
import Derived.Lib.LaidTab
namespace Go.Proofs.Ytfdadlalnffdoaa
open Go.Shelf Go.RowKit

/-- The library's table of powers of ten lies as its initialiser lays it. -/
def Tab (w : World) : Prop := Lib.TabIs Try.prog w "internal/strconv.uint64pow10" .u64 Lib.pow10Tab
theorem Tab.keep {w w' : World} (h : Tab w) (hb : Keep w w') : Tab w' := by
  unfold Tab Lib.TabIs World.var? at *
  cases hg : Try.prog.globalNamed "internal/strconv.uint64pow10" with
  | none => simp [hg] at h
  | some g =>
    simp only [hg, Option.bind_some] at h ⊢
    have hlt : g < w.heap.size := by
      rcases Nat.lt_or_ge g w.heap.size with h' | h'
      · exact h'
      · rw [Array.getElem?_eq_none h'] at h; simp at h
    rw [hb.block g hlt]
    exact h
theorem keep_grow {w : World} (k : Nat) (os : Array Obj) : Keep w (Sort.grow (w.drewN k) os) := by
  exact ⟨rfl, rfl, rfl, by simp, fun k hk => Sort.heap_grow_old _ _ hk⟩
end Go.Proofs.Ytfdadlalnffdoaa
