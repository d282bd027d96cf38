/- A region that draws its order and holds calls that keep all old blocks: one walk serves every order. Conditions: the region's own operations read only. -/
import Derived.Test.YtmnmlhbmhfhgaaaLib
import Derived.BigQuiet
namespace Go.Proofs.Ytmnmlhbmhfhgaaa
open Go.ChangeShapes Go.WideShapes Go.ChangeAt Go.RowKit

/-- A world in which every block of X stands. -/
structure KeptOf (X : World) where
  w : World
  h : Keep X w
instance (X : World) : Nonempty (KeptOf X) := ⟨⟨X, Keep.refl X⟩⟩
theorem KeptOf.of {P : Program} {f : FuncId} {args : Array Value} {X : World} {p : KeptOf X} {v : Value} (h : Calls P f args p.w fun e w' => e = .returned v ∧ Keep p.w w') :
    Calls P f args p.w fun e w' => e = .returned v ∧ ∃ q : KeptOf X, w' = q.w :=
  h.mono fun _ w' ⟨he, hk⟩ => ⟨he, ⟨w', p.h.trans hk⟩, rfl⟩
theorem wp_region_kept {P : Program} {id : Nat} {Q : Exit → Act → World → Prop} {a : Act} {w : World} {l : List Oper} (hm : P.follows .mixedOrders = true) (hB : Region.lexB .any l.toArray = true)
    (h : wpQuiet P l.toArray (fun w' => ∃ p : KeptOf w, w' = p.w) (fun a' => ∀ w', (∃ p : KeptOf w, w' = p.w) → Q .normal a' w') l a) : (Code.region id l.toArray true).wp P Q a w :=
  wp_region_quiet (C := fun w' => ∃ p : KeptOf w, w' = p.w) hm hB ⟨⟨w.drew, ((Quiet.refl w).drew).keep⟩, rfl⟩ (by simpa using h)
end Go.Proofs.Ytmnmlhbmhfhgaaa
