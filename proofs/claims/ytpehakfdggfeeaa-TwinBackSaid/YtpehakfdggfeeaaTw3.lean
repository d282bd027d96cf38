/- The laws of layer 1 walk through. Conditions: none. -/
import Derived.Test.YtpehakfdggfeeaaTw
import Derived.Test.YtpehakfdggfeeaaTw2
import Derived.Test.YtpehakfdggfeeaaTwB
namespace Go.Proofs.Ytpehakfdggfeeaa
open Go.ChangeShapes Go.WideShapes Go.ChangeAt Go.RowKit

set_option maxHeartbeats 400000 in
theorem awake_any (w : World) : Calls Try.prog 6 #[] w fun e w' => e = .returned (.bool true) ∧ Below w.heap.size w w' := by
  have e1 : st (Tw.put [258]) = ⟨#[1, 2]⟩ := rfl
  have e2 : Tw.get ⟨#[120, 1, 2]⟩ 1 = 258 := rfl
  have e3 : Tw.getOk ⟨#[120, 1, 2]⟩ 1 = true := rfl
  go_enter Try.func6, Try.ntmps6
  go_wp2_with fail
  refine (put_any 258 _).mono ?_
  rintro e w1 ⟨rfl, hb1⟩
  rw [show Tw.inR 258 = true from rfl, e1]
  go_wp2_with fail
  refine (get_any _ 1 _ (by decide)).mono ?_
  rintro e w2 ⟨rfl, hq⟩
  rw [e2, e3]
  have hb2 := hb1.trans (hq.below _)
  have hs2 := hb2.size
  clear hb1 hq
  go_wp2_with fail
  refine (put_any 65536 _).mono ?_
  rintro e w3 ⟨rfl, hb3⟩
  rw [show Tw.inR 65536 = false from rfl]
  have hb4 := hb2.trans (hb3.mono hs2)
  clear hb2 hb3
  go_wp2
  go_ret
  exact ⟨rfl, hb4⟩
end Go.Proofs.Ytpehakfdggfeeaa
