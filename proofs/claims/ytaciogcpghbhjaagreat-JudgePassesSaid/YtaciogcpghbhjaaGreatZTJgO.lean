/- Of these texts: JgO. Conditions: as each part says. -/
import Derived.Test.YtaciogcpghbhjaaGreatZTSmR
import Derived.Test.YtaciogcpghbhjaaGreatZTTrI
import Derived.Test.YtaciogcpghbhjaaGreatZTBuR
/- What a reading of layer 24's Case tells. Conditions: none. -/
namespace Go.Proofs.YtaciogcpghbhjaaGreat.JgO
set_option linter.unusedVariables false
set_option maxRecDepth 100000
open Go.ChangeShapes Go.WideShapes Go.ChangeAt Go.RowKit
open Tr (RulesIn opens_rules)
open Strm (FramesIn opens_frames opens_u8s)
structure CaseP where
 LA : Option Addr
 ln : Nat
 lc : Nat
 l : List RuleP
 cl : Int
 FA : Option Addr
 fn : Nat
 fc : Nat
 fs : List FrameP
 BA : Option Addr
 bn : Nat
 bc : Nat
 bs : List Bool
 TA : Option Addr
 tn : Nat
 tc : Nat
 ts : List Int
def CaseP.cells (p : CaseP) : List Value := [.slice p.LA p.ln p.lc, .int .i64 p.cl, .slice p.FA p.fn p.fc, .slice p.BA p.bn p.bc, .slice p.TA p.tn p.tc]
def CaseIn (W : World) (p : CaseP) : Prop :=
 (p.ln <= p.lc ∧ p.lc <= maxLen ∧ RulesIn W p.LA p.ln p.l) ∧ (p.fn <= p.fc ∧ p.fc <= maxLen ∧ FramesIn W p.FA p.fn p.fs) ∧ (p.bn <= p.bc ∧ p.bc <= maxLen ∧ BoolsIn W p.BA p.bn p.bs) ∧ (p.tn <= p.tc ∧ p.tc <= maxLen ∧ IntsIn .u8 W p.TA p.tn p.ts)
theorem opens_case : Opens Tryz.prog 27 fun W cs => ∃ p : CaseP, cs = p.cells ∧ CaseIn W p :=
 ((((opens_field Tryz.underlying27 0 _ rfl 5 1 (by kernel_rfl) (by kernel_rfl) opens_rules).and (opens_field Tryz.underlying27 1 _ rfl 5 1 (by kernel_rfl) (by kernel_rfl) (opens_int Tryz.underlying3))).and
   ((opens_field Tryz.underlying27 2 _ rfl 5 1 (by kernel_rfl) (by kernel_rfl) opens_frames).and (opens_field Tryz.underlying27 3 _ rfl 5 1 (by kernel_rfl) (by kernel_rfl) opens_bools))).and
   (opens_field Tryz.underlying27 4 _ rfl 5 1 (by kernel_rfl) (by kernel_rfl) opens_u8s)).mono
 fun W cs ⟨⟨⟨⟨hl, LA, ln, lc, l, e0, a1, a2, a3⟩, _, cl, e1, _⟩, ⟨_, FA, fn, fc, fs, e2, b1, b2, b3⟩, _, BA, bn, bc, bs, e3, c1, c2, c3⟩, _, TA, tn, tc, ts, e4, d1, d2, d3⟩ => by
  match cs, hl with
  | [d0, d1', d2', d3', d4], _ =>
    simp at e0 e1 e2 e3 e4
    subst e0 e1 e2 e3 e4
    exact ⟨⟨LA, ln, lc, l, cl, FA, fn, fc, fs, BA, bn, bc, bs, TA, tn, tc, ts⟩, rfl, ⟨a1, a2, a3⟩, ⟨b1, b2, b3⟩, ⟨c1, c2, c3⟩, d1, d2, d3⟩
theorem opens_caseL : Opens Tryz.prog 27 fun W cs => ∃ p : CaseP, cs = [.slice p.LA p.ln p.lc, .int .i64 p.cl, .slice p.FA p.fn p.fc, .slice p.BA p.bn p.bc, .slice p.TA p.tn p.tc] ∧ CaseIn W p := opens_case.mono fun W cs ⟨p, e, h⟩ => ⟨p, e, h⟩
end Go.Proofs.YtaciogcpghbhjaaGreat.JgO
