/- Several texts in one: Cm, Cm2, Cm3, Cm4, Cm5, Cm6, Cm7, Cm8, Cm9. Conditions: as each part says. -/
import Derived.Test.YtdkeibgfehblaaaGreatDoorNdA
import Derived.Test.YtdkeibgfehblaaaGreatDoorSpM
import Derived.RangeFuncBox
import Derived.Deep.RegionLaw
import Derived.Deep.RegionHeld3
import Derived.BigQuiet
import Derived.Test.YtdkeibgfehblaaaGreatDoorTrRef
import Derived.RangeFuncNested
import Derived.RangeFuncBound
import Derived.RangeFuncCalls
import Derived.RangeFuncLeaves
import Derived.Shelf.Abstract
import Derived.Shelf.RegionOpen
import Derived.WalkKit
import Derived.OwnWalkIn
import Derived.TacticsInMore
import Derived.LoopNIn
import Derived.LoopIn
import Derived.Maps.AppendAt
/- The developers' compile: what is laid, in memory; a node laid. Conditions: at most a million nodes. -/
namespace Go.Proofs.YtdkeibgfehblaaaGreatDoor.Cm
set_option linter.unusedVariables false
set_option maxRecDepth 100000
open Go.ChangeShapes Go.WideShapes Go.ChangeAt Go.RowKit
open Tr
open Nd
open Cp (testP leafP lay layN layA layO)
/-- Old blocks stand, but the laying's box and the row's own; the new row's block is the old one's, or new. -/
structure Lw (bt : Nat) (v v' : Value) (w w' : World) : Prop where
  os : w'.os = w.os
  tape : w'.tape = w.tape
  output : w'.output = w.output
  size : w.heap.size ≤ w'.heap.size
  block : ∀ k, k < w.heap.size → k ≠ bt → v.ownBlock ≠ some k → w'.heap[k]? = w.heap[k]?
  row : ∀ r, v'.ownBlock = some r → v.ownBlock = some r ∨ w.heap.size ≤ r
theorem Lw.of {bt : Nat} {v : Value} {w w' : World} (h : Keep w w') : Lw bt v v w w' := ⟨h.os, h.tape, h.output, h.size, fun k hk _ _ => h.block k hk, fun r hr => .inl hr⟩
theorem Lw.refl (bt : Nat) (v : Value) (w : World) : Lw bt v v w w := .of (Keep.refl w)
theorem Lw.trans {bt : Nat} {a b c : Value} {u v w : World} (h : Lw bt a b u v) (k : Lw bt b c v w) : Lw bt a c u w :=
  ⟨k.os.trans h.os, k.tape.trans h.tape, k.output.trans h.output, Nat.le_trans h.size k.size, fun i hi hb hn => (k.block i (Nat.lt_of_lt_of_le hi h.size) hb (fun e => by
    rcases h.row i e with e2 | e2
    · exact hn e2
    · omega)).trans (h.block i hi hb hn), fun r hr => by
    rcases k.row r hr with e | e
    · exact h.row r e
    · exact .inr (Nat.le_trans h.size e)⟩
theorem Lw.keep {bt : Nat} {a b : Value} {u v w : World} (h : Lw bt a b u v) (k : Keep v w) : Lw bt a b u w := h.trans (.of k)
theorem Lw.after {bt : Nat} {a b : Value} {u v w : World} (k : Keep u v) (h : Lw bt a b v w) : Lw bt a b u w := (Lw.of k).trans h
theorem Lw.below {bt B : Nat} {v v' : Value} {w w' : World} (h : Lw bt v v' w w') (hB : B ≤ w.heap.size) (hb : B ≤ bt) (hl : ∀ r, v.ownBlock = some r → B ≤ r) : Below B w w' :=
  ⟨h.os, h.tape, h.output, h.size, fun k hk => h.block k (by omega) (by omega) (fun e => by have := hl k e; omega)⟩
/-- A box that is no block of the laying. -/
def Fc (bt : Nat) (v : Value) (w : World) (q : Nat) (L : List Value) : Prop := Bx w q L ∧ q ≠ bt ∧ v.ownBlock ≠ some q
theorem Fc.lw {bt : Nat} {v v' : Value} {w w' : World} {q : Nat} {L : List Value} (h : Fc bt v w q L) (g : Lw bt v v' w w') : Fc bt v' w' q L :=
  ⟨⟨Nat.lt_of_lt_of_le h.1.1 g.size, fun j u hj => (World.cell?_of_block (g.block q h.1.1 h.2.1 h.2.2)).trans (h.1.2 j u hj)⟩, h.2.1, fun e => by
    rcases g.row q e with e2 | e2
    · exact h.2.2 e2
    · have := h.1.1; omega⟩
theorem Fc.kept {bt : Nat} {v : Value} {w w' : World} {q : Nat} {L : List Value} (h : Fc bt v w q L) (k : Keep w w') : Fc bt v w' q L := h.lw (.of k)
/-- The laying's box, and its row. -/
def LAt (bt : Nat) (A : Option Addr) (c : Nat) (l : List NodeP) (w : World) : Prop := Boxed w bt 49 (.slice A l.length c) ∧ NOwn (bt + 1) (.slice A l.length c) l w
theorem boxed_kept {w w' : World} {b : Nat} {t : TypeId} {v : Value} (h : Boxed w b t v) (hk : Keep w w') : Boxed w' b t v := (hk.block b h.lt).trans h
theorem LAt.kept {bt : Nat} {A : Option Addr} {c : Nat} {l : List NodeP} {w w' : World} (h : LAt bt A c l w) (hk : Keep w w') : LAt bt A c l w' := ⟨boxed_kept h.1 hk, h.2.kept hk⟩
/-- What laying answers: where; and the laying's box holds all nodes. -/
def RetM (bt : Nat) (v : Value) (x : List NodeP × Int) (w : World) (e : Ending) (w' : World) : Prop :=
  ∃ A c, e = .returned (.int .i64 x.2) ∧ LAt bt A c x.1 w' ∧ Lw bt v (.slice A x.1.length c) w w'
theorem RetM.after {bt : Nat} {v : Value} {x : List NodeP × Int} {w X w' : World} {e : Ending} (hk : Keep w X) (h : RetM bt v x X e w') : RetM bt v x w e w' := by
  obtain ⟨A, c, h1, h2, h3⟩ := h
  exact ⟨A, c, h1, h2, .after hk h3⟩
theorem RetM.of {bt : Nat} {v : Value} {x : List NodeP × Int} {w w' : World} {A : Option Addr} {c : Nat} {k : Int} (hk : k = x.2) (h : LAt bt A c x.1 w') (g : Lw bt v (.slice A x.1.length c) w w') : RetM bt v x w (.returned (.int .i64 k)) w' := by
  subst hk
  exact ⟨A, c, rfl, h, g⟩
theorem RetM.to {bt : Nat} {v : Value} {x y : List NodeP × Int} {w w' : World} {e : Ending} (h : RetM bt v x w e w') (he : x = y) : RetM bt v y w e w' := by rw [← he]; exact h
theorem nown_set {B : Nat} {v : Value} {l : List NodeP} {w : World} {q : Nat} (h : NOwn B v l w) (hq : q < B) (u : Value) : NOwn B v l (w.setCell ⟨q, 0, none⟩ u) := by
  obtain ⟨raws, h1, h2, h3⟩ := h
  refine ⟨raws, h1, h2.kept (grownBy_setCell' w q u) (.inr fun e => by have := (h2.lt q e).1; omega), fun x hx => (h3 x hx).sub (sub_mk (by simp [World.setCell]) fun i hi hp => ⟨hp, Below.heap_setCell _ _ _ _ ?_⟩)⟩
  have := (pw_out hp).1
  show i ≠ q
  omega
theorem grown_drew {X w' : World} {O : Obj} {row : Option Nat} (h : (X.alloc O).drew.grownBy w' row) : (X.alloc O).grownBy w' row := ⟨h.os, h.tape, h.output, h.size, h.block⟩
theorem lay_done {bt : Nat} {A A6 : Option Addr} {c q6 : Nat} {l : List NodeP} {raws : List RawN} {x : RawN} {w X w6 : World} {O : Obj} (hk : Keep w X) (hb : bt < w.heap.size) (hll : raws.length = l.length) (hraw : raws.map RawN.n = l)
    (hfl : ∀ y ∈ raws, Flat (erp (pw (bt + 1) (.slice A raws.length c)) X) y.n.atom y.RA) (hx : Flat (erp (pw (bt + 1) (.slice A raws.length c)) X) x.n.atom x.RA)
    (hown : w6.ownsRow (bt + 1) 37 10 (.slice A6 (raws.length + 1) q6) (raws.length + 1) (flat encN (raws ++ [x]))) (hg : (X.alloc O).drew.grownBy w6 (Value.slice A raws.length c).ownBlock)
    (ho : (Value.slice A6 (raws.length + 1) q6).ownBlock = (Value.slice A raws.length c).ownBlock ∨ (Value.slice A6 (raws.length + 1) q6).ownBlock = some (X.alloc O).drew.heap.size) (hB : Boxed w6 bt 49 (.slice A raws.length c)) :
    RetM bt (.slice A raws.length c) (l ++ [x.n], (raws.length : Int)) w (.returned (.int .i64 (raws.length : Int))) (w6.setCell ⟨bt, 0, none⟩ (.slice A6 (raws.length + 1) q6)) := by
  have hg := grown_drew hg
  have hsz : (X.alloc O).drew.heap.size = X.heap.size + 1 := by simp
  rw [hsz] at ho
  have hN := nown_set (NOwn.app hfl hx hown hg (X.heap.size + 1) (by omega) ho) (q := bt) (by omega) (.slice A6 (raws.length + 1) q6)
  rw [hraw] at hN
  have e1 : (l ++ [x.n]).length = raws.length + 1 := by rw [List.length_append, hll]; rfl
  have hks := hk.size
  refine RetM.of rfl (A := A6) (c := q6) ⟨by rw [e1]; exact hB.set _, by rw [e1]; exact hN⟩ ?_
  rw [e1]
  refine ⟨hg.os.trans hk.os, hg.tape.trans hk.tape, hg.output.trans hk.output, ?_, fun k hkw hkb hko => ?_, fun r hr => ?_⟩
  · have := hg.size
    simp [World.setCell] at this ⊢
    omega
  · exact (Below.heap_setCell _ _ _ _ (by simpa using hkb)).trans ((hg.block k (by simp; omega) (fun e => hko e.symm)).trans ((Below.heap_alloc X O k (by omega)).trans (hk.block k hkw)))
  · rcases ho with e | e
    · exact .inl (e.symm.trans hr)
    · rw [e] at hr; injection hr with hr; right; omega
set_option maxHeartbeats 4000000 in
theorem lay_any (x : NodeP) (RA OA : Option Addr) (rc oc : Nat) (bt : Nat) (A : Option Addr) (c : Nat) (l : List NodeP) (w : World) (h : LAt bt A c l w) (hx : Flat (erp (pw (bt + 1) (.slice A l.length c)) w) x.atom RA) (hl : l.length ≤ 1000000) :
    Calls Tryz.prog 32 #[.pointer (some ⟨bt, 0, none⟩), .agg #[.bool x.leaf, .int .i64 x.rule, .int .i64 (kind x.atom), .int .i64 (field x.atom), .slice RA (rs x.atom).length rc, .float .f64 (lo x.atom), .float .f64 (hi x.atom), .slice OA (of x.atom).length oc, .int .i64 x.yes, .int .i64 x.no]] w (RetM bt (.slice A l.length c) (l ++ [x], (l.length : Int)) w) := by
  obtain ⟨X, hX⟩ : ∃ X, X = w.alloc (.cells #[.bool x.leaf, .int .i64 x.rule, .int .i64 (kind x.atom), .int .i64 (field x.atom), .slice RA (rs x.atom).length rc, .float .f64 (lo x.atom), .float .f64 (hi x.atom), .slice OA (of x.atom).length oc, .int .i64 x.yes, .int .i64 x.no] 37) := ⟨_, rfl⟩
  have hkX : Keep w X := by rw [hX]; exact (Keep.refl w).alloc _
  have hX1 : X.heap.size = w.heap.size + 1 := by rw [hX]; simp
  have bX : Bx X w.heap.size [.bool x.leaf, .int .i64 x.rule, .int .i64 (kind x.atom), .int .i64 (field x.atom), .slice RA (rs x.atom).length rc, .float .f64 (lo x.atom), .float .f64 (hi x.atom), .slice OA (of x.atom).length oc, .int .i64 x.yes, .int .i64 x.no] := by rw [hX]; exact Bx.newq rfl
  obtain ⟨hb, hno⟩ := h
  have hbl := hb.lt
  have hbX := boxed_kept hb hkX
  have hnX := hno.kept hkX
  have hlow := hno.low
  have hxX : Flat (erp (pw (bt + 1) (.slice A l.length c)) X) x.atom RA := hx.sub (sub_mk hkX.size fun i hi hp => ⟨hp, hkX.block i hi⟩)
  obtain ⟨raws, hraw, hown, hfl⟩ := hnX
  have hll : raws.length = l.length := by rw [← hraw, List.length_map]
  have hrl : raws.length ≤ 1000000 := by omega
  obtain ⟨O, hO⟩ : ∃ O : Obj, O = .cells #[.bool x.leaf, .int .i64 x.rule, .int .i64 (kind x.atom), .int .i64 (field x.atom), .slice RA (rs x.atom).length rc, .float .f64 (lo x.atom), .float .f64 (hi x.atom), .slice OA (of x.atom).length oc, .int .i64 x.yes, .int .i64 x.no] 37 := ⟨_, rfl⟩
  have hrow : Row encN 10 (X.alloc O).drew (X.heap.size + 1) (some ⟨X.heap.size, 0, none⟩) 1 [⟨x, RA, rc, OA, oc⟩] := by rw [hO]; exact (Row.new encN_len X 37 [⟨x, RA, rc, OA, oc⟩] _ rfl).keep fun p _ => rfl
  have hownZ : (X.alloc O).drew.ownsRow (bt + 1) 37 10 (.slice A l.length c) raws.length (flat encN raws) := hown.alloc O
  have hbZ : Boxed (X.alloc O).drew bt 49 (.slice A l.length c) := hbX.alloc O
  rw [← hll] at hb hbX hbZ hownZ hown hfl hxX ⊢
  have HLL := Lib.hid hll
  have HFL := Lib.hid hfl
  have HXX := Lib.hid hxX
  have HRAW := Lib.hid hraw
  have HKX := Lib.hid hkX
  have HOWN := Lib.hid hownZ
  have HROW := Lib.hid hrow
  have HBZ := Lib.hid hbZ
  have HLOW := Lib.hid hlow
  have cZ : X.drew.cell? ⟨bt, 0, none⟩ = some (.slice A raws.length c) := hbX.cell
  have cX : X.cell? ⟨bt, 0, none⟩ = some (.slice A raws.length c) := hbX.cell
  have hbne : bt ≠ X.heap.size := by omega
  have cA : ∀ O, (X.alloc O).cell? ⟨bt, 0, none⟩ = some (.slice A raws.length c) := fun O => (hbX.alloc O).cell
  have fZ : X.drew.frozen? ⟨bt, 0, none⟩ = false := hbX.frozen
  have bZ : Bx X.drew w.heap.size [.bool x.leaf, .int .i64 x.rule, .int .i64 (kind x.atom), .int .i64 (field x.atom), .slice RA (rs x.atom).length rc, .float .f64 (lo x.atom), .float .f64 (hi x.atom), .slice OA (of x.atom).length oc, .int .i64 x.yes, .int .i64 x.no] := bX.kept ((Quiet.refl X).drew).keep
  have n0 := bZ.2 0 _ rfl
  have n1 := bZ.2 1 _ rfl
  have n2 := bZ.2 2 _ rfl
  have n3 := bZ.2 3 _ rfl
  have n4 := bZ.2 4 _ rfl
  have n5 := bZ.2 5 _ rfl
  have n6 := bZ.2 6 _ rfl
  have n7 := bZ.2 7 _ rfl
  have n8 := bZ.2 8 _ rfl
  have n9 := bZ.2 9 _ rfl
  clear hb hno hbX hlow hxX hraw hown hfl hll hkX hrow hownZ hbZ hx bX bZ hl
  go_enter Tryz.func32, Tryz.ntmps32
  go_wp2
  rw [← hX]
  clear hX
  have HLO : Hid (∀ r, (Value.slice A raws.length c).ownBlock = some r → bt + 1 ≤ r) := Lib.hid fun r hr => (HLOW.out r (by rw [HLL.out] at hr; exact hr)).1
  have hbw : bt < w.heap.size := hbl
  have HX1 := Lib.hid hX1
  clear HLOW hbl hX1
  subst hO
  go_region_law (refine step_append_rows (by rfl) _ _ 23 (by rfl) (bt + 1) 37 _ 112 Tryz.underlying23 info_node rfl (by omega) encN_len encN_one (.slice A raws.length c) raws.length raws (by rfl) HOWN.out (by have := HX1.out; simp; omega) _ (some ⟨X.heap.size, 0, none⟩) 1 1 [⟨x, RA, rc, OA, oc⟩] (by rfl) HROW.out (by unfold maxLen; omega) (by omega) ?_; intro v6 w6 hown6 hg6 hob6 hbe6; obtain ⟨A6, q6, rfl⟩ := own_slice hown6; have HOW6 := Lib.hid hown6; have HG6 := Lib.hid hg6; have HOB6 := Lib.hid hob6; have HB6 := Boxed.kept HBZ.out hg6 (fun e => by have := HLO.out bt e.symm; omega); have c6 := HB6.cell; have f6 := HB6.frozen; clear hown6 hg6 hob6 hbe6)
  all_goals
    go_wp2
    go_ret
    exact lay_done HKX.out hbw HLL.out HRAW.out HFL.out HXX.out HOW6.out HG6.out HOB6.out HB6
set_option maxHeartbeats 2000000 in
theorem leaf_any (i : Int) (bt : Nat) (A : Option Addr) (c : Nat) (l : List NodeP) (w : World) (h : LAt bt A c l w) (hl : l.length ≤ 1000000) :
    Calls Tryz.prog 17 #[.pointer (some ⟨bt, 0, none⟩), .int .i64 i] w (RetM bt (.slice A l.length c) (l ++ [leafP i], (l.length : Int)) w) := by
  have hC := Lib.hid (lay_any (leafP i) none none 0 0 bt A c l w h (flat_none rfl rfl) hl)
  clear h hl
  go_enter Tryz.func17, Tryz.ntmps17
  go_wp2_with fail
  refine hC.out.mono ?_
  rintro e w1 ⟨A1, c1, rfl, h1, h2⟩
  have H1 := Lib.hid h1
  have H2 := Lib.hid h2
  clear h1 h2 hC
  go_wp2
  go_ret
  exact RetM.of rfl H1.out H2.out
end Go.Proofs.YtdkeibgfehblaaaGreatDoor.Cm
/- The developers' compile: an atom in order. Conditions: expressions that may be and are small. -/
namespace Go.Proofs.YtdkeibgfehblaaaGreatDoor.Cm
set_option linter.unusedVariables false
set_option maxRecDepth 100000
open Go.ChangeShapes Go.WideShapes Go.ChangeAt Go.RowKit
open Tr
open Nd
open Cp (testP leafP lay layN layA layO)
theorem sets6 {W : World} {q b j : Nat} (hq : q ≠ b) (v0 v1 v2 v3 v4 v5 : Value) : ((((((W.setCell ⟨b, 0, none⟩ v0).setCell ⟨b, 1, none⟩ v1).setCell ⟨b, 2, none⟩ v2).setCell ⟨b, 3, none⟩ v3).setCell ⟨b, 4, none⟩ v4).setCell ⟨b, 5, none⟩ v5).cell? ⟨q, j, none⟩ = W.cell? ⟨q, j, none⟩ := by
  have h : ∀ (W : World) (i : Nat) (v : Value), (W.setCell ⟨b, i, none⟩ v).cell? ⟨q, j, none⟩ = W.cell? ⟨q, j, none⟩ := fun W i v => World.cell?_of_block (Below.heap_setCell _ _ _ _ hq)
  rw [h, h, h, h, h, h]
theorem below6 {n : Nat} {a W : World} {b : Nat} (hb : n ≤ b) (h : Below n a W) (v0 v1 v2 v3 v4 v5 : Value) : Below n a ((((((W.setCell ⟨b, 0, none⟩ v0).setCell ⟨b, 1, none⟩ v1).setCell ⟨b, 2, none⟩ v2).setCell ⟨b, 3, none⟩ v3).setCell ⟨b, 4, none⟩ v4).setCell ⟨b, 5, none⟩ v5) :=
  (((((h.setCell (p := ⟨b, 0, none⟩) hb v0).setCell (p := ⟨b, 1, none⟩) hb v1).setCell (p := ⟨b, 2, none⟩) hb v2).setCell (p := ⟨b, 3, none⟩) hb v3).setCell (p := ⟨b, 4, none⟩) hb v4).setCell (p := ⟨b, 5, none⟩) hb v5
theorem row_sets6 {w3 X : World} {A : Option Addr} {n b : Nat} {zs : List (Int × Int)} (h : Row encP 2 w3 w3.heap.size A n zs) (hf : FreshR X A n) (hb : b < X.heap.size) (v0 v1 v2 v3 v4 v5 : Value) : Row encP 2 ((((((w3.setCell ⟨b, 0, none⟩ v0).setCell ⟨b, 1, none⟩ v1).setCell ⟨b, 2, none⟩ v2).setCell ⟨b, 3, none⟩ v3).setCell ⟨b, 4, none⟩ v4).setCell ⟨b, 5, none⟩ v5) ((((((w3.setCell ⟨b, 0, none⟩ v0).setCell ⟨b, 1, none⟩ v1).setCell ⟨b, 2, none⟩ v2).setCell ⟨b, 3, none⟩ v3).setCell ⟨b, 4, none⟩ v4).setCell ⟨b, 5, none⟩ v5).heap.size A n zs :=
  row_set (row_set (row_set (row_set (row_set (row_set h hf hb v0) hf hb v1) hf hb v2) hf hb v3) hf hb v4) hf hb v5
/-- An atom in order: its ranges are the call's own. -/
def RetAtom (f : Int) (r : List (Int × Int)) (l h : Nat) (w : World) (e : Ending) (w' : World) : Prop :=
  ∃ A c, e = .returned (.agg #[.int .i64 1, .int .i64 f, .slice A (Sp.norm r).length c, .float .f64 l, .float .f64 h, .slice none 0 0]) ∧ Row encP 2 w' w'.heap.size A (Sp.norm r).length (Sp.norm r) ∧ FreshR w A (Sp.norm r).length ∧ Keep w w'
theorem results_c {fn : Func} {p : Tmp} {ty : TypeId} (h : fn.results = #[.cell p ty]) (tmps : Array Value) (P : Program) (w : World) :
    (results fn tmps).run P w = ((asAddr (tmps.getD p undef)).run P w).andThen fun a w₁ => (loadVar ty a).run P w₁ := by
  simp only [results, h]
  simp [Sem.run_bind, Result.andThen]
set_option maxHeartbeats 4000000 in
theorem inOrder_any (f : Int) (r : List (Int × Int)) (l h : Nat) (RA OA : Option Addr) (rc oc : Nat) (w : World) (hok : okL (.mk 1 f r l h [])) (hR : Row encP 2 w w.heap.size RA r.length r) :
    Calls Tryz.prog 34 #[.agg #[.int .i64 1, .int .i64 f, .slice RA r.length rc, .float .f64 l, .float .f64 h, .slice OA 0 oc]] w (RetAtom f r l h w) := by
  obtain ⟨X, hX⟩ : ∃ X, X = (w.alloc (.cells #[.int .i64 1, .int .i64 f, .slice RA r.length rc, .float .f64 l, .float .f64 h, .slice OA 0 oc] 35)).alloc (.cells #[.int .i64 0, .int .i64 0, .slice none 0 0, .float .f64 0, .float .f64 0, .slice none 0 0] 35) := ⟨_, rfl⟩
  have hkX : Keep w X := by rw [hX]; exact ((Keep.refl w).alloc _).alloc _
  have hX1 : X.heap.size = w.heap.size + 2 := by rw [hX]; simp
  have bX : Bx X w.heap.size [.int .i64 1, .int .i64 f, .slice RA r.length rc, .float .f64 l, .float .f64 h, .slice OA 0 oc] := by rw [hX]; exact (Bx.newq rfl).alloc _
  have bZ : Bx X (w.heap.size + 1) [.int .i64 0, .int .i64 0, .slice none 0 0, .float .f64 0, .float .f64 0, .slice none 0 0] := by rw [hX]; exact Bx.newq (by simp)
  have fr : ∀ j, X.frozen? ⟨w.heap.size + 1, j, none⟩ = false := fun j => by rw [hX]; simp
  have CN := fun (W : World) (hk : Keep X W) => Span.norm_own RA r.length rc r W (by have := hok.few.1; omega) (hR.kept (hkX.trans hk)) hok.fit
  clear hok hR
  have hsf := store_float Tryz.prog
  go_enter Tryz.func34, Tryz.ntmps34
  go_wp2
  rw [← hX]
  clear hX
  have hS : ∀ W, Keep X W → W.cell? ⟨w.heap.size, 0, none⟩ = some (Value.int .i64 1) ∧ W.cell? ⟨w.heap.size, 1, none⟩ = some (Value.int .i64 f) ∧ W.cell? ⟨w.heap.size, 2, none⟩ = some (Value.slice RA r.length rc) ∧ W.cell? ⟨w.heap.size, 3, none⟩ = some (Value.float .f64 l) ∧ W.cell? ⟨w.heap.size, 4, none⟩ = some (Value.float .f64 h) := fun W hk => by
    have h := (bX.kept hk).six
    exact ⟨h.1, h.2.1, h.2.2.1, h.2.2.2.1, h.2.2.2.2.1⟩
  have hZ : ∀ W, Keep X W → Bx W (w.heap.size + 1) [.int .i64 0, .int .i64 0, .slice none 0 0, .float .f64 0, .float .f64 0, .slice none 0 0] := fun W hk => bZ.kept hk
  have hFZ : ∀ W, Keep X W → ∀ j, W.frozen? ⟨w.heap.size + 1, j, none⟩ = false := fun W hk j => (Below.frozen hk (show w.heap.size + 1 < X.heap.size by omega)).trans (fr j)
  have hS6 : ∀ W, Keep X W → ∀ v0 v1 v2 v3 v4 v5, ((((((W.setCell ⟨w.heap.size + 1, 0, none⟩ v0).setCell ⟨w.heap.size + 1, 1, none⟩ v1).setCell ⟨w.heap.size + 1, 2, none⟩ v2).setCell ⟨w.heap.size + 1, 3, none⟩ v3).setCell ⟨w.heap.size + 1, 4, none⟩ v4).setCell ⟨w.heap.size + 1, 5, none⟩ v5).cell? ⟨w.heap.size, 0, none⟩ = some (Value.int .i64 1) ∧ ((((((W.setCell ⟨w.heap.size + 1, 0, none⟩ v0).setCell ⟨w.heap.size + 1, 1, none⟩ v1).setCell ⟨w.heap.size + 1, 2, none⟩ v2).setCell ⟨w.heap.size + 1, 3, none⟩ v3).setCell ⟨w.heap.size + 1, 4, none⟩ v4).setCell ⟨w.heap.size + 1, 5, none⟩ v5).cell? ⟨w.heap.size, 1, none⟩ = some (Value.int .i64 f) ∧ ((((((W.setCell ⟨w.heap.size + 1, 0, none⟩ v0).setCell ⟨w.heap.size + 1, 1, none⟩ v1).setCell ⟨w.heap.size + 1, 2, none⟩ v2).setCell ⟨w.heap.size + 1, 3, none⟩ v3).setCell ⟨w.heap.size + 1, 4, none⟩ v4).setCell ⟨w.heap.size + 1, 5, none⟩ v5).cell? ⟨w.heap.size, 2, none⟩ = some (Value.slice RA r.length rc) ∧ ((((((W.setCell ⟨w.heap.size + 1, 0, none⟩ v0).setCell ⟨w.heap.size + 1, 1, none⟩ v1).setCell ⟨w.heap.size + 1, 2, none⟩ v2).setCell ⟨w.heap.size + 1, 3, none⟩ v3).setCell ⟨w.heap.size + 1, 4, none⟩ v4).setCell ⟨w.heap.size + 1, 5, none⟩ v5).cell? ⟨w.heap.size, 3, none⟩ = some (Value.float .f64 l) ∧ ((((((W.setCell ⟨w.heap.size + 1, 0, none⟩ v0).setCell ⟨w.heap.size + 1, 1, none⟩ v1).setCell ⟨w.heap.size + 1, 2, none⟩ v2).setCell ⟨w.heap.size + 1, 3, none⟩ v3).setCell ⟨w.heap.size + 1, 4, none⟩ v4).setCell ⟨w.heap.size + 1, 5, none⟩ v5).cell? ⟨w.heap.size, 4, none⟩ = some (Value.float .f64 h) := fun W hk v0 v1 v2 v3 v4 v5 => by
    obtain ⟨h0, h1, h2, h3, h4⟩ := hS W hk
    exact ⟨(sets6 (by omega) ..).trans h0, (sets6 (by omega) ..).trans h1, (sets6 (by omega) ..).trans h2, (sets6 (by omega) ..).trans h3, (sets6 (by omega) ..).trans h4⟩
  have kX := Keep.refl X
  have kD := keep_drew (Keep.refl X)
  have HX1 := Lib.hid hX1
  clear bX bZ fr hX1
  go_region_held3 (fun W => W.cell? ⟨w.heap.size, 0, none⟩ = some (Value.int .i64 1) ∧ W.cell? ⟨w.heap.size, 1, none⟩ = some (Value.int .i64 f) ∧ W.cell? ⟨w.heap.size, 2, none⟩ = some (Value.slice RA r.length rc) ∧ W.cell? ⟨w.heap.size, 3, none⟩ = some (Value.float .f64 l) ∧ W.cell? ⟨w.heap.size, 4, none⟩ = some (Value.float .f64 h))
    (first
      | with_reducible exact hS _ kX
      | with_reducible exact hS _ kD
      | with_reducible exact hS _ k3
      | with_reducible exact hS _ (keep_drew k3)
      | with_reducible exact hS6 _ k3 _ _ _ _ _ _
      | fail)
    ((first
      | (go_at_call 43; refine (CN _ kX).mono ?_; rintro e w3 ⟨⟨A1, n1, c1, rfl, hle1, hle2, hrow1, hk1, hf1⟩, hok1⟩; have hn1 := hrow1.1; subst hn1; have k3 := (kX).trans hk1; obtain ⟨z0, z1, z2, z3, z4, z5⟩ := (hZ _ k3).six; have y0 := hFZ _ k3 0; have y1 := hFZ _ k3 1; have y2 := hFZ _ k3 2; have y3 := hFZ _ k3 3; have y4 := hFZ _ k3 4; have y5 := hFZ _ k3 5; have HROW := Lib.hid hrow1; have HFR := Lib.hid (fresh_at hf1 (kX).size); clear hrow1 hf1 hle1 hle2 hok1)
      | (go_at_call 43; refine (CN _ kD).mono ?_; rintro e w3 ⟨⟨A1, n1, c1, rfl, hle1, hle2, hrow1, hk1, hf1⟩, hok1⟩; have hn1 := hrow1.1; subst hn1; have k3 := (kD).trans hk1; obtain ⟨z0, z1, z2, z3, z4, z5⟩ := (hZ _ k3).six; have y0 := hFZ _ k3 0; have y1 := hFZ _ k3 1; have y2 := hFZ _ k3 2; have y3 := hFZ _ k3 3; have y4 := hFZ _ k3 4; have y5 := hFZ _ k3 5; have HROW := Lib.hid hrow1; have HFR := Lib.hid (fresh_at hf1 (kD).size); clear hrow1 hf1 hle1 hle2 hok1)
      | fail))
  all_goals
    go_wp2
    (try simp only [Exit.inBlock, Exit.then])
    refine bodyPost_ret (v := .agg #[.int .i64 1, .int .i64 f, .slice A1 (Sp.norm r).length c1, .float .f64 l, .float .f64 h, .slice none 0 0]) ?_ rfl ⟨A1, c1, rfl, row_sets6 HROW.out HFR.out (by have := HX1.out; omega) _ _ _ _ _ _, HFR.out.mono hkX, below6 (by omega) (hkX.trans k3) _ _ _ _ _ _⟩
    · rw [results_c rfl]
      go_simp
end Go.Proofs.YtdkeibgfehblaaaGreatDoor.Cm
/- The developers' compile: an expression laid: an atom. Conditions: expressions that may be and are small. -/
namespace Go.Proofs.YtdkeibgfehblaaaGreatDoor.Cm
set_option linter.unusedVariables false
set_option maxRecDepth 100000
open Go.ChangeShapes Go.WideShapes Go.ChangeAt Go.RowKit
open Tr
open Nd
open Cp (testP leafP lay layN layA layO)
theorem fc_mk {bt : Nat} {A : Option Addr} {c : Nat} {t : List NodeP} {w X : World} {q : Nat} {L : List Value} (hL : LAt bt A c t w) (hb : Bx X q L) (hq : w.heap.size ≤ q) : Fc bt (.slice A t.length c) X q L :=
  ⟨hb, by have := hL.1.lt; omega, fun e => by have := (hL.2.low q e).2; omega⟩
def CallM (bt : Nat) (A : Option Addr) (c : Nat) (t : List NodeP) (e : ExprP) (RA OA : Option Addr) (rc oc : Nat) (y n : Int) (w : World) (x : List NodeP × Int) : Prop :=
  Calls Tryz.prog 19 #[.pointer (some ⟨bt, 0, none⟩), .agg #[.int .i64 (kind e), .int .i64 (field e), .slice RA (rs e).length rc, .float .f64 (lo e), .float .f64 (hi e), .slice OA (of e).length oc], .int .i64 y, .int .i64 n] w (RetM bt (.slice A t.length c) x w)
/-- The four boxes of a call. -/
structure Boxes (bt : Nat) (w : World) (L : List Value) (y n : Int) (W : World) : Prop where
  t : W.cell? ⟨w.heap.size, 0, none⟩ = some (.pointer (some ⟨bt, 0, none⟩))
  e : Bx W (w.heap.size + 1) L
  y : W.cell? ⟨w.heap.size + 2, 0, none⟩ = some (.int .i64 y)
  n : W.cell? ⟨w.heap.size + 3, 0, none⟩ = some (.int .i64 n)
theorem boxes_new {bt : Nat} {A : Option Addr} {c : Nat} {t : List NodeP} {w X : World} {L : List Value} {y n : Int} {t1 t2 t3 t4 : TypeId} (hL : LAt bt A c t w)
    (hX : X = (((w.alloc (.cells #[.pointer (some ⟨bt, 0, none⟩)] t1)).alloc (.cells L.toArray t2)).alloc (.cells #[.int .i64 y] t3)).alloc (.cells #[.int .i64 n] t4)) :
    Fc bt (.slice A t.length c) X w.heap.size [.pointer (some ⟨bt, 0, none⟩)] ∧ Fc bt (.slice A t.length c) X (w.heap.size + 1) L ∧ Fc bt (.slice A t.length c) X (w.heap.size + 2) [.int .i64 y] ∧ Fc bt (.slice A t.length c) X (w.heap.size + 3) [.int .i64 n] := by
  subst hX
  exact ⟨fc_mk hL ((((Bx.newq (L := [.pointer (some ⟨bt, 0, none⟩)]) rfl).alloc _).alloc _).alloc _) (by omega), fc_mk hL (((Bx.newq (by simp)).alloc _).alloc _) (by omega), fc_mk hL ((Bx.newq (L := [.int .i64 y]) (by simp)).alloc _) (by omega), fc_mk hL (Bx.newq (L := [.int .i64 n]) (by simp)) (by omega)⟩
theorem boxes_lw {bt : Nat} {v v' : Value} {w X W : World} {L : List Value} {y n : Int} (h : Fc bt v X w.heap.size [.pointer (some ⟨bt, 0, none⟩)] ∧ Fc bt v X (w.heap.size + 1) L ∧ Fc bt v X (w.heap.size + 2) [.int .i64 y] ∧ Fc bt v X (w.heap.size + 3) [.int .i64 n]) (g : Lw bt v v' X W) : Boxes bt w L y n W :=
  ⟨(h.1.lw g).1.2 0 _ rfl, (h.2.1.lw g).1, (h.2.2.1.lw g).1.2 0 _ rfl, (h.2.2.2.lw g).1.2 0 _ rfl⟩
set_option maxHeartbeats 8000000 in
theorem m_atom (f : Int) (r : List (Int × Int)) (l h : Nat) (RA OA : Option Addr) (rc oc : Nat) (y n : Int) (bt : Nat) (A : Option Addr) (c : Nat) (t : List NodeP) (w : World) (hok : okL (.mk 1 f r l h [])) (hR : Row encP 2 w w.heap.size RA r.length r)
    (hL : LAt bt A c t w) (hl : t.length ≤ 1000000) : CallM bt A c t (.mk 1 f r l h []) RA OA rc oc y n w (t ++ [testP f r l h y n], (t.length : Int)) := by
  unfold CallM
  simp only [kind, field, rs, lo, hi, of, List.length_nil]
  obtain ⟨X, hX⟩ : ∃ X, X = (((w.alloc (.cells #[.pointer (some ⟨bt, 0, none⟩)] 65)).alloc (.cells #[.int .i64 1, .int .i64 f, .slice RA r.length rc, .float .f64 l, .float .f64 h, .slice OA 0 oc] 35)).alloc (.cells #[.int .i64 y] 3)).alloc (.cells #[.int .i64 n] 3) := ⟨_, rfl⟩
  have hkX : Keep w X := by rw [hX]; exact ((((Keep.refl w).alloc _).alloc _).alloc _).alloc _
  have hF := boxes_new (L := [.int .i64 1, .int .i64 f, .slice RA r.length rc, .float .f64 l, .float .f64 h, .slice OA 0 oc]) hL hX
  have hLX := hL.kept hkX
  have hbt := hLX.1.lt
  have CI := fun (W : World) (hk : Keep X W) => inOrder_any f r l h RA OA rc oc W hok (hR.kept (hkX.trans hk))
  have hS : ∀ W v', Lw bt (.slice A t.length c) v' X W → W.cell? ⟨w.heap.size, 0, none⟩ = some (Value.pointer (some ⟨bt, 0, none⟩)) ∧ W.cell? ⟨w.heap.size + 1, 0, none⟩ = some (Value.int .i64 1) ∧ W.cell? ⟨w.heap.size + 1, 1, none⟩ = some (Value.int .i64 f) ∧ W.cell? ⟨w.heap.size + 1, 2, none⟩ = some (Value.slice RA r.length rc) ∧ W.cell? ⟨w.heap.size + 1, 3, none⟩ = some (Value.float .f64 l) ∧ W.cell? ⟨w.heap.size + 1, 4, none⟩ = some (Value.float .f64 h) ∧ W.cell? ⟨w.heap.size + 1, 5, none⟩ = some (Value.slice OA 0 oc) ∧ W.cell? ⟨w.heap.size + 2, 0, none⟩ = some (Value.int .i64 y) ∧ W.cell? ⟨w.heap.size + 3, 0, none⟩ = some (Value.int .i64 n) := fun W v' g => by
    obtain ⟨a, b, d, e⟩ := boxes_lw hF g
    exact ⟨a, b.six.1, b.six.2.1, b.six.2.2.1, b.six.2.2.2.1, b.six.2.2.2.2.1, b.six.2.2.2.2.2, d, e⟩
  have kX := Keep.refl X
  have kD := keep_drew (Keep.refl X)
  clear hR hL hF hok
  go_enter Tryz.func19, Tryz.ntmps19
  go_wp2
  rw [← hX]
  clear hX
  go_region_held3 (fun W => W.cell? ⟨w.heap.size, 0, none⟩ = some (Value.pointer (some ⟨bt, 0, none⟩)) ∧ W.cell? ⟨w.heap.size + 1, 0, none⟩ = some (Value.int .i64 1) ∧ W.cell? ⟨w.heap.size + 1, 1, none⟩ = some (Value.int .i64 f) ∧ W.cell? ⟨w.heap.size + 1, 2, none⟩ = some (Value.slice RA r.length rc) ∧ W.cell? ⟨w.heap.size + 1, 3, none⟩ = some (Value.float .f64 l) ∧ W.cell? ⟨w.heap.size + 1, 4, none⟩ = some (Value.float .f64 h) ∧ W.cell? ⟨w.heap.size + 1, 5, none⟩ = some (Value.slice OA 0 oc) ∧ W.cell? ⟨w.heap.size + 2, 0, none⟩ = some (Value.int .i64 y) ∧ W.cell? ⟨w.heap.size + 3, 0, none⟩ = some (Value.int .i64 n))
    (first
      | with_reducible exact hS _ _ (Lw.of kX)
      | with_reducible exact hS _ _ (Lw.of kD)
      | with_reducible exact hS _ _ (Lw.of k3)
      | with_reducible exact hS _ _ (Lw.after k3 g4)
      | fail)
    ((first
      | (go_at_call 34; refine (CI _ kX).mono ?_; rintro e w3 ⟨A1, c1, rfl, hrow1, hf1, hk1⟩; have k3 := (kX).trans hk1; have CL := lay_any (testP f r l h y n) A1 none c1 0 bt A c t w3 (hLX.kept k3) (flat_fresh (hLX.2) (by omega) rfl hrow1 (fresh_at hf1 (kX).size)) hl; clear hrow1 hf1)
      | (go_at_call 34; refine (CI _ kD).mono ?_; rintro e w3 ⟨A1, c1, rfl, hrow1, hf1, hk1⟩; have k3 := (kD).trans hk1; have CL := lay_any (testP f r l h y n) A1 none c1 0 bt A c t w3 (hLX.kept k3) (flat_fresh (hLX.2) (by omega) rfl hrow1 (fresh_at hf1 (kD).size)) hl; clear hrow1 hf1)
      | (go_at_call 32; refine CL.mono ?_; rintro e w4 ⟨A4, c4, rfl, h4, g4⟩)
      | fail))
  all_goals
    go_wp2
    go_ret
    exact RetM.of rfl h4 (.after (hkX.trans k3) g4)
end Go.Proofs.YtdkeibgfehblaaaGreatDoor.Cm
/- The developers' compile: slices.Backward over expressions. Conditions: at most a million parts. -/
namespace Go.Proofs.YtdkeibgfehblaaaGreatDoor.Cm
set_option linter.unusedVariables false
set_option maxRecDepth 100000
open Go.RowKit Go.Shelf
open Tr
open Nd
open Cp (testP leafP lay layN layA layO)
attribute [local go_sem] Oper.semAt_some
abbrev Gx (n : Nat) := { k : Nat // k < n }
/-- An iterator's box, and all old blocks, stay. -/
def KF (z : World) (Bn : Nat) (t : TypeId) (v : Value) (W W' : World) : Prop := (Boxed W Bn t v ∧ Keep z W) → (Boxed W' Bn t v ∧ Keep z W')
theorem KF.t {z : World} {B : Nat} {t : TypeId} {v : Value} {X Y Z : World} (h : KF z B t v X Y) (k : KF z B t v Y Z) : KF z B t v X Z := fun hx => k (h hx)
theorem KF.r {z : World} {B : Nat} {t : TypeId} {v : Value} (X : World) : KF z B t v X X := fun hx => hx
theorem KF.b {z : World} {B : Nat} {t : TypeId} {v : Value} {w : World} (hB : B < w.heap.size) (hz : z.heap.size ≤ w.heap.size) (W : World) (l : Nat) (o o' : Obj) (hl : w.heap.size ≤ l) (h : W.heap[l]? = some o) (_ : o.isCells = false) (_ : o.isWalk = false) : KF z B t v W (W.putObj l o') := fun hx =>
  ⟨hx.1.kept (grownBy_putObj' W l o') (fun e => by cases e; omega), Below.grown hx.2 (grownBy_putObj' W l o') (Below.size hx.2) (fun r e => by cases e; omega)⟩
theorem range_down {n q : Nat} (h : q < n) : ((List.range n).drop q).reverse = ((List.range n).drop (q + 1)).reverse ++ [q] := by
  rw [List.drop_eq_getElem_cons (by simpa using h), List.getElem_range, List.reverse_cons]
/-- An expression as it lies in memory. -/
structure RawX where
  e : ExprP
  RA : Option Addr
  rc : Nat
  OA : Option Addr
  oc : Nat
def rawx0 : RawX := ⟨zero, none, 0, none, 0⟩
def encX (x : RawX) : List Value := [.int .i64 (kind x.e), .int .i64 (field x.e), .slice x.RA (rs x.e).length x.rc, .float .f64 (lo x.e), .float .f64 (hi x.e), .slice x.OA (of x.e).length x.oc]
theorem exs_rows {W : World} {A : Option Addr} {l : List ExprP} (h : Exs W A l) : ∃ raws : List RawX, raws.map (·.e) = l ∧ Row encX 6 W W.heap.size A l.length raws ∧ ∀ x ∈ raws, Ex W x.e x.RA x.OA := by
  rcases Nat.eq_zero_or_pos l.length with h0 | hp
  · have : l = [] := List.eq_nil_of_length_eq_zero h0
    subst this
    exact ⟨[], rfl, Row.none_ _ _ _, fun x hx => by cases hx⟩
  · obtain ⟨b, off, rfl, hb⟩ := h.addr hp
    obtain ⟨raws, hl, hls⟩ := choose_list l.length (fun i (x : RawX) => x.e = l.getD i zero ∧ (∀ j v, (encX x)[j]? = some v → W.cell? ⟨b, off + i * 6 + j, none⟩ = some v) ∧ Ex W x.e x.RA x.OA) (fun i hi => by
      obtain ⟨_, RA, OA, rc, oc, ⟨h0, h1, h2, h3, h4, h5⟩, hE⟩ := h.elem i hi
      exact ⟨⟨l.getD i zero, RA, rc, OA, oc⟩, rfl, (fun j v hv => by
        match j, hv with
        | 0, hv => injection hv with hv; rw [← hv]; exact h0
        | 1, hv => injection hv with hv; rw [← hv]; exact h1
        | 2, hv => injection hv with hv; rw [← hv]; exact h2
        | 3, hv => injection hv with hv; rw [← hv]; exact h3
        | 4, hv => injection hv with hv; rw [← hv]; exact h4
        | 5, hv => injection hv with hv; rw [← hv]; exact h5
        | j + 6, hv => cases hv), hE⟩)
    refine ⟨raws, ?_, ⟨hl, fun _ => ⟨b, off, rfl, hb, fun j hj i v hv => (hls j _ (List.getElem?_eq_getElem hj)).2.1 i v hv⟩⟩, fun x hx => ?_⟩
    · refine List.ext_getElem (by rw [List.length_map]; exact hl) fun j h1 h2 => ?_
      rw [List.getElem_map]
      have := (hls j _ (List.getElem?_eq_getElem (by simpa using h1))).1
      rw [this, List.getD_eq_getElem?_getD, List.getElem?_eq_getElem h2]; rfl
    · obtain ⟨j, hj, rfl⟩ := List.mem_iff_getElem.1 hx
      exact (hls j _ (List.getElem?_eq_getElem hj)).2.2
set_option maxHeartbeats 1000000 in
theorem backX_any (A : Option Addr) (n c : Nat) (w : World) :
    Calls Tryz.prog 35 #[.slice A n c] w fun e w' => e = .returned (.func (.func 44) #[] #[.pointer (some ⟨w.heap.size, 0, none⟩)]) ∧ w' = w.alloc (.cells #[.slice A n c] 33) := by
  go_enter Tryz.func35, Tryz.ntmps35
  go_wp2
  go_ret
  exact ⟨rfl, rfl⟩
/-- What is handed out at a place. -/
def encsX (raws : List RawX) {n : Nat} (x : Gx n) : Array Value := #[.int .i64 (x.1 : Int), .agg #[.int .i64 (kind (raws.getD x.1 rawx0).e), .int .i64 (field (raws.getD x.1 rawx0).e), .slice (raws.getD x.1 rawx0).RA (rs (raws.getD x.1 rawx0).e).length (raws.getD x.1 rawx0).rc, .float .f64 (lo (raws.getD x.1 rawx0).e), .float .f64 (hi (raws.getD x.1 rawx0).e), .slice (raws.getD x.1 rawx0).OA (of (raws.getD x.1 rawx0).e).length (raws.getD x.1 rawx0).oc]]
set_option maxRecDepth 100000 in
set_option maxHeartbeats 4000000 in
theorem backX_in (F : Fence) (m : Nat) (h6 : F.fn 44) (hro : F.round = none) (hm : 1 ≤ m) (l Bn : Nat) (A : Option Addr) (n c : Nat) (raws : List RawX) (z : World) (hrow : Row encX 6 z z.heap.size A n raws) (hn : n ≤ 1000000) (J Jx : List (Gx n) → World → Prop)
    (hY : ∀ pre x W, J pre W → pre.length < n → YieldAt F (m - 1) Tryz.prog l (encsX raws x) W fun e W' =>
      (e = .returned (.bool true) ∧ J (pre ++ [x]) W' ∧ KF z Bn 33 (.slice A n c) W W') ∨ (e = .returned (.bool false) ∧ Jx (pre ++ [x]) W'))
    (W : World) (hKF : Boxed W Bn 33 (.slice A n c) ∧ Keep z W) (h0 : J [] W) :
    CallsIn F m Tryz.prog 44 #[.func (.yield l) #[] #[], .pointer (some ⟨Bn, 0, none⟩)] W fun e W' => (∃ v, e = .returned v) ∧
      ((∃ ys : List (Gx n), ys.map (·.1) = (List.range n).reverse ∧ J ys W') ∨ (∃ pre : List (Gx n), True ∧ Jx pre W')) := by
  refine callsIn_of_wp Tryz.func44 rfl h6 ?_ hro
  simp only [Tryz.ntmps44, List.size_toArray, List.length_cons, List.length_nil, Nat.reduceAdd, Nat.reduceSub, Array.replicate_succ, Array.replicate_zero, List.push_toArray, List.append_toArray, List.nil_append, List.cons_append]
  have hcell0 : W.cell? ⟨Bn, 0, none⟩ = some (.slice A n c) := hKF.1.cell
  gi_wp2
  gi_loopw [3] (fun i wr => ∃ (j : Nat) (i' : Int) (pre : List (Gx n)), i = .int .i64 i' ∧ i' + 1 = j ∧ j ≤ n ∧ Hid (pre.map (·.1) = ((List.range n).drop j).reverse) ∧ pre.length = n - j ∧ J pre wr ∧ (Boxed wr Bn 33 (.slice A n c) ∧ Keep z wr))
    (fun i _ => (intOf i + 1).toNat)
  case atStart =>
    exact ⟨n, (n : Int) - 1, [], rfl, by omega, Nat.le_refl _, by rw [List.drop_of_length_le (by simp)]; rfl, by simp, h0, hKF⟩
  case round =>
    obtain ⟨j, i', pre, rfl, hiq, hj, HP, hpl, hJs, hbw, hkz⟩ := hrel
    have hcell : wr.cell? ⟨Bn, 0, none⟩ = some (.slice A n c) := hbw.cell
    clear hcell0
    cases j with
    | zero =>
      obtain rfl : i' = -1 := by omega
      gi_wp2
      go_end0
      exact ⟨⟨_, rfl⟩, .inl ⟨pre, by rw [HP.out]; rfl, hJs⟩⟩
    | succ q =>
      obtain rfl : i' = (q : Int) := by omega
      have hq0 : (0 : Int) ≤ q := by omega
      have hq1 : (q : Int) < n := by omega
      have hqn : q < n := by omega
      have hHP := Lib.hid (show (pre ++ [(⟨q, hqn⟩ : Gx n)]).map (·.1) = ((List.range n).drop q).reverse by rw [range_down hqn, List.map_append, HP.out]; rfl)
      have hHL := Lib.hid (show (pre ++ [(⟨q, hqn⟩ : Gx n)]).length = n - q by rw [List.length_append, hpl]; simp; omega)
      have hy' := hY pre ⟨q, hqn⟩ wr hJs (by omega)
      obtain ⟨b, off, rfl, _⟩ := hrow.addr (by omega)
      obtain ⟨hbb, hcs⟩ := hrow.cells (by omega)
      have hql : q < raws.length := by have := hrow.1; omega
      have hgd : raws.getD q rawx0 = raws[q]'hql := by rw [List.getD_eq_getElem?_getD, List.getElem?_eq_getElem (by omega)]; rfl
      have hcs : ∀ i v, (encX (raws[q]'hql))[i]? = some v → wr.cell? ⟨b, off + q * 6 + i, none⟩ = some v := fun i v hv => (Below.cell hkz hbb).trans (hcs q hql i v hv)
      unfold encsX at hy'
      rw [hgd] at hy'
      generalize raws[q]'hql = x at *
      have x0 : wr.cell? ⟨b, off + q * 6, none⟩ = some (.int .i64 (kind x.e)) := hcs 0 _ rfl
      have x1 : wr.cell? ⟨b, off + q * 6 + 1, none⟩ = some (.int .i64 (field x.e)) := hcs 1 _ rfl
      have x2 : wr.cell? ⟨b, off + q * 6 + 2, none⟩ = some (.slice x.RA (rs x.e).length x.rc) := hcs 2 _ rfl
      have x3 : wr.cell? ⟨b, off + q * 6 + 3, none⟩ = some (.float .f64 (lo x.e)) := hcs 3 _ rfl
      have x4 : wr.cell? ⟨b, off + q * 6 + 4, none⟩ = some (.float .f64 (hi x.e)) := hcs 4 _ rfl
      have x5 : wr.cell? ⟨b, off + q * 6 + 5, none⟩ = some (.slice x.OA (of x.e).length x.oc) := hcs 5 _ rfl
      have HCX := Lib.hid hgd
      clear hcs hY hrow hgd hiq hpl
      obtain ⟨fn, tmps, assign, body, hy, hR⟩ := hy'
      gi_wp2
      refine hR.mono ?_
      rintro e W3 (⟨rfl, hJ3, hk3⟩ | ⟨rfl, hJx3⟩)
      · gi_wp2
        go_roundw
        case rel => exact ⟨q, (q : Int) - 1, _, rfl, by omega, by omega, hHP, hHL.out, hJ3, hk3 ⟨hbw, hkz⟩⟩
        case measure => simp [intOf]
      · gi_wp2
        refine bodyPost_ret (results_none rfl _ _ _) rfl ?_
        exact ⟨⟨_, rfl⟩, .inr ⟨_, trivial, hJx3⟩⟩
theorem backX_stops (F : Fence) (m : Nat) (h6 : F.fn 44) (hro : F.round = none) (hm : 1 ≤ m) (Bn : Nat) (A : Option Addr) (n c : Nat) (raws : List RawX) (z : World) (hrow : Row encX 6 z z.heap.size A n raws) (hn : n ≤ 1000000) (w : World)
    (hcl : Boxed w Bn 33 (.slice A n c)) (hkz : Keep z w) :
    SeqStopsK F m Tryz.prog 44 #[.pointer (some ⟨Bn, 0, none⟩)] (encsX raws (n := n)) (KF z Bn 33 (.slice A n c)) (fun ys => ys.map (·.1) = (List.range n).reverse) (fun _ => True) n w := fun l J Jx W hW _ _ hY h0 =>
  backX_in F m h6 hro hm l Bn A n c raws z hrow hn J Jx hY W ⟨(hW.block Bn hcl.lt).trans hcl, hkz.trans hW⟩ h0
end Go.Proofs.YtdkeibgfehblaaaGreatDoor.Cm
/- The developers' compile: what a loop over an iterator leaves as it was. Conditions: none. -/
namespace Go.Proofs.YtdkeibgfehblaaaGreatDoor.Cm
set_option linter.unusedVariables false
set_option maxRecDepth 100000
open Go.RowKit Go.Shelf
open Tr
open Nd
open Cp (testP leafP lay layN layA layO)
attribute [local go_sem] Oper.semAt_some
theorem sub_own {W W' : World} {row : Option Nat} (hg : W.grownBy W' row) (hr : ∀ r, row = some r → ∃ o : Obj, W.heap[r]? = some o ∧ o.isCells = false) (p : Nat → Bool) : Nd.Sub (erp p W) (erp p W') :=
  ⟨by rw [erp_size, erp_size]; exact hg.size, fun a v e => by
    obtain ⟨h1, h2⟩ := erp_cell e
    rw [erp_cell_no W' h1]
    exact cell_kept h2 hg hr⟩
theorem own_cells {W : World} {base : Nat} {e : TypeId} {k n : Nat} {v : Value} {xs : List Value} (h : W.ownsRow base e k v n xs) {g : Nat} (hg : v.ownBlock = some g) : ∃ o : Obj, W.heap[g]? = some o ∧ o.isCells = true := by
  rcases h.2 with ⟨rfl, _⟩ | ⟨g', cap, cur, rfl, _, hh, _⟩
  · cases hg
  · injection hg with hg
    subst hg
    exact ⟨_, hh, rfl⟩
theorem nown_own {B : Nat} {v : Value} {l : List NodeP} {W W' : World} {row : Option Nat} (h : NOwn B v l W) (hg : W.grownBy W' row) (hr : ∀ r, row = some r → ∃ o : Obj, W.heap[r]? = some o ∧ o.isCells = false) : NOwn B v l W' := by
  obtain ⟨raws, h1, h2, h3⟩ := h
  refine ⟨raws, h1, h2.kept hg ?_, fun x hx => (h3 x hx).sub (sub_own hg hr _)⟩
  cases hb : v.ownBlock with
  | none => exact .inl rfl
  | some g =>
    refine .inr fun e => ?_
    obtain ⟨o, ho, hc⟩ := own_cells h2 hb
    obtain ⟨o', ho', hc'⟩ := hr g e.symm
    rw [ho] at ho'
    injection ho' with ho'
    rw [ho', hc'] at hc
    cases hc
theorem boxed_own' {W W' : World} {row : Option Nat} {q : Nat} {t : TypeId} {v : Value} (h : Boxed W q t v) (hg : W.grownBy W' row) (hr : ∀ r, row = some r → ∃ o : Obj, W.heap[r]? = some o ∧ o.isCells = false) : Boxed W' q t v :=
  h.kept hg (fun e => by
    obtain ⟨o, ho, hc⟩ := hr q e.symm
    rw [show W.heap[q]? = _ from h] at ho
    injection ho with ho
    rw [← ho] at hc
    cases hc)
theorem lat_own {bt : Nat} {A : Option Addr} {c : Nat} {l : List NodeP} {W W' : World} {row : Option Nat} (h : LAt bt A c l W) (hg : W.grownBy W' row) (hr : ∀ r, row = some r → ∃ o : Obj, W.heap[r]? = some o ∧ o.isCells = false) : LAt bt A c l W' := ⟨boxed_own' h.1 hg hr, nown_own h.2 hg hr⟩
theorem Lw.own {bt : Nat} {v v' : Value} {w W W' : World} {row : Option Nat} (h : Lw bt v v' w W) (hg : W.grownBy W' row) (hr : ∀ r, row = some r → w.heap.size ≤ r) : Lw bt v v' w W' :=
  ⟨hg.os.trans h.os, hg.tape.trans h.tape, hg.output.trans h.output, Nat.le_trans h.size hg.size, fun k hk hb hn => (hg.block k (Nat.lt_of_lt_of_le hk h.size) (fun e => by have := hr k e.symm; omega)).trans (h.block k hk hb hn), h.row⟩
theorem lw_keeps {B bt : Nat} {A : Option Addr} {c : Nat} {l : List NodeP} {v' : Value} {W W' : World} (h : LAt bt A c l W) (g : Lw bt (.slice A l.length c) v' W W') : KeepsFrom B W W' :=
  ⟨g.size, fun k o _ hk ho => (g.block k (Array.getElem?_eq_some_iff.1 hk).1 (fun e => by
    subst e
    rw [show W.heap[k]? = _ from h.1] at hk
    injection hk with hk
    rw [← hk] at ho
    cases ho) (fun e => by
    obtain ⟨raws, _, h2, _⟩ := h.2
    obtain ⟨o', ho', hc'⟩ := own_cells h2 e
    rw [hk] at ho'
    injection ho' with ho'
    rw [← ho', ho] at hc'
    cases hc')).trans hk⟩
theorem boxed_lw {bt : Nat} {A : Option Addr} {c : Nat} {l : List NodeP} {v' : Value} {W W' : World} {q : Nat} {t : TypeId} {u : Value} (h : LAt bt A c l W) (g : Lw bt (.slice A l.length c) v' W W') (hb : Boxed W q t u) (ht : t ≠ 37) (hq : q ≠ bt) : Boxed W' q t u :=
  (g.block q hb.lt hq (fun e => by
    obtain ⟨raws, _, h2, _⟩ := h.2
    exact (hb.not_row ht h2) e.symm)).trans hb
theorem boxed_one {W : World} {q k : Nat} {t : TypeId} {u v : Value} (h : Boxed W q t u) (hc : W.cell? ⟨q, k, none⟩ = some v) : k = 0 := by
  unfold World.cell? at hc
  rw [show W.heap[q]? = _ from h] at hc
  rcases Nat.eq_zero_or_pos k with h0 | h0
  · exact h0
  · have : (#[u] : Array Value)[k]? = none := Array.getElem?_eq_none (by simp; omega)
    simp [this] at hc
theorem flat_set {W : World} {q : Nat} {t : TypeId} {u : Value} {p : Nat → Bool} {e : ExprP} {RA : Option Addr} (h : Flat (erp p W) e RA) (hb : Boxed W q t u) (v : Value) : Flat (erp p (W.setCell ⟨q, 0, none⟩ v)) e RA := by
  refine ⟨h.1, h.2.1, fun hn => ?_⟩
  obtain ⟨b, off, rfl, hbb, hc⟩ := h.2.2 hn
  have hs : (erp p (W.setCell ⟨q, 0, none⟩ v)).heap.size = (erp p W).heap.size := by rw [erp_size, erp_size]; simp [World.setCell]
  refine ⟨b, off, rfl, by rw [hs]; exact hbb, fun j hj i x hx => ?_⟩
  have hne : b ≠ q := fun e => by
    subst e
    have h0 := boxed_one hb (erp_cell (hc j hj 0 _ rfl)).2
    have h1 := boxed_one hb (erp_cell (hc j hj 1 _ rfl)).2
    omega
  obtain ⟨h1, h2⟩ := erp_cell (hc j hj i x hx)
  rw [erp_cell_no _ h1]
  exact (World.cell?_of_block (Below.heap_setCell _ _ _ _ hne)).trans h2
theorem lat_set {bt : Nat} {A : Option Addr} {c : Nat} {l : List NodeP} {W : World} {q : Nat} {t : TypeId} {u : Value} (h : LAt bt A c l W) (hb : Boxed W q t u) (ht : t ≠ 37) (hq : q ≠ bt) (v : Value) : LAt bt A c l (W.setCell ⟨q, 0, none⟩ v) := by
  have hg := grownBy_setCell' W q v
  obtain ⟨h1, raws, h2, h3, h4⟩ := h
  have hne : some q ≠ (Value.slice A l.length c).ownBlock := hb.not_row ht h3
  exact ⟨h1.other (fun e => hq e.symm) v, raws, h2, h3.kept hg (.inr hne.symm), fun x hx => flat_set (h4 x hx) hb v⟩
theorem Lw.set {bt : Nat} {a b : Value} {w W : World} (h : Lw bt a b w W) {q : Nat} (hq : w.heap.size ≤ q) (v : Value) : Lw bt a b w (W.setCell ⟨q, 0, none⟩ v) :=
  h.own (grownBy_setCell' W q v) (fun r e => by cases e; exact hq)
noncomputable def foldA (t : List NodeP) (y n : Int) (es : List ExprP) : List NodeP × Int := es.foldl (fun s e => lay s.1 e s.2 n) (t, y)
noncomputable def foldO (t : List NodeP) (y n : Int) (es : List ExprP) : List NodeP × Int := es.foldl (fun s e => lay s.1 e y s.2) (t, n)
theorem foldA_all (t : List NodeP) (y n : Int) : ∀ o : List ExprP, foldA t y n o.reverse = layA t o y n
  | [] => by rw [layA]; rfl
  | e :: o => by
    have ih := foldA_all t y n o
    unfold foldA at ih ⊢
    rw [List.reverse_cons, List.foldl_append, ih, layA]; rfl
theorem foldO_all (t : List NodeP) (y n : Int) : ∀ o : List ExprP, foldO t y n o.reverse = layO t o y n
  | [] => by rw [layO]; rfl
  | e :: o => by
    have ih := foldO_all t y n o
    unfold foldO at ih ⊢
    rw [List.reverse_cons, List.foldl_append, ih, layO]; rfl
theorem foldA_snoc (t : List NodeP) (y n : Int) (es : List ExprP) (e : ExprP) : foldA t y n (es ++ [e]) = lay (foldA t y n es).1 e (foldA t y n es).2 n := by unfold foldA; rw [List.foldl_append]; rfl
theorem foldO_snoc (t : List NodeP) (y n : Int) (es : List ExprP) (e : ExprP) : foldO t y n (es ++ [e]) = lay (foldO t y n es).1 e y (foldO t y n es).2 := by unfold foldO; rw [List.foldl_append]; rfl
theorem foldA_len (t : List NodeP) (y n : Int) (es : List ExprP) (h : ∀ e ∈ es, okL e ∧ atoms e ≤ 20000) : (foldA t y n es).1.length ≤ t.length + es.length * 20000 := by
  have key : ∀ (es : List ExprP) (s : List NodeP × Int), (∀ e ∈ es, okL e ∧ atoms e ≤ 20000) → (es.foldl (fun s e => lay s.1 e s.2 n) s).1.length ≤ s.1.length + es.length * 20000 := by
    intro es
    induction es with
    | nil => intro s _; exact Nat.le_add_right _ _
    | cons e es ih =>
      intro s h
      have he := h e (List.mem_cons_self ..)
      rw [List.foldl_cons, List.length_cons]
      have := ih (lay s.1 e s.2 n) fun e he => h e (List.mem_cons_of_mem _ he)
      rw [lay_len _ e _ _ _ (Nat.le_refl _) he.1] at this
      have := he.2
      omega
  exact key es _ h
theorem foldO_len (t : List NodeP) (y n : Int) (es : List ExprP) (h : ∀ e ∈ es, okL e ∧ atoms e ≤ 20000) : (foldO t y n es).1.length ≤ t.length + es.length * 20000 := by
  have key : ∀ (es : List ExprP) (s : List NodeP × Int), (∀ e ∈ es, okL e ∧ atoms e ≤ 20000) → (es.foldl (fun s e => lay s.1 e y s.2) s).1.length ≤ s.1.length + es.length * 20000 := by
    intro es
    induction es with
    | nil => intro s _; exact Nat.le_add_right _ _
    | cons e es ih =>
      intro s h
      have he := h e (List.mem_cons_self ..)
      rw [List.foldl_cons, List.length_cons]
      have := ih (lay s.1 e y s.2) fun e he => h e (List.mem_cons_of_mem _ he)
      rw [lay_len _ e _ _ _ (Nat.le_refl _) he.1] at this
      have := he.2
      omega
  exact key es _ h
/-- The parts that came. -/
def esOf (raws : List RawX) {n : Nat} (ys : List (Gx n)) : List ExprP := ys.map fun k => (raws.getD k.1 rawx0).e
theorem esOf_all {raws : List RawX} {o : List ExprP} (ho : raws.map (·.e) = o) (ys : List (Gx o.length)) (h : ys.map (·.1) = (List.range o.length).reverse) : esOf raws ys = o.reverse := by
  subst ho
  have e1 : esOf raws ys = (ys.map (·.1)).map fun k => (raws.getD k rawx0).e := by unfold esOf; rw [List.map_map]; rfl
  rw [e1, h, List.map_reverse]
  congr 1
  refine List.ext_getElem (by simp) fun j h1 h2 => ?_
  have hj : j < raws.length := by simpa using h2
  rw [List.getElem_map, List.getElem_range, List.getElem_map, List.getD_eq_getElem?_getD, List.getElem?_eq_getElem hj]; rfl
theorem esOf_mem {raws : List RawX} {o : List ExprP} (ho : raws.map (·.e) = o) (ys : List (Gx o.length)) : ∀ e ∈ esOf raws ys, e ∈ o := fun e he => by
  unfold esOf at he
  obtain ⟨k, _, rfl⟩ := List.mem_map.1 he
  subst ho
  have hk : k.1 < raws.length := by have := k.2; simpa using this
  rw [List.getD_eq_getElem?_getD, List.getElem?_eq_getElem hk]
  exact List.mem_map.2 ⟨_, List.getElem_mem hk, rfl⟩
theorem raw_mem {raws : List RawX} {n : Nat} (hl : raws.length = n) (k : Gx n) : raws.getD k.1 rawx0 ∈ raws := by
  rw [List.getD_eq_getElem?_getD, List.getElem?_eq_getElem (by rw [hl]; exact k.2)]
  exact List.getElem_mem _
end Go.Proofs.YtdkeibgfehblaaaGreatDoor.Cm
/- The developers' compile: parts laid from the last on. Conditions: expressions that may be and are small. -/
namespace Go.Proofs.YtdkeibgfehblaaaGreatDoor.Cm
set_option linter.unusedVariables false
set_option maxRecDepth 100000
open Go.RowKit Go.Shelf
open Tr
open Nd
open Cp (testP leafP lay layN layA layO)
attribute [local go_sem] Oper.semAt_some
set_option maxHeartbeats 8000000 in
theorem m_loopA (z : World) (bt : Nat) (hzb : z.heap.size ≤ bt) (f : Int) (r : List (Int × Int)) (l h : Nat) (o : List ExprP) (RA OA : Option Addr) (rc oc : Nat) (y n : Int) (A : Option Addr) (c : Nat) (t : List NodeP) (w : World) (hok : okL (.mk 3 f r l h o)) (hat : ∀ x ∈ o, atoms x ≤ 20000)
    (hO : Exs z OA o) (hzw : Keep z w) (hL : LAt bt A c t w) (N : Nat) (hN : ∀ x ∈ o, dp x ≤ N) (hle : t.length + 120000 + N * 120000 ≤ 1000000)
    (CS : ∀ x ∈ o, ∀ (RA' OA' : Option Addr) (rc' oc' : Nat) (y' n' : Int) (A1 : Option Addr) (c1 : Nat) (t' : List NodeP) (W : World), Ex z x RA' OA' → Keep z W → LAt bt A1 c1 t' W → t'.length + N * 120000 ≤ 1000000 → CallM bt A1 c1 t' x RA' OA' rc' oc' y' n' W (lay t' x y' n')) :
    CallM bt A c t (.mk 3 f r l h o) RA OA rc oc y n w (layA t o y n) := by
  have ho6 := hok.few.2
  have hsk := hok.sub (by decide)
  obtain ⟨raws, hre, hrow, hrx⟩ := exs_rows hO
  have hrl : raws.length = o.length := by rw [← hre, List.length_map]
  have HRE := Lib.hid hre
  have hes := fun (pre : List (Gx o.length)) => esOf_mem hre pre
  have hgood := Lib.hid (fun x (hx : x ∈ o) => And.intro (hsk x hx) (hat x hx))
  have hlen := Lib.hid (fun (pre : List (Gx o.length)) => foldA_len t y n (esOf raws pre) fun e he => hgood.out e (hes pre e he))
  unfold CallM
  simp only [kind, field, rs, lo, hi, of]
  obtain ⟨X, hX⟩ : ∃ X, X = (((w.alloc (.cells #[.pointer (some ⟨bt, 0, none⟩)] 65)).alloc (.cells #[.int .i64 3, .int .i64 f, .slice RA r.length rc, .float .f64 l, .float .f64 h, .slice OA o.length oc] 35)).alloc (.cells #[.int .i64 y] 3)).alloc (.cells #[.int .i64 n] 3) := ⟨_, rfl⟩
  have hkX : Keep w X := by rw [hX]; exact ((((Keep.refl w).alloc _).alloc _).alloc _).alloc _
  have hF := boxes_new (L := [.int .i64 3, .int .i64 f, .slice RA r.length rc, .float .f64 l, .float .f64 h, .slice OA o.length oc]) hL hX
  have HX4 := Lib.hid (show X.heap.size = w.heap.size + 4 by rw [hX]; simp)
  have q0 : Boxed X w.heap.size 65 (.pointer (some ⟨bt, 0, none⟩)) := by rw [hX]; exact (((Boxed.new w _ _).alloc _).alloc _).alloc _
  have q2 : Boxed X (w.heap.size + 1 + 1) 3 (.int .i64 y) := by
    rw [hX]
    have := (Boxed.new ((w.alloc (.cells #[.pointer (some ⟨bt, 0, none⟩)] 65)).alloc (.cells #[.int .i64 3, .int .i64 f, .slice RA r.length rc, .float .f64 l, .float .f64 h, .slice OA o.length oc] 35)) 3 (.int .i64 y)).alloc (.cells #[.int .i64 n] 3)
    simpa using this
  have q3 : Boxed X (w.heap.size + 1 + 1 + 1) 3 (.int .i64 n) := by
    rw [hX]
    have := Boxed.new (((w.alloc (.cells #[.pointer (some ⟨bt, 0, none⟩)] 65)).alloc (.cells #[.int .i64 3, .int .i64 f, .slice RA r.length rc, .float .f64 l, .float .f64 h, .slice OA o.length oc] 35)).alloc (.cells #[.int .i64 y] 3)) 3 (.int .i64 n)
    simpa using this
  have hLX := hL.kept hkX
  have hbt := hL.1.lt
  have hlow := hL.2.low
  have B0 := boxes_lw hF (Lw.refl bt _ X)
  have e0 := B0.e.six.1
  have e5 := B0.e.six.2.2.2.2.2
  rw [hX] at e0 e5
  refine (callsIn_wide (n := 9)).1 ?_
  refine callsIn_of_wp_marks Tryz.func19 rfl trivial ?_ rfl
  simp only [Tryz.ntmps19, List.size_toArray, List.length_cons, List.length_nil, Nat.reduceAdd, Nat.reduceSub, Array.replicate_succ, Array.replicate_zero, List.push_toArray, List.append_toArray, List.nil_append, List.cons_append]
  clear B0 hF
  gi_wp2_with fail
  refine ⟨trivial, ?_⟩
  refine (callsIn_wide.2 (backX_any OA o.length oc _)).mono ?_
  rintro e w2 ⟨rfl, rfl⟩
  rw [← hX]
  clear hX e0 e5
  gi_wp2_with fail
  have bN := Boxed.new X 33 (.slice OA o.length oc)
  have hkz : Keep z (X.alloc (.cells #[.slice OA o.length oc] 33)) := (hzw.trans hkX).alloc _
  have hzs := hzw.size
  refine wpIn_rangeFunc_ownH rfl (by omega) (gf := 44) (encs := encsX raws (n := o.length)) (lb := #[.pointer (some ⟨X.heap.size, 0, none⟩)]) rfl trivial (enters_of Tryz.func44 (by kernel_rfl) rfl)
    (backX_stops Fence.wide _ trivial rfl (by omega) X.heap.size OA o.length oc raws z hrow (by omega) _ bN hkz) KF.t (KF.b bN.lt (by have := HX4.out; simp; omega)) (Below.refl _ _) (fun _ => rfl)
    (fun pre W => ∃ A' c', LAt bt A' c' (foldA t y n (esOf raws pre)).1 W ∧ Lw bt (.slice A t.length c) (.slice A' (foldA t y n (esOf raws pre)).1.length c') w W ∧ Boxed W w.heap.size 65 (.pointer (some ⟨bt, 0, none⟩)) ∧ Boxed W (w.heap.size + 1 + 1) 3 (.int .i64 (foldA t y n (esOf raws pre)).2) ∧ Boxed W (w.heap.size + 1 + 1 + 1) 3 (.int .i64 n))
    (fun _ _ _ => False)
    (fun pre W W' row ⟨A', c', i1, i2, i3, i4, i5⟩ hg hr => ⟨A', c', lat_own i1 hg fun r e => (hr r e).2, i2.own hg fun r e => by have := (hr r e).1; have := HX4.out; simp at *; omega, boxed_own' i3 hg fun r e => (hr r e).2, boxed_own' i4 hg fun r e => (hr r e).2, boxed_own' i5 hg fun r e => (hr r e).2⟩)
    (fun c => ownFrom_pure _ _)
    ⟨A, c, hLX.kept ((Keep.refl X).alloc _), .of (hkX.alloc _), q0.alloc _, q2.alloc _, q3.alloc _⟩
    (fun x a' W => ∃ q, a' = { tmps := #[.pointer (some ⟨bt, 0, none⟩), .agg #[.int .i64 3, .int .i64 f, .slice RA r.length rc, .float .f64 l, .float .f64 h, .slice OA o.length oc], .int .i64 y, .int .i64 n, .pointer (some ⟨w.heap.size, 0, none⟩), .pointer (some ⟨w.heap.size + 1, 0, none⟩), .pointer (some ⟨w.heap.size + 1 + 1, 0, none⟩), .pointer (some ⟨w.heap.size + 1 + 1 + 1, 0, none⟩), .int .i64 0, undef, .pointer (some ⟨q, 0, none⟩), undef, undef, .pointer (some ⟨w.heap.size + 1, 0, none⟩), .int .i64 3, .bool false, .bool false, undef, .bool false, .bool false, undef, undef, undef, undef, undef, undef, undef, .bool false, .bool false, undef, undef, undef, undef, undef, undef, undef, undef, undef, undef, undef, undef, .bool true, .bool true, .pointer (some ⟨w.heap.size + 1, 5, none⟩), .slice OA o.length oc, .func (.func 44) #[] #[.pointer (some ⟨X.heap.size, 0, none⟩)], .int .i64 (x.1 : Int), .agg #[.int .i64 (kind (raws.getD x.1 rawx0).e), .int .i64 (field (raws.getD x.1 rawx0).e), .slice (raws.getD x.1 rawx0).RA (rs (raws.getD x.1 rawx0).e).length (raws.getD x.1 rawx0).rc, .float .f64 (lo (raws.getD x.1 rawx0).e), .float .f64 (hi (raws.getD x.1 rawx0).e), .slice (raws.getD x.1 rawx0).OA (of (raws.getD x.1 rawx0).e).length (raws.getD x.1 rawx0).oc], undef, undef, undef, undef, undef, undef, undef, undef, undef, undef, undef, undef, undef, undef, undef, undef, undef, undef, undef, undef], defers := [] } ∧ Bx W q (encX (raws.getD x.1 rawx0)))
    (fun x a' s W W' row ⟨q, e1, e2⟩ hg hr => ⟨q, e1, Nat.lt_of_lt_of_le e2.1 hg.size, fun j v hj => cell_kept (e2.2 j v hj) hg fun r e => (hr r e).2⟩) ?assign ?body ?done ?stop
  case assign =>
    rintro l' pre x W K ⟨A', c', i1, i2, i3, i4, i5⟩ hK
    have hsf := store_float Tryz.prog
    unfold encsX
    gi_wp2
    have kW := (Keep.refl W).alloc (.cells (encX (raws.getD x.1 rawx0)).toArray 35)
    exact hK _ _ ((KeepsOthers.alloc W _).from _) (fun hx => ⟨hx.1.alloc _, hx.2.alloc _⟩) ⟨A', c', i1.kept kW, i2.keep kW, i3.alloc _, i4.alloc _, i5.alloc _⟩ ⟨W.heap.size, rfl, Bx.newq rfl⟩
  case body =>
    rintro l' pre x a' W _ _ ⟨A', c', i1, i2, i3, i4, i5⟩ ⟨q, rfl, hq⟩ hlt
    have hmem := raw_mem hrl x
    have hbel : Below z.heap.size w W := i2.below hzs hzb fun r hr => by have := (hlow r hr).1; omega
    have hkW : Keep z W := keep_below hzw hbel (Nat.le_refl _)
    have hmo : (raws.getD x.1 rawx0).e ∈ raws.map (·.e) := List.mem_map.2 ⟨_, hmem, rfl⟩
    rw [hre] at hmo
    have hl5 := hlen.out pre
    have hel : (esOf raws pre).length = pre.length := by unfold esOf; rw [List.length_map]
    have hC := CS _ hmo (raws.getD x.1 rawx0).RA (raws.getD x.1 rawx0).OA (raws.getD x.1 rawx0).rc (raws.getD x.1 rawx0).oc (foldA t y n (esOf raws pre)).2 n A' c' _ W (hrx _ hmem) hkW i1 (by rw [hel] at hl5; omega)
    have HST := Lib.hid (foldA_snoc t y n (esOf raws pre) (raws.getD x.1 rawx0).e)
    have HES := Lib.hid (show esOf raws (pre ++ [x]) = esOf raws pre ++ [(raws.getD x.1 rawx0).e] by unfold esOf; rw [List.map_append]; rfl)
    rw [← HST.out, ← HES.out] at hC
    unfold CallM at hC
    have ct := i3.cell
    have cy := i4.cell
    have cn := i5.cell
    have g0 := hq.2 0 _ rfl
    have g1 := hq.2 1 _ rfl
    have g2 := hq.2 2 _ rfl
    have g3 := hq.2 3 _ rfl
    have g4 := hq.2 4 _ rfl
    have g5 := hq.2 5 _ rfl
    have HQ := Lib.hid hq
    have HBEL := Lib.hid hbel
    obtain ⟨T, hT⟩ : ∃ T, T = foldA t y n (esOf raws pre) := ⟨_, rfl⟩
    obtain ⟨T2, hT2⟩ : ∃ T2, T2 = foldA t y n (esOf raws (pre ++ [x])) := ⟨_, rfl⟩
    rw [← hT] at i1 i2 i4 cy hC
    dsimp only
    rw [← hT2] at hC
    have HT2 := Lib.hid hT2
    generalize raws.getD x.1 rawx0 = rx at *
    clear hT hT2 hq hbel hl5 hel HST HES hmo hmem hrx CS hrow
    gi_wp2_with (refine ⟨trivial, ?_⟩; gi_at_call 19; refine (CallsIn.inRound l' (callsIn_wide.2 hC)).mono ?_; rintro e W3 ⟨A3, c3, rfl, h3, gg⟩; have k4 := boxed_lw i1 gg i4 (by decide) (by omega); have c4 := k4.cell; have f4 := k4.frozen)
    have hT := HT2.out
    subst hT
    have hX4 := HX4.out
    have hlw := (i2.trans gg).set (q := w.heap.size + 1 + 1) (by omega) (.int .i64 (foldA t y n (esOf raws (pre ++ [x]))).2)
    exact ⟨(lw_keeps i1 gg).trans ((KeepsOthers.setCell _ _ _).from _), fun hx => ⟨(boxed_lw i1 gg hx.1 (by decide) (by omega)).other (by omega) _, keep_below hzw (hlw.below hzs hzb fun r hr => by have := (hlow r hr).1; omega) (Nat.le_refl _)⟩,
      ⟨A3, c3, lat_set h3 k4 (by decide) (by omega) _, hlw, (boxed_lw i1 gg i3 (by decide) (by omega)).other (by omega) _, k4.set _, (boxed_lw i1 gg i5 (by decide) (by omega)).other (by omega) _⟩⟩
  case done =>
    rintro D ys W hD hys ⟨A', c', i1, i2, i3, i4, i5⟩ hK
    have hall := esOf_all hre ys hys
    rw [hall, foldA_all] at i1 i2 i4
    have cy := i4.cell
    have HDW := Lib.hid (show w.heap.size ≤ D by have := HX4.out; simp at hD; omega)
    clear hall hys hD
    gi_wp2
    refine ⟨by simp, .inl ⟨_, _, rfl, run_takeDeferred hK, ?_⟩⟩
    refine ⟨.int .i64 (layA t o y n).2, ?_, RetM.of rfl (lat_own i1 (grownBy_putObj' W D _) fun r e => by cases e; exact ⟨_, hK, rfl⟩) (i2.own (grownBy_putObj' W D _) fun r e => by cases e; exact HDW.out)⟩
    simp [results, Tryz.f19, go_sem]
  case stop => rintro D c' pre W hD _ hf; exact hf.elim
set_option maxHeartbeats 8000000 in
theorem m_loopO (z : World) (bt : Nat) (hzb : z.heap.size ≤ bt) (f : Int) (r : List (Int × Int)) (l h : Nat) (o : List ExprP) (RA OA : Option Addr) (rc oc : Nat) (y n : Int) (A : Option Addr) (c : Nat) (t : List NodeP) (w : World) (hok : okL (.mk 4 f r l h o)) (hat : ∀ x ∈ o, atoms x ≤ 20000)
    (hO : Exs z OA o) (hzw : Keep z w) (hL : LAt bt A c t w) (N : Nat) (hN : ∀ x ∈ o, dp x ≤ N) (hle : t.length + 120000 + N * 120000 ≤ 1000000)
    (CS : ∀ x ∈ o, ∀ (RA' OA' : Option Addr) (rc' oc' : Nat) (y' n' : Int) (A1 : Option Addr) (c1 : Nat) (t' : List NodeP) (W : World), Ex z x RA' OA' → Keep z W → LAt bt A1 c1 t' W → t'.length + N * 120000 ≤ 1000000 → CallM bt A1 c1 t' x RA' OA' rc' oc' y' n' W (lay t' x y' n')) :
    CallM bt A c t (.mk 4 f r l h o) RA OA rc oc y n w (layO t o y n) := by
  have ho6 := hok.few.2
  have hsk := hok.sub (by decide)
  obtain ⟨raws, hre, hrow, hrx⟩ := exs_rows hO
  have hrl : raws.length = o.length := by rw [← hre, List.length_map]
  have HRE := Lib.hid hre
  have hes := fun (pre : List (Gx o.length)) => esOf_mem hre pre
  have hgood := Lib.hid (fun x (hx : x ∈ o) => And.intro (hsk x hx) (hat x hx))
  have hlen := Lib.hid (fun (pre : List (Gx o.length)) => foldO_len t y n (esOf raws pre) fun e he => hgood.out e (hes pre e he))
  unfold CallM
  simp only [kind, field, rs, lo, hi, of]
  obtain ⟨X, hX⟩ : ∃ X, X = (((w.alloc (.cells #[.pointer (some ⟨bt, 0, none⟩)] 65)).alloc (.cells #[.int .i64 4, .int .i64 f, .slice RA r.length rc, .float .f64 l, .float .f64 h, .slice OA o.length oc] 35)).alloc (.cells #[.int .i64 y] 3)).alloc (.cells #[.int .i64 n] 3) := ⟨_, rfl⟩
  have hkX : Keep w X := by rw [hX]; exact ((((Keep.refl w).alloc _).alloc _).alloc _).alloc _
  have hF := boxes_new (L := [.int .i64 4, .int .i64 f, .slice RA r.length rc, .float .f64 l, .float .f64 h, .slice OA o.length oc]) hL hX
  have HX4 := Lib.hid (show X.heap.size = w.heap.size + 4 by rw [hX]; simp)
  have q0 : Boxed X w.heap.size 65 (.pointer (some ⟨bt, 0, none⟩)) := by rw [hX]; exact (((Boxed.new w _ _).alloc _).alloc _).alloc _
  have q2 : Boxed X (w.heap.size + 1 + 1) 3 (.int .i64 y) := by
    rw [hX]
    have := (Boxed.new ((w.alloc (.cells #[.pointer (some ⟨bt, 0, none⟩)] 65)).alloc (.cells #[.int .i64 4, .int .i64 f, .slice RA r.length rc, .float .f64 l, .float .f64 h, .slice OA o.length oc] 35)) 3 (.int .i64 y)).alloc (.cells #[.int .i64 n] 3)
    simpa using this
  have q3 : Boxed X (w.heap.size + 1 + 1 + 1) 3 (.int .i64 n) := by
    rw [hX]
    have := Boxed.new (((w.alloc (.cells #[.pointer (some ⟨bt, 0, none⟩)] 65)).alloc (.cells #[.int .i64 4, .int .i64 f, .slice RA r.length rc, .float .f64 l, .float .f64 h, .slice OA o.length oc] 35)).alloc (.cells #[.int .i64 y] 3)) 3 (.int .i64 n)
    simpa using this
  have hLX := hL.kept hkX
  have hbt := hL.1.lt
  have hlow := hL.2.low
  have B0 := boxes_lw hF (Lw.refl bt _ X)
  have e0 := B0.e.six.1
  have e5 := B0.e.six.2.2.2.2.2
  rw [hX] at e0 e5
  refine (callsIn_wide (n := 9)).1 ?_
  refine callsIn_of_wp_marks Tryz.func19 rfl trivial ?_ rfl
  simp only [Tryz.ntmps19, List.size_toArray, List.length_cons, List.length_nil, Nat.reduceAdd, Nat.reduceSub, Array.replicate_succ, Array.replicate_zero, List.push_toArray, List.append_toArray, List.nil_append, List.cons_append]
  clear B0 hF
  gi_wp2_with fail
  refine ⟨trivial, ?_⟩
  refine (callsIn_wide.2 (backX_any OA o.length oc _)).mono ?_
  rintro e w2 ⟨rfl, rfl⟩
  rw [← hX]
  clear hX e0 e5
  gi_wp2_with fail
  have bN := Boxed.new X 33 (.slice OA o.length oc)
  have hkz : Keep z (X.alloc (.cells #[.slice OA o.length oc] 33)) := (hzw.trans hkX).alloc _
  have hzs := hzw.size
  refine wpIn_rangeFunc_ownH rfl (by omega) (gf := 44) (encs := encsX raws (n := o.length)) (lb := #[.pointer (some ⟨X.heap.size, 0, none⟩)]) rfl trivial (enters_of Tryz.func44 (by kernel_rfl) rfl)
    (backX_stops Fence.wide _ trivial rfl (by omega) X.heap.size OA o.length oc raws z hrow (by omega) _ bN hkz) KF.t (KF.b bN.lt (by have := HX4.out; simp; omega)) (Below.refl _ _) (fun _ => rfl)
    (fun pre W => ∃ A' c', LAt bt A' c' (foldO t y n (esOf raws pre)).1 W ∧ Lw bt (.slice A t.length c) (.slice A' (foldO t y n (esOf raws pre)).1.length c') w W ∧ Boxed W w.heap.size 65 (.pointer (some ⟨bt, 0, none⟩)) ∧ Boxed W (w.heap.size + 1 + 1) 3 (.int .i64 y) ∧ Boxed W (w.heap.size + 1 + 1 + 1) 3 (.int .i64 (foldO t y n (esOf raws pre)).2))
    (fun _ _ _ => False)
    (fun pre W W' row ⟨A', c', i1, i2, i3, i4, i5⟩ hg hr => ⟨A', c', lat_own i1 hg fun r e => (hr r e).2, i2.own hg fun r e => by have := (hr r e).1; have := HX4.out; simp at *; omega, boxed_own' i3 hg fun r e => (hr r e).2, boxed_own' i4 hg fun r e => (hr r e).2, boxed_own' i5 hg fun r e => (hr r e).2⟩)
    (fun c => ownFrom_pure _ _)
    ⟨A, c, hLX.kept ((Keep.refl X).alloc _), .of (hkX.alloc _), q0.alloc _, q2.alloc _, q3.alloc _⟩
    (fun x a' W => ∃ q, a' = { tmps := #[.pointer (some ⟨bt, 0, none⟩), .agg #[.int .i64 4, .int .i64 f, .slice RA r.length rc, .float .f64 l, .float .f64 h, .slice OA o.length oc], .int .i64 y, .int .i64 n, .pointer (some ⟨w.heap.size, 0, none⟩), .pointer (some ⟨w.heap.size + 1, 0, none⟩), .pointer (some ⟨w.heap.size + 1 + 1, 0, none⟩), .pointer (some ⟨w.heap.size + 1 + 1 + 1, 0, none⟩), .int .i64 0, undef, undef, undef, .pointer (some ⟨q, 0, none⟩), .pointer (some ⟨w.heap.size + 1, 0, none⟩), .int .i64 4, .bool false, .bool false, undef, .bool false, .bool false, undef, undef, undef, undef, undef, undef, undef, .bool false, .bool false, undef, undef, undef, undef, undef, undef, undef, undef, undef, undef, undef, undef, .bool false, .bool false, undef, undef, undef, undef, undef, undef, undef, undef, undef, undef, undef, .bool true, .bool true, .pointer (some ⟨w.heap.size + 1, 5, none⟩), .slice OA o.length oc, .func (.func 44) #[] #[.pointer (some ⟨X.heap.size, 0, none⟩)], .int .i64 (x.1 : Int), .agg #[.int .i64 (kind (raws.getD x.1 rawx0).e), .int .i64 (field (raws.getD x.1 rawx0).e), .slice (raws.getD x.1 rawx0).RA (rs (raws.getD x.1 rawx0).e).length (raws.getD x.1 rawx0).rc, .float .f64 (lo (raws.getD x.1 rawx0).e), .float .f64 (hi (raws.getD x.1 rawx0).e), .slice (raws.getD x.1 rawx0).OA (of (raws.getD x.1 rawx0).e).length (raws.getD x.1 rawx0).oc], undef, undef, undef, undef, undef, undef, undef], defers := [] } ∧ Bx W q (encX (raws.getD x.1 rawx0)))
    (fun x a' s W W' row ⟨q, e1, e2⟩ hg hr => ⟨q, e1, Nat.lt_of_lt_of_le e2.1 hg.size, fun j v hj => cell_kept (e2.2 j v hj) hg fun r e => (hr r e).2⟩) ?assign ?body ?done ?stop
  case assign =>
    rintro l' pre x W K ⟨A', c', i1, i2, i3, i4, i5⟩ hK
    have hsf := store_float Tryz.prog
    unfold encsX
    gi_wp2
    have kW := (Keep.refl W).alloc (.cells (encX (raws.getD x.1 rawx0)).toArray 35)
    exact hK _ _ ((KeepsOthers.alloc W _).from _) (fun hx => ⟨hx.1.alloc _, hx.2.alloc _⟩) ⟨A', c', i1.kept kW, i2.keep kW, i3.alloc _, i4.alloc _, i5.alloc _⟩ ⟨W.heap.size, rfl, Bx.newq rfl⟩
  case body =>
    rintro l' pre x a' W _ _ ⟨A', c', i1, i2, i3, i4, i5⟩ ⟨q, rfl, hq⟩ hlt
    have hmem := raw_mem hrl x
    have hbel : Below z.heap.size w W := i2.below hzs hzb fun r hr => by have := (hlow r hr).1; omega
    have hkW : Keep z W := keep_below hzw hbel (Nat.le_refl _)
    have hmo : (raws.getD x.1 rawx0).e ∈ raws.map (·.e) := List.mem_map.2 ⟨_, hmem, rfl⟩
    rw [hre] at hmo
    have hl5 := hlen.out pre
    have hel : (esOf raws pre).length = pre.length := by unfold esOf; rw [List.length_map]
    have hC := CS _ hmo (raws.getD x.1 rawx0).RA (raws.getD x.1 rawx0).OA (raws.getD x.1 rawx0).rc (raws.getD x.1 rawx0).oc y (foldO t y n (esOf raws pre)).2 A' c' _ W (hrx _ hmem) hkW i1 (by rw [hel] at hl5; omega)
    have HST := Lib.hid (foldO_snoc t y n (esOf raws pre) (raws.getD x.1 rawx0).e)
    have HES := Lib.hid (show esOf raws (pre ++ [x]) = esOf raws pre ++ [(raws.getD x.1 rawx0).e] by unfold esOf; rw [List.map_append]; rfl)
    rw [← HST.out, ← HES.out] at hC
    unfold CallM at hC
    have ct := i3.cell
    have cy := i4.cell
    have cn := i5.cell
    have g0 := hq.2 0 _ rfl
    have g1 := hq.2 1 _ rfl
    have g2 := hq.2 2 _ rfl
    have g3 := hq.2 3 _ rfl
    have g4 := hq.2 4 _ rfl
    have g5 := hq.2 5 _ rfl
    have HQ := Lib.hid hq
    have HBEL := Lib.hid hbel
    obtain ⟨T, hT⟩ : ∃ T, T = foldO t y n (esOf raws pre) := ⟨_, rfl⟩
    obtain ⟨T2, hT2⟩ : ∃ T2, T2 = foldO t y n (esOf raws (pre ++ [x])) := ⟨_, rfl⟩
    rw [← hT] at i1 i2 i5 cn hC
    dsimp only
    rw [← hT2] at hC
    have HT2 := Lib.hid hT2
    generalize raws.getD x.1 rawx0 = rx at *
    clear hT hT2 hq hbel hl5 hel HST HES hmo hmem hrx CS hrow
    gi_wp2_with (refine ⟨trivial, ?_⟩; gi_at_call 19; refine (CallsIn.inRound l' (callsIn_wide.2 hC)).mono ?_; rintro e W3 ⟨A3, c3, rfl, h3, gg⟩; have k4 := boxed_lw i1 gg i5 (by decide) (by omega); have c4 := k4.cell; have f4 := k4.frozen)
    have hT := HT2.out
    subst hT
    have hX4 := HX4.out
    have hlw := (i2.trans gg).set (q := w.heap.size + 1 + 1 + 1) (by omega) (.int .i64 (foldO t y n (esOf raws (pre ++ [x]))).2)
    exact ⟨(lw_keeps i1 gg).trans ((KeepsOthers.setCell _ _ _).from _), fun hx => ⟨(boxed_lw i1 gg hx.1 (by decide) (by omega)).other (by omega) _, keep_below hzw (hlw.below hzs hzb fun r hr => by have := (hlow r hr).1; omega) (Nat.le_refl _)⟩,
      ⟨A3, c3, lat_set h3 k4 (by decide) (by omega) _, hlw, (boxed_lw i1 gg i3 (by decide) (by omega)).other (by omega) _, (boxed_lw i1 gg i4 (by decide) (by omega)).other (by omega) _, k4.set _⟩⟩
  case done =>
    rintro D ys W hD hys ⟨A', c', i1, i2, i3, i4, i5⟩ hK
    have hall := esOf_all hre ys hys
    rw [hall, foldO_all] at i1 i2 i5
    have cy := i5.cell
    have HDW := Lib.hid (show w.heap.size ≤ D by have := HX4.out; simp at hD; omega)
    clear hall hys hD
    gi_wp2
    refine ⟨by simp, .inl ⟨_, _, rfl, run_takeDeferred hK, ?_⟩⟩
    refine ⟨.int .i64 (layO t o y n).2, ?_, RetM.of rfl (lat_own i1 (grownBy_putObj' W D _) fun r e => by cases e; exact ⟨_, hK, rfl⟩) (i2.own (grownBy_putObj' W D _) fun r e => by cases e; exact HDW.out)⟩
    simp [results, Tryz.f19, go_sem]
  case stop => rintro D c' pre W hD _ hf; exact hf.elim
end Go.Proofs.YtdkeibgfehblaaaGreatDoor.Cm
/- The developers' compile: an expression laid. Conditions: expressions that may be and are small. -/
namespace Go.Proofs.YtdkeibgfehblaaaGreatDoor.Cm
set_option linter.unusedVariables false
set_option maxRecDepth 100000
open Go.ChangeShapes Go.WideShapes Go.ChangeAt Go.RowKit
open Tr
open Nd
open Cp (testP leafP lay layN layA layO)
theorem atoms_mem : ∀ {l : List ExprP} {x : ExprP}, x ∈ l → atoms x ≤ atomsL l
  | [], x, h => by cases h
  | a :: l, x, h => by
    rw [atomsL]
    rcases List.mem_cons.1 h with rfl | h
    · omega
    · have := atoms_mem h; omega
set_option maxHeartbeats 8000000 in
theorem m_any (z : World) (bt : Nat) (hzb : z.heap.size ≤ bt) : ∀ (N : Nat) (e : ExprP) (RA OA : Option Addr) (rc oc : Nat) (y n : Int) (A : Option Addr) (c : Nat) (t : List NodeP) (w : World), dp e ≤ N → okL e → atoms e ≤ 20000 → Ex z e RA OA → Keep z w → LAt bt A c t w →
    t.length + N * 120000 ≤ 1000000 → CallM bt A c t e RA OA rc oc y n w (lay t e y n) := by
  intro N
  induction N with
  | zero => intro e RA OA rc oc y n A c t w hN; exact absurd (dp_pos e) (by omega)
  | succ N ih =>
    intro e RA OA rc oc y n A c t w hN hok hat hE hzw hL hle
    rw [Nat.add_mul, Nat.one_mul] at hle
    have hle2 : t.length + N * 120000 ≤ 1000000 := Nat.le_trans (Nat.add_le_add_left (Nat.le_add_right _ _) _) hle
    have hle3 : t.length + 120000 + N * 120000 ≤ 1000000 := by rw [Nat.add_assoc, Nat.add_comm 120000]; exact hle
    have hle1 : t.length ≤ 1000000 := Nat.le_trans (Nat.le_add_right _ _) hle
    clear hle
    have hsub := fun x (hx : x ∈ of e) => dp_of hx
    have hO : Exs z OA (of e) := hE.exs
    obtain ⟨k, f, r, l, h, o⟩ := e
    simp only [of] at hsub hO
    by_cases k1 : k = 1
    · subst k1
      obtain rfl := hok.atom
      rw [lay_1 t rfl]
      exact m_atom f r l h RA OA rc oc y n bt A c t w hok (hE.kept hzw).1 hL hle1
    have hsk := hok.sub k1
    have hatl : k ≠ 0 → ∀ x ∈ o, atoms x ≤ 20000 := fun k0 x hx => by
      have h1 := atoms_mem hx
      have h2 : atoms (.mk k f r l h o) = atomsL o := by
        rcases hok.many k1 with ⟨rfl, rfl⟩ | ⟨rfl, x, rfl⟩ | ⟨rfl | rfl, _⟩
        · exact absurd rfl k0
        · rfl
        · rfl
        · rfl
      omega
    have CS := fun (k0 : k ≠ 0) (x : ExprP) (hx : x ∈ o) (RA' OA' : Option Addr) (rc' oc' : Nat) (y' n' : Int) (A1 : Option Addr) (c1 : Nat) (t' : List NodeP) (W : World) (hEx : Ex z x RA' OA') (hW : Keep z W) (hLW : LAt bt A1 c1 t' W) (hl : t'.length + N * 120000 ≤ 1000000) =>
      ih x RA' OA' rc' oc' y' n' A1 c1 t' W (by have := hsub x hx; omega) (hsk x hx) (hatl k0 x hx) hEx hW hLW hl
    rcases hok.many k1 with ⟨rfl, rfl⟩ | ⟨rfl, x, rfl⟩ | ⟨rfl | rfl, h2⟩
    · unfold CallM
      simp only [kind, field, rs, lo, hi, of, List.length_nil]
      clear ih CS hsk hsub hO hE hok k1 hzw
      have HL := Lib.hid hL
      obtain ⟨X, hX⟩ : ∃ X, X = (((w.alloc (.cells #[.pointer (some ⟨bt, 0, none⟩)] 65)).alloc (.cells #[.int .i64 0, .int .i64 f, .slice RA r.length rc, .float .f64 l, .float .f64 h, .slice OA 0 oc] 35)).alloc (.cells #[.int .i64 y] 3)).alloc (.cells #[.int .i64 n] 3) := ⟨_, rfl⟩
      have hkX : Keep w X := by rw [hX]; exact ((((Keep.refl w).alloc _).alloc _).alloc _).alloc _
      go_enter Tryz.func19, Tryz.ntmps19
      go_wp2
      go_ret
      rw [← hX]
      have e0 : lay t (.mk 0 f r l h []) y n = (t, y) := by simp [lay]
      rw [e0]
      exact RetM.of rfl (HL.out.kept hkX) (.of hkX)
    · obtain ⟨b, off, rfl, _⟩ := hO.addr (by simp)
      have hx1 := hO.elem 0 (by simp)
      simp only [List.getD_cons_zero, Nat.zero_mul, Nat.add_zero] at hx1
      obtain ⟨hbb, RA', OA', rc', oc', hx6, hy⟩ := hx1
      unfold CallM
      simp only [kind, field, rs, lo, hi, of, List.length_cons, List.length_nil, Nat.zero_add]
      obtain ⟨X, hX⟩ : ∃ X, X = (((w.alloc (.cells #[.pointer (some ⟨bt, 0, none⟩)] 65)).alloc (.cells #[.int .i64 2, .int .i64 f, .slice RA r.length rc, .float .f64 l, .float .f64 h, .slice (some ⟨b, off, none⟩) 1 oc] 35)).alloc (.cells #[.int .i64 y] 3)).alloc (.cells #[.int .i64 n] 3) := ⟨_, rfl⟩
      have hkX : Keep w X := by rw [hX]; exact ((((Keep.refl w).alloc _).alloc _).alloc _).alloc _
      have hzX := hzw.trans hkX
      have hN := boxes_new (L := [.int .i64 2, .int .i64 f, .slice RA r.length rc, .float .f64 l, .float .f64 h, .slice (some ⟨b, off, none⟩) 1 oc]) hL hX
      have hlow := hL.2.low
      have hbt := hL.1.lt
      have hks := hkX.size
      have hzs := hzw.size
      have hS : ∀ W v', Lw bt (.slice A t.length c) v' X W → W.cell? ⟨w.heap.size, 0, none⟩ = some (Value.pointer (some ⟨bt, 0, none⟩)) ∧ W.cell? ⟨w.heap.size + 1, 5, none⟩ = some (Value.slice (some ⟨b, off, none⟩) 1 oc) ∧ W.cell? ⟨w.heap.size + 2, 0, none⟩ = some (Value.int .i64 y) ∧ W.cell? ⟨w.heap.size + 3, 0, none⟩ = some (Value.int .i64 n) ∧ W.cell? ⟨b, off, none⟩ = some (Value.int .i64 (kind x)) ∧ W.cell? ⟨b, off + 1, none⟩ = some (Value.int .i64 (field x)) ∧ W.cell? ⟨b, off + 2, none⟩ = some (Value.slice RA' (rs x).length rc') ∧ W.cell? ⟨b, off + 3, none⟩ = some (Value.float .f64 (lo x)) ∧ W.cell? ⟨b, off + 4, none⟩ = some (Value.float .f64 (hi x)) ∧ W.cell? ⟨b, off + 5, none⟩ = some (Value.slice OA' (of x).length oc') := fun W v' g => by
        obtain ⟨f0, fe, f2, f3⟩ := boxes_lw hN g
        have hkW : Keep z W := keep_below hzX (g.below (B := z.heap.size) (by omega) hzb fun r hr => by have := (hlow r hr).1; omega) (Nat.le_refl _)
        obtain ⟨x0, x1, x2, x3, x4, x5⟩ := hx6.kept hbb hkW
        exact ⟨f0, fe.six.2.2.2.2.2, f2, f3, x0, x1, x2, x3, x4, x5⟩
      have hC := fun (W : World) (hk : Keep X W) => CS (by decide) x (by simp) RA' OA' rc' oc' n y A c t W hy (hzX.trans hk) ((hL.kept hkX).kept hk) hle2
      unfold CallM at hC
      have hF := boxes_lw hN (Lw.refl bt _ X)
      have e5 := hF.e.six.2.2.2.2.2
      have ek := hF.e.six.1
      rw [hX] at e5 ek
      have kX := Keep.refl X
      have kD := keep_drew (Keep.refl X)
      clear ih CS hsk hsub hO hE hok k1 hzw hy hbb hL hatl hF hx6 hN
      go_enter Tryz.func19, Tryz.ntmps19
      go_wp2
      rw [← hX]
      clear hX e5 ek
      rw [lay_2]
      go_region_held3 (fun W => W.cell? ⟨w.heap.size, 0, none⟩ = some (Value.pointer (some ⟨bt, 0, none⟩)) ∧ W.cell? ⟨w.heap.size + 1, 5, none⟩ = some (Value.slice (some ⟨b, off, none⟩) 1 oc) ∧ W.cell? ⟨w.heap.size + 2, 0, none⟩ = some (Value.int .i64 y) ∧ W.cell? ⟨w.heap.size + 3, 0, none⟩ = some (Value.int .i64 n) ∧ W.cell? ⟨b, off, none⟩ = some (Value.int .i64 (kind x)) ∧ W.cell? ⟨b, off + 1, none⟩ = some (Value.int .i64 (field x)) ∧ W.cell? ⟨b, off + 2, none⟩ = some (Value.slice RA' (rs x).length rc') ∧ W.cell? ⟨b, off + 3, none⟩ = some (Value.float .f64 (lo x)) ∧ W.cell? ⟨b, off + 4, none⟩ = some (Value.float .f64 (hi x)) ∧ W.cell? ⟨b, off + 5, none⟩ = some (Value.slice OA' (of x).length oc'))
        (first
          | with_reducible exact hS _ _ (Lw.of kX)
          | with_reducible exact hS _ _ (Lw.of kD)
          | with_reducible exact hS _ _ (Lw.after kX g4)
          | with_reducible exact hS _ _ (Lw.after kD g4)
          | fail)
        ((first
          | (go_at_call 19; refine (hC _ kX).mono ?_; rintro e w4 ⟨A4, c4, rfl, h4, g4⟩; have hfin := RetM.of (x := lay t x n y) rfl h4 (.after (hkX.trans kX) g4))
          | (go_at_call 19; refine (hC _ kD).mono ?_; rintro e w4 ⟨A4, c4, rfl, h4, g4⟩; have hfin := RetM.of (x := lay t x n y) rfl h4 (.after (hkX.trans kD) g4))
          | fail))
      all_goals
        go_wp2
        go_ret
        exact hfin
    · rw [lay_3]
      exact m_loopA z bt hzb f r l h o RA OA rc oc y n A c t w hok (hatl (by decide)) hO hzw hL N (fun x hx => by have := hsub x hx; omega) hle3 (CS (by decide))
    · rw [lay_4]
      exact m_loopO z bt hzb f r l h o RA OA rc oc y n A c t w hok (hatl (by decide)) hO hzw hL N (fun x hx => by have := hsub x hx; omega) hle3 (CS (by decide))
end Go.Proofs.YtdkeibgfehblaaaGreatDoor.Cm
/- The developers' compile: slices.Backward over rules. Conditions: at most a million rules. -/
namespace Go.Proofs.YtdkeibgfehblaaaGreatDoor.Cm
set_option linter.unusedVariables false
set_option maxRecDepth 100000
open Go.RowKit Go.Shelf
open Tr
open Nd
open Cp (testP leafP lay layN layA layO)
attribute [local go_sem] Oper.semAt_some
/-- A rule as it lies in memory. -/
structure RawU where
  r : RuleP
  RA : Option Addr
  rc : Nat
  OA : Option Addr
  oc : Nat
def rawu0 : RawU := ⟨zeroR, none, 0, none, 0⟩
def encU (x : RawU) : List Value := [.bool x.r.allow, .int .i64 (kind x.r.when_), .int .i64 (field x.r.when_), .slice x.RA (rs x.r.when_).length x.rc, .float .f64 (lo x.r.when_), .float .f64 (hi x.r.when_), .slice x.OA (of x.r.when_).length x.oc, .int .i64 x.r.num, .int .i64 x.r.per, .int .i64 x.r.burst, .int .i64 x.r.line]
theorem rus_rows {W : World} {A : Option Addr} {l : List RuleP} (h : Rus W A l) : ∃ raws : List RawU, raws.map (·.r) = l ∧ Row encU 11 W W.heap.size A l.length raws ∧ ∀ x ∈ raws, Ex W x.r.when_ x.RA x.OA := by
  rcases Nat.eq_zero_or_pos l.length with h0 | hp
  · have : l = [] := List.eq_nil_of_length_eq_zero h0
    subst this
    exact ⟨[], rfl, Row.none_ _ _ _, fun x hx => by cases hx⟩
  · obtain ⟨b, off, rfl, hb⟩ := h.addr hp
    obtain ⟨raws, hl, hls⟩ := choose_list l.length (fun i (x : RawU) => x.r = l.getD i zeroR ∧ (∀ j v, (encU x)[j]? = some v → W.cell? ⟨b, off + i * 11 + j, none⟩ = some v) ∧ Ex W x.r.when_ x.RA x.OA) (fun i hi => by
      obtain ⟨_, RA, OA, rc, oc, ⟨h0, h1, h2, h3, h4, h5, h6, h7, h8, h9, h10⟩, hE⟩ := h.elem i hi
      exact ⟨⟨l.getD i zeroR, RA, rc, OA, oc⟩, rfl, (fun j v hv => by
        match j, hv with
        | 0, hv => injection hv with hv; rw [← hv]; exact h0
        | 1, hv => injection hv with hv; rw [← hv]; exact h1
        | 2, hv => injection hv with hv; rw [← hv]; exact h2
        | 3, hv => injection hv with hv; rw [← hv]; exact h3
        | 4, hv => injection hv with hv; rw [← hv]; exact h4
        | 5, hv => injection hv with hv; rw [← hv]; exact h5
        | 6, hv => injection hv with hv; rw [← hv]; exact h6
        | 7, hv => injection hv with hv; rw [← hv]; exact h7
        | 8, hv => injection hv with hv; rw [← hv]; exact h8
        | 9, hv => injection hv with hv; rw [← hv]; exact h9
        | 10, hv => injection hv with hv; rw [← hv]; exact h10
        | j + 11, hv => cases hv), hE⟩)
    refine ⟨raws, ?_, ⟨hl, fun _ => ⟨b, off, rfl, hb, fun j hj i v hv => (hls j _ (List.getElem?_eq_getElem hj)).2.1 i v hv⟩⟩, fun x hx => ?_⟩
    · refine List.ext_getElem (by rw [List.length_map]; exact hl) fun j h1 h2 => ?_
      rw [List.getElem_map]
      have := (hls j _ (List.getElem?_eq_getElem (by simpa using h1))).1
      rw [this, List.getD_eq_getElem?_getD, List.getElem?_eq_getElem h2]; rfl
    · obtain ⟨j, hj, rfl⟩ := List.mem_iff_getElem.1 hx
      exact (hls j _ (List.getElem?_eq_getElem hj)).2.2
set_option maxHeartbeats 1000000 in
theorem backU_any (A : Option Addr) (n c : Nat) (w : World) :
    Calls Tryz.prog 18 #[.slice A n c] w fun e w' => e = .returned (.func (.func 33) #[] #[.pointer (some ⟨w.heap.size, 0, none⟩)]) ∧ w' = w.alloc (.cells #[.slice A n c] 22) := by
  go_enter Tryz.func18, Tryz.ntmps18
  go_wp2
  go_ret
  exact ⟨rfl, rfl⟩
/-- What is handed out at a place. -/
def encsU (raws : List RawU) {n : Nat} (x : Gx n) : Array Value := #[.int .i64 (x.1 : Int), .agg #[.bool (raws.getD x.1 rawu0).r.allow, .int .i64 (kind (raws.getD x.1 rawu0).r.when_), .int .i64 (field (raws.getD x.1 rawu0).r.when_), .slice (raws.getD x.1 rawu0).RA (rs (raws.getD x.1 rawu0).r.when_).length (raws.getD x.1 rawu0).rc, .float .f64 (lo (raws.getD x.1 rawu0).r.when_), .float .f64 (hi (raws.getD x.1 rawu0).r.when_), .slice (raws.getD x.1 rawu0).OA (of (raws.getD x.1 rawu0).r.when_).length (raws.getD x.1 rawu0).oc, .int .i64 (raws.getD x.1 rawu0).r.num, .int .i64 (raws.getD x.1 rawu0).r.per, .int .i64 (raws.getD x.1 rawu0).r.burst, .int .i64 (raws.getD x.1 rawu0).r.line]]
set_option maxRecDepth 100000 in
set_option maxHeartbeats 4000000 in
theorem backU_in (F : Fence) (m : Nat) (h6 : F.fn 33) (hro : F.round = none) (hm : 1 ≤ m) (l Bn : Nat) (A : Option Addr) (n c : Nat) (raws : List RawU) (z : World) (hrow : Row encU 11 z z.heap.size A n raws) (hn : n ≤ 1000000) (J Jx : List (Gx n) → World → Prop)
    (hY : ∀ pre x W, J pre W → pre.length < n → YieldAt F (m - 1) Tryz.prog l (encsU raws x) W fun e W' =>
      (e = .returned (.bool true) ∧ J (pre ++ [x]) W' ∧ KF z Bn 22 (.slice A n c) W W') ∨ (e = .returned (.bool false) ∧ Jx (pre ++ [x]) W'))
    (W : World) (hKF : Boxed W Bn 22 (.slice A n c) ∧ Keep z W) (h0 : J [] W) :
    CallsIn F m Tryz.prog 33 #[.func (.yield l) #[] #[], .pointer (some ⟨Bn, 0, none⟩)] W fun e W' => (∃ v, e = .returned v) ∧
      ((∃ ys : List (Gx n), ys.map (·.1) = (List.range n).reverse ∧ J ys W') ∨ (∃ pre : List (Gx n), True ∧ Jx pre W')) := by
  refine callsIn_of_wp Tryz.func33 rfl h6 ?_ hro
  simp only [Tryz.ntmps33, List.size_toArray, List.length_cons, List.length_nil, Nat.reduceAdd, Nat.reduceSub, Array.replicate_succ, Array.replicate_zero, List.push_toArray, List.append_toArray, List.nil_append, List.cons_append]
  have hcell0 : W.cell? ⟨Bn, 0, none⟩ = some (.slice A n c) := hKF.1.cell
  gi_wp2
  gi_loopw [3] (fun i wr => ∃ (j : Nat) (i' : Int) (pre : List (Gx n)), i = .int .i64 i' ∧ i' + 1 = j ∧ j ≤ n ∧ Hid (pre.map (·.1) = ((List.range n).drop j).reverse) ∧ pre.length = n - j ∧ J pre wr ∧ (Boxed wr Bn 22 (.slice A n c) ∧ Keep z wr))
    (fun i _ => (intOf i + 1).toNat)
  case atStart =>
    exact ⟨n, (n : Int) - 1, [], rfl, by omega, Nat.le_refl _, by rw [List.drop_of_length_le (by simp)]; rfl, by simp, h0, hKF⟩
  case round =>
    obtain ⟨j, i', pre, rfl, hiq, hj, HP, hpl, hJs, hbw, hkz⟩ := hrel
    have hcell : wr.cell? ⟨Bn, 0, none⟩ = some (.slice A n c) := hbw.cell
    clear hcell0
    cases j with
    | zero =>
      obtain rfl : i' = -1 := by omega
      gi_wp2
      go_end0
      exact ⟨⟨_, rfl⟩, .inl ⟨pre, by rw [HP.out]; rfl, hJs⟩⟩
    | succ q =>
      obtain rfl : i' = (q : Int) := by omega
      have hq0 : (0 : Int) ≤ q := by omega
      have hq1 : (q : Int) < n := by omega
      have hqn : q < n := by omega
      have hHP := Lib.hid (show (pre ++ [(⟨q, hqn⟩ : Gx n)]).map (·.1) = ((List.range n).drop q).reverse by rw [range_down hqn, List.map_append, HP.out]; rfl)
      have hHL := Lib.hid (show (pre ++ [(⟨q, hqn⟩ : Gx n)]).length = n - q by rw [List.length_append, hpl]; simp; omega)
      have hy' := hY pre ⟨q, hqn⟩ wr hJs (by omega)
      obtain ⟨b, off, rfl, _⟩ := hrow.addr (by omega)
      obtain ⟨hbb, hcs⟩ := hrow.cells (by omega)
      have hql : q < raws.length := by have := hrow.1; omega
      have hgd : raws.getD q rawu0 = raws[q]'hql := by rw [List.getD_eq_getElem?_getD, List.getElem?_eq_getElem (by omega)]; rfl
      have hcs : ∀ i v, (encU (raws[q]'hql))[i]? = some v → wr.cell? ⟨b, off + q * 11 + i, none⟩ = some v := fun i v hv => (Below.cell hkz hbb).trans (hcs q hql i v hv)
      unfold encsU at hy'
      rw [hgd] at hy'
      generalize raws[q]'hql = x at *
      have x0 : wr.cell? ⟨b, off + q * 11, none⟩ = some (.bool x.r.allow) := hcs 0 _ rfl
      have x1 : wr.cell? ⟨b, off + q * 11 + 1, none⟩ = some (.int .i64 (kind x.r.when_)) := hcs 1 _ rfl
      have x2 : wr.cell? ⟨b, off + q * 11 + 2, none⟩ = some (.int .i64 (field x.r.when_)) := hcs 2 _ rfl
      have x3 : wr.cell? ⟨b, off + q * 11 + 3, none⟩ = some (.slice x.RA (rs x.r.when_).length x.rc) := hcs 3 _ rfl
      have x4 : wr.cell? ⟨b, off + q * 11 + 4, none⟩ = some (.float .f64 (lo x.r.when_)) := hcs 4 _ rfl
      have x5 : wr.cell? ⟨b, off + q * 11 + 5, none⟩ = some (.float .f64 (hi x.r.when_)) := hcs 5 _ rfl
      have x6 : wr.cell? ⟨b, off + q * 11 + 6, none⟩ = some (.slice x.OA (of x.r.when_).length x.oc) := hcs 6 _ rfl
      have x7 : wr.cell? ⟨b, off + q * 11 + 7, none⟩ = some (.int .i64 x.r.num) := hcs 7 _ rfl
      have x8 : wr.cell? ⟨b, off + q * 11 + 8, none⟩ = some (.int .i64 x.r.per) := hcs 8 _ rfl
      have x9 : wr.cell? ⟨b, off + q * 11 + 9, none⟩ = some (.int .i64 x.r.burst) := hcs 9 _ rfl
      have x10 : wr.cell? ⟨b, off + q * 11 + 10, none⟩ = some (.int .i64 x.r.line) := hcs 10 _ rfl
      have HCX := Lib.hid hgd
      clear hcs hY hrow hgd hiq hpl
      obtain ⟨fn, tmps, assign, body, hy, hR⟩ := hy'
      gi_wp2
      refine hR.mono ?_
      rintro e W3 (⟨rfl, hJ3, hk3⟩ | ⟨rfl, hJx3⟩)
      · gi_wp2
        go_roundw
        case rel => exact ⟨q, (q : Int) - 1, _, rfl, by omega, by omega, hHP, hHL.out, hJ3, hk3 ⟨hbw, hkz⟩⟩
        case measure => simp [intOf]
      · gi_wp2
        refine bodyPost_ret (results_none rfl _ _ _) rfl ?_
        exact ⟨⟨_, rfl⟩, .inr ⟨_, trivial, hJx3⟩⟩
theorem backU_stops (F : Fence) (m : Nat) (h6 : F.fn 33) (hro : F.round = none) (hm : 1 ≤ m) (Bn : Nat) (A : Option Addr) (n c : Nat) (raws : List RawU) (z : World) (hrow : Row encU 11 z z.heap.size A n raws) (hn : n ≤ 1000000) (w : World)
    (hcl : Boxed w Bn 22 (.slice A n c)) (hkz : Keep z w) :
    SeqStopsK F m Tryz.prog 33 #[.pointer (some ⟨Bn, 0, none⟩)] (encsU raws (n := n)) (KF z Bn 22 (.slice A n c)) (fun ys => ys.map (·.1) = (List.range n).reverse) (fun _ => True) n w := fun l J Jx W hW _ _ hY h0 =>
  backU_in F m h6 hro hm l Bn A n c raws z hrow hn J Jx hY W ⟨(hW.block Bn hcl.lt).trans hcl, hkz.trans hW⟩ h0
/-- One rule laid behind what is laid. -/
noncomputable def stepR (s : List NodeP × Int) (p : Int × RuleP) : List NodeP × Int := lay (s.1 ++ [leafP p.1]) p.2.when_ s.1.length s.2
noncomputable def foldR (es : List (Int × RuleP)) : List NodeP × Int := es.foldl stepR ([leafP (-1)], 0)
def pairs : List RuleP → Int → List (Int × RuleP)
  | [], _ => []
  | r :: l, i => (i, r) :: pairs l (i + 1)
theorem foldR_all : ∀ (l : List RuleP) (i : Int), foldR (pairs l i).reverse = Cp.rulesF l i
  | [], i => by rw [Cp.rulesF]; rfl
  | r :: l, i => by
    have ih := foldR_all l (i + 1)
    unfold foldR at ih ⊢
    rw [pairs, List.reverse_cons, List.foldl_append, ih, Cp.rulesF]; rfl
theorem foldR_snoc (es : List (Int × RuleP)) (p : Int × RuleP) : foldR (es ++ [p]) = stepR (foldR es) p := by unfold foldR; rw [List.foldl_append]; rfl
theorem foldR_len (es : List (Int × RuleP)) (h : ∀ p ∈ es, okL p.2.when_ ∧ atoms p.2.when_ ≤ 20000) : (foldR es).1.length ≤ 1 + es.length * 20001 := by
  have key : ∀ (es : List (Int × RuleP)) (s : List NodeP × Int), (∀ p ∈ es, okL p.2.when_ ∧ atoms p.2.when_ ≤ 20000) → (es.foldl stepR s).1.length ≤ s.1.length + es.length * 20001 := by
    intro es
    induction es with
    | nil => intro s _; exact Nat.le_add_right _ _
    | cons e es ih =>
      intro s h
      have he := h e (List.mem_cons_self ..)
      rw [List.foldl_cons, List.length_cons]
      have := ih (stepR s e) fun e he => h e (List.mem_cons_of_mem _ he)
      have hs : (stepR s e).1.length = s.1.length + 1 + atoms e.2.when_ := by unfold stepR; rw [lay_len _ e.2.when_ _ _ _ (Nat.le_refl _) he.1, List.length_append, List.length_singleton]
      have := he.2
      omega
  exact key es _ h
def prOf (raws : List RawU) {n : Nat} (ys : List (Gx n)) : List (Int × RuleP) := ys.map fun k => ((k.1 : Int), (raws.getD k.1 rawu0).r)
theorem pairs_get : ∀ (l : List RuleP) (i : Int), pairs l i = (List.range l.length).map fun (k : Nat) => (i + k, l.getD k zeroR)
  | [], i => rfl
  | r :: l, i => by
    rw [pairs, pairs_get l (i + 1), List.length_cons, List.range_succ_eq_map, List.map_cons, List.map_map]
    refine congr (congrArg _ (by simp)) (List.map_congr_left fun k _ => ?_)
    show (i + 1 + (k : Int), l.getD k zeroR) = (i + ((k + 1 : Nat) : Int), l.getD k zeroR)
    congr 1
    omega
theorem prOf_all {raws : List RawU} {l : List RuleP} (ho : raws.map (·.r) = l) (ys : List (Gx l.length)) (h : ys.map (·.1) = (List.range l.length).reverse) : prOf raws ys = (pairs l 0).reverse := by
  subst ho
  have e1 : prOf raws ys = (ys.map (·.1)).map fun (k : Nat) => ((k : Int), (raws.getD k rawu0).r) := by unfold prOf; rw [List.map_map]; rfl
  rw [e1, h, List.map_reverse, pairs_get]
  congr 1
  refine List.map_congr_left fun k hk => ?_
  have hk : k < raws.length := by simpa using hk
  rw [List.getD_eq_getElem?_getD, List.getD_eq_getElem?_getD, List.getElem?_map, List.getElem?_eq_getElem hk]
  simp
theorem prOf_mem {raws : List RawU} {l : List RuleP} (ho : raws.map (·.r) = l) (ys : List (Gx l.length)) : ∀ p ∈ prOf raws ys, p.2 ∈ l := fun p hp => by
  unfold prOf at hp
  obtain ⟨k, _, rfl⟩ := List.mem_map.1 hp
  subst ho
  have hk : k.1 < raws.length := by have := k.2; simpa using this
  rw [List.getD_eq_getElem?_getD, List.getElem?_eq_getElem hk]
  exact List.mem_map.2 ⟨_, List.getElem_mem hk, rfl⟩
theorem rawu_mem {raws : List RawU} {n : Nat} (hl : raws.length = n) (k : Gx n) : raws.getD k.1 rawu0 ∈ raws := by
  rw [List.getD_eq_getElem?_getD, List.getElem?_eq_getElem (by rw [hl]; exact k.2)]
  exact List.getElem_mem _
end Go.Proofs.YtdkeibgfehblaaaGreatDoor.Cm
/- The developers' compile: Rules. Conditions: a dozen rules, whose expressions may be and are small. -/
namespace Go.Proofs.YtdkeibgfehblaaaGreatDoor.Cm
set_option linter.unusedVariables false
set_option maxRecDepth 100000
open Go.RowKit Go.Shelf
open Tr
open Nd
open Cp (testP leafP lay layN layA layO)
attribute [local go_sem] Oper.semAt_some
/-- A block with these cells, of a type. -/
def BoxT (W : World) (q : Nat) (t : TypeId) (L : List Value) : Prop := W.heap[q]? = some (.cells L.toArray t (0, 0))
theorem BoxT.new (W : World) (t : TypeId) (L : List Value) : BoxT (W.alloc (.cells L.toArray t)) W.heap.size t L := World.alloc_heap_new W _
theorem BoxT.bx {W : World} {q : Nat} {t : TypeId} {L : List Value} (h : BoxT W q t L) : Bx W q L :=
  ⟨(Array.getElem?_eq_some_iff.1 h).1, fun j v hj => by
    unfold World.cell?
    rw [show W.heap[q]? = _ from h]
    simpa using hj⟩
theorem BoxT.own {W W' : World} {row : Option Nat} {q : Nat} {t : TypeId} {L : List Value} (h : BoxT W q t L) (hg : W.grownBy W' row) (hr : ∀ r, row = some r → ∃ o : Obj, W.heap[r]? = some o ∧ o.isCells = false) : BoxT W' q t L :=
  (hg.block q (Array.getElem?_eq_some_iff.1 h).1 (fun e => by
    obtain ⟨o, ho, hc⟩ := hr q e.symm
    rw [show W.heap[q]? = _ from h] at ho
    injection ho with ho
    rw [← ho] at hc
    cases hc)).trans h
theorem BoxT.lw {bt : Nat} {A : Option Addr} {c : Nat} {l : List NodeP} {v' : Value} {W W' : World} {q : Nat} {t : TypeId} {L : List Value} (h : BoxT W q t L) (hl : LAt bt A c l W) (g : Lw bt (.slice A l.length c) v' W W') (ht : t ≠ 37) (ht2 : t ≠ 49) : BoxT W' q t L :=
  (g.block q (Array.getElem?_eq_some_iff.1 h).1 (fun e => by
    subst e
    have := hl.1
    unfold Boxed at this
    rw [show W.heap[q]? = _ from h] at this
    injection this with this
    injection this with _ this
    exact ht2 this) (fun e => by
    obtain ⟨raws, _, h2, _⟩ := hl.2
    rcases h2.2 with ⟨hv, _⟩ | ⟨g', cap, cur, hv, _, hh, _⟩
    · rw [hv] at e; cases e
    · rw [hv] at e
      injection e with e
      subst e
      rw [show W.heap[g']? = _ from h] at hh
      injection hh with hh
      injection hh with _ hh
      exact ht hh)).trans h
/-- A tree that came back. -/
def RetNds (l : List NodeP) (w : World) (e : Ending) (w' : World) : Prop := ∃ A c, e = .returned (.slice A l.length c) ∧ l.length ≤ c ∧ c ≤ maxLen ∧ Nds w' A l.length l ∧ Keep w w'
/-- Rules that are laid here: a dozen, small. -/
def okR12 (l : List RuleP) : Prop := l.length ≤ 12 ∧ ∀ r ∈ l, okL r.when_ ∧ atoms r.when_ ≤ 20000 ∧ dp r.when_ ≤ 5
set_option maxHeartbeats 8000000 in
theorem rules_any (A : Option Addr) (c : Nat) (l : List RuleP) (w : World) (hok : okR12 l) (hU : Rus w A l) :
    Calls Tryz.prog 9 #[.slice A l.length c] w (RetNds (Cp.rules l) w) := by
  have hl12 := hok.1
  obtain ⟨raws, hre, hrow, hrx⟩ := rus_rows hU
  have hrl : raws.length = l.length := by rw [← hre, List.length_map]
  have hes := fun (pre : List (Gx l.length)) => prOf_mem hre pre
  have hgood := Lib.hid hok.2
  have hlen := Lib.hid (fun (pre : List (Gx l.length)) => foldR_len (prOf raws pre) fun p hp => ⟨(hgood.out _ (hes pre p hp)).1, (hgood.out _ (hes pre p hp)).2.1⟩)
  obtain ⟨X0, hX0⟩ : ∃ X0, X0 = w.alloc (.cells #[.slice none 0 0] 49) := ⟨_, rfl⟩
  have k0 : Keep w X0 := by rw [hX0]; exact (Keep.refl w).alloc _
  have L0 : LAt w.heap.size none 0 [] X0 := ⟨by rw [hX0]; exact Boxed.new w _ _, NOwn.start _ _⟩
  have C0 := leaf_any (-1) w.heap.size none 0 [] X0 L0 (by simp)
  refine (callsIn_wide (n := 9)).1 ?_
  refine callsIn_of_wp_marks Tryz.func9 rfl trivial ?_ rfl
  simp only [Tryz.ntmps9, List.size_toArray, List.length_cons, List.length_nil, Nat.reduceAdd, Nat.reduceSub, Array.replicate_succ, Array.replicate_zero, List.push_toArray, List.append_toArray, List.nil_append, List.cons_append]
  gi_wp2_with fail
  rw [← hX0]
  refine ⟨trivial, ?_⟩
  refine (callsIn_wide.2 C0).mono ?_
  rintro e W1 ⟨A1, c1, rfl, h1, g1⟩
  have G1 := Lib.hid (Lw.after k0 g1)
  have H1 := Lib.hid h1
  clear hX0 C0 L0 g1 h1
  gi_wp2_with fail
  obtain ⟨X, hX⟩ : ∃ X, X = W1.alloc (.cells #[.int .i64 0] 3) := ⟨_, rfl⟩
  have hkX : Keep W1 X := by rw [hX]; exact (Keep.refl W1).alloc _
  have bq : Boxed X W1.heap.size 3 (.int .i64 0) := by rw [hX]; exact Boxed.new W1 _ _
  have HX1 := Lib.hid (show X.heap.size = W1.heap.size + 1 by rw [hX]; simp)
  refine ⟨trivial, ?_⟩
  refine (callsIn_wide.2 (backU_any A l.length c _)).mono ?_
  rintro e w2 ⟨rfl, rfl⟩
  rw [← hX]
  clear hX
  gi_wp2_with fail
  have hw1 := H1.out.1.lt
  have hW1s := G1.out.size
  have hw0 : w.heap.size ≠ W1.heap.size := by omega
  have bN := Boxed.new X 22 (.slice A l.length c)
  have kW1 : Keep w W1 := G1.out.below (Nat.le_refl _) (Nat.le_refl _) fun r hr => by cases hr
  have hkz : Keep w (X.alloc (.cells #[.slice A l.length c] 22)) := (kW1.trans hkX).alloc _
  refine wpIn_rangeFunc_ownH rfl (by omega) (gf := 33) (encs := encsU raws (n := l.length)) (lb := #[.pointer (some ⟨X.heap.size, 0, none⟩)]) rfl trivial (enters_of Tryz.func33 (by kernel_rfl) rfl)
    (backU_stops Fence.wide _ trivial rfl (by omega) X.heap.size A l.length c raws w hrow (by omega) _ bN hkz) KF.t (KF.b bN.lt (by have := HX1.out; simp; omega)) (Below.refl _ _) (fun _ => rfl)
    (fun pre W => ∃ A' c', LAt w.heap.size A' c' (foldR (prOf raws pre)).1 W ∧ Lw w.heap.size (.slice none 0 0) (.slice A' (foldR (prOf raws pre)).1.length c') w W ∧ Boxed W W1.heap.size 3 (.int .i64 (foldR (prOf raws pre)).2))
    (fun _ _ _ => False)
    (fun pre W W' row ⟨A', c', i1, i2, i3⟩ hg hr => ⟨A', c', lat_own i1 hg fun r e => (hr r e).2, i2.own hg fun r e => by have := (hr r e).1; have := HX1.out; simp at *; omega, boxed_own' i3 hg fun r e => (hr r e).2⟩)
    (fun c => ownFrom_pure _ _)
    ⟨A1, c1, H1.out.kept (hkX.alloc _), G1.out.keep (hkX.alloc _), bq.alloc _⟩
    (fun x a' W => ∃ q, a' = { tmps := #[.slice A l.length c, undef, .slice none 0 0, .pointer (some ⟨w.heap.size, 0, none⟩), .pointer (some ⟨W1.heap.size, 0, none⟩), .int .i64 (x.1 : Int), .pointer (some ⟨q, 0, none⟩), undef, .int .i64 0, .slice A l.length c, .func (.func 33) #[] #[.pointer (some ⟨X.heap.size, 0, none⟩)], .int .i64 (x.1 : Int), .agg #[.bool (raws.getD x.1 rawu0).r.allow, .int .i64 (kind (raws.getD x.1 rawu0).r.when_), .int .i64 (field (raws.getD x.1 rawu0).r.when_), .slice (raws.getD x.1 rawu0).RA (rs (raws.getD x.1 rawu0).r.when_).length (raws.getD x.1 rawu0).rc, .float .f64 (lo (raws.getD x.1 rawu0).r.when_), .float .f64 (hi (raws.getD x.1 rawu0).r.when_), .slice (raws.getD x.1 rawu0).OA (of (raws.getD x.1 rawu0).r.when_).length (raws.getD x.1 rawu0).oc, .int .i64 (raws.getD x.1 rawu0).r.num, .int .i64 (raws.getD x.1 rawu0).r.per, .int .i64 (raws.getD x.1 rawu0).r.burst, .int .i64 (raws.getD x.1 rawu0).r.line], undef, undef, undef, undef, undef, undef, undef, undef, undef], defers := [] } ∧ BoxT W q 46 (encU (raws.getD x.1 rawu0)))
    (fun x a' s W W' row ⟨q, e1, e2⟩ hg hr => ⟨q, e1, e2.own hg fun r e => (hr r e).2⟩) ?assign ?body ?done ?stop
  case assign =>
    rintro l' pre x W K ⟨A', c', i1, i2, i3⟩ hK
    have hsf := store_float Tryz.prog
    unfold encsU
    gi_wp2
    have kW := (Keep.refl W).alloc (.cells (encU (raws.getD x.1 rawu0)).toArray 46)
    exact hK _ _ ((KeepsOthers.alloc W _).from _) (fun hx => ⟨hx.1.alloc _, hx.2.alloc _⟩) ⟨A', c', i1.kept kW, i2.keep kW, i3.alloc _⟩ ⟨W.heap.size, rfl, BoxT.new _ _ _⟩
  case body =>
    rintro l' pre x a' W _ _ ⟨A', c', i1, i2, i3⟩ ⟨q, rfl, hq⟩ hlt
    have hmem := rawu_mem hrl x
    have hkW : Keep w W := i2.below (Nat.le_refl _) (Nat.le_refl _) fun r hr => by cases hr
    have hl5 := hlen.out pre
    have hel : (prOf raws pre).length = pre.length := by unfold prOf; rw [List.length_map]
    have hmo : (raws.getD x.1 rawu0).r ∈ raws.map (·.r) := List.mem_map.2 ⟨_, hmem, rfl⟩
    rw [hre] at hmo
    have hgr := hgood.out _ hmo
    have hC1 := leaf_any (x.1 : Int) w.heap.size A' c' _ W i1 (by rw [hel] at hl5; omega)
    have hT220 : (foldR (prOf raws pre)).1.length ≤ 220012 := by rw [hel] at hl5; omega
    have HST := Lib.hid (foldR_snoc (prOf raws pre) ((x.1 : Int), (raws.getD x.1 rawu0).r))
    have HES := Lib.hid (show prOf raws (pre ++ [x]) = prOf raws pre ++ [((x.1 : Int), (raws.getD x.1 rawu0).r)] by unfold prOf; rw [List.map_append]; rfl)
    have hEx := hrx _ hmem
    obtain ⟨T, hT⟩ : ∃ T, T = foldR (prOf raws pre) := ⟨_, rfl⟩
    obtain ⟨T2, hT2⟩ : ∃ T2, T2 = foldR (prOf raws (pre ++ [x])) := ⟨_, rfl⟩
    have HT2 := Lib.hid hT2
    have HTT := Lib.hid (show lay (T.1 ++ [leafP (x.1 : Int)]) (raws.getD x.1 rawu0).r.when_ T.1.length T.2 = T2 by rw [hT2, hT, HES.out, HST.out]; rfl)
    rw [← hT] at i1 i2 i3 hC1 hT220
    have ct := i3.cell
    have HQ := Lib.hid hq
    generalize raws.getD x.1 rawu0 = rx at *
    have hC2 := fun (A3 : Option Addr) (c3 : Nat) (W3 : World) (hk : Keep w W3) (h3 : LAt w.heap.size A3 c3 (T.1 ++ [leafP (x.1 : Int)]) W3) => m_any w w.heap.size (Nat.le_refl _) 5 rx.r.when_ rx.RA rx.OA rx.rc rx.oc T.1.length T.2 A3 c3 _ W3 hgr.2.2 hgr.1 hgr.2.1 hEx hk h3 (by
      rw [List.length_append, List.length_singleton]
      exact Nat.le_trans (Nat.add_le_add_right (Nat.add_le_add_right hT220 1) (5 * 120000)) (by decide))
    rw [HTT.out] at hC2
    unfold CallM at hC2
    clear hT hT2 hq hl5 hel HST HES hmo hmem hrx hrow hgr hEx hT220
    gi_wp2_with (first
      | (refine ⟨trivial, ?_⟩; gi_at_call 17; refine (CallsIn.inRound l' (callsIn_wide.2 hC1)).mono ?_; rintro e W3 ⟨A3, c3, rfl, h3, g3⟩; have b3 := (HQ.out.lw i1 g3 (by decide) (by decide)).bx; have g1 := b3.2 1 _ rfl; have g2 := b3.2 2 _ rfl; have g3' := b3.2 3 _ rfl; have g4 := b3.2 4 _ rfl; have g5 := b3.2 5 _ rfl; have g6 := b3.2 6 _ rfl; have j3 := boxed_lw i1 g3 i3 (by decide) (by omega); have c4 := j3.cell; have k3 : Keep w W3 := (i2.trans g3).below (Nat.le_refl _) (Nat.le_refl _) fun r hr => by cases hr)
      | (refine ⟨trivial, ?_⟩; gi_at_call 19; refine (CallsIn.inRound l' (callsIn_wide.2 (hC2 _ _ _ k3 h3))).mono ?_; rintro e W5 ⟨A5, c5, rfl, h5, g5'⟩; have j5 := boxed_lw h3 g5' j3 (by decide) (by omega); have c6 := j5.cell; have f6 := j5.frozen)
      | fail)
    have hT := HT2.out
    subst hT
    have hX1 := HX1.out
    have hlw := ((i2.trans g3).trans g5').set (q := W1.heap.size) (by omega) (.int .i64 (foldR (prOf raws (pre ++ [x]))).2)
    exact ⟨((lw_keeps i1 g3).trans (lw_keeps h3 g5')).trans ((KeepsOthers.setCell _ _ _).from _), fun hx => ⟨(boxed_lw h3 g5' (boxed_lw i1 g3 hx.1 (by decide) (by omega)) (by decide) (by omega)).other (by omega) _, hlw.below (Nat.le_refl _) (Nat.le_refl _) fun r hr => by cases hr⟩,
      ⟨A5, c5, lat_set h5 j5 (by decide) (by omega) _, hlw, j5.set _⟩⟩
  case done =>
    rintro D ys W hD hys ⟨A', c', i1, i2, i3⟩ hK
    have hall := prOf_all hre ys hys
    rw [hall, foldR_all] at i1 i2
    have ct := i1.1.cell
    have HDW := Lib.hid (show w.heap.size ≤ D by have := HX1.out; simp at hD; omega)
    have hD2 := lat_own i1 (grownBy_putObj' W D (.deferred none)) fun r e => by cases e; exact ⟨_, hK, rfl⟩
    have hE2 := i2.own (grownBy_putObj' W D (.deferred none)) fun r e => by cases e; exact HDW.out
    obtain ⟨_, _, e3, e4, e5⟩ := hD2.2.len
    injection e3 with ea eb ec
    subst ea ec
    have HFIN := Lib.hid (show RetNds (Cp.rules l) w (.returned (.slice A' (Cp.rulesF l 0).1.length c')) (W.putObj D (.deferred none)) from ⟨A', c', rfl, e4, e5, hD2.2.nds, hE2.below (Nat.le_refl _) (Nat.le_refl _) fun r hr => by cases hr⟩)
    clear hall hys hD hD2 hE2 e4 e5
    gi_wp2
    refine ⟨by simp, .inl ⟨_, _, rfl, run_takeDeferred hK, ?_⟩⟩
    refine ⟨.slice A' (Cp.rulesF l 0).1.length c', ?_, HFIN.out⟩
    simp [results, Tryz.f9, go_sem]
  case stop => rintro D c' pre W hD _ hf; exact hf.elim
end Go.Proofs.YtdkeibgfehblaaaGreatDoor.Cm
