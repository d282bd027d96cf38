/- Of these texts: NdA. Conditions: as each part says. -/
import Derived.Test.YtaciogcpghbhjaaGreatZTReU
import Derived.Test.YtaciogcpghbhjaaGreatZTTrI
import Derived.Test.YtaciogcpghbhjaaGreatZTRow2
import Derived.Test.YtaciogcpghbhjaaGreatZTLib
import Derived.Test.YtaciogcpghbhjaaGreatZTSpI
/- Several texts in one: Nd, Ne, Nr, Nr2, Nr3. Conditions: as each part says. -/
namespace Go.Proofs.YtaciogcpghbhjaaGreat.Nd
set_option linter.unusedVariables false
open Go.ChangeShapes Go.WideShapes Go.ChangeAt Go.RowKit
open Tr
structure RawN where
 n : NodeP
 RA : Option Addr
 rc : Nat
 OA : Option Addr
 oc : Nat
def encN (x : RawN) : List Value := [.bool x.n.leaf, .int .i64 x.n.rule, .int .i64 (kind x.n.atom), .int .i64 (field x.n.atom), .slice x.RA (rs x.n.atom).length x.rc, .float .f64 (lo x.n.atom), .float .f64 (hi x.n.atom), .slice x.OA (of x.n.atom).length x.oc, .int .i64 x.n.yes, .int .i64 x.n.no]
theorem encN_len (x : RawN) : (encN x).length = 10 := rfl
theorem encN_one (x : RawN) : ∀ v ∈ encN x, v.oneCell' = true := by
 intro v hv
 simp [encN] at hv
 rcases hv with rfl | rfl | rfl | rfl | rfl | rfl | rfl | rfl | rfl | rfl <;> rfl
theorem info_node : (Tryz.prog.info? 72).map (fun i => (i.zero, i.size, i.bytes)) = some (some (.agg #[.bool false, .int .i64 0, .int .i64 0, .int .i64 0, .slice none 0 0, .float .f64 0, .float .f64 0, .slice none 0 0, .int .i64 0, .int .i64 0]), 10, 112) := by kernel_rfl
def wfN (x : NodeP) : Prop := wf x.atom ∧ (Lit.int .i64 x.rule).wf = true ∧ (Lit.int .i64 x.yes).wf = true ∧ (Lit.int .i64 x.no).wf = true
def Nds (W : World) (A : Option Addr) (n : Nat) (l : List NodeP) : Prop :=
 ∃ raws : List RawN, raws.map RawN.n = l ∧ Row encN 10 W W.heap.size A n raws ∧ ∀ x ∈ raws, Ex W x.n.atom x.RA x.OA
theorem Nds.kept {W W' : World} {A : Option Addr} {n : Nat} {l : List NodeP} (h : Nds W A n l) (hk : Keep W W') : Nds W' A n l := by
 obtain ⟨raws, h1, h2, h3⟩ := h
 exact ⟨raws, h1, h2.kept hk, fun x hx => (h3 x hx).kept hk⟩
theorem Nds.len {W : World} {A : Option Addr} {n : Nat} {l : List NodeP} (h : Nds W A n l) : l.length = n := by
 obtain ⟨raws, rfl, h2, _⟩ := h
 rw [List.length_map]; exact h2.1
def NodesIn (W : World) (A : Option Addr) (n : Nat) (l : List NodeP) : Prop := Nds W A n l ∧ ∀ x ∈ l, wfN x
def zeroN : NodeP := ⟨false, 0, zero, 0, 0⟩
theorem Nds.elem {W : World} {b off n : Nat} {l : List NodeP} (h : Nds W (some ⟨b, off, none⟩) n l) (k : Nat) (hk : k < n) :
  b < W.heap.size ∧ ∃ RA OA rc oc, (∀ i v, (encN ⟨l.getD k zeroN, RA, rc, OA, oc⟩)[i]? = some v -> W.cell? ⟨b, off + k * 10 + i, none⟩ = some v) ∧ Ex W (l.getD k zeroN).atom RA OA := by
 obtain ⟨raws, rfl, h2, h3⟩ := h
 have hl := h2.1
 obtain ⟨hb, hc⟩ := h2.cells (by omega)
 have e1 : (raws.map RawN.n).getD k zeroN = raws[k].n := by
  rw [List.getD_eq_getElem?_getD, List.getElem?_eq_getElem (by rw [List.length_map]; omega), List.getElem_map]; rfl
 rw [e1]
 exact ⟨hb, raws[k].RA, raws[k].OA, raws[k].rc, raws[k].oc, fun i v hv => hc k (by omega) i v hv, h3 _ (List.getElem_mem _)⟩
theorem Nds.addr {W : World} {A : Option Addr} {n : Nat} {l : List NodeP} (h : Nds W A n l) (hn : 0 < n) : ∃ b off, A = some ⟨b, off, none⟩ ∧ b < W.heap.size := by
 obtain ⟨raws, _, h2, _⟩ := h
 exact h2.addr hn
end Go.Proofs.YtaciogcpghbhjaaGreat.Nd
namespace Go.Proofs.YtaciogcpghbhjaaGreat.Nd
set_option linter.unusedVariables false
open Go.ChangeShapes Go.WideShapes Go.ChangeAt Go.RowKit
open Tr
def erp (p : Nat -> Bool) (w : World) : World := { w with heap := w.heap.mapIdx fun i o => if p i = true then .cells #[] 3 else o }
theorem erp_size (p : Nat -> Bool) (w : World) : (erp p w).heap.size = w.heap.size := Array.size_mapIdx
theorem erp_get (p : Nat -> Bool) (w : World) (k : Nat) : (erp p w).heap[k]? = (w.heap[k]?).map fun o => if p k = true then .cells #[] 3 else o := Array.getElem?_mapIdx
theorem erp_no {p : Nat -> Bool} {k : Nat} (w : World) (h : p k = false) : (erp p w).heap[k]? = w.heap[k]? := by
 rw [erp_get]
 cases w.heap[k]? with
 | none => rfl
 | some o => simp [h]
theorem erp_cell_no {p : Nat -> Bool} (w : World) {a : Addr} (h : p a.block = false) : (erp p w).cell? a = w.cell? a := World.cell?_of_block (erp_no w h)
theorem erp_cell {p : Nat -> Bool} {w : World} {a : Addr} {v : Value} (h : (erp p w).cell? a = some v) : p a.block = false ∧ w.cell? a = some v := by
 cases hb : p a.block with
 | false => exact ⟨rfl, (erp_cell_no w hb).symm.trans h⟩
 | true =>
   unfold World.cell? at h
   rw [erp_get] at h
   cases hw : w.heap[a.block]? with
   | none => rw [hw] at h; cases h
   | some o =>
     rw [hw] at h
     simp only [Option.map_some, if_pos hb] at h
     split at h <;> simp at h
theorem lt_of_cell {w : World} {p : Addr} {v : Value} (h : w.cell? p = some v) : p.block < w.heap.size := by
 rcases Nat.lt_or_ge p.block w.heap.size with hlt | hge
 ·exact hlt
 ·unfold World.cell? at h
  rw [Array.getElem?_eq_none hge] at h
  cases h
def Sub (W W' : World) : Prop := W.heap.size <= W'.heap.size ∧ ∀ p v, W.cell? p = some v -> W'.cell? p = some v
theorem Sub.refl (W : World) : Sub W W := ⟨Nat.le_refl _, fun _ _ h => h⟩
theorem Sub.trans {A B C : World} (h : Sub A B) (k : Sub B C) : Sub A C := ⟨Nat.le_trans h.1 k.1, fun p v e => k.2 p v (h.2 p v e)⟩
theorem sub_mk {p q : Nat -> Bool} {w w' : World} (hs : w.heap.size <= w'.heap.size) (h : ∀ i, i < w.heap.size -> p i = false -> q i = false ∧ w'.heap[i]? = w.heap[i]?) : Sub (erp p w) (erp q w') := by
 refine ⟨by rw [erp_size, erp_size]; exact hs, fun a v e => ?_⟩
 obtain ⟨h1, h2⟩ := erp_cell e
 obtain ⟨h3, h4⟩ := h a.block (lt_of_cell h2) h1
 rw [erp_cell_no w' h3, World.cell?_of_block h4]
 exact h2
theorem sub_out (p : Nat -> Bool) (w : World) : Sub (erp p w) w := ⟨by rw [erp_size]; exact Nat.le_refl _, fun a v e => (erp_cell e).2⟩
theorem row_sub {α : Type} {enc : α -> List Value} {k : Nat} {W W' : World} {A : Option Addr} {n : Nat} {zs : List α} (h : Row enc k W W.heap.size A n zs) (hs : Sub W W') : Row enc k W' W'.heap.size A n zs :=
 ⟨h.1, fun hn => by
  obtain ⟨b, off, e, hb, hc⟩ := h.2 hn
  exact ⟨b, off, e, Nat.lt_of_lt_of_le hb hs.1, fun j hj i v hv => hs.2 _ _ (hc j hj i v hv)⟩⟩
def Flat (W : World) (e : ExprP) (RA : Option Addr) : Prop := of e = [] ∧ Row encP 2 W W.heap.size RA (rs e).length (rs e)
theorem Flat.sub {W W' : World} {e : ExprP} {RA : Option Addr} (h : Flat W e RA) (hs : Sub W W') : Flat W' e RA := ⟨h.1, row_sub h.2 hs⟩
theorem Flat.ex {W : World} {e : ExprP} {RA : Option Addr} (h : Flat W e RA) (OA : Option Addr) : Ex W e RA OA := ⟨h.2, fun hn => by rw [h.1] at hn; exact absurd hn (Nat.lt_irrefl 0)⟩
def pw (B : Nat) (v : Value) (i : Nat) : Bool := decide (i < B) || (v.ownBlock == some i)
theorem pw_out {B : Nat} {v : Value} {i : Nat} (h : pw B v i = false) : B <= i ∧ v.ownBlock ≠ some i := by
 unfold pw at h
 rw [Bool.or_eq_false_iff, decide_eq_false_iff_not, beq_eq_false_iff_ne] at h
 exact ⟨by omega, h.2⟩
theorem pw_mk {B : Nat} {v : Value} {i : Nat} (h : B <= i) (h2 : v.ownBlock ≠ some i) : pw B v i = false := by
 unfold pw
 rw [Bool.or_eq_false_iff, decide_eq_false_iff_not, beq_eq_false_iff_ne]
 exact ⟨by omega, h2⟩
def NOwn (B : Nat) (v : Value) (l : List NodeP) (w : World) : Prop :=
 ∃ raws : List RawN, raws.map RawN.n = l ∧ w.ownsRow B 72 10 v raws.length (flat encN raws) ∧ ∀ x ∈ raws, Flat (erp (pw B v) w) x.n.atom x.RA
theorem NOwn.len {B : Nat} {v : Value} {l : List NodeP} {w : World} (h : NOwn B v l w) : ∃ A c, v = .slice A l.length c ∧ l.length <= c ∧ c <= maxLen := by
 obtain ⟨raws, rfl, ho, _⟩ := h
 obtain ⟨A, c, e⟩ := own_slice ho
 rw [e] at ho
 exact ⟨A, c, by rw [List.length_map]; exact e, by rw [List.length_map]; exact own_le ho⟩
theorem NOwn.start (B : Nat) (w : World) : NOwn B (.slice none 0 0) [] w := ⟨[], rfl, World.ownsRow_nil _ _ _ _, fun x hx => by cases hx⟩
theorem NOwn.kept {B : Nat} {v : Value} {l : List NodeP} {w w' : World} (h : NOwn B v l w) (hk : Keep w w') : NOwn B v l w' := by
 obtain ⟨raws, h1, h2, h3⟩ := h
 exact ⟨raws, h1, own_keep h2 hk, fun x hx => (h3 x hx).sub (sub_mk hk.size fun i hi hp => ⟨hp, hk.block i hi⟩)⟩
theorem NOwn.nds {B : Nat} {A : Option Addr} {n c : Nat} {l : List NodeP} {w : World} (h : NOwn B (.slice A n c) l w) : Nds w A l.length l := by
 obtain ⟨raws, rfl, h2, h3⟩ := h
 obtain ⟨A', c', e⟩ := own_slice h2
 injection e with e1 e2 e3
 subst e1 e2 e3
 rw [List.length_map]
 exact ⟨raws, rfl, Row.of_own encN_len h2 (by omega), fun x hx => ((h3 x hx).sub (sub_out _ _)).ex _⟩
theorem NOwn.low {B : Nat} {v : Value} {l : List NodeP} {w : World} (h : NOwn B v l w) : ∀ r, v.ownBlock = some r -> B <= r ∧ r < w.heap.size := by
 obtain ⟨raws, h1, h2, h3⟩ := h
 exact fun r hr => h2.lt r hr
theorem NOwn.app {B : Nat} {v v' : Value} {w w' : World} {o : Obj} {raws : List RawN} {x : RawN} (h3 : ∀ y ∈ raws, Flat (erp (pw B v) w) y.n.atom y.RA) (hx : Flat (erp (pw B v) w) x.n.atom x.RA)
  (hown : w'.ownsRow B 72 10 v' (raws.length + 1) (flat encN (raws ++ [x]))) (hg : (w.alloc o).grownBy w' v.ownBlock) (b : Nat) (hb : w.heap.size <= b) (ho : v'.ownBlock = v.ownBlock ∨ v'.ownBlock = some b) :
  NOwn B v' (raws.map RawN.n ++ [x.n]) w' := by
 have hs : Sub (erp (pw B v) w) (erp (pw B v') w') := sub_mk (Nat.le_trans (by simp) hg.size) fun i hi h => by
  obtain ⟨h1, h2⟩ := pw_out h
  refine ⟨pw_mk h1 ?_, (hg.block i (by simp; omega) (fun e => h2 e.symm)).trans (Below.heap_alloc w o i hi)⟩
  rcases ho with e | e
  ·rw [e]; exact h2
  ·rw [e]; intro e2; injection e2 with e2; omega
 refine ⟨raws ++ [x], by rw [List.map_append]; rfl, by rw [List.length_append]; exact hown, fun y hy => ?_⟩
 rcases List.mem_append.1 hy with hy | hy
 ·exact (h3 y hy).sub hs
 ·rw [List.mem_singleton] at hy; subst hy; exact hx.sub hs
theorem flat_fresh {B : Nat} {v : Value} {l : List NodeP} {w w' : World} {e : ExprP} {RA : Option Addr} (h : NOwn B v l w) (hb : B <= w.heap.size) (he : of e = []) (hr : Row encP 2 w' w'.heap.size RA (rs e).length (rs e)) (hf : FreshR w RA (rs e).length) : Flat (erp (pw B v) w') e RA := by
 refine ⟨he, hr.1, fun hn => ?_⟩
 obtain ⟨b, off, rfl, hbb, hc⟩ := hr.2 hn
 have hfb := hf hn _ rfl
 have hp : pw B v b = false := pw_mk (by have : w.heap.size <= b := hfb; omega) (fun e => by have := (h.low b e).2; have : w.heap.size <= b := hfb; omega)
 exact ⟨b, off, rfl, by rw [erp_size]; exact hbb, fun j hj i v hv => by rw [erp_cell_no w' hp]; exact hc j hj i v hv⟩
theorem flat_none {W : World} {e : ExprP} {RA : Option Addr} (he : of e = []) (hr : rs e = []) : Flat W e RA := ⟨he, by rw [hr]; exact Row.none_ _ _ _⟩
structure Gb (v v' : Value) (w w' : World) : Prop where
 g : w.grownBy w' v.ownBlock
 row : ∀ r, v'.ownBlock = some r -> v.ownBlock = some r ∨ w.heap.size <= r
theorem Gb.of {v : Value} {w w' : World} (h : Keep w w') : Gb v v w w' := ⟨⟨h.os, h.tape, h.output, h.size, fun k hk _ => h.block k hk⟩, fun r hr => .inl hr⟩
theorem Gb.refl (v : Value) (w : World) : Gb v v w w := .of (Keep.refl w)
theorem Gb.size {v v' : Value} {w w' : World} (h : Gb v v' w w') : w.heap.size <= w'.heap.size := h.g.size
theorem Gb.trans {a b c : Value} {u v w : World} (h : Gb a b u v) (k : Gb b c v w) : Gb a c u w :=
 ⟨⟨k.g.os.trans h.g.os, k.g.tape.trans h.g.tape, k.g.output.trans h.g.output, Nat.le_trans h.size k.size, fun i hi hn => (k.g.block i (Nat.lt_of_lt_of_le hi h.size) (fun e => by
  rcases h.row i e.symm with e2 | e2
  ·exact hn e2.symm
  ·omega)).trans (h.g.block i hi hn)⟩, fun r hr => by
  rcases k.row r hr with e | e
  ·exact h.row r e
  ·exact .inr (Nat.le_trans h.size e)⟩
theorem Gb.after {a b : Value} {u v w : World} (k : Keep u v) (h : Gb a b v w) : Gb a b u w := (Gb.of k).trans h
theorem Gb.below {B : Nat} {v v' : Value} {w w' : World} (h : Gb v v' w w') (hB : B <= w.heap.size) (hl : ∀ r, v.ownBlock = some r -> B <= r) : Below B w w' := (Below.refl B w).grown h.g hB hl
def Fb (v : Value) (w : World) (q : Nat) (L : List Value) : Prop := Bx w q L ∧ v.ownBlock ≠ some q
theorem Fb.gb {v v' : Value} {w w' : World} {q : Nat} {L : List Value} (h : Fb v w q L) (g : Gb v v' w w') : Fb v' w' q L :=
 ⟨⟨Nat.lt_of_lt_of_le h.1.1 g.size, fun j u hj => (World.cell?_of_block (g.g.block q h.1.1 (fun e => h.2 e.symm))).trans (h.1.2 j u hj)⟩, fun e => by
  rcases g.row q e with e2 | e2
  ·exact h.2 e2
  ·have := h.1.1; omega⟩
theorem Fb.new {B : Nat} {v : Value} {l : List NodeP} {w : World} (h : NOwn B v l w) (L : List Value) (t : TypeId) : Fb v (w.alloc (.cells L.toArray t)) w.heap.size L := ⟨Bx.newq rfl, fun e => by have := (h.low _ e).2; omega⟩
section
variable {P : Program} {α : Type} {enc : α -> List Value} {k : Nat}
theorem append_rows_o {ops : Array Oper} {rest : List Oper} {o : Oper} {a : Act} {Q : Exit -> Act -> World -> Prop} {w : World} (hgd : o.guard = none) (s x : Operand) (t : TypeId)
  (ho : o.op = .call { callee := .builtin .append, args := #[s, x], argTypes := #[t, t] })
  (base : Nat) (e : TypeId) (z : Value) (bytes : Nat) (ht : P.underlying t = some (.slice e)) (hinfo : (P.info? e).map (fun i => (i.zero, i.size, i.bytes)) = some (some z, k, bytes))
  (hzs : z.cells.size = k) (h0 : 0 < k) (hk : ∀ x, (enc x).length = k) (h1 : ∀ x, ∀ v ∈ enc x, v.oneCell' = true)
  (v : Value) (n : Nat) (xs : List α) (hs : a.eval s = v) (hown : w.ownsRow base e k v n (flat enc xs)) (hbase : base <= w.heap.size)
  (B : Nat) (A : Option Addr) (m c : Nat) (ys : List α) (hx : a.eval x = .slice A m c) (hA : Row enc k w B A m ys)
  (h63 : n + m <= maxLen) (hbytes : (n + m) * bytes <= 140737488355328)
  (h : ∀ v' w', w'.ownsRow base e k v' (n + m) (flat enc (xs ++ ys)) -> (v'.ownBlock = v.ownBlock ∨ v'.ownBlock = some w.heap.size) -> w.grownBy w' v.ownBlock -> wpList P ops Q rest (a.put o.dst v') w') : wpList P ops Q (o :: rest) a w :=
 wpList_plain hgd fun K hK =>
  wp_append_rows s x t ho base e z bytes ht hinfo hzs h0 hk h1 v n xs hs hown hbase B A m c ys hx hA h63 hbytes fun v' w' a b d => hK _ _ (h v' w' a d b)
end
end Go.Proofs.YtaciogcpghbhjaaGreat.Nd
namespace Go.Proofs.YtaciogcpghbhjaaGreat.Nd
set_option linter.unusedVariables false
open Go.ChangeShapes Go.WideShapes Go.ChangeAt Go.RowKit
open Tr
def RetLay (B : Nat) (v : Value) (x : List NodeP × Int) (w : World) (e : Ending) (w' : World) : Prop :=
 ∃ A c, e = .returned (.tuple #[.slice A x.1.length c, .int .i64 x.2]) ∧ NOwn B (.slice A x.1.length c) x.1 w' ∧ Gb v (.slice A x.1.length c) w w'
set_option maxHeartbeats 1000000 in
theorem put_any (x : NodeP) (RA OA : Option Addr) (rc oc : Nat) (B : Nat) (v : Value) (l : List NodeP) (w : World) (hB : B <= w.heap.size) (h : NOwn B v l w) (hx : Flat (erp (pw B v) w) x.atom RA) (hl : l.length <= 1000000) :
  Calls Tryz.prog 27 #[v, .agg #[.bool x.leaf, .int .i64 x.rule, .int .i64 (kind x.atom), .int .i64 (field x.atom), .slice RA (rs x.atom).length rc, .float .f64 (lo x.atom), .float .f64 (hi x.atom), .slice OA (of x.atom).length oc, .int .i64 x.yes, .int .i64 x.no]] w
   (RetLay B v (l ++ [x], (l.length : Int)) w) := by
 obtain ⟨X, hX⟩ : ∃ X, X = w.alloc (.cells #[.bool x.leaf, .int .i64 x.rule, .int .i64 (kind x.atom), .int .i64 (field x.atom), .slice RA (rs x.atom).length rc, .float .f64 (lo x.atom), .float .f64 (hi x.atom), .slice OA (of x.atom).length oc, .int .i64 x.yes, .int .i64 x.no] 72) := ⟨_, rfl⟩
 have hkX : Keep w X := by rw [hX]; exact (Keep.refl w).alloc _
 have hnX := h.kept hkX
 have hxX : Flat (erp (pw B v) X) x.atom RA := hx.sub (sub_mk hkX.size fun i hi hp => ⟨hp, hkX.block i hi⟩)
 obtain ⟨raws, hraw, hown, hfl⟩ := hnX
 obtain ⟨A, c, rfl⟩ := own_slice hown
 have hll : raws.length = l.length := by rw [<- hraw, List.length_map]
 have hrl : raws.length <= 1000000 := by omega
 have HLL := Lib.hid hll
 clear hll hl
 have hX1 : X.heap.size = w.heap.size + 1 := by rw [hX]; simp
 obtain ⟨O, hO⟩ : ∃ O : Obj, O = .cells #[.bool x.leaf, .int .i64 x.rule, .int .i64 (kind x.atom), .int .i64 (field x.atom), .slice RA (rs x.atom).length rc, .float .f64 (lo x.atom), .float .f64 (hi x.atom), .slice OA (of x.atom).length oc, .int .i64 x.yes, .int .i64 x.no] 72 := ⟨_, rfl⟩
 have hrow : Row encN 10 (X.alloc O) (X.heap.size + 1) (some ⟨X.heap.size, 0, none⟩) 1 [⟨x, RA, rc, OA, oc⟩] := by rw [hO]; exact Row.new encN_len X 72 [⟨x, RA, rc, OA, oc⟩] _ rfl
 have hown2 := hown.alloc O
 have HF := Lib.hid hfl
 have HR := Lib.hid hraw
 have HX := Lib.hid hxX
 have HK := Lib.hid hkX
 have HLO := Lib.hid hown.lt
 clear hfl hraw hxX h hx hown hkX
 rw [hX1] at hrow
 have HX1 := Lib.hid hX1
 clear hX1
 subst hO hX
 go_enter Tryz.func27, Tryz.ntmps27
 go_wp2_with (at_builtin; refine append_rows_o rfl _ _ 31 rfl B 72 _ 112 Tryz.underlying31 info_node rfl (by omega) encN_len encN_one _ raws.length raws rfl hown2 (by simp; omega) _ (some ⟨w.heap.size + 1, 0, none⟩) 1 1 [⟨x, RA, rc, OA, oc⟩] rfl hrow (by unfold maxLen; omega) (by omega) ?_)
 rintro v6 w6 hown7 hob hgr
 obtain ⟨A6, c6, rfl⟩ := own_slice hown7
 have HN := Lib.hid (NOwn.app HF.out HX.out hown7 hgr (w.heap.size + 1 + 1) (by rw [HX1.out]; omega) hob)
 have HG := Lib.hid (show Gb (.slice A raws.length c) (.slice A6 (raws.length + 1) c6) w w6 from Gb.after (HK.out.alloc _) ⟨hgr, fun r hr => by
  rcases hob with e | e
  ·exact .inl (e.symm.trans hr)
  ·rw [e] at hr; injection hr with hr; right; have := HX1.out; simp; omega⟩)
 clear hob hgr hown7
 go_wp2
 go_ret2
 have e1 : (l ++ [x]).length = raws.length + 1 := by rw [List.length_append, HLL.out]; rfl
 have HN := HN.out
 rw [HR.out] at HN
 refine ⟨A6, c6, by rw [e1, <- HLL.out]; rfl, by rw [e1]; exact HN, by rw [e1]; exact HG.out⟩
end Go.Proofs.YtaciogcpghbhjaaGreat.Nd
namespace Go.Proofs.YtaciogcpghbhjaaGreat.Nd
set_option linter.unusedVariables false
open Go.ChangeShapes Go.WideShapes Go.ChangeAt Go.RowKit
open Tr
open Cp (testP lay layN layA layO)
mutual
def roomy : ExprP -> Prop
 | .mk k f r l h o => (r.length <= 5000 ∧ o.length <= 5000) ∧ roomyL o
def roomyL : List ExprP -> Prop
 | [] => True
 | e :: l => roomy e ∧ roomyL l
end
theorem roomyL_mem : ∀ {l : List ExprP}, roomyL l -> ∀ e ∈ l, roomy e
 | [], _, e, he => by cases he
 | a :: l, h, e, he => by
   rw [roomyL] at h
   rcases List.mem_cons.1 he with rfl | he
   ·exact h.1
   ·exact roomyL_mem h.2 e he
theorem roomyL_mk : ∀ {l : List ExprP}, (∀ e ∈ l, roomy e) -> roomyL l
 | [], _ => by rw [roomyL]; trivial
 | a :: l, h => by
   rw [roomyL]
   exact ⟨h a (List.mem_cons_self ..), roomyL_mk fun e he => h e (List.mem_cons_of_mem _ he)⟩
theorem roomy_of : ∀ (N : Nat) (e : ExprP) (d : Int), dp e <= N -> small e d = true -> roomy e := by
 intro N
 induction N with
 | zero => intro e d h; exact absurd (dp_pos e) (by omega)
 | succ N ih =>
   intro e d hN hs
   have hsub := fun x (hx : x ∈ of e) => dp_of hx
   obtain ⟨k, f, r, l, h, o⟩ := e
   simp only [of] at hsub
   rw [small, smallL_all] at hs
   simp only [Bool.and_eq_true, decide_eq_true_eq, List.all_eq_true] at hs
   rw [roomy]
   exact ⟨⟨by omega, by omega⟩, roomyL_mk fun x hx => ih x (d - 1) (by have := hsub x hx; omega) (hs.2.2.2 x hx)⟩
theorem roomy_small {e : ExprP} {d : Int} (h : small e d = true) : roomy e := roomy_of _ e d (Nat.le_refl _) h
theorem roomy_fits : ∀ (N : Nat) (e : ExprP), dp e <= N -> wf e -> roomy e -> fits e := by
 intro N
 induction N with
 | zero => intro e h; exact absurd (dp_pos e) (by omega)
 | succ N ih =>
   intro e hN hw hs
   have hsub := fun x (hx : x ∈ of e) => dp_of hx
   have hwo := hw.of
   obtain ⟨k, f, r, l, h, o⟩ := e
   simp only [of] at hsub hwo
   rw [roomy] at hs
   rw [wf] at hw
   obtain ⟨_, _, ⟨wl, wh⟩, _, _⟩ := hw
   rw [fits]
   exact ⟨⟨by omega, by omega⟩, ⟨by simpa [Lit.wf] using wl, by simpa [Lit.wf] using wh⟩, fitsL_mk fun x hx => ih x (by have := hsub x hx; omega) (hwo x hx) (roomyL_mem hs.2 x hx)⟩
theorem small_atoms : ∀ (N : Nat) (e : ExprP) (d : Int), dp e <= N -> small e d = true -> atoms e <= 6 ^ (d + 1).toNat := by
 intro N
 induction N with
 | zero => intro e d h; exact absurd (dp_pos e) (by omega)
 | succ N ih =>
   intro e d hN hs
   have hsub := fun x (hx : x ∈ of e) => dp_of hx
   obtain ⟨k, f, r, l, h, o⟩ := e
   simp only [of] at hsub
   rw [small, smallL_all] at hs
   simp only [Bool.and_eq_true, decide_eq_true_eq, List.all_eq_true] at hs
   obtain ⟨h0, h1, h2, h3⟩ := hs
   have each := fun x hx => ih x (d - 1) (by have := hsub x hx; omega) (h3 x hx)
   have ha : ∀ (M : Nat) (q : List ExprP), (∀ x ∈ q, atoms x <= M) -> atomsL q <= q.length * M := by
    intro M q
    induction q with
    | nil => intro _; rw [atomsL]; omega
    | cons a q iq =>
      intro hq
      have h1 := hq a (List.mem_cons_self ..)
      have h2 := iq fun x hx => hq x (List.mem_cons_of_mem _ hx)
      rw [atomsL, List.length_cons, Nat.add_mul, Nat.one_mul]; omega
   have h4 := ha (6 ^ d.toNat) o fun x hx => by
    have := each x hx
    rwa [show (d - 1 + 1).toNat = d.toNat by congr 1; omega] at this
   have h5 : 0 < 6 ^ d.toNat := Nat.pow_pos (by omega)
   have h6 : o.length * 6 ^ d.toNat <= 6 * 6 ^ d.toNat := Nat.mul_le_mul_right _ h1
   rw [show (d + 1).toNat = d.toNat + 1 by omega, Nat.pow_succ, atoms]
   split
   ·omega
   ·split <;> omega
theorem small_atoms4 {e : ExprP} (h : small e 4 = true) : atoms e <= 15000 := Nat.le_trans (small_atoms _ e 4 (Nat.le_refl _) h) (by decide)
def okL (e : ExprP) : Prop := wf e ∧ roomy e ∧ right e = true
theorem okL.sub {k f : Int} {r : List (Int × Int)} {l h : Nat} {o : List ExprP} (hk : okL (.mk k f r l h o)) (k1 : k ≠ 1) : ∀ x ∈ o, okL x := fun x hx => by
 obtain ⟨h1, h2, h3⟩ := hk
 rw [roomy] at h2
 rw [right, if_neg k1, rightL_all] at h3
 simp only [Bool.and_eq_true, List.all_eq_true] at h3
 exact ⟨h1.of x hx, roomyL_mem h2.2 x hx, (h3.2.2 x hx).2⟩
theorem okL.few {k f : Int} {r : List (Int × Int)} {l h : Nat} {o : List ExprP} (hk : okL (.mk k f r l h o)) : r.length <= 5000 ∧ o.length <= 5000 := by
 obtain ⟨h1, h2, h3⟩ := hk
 rw [roomy] at h2
 exact h2.1
theorem okL.fit {k f : Int} {r : List (Int × Int)} {l h : Nat} {o : List ExprP} (hk : okL (.mk k f r l h o)) : ∀ p ∈ r, Span.Fit p := fun p hp => by
 have h1 := hk.1
 rw [wf] at h1
 have h2 := h1.2.1 p hp
 simp only [Lit.wf, Bool.and_eq_true, decide_eq_true_eq] at h2
 have a1 : IntKind.i64.min = -9223372036854775808 := by decide
 have a2 : IntKind.i64.max = 9223372036854775807 := by decide
 rw [a1, a2] at h2
 unfold Span.Fit
 omega
theorem okL.atom {f : Int} {r : List (Int × Int)} {l h : Nat} {o : List ExprP} (hk : okL (.mk 1 f r l h o)) : o = [] := by
 have h3 := hk.2.2
 rw [right, if_pos rfl, atomR] at h3
 simp only [Bool.and_eq_true, beq_iff_eq] at h3
 exact List.eq_nil_of_length_eq_zero h3.1
theorem okL.many {k f : Int} {r : List (Int × Int)} {l h : Nat} {o : List ExprP} (hk : okL (.mk k f r l h o)) (k1 : k ≠ 1) : (k = 0 ∧ o = []) ∨ (k = 2 ∧ ∃ x, o = [x]) ∨ ((k = 3 ∨ k = 4) ∧ 2 <= o.length) := by
 have h3 := hk.2.2
 rw [right, if_neg k1, manyR] at h3
 simp only [Bool.and_eq_true] at h3
 have h4 := h3.2.1
 split at h4
 ·rename_i h0
  rw [beq_iff_eq] at h4
  exact .inl ⟨h0, List.eq_nil_of_length_eq_zero h4⟩
 split at h4
 ·rename_i h0
  rw [beq_iff_eq] at h4
  match o, h4 with
  | [x], _ => exact .inr (.inl ⟨h0, x, rfl⟩)
 split at h4
 ·rename_i h0
  exact .inr (.inr ⟨h0, by simpa using h4⟩)
 ·cases h4
theorem lay_1 (t : List NodeP) {k f : Int} (k1 : k = 1) (r : List (Int × Int)) (l h : Nat) (o : List ExprP) (y n : Int) : lay t (.mk k f r l h o) y n = (t ++ [testP f r l h y n], (t.length : Int)) := by rw [lay, if_pos k1]
theorem lay_2 (t : List NodeP) (f : Int) (r : List (Int × Int)) (l h : Nat) (x : ExprP) (y n : Int) : lay t (.mk 2 f r l h [x]) y n = lay t x n y := by rw [lay, if_neg (by decide), if_pos rfl, layN]
theorem lay_3 (t : List NodeP) (f : Int) (r : List (Int × Int)) (l h : Nat) (o : List ExprP) (y n : Int) : lay t (.mk 3 f r l h o) y n = layA t o y n := by rw [lay, if_neg (by decide), if_neg (by decide), if_pos rfl]
theorem lay_4 (t : List NodeP) (f : Int) (r : List (Int × Int)) (l h : Nat) (o : List ExprP) (y n : Int) : lay t (.mk 4 f r l h o) y n = layO t o y n := by rw [lay, if_neg (by decide), if_neg (by decide), if_neg (by decide), if_pos rfl]
theorem drop_cons {o : List ExprP} {j : Nat} (h : j < o.length) : o.drop j = o.getD j zero :: o.drop (j + 1) := by
 rw [List.drop_eq_getElem_cons h, List.getD_eq_getElem?_getD, List.getElem?_eq_getElem h]; rfl
theorem layA_step (t : List NodeP) {o : List ExprP} {j : Nat} (h : j < o.length) (y n : Int) : layA t (o.drop j) y n = lay (layA t (o.drop (j + 1)) y n).1 (o.getD j zero) (layA t (o.drop (j + 1)) y n).2 n := by rw [drop_cons h, layA]
theorem layO_step (t : List NodeP) {o : List ExprP} {j : Nat} (h : j < o.length) (y n : Int) : layO t (o.drop j) y n = lay (layO t (o.drop (j + 1)) y n).1 (o.getD j zero) y (layO t (o.drop (j + 1)) y n).2 := by rw [drop_cons h, layO]
theorem lay_len : ∀ (N : Nat) (e : ExprP) (t : List NodeP) (y n : Int), dp e <= N -> okL e -> (lay t e y n).1.length = t.length + atoms e := by
 intro N
 induction N with
 | zero => intro e t y n hN; exact absurd (dp_pos e) (by omega)
 | succ N ih =>
   intro e t y n hN hok
   have hsub := fun x (hx : x ∈ of e) => dp_of hx
   obtain ⟨k, f, r, l, h, o⟩ := e
   simp only [of] at hsub
   by_cases k1 : k = 1
   ·rw [lay_1 t k1, atoms, if_pos k1]; simp
   have hs := hok.sub k1
   have hA : ∀ (p : List ExprP) (t : List NodeP) (y n : Int), (∀ x ∈ p, x ∈ o) -> (layA t p y n).1.length = t.length + atomsL p := by
    intro p
    induction p with
    | nil => intro t y n _; simp [layA, atomsL]
    | cons a p il =>
      intro t y n hm
      rw [layA, atomsL, ih a _ _ _ (by have := hsub a (hm a (List.mem_cons_self ..)); omega) (hs a (hm a (List.mem_cons_self ..))), il t y n fun x hx => hm x (List.mem_cons_of_mem _ hx)]
      omega
   have hO : ∀ (p : List ExprP) (t : List NodeP) (y n : Int), (∀ x ∈ p, x ∈ o) -> (layO t p y n).1.length = t.length + atomsL p := by
    intro p
    induction p with
    | nil => intro t y n _; simp [layO, atomsL]
    | cons a p il =>
      intro t y n hm
      rw [layO, atomsL, ih a _ _ _ (by have := hsub a (hm a (List.mem_cons_self ..)); omega) (hs a (hm a (List.mem_cons_self ..))), il t y n fun x hx => hm x (List.mem_cons_of_mem _ hx)]
      omega
   rcases hok.many k1 with ⟨rfl, rfl⟩ | ⟨rfl, x, rfl⟩ | ⟨rfl | rfl, _⟩
   ·simp [lay, atoms, inner]
   ·rw [lay_2, ih x _ _ _ (by have := hsub x (by simp); omega) (hs x (by simp))]
    simp [atoms, atomsL, inner]
   ·rw [lay_3, hA o t y n fun _ h => h]
    simp [atoms, inner]
   ·rw [lay_4, hO o t y n fun _ h => h]
    simp [atoms, inner]
theorem atomsL_drop (o : List ExprP) (j : Nat) : atomsL (o.drop j) <= atomsL o := by
 have h : ∀ (a b : List ExprP), atomsL (a ++ b) = atomsL a + atomsL b := by
  intro a b
  induction a with
  | nil => simp [atomsL]
  | cons x a ih => rw [List.cons_append, atomsL, atomsL, ih]; omega
 have := h (o.take j) (o.drop j)
 rw [List.take_append_drop] at this
 omega
theorem layA_len (t : List NodeP) (o : List ExprP) (y n : Int) (h : ∀ x ∈ o, okL x) : (layA t o y n).1.length = t.length + atomsL o := by
 induction o with
 | nil => simp [layA, atomsL]
 | cons a p il =>
   rw [layA, atomsL, lay_len _ a _ _ _ (Nat.le_refl _) (h a (List.mem_cons_self ..)), il fun x hx => h x (List.mem_cons_of_mem _ hx)]
   omega
theorem layO_len (t : List NodeP) (o : List ExprP) (y n : Int) (h : ∀ x ∈ o, okL x) : (layO t o y n).1.length = t.length + atomsL o := by
 induction o with
 | nil => simp [layO, atomsL]
 | cons a p il =>
   rw [layO, atomsL, lay_len _ a _ _ _ (Nat.le_refl _) (h a (List.mem_cons_self ..)), il fun x hx => h x (List.mem_cons_of_mem _ hx)]
   omega
theorem row_set {w : World} {A : Option Addr} {n q i : Nat} {zs : List (Int × Int)} {X : World} (h : Row encP 2 w w.heap.size A n zs) (hf : FreshR X A n) (hq : q < X.heap.size) (v : Value) : Row encP 2 (w.setCell ⟨q, i, none⟩ v) (w.setCell ⟨q, i, none⟩ v).heap.size A n zs := by
 refine ⟨h.1, fun hn => ?_⟩
 obtain ⟨b, off, rfl, hb, hc⟩ := h.2 hn
 have hfb : X.heap.size <= b := hf hn _ rfl
 exact ⟨b, off, rfl, by simpa [World.setCell] using hb, fun j hj i v hv => (World.cell?_of_block (Below.heap_setCell _ _ _ _ (show b ≠ q by omega))).trans (hc j hj i v hv)⟩
theorem fresh_at {X Y : World} {A : Option Addr} {n : Nat} (h : FreshR X A n) (hs : Y.heap.size <= X.heap.size) : FreshR Y A n := fun hn p hp => Nat.le_trans hs (h hn p hp)
theorem RetLay.of {B : Nat} {v : Value} {x : List NodeP × Int} {w w' : World} {A : Option Addr} {c m : Nat} {k : Int} (hm : m = x.1.length) (hk : k = x.2) (h : NOwn B (.slice A x.1.length c) x.1 w') (g : Gb v (.slice A x.1.length c) w w') :
  RetLay B v x w (.returned (.tuple #[.slice A m c, .int .i64 k])) w' := by
 subst hm hk
 exact ⟨A, c, rfl, h, g⟩
theorem RetLay.to {B : Nat} {v : Value} {x y : List NodeP × Int} {w w' : World} {e : Ending} (h : RetLay B v x w e w') (he : x = y) : RetLay B v y w e w' := by rw [<- he]; exact h
def CallLay (v : Value) (e : ExprP) (RA OA : Option Addr) (rc oc : Nat) (y n : Int) (w : World) (B : Nat) (x : List NodeP × Int) : Prop :=
 Calls Tryz.prog 28 #[v, .agg #[.int .i64 (kind e), .int .i64 (field e), .slice RA (rs e).length rc, .float .f64 (lo e), .float .f64 (hi e), .slice OA (of e).length oc], .int .i64 y, .int .i64 n] w (RetLay B v x w)
set_option maxHeartbeats 4000000 in
theorem lay_atom (f : Int) (r : List (Int × Int)) (l h : Nat) (RA OA : Option Addr) (rc oc : Nat) (y n : Int) (B : Nat) (A0 : Option Addr) (c0 : Nat) (t : List NodeP) (w : World) (hok : okL (.mk 1 f r l h [])) (hR : Row encP 2 w w.heap.size RA r.length r)
  (hB : B <= w.heap.size) (hN : NOwn B (.slice A0 t.length c0) t w) (hl : t.length <= 1000000) : CallLay (.slice A0 t.length c0) (.mk 1 f r l h []) RA OA rc oc y n w B (t ++ [testP f r l h y n], (t.length : Int)) := by
 unfold CallLay
 obtain ⟨X, hX⟩ : ∃ X, X = w.alloc (.cells #[.int .i64 1, .int .i64 f, .slice RA r.length rc, .float .f64 l, .float .f64 h, .slice OA 0 oc] 59) := ⟨_, rfl⟩
 have hkX : Keep w X := by rw [hX]; exact (Keep.refl w).alloc _
 have hX1 : X.heap.size = w.heap.size + 1 := by rw [hX]; simp
 have bX : Bx X w.heap.size [.int .i64 1, .int .i64 f, .slice RA r.length rc, .float .f64 l, .float .f64 h, .slice OA 0 oc] := by rw [hX]; exact Bx.newq rfl
 have CN := Lib.hid (Span.ref_norm_own RA r.length rc r X (by have := hok.few.1; omega) (hR.kept hkX) hok.fit)
 have fr : ∀ j, X.frozen? ⟨w.heap.size, j, none⟩ = false := fun j => by rw [hX]; simp
 have HNO := Lib.hid hN
 have HOK := Lib.hid hok
 have HKX := Lib.hid hkX
 have HX1 := Lib.hid hX1
 have HBB := Lib.hid hB
 have HBX := Lib.hid bX
 have HFR := Lib.hid fr
 obtain ⟨b0, b1, b2, b3, b4, b5⟩ := bX.six
 clear hN hR hok hkX fr hB
 simp only [kind, field, rs, lo, hi, of, List.length_nil]
 go_enter Tryz.func28, Tryz.ntmps28
 go_wp2_with fail
 rw [<- hX]
 clear hX b0 b1 b2 b3 b4 b5
 refine CN.out.mono ?_
 rintro e w1 ⟨⟨A1, n1, c1, rfl, hle1, hle2, hrow1, hk1, hf1⟩, hok1⟩
 have hn1 := hrow1.1
 have b1 := HBX.out.kept hk1
 obtain ⟨b0, b1, b2, b3, b4, b5⟩ := b1.six
 have fr1 : w1.frozen? ⟨w.heap.size, 2, none⟩ = false := (Below.frozen hk1 (show w.heap.size < X.heap.size by omega)).trans (HFR.out 2)
 clear bX
 subst hn1
 obtain ⟨W, hW⟩ : ∃ W, W = w1.setCell ⟨w.heap.size, 2, none⟩ (.slice A1 (Sp.norm r).length c1) := ⟨_, rfl⟩
 have hkw1 : Keep w w1 := HKX.out.trans hk1
 have hkW : Keep w W := by rw [hW]; exact Below.setCell hkw1 (Nat.le_refl _) _
 have CP := put_any (testP f r l h y n) A1 OA c1 oc B (.slice A0 t.length c0) t W (Nat.le_trans HBB.out hkW.size) (HNO.out.kept hkW)
  (flat_fresh (HNO.out) HBB.out rfl (by rw [hW]; exact row_set hrow1 hf1 (by omega) _) (fresh_at hf1 (by omega))) hl
 have HKW := Lib.hid hkW
 have CP := Lib.hid CP
 clear hkW hkw1 hrow1 hf1 hk1 hle1 hle2 hok1
 go_wp2_with fail
 rw [<- hW]
 clear hW b0 b1 b2 b3 b4 b5 fr1
 refine CP.out.mono ?_
 rintro e w2 ⟨A2, c2, rfl, hn2, hg2⟩
 have HN2 := Lib.hid hn2
 have HG2 := Lib.hid hg2
 clear hn2 hg2
 go_wp2
 go_ret2
 exact RetLay.of (by simp) rfl HN2.out (.after HKW.out HG2.out)
set_option maxHeartbeats 8000000 in
theorem lay_loopA (z : World) (B : Nat) (hzB : z.heap.size <= B) (f : Int) (r : List (Int × Int)) (l h : Nat) (o : List ExprP) (RA OA : Option Addr) (rc oc : Nat) (y n : Int) (A0 : Option Addr) (c0 : Nat) (t : List NodeP) (w : World) (hok : okL (.mk 3 f r l h o)) (h2 : 2 <= o.length)
  (hO : Exs z OA o) (hzw : Keep z w) (hBw : B <= w.heap.size) (hNO : NOwn B (.slice A0 t.length c0) t w) (hle : t.length + atomsL o <= 1000000)
  (CS : ∀ (x : ExprP) (hx : x ∈ o) (RA' OA' : Option Addr) (rc' oc' : Nat) (y' n' : Int) (A1 : Option Addr) (c1 : Nat) (t' : List NodeP) (W : World) (hEx : Ex z x RA' OA') (hW : Keep z W) (hBW : B <= W.heap.size) (hNW : NOwn B (.slice A1 t'.length c1) t' W) (hl : t'.length + atoms x <= 1000000),
   CallLay (.slice A1 t'.length c1) x RA' OA' rc' oc' y' n' W B (lay t' x y' n')) :
  CallLay (.slice A0 t.length c0) (.mk 3 f r l h o) RA OA rc oc y n w B (lay t (.mk 3 f r l h o) y n) := by
 obtain ⟨X, hX⟩ : ∃ X, X = w.alloc (.cells #[.int .i64 3, .int .i64 f, .slice RA r.length rc, .float .f64 l, .float .f64 h, .slice OA o.length oc] 59) := ⟨_, rfl⟩
 have hkX : Keep w X := by rw [hX]; exact (Keep.refl w).alloc _
 have hX1 : X.heap.size = w.heap.size + 1 := by rw [hX]; simp
 have bX : Fb (.slice A0 t.length c0) X w.heap.size [.int .i64 3, .int .i64 f, .slice RA r.length rc, .float .f64 l, .float .f64 h, .slice OA o.length oc] := by rw [hX]; exact Fb.new hNO _ _
 have HNX := Lib.hid (hNO.kept hkX)
 have HBX := Lib.hid bX
 have HX1 := Lib.hid hX1
 have HKX := Lib.hid hkX
 have HZX := Lib.hid (hzw.trans hkX)
 have HOK := Lib.hid hok
 have HBW := Lib.hid hBw
 have HZB := Lib.hid hzB
 have HLE := Lib.hid hle
 have HO := Lib.hid hO
 have HLO := Lib.hid hNO.low
 have HSL := Lib.hid (hok.sub (by decide))
 have HCS := Lib.hid CS
 have ho6 := hok.few.2
 have bE := bX.1.six.2.2.2.2.2
 have bK := bX.1.six.1
 have g1 : ((o.length : Int) - 1 + 1) = o.length := by omega
 obtain ⟨b, off, rfl, _⟩ := hO.addr (by omega)
 rw [hX] at bE bK
 clear hNO hok hBw hle hO bX hkX hzw hzB hX1 CS g1
 unfold CallLay
 simp only [kind, field, rs, lo, hi, of]
 go_enter Tryz.func28, Tryz.ntmps28
 go_wp2
 rw [<- hX]
 clear hX bE bK
 go_loopw [0, 2, 3, 10, 11] (fun s0 s2 s3 s10 s11 wr => ∃ (j : Nat) (i a : Int) (A : Option Addr) (c : Nat), j <= o.length ∧ i + 1 = j ∧ s11 = .int .i64 i ∧ s10 = .int .i64 a ∧ s0 = .slice A (layA t (o.drop j) y n).1.length c ∧ (s2 = .int .i64 (layA t (o.drop j) y n).2 ∧ s3 = .int .i64 n) ∧ Hid (j < o.length -> a = (layA t (o.drop j) y n).2) ∧
  Hid (NOwn B (.slice A (layA t (o.drop j) y n).1.length c) (layA t (o.drop j) y n).1 wr) ∧ Hid (Gb (.slice A0 t.length c0) (.slice A (layA t (o.drop j) y n).1.length c) X wr)) (fun _ _ _ _ s11 _ => (intOf s11 + 1).toNat)
 case atStart =>
  have e0 : layA t (o.drop o.length) y n = (t, y) := by rw [List.drop_length, layA]
  refine ⟨o.length, (o.length : Int) - 1, 0, A0, c0, Nat.le_refl _, by omega, rfl, rfl, by rw [e0], by rw [e0]; exact ⟨rfl, rfl⟩, fun hj => absurd hj (Nat.lt_irrefl _), ?_, ?_⟩
  ·rw [e0]; exact HNX.out
  ·rw [e0]; exact Gb.refl _ _
 case round =>
  obtain ⟨j, i, a, A1, c1, hj, hi, rfl, rfl, rfl, ⟨rfl, rfl⟩, ha, hnr, hgr⟩ := hrel
  cases j with
  | zero =>
    obtain rfl : i = -1 := by omega
    have ha0 := ha.out (by omega)
    rw [List.drop_zero] at ha0 hnr hgr ⊢
    subst ha0
    go_wp2
    go_ret2
    refine (RetLay.of (x := layA t o y n) rfl rfl hnr.out (.after HKX.out hgr.out)).to ?_
    rw [lay_3]
  | succ m =>
    obtain rfl : i = (m : Int) := by omega
    have hm : m < o.length := by omega
    have HST := Lib.hid (layA_step t hm y n)
    have HLN := Lib.hid (layA_len t (o.drop (m + 1)) y n fun x hx => HSL.out x (List.mem_of_mem_drop hx))
    have HAT := Lib.hid (show atoms (o.getD m zero) + atomsL (o.drop (m + 1)) <= atomsL o by
     have := atomsL_drop o m
     rw [drop_cons hm, atomsL] at this
     exact this)
    obtain ⟨hbb, RA', OA', rc', oc', hx6, hy⟩ := HO.out.elem m hm
    have hzr : Keep z wr := by
     have h1 := hgr.out.below (B := B) (by have := HBW.out; have := HX1.out; omega) fun r hr => (HLO.out r hr).1
     exact keep_below HZX.out h1 HZB.out
    obtain ⟨x0, x1, x2, x3, x4, x5⟩ := hx6.kept hbb hzr
    have bw := HBX.out.gb hgr.out
    have bE := bw.1.six.2.2.2.2.2
    have bK := bw.1.six.1
    have hC := Lib.hid (HCS.out (o.getD m zero) (getD_mem zero o m hm) RA' OA' rc' oc' (layA t (o.drop (m + 1)) y n).2 n A1 c1 (layA t (o.drop (m + 1)) y n).1 wr hy hzr (by have := HBW.out; have := HX1.out; have := hgr.out.size; omega) hnr.out (by have := HLN.out; have := HLE.out; have := HAT.out; omega))
    have hi1 : (m : Int) < o.length := by omega
    have hi0 : (0 : Int) <= m := by omega
    rw [<- HST.out] at hC
    obtain ⟨T1, hT1⟩ : ∃ T1, T1 = layA t (o.drop (m + 1)) y n := ⟨_, rfl⟩
    obtain ⟨T, hT⟩ : ∃ T, T = layA t (o.drop m) y n := ⟨_, rfl⟩
    rw [<- hT1] at hC hgr hnr bw ⊢
    have HBWR := Lib.hid bw
    rw [<- hT] at hC
    have HT := Lib.hid hT
    generalize o.getD m zero = x at *
    clear hx6 hbb hy hzr bw ha hT1 hT hi
    unfold CallLay at hC
    go_wp2_with fail
    refine hC.out.mono ?_
    rintro e w3 ⟨A3, c3, rfl, hn3, hg3⟩
    have HN3 := Lib.hid hn3
    have HG3 := Lib.hid (hgr.out.trans hg3)
    have b3 := (HBWR.out.gb hg3).1.six.1
    clear hn3 hg3 x0 x1 x2 x3 x4 x5 bE bK hC HBWR
    go_wp2
    go_roundw
    case rel =>
     have hT := HT.out
     subst hT
     exact ⟨m, (m : Int) - 1, _, A3, c3, by omega, by omega, rfl, rfl, rfl, ⟨rfl, rfl⟩, fun _ => rfl, HN3.out, HG3.out⟩
    case measure => simp [intOf]
set_option maxHeartbeats 8000000 in
theorem lay_loopO (z : World) (B : Nat) (hzB : z.heap.size <= B) (f : Int) (r : List (Int × Int)) (l h : Nat) (o : List ExprP) (RA OA : Option Addr) (rc oc : Nat) (y n : Int) (A0 : Option Addr) (c0 : Nat) (t : List NodeP) (w : World) (hok : okL (.mk 4 f r l h o)) (h2 : 2 <= o.length)
  (hO : Exs z OA o) (hzw : Keep z w) (hBw : B <= w.heap.size) (hNO : NOwn B (.slice A0 t.length c0) t w) (hle : t.length + atomsL o <= 1000000)
  (CS : ∀ (x : ExprP) (hx : x ∈ o) (RA' OA' : Option Addr) (rc' oc' : Nat) (y' n' : Int) (A1 : Option Addr) (c1 : Nat) (t' : List NodeP) (W : World) (hEx : Ex z x RA' OA') (hW : Keep z W) (hBW : B <= W.heap.size) (hNW : NOwn B (.slice A1 t'.length c1) t' W) (hl : t'.length + atoms x <= 1000000),
   CallLay (.slice A1 t'.length c1) x RA' OA' rc' oc' y' n' W B (lay t' x y' n')) :
  CallLay (.slice A0 t.length c0) (.mk 4 f r l h o) RA OA rc oc y n w B (lay t (.mk 4 f r l h o) y n) := by
 obtain ⟨X, hX⟩ : ∃ X, X = w.alloc (.cells #[.int .i64 4, .int .i64 f, .slice RA r.length rc, .float .f64 l, .float .f64 h, .slice OA o.length oc] 59) := ⟨_, rfl⟩
 have hkX : Keep w X := by rw [hX]; exact (Keep.refl w).alloc _
 have hX1 : X.heap.size = w.heap.size + 1 := by rw [hX]; simp
 have bX : Fb (.slice A0 t.length c0) X w.heap.size [.int .i64 4, .int .i64 f, .slice RA r.length rc, .float .f64 l, .float .f64 h, .slice OA o.length oc] := by rw [hX]; exact Fb.new hNO _ _
 have HNX := Lib.hid (hNO.kept hkX)
 have HBX := Lib.hid bX
 have HX1 := Lib.hid hX1
 have HKX := Lib.hid hkX
 have HZX := Lib.hid (hzw.trans hkX)
 have HOK := Lib.hid hok
 have HBW := Lib.hid hBw
 have HZB := Lib.hid hzB
 have HLE := Lib.hid hle
 have HO := Lib.hid hO
 have HLO := Lib.hid hNO.low
 have HSL := Lib.hid (hok.sub (by decide))
 have HCS := Lib.hid CS
 have ho6 := hok.few.2
 have bE := bX.1.six.2.2.2.2.2
 have bK := bX.1.six.1
 have g1 : ((o.length : Int) - 1 + 1) = o.length := by omega
 obtain ⟨b, off, rfl, _⟩ := hO.addr (by omega)
 rw [hX] at bE bK
 clear hNO hok hBw hle hO bX hkX hzw hzB hX1 CS g1
 unfold CallLay
 simp only [kind, field, rs, lo, hi, of]
 go_enter Tryz.func28, Tryz.ntmps28
 go_wp2
 rw [<- hX]
 clear hX bE bK
 go_loopw [0, 2, 3, 10, 11] (fun s0 s2 s3 s10 s11 wr => ∃ (j : Nat) (i a : Int) (A : Option Addr) (c : Nat), j <= o.length ∧ i + 1 = j ∧ s11 = .int .i64 i ∧ s10 = .int .i64 a ∧ s0 = .slice A (layO t (o.drop j) y n).1.length c ∧ (s2 = .int .i64 y ∧ s3 = .int .i64 (layO t (o.drop j) y n).2) ∧ Hid (j < o.length -> a = (layO t (o.drop j) y n).2) ∧
  Hid (NOwn B (.slice A (layO t (o.drop j) y n).1.length c) (layO t (o.drop j) y n).1 wr) ∧ Hid (Gb (.slice A0 t.length c0) (.slice A (layO t (o.drop j) y n).1.length c) X wr)) (fun _ _ _ _ s11 _ => (intOf s11 + 1).toNat)
 case atStart =>
  have e0 : layO t (o.drop o.length) y n = (t, n) := by rw [List.drop_length, layO]
  refine ⟨o.length, (o.length : Int) - 1, 0, A0, c0, Nat.le_refl _, by omega, rfl, rfl, by rw [e0], by rw [e0]; exact ⟨rfl, rfl⟩, fun hj => absurd hj (Nat.lt_irrefl _), ?_, ?_⟩
  ·rw [e0]; exact HNX.out
  ·rw [e0]; exact Gb.refl _ _
 case round =>
  obtain ⟨j, i, a, A1, c1, hj, hi, rfl, rfl, rfl, ⟨rfl, rfl⟩, ha, hnr, hgr⟩ := hrel
  cases j with
  | zero =>
    obtain rfl : i = -1 := by omega
    have ha0 := ha.out (by omega)
    rw [List.drop_zero] at ha0 hnr hgr ⊢
    subst ha0
    go_wp2
    go_ret2
    refine (RetLay.of (x := layO t o y n) rfl rfl hnr.out (.after HKX.out hgr.out)).to ?_
    rw [lay_4]
  | succ m =>
    obtain rfl : i = (m : Int) := by omega
    have hm : m < o.length := by omega
    have HST := Lib.hid (layO_step t hm y n)
    have HLN := Lib.hid (layO_len t (o.drop (m + 1)) y n fun x hx => HSL.out x (List.mem_of_mem_drop hx))
    have HAT := Lib.hid (show atoms (o.getD m zero) + atomsL (o.drop (m + 1)) <= atomsL o by
     have := atomsL_drop o m
     rw [drop_cons hm, atomsL] at this
     exact this)
    obtain ⟨hbb, RA', OA', rc', oc', hx6, hy⟩ := HO.out.elem m hm
    have hzr : Keep z wr := by
     have h1 := hgr.out.below (B := B) (by have := HBW.out; have := HX1.out; omega) fun r hr => (HLO.out r hr).1
     exact keep_below HZX.out h1 HZB.out
    obtain ⟨x0, x1, x2, x3, x4, x5⟩ := hx6.kept hbb hzr
    have bw := HBX.out.gb hgr.out
    have bE := bw.1.six.2.2.2.2.2
    have bK := bw.1.six.1
    have hC := Lib.hid (HCS.out (o.getD m zero) (getD_mem zero o m hm) RA' OA' rc' oc' y (layO t (o.drop (m + 1)) y n).2 A1 c1 (layO t (o.drop (m + 1)) y n).1 wr hy hzr (by have := HBW.out; have := HX1.out; have := hgr.out.size; omega) hnr.out (by have := HLN.out; have := HLE.out; have := HAT.out; omega))
    have hi1 : (m : Int) < o.length := by omega
    have hi0 : (0 : Int) <= m := by omega
    rw [<- HST.out] at hC
    obtain ⟨T1, hT1⟩ : ∃ T1, T1 = layO t (o.drop (m + 1)) y n := ⟨_, rfl⟩
    obtain ⟨T, hT⟩ : ∃ T, T = layO t (o.drop m) y n := ⟨_, rfl⟩
    rw [<- hT1] at hC hgr hnr bw ⊢
    have HBWR := Lib.hid bw
    rw [<- hT] at hC
    have HT := Lib.hid hT
    generalize o.getD m zero = x at *
    clear hx6 hbb hy hzr bw ha hT1 hT hi
    unfold CallLay at hC
    go_wp2_with fail
    refine hC.out.mono ?_
    rintro e w3 ⟨A3, c3, rfl, hn3, hg3⟩
    have HN3 := Lib.hid hn3
    have HG3 := Lib.hid (hgr.out.trans hg3)
    have b3 := (HBWR.out.gb hg3).1.six.1
    clear hn3 hg3 x0 x1 x2 x3 x4 x5 bE bK hC HBWR
    go_wp2
    go_roundw
    case rel =>
     have hT := HT.out
     subst hT
     exact ⟨m, (m : Int) - 1, _, A3, c3, by omega, by omega, rfl, rfl, rfl, ⟨rfl, rfl⟩, fun _ => rfl, HN3.out, HG3.out⟩
    case measure => simp [intOf]
set_option maxHeartbeats 8000000 in
theorem layN_any (z : World) (B : Nat) (hzB : z.heap.size <= B) : ∀ (N : Nat) (e : ExprP) (RA OA : Option Addr) (rc oc : Nat) (y n : Int) (A0 : Option Addr) (c0 : Nat) (t : List NodeP) (w : World), dp e <= N -> okL e -> Ex z e RA OA -> Keep z w -> B <= w.heap.size ->
  NOwn B (.slice A0 t.length c0) t w -> t.length + atoms e <= 1000000 -> CallLay (.slice A0 t.length c0) e RA OA rc oc y n w B (lay t e y n) := by
 intro N
 induction N with
 | zero => intro e RA OA rc oc y n A0 c0 t w hN; exact absurd (dp_pos e) (by omega)
 | succ N ih =>
   intro e RA OA rc oc y n A0 c0 t w hN hok hE hzw hBw hNO hle
   have hsub := fun x (hx : x ∈ of e) => dp_of hx
   have hO : Exs z OA (of e) := hE.exs
   obtain ⟨k, f, r, l, h, o⟩ := e
   simp only [of] at hsub hO
   by_cases k1 : k = 1
   ·subst k1
    obtain rfl := hok.atom
    rw [lay_1 t rfl]
    exact lay_atom f r l h RA OA rc oc y n B A0 c0 t w hok (hE.kept hzw).1 hBw hNO (by omega)
   have hsk := hok.sub k1
   have hfew := hok.few.2
   have CS := Lib.hid (fun (x : ExprP) (hx : x ∈ o) (RA' OA' : Option Addr) (rc' oc' : Nat) (y' n' : Int) (A1 : Option Addr) (c1 : Nat) (t' : List NodeP) (W : World) (hEx : Ex z x RA' OA') (hW : Keep z W) (hBW : B <= W.heap.size) (hNW : NOwn B (.slice A1 t'.length c1) t' W) (hl : t'.length + atoms x <= 1000000) =>
    ih x RA' OA' rc' oc' y' n' A1 c1 t' W (by have := hsub x hx; omega) (hsk x hx) hEx hW hBW hNW hl)
   obtain ⟨X, hX⟩ : ∃ X, X = w.alloc (.cells #[.int .i64 k, .int .i64 f, .slice RA r.length rc, .float .f64 l, .float .f64 h, .slice OA o.length oc] 59) := ⟨_, rfl⟩
   have hkX : Keep w X := by rw [hX]; exact (Keep.refl w).alloc _
   have hX1 : X.heap.size = w.heap.size + 1 := by rw [hX]; simp
   have bX : Fb (.slice A0 t.length c0) X w.heap.size [.int .i64 k, .int .i64 f, .slice RA r.length rc, .float .f64 l, .float .f64 h, .slice OA o.length oc] := by rw [hX]; exact Fb.new hNO _ _
   have HNX := Lib.hid (hNO.kept hkX)
   have HBX := Lib.hid bX
   have HX1 := Lib.hid hX1
   have HKX := Lib.hid hkX
   have HZX := Lib.hid (hzw.trans hkX)
   have HZW := Lib.hid hzw
   have HNO := Lib.hid hNO
   have HOK := Lib.hid hok
   have HBW := Lib.hid hBw
   have HZB := Lib.hid hzB
   have HLE := Lib.hid hle
   have HO := Lib.hid hO
   have d1 : (k == 1) = false := by simpa using k1
   have hm := hok.many k1
   clear hNO hok hBw hle hO hE hsub hsk ih hN bX hkX hzw k1 hzB hX1
   unfold CallLay
   simp only [kind, field, rs, lo, hi, of]
   rcases hm with ⟨rfl, rfl⟩ | ⟨rfl, x, rfl⟩ | ⟨hk34, h2⟩
   ·clear d1
    simp only [List.length_nil] at hX HBX HNX ⊢
    go_enter Tryz.func28, Tryz.ntmps28
    go_wp2
    rw [<- hX]
    go_ret2
    refine (RetLay.of (x := (t, y)) rfl rfl HNX.out (.of HKX.out)).to ?_
    simp [lay]
   ·simp only [List.length_cons, List.length_nil, Nat.zero_add] at hX HBX HNX ⊢
    obtain ⟨b, off, rfl, _⟩ := HO.out.addr (by simp)
    have hel := HO.out.elem 0 (by simp)
    simp only [List.getD_cons_zero, Nat.zero_mul, Nat.add_zero] at hel
    obtain ⟨hbb, RA', OA', rc', oc', hx6, hy⟩ := hel
    obtain ⟨x0, x1, x2, x3, x4, x5⟩ := hx6.kept hbb HZX.out
    have hC := Lib.hid (CS.out x (by simp) RA' OA' rc' oc' n y A0 c0 t X hy HZX.out (by have := HBW.out; have := HX1.out; omega) HNX.out (by have := HLE.out; simp [atoms, atomsL, inner] at this; omega))
    have bE := HBX.out.1.six.2.2.2.2.2
    have bK := HBX.out.1.six.1
    clear hx6 hbb hy d1
    rw [hX] at x0 x1 x2 x3 x4 x5 bE bK
    go_enter Tryz.func28, Tryz.ntmps28
    go_wp2_with fail
    rw [<- hX]
    clear hX
    unfold CallLay at hC
    refine hC.out.mono ?_
    rintro e w2 ⟨A2, c2, rfl, hn2, hg2⟩
    have HN2 := Lib.hid hn2
    have HG2 := Lib.hid hg2
    clear hn2 hg2
    go_wp2
    go_ret2
    exact (RetLay.of (x := lay t x n y) rfl rfl HN2.out (.after HKX.out HG2.out)).to (lay_2 ..).symm
   ·have hat : atoms (.mk k f r l h o) = atomsL o := by
     rw [atoms, if_neg (by omega)]
     rcases hk34 with rfl | rfl <;> rfl
    rcases hk34 with rfl | rfl
    ·have := lay_loopA z B HZB.out f r l h o RA OA rc oc y n A0 c0 t w HOK.out h2 HO.out HZW.out HBW.out HNO.out (by rw [<- hat]; exact HLE.out) CS.out
     unfold CallLay at this
     simpa only [kind, field, rs, lo, hi, of] using this
    ·have := lay_loopO z B HZB.out f r l h o RA OA rc oc y n A0 c0 t w HOK.out h2 HO.out HZW.out HBW.out HNO.out (by rw [<- hat]; exact HLE.out) CS.out
     unfold CallLay at this
     simpa only [kind, field, rs, lo, hi, of] using this
end Go.Proofs.YtaciogcpghbhjaaGreat.Nd
namespace Go.Proofs.YtaciogcpghbhjaaGreat.Nd
set_option linter.unusedVariables false
open Go.ChangeShapes Go.WideShapes Go.ChangeAt Go.RowKit
open Tr
open Cp (testP leafP lay rulesF rules)
def RetNodes (l : List NodeP) (w : World) (e : Ending) (w' : World) : Prop := ∃ A c, e = .returned (.slice A l.length c) ∧ NOwn w.heap.size (.slice A l.length c) l w' ∧ Keep w w'
def okRs (l : List RuleP) : Prop := l.length <= 64 ∧ ∀ r ∈ l, okL r.when_ ∧ atoms r.when_ <= 15000
theorem rdrop_cons {l : List RuleP} {j : Nat} (h : j < l.length) : l.drop j = l.getD j zeroR :: l.drop (j + 1) := by
 rw [List.drop_eq_getElem_cons h, List.getD_eq_getElem?_getD, List.getElem?_eq_getElem h]; rfl
theorem rulesF_step {l : List RuleP} {j : Nat} (h : j < l.length) : rulesF (l.drop j) (j : Int) = lay ((rulesF (l.drop (j + 1)) ((j + 1 : Nat) : Int)).1 ++ [leafP j]) (l.getD j zeroR).when_ (rulesF (l.drop (j + 1)) ((j + 1 : Nat) : Int)).1.length (rulesF (l.drop (j + 1)) ((j + 1 : Nat) : Int)).2 := by
 rw [rdrop_cons h, rulesF]; rfl
theorem rulesF_len : ∀ (l : List RuleP) (i : Int), (∀ r ∈ l, okL r.when_ ∧ atoms r.when_ <= 15000) -> (rulesF l i).1.length <= 1 + l.length * 15001
 | [], i, _ => by rw [rulesF]; simp
 | r :: l, i, h => by
   have ih := rulesF_len l (i + 1) fun r hr => h r (List.mem_cons_of_mem _ hr)
   have hr := h r (List.mem_cons_self ..)
   rw [rulesF, lay_len _ _ _ _ _ (Nat.le_refl _) hr.1, List.length_append, List.length_singleton, List.length_cons]
   have := hr.2
   omega
set_option maxHeartbeats 4000000 in
theorem ref_rules_any (A : Option Addr) (c : Nat) (l : List RuleP) (w : World) (hok : okRs l) (hR : Rus w A l) :
  Calls Tryz.prog 9 #[.slice A l.length c] w (RetNodes (rules l) w) := by
 have HOK := Lib.hid hok
 have HRU := Lib.hid hR
 have hl40 := hok.1
 have HC0 := Lib.hid (put_any (leafP (-1)) none none 0 0 w.heap.size (.slice none 0 0) [] w (Nat.le_refl _) (NOwn.start _ _) (flat_none rfl rfl) (by simp))
 have g1 : ((l.length : Int) - 1 + 1) = l.length := by omega
 clear hok hR g1
 go_enter Tryz.func9, Tryz.ntmps9
 go_wp2_with fail
 refine HC0.out.mono ?_
 rintro e w1 ⟨A1, c1, rfl, hn1, hg1⟩
 have HN1 := Lib.hid hn1
 have HG1 := Lib.hid hg1
 clear hn1 hg1 HC0
 go_wp2
 go_loopw [3, 4, 5, 6] (fun s3 s4 s5 _ wr => ∃ (j : Nat) (i : Int) (A : Option Addr) (c : Nat), j <= l.length ∧ i + 1 = j ∧ s5 = .int .i64 i ∧ s3 = .slice A (rulesF (l.drop j) j).1.length c ∧ s4 = .int .i64 (rulesF (l.drop j) j).2 ∧
  Hid (NOwn w.heap.size (.slice A (rulesF (l.drop j) j).1.length c) (rulesF (l.drop j) j).1 wr) ∧ Hid (Gb (.slice none 0 0) (.slice A (rulesF (l.drop j) j).1.length c) w wr)) (fun _ _ s5 _ _ => (intOf s5 + 1).toNat)
 case atStart =>
  have e0 : rulesF (l.drop l.length) (l.length : Int) = ([leafP (-1)], 0) := by rw [List.drop_length, rulesF]
  refine ⟨l.length, (l.length : Int) - 1, A1, c1, Nat.le_refl _, by omega, rfl, by rw [e0]; rfl, by rw [e0], ?_, ?_⟩
  ·rw [e0]; exact HN1.out
  ·rw [e0]; exact HG1.out
 case round =>
  obtain ⟨j, i, A2, c2, hj, hi, rfl, rfl, rfl, hnr, hgr⟩ := hrel
  cases j with
  | zero =>
    obtain rfl : i = -1 := by omega
    rw [List.drop_zero] at hnr hgr ⊢
    go_wp2
    go_ret
    exact ⟨A2, c2, rfl, hnr.out, hgr.out.below (Nat.le_refl _) fun r hr => by cases hr⟩
  | succ m =>
    obtain rfl : i = (m : Int) := by omega
    have hm : m < l.length := by omega
    have HST := Lib.hid (rulesF_step hm)
    have HLN := Lib.hid (rulesF_len (l.drop (m + 1)) ((m + 1 : Nat) : Int) fun r hr => HOK.out.2 r (List.mem_of_mem_drop hr))
    have HOL := Lib.hid (HOK.out.2 _ (getD_mem zeroR l m hm))
    have HLD := Lib.hid (show (l.drop (m + 1)).length <= 64 by rw [List.length_drop]; omega)
    obtain ⟨b, off, rfl, _⟩ := HRU.out.addr (by omega)
    obtain ⟨hbb, RA', OA', rc', oc', hx6, hy⟩ := HRU.out.elem m hm
    have HX6 := Lib.hid hx6
    have HY := Lib.hid hy
    have HBB := Lib.hid hbb
    have hi1 : (m : Int) < l.length := by omega
    have hi0 : (0 : Int) <= m := by omega
    obtain ⟨T, hT⟩ : ∃ T, T = rulesF (l.drop m) (m : Int) := ⟨_, rfl⟩
    have HT := Lib.hid hT
    rw [<- hT] at HST
    obtain ⟨T1, hT1⟩ : ∃ T1, T1 = rulesF (l.drop (m + 1)) ((m + 1 : Nat) : Int) := ⟨_, rfl⟩
    rw [<- hT1] at hnr hgr HST HLN ⊢
    clear hT hT1 hx6 hy hbb hi
    generalize l.getD m zeroR = x at *
    have hC := Lib.hid (put_any (leafP m) none none 0 0 w.heap.size (.slice A2 T1.1.length c2) T1.1 wr hgr.out.size hnr.out (flat_none rfl rfl) (by have := HLN.out; have := HLD.out; omega))
    go_wp2_with fail
    refine hC.out.mono ?_
    rintro e w3 ⟨A3, c3, rfl, hn3, hg3⟩
    have HN3 := Lib.hid hn3
    have HG3 := Lib.hid (hgr.out.trans hg3)
    have hk3 : Keep w w3 := HG3.out.below (Nat.le_refl _) fun r hr => by cases hr
    obtain ⟨x0, x1, x2, x3, x4, x5, x6, x7, x8, x9, x10⟩ := HX6.out.kept HBB.out hk3
    have hC2 := Lib.hid (layN_any w w.heap.size (Nat.le_refl _) _ x.when_ RA' OA' rc' oc' T1.1.length T1.2 A3 c3 (T1.1 ++ [leafP m]) w3 (Nat.le_refl _) HOL.out.1 HY.out hk3 hk3.size HN3.out (by have := HLN.out; have := HLD.out; have := HOL.out.2; simp; omega))
    rw [<- HST.out] at hC2
    unfold CallLay at hC2
    simp only [List.length_append, List.length_singleton] at hC2
    clear hn3 hg3 hC x0 x7 x8 x9 x10
    go_wp2_with fail
    refine hC2.out.mono ?_
    rintro e w4 ⟨A4, c4, rfl, hn4, hg4⟩
    have HN4 := Lib.hid hn4
    have HG4 := Lib.hid hg4
    clear hn4 hg4 hC2 x1 x2 x3 x4 x5 x6
    go_wp2
    go_roundw
    case rel =>
     have hT := HT.out
     subst hT
     exact ⟨m, (m : Int) - 1, A4, c4, by omega, by omega, rfl, rfl, rfl, HN4.out, HG3.out.trans (by simpa using HG4.out)⟩
    case measure => simp [intOf]
end Go.Proofs.YtaciogcpghbhjaaGreat.Nd
