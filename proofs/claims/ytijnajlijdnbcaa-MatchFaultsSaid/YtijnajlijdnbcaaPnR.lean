/- Requests that wait in memory: rows of twelve cells, and the numbers that their values are. Conditions: none. -/
import Derived.Test.YtijnajlijdnbcaaPnA
import Derived.Test.YtijnajlijdnbcaaRow2
import Derived.Test.YtijnajlijdnbcaaKept
import Derived.Test.YtijnajlijdnbcaaRows
namespace Go.Proofs.Ytijnajlijdnbcaa.Pn
set_option linter.unusedVariables false
open Go.ChangeShapes Go.WideShapes Go.ChangeAt Go.RowKit
def encQ (p : PendP) : List Value :=
  [.int .i64 p.o, .int .i64 p.cn, .int .i64 p.lf, .int .i64 p.id, .int .i64 p.un, .int .i64 p.ak.fc, .int .i64 p.ak.rd, .int .i64 p.ak.ct, .int .i64 p.ak.wr, .int .i64 p.ak.mn, .slice p.A p.ak.vs.length p.c, .int .i64 p.due]
theorem encQ_len (p : PendP) : (encQ p).length = 12 := rfl
theorem encQ_one (p : PendP) : ∀ v ∈ encQ p, v.oneCell' = true := by
  intro v hv
  simp [encQ] at hv
  rcases hv with rfl | rfl | rfl | rfl | rfl | rfl | rfl | rfl | rfl | rfl | rfl | rfl <;> rfl
theorem info_pend : (Try.prog.info? 35).map (fun i => (i.zero, i.size, i.bytes)) = some (some (.agg #[.int .i64 0, .int .i64 0, .int .i64 0, .int .i64 0, .int .i64 0, .int .i64 0, .int .i64 0, .int .i64 0, .int .i64 0, .int .i64 0, .slice none 0 0, .int .i64 0]), 12, 112) := by kernel_rfl
/-- The twelve cells of one at a place. -/
def PAt (w : World) (b p : Nat) (x : PendP) : Prop :=
  w.cell? ⟨b, p, none⟩ = some (.int .i64 x.o) ∧ w.cell? ⟨b, p + 1, none⟩ = some (.int .i64 x.cn) ∧ w.cell? ⟨b, p + 2, none⟩ = some (.int .i64 x.lf) ∧ w.cell? ⟨b, p + 3, none⟩ = some (.int .i64 x.id) ∧
  w.cell? ⟨b, p + 4, none⟩ = some (.int .i64 x.un) ∧ w.cell? ⟨b, p + 5, none⟩ = some (.int .i64 x.ak.fc) ∧ w.cell? ⟨b, p + 6, none⟩ = some (.int .i64 x.ak.rd) ∧ w.cell? ⟨b, p + 7, none⟩ = some (.int .i64 x.ak.ct) ∧
  w.cell? ⟨b, p + 8, none⟩ = some (.int .i64 x.ak.wr) ∧ w.cell? ⟨b, p + 9, none⟩ = some (.int .i64 x.ak.mn) ∧ w.cell? ⟨b, p + 10, none⟩ = some (.slice x.A x.ak.vs.length x.c) ∧ w.cell? ⟨b, p + 11, none⟩ = some (.int .i64 x.due)
theorem PAt.keep {w w' : World} {b p : Nat} {x : PendP} (h : PAt w b p x) (hk : ∀ q : Addr, q.block = b → w'.cell? q = w.cell? q) : PAt w' b p x := by
  obtain ⟨h0, h1, h2, h3, h4, h5, h6, h7, h8, h9, h10, h11⟩ := h
  exact ⟨(hk _ rfl).trans h0, (hk _ rfl).trans h1, (hk _ rfl).trans h2, (hk _ rfl).trans h3, (hk _ rfl).trans h4, (hk _ rfl).trans h5, (hk _ rfl).trans h6, (hk _ rfl).trans h7, (hk _ rfl).trans h8, (hk _ rfl).trans h9, (hk _ rfl).trans h10, (hk _ rfl).trans h11⟩
theorem PAt.kept {w w' : World} {b p : Nat} {x : PendP} (h : PAt w b p x) (hb : b < w.heap.size) (hk : Keep w w') : PAt w' b p x :=
  h.keep fun q hq => Below.cell hk (by rw [hq]; exact hb)
theorem PAt.quiet {w w' : World} {b p : Nat} {x : PendP} (h : PAt w b p x) (hq : Quiet w w') : PAt w' b p x := h.keep fun q _ => hq.cell q
theorem row_pend {w : World} {B n b off : Nat} {zs : List PendP} (h : Row encQ 12 w B (some ⟨b, off, none⟩) n zs) (j : Nat) (hj : j < n) : b < B ∧ PAt w b (off + j * 12) (zs.getD j zero) := by
  obtain ⟨hb, hc⟩ := h.cells (by omega)
  have hl := h.1
  have hj' : j < zs.length := by omega
  have e : zs.getD j zero = zs[j] := by rw [List.getD_eq_getElem?_getD, List.getElem?_eq_getElem hj']; rfl
  rw [e]
  exact ⟨hb, hc j hj' 0 _ rfl, hc j hj' 1 _ rfl, hc j hj' 2 _ rfl, hc j hj' 3 _ rfl, hc j hj' 4 _ rfl, hc j hj' 5 _ rfl, hc j hj' 6 _ rfl, hc j hj' 7 _ rfl, hc j hj' 8 _ rfl, hc j hj' 9 _ rfl, hc j hj' 10 _ rfl, hc j hj' 11 _ rfl⟩
/-- The numbers that the values are. -/
def Vals (w : World) (l : List PendP) : Prop := ∀ p ∈ l, Ints .i64 w w.heap.size p.A p.ak.vs.length p.ak.vs ∧ p.ak.vs.length ≤ maxLen
theorem Vals.kept {w w' : World} {l : List PendP} (h : Vals w l) (hk : Keep w w') : Vals w' l := fun p hp => ⟨(h p hp).1.kept hk, (h p hp).2⟩
theorem Vals.sub {w : World} {l m : List PendP} (h : Vals w l) (hs : ∀ p ∈ m, p ∈ l) : Vals w m := fun p hp => h p (hs p hp)
theorem Vals.nil (w : World) : Vals w [] := fun p hp => by cases hp
/-- The cells of one, just laid. -/
abbrev cellsQ (p : PendP) : Array Value :=
  #[.int .i64 p.o, .int .i64 p.cn, .int .i64 p.lf, .int .i64 p.id, .int .i64 p.un, .int .i64 p.ak.fc, .int .i64 p.ak.rd, .int .i64 p.ak.ct, .int .i64 p.ak.wr, .int .i64 p.ak.mn, .slice p.A p.ak.vs.length p.c, .int .i64 p.due]
theorem row_one (w : World) (p : PendP) (e : TypeId) : Row encQ 12 (w.alloc (.cells (cellsQ p) e)) (w.heap.size + 1) (some ⟨w.heap.size, 0, none⟩) 1 [p] :=
  Row.new encQ_len w e [p] (cellsQ p) rfl
theorem own_le_len {w : World} {base : Nat} {e : TypeId} {v : Value} {n : Nat} {zs : List PendP} (h : w.ownsRow base e 12 v n (flat encQ zs)) : zs.length = n := Row.length_own encQ_len h (by omega)
theorem ret_int {a b : Int} (h : a = b) : Ending.returned (.int .i64 a) = Ending.returned (.int .i64 b) := by rw [h]
theorem ret_bool {b c : Bool} (h : b = c) : Ending.returned (.bool b) = Ending.returned (.bool c) := by rw [h]
/-- What comes back: requests that wait. -/
abbrev RetQ (zs : List PendP) (w : World) (e : Ending) (w' : World) : Prop := RetRow encQ 12 zs w e w'
/-- What comes back: requests that wait, and an error's number. -/
def RetQE (zs : List PendP) (er : Int) (w : World) (e : Ending) (w' : World) : Prop :=
  ∃ A n c, e = .returned (.tuple #[.slice A n c, .int .i64 er]) ∧ n ≤ c ∧ c ≤ maxLen ∧ Row encQ 12 w' w'.heap.size A n zs ∧ Keep w w'
/-- What comes back: two lists. -/
def RetQQ (xs ys : List PendP) (w : World) (e : Ending) (w' : World) : Prop :=
  ∃ A n c B m d, e = .returned (.tuple #[.slice A n c, .slice B m d]) ∧ (n ≤ c ∧ c ≤ maxLen) ∧ (m ≤ d ∧ d ≤ maxLen) ∧ Row encQ 12 w' w'.heap.size A n xs ∧ Row encQ 12 w' w'.heap.size B m ys ∧ Keep w w'
/-- What comes back: numbers. -/
def RetN (zs : List Int) (w : World) (e : Ending) (w' : World) : Prop :=
  ∃ A n c, e = .returned (.slice A n c) ∧ n ≤ c ∧ c ≤ maxLen ∧ Ints .i64 w' w'.heap.size A n zs ∧ Keep w w'
/-- A request that waits as a struct. -/
def aggQ (p : PendP) : Value := .agg (cellsQ p)
section
variable {P : Program} {α : Type} {enc : α → List Value} {k : Nat}
/-- 'append(out, ys...)', out the call's own, with all that it leaves. -/
theorem append_rows_k {ops : Array Oper} {rest : List Oper} {o : Oper} {a : Act} {Q : Exit → Act → World → Prop} {w : World} (hgd : o.guard = none) (s x : Operand) (t : TypeId)
    (ho : o.op = .call { callee := .builtin .append, args := #[s, x], argTypes := #[t, t] })
    (base : Nat) (e : TypeId) (z : Value) (bytes : Nat) (ht : P.underlying t = some (.slice e)) (hinfo : (P.info? e).map (fun i => (i.zero, i.size, i.bytes)) = some (some z, k, bytes))
    (hzs : z.cells.size = k) (h0 : 0 < k) (hk : ∀ x, (enc x).length = k) (h1 : ∀ x, ∀ v ∈ enc x, v.oneCell' = true)
    (v : Value) (n : Nat) (xs : List α) (hs : a.eval s = v) (hown : w.ownsRow base e k v n (flat enc xs)) (hbase : base ≤ w.heap.size)
    (B : Nat) (A : Option Addr) (m c : Nat) (ys : List α) (hx : a.eval x = .slice A m c) (hA : Row enc k w B A m ys)
    (h63 : n + m ≤ maxLen) (hbytes : (n + m) * bytes ≤ 140737488355328)
    (h : ∀ v' w', w'.ownsRow base e k v' (n + m) (flat enc (xs ++ ys)) → Below base w w' → w.grownBy w' v.ownBlock → (v'.ownBlock = v.ownBlock ∨ v'.ownBlock = some w.heap.size) → wpList P ops Q rest (a.put o.dst v') w') : wpList P ops Q (o :: rest) a w :=
  wpList_plain hgd fun K hK =>
    wp_append_rows s x t ho base e z bytes ht hinfo hzs h0 hk h1 v n xs hs hown hbase B A m c ys hx hA h63 hbytes fun v' w' a b d => hK _ _ (h v' w' a ((Below.refl base w).grown b hbase fun k hk => (hown.lt k hk).1) b d)
end
end Go.Proofs.Ytijnajlijdnbcaa.Pn
