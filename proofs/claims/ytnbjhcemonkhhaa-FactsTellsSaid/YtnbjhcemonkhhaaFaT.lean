/- Layer 14's law FactsTells. Conditions: none beyond the law's own. -/
import Derived.Test.YtnbjhcemonkhhaaFaL
import Derived.Test.YtnbjhcemonkhhaaBx
import Derived.Test.YtnbjhcemonkhhaaAskG
import Derived.Deep.Cut
import Derived.Deep.RegionHeld3
namespace Go.Proofs.Ytnbjhcemonkhhaa.Facts
set_option linter.unusedVariables false
set_option linter.unusedSimpArgs false
set_option maxRecDepth 100000
open Go.ChangeShapes Go.WideShapes Go.ChangeAt Go.RowKit
open Fa
open Re (okL ofB)
theorem opens_two : Opens Try.prog 22 fun W cs => ∃ a b, cs = [.int .i64 a, .int .i64 b] := by
  intro H enc W fuel cs x h
  obtain ⟨xs, m, rfl, _, hl, hxl, hel⟩ := DataW.trod_array Try.underlying22 h
  rw [show Try.prog.cellsOf 22 = 2 by kernel_rfl] at hl
  have g0 := hel 0 (by omega)
  have g1 := hel 1 (by omega)
  rw [show Try.prog.cellsOf 3 = 1 by kernel_rfl, List.getElem?_eq_getElem (by omega)] at g0 g1
  match cs, hl with
  | [c0, c1], _ =>
    obtain ⟨p, e0, _⟩ := opens_int Try.underlying3 H enc W m _ _ g0
    obtain ⟨q, e1, _⟩ := opens_int Try.underlying3 H enc W m _ _ g1
    simp at e0 e1
    exact ⟨p, q, by rw [e0, e1]⟩
/-- A request's cells. -/
theorem opens_req : Opens Try.prog 25 fun W cs => ∃ (a : AskP) (A : Option Addr) (k : Nat), cs = [.int .i64 a.fc, .int .i64 a.rd, .int .i64 a.ct, .int .i64 a.wr, .int .i64 a.mn, .slice A a.vs.length k] ∧ a.vs.length ≤ maxLen ∧ Ints .i64 W W.heap.size A a.vs.length a.vs :=
  ((((((opens_field Try.underlying25 0 _ rfl 6 1 (by kernel_rfl) (by kernel_rfl) (opens_int Try.underlying3)).and (opens_field Try.underlying25 1 _ rfl 6 1 (by kernel_rfl) (by kernel_rfl) (opens_int Try.underlying3))).and (opens_field Try.underlying25 2 _ rfl 6 1 (by kernel_rfl) (by kernel_rfl) (opens_int Try.underlying3))).and (opens_field Try.underlying25 3 _ rfl 6 1 (by kernel_rfl) (by kernel_rfl) (opens_int Try.underlying3))).and (opens_field Try.underlying25 4 _ rfl 6 1 (by kernel_rfl) (by kernel_rfl) (opens_int Try.underlying3))).and (opens_field Try.underlying25 5 _ rfl 6 1 (by kernel_rfl) (by kernel_rfl) (opens_ints Try.underlying23 Try.underlying3 (by kernel_rfl)))).mono
  fun W cs ⟨⟨⟨⟨⟨⟨hl, x0, e0, h0⟩, _, x1, e1, h1⟩, _, x2, e2, h2⟩, _, x3, e3, h3⟩, _, x4, e4, h4⟩, _, x5, x5n, x5c, x5z, e5, l5, m5, h5⟩ => by
    match cs, hl with
    | [c0, c1, c2, c3, c4, c5], _ =>
      simp at e0 e1 e2 e3 e4 e5
      subst e0 e1 e2 e3 e4 e5
      obtain rfl : x5z.length = x5n := h5.1.1
      exact ⟨⟨x0, x1, x2, x3, x4, x5z⟩, x5, x5c, rfl, Nat.le_trans l5 m5, h5.1⟩
theorem opens_ask : Opens Try.prog 27 fun W cs => ∃ (c0 c1 : Int) (a : AskP) (A : Option Addr) (k : Nat) (b : AskP) (B : Option Addr) (m : Nat) (L : Option Addr) (ln lc : Nat) (lz : List Int),
    cs = [.int .i64 c0, .int .i64 c1, .int .i64 a.fc, .int .i64 a.rd, .int .i64 a.ct, .int .i64 a.wr, .int .i64 a.mn, .slice A a.vs.length k, .int .i64 b.fc, .int .i64 b.rd, .int .i64 b.ct, .int .i64 b.wr, .int .i64 b.mn, .slice B b.vs.length m, .slice L ln lc] ∧
    a.vs.length ≤ maxLen ∧ Ints .i64 W W.heap.size A a.vs.length a.vs ∧ b.vs.length ≤ maxLen ∧ Ints .i64 W W.heap.size B b.vs.length b.vs ∧ ln ≤ lc ∧ lc ≤ maxLen ∧ Ints .i64 W W.heap.size L ln lz :=
  ((((opens_field Try.underlying27 0 _ rfl 15 2 (by kernel_rfl) (by kernel_rfl) opens_two).and (opens_field Try.underlying27 1 _ rfl 15 6 (by kernel_rfl) (by kernel_rfl) opens_req)).and (opens_field Try.underlying27 2 _ rfl 15 6 (by kernel_rfl) (by kernel_rfl) opens_req)).and (opens_field Try.underlying27 3 _ rfl 15 1 (by kernel_rfl) (by kernel_rfl) (opens_ints Try.underlying23 Try.underlying3 (by kernel_rfl)))).mono
  fun W cs ⟨⟨⟨⟨hl, c0, c1, e0⟩, _, a, A, k, e1, ha, hA⟩, _, b, B, m, e2, hb, hB⟩, _, L, ln, lc, lz, e3, l3, m3, hL⟩ => by
    match cs, hl with
    | [d0, d1, d2, d3, d4, d5, d6, d7, d8, d9, d10, d11, d12, d13, d14], _ =>
      simp at e0 e1 e2 e3
      obtain ⟨rfl, rfl⟩ := e0
      obtain ⟨rfl, rfl, rfl, rfl, rfl, rfl⟩ := e1
      obtain ⟨rfl, rfl, rfl, rfl, rfl, rfl⟩ := e2
      subst e3
      exact ⟨c0, c1, a, A, k, b, B, m, L, ln, lc, lz, rfl, ha, hA, hb, hB, l3, m3, hL.1⟩
/-- Where a list may lie: from mid on, or below lo; and below hi. -/
def Lies (lo mid hi : Nat) (A : Option Addr) (n : Nat) : Prop := 0 < n → ∀ p, A = some p → p.block < hi ∧ (mid ≤ p.block ∨ p.block < lo)
/-- Facts whose lists lie so. -/
def FaLies (lo mid hi : Nat) (f : FactsP) (SA VA RA : Option Addr) : Prop := Lies lo mid hi SA f.sp.length ∧ Lies lo mid hi VA f.vs.length ∧ Lies lo mid hi RA f.rg.length
theorem row_lt {α : Type} {enc : α → List Value} {k : Nat} {w : World} {n : Nat} {A : Option Addr} {zs : List α} (h : Row enc k w w.heap.size A n zs) (hn : 0 < n) {p : Addr} (hp : A = some p) : p.block < w.heap.size := by
  obtain ⟨b, off, e, hb, _⟩ := h.2 hn
  rw [e] at hp
  injection hp with hp
  rw [← hp]; exact hb
theorem ints_lt {k : IntKind} {w : World} {n : Nat} {A : Option Addr} {zs : List Int} (h : Ints k w w.heap.size A n zs) (hn : 0 < n) {p : Addr} (hp : A = some p) : p.block < w.heap.size := by
  obtain ⟨b, off, e, hb, _⟩ := h.2 hn
  rw [e] at hp
  injection hp with hp
  rw [← hp]; exact hb
theorem ret_lies {f : FactsP} {A SA VA RA : Option Addr} {lo : Nat} {W W' : World} (hF : FaAt W' f SA VA RA) (fr : FreshB W SA f.sp.length ∧ (FreshB W VA f.vs.length ∨ VA = A) ∧ (FreshB W RA f.rg.length ∨ RA = A))
    (hv : 0 < f.vs.length → ∀ p, A = some p → p.block < lo) (hr : 0 < f.rg.length → ∀ p, A = some p → p.block < lo) : FaLies lo W.heap.size W'.heap.size f SA VA RA := by
  obtain ⟨f1, f2, f3⟩ := fr
  refine ⟨fun hn p hp => ⟨row_lt hF.1 hn hp, .inl (f1 hn p hp)⟩, fun hn p hp => ⟨ints_lt hF.2.1 hn hp, ?_⟩, fun hn p hp => ⟨ints_lt hF.2.2 hn hp, ?_⟩⟩
  · rcases f2 with f2 | rfl
    · exact .inl (f2 hn p hp)
    · exact .inr (hv hn p hp)
  · rcases f3 with f3 | rfl
    · exact .inl (f3 hn p hp)
    · exact .inr (hr hn p hp)
theorem lies_ne {lo mid hi n q : Nat} {A : Option Addr} (h : Lies lo mid hi A n) (hl : lo ≤ q) (hq : q < mid ∨ hi ≤ q) : 0 < n → ∀ p, A = some p → p.block ≠ q := fun hn p hp => by
  have := h hn p hp
  omega
theorem fa_set {lo mid hi : Nat} {f : FactsP} {SA VA RA : Option Addr} {W : World} (hL : FaLies lo mid hi f SA VA RA) {q : Nat} (hl : lo ≤ q) (hq : q < mid ∨ hi ≤ q) (i : Nat) (v : Value) (h : FaAt W f SA VA RA) : FaAt (W.setCell ⟨q, i, none⟩ v) f SA VA RA := by
  have hc : ∀ p : Addr, p.block ≠ q → (W.setCell ⟨q, i, none⟩ v).cell? p = W.cell? p := fun p hp => World.cell?_of_block (Below.heap_setCell _ _ _ _ hp)
  have hs : W.heap.size ≤ (W.setCell ⟨q, i, none⟩ v).heap.size := by simp [World.setCell]
  exact ⟨Row.apart h.1 (lies_ne hL.1 hl hq) hs hc, Ints.apart h.2.1 (lies_ne hL.2.1 hl hq) hs hc, Ints.apart h.2.2 (lies_ne hL.2.2 hl hq) hs hc⟩
theorem few_of {c u : Int} {a : AskP} (h : a.vs.length ≤ 3000) : few (of c u a) := by
  have h1 : (of c u a).sp.length ≤ 2 := by
    show (reads a ++ writes a).length ≤ 2
    unfold reads writes
    split <;> split <;> simp
  have h2 : (of c u a).rg.length ≤ a.vs.length := by
    show (regs a).length ≤ _
    unfold regs
    split <;> simp
  have h3 : (of c u a).vs.length = a.vs.length := rfl
  exact ⟨by omega, by omega, by omega⟩
theorem same_self (f : FactsP) : same f f = true := by
  unfold same
  simp
/-- What Reals answers, in one form. -/
theorem reals_form {zs : List Int} {w w' : World} {e : Ending} (h : RetReals zs w e w') : ∃ A c xs ok, e = .returned (.tuple #[.slice A xs.length c, .bool ok]) ∧ Row encFl 1 w' w'.heap.size A xs.length xs ∧ Keep w w' ∧
    ((reals zs = none ∧ xs = [] ∧ ok = false) ∨ ∃ bs, reals zs = some bs ∧ Near xs bs ∧ ok = true) := by
  unfold RetReals at h
  cases hr : reals zs with
  | none =>
    rw [hr] at h
    obtain ⟨A, c, rfl, hk⟩ := h
    exact ⟨A, c, [], false, rfl, Row.none_ _ _ _, hk, .inl ⟨rfl, rfl, rfl⟩⟩
  | some bs =>
    rw [hr] at h
    obtain ⟨A, c, xs, rfl, h1, h2, h3⟩ := h
    exact ⟨A, c, xs, true, rfl, h1, h3, .inr ⟨bs, rfl, h2, rfl⟩⟩
theorem reals_len : ∀ (zs : List Int) (bs : List Nat), reals zs = some bs → bs.length ≤ zs.length
  | [], bs, h => by
    injection h with h
    subst h; simp
  | a :: b :: c :: d :: l, bs, h => by
    rw [reals] at h
    by_cases ho : okL [a, b, c, d] = true
    · rw [if_pos ho] at h
      cases hr : reals l with
      | none => rw [hr] at h; cases h
      | some cs =>
        rw [hr] at h
        injection h with h
        subst h
        have := reals_len l cs hr
        simp only [List.length_cons]
        omega
    · rw [if_neg ho] at h; cases h
  | [a], bs, h => by cases h
  | [a, b], bs, h => by cases h
  | [a, b, c], bs, h => by cases h
theorem form_len {zs : List Int} {xs : List Nat} {p : Bool} (hx : (reals zs = none ∧ xs = [] ∧ p = false) ∨ ∃ bs, reals zs = some bs ∧ Near xs bs ∧ p = true) : xs.length ≤ zs.length := by
  rcases hx with ⟨_, rfl, _⟩ | ⟨bs, h, hn, _⟩
  · simp
  · rw [hn.len]; exact reals_len _ _ h
theorem reals_two {zs : List Int} {xs ys : List Nat} {p q : Bool} (hx : (reals zs = none ∧ xs = [] ∧ p = false) ∨ ∃ bs, reals zs = some bs ∧ Near xs bs ∧ p = true) (hy : (reals zs = none ∧ ys = [] ∧ q = false) ∨ ∃ bs, reals zs = some bs ∧ Near ys bs ∧ q = true) :
    floats xs ys = true ∧ p = q ∧ (∀ x ∈ xs, x < 18446744073709551616) ∧ (∀ x ∈ ys, x < 18446744073709551616) := by
  rcases hx with ⟨h0, rfl, rfl⟩ | ⟨bs, h0, h1, rfl⟩
  · rcases hy with ⟨_, rfl, rfl⟩ | ⟨bs, h2, _⟩
    · exact ⟨rfl, rfl, fun x hx => by (cases hx), fun x hx => by (cases hx)⟩
    · rw [h0] at h2; cases h2
  · rcases hy with ⟨h2, _⟩ | ⟨cs, h2, h3, rfl⟩
    · rw [h0] at h2; cases h2
    · rw [h0] at h2
      injection h2 with h2
      subst h2
      exact ⟨floats_near h1 h3, rfl, Near.mem h1, Near.mem h3⟩
/-- A box of facts that is just made. -/
def Nw (W : World) (q : Nat) : Prop := Bx W q [.int .i64 0, .int .i64 0, .int .i64 0, .slice none 0 0, .slice none 0 0, .slice none 0 0] ∧ ∀ j, W.frozen? ⟨q, j, none⟩ = false
theorem Nw.kept {W W' : World} {q : Nat} (h : Nw W q) (hk : Keep W W') : Nw W' q := ⟨h.1.kept hk, fun j => (Below.frozen hk (by show q < _; exact h.1.1)).trans (h.2 j)⟩
theorem Nw.new (W : World) : Nw (W.alloc (.cells #[.int .i64 0, .int .i64 0, .int .i64 0, .slice none 0 0, .slice none 0 0, .slice none 0 0] 36)) W.heap.size := ⟨Bx.newq rfl, fun j => by go_simp⟩
theorem Nw.two (W : World) : Nw ((W.alloc (.cells #[.int .i64 0, .int .i64 0, .int .i64 0, .slice none 0 0, .slice none 0 0, .slice none 0 0] 36)).alloc (.cells #[.int .i64 0, .int .i64 0, .int .i64 0, .slice none 0 0, .slice none 0 0, .slice none 0 0] 36)) (W.heap.size + 1) := by
  have h := Nw.new (W.alloc (.cells #[.int .i64 0, .int .i64 0, .int .i64 0, .slice none 0 0, .slice none 0 0, .slice none 0 0] 36))
  rwa [show (W.alloc (.cells #[.int .i64 0, .int .i64 0, .int .i64 0, .slice none 0 0, .slice none 0 0, .slice none 0 0] 36)).heap.size = W.heap.size + 1 by simp] at h
theorem kset {a W : World} {q i : Nat} (h : Keep a W) (hq : a.heap.size ≤ q) (v : Value) : Keep a (W.setCell ⟨q, i, none⟩ v) := Below.setCell h hq v
theorem keep_le {a W : World} (h : Keep a W) : a.heap.size ≤ W.heap.size := h.size
theorem keep_hid {a W : World} (h : Keep a W) : Hid (a.heap.size ≤ W.heap.size) := h.size
theorem keep_hid2 {a W : World} {m : Nat} (h : Keep a W) (e : a.heap.size = m) : Hid (m ≤ W.heap.size) := e ▸ (keep_le h)
theorem Nw.set {W : World} {q b i : Nat} (h : Nw W q) (hb : q ≠ b) (v : Value) : Nw (W.setCell ⟨b, i, none⟩ v) q := ⟨h.1.set hb v, fun j => (World.frozen?_of_block (Below.heap_setCell _ _ _ _ hb)).trans (h.2 j)⟩
theorem Nw.alloc {W : World} {q : Nat} (h : Nw W q) (O : Obj) : Nw (W.alloc O) q := h.kept ((Keep.refl W).alloc O)
theorem lies_mid {lo mid hi m : Nat} {f : FactsP} {SA VA RA : Option Addr} (h : FaLies lo mid hi f SA VA RA) (e : mid = m) : FaLies lo m hi f SA VA RA := e ▸ h
theorem Nw.ne {W : World} {q : Nat} (h : Nw W q) : q ≠ W.heap.size := Nat.ne_of_lt h.1.1
theorem Nw.out {W : World} {q : Nat} (h : Nw W q) : (W.cell? ⟨q, 0, none⟩ = some (.int .i64 0) ∧ W.cell? ⟨q, 1, none⟩ = some (.int .i64 0) ∧ W.cell? ⟨q, 2, none⟩ = some (.int .i64 0) ∧ W.cell? ⟨q, 3, none⟩ = some (.slice none 0 0) ∧ W.cell? ⟨q, 4, none⟩ = some (.slice none 0 0) ∧ W.cell? ⟨q, 5, none⟩ = some (.slice none 0 0)) ∧
    (W.frozen? ⟨q, 0, none⟩ = false ∧ W.frozen? ⟨q, 1, none⟩ = false ∧ W.frozen? ⟨q, 2, none⟩ = false ∧ W.frozen? ⟨q, 3, none⟩ = false ∧ W.frozen? ⟨q, 4, none⟩ = false ∧ W.frozen? ⟨q, 5, none⟩ = false) :=
  ⟨h.1.six, h.2 0, h.2 1, h.2 2, h.2 3, h.2 4, h.2 5⟩
theorem bx_six {W : World} {q : Nat} {v0 v1 v2 v3 v4 v5 : Value} (h0 : W.cell? ⟨q, 0, none⟩ = some v0) (h1 : W.cell? ⟨q, 1, none⟩ = some v1) (h2 : W.cell? ⟨q, 2, none⟩ = some v2) (h3 : W.cell? ⟨q, 3, none⟩ = some v3) (h4 : W.cell? ⟨q, 4, none⟩ = some v4) (h5 : W.cell? ⟨q, 5, none⟩ = some v5) : Bx W q [v0, v1, v2, v3, v4, v5] := by
  refine ⟨cell_lt h0, fun j v hj => ?_⟩
  match j with
  | 0 => injection hj with hj; rw [← hj]; exact h0
  | 1 => injection hj with hj; rw [← hj]; exact h1
  | 2 => injection hj with hj; rw [← hj]; exact h2
  | 3 => injection hj with hj; rw [← hj]; exact h3
  | 4 => injection hj with hj; rw [← hj]; exact h4
  | 5 => injection hj with hj; rw [← hj]; exact h5
  | j + 6 => cases hj
theorem nw_sets {W : World} {q : Nat} (h : Nw W q) (v0 v1 v2 v3 v4 v5 : Value) : Bx ((((((W.setCell ⟨q, 0, none⟩ v0).setCell ⟨q, 1, none⟩ v1).setCell ⟨q, 2, none⟩ v2).setCell ⟨q, 3, none⟩ v3).setCell ⟨q, 4, none⟩ v4).setCell ⟨q, 5, none⟩ v5) q [v0, v1, v2, v3, v4, v5] := by
  obtain ⟨⟨c0, c1, c2, c3, c4, c5⟩, f0, f1, f2, f3, f4, f5⟩ := h.out
  exact bx_six (by go_simp) (by go_simp) (by go_simp) (by go_simp) (by go_simp) (by go_simp)
theorem Nw.al {W : World} {q : Nat} (h : Nw W q) : (∀ O, (W.alloc O).cell? ⟨q, 0, none⟩ = some (.int .i64 0)) ∧ (∀ O, (W.alloc O).cell? ⟨q, 1, none⟩ = some (.int .i64 0)) ∧ (∀ O, (W.alloc O).cell? ⟨q, 2, none⟩ = some (.int .i64 0)) ∧ (∀ O, (W.alloc O).cell? ⟨q, 3, none⟩ = some (.slice none 0 0)) ∧ (∀ O, (W.alloc O).cell? ⟨q, 4, none⟩ = some (.slice none 0 0)) ∧ (∀ O, (W.alloc O).cell? ⟨q, 5, none⟩ = some (.slice none 0 0)) ∧ (∀ O, (W.alloc O).frozen? ⟨q, 0, none⟩ = false) ∧ (∀ O, (W.alloc O).frozen? ⟨q, 1, none⟩ = false) ∧ (∀ O, (W.alloc O).frozen? ⟨q, 2, none⟩ = false) ∧ (∀ O, (W.alloc O).frozen? ⟨q, 3, none⟩ = false) ∧ (∀ O, (W.alloc O).frozen? ⟨q, 4, none⟩ = false) ∧ (∀ O, (W.alloc O).frozen? ⟨q, 5, none⟩ = false) :=
  have k := fun O => (h.kept ((Keep.refl W).alloc O)).out
  ⟨fun O => (k O).1.1, fun O => (k O).1.2.1, fun O => (k O).1.2.2.1, fun O => (k O).1.2.2.2.1, fun O => (k O).1.2.2.2.2.1, fun O => (k O).1.2.2.2.2.2, fun O => (k O).2.1, fun O => (k O).2.2.1, fun O => (k O).2.2.2.1, fun O => (k O).2.2.2.2.1, fun O => (k O).2.2.2.2.2.1, fun O => (k O).2.2.2.2.2.2⟩
set_option maxHeartbeats 8000000 in
theorem tells_law (c0 c1 : Int) (a : AskP) (A : Option Addr) (k : Nat) (b : AskP) (B : Option Addr) (m : Nat) (L : Option Addr) (ln lc : Nat) (lz : List Int) (w : World)
    (ha : a.vs.length ≤ maxLen) (hA : Ints .i64 w w.heap.size A a.vs.length a.vs) (hb : b.vs.length ≤ maxLen) (hB : Ints .i64 w w.heap.size B b.vs.length b.vs) (hl : ln ≤ lc) (hlm : lc ≤ maxLen) (hL : Ints .i64 w w.heap.size L ln lz) :
    Calls Try.prog 3 #[.agg #[.int .i64 c0, .int .i64 c1, .int .i64 a.fc, .int .i64 a.rd, .int .i64 a.ct, .int .i64 a.wr, .int .i64 a.mn, .slice A a.vs.length k, .int .i64 b.fc, .int .i64 b.rd, .int .i64 b.ct, .int .i64 b.wr, .int .i64 b.mn, .slice B b.vs.length m, .slice L ln lc]] w fun e w' => e = .returned (.bool true) ∧ Keep w w' := by
  have CW := Lib.hid (fun W => awake_any W)
  obtain ⟨X, hX⟩ : ∃ X, X = w.alloc (.cells #[.int .i64 c0, .int .i64 c1, .int .i64 a.fc, .int .i64 a.rd, .int .i64 a.ct, .int .i64 a.wr, .int .i64 a.mn, .slice A a.vs.length k, .int .i64 b.fc, .int .i64 b.rd, .int .i64 b.ct, .int .i64 b.wr, .int .i64 b.mn, .slice B b.vs.length m, .slice L ln lc] 27) := ⟨_, rfl⟩
  have kb : Keep w X := by rw [hX]; exact (Keep.refl w).alloc _
  have hS0 : Bx X w.heap.size [.int .i64 c0, .int .i64 c1, .int .i64 a.fc, .int .i64 a.rd, .int .i64 a.ct, .int .i64 a.wr, .int .i64 a.mn, .slice A a.vs.length k, .int .i64 b.fc, .int .i64 b.rd, .int .i64 b.ct, .int .i64 b.wr, .int .i64 b.mn, .slice B b.vs.length m, .slice L ln lc] := by
    rw [hX]
    exact ⟨by simp, fun j v hj => by
      rw [World.cell?_alloc_at (hn := rfl)]
      simpa using hj⟩
  have hS : ∀ W, Keep X W → W.cell? ⟨w.heap.size, 0, none⟩ = some (.int .i64 c0) ∧ W.cell? ⟨w.heap.size, 1, none⟩ = some (.int .i64 c1) ∧ W.cell? ⟨w.heap.size, 2, none⟩ = some (.int .i64 a.fc) ∧ W.cell? ⟨w.heap.size, 3, none⟩ = some (.int .i64 a.rd) ∧ W.cell? ⟨w.heap.size, 4, none⟩ = some (.int .i64 a.ct) ∧ W.cell? ⟨w.heap.size, 5, none⟩ = some (.int .i64 a.wr) ∧ W.cell? ⟨w.heap.size, 6, none⟩ = some (.int .i64 a.mn) ∧ W.cell? ⟨w.heap.size, 7, none⟩ = some (.slice A a.vs.length k) ∧ W.cell? ⟨w.heap.size, 8, none⟩ = some (.int .i64 b.fc) ∧ W.cell? ⟨w.heap.size, 9, none⟩ = some (.int .i64 b.rd) ∧ W.cell? ⟨w.heap.size, 10, none⟩ = some (.int .i64 b.ct) ∧ W.cell? ⟨w.heap.size, 11, none⟩ = some (.int .i64 b.wr) ∧ W.cell? ⟨w.heap.size, 12, none⟩ = some (.int .i64 b.mn) ∧ W.cell? ⟨w.heap.size, 13, none⟩ = some (.slice B b.vs.length m) ∧ W.cell? ⟨w.heap.size, 14, none⟩ = some (.slice L ln lc) := fun W hk => by
    have h := (hS0.kept hk).2
    exact ⟨h 0 _ rfl, h 1 _ rfl, h 2 _ rfl, h 3 _ rfl, h 4 _ rfl, h 5 _ rfl, h 6 _ rfl, h 7 _ rfl, h 8 _ rfl, h 9 _ rfl, h 10 _ rfl, h 11 _ rfl, h 12 _ rfl, h 13 _ rfl, h 14 _ rfl⟩
  have hsX : w.heap.size < X.heap.size := hS0.1
  have kX := Keep.refl X
  have kD := keepd (Keep.refl X)
  go_enter Try.func3, Try.ntmps3
  go_wp2_with fail
  rw [← hX]
  clear hX hS0
  go_cut [3, 4, 5, 6] from 14 (fun pc pa pb vl W => ∃ q3 q4 q5, pc = .pointer (some ⟨q3, 0, none⟩) ∧ pa = .pointer (some ⟨q4, 0, none⟩) ∧ pb = .pointer (some ⟨q5, 0, none⟩) ∧ vl = .slice L ln lc ∧ Bx W q3 [.int .i64 c0, .int .i64 c1] ∧ Bx W q4 [.int .i64 a.fc, .int .i64 a.rd, .int .i64 a.ct, .int .i64 a.wr, .int .i64 a.mn, .slice A a.vs.length k] ∧ Bx W q5 [.int .i64 b.fc, .int .i64 b.rd, .int .i64 b.ct, .int .i64 b.wr, .int .i64 b.mn, .slice B b.vs.length m] ∧ Keep X W)
  case first =>
    go_region_held3 (fun W => W.cell? ⟨w.heap.size, 0, none⟩ = some (.int .i64 c0) ∧ W.cell? ⟨w.heap.size, 1, none⟩ = some (.int .i64 c1) ∧ W.cell? ⟨w.heap.size, 2, none⟩ = some (.int .i64 a.fc) ∧ W.cell? ⟨w.heap.size, 3, none⟩ = some (.int .i64 a.rd) ∧ W.cell? ⟨w.heap.size, 4, none⟩ = some (.int .i64 a.ct) ∧ W.cell? ⟨w.heap.size, 5, none⟩ = some (.int .i64 a.wr) ∧ W.cell? ⟨w.heap.size, 6, none⟩ = some (.int .i64 a.mn) ∧ W.cell? ⟨w.heap.size, 7, none⟩ = some (.slice A a.vs.length k) ∧ W.cell? ⟨w.heap.size, 8, none⟩ = some (.int .i64 b.fc) ∧ W.cell? ⟨w.heap.size, 9, none⟩ = some (.int .i64 b.rd) ∧ W.cell? ⟨w.heap.size, 10, none⟩ = some (.int .i64 b.ct) ∧ W.cell? ⟨w.heap.size, 11, none⟩ = some (.int .i64 b.wr) ∧ W.cell? ⟨w.heap.size, 12, none⟩ = some (.int .i64 b.mn) ∧ W.cell? ⟨w.heap.size, 13, none⟩ = some (.slice B b.vs.length m) ∧ W.cell? ⟨w.heap.size, 14, none⟩ = some (.slice L ln lc))
      (first
        | with_reducible exact hS _ kX
        | with_reducible exact hS _ kD
        | with_reducible exact hS _ (kX.alloc _)
        | with_reducible exact hS _ (kD.alloc _)
        | with_reducible exact hS _ ((kX.alloc _).alloc _)
        | with_reducible exact hS _ ((kD.alloc _).alloc _)
        | with_reducible exact hS _ (((kX.alloc _).alloc _).alloc _)
        | with_reducible exact hS _ (((kD.alloc _).alloc _).alloc _)
        | with_reducible exact hS _ (keepd (kX.alloc _))
        | with_reducible exact hS _ (keepd ((kX.alloc _).alloc _))
        | with_reducible exact hS _ (keepd (((kX.alloc _).alloc _).alloc _))
        | fail)
      (fail)
    all_goals (go_wp2_with fail; go_meet; refine ⟨_, _, _, rfl, rfl, rfl, rfl, ?_, ?_, ?_, ?_⟩ <;> repeat' (first | with_reducible exact kX | with_reducible exact Bx.newq (by first | rfl | (simp; done)) | with_reducible refine Bx.drew ?_ | with_reducible refine Bx.alloc ?_ _ | with_reducible refine keepd ?_ | with_reducible refine Keep.alloc ?_ _))
  case rest =>
   obtain ⟨q3, q4, q5, rfl, rfl, rfl, rfl, h3, h4, h5, k1⟩ := hcut
   have hw0 : Keep w wc := kb.trans k1
   obtain ⟨a0, a1, a2, a3, a4, a5⟩ := h4.six
   obtain ⟨b0, b1, b2, b3, b4, b5⟩ := h5.six
   clear hS hsX kX kD kb k1
   by_cases g1 : 3000 < a.vs.length
   · have e1 : decide ((a.vs.length : Int) > 3000) = true := by simp; omega
     clear g1
     go_wp2_with fail
     refine (CW.out _).mono ?_
     rintro e w1 ⟨rfl, k1⟩
     go_wp2
     go_ret
     exact ⟨rfl, hw0.trans k1⟩
   have e1 : decide ((a.vs.length : Int) > 3000) = false := by simp; omega
   by_cases g2 : 3000 < b.vs.length
   · have e2 : decide ((b.vs.length : Int) > 3000) = true := by simp; omega
     clear g1 g2
     go_wp2_with fail
     refine (CW.out _).mono ?_
     rintro e w1 ⟨rfl, k1⟩
     go_wp2
     go_ret
     exact ⟨rfl, hw0.trans k1⟩
   have e2 : decide ((b.vs.length : Int) > 3000) = false := by simp; omega
   by_cases g3 : 100 < ln
   · have e3 : decide ((ln : Int) > 100) = true := by simp; omega
     clear g1 g2 g3
     go_wp2_with fail
     refine (CW.out _).mono ?_
     rintro e w1 ⟨rfl, k1⟩
     go_wp2
     go_ret
     exact ⟨rfl, hw0.trans k1⟩
   have e3 : decide ((ln : Int) > 100) = false := by simp; omega
   have HLZ := Lib.hid (show lz.length ≤ 1000000 by have := hL.1; omega)
   have CX := Lib.hid (fun W (hW : Keep w W) => reals_any L ln lc lz W (by omega) hl hlm (hL.kept hW))
   have CY := Lib.hid (fun W (hW : Keep w W) => ref_reals_any L ln lc lz W (by omega) hl hlm (hL.kept hW))
   have CA := Lib.hid (fun W (hW : Keep w W) => Ref6.right_any A a.vs.length k a W (by omega) (hA.kept hW))
   have CB := Lib.hid (fun W (hW : Keep w W) => Ref6.right_any B b.vs.length m b W (by omega) (hB.kept hW))
   have ha3 : a.vs.length ≤ 3000 := by omega
   have hb3 : b.vs.length ≤ 3000 := by omega
   have HA3 := Lib.hid ha3
   have HB3 := Lib.hid hb3
   clear g1 g2 g3 hl hlm hL ha hb ha3 hb3
   have FA : ∀ W, Keep wc W → Bx W q4 [.int .i64 a.fc, .int .i64 a.rd, .int .i64 a.ct, .int .i64 a.wr, .int .i64 a.mn, .slice A a.vs.length k] := fun W hW => h4.kept hW
   have FB : ∀ W, Keep wc W → Bx W q5 [.int .i64 b.fc, .int .i64 b.rd, .int .i64 b.ct, .int .i64 b.wr, .int .i64 b.mn, .slice B b.vs.length m] := fun W hW => h5.kept hW
   have FC : ∀ W, Keep wc W → Bx W q3 [.int .i64 c0, .int .i64 c1] := fun W hW => h3.kept hW
   clear h3 h4 h5
   go_wp2_with fail
   refine (CX.out _ hw0).mono ?_
   rintro e w1 hr1
   obtain ⟨A1, l1, xs, p, rfl, hx1, k1, n1⟩ := reals_form hr1
   clear hr1 a0 a1 a2 a3 a4 a5 b0 b1 b2 b3 b4 b5
   go_wp2_with fail
   refine (CY.out _ (hw0.trans k1)).mono ?_
   rintro e w2 hr2
   obtain ⟨A2, l2, ys, q, rfl, hx2, k2, n2⟩ := reals_form hr2
   clear hr2
   obtain ⟨HFL, rfl, m1, m2⟩ := reals_two n1 n2
   have k12 : Keep wc w2 := k1.trans k2
   have hxl : xs.length ≤ 1000000 := Nat.le_trans (form_len n1) HLZ.out
   have CF := Lib.hid (ref_floats_any A1 A2 xs.length ys.length l1 l2 xs ys w2 hxl (hx1.kept k2) hx2 m1 m2)
   rw [HFL] at CF
   clear n1 n2 m1 m2 hx1 hx2 HFL hxl
   obtain ⟨a0, a1, a2, a3, a4, a5⟩ := (FA _ k12).six
   generalize xs.length = nx at *
   generalize ys.length = ny at *
   go_wp2_with fail
   refine CF.out.mono ?_
   rintro e w3 ⟨rfl, k3⟩
   have k13 : Keep wc w3 := k12.trans k3
   clear a0 a1 a2 a3 a4 a5
   obtain ⟨a0, a1, a2, a3, a4, a5⟩ := (FA _ k13).six
   have ep : (p != p) = false := by cases p <;> rfl
   cases hra : Ak.right a
   · have CA1 := Lib.hid (CA.out w3 (hw0.trans k13))
     rw [hra] at CA1
     go_wp2_with fail
     refine CA1.out.mono ?_
     rintro e w4 ⟨rfl, k4⟩
     go_wp2_with fail
     refine (CW.out _).mono ?_
     rintro e w5 ⟨rfl, k5⟩
     go_wp2
     go_ret
     exact ⟨rfl, (((hw0.trans k13).trans k4).trans k5)⟩
   have CA1 := CA.out w3 (hw0.trans k13)
   rw [hra] at CA1
   replace CA1 := Lib.hid CA1
   go_wp2_with fail
   refine CA1.out.mono ?_
   rintro e w4 ⟨rfl, k4⟩
   have k14 : Keep wc w4 := k13.trans k4
   clear a0 a1 a2 a3 a4 a5
   obtain ⟨b0, b1, b2, b3, b4, b5⟩ := (FB _ k14).six
   have CB1 := CB.out w4 (hw0.trans k14)
   cases hrb : Ak.right b
   · rw [hrb] at CB1
     replace CB1 := Lib.hid CB1
     go_wp2_with fail
     refine CB1.out.mono ?_
     rintro e w5 ⟨rfl, k5⟩
     go_wp2_with fail
     refine (CW.out _).mono ?_
     rintro e w6 ⟨rfl, k6⟩
     go_wp2
     go_ret
     exact ⟨rfl, (((hw0.trans k14).trans k5).trans k6)⟩
   rw [hrb] at CB1
   replace CB1 := Lib.hid CB1
   go_wp2_with fail
   refine CB1.out.mono ?_
   rintro e Y ⟨rfl, k5⟩
   have hY : Keep wc Y := k14.trans k5
   have hwY : Keep w Y := hw0.trans hY
   have C1 := Lib.hid (fun W (hW : Keep Y W) => of_any c0 c1 a A k W (Nat.le_trans HA3.out (by omega)) (right_fit hra) (right_nonneg hra).1 (right_nonneg hra).2 (hA.kept (hwY.trans hW)))
   have C2 := Lib.hid (fun W (hW : Keep Y W) => ref_of_any c0 c1 a A k W (Nat.le_trans HA3.out (by omega)) (right_fit hra) (hA.kept (hwY.trans hW)))
   have C3 := Lib.hid (fun W (hW : Keep Y W) => ref_of_any c0 c1 b B m W (Nat.le_trans HB3.out (by omega)) (right_fit hrb) (hB.kept (hwY.trans hW)))
   have HAL := Lib.hid (show 0 < a.vs.length → ∀ p, A = some p → p.block < Y.heap.size from fun hn p hp => Nat.lt_of_lt_of_le (ints_lt hA hn hp) hwY.size)
   have hS : ∀ W, Keep Y W → W.cell? ⟨q3, 0, none⟩ = some (.int .i64 c0) ∧ W.cell? ⟨q3, 1, none⟩ = some (.int .i64 c1) ∧ W.cell? ⟨q4, 0, none⟩ = some (.int .i64 a.fc) ∧ W.cell? ⟨q4, 1, none⟩ = some (.int .i64 a.rd) ∧ W.cell? ⟨q4, 2, none⟩ = some (.int .i64 a.ct) ∧ W.cell? ⟨q4, 3, none⟩ = some (.int .i64 a.wr) ∧ W.cell? ⟨q4, 4, none⟩ = some (.int .i64 a.mn) ∧ W.cell? ⟨q4, 5, none⟩ = some (.slice A a.vs.length k) := fun W h => by
     obtain ⟨z0, z1⟩ := (FC _ (hY.trans h)).two
     exact ⟨z0, z1, (FA _ (hY.trans h)).six⟩
   clear CA CB CA1 CB1 CX CY CF hra hrb k1 k2 k3 k4 k5 k12 k13 k14 ep b0 b1 b2 b3 b4 b5
   have kY := Keep.refl Y
   have kD := keepd (Keep.refl Y)
   obtain ⟨fa, hfa⟩ : ∃ f, f = of c0 c1 a := ⟨_, rfl⟩
   rw [← hfa] at C1 C2
   have HFA := Lib.hid hfa
   have HVL : 0 < fa.vs.length → ∀ p, A = some p → p.block < Y.heap.size := by rw [hfa]; exact HAL.out
   have HRL : 0 < fa.rg.length → ∀ p, A = some p → p.block < Y.heap.size := by
     rw [hfa]
     show 0 < (regs a).length → _
     unfold regs
     split
     · exact HAL.out
     · intro hn; exact absurd hn (Nat.lt_irrefl 0)
   replace HVL := Lib.hid HVL
   replace HRL := Lib.hid HRL
   clear hfa HAL
   go_wp2_with fail
   go_cut [11, 12] from 66 (fun pf pg W => ∃ q6 q7 SA VA RA u1 u2 u3 SB VB RB v1 v2 v3, pf = .pointer (some ⟨q6, 0, none⟩) ∧ pg = .pointer (some ⟨q7, 0, none⟩) ∧
     Bx W q6 [.int .i64 fa.cl, .int .i64 fa.un, .int .i64 fa.fc, .slice SA fa.sp.length u1, .slice VA fa.vs.length u2, .slice RA fa.rg.length u3] ∧ Bx W q7 [.int .i64 fa.cl, .int .i64 fa.un, .int .i64 fa.fc, .slice SB fa.sp.length v1, .slice VB fa.vs.length v2, .slice RB fa.rg.length v3] ∧ FaAt W fa SA VA RA ∧ FaAt W fa SB VB RB ∧ Keep Y W)
   case first =>
     go_region_held3 (fun W => W.cell? ⟨q3, 0, none⟩ = some (.int .i64 c0) ∧ W.cell? ⟨q3, 1, none⟩ = some (.int .i64 c1) ∧ W.cell? ⟨q4, 0, none⟩ = some (.int .i64 a.fc) ∧ W.cell? ⟨q4, 1, none⟩ = some (.int .i64 a.rd) ∧ W.cell? ⟨q4, 2, none⟩ = some (.int .i64 a.ct) ∧ W.cell? ⟨q4, 3, none⟩ = some (.int .i64 a.wr) ∧ W.cell? ⟨q4, 4, none⟩ = some (.int .i64 a.mn) ∧ W.cell? ⟨q4, 5, none⟩ = some (.slice A a.vs.length k))
       (first
         | with_reducible exact hS _ kY
         | with_reducible exact hS _ kD
         | with_reducible exact hS _ kw
         | with_reducible exact hS _ (kw.alloc _)
         | with_reducible exact hS _ ((kw.alloc _).alloc _)
         | with_reducible exact hS _ (keepd (kY.alloc _))
         | with_reducible exact hS _ (keepd ((kY.alloc _).alloc _))
         | (refine hS _ ?_; repeat' (first | with_reducible exact kw | with_reducible exact kD | with_reducible refine Keep.alloc ?_ _ | with_reducible refine kset ?_ ?_ _ | with_reducible exact Nat.le_refl _ | with_reducible exact Nat.le_succ _ | with_reducible exact z6.out | with_reducible exact Nat.le_succ_of_le z6.out | with_reducible exact z7.out | with_reducible exact Nat.le_succ_of_le z7.out))
         | fail)
       ((first
         | (go_at_call 13; with_reducible refine (C1.out _ kD).mono ?_; intro e w6 hh; unfold RetOf at hh; obtain ⟨SA, VA, RA, u1, u2, u3, rfl, hF6, k6, fr6⟩ := hh; have l6 := ret_lies hF6 fr6 HVL.out HRL.out; clear fr6; have kw := kD.trans k6; have z6 := keep_hid kw; have l6 := lies_mid (m := Y.heap.size + 0) l6 (by simp); have s6 := keep_hid2 (m := Y.heap.size + 0) k6 (by simp); have c0n := True.intro)
         | (go_at_call 13; with_reducible refine (C1.out _ (keepd (kY.alloc _))).mono ?_; intro e w6 hh; unfold RetOf at hh; obtain ⟨SA, VA, RA, u1, u2, u3, rfl, hF6, k6, fr6⟩ := hh; have l6 := ret_lies hF6 fr6 HVL.out HRL.out; clear fr6; have kw := (keepd (kY.alloc _)).trans k6; have z6 := keep_hid kw; have n1 : Nw w6 Y.heap.size := ((Nw.new Y).kept (keepd (Keep.refl _))).kept k6; have l6 := lies_mid (m := Y.heap.size + 1) l6 (by simp); have s6 := keep_hid2 (m := Y.heap.size + 1) k6 (by simp); have c1n := True.intro; have y1 : Y.heap.size ≠ w6.heap.size := n1.ne; have y2 := y1.symm)
         | (go_at_call 13; with_reducible refine (C1.out _ (keepd ((kY.alloc _).alloc _))).mono ?_; intro e w6 hh; unfold RetOf at hh; obtain ⟨SA, VA, RA, u1, u2, u3, rfl, hF6, k6, fr6⟩ := hh; have l6 := ret_lies hF6 fr6 HVL.out HRL.out; clear fr6; have kw := (keepd ((kY.alloc _).alloc _)).trans k6; have z6 := keep_hid kw; have n1 : Nw w6 Y.heap.size := ((Nw.new Y).kept (keepd ((Keep.refl _).alloc _))).kept k6; have n2 : Nw w6 (Y.heap.size + 1) := ((Nw.two Y).kept (keepd (Keep.refl _))).kept k6; have l6 := lies_mid (m := Y.heap.size + 2) l6 (by simp); have s6 := keep_hid2 (m := Y.heap.size + 2) k6 (by simp); have c2n := True.intro)
         | (go_at_call 14; have := c0n; with_reducible refine (C2.out _ kw).mono ?_; intro e w7 hh; unfold RetOf at hh; obtain ⟨SB, VB, RB, v1, v2, v3, rfl, hF7, k7, fr7⟩ := hh; have l7 := ret_lies hF7 fr7 HVL.out HRL.out; clear fr7; have kk : Keep w6 w7 := k7; have hF6 := hF6.kept kk; have kw := kw.trans kk; have z7 := keep_hid kw; have l7 := lies_mid (m := w6.heap.size + 0) l7 (by simp); have s7 := keep_hid2 (m := w6.heap.size + 0) k7 (by simp))
         | (go_at_call 14; have := c0n; with_reducible refine (C2.out _ (kw.alloc _)).mono ?_; intro e w7 hh; unfold RetOf at hh; obtain ⟨SB, VB, RB, v1, v2, v3, rfl, hF7, k7, fr7⟩ := hh; have l7 := ret_lies hF7 fr7 HVL.out HRL.out; clear fr7; have kk : Keep w6 w7 := ((Keep.refl w6).alloc _).trans k7; have hF6 := hF6.kept kk; have kw := kw.trans kk; have z7 := keep_hid kw; have l7 := lies_mid (m := w6.heap.size + 1) l7 (by simp); have s7 := keep_hid2 (m := w6.heap.size + 1) k7 (by simp); have n3 : Nw w7 w6.heap.size := (Nw.new w6).kept k7; obtain ⟨⟨n3c0, n3c1, n3c2, n3c3, n3c4, n3c5⟩, n3f0, n3f1, n3f2, n3f3, n3f4, n3f5⟩ := n3.out; obtain ⟨n3a0, n3a1, n3a2, n3a3, n3a4, n3a5, n3b0, n3b1, n3b2, n3b3, n3b4, n3b5⟩ := n3.al; have y5 : w6.heap.size ≠ w7.heap.size := n3.ne; have y6 := y5.symm)
         | (go_at_call 14; have := c0n; with_reducible refine (C2.out _ ((kw.alloc _).alloc _)).mono ?_; intro e w7 hh; unfold RetOf at hh; obtain ⟨SB, VB, RB, v1, v2, v3, rfl, hF7, k7, fr7⟩ := hh; have l7 := ret_lies hF7 fr7 HVL.out HRL.out; clear fr7; have kk : Keep w6 w7 := (((Keep.refl w6).alloc _).alloc _).trans k7; have hF6 := hF6.kept kk; have kw := kw.trans kk; have z7 := keep_hid kw; have l7 := lies_mid (m := w6.heap.size + 2) l7 (by simp); have s7 := keep_hid2 (m := w6.heap.size + 2) k7 (by simp); have n3 : Nw w7 w6.heap.size := ((Nw.new w6).kept ((Keep.refl _).alloc _)).kept k7; have n4 : Nw w7 (w6.heap.size + 1) := (Nw.two w6).kept k7; obtain ⟨⟨n3c0, n3c1, n3c2, n3c3, n3c4, n3c5⟩, n3f0, n3f1, n3f2, n3f3, n3f4, n3f5⟩ := n3.out; obtain ⟨n3a0, n3a1, n3a2, n3a3, n3a4, n3a5, n3b0, n3b1, n3b2, n3b3, n3b4, n3b5⟩ := n3.al; obtain ⟨⟨n4c0, n4c1, n4c2, n4c3, n4c4, n4c5⟩, n4f0, n4f1, n4f2, n4f3, n4f4, n4f5⟩ := n4.out; obtain ⟨n4a0, n4a1, n4a2, n4a3, n4a4, n4a5, n4b0, n4b1, n4b2, n4b3, n4b4, n4b5⟩ := n4.al)
         | (go_at_call 14; have := c1n; with_reducible refine (C2.out _ kw).mono ?_; intro e w7 hh; unfold RetOf at hh; obtain ⟨SB, VB, RB, v1, v2, v3, rfl, hF7, k7, fr7⟩ := hh; have l7 := ret_lies hF7 fr7 HVL.out HRL.out; clear fr7; have kk : Keep w6 w7 := k7; have hF6 := hF6.kept kk; have kw := kw.trans kk; have z7 := keep_hid kw; have l7 := lies_mid (m := w6.heap.size + 0) l7 (by simp); have s7 := keep_hid2 (m := w6.heap.size + 0) k7 (by simp); have n1 := n1.kept kk; obtain ⟨⟨n1c0, n1c1, n1c2, n1c3, n1c4, n1c5⟩, n1f0, n1f1, n1f2, n1f3, n1f4, n1f5⟩ := n1.out; obtain ⟨n1a0, n1a1, n1a2, n1a3, n1a4, n1a5, n1b0, n1b1, n1b2, n1b3, n1b4, n1b5⟩ := n1.al; have y3 : Y.heap.size ≠ w7.heap.size := n1.ne; have y4 := y3.symm)
         | (go_at_call 14; have := c1n; with_reducible refine (C2.out _ (kw.alloc _)).mono ?_; intro e w7 hh; unfold RetOf at hh; obtain ⟨SB, VB, RB, v1, v2, v3, rfl, hF7, k7, fr7⟩ := hh; have l7 := ret_lies hF7 fr7 HVL.out HRL.out; clear fr7; have kk : Keep w6 w7 := ((Keep.refl w6).alloc _).trans k7; have hF6 := hF6.kept kk; have kw := kw.trans kk; have z7 := keep_hid kw; have l7 := lies_mid (m := w6.heap.size + 1) l7 (by simp); have s7 := keep_hid2 (m := w6.heap.size + 1) k7 (by simp); have n1 := n1.kept kk; obtain ⟨⟨n1c0, n1c1, n1c2, n1c3, n1c4, n1c5⟩, n1f0, n1f1, n1f2, n1f3, n1f4, n1f5⟩ := n1.out; obtain ⟨n1a0, n1a1, n1a2, n1a3, n1a4, n1a5, n1b0, n1b1, n1b2, n1b3, n1b4, n1b5⟩ := n1.al; have y3 : Y.heap.size ≠ w7.heap.size := n1.ne; have y4 := y3.symm; have n3 : Nw w7 w6.heap.size := (Nw.new w6).kept k7; obtain ⟨⟨n3c0, n3c1, n3c2, n3c3, n3c4, n3c5⟩, n3f0, n3f1, n3f2, n3f3, n3f4, n3f5⟩ := n3.out; obtain ⟨n3a0, n3a1, n3a2, n3a3, n3a4, n3a5, n3b0, n3b1, n3b2, n3b3, n3b4, n3b5⟩ := n3.al; have y5 : w6.heap.size ≠ w7.heap.size := n3.ne; have y6 := y5.symm)
         | (go_at_call 14; have := c2n; with_reducible refine (C2.out _ kw).mono ?_; intro e w7 hh; unfold RetOf at hh; obtain ⟨SB, VB, RB, v1, v2, v3, rfl, hF7, k7, fr7⟩ := hh; have l7 := ret_lies hF7 fr7 HVL.out HRL.out; clear fr7; have kk : Keep w6 w7 := k7; have hF6 := hF6.kept kk; have kw := kw.trans kk; have z7 := keep_hid kw; have l7 := lies_mid (m := w6.heap.size + 0) l7 (by simp); have s7 := keep_hid2 (m := w6.heap.size + 0) k7 (by simp); have n1 := n1.kept kk; obtain ⟨⟨n1c0, n1c1, n1c2, n1c3, n1c4, n1c5⟩, n1f0, n1f1, n1f2, n1f3, n1f4, n1f5⟩ := n1.out; obtain ⟨n1a0, n1a1, n1a2, n1a3, n1a4, n1a5, n1b0, n1b1, n1b2, n1b3, n1b4, n1b5⟩ := n1.al; have y3 : Y.heap.size ≠ w7.heap.size := n1.ne; have y4 := y3.symm; have n2 := n2.kept kk; obtain ⟨⟨n2c0, n2c1, n2c2, n2c3, n2c4, n2c5⟩, n2f0, n2f1, n2f2, n2f3, n2f4, n2f5⟩ := n2.out; obtain ⟨n2a0, n2a1, n2a2, n2a3, n2a4, n2a5, n2b0, n2b1, n2b2, n2b3, n2b4, n2b5⟩ := n2.al)
         | fail))
     all_goals (
       go_wp2_with fail
       go_meet
       have g6 := s6.out
       have g7 := s7.out
       refine ⟨_, _, SA, VA, RA, u1, u2, u3, SB, VB, RB, v1, v2, v3, rfl, rfl, ?_, ?_, ?_, ?_, ?_⟩
       all_goals repeat' (first
         | with_reducible exact kw
         | with_reducible exact hF6
         | with_reducible exact hF7
         | with_reducible exact hF6.kept kk
         | with_reducible exact n1
         | with_reducible exact n2
         | with_reducible exact n3
         | with_reducible exact n4
         | with_reducible exact Bx.newq (by first | rfl | (simp; done))
         | with_reducible refine nw_sets ?_ _ _ _ _ _ _
         | with_reducible refine Bx.set ?_ ?_ _
         | with_reducible refine Bx.alloc ?_ _
         | with_reducible exact Nw.new _
         | with_reducible refine Nw.set ?_ ?_ _
         | with_reducible refine Nw.alloc ?_ _
         | with_reducible refine fa_set l6 ?_ ?_ _ _ ?_
         | with_reducible refine fa_set l7 ?_ ?_ _ _ ?_
         | with_reducible refine FaAt.kept ?_ ((Keep.refl _).alloc _)
         | with_reducible refine kset ?_ ?_ _
         | with_reducible refine Keep.alloc ?_ _
         | with_reducible assumption
         | omega))
   case rest =>
     obtain ⟨q6, q7, SA, VA, RA, u1, u2, u3, SB, VB, RB, v1, v2, v3, rfl, rfl, hb6, hb7, hf6, hf7, kZ⟩ := hcut
     obtain ⟨z0, z1⟩ := (FC _ (hY.trans kZ)).two
     obtain ⟨b0, b1, b2, b3, b4, b5⟩ := (FB _ (hY.trans kZ)).six
     obtain ⟨fb, hfb⟩ : ∃ f, f = of c0 c1 b := ⟨_, rfl⟩
     rw [← hfb] at C3
     have HFB := Lib.hid (show few fb by rw [hfb]; exact few_of HB3.out)
     have HFA2 := Lib.hid (show few fa by rw [HFA.out]; exact few_of HA3.out)
     clear hfb HFA
     go_wp2_with fail
     refine (C3.out _ kZ).mono ?_
     rintro e w8 hr8
     unfold RetOf at hr8
     obtain ⟨SC, VC, RC, x1, x2, x3, rfl, hf8, k8, _⟩ := hr8
     obtain ⟨w9, hw9⟩ : ∃ W, W = w8.alloc (.cells #[.int .i64 fb.cl, .int .i64 fb.un, .int .i64 fb.fc, .slice SC fb.sp.length x1, .slice VC fb.vs.length x2, .slice RC fb.rg.length x3] 36) := ⟨_, rfl⟩
     have k9 : Keep w8 w9 := by rw [hw9]; exact (Keep.refl _).alloc _
     have hb8 : Bx w9 w8.heap.size [.int .i64 fb.cl, .int .i64 fb.un, .int .i64 fb.fc, .slice SC fb.sp.length x1, .slice VC fb.vs.length x2, .slice RC fb.rg.length x3] := by rw [hw9]; exact Bx.newq rfl
     replace hf8 := hf8.kept k9
     replace hb6 := hb6.kept (k8.trans k9)
     replace hb7 := hb7.kept (k8.trans k9)
     replace hf6 := hf6.kept (k8.trans k9)
     replace hf7 := hf7.kept (k8.trans k9)
     have hK := (hwY.trans (kZ.trans (k8.trans k9)))
     clear z0 z1 b0 b1 b2 b3 b4 b5
     have hA1 := fun p : KeptOf w9 => (CW.out p.w).mono fun e w' h => (h : e = .returned (.bool true) ∧ Keep p.w w')
     have hA2 := fun p : KeptOf w9 => ref_same_any fa fa SA VA RA SB VB RB u1 u2 u3 v1 v2 v3 p.w HFA2.out HFA2.out (hf6.kept p.h) (hf7.kept p.h)
     have hA3 := fun p : KeptOf w9 => same_any fa fb SB VB RB SC VC RC v1 v2 v3 x1 x2 x3 p.w HFA2.out HFB.out (hf7.kept p.h) (hf8.kept p.h)
     have hA4 := fun p : KeptOf w9 => ref_same_any fa fb SB VB RB SC VC RC v1 v2 v3 x1 x2 x3 p.w HFA2.out HFB.out (hf7.kept p.h) (hf8.kept p.h)
     rw [same_self] at hA2
     generalize same fa fb = sb at hA3 hA4
     have y60 := fun p : KeptOf w9 => (hb6.kept p.h).six.1
     have y61 := fun p : KeptOf w9 => (hb6.kept p.h).six.2.1
     have y62 := fun p : KeptOf w9 => (hb6.kept p.h).six.2.2.1
     have y63 := fun p : KeptOf w9 => (hb6.kept p.h).six.2.2.2.1
     have y64 := fun p : KeptOf w9 => (hb6.kept p.h).six.2.2.2.2.1
     have y65 := fun p : KeptOf w9 => (hb6.kept p.h).six.2.2.2.2.2
     have y70 := fun p : KeptOf w9 => (hb7.kept p.h).six.1
     have y71 := fun p : KeptOf w9 => (hb7.kept p.h).six.2.1
     have y72 := fun p : KeptOf w9 => (hb7.kept p.h).six.2.2.1
     have y73 := fun p : KeptOf w9 => (hb7.kept p.h).six.2.2.2.1
     have y74 := fun p : KeptOf w9 => (hb7.kept p.h).six.2.2.2.2.1
     have y75 := fun p : KeptOf w9 => (hb7.kept p.h).six.2.2.2.2.2
     have y80 := fun p : KeptOf w9 => (hb8.kept p.h).six.1
     have y81 := fun p : KeptOf w9 => (hb8.kept p.h).six.2.1
     have y82 := fun p : KeptOf w9 => (hb8.kept p.h).six.2.2.1
     have y83 := fun p : KeptOf w9 => (hb8.kept p.h).six.2.2.2.1
     have y84 := fun p : KeptOf w9 => (hb8.kept p.h).six.2.2.2.2.1
     have y85 := fun p : KeptOf w9 => (hb8.kept p.h).six.2.2.2.2.2
     have HK := Lib.hid hK
     have HW := Lib.hid hw9
     clear hf6 hf7 hf8 hb6 hb7 hb8 hK k8 k9 hw9
     go_wp2_with fail
     rw [← HW.out]
     cases sb
     · refine wp_region_kept (by kernel_rfl) (by kernel_rfl) ?_
       repeat (go_big_quiet_step (first | with_reducible exact KeptOf.of (hA1 _) | with_reducible exact KeptOf.of (hA2 _) | with_reducible exact KeptOf.of (hA3 _) | with_reducible exact KeptOf.of (hA4 _)))
       refine Go.wpQuiet_nil ?_
       intro _ hw'
       obtain ⟨⟨V, hw⟩, hw''⟩ := hw'
       subst hw''
       go_wp2
       go_ret
       exact ⟨rfl, HK.out.trans hw⟩
     · refine wp_region_kept (by kernel_rfl) (by kernel_rfl) ?_
       repeat (go_big_quiet_step (first | with_reducible exact KeptOf.of (hA1 _) | with_reducible exact KeptOf.of (hA2 _) | with_reducible exact KeptOf.of (hA3 _) | with_reducible exact KeptOf.of (hA4 _)))
       refine Go.wpQuiet_nil ?_
       intro _ hw'
       obtain ⟨⟨V, hw⟩, hw''⟩ := hw'
       subst hw''
       go_wp2
       go_ret
       exact ⟨rfl, HK.out.trans hw⟩
end Go.Proofs.Ytnbjhcemonkhhaa.Facts
