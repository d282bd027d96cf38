/- Of these texts: TrI, TrJ. Conditions: as each part says. -/
import Derived.Test.YtaciogcpghbhjaaGreatZTReU
import Derived.Test.YtaciogcpghbhjaaGreatZTRow
import Derived.Test.YtaciogcpghbhjaaGreatRows
/- Expressions in memory: what cells tell an expression; what a reading of an argument tells. Conditions: none. -/
namespace Go.Proofs.YtaciogcpghbhjaaGreat.Tr
set_option linter.unusedVariables false
set_option maxRecDepth 8000
open Go.ChangeShapes Go.WideShapes Go.ChangeAt Go.RowKit
mutual
def ExIn (W : World) (B : Nat) : ExprP -> List Value -> Prop
 | .mk k f r l h o, cs => ∃ RA rc OA oc, cs = [.int .i64 k, .int .i64 f, .slice RA r.length rc, .float .f64 l, .float .f64 h, .slice OA o.length oc] ∧ Row encP 2 W B RA r.length r ∧
   (0 < o.length -> ∃ b off, OA = some ⟨b, off, none⟩ ∧ b < B ∧ ExsIn W B o b off)
def ExsIn (W : World) (B : Nat) : List ExprP -> Nat -> Nat -> Prop
 | [], _, _ => True
 | e :: l, b, off => (∃ cs : List Value, (∀ j v, cs[j]? = some v -> W.cell? ⟨b, off + j, none⟩ = some v) ∧ ExIn W B e cs) ∧ ExsIn W B l b (off + 6)
end
def Ex (W : World) (e : ExprP) (RA OA : Option Addr) : Prop :=
 Row encP 2 W W.heap.size RA (rs e).length (rs e) ∧ (0 < (of e).length -> ∃ b off, OA = some ⟨b, off, none⟩ ∧ b < W.heap.size ∧ ExsIn W W.heap.size (of e) b off)
def Exs (W : World) (OA : Option Addr) (l : List ExprP) : Prop := 0 < l.length -> ∃ b off, OA = some ⟨b, off, none⟩ ∧ b < W.heap.size ∧ ExsIn W W.heap.size l b off
theorem ExIn.out {W : World} {e : ExprP} {cs : List Value} (h : ExIn W W.heap.size e cs) : ∃ RA rc OA oc, cs = [.int .i64 (kind e), .int .i64 (field e), .slice RA (rs e).length rc, .float .f64 (lo e), .float .f64 (hi e), .slice OA (of e).length oc] ∧ Ex W e RA OA := by
 cases e
 rw [ExIn] at h
 obtain ⟨RA, rc, OA, oc, h1, h2, h3⟩ := h
 exact ⟨RA, rc, OA, oc, h1, h2, h3⟩
theorem Ex.into {W : World} {e : ExprP} {RA OA : Option Addr} (h : Ex W e RA OA) (rc oc : Nat) : ExIn W W.heap.size e [.int .i64 (kind e), .int .i64 (field e), .slice RA (rs e).length rc, .float .f64 (lo e), .float .f64 (hi e), .slice OA (of e).length oc] := by
 cases e
 rw [ExIn]
 exact ⟨RA, rc, OA, oc, rfl, h.1, h.2⟩
theorem ex_keep (W W' : World) (B B' : Nat) (hB : B <= B') (hk : ∀ p : Addr, p.block < B -> W'.cell? p = W.cell? p) : ∀ N : Nat,
  (∀ (e : ExprP) (cs : List Value), dp e <= N -> ExIn W B e cs -> ExIn W' B' e cs) ∧ (∀ (l : List ExprP) (b off : Nat), b < B -> dpL l <= N -> ExsIn W B l b off -> ExsIn W' B' l b off) := by
 intro N
 induction N with
 | zero =>
   refine ⟨fun e cs h => absurd (dp_pos e) (by omega), fun l => ?_⟩
   induction l with
   | nil => intro b off _ _ h; rw [ExsIn] at h ⊢; trivial
   | cons e l _ => intro b off _ h; rw [dpL] at h; have := dp_pos e; omega
 | succ N ih =>
   have h1 : ∀ (e : ExprP) (cs : List Value), dp e <= N + 1 -> ExIn W B e cs -> ExIn W' B' e cs := by
    intro e cs hd h
    obtain ⟨k, f, r, l, h', o⟩ := e
    rw [ExIn] at h ⊢
    rw [dp] at hd
    obtain ⟨RA, rc, OA, oc, e1, e2, e3⟩ := h
    refine ⟨RA, rc, OA, oc, e1, ⟨e2.1, fun hn => ?_⟩, fun hn => ?_⟩
    ·obtain ⟨b, off, ea, hb, hc⟩ := e2.2 hn
     exact ⟨b, off, ea, by omega, fun j hj i v hv => (hk _ hb).trans (hc j hj i v hv)⟩
    ·obtain ⟨b, off, ea, hb, hc⟩ := e3 hn
     exact ⟨b, off, ea, by omega, ih.2 o b off hb (by omega) hc⟩
   refine ⟨h1, fun l => ?_⟩
   induction l with
   | nil => intro b off _ _ h; rw [ExsIn] at h ⊢; trivial
   | cons e l il =>
     intro b off hb hd h
     rw [dpL] at hd
     rw [ExsIn] at h ⊢
     obtain ⟨⟨cs, hc, he⟩, hl⟩ := h
     exact ⟨⟨cs, fun j v hv => (hk _ hb).trans (hc j v hv), h1 e cs (by omega) he⟩, il b (off + 6) hb (by omega) hl⟩
theorem Ex.kept {W W' : World} {e : ExprP} {RA OA : Option Addr} (h : Ex W e RA OA) (hk : Keep W W') : Ex W' e RA OA :=
 ⟨h.1.kept hk, fun hn => by
  obtain ⟨b, off, ea, hb, hc⟩ := h.2 hn
  exact ⟨b, off, ea, Nat.lt_of_lt_of_le hb hk.size, (ex_keep W W' _ _ hk.size (fun p hp => Below.cell hk hp) _).2 _ b off hb (Nat.le_refl _) hc⟩⟩
theorem Exs.kept {W W' : World} {OA : Option Addr} {l : List ExprP} (h : Exs W OA l) (hk : Keep W W') : Exs W' OA l := fun hn => by
 obtain ⟨b, off, ea, hb, hc⟩ := h hn
 exact ⟨b, off, ea, Nat.lt_of_lt_of_le hb hk.size, (ex_keep W W' _ _ hk.size (fun p hp => Below.cell hk hp) _).2 _ b off hb (Nat.le_refl _) hc⟩
theorem Ex.exs {W : World} {e : ExprP} {RA OA : Option Addr} (h : Ex W e RA OA) : Exs W OA (of e) := h.2
theorem exs_at (W : World) (B b : Nat) : ∀ (l : List ExprP) (off k : Nat), k < l.length -> ExsIn W B l b off ->
  ∃ cs : List Value, (∀ j v, cs[j]? = some v -> W.cell? ⟨b, off + k * 6 + j, none⟩ = some v) ∧ ExIn W B (l.getD k zero) cs
 | [], _, _, h, _ => absurd h (by simp)
 | e :: l, off, 0, _, h => by
   rw [ExsIn] at h
   obtain ⟨⟨cs, hc, he⟩, _⟩ := h
   exact ⟨cs, fun j v hv => by simpa using hc j v hv, by simpa using he⟩
 | e :: l, off, k + 1, hk, h => by
   rw [ExsIn] at h
   obtain ⟨cs, hc, he⟩ := exs_at W B b l (off + 6) k (by simpa using hk) h.2
   refine ⟨cs, fun j v hv => ?_, by simpa using he⟩
   rw [<- hc j v hv]
   congr 2; omega
def ElemAt (W : World) (e : ExprP) (RA OA : Option Addr) (rc oc b p : Nat) : Prop :=
 W.cell? ⟨b, p, none⟩ = some (.int .i64 (kind e)) ∧ W.cell? ⟨b, p + 1, none⟩ = some (.int .i64 (field e)) ∧ W.cell? ⟨b, p + 2, none⟩ = some (.slice RA (rs e).length rc) ∧
 W.cell? ⟨b, p + 3, none⟩ = some (.float .f64 (lo e)) ∧ W.cell? ⟨b, p + 4, none⟩ = some (.float .f64 (hi e)) ∧ W.cell? ⟨b, p + 5, none⟩ = some (.slice OA (of e).length oc)
theorem Exs.elem {W : World} {b off : Nat} {l : List ExprP} (h : Exs W (some ⟨b, off, none⟩) l) (k : Nat) (hk : k < l.length) :
  b < W.heap.size ∧ ∃ RA OA rc oc, ElemAt W (l.getD k zero) RA OA rc oc b (off + k * 6) ∧ Ex W (l.getD k zero) RA OA := by
 obtain ⟨b', off', ea, hb, hc⟩ := h (by omega)
 injection ea with ea
 injection ea with e1 e2
 subst e1 e2
 obtain ⟨cs, hc, he⟩ := exs_at W _ b l off k hk hc
 obtain ⟨RA, rc, OA, oc, rfl, hx⟩ := he.out
 exact ⟨hb, RA, OA, rc, oc, ⟨hc 0 _ rfl, hc 1 _ rfl, hc 2 _ rfl, hc 3 _ rfl, hc 4 _ rfl, hc 5 _ rfl⟩, hx⟩
theorem Exs.addr {W : World} {A : Option Addr} {l : List ExprP} (h : Exs W A l) (hn : 0 < l.length) : ∃ b off, A = some ⟨b, off, none⟩ ∧ b < W.heap.size := by
 obtain ⟨b, off, ea, hb, _⟩ := h hn
 exact ⟨b, off, ea, hb⟩
theorem ElemAt.kept {W W' : World} {e : ExprP} {RA OA : Option Addr} {rc oc b p : Nat} (h : ElemAt W e RA OA rc oc b p) (hb : b < W.heap.size) (hk : Keep W W') : ElemAt W' e RA OA rc oc b p := by
 obtain ⟨h0, h1, h2, h3, h4, h5⟩ := h
 exact ⟨(Below.cell hk hb).trans h0, (Below.cell hk hb).trans h1, (Below.cell hk hb).trans h2, (Below.cell hk hb).trans h3, (Below.cell hk hb).trans h4, (Below.cell hk hb).trans h5⟩
theorem ElemAt.new (W : World) (e : ExprP) (RA OA : Option Addr) (rc oc : Nat) (t : TypeId) :
  ElemAt (W.alloc (.cells #[.int .i64 (kind e), .int .i64 (field e), .slice RA (rs e).length rc, .float .f64 (lo e), .float .f64 (hi e), .slice OA (of e).length oc] t)) e RA OA rc oc W.heap.size 0 := by
 have hc : ∀ j v, (#[Value.int .i64 (kind e), .int .i64 (field e), .slice RA (rs e).length rc, .float .f64 (lo e), .float .f64 (hi e), .slice OA (of e).length oc] : Array Value)[j]? = some v ->
   (W.alloc (.cells #[.int .i64 (kind e), .int .i64 (field e), .slice RA (rs e).length rc, .float .f64 (lo e), .float .f64 (hi e), .slice OA (of e).length oc] t)).cell? ⟨W.heap.size, j, none⟩ = some v := fun j v hj => by
  rw [World.cell?_alloc_at (hn := rfl), hj]
 exact ⟨hc 0 _ rfl, hc 1 _ rfl, hc 2 _ rfl, hc 3 _ rfl, hc 4 _ rfl, hc 5 _ rfl⟩
mutual
def wf : ExprP -> Prop
 | .mk k f r l h o => ((Lit.int .i64 k).wf = true ∧ (Lit.int .i64 f).wf = true) ∧ (∀ p ∈ r, (Lit.int .i64 p.1).wf = true ∧ (Lit.int .i64 p.2).wf = true) ∧ ((Lit.float .f64 l).wf = true ∧ (Lit.float .f64 h).wf = true) ∧ (r.length <= maxLen ∧ o.length <= maxLen) ∧ wfL o
def wfL : List ExprP -> Prop
 | [] => True
 | e :: l => wf e ∧ wfL l
end
theorem wfL_mem : ∀ {l : List ExprP}, wfL l -> ∀ e ∈ l, wf e
 | [], _, e, h => by cases h
 | a :: l, hw, e, h => by
   rw [wfL] at hw
   rcases List.mem_cons.1 h with rfl | h
   ·exact hw.1
   ·exact wfL_mem hw.2 e h
theorem wfL_mk : ∀ {l : List ExprP}, (∀ e ∈ l, wf e) -> wfL l
 | [], _ => by rw [wfL]; trivial
 | a :: l, h => by
   rw [wfL]
   exact ⟨h a (List.mem_cons_self ..), wfL_mk fun e he => h e (List.mem_cons_of_mem _ he)⟩
theorem wf.of {e : ExprP} (h : wf e) : ∀ x ∈ Tr.of e, wf x := by
 cases e
 rw [wf] at h
 exact wfL_mem h.2.2.2.2
theorem exsIn_mk (W : World) (B b : Nat) : ∀ (l : List ExprP) (off : Nat), (∀ k, k < l.length -> ∃ cs : List Value, (∀ j v, cs[j]? = some v -> W.cell? ⟨b, off + k * 6 + j, none⟩ = some v) ∧ ExIn W B (l.getD k zero) cs) -> ExsIn W B l b off
 | [], _, _ => by rw [ExsIn]; trivial
 | e :: l, off, h => by
   rw [ExsIn]
   refine ⟨?_, exsIn_mk W B b l (off + 6) fun k hk => ?_⟩
   ·obtain ⟨cs, h1, h2⟩ := h 0 (by simp)
    exact ⟨cs, fun j v hv => by simpa using h1 j v hv, by simpa using h2⟩
   ·obtain ⟨cs, h1, h2⟩ := h (k + 1) (by simpa using hk)
    refine ⟨cs, fun j v hv => ?_, by simpa using h2⟩
    rw [<- h1 j v hv]
    congr 2; omega
theorem pairs_opens : Opens Tryz.prog 52 fun W cs => ∃ A n c zs, cs = [.slice A n c] ∧ n <= c ∧ c <= maxLen ∧ PairsIn W A n zs :=
 opens_pairs Tryz.underlying52 Tryz.underlying87 Tryz.underlying3 (by kernel_rfl) (by kernel_rfl) _ _ rfl rfl rfl rfl rfl rfl
theorem cells6 : Tryz.prog.cellsOf 59 = 6 := by kernel_rfl
theorem ce_int : Tryz.prog.cellsOf 3 = 1 := by kernel_rfl
theorem ce_rs : Tryz.prog.cellsOf 52 = 1 := by kernel_rfl
theorem ce_fl : Tryz.prog.cellsOf 56 = 1 := by kernel_rfl
theorem ce_ex : Tryz.prog.cellsOf 57 = 1 := by kernel_rfl
theorem trod_expr {H : Type} (enc : TypeId × Value -> H) (W : World) : ∀ (N fuel : Nat), fuel <= N -> ∀ (cs : List Value) (x : DataW H × List MemPlace),
  DataW.trod enc Tryz.prog W 0 (fun _ => true) true fuel 59 cs = some x -> ∃ e, ExIn W W.heap.size e cs ∧ wf e := by
 intro N
 induction N with
 | zero =>
   intro fuel hf cs x h
   obtain rfl : fuel = 0 := by omega
   simp [DataW.trod] at h
 | succ N ih =>
   intro fuel hf cs x h
   obtain ⟨xs, n, rfl, _, hl, hxl, hfs⟩ := DataW.trod_struct Tryz.underlying59 h
   rw [cells6] at hl
   have hxl6 : xs.length = 6 := hxl
   obtain ⟨c0, c1, c2, c3, c4, c5, rfl⟩ : ∃ c0 c1 c2 c3 c4 c5, cs = [c0, c1, c2, c3, c4, c5] := by
    match cs, hl with
    | [c0, c1, c2, c3, c4, c5], _ => exact ⟨c0, c1, c2, c3, c4, c5, rfl⟩
   have g0 := hfs 0 _ rfl
   have g1 := hfs 1 _ rfl
   have g2 := hfs 2 _ rfl
   have g3 := hfs 3 _ rfl
   have g4 := hfs 4 _ rfl
   have g5 := hfs 5 _ rfl
   rw [List.getElem?_eq_getElem (by omega)] at g0 g1 g2 g3 g4 g5
   obtain ⟨k, e0, w0⟩ := opens_int Tryz.underlying3 H enc W n _ _ g0
   obtain ⟨f, e1, w1⟩ := opens_int Tryz.underlying3 H enc W n _ _ g1
   obtain ⟨RA, rn, rc, r, e2, r1, r2, hr⟩ := pairs_opens H enc W n _ _ g2
   obtain ⟨l, e3, w3⟩ := opens_float Tryz.underlying56 H enc W n _ _ g3
   obtain ⟨h', e4, w4⟩ := opens_float Tryz.underlying56 H enc W n _ _ g4
   have q0 : c0 = .int .i64 k := by have := congrArg List.head? e0; simpa [ce_int, ce_rs, ce_fl, ce_ex] using this
   have q1 : c1 = .int .i64 f := by have := congrArg List.head? e1; simpa [ce_int, ce_rs, ce_fl, ce_ex] using this
   have q2 : c2 = .slice RA rn rc := by have := congrArg List.head? e2; simpa [ce_int, ce_rs, ce_fl, ce_ex] using this
   have q3 : c3 = .float .f64 l := by have := congrArg List.head? e3; simpa [ce_int, ce_rs, ce_fl, ce_ex] using this
   have q4 : c4 = .float .f64 h' := by have := congrArg List.head? e4; simpa [ce_int, ce_rs, ce_fl, ce_ex] using this
   clear e0 e1 e2 e3 e4 g0 g1 g2 g3 g4
   subst q0 q1 q2 q3 q4
   have hrl : r.length = rn := hr.1.1
   subst hrl
   rcases DataW.trod_slice Tryz.underlying57 g5 with ⟨q5, _⟩ | ⟨a, len, cap, elems, rest, m, rfl, q5, _, _, hll, hm, hlen, hel, _⟩
   ·have q5 : c5 = .slice none 0 0 := by have := congrArg List.head? q5; simpa [ce_int, ce_rs, ce_fl, ce_ex] using this
    subst q5
    refine ⟨.mk k f r l h' [], ?_, ?_⟩
    ·rw [ExIn]
     exact ⟨RA, rc, none, 0, rfl, hr.1, fun h => absurd h (by simp)⟩
    ·rw [wf]
     exact ⟨⟨w0, w1⟩, hr.2, ⟨w3, w4⟩, ⟨by omega, Nat.zero_le _⟩, by rw [wfL]; trivial⟩
   ·have q5 : c5 = .slice (some a) len cap := by have := congrArg List.head? q5; simpa [ce_int, ce_rs, ce_fl, ce_ex] using this
    subst q5
    rw [cells6] at hel
    have each : ∀ i, i < len -> ∃ es, es.length = 6 ∧ (∀ j, j < 6 -> W.cell? ((a.add (i * 6)).add j) = es[j]?) ∧ ∃ e, ExIn W W.heap.size e es ∧ wf e := by
     intro i hi
     have h1 := hel i hi
     rw [List.getElem?_eq_getElem (by omega), Option.bind_eq_some_iff] at h1
     obtain ⟨es, hes, hy⟩ := h1
     obtain ⟨_, hl, hc⟩ := World.cells?_some hes
     exact ⟨es, hl, hc, ih m (by omega) es _ hy⟩
    rcases Nat.eq_zero_or_pos len with rfl | hp
    ·refine ⟨.mk k f r l h' [], ?_, ?_⟩
     ·rw [ExIn]
      exact ⟨RA, rc, some a, cap, rfl, hr.1, fun h => absurd h (by simp)⟩
     ·rw [wf]
      exact ⟨⟨w0, w1⟩, hr.2, ⟨w3, w4⟩, ⟨by omega, Nat.zero_le _⟩, by rw [wfL]; trivial⟩
    ·obtain ⟨b, off, spot⟩ := a
     obtain ⟨es, hl0, hc0, _⟩ := each 0 hp
     have h00 := hc0 0 (by omega)
     rw [List.getElem?_eq_getElem (by omega)] at h00
     have hs := World.cell?_spot h00
     have hb := cell_lt h00
     simp only [Nat.zero_mul, Addr.add] at hs hb
     simp only [if_true] at hs hb
     subst hs
     obtain ⟨o, hol, ho⟩ := choose_list len (fun i (e : ExprP) => (∃ cs : List Value, (∀ j v, cs[j]? = some v -> W.cell? ⟨b, off + i * 6 + j, none⟩ = some v) ∧ ExIn W W.heap.size e cs) ∧ wf e) (fun i hi => by
      obtain ⟨es, hl, hc, e, he, hw⟩ := each i hi
      refine ⟨e, ⟨es, fun j v hv => ?_, he⟩, hw⟩
      have hj : j < es.length := (List.getElem?_eq_some_iff.1 hv).1
      have := hc j (by omega)
      rw [Addr.add_lit, Addr.add_lit] at this
      rw [this, hv])
     have gd : ∀ j (hj : j < o.length), o[j]? = some (o.getD j zero) := fun j hj => by rw [List.getD_eq_getElem?_getD, List.getElem?_eq_getElem hj]; rfl
     subst hol
     refine ⟨.mk k f r l h' o, ?_, ?_⟩
     ·rw [ExIn]
      exact ⟨RA, rc, some ⟨b, off, none⟩, cap, rfl, hr.1, fun _ => ⟨b, off, rfl, hb, exsIn_mk W _ b o off fun k hk => (ho k _ (gd k hk)).1⟩⟩
     ·rw [wf]
      refine ⟨⟨w0, w1⟩, hr.2, ⟨w3, w4⟩, ⟨by omega, by omega⟩, wfL_mk fun e he => ?_⟩
      obtain ⟨j, hj, rfl⟩ := List.mem_iff_getElem.1 he
      have := (ho j _ (List.getElem?_eq_getElem hj)).2
      exact this
theorem opens_expr : Opens Tryz.prog 59 fun W cs => ∃ e, ExIn W W.heap.size e cs ∧ wf e := fun H enc W fuel cs x h => trod_expr enc W fuel fuel (Nat.le_refl _) cs x h
mutual
def fits : ExprP -> Prop
 | .mk k f r l h o => (r.length <= 1000000 ∧ o.length <= 1000000) ∧ (l < 18446744073709551616 ∧ h < 18446744073709551616) ∧ fitsL o
def fitsL : List ExprP -> Prop
 | [] => True
 | e :: l => fits e ∧ fitsL l
end
theorem fitsL_mem : ∀ {l : List ExprP}, fitsL l -> ∀ e ∈ l, fits e
 | [], _, e, h => by cases h
 | a :: l, hw, e, h => by
   rw [fitsL] at hw
   rcases List.mem_cons.1 h with rfl | h
   ·exact hw.1
   ·exact fitsL_mem hw.2 e h
theorem fitsL_mk : ∀ {l : List ExprP}, (∀ e ∈ l, fits e) -> fitsL l
 | [], _ => by rw [fitsL]; trivial
 | a :: l, h => by
   rw [fitsL]
   exact ⟨h a (List.mem_cons_self ..), fitsL_mk fun e he => h e (List.mem_cons_of_mem _ he)⟩
theorem small_fits : ∀ (N : Nat) (e : ExprP) (d : Int), dp e <= N -> wf e -> small e d = true -> fits e ∧ (deep e : Int) <= d + 1 ∧ atoms e <= 7 ^ (d + 1).toNat := by
 intro N
 induction N with
 | zero => intro e d h; exact absurd (dp_pos e) (by omega)
 | succ N ih =>
   intro e d hN hw hs
   have hsub := fun x (hx : x ∈ of e) => dp_of hx
   have hwo := hw.of
   obtain ⟨k, f, r, l, h, o⟩ := e
   simp only [of] at hsub hwo
   rw [small, smallL_all] at hs
   simp only [Bool.and_eq_true, decide_eq_true_eq, List.all_eq_true] at hs
   obtain ⟨h0, h1, h2, h3⟩ := hs
   rw [wf] at hw
   obtain ⟨_, _, ⟨wl, wh⟩, _, _⟩ := hw
   have each := fun x hx => ih x (d - 1) (by have := hsub x hx; omega) (hwo x hx) (h3 x hx)
   refine ⟨?_, ?_, ?_⟩
   ·rw [fits]
    exact ⟨⟨by omega, by omega⟩, ⟨by simpa [Lit.wf] using wl, by simpa [Lit.wf] using wh⟩, fitsL_mk fun x hx => (each x hx).1⟩
   ·have hd : ∀ q : List ExprP, (∀ x ∈ q, (deep x : Int) <= d) -> (deepL q : Int) <= d + 1 := by
     intro q
     induction q with
     | nil => intro _; rw [deepL]; omega
     | cons a q iq =>
       intro hq
       have ha := hq a (List.mem_cons_self ..)
       have := iq fun x hx => hq x (List.mem_cons_of_mem _ hx)
       rw [deepL]; omega
    have := hd o fun x hx => by have := (each x hx).2.1; omega
    rw [deep]
    split <;> omega
   ·have ha : ∀ (M : Nat) (q : List ExprP), (∀ x ∈ q, atoms x <= M) -> atomsL q <= q.length * M := by
     intro M q
     induction q with
     | nil => intro _; rw [atomsL]; omega
     | cons a q iq =>
       intro hq
       have h1 := hq a (List.mem_cons_self ..)
       have h2 := iq fun x hx => hq x (List.mem_cons_of_mem _ hx)
       rw [atomsL, List.length_cons, Nat.add_mul, Nat.one_mul]; omega
    have h4 := ha (7 ^ d.toNat) o fun x hx => by
     have := (each x hx).2.2
     rwa [show (d - 1 + 1).toNat = d.toNat by congr 1; omega] at this
    have h5 : 0 < 7 ^ d.toNat := Nat.pow_pos (by omega)
    have h6 : o.length * 7 ^ d.toNat <= 6 * 7 ^ d.toNat := Nat.mul_le_mul_right _ h1
    rw [show (d + 1).toNat = d.toNat + 1 by omega, Nat.pow_succ, atoms]
    split
    ·omega
    ·split <;> omega
end Go.Proofs.YtaciogcpghbhjaaGreat.Tr
/- Rules in memory: what cells tell a rule; slices of rules, and of expressions, that came in. Conditions: none. -/
namespace Go.Proofs.YtaciogcpghbhjaaGreat.Tr
set_option linter.unusedVariables false
open Go.ChangeShapes Go.WideShapes Go.ChangeAt Go.RowKit
def zeroR : RuleP := ⟨false, zero, 0, 0, 0, 0⟩
def RuIn (W : World) (B : Nat) (r : RuleP) (cs : List Value) : Prop :=
 ∃ es : List Value, es.length = 6 ∧ cs = .bool r.allow :: (es ++ [.int .i64 r.num, .int .i64 r.per, .int .i64 r.burst, .int .i64 r.line]) ∧ ExIn W B r.when_ es
def Rus (W : World) (A : Option Addr) (l : List RuleP) : Prop :=
 0 < l.length -> ∃ b off, A = some ⟨b, off, none⟩ ∧ b < W.heap.size ∧ ∀ k (h : k < l.length), ∃ cs : List Value, (∀ j v, cs[j]? = some v -> W.cell? ⟨b, off + k * 11 + j, none⟩ = some v) ∧ RuIn W W.heap.size l[k] cs
theorem RuIn.kept {W W' : World} {r : RuleP} {cs : List Value} (h : RuIn W W.heap.size r cs) (hk : Keep W W') : RuIn W' W'.heap.size r cs := by
 obtain ⟨es, h1, h2, h3⟩ := h
 exact ⟨es, h1, h2, (ex_keep W W' _ _ hk.size (fun p hp => Below.cell hk hp) _).1 _ _ (Nat.le_refl _) h3⟩
theorem Rus.kept {W W' : World} {A : Option Addr} {l : List RuleP} (h : Rus W A l) (hk : Keep W W') : Rus W' A l := fun hn => by
 obtain ⟨b, off, ea, hb, hc⟩ := h hn
 refine ⟨b, off, ea, Nat.lt_of_lt_of_le hb hk.size, fun k hlt => ?_⟩
 obtain ⟨cs, h1, h2⟩ := hc k hlt
 exact ⟨cs, fun j v hv => (Below.cell hk hb).trans (h1 j v hv), h2.kept hk⟩
theorem Rus.addr {W : World} {A : Option Addr} {l : List RuleP} (h : Rus W A l) (hn : 0 < l.length) : ∃ b off, A = some ⟨b, off, none⟩ ∧ b < W.heap.size := by
 obtain ⟨b, off, ea, hb, _⟩ := h hn
 exact ⟨b, off, ea, hb⟩
def RuleAt (W : World) (r : RuleP) (RA OA : Option Addr) (rc oc b p : Nat) : Prop :=
 W.cell? ⟨b, p, none⟩ = some (.bool r.allow) ∧ W.cell? ⟨b, p + 1, none⟩ = some (.int .i64 (kind r.when_)) ∧ W.cell? ⟨b, p + 2, none⟩ = some (.int .i64 (field r.when_)) ∧
 W.cell? ⟨b, p + 3, none⟩ = some (.slice RA (rs r.when_).length rc) ∧ W.cell? ⟨b, p + 4, none⟩ = some (.float .f64 (lo r.when_)) ∧ W.cell? ⟨b, p + 5, none⟩ = some (.float .f64 (hi r.when_)) ∧
 W.cell? ⟨b, p + 6, none⟩ = some (.slice OA (of r.when_).length oc) ∧ W.cell? ⟨b, p + 7, none⟩ = some (.int .i64 r.num) ∧ W.cell? ⟨b, p + 8, none⟩ = some (.int .i64 r.per) ∧
 W.cell? ⟨b, p + 9, none⟩ = some (.int .i64 r.burst) ∧ W.cell? ⟨b, p + 10, none⟩ = some (.int .i64 r.line)
theorem RuleAt.kept {W W' : World} {r : RuleP} {RA OA : Option Addr} {rc oc b p : Nat} (h : RuleAt W r RA OA rc oc b p) (hb : b < W.heap.size) (hk : Keep W W') : RuleAt W' r RA OA rc oc b p := by
 obtain ⟨h0, h1, h2, h3, h4, h5, h6, h7, h8, h9, h10⟩ := h
 exact ⟨(Below.cell hk hb).trans h0, (Below.cell hk hb).trans h1, (Below.cell hk hb).trans h2, (Below.cell hk hb).trans h3, (Below.cell hk hb).trans h4, (Below.cell hk hb).trans h5,
  (Below.cell hk hb).trans h6, (Below.cell hk hb).trans h7, (Below.cell hk hb).trans h8, (Below.cell hk hb).trans h9, (Below.cell hk hb).trans h10⟩
theorem Rus.elem {W : World} {b off : Nat} {l : List RuleP} (h : Rus W (some ⟨b, off, none⟩) l) (k : Nat) (hk : k < l.length) :
  b < W.heap.size ∧ ∃ RA OA rc oc, RuleAt W (l.getD k zeroR) RA OA rc oc b (off + k * 11) ∧ Ex W (l.getD k zeroR).when_ RA OA := by
 obtain ⟨b', off', ea, hb, hc⟩ := h (by omega)
 injection ea with ea
 injection ea with e1 e2
 subst e1 e2
 obtain ⟨cs, h1, es, hl, rfl, hx⟩ := hc k hk
 have e : l.getD k zeroR = l[k] := by rw [List.getD_eq_getElem?_getD, List.getElem?_eq_getElem hk]; rfl
 rw [e]
 obtain ⟨RA, rc, OA, oc, rfl, hE⟩ := hx.out
 exact ⟨hb, RA, OA, rc, oc, ⟨h1 0 _ rfl, h1 1 _ rfl, h1 2 _ rfl, h1 3 _ rfl, h1 4 _ rfl, h1 5 _ rfl, h1 6 _ rfl, h1 7 _ rfl, h1 8 _ rfl, h1 9 _ rfl, h1 10 _ rfl⟩, hE⟩
def wfR (r : RuleP) : Prop := wf r.when_ ∧ ((Lit.int .i64 r.num).wf = true ∧ (Lit.int .i64 r.per).wf = true ∧ (Lit.int .i64 r.burst).wf = true ∧ (Lit.int .i64 r.line).wf = true)
def RulesIn (W : World) (A : Option Addr) (n : Nat) (l : List RuleP) : Prop := l.length = n ∧ Rus W A l ∧ ∀ r ∈ l, wfR r
theorem cellsR : Tryz.prog.cellsOf 63 = 11 := by kernel_rfl
theorem cellsB : Tryz.prog.cellsOf 4 = 1 := by kernel_rfl
theorem cellsRt : Tryz.prog.cellsOf 61 = 3 := by kernel_rfl
theorem opens_rule : Opens Tryz.prog 63 fun W cs => ∃ r, RuIn W W.heap.size r cs ∧ wfR r :=
 ((((opens_field Tryz.underlying63 0 _ rfl 11 1 cellsR cellsB (opens_bool Tryz.underlying4)).and (opens_field Tryz.underlying63 1 _ rfl 11 6 cellsR cells6 opens_expr)).and
   (opens_field Tryz.underlying63 2 _ rfl 11 3 cellsR cellsRt ((opens_field Tryz.underlying61 0 _ rfl 3 1 cellsRt ce_int (opens_int Tryz.underlying3)).and
    ((opens_field Tryz.underlying61 1 _ rfl 3 1 cellsRt ce_int (opens_int Tryz.underlying3)).and (opens_field Tryz.underlying61 2 _ rfl 3 1 cellsRt ce_int (opens_int Tryz.underlying3)))))).and
   (opens_field Tryz.underlying63 3 _ rfl 11 1 cellsR ce_int (opens_int Tryz.underlying3))).mono
 fun W cs ⟨⟨⟨⟨hl, b, eb⟩, _, e, he, hw⟩, _, ⟨_, x, ex, wx⟩, ⟨_, y, ey, wy⟩, _, z, ez, wz⟩, _, n, en, wn⟩ => by
  match cs, hl with
  | [c0, c1, c2, c3, c4, c5, c6, c7, c8, c9, c10], _ =>
    simp at eb he ex ey ez en
    subst eb ex ey ez en
    exact ⟨⟨b, e, x, y, z, n⟩, ⟨[c1, c2, c3, c4, c5, c6], rfl, rfl, he⟩, hw, wx, wy, wz, wn⟩
theorem opens_rules : Opens Tryz.prog 22 fun W cs => ∃ A n c l, cs = [.slice A n c] ∧ n <= c ∧ c <= maxLen ∧ RulesIn W A n l :=
 (opens_slice Tryz.underlying22 cellsR (by omega) opens_rule).mono fun W cs ⟨A, n, c, hcs, hn, hc, hE⟩ => by
  rcases Nat.eq_zero_or_pos n with rfl | hp
  ·exact ⟨A, 0, c, [], hcs, hn, hc, rfl, fun h => absurd h (by simp), fun r hr => by cases hr⟩
  ·obtain ⟨b, off, hA, hb, hE⟩ := hE hp
   obtain ⟨l, hl, hls⟩ := choose_list n (fun i (r : RuleP) => (∃ cs : List Value, (∀ j v, cs[j]? = some v -> W.cell? ⟨b, off + i * 11 + j, none⟩ = some v) ∧ RuIn W W.heap.size r cs) ∧ wfR r) (fun i hi => by
    obtain ⟨es, hl, hc, r, hr, hw⟩ := hE i hi
    exact ⟨r, ⟨es, fun j v hv => by rw [hc j (by have := (List.getElem?_eq_some_iff.1 hv).1; omega), hv], hr⟩, hw⟩)
   refine ⟨A, n, c, l, hcs, hn, hc, hl, fun _ => ⟨b, off, hA, hb, fun k hk => (hls k _ (List.getElem?_eq_getElem hk)).1⟩, fun r hr => ?_⟩
   obtain ⟨j, hj, rfl⟩ := List.mem_iff_getElem.1 hr
   exact (hls j _ (List.getElem?_eq_getElem hj)).2
end Go.Proofs.YtaciogcpghbhjaaGreat.Tr
