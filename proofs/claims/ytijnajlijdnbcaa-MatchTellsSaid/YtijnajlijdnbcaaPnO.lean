/- What a reading of requests that wait tells. Conditions: none. -/
import Derived.Test.YtijnajlijdnbcaaPnR
import Derived.Test.YtijnajlijdnbcaaOpen
namespace Go.Proofs.Ytijnajlijdnbcaa.Pn
set_option maxRecDepth 100000
set_option linter.unusedVariables false
open Go.ChangeShapes Go.WideShapes Go.ChangeAt Go.RowKit
/-- A request's cells. -/
theorem opens_ak : Opens Try.prog 33 fun W cs => ∃ (a : AskP) (A : Option Addr) (k : Nat), cs = [.int .i64 a.fc, .int .i64 a.rd, .int .i64 a.ct, .int .i64 a.wr, .int .i64 a.mn, .slice A a.vs.length k] ∧ a.vs.length ≤ k ∧ k ≤ maxLen ∧ Ints .i64 W W.heap.size A a.vs.length a.vs :=
  ((((((opens_field Try.underlying33 0 _ rfl 6 1 (by kernel_rfl) (by kernel_rfl) (opens_int Try.underlying3)).and (opens_field Try.underlying33 1 _ rfl 6 1 (by kernel_rfl) (by kernel_rfl) (opens_int Try.underlying3))).and (opens_field Try.underlying33 2 _ rfl 6 1 (by kernel_rfl) (by kernel_rfl) (opens_int Try.underlying3))).and (opens_field Try.underlying33 3 _ rfl 6 1 (by kernel_rfl) (by kernel_rfl) (opens_int Try.underlying3))).and (opens_field Try.underlying33 4 _ rfl 6 1 (by kernel_rfl) (by kernel_rfl) (opens_int Try.underlying3))).and (opens_field Try.underlying33 5 _ rfl 6 1 (by kernel_rfl) (by kernel_rfl) (opens_ints Try.underlying31 Try.underlying3 (by kernel_rfl)))).mono
  fun W cs ⟨⟨⟨⟨⟨⟨hl, x0, e0, h0⟩, _, x1, e1, h1⟩, _, x2, e2, h2⟩, _, x3, e3, h3⟩, _, x4, e4, h4⟩, _, x5, x5n, x5c, x5z, e5, l5, m5, h5⟩ => by
    match cs, hl with
    | [c0, c1, c2, c3, c4, c5], _ =>
      simp at e0 e1 e2 e3 e4 e5
      subst e0 e1 e2 e3 e4 e5
      obtain rfl : x5z.length = x5n := h5.1.1
      exact ⟨⟨x0, x1, x2, x3, x4, x5z⟩, x5, x5c, rfl, l5, m5, h5.1⟩
/-- One that waits, as it comes in. -/
def PendIn (W : World) (p : PendP) : Prop := Ints .i64 W W.heap.size p.A p.ak.vs.length p.ak.vs ∧ p.ak.vs.length ≤ p.c ∧ p.c ≤ maxLen ∧ (Lit.int .i64 p.o).wf = true
theorem opens_pend : Opens Try.prog 35 fun W cs => ∃ p : PendP, cs = (cellsQ p).toList ∧ PendIn W p :=
  (((((((opens_field Try.underlying35 0 _ rfl 12 1 (by kernel_rfl) (by kernel_rfl) (opens_int Try.underlying3)).and (opens_field Try.underlying35 1 _ rfl 12 1 (by kernel_rfl) (by kernel_rfl) (opens_int Try.underlying3))).and (opens_field Try.underlying35 2 _ rfl 12 1 (by kernel_rfl) (by kernel_rfl) (opens_int Try.underlying3))).and (opens_field Try.underlying35 3 _ rfl 12 1 (by kernel_rfl) (by kernel_rfl) (opens_int Try.underlying3))).and (opens_field Try.underlying35 4 _ rfl 12 1 (by kernel_rfl) (by kernel_rfl) (opens_int Try.underlying3))).and (opens_field Try.underlying35 5 _ rfl 12 6 (by kernel_rfl) (by kernel_rfl) opens_ak)).and (opens_field Try.underlying35 6 _ rfl 12 1 (by kernel_rfl) (by kernel_rfl) (opens_int Try.underlying3))).mono
  fun W cs ⟨⟨⟨⟨⟨⟨⟨hl, x0, e0, w0⟩, _, x1, e1, _⟩, _, x2, e2, _⟩, _, x3, e3, _⟩, _, x4, e4, _⟩, _, a, A, k, e5, hk, hm, hA⟩, _, x6, e6, _⟩ => by
    match cs, hl with
    | [d0, d1, d2, d3, d4, d5, d6, d7, d8, d9, d10, d11], _ =>
      simp at e0 e1 e2 e3 e4 e5 e6
      obtain ⟨rfl, rfl, rfl, rfl, rfl, rfl⟩ := e5
      subst e0 e1 e2 e3 e4 e6
      exact ⟨⟨x0, x1, x2, x3, x4, a, A, k, x6⟩, rfl, hA, hk, hm, w0⟩
theorem opens_pendL : Opens Try.prog 35 fun W cs => ∃ p : PendP, cs = [.int .i64 p.o, .int .i64 p.cn, .int .i64 p.lf, .int .i64 p.id, .int .i64 p.un, .int .i64 p.ak.fc, .int .i64 p.ak.rd, .int .i64 p.ak.ct, .int .i64 p.ak.wr, .int .i64 p.ak.mn, .slice p.A p.ak.vs.length p.c, .int .i64 p.due] ∧ PendIn W p := opens_pend
/-- A slice of such, as it comes in. -/
def PendsIn (W : World) (A : Option Addr) (n : Nat) (zs : List PendP) : Prop := Row encQ 12 W W.heap.size A n zs ∧ ∀ p ∈ zs, PendIn W p
theorem PendsIn.vals {W : World} {A : Option Addr} {n : Nat} {zs : List PendP} (h : PendsIn W A n zs) : Vals W zs := fun p hp => ⟨(h.2 p hp).1, Nat.le_trans (h.2 p hp).2.1 (h.2 p hp).2.2.1⟩
theorem PendsIn.wf {W : World} {A : Option Addr} {n : Nat} {zs : List PendP} (h : PendsIn W A n zs) : ∀ p ∈ zs, (Lit.int .i64 p.o).wf = true := fun p hp => (h.2 p hp).2.2.2
theorem opens_pends : Opens Try.prog 22 fun W cs => ∃ A n c zs, cs = [.slice A n c] ∧ n ≤ c ∧ c ≤ maxLen ∧ PendsIn W A n zs :=
  (opens_slice Try.underlying22 (show Try.prog.cellsOf 35 = 12 by kernel_rfl) (by omega) opens_pend).mono fun W cs ⟨A, n, c, hcs, hn, hc, hE⟩ => by
    rcases Nat.eq_zero_or_pos n with rfl | hp
    · exact ⟨A, 0, c, [], hcs, hn, hc, Row.none_ _ _ _, fun z hz => by cases hz⟩
    · obtain ⟨b, off, hA, hb, hE⟩ := hE hp
      obtain ⟨zs, hl, hzs⟩ := choose_list n (fun j (p : PendP) => (∀ i v, (encQ p)[i]? = some v → W.cell? ⟨b, off + j * 12 + i, none⟩ = some v) ∧ PendIn W p) (fun j hj => by
        obtain ⟨es, hl, hc, p, rfl, hp⟩ := hE j hj
        refine ⟨p, fun i v hv => ?_, hp⟩
        have hi : i < 12 := by
          have := (List.getElem?_eq_some_iff.1 hv).1
          simpa [encQ] using this
        rw [hc i hi]; exact hv)
      refine ⟨A, n, c, zs, hcs, hn, hc, ⟨hl, fun _ => ⟨b, off, hA, hb, fun j hj i v hv => ?_⟩⟩, fun z hz => ?_⟩
      · exact (hzs j _ (List.getElem?_eq_getElem hj)).1 i v hv
      · obtain ⟨j, hj, rfl⟩ := List.mem_iff_getElem.1 hz
        exact (hzs j _ (List.getElem?_eq_getElem hj)).2
end Go.Proofs.Ytijnajlijdnbcaa.Pn
