/- What a reading of connections tells. Conditions: none. -/
import Derived.Test.YtdgnmoebahaaeaaCsR
import Derived.Test.YtdgnmoebahaaeaaOpen
namespace Go.Proofs.Ytdgnmoebahaaeaa.Cs
set_option linter.unusedVariables false
set_option maxRecDepth 100000
open Go.ChangeShapes Go.WideShapes Go.ChangeAt Go.RowKit
theorem opens_stream : Opens Try.prog 32 fun W cs => ∃ (s : ByteArray) (b : Bool), cs = [.string s, .bool b] ∧ s.size ≤ maxLen :=
  ((opens_field Try.underlying32 0 _ rfl 2 1 (by kernel_rfl) (by kernel_rfl) (opens_string Try.underlying9)).and (opens_field Try.underlying32 1 _ rfl 2 1 (by kernel_rfl) (by kernel_rfl) (opens_bool Try.underlying4))).mono
  fun W cs ⟨⟨hl, s, e0, hs⟩, _, b, e1⟩ => by
    match cs, hl with
    | [c0, c1], _ =>
      simp at e0 e1
      subst e0 e1
      exact ⟨s, b, rfl, hs⟩
theorem opens_conn : Opens Try.prog 34 fun W cs => ∃ c : ConnP, cs = encC c ∧ c.buf.size ≤ maxLen :=
  ((((opens_field Try.underlying34 0 _ rfl 5 1 (by kernel_rfl) (by kernel_rfl) (opens_bool Try.underlying4)).and (opens_field Try.underlying34 1 _ rfl 5 1 (by kernel_rfl) (by kernel_rfl) (opens_int Try.underlying3))).and (opens_field Try.underlying34 2 _ rfl 5 1 (by kernel_rfl) (by kernel_rfl) (opens_int Try.underlying3))).and (opens_field Try.underlying34 3 _ rfl 5 2 (by kernel_rfl) (by kernel_rfl) opens_stream)).mono
  fun W cs ⟨⟨⟨⟨hl, o, e0⟩, _, x, e1, _⟩, _, y, e2, _⟩, _, s, b, e3, hs⟩ => by
    match cs, hl with
    | [c0, c1, c2, c3, c4], _ =>
      simp at e0 e1 e2 e3
      obtain ⟨rfl, rfl⟩ := e3
      subst e0 e1 e2
      exact ⟨⟨o, x, y, s, b⟩, rfl, hs⟩
/-- A slice of connections, as it comes in. -/
def ConnsIn (W : World) (A : Option Addr) (n : Nat) (zs : List ConnP) : Prop := Row encC 5 W W.heap.size A n zs ∧ Texts zs
theorem opens_conns : Opens Try.prog 24 fun W cs => ∃ A n c zs, cs = [.slice A n c] ∧ n ≤ c ∧ c ≤ maxLen ∧ ConnsIn W A n zs :=
  (opens_slice Try.underlying24 (show Try.prog.cellsOf 34 = 5 by kernel_rfl) (by omega) opens_conn).mono fun W cs ⟨A, n, c, hcs, hn, hc, hE⟩ => by
    rcases Nat.eq_zero_or_pos n with rfl | hp
    · exact ⟨A, 0, c, [], hcs, hn, hc, Row.none_ _ _ _, fun z hz => by cases hz⟩
    · obtain ⟨b, off, hA, hb, hE⟩ := hE hp
      obtain ⟨zs, hl, hzs⟩ := choose_list n (fun j (p : ConnP) => (∀ i v, (encC p)[i]? = some v → W.cell? ⟨b, off + j * 5 + i, none⟩ = some v) ∧ p.buf.size ≤ maxLen) (fun j hj => by
        obtain ⟨es, hl, hc, p, rfl, hp⟩ := hE j hj
        refine ⟨p, fun i v hv => ?_, hp⟩
        have hi : i < 5 := by
          have := (List.getElem?_eq_some_iff.1 hv).1
          simpa [encC] using this
        rw [hc i hi]; exact hv)
      refine ⟨A, n, c, zs, hcs, hn, hc, ⟨hl, fun _ => ⟨b, off, hA, hb, fun j hj i v hv => ?_⟩⟩, fun z hz => ?_⟩
      · exact (hzs j _ (List.getElem?_eq_getElem hj)).1 i v hv
      · obtain ⟨j, hj, rfl⟩ := List.mem_iff_getElem.1 hz
        exact (hzs j _ (List.getElem?_eq_getElem hj)).2
end Go.Proofs.Ytdgnmoebahaaeaa.Cs
