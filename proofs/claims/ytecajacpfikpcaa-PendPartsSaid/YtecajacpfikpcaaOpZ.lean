/- What a reading tells of its cells where each string, slice and map takes what memory can hold. Conditions: none. -/
import Derived.Test.YtecajacpfikpcaaOpen
import Derived.SizedLaws
namespace Go.Proofs.Ytecajacpfikpcaa
open Go.ChangeShapes Go.WideShapes Go.ChangeAt Go.RowKit
/-- A reading at type t whose parts are of the size that memory allows tells R of the cells. -/
def OpensZ (P : Program) (t : TypeId) (R : World → List Value → Prop) : Prop :=
  ∀ (H : Type) (enc : TypeId × Value → H) (W : World) (fuel : Nat) (cs : List Value) (x : DataW H × List MemPlace),
    DataW.trod enc P W 0 (fun _ => true) true fuel t cs = some x → (∀ m ∈ x.1.weights P t, m ≤ reachBytes) → R W cs
section
variable {P : Program} {t e : TypeId}
theorem Opens.z {R : World → List Value → Prop} (h : Opens P t R) : OpensZ P t R := fun H enc W fuel cs x hx _ => h H enc W fuel cs x hx
theorem OpensZ.and {R R' : World → List Value → Prop} (h : OpensZ P t R) (h' : OpensZ P t R') : OpensZ P t fun W cs => R W cs ∧ R' W cs :=
  fun H enc W fuel cs x hx hz => ⟨h H enc W fuel cs x hx hz, h' H enc W fuel cs x hx hz⟩
theorem OpensZ.mono {R R' : World → List Value → Prop} (h : OpensZ P t R) (hr : ∀ W cs, R W cs → R' W cs) : OpensZ P t R' := fun H enc W fuel cs x hx hz => hr W cs (h H enc W fuel cs x hx hz)
theorem weights_all {H : Type} {d : DataW H} {m : Nat} (hm : m ∈ d.weights P e) : ∀ {l : List (DataW H)}, d ∈ l → m ∈ DataW.weightsAll P e l
  | x :: l, h => by
    rw [DataW.weightsAll, List.mem_append]
    rcases List.mem_cons.1 h with rfl | h
    · exact .inl hm
    · exact .inr (weights_all hm h)
theorem opensZ_slice {R : World → List Value → Prop} {z : Nat} (ht : P.underlying t = some (.slice e)) (hz : P.cellsOf e = z) (hp : 0 < z) (he : OpensZ P e R) :
    OpensZ P t fun W cs => ∃ A n c, cs = [.slice A n c] ∧ n ≤ c ∧ c ≤ maxLen ∧ n * P.bytesOf e ≤ reachBytes ∧ Elems R z W A n := by
  intro H enc W fuel cs x h hw
  rcases DataW.trod_slice ht h with ⟨rfl, _⟩ | ⟨a, len, cap, elems, rest, m, _, rfl, hx, _, hl, hm, hlen, hel, _⟩
  · exact ⟨none, 0, 0, rfl, Nat.le_refl _, Nat.zero_le _, by simp, fun h => absurd h (by omega)⟩
  · rw [hx] at hw
    simp only [DataW.weights, ht, List.mem_cons, List.mem_append] at hw
    have hb : len * P.bytesOf e ≤ reachBytes := by
      have := hw _ (.inl rfl)
      rw [List.length_map, List.length_map, hlen, Nat.add_mul] at this
      omega
    refine ⟨some a, len, cap, rfl, hl, hm, hb, fun hn => ?_⟩
    rw [hz] at hel
    have each : ∀ i, i < len → ∃ es, es.length = z ∧ (∀ j, j < z → W.cell? ((a.add (i * z)).add j) = es[j]?) ∧ R W es := by
      intro i hi
      have h1 := hel i hi
      rw [List.getElem?_eq_getElem (by omega), Option.bind_eq_some_iff] at h1
      obtain ⟨es, hes, hy⟩ := h1
      obtain ⟨_, hl, hc⟩ := World.cells?_some hes
      exact ⟨es, hl, hc, he H enc W m es _ hy fun q hq => hw q (.inr (.inl (weights_all hq (List.mem_map.2 ⟨_, List.getElem_mem _, rfl⟩))))⟩
    obtain ⟨b, off, spot⟩ := a
    obtain ⟨es, hl0, hc0, _⟩ := each 0 hn
    have h00 := hc0 0 hp
    rw [List.getElem?_eq_getElem (by omega)] at h00
    have hs := World.cell?_spot h00
    have hb := cell_lt h00
    simp only [Nat.zero_mul, Addr.add] at hs hb
    simp only [if_true] at hs hb
    subst hs
    refine ⟨b, off, rfl, hb, fun i hi => ?_⟩
    obtain ⟨es, hl, hc, hr⟩ := each i hi
    refine ⟨es, hl, fun j hj => ?_, hr⟩
    rw [← hc j hj, Addr.add_lit, Addr.add_lit]
theorem opensZ_field {fs : Array Field} {R : World → List Value → Prop} (ht : P.underlying t = some (.struct fs)) (i : Nat) (f : Field) (hf : fs[i]? = some f) (m z : Nat) (hm : P.cellsOf t = m) (hz : P.cellsOf f.type = z) (ho : OpensZ P f.type R) :
    OpensZ P t fun W cs => cs.length = m ∧ R W ((cs.drop f.offset).take z) := by
  intro H enc W fuel cs x h hw
  obtain ⟨xs, n, rfl, hx, hl, hxl, hfs⟩ := DataW.trod_struct ht h
  subst hm
  subst hz
  refine ⟨hl, ?_⟩
  have h1 := hfs i f hf
  have hi : i < fs.size := (Array.getElem?_eq_some_iff.1 hf).1
  rw [List.getElem?_eq_getElem (by omega)] at h1
  rw [hx] at hw
  simp only [DataW.weights, ht] at hw
  refine ho H enc W n _ _ h1 fun q hq => hw q (DataW.weights_mem_each (j := i) (t := f.type) (d := (xs[i]'(by omega)).1) ?_ ?_ q hq)
  · rw [List.getElem?_map, Array.getElem?_toList, hf]; rfl
  · rw [List.getElem?_map, List.getElem?_eq_getElem (by omega)]; rfl
end
/-- An argument, opened, with its size. -/
theorem OpensZ.argz {P : Program} {t : TypeId} {R : World → List Value → Prop} (ho : OpensZ P t R) {H : Type} {enc : TypeId × Value → H} {W : World} {v : Value} {d : DataW H} {ps : List MemPlace}
    (h : DataW.Trod enc P W 0 (fun _ => true) true t v d ps) (hz : ∀ m ∈ d.weights P t, m ≤ reachBytes) : R W v.cells.toList := by
  obtain ⟨fuel, hf⟩ := h
  exact ho H enc W fuel _ _ hf hz
/-- A slice of numbers is no longer than memory can hold. -/
theorem opensZ_ints {P : Program} {t e : TypeId} {k : IntKind} (ht : P.underlying t = some (.slice e)) (he : P.underlying e = some (.int k)) (hz : P.cellsOf e = 1) : OpensZ P t fun _ cs => ∀ A n c, cs = [.slice A n c] → n * P.bytesOf e ≤ reachBytes :=
  (opensZ_slice ht hz (by omega) (opens_int he).z).mono fun W cs ⟨A, n, c, hcs, _, _, hb, _⟩ A' n' c' h => by
    rw [hcs] at h
    injection h with h _
    injection h with _ h2 _
    rw [← h2]; exact hb
end Go.Proofs.Ytecajacpfikpcaa
