/- Of these texts: Open. Conditions: as each part says. -/
import Derived.Test.YtaciogcpghbhjaaGreatZTLib
import Derived.OpenShut
import Derived.ShutString
import Derived.ChangeOld
/- What a reading of an argument tells of its cells, type by type. Conditions: none. -/
namespace Go.Proofs.YtaciogcpghbhjaaGreat
open Go.ChangeShapes Go.WideShapes Go.ChangeAt Go.RowKit
theorem cell_lt {w : World} {a : Addr} {v : Value} (h : w.cell? a = some v) : a.block < w.heap.size := by
 rcases Nat.lt_or_ge a.block w.heap.size with hlt | hge
 ·exact hlt
 ·unfold World.cell? at h
  rw [Array.getElem?_eq_none hge] at h
  split at h <;> simp_all
def Opens (P : Program) (t : TypeId) (R : World -> List Value -> Prop) : Prop :=
 ∀ (H : Type) (enc : TypeId × Value -> H) (W : World) (fuel : Nat) (cs : List Value) (x : DataW H × List MemPlace),
   DataW.trod enc P W 0 (fun _ => true) true fuel t cs = some x -> R W cs
section
variable {P : Program} {t e : TypeId}
theorem opens_int {k : IntKind} (ht : P.underlying t = some (.int k)) : Opens P t fun _ cs => ∃ n, cs = [.int k n] ∧ (Lit.int k n).wf = true := by
 intro H enc W fuel cs x h
 obtain ⟨n, rfl, _, hw⟩ := DataW.trod_int ht h
 exact ⟨n, rfl, hw⟩
theorem opens_float {k : FloatKind} (ht : P.underlying t = some (.float k)) : Opens P t fun _ cs => ∃ b, cs = [.float k b] ∧ (Lit.float k b).wf = true := by
 intro H enc W fuel cs x h
 cases fuel with
 | zero => simp [DataW.trod] at h
 | succ n =>
   unfold DataW.trod at h
   rw [ht] at h
   split at h <;> simp_all
theorem opens_bool (ht : P.underlying t = some .bool) : Opens P t fun _ cs => ∃ b, cs = [.bool b] := by
 intro H enc W fuel cs x h
 obtain ⟨b, rfl, _⟩ := DataW.trod_bool ht h
 exact ⟨b, rfl⟩
theorem opens_string (ht : P.underlying t = some .string) : Opens P t fun _ cs => ∃ s : ByteArray, cs = [.string s] ∧ s.size <= maxLen := by
 intro H enc W fuel cs x h
 obtain ⟨s, rfl, _, hs⟩ := DataW.trod_string ht h
 exact ⟨s, rfl, hs⟩
def Elems (R : World -> List Value -> Prop) (z : Nat) (W : World) (A : Option Addr) (n : Nat) : Prop :=
 0 < n -> ∃ b off, A = some ⟨b, off, none⟩ ∧ b < W.heap.size ∧ ∀ i, i < n -> ∃ es, es.length = z ∧ (∀ j, j < z -> W.cell? ⟨b, off + i * z + j, none⟩ = es[j]?) ∧ R W es
theorem opens_slice {R : World -> List Value -> Prop} {z : Nat} (ht : P.underlying t = some (.slice e)) (hz : P.cellsOf e = z) (hp : 0 < z) (he : Opens P e R) :
  Opens P t fun W cs => ∃ A n c, cs = [.slice A n c] ∧ n <= c ∧ c <= maxLen ∧ Elems R z W A n := by
 intro H enc W fuel cs x h
 rcases DataW.trod_slice ht h with ⟨rfl, _⟩ | ⟨a, len, cap, elems, rest, m, _, rfl, _, _, hl, hm, hlen, hel, _⟩
 ·exact ⟨none, 0, 0, rfl, Nat.le_refl _, Nat.zero_le _, fun h => absurd h (by omega)⟩
 ·refine ⟨some a, len, cap, rfl, hl, hm, fun hn => ?_⟩
  rw [hz] at hel
  have each : ∀ i, i < len -> ∃ es, es.length = z ∧ (∀ j, j < z -> W.cell? ((a.add (i * z)).add j) = es[j]?) ∧ R W es := by
   intro i hi
   have h1 := hel i hi
   rw [List.getElem?_eq_getElem (by omega), Option.bind_eq_some_iff] at h1
   obtain ⟨es, hes, hy⟩ := h1
   obtain ⟨_, hl, hc⟩ := World.cells?_some hes
   exact ⟨es, hl, hc, he H enc W m es _ hy⟩
  obtain ⟨b, off, spot⟩ := a
  obtain ⟨es, hl0, hc0, _⟩ := each 0 hn
  have h00 := hc0 0 hp
  rw [List.getElem?_eq_getElem (by omega)] at h00
  have hs := World.cell?_spot h00
  have hb := cell_lt h00
  simp only [Nat.zero_mul, Addr.add] at hs hb
  simp only [if_true] at hs hb
  subst hs
  refine ⟨b, off, rfl, hb, fun i hi => ?_⟩
  obtain ⟨es, hl, hc, hr⟩ := each i hi
  refine ⟨es, hl, fun j hj => ?_, hr⟩
  rw [<- hc j hj, Addr.add_lit, Addr.add_lit]
theorem opens_field {fs : Array Field} {R : World -> List Value -> Prop} (ht : P.underlying t = some (.struct fs)) (i : Nat) (f : Field) (hf : fs[i]? = some f) (m z : Nat) (hm : P.cellsOf t = m) (hz : P.cellsOf f.type = z) (ho : Opens P f.type R) :
  Opens P t fun W cs => cs.length = m ∧ R W ((cs.drop f.offset).take z) := by
 intro H enc W fuel cs x h
 obtain ⟨xs, n, rfl, _, hl, hxl, hfs⟩ := DataW.trod_struct ht h
 subst hm
 subst hz
 refine ⟨hl, ?_⟩
 have h1 := hfs i f hf
 have hi : i < fs.size := (Array.getElem?_eq_some_iff.1 hf).1
 rw [List.getElem?_eq_getElem (by omega)] at h1
 exact ho H enc W n _ _ h1
theorem Opens.and {R R' : World -> List Value -> Prop} (h : Opens P t R) (h' : Opens P t R') : Opens P t fun W cs => R W cs ∧ R' W cs :=
 fun H enc W fuel cs x hx => ⟨h H enc W fuel cs x hx, h' H enc W fuel cs x hx⟩
theorem Opens.mono {R R' : World -> List Value -> Prop} (h : Opens P t R) (hr : ∀ W cs, R W cs -> R' W cs) : Opens P t R' := fun H enc W fuel cs x hx => hr W cs (h H enc W fuel cs x hx)
end
theorem choose_list {α : Type} (n : Nat) (p : Nat -> α -> Prop) (h : ∀ i, i < n -> ∃ a, p i a) : ∃ l : List α, l.length = n ∧ ∀ i a, l[i]? = some a -> p i a := by
 induction n with
 | zero => exact ⟨[], rfl, fun i a h => by simp at h⟩
 | succ n ih =>
   obtain ⟨l, hl, hp⟩ := ih fun i hi => h i (by omega)
   obtain ⟨a, ha⟩ := h n (by omega)
   refine ⟨l ++ [a], by simp [hl], fun i b hb => ?_⟩
   rcases Nat.lt_or_ge i l.length with hlt | hge
   ·rw [List.getElem?_append_left hlt] at hb
    exact hp i b hb
   ·rw [List.getElem?_append_right hge] at hb
    have h0 : i - l.length = 0 := by
     rcases Nat.eq_zero_or_pos (i - l.length) with h0 | h0
     ·exact h0
     ·rw [List.getElem?_eq_none (by simp; omega)] at hb; cases hb
    rw [h0] at hb
    simp at hb
    subst hb
    have : i = n := by omega
    subst this
    exact ha
def IntsIn (k : IntKind) (w : World) (A : Option Addr) (n : Nat) (zs : List Int) : Prop := Ints k w w.heap.size A n zs ∧ ∀ z ∈ zs, (Lit.int k z).wf = true
theorem opens_ints {P : Program} {t e : TypeId} {k : IntKind} (ht : P.underlying t = some (.slice e)) (he : P.underlying e = some (.int k)) (hz : P.cellsOf e = 1) :
  Opens P t fun W cs => ∃ A n c zs, cs = [.slice A n c] ∧ n <= c ∧ c <= maxLen ∧ IntsIn k W A n zs :=
 (opens_slice ht hz (by omega) (opens_int he)).mono fun W cs ⟨A, n, c, hcs, hn, hc, hE⟩ => by
  rcases Nat.eq_zero_or_pos n with rfl | hp
  ·exact ⟨A, 0, c, [], hcs, hn, hc, Ints.none_ _ _ _ _, fun z hz => by cases hz⟩
  ·obtain ⟨b, off, hA, hb, hE⟩ := hE hp
   obtain ⟨zs, hl, hzs⟩ := choose_list n (fun i z => W.cell? ⟨b, off + i, none⟩ = some (.int k z) ∧ (Lit.int k z).wf = true) (fun i hi => by
    obtain ⟨es, _, hc, z, rfl, hw⟩ := hE i hi
    have := hc 0 (by omega)
    exact ⟨z, by simpa using this, hw⟩)
   refine ⟨A, n, c, zs, hcs, hn, hc, ⟨hl, fun _ => ⟨b, off, hA, hb, fun j hj => ?_⟩⟩, fun z hz => ?_⟩
   ·have hj' : j < zs.length := by omega
    have := (hzs j zs[j] (List.getElem?_eq_getElem hj')).1
    rw [this, List.getD_eq_getElem?_getD, List.getElem?_eq_getElem hj']; rfl
   ·obtain ⟨i, hi, rfl⟩ := List.mem_iff_getElem.1 hz
    exact (hzs i _ (List.getElem?_eq_getElem hi)).2
theorem Opens.arg {P : Program} {t : TypeId} {R : World -> List Value -> Prop} (ho : Opens P t R) {H : Type} {enc : TypeId × Value -> H} {W : World} {v : Value} {d : DataW H} {ps : List MemPlace}
  (h : DataW.Trod enc P W 0 (fun _ => true) true t v d ps) : R W v.cells.toList := by
 obtain ⟨fuel, hf⟩ := h
 exact ho H enc W fuel _ _ hf
theorem trod_lt' {P : Program} {t : TypeId} {H : Type} {enc : TypeId × Value -> H} {W : World} {sp : Nat -> Bool} {hd : Bool} {v : Value} {d : DataW H} {ps : List MemPlace}
  (h : DataW.Trod enc P W 0 sp hd t v d ps) : ∀ x ∈ ps, x.block < W.heap.size := by
 obtain ⟨m, hm⟩ := h
 exact DataW.trod_lt m _ _ _ hm
end Go.Proofs.YtaciogcpghbhjaaGreat
