/- Layer 19, the code's own marks: which numbers are used, by how far they are away. Conditions: fewer than 65535 used ones. -/
import Derived.Test.YtbcodgmggecmiaaIdR
import Derived.Test.YtbcodgmggecmiaaBoo
import Derived.Test.YtbcodgmggecmiaaInt
namespace Go.Proofs.Ytbcodgmggecmiaa
set_option linter.unusedVariables false
open Go.ChangeShapes Go.WideShapes Go.ChangeAt Go.RowKit
namespace Idn
/-- Which of the first L numbers from one on stand among the first k of a list. -/
def marks (zs : List Int) (fr : Int) (L k : Nat) : List Bool := (List.range L).map fun j => has (zs.take k) (it fr j)
theorem marks_get {zs : List Int} {fr : Int} {L k j : Nat} (h : j < L) : (marks zs fr L k)[j]? = some (has (zs.take k) (it fr j)) := by
  unfold marks
  rw [List.getElem?_map, List.getElem?_range h]; rfl
theorem marks_len (zs : List Int) (fr : Int) (L k : Nat) : (marks zs fr L k).length = L := by simp [marks]
theorem marks_zero (zs : List Int) (fr : Int) (L : Nat) : marks zs fr L 0 = List.replicate L false := by
  rw [List.eq_replicate_iff]
  refine ⟨marks_len _ _ _ _, fun b hb => ?_⟩
  obtain ⟨j, _, rfl⟩ := List.mem_map.1 hb
  rfl
theorem marks_same {zs : List Int} {fr : Int} {L k : Nat} (hk : k < zs.length) (h : ∀ j, j < L → (zs.getD k 0 == it fr j) = false) : marks zs fr L (k + 1) = marks zs fr L k := by
  unfold marks
  refine List.map_congr_left fun j hj => ?_
  rw [has_snoc zs k _ hk, h j (List.mem_range.1 hj), Bool.or_false]
theorem marks_hit {zs : List Int} {fr : Int} {L k a : Nat} (hk : k < zs.length) (hL : L ≤ 65536) (ha : a < L) (e : it fr a = zs.getD k 0) : marks zs fr L (k + 1) = (marks zs fr L k).set a true := by
  apply List.ext_getElem?
  intro j
  rcases Nat.lt_or_ge j L with hj | hj
  · rw [marks_get hj, has_snoc zs k _ hk]
    by_cases hja : a = j
    · subst hja
      rw [List.getElem?_set_self (by rw [marks_len]; exact hj), e]
      simp
    · rw [List.getElem?_set_ne hja, marks_get hj]
      have : (zs.getD k 0 == it fr j) = false := by
        cases hh : zs.getD k 0 == it fr j
        · rfl
        · exact absurd (it_inj (e.trans (by simpa using hh)) (by omega) (by omega)) hja
      rw [this, Bool.or_false]
  · rw [List.getElem?_eq_none (by rw [marks_len]; exact hj), List.getElem?_eq_none (by rw [List.length_set, marks_len]; exact hj)]
theorem out_ne {fr z : Int} (h : z < 0 ∨ 65535 < z) (j : Nat) : (z == it fr j) = false := by
  have := it_range fr j
  cases hh : z == it fr j
  · rfl
  · have e : z = it fr j := by simpa using hh
    omega
theorem far_ne {fr z : Int} {a L : Nat} (h0 : 0 ≤ fr) (h1 : fr ≤ 65535) (e : it fr a = z) (ha : a < 65536) (hl : L ≤ a) (j : Nat) (hj : j < L) : (z == it fr j) = false := by
  cases hh : z == it fr j
  · rfl
  · have := it_inj (e.trans (by simpa using hh)) ha (by omega)
    omega
theorem away_it {fr z : Int} {a : Nat} (h0 : 0 ≤ fr) (h1 : fr ≤ 65535) (z0 : 0 ≤ z) (z1 : z ≤ 65535) (e : (z - fr + 65536) % 65536 = a) : it fr a = z ∧ a < 65536 := by
  unfold it; omega
end Idn
theorem made_bools (n : Nat) : (madeCells (Value.bool false).cells (n * 1)).toList = (List.replicate n false).map Value.bool := by
  simp [madeCells, Value.cells, Nat.mod_one]
  rw [List.eq_replicate_iff]
  exact ⟨by simp, fun b hb => by simp at hb; exact hb.2.symm⟩
theorem Bools.of_own {w : World} {base : Nat} {e : TypeId} {A : Option Addr} {n c : Nat} {zs : List Bool} (h : w.ownsRow base e 1 (.slice A n c) n (zs.map Value.bool)) : Bools w w.heap.size A n zs := by
  have hl : zs.length = n := by simpa using h.1
  refine ⟨hl, fun hn => ?_⟩
  rcases h.2 with ⟨hv, h0⟩ | ⟨g, cap, cur, hv, _, hh, _⟩
  · omega
  · injection hv with hA
    subst hA
    have hlt := (h.lt g rfl).2
    refine ⟨g, 0, rfl, hlt, fun j hj => ?_⟩
    have := h.cells (g := g) rfl j (.bool (zs.getD j false)) (by
      have hj' : j < zs.length := by omega
      simp [List.getD, List.getElem?_eq_getElem hj'])
    simpa [Addr.add_lit] using this
namespace Ident
open Idn
theorem info_bool : (Try.prog.info? 4).map (fun i => (i.zero, i.size, i.bytes)) = some (some (.bool false), 1, 1) := by kernel_rfl
set_option maxHeartbeats 400000 in
theorem is_any (z : Int) (w : World) :
    Calls Try.prog 11 #[.int .i64 z] w fun e w' => e = .returned (.bool (decide (0 ≤ z) && decide (z < 65536))) ∧ w = w' := by
  by_cases h : 0 ≤ z
  · have d : decide (0 ≤ z) = true := by simp [h]
    rw [d, Bool.true_and]
    clear h
    go_enter Try.func11, Try.ntmps11
    go_wp2
    go_ret
    exact ⟨rfl, rfl⟩
  · have d : decide (0 ≤ z) = false := by simp; omega
    rw [d, Bool.false_and]
    clear h
    go_enter Try.func11, Try.ntmps11
    go_wp2
    go_ret
    exact ⟨rfl, rfl⟩
theorem is_yes {z : Int} (h0 : 0 ≤ z) (h1 : z ≤ 65535) (w : World) : Calls Try.prog 11 #[.int .i64 z] w fun e w' => e = .returned (.bool true) ∧ w = w' := by
  have h := is_any z w
  rwa [show (decide (0 ≤ z) && decide (z < 65536)) = true by simp; omega] at h
theorem is_no {z : Int} (h1 : z < 0 ∨ 65535 < z) (w : World) : Calls Try.prog 11 #[.int .i64 z] w fun e w' => e = .returned (.bool false) ∧ w = w' := by
  have h := is_any z w
  rwa [show (decide (0 ≤ z) && decide (z < 65536)) = false by simp; omega] at h
/-- What the loop of usedFrom holds behind k numbers. -/
def UsedRel (w : World) (n L : Nat) (zs : List Int) (fr : Int) (i : Value) (wr : World) : Prop :=
  ∃ k : Nat, k ≤ n ∧ i = .int .i64 k ∧ wr.ownsRow w.heap.size 4 1 (.slice (some ⟨w.heap.size, 0, none⟩) L L) L ((marks zs fr L k).map Value.bool) ∧ Below w.heap.size w wr
set_option maxHeartbeats 400000 in
theorem used_any (A : Option Addr) (n c : Nat) (zs : List Int) (fr : Int) (w : World) (hn : n ≤ 60000) (hA : Ints .i64 w w.heap.size A n zs) (h0 : 0 ≤ fr) (h1 : fr ≤ 65535) :
    Calls Try.prog 12 #[.slice A n c, .int .i64 fr] w fun e w' => e = .returned (.slice (some ⟨w.heap.size, 0, none⟩) (n + 1) (n + 1)) ∧ Bools w' w'.heap.size (some ⟨w.heap.size, 0, none⟩) (n + 1) (marks zs fr (n + 1) n) ∧ Keep w w' := by
  obtain ⟨i0, hi, hz0, hz1, hz2⟩ := info_parts info_bool
  have hlen := hA.1
  have HL := Lib.hid hlen
  clear hlen
  have dmin : decide ((65536 : Int) < (n : Int) + 1) = false := by simp; omega
  go_enter Try.func12, Try.ntmps12
  go_wp2_with (at_make; refine wpList_make_full _ rfl _ _ 31 rfl w.heap.size 4 i0 (.bool false) 1 Try.underlying31 hi hz0 hz1 _ _ _ _ (n + 1) rfl rfl rfl rfl ?b2 ?b3 (Nat.le_refl _) ?_)
  case b2 => rw [hz2]; omega
  case b3 => unfold maxLen; omega
  intro w0 hown0 hgrow0
  go_wp2
  go_loopw [16] (fun i wr => UsedRel w n (n + 1) zs fr i wr) (fun i _ => n - (intOf i).toNat)
  case atStart => exact ⟨0, Nat.zero_le _, rfl, by rw [marks_zero, ← made_bools, Nat.mul_one]; exact hown0, (Below.refl _ _).grown hgrow0 (Nat.le_refl _) (fun k h => by cases h)⟩
  case round =>
    obtain ⟨k, hk, rfl, hown, hbel⟩ := hrel
    by_cases hlt : k < n
    · obtain ⟨b, off, rfl, hb, hc⟩ := hA.2 (by omega)
      have hck := (hbel.cell (p := ⟨b, off + k, none⟩) hb).trans (hc k hlt)
      clear hc
      obtain ⟨z, hz⟩ : ∃ z, z = zs.getD k 0 := ⟨_, rfl⟩
      rw [← hz] at hck
      have HZ := Lib.hid hz
      have HA := Lib.hid hA
      clear hz hA
      by_cases ho : z < 0 ∨ 65535 < z
      · have HO := Lib.hid ho
        have HS := Lib.hid (marks_same (L := n + 1) (fr := fr) (by rw [HL.out]; exact hlt) (fun j _ => by rw [← HZ.out]; exact out_ne ho j))
        clear ho
        go_wp2_with fail
        refine (is_no HO.out _).mono ?_
        rintro e w2 ⟨rfl, rfl⟩
        go_wp2
        exact ⟨⟨k + 1, by omega, by go_num, by rw [HS.out]; exact hown, hbel⟩, by simp [intOf]; omega⟩
      · have z0 : 0 ≤ z := by omega
        have z1 : z ≤ 65535 := by omega
        clear ho
        obtain ⟨a, ha⟩ : ∃ a : Nat, (z - fr + 65536) % 65536 = a := ⟨((z - fr + 65536) % 65536).toNat, by omega⟩
        obtain ⟨hit, halt⟩ := away_it h0 h1 z0 z1 ha
        have HI := Lib.hid hit
        clear hit
        by_cases hal : a < n + 1
        · have HS := Lib.hid (marks_hit (zs := zs) (L := n + 1) (by rw [HL.out]; exact hlt) (by omega) hal (HI.out.trans HZ.out))
          have hcx : wr.cell? ⟨w.heap.size, a, none⟩ = some (.bool (has (zs.take k) (it fr a))) := by
            rw [hown.cellAt _ (by omega), List.getElem?_map, marks_get hal]; rfl
          have hfz : wr.frozen? ⟨w.heap.size, a, none⟩ = false := hown.frozenAt _
          go_wp2_with fail
          refine (is_yes z0 z1 _).mono ?_
          rintro e w2 ⟨rfl, rfl⟩
          go_wp2
          have hst := (hown.stored a (.bool true)).1
          rw [show ((marks zs fr (n + 1) k).map Value.bool).set a (.bool true) = ((marks zs fr (n + 1) k).set a true).map Value.bool by rw [List.map_set], ← HS.out] at hst
          exact ⟨⟨k + 1, by omega, by go_num, hst, hbel.setCell (Nat.le_refl _) _⟩, by simp [intOf]; omega⟩
        · have HS := Lib.hid (marks_same (zs := zs) (L := n + 1) (fr := fr) (by rw [HL.out]; exact hlt) (fun j hj => by rw [← HZ.out]; exact far_ne h0 h1 HI.out halt (by omega) j hj))
          go_wp2_with fail
          refine (is_yes z0 z1 _).mono ?_
          rintro e w2 ⟨rfl, rfl⟩
          go_wp2
          exact ⟨⟨k + 1, by omega, by go_num, by rw [HS.out]; exact hown, hbel⟩, by simp [intOf]; omega⟩
    · obtain rfl : k = n := by omega
      go_wp2
      go_ret
      exact ⟨rfl, Bools.of_own hown, hbel⟩
end Ident
end Go.Proofs.Ytbcodgmggecmiaa
