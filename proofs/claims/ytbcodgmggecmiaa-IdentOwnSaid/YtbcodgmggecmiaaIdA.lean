/- Layer 19 in plain words: numbers that go round, and the first one that isn't used. Conditions: fewer than 65536 used ones, where said. -/
import Derived.Test.YtbcodgmggecmiaaLib
namespace Go.Proofs.Ytbcodgmggecmiaa.Idn

def has (l : List Int) (n : Int) : Bool := l.contains n
def after (id : Int) : Int := if id < 0 ∨ 65535 ≤ id then 0 else id + 1
/-- The first that isn't used, of so many from one on. -/
def go (l : List Int) : Nat → Int → Option Int
  | 0, _ => none
  | k + 1, id => if has l id then go l k (after id) else some id
def next (l : List Int) (fr : Int) : Option Int := if fr < 0 ∨ 65535 < fr then none else go l 65536 fr
/-- The k-th behind one. -/
def it (id : Int) (k : Nat) : Int := (id + k) % 65536
theorem after_in {id : Int} (h0 : 0 ≤ id) (h1 : id ≤ 65535) : after id = (id + 1) % 65536 := by
  unfold after; split <;> omega
theorem after_range (id : Int) : 0 ≤ after id ∧ after id ≤ 65535 := by unfold after; split <;> omega
theorem it_range (id : Int) (k : Nat) : 0 ≤ it id k ∧ it id k ≤ 65535 := by unfold it; omega
theorem it_zero {id : Int} (h0 : 0 ≤ id) (h1 : id ≤ 65535) : it id 0 = id := by unfold it; omega
theorem it_after {id : Int} (h0 : 0 ≤ id) (h1 : id ≤ 65535) (k : Nat) : it (after id) k = it id (k + 1) := by
  rw [after_in h0 h1]; unfold it; omega
theorem it_succ (id : Int) (k : Nat) : after (it id k) = it id (k + 1) := by
  obtain ⟨a, b⟩ := it_range id k
  rw [after_in a b]; unfold it; omega
theorem it_add (id : Int) (a b : Nat) : it (it id a) b = it id (a + b) := by unfold it; omega
theorem it_inj {id : Int} {a b : Nat} (h : it id a = it id b) (ha : a < 65536) (hb : b < 65536) : a = b := by unfold it at h; omega

theorem go_spec (l : List Int) (f : Nat) (id : Int) (j : Nat) (h0 : 0 ≤ id) (h1 : id ≤ 65535) (hj : j < f) (hu : ∀ i, i < j → has l (it id i) = true) (hn : has l (it id j) = false) : go l f id = some (it id j) := by
  induction f generalizing id j with
  | zero => omega
  | succ f ih =>
    cases j with
    | zero =>
      rw [it_zero h0 h1] at hn ⊢
      simp [go, hn]
    | succ j =>
      have hh := hu 0 (by omega)
      rw [it_zero h0 h1] at hh
      obtain ⟨a, b⟩ := after_range id
      have := ih (after id) j a b (by omega) (fun i hi => by rw [it_after h0 h1]; exact hu (i + 1) (by omega)) (by rw [it_after h0 h1]; exact hn)
      rw [it_after h0 h1] at this
      simp [go, hh, this]

theorem len_of_subset : ∀ (xs l : List Int), xs.Nodup → (∀ x ∈ xs, x ∈ l) → xs.length ≤ l.length
  | [], _, _, _ => by simp
  | x :: xs, l, hn, hs => by
    have hx : x ∈ l := hs x (by simp)
    obtain ⟨hnx, hn'⟩ := List.nodup_cons.1 hn
    have h := len_of_subset xs (l.erase x) hn' (fun y hy => by
      have hne : y ≠ x := fun e => hnx (e ▸ hy)
      exact (List.mem_erase_of_ne hne).2 (hs y (by simp [hy])))
    rw [List.length_erase_of_mem hx] at h
    have : 0 < l.length := List.length_pos_of_mem hx
    simp; omega
theorem least (p : Nat → Bool) : ∀ m, (∃ j, j ≤ m ∧ p j = false) → ∃ j, j ≤ m ∧ p j = false ∧ ∀ i, i < j → p i = true
  | 0, ⟨j, hj, hp⟩ => ⟨j, hj, hp, fun i hi => by omega⟩
  | m + 1, ⟨j, hj, hp⟩ => by
    by_cases h : ∃ j, j ≤ m ∧ p j = false
    · obtain ⟨j, a, b, c⟩ := least p m h
      exact ⟨j, by omega, b, c⟩
    · refine ⟨j, hj, hp, fun i hi => ?_⟩
      cases hpi : p i
      · exact absurd ⟨i, by omega, hpi⟩ h
      · rfl
theorem nodup_its (id : Int) : ∀ m, m ≤ 65536 → ((List.range m).map (it id)).Nodup := fun m hm => by
  rw [List.nodup_iff_pairwise_ne, List.pairwise_map]
  have := List.nodup_range (n := m)
  rw [List.nodup_iff_pairwise_ne] at this
  refine (List.Pairwise.and_mem.1 this).imp ?_
  rintro a b ⟨ha, hb, hne⟩ e
  exact hne (it_inj e (by have := List.mem_range.1 ha; omega) (by have := List.mem_range.1 hb; omega))
/-- Of few used ones one is free, and what is ahead of it is used. -/
theorem found (l : List Int) (id : Int) (hl : l.length < 65535) : ∃ j, j ≤ l.length ∧ has l (it id j) = false ∧ ∀ i, i < j → has l (it id i) = true := by
  refine least _ _ ?_
  refine Classical.byContradiction fun hc => ?_
  have h := len_of_subset ((List.range (l.length + 1)).map (it id)) l (nodup_its id _ (by omega)) (fun x hx => by
    obtain ⟨k, hk, rfl⟩ := List.mem_map.1 hx
    have hk' := List.mem_range.1 hk
    cases hh : has l (it id k)
    · exact absurd ⟨k, by omega, hh⟩ hc
    · simpa [has] using hh)
  simp at h
  omega
theorem next_spec {l : List Int} {fr : Int} {j : Nat} (h0 : 0 ≤ fr) (h1 : fr ≤ 65535) (hj : j < 65536) (hu : ∀ i, i < j → has l (it fr i) = true) (hn : has l (it fr j) = false) : next l fr = some (it fr j) := by
  unfold next
  rw [if_neg (by omega)]
  exact go_spec l 65536 fr j h0 h1 hj hu hn
/-- With the one that was told used too, the next is sought from behind it; and it is another. -/
theorem own {l : List Int} {fr n : Int} (h0 : 0 ≤ fr) (h1 : fr ≤ 65535) (hl : l.length < 65534) (hn : next l fr = some n) :
    ∃ m, next (l ++ [n]) fr = some m ∧ next (l ++ [n]) (after n) = some m ∧ m ≠ n ∧ 0 ≤ n ∧ n ≤ 65535 := by
  obtain ⟨j, hj, hf, hu⟩ := found l fr (by omega)
  obtain ⟨j', hj', hf', hu'⟩ := found (l ++ [n]) fr (by simp; omega)
  have e : n = it fr j := by
    have := next_spec h0 h1 (by omega) hu hf
    rw [hn] at this; exact Option.some.inj this
  have hin : ∀ i, i ≤ j → has (l ++ [n]) (it fr i) = true := fun i hi => by
    rcases Nat.lt_or_ge i j with h | h
    · have := hu i h
      simp [has] at this ⊢
      exact .inl this
    · obtain rfl : i = j := by omega
      simp [has, e]
  have hjj : j < j' := by
    rcases Nat.lt_or_ge j j' with h | h
    · exact h
    · rw [hin j' h] at hf'; cases hf'
  have hr := it_range fr j
  simp at hj'
  have ha : ∀ i, it (after n) i = it fr (i + (j + 1)) := fun i => by rw [e, it_succ, it_add, Nat.add_comm]
  have hr2 := after_range n
  refine ⟨it fr j', next_spec h0 h1 (by omega) hu' hf', ?_, ?_, by rw [e]; exact hr.1, by rw [e]; exact hr.2⟩
  · have h := next_spec (l := l ++ [n]) (fr := after n) (j := j' - (j + 1)) hr2.1 hr2.2 (by omega) (fun i hi => by rw [ha]; exact hu' _ (by omega)) (by rw [ha, show j' - (j + 1) + (j + 1) = j' by omega]; exact hf')
    rw [h, ha, show j' - (j + 1) + (j + 1) = j' by omega]
  · intro h
    rw [h] at hf'
    simp [has] at hf'
end Go.Proofs.Ytbcodgmggecmiaa.Idn
