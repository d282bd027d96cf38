/- Requests that wait, in plain words: which may be, one more, one less, those that are due, and that leave. Conditions: none. -/
import Derived.Test.YtijnajlijdnbcaaAskA
/-- A request that waits: its numbers, its request, where its values lie. -/
structure Go.Proofs.Ytijnajlijdnbcaa.PendP where
  o : Int
  cn : Int
  lf : Int
  id : Int
  un : Int
  ak : AskP
  A : Option Addr
  c : Nat
  due : Int
namespace Go.Proofs.Ytijnajlijdnbcaa.Pn
set_option linter.unusedVariables false
open Go.RowKit
def zero : PendP := ⟨0, 0, 0, 0, 0, Ak.zero, none, 0, 0⟩
def outers (l : List PendP) : List Int := l.map (·.o)
/-- May they be? -/
def right (l : List PendP) : Bool := decide (outers l).Nodup
/-- Is there one of this number? -/
def has (l : List PendP) (x : Int) : Bool := l.any (·.o == x)
/-- The place of the first one of this number; -1: there is none. -/
def find : List PendP → Int → Int
  | [], _ => -1
  | p :: l, x => if p.o = x then 0 else if find l x < 0 then -1 else find l x + 1
def full (l : List PendP) (most : Int) : Bool := decide (most ≤ (l.length : Int))
def add (l : List PendP) (p : PendP) (most : Int) : List PendP := if full l most then l else if has l p.o then l else l ++ [p]
def addErr (l : List PendP) (p : PendP) (most : Int) : Int := if full l most then 11 else if has l p.o then 1 else 0
def drop (l : List PendP) (k : Int) : List PendP := if k < 0 then l else l.eraseIdx k.toNat
def isDue (t : Int) (p : PendP) : Bool := decide (p.due ≤ t)
def due (l : List PendP) (t : Int) : List PendP := l.filter (isDue t)
def rest (l : List PendP) (t : Int) : List PendP := l.filter fun p => !isDue t p
def leave (l : List PendP) (c : Int) : List PendP := l.filter fun p => !(p.cn == c)

theorem find_range : ∀ (l : List PendP) (x : Int), -1 ≤ find l x ∧ find l x < (l.length : Int)
  | [], x => by simp [find]
  | p :: l, x => by
    have h := find_range l x
    unfold find
    rw [List.length_cons]
    split
    · omega
    · split <;> omega
theorem find_has : ∀ (l : List PendP) (x : Int), (0 ≤ find l x) ↔ has l x = true
  | [], x => by simp [find, has]
  | p :: l, x => by
    have h := find_has l x
    have hr := find_range l x
    unfold find
    by_cases e : p.o = x
    · simp [has, e]
    · rw [if_neg e]
      have e2 : has (p :: l) x = has l x := by simp [has, e]
      rw [e2, ← h]
      split <;> omega
theorem find_none {l : List PendP} {x : Int} (h : has l x = false) : find l x = -1 := by
  have h1 := find_has l x
  have h2 := find_range l x
  rw [h] at h1
  simp at h1
  omega
theorem has_iff (l : List PendP) (x : Int) : has l x = true ↔ x ∈ outers l := by
  simp [has, outers]
theorem has_getD (l : List PendP) (x : Int) (h : has l x = false) (k : Nat) (hk : k < l.length) : (l.getD k zero).o ≠ x := fun e => by
  have : has l x = true := by
    rw [has_iff, ← e]
    have e2 : l.getD k zero = l[k] := by simp [List.getD, List.getElem?_eq_getElem hk]
    rw [e2]
    exact List.mem_map.2 ⟨l[k], List.getElem_mem hk, rfl⟩
  rw [h] at this; cases this
/-- The first place of a number, found by going on. -/
theorem find_at : ∀ (l : List PendP) (x : Int) (k : Nat), k < l.length → has (l.take k) x = false → (l.getD k zero).o = x → find l x = k
  | [], x, k, hk, _, _ => by simp at hk
  | p :: l, x, 0, _, _, h => by simp at h; simp [find, h]
  | p :: l, x, k + 1, hk, h1, h2 => by
    have e : p.o ≠ x := fun e => by simp [has, e] at h1
    have h1' : has (l.take k) x = false := by simp [has, e] at h1 ⊢; exact h1
    have := find_at l x k (by simpa using hk) h1' (by simpa using h2)
    unfold find
    rw [if_neg e, this, if_neg (by omega)]
    omega
theorem has_snoc (l : List PendP) (x : Int) (k : Nat) (hk : k < l.length) : has (l.take (k + 1)) x = (has (l.take k) x || (l.getD k zero).o == x) := by
  have e : l.getD k zero = l[k] := by simp [List.getD, List.getElem?_eq_getElem hk]
  unfold has
  rw [List.take_succ_eq_append_getElem hk, List.any_append, e, List.any_cons, List.any_nil, Bool.or_false]
theorem has_take (l : List PendP) (x : Int) : has (l.take l.length) x = has l x := by rw [List.take_length]
theorem filter_snoc (q : PendP → Bool) (l : List PendP) (k : Nat) (hk : k < l.length) : (l.take (k + 1)).filter q = (l.take k).filter q ++ (if q (l.getD k zero) then [l.getD k zero] else []) := by
  rw [List.take_succ_eq_append_getElem hk, List.filter_append]
  congr 1
  have e : l.getD k zero = l[k] := by simp [List.getD, List.getElem?_eq_getElem hk]
  rw [e]
  simp [List.filter_cons]
theorem getD_mem (l : List PendP) (k : Nat) (hk : k < l.length) : l.getD k zero ∈ l := by
  have e : l.getD k zero = l[k] := by simp [List.getD, List.getElem?_eq_getElem hk]
  rw [e]; exact List.getElem_mem hk
/-- Up to a place no two are of one number. -/
def upto (l : List PendP) (n : Nat) : Prop := ∀ i, i < n → ∀ k, k < i → (l.getD k zero).o ≠ (l.getD i zero).o
theorem right_upto (l : List PendP) : right l = true ↔ upto l l.length := by
  unfold right
  rw [decide_eq_true_iff, List.nodup_iff_pairwise_ne, List.pairwise_iff_getElem]
  have gd : ∀ j (hj : j < l.length), (l.getD j zero).o = (outers l)[j]'(by simpa [outers] using hj) := fun j hj => by simp [outers, List.getD, List.getElem?_eq_getElem hj]
  constructor
  · intro h i hi k hk
    rw [gd i hi, gd k (by omega)]
    exact h k i _ _ hk
  · intro h i j hi hj hij
    have hi' : i < l.length := by simpa [outers] using hi
    have hj' : j < l.length := by simpa [outers] using hj
    have := h j hj' i hij
    rwa [gd i hi', gd j hj'] at this
theorem right_not {l : List PendP} {i k : Nat} (hi : i < l.length) (hk : k < i) (e : (l.getD k zero).o = (l.getD i zero).o) : right l = false := by
  cases h : right l
  · rfl
  · exact absurd e ((right_upto l).1 h i hi k hk)
theorem drop_at (l : List PendP) (k : Nat) : drop l k = l.take k ++ l.drop (k + 1) := by
  unfold drop
  rw [if_neg (by omega), Int.toNat_natCast, List.eraseIdx_eq_take_drop_succ]
theorem drop_neg (l : List PendP) (k : Int) (h : k < 0) : drop l k = l := by unfold drop; rw [if_pos h]
theorem drop_far (l : List PendP) (k : Int) (h : (l.length : Int) ≤ k) : drop l k = l := by
  unfold drop
  rw [if_neg (by omega)]
  exact List.eraseIdx_of_length_le (by omega)
/-- What stays of the first n places without place k. -/
theorem drop_snoc (l : List PendP) (k : Int) (n : Nat) (hn : n < l.length) : drop (l.take (n + 1)) k = drop (l.take n) k ++ (if k = (n : Int) then [] else [l.getD n zero]) := by
  have e : l.getD n zero = l[n] := by simp [List.getD, List.getElem?_eq_getElem hn]
  rw [e, List.take_succ_eq_append_getElem hn]
  unfold drop
  by_cases h0 : k < 0
  · rw [if_pos h0, if_pos h0, if_neg (by omega)]
  · rw [if_neg h0, if_neg h0]
    have hl : (l.take n).length = n := by simp; omega
    by_cases h1 : k.toNat < n
    · rw [List.eraseIdx_append_of_lt_length (by omega), if_neg (by omega)]
    · rw [List.eraseIdx_append_of_length_le (by omega), hl]
      by_cases h2 : k = (n : Int)
      · subst h2
        rw [if_pos rfl]
        simp [List.eraseIdx_of_length_le, hl]
      · rw [if_neg h2, List.eraseIdx_of_length_le (l := l.take n) (by omega), List.eraseIdx_of_length_le (by simp; omega)]
/-- Of such as may be, the one that is dropped isn't there any more. -/
theorem drop_find {l : List PendP} {x : Int} (h : right l = true) : has (drop l (find l x)) x = false := by
  cases hh : has l x
  · rw [find_none hh, drop_neg _ _ (by omega)]; exact hh
  · have h0 := (find_has l x).2 hh
    have hr := (find_range l x).2
    have hnd : (outers l).Nodup := by simpa [right] using h
    obtain ⟨k, hk⟩ : ∃ k : Nat, find l x = k := ⟨(find l x).toNat, by omega⟩
    have hkl : k < l.length := by omega
    have hox : (l.getD k zero).o = x := by
      clear h hnd hh h0 hr
      induction l generalizing k with
      | nil => simp at hkl
      | cons p l ih =>
        unfold find at hk
        split at hk
        · rename_i e
          obtain rfl : k = 0 := by omega
          simpa using e
        · split at hk
          · omega
          · match k, hk, hkl with
            | 0, hk, _ => have := find_range l x; omega
            | k + 1, hk, hkl =>
              have := ih k (by omega) (by simpa using hkl)
              simpa using this
    rw [hk, drop_at]
    cases hq : has (l.take k ++ l.drop (k + 1)) x
    · rfl
    · exfalso
      have e : l.getD k zero = l[k] := by simp [List.getD, List.getElem?_eq_getElem hkl]
      rw [has_iff] at hq
      have hsp : l = l.take k ++ (l[k] :: l.drop (k + 1)) := by
        rw [← List.drop_eq_getElem_cons hkl, List.take_append_drop]
      rw [hsp] at hnd
      unfold outers at hnd hq
      rw [List.map_append, List.map_cons] at hnd
      rw [List.map_append, List.mem_append] at hq
      rw [e] at hox
      rw [List.nodup_append] at hnd
      obtain ⟨_, n2, n3⟩ := hnd
      rcases hq with hq | hq
      · exact n3 _ hq _ (List.mem_cons_self) hox.symm
      · rw [List.nodup_cons] at n2
        exact n2.1 (hox ▸ hq)
theorem right_drop {l : List PendP} {k : Int} (h : right l = true) : right (drop l k) = true := by
  have hnd : (outers l).Nodup := by simpa [right] using h
  unfold right
  rw [decide_eq_true_iff]
  unfold drop
  split
  · exact hnd
  · unfold outers
    exact hnd.sublist ((List.eraseIdx_sublist l _).map _)
theorem drop_len (l : List PendP) (k : Int) (h0 : 0 ≤ k) (h1 : k < (l.length : Int)) : (drop l k).length = l.length - 1 := by
  unfold drop
  rw [if_neg (by omega), List.length_eraseIdx, if_pos (by omega)]
theorem drop_le (l : List PendP) (k : Int) : (drop l k).length ≤ l.length := by
  unfold drop
  split
  · exact Nat.le_refl _
  · exact List.length_eraseIdx_le _ _
theorem right_add {l : List PendP} {p : PendP} {m : Int} (h : right l = true) : right (add l p m) = true := by
  have hnd : (outers l).Nodup := by simpa [right] using h
  unfold add
  split
  · exact h
  · cases hh : has l p.o
    · simp only [Bool.false_eq_true, if_false]
      unfold right
      rw [decide_eq_true_iff]
      unfold outers
      rw [List.map_append, List.nodup_append]
      refine ⟨hnd, by simp, ?_⟩
      intro a ha b hb e
      simp at hb
      subst hb
      subst e
      have := (has_iff l p.o).2 ha
      rw [hh] at this; cases this
    · simpa using h
theorem add_len (l : List PendP) (p : PendP) (m : Int) (h : (l.length : Int) ≤ m ∨ l = []) : ((add l p m).length : Int) ≤ m ∨ add l p m = [] := by
  unfold add full
  split
  · exact h
  · rename_i hf
    simp at hf
    split
    · exact h
    · left; simp; omega
/-- Of such as may be: is one of the number of the i-th among those that a test tells? -/
theorem has_filter {l : List PendP} (q : PendP → Bool) (h : right l = true) (i : Nat) (hi : i < l.length) : has (l.filter q) (l.getD i zero).o = q (l.getD i zero) := by
  have e : l.getD i zero = l[i] := by simp [List.getD, List.getElem?_eq_getElem hi]
  rw [Bool.eq_iff_iff, has_iff]
  constructor
  · intro hm
    obtain ⟨p, hp, ho⟩ := List.mem_map.1 hm
    obtain ⟨hpl, hq⟩ := List.mem_filter.1 hp
    obtain ⟨k, hk, rfl⟩ := List.mem_iff_getElem.1 hpl
    have hU := (right_upto l).1 h
    have ek : l.getD k zero = l[k] := by simp [List.getD, List.getElem?_eq_getElem hk]
    have : k = i := by
      rcases Nat.lt_trichotomy k i with hlt | heq | hgt
      · exact absurd (by rw [ek]; exact ho) (hU i hi k hlt)
      · exact heq
      · exact absurd (by rw [ek]; exact ho.symm) (hU k hk i hgt)
    subst this
    rw [e]; exact hq
  · intro hq
    refine List.mem_map.2 ⟨l[i], List.mem_filter.2 ⟨List.getElem_mem hi, by rw [← e]; exact hq⟩, by rw [e]⟩
theorem parts_len (l : List PendP) (t : Int) : (due l t).length + (rest l t).length = l.length := by
  unfold due rest
  induction l with
  | nil => rfl
  | cons p l ih =>
    simp only [List.filter_cons]
    cases isDue t p <;> simp <;> omega
theorem leave_len (l : List PendP) (c : Int) : (leave l c).length + (l.filter fun p => p.cn == c).length = l.length := by
  unfold leave
  induction l with
  | nil => rfl
  | cons p l ih =>
    simp only [List.filter_cons]
    cases p.cn == c <;> simp <;> omega
end Go.Proofs.Ytijnajlijdnbcaa.Pn
