/- Connections in plain words: places, clients that come and go, bytes that come to one. Conditions: none. -/
import Derived.Test.YtdgnmoebahaaeaaSmA
/-- A connection: whether it is open, its client, its life, its stream. -/
structure Go.Proofs.Ytdgnmoebahaaeaa.ConnP where
  opn : Bool
  cl : Int
  lf : Int
  buf : ByteArray
  bad : Bool
namespace Go.Proofs.Ytdgnmoebahaaeaa.Cs
set_option linter.unusedVariables false
open Go.RowKit
def zero : ConnP := ⟨false, 0, 0, ⟨#[]⟩, false⟩
def new (n : Int) : List ConnP := List.replicate n.toNat zero
def rightC (c : ConnP) : Bool := decide (0 ≤ c.lf) && (Sm.right ⟨bl c.buf, c.bad⟩ && (c.opn || (c.cl == 0 && ((bl c.buf).isEmpty && !c.bad))))
def right (l : List ConnP) : Bool := l.all rightC
def isOpen (l : List ConnP) (k : Int) : Bool := decide (0 ≤ k) && (decide (k < (l.length : Int)) && (l.getD k.toNat zero).opn)
/-- The first place that is free; beyond the end: none is. -/
def free : List ConnP → Nat
  | [] => 0
  | c :: l => if c.opn then free l + 1 else 0
def hasFree (l : List ConnP) : Bool := decide (free l < l.length)
def opened (c : ConnP) (client : Int) : ConnP := ⟨true, client, c.lf + 1, ⟨#[]⟩, false⟩
def closed (c : ConnP) : ConnP := ⟨false, 0, c.lf, ⟨#[]⟩, false⟩
def accept (l : List ConnP) (client : Int) : List ConnP := if hasFree l then l.set (free l) (opened (l.getD (free l) zero) client) else l
def acceptAt (l : List ConnP) : Int := if hasFree l then (free l : Int) else 0
def there (l : List ConnP) (k : Int) : Bool := decide (0 ≤ k) && decide (k < (l.length : Int))
def close (l : List ConnP) (k : Int) : List ConnP := if there l k then l.set k.toNat (closed (l.getD k.toNat zero)) else l
def fed (c : ConnP) (b : ByteArray) : StreamP × List FrameP := Sm.feed (⟨bl c.buf, c.bad⟩, []) (bl b)
def push (l : List ConnP) (k : Int) (b : ByteArray) : List ConnP :=
  if isOpen l k then l.set k.toNat { l.getD k.toNat zero with buf := st (fed (l.getD k.toNat zero) b).1.buf, bad := (fed (l.getD k.toNat zero) b).1.bad } else l
def pushed (l : List ConnP) (k : Int) (b : ByteArray) : List FrameP := if isOpen l k then (fed (l.getD k.toNat zero) b).2 else []

theorem empty_right : Sm.right ⟨[], false⟩ = true := by decide
theorem getD_set (l : List ConnP) (k i : Nat) (c : ConnP) (hi : i < l.length) : (l.set k c).getD i zero = if k = i then c else l.getD i zero := by
  simp only [List.getD_eq_getElem?_getD, List.getElem?_set]
  by_cases h : k = i
  · subst h; simp [hi]
  · simp [h]
theorem getD_mem (l : List ConnP) (k : Nat) (hk : k < l.length) : l.getD k zero ∈ l := by
  have e : l.getD k zero = l[k] := by simp [List.getD, List.getElem?_eq_getElem hk]
  rw [e]; exact List.getElem_mem hk
theorem right_at {l : List ConnP} (h : right l = true) (k : Nat) (hk : k < l.length) : rightC (l.getD k zero) = true := List.all_eq_true.1 h _ (getD_mem l k hk)
theorem right_set {l : List ConnP} (h : right l = true) (k : Nat) (c : ConnP) (hc : rightC c = true) : right (l.set k c) = true := by
  unfold right
  rw [List.all_eq_true]
  intro x hx
  rcases List.mem_or_eq_of_mem_set hx with hx | rfl
  · exact List.all_eq_true.1 h x hx
  · exact hc
theorem rightC_iff (c : ConnP) : rightC c = true ↔ 0 ≤ c.lf ∧ Sm.right ⟨bl c.buf, c.bad⟩ = true ∧ (c.opn = true ∨ (c.cl = 0 ∧ bl c.buf = [] ∧ c.bad = false)) := by
  unfold rightC
  cases c.opn <;> simp [List.isEmpty_iff]
theorem rightC_opened {c : ConnP} (h : rightC c = true) (x : Int) : rightC (opened c x) = true := by
  rw [rightC_iff] at h ⊢
  refine ⟨by show 0 ≤ c.lf + 1; omega, empty_right, .inl rfl⟩
theorem rightC_closed {c : ConnP} (h : rightC c = true) : rightC (closed c) = true := by
  rw [rightC_iff] at h ⊢
  exact ⟨h.1, empty_right, .inr ⟨rfl, rfl, rfl⟩⟩
theorem rightC_zero : rightC zero = true := by decide
theorem right_new (n : Int) : right (new n) = true := by
  unfold right new
  rw [List.all_eq_true]
  intro c hc
  rw [(List.mem_replicate.1 hc).2]; exact rightC_zero
theorem right_accept {l : List ConnP} (h : right l = true) (x : Int) : right (accept l x) = true := by
  unfold accept
  split
  · rename_i hf
    exact right_set h _ _ (rightC_opened (right_at h _ (by simpa [hasFree] using hf)) x)
  · exact h
theorem right_close {l : List ConnP} (h : right l = true) (k : Int) : right (close l k) = true := by
  unfold close
  split
  · rename_i hf
    simp [there] at hf
    exact right_set h _ _ (rightC_closed (right_at h _ (by omega)))
  · exact h
theorem open_at {l : List ConnP} {k : Int} (h : isOpen l k = true) : 0 ≤ k ∧ k.toNat < l.length ∧ (l.getD k.toNat zero).opn = true := by
  simp only [isOpen, Bool.and_eq_true, decide_eq_true_iff] at h
  exact ⟨h.1, by omega, h.2.2⟩
theorem right_push {l : List ConnP} (h : right l = true) (k : Int) (b : ByteArray) : right (push l k b) = true := by
  unfold push
  split
  · rename_i hf
    obtain ⟨h0, h1, h2⟩ := open_at hf
    have hc := (rightC_iff _).1 (right_at h _ h1)
    refine right_set h _ _ ((rightC_iff _).2 ⟨hc.1, ?_, .inl h2⟩)
    show Sm.right ⟨bl (st _), _⟩ = true
    rw [bl_st]
    exact Sm.feed_right (bl b) _ [] hc.2.1
  · exact h
theorem accept_len (l : List ConnP) (x : Int) : (accept l x).length = l.length := by unfold accept; split <;> simp
theorem close_len (l : List ConnP) (k : Int) : (close l k).length = l.length := by unfold close; split <;> simp
theorem push_len (l : List ConnP) (k : Int) (b : ByteArray) : (push l k b).length = l.length := by unfold push; split <;> simp
theorem close_other (l : List ConnP) (k : Int) (i : Nat) (hi : i < l.length) (h : k ≠ i) : (close l k).getD i zero = l.getD i zero := by
  unfold close
  split
  · rename_i hf
    simp [there] at hf
    rw [getD_set _ _ _ _ hi, if_neg (by omega)]
  · rfl
theorem push_other (l : List ConnP) (k : Int) (b : ByteArray) (i : Nat) (hi : i < l.length) (h : k ≠ i) : (push l k b).getD i zero = l.getD i zero := by
  unfold push
  split
  · rename_i hf
    obtain ⟨h0, _, _⟩ := open_at hf
    rw [getD_set _ _ _ _ hi, if_neg (by omega)]
  · rfl
theorem accept_other (l : List ConnP) (x : Int) (i : Nat) (hi : i < l.length) (h : hasFree l = false ∨ acceptAt l ≠ i) : (accept l x).getD i zero = l.getD i zero := by
  unfold accept
  split
  · rename_i hf
    rcases h with h | h
    · rw [hf] at h; cases h
    · unfold acceptAt at h
      rw [if_pos hf] at h
      rw [getD_set _ _ _ _ hi, if_neg (by omega)]
  · rfl
theorem free_le : ∀ l : List ConnP, free l ≤ l.length
  | [] => Nat.le_refl _
  | c :: l => by
    unfold free
    split
    · exact Nat.succ_le_succ (free_le l)
    · exact Nat.zero_le _
theorem free_before : ∀ (l : List ConnP) (i : Nat), i < free l → (l.getD i zero).opn = true
  | [], i, h => absurd h (by simp [free])
  | c :: l, i, h => by
    unfold free at h
    split at h
    · rename_i hc
      cases i with
      | zero => simpa using hc
      | succ i => simpa using free_before l i (by omega)
    · exact absurd h (by omega)
theorem free_at : ∀ (l : List ConnP), free l < l.length → (l.getD (free l) zero).opn = false
  | [], h => absurd h (by simp)
  | c :: l, h => by
    unfold free at h ⊢
    split
    · rename_i hc
      rw [if_pos hc] at h
      simpa using free_at l (by simpa using h)
    · rename_i hc
      simpa using hc
/-- The first free place, told by what is open. -/
theorem free_is (l : List ConnP) (k : Nat) (hk : k ≤ l.length) (h1 : ∀ i, i < k → (l.getD i zero).opn = true) (h2 : k < l.length → (l.getD k zero).opn = false) : free l = k := by
  have hl := free_le l
  rcases Nat.lt_trichotomy (free l) k with h | h | h
  · have := free_at l (by omega)
    rw [h1 _ h] at this; cases this
  · exact h
  · have := free_before l k h
    rw [h2 (by omega)] at this; cases this
end Go.Proofs.Ytdgnmoebahaaeaa.Cs
