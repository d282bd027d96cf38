/- The developers' way to a request in plain words: shaped, inside, what is taken out of bytes; it comes to the same. Conditions: none. -/
import Derived.Test.YtijnajlijdnbcaaAskB
namespace Go.Proofs.Ytijnajlijdnbcaa.Ak
set_option linter.unusedVariables false
open Go.RowKit
def partD (most lo n : Int) : Bool := if most = 0 then lo == 0 && n == 0 else decide (0 ≤ lo) && decide (1 ≤ n) && decide (n ≤ most)
def shaped (a : AskP) : Bool := known a.fc && partD (reads a.fc) a.rd a.ct && partD (wmax a.fc) a.wr a.mn && ((a.vs.length : Int) == need a && allTo (wtop a.fc) a.vs)
def inside (a : AskP) : Bool := decide (a.rd ≤ 65536 - a.ct) && decide (a.wr ≤ 65536 - a.mn)
/-- What stands where the fields of a request stand. -/
def taken (s : ByteArray) : AskP :=
  let fc := byteAt s 0
  if fc = 1 ∨ fc = 2 ∨ fc = 3 ∨ fc = 4 then ⟨fc, Tw.get s 1, Tw.get s 3, 0, 0, []⟩
  else if fc = 5 then ⟨fc, 0, 0, Tw.get s 1, 1, [Tw.get s 3 / 65280]⟩
  else if fc = 6 then ⟨fc, 0, 0, Tw.get s 1, 1, [Tw.get s 3]⟩
  else if fc = 22 then ⟨fc, 0, 0, Tw.get s 1, 1, [Tw.get s 3, Tw.get s 5]⟩
  else if fc = 15 then ⟨fc, 0, 0, Tw.get s 1, Tw.get s 3, Co.get (sub s 6) (Tw.get s 3)⟩
  else if fc = 16 then ⟨fc, 0, 0, Tw.get s 1, Tw.get s 3, Tw.getAll (sub s 6)⟩
  else ⟨fc, Tw.get s 1, Tw.get s 3, Tw.get s 5, Tw.get s 7, Tw.getAll (sub s 10)⟩

theorem reads_nn (fc : Int) : 0 ≤ reads fc := by unfold reads; repeat (first | omega | split)
theorem wmax_nn (fc : Int) : 0 ≤ wmax fc := by unfold wmax; repeat (first | omega | split)
theorem reads_le (fc : Int) : reads fc ≤ 2000 := by unfold reads; repeat (first | omega | split)
theorem wmax_le (fc : Int) : wmax fc ≤ 1968 := by unfold wmax; repeat (first | omega | split)
theorem wtop_nn (fc : Int) : 0 ≤ wtop fc := by unfold wtop; repeat (first | omega | split)
theorem part_D (most lo n : Int) (h0 : 0 ≤ most) : part most lo n = (partD most lo n && decide (lo ≤ 65535)) := by
  rw [Bool.eq_iff_iff]
  unfold part partD
  split <;> simp [inTo_iff] <;> omega
theorem partD_nn (most lo n : Int) (h0 : 0 ≤ most) (h : partD most lo n = true) : 0 ≤ lo ∧ 0 ≤ n ∧ n ≤ most := by
  unfold partD at h
  split at h <;> simp at h <;> omega
theorem formed_D (a : AskP) : formed a = (shaped a && decide (a.rd ≤ 65535) && decide (a.wr ≤ 65535)) := by
  rw [formed, shaped, part_D _ _ _ (reads_nn _), part_D _ _ _ (wmax_nn _)]
  generalize known a.fc = k
  generalize partD _ a.rd _ = p
  generalize partD _ a.wr _ = q
  generalize decide (a.rd ≤ 65535) = x
  generalize decide (a.wr ≤ 65535) = y
  generalize ((a.vs.length : Int) == need a && allTo (wtop a.fc) a.vs) = z
  cases k <;> cases p <;> cases q <;> cases x <;> cases y <;> cases z <;> rfl
theorem shaped_nn {a : AskP} (h : shaped a = true) : (0 ≤ a.rd ∧ 0 ≤ a.ct ∧ a.ct ≤ 2000) ∧ 0 ≤ a.wr ∧ 0 ≤ a.mn ∧ a.mn ≤ 1968 := by
  simp only [shaped, Bool.and_eq_true] at h
  have h1 := partD_nn _ _ _ (reads_nn _) h.1.1.2
  have h2 := partD_nn _ _ _ (wmax_nn _) h.1.2
  have h3 := reads_le a.fc
  have h4 := wmax_le a.fc
  omega
theorem shaped_len {a : AskP} (h : shaped a = true) : a.vs.length ≤ 1968 := by
  have hn := shaped_nn h
  simp only [shaped, Bool.and_eq_true, beq_iff_eq] at h
  have hl := h.2.1
  unfold need wtwo at hl
  repeat' split at hl
  all_goals omega
theorem right_D (a : AskP) : right a = (shaped a && inside a) := by
  rw [Bool.eq_iff_iff, right_iff, formed_D]
  simp only [inside, Bool.and_eq_true, decide_eq_true_eq]
  constructor
  · rintro ⟨⟨⟨h1, h2⟩, h3⟩, h4, h5⟩
    exact ⟨h1, by omega, by omega⟩
  · rintro ⟨h1, h2, h3⟩
    have hn := shaped_nn h1
    refine ⟨⟨⟨h1, ?_⟩, ?_⟩, by omega, by omega⟩
    · simp only [shaped, Bool.and_eq_true] at h1
      have h := h1.1.1.2
      unfold partD at h
      split at h <;> simp at h <;> omega
    · simp only [shaped, Bool.and_eq_true] at h1
      have h := h1.1.2
      unfold partD at h
      split at h <;> simp at h <;> omega
theorem get_range (s : ByteArray) (i : Int) : 0 ≤ Tw.get s i ∧ Tw.get s i ≤ 65535 := by
  unfold Tw.get
  have := Tw.num_range s i
  split <;> omega
theorem taken_range (s : ByteArray) : ((taken s).rd ≤ 65535) ∧ (taken s).wr ≤ 65535 := by
  have h1 := get_range s 1
  have h5 := get_range s 5
  unfold taken
  simp only
  repeat' (first | (simp; done) | (simp; omega) | omega | split)
theorem taken_formed {s : ByteArray} (h : shaped (taken s) = true) : formed (taken s) = true := by
  have := taken_range s
  rw [formed_D, h]
  simp [this]
theorem at_get {s : ByteArray} {i : Int} (h : 0 ≤ at_ s i) : Tw.get s i = at_ s i := by
  unfold at_ at h ⊢
  split
  · rfl
  · rename_i hn
    rw [if_neg hn] at h
    omega
/-- Bytes that are a request's are taken for it. -/
theorem taken_read {s : ByteArray} (hb : begins s = true) (hr : readOk s = true) (hf : formed (read s) = true) : taken s = read s := by
  rw [begins, Bool.and_eq_true, known_iff] at hb
  have hk := hb.2
  have hnn : 0 ≤ (read s).rd ∧ 0 ≤ (read s).ct ∧ 0 ≤ (read s).wr ∧ 0 ≤ (read s).mn := by
    rw [formed_D, Bool.and_eq_true, Bool.and_eq_true] at hf
    have := shaped_nn hf.1.1
    omega
  have hval : ∀ z ∈ (read s).vs, 0 ≤ z := by
    rw [formed_iff] at hf
    intro z hz
    exact ((allTo_iff _ _).1 hf.2.2.2.2.2.2.2.2.2.2 z hz).1
  have R4 : byteAt s 0 = 1 ∨ byteAt s 0 = 2 ∨ byteAt s 0 = 3 ∨ byteAt s 0 = 4 → taken s = read s := fun h => by
    have e : read s = ⟨byteAt s 0, at_ s 1, at_ s 3, 0, 0, []⟩ := by simp [read, h]
    rw [e] at hnn ⊢
    simp only at hnn
    simp only [taken, if_pos h]
    rw [at_get hnn.1, at_get hnn.2.1]
  rcases hk with h | h | h | h | h | h | h | h | h | h
  · exact R4 (by omega)
  · exact R4 (by omega)
  · exact R4 (by omega)
  · exact R4 (by omega)
  · have e : read s = ⟨5, 0, 0, at_ s 1, 1, [coil (at_ s 3)]⟩ := by simp [read, h]
    have h3 : at_ s 3 = 65280 ∨ at_ s 3 = 0 := by
      have := hr
      simp [readOk, h] at this
      exact this.2
    rw [e] at hnn ⊢
    simp only at hnn
    have e3 : Tw.get s 3 = at_ s 3 := at_get (by omega)
    have t : taken s = ⟨5, 0, 0, Tw.get s 1, 1, [Tw.get s 3 / 65280]⟩ := by simp [taken, h]
    rw [t, at_get hnn.2.2.1, e3]
    rcases h3 with h3 | h3 <;> rw [h3] <;> rfl
  · have e : read s = ⟨6, 0, 0, at_ s 1, 1, [at_ s 3]⟩ := by simp [read, h]
    rw [e] at hnn hval ⊢
    simp only at hnn hval
    have t : taken s = ⟨6, 0, 0, Tw.get s 1, 1, [Tw.get s 3]⟩ := by simp [taken, h]
    rw [t, at_get hnn.2.2.1, at_get (hval _ (by simp))]
  · have e : read s = ⟨15, 0, 0, at_ s 1, at_ s 3, vals s 5 15 (at_ s 3)⟩ := by simp [read, h]
    have hv : valOk0 s 5 (at_ s 3) = true := by
      have := hr
      simp [readOk, h, valOk] at this
      exact this.1
    rw [e] at hnn ⊢
    simp only at hnn
    have t : taken s = ⟨15, 0, 0, Tw.get s 1, Tw.get s 3, Co.get (sub s 6) (Tw.get s 3)⟩ := by simp [taken, h]
    rw [t, at_get hnn.2.2.1, at_get hnn.2.2.2, vals, hv]
    rfl
  · have e : read s = ⟨16, 0, 0, at_ s 1, at_ s 3, vals s 5 16 (at_ s 3)⟩ := by simp [read, h]
    have hv : valOk0 s 5 (at_ s 3) = true := by
      have := hr
      simp [readOk, h, valOk] at this
      exact this.1
    rw [e] at hnn ⊢
    simp only at hnn
    have t : taken s = ⟨16, 0, 0, Tw.get s 1, Tw.get s 3, Tw.getAll (sub s 6)⟩ := by simp [taken, h]
    rw [t, at_get hnn.2.2.1, at_get hnn.2.2.2, vals, hv]
    rfl
  · have e : read s = ⟨22, 0, 0, at_ s 1, 1, [at_ s 3, at_ s 5]⟩ := by simp [read, h]
    rw [e] at hnn hval ⊢
    simp only at hnn hval
    have t : taken s = ⟨22, 0, 0, Tw.get s 1, 1, [Tw.get s 3, Tw.get s 5]⟩ := by simp [taken, h]
    rw [t, at_get hnn.2.2.1, at_get (hval (at_ s 3) (by simp)), at_get (hval (at_ s 5) (by simp))]
  · have e : read s = ⟨23, at_ s 1, at_ s 3, at_ s 5, at_ s 7, vals s 9 23 (at_ s 7)⟩ := by simp [read, h]
    have hv : valOk0 s 9 (at_ s 7) = true := by
      have := hr
      simp [readOk, h, valOk] at this
      exact this.1
    rw [e] at hnn ⊢
    simp only at hnn
    have t : taken s = ⟨23, Tw.get s 1, Tw.get s 3, Tw.get s 5, Tw.get s 7, Tw.getAll (sub s 10)⟩ := by simp [taken, h]
    rw [t, at_get hnn.1, at_get hnn.2.1, at_get hnn.2.2.1, at_get hnn.2.2.2, vals, hv]
    rfl
/-- What the developers' Get asks comes to what the bytes tell. -/
theorem taken_iff {s : ByteArray} (hb : begins s = true) : (shaped (taken s) && bytes (taken s) == bl s) = (readOk s && formed (read s)) := by
  rw [Bool.eq_iff_iff]
  constructor
  · intro h
    rw [Bool.and_eq_true, beq_iff_eq] at h
    have hf := taken_formed h.1
    obtain ⟨h1, h2, _⟩ := back1 hf
    have hs : st (bytes (taken s)) = s := by rw [h.2, st_bl]
    rw [hs] at h1 h2
    rw [Bool.and_eq_true, h1]
    exact ⟨h2, hf⟩
  · intro h
    rw [Bool.and_eq_true] at h
    have e := taken_read hb h.1 h.2
    rw [Bool.and_eq_true, beq_iff_eq, e]
    refine ⟨?_, back2 hb h.1 h.2⟩
    have hf := h.2
    rw [formed_D, Bool.and_eq_true, Bool.and_eq_true] at hf
    exact hf.1.1
theorem err_long {s : ByteArray} (hb : begins s = true) (h : 253 < s.size) : err s = 4 := by
  rw [err, hb]
  cases hx : readOk s && formed (read s)
  · rfl
  · rw [Bool.and_eq_true] at hx
    have h1 := len_le hx.2
    rw [back2 hb hx.1 hx.2, bl_length] at h1
    omega
theorem err_bad {s : ByteArray} (hb : begins s = true) (h : (shaped (taken s) && bytes (taken s) == bl s) = false) : err s = 4 := by
  rw [err, hb, ← taken_iff hb, h]; rfl
theorem err_far {s : ByteArray} (hb : begins s = true) (h : (shaped (taken s) && bytes (taken s) == bl s) = true) (hi : inside (taken s) = false) : err s = 3 := by
  have h' := h
  rw [taken_iff hb, Bool.and_eq_true] at h'
  have hr : right (read s) = false := by
    rw [← taken_read hb h'.1 h'.2, right_D, hi, Bool.and_false]
  rw [err, hb, ← taken_iff hb, h, hr]; rfl
theorem err_ok {s : ByteArray} (hb : begins s = true) (h : (shaped (taken s) && bytes (taken s) == bl s) = true) (hi : inside (taken s) = true) : err s = 0 ∧ get s = taken s := by
  have h' := h
  rw [taken_iff hb, Bool.and_eq_true] at h'
  have e := taken_read hb h'.1 h'.2
  have hr : right (read s) = true := by
    rw [Bool.and_eq_true] at h
    rw [← e, right_D, hi, h.1]; rfl
  have e0 : err s = 0 := by rw [err, hb, ← taken_iff hb, h, hr]; rfl
  refine ⟨e0, ?_⟩
  rw [get, e0, e]; rfl
theorem taken_len (s : ByteArray) : (taken s).vs.length ≤ 8 * s.size + 2 := by
  have hsub : ∀ i, (sub s i).size ≤ s.size := fun i => by rw [sub, st_size, List.length_drop, bl_length]; omega
  have h6 := hsub 6
  have h10 := hsub 10
  have c6 := Co.get_len8 (sub s 6) (Tw.get s 3)
  have g6 := Tw.getAll_len (sub s 6)
  have g10 := Tw.getAll_len (sub s 10)
  unfold taken
  simp only
  repeat' (first | (simp; done) | (simp; omega) | omega | split)
end Go.Proofs.Ytijnajlijdnbcaa.Ak
