/- Streams in plain words: bytes come one by one, or all at once; however they are cut. Conditions: none. -/
import Derived.Test.YtdgnmoebahaaeaaMbA
namespace Go.Proofs.Ytdgnmoebahaaeaa
/-- A stream: the bytes that are no frame yet; whether it is none any more. -/
structure StreamP where
  buf : List UInt8
  bad : Bool
namespace Sm
set_option linter.unusedVariables false
open Go.RowKit
def need (l : List UInt8) : Int := Mb.need (st l)
def err (l : List UInt8) : Int := Mb.needErr (st l)
/-- One byte more, of bytes that are a stream's. -/
def push1 (l : List UInt8) : StreamP × List FrameP :=
  if err l ≠ 0 then (⟨[], true⟩, []) else if need l = (l.length : Int) ∧ 0 < need l then (⟨[], false⟩, [Mb.get (st l)]) else (⟨l, false⟩, [])
def step (x : StreamP × List FrameP) (c : UInt8) : StreamP × List FrameP :=
  if x.1.bad then x else let y := push1 (x.1.buf ++ [c]); (y.1, x.2 ++ y.2)
def feed (x : StreamP × List FrameP) (b : List UInt8) : StreamP × List FrameP := b.foldl step x
def right (s : StreamP) : Bool := if s.bad then s.buf == [] else err s.buf == 0 && (need s.buf == 0 || decide ((s.buf.length : Int) < need s.buf))

theorem feed_nil (x : StreamP × List FrameP) : feed x [] = x := rfl
theorem feed_app (x : StreamP × List FrameP) (a b : List UInt8) : feed x (a ++ b) = feed (feed x a) b := List.foldl_append
theorem feed_snoc (x : StreamP × List FrameP) (a : List UInt8) (c : UInt8) : feed x (a ++ [c]) = step (feed x a) c := by rw [feed_app]; rfl
theorem step_pre (s : StreamP) (p q : List FrameP) (c : UInt8) : step (s, p ++ q) c = ((step (s, q) c).1, p ++ (step (s, q) c).2) := by
  unfold step
  split <;> simp_all
theorem feed_pre (b : List UInt8) : ∀ (s : StreamP) (p q : List FrameP), feed (s, p ++ q) b = ((feed (s, q) b).1, p ++ (feed (s, q) b).2) := by
  induction b with
  | nil => intro s p q; rfl
  | cons c b ih =>
    intro s p q
    show feed (step (s, p ++ q) c) b = (( feed (step (s, q) c) b).1, p ++ (feed (step (s, q) c) b).2)
    rw [step_pre]
    obtain ⟨s', q'⟩ := step (s, q) c
    exact ih s' p q'
theorem feed_bad (b : List UInt8) (s : StreamP) (p : List FrameP) (h : s.bad = true) : feed (s, p) b = (s, p) := by
  induction b with
  | nil => rfl
  | cons c b ih =>
    show feed (step (s, p) c) b = _
    rw [show step (s, p) c = (s, p) by unfold step; rw [if_pos h]]
    exact ih
theorem err_app (l m : List UInt8) (h : 6 ≤ l.length) : err (l ++ m) = err l ∧ need (l ++ m) = need l := by
  have := Mb.need_app l m h
  exact ⟨this.2, this.1⟩
theorem short (l : List UInt8) (h : l.length < 6) : need l = 0 ∧ err l = 0 := Mb.need_short (st l) h
theorem range (l : List UInt8) (h : 6 ≤ l.length) : (err l = 0 ∧ 8 ≤ need l ∧ need l ≤ 260) ∨ (err l = 5 ∧ need l = 0) := Mb.need_range (st l) h
theorem snoc (l : List UInt8) : l = [] ∨ ∃ m c, l = m ++ [c] := by
  rcases Nat.eq_zero_or_pos l.length with h | h
  · exact .inl (List.eq_nil_of_length_eq_zero h)
  · exact .inr ⟨l.take (l.length - 1), l.getD (l.length - 1) 0, by
      rw [List.getD_eq_getElem?_getD, List.getElem?_eq_getElem (by omega), Option.getD_some, ← List.take_succ_eq_append_getElem (by omega), List.take_of_length_le (by omega)]⟩
theorem take_snoc (l : List UInt8) (k : Nat) (h : k < l.length) : l.take (k + 1) = l.take k ++ [l.getD k 0] := by
  rw [List.take_succ_eq_append_getElem h, List.getD_eq_getElem?_getD, List.getElem?_eq_getElem h]; rfl
/-- Bytes that are no whole frame, come one by one, stay. -/
theorem feed_part (l : List UInt8) (he : err l = 0) (hn : need l = 0 ∨ (l.length : Int) < need l) (p : List FrameP) : feed (⟨[], false⟩, p) l = (⟨l, false⟩, p) := by
  generalize hk : l.length = k
  induction k generalizing l with
  | zero =>
    obtain rfl := List.eq_nil_of_length_eq_zero hk
    rfl
  | succ k ih =>
    rcases snoc l with rfl | ⟨l, c, rfl⟩
    · rfl
    have hl : err l = 0 ∧ (need l = 0 ∨ (l.length : Int) < need l) := by
      by_cases h : 6 ≤ l.length
      · have h2 := err_app l [c] h
        have h3 := range l h
        rw [h2.1] at he
        rw [h2.2, List.length_append] at hn
        simp only [List.length_singleton] at hn
        refine ⟨he, ?_⟩
        rcases hn with h | h
        · exact .inl h
        · right; omega
      · exact ⟨(short l (by omega)).2, .inl (short l (by omega)).1⟩
    rw [feed_snoc, ih l hl.1 hl.2 (by simpa using hk)]
    unfold step push1
    rw [if_neg (by simp)]
    simp only [he, ne_eq, not_true_eq_false, if_false]
    rw [if_neg]
    · simp
    · intro h
      rcases hn with h' | h' <;> omega
/-- A whole frame ahead goes out. -/
theorem feed_frame (l : List UInt8) (n : Nat) (he : err l = 0) (hn : need l = (n : Int)) (h0 : 0 < n) (hl : n ≤ l.length) (p : List FrameP) :
    feed (⟨[], false⟩, p) l = feed (⟨[], false⟩, p ++ [Mb.get (st (l.take n))]) (l.drop n) := by
  have h6 : 6 ≤ l.length := by
    rcases Nat.lt_or_ge l.length 6 with h | h
    · rw [(short l h).1] at hn; omega
    · exact h
  have hr := range l h6
  have hn8 : 8 ≤ n := by omega
  have hlt : (l.take (n - 1)).length = n - 1 := by rw [List.length_take]; omega
  have ha := err_app (l.take (n - 1)) (l.drop (n - 1)) (by omega)
  rw [List.take_append_drop] at ha
  have e1 : l.take n = l.take (n - 1) ++ [l.getD (n - 1) 0] := by
    have := take_snoc l (n - 1) (by omega)
    rwa [show n - 1 + 1 = n by omega] at this
  have hb := err_app (l.take n) (l.drop n) (by rw [List.length_take]; omega)
  rw [List.take_append_drop] at hb
  have hp : feed (⟨[], false⟩, p) (l.take (n - 1)) = (⟨l.take (n - 1), false⟩, p) := feed_part _ (by rw [← ha.1]; exact he) (by right; rw [← ha.2, hlt]; omega) p
  have hq : feed (⟨[], false⟩, p) (l.take n) = (⟨[], false⟩, p ++ [Mb.get (st (l.take n))]) := by
    rw [e1, feed_snoc, hp, ← e1]
    unfold step push1
    rw [if_neg (by simp)]
    simp only
    rw [← e1, if_neg (by rw [← hb.1, he]; simp), if_pos (by rw [← hb.2, hn, List.length_take]; omega)]
  have hc : feed (⟨[], false⟩, p) (l.take n ++ l.drop n) = feed (⟨[], false⟩, p ++ [Mb.get (st (l.take n))]) (l.drop n) := by rw [feed_app, hq]
  rwa [List.take_append_drop] at hc
/-- Bytes that are none of a frame: the stream is broken. -/
theorem feed_err (l : List UInt8) (he : err l ≠ 0) (p : List FrameP) : feed (⟨[], false⟩, p) l = (⟨[], true⟩, p) := by
  have h6 : 6 ≤ l.length := by
    rcases Nat.lt_or_ge l.length 6 with h | h
    · exact absurd (short l h).2 he
    · exact h
  have e1 : l.take 6 = l.take 5 ++ [l.getD 5 0] := take_snoc l 5 (by omega)
  have hb := err_app (l.take 6) (l.drop 6) (by rw [List.length_take]; omega)
  rw [List.take_append_drop] at hb
  have h5 := short (l.take 5) (by rw [List.length_take]; omega)
  have hq : feed (⟨[], false⟩, p) (l.take 6) = (⟨[], true⟩, p) := by
    rw [e1, feed_snoc, feed_part _ h5.2 (.inl h5.1)]
    unfold step push1
    rw [if_neg (by simp)]
    simp only
    rw [← e1, if_pos (by rw [← hb.1]; exact he)]
    simp
  have hc : feed (⟨[], false⟩, p) (l.take 6 ++ l.drop 6) = (⟨[], true⟩, p) := by rw [feed_app, hq, feed_bad _ _ _ rfl]
  rwa [List.take_append_drop] at hc
/-- A stream is what its bytes make. -/
theorem right_feed (s : StreamP) (h : right s = true) (hb : s.bad = false) (p : List FrameP) : feed (⟨[], false⟩, p) s.buf = (s, p) := by
  obtain ⟨buf, bad⟩ := s
  simp only at hb
  subst hb
  simp only [right, Bool.false_eq_true, if_false, Bool.and_eq_true, beq_iff_eq, Bool.or_eq_true, decide_eq_true_eq] at h
  exact feed_part buf h.1 h.2 p
/-- So bytes that come to a stream make what both together make. -/
theorem feed_all (s : StreamP) (h : right s = true) (hb : s.bad = false) (p : List FrameP) (b : List UInt8) : feed (s, p) b = feed (⟨[], false⟩, p) (s.buf ++ b) := by
  rw [feed_app, right_feed s h hb]
theorem step_right (s : StreamP) (p : List FrameP) (c : UInt8) (h : right s = true) : right (step (s, p) c).1 = true := by
  unfold step
  split
  · exact h
  · simp only
    unfold push1
    split
    · rfl
    · rename_i he
      split
      · rfl
      · rename_i hn
        obtain ⟨buf, bad⟩ := s
        simp only at *
        have hs : bad = false := by simpa using ‹¬bad = true›
        subst hs
        have h0 : err (buf ++ [c]) = 0 := by simpa using he
        simp only [right, Bool.false_eq_true, if_false, h0, Bool.and_eq_true, Bool.or_eq_true, beq_iff_eq, decide_eq_true_eq, true_and]
        simp only [right, Bool.false_eq_true, if_false, Bool.and_eq_true, beq_iff_eq, Bool.or_eq_true, decide_eq_true_eq] at h
        rcases Nat.lt_or_ge (buf ++ [c]).length 6 with h6 | h6
        · exact .inl (short _ h6).1
        · right
          rcases range _ h6 with ⟨_, r1, r2⟩ | ⟨r1, _⟩
          · rcases Nat.lt_or_ge buf.length 6 with h5 | h5
            · simp only [List.length_append, List.length_singleton] at *; omega
            · have ha := err_app buf [c] h5
              rw [ha.2] at hn r1 ⊢
              simp only [List.length_append, List.length_singleton] at *
              rcases h.2 with h' | h' <;> omega
          · omega
theorem feed_right (b : List UInt8) : ∀ (s : StreamP) (p : List FrameP), right s = true → right (feed (s, p) b).1 = true := by
  induction b with
  | nil => intro s p h; exact h
  | cons c b ih =>
    intro s p h
    have h1 := step_right s p c h
    show right (feed (step (s, p) c) b).1 = true
    rcases hx : step (s, p) c with ⟨s', p'⟩
    rw [hx] at h1
    exact ih s' p' h1
theorem step_count (s : StreamP) (p : List FrameP) (c : UInt8) : (step (s, p) c).2.length ≤ p.length + 1 := by
  unfold step
  split
  · simp
  · simp only [List.length_append]
    unfold push1
    split
    · simp
    · split <;> simp
theorem feed_count (b : List UInt8) : ∀ (s : StreamP) (p : List FrameP), (feed (s, p) b).2.length ≤ p.length + b.length := by
  induction b with
  | nil => intro s p; simp [feed]
  | cons c b ih =>
    intro s p
    have h1 := step_count s p c
    show (feed (step (s, p) c) b).2.length ≤ _
    rcases hx : step (s, p) c with ⟨s', p'⟩
    rw [hx] at h1
    have h2 := ih s' p'
    simp only [List.length_cons] at *
    omega
/-- A stream is short. -/
theorem right_len (s : StreamP) (h : right s = true) : s.buf.length ≤ 259 := by
  obtain ⟨buf, bad⟩ := s
  cases bad
  · simp only [right, Bool.false_eq_true, if_false, Bool.and_eq_true, beq_iff_eq, Bool.or_eq_true, decide_eq_true_eq] at h
    simp only
    rcases Nat.lt_or_ge buf.length 6 with h6 | h6
    · omega
    · rcases range buf h6 with ⟨_, r1, r2⟩ | ⟨r1, _⟩
      · rcases h.2 with h' | h' <;> omega
      · omega
  · simp only [right, if_true, beq_iff_eq] at h
    simp [h]
/-- The bytes of frames, one behind the other. -/
def all (l : List FrameP) : List UInt8 := l.flatMap Mb.put
theorem put_take (f : FrameP) (h : Mb.right f = true) (m : List UInt8) : err (Mb.put f ++ m) = 0 ∧ need (Mb.put f ++ m) = ((Mb.put f).length : Int) ∧ 8 ≤ (Mb.put f).length ∧ Mb.get (st (Mb.put f)) = f := by
  obtain ⟨g1, g2, g3, g4⟩ := Mb.get_put h
  have h6 := Mb.need_six h
  have ha := err_app ((Mb.put f).take 6) ((Mb.put f).drop 6 ++ m) (by rw [List.length_take]; omega)
  rw [← List.append_assoc, List.take_append_drop] at ha
  refine ⟨?_, ?_, g3, g2⟩
  · rw [ha.1]; exact h6.2
  · rw [ha.2]; exact h6.1
theorem feed_frames (l : List FrameP) (h : ∀ f ∈ l, Mb.right f = true) (m : List UInt8) : ∀ p, feed (⟨[], false⟩, p) (all l ++ m) = feed (⟨[], false⟩, p ++ l) m := by
  induction l with
  | nil => intro p; simp [all]
  | cons f l ih =>
    intro p
    obtain ⟨h1, h2, h3, h4⟩ := put_take f (h f (by simp)) (all l ++ m)
    have e : all (f :: l) ++ m = Mb.put f ++ (all l ++ m) := by simp [all]
    rw [e, feed_frame _ _ h1 h2 (by omega) (by simp), List.take_left, List.drop_left, h4, ih (fun g hg => h g (by simp [hg]))]
    simp
/-- The beginning of a frame is a stream. -/
theorem begin_right (f : FrameP) (h : Mb.right f = true) (n : Nat) (hn : n < (Mb.put f).length) : right ⟨(Mb.put f).take n, false⟩ = true := by
  simp only [right, Bool.false_eq_true, if_false, Bool.and_eq_true, beq_iff_eq, Bool.or_eq_true, decide_eq_true_eq]
  have hl : ((Mb.put f).take n).length = n := by rw [List.length_take]; omega
  rcases Nat.lt_or_ge n 6 with h6 | h6
  · have := short ((Mb.put f).take n) (by omega)
    exact ⟨this.2, .inl this.1⟩
  · have ha := err_app ((Mb.put f).take n) ((Mb.put f).drop n) (by omega)
    rw [List.take_append_drop] at ha
    obtain ⟨h1, h2, _⟩ := put_take f h []
    rw [List.append_nil] at h1 h2
    rw [← ha.1, ← ha.2, h1, h2, hl]
    exact ⟨rfl, .inr (by omega)⟩
end Sm
end Go.Proofs.Ytdgnmoebahaaeaa
