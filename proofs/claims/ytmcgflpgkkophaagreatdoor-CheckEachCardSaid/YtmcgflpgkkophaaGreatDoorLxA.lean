/- Tokens in plain words: the piece with which a text begins, the tokens of a text or the line where there is none; texts put together; tokens' texts with blanks between. Conditions: none. -/
import Derived.Test.YtmcgflpgkkophaaGreatDoorGuA
/-- A token. -/
structure Go.Proofs.YtmcgflpgkkophaaGreatDoor.TokP where
  kind : Int
  text : ByteArray
  num : Int
  line : Int
namespace Go.Proofs.YtmcgflpgkkophaaGreatDoor.Lx
set_option linter.unusedVariables false
open Go.Proofs.YtmcgflpgkkophaaGreatDoor.Gu (lead dig dgB getOk getN)
def lwB (z : Int) : Bool := decide (97 ≤ z ∧ z ≤ 122)
def low (c : UInt8) : Bool := lwB c.toNat
/-- How many bytes of a kind a text begins with. -/
def run (p : UInt8 → Bool) : List UInt8 → Nat
  | [] => 0
  | c :: l => if p c then run p l + 1 else 0
def noLf (c : UInt8) : Bool := !(c == 10)
def mark (c : UInt8) : Bool := c == 40 || c == 41 || c == 44 || c == 59
def blank (c : UInt8) : Bool := c == 32 || c == 9 || c == 10 || c == 13
def none_ : TokP := ⟨0, st [], 0, 0⟩
/-- The piece with which a text begins: how many bytes behind its first one, and its token (kind 0: it is none). -/
def piece (c : UInt8) (t : List UInt8) : Option (Nat × TokP) :=
  if low c then some (run low t, ⟨1, st (c :: t.take (run low t)), 0, 0⟩)
  else if dig c then (if getOk (c :: t.take (run dig t)) then some (run dig t, ⟨2, st (c :: t.take (run dig t)), getN (c :: t.take (run dig t)), 0⟩) else none)
  else if mark c then some (0, ⟨3, st [c], 0, 0⟩)
  else if c == 45 then some (0, ⟨4, st [c], 0, 0⟩)
  else if blank c then some (0, none_)
  else if c == 35 then some (run noLf t, none_)
  else none
/-- A piece's token, in a line, ahead of more. -/
def put (k : TokP) (line : Int) (r : List TokP) : List TokP := if k.kind = 0 then r else { k with line := line } :: r
def next (c : UInt8) (line : Int) : Int := if c = 10 then line + 1 else line
/-- The tokens of a text, or the line where there is none. -/
def go : List UInt8 → Int → Except Int (List TokP)
  | [], _ => .ok []
  | c :: t, line => match piece c t with
    | none => .error line
    | some (n, k) => (go (t.drop n) (next c line)).map (put k line)
termination_by l => l.length
decreasing_by simp; omega
theorem go_nil (line : Int) : go [] line = .ok [] := by rw [go]
theorem go_none {c : UInt8} {t : List UInt8} (h : piece c t = none) (line : Int) : go (c :: t) line = .error line := by rw [go, h]
theorem go_some {c : UInt8} {t : List UInt8} {n : Nat} {k : TokP} (h : piece c t = some (n, k)) (line : Int) : go (c :: t) line = (go (t.drop n) (next c line)).map (put k line) := by rw [go, h]
theorem run_le (p : UInt8 → Bool) : ∀ l, run p l ≤ l.length
  | [] => Nat.le_refl _
  | c :: l => by
    have := run_le p l
    simp only [run, List.length_cons]
    split <;> omega
/-- A byte of another kind ends a run. -/
theorem run_app (p : UInt8 → Bool) (d : UInt8) (hd : p d = false) (m : List UInt8) : ∀ l, run p (l ++ d :: m) = run p l
  | [] => by simp [run, hd]
  | c :: l => by simp only [List.cons_append, run, run_app p d hd m l]
theorem run_take (p : UInt8 → Bool) : ∀ l, run p (l.take (run p l)) = run p l
  | [] => rfl
  | c :: l => by
    simp only [run]
    by_cases h : p c = true
    · simp [h, run, run_take p l]
    · simp [h, run]
theorem run_step (p : UInt8 → Bool) : ∀ (l : List UInt8) (k : Nat), k ≤ run p l → k < l.length → p (l.getD k 0) = true → k + 1 ≤ run p l
  | [], k, _, h, _ => by simp at h
  | c :: l, 0, _, _, hd => by
    simp at hd
    simp [run, hd]
  | c :: l, k + 1, hk, hl, hd => by
    simp only [run] at hk ⊢
    split at hk
    · have := run_step p l k (by omega) (by simpa using hl) (by simpa using hd)
      rename_i h
      simp [h]; omega
    · omega
theorem run_stop (p : UInt8 → Bool) : ∀ (l : List UInt8) (k : Nat), k ≤ run p l → p (l.getD k 0) = false → run p l = k
  | [], k, h, _ => by simp [run] at h ⊢; omega
  | c :: l, 0, _, hd => by
    simp at hd
    simp [run, hd]
  | c :: l, k + 1, hk, hd => by
    simp only [run] at hk ⊢
    split at hk
    · have := run_stop p l k (by omega) (by simpa using hd)
      rename_i h
      simp [h]; omega
    · omega
theorem lwB_mk {z : Int} (h0 : 97 ≤ z) (h1 : z ≤ 122) : lwB z = true := by simp [lwB]; omega
theorem lwB_lo {z : Int} (h : z < 97) : lwB z = false := by simp [lwB]; omega
theorem lwB_hi {z : Int} (h : 122 < z) : lwB z = false := by simp [lwB]; omega
theorem low_at (s : ByteArray) (k : Nat) : low ((bl s).getD k 0) = lwB (byteAt s (k : Int)) := rfl
theorem noLf_at (s : ByteArray) (k : Nat) : noLf ((bl s).getD k 0) = !(byteAt s (k : Int) == 10) := by
  unfold noLf byteAt
  rw [show (k : Int).toNat = k from by omega]
  generalize (bl s).getD k 0 = c
  congr 1
  rw [Bool.eq_iff_iff, beq_iff_eq, beq_iff_eq]
  constructor
  · rintro rfl; rfl
  · intro h; exact UInt8.toNat_inj.1 (by have : (10 : UInt8).toNat = 10 := rfl; omega)
theorem run_lead : ∀ l, run dig l = lead l
  | [] => rfl
  | c :: l => by simp only [run, lead, run_lead l]
theorem run_mem (p : UInt8 → Bool) : ∀ (l : List UInt8), ∀ c ∈ l.take (run p l), p c = true
  | [], c, h => by simp [run] at h
  | a :: l, c, h => by
    simp only [run] at h
    by_cases ha : p a = true
    · rw [if_pos ha, List.take_succ_cons, List.mem_cons] at h
      rcases h with rfl | h
      · exact ha
      · exact run_mem p l c h
    · rw [if_neg ha] at h; simp at h
theorem piece_len {c : UInt8} {t : List UInt8} {n : Nat} {k : TokP} (h : piece c t = some (n, k)) : n ≤ t.length := by
  unfold piece at h
  have h1 := run_le low t
  have h2 := run_le dig t
  have h3 := run_le noLf t
  repeat' (split at h)
  all_goals first | cases h; done | (simp only [Option.some.injEq, Prod.mk.injEq] at h; omega)
/-- A line feed, or a blank where no remark begins, ends a piece. -/
theorem piece_app (c : UInt8) (t : List UInt8) (d : UInt8) (hl : low d = false) (hg : dig d = false) (m : List UInt8) (hn : noLf d = false ∨ c ≠ 35) : piece c (t ++ d :: m) = piece c t := by
  unfold piece
  rw [run_app low d hl, run_app dig d hg, List.take_append_of_le_length (run_le low t), List.take_append_of_le_length (run_le dig t)]
  rcases hn with hn | hn
  · rw [run_app noLf d hn]
  · have : (c == 35) = false := by simpa using hn
    simp only [this]
    rfl
/-- How many lines a text ends. -/
def feeds (l : List UInt8) : Nat := l.countP (· == 10)
theorem feeds_none (l : List UInt8) (h : ∀ c ∈ l, noLf c = true) : feeds l = 0 := by
  rw [feeds, List.countP_eq_zero]
  intro c hc h'
  have := h c hc
  rw [noLf, h'] at this; cases this
theorem low_noLf {c : UInt8} (h : low c = true) : noLf c = true := by
  by_cases e : c = 10
  · subst e; revert h; decide
  · simp [noLf, e]
theorem dig_noLf {c : UInt8} (h : dig c = true) : noLf c = true := by
  by_cases e : c = 10
  · subst e; revert h; decide
  · simp [noLf, e]
theorem piece_feeds {c : UInt8} {t : List UInt8} {n : Nat} {k : TokP} (h : piece c t = some (n, k)) : feeds (t.take n) = 0 := by
  unfold piece at h
  have h1 := feeds_none _ fun c hc => low_noLf (run_mem low t c hc)
  have h2 := feeds_none _ fun c hc => dig_noLf (run_mem dig t c hc)
  have h3 := feeds_none _ (run_mem noLf t)
  have h0 : feeds (t.take 0) = 0 := rfl
  repeat' (split at h)
  all_goals first | cases h; done | (simp only [Option.some.injEq, Prod.mk.injEq] at h; rw [← h.1]; assumption)
theorem feeds_app (l m : List UInt8) : feeds (l ++ m) = feeds l + feeds m := List.countP_append
theorem next_feeds (c : UInt8) (line : Int) (l : List UInt8) : next c line + (feeds l : Int) = line + (feeds (c :: l) : Int) := by
  rw [show c :: l = [c] ++ l from rfl, feeds_app]
  unfold next
  by_cases h : c = 10
  · subst h; have : feeds [10] = 1 := rfl
    rw [if_pos rfl]; omega
  · have : feeds [c] = 0 := by simp [feeds, h]
    rw [if_neg h]; omega
theorem piece_rest {c : UInt8} {t : List UInt8} {n : Nat} {k : TokP} (h : piece c t = some (n, k)) : feeds (t.drop n) = feeds t := by
  have := feeds_app (t.take n) (t.drop n)
  rw [List.take_append_drop, piece_feeds h] at this; omega
/-- A token in a line. -/
def at_ (line : Int) (k : TokP) : TokP := { k with line := line }
/-- Lines counted on. -/
def later (d : Int) (k : TokP) : TokP := { k with line := k.line + d }
theorem put_later (k : TokP) (line d : Int) (r : List TokP) : put k (line + d) (r.map (later d)) = (put k line r).map (later d) := by
  unfold put
  split <;> rfl
theorem go_later (d : Int) : ∀ (n : Nat) (l : List UInt8) (line : Int), l.length ≤ n → go l (line + d) = match go l line with | .ok r => .ok (r.map (later d)) | .error e => .error (e + d) := by
  intro n
  induction n with
  | zero => intro l line h; rw [List.eq_nil_of_length_eq_zero (Nat.le_zero.1 h), go_nil, go_nil]; rfl
  | succ n ih =>
    intro l line h
    match l with
    | [] => rw [go_nil, go_nil]; rfl
    | c :: t =>
      cases hp : piece c t with
      | none => rw [go_none hp, go_none hp]
      | some x =>
        obtain ⟨m, k⟩ := x
        rw [go_some hp, go_some hp, show next c (line + d) = next c line + d by unfold next; split <;> omega, ih _ _ (by simp at h ⊢; omega)]
        cases go (t.drop m) (next c line) with
        | error e => rfl
        | ok r => exact congrArg Except.ok (put_later k line d r)
/-- Texts that are put together with a line feed between. -/
theorem go_joins (m : List UInt8) : ∀ (n : Nat) (l : List UInt8) (line : Int), l.length ≤ n → go (l ++ 10 :: m) line =
    match go l line with
    | .error e => .error e
    | .ok r => (go m (line + (feeds l : Int) + 1)).map (r ++ ·) := by
  intro n
  induction n with
  | zero =>
    intro l line h
    rw [List.eq_nil_of_length_eq_zero (Nat.le_zero.1 h), go_nil, List.nil_append, go_some (n := 0) (k := none_) (by rfl)]
    show (go m (line + 1)).map _ = (go m (line + 0 + 1)).map _
    rw [Int.add_zero]; rfl
  | succ n ih =>
    intro l line h
    match l with
    | [] =>
      rw [go_nil, List.nil_append, go_some (n := 0) (k := none_) (by rfl)]
      show (go m (line + 1)).map _ = (go m (line + 0 + 1)).map _
      rw [Int.add_zero]; rfl
    | c :: t =>
      have ha : piece c (t ++ 10 :: m) = piece c t := piece_app c t 10 rfl rfl m (.inl rfl)
      cases hp : piece c t with
      | none => rw [go_none hp, List.cons_append, go_none (ha.trans hp)]
      | some x =>
        obtain ⟨j, k⟩ := x
        have hj := piece_len hp
        rw [go_some hp, List.cons_append, go_some (ha.trans hp), List.drop_append_of_le_length hj, ih _ _ (by simp at h ⊢; omega), piece_rest hp, next_feeds]
        cases go (t.drop j) (next c line) with
        | error e => rfl
        | ok r =>
          show ((go m _).map _).map _ = (go m _).map _
          cases go m (line + (feeds (c :: t) : Int) + 1) with
          | error e => rfl
          | ok q =>
            refine congrArg Except.ok ?_
            show put k line (r ++ q) = put k line r ++ q
            unfold put; split <;> rfl
/-- A token as it comes of a piece. -/
def good (k : TokP) : Prop := k.kind ≠ 0 ∧ ∃ c t, k.text = st (c :: t) ∧ c ≠ 35 ∧ piece c t = some (t.length, at_ 0 k)
theorem run_all (p : UInt8 → Bool) (l : List UInt8) : run p (l.take (run p l)) = (l.take (run p l)).length := by
  rw [run_take, List.length_take]; have := run_le p l; omega
theorem take_run (p : UInt8 → Bool) (l : List UInt8) : (l.take (run p l)).take (run p l) = l.take (run p l) := by rw [List.take_take, Nat.min_self]
theorem piece_good {c : UInt8} {t : List UInt8} {n : Nat} {k : TokP} (h : piece c t = some (n, k)) (hk : k.kind ≠ 0) (line : Int) : good (at_ line k) := by
  have hc : c ≠ 35 := by
    rintro rfl
    rw [show piece 35 t = some (run noLf t, none_) from rfl] at h
    cases h; exact hk rfl
  have hrl := take_run low t
  have hrd := take_run dig t
  have hll := run_all low t
  have hld := run_all dig t
  have hal := run_take low t
  have had := run_take dig t
  by_cases h1 : low c = true
  · unfold piece at h
    rw [if_pos h1] at h; cases h
    refine ⟨hk, c, t.take (run low t), rfl, hc, ?_⟩
    unfold piece
    rw [if_pos h1, hal, hrl, ← hll, hal]; rfl
  · by_cases h2 : dig c = true
    · unfold piece at h
      rw [if_neg h1, if_pos h2] at h
      by_cases h3 : getOk (c :: t.take (run dig t)) = true
      · rw [if_pos h3] at h; cases h
        refine ⟨hk, c, t.take (run dig t), rfl, hc, ?_⟩
        unfold piece
        rw [if_neg h1, if_pos h2, had, hrd, if_pos h3, ← hld, had]; rfl
      · rw [if_neg h3] at h; cases h
    · have hone : ∀ k', piece c t = some (0, k') → piece c [] = some (0, k') := by
        intro k' h'
        unfold piece at h' ⊢
        rw [if_neg h1, if_neg h2] at h' ⊢
        by_cases h3 : mark c = true
        · rw [if_pos h3] at h' ⊢; exact h'
        · rw [if_neg h3] at h' ⊢
          by_cases h4 : (c == 45) = true
          · rw [if_pos h4] at h' ⊢; exact h'
          · rw [if_neg h4] at h' ⊢
            by_cases h5 : blank c = true
            · rw [if_pos h5] at h' ⊢; exact h'
            · rw [if_neg h5, if_neg (by simpa using hc)] at h'; cases h'
      have h0 := h
      unfold piece at h
      rw [if_neg h1, if_neg h2] at h
      by_cases h3 : mark c = true
      · rw [if_pos h3] at h; cases h
        exact ⟨hk, c, [], rfl, hc, hone _ h0⟩
      · rw [if_neg h3] at h
        by_cases h4 : (c == 45) = true
        · rw [if_pos h4] at h; cases h
          exact ⟨hk, c, [], rfl, hc, hone _ h0⟩
        · rw [if_neg h4] at h
          by_cases h5 : blank c = true
          · rw [if_pos h5] at h; cases h; exact absurd rfl hk
          · rw [if_neg h5, if_neg (by simpa using hc)] at h; cases h
theorem go_good : ∀ (n : Nat) (l : List UInt8) (line : Int) (r : List TokP), l.length ≤ n → go l line = .ok r → ∀ k ∈ r, good k := by
  intro n
  induction n with
  | zero => intro l line r h hr; rw [List.eq_nil_of_length_eq_zero (Nat.le_zero.1 h), go_nil] at hr; cases hr; intro k hk; cases hk
  | succ n ih =>
    intro l line r h hr
    match l with
    | [] => rw [go_nil] at hr; cases hr; intro k hk; cases hk
    | c :: t =>
      cases hp : piece c t with
      | none => rw [go_none hp] at hr; cases hr
      | some x =>
        obtain ⟨m, k⟩ := x
        rw [go_some hp] at hr
        cases hg : go (t.drop m) (next c line) with
        | error e => rw [hg] at hr; cases hr
        | ok q =>
          rw [hg] at hr
          obtain rfl : put k line q = r := by injection hr
          have hq := ih _ _ q (by simp at h ⊢; omega) hg
          intro x hx
          unfold put at hx
          by_cases hk : k.kind = 0
          · rw [if_pos hk] at hx; exact hq x hx
          · rw [if_neg hk, List.mem_cons] at hx
            rcases hx with rfl | hx
            · exact piece_good hp hk line
            · exact hq x hx
/-- Tokens' texts, a blank behind each. -/
def texts (l : List TokP) : List UInt8 := l.flatMap fun k => bl k.text ++ [32]
theorem texts_cons (k : TokP) (l : List TokP) : texts (k :: l) = bl k.text ++ 32 :: texts l := by simp [texts]
theorem texts_snoc (k : TokP) (l : List TokP) : texts (l ++ [k]) = texts l ++ (bl k.text ++ [32]) := by simp [texts]
theorem bl_st (l : List UInt8) : bl (st l) = l := rfl
theorem go_texts : ∀ (l : List TokP) (line : Int), line = 1 → (∀ k ∈ l, good k) → go (texts l) line = .ok (l.map (at_ 1))
  | [], line, _, _ => go_nil line
  | k :: l, line, hl, h => by
    subst hl
    obtain ⟨hk, c, t, ht, hc, hp⟩ := h k (List.mem_cons_self ..)
    have hp' : piece c (t ++ 32 :: texts l) = some (t.length, at_ 0 k) := (piece_app c t 32 rfl rfl _ (.inr hc)).trans hp
    have hc10 : next c 1 = 1 := by
      unfold next
      by_cases e : c = 10
      · subst e
        rw [show piece 10 t = some (0, none_) from rfl] at hp
        injection hp with hp
        injection hp with _ hp
        exact absurd (show (at_ 0 k).kind = 0 by rw [← hp]; rfl) hk
      · rw [if_neg e]
    rw [texts_cons, ht, bl_st, List.cons_append, go_some hp', hc10, List.drop_append_of_le_length (Nat.le_refl _), List.drop_length, List.nil_append, go_some (n := 0) (k := none_) (by rfl)]
    show ((go (texts l) 1).map _).map _ = _
    rw [go_texts l 1 rfl fun k' h' => h k' (List.mem_cons_of_mem _ h')]
    refine congrArg Except.ok ?_
    show put (at_ 0 k) 1 (put none_ 1 (l.map (at_ 1))) = _
    rw [show put none_ 1 (l.map (at_ 1)) = l.map (at_ 1) from rfl, put, if_neg (show ¬ (at_ 0 k).kind = 0 from hk)]
    rfl
theorem piece_text {c : UInt8} {t : List UInt8} {n : Nat} {k : TokP} (h : piece c t = some (n, k)) : (bl k.text).length ≤ n + 1 := by
  unfold piece at h
  repeat' (split at h)
  all_goals first | cases h; done | (simp only [Option.some.injEq, Prod.mk.injEq] at h; obtain ⟨rfl, rfl⟩ := h; simp [bl_st, none_]; try omega)
theorem go_size : ∀ (n : Nat) (l : List UInt8) (line : Int) (r : List TokP), l.length ≤ n → go l line = .ok r → r.length ≤ l.length ∧ (texts r).length ≤ 2 * l.length := by
  intro n
  induction n with
  | zero => intro l line r h hr; rw [List.eq_nil_of_length_eq_zero (Nat.le_zero.1 h), go_nil] at hr; cases hr; simp [texts]
  | succ n ih =>
    intro l line r h hr
    match l with
    | [] => rw [go_nil] at hr; cases hr; simp [texts]
    | c :: t =>
      cases hp : piece c t with
      | none => rw [go_none hp] at hr; cases hr
      | some x =>
        obtain ⟨m, k⟩ := x
        rw [go_some hp] at hr
        cases hg : go (t.drop m) (next c line) with
        | error e => rw [hg] at hr; cases hr
        | ok q =>
          rw [hg] at hr
          obtain rfl : put k line q = r := by injection hr
          have ⟨h1, h2⟩ := ih _ _ q (by simp at h ⊢; omega) hg
          have h3 := piece_len hp
          have h4 := piece_text hp
          rw [List.length_drop] at h1 h2
          unfold put
          by_cases hk : k.kind = 0
          · rw [if_pos hk]; simp only [List.length_cons]; omega
          · rw [if_neg hk, texts_cons]
            simp only [List.length_cons, List.length_append]
            show _ ∧ (bl k.text).length + _ ≤ _
            omega
def onto (acc : List TokP) (k : TokP) (line : Int) : List TokP := if k.kind = 0 then acc else acc ++ [at_ line k]
theorem go_onto {c : UInt8} {t : List UInt8} {n : Nat} {k : TokP} (h : piece c t = some (n, k)) (line : Int) (acc : List TokP) :
    (go (c :: t) line).map (acc ++ ·) = (go (t.drop n) (next c line)).map (onto acc k line ++ ·) := by
  rw [go_some h]
  cases go (t.drop n) (next c line) with
  | error e => rfl
  | ok q =>
    refine congrArg Except.ok ?_
    show acc ++ put k line q = onto acc k line ++ q
    unfold put onto
    by_cases hk : k.kind = 0
    · rw [if_pos hk, if_pos hk]
    · rw [if_neg hk, if_neg hk, List.append_assoc]; rfl
/-- The same with a measure, to be reckoned out. -/
def goF : Nat → List UInt8 → Int → Except Int (List TokP)
  | 0, _, _ => .ok []
  | _ + 1, [], _ => .ok []
  | n + 1, c :: t, line => match piece c t with
    | none => .error line
    | some (m, k) => (goF n (t.drop m) (next c line)).map (put k line)
theorem goF_eq : ∀ (n : Nat) (l : List UInt8) (line : Int), l.length ≤ n → go l line = goF n l line
  | 0, l, line, h => by rw [List.eq_nil_of_length_eq_zero (Nat.le_zero.1 h), go_nil]; rfl
  | n + 1, [], line, h => go_nil line
  | n + 1, c :: t, line, h => by
    cases hp : piece c t with
    | none => rw [go_none hp, goF, hp]
    | some x =>
      obtain ⟨m, k⟩ := x
      rw [go_some hp, goF, hp, goF_eq n _ _ (by simp at h ⊢; omega)]
/-- All of a text's tokens, or where there is none, as the functions answer: tokens, line, errno. -/
def split (l : List UInt8) : List TokP × Int × Int :=
  if 4096 < l.length then ([], 0, 9) else match go l 1 with
    | .ok r => (r, 0, 0)
    | .error e => ([], e, 6)
end Go.Proofs.YtmcgflpgkkophaaGreatDoor.Lx
