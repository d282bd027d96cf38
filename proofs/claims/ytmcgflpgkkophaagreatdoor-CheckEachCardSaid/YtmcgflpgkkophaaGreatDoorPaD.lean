/- The policy's parser in plain words, and what is written is read as it was: four parts. Conditions: as each part says. -/
import Derived.Test.YtmcgflpgkkophaaGreatDoorTrA
import Derived.Test.YtmcgflpgkkophaaGreatDoorLxA
/- The policy's parser in plain words: what is read of tokens, and where and why nothing is. Conditions: none. -/
/-- Tokens that are left, and the atoms so far. -/
structure Go.Proofs.YtmcgflpgkkophaaGreatDoor.PSt where
  toks : List Go.Proofs.YtmcgflpgkkophaaGreatDoor.TokP
  atoms : Nat
namespace Go.Proofs.YtmcgflpgkkophaaGreatDoor.Pa
set_option linter.unusedVariables false
open Go.RowKit
/-- What a reading gives: the line and the number of an error, or a value, and what is left. -/
abbrev Rd (α : Type) := PSt → Except (Int × Int) (α × PSt)
def bnd {α β : Type} (x : Except (Int × Int) (α × PSt)) (f : α → Rd β) : Except (Int × Int) (β × PSt) :=
  match x with
  | .error e => .error e
  | .ok (a, s) => f a s
theorem bnd_ok {α β : Type} (a : α) (s : PSt) (f : α → Rd β) : bnd (.ok (a, s)) f = f a s := rfl
theorem bnd_err {α β : Type} (e : Int × Int) (f : α → Rd β) : bnd (.error e) f = .error e := rfl
def lineOf : List TokP → Int
  | [] => 0
  | k :: _ => k.line
def failAt {α : Type} (e : Int) : Rd α := fun s => .error (lineOf s.toks, e)
def adv (s : PSt) : PSt := ⟨s.toks.tail, s.atoms⟩
/-- Is the next one that word, or mark? -/
def isW (t : List UInt8) : List TokP → Bool
  | [] => false
  | k :: _ => !(k.kind == 2) && (bl k.text == t)
def wNot : List UInt8 := [110, 111, 116]
def wAnd : List UInt8 := [97, 110, 100]
def wOr : List UInt8 := [111, 114]
def wTo : List UInt8 := [116, 111]
def wReal : List UInt8 := [114, 101, 97, 108]
def wWhen : List UInt8 := [119, 104, 101, 110]
def wRate : List UInt8 := [114, 97, 116, 101]
def wPer : List UInt8 := [112, 101, 114]
def wBurst : List UInt8 := [98, 117, 114, 115, 116]
def mustR (t : List UInt8) : Rd Unit := fun s => if isW t s.toks then .ok ((), adv s) else failAt 7 s
def num : Rd Int := fun s =>
  match s.toks with
  | [] => failAt 7 s
  | k :: _ => if k.kind = 2 then .ok (k.num, adv s) else failAt 7 s
/-- The field of a word; 0: of none. -/
def fieldOf (w : List UInt8) : Int :=
  if w = Tr.word 1 then 1 else if w = Tr.word 2 then 2 else if w = Tr.word 3 then 3 else if w = Tr.word 4 then 4 else if w = Tr.word 5 then 5 else if w = wReal then 6 else 0
def headText : List TokP → List UInt8
  | [] => []
  | k :: _ => bl k.text
def sgn (b : Bool) : List UInt8 := if b then [45] else []
def boundS (sg : Bool) : Rd Nat := fun s =>
  if isW Re.infL s.toks then .ok (Re.rdF (sgn sg ++ Re.infL), adv s) else bnd (num s) fun _ s2 => .ok (Re.rdF (sgn sg ++ headText s.toks), s2)
def bound : Rd Nat := fun s => if isW [45] s.toks then boundS true (adv s) else boundS false s
def range : Rd (Int × Int) := fun s => bnd (num s) fun a s1 => if isW [45] s1.toks then bnd (num (adv s1)) fun b s2 => .ok ((a, b), s2) else .ok ((a, a), s1)
/-- One or more, with a word between; with a measure. -/
def sepF {α : Type} (p : Rd α) (t : List UInt8) : Nat → Rd (List α)
  | 0 => failAt 7
  | n + 1 => fun s => bnd (p s) fun a s1 => if isW t s1.toks then bnd (sepF p t n (adv s1)) fun l s2 => .ok (a :: l, s2) else .ok ([a], s1)
def sep {α : Type} (p : Rd α) (t : List UInt8) : Rd (List α) := fun s => sepF p t (s.toks.length + 1) s
def headField : List TokP → Int
  | [] => 0
  | k :: _ => if k.kind = 1 then fieldOf (bl k.text) else 0
/-- What comes behind an atom's word. -/
def atomOf (f : Int) : Rd ExprP := fun s =>
  if f = 6 then bnd (bound s) fun lo s2 => bnd (mustR wTo s2) fun _ s3 => bnd (bound s3) fun hi s4 => .ok (.mk 1 6 [] lo hi [], s4)
  else bnd (sep range [44] s) fun r s2 => .ok (.mk 1 f r 0 0 [], s2)
def atom (A : Nat) : Rd ExprP := fun s =>
  if headField s.toks = 0 then failAt 7 s else if s.atoms = A then failAt 9 s else atomOf (headField s.toks) ⟨s.toks.tail, s.atoms + 1⟩
/-- One of a list, or a list of a kind. -/
def one (k : Int) : List ExprP → ExprP
  | [e] => e
  | l => .mk k 0 [] 0 0 l
def lst (k : Int) (p : Rd ExprP) (t : List UInt8) : Rd ExprP := fun s => bnd (sep p t s) fun l s' => .ok (one k l, s')
def ands (p : Rd ExprP) : Rd ExprP := lst 3 p wAnd
def expr (p : Rd ExprP) : Rd ExprP := lst 4 (ands p) wOr
/-- A part, where so many nots and brackets may be opened. -/
def part (A : Nat) : Nat → Rd ExprP
  | 0 => fun s => if isW wNot s.toks || isW [40] s.toks then failAt 8 s else atom A s
  | k + 1 => fun s =>
    if isW wNot s.toks then bnd (part A k (adv s)) fun e s' => .ok (.mk 2 0 [] 0 0 [e], s')
    else if isW [40] s.toks then bnd (expr (part A k) (adv s)) fun e s1 => bnd (mustR [41] s1) fun _ s2 => .ok (e, s2)
    else atom A s
theorem part_zero (A : Nat) (s : PSt) : part A 0 s = if isW wNot s.toks || isW [40] s.toks then failAt 8 s else atom A s := rfl
theorem part_succ (A k : Nat) (s : PSt) : part A (k + 1) s =
    if isW wNot s.toks then bnd (part A k (adv s)) fun e s' => .ok (.mk 2 0 [] 0 0 [e], s')
    else if isW [40] s.toks then bnd (expr (part A k) (adv s)) fun e s1 => bnd (mustR [41] s1) fun _ s2 => .ok (e, s2)
    else atom A s := rfl
def perR : Rd Int := fun s =>
  match s.toks with
  | [] => failAt 7 s
  | k :: _ => if k.kind = 2 ∧ ¬ k.num = 0 then .ok (k.num, adv s) else failAt 7 s
def rateR : Rd (Int × Int × Int) := fun s => bnd (num s) fun a s1 => bnd (mustR wPer s1) fun _ s2 => bnd (perR s2) fun b s3 => bnd (mustR wBurst s3) fun _ s4 => bnd (num s4) fun c s5 => .ok ((a, b, c), s5)
/-- Allow or deny. -/
def headR : Rd Bool := fun s => if isW Tr.wAllow s.toks then .ok (true, adv s) else bnd (mustR Tr.wDeny s) fun _ s1 => .ok (false, s1)
def whenR (D A : Nat) : Rd ExprP := fun s => if isW wWhen s.toks then expr (part A D) (adv s) else .ok (Tr.zero, s)
def rateO : Rd (Int × Int × Int) := fun s => if isW wRate s.toks then rateR (adv s) else .ok ((0, 0, 0), s)
def rule (D A : Nat) : Rd RuleP := fun s =>
  bnd (headR s) fun al s1 => bnd (whenR D A s1) fun e s2 => bnd (rateO s2) fun q s3 => bnd (mustR [59] s3) fun _ s4 => .ok (⟨al, e, q.1, q.2.1, q.2.2, lineOf s.toks⟩, s4)
/-- Rules, with a measure; so many are ahead. -/
def rulesF (D A R : Nat) : Nat → Nat → PSt → Except (Int × Int) (List RuleP)
  | 0, _, _ => .ok []
  | n + 1, c, s =>
    if s.toks.isEmpty then .ok []
    else if c = R ∧ (isW Tr.wAllow s.toks || isW Tr.wDeny s.toks) = true then .error (lineOf s.toks, 9)
    else match rule D A s with
      | .error e => .error e
      | .ok (r, s') => (rulesF D A R n (c + 1) s').map (r :: ·)
def rules (D A R : Nat) (l : List TokP) : Except (Int × Int) (List RuleP) := rulesF D A R (l.length + 1) 0 ⟨l, 0⟩
/-- As the functions answer: rules, line, errno. -/
def answer : Except (Int × Int) (List RuleP) → List RuleP × Int × Int
  | .ok l => (l, 0, 0)
  | .error e => ([], e.1, e.2)
def tokens (l : List TokP) : List RuleP × Int × Int := answer (rules 16 512 64 l)
def text (s : List UInt8) : List RuleP × Int × Int :=
  if (Lx.split s).2.2 = 0 then tokens (Lx.split s).1 else ([], (Lx.split s).2.1, (Lx.split s).2.2)

/-! No reading makes tokens. -/
def Down {α : Type} (p : Rd α) : Prop := ∀ s a s', p s = .ok (a, s') → s'.toks.length ≤ s.toks.length
theorem adv_len (s : PSt) : (adv s).toks.length ≤ s.toks.length := by
  show s.toks.tail.length ≤ _
  rw [List.length_tail]; omega
theorem isW_pos {t : List UInt8} {l : List TokP} (h : isW t l = true) : l.tail.length + 1 = l.length := by
  cases l with
  | nil => cases h
  | cons a l => rfl
theorem bnd_out {α β : Type} {x : Except (Int × Int) (α × PSt)} {f : α → Rd β} {b : β} {s' : PSt} (h : bnd x f = .ok (b, s')) : ∃ a s, x = .ok (a, s) ∧ f a s = .ok (b, s') := by
  cases x with
  | error e => cases h
  | ok y => exact ⟨y.1, y.2, rfl, h⟩
theorem fail_not {α : Type} {e : Int} {s : PSt} {a : α} {s' : PSt} (h : failAt e s = .ok (a, s')) : False := by cases h
theorem num_down : Down num := by
  intro s a s' h
  unfold num at h
  split at h
  · exact (fail_not h).elim
  · split at h
    · injection h with h; injection h with _ h; subst h; exact adv_len s
    · exact (fail_not h).elim
theorem mustR_down (t : List UInt8) : Down (mustR t) := by
  intro s a s' h
  unfold mustR at h
  split at h
  · injection h with h; injection h with _ h; subst h; exact adv_len s
  · exact (fail_not h).elim
theorem boundS_down (sg : Bool) : Down (boundS sg) := by
  intro s a s' h
  unfold boundS at h
  split at h
  · injection h with h; injection h with _ h; subst h
    exact adv_len s
  · obtain ⟨n, s2, e1, e2⟩ := bnd_out h
    injection e2 with e2; injection e2 with _ e2; subst e2
    exact num_down _ _ _ e1
theorem bound_down : Down bound := by
  intro s a s' h
  unfold bound at h
  split at h
  · exact Nat.le_trans (boundS_down true _ _ _ h) (adv_len s)
  · exact boundS_down false _ _ _ h
theorem range_down : Down range := by
  intro s a s' h
  obtain ⟨n, s1, e1, e2⟩ := bnd_out h
  have h1 := num_down _ _ _ e1
  split at e2
  · obtain ⟨m, s2, e3, e4⟩ := bnd_out e2
    injection e4 with e4; injection e4 with _ e4; subst e4
    exact Nat.le_trans (num_down _ _ _ e3) (Nat.le_trans (adv_len _) h1)
  · injection e2 with e2; injection e2 with _ e2; subst e2; exact h1
theorem sepF_down {α : Type} {p : Rd α} (hp : Down p) (t : List UInt8) : ∀ n, Down (sepF p t n)
  | 0 => fun s a s' h => (fail_not h).elim
  | n + 1 => fun s a s' h => by
    obtain ⟨b, s1, e1, e2⟩ := bnd_out h
    have h1 := hp _ _ _ e1
    split at e2
    · obtain ⟨m, s2, e3, e4⟩ := bnd_out e2
      injection e4 with e4; injection e4 with _ e4; subst e4
      exact Nat.le_trans (sepF_down hp t n _ _ _ e3) (Nat.le_trans (adv_len _) h1)
    · injection e2 with e2; injection e2 with _ e2; subst e2; exact h1
/-- The measure does not count. -/
theorem sepF_more {α : Type} {p : Rd α} (hp : Down p) (t : List UInt8) : ∀ (n m : Nat) (s : PSt), s.toks.length < n → s.toks.length < m → sepF p t n s = sepF p t m s
  | 0, _, _, h, _ => absurd h (by omega)
  | _, 0, _, _, h => absurd h (by omega)
  | n + 1, m + 1, s, h, h' => by
    show bnd _ _ = bnd _ _
    cases hps : p s with
    | error e => rfl
    | ok x =>
      obtain ⟨a, s1⟩ := x
      have h1 := hp _ _ _ hps
      rw [bnd_ok, bnd_ok]
      by_cases hw : isW t s1.toks = true
      · have h2 := isW_pos hw
        rw [if_pos hw, if_pos hw, sepF_more hp t n m (adv s1) (by show s1.toks.tail.length < n; omega) (by show s1.toks.tail.length < m; omega)]
      · rw [if_neg hw, if_neg hw]
theorem sep_eq {α : Type} {p : Rd α} (hp : Down p) (t : List UInt8) (s : PSt) : sep p t s = bnd (p s) fun a s1 => if isW t s1.toks then bnd (sep p t (adv s1)) fun l s2 => .ok (a :: l, s2) else .ok ([a], s1) := by
  show bnd _ _ = _
  cases hps : p s with
  | error e => rfl
  | ok x =>
    obtain ⟨a, s1⟩ := x
    have h1 := hp _ _ _ hps
    rw [bnd_ok, bnd_ok]
    by_cases hw : isW t s1.toks = true
    · have h2 := isW_pos hw
      rw [if_pos hw, if_pos hw, sep, sepF_more hp t s.toks.length ((adv s1).toks.length + 1) (adv s1) (by show s1.toks.tail.length < _; omega) (by omega)]
    · rw [if_neg hw, if_neg hw]
theorem sep_down {α : Type} {p : Rd α} (hp : Down p) (t : List UInt8) : Down (sep p t) := fun s a s' h => sepF_down hp t _ s a s' h
theorem atomOf_down (f : Int) : Down (atomOf f) := by
  intro s a s' h
  unfold atomOf at h
  split at h
  · obtain ⟨x1, s1, e1, h⟩ := bnd_out h
    obtain ⟨x2, s2, e2, h⟩ := bnd_out h
    obtain ⟨x3, s3, e3, h⟩ := bnd_out h
    injection h with h; injection h with _ h; subst h
    exact Nat.le_trans (bound_down _ _ _ e3) (Nat.le_trans (mustR_down _ _ _ _ e2) (bound_down _ _ _ e1))
  · obtain ⟨x1, s1, e1, h⟩ := bnd_out h
    injection h with h; injection h with _ h; subst h
    exact sep_down range_down _ _ _ _ e1
theorem atom_down (A : Nat) : Down (atom A) := by
  intro s a s' h
  unfold atom at h
  split at h
  · exact (fail_not h).elim
  · split at h
    · exact (fail_not h).elim
    · exact Nat.le_trans (atomOf_down _ _ _ _ h) (adv_len s)
theorem lst_down (k : Int) {p : Rd ExprP} (hp : Down p) (t : List UInt8) : Down (lst k p t) := by
  intro s a s' h
  obtain ⟨l, s1, e1, h⟩ := bnd_out h
  injection h with h; injection h with _ h; subst h
  exact sep_down hp _ _ _ _ e1
theorem expr_down {p : Rd ExprP} (hp : Down p) : Down (expr p) := lst_down 4 (lst_down 3 hp _) _
theorem part_down (A : Nat) : ∀ k, Down (part A k)
  | 0 => by
    intro s a s' h
    unfold part at h
    split at h
    · exact (fail_not h).elim
    · exact atom_down A _ _ _ h
  | k + 1 => by
    intro s a s' h
    unfold part at h
    split at h
    · obtain ⟨e, s1, e1, h⟩ := bnd_out h
      injection h with h; injection h with _ h; subst h
      exact Nat.le_trans (part_down A k _ _ _ e1) (adv_len s)
    · split at h
      · obtain ⟨e, s1, e1, h⟩ := bnd_out h
        obtain ⟨u, s2, e2, h⟩ := bnd_out h
        injection h with h; injection h with _ h; subst h
        exact Nat.le_trans (mustR_down _ _ _ _ e2) (Nat.le_trans (expr_down (part_down A k) _ _ _ e1) (adv_len s))
      · exact atom_down A _ _ _ h
end Go.Proofs.YtmcgflpgkkophaaGreatDoor.Pa
/- The tokens of expressions' and rules' texts, in plain words. Conditions: what is written may be. -/
namespace Go.Proofs.YtmcgflpgkkophaaGreatDoor.Pa
set_option linter.unusedVariables false
open Go.RowKit
open Tr (kind field rs lo hi of dp dpL right rightL must range1 rng rangesR numR atomR manyR plain txt txtL brack inner atoms atomsL)
open Lx (low run go piece)
open Gu (dig)
open Re (tOk tL vOf sizeOk sizeL)
def tw (ln : Int) (w : List UInt8) : TokP := ⟨1, st w, 0, ln⟩
def tn (ln n : Int) : TokP := ⟨2, st (Gu.put n), n, ln⟩
def tm (ln : Int) (c : UInt8) : TokP := ⟨3, st [c], 0, ln⟩
def ts (ln : Int) : TokP := ⟨4, st [45], 0, ln⟩
/-- What no word, and no number, goes on into. -/
def Ends (m : List UInt8) : Prop := ∀ d t, m = d :: t → low d = false ∧ dig d = false
theorem ends_nil : Ends [] := fun d t h => by cases h
theorem ends_cons {d : UInt8} (h : (low d || dig d) = false) (t : List UInt8) : Ends (d :: t) := fun d' t' e => by
  injection e with e1 e2
  subst e1
  simpa using h
theorem run_ends (p : UInt8 → Bool) (m : List UInt8) (hm : ∀ d t, m = d :: t → p d = false) : ∀ t : List UInt8, t.all p = true → run p (t ++ m) = t.length
  | [], _ => by
    cases m with
    | nil => rfl
    | cons d m => simp [run, hm d m rfl]
  | c :: t, h => by
    rw [List.all_cons, Bool.and_eq_true] at h
    simp [run, h.1, run_ends p m hm t h.2]
def pre (l : List TokP) (x : Except Int (List TokP)) : Except Int (List TokP) := match x with
  | .ok r => .ok (l ++ r)
  | .error e => .error e
theorem pre_pre (l m : List TokP) (x : Except Int (List TokP)) : pre l (pre m x) = pre (l ++ m) x := by
  cases x with
  | error e => rfl
  | ok r => exact congrArg Except.ok (List.append_assoc l m r).symm
theorem pre_nil (x : Except Int (List TokP)) : pre [] x = x := by cases x <;> rfl
theorem map_put (k : TokP) (ln : Int) (x : Except Int (List TokP)) (h : k.kind ≠ 0) : x.map (Lx.put k ln) = pre [{ k with line := ln }] x := by
  cases x with
  | error e => rfl
  | ok r => exact congrArg Except.ok (if_neg h)
theorem map_none (ln : Int) (x : Except Int (List TokP)) : x.map (Lx.put Lx.none_ ln) = x := by
  cases x with
  | error e => rfl
  | ok r => rfl
theorem next_ne {c : UInt8} (h : c ≠ 10) (ln : Int) : Lx.next c ln = ln := if_neg h
theorem go_word (w : List UInt8) (hw : w.all low = true) (h0 : w ≠ []) (m : List UInt8) (hm : Ends m) (ln : Int) : go (w ++ m) ln = pre [tw ln w] (go m ln) := by
  cases w with
  | nil => exact absurd rfl h0
  | cons c t =>
    rw [List.all_cons, Bool.and_eq_true] at hw
    have hr := run_ends low m (fun d t e => (hm d t e).1) t hw.2
    have hp : piece c (t ++ m) = some (t.length, ⟨1, st (c :: t), 0, 0⟩) := by
      unfold piece
      rw [if_pos hw.1, hr, List.take_append_of_le_length (Nat.le_refl _), List.take_length]
    rw [List.cons_append, Lx.go_some hp, List.drop_append_of_le_length (Nat.le_refl _), List.drop_length, List.nil_append, next_ne (fun e => by rw [e] at hw; exact absurd hw.1 (by decide)), map_put _ _ _ (show (1 : Int) ≠ 0 by decide)]
    rfl
theorem dig_low {c : UInt8} (h : dig c = true) : low c = false := by
  have h1 := Gu.dgB_out h
  exact Lx.lwB_lo (by omega)
theorem go_num (n : Int) (hn : Gu.inR n = true) (m : List UInt8) (hm : Ends m) (ln : Int) : go (Gu.put n ++ m) ln = pre [tn ln n] (go m ln) := by
  have hg : Gu.getOk (Gu.put n) = true := by rw [Gu.getOk_put]; exact hn
  have hN := Gu.getN_put hn
  have ha := (Gu.getOk_out hg).2.1
  unfold tn
  generalize Gu.put n = w at hg hN ha ⊢
  cases w with
  | nil => rw [Gu.getOk_nil rfl] at hg; cases hg
  | cons c t =>
    rw [List.all_cons, Bool.and_eq_true] at ha
    have hc : dig c = true := ha.1
    have ht : t.all dig = true := ha.2
    have hr := run_ends dig m (fun d t e => (hm d t e).2) t ht
    have hp : piece c (t ++ m) = some (t.length, ⟨2, st (c :: t), n, 0⟩) := by
      unfold piece
      rw [if_neg (by rw [dig_low hc]; decide), if_pos hc, hr, List.take_append_of_le_length (Nat.le_refl _), List.take_length, if_pos hg, hN]
    rw [List.cons_append, Lx.go_some hp, List.drop_append_of_le_length (Nat.le_refl _), List.drop_length, List.nil_append, next_ne (fun e => by rw [e] at hc; exact absurd hc (by decide)), map_put _ _ _ (show (2 : Int) ≠ 0 by decide)]
theorem go_mark (c : UInt8) (hc : c = 40 ∨ c = 41 ∨ c = 44 ∨ c = 59) (m : List UInt8) (ln : Int) : go (c :: m) ln = pre [tm ln c] (go m ln) := by
  have hp : piece c m = some (0, ⟨3, st [c], 0, 0⟩) := by rcases hc with rfl | rfl | rfl | rfl <;> rfl
  rw [Lx.go_some hp, List.drop_zero, next_ne (by rcases hc with rfl | rfl | rfl | rfl <;> decide), map_put _ _ _ (show (3 : Int) ≠ 0 by decide)]
  rfl
theorem go_minus (m : List UInt8) (ln : Int) : go (45 :: m) ln = pre [ts ln] (go m ln) := by
  rw [Lx.go_some (n := 0) (k := ⟨4, st [45], 0, 0⟩) (by rfl), List.drop_zero, next_ne (by decide), map_put _ _ _ (show (4 : Int) ≠ 0 by decide)]
  rfl
theorem go_blank (m : List UInt8) (ln : Int) : go (32 :: m) ln = go m ln := by
  rw [Lx.go_some (n := 0) (k := Lx.none_) (by rfl), List.drop_zero, next_ne (by decide), map_none]
theorem go_feed (m : List UInt8) (ln : Int) : go (10 :: m) ln = go m (ln + 1) := by
  rw [Lx.go_some (n := 0) (k := Lx.none_) (by rfl), List.drop_zero, map_none]
  rfl

/-- A bound's tokens. -/
def tsz (ln : Int) (v : Nat) : TokP := if v = Fp.top then tw ln Re.infL else tn ln ((v / Fp.un : Nat) : Int)
def tb (ln : Int) (b : Nat) : List TokP := if Fp.signB b then [ts ln, tsz ln (vOf b)] else [tsz ln (vOf b)]
theorem go_size (v : Nat) (h : sizeOk v = true) (m : List UInt8) (hm : Ends m) (ln : Int) : go (sizeL v ++ m) ln = pre [tsz ln v] (go m ln) := by
  unfold sizeL tsz
  unfold sizeOk at h
  by_cases h1 : v = Fp.top
  · rw [if_pos h1, if_pos h1]
    exact go_word _ (by decide) (by decide) m hm ln
  · rw [decide_eq_false h1, Bool.false_or] at h
    rw [if_neg h1, if_neg h1, h, if_pos rfl]
    exact go_num _ (Re.whole_in h) m hm ln
theorem go_bound (b : Nat) (h : tOk b = true) (m : List UInt8) (hm : Ends m) (ln : Int) : go (tL b ++ m) ln = pre (tb ln b) (go m ln) := by
  have hs : sizeOk (vOf b) = true := by
    unfold tOk at h
    rw [Bool.and_eq_true] at h
    exact h.2
  unfold tL tb
  rw [h, if_pos rfl]
  by_cases hb : Fp.signB b = true
  · rw [if_pos hb, if_pos hb, List.cons_append, go_minus, go_size _ hs m hm, pre_pre]; rfl
  · rw [if_neg hb, if_neg hb, go_size _ hs m hm]
def t1 (ln : Int) (p : Int × Int) : List TokP := if p.2 = p.1 then [tn ln p.1] else [tn ln p.1, ts ln, tn ln p.2]
def tr (ln : Int) : List (Int × Int) → List TokP
  | [] => []
  | [p] => t1 ln p
  | p :: q :: l => t1 ln p ++ (tm ln 44 :: tr ln (q :: l))
theorem go_range1 (p : Int × Int) (h : (numR p.1 && numR p.2) = true) (m : List UInt8) (hm : Ends m) (ln : Int) : go (range1 p ++ m) ln = pre (t1 ln p) (go m ln) := by
  rw [Bool.and_eq_true] at h
  unfold range1 t1
  by_cases hp : p.2 = p.1
  · rw [if_pos hp, if_pos hp]
    exact go_num _ h.1 m hm ln
  · rw [if_neg hp, if_neg hp, List.append_assoc, go_num _ h.1 _ (by exact ends_cons (by decide) _), List.cons_append, go_minus, go_num _ h.2 m hm, pre_pre, pre_pre]
    rfl
theorem go_rng : ∀ (r : List (Int × Int)), rangesR r = true → ∀ (m : List UInt8), Ends m → ∀ ln, go (rng r ++ m) ln = pre (tr ln r) (go m ln)
  | [], _, m, _, ln => by rw [tr, pre_nil]; rfl
  | [p], h, m, hm, ln => by
    unfold rangesR at h
    rw [List.all_cons, Bool.and_eq_true] at h
    exact go_range1 p h.1 m hm ln
  | p :: q :: l, h, m, hm, ln => by
    unfold rangesR at h
    rw [List.all_cons, Bool.and_eq_true] at h
    rw [rng, tr, List.append_assoc, List.cons_append, go_range1 p h.1 _ (ends_cons (by decide) _), go_mark 44 (by decide), go_rng (q :: l) h.2 m hm, pre_pre, pre_pre]
    simp
def tbr (ln : Int) (t : List TokP) (b : Bool) : List TokP := if b then tm ln 40 :: (t ++ [tm ln 41]) else t
def sepW (k : Int) : List UInt8 := if k = 3 then wAnd else wOr
mutual
def tk (ln : Int) : ExprP → List TokP
  | .mk k f r l h o => if k = 1 then (if f = 6 then tw ln wReal :: (tb ln l ++ (tw ln wTo :: tb ln h)) else tw ln (Tr.word f) :: tr ln r) else if k = 2 then tw ln wNot :: tkL ln 2 o else tkL ln k o
def tkL (ln : Int) : Int → List ExprP → List TokP
  | _, [] => []
  | k, e :: l => tbr ln (tk ln e) (must k (kind e)) ++ (if l.isEmpty then [] else tw ln (sepW k) :: tkL ln k l)
end
theorem word_low (f : Int) (h1 : 1 ≤ f) (h2 : f ≤ 6) (h6 : ¬ f = 6) : (Tr.word f).all low = true ∧ Tr.word f ≠ [] := by
  have : f = 1 ∨ f = 2 ∨ f = 3 ∨ f = 4 ∨ f = 5 := by omega
  rcases this with rfl | rfl | rfl | rfl | rfl <;> decide
theorem go_atom {f : Int} {r : List (Int × Int)} {l h n : Nat} (ha : atomR f r l h n = true) (m : List UInt8) (hm : Ends m) (ln : Int) :
    go ((if f = 6 then Tr.wReal ++ (tL l ++ (Tr.wTo ++ tL h)) else Tr.word f ++ (32 :: rng r)) ++ m) ln = pre (if f = 6 then tw ln wReal :: (tb ln l ++ (tw ln wTo :: tb ln h)) else tw ln (Tr.word f) :: tr ln r) (go m ln) := by
  unfold atomR at ha
  simp only [Bool.and_eq_true, decide_eq_true_eq] at ha
  obtain ⟨_, f1, f2, ha⟩ := ha
  by_cases h6 : f = 6
  · rw [if_pos h6, if_pos h6]
    rw [if_pos h6] at ha
    simp only [Bool.and_eq_true] at ha
    obtain ⟨_, hl, hh⟩ := ha
    have e1 : (Tr.wReal ++ (tL l ++ (Tr.wTo ++ tL h))) ++ m = wReal ++ (32 :: (tL l ++ (32 :: (wTo ++ (32 :: (tL h ++ m)))))) := by simp [Tr.wReal, Tr.wTo, wReal, wTo]
    rw [e1, go_word _ (by decide) (by decide) _ (ends_cons (by decide) _), go_blank, go_bound l hl _ (ends_cons (by decide) _), go_blank, go_word _ (by decide) (by decide) _ (ends_cons (by decide) _), go_blank, go_bound h hh m hm, pre_pre, pre_pre, pre_pre]
    simp
  · rw [if_neg h6, if_neg h6]
    rw [if_neg h6] at ha
    simp only [Bool.and_eq_true] at ha
    have hw := word_low f f1 f2 h6
    rw [List.append_assoc, List.cons_append, go_word _ hw.1 hw.2 _ (ends_cons (by decide) _), go_blank, go_rng r ha.1 m hm, pre_pre]
    rfl
theorem right_out {k f : Int} {r : List (Int × Int)} {l h : Nat} {o : List ExprP} (hr : right (.mk k f r l h o) = true) (hk : ¬ k = 1) :
    f = 0 ∧ r = [] ∧ plain l = true ∧ plain h = true ∧ manyR k o.length = true ∧ rightL o = true := by
  rw [right, if_neg hk] at hr
  simp only [Bool.and_eq_true, beq_iff_eq] at hr
  exact ⟨hr.1.1, List.eq_nil_of_length_eq_zero hr.1.2.1, hr.1.2.2.1, hr.1.2.2.2, hr.2.1, hr.2.2⟩
theorem go_brack (t : List UInt8) (tt : List TokP) (b : Bool) (m : List UInt8) (hm : Ends m) (ln : Int) (h : ∀ m, Ends m → go (t ++ m) ln = pre tt (go m ln)) : go (brack t b ++ m) ln = pre (tbr ln tt b) (go m ln) := by
  cases b
  · exact h m hm
  · show go (40 :: (t ++ [41]) ++ m) ln = pre (tm ln 40 :: (tt ++ [tm ln 41])) (go m ln)
    rw [List.cons_append, List.append_assoc, go_mark 40 (by decide), List.singleton_append, h _ (ends_cons (by decide) _), go_mark 41 (by decide), pre_pre, pre_pre]
    simp
theorem go_sep (k : Int) (m : List UInt8) (ln : Int) : go (Tr.sep k ++ m) ln = pre [tw ln (sepW k)] (go m ln) ∧ Ends (Tr.sep k ++ m) := by
  unfold Tr.sep sepW
  by_cases hk : k = 3
  · rw [if_pos hk, if_pos hk]
    refine ⟨?_, ends_cons (by decide) _⟩
    show go (32 :: (wAnd ++ (32 :: m))) ln = _
    rw [go_blank, go_word _ (by decide) (by decide) _ (ends_cons (by decide) _), go_blank]
  · rw [if_neg hk, if_neg hk]
    refine ⟨?_, ends_cons (by decide) _⟩
    show go (32 :: (wOr ++ (32 :: m))) ln = _
    rw [go_blank, go_word _ (by decide) (by decide) _ (ends_cons (by decide) _), go_blank]
theorem go_txt_all (ln : Int) : ∀ N : Nat,
    (∀ e, dp e ≤ N → right e = true → ¬ kind e = 0 → ∀ m, Ends m → go (txt e ++ m) ln = pre (tk ln e) (go m ln)) ∧
    (∀ (k : Int) (l : List ExprP), dpL l ≤ N → rightL l = true → ∀ m, Ends m → go (txtL k l ++ m) ln = pre (tkL ln k l) (go m ln)) := by
  intro N
  induction N with
  | zero =>
    refine ⟨fun e h => absurd (Tr.dp_pos e) (by omega), fun k l => ?_⟩
    cases l with
    | nil => intro _ _ m _; rw [txtL, tkL, pre_nil]; rfl
    | cons e l => intro h; rw [dpL] at h; have := Tr.dp_pos e; omega
  | succ N ih =>
    have h1 : ∀ e, dp e ≤ N + 1 → right e = true → ¬ kind e = 0 → ∀ m, Ends m → go (txt e ++ m) ln = pre (tk ln e) (go m ln) := by
      intro e hd hr hk m hm
      obtain ⟨k, f, r, l, h, o⟩ := e
      rw [dp] at hd
      rw [txt, tk]
      by_cases k1 : k = 1
      · rw [if_pos k1, if_pos k1]
        rw [right, if_pos k1] at hr
        exact go_atom hr m hm ln
      · rw [if_neg k1, if_neg k1]
        obtain ⟨_, _, _, _, _, ho⟩ := right_out hr k1
        by_cases k2 : k = 2
        · rw [if_pos k2, if_pos k2]
          have := ih.2 2 o (by omega) ho m hm
          show go (wNot ++ (32 :: (txtL 2 o)) ++ m) ln = _
          rw [List.append_assoc, List.cons_append, go_word _ (by decide) (by decide) _ (ends_cons (by decide) _), go_blank, this, pre_pre]
          rfl
        · rw [if_neg k2, if_neg k2]
          exact ih.2 k o (by omega) ho m hm
    refine ⟨h1, fun k l => ?_⟩
    induction l with
    | nil => intro _ _ m _; rw [txtL, tkL, pre_nil]; rfl
    | cons e l il =>
      intro hd hr m hm
      rw [dpL] at hd
      rw [rightL] at hr
      simp only [Bool.and_eq_true, Bool.not_eq_true', beq_eq_false_iff_ne] at hr
      rw [txtL, tkL, List.append_assoc]
      have he : ∀ m, Ends m → go (txt e ++ m) ln = pre (tk ln e) (go m ln) := h1 e (by omega) hr.1.2 (by simpa using hr.1.1)
      cases l with
      | nil =>
        rw [if_pos (by rfl), if_pos (by rfl), List.nil_append, go_brack _ _ _ m hm ln he, List.append_nil]
      | cons x l =>
        rw [if_neg (by simp), if_neg (by simp), List.append_assoc]
        have hs := go_sep k (txtL k (x :: l) ++ m) ln
        rw [go_brack _ _ _ _ hs.2 ln he, hs.1, il (by omega) hr.2 m hm, pre_pre, pre_pre]
        simp
theorem go_txt {e : ExprP} (hr : right e = true) (hk : ¬ kind e = 0) {m : List UInt8} (hm : Ends m) (ln : Int) : go (txt e ++ m) ln = pre (tk ln e) (go m ln) := (go_txt_all ln _).1 e (Nat.le_refl _) hr hk m hm
/-- A rule's tokens. -/
def rtk (ln : Int) (r : RuleP) : List TokP :=
  tw ln (if r.allow then Tr.wAllow else Tr.wDeny) :: ((if kind r.when_ = 0 then [] else tw ln wWhen :: tk ln r.when_) ++ ((if r.per = 0 then [] else [tw ln wRate, tn ln r.num, tw ln wPer, tn ln r.per, tw ln wBurst, tn ln r.burst]) ++ [tm ln 59]))
def rtksL : Int → List RuleP → List TokP
  | _, [] => []
  | ln, r :: l => rtk ln r ++ rtksL (ln + 1) l
theorem go_rtxt {r : RuleP} (hr : Tr.ruleR r = true) (m : List UInt8) (ln : Int) : go (Tr.rtxt r ++ m) ln = pre (rtk ln r) (go m (ln + 1)) := by
  unfold Tr.ruleR at hr
  simp only [Bool.and_eq_true] at hr
  obtain ⟨h1, h2, h3, h4, _⟩ := hr
  have he : ∀ m', go ((59 :: 10 :: m')) ln = pre [tm ln 59] (go m' (ln + 1)) := fun m' => by rw [go_mark 59 (by decide), go_feed]
  have hq : ∀ m' y, go (59 :: m') ln = pre [tm ln 59] y → go ((if r.per = 0 then [] else Tr.wRate ++ (Gu.put r.num ++ (Tr.wPer ++ (Gu.put r.per ++ (Tr.wBurst ++ Gu.put r.burst))))) ++ (59 :: m')) ln =
      pre ((if r.per = 0 then [] else [tw ln wRate, tn ln r.num, tw ln wPer, tn ln r.per, tw ln wBurst, tn ln r.burst]) ++ [tm ln 59]) y := fun m' y hy => by
    by_cases hp : r.per = 0
    · rw [if_pos hp, if_pos hp, List.nil_append, List.nil_append, hy]
    · rw [if_neg hp, if_neg hp]
      have e1 : (Tr.wRate ++ (Gu.put r.num ++ (Tr.wPer ++ (Gu.put r.per ++ (Tr.wBurst ++ Gu.put r.burst))))) ++ (59 :: m') = 32 :: (wRate ++ (32 :: (Gu.put r.num ++ (32 :: (wPer ++ (32 :: (Gu.put r.per ++ (32 :: (wBurst ++ (32 :: (Gu.put r.burst ++ (59 :: m')))))))))))) := by simp [Tr.wRate, Tr.wPer, Tr.wBurst, wRate, wPer, wBurst]
      rw [e1, go_blank, go_word wRate (by decide) (by decide) _ (ends_cons (by decide) _), go_blank, go_num _ h2 _ (ends_cons (by decide) _), go_blank, go_word wPer (by decide) (by decide) _ (ends_cons (by decide) _), go_blank, go_num _ h3 _ (ends_cons (by decide) _), go_blank, go_word wBurst (by decide) (by decide) _ (ends_cons (by decide) _), go_blank, go_num _ h4 _ (ends_cons (by decide) _), hy]
      simp only [pre_pre]
      rfl
  have hqe : ∀ m', Ends ((if r.per = 0 then [] else Tr.wRate ++ (Gu.put r.num ++ (Tr.wPer ++ (Gu.put r.per ++ (Tr.wBurst ++ Gu.put r.burst))))) ++ (59 :: m')) := fun m' => by
    by_cases hp : r.per = 0
    · rw [if_pos hp]; exact ends_cons (by decide) _
    · rw [if_neg hp]; exact ends_cons (by decide) _
  have hw : ∀ m' y, Ends m' → go m' ln = y → go ((if kind r.when_ = 0 then [] else Tr.wWhen ++ txt r.when_) ++ m') ln = pre (if kind r.when_ = 0 then [] else tw ln wWhen :: tk ln r.when_) y := fun m' y hm hy => by
    by_cases hk : kind r.when_ = 0
    · rw [if_pos hk, if_pos hk, pre_nil]; exact hy
    · rw [if_neg hk, if_neg hk]
      have e1 : (Tr.wWhen ++ txt r.when_) ++ m' = 32 :: (wWhen ++ (32 :: (txt r.when_ ++ m'))) := by simp [Tr.wWhen, wWhen]
      rw [e1, go_blank, go_word wWhen (by decide) (by decide) _ (ends_cons (by decide) _), go_blank, go_txt h1 hk hm, hy, pre_pre]
      rfl
  have hwe : ∀ m', Ends m' → Ends ((if kind r.when_ = 0 then [] else Tr.wWhen ++ txt r.when_) ++ m') := fun m' hm => by
    by_cases hk : kind r.when_ = 0
    · rw [if_pos hk]; exact hm
    · rw [if_neg hk]; exact ends_cons (by decide) _
  unfold Tr.rtxt rtk
  simp only [List.append_assoc, List.cons_append, List.nil_append]
  have hall : (if r.allow then Tr.wAllow else Tr.wDeny).all low = true ∧ (if r.allow then Tr.wAllow else Tr.wDeny) ≠ [] := by cases r.allow <;> decide
  have key := hw _ _ (hqe (10 :: m)) (hq (10 :: m) _ (he m))
  have key2 := hwe _ (hqe (10 :: m))
  rw [go_word _ hall.1 hall.2 _ key2, key, pre_pre, pre_pre]
  rfl
theorem go_rtexts : ∀ (l : List RuleP) (ln : Int), Tr.textOk l = true → go (Tr.textsL l) ln = .ok (rtksL ln l)
  | [], ln, _ => Lx.go_nil ln
  | r :: l, ln, h => by
    unfold Tr.textOk at h
    rw [List.all_cons, Bool.and_eq_true] at h
    show go (Tr.rtxt r ++ Tr.textsL l) ln = _
    rw [go_rtxt h.1, go_rtexts l (ln + 1) h.2]
    rfl
end Go.Proofs.YtmcgflpgkkophaaGreatDoor.Pa
/- What is written is read as it was, in plain words: expressions, rules, policies; unlike policies have unlike texts. Conditions: what is written may be, and is no deeper, and of no more, than is read. -/
namespace Go.Proofs.YtmcgflpgkkophaaGreatDoor.Pa
set_option linter.unusedVariables false
open Go.RowKit
open Tr (kind field rs lo hi of dp dpL right rightL must range1 rng rangesR numR atomR manyR plain txt txtL brack inner atoms atomsL)
open Re (tOk tL vOf sizeOk sizeL)
open Fp (sameB)
/-- How many nots and brackets are open at the deepest place of an expression's text. -/
def bump (k x : Int) : Nat := if must k x then 1 else 0
mutual
def bd : ExprP → Nat
  | .mk k _ _ _ _ o => if k = 1 then 0 else if k = 2 then bdL 2 o + 1 else bdL k o
def bdL : Int → List ExprP → Nat
  | _, [] => 0
  | k, e :: l => max (bd e + bump k (kind e)) (bdL k l)
end
mutual
def bits : ExprP → Prop
  | .mk _ _ _ l h o => (l < 18446744073709551616 ∧ h < 18446744073709551616) ∧ bitsL o
def bitsL : List ExprP → Prop
  | [] => True
  | e :: l => bits e ∧ bitsL l
end
theorem plain_zero {b : Nat} (hb : b < 18446744073709551616) (h : plain b = true) : b = 0 := by
  unfold plain at h
  have e0 : (0 : Nat) = Fp.fl false 0 := by rfl
  rcases Fp.kinds hb with ⟨_, hn⟩ | ⟨hn, s, v, hv, rfl⟩
  · have h0 : Fp.nanB 0 = false := by rw [e0]; exact Fp.nanB_fl (Fp.ex_un (n := 0) (by decide) |> fun h => by rw [Nat.zero_mul] at h; exact h)
    rw [Fp.sameB_mixed (by rw [hn, h0]; decide)] at h
    cases h
  · rw [e0, Fp.sameB_fl hv (Fp.ex_un (n := 0) (by decide) |> fun h => by rw [Nat.zero_mul] at h; exact h), decide_eq_true_eq] at h
    exact h
theorem isW_tw (t w : List UInt8) (ln : Int) (r : List TokP) : isW t (tw ln w :: r) = (w == t) := rfl
theorem isW_tn (t : List UInt8) (ln n : Int) (r : List TokP) : isW t (tn ln n :: r) = false := rfl
theorem isW_tm (t : List UInt8) (ln : Int) (c : UInt8) (r : List TokP) : isW t (tm ln c :: r) = ([c] == t) := rfl
theorem isW_ts (t : List UInt8) (ln : Int) (r : List TokP) : isW t (ts ln :: r) = ([45] == t) := rfl
theorem adv_mk (k : TokP) (r : List TokP) (a : Nat) : adv ⟨k :: r, a⟩ = ⟨r, a⟩ := rfl
/-- What no atom goes on into. -/
def Stops (m : List TokP) : Prop := isW [44] m = false ∧ isW [45] m = false
theorem num_tn (ln n : Int) (m : List TokP) (a : Nat) : num ⟨tn ln n :: m, a⟩ = .ok (n, ⟨m, a⟩) := rfl
theorem mustR_tw (ln : Int) (w : List UInt8) (m : List TokP) (a : Nat) : mustR w ⟨tw ln w :: m, a⟩ = .ok ((), ⟨m, a⟩) := by
  unfold mustR
  rw [if_pos (by rw [isW_tw, beq_self_eq_true])]; rfl
theorem mustR_tm (ln : Int) (c : UInt8) (m : List TokP) (a : Nat) : mustR [c] ⟨tm ln c :: m, a⟩ = .ok ((), ⟨m, a⟩) := by
  unfold mustR
  rw [if_pos (by rw [isW_tm, beq_self_eq_true])]; rfl
theorem range_t1 (ln : Int) (p : Int × Int) (m : List TokP) (a : Nat) (hm : isW [45] m = false) : range ⟨t1 ln p ++ m, a⟩ = .ok (p, ⟨m, a⟩) := by
  obtain ⟨x, y⟩ := p
  unfold range t1
  by_cases hp : y = x
  · rw [if_pos hp, List.singleton_append, num_tn, bnd_ok, hm, if_neg (by decide), hp]
  · rw [if_neg hp]
    rw [List.cons_append, num_tn, bnd_ok, List.cons_append, isW_ts, if_pos (by decide), adv_mk, List.singleton_append, num_tn, bnd_ok]
theorem sep_tr (ln : Int) : ∀ (r : List (Int × Int)), r ≠ [] → ∀ (m : List TokP) (a : Nat), Stops m → sep range [44] ⟨tr ln r ++ m, a⟩ = .ok (r, ⟨m, a⟩)
  | [], h, _, _, _ => absurd rfl h
  | [p], _, m, a, hm => by
    rw [tr, sep_eq range_down, range_t1 ln p m a hm.2, bnd_ok, hm.1, if_neg (by decide)]
  | p :: q :: l, _, m, a, hm => by
    rw [tr, sep_eq range_down, List.append_assoc, List.cons_append, range_t1 ln p _ a (by rw [isW_tm]; decide), bnd_ok, isW_tm, if_pos (by decide), adv_mk, sep_tr ln (q :: l) (by simp) m a hm, bnd_ok]
theorem bound_tb (ln : Int) (b : Nat) (hb : b < 18446744073709551616) (h : tOk b = true) (m : List TokP) (a : Nat) : bound ⟨tb ln b ++ m, a⟩ = .ok (b, ⟨m, a⟩) := by
  have hr := (Re.text_read hb h).2
  have hs : sizeOk (vOf b) = true := by
    unfold tOk at h
    rw [Bool.and_eq_true] at h
    exact h.2
  have key : ∀ sg : Bool, Re.rdF (sgn sg ++ sizeL (vOf b)) = b → boundS sg ⟨tsz ln (vOf b) :: m, a⟩ = .ok (b, ⟨m, a⟩) := by
    intro sg hr
    unfold boundS tsz
    unfold sizeL at hr
    unfold sizeOk at hs
    by_cases h1 : vOf b = Fp.top
    · rw [if_pos h1] at hr ⊢
      rw [isW_tw, if_pos (by decide), adv_mk, hr]
    · rw [if_neg h1] at hr ⊢
      rw [decide_eq_false h1, Bool.false_or] at hs
      rw [hs, if_pos rfl] at hr
      rw [isW_tn, if_neg (by decide), num_tn, bnd_ok]
      show (Except.ok (Re.rdF (sgn sg ++ Gu.put _), _) : Except (Int × Int) (Nat × PSt)) = _
      rw [hr]
  have hd : isW [45] (tsz ln (vOf b) :: m) = false := by
    unfold tsz
    by_cases h1 : vOf b = Fp.top
    · rw [if_pos h1, isW_tw]; decide
    · rw [if_neg h1, isW_tn]
  unfold bound tb
  unfold tL at hr
  rw [h, if_pos rfl] at hr
  cases hsg : Fp.signB b
  · rw [hsg, if_neg (by decide)] at hr
    rw [if_neg (show ¬ (false = true) by decide), List.singleton_append, hd, if_neg (show ¬ (false = true) by decide)]
    exact key false hr
  · rw [hsg, if_pos rfl] at hr
    rw [if_pos rfl, List.cons_append, List.singleton_append, isW_ts, if_pos (by decide), adv_mk]
    exact key true hr
theorem fieldOf_word (f : Int) (h1 : 1 ≤ f) (h2 : f ≤ 6) (h6 : ¬ f = 6) : fieldOf (Tr.word f) = f := by
  have : f = 1 ∨ f = 2 ∨ f = 3 ∨ f = 4 ∨ f = 5 := by omega
  rcases this with rfl | rfl | rfl | rfl | rfl <;> decide
theorem atom_back (A : Nat) (ln : Int) (e : ExprP) (hk : kind e = 1) (hr : right e = true) (hb : bits e) (m : List TokP) (a : Nat) (hm : Stops m) (ha : a + 1 ≤ A) :
    atom A ⟨tk ln e ++ m, a⟩ = .ok (e, ⟨m, a + 1⟩) := by
  obtain ⟨k, f, r, l, h, o⟩ := e
  obtain rfl : k = 1 := hk
  rw [right, if_pos rfl] at hr
  rw [bits] at hb
  obtain ⟨⟨hl, hh⟩, _⟩ := hb
  unfold atomR at hr
  simp only [Bool.and_eq_true, decide_eq_true_eq, beq_iff_eq] at hr
  obtain ⟨ho, f1, f2, hr⟩ := hr
  obtain rfl : o = [] := List.eq_nil_of_length_eq_zero ho
  rw [tk, if_pos rfl]
  unfold atom
  by_cases h6 : f = 6
  · subst h6
    rw [if_pos rfl] at hr
    simp only [Bool.and_eq_true, beq_iff_eq] at hr
    obtain ⟨hrl, t1, t2⟩ := hr
    obtain rfl : r = [] := List.eq_nil_of_length_eq_zero hrl
    rw [if_pos rfl]
    have hhf : headField ((tw ln wReal :: (tb ln l ++ (tw ln wTo :: tb ln h))) ++ m) = 6 := by
      show (if (1 : Int) = 1 then fieldOf wReal else 0) = 6
      decide
    rw [hhf, if_neg (by decide), if_neg (by show ¬ a = A; omega)]
    unfold atomOf
    rw [if_pos rfl]
    show bnd (bound ⟨(tb ln l ++ (tw ln wTo :: tb ln h)) ++ m, a + 1⟩) _ = _
    rw [List.append_assoc, bound_tb ln l hl t1, bnd_ok, List.cons_append, mustR_tw, bnd_ok, bound_tb ln h hh t2, bnd_ok]
  · rw [if_neg h6] at hr
    simp only [Bool.and_eq_true, Bool.not_eq_true', beq_eq_false_iff_ne] at hr
    obtain ⟨_, hrl, p1, p2⟩ := hr
    obtain rfl := plain_zero hl p1
    obtain rfl := plain_zero hh p2
    have hrn : r ≠ [] := fun e => hrl (by rw [e]; rfl)
    rw [if_neg h6]
    have hhf : headField ((tw ln (Tr.word f) :: tr ln r) ++ m) = f := by
      show (if (1 : Int) = 1 then fieldOf (Tr.word f) else 0) = f
      rw [if_pos rfl]
      exact fieldOf_word f f1 f2 h6
    rw [hhf, if_neg (by omega), if_neg (by show ¬ a = A; omega)]
    unfold atomOf
    rw [if_neg h6]
    show bnd (sep range [44] ⟨tr ln r ++ m, a + 1⟩) _ = _
    rw [sep_tr ln r hrn m (a + 1) hm, bnd_ok]
/-- A list of them, with a word between. -/
theorem sep_back (q : Rd ExprP) (hq : Down q) (t : List UInt8) (ln k : Int) (ht : sepW k = t) (G : List TokP → Prop) (hG : ∀ r, G (tw ln t :: r)) (A : Nat) : ∀ (o : List ExprP), o ≠ [] → 
    (∀ x ∈ o, ∀ m a, G m → a + atoms x ≤ A → q ⟨tbr ln (tk ln x) (must k (kind x)) ++ m, a⟩ = .ok (x, ⟨m, a + atoms x⟩)) → ∀ m a, G m → isW t m = false → a + atomsL o ≤ A →
    sep q t ⟨tkL ln k o ++ m, a⟩ = .ok (o, ⟨m, a + atomsL o⟩)
  | [], h, _, _, _, _, _, _ => absurd rfl h
  | [x], _, h, m, a, hm, hw, ha => by
    rw [atomsL, atomsL] at ha ⊢
    rw [tkL, if_pos (by rfl), List.append_nil, sep_eq hq, h x (List.mem_singleton.2 rfl) m a hm (by omega), bnd_ok, hw, if_neg (by decide)]
    rfl
  | x :: y :: l, _, h, m, a, hm, hw, ha => by
    rw [atomsL] at ha ⊢
    rw [tkL, if_neg (by simp), ht, sep_eq hq, List.append_assoc, List.cons_append, h x (List.mem_cons_self ..) _ a (hG _) (by omega), bnd_ok, isW_tw, if_pos (by rw [beq_self_eq_true]), adv_mk,
      sep_back q hq t ln k ht G hG A (y :: l) (by simp) (fun z hz => h z (List.mem_cons_of_mem _ hz)) m (a + atoms x) hm hw (by omega), bnd_ok, Nat.add_assoc]
theorem sep_one (q : Rd ExprP) (hq : Down q) (t : List UInt8) {s s' : PSt} {e : ExprP} (h : q s = .ok (e, s')) (hw : isW t s'.toks = false) (k : Int) : lst k q t s = .ok (e, s') := by
  unfold lst
  rw [sep_eq hq, h, bnd_ok, hw, if_neg (by decide), bnd_ok]; rfl
theorem rightL_mem {o : List ExprP} (h : rightL o = true) : ∀ x ∈ o, right x = true ∧ ¬ kind x = 0 := fun x hx => by
  rw [Tr.rightL_all, List.all_eq_true] at h
  have := h x hx
  simp only [Bool.and_eq_true, Bool.not_eq_true', beq_eq_false_iff_ne] at this
  exact ⟨this.2, this.1⟩
theorem bitsL_mem : ∀ {o : List ExprP}, bitsL o → ∀ x ∈ o, bits x
  | [], _, x, h => by cases h
  | a :: l, hb, x, h => by
    rw [bitsL] at hb
    rcases List.mem_cons.1 h with rfl | h
    · exact hb.1
    · exact bitsL_mem hb.2 x h
theorem bdL_mem (k : Int) : ∀ {o : List ExprP}, ∀ x ∈ o, bd x + bump k (kind x) ≤ bdL k o
  | [], x, h => by cases h
  | a :: l, x, h => by
    rw [bdL]
    rcases List.mem_cons.1 h with rfl | h
    · exact Nat.le_max_left _ _
    · exact Nat.le_trans (bdL_mem k x h) (Nat.le_max_right _ _)
theorem kinds_right {e : ExprP} (hr : right e = true) (h0 : ¬ kind e = 0) : kind e = 1 ∨ kind e = 2 ∨ kind e = 3 ∨ kind e = 4 := by
  obtain ⟨k, f, r, l, h, o⟩ := e
  have h0 : ¬ k = 0 := h0
  show k = 1 ∨ k = 2 ∨ k = 3 ∨ k = 4
  by_cases k1 : k = 1
  · exact .inl k1
  · obtain ⟨_, _, _, _, hm, _⟩ := right_out hr k1
    unfold manyR at hm
    rw [if_neg h0] at hm
    by_cases k2 : k = 2
    · exact .inr (.inl k2)
    · rw [if_neg k2] at hm
      by_cases k3 : k = 3 ∨ k = 4
      · exact .inr (.inr k3)
      · rw [if_neg k3] at hm; cases hm
theorem head_tk (ln : Int) (e : ExprP) (h : kind e = 1) (m : List TokP) (hr : right e = true) : isW wNot (tk ln e ++ m) = false ∧ isW [40] (tk ln e ++ m) = false := by
  obtain ⟨k, f, r, l, h', o⟩ := e
  obtain rfl : k = 1 := h
  rw [right, if_pos rfl] at hr
  unfold atomR at hr
  simp only [Bool.and_eq_true, decide_eq_true_eq, beq_iff_eq] at hr
  obtain ⟨ho, f1, f2, _⟩ := hr
  rw [tk, if_pos rfl]
  have : f = 1 ∨ f = 2 ∨ f = 3 ∨ f = 4 ∨ f = 5 ∨ f = 6 := by omega
  rcases this with rfl | rfl | rfl | rfl | rfl | rfl
  · rw [if_neg (by decide), List.cons_append, isW_tw, isW_tw]; decide
  · rw [if_neg (by decide), List.cons_append, isW_tw, isW_tw]; decide
  · rw [if_neg (by decide), List.cons_append, isW_tw, isW_tw]; decide
  · rw [if_neg (by decide), List.cons_append, isW_tw, isW_tw]; decide
  · rw [if_neg (by decide), List.cons_append, isW_tw, isW_tw]; decide
  · rw [if_pos (by decide), List.cons_append, isW_tw, isW_tw]; decide
theorem part_atom (A K : Nat) (s : PSt) (h1 : isW wNot s.toks = false) (h2 : isW [40] s.toks = false) : part A K s = atom A s := by
  cases K with
  | zero => rw [part_zero, h1, h2, if_neg (by decide)]
  | succ K => rw [part_succ, h1, if_neg (by decide), h2, if_neg (by decide)]
/-- What an expression's tokens are read as, at each level. -/
def Back (A : Nat) (ln : Int) (e : ExprP) : Prop := ∀ (K : Nat) (m : List TokP) (a : Nat), bd e ≤ K → a + atoms e ≤ A → Stops m →
  ((kind e = 1 ∨ kind e = 2) → part A K ⟨tk ln e ++ m, a⟩ = .ok (e, ⟨m, a + atoms e⟩)) ∧
  (¬ kind e = 4 → isW wAnd m = false → ands (part A K) ⟨tk ln e ++ m, a⟩ = .ok (e, ⟨m, a + atoms e⟩)) ∧
  (isW wAnd m = false → isW wOr m = false → expr (part A K) ⟨tk ln e ++ m, a⟩ = .ok (e, ⟨m, a + atoms e⟩))
theorem stops_tm : ∀ ln r, Stops (tm ln 41 :: r) ∧ isW wAnd (tm ln 41 :: r) = false ∧ isW wOr (tm ln 41 :: r) = false := fun ln r => by
  refine ⟨⟨?_, ?_⟩, ?_, ?_⟩ <;> (rw [isW_tm]; decide)
/-- In brackets, where they must be. -/
theorem brack_back (A : Nat) (ln : Int) (x : ExprP) (k : Int) (hx : Back A ln x) (K : Nat) (m : List TokP) (a : Nat) (hb : bd x + bump k (kind x) ≤ K) (ha : a + atoms x ≤ A) (hm : Stops m) (hmu : must k (kind x) = true ∨ kind x = 1 ∨ kind x = 2) :
    part A K ⟨tbr ln (tk ln x) (must k (kind x)) ++ m, a⟩ = .ok (x, ⟨m, a + atoms x⟩) := by
  unfold bump at hb
  by_cases h : must k (kind x) = true
  · rw [h, if_pos rfl] at hb
    rw [h]
    obtain ⟨K, rfl⟩ : ∃ n, K = n + 1 := ⟨K - 1, by omega⟩
    show part A (K + 1) ⟨tm ln 40 :: (tk ln x ++ [tm ln 41]) ++ m, a⟩ = _
    rw [List.cons_append, List.append_assoc, List.singleton_append]
    obtain ⟨h1, h2, h3⟩ := stops_tm ln m
    rw [part_succ, isW_tm, if_neg (by decide), isW_tm, if_pos (by decide), adv_mk, (hx K _ a (by omega) ha h1).2.2 h2 h3, bnd_ok, mustR_tm, bnd_ok]
  · have h' : must k (kind x) = false := by simpa using h
    rw [h', if_neg (by decide)] at hb
    rw [h']
    exact (hx K m a (by omega) ha hm).1 (hmu.resolve_left h)
theorem atoms_inner {k f : Int} {r : List (Int × Int)} {l h : Nat} {o : List ExprP} (h2 : 2 ≤ k) (h4 : k ≤ 4) : atoms (.mk k f r l h o) = atomsL o := by
  rw [atoms, if_neg (by omega), if_pos (by unfold inner; simp; omega)]
theorem back_all (A : Nat) (ln : Int) : ∀ N : Nat, ∀ e, dp e ≤ N → right e = true → ¬ kind e = 0 → bits e → Back A ln e := by
  intro N
  induction N with
  | zero => intro e h; exact absurd (Tr.dp_pos e) (by omega)
  | succ N ih =>
    intro e hd hr h0 hb K m a hK ha hm
    have hk := kinds_right hr h0
    have each : ∀ x ∈ of e, Back A ln x := fun x hx => by
      obtain ⟨k, f, r, l, h, o⟩ := e
      have hdx := Tr.dp_of hx
      have hxo : x ∈ o := hx
      by_cases k1 : k = 1
      · rw [right, if_pos k1] at hr
        unfold atomR at hr
        simp only [Bool.and_eq_true, beq_iff_eq] at hr
        rw [List.eq_nil_of_length_eq_zero hr.1] at hxo
        cases hxo
      · obtain ⟨_, _, _, _, _, ho⟩ := right_out hr k1
        rw [bits] at hb
        have h1 := rightL_mem ho x hxo
        exact ih x (by omega) h1.1 h1.2 (bitsL_mem hb.2 x hxo)
    have up : (kind e = 1 ∨ kind e = 2) → part A K ⟨tk ln e ++ m, a⟩ = .ok (e, ⟨m, a + atoms e⟩) → isW wAnd m = false → ands (part A K) ⟨tk ln e ++ m, a⟩ = .ok (e, ⟨m, a + atoms e⟩) :=
      fun _ h hw => sep_one _ (part_down A K) wAnd h hw 3
    have up2 : ands (part A K) ⟨tk ln e ++ m, a⟩ = .ok (e, ⟨m, a + atoms e⟩) → isW wOr m = false → expr (part A K) ⟨tk ln e ++ m, a⟩ = .ok (e, ⟨m, a + atoms e⟩) :=
      fun h hw => sep_one _ (lst_down 3 (part_down A K) wAnd) wOr h hw 4
    rcases hk with hk | hk | hk | hk
    · have hat : atoms e = 1 := by
        obtain ⟨k, f, r, l, h, o⟩ := e
        obtain rfl : k = 1 := hk
        rw [atoms, if_pos rfl]
      have h := head_tk ln e hk m hr
      have hp : part A K ⟨tk ln e ++ m, a⟩ = .ok (e, ⟨m, a + atoms e⟩) := by
        rw [part_atom A K _ h.1 h.2, hat]
        exact atom_back A ln e hk hr hb m a hm (by omega)
      exact ⟨fun _ => hp, fun _ hw => up (.inl hk) hp hw, fun hw hw2 => up2 (up (.inl hk) hp hw) hw2⟩
    · have hp : part A K ⟨tk ln e ++ m, a⟩ = .ok (e, ⟨m, a + atoms e⟩) := by
        obtain ⟨k, f, r, l, h, o⟩ := e
        obtain rfl : k = 2 := hk
        obtain ⟨rfl, rfl, p1, p2, hmny, ho⟩ := right_out hr (by decide)
        rw [bits] at hb
        obtain rfl := plain_zero hb.1.1 p1
        obtain rfl := plain_zero hb.1.2 p2
        obtain ⟨x, rfl⟩ : ∃ x, o = [x] := by
          unfold manyR at hmny
          rw [if_neg (by decide), if_pos rfl, beq_iff_eq] at hmny
          exact List.length_eq_one_iff.1 hmny
        rw [atoms_inner (by decide) (by decide), atomsL, atomsL] at ha ⊢
        rw [bd, if_neg (by decide), if_pos rfl, bdL, bdL] at hK
        obtain ⟨K, rfl⟩ : ∃ n, K = n + 1 := ⟨K - 1, by omega⟩
        rw [tk, if_neg (by decide), if_pos rfl, tkL, if_pos (by rfl), List.append_nil, List.cons_append]
        have hx := each x (List.mem_singleton.2 rfl)
        have hkx := kinds_right (rightL_mem ho x (List.mem_singleton.2 rfl)).1 (rightL_mem ho x (List.mem_singleton.2 rfl)).2
        have hmu : must 2 (kind x) = true ∨ kind x = 1 ∨ kind x = 2 := by
          rcases hkx with h | h | h | h
          · exact .inr (.inl h)
          · exact .inr (.inr h)
          · rw [h]; left; decide
          · rw [h]; left; decide
        rw [part_succ, isW_tw, if_pos (by decide), adv_mk, brack_back A ln x 2 hx K m a (by omega) (by omega) hm hmu, bnd_ok]
        rfl
      exact ⟨fun _ => hp, fun _ hw => up (.inr hk) hp hw, fun hw hw2 => up2 (up (.inr hk) hp hw) hw2⟩
    · have hp : isW wAnd m = false → ands (part A K) ⟨tk ln e ++ m, a⟩ = .ok (e, ⟨m, a + atoms e⟩) := by
        intro hw
        obtain ⟨k, f, r, l, h, o⟩ := e
        obtain rfl : k = 3 := hk
        obtain ⟨rfl, rfl, p1, p2, hmny, ho⟩ := right_out hr (by decide)
        rw [bits] at hb
        obtain rfl := plain_zero hb.1.1 p1
        obtain rfl := plain_zero hb.1.2 p2
        unfold manyR at hmny
        rw [if_neg (by decide), if_neg (by decide), if_pos (.inl rfl), decide_eq_true_eq] at hmny
        rw [atoms_inner (by decide) (by decide)] at ha ⊢
        rw [bd, if_neg (by decide), if_neg (by decide)] at hK
        rw [tk, if_neg (by decide), if_neg (by decide)]
        have hs := sep_back (part A K) (part_down A K) wAnd ln 3 rfl Stops (fun r => ⟨by rw [isW_tw]; decide, by rw [isW_tw]; decide⟩) A o (by rintro rfl; simp at hmny) (fun x hx m a hm ha => by
          have hkx := kinds_right (rightL_mem ho x hx).1 (rightL_mem ho x hx).2
          have hmu : must 3 (kind x) = true ∨ kind x = 1 ∨ kind x = 2 := by
            rcases hkx with h | h | h | h
            · exact .inr (.inl h)
            · exact .inr (.inr h)
            · rw [h]; left; decide
            · rw [h]; left; decide
          exact brack_back A ln x 3 (each x hx) K m a (Nat.le_trans (bdL_mem 3 x hx) hK) ha hm hmu) m a hm hw ha
        unfold ands lst
        rw [hs, bnd_ok]
        match o, hmny with
        | x :: y :: l, _ => rfl
      exact ⟨fun h => by omega, fun _ hw => hp hw, fun hw hw2 => up2 (hp hw) hw2⟩
    · have hp : isW wAnd m = false → isW wOr m = false → expr (part A K) ⟨tk ln e ++ m, a⟩ = .ok (e, ⟨m, a + atoms e⟩) := by
        intro hwa hw
        obtain ⟨k, f, r, l, h, o⟩ := e
        obtain rfl : k = 4 := hk
        obtain ⟨rfl, rfl, p1, p2, hmny, ho⟩ := right_out hr (by decide)
        rw [bits] at hb
        obtain rfl := plain_zero hb.1.1 p1
        obtain rfl := plain_zero hb.1.2 p2
        unfold manyR at hmny
        rw [if_neg (by decide), if_neg (by decide), if_pos (.inr rfl), decide_eq_true_eq] at hmny
        rw [atoms_inner (by decide) (by decide)] at ha ⊢
        rw [bd, if_neg (by decide), if_neg (by decide)] at hK
        rw [tk, if_neg (by decide), if_neg (by decide)]
        have hs := sep_back (ands (part A K)) (lst_down 3 (part_down A K) wAnd) wOr ln 4 rfl (fun m => Stops m ∧ isW wAnd m = false) (fun r => ⟨⟨by rw [isW_tw]; decide, by rw [isW_tw]; decide⟩, by rw [isW_tw]; decide⟩) A o (by rintro rfl; simp at hmny) (fun x hx m a hm ha => by
          have hkx := kinds_right (rightL_mem ho x hx).1 (rightL_mem ho x hx).2
          have hle := Nat.le_trans (bdL_mem 4 x hx) hK
          by_cases h4 : kind x = 4
          · have hmu : must 4 (kind x) = true := by rw [h4]; decide
            exact sep_one _ (part_down A K) wAnd (brack_back A ln x 4 (each x hx) K m a hle ha hm.1 (.inl hmu)) hm.2 3
          · have hmu : must 4 (kind x) = false := by
              rcases hkx with h | h | h | h
              · rw [h]; decide
              · rw [h]; decide
              · rw [h]; decide
              · exact absurd h h4
            rw [hmu]
            unfold bump at hle
            rw [hmu] at hle
            exact (each x hx K m a (by simpa using hle) ha hm.1).2.1 h4 hm.2) m a ⟨hm, hwa⟩ hw ha
        show lst 4 _ _ _ = _
        unfold lst
        rw [hs, bnd_ok]
        match o, hmny with
        | x :: y :: l, _ => rfl
      exact ⟨fun h => by omega, fun h => absurd hk h, fun hw hw2 => hp hw hw2⟩
theorem expr_back (A K : Nat) (ln : Int) (e : ExprP) (hr : right e = true) (h0 : ¬ kind e = 0) (hb : bits e) (m : List TokP) (a : Nat) (hK : bd e ≤ K) (ha : a + atoms e ≤ A) (hm : Stops m) (h1 : isW wAnd m = false) (h2 : isW wOr m = false) :
    expr (part A K) ⟨tk ln e ++ m, a⟩ = .ok (e, ⟨m, a + atoms e⟩) := (back_all A ln _ e (Nat.le_refl _) hr h0 hb K m a hK ha hm).2.2 h1 h2
end Go.Proofs.YtmcgflpgkkophaaGreatDoor.Pa
/- Rules and policies are read as they were; unlike policies have unlike texts: plain words. Conditions: what is written may be. -/
namespace Go.Proofs.YtmcgflpgkkophaaGreatDoor.Pa
set_option linter.unusedVariables false
open Go.RowKit
open Tr (kind field rs lo hi of dp dpL right rightL must range1 rng rangesR numR atomR manyR plain txt txtL brack inner atoms atomsL same sameL ruleR textOk textsL rtxt rule1)
open Re (tOk tL vOf sizeOk sizeL)
open Fp (sameB)
def atLine (ln : Int) (r : RuleP) : RuleP := { r with line := ln }
/-- Rules, each in its line. -/
def lines : Int → List RuleP → List RuleP
  | _, [] => []
  | ln, r :: l => atLine ln r :: lines (ln + 1) l
theorem zero_of {e : ExprP} (hr : right e = true) (hk : kind e = 0) (hb : bits e) : e = Tr.zero ∧ atoms e = 0 ∧ bd e = 0 := by
  obtain ⟨k, f, r, l, h, o⟩ := e
  obtain rfl : k = 0 := hk
  obtain ⟨rfl, rfl, p1, p2, hmny, ho⟩ := right_out hr (by decide)
  rw [bits] at hb
  obtain rfl := plain_zero hb.1.1 p1
  obtain rfl := plain_zero hb.1.2 p2
  unfold manyR at hmny
  rw [if_pos rfl, beq_iff_eq] at hmny
  obtain rfl := List.eq_nil_of_length_eq_zero hmny
  exact ⟨rfl, rfl, rfl⟩
theorem headR_back (ln : Int) (al : Bool) (m : List TokP) (a : Nat) : headR ⟨tw ln (if al then Tr.wAllow else Tr.wDeny) :: m, a⟩ = .ok (al, ⟨m, a⟩) := by
  unfold headR
  cases al
  · rw [if_neg (show ¬ (false = true) by decide), isW_tw, if_neg (by decide), mustR_tw, bnd_ok]
  · rw [if_pos rfl, isW_tw, if_pos (by decide), adv_mk]
theorem rate_back (ln : Int) (r : RuleP) (hp : ¬ r.per = 0) (m : List TokP) (a : Nat) : rateO ⟨[tw ln wRate, tn ln r.num, tw ln wPer, tn ln r.per, tw ln wBurst, tn ln r.burst] ++ m, a⟩ = .ok ((r.num, r.per, r.burst), ⟨m, a⟩) := by
  unfold rateO
  simp only [List.cons_append, List.nil_append]
  rw [isW_tw, if_pos (by decide), adv_mk]
  unfold rateR
  rw [num_tn, bnd_ok, mustR_tw, bnd_ok]
  have : perR ⟨tn ln r.per :: tw ln wBurst :: tn ln r.burst :: m, a⟩ = .ok (r.per, ⟨tw ln wBurst :: tn ln r.burst :: m, a⟩) := if_pos ⟨rfl, hp⟩
  rw [this, bnd_ok, mustR_tw, bnd_ok, num_tn, bnd_ok]
theorem rule_back (D A : Nat) (ln : Int) (r : RuleP) (hr : ruleR r = true) (hb : bits r.when_) (m : List TokP) (a : Nat) (hd : bd r.when_ ≤ D) (ha : a + atoms r.when_ ≤ A) :
    rule D A ⟨rtk ln r ++ m, a⟩ = .ok (atLine ln r, ⟨m, a + atoms r.when_⟩) := by
  unfold ruleR at hr
  simp only [Bool.and_eq_true] at hr
  obtain ⟨h1, h2, h3, h4, h5⟩ := hr
  obtain ⟨q, hq⟩ : ∃ q, q = (if r.per = 0 then [] else [tw ln wRate, tn ln r.num, tw ln wPer, tn ln r.per, tw ln wBurst, tn ln r.burst]) ++ (tm ln 59 :: m) := ⟨_, rfl⟩
  have hrate : ∀ a, rateO ⟨q, a⟩ = .ok ((r.num, r.per, r.burst), ⟨tm ln 59 :: m, a⟩) := fun a => by
    rw [hq]
    by_cases hp : r.per = 0
    · rw [if_pos hp, List.nil_append]
      unfold rateO
      rw [isW_tm, if_neg (by decide)]
      rw [hp] at h5 ⊢
      simp at h5
      rw [h5.1, h5.2]
    · rw [if_neg hp]
      exact rate_back ln r hp _ a
  have hqs : Stops q ∧ isW wAnd q = false ∧ isW wOr q = false ∧ isW wWhen q = false := by
    rw [hq]
    by_cases hp : r.per = 0
    · rw [if_pos hp, List.nil_append]
      exact ⟨⟨by rw [isW_tm]; decide, by rw [isW_tm]; decide⟩, by rw [isW_tm]; decide, by rw [isW_tm]; decide, by rw [isW_tm]; decide⟩
    · rw [if_neg hp, List.cons_append]
      exact ⟨⟨by rw [isW_tw]; decide, by rw [isW_tw]; decide⟩, by rw [isW_tw]; decide, by rw [isW_tw]; decide, by rw [isW_tw]; decide⟩
  have hwhen : whenR D A ⟨(if kind r.when_ = 0 then [] else tw ln wWhen :: tk ln r.when_) ++ q, a⟩ = .ok (r.when_, ⟨q, a + atoms r.when_⟩) := by
    unfold whenR
    by_cases hk : kind r.when_ = 0
    · obtain ⟨z1, z2, _⟩ := zero_of h1 hk hb
      rw [if_pos hk, List.nil_append, hqs.2.2.2, if_neg (by decide), z2, z1]; rfl
    · rw [if_neg hk, List.cons_append, isW_tw, if_pos (by decide), adv_mk]
      exact expr_back A D ln _ h1 hk hb q a hd ha hqs.1 hqs.2.1 hqs.2.2.1
  have e0 : rtk ln r ++ m = tw ln (if r.allow then Tr.wAllow else Tr.wDeny) :: ((if kind r.when_ = 0 then [] else tw ln wWhen :: tk ln r.when_) ++ q) := by
    rw [hq, rtk]
    simp
  unfold rule
  rw [e0, headR_back, bnd_ok, hwhen, bnd_ok, hrate, bnd_ok, mustR_tm, bnd_ok]
  rfl
def atomsR (l : List RuleP) : Nat := (l.map fun r => atoms r.when_).sum
theorem rtk_pos (ln : Int) (r : RuleP) : 0 < (rtk ln r).length := by rw [rtk]; simp
theorem rules_back (D A R : Nat) : ∀ (l : List RuleP) (n c : Nat) (ln : Int) (a : Nat), textOk l = true → (∀ r ∈ l, bits r.when_ ∧ bd r.when_ ≤ D) → a + atomsR l ≤ A → c + l.length ≤ R → l.length < n →
    rulesF D A R n c ⟨rtksL ln l, a⟩ = .ok (lines ln l)
  | [], n, c, ln, a, _, _, _, _, hn => by
    cases n with
    | zero => exact absurd hn (by simp)
    | succ n => rw [rulesF, rtksL, if_pos (by rfl)]; rfl
  | r :: l, n, c, ln, a, hok, hb, ha, hc, hn => by
    cases n with
    | zero => exact absurd hn (by simp)
    | succ n =>
      unfold textOk at hok
      rw [List.all_cons, Bool.and_eq_true] at hok
      rw [atomsR, List.map_cons, List.sum_cons] at ha
      have ha : a + (atoms r.when_ + atomsR l) ≤ A := ha
      rw [List.length_cons] at hc hn
      have h1 := hb r (List.mem_cons_self ..)
      have hne : (rtk ln r ++ rtksL (ln + 1) l).isEmpty = false := by
        have := rtk_pos ln r
        cases h : rtk ln r ++ rtksL (ln + 1) l with
        | nil => rw [(List.append_eq_nil_iff.1 h).1] at this; cases this
        | cons x y => rfl
      rw [rulesF, rtksL, if_neg (by rw [hne]; decide), if_neg (fun h => by omega), rule_back D A ln r hok.1 h1.1 _ a h1.2 (by omega)]
      show Except.map _ (rulesF D A R n (c + 1) ⟨rtksL (ln + 1) l, a + atoms r.when_⟩) = _
      rw [rules_back D A R l n (c + 1) (ln + 1) (a + atoms r.when_) hok.2 (fun x hx => hb x (List.mem_cons_of_mem _ hx)) (by omega) (by omega) (by omega)]
      rfl
theorem rtks_len : ∀ (l : List RuleP) (ln : Int), l.length ≤ (rtksL ln l).length
  | [], _ => Nat.le_refl _
  | r :: l, ln => by
    rw [rtksL, List.length_append, List.length_cons]
    have := rtk_pos ln r
    have := rtks_len l (ln + 1)
    omega
theorem policy_back (D A R : Nat) (l : List RuleP) (hok : textOk l = true) (hb : ∀ r ∈ l, bits r.when_ ∧ bd r.when_ ≤ D) (ha : atomsR l ≤ A) (hR : l.length ≤ R) :
    Lx.go (textsL l) 1 = .ok (rtksL 1 l) ∧ rules D A R (rtksL 1 l) = .ok (lines 1 l) :=
  ⟨go_rtexts l 1 hok, rules_back D A R l _ 0 1 0 hok hb (by omega) (by omega) (by have := rtks_len l 1; omega)⟩
/-! The same ones, and unlike ones. -/
theorem sameB_eq {a b : Nat} (ha : a < 18446744073709551616) (hb : b < 18446744073709551616) (hn : Fp.nanB a = false) (h : sameB a b = true) : a = b := by
  rcases Fp.kinds ha with ⟨_, k⟩ | ⟨_, s, v, hv, rfl⟩
  · rw [k] at hn; cases hn
  · rcases Fp.kinds hb with ⟨_, k⟩ | ⟨_, t, w, hw, rfl⟩
    · rw [Fp.sameB_mixed (by rw [k, hn]; decide)] at h; cases h
    · rw [Fp.sameB_fl hv hw, decide_eq_true_eq] at h; exact h
theorem nan_tOk {b : Nat} (h : tOk b = true) : Fp.nanB b = false := by
  unfold tOk at h
  simp only [Bool.and_eq_true, Bool.not_eq_true'] at h
  exact h.1
theorem nan_plain {b : Nat} (hb : b < 18446744073709551616) (h : plain b = true) : Fp.nanB b = false := by
  obtain rfl := plain_zero hb h
  have e0 : (0 : Nat) = Fp.fl false 0 := by rfl
  rw [e0]
  exact Fp.nanB_fl (Fp.ex_un (n := 0) (by decide) |> fun h => by rw [Nat.zero_mul] at h; exact h)
theorem nan_right {k f : Int} {r : List (Int × Int)} {l h : Nat} {o : List ExprP} (hl : l < 18446744073709551616) (hh : h < 18446744073709551616) (hr : right (.mk k f r l h o) = true) : Fp.nanB l = false ∧ Fp.nanB h = false := by
  by_cases k1 : k = 1
  · rw [right, if_pos k1] at hr
    unfold atomR at hr
    simp only [Bool.and_eq_true, decide_eq_true_eq, beq_iff_eq] at hr
    obtain ⟨_, _, _, hr⟩ := hr
    by_cases h6 : f = 6
    · rw [if_pos h6] at hr
      simp only [Bool.and_eq_true] at hr
      exact ⟨nan_tOk hr.2.1, nan_tOk hr.2.2⟩
    · rw [if_neg h6] at hr
      simp only [Bool.and_eq_true] at hr
      exact ⟨nan_plain hl hr.2.2.1, nan_plain hh hr.2.2.2⟩
  · obtain ⟨_, _, p1, p2, _, _⟩ := right_out hr k1
    exact ⟨nan_plain hl p1, nan_plain hh p2⟩
theorem right_of {e : ExprP} (hr : right e = true) : rightL (of e) = true := by
  obtain ⟨k, f, r, l, h, o⟩ := e
  show rightL o = true
  by_cases k1 : k = 1
  · rw [right, if_pos k1] at hr
    unfold atomR at hr
    simp only [Bool.and_eq_true, beq_iff_eq] at hr
    rw [List.eq_nil_of_length_eq_zero hr.1]; rfl
  · exact (right_out hr k1).2.2.2.2.2
theorem same_eq_all : ∀ N : Nat,
    (∀ e e', dp e ≤ N → right e = true → bits e → bits e' → same e e' = true → e = e') ∧
    (∀ l l', dpL l ≤ N → rightL l = true → bitsL l → bitsL l' → sameL l l' = true → l = l') := by
  intro N
  induction N with
  | zero =>
    refine ⟨fun e e' h => absurd (Tr.dp_pos e) (by omega), fun l l' h => ?_⟩
    cases l with
    | nil =>
      intro _ _ _ hs
      cases l' with
      | nil => rfl
      | cons b m => rw [sameL] at hs; cases hs
    | cons e l => rw [dpL] at h; have := Tr.dp_pos e; omega
  | succ N ih =>
    have h1 : ∀ e e', dp e ≤ N + 1 → right e = true → bits e → bits e' → same e e' = true → e = e' := by
      intro e e' hd hr hb hb' hs
      have ho := right_of hr
      obtain ⟨k, f, r, l, h, o⟩ := e
      obtain ⟨k', f', r', l', h', o'⟩ := e'
      rw [dp] at hd
      rw [bits] at hb hb'
      rw [same] at hs
      simp only [Bool.and_eq_true, beq_iff_eq, decide_eq_true_eq] at hs
      obtain ⟨rfl, rfl, rfl, s1, s2, s3⟩ := hs
      obtain ⟨n1, n2⟩ := nan_right hb.1.1 hb.1.2 hr
      obtain rfl := sameB_eq hb.1.1 hb'.1.1 n1 s1
      obtain rfl := sameB_eq hb.1.2 hb'.1.2 n2 s2
      obtain rfl := ih.2 o o' (by omega) ho hb.2 hb'.2 s3
      rfl
    refine ⟨h1, fun l => ?_⟩
    induction l with
    | nil =>
      intro l' _ _ _ _ hs
      cases l' with
      | nil => rfl
      | cons b m => rw [sameL] at hs; cases hs
    | cons e l il =>
      intro l' hd hr hb hb' hs
      cases l' with
      | nil => rw [sameL] at hs; cases hs
      | cons e' l' =>
        rw [dpL] at hd
        rw [rightL] at hr
        rw [bitsL] at hb hb'
        rw [sameL] at hs
        simp only [Bool.and_eq_true] at hr hs
        rw [h1 e e' (by omega) hr.1.2 hb.1 hb'.1 hs.1, il l' (by omega) hr.2 hb.2 hb'.2 hs.2]
theorem same_eq {e e' : ExprP} (hr : right e = true) (hb : bits e) (hb' : bits e') (h : same e e' = true) : e = e' := (same_eq_all _).1 e e' (Nat.le_refl _) hr hb hb' h
theorem same_refl_all : ∀ N : Nat, (∀ e, dp e ≤ N → bits e → same e e = true) ∧ (∀ l, dpL l ≤ N → bitsL l → sameL l l = true) := by
  intro N
  induction N with
  | zero =>
    refine ⟨fun e h => absurd (Tr.dp_pos e) (by omega), fun l h => ?_⟩
    cases l with
    | nil => intro _; rw [sameL]
    | cons e l => rw [dpL] at h; have := Tr.dp_pos e; omega
  | succ N ih =>
    have h1 : ∀ e, dp e ≤ N + 1 → bits e → same e e = true := by
      intro e hd hb
      obtain ⟨k, f, r, l, h, o⟩ := e
      rw [dp] at hd
      rw [bits] at hb
      rw [same, ih.2 o (by omega) hb.2, Fp.sameB_self hb.1.1, Fp.sameB_self hb.1.2]
      simp
    refine ⟨h1, fun l => ?_⟩
    induction l with
    | nil => intro _ _; rw [sameL]
    | cons e l il =>
      intro hd hb
      rw [dpL] at hd
      rw [bitsL] at hb
      rw [sameL, h1 e (by omega) hb.1, il (by omega) hb.2]; rfl
theorem same_refl {e : ExprP} (hb : bits e) : same e e = true := (same_refl_all _).1 e (Nat.le_refl _) hb
theorem rules_len : ∀ {l m : List RuleP}, Tr.rules l m = true → l.length = m.length
  | [], [], _ => rfl
  | a :: l, b :: m, h => by
    rw [Tr.rules, Bool.and_eq_true] at h
    rw [List.length_cons, List.length_cons, rules_len h.2]
  | [], b :: m, h => by cases h
  | a :: l, [], h => by cases h
theorem rule1_out {a b : RuleP} (h : rule1 a b = true) : a.allow = b.allow ∧ a.num = b.num ∧ a.per = b.per ∧ a.burst = b.burst ∧ same a.when_ b.when_ = true := by
  unfold rule1 at h
  simp only [Bool.and_eq_true, beq_iff_eq] at h
  exact ⟨h.1, h.2.1.1, h.2.1.2.1, h.2.1.2.2, h.2.2⟩
/-- The same rules are those of the other list, but for their lines. -/
theorem rules_eq : ∀ (l m : List RuleP) (ln : Int), textOk l = true → (∀ r ∈ l, bits r.when_) → (∀ r ∈ m, bits r.when_) → Tr.rules l m = true → lines ln l = lines ln m
  | [], [], _, _, _, _, _ => rfl
  | a :: l, b :: m, ln, hok, hl, hm, h => by
    unfold textOk at hok
    rw [List.all_cons, Bool.and_eq_true] at hok
    rw [Tr.rules, Bool.and_eq_true] at h
    obtain ⟨e1, e2, e3, e4, e5⟩ := rule1_out h.1
    have hr : right a.when_ = true := by
      have := hok.1
      unfold ruleR at this
      rw [Bool.and_eq_true] at this
      exact this.1
    have e6 := same_eq hr (hl a (List.mem_cons_self ..)) (hm b (List.mem_cons_self ..)) e5
    rw [lines, lines, rules_eq l m (ln + 1) hok.2 (fun x hx => hl x (List.mem_cons_of_mem _ hx)) (fun x hx => hm x (List.mem_cons_of_mem _ hx)) h.2]
    congr 1
    unfold atLine
    rw [e1, e2, e3, e4, e6]
  | [], b :: m, _, _, _, _, h => by cases h
  | a :: l, [], _, _, _, _, h => by cases h
theorem lines_rules : ∀ (l m : List RuleP) (ln : Int), (∀ r ∈ l, bits r.when_) → lines ln l = lines ln m → Tr.rules l m = true
  | [], [], _, _, _ => rfl
  | a :: l, b :: m, ln, hl, h => by
    rw [lines, lines] at h
    injection h with h1 h2
    rw [Tr.rules, lines_rules l m (ln + 1) (fun x hx => hl x (List.mem_cons_of_mem _ hx)) h2]
    have hb := hl a (List.mem_cons_self ..)
    obtain ⟨a1, a2, a3, a4, a5, a6⟩ := a
    obtain ⟨b1, b2, b3, b4, b5, b6⟩ := b
    unfold atLine at h1
    injection h1 with e1 e2 e3 e4 e5 _
    subst e1 e2 e3 e4 e5
    unfold rule1
    rw [same_refl hb]
    simp
  | [], b :: m, _, _, h => by cases h
  | a :: l, [], _, _, h => by cases h
theorem lines_texts : ∀ (l m : List RuleP) (ln : Int), lines ln l = lines ln m → textsL l = textsL m
  | [], [], _, _ => rfl
  | a :: l, b :: m, ln, h => by
    rw [lines, lines] at h
    injection h with h1 h2
    show rtxt a ++ textsL l = rtxt b ++ textsL m
    rw [lines_texts l m (ln + 1) h2]
    congr 1
    obtain ⟨a1, a2, a3, a4, a5, a6⟩ := a
    obtain ⟨b1, b2, b3, b4, b5, b6⟩ := b
    unfold atLine at h1
    injection h1 with e1 e2 e3 e4 e5 _
    subst e1 e2 e3 e4 e5
    rfl
  | [], b :: m, _, h => by cases h
  | a :: l, [], _, h => by cases h
/-- The most of bounds on all of a list. -/
theorem bound_of (l : List RuleP) : ∃ D, ∀ r ∈ l, bd r.when_ ≤ D := by
  induction l with
  | nil => exact ⟨0, fun r h => by cases h⟩
  | cons a l ih =>
    obtain ⟨D, h⟩ := ih
    refine ⟨max (bd a.when_) D, fun r hr => ?_⟩
    rcases List.mem_cons.1 hr with rfl | hr
    · exact Nat.le_max_left _ _
    · exact Nat.le_trans (h r hr) (Nat.le_max_right _ _)
/-- Unlike policies have unlike texts, and the same ones one. -/
theorem unlike (l m : List RuleP) (hl : textOk l = true) (hm : textOk m = true) (bl : ∀ r ∈ l, bits r.when_) (bm : ∀ r ∈ m, bits r.when_) : textsL l = textsL m ↔ Tr.rules l m = true := by
  constructor
  · intro h
    obtain ⟨D1, d1⟩ := bound_of l
    obtain ⟨D2, d2⟩ := bound_of m
    have h1 := policy_back (max D1 D2) (max (atomsR l) (atomsR m)) (max l.length m.length) l hl (fun r hr => ⟨bl r hr, Nat.le_trans (d1 r hr) (Nat.le_max_left _ _)⟩) (Nat.le_max_left _ _) (Nat.le_max_left _ _)
    have h2 := policy_back (max D1 D2) (max (atomsR l) (atomsR m)) (max l.length m.length) m hm (fun r hr => ⟨bm r hr, Nat.le_trans (d2 r hr) (Nat.le_max_right _ _)⟩) (Nat.le_max_right _ _) (Nat.le_max_right _ _)
    have e1 : rtksL 1 l = rtksL 1 m := by
      have := h1.1.symm.trans ((congrArg (fun x => Lx.go x 1) h).trans h2.1)
      injection this
    have e2 : lines 1 l = lines 1 m := by
      have := h1.2.symm.trans ((congrArg (rules _ _ _) e1).trans h2.2)
      injection this
    exact lines_rules l m 1 bl e2
  · intro h
    exact lines_texts l m 1 (rules_eq l m 1 hl bl bm h)
end Go.Proofs.YtmcgflpgkkophaaGreatDoor.Pa
