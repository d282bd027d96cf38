/- Readings in plain words; what is read may be; texts, two behind one another, blanks, nots and brackets: five parts. Conditions: as each part says. -/
import Derived.Test.YtmcgflpgkkophaaGreatDoorPaD
/- Readings in plain words: what is left is of the tokens; more tokens behind, more atoms ahead, other lines change nothing else. Conditions: none. -/
namespace Go.Proofs.YtmcgflpgkkophaaGreatDoor.Pa
set_option linter.unusedVariables false
open Go.RowKit
/-- The same tokens, but for their lines. -/
def Like (T T' : List TokP) : Prop := T.map (Lx.at_ 0) = T'.map (Lx.at_ 0)
theorem Like.refl (T : List TokP) : Like T T := rfl
theorem isW_like {t : List UInt8} {T T' : List TokP} (h : Like T T') : isW t T' = isW t T := by
  have e : ∀ T, isW t (T.map (Lx.at_ 0)) = isW t T := fun T => by cases T <;> rfl
  rw [← e T, ← e T', h]
theorem Like.tail {T T' : List TokP} (h : Like T T') : Like T.tail T'.tail := by
  unfold Like at h ⊢
  rw [List.map_tail, List.map_tail, h]
theorem Like.cons {k : TokP} {l T' : List TokP} (h : Like (k :: l) T') : ∃ k' l', T' = k' :: l' ∧ k'.kind = k.kind ∧ k'.text = k.text ∧ k'.num = k.num ∧ Like l l' := by
  cases T' with
  | nil => cases h
  | cons k' l' =>
    unfold Like at h
    rw [List.map_cons, List.map_cons] at h
    injection h with h1 h2
    refine ⟨k', l', rfl, ?_, ?_, ?_, h2⟩
    · exact (congrArg TokP.kind h1).symm
    · exact (congrArg TokP.text h1).symm
    · exact (congrArg TokP.num h1).symm
theorem Like.app {T T' S S' : List TokP} (h : Like T T') (h' : Like S S') : Like (T ++ S) (T' ++ S') := by
  unfold Like at h h' ⊢
  rw [List.map_append, List.map_append, h, h']
theorem Like.nil {T' : List TokP} (h : Like [] T') : T' = [] := by
  cases T' with
  | nil => rfl
  | cons a l => cases h
theorem isW_app (t : List UInt8) {T : List TokP} (h : T ≠ []) (m : List TokP) : isW t (T ++ m) = isW t T := by
  cases T with
  | nil => exact absurd rfl h
  | cons a l => rfl
structure Nice {α : Type} (p : Rd α) : Prop where
  suf : ∀ s v s', p s = .ok (v, s') → s'.toks <:+ s.toks
  ext : ∀ s v s' m, p s = .ok (v, s') → s'.toks ≠ [] → p ⟨s.toks ++ m, s.atoms⟩ = .ok (v, ⟨s'.toks ++ m, s'.atoms⟩)
  off : ∀ s v s' d, p s = .ok (v, s') → p ⟨s.toks, s.atoms + d⟩ = .ok (v, ⟨s'.toks, s'.atoms + d⟩) ∨ ∃ ln, p ⟨s.toks, s.atoms + d⟩ = .error (ln, 9)
  any : ∀ s v s' T, p s = .ok (v, s') → Like s.toks T → ∃ T', Like s'.toks T' ∧ p ⟨T, s.atoms⟩ = .ok (v, ⟨T', s'.atoms⟩)
theorem suf_ne {T T' : List TokP} (h : T' <:+ T) (h' : T' ≠ []) : T ≠ [] := fun e => by
  subst e
  exact h' (List.suffix_nil.1 h)
theorem Nice.ret {α : Type} (a : α) : Nice (fun s => (.ok (a, s) : Except (Int × Int) (α × PSt))) where
  suf s v s' h := by cases h; exact List.suffix_refl _
  ext s v s' m h hn := by cases h; rfl
  off s v s' d h := by cases h; exact .inl rfl
  any s v s' T h hl := by cases h; exact ⟨T, hl, rfl⟩
theorem Nice.fail {α : Type} (e : Int) : Nice (failAt e : Rd α) where
  suf s v s' h := (fail_not h).elim
  ext s v s' m h hn := (fail_not h).elim
  off s v s' d h := (fail_not h).elim
  any s v s' T h hl := (fail_not h).elim
theorem Nice.bnd {α β : Type} {p : Rd α} {f : α → Rd β} (hp : Nice p) (hf : ∀ a, Nice (f a)) : Nice (fun s => Pa.bnd (p s) f) where
  suf s v s' h := by
    obtain ⟨a, s1, h1, h2⟩ := bnd_out h
    exact ((hf a).suf _ _ _ h2).trans (hp.suf _ _ _ h1)
  ext s v s' m h hn := by
    obtain ⟨a, s1, h1, h2⟩ := bnd_out h
    have h3 := (hf a).ext _ _ _ m h2 hn
    show Pa.bnd (p _) f = _
    rw [hp.ext _ _ _ m h1 (suf_ne ((hf a).suf _ _ _ h2) hn), bnd_ok]
    exact h3
  off s v s' d h := by
    obtain ⟨a, s1, h1, h2⟩ := bnd_out h
    rcases hp.off _ _ _ d h1 with h3 | ⟨ln, h3⟩
    · rcases (hf a).off _ _ _ d h2 with h4 | ⟨ln, h4⟩
      · left
        show Pa.bnd (p _) f = _
        rw [h3, bnd_ok]; exact h4
      · right
        refine ⟨ln, ?_⟩
        show Pa.bnd (p _) f = _
        rw [h3, bnd_ok]; exact h4
    · right
      refine ⟨ln, ?_⟩
      show Pa.bnd (p _) f = _
      rw [h3, bnd_err]
  any s v s' T h hl := by
    obtain ⟨a, s1, h1, h2⟩ := bnd_out h
    obtain ⟨T1, l1, h3⟩ := hp.any _ _ _ T h1 hl
    obtain ⟨T2, l2, h4⟩ := (hf a).any _ _ _ T1 h2 l1
    refine ⟨T2, l2, ?_⟩
    show Pa.bnd (p _) f = _
    rw [h3, bnd_ok]; exact h4
theorem tail_suf (T : List TokP) : T.tail <:+ T := List.tail_suffix T
theorem Nice.ite {α : Type} (t : List UInt8) {p q : Rd α} (hp : Nice p) (hq : Nice q) : Nice (fun s => if isW t s.toks then p (adv s) else q s) where
  suf s v s' h := by
    split at h
    · exact (hp.suf _ _ _ h).trans (tail_suf s.toks)
    · exact hq.suf _ _ _ h
  ext s v s' m h hn := by
    by_cases hw : isW t s.toks = true
    · rw [if_pos hw] at h
      have hne : s.toks ≠ [] := fun e => by rw [e] at hw; cases hw
      show (if isW t (s.toks ++ m) = true then _ else _) = _
      rw [isW_app t hne, if_pos hw]
      have := hp.ext _ _ _ m h hn
      obtain ⟨T, a⟩ := s
      cases T with
      | nil => exact absurd rfl hne
      | cons k l => exact this
    · rw [if_neg hw] at h
      show (if isW t (s.toks ++ m) = true then _ else _) = _
      rw [isW_app t (suf_ne (hq.suf _ _ _ h) hn), if_neg hw]
      exact hq.ext _ _ _ m h hn
  off s v s' d h := by
    by_cases hw : isW t s.toks = true
    · rw [if_pos hw] at h
      rw [if_pos hw]; exact hp.off _ _ _ d h
    · rw [if_neg hw] at h
      rw [if_neg hw]; exact hq.off _ _ _ d h
  any s v s' T h hl := by
    by_cases hw : isW t s.toks = true
    · rw [if_pos hw] at h
      show ∃ T', _ ∧ (if isW t T = true then _ else _) = _
      rw [isW_like hl, if_pos hw]; exact hp.any (adv s) v s' T.tail h hl.tail
    · rw [if_neg hw] at h
      show ∃ T', _ ∧ (if isW t T = true then _ else _) = _
      rw [isW_like hl, if_neg hw]; exact hq.any _ _ _ T h hl
def optR {α : Type} (o : Option α) (e : Int) : Rd α := fun s => match o with
  | some v => .ok (v, adv s)
  | none => failAt e s
def tokR {α : Type} (g : Int → ByteArray → Int → Option α) (e : Int) : Rd α := fun s => match s.toks with
  | [] => failAt e s
  | k :: _ => optR (g k.kind k.text k.num) e s
/-- A reading of one token, by its kind, its text and its number alone. -/
theorem Nice.tok {α : Type} (g : Int → ByteArray → Int → Option α) (e : Int) {p : Rd α} (hp : ∀ s, p s = tokR g e s) : Nice p := by
  have out : ∀ s v s', p s = .ok (v, s') → ∃ k l, s.toks = k :: l ∧ g k.kind k.text k.num = some v ∧ s' = ⟨l, s.atoms⟩ := fun s v s' h => by
    rw [hp] at h
    obtain ⟨T, a⟩ := s
    cases T with
    | nil => exact (fail_not h).elim
    | cons k l =>
      have h : optR (g k.kind k.text k.num) e ⟨k :: l, a⟩ = .ok (v, s') := h
      cases hg : g k.kind k.text k.num with
      | none => rw [hg] at h; exact (fail_not h).elim
      | some u =>
        rw [hg] at h
        injection h with h; injection h with h1 h2
        subst h1 h2
        exact ⟨k, l, rfl, hg, rfl⟩
  have into : ∀ k l a v, g k.kind k.text k.num = some v → p ⟨k :: l, a⟩ = .ok (v, ⟨l, a⟩) := fun k l a v hg => by
    rw [hp]
    show optR (g k.kind k.text k.num) e _ = _
    rw [hg]; rfl
  refine ⟨fun s v s' h => ?_, fun s v s' m h hn => ?_, fun s v s' d h => ?_, fun s v s' T h hl => ?_⟩
  · obtain ⟨k, l, h1, h2, rfl⟩ := out _ _ _ h
    rw [h1]; exact tail_suf (k :: l)
  · obtain ⟨k, l, h1, h2, rfl⟩ := out _ _ _ h
    rw [h1]; exact into k (l ++ m) _ v h2
  · obtain ⟨k, l, h1, h2, rfl⟩ := out _ _ _ h
    rw [h1]; exact .inl (into k l _ v h2)
  · obtain ⟨k, l, h1, h2, rfl⟩ := out _ _ _ h
    rw [h1] at hl
    obtain ⟨k', l', rfl, e1, e2, e3, hl'⟩ := hl.cons
    exact ⟨l', hl', into k' l' _ v (by rw [e1, e2, e3]; exact h2)⟩
theorem num_nice : Nice num := Nice.tok (fun k _ n => if k = 2 then some n else none) 7 fun s => by
  obtain ⟨T, a⟩ := s
  cases T with
  | nil => rfl
  | cons k l =>
    show (if k.kind = 2 then Except.ok (k.num, adv ⟨k :: l, a⟩) else failAt 7 ⟨k :: l, a⟩) = optR (if k.kind = 2 then some k.num else none) 7 ⟨k :: l, a⟩
    by_cases hk : k.kind = 2
    · rw [if_pos hk, if_pos hk]; rfl
    · rw [if_neg hk, if_neg hk]; rfl
theorem perR_nice : Nice perR := Nice.tok (fun k _ n => if k = 2 ∧ ¬ n = 0 then some n else none) 7 fun s => by
  obtain ⟨T, a⟩ := s
  cases T with
  | nil => rfl
  | cons k l =>
    show (if k.kind = 2 ∧ ¬ k.num = 0 then Except.ok (k.num, adv ⟨k :: l, a⟩) else failAt 7 ⟨k :: l, a⟩) = optR (if k.kind = 2 ∧ ¬ k.num = 0 then some k.num else none) 7 ⟨k :: l, a⟩
    by_cases hk : k.kind = 2 ∧ ¬ k.num = 0
    · rw [if_pos hk, if_pos hk]; rfl
    · rw [if_neg hk, if_neg hk]; rfl
theorem mustR_nice (t : List UInt8) : Nice (mustR t) := Nice.ite t (Nice.ret ()) (Nice.fail 7)
theorem boundS_nice (sg : Bool) : Nice (boundS sg) := by
  have h : Nice (fun s => bnd (num s) fun _ s2 => (.ok (Re.rdF (sgn sg ++ headText s.toks), s2) : Except (Int × Int) (Nat × PSt))) :=
    Nice.tok (fun k t _ => if k = 2 then some (Re.rdF (sgn sg ++ bl t)) else none) 7 fun s => by
      obtain ⟨T, a⟩ := s
      cases T with
      | nil => rfl
      | cons k l =>
        show bnd (if k.kind = 2 then Except.ok (k.num, adv ⟨k :: l, a⟩) else failAt 7 ⟨k :: l, a⟩) _ = optR (if k.kind = 2 then some (Re.rdF (sgn sg ++ bl k.text)) else none) 7 ⟨k :: l, a⟩
        by_cases hk : k.kind = 2
        · rw [if_pos hk, if_pos hk, bnd_ok]; rfl
        · rw [if_neg hk, if_neg hk]; rfl
  exact Nice.ite Re.infL (Nice.ret _) h
theorem bound_nice : Nice bound := Nice.ite [45] (boundS_nice true) (boundS_nice false)
theorem range_nice : Nice range := Nice.bnd num_nice fun a => Nice.ite [45] (Nice.bnd num_nice fun b => Nice.ret (a, b)) (Nice.ret (a, a))
theorem sepF_nice {α : Type} {p : Rd α} (hp : Nice p) (t : List UInt8) : ∀ n, Nice (sepF p t n)
  | 0 => Nice.fail 7
  | n + 1 => Nice.bnd hp fun a => Nice.ite t (Nice.bnd (sepF_nice hp t n) fun l => Nice.ret (a :: l)) (Nice.ret [a])
theorem Nice.down {α : Type} {p : Rd α} (hp : Nice p) : Down p := fun s a s' h => (hp.suf s a s' h).length_le
theorem like_len {T T' : List TokP} (h : Like T T') : T.length = T'.length := by
  have := congrArg List.length h
  simpa using this
theorem sepF_mono {α : Type} (p : Rd α) (t : List UInt8) : ∀ (n m : Nat) (s : PSt) (x : List α × PSt), n ≤ m → sepF p t n s = .ok x → sepF p t m s = .ok x
  | 0, _, s, x, _, h => by cases h
  | n + 1, 0, s, x, hm, _ => absurd hm (by omega)
  | n + 1, m + 1, s, (l, s'), hm, h => by
    obtain ⟨a, s1, h1, h2⟩ := bnd_out h
    show bnd (p s) _ = _
    rw [h1, bnd_ok]
    by_cases hw : isW t s1.toks = true
    · rw [if_pos hw] at h2 ⊢
      obtain ⟨r, s2, h3, h4⟩ := bnd_out h2
      rw [sepF_mono p t n m _ _ (by omega) h3, bnd_ok]
      exact h4
    · rw [if_neg hw] at h2 ⊢; exact h2
theorem sep_nice {α : Type} {p : Rd α} (hp : Nice p) (t : List UInt8) : Nice (sep p t) where
  suf s v s' h := (sepF_nice hp t _).suf _ _ _ h
  ext s v s' m h hn := by
    have h1 := (sepF_nice hp t _).ext _ _ _ m h hn
    exact sepF_mono p t _ _ _ _ (by show s.toks.length + 1 ≤ (s.toks ++ m).length + 1; rw [List.length_append]; omega) h1
  off s v s' d h := (sepF_nice hp t _).off _ _ _ d h
  any s v s' T h hl := by
    obtain ⟨T', l, h1⟩ := (sepF_nice hp t _).any _ _ _ T h hl
    refine ⟨T', l, ?_⟩
    unfold sep
    rw [← like_len hl]; exact h1
theorem atomOf_nice (f : Int) : Nice (atomOf f) := by
  by_cases hf : f = 6
  · have e : atomOf f = fun s => bnd (bound s) fun lo s2 => bnd (mustR wTo s2) fun _ s3 => bnd (bound s3) fun hi s4 => .ok (.mk 1 6 [] lo hi [], s4) := by
      funext s; unfold atomOf; rw [if_pos hf]
    rw [e]
    exact Nice.bnd bound_nice fun lo => Nice.bnd (mustR_nice wTo) fun _ => Nice.bnd bound_nice fun hi => Nice.ret _
  · have e : atomOf f = fun s => bnd (sep range [44] s) fun r s2 => .ok (.mk 1 f r 0 0 [], s2) := by
      funext s; unfold atomOf; rw [if_neg hf]
    rw [e]
    exact Nice.bnd (sep_nice range_nice [44]) fun r => Nice.ret _
theorem headField_app {T : List TokP} (h : T ≠ []) (m : List TokP) : headField (T ++ m) = headField T := by
  cases T with
  | nil => exact absurd rfl h
  | cons a l => rfl
theorem headField_like {T T' : List TokP} (h : Like T T') : headField T' = headField T := by
  have e : ∀ T, headField (T.map (Lx.at_ 0)) = headField T := fun T => by cases T <;> rfl
  rw [← e T, ← e T', h]
theorem atom_out {A : Nat} {s : PSt} {v : ExprP} {s' : PSt} (h : atom A s = .ok (v, s')) : headField s.toks ≠ 0 ∧ s.atoms ≠ A ∧ s.toks ≠ [] ∧ atomOf (headField s.toks) ⟨s.toks.tail, s.atoms + 1⟩ = .ok (v, s') := by
  unfold atom at h
  split at h
  · exact (fail_not h).elim
  · rename_i h1
    split at h
    · exact (fail_not h).elim
    · rename_i h2
      exact ⟨h1, h2, fun e => h1 (by rw [e]; rfl), h⟩
theorem atom_into {A : Nat} {s : PSt} (h1 : headField s.toks ≠ 0) (h2 : s.atoms ≠ A) : atom A s = atomOf (headField s.toks) ⟨s.toks.tail, s.atoms + 1⟩ := by
  unfold atom
  rw [if_neg h1, if_neg h2]
theorem atom_nice (A : Nat) : Nice (atom A) where
  suf s v s' h := by
    obtain ⟨h1, h2, h3, h4⟩ := atom_out h
    exact ((atomOf_nice _).suf _ _ _ h4).trans (tail_suf s.toks)
  ext s v s' m h hn := by
    obtain ⟨h1, h2, h3, h4⟩ := atom_out h
    have h5 := (atomOf_nice _).ext _ _ _ m h4 hn
    rw [atom_into (s := ⟨s.toks ++ m, s.atoms⟩) (by show headField (s.toks ++ m) ≠ 0; rw [headField_app h3]; exact h1) h2]
    show atomOf (headField (s.toks ++ m)) ⟨(s.toks ++ m).tail, _⟩ = _
    rw [headField_app h3, ← h5]
    congr 2
    cases hT : s.toks with
    | nil => exact absurd hT h3
    | cons k l => rfl
  off s v s' d h := by
    obtain ⟨h1, h2, h3, h4⟩ := atom_out h
    by_cases hA : s.atoms + d = A
    · right
      refine ⟨lineOf s.toks, ?_⟩
      unfold atom
      rw [if_neg h1, if_pos hA]; rfl
    · rw [atom_into (s := ⟨s.toks, s.atoms + d⟩) h1 hA]
      have := (atomOf_nice (headField s.toks)).off _ _ _ d h4
      rw [show s.atoms + 1 + d = s.atoms + d + 1 by omega] at this
      exact this
  any s v s' T h hl := by
    obtain ⟨h1, h2, h3, h4⟩ := atom_out h
    rw [atom_into (s := ⟨T, s.atoms⟩) (by show headField T ≠ 0; rw [headField_like hl]; exact h1) h2]
    show ∃ T', _ ∧ atomOf (headField T) _ = _
    rw [headField_like hl]
    exact (atomOf_nice _).any _ _ _ T.tail h4 hl.tail
theorem lst_nice (k : Int) {p : Rd ExprP} (hp : Nice p) (t : List UInt8) : Nice (lst k p t) := Nice.bnd (sep_nice hp t) fun l => Nice.ret _
theorem expr_nice {p : Rd ExprP} (hp : Nice p) : Nice (expr p) := lst_nice 4 (lst_nice 3 hp _) _
/-- A part where none may be opened. -/
theorem part0_nice (A : Nat) : Nice (part A 0) := by
  have e : part A 0 = fun s => if isW wNot s.toks then (fun _ => failAt 8 s) (adv s) else (fun s => if isW [40] s.toks then (fun _ => failAt 8 s) (adv s) else atom A s) s := by
    funext s
    rw [part_zero]
    by_cases h1 : isW wNot s.toks = true
    · simp [h1]
    · by_cases h2 : isW [40] s.toks = true
      · simp [h1, h2]
      · simp [h1, h2]
  have hat : ∀ s v s', part A 0 s = .ok (v, s') → isW wNot s.toks = false ∧ isW [40] s.toks = false ∧ atom A s = .ok (v, s') := fun s v s' h => by
    rw [part_zero] at h
    split at h
    · exact (fail_not h).elim
    · rename_i hw
      rw [Bool.or_eq_true, not_or] at hw
      exact ⟨by simpa using hw.1, by simpa using hw.2, h⟩
  refine ⟨fun s v s' h => ?_, fun s v s' m h hn => ?_, fun s v s' d h => ?_, fun s v s' T h hl => ?_⟩
  · exact (atom_nice A).suf _ _ _ (hat _ _ _ h).2.2
  · obtain ⟨h1, h2, h3⟩ := hat _ _ _ h
    have hne := (atom_out h3).2.2.1
    rw [part_atom A 0 _ (by show isW wNot (s.toks ++ m) = false; rw [isW_app _ hne]; exact h1) (by show isW [40] (s.toks ++ m) = false; rw [isW_app _ hne]; exact h2)]
    exact (atom_nice A).ext _ _ _ m h3 hn
  · obtain ⟨h1, h2, h3⟩ := hat _ _ _ h
    rw [part_atom A 0 ⟨s.toks, s.atoms + d⟩ h1 h2]
    exact (atom_nice A).off _ _ _ d h3
  · obtain ⟨h1, h2, h3⟩ := hat _ _ _ h
    obtain ⟨T', l, h4⟩ := (atom_nice A).any _ _ _ T h3 hl
    exact ⟨T', l, by rw [part_atom A 0 _ (by show isW wNot T = false; rw [isW_like hl]; exact h1) (by show isW [40] T = false; rw [isW_like hl]; exact h2)]; exact h4⟩
theorem part_nice (A : Nat) : ∀ k, Nice (part A k)
  | 0 => part0_nice A
  | k + 1 => Nice.ite wNot (Nice.bnd (part_nice A k) fun e => Nice.ret _) (Nice.ite [40] (Nice.bnd (expr_nice (part_nice A k)) fun e => Nice.bnd (mustR_nice [41]) fun _ => Nice.ret e) (atom_nice A))
theorem headR_nice : Nice headR := Nice.ite _ (Nice.ret true) (Nice.bnd (mustR_nice _) fun _ => Nice.ret false)
theorem whenR_nice (D A : Nat) : Nice (whenR D A) := Nice.ite _ (expr_nice (part_nice A D)) (Nice.ret _)
theorem rateR_nice : Nice rateR := Nice.bnd num_nice fun a => Nice.bnd (mustR_nice _) fun _ => Nice.bnd perR_nice fun b => Nice.bnd (mustR_nice _) fun _ => Nice.bnd num_nice fun c => Nice.ret _
theorem rateO_nice : Nice rateO := Nice.ite _ rateR_nice (Nice.ret _)
/-- A rule but for its line. -/
def ruleB (D A : Nat) : Rd RuleP := fun s => bnd (headR s) fun al s1 => bnd (whenR D A s1) fun e s2 => bnd (rateO s2) fun q s3 => bnd (mustR [59] s3) fun _ s4 => .ok (⟨al, e, q.1, q.2.1, q.2.2, 0⟩, s4)
theorem ruleB_nice (D A : Nat) : Nice (ruleB D A) := Nice.bnd headR_nice fun al => Nice.bnd (whenR_nice D A) fun e => Nice.bnd rateO_nice fun q => Nice.bnd (mustR_nice _) fun _ => Nice.ret _
theorem rule_B (D A : Nat) (s : PSt) : rule D A s = bnd (ruleB D A s) fun r s' => .ok (atLine (lineOf s.toks) r, s') := by
  unfold rule ruleB
  cases headR s with
  | error e => rfl
  | ok x =>
    obtain ⟨al, s1⟩ := x
    rw [bnd_ok, bnd_ok]
    cases whenR D A s1 with
    | error e => rfl
    | ok x =>
      obtain ⟨e, s2⟩ := x
      rw [bnd_ok, bnd_ok]
      cases rateO s2 with
      | error e => rfl
      | ok x =>
        obtain ⟨q, s3⟩ := x
        rw [bnd_ok, bnd_ok]
        cases mustR [59] s3 with
        | error e => rfl
        | ok x => rfl
end Go.Proofs.YtmcgflpgkkophaaGreatDoor.Pa
/- What is read may be, is no deeper, and of no more, than is read; its text is short: plain words. Conditions: the tokens are such as a text has. -/
namespace Go.Proofs.YtmcgflpgkkophaaGreatDoor.Pa
set_option linter.unusedVariables false
open Go.RowKit
open Tr (kind field rs lo hi of dp dpL right rightL must range1 rng rangesR numR atomR manyR plain txt txtL brack inner atoms atomsL same sameL ruleR textOk textsL rtxt rule1)
open Re (tOk tL vOf sizeOk sizeL)
/-- Numbers' tokens are such as a text has. -/
def TokG (T : List TokP) : Prop := ∀ k ∈ T, k.kind = 2 → Gu.getOk (bl k.text) = true ∧ k.num = Gu.getN (bl k.text)
theorem TokG.suf {T T' : List TokP} (h : TokG T) (hs : T' <:+ T) : TokG T' := fun k hk => h k (hs.subset hk)
theorem TokG.tail {T : List TokP} (h : TokG T) : TokG T.tail := h.suf (tail_suf T)
theorem TokG.app {T S : List TokP} (h : TokG T) (h' : TokG S) : TokG (T ++ S) := fun k hk => by
  rcases List.mem_append.1 hk with hk | hk
  · exact h k hk
  · exact h' k hk
theorem good_num {k : TokP} (h : Lx.good k) (h2 : k.kind = 2) : Gu.getOk (bl k.text) = true ∧ k.num = Gu.getN (bl k.text) := by
  obtain ⟨_, c, t, ht, hc, hp⟩ := h
  have hk : (Lx.at_ 0 k).kind = 2 := h2
  have hte : bl k.text = c :: t := by rw [ht]; rfl
  have hnum : (Lx.at_ 0 k).num = k.num := rfl
  unfold Lx.piece at hp
  split at hp
  · injection hp with hp; injection hp with h3 h4
    rw [← h4] at hk; cases hk
  · split at hp
    · split at hp
      · rename_i _ _ hg
        injection hp with hp; injection hp with h3 h4
        rw [h3, List.take_length] at hg h4
        rw [hte, ← hnum, ← h4]
        exact ⟨hg, rfl⟩
      · cases hp
    · repeat' (split at hp)
      all_goals first | cases hp; done | (injection hp with hp; injection hp with h3 h4; rw [← h4] at hk; cases hk; done)
theorem go_tokG {l : List UInt8} {ln : Int} {T : List TokP} (h : Lx.go l ln = .ok T) : TokG T := fun k hk => good_num (Lx.go_good _ l ln T (Nat.le_refl _) h k hk)
theorem like_tokG {T T' : List TokP} (h : TokG T) (hl : Like T T') : TokG T' := by
  intro k hk h2
  have hm : Lx.at_ 0 k ∈ T'.map (Lx.at_ 0) := List.mem_map_of_mem hk
  rw [← hl] at hm
  obtain ⟨k', hk', he⟩ := List.mem_map.1 hm
  have e1 : (Lx.at_ 0 k').kind = (Lx.at_ 0 k).kind := congrArg TokP.kind he
  have e2 : (Lx.at_ 0 k').text = (Lx.at_ 0 k).text := congrArg TokP.text he
  have e3 : (Lx.at_ 0 k').num = (Lx.at_ 0 k).num := congrArg TokP.num he
  change k'.kind = k.kind at e1
  change k'.text = k.text at e2
  change k'.num = k.num at e3
  have := h k' hk' (e1.trans h2)
  rw [e2, e3] at this
  exact this
mutual
def sz : ExprP → Nat
  | .mk _ _ r _ _ o => 1 + r.length + szL o
def szL : List ExprP → Nat
  | [] => 0
  | e :: l => sz e + szL l
end
theorem sz_pos (e : ExprP) : 1 ≤ sz e := by cases e; rw [sz]; omega
theorem num_out {s : PSt} {n : Int} {s' : PSt} (h : num s = .ok (n, s')) (hg : TokG s.toks) : numR n = true ∧ s'.atoms = s.atoms ∧ s'.toks.length + 1 = s.toks.length ∧ TokG s'.toks ∧ Gu.getOk (headText s.toks) = true := by
  obtain ⟨T, a⟩ := s
  cases T with
  | nil => exact (fail_not h).elim
  | cons k l =>
    have h : (if k.kind = 2 then Except.ok (k.num, (⟨l, a⟩ : PSt)) else failAt 7 ⟨k :: l, a⟩) = .ok (n, s') := h
    by_cases hk : k.kind = 2
    · rw [if_pos hk] at h
      injection h with h; injection h with h1 h2
      subst h1 h2
      have h3 := hg k (List.mem_cons_self ..) hk
      refine ⟨?_, rfl, rfl, hg.tail, ?_⟩
      · rw [h3.2]
        have := Gu.getN_range (bl k.text)
        exact Gu.inR_mk this.1 this.2
      · exact h3.1
    · rw [if_neg hk] at h; exact (fail_not h).elim
theorem read_tok {w : List UInt8} (h : Re.rOk w = true) (sg : Bool) : tOk (Re.rdF (sgn sg ++ w)) = true ∧ Re.rdF (sgn sg ++ w) < 18446744073709551616 := by
  refine ⟨?_, Re.rdF_lt _⟩
  have hx := Re.ex_rV w
  cases sg
  · show tOk (Re.rdF w) = true
    rw [(Re.read_pos h).2, Re.tOk_fl _ hx]
    exact (Re.read_size h).1
  · show tOk (Re.rdF (45 :: w)) = true
    rw [(Re.read_neg h).2, Re.tOk_fl _ hx]
    exact (Re.read_size h).1
theorem boundS_out {sg : Bool} {s : PSt} {b : Nat} {s' : PSt} (h : boundS sg s = .ok (b, s')) (hg : TokG s.toks) : (tOk b = true ∧ b < 18446744073709551616) ∧ s'.atoms = s.atoms ∧ s'.toks.length + 1 = s.toks.length ∧ TokG s'.toks := by
  unfold boundS at h
  split at h
  · rename_i hw
    injection h with h; injection h with h1 h2
    subst h1 h2
    exact ⟨read_tok Re.rOk_inf sg, rfl, isW_pos hw, hg.tail⟩
  · obtain ⟨n, s2, h1, h2⟩ := bnd_out h
    obtain ⟨_, e2, e3, e4, e5⟩ := num_out h1 hg
    injection h2 with h2; injection h2 with h2 h3
    subst h2 h3
    refine ⟨read_tok ?_ sg, e2, e3, e4⟩
    unfold Re.rOk
    rw [e5, Bool.or_true]
theorem bound_out {s : PSt} {b : Nat} {s' : PSt} (h : bound s = .ok (b, s')) (hg : TokG s.toks) : (tOk b = true ∧ b < 18446744073709551616) ∧ s'.atoms = s.atoms ∧ s'.toks.length + 1 ≤ s.toks.length ∧ TokG s'.toks := by
  unfold bound at h
  split at h
  · rename_i hw
    obtain ⟨h1, h2, h3, h4⟩ := boundS_out h hg.tail
    have := isW_pos hw
    exact ⟨h1, h2, by have : (adv s).toks.length = s.toks.tail.length := rfl; omega, h4⟩
  · obtain ⟨h1, h2, h3, h4⟩ := boundS_out h hg
    exact ⟨h1, h2, by omega, h4⟩
theorem mustR_out {t : List UInt8} {s : PSt} {u : Unit} {s' : PSt} (h : mustR t s = .ok (u, s')) : s'.atoms = s.atoms ∧ s'.toks.length + 1 = s.toks.length ∧ s'.toks = s.toks.tail := by
  unfold mustR at h
  split at h
  · rename_i hw
    injection h with h; injection h with _ h; subst h
    exact ⟨rfl, isW_pos hw, rfl⟩
  · exact (fail_not h).elim
theorem range_out {s : PSt} {p : Int × Int} {s' : PSt} (h : range s = .ok (p, s')) (hg : TokG s.toks) : (numR p.1 && numR p.2) = true ∧ s'.atoms = s.atoms ∧ s'.toks.length + 1 ≤ s.toks.length ∧ TokG s'.toks := by
  obtain ⟨a, s1, h1, h2⟩ := bnd_out h
  obtain ⟨n1, n2, n3, n4, _⟩ := num_out h1 hg
  split at h2
  · rename_i hw
    obtain ⟨b, s2, h3, h4⟩ := bnd_out h2
    obtain ⟨m1, m2, m3, m4, _⟩ := num_out h3 n4.tail
    injection h4 with h4; injection h4 with h4 h5
    subst h4 h5
    have := isW_pos hw
    exact ⟨by simp [n1, m1], by rw [m2]; exact n2, by have : (adv s1).toks.length = s1.toks.tail.length := rfl; omega, m4⟩
  · injection h2 with h2; injection h2 with h2 h3
    subst h2 h3
    exact ⟨by simp [n1], n2, by omega, n4⟩
theorem ranges_out : ∀ (n : Nat) {s : PSt} {l : List (Int × Int)} {s' : PSt}, sepF range [44] n s = .ok (l, s') → TokG s.toks → rangesR l = true ∧ l ≠ [] ∧ s'.atoms = s.atoms ∧ l.length + s'.toks.length ≤ s.toks.length ∧ TokG s'.toks
  | 0, s, l, s', h, _ => (fail_not h).elim
  | n + 1, s, l, s', h, hg => by
    obtain ⟨p, s1, h1, h2⟩ := bnd_out h
    obtain ⟨r1, r2, r3, r4⟩ := range_out h1 hg
    split at h2
    · rename_i hw
      obtain ⟨r, s2, h3, h4⟩ := bnd_out h2
      obtain ⟨q1, q2, q3, q4, q5⟩ := ranges_out n h3 r4.tail
      injection h4 with h4; injection h4 with h4 h5
      subst h4 h5
      have := isW_pos hw
      refine ⟨?_, by simp, by rw [q3]; exact r2, ?_, q5⟩
      · unfold rangesR at q1 ⊢
        rw [List.all_cons, r1, q1]; rfl
      · have : (adv s1).toks.length = s1.toks.tail.length := rfl
        rw [List.length_cons]; omega
    · injection h2 with h2; injection h2 with h2 h3
      subst h2 h3
      refine ⟨?_, by simp, r2, ?_, r4⟩
      · unfold rangesR; rw [List.all_cons, r1]; rfl
      · rw [List.length_singleton]; omega
/-- What a reading of an expression gives. -/
def GoodE (A : Nat) (L : ExprP → Prop) (p : Rd ExprP) : Prop := ∀ s e s', p s = .ok (e, s') → TokG s.toks →
  right e = true ∧ ¬ kind e = 0 ∧ bits e ∧ s'.atoms = s.atoms + atoms e ∧ (s.atoms ≤ A → s'.atoms ≤ A) ∧ sz e + s'.toks.length ≤ s.toks.length ∧ L e ∧ TokG s'.toks
theorem fieldOf_range (w : List UInt8) : 0 ≤ fieldOf w ∧ fieldOf w ≤ 6 := by
  unfold fieldOf
  repeat' split
  all_goals omega
theorem headField_range (T : List TokP) : 0 ≤ headField T ∧ headField T ≤ 6 := by
  unfold headField
  split
  · omega
  · split
    · exact fieldOf_range _
    · omega
theorem atom_good (A : Nat) : GoodE A (fun e => bd e = 0 ∧ kind e = 1) (atom A) := by
  intro s e s' h hg
  obtain ⟨h1, h2, h3, h4⟩ := atom_out h
  have hr := headField_range s.toks
  generalize headField s.toks = f at h1 h4 hr
  have hlen : s.toks.tail.length + 1 = s.toks.length := by
    cases hT : s.toks with
    | nil => exact absurd hT h3
    | cons k l => rfl
  unfold atomOf at h4
  split at h4
  · rename_i h6
    subst h6
    obtain ⟨lo, s1, e1, h4⟩ := bnd_out h4
    obtain ⟨u, s2, e2, h4⟩ := bnd_out h4
    obtain ⟨hi, s3, e3, h4⟩ := bnd_out h4
    injection h4 with h4; injection h4 with h4 h5
    subst h4 h5
    obtain ⟨a1, a2, a3, a4⟩ := bound_out e1 hg.tail
    obtain ⟨b1, b2, b3⟩ := mustR_out e2
    obtain ⟨c1, c2, c3, c4⟩ := bound_out e3 (by rw [b3]; exact a4.tail)
    have a2 : s1.atoms = s.atoms + 1 := a2
    have a3 : s1.toks.length + 1 ≤ s.toks.tail.length := a3
    refine ⟨?_, by show ¬ (1 : Int) = 0; decide, ?_, ?_, ?_, ?_, ?_, c4⟩
    · rw [right, if_pos rfl]
      unfold atomR
      rw [if_pos rfl, a1.1, c1.1]; rfl
    · rw [bits, bitsL]; exact ⟨⟨a1.2, c1.2⟩, trivial⟩
    · rw [atoms, if_pos rfl]; omega
    · omega
    · rw [sz, szL]; simp only [List.length_nil]; omega
    · exact ⟨by rw [bd, if_pos rfl], rfl⟩
  · rename_i h6
    obtain ⟨r, s1, e1, h4⟩ := bnd_out h4
    injection h4 with h4; injection h4 with h4 h5
    subst h4 h5
    obtain ⟨a1, a2, a3, a4, a5⟩ := ranges_out _ e1 hg.tail
    have a3 : s1.atoms = s.atoms + 1 := a3
    have a4 : r.length + s1.toks.length ≤ s.toks.tail.length := a4
    have hrn : (r.length == 0) = false := by
      cases r with
      | nil => exact absurd rfl a2
      | cons x y => rfl
    refine ⟨?_, by show ¬ (1 : Int) = 0; decide, ?_, ?_, ?_, ?_, ?_, a5⟩
    · rw [right, if_pos rfl]
      unfold atomR
      rw [if_neg h6, a1, hrn, decide_eq_true (show 1 ≤ f by omega), decide_eq_true (show f ≤ 6 by omega)]
      have hp : plain 0 = true := Fp.sameB_self (by decide)
      rw [hp]; rfl
    · rw [bits, bitsL]; exact ⟨⟨by decide, by decide⟩, trivial⟩
    · rw [atoms, if_pos rfl]; omega
    · omega
    · rw [sz, szL]; omega
    · exact ⟨by rw [bd, if_pos rfl], rfl⟩
/-- A list of them. -/
theorem list_good {A : Nat} {L : ExprP → Prop} {p : Rd ExprP} (hp : GoodE A L p) (t : List UInt8) : ∀ (n : Nat) {s : PSt} {l : List ExprP} {s' : PSt}, sepF p t n s = .ok (l, s') → TokG s.toks →
    l ≠ [] ∧ rightL l = true ∧ bitsL l ∧ (∀ x ∈ l, L x ∧ right x = true ∧ ¬ kind x = 0) ∧ s'.atoms = s.atoms + atomsL l ∧ (s.atoms ≤ A → s'.atoms ≤ A) ∧ szL l + (l.length - 1) + s'.toks.length ≤ s.toks.length ∧ TokG s'.toks
  | 0, s, l, s', h, _ => (fail_not h).elim
  | n + 1, s, l, s', h, hg => by
    obtain ⟨x, s1, h1, h2⟩ := bnd_out h
    obtain ⟨r1, r2, r3, r4, r5, r6, r7, r8⟩ := hp _ _ _ h1 hg
    have hk : (kind x == 0) = false := by simpa using r2
    split at h2
    · rename_i hw
      obtain ⟨r, s2, h3, h4⟩ := bnd_out h2
      obtain ⟨q0, q1, q2, q3, q4, q5, q6, q7⟩ := list_good hp t n h3 r8.tail
      injection h4 with h4; injection h4 with h4 h5
      subst h4 h5
      have := isW_pos hw
      have ha : (adv s1).atoms = s1.atoms := rfl
      have hl : (adv s1).toks.length = s1.toks.tail.length := rfl
      refine ⟨by simp, ?_, ?_, ?_, ?_, ?_, ?_, q7⟩
      · rw [rightL, hk, r1, q1]; rfl
      · rw [bitsL]; exact ⟨r3, q2⟩
      · intro y hy
        rcases List.mem_cons.1 hy with rfl | hy
        · exact ⟨r7, r1, r2⟩
        · exact q3 y hy
      · rw [atomsL]; omega
      · intro h; exact q5 (r5 h)
      · have : 0 < r.length := List.length_pos_iff.2 q0
        rw [szL, List.length_cons]; omega
    · injection h2 with h2; injection h2 with h2 h3
      subst h2 h3
      refine ⟨by simp, ?_, ?_, ?_, ?_, r5, ?_, r8⟩
      · rw [rightL, hk, r1]; rfl
      · rw [bitsL, bitsL]; exact ⟨r3, trivial⟩
      · intro y hy
        rw [List.mem_singleton] at hy
        subst hy
        exact ⟨r7, r1, r2⟩
      · rw [atomsL, atomsL]; omega
      · rw [szL, szL, List.length_singleton]; omega
theorem bdL_le (k : Int) (K : Nat) : ∀ l : List ExprP, (∀ x ∈ l, bd x + bump k (kind x) ≤ K) → bdL k l ≤ K
  | [], _ => by rw [bdL]; exact Nat.zero_le _
  | x :: l, h => by
    rw [bdL]
    exact Nat.max_le.2 ⟨h x (List.mem_cons_self ..), bdL_le k K l fun y hy => h y (List.mem_cons_of_mem _ hy)⟩
theorem lst_good {A : Nat} {L M : ExprP → Prop} {p : Rd ExprP} (hp : GoodE A L p) (t : List UInt8) (k : Int) (hk : k = 3 ∨ k = 4) (h1 : ∀ x, L x → M x)
    (h2 : ∀ l, (∀ x ∈ l, L x ∧ right x = true ∧ ¬ kind x = 0) → M (.mk k 0 [] 0 0 l)) : GoodE A M (lst k p t) := by
  intro s e s' h hg
  obtain ⟨l, s1, e1, h⟩ := bnd_out h
  injection h with h; injection h with h h'
  subst h h'
  obtain ⟨q0, q1, q2, q3, q4, q5, q6, q7⟩ := list_good hp t _ e1 hg
  match l, q0 with
  | [x], _ =>
    rw [rightL, rightL, Bool.and_true, Bool.and_eq_true, Bool.not_eq_true', beq_eq_false_iff_ne] at q1
    rw [bitsL, bitsL] at q2
    rw [atomsL, atomsL] at q4
    rw [szL, szL, List.length_singleton] at q6
    exact ⟨q1.2, q1.1, q2.1, q4, q5, by show sz x + _ ≤ _; omega, h1 x (q3 x (List.mem_singleton.2 rfl)).1, q7⟩
  | x :: y :: l, _ =>
    show right (.mk k 0 [] 0 0 (x :: y :: l)) = true ∧ ¬ k = 0 ∧ bits (.mk k 0 [] 0 0 (x :: y :: l)) ∧ s1.atoms = s.atoms + atoms (.mk k 0 [] 0 0 (x :: y :: l)) ∧ _ ∧ sz (.mk k 0 [] 0 0 (x :: y :: l)) + _ ≤ _ ∧ M (.mk k 0 [] 0 0 (x :: y :: l)) ∧ _
    have hp0 : plain 0 = true := Fp.sameB_self (by decide)
    refine ⟨?_, by omega, ?_, ?_, q5, ?_, h2 _ q3, q7⟩
    · rw [right, if_neg (by omega), q1, hp0]
      unfold manyR
      rw [if_neg (by omega), if_neg (by omega), if_pos hk]
      simp
    · rw [bits]; exact ⟨⟨by decide, by decide⟩, q2⟩
    · rw [atoms_inner (by omega) (by omega)]; exact q4
    · rw [sz]
      simp only [List.length_cons, List.length_nil] at q6 ⊢
      omega
def LvP (K : Nat) (e : ExprP) : Prop := bd e ≤ K ∧ ((kind e = 3 ∨ kind e = 4) → bd e + 1 ≤ K)
def LvA (K : Nat) (e : ExprP) : Prop := bd e ≤ K ∧ (kind e = 4 → bd e + 1 ≤ K)
def LvE (K : Nat) (e : ExprP) : Prop := bd e ≤ K
theorem must_iff (k x : Int) : must k x = true ↔ x = 4 ∨ (x = 3 ∧ (k = 2 ∨ k = 3)) := by
  unfold must
  simp
theorem ands_good {A K : Nat} {p : Rd ExprP} (hp : GoodE A (LvP K) p) : GoodE A (LvA K) (ands p) :=
  lst_good hp wAnd 3 (.inl rfl) (fun x h => ⟨h.1, fun h4 => h.2 (.inr h4)⟩) fun l hl => by
    refine ⟨?_, fun h => absurd (show (3 : Int) = 4 from h) (by decide)⟩
    rw [bd, if_neg (by decide), if_neg (by decide)]
    refine bdL_le 3 K l fun x hx => ?_
    have h := (hl x hx).1
    unfold bump
    split
    · rename_i hm
      rw [must_iff] at hm
      exact h.2 (by omega)
    · exact h.1
theorem expr_good {A K : Nat} {p : Rd ExprP} (hp : GoodE A (LvP K) p) : GoodE A (LvE K) (expr p) :=
  lst_good (ands_good hp) wOr 4 (.inr rfl) (fun x h => h.1) fun l hl => by
    show bd _ ≤ K
    rw [bd, if_neg (by decide), if_neg (by decide)]
    refine bdL_le 4 K l fun x hx => ?_
    have h := (hl x hx).1
    unfold bump
    split
    · rename_i hm
      rw [must_iff] at hm
      exact h.2 (by omega)
    · exact h.1
theorem part_good (A : Nat) : ∀ K, GoodE A (LvP K) (part A K)
  | 0 => by
    intro s e s' h hg
    rw [part_zero] at h
    split at h
    · exact (fail_not h).elim
    · obtain ⟨h1, h2, h3, h4, h5, h6, h7, h8⟩ := atom_good A s e s' h hg
      exact ⟨h1, h2, h3, h4, h5, h6, ⟨by omega, fun h => by omega⟩, h8⟩
  | K + 1 => by
    intro s e s' h hg
    rw [part_succ] at h
    have ha : (adv s).atoms = s.atoms := rfl
    have hl : (adv s).toks.length = s.toks.tail.length := rfl
    split at h
    · rename_i hw
      have := isW_pos hw
      obtain ⟨x, s1, e1, h⟩ := bnd_out h
      injection h with h; injection h with h h'
      subst h h'
      obtain ⟨h1, h2, h3, h4, h5, h6, h7, h8⟩ := part_good A K _ _ _ e1 hg.tail
      have hp0 : plain 0 = true := Fp.sameB_self (by decide)
      have hk : (kind x == 0) = false := by simpa using h2
      refine ⟨?_, by show ¬ (2 : Int) = 0; decide, ?_, ?_, by rw [ha] at h5; exact h5, ?_, ⟨?_, fun h => by have : (2 : Int) = 3 ∨ (2 : Int) = 4 := h; omega⟩, h8⟩
      · rw [right, if_neg (by decide), rightL, rightL, hk, h1, hp0]; rfl
      · rw [bits, bitsL, bitsL]; exact ⟨⟨by decide, by decide⟩, h3, trivial⟩
      · rw [atoms_inner (by decide) (by decide), atomsL, atomsL]; omega
      · rw [sz, szL, szL]; simp only [List.length_nil]; omega
      · rw [bd, if_neg (by decide), if_pos rfl]
        refine Nat.succ_le_succ (bdL_le 2 K [x] fun y hy => ?_)
        rw [List.mem_singleton] at hy
        subst hy
        unfold bump
        split
        · rename_i hm
          rw [must_iff] at hm
          exact h7.2 (by omega)
        · exact h7.1
    · split at h
      · rename_i hw
        have := isW_pos hw
        obtain ⟨x, s1, e1, h⟩ := bnd_out h
        obtain ⟨u, s2, e2, h⟩ := bnd_out h
        injection h with h; injection h with h h'
        subst h h'
        obtain ⟨h1, h2, h3, h4, h5, h6, h7, h8⟩ := expr_good (part_good A K) _ _ _ e1 hg.tail
        obtain ⟨b1, b2, b3⟩ := mustR_out e2
        have h7 : bd x ≤ K := h7
        exact ⟨h1, h2, h3, by omega, by rw [b1]; exact h5, by omega, ⟨by omega, fun _ => by omega⟩, by rw [b3]; exact h8.tail⟩
      · obtain ⟨h1, h2, h3, h4, h5, h6, h7, h8⟩ := atom_good A s e s' h hg
        exact ⟨h1, h2, h3, h4, h5, h6, ⟨by omega, fun h => by omega⟩, h8⟩
end Go.Proofs.YtmcgflpgkkophaaGreatDoor.Pa
/- Policies that are read, in plain words: what is read may be, and is read again as it was; two behind one another; the same tokens in other lines. Conditions: the tokens are such as a text has. -/
namespace Go.Proofs.YtmcgflpgkkophaaGreatDoor.Pa
set_option linter.unusedVariables false
open Go.RowKit
open Tr (kind field rs lo hi of dp dpL right rightL must range1 rng rangesR numR atomR manyR plain txt txtL brack inner atoms atomsL same sameL ruleR textOk textsL rtxt rule1)
open Re (tOk tL vOf sizeOk sizeL)
theorem headR_out {s : PSt} {b : Bool} {s' : PSt} (h : headR s = .ok (b, s')) : s'.atoms = s.atoms ∧ s'.toks.length + 1 = s.toks.length ∧ s'.toks = s.toks.tail ∧ (isW Tr.wAllow s.toks || isW Tr.wDeny s.toks) = true := by
  unfold headR at h
  split at h
  · rename_i hw
    injection h with h; injection h with _ h; subst h
    exact ⟨rfl, isW_pos hw, rfl, by rw [hw]; rfl⟩
  · obtain ⟨u, s1, h1, h2⟩ := bnd_out h
    injection h2 with h2; injection h2 with _ h2; subst h2
    obtain ⟨b1, b2, b3⟩ := mustR_out h1
    refine ⟨b1, b2, b3, ?_⟩
    unfold mustR at h1
    split at h1
    · rename_i hw; rw [hw, Bool.or_true]
    · exact (fail_not h1).elim
theorem whenR_out {D A : Nat} {s : PSt} {e : ExprP} {s' : PSt} (h : whenR D A s = .ok (e, s')) (hg : TokG s.toks) :
    right e = true ∧ bits e ∧ bd e ≤ D ∧ s'.atoms = s.atoms + atoms e ∧ (s.atoms ≤ A → s'.atoms ≤ A) ∧ sz e + s'.toks.length ≤ s.toks.length + 1 ∧ TokG s'.toks := by
  unfold whenR at h
  split at h
  · rename_i hw
    have := isW_pos hw
    have hl : (adv s).toks.length = s.toks.tail.length := rfl
    obtain ⟨h1, h2, h3, h4, h5, h6, h7, h8⟩ := expr_good (part_good A D) _ _ _ h hg.tail
    exact ⟨h1, h3, h7, h4, h5, by omega, h8⟩
  · injection h with h; injection h with h h'; subst h h'
    have hp0 : plain 0 = true := Fp.sameB_self (by decide)
    have hz : Tr.zero = .mk 0 0 [] 0 0 [] := rfl
    refine ⟨?_, ?_, ?_, ?_, fun h => h, ?_, hg⟩
    · rw [hz, right, if_neg (by decide), hp0]; rfl
    · rw [hz, bits, bitsL]; exact ⟨⟨by decide, by decide⟩, trivial⟩
    · rw [hz, bd, if_neg (by decide), if_neg (by decide), bdL]; exact Nat.zero_le _
    · rw [hz, atoms, if_neg (by decide), if_neg (by decide)]; rfl
    · rw [hz, sz, szL]; simp only [List.length_nil]; omega
theorem perR_out {s : PSt} {n : Int} {s' : PSt} (h : perR s = .ok (n, s')) (hg : TokG s.toks) : numR n = true ∧ n ≠ 0 ∧ s'.atoms = s.atoms ∧ s'.toks.length + 1 = s.toks.length ∧ TokG s'.toks := by
  have hn : num s = .ok (n, s') ∧ n ≠ 0 := by
    obtain ⟨T, a⟩ := s
    cases T with
    | nil => exact (fail_not h).elim
    | cons k l =>
      have h : (if k.kind = 2 ∧ ¬ k.num = 0 then Except.ok (k.num, (⟨l, a⟩ : PSt)) else failAt 7 ⟨k :: l, a⟩) = .ok (n, s') := h
      show (if k.kind = 2 then Except.ok (k.num, (⟨l, a⟩ : PSt)) else failAt 7 ⟨k :: l, a⟩) = .ok (n, s') ∧ _
      by_cases hk : k.kind = 2 ∧ ¬ k.num = 0
      · rw [if_pos hk] at h
        rw [if_pos hk.1]
        have h2 := h
        injection h2 with h2; injection h2 with h1 h2
        refine ⟨h, ?_⟩
        rw [← h1]; exact hk.2
      · rw [if_neg hk] at h; exact (fail_not h).elim
  obtain ⟨h1, h2, h3, h4, _⟩ := num_out hn.1 hg
  exact ⟨h1, hn.2, h2, h3, h4⟩
theorem rateO_out {s : PSt} {q : Int × Int × Int} {s' : PSt} (h : rateO s = .ok (q, s')) (hg : TokG s.toks) :
    (numR q.1 = true ∧ numR q.2.1 = true ∧ numR q.2.2 = true ∧ (q.2.1 = 0 → q.1 = 0 ∧ q.2.2 = 0)) ∧ s'.atoms = s.atoms ∧ s'.toks.length ≤ s.toks.length ∧ TokG s'.toks := by
  unfold rateO at h
  split at h
  · rename_i hw
    have := isW_pos hw
    have hl : (adv s).toks.length = s.toks.tail.length := rfl
    obtain ⟨a, s1, e1, h⟩ := bnd_out h
    obtain ⟨_, s2, e2, h⟩ := bnd_out h
    obtain ⟨b, s3, e3, h⟩ := bnd_out h
    obtain ⟨_, s4, e4, h⟩ := bnd_out h
    obtain ⟨c, s5, e5, h⟩ := bnd_out h
    injection h with h; injection h with h h'; subst h h'
    obtain ⟨a1, a2, a3, a4, _⟩ := num_out e1 hg.tail
    obtain ⟨b1, b2, b3⟩ := mustR_out e2
    obtain ⟨c1, c2, c3, c4, c5⟩ := perR_out e3 (by rw [b3]; exact a4.tail)
    obtain ⟨d1, d2, d3⟩ := mustR_out e4
    obtain ⟨f1, f2, f3, f4, _⟩ := num_out e5 (by rw [d3]; exact c5.tail)
    refine ⟨⟨a1, c1, f1, fun h => absurd h c2⟩, ?_, by omega, f4⟩
    rw [f2, d1, c3, b1, a2]; rfl
  · injection h with h; injection h with h h'; subst h h'
    exact ⟨⟨by decide, by decide, by decide, fun _ => ⟨rfl, rfl⟩⟩, rfl, Nat.le_refl _, hg⟩
theorem rule_out {D A : Nat} {s : PSt} {r : RuleP} {s' : PSt} (h : rule D A s = .ok (r, s')) (hg : TokG s.toks) :
    ruleR r = true ∧ bits r.when_ ∧ bd r.when_ ≤ D ∧ s'.atoms = s.atoms + atoms r.when_ ∧ (s.atoms ≤ A → s'.atoms ≤ A) ∧ sz r.when_ + s'.toks.length ≤ s.toks.length ∧ TokG s'.toks ∧ (isW Tr.wAllow s.toks || isW Tr.wDeny s.toks) = true := by
  obtain ⟨al, s1, e1, h⟩ := bnd_out h
  obtain ⟨e, s2, e2, h⟩ := bnd_out h
  obtain ⟨q, s3, e3, h⟩ := bnd_out h
  obtain ⟨_, s4, e4, h⟩ := bnd_out h
  injection h with h; injection h with h h'; subst h h'
  obtain ⟨a1, a2, a3, a4⟩ := headR_out e1
  obtain ⟨b1, b2, b3, b4, b5, b6, b7⟩ := whenR_out e2 (by rw [a3]; exact hg.tail)
  obtain ⟨c1, c2, c3, c4⟩ := rateO_out e3 b7
  obtain ⟨d1, d2, d3⟩ := mustR_out e4
  refine ⟨?_, b2, b3, ?_, ?_, ?_, by rw [d3]; exact c4.tail, a4⟩
  · unfold ruleR
    simp only [b1, c1.1, c1.2.1, c1.2.2.1, Bool.true_and]
    by_cases h0 : q.2.1 = 0
    · have := c1.2.2.2 h0
      rw [this.1, this.2]; simp
    · simp [h0]
  · rw [d1, c2, b4, a1]
  · intro h; rw [d1, c2]; exact b5 (by rw [a1]; exact h)
  · show sz e + _ ≤ _; omega
theorem rule_less {D A : Nat} {s : PSt} {r : RuleP} {s' : PSt} (h : rule D A s = .ok (r, s')) : s'.toks.length < s.toks.length := by
  obtain ⟨al, s1, e1, h⟩ := bnd_out h
  obtain ⟨e, s2, e2, h⟩ := bnd_out h
  obtain ⟨q, s3, e3, h⟩ := bnd_out h
  obtain ⟨_, s4, e4, h⟩ := bnd_out h
  injection h with h; injection h with h h'; subst h h'
  have a := headR_out e1
  have b := (whenR_nice D A).down _ _ _ e2
  have c := rateO_nice.down _ _ _ e3
  have d := mustR_out e4
  omega
theorem rules_out {D A R : Nat} {n c : Nat} {s : PSt} {l : List RuleP} (h : rulesF D A R (n + 1) c s = .ok l) (hT : s.toks ≠ []) : ∃ r s' l', l = r :: l' ∧ rule D A s = .ok (r, s') ∧ rulesF D A R n (c + 1) s' = .ok l' ∧ ¬ (c = R ∧ (isW Tr.wAllow s.toks || isW Tr.wDeny s.toks) = true) := by
  rw [rulesF] at h
  have he : ¬ s.toks.isEmpty = true := by simpa using hT
  rw [if_neg he] at h
  split at h
  · cases h
  · rename_i hc
    cases hr : rule D A s with
    | error e => rw [hr] at h; cases h
    | ok x =>
      obtain ⟨r, s'⟩ := x
      rw [hr] at h
      cases hf : rulesF D A R n (c + 1) s' with
      | error e => simp only [hf] at h; cases h
      | ok l' =>
        simp only [hf] at h
        have h : r :: l' = l := by injection h
        exact ⟨r, s', l', h.symm, rfl, hf, hc⟩
theorem rules_into {D A R : Nat} {n c : Nat} {s s' : PSt} {r : RuleP} (hT : s.toks ≠ []) (hc : ¬ (c = R ∧ (isW Tr.wAllow s.toks || isW Tr.wDeny s.toks) = true)) (hr : rule D A s = .ok (r, s')) : rulesF D A R (n + 1) c s = (rulesF D A R n (c + 1) s').map (r :: ·) := by
  rw [rulesF, if_neg (by simpa using hT), if_neg hc, hr]
/-- What is read may be. -/
theorem rules_good (D A R : Nat) : ∀ (n c : Nat) (s : PSt) (l : List RuleP), rulesF D A R n c s = .ok l → TokG s.toks → s.atoms ≤ A → c ≤ R →
    textOk l = true ∧ (∀ r ∈ l, bits r.when_ ∧ bd r.when_ ≤ D ∧ sz r.when_ ≤ s.toks.length) ∧ s.atoms + atomsR l ≤ A ∧ c + l.length ≤ R
  | 0, c, s, l, h, hg, ha, hc => by
    rw [rulesF] at h; cases h
    exact ⟨rfl, (fun r hr => absurd hr (by simp)), by simpa [atomsR] using ha, by simpa using hc⟩
  | n + 1, c, s, l, h, hg, ha, hc => by
    by_cases hT : s.toks = []
    · rw [rulesF, if_pos (by rw [hT]; rfl)] at h; cases h
      exact ⟨rfl, (fun r hr => absurd hr (by simp)), by simpa [atomsR] using ha, by simpa using hc⟩
    · obtain ⟨r, s', l', rfl, h1, h2, h3⟩ := rules_out h hT
      obtain ⟨r1, r2, r3, r4, r5, r6, r7, r8⟩ := rule_out h1 hg
      have hcR : c + 1 ≤ R := by
        have : c ≠ R := fun e => h3 ⟨e, r8⟩
        omega
      obtain ⟨q1, q2, q3, q4⟩ := rules_good D A R n (c + 1) s' l' h2 r7 (r5 ha) hcR
      refine ⟨?_, ?_, ?_, by rw [List.length_cons]; omega⟩
      · unfold textOk at q1 ⊢
        rw [List.all_cons, r1, q1]; rfl
      · intro x hx
        rcases List.mem_cons.1 hx with rfl | hx
        · exact ⟨r2, r3, by omega⟩
        · have := q2 x hx
          exact ⟨this.1, this.2.1, by omega⟩
      · have e : atomsR (r :: l') = atoms r.when_ + atomsR l' := by simp [atomsR]
        omega
/-- The measure does not count. -/
theorem rulesF_more (D A R : Nat) : ∀ (n m c : Nat) (s : PSt), s.toks.length < n → s.toks.length < m → rulesF D A R n c s = rulesF D A R m c s
  | 0, _, _, _, h, _ => absurd h (by omega)
  | _, 0, _, _, _, h => absurd h (by omega)
  | n + 1, m + 1, c, s, h, h' => by
    rw [rulesF, rulesF]
    split
    · rfl
    · split
      · rfl
      · cases hr : rule D A s with
        | error e => rfl
        | ok x =>
          obtain ⟨r, s'⟩ := x
          have := rule_less hr
          show (rulesF D A R n (c + 1) s').map _ = (rulesF D A R m (c + 1) s').map _
          rw [rulesF_more D A R n m (c + 1) s' (by omega) (by omega)]
theorem lineOf_app {T : List TokP} (h : T ≠ []) (m : List TokP) : lineOf (T ++ m) = lineOf T := by
  cases T with
  | nil => exact absurd rfl h
  | cons a l => rfl
theorem ruleB_last {D A : Nat} {s : PSt} {r : RuleP} {s' : PSt} (h : ruleB D A s = .ok (r, s')) (m : List TokP) : ruleB D A ⟨s.toks ++ m, s.atoms⟩ = .ok (r, ⟨s'.toks ++ m, s'.atoms⟩) := by
  obtain ⟨al, s1, e1, h⟩ := bnd_out h
  obtain ⟨e, s2, e2, h⟩ := bnd_out h
  obtain ⟨q, s3, e3, h⟩ := bnd_out h
  obtain ⟨u, s4, e4, h⟩ := bnd_out h
  injection h with h; injection h with h h'; subst h h'
  have d := mustR_out e4
  have n3 : s3.toks ≠ [] := fun e => by rw [e] at d; simp at d
  have n2 := suf_ne (rateO_nice.suf _ _ _ e3) n3
  have n1 := suf_ne ((whenR_nice D A).suf _ _ _ e2) n2
  unfold ruleB
  rw [headR_nice.ext _ _ _ m e1 n1, bnd_ok, (whenR_nice D A).ext _ _ _ m e2 n2, bnd_ok, rateO_nice.ext _ _ _ m e3 n3, bnd_ok]
  have e5 : mustR [59] ⟨s3.toks ++ m, s3.atoms⟩ = .ok ((), ⟨s4.toks ++ m, s4.atoms⟩) := by
    unfold mustR at e4 ⊢
    split at e4
    · rename_i hw
      injection e4 with e4; injection e4 with _ e4; subst e4
      rw [if_pos (by rw [isW_app _ n3]; exact hw)]
      show Except.ok ((), (⟨(s3.toks ++ m).tail, _⟩ : PSt)) = Except.ok ((), ⟨s3.toks.tail ++ m, _⟩)
      cases hT : s3.toks with
      | nil => exact absurd hT n3
      | cons k l => rfl
    · exact (fail_not e4).elim
  rw [e5, bnd_ok]
theorem rule_ne {D A : Nat} {s : PSt} {r : RuleP} {s' : PSt} (h : rule D A s = .ok (r, s')) : s.toks ≠ [] := fun e => by
  have := rule_less h
  rw [e] at this; simp at this
theorem rule_app {D A : Nat} {s : PSt} {r : RuleP} {s' : PSt} (h : rule D A s = .ok (r, s')) (m : List TokP) : rule D A ⟨s.toks ++ m, s.atoms⟩ = .ok (r, ⟨s'.toks ++ m, s'.atoms⟩) := by
  have hne := rule_ne h
  rw [rule_B] at h ⊢
  obtain ⟨b, s1, h1, h2⟩ := bnd_out h
  injection h2 with h2; injection h2 with h2 h3; subst h2 h3
  rw [ruleB_last h1 m, bnd_ok]
  show Except.ok (atLine (lineOf (s.toks ++ m)) b, _) = _
  rw [lineOf_app hne]
/-- A policy with more behind it. -/
theorem rules_app (D A R : Nat) (m : List TokP) : ∀ (n c : Nat) (s : PSt) (l : List RuleP) (n' : Nat), s.toks.length < n → rulesF D A R n c s = .ok l → TokG s.toks → (s.toks ++ m).length < n' →
    rulesF D A R n' c ⟨s.toks ++ m, s.atoms⟩ = (rulesF D A R n' (c + l.length) ⟨m, s.atoms + atomsR l⟩).map (l ++ ·)
  | 0, c, s, l, n', hn, _, _, _ => absurd hn (by omega)
  | n + 1, c, s, l, n', hn, h, hg, hn' => by
    by_cases hT : s.toks = []
    · rw [rulesF, if_pos (by rw [hT]; rfl)] at h; cases h
      rw [hT]
      show rulesF D A R n' c ⟨m, s.atoms⟩ = (rulesF D A R n' c ⟨m, s.atoms⟩).map _
      cases rulesF D A R n' c ⟨m, s.atoms⟩ <;> rfl
    · obtain ⟨r, s', l', rfl, h1, h2, h3⟩ := rules_out h hT
      have hl := rule_less h1
      obtain ⟨_, _, _, r4, _, _, r7, _⟩ := rule_out h1 hg
      have hne : s.toks ++ m ≠ [] := fun e => hT (List.append_eq_nil_iff.1 e).1
      cases n' with
      | zero => exact absurd hn' (by omega)
      | succ n' =>
        rw [List.length_append] at hn'
        rw [rules_into (s := ⟨s.toks ++ m, s.atoms⟩) hne (by show ¬ (c = R ∧ (isW Tr.wAllow (s.toks ++ m) || isW Tr.wDeny (s.toks ++ m)) = true); rw [isW_app _ hT, isW_app _ hT]; exact h3) (rule_app h1 m)]
        rw [rulesF_more D A R n' (n' + 1) (c + 1) _ (by show (s'.toks ++ m).length < _; rw [List.length_append]; omega) (by show (s'.toks ++ m).length < _; rw [List.length_append]; omega)]
        rw [rules_app D A R m n (c + 1) s' l' (n' + 1) (by omega) h2 r7 (by rw [List.length_append]; omega)]
        have e : atomsR (r :: l') = atoms r.when_ + atomsR l' := by simp [atomsR]
        rw [e, r4, List.length_cons, show c + 1 + l'.length = c + (l'.length + 1) by omega, Nat.add_assoc]
        cases rulesF D A R (n' + 1) (c + (l'.length + 1)) ⟨m, s.atoms + (atoms r.when_ + atomsR l')⟩ <;> rfl
/-- In other lines. -/
theorem rules_any (D A R : Nat) : ∀ (n c : Nat) (s : PSt) (l : List RuleP) (T : List TokP), rulesF D A R n c s = .ok l → Like s.toks T → ∃ l', rulesF D A R n c ⟨T, s.atoms⟩ = .ok l' ∧ lines 1 l' = lines 1 l
  | 0, c, s, l, T, h, hl => by rw [rulesF] at h; cases h; exact ⟨[], rfl, rfl⟩
  | n + 1, c, s, l, T, h, hl => by
    by_cases hT : s.toks = []
    · rw [rulesF, if_pos (by rw [hT]; rfl)] at h; cases h
      rw [hT] at hl
      rw [hl.nil]
      exact ⟨[], rfl, rfl⟩
    · obtain ⟨r, s', l', rfl, h1, h2, h3⟩ := rules_out h hT
      rw [rule_B] at h1
      obtain ⟨b, s1, h4, h5⟩ := bnd_out h1
      injection h5 with h5; injection h5 with h5 h6; subst h5 h6
      obtain ⟨T', hl', h7⟩ := (ruleB_nice D A).any _ _ _ T h4 hl
      have h8 : rule D A ⟨T, s.atoms⟩ = .ok (atLine (lineOf T) b, ⟨T', s1.atoms⟩) := by rw [rule_B, h7, bnd_ok]
      obtain ⟨l2, h9, h10⟩ := rules_any D A R n (c + 1) s1 l' T' h2 hl'
      have hne : T ≠ [] := fun e => hT (by have := like_len hl; rw [e] at this; exact List.eq_nil_of_length_eq_zero this)
      refine ⟨atLine (lineOf T) b :: l2, ?_, ?_⟩
      · rw [rules_into (s := ⟨T, s.atoms⟩) hne (by show ¬ (c = R ∧ (isW Tr.wAllow T || isW Tr.wDeny T) = true); rw [isW_like hl, isW_like hl]; exact h3) h8]
        rw [h9]; rfl
      · have hs : ∀ (l l2 : List RuleP) (i j : Int), lines i l = lines i l2 → lines j l = lines j l2 := by
          intro l
          induction l with
          | nil => intro l2 i j h; cases l2 with
            | nil => rfl
            | cons x y => cases h
          | cons x l ih => intro l2 i j h; cases l2 with
            | nil => cases h
            | cons x' l2 =>
              rw [lines, lines] at h ⊢
              injection h with e1 e2
              rw [ih l2 (i + 1) (j + 1) e2]
              have : atLine j x = atLine j x' := by
                have := congrArg (atLine j) e1
                exact this
              rw [this]
        rw [lines, lines, hs l2 l' 1 (1 + 1) h10]
        rfl
/-- With more atoms, and rules, ahead. -/
theorem rules_off (D A R : Nat) (d : Nat) : ∀ (n c c' : Nat) (s : PSt) (l : List RuleP), rulesF D A R n c s = .ok l → c' + l.length ≤ R → TokG s.toks →
    rulesF D A R n c' ⟨s.toks, s.atoms + d⟩ = .ok l ∨ ∃ ln, rulesF D A R n c' ⟨s.toks, s.atoms + d⟩ = .error (ln, 9)
  | 0, c, c', s, l, h, hR, hg => by rw [rulesF] at h; cases h; exact .inl rfl
  | n + 1, c, c', s, l, h, hR, hg => by
    by_cases hT : s.toks = []
    · rw [rulesF, if_pos (by rw [hT]; rfl)] at h; cases h
      left
      rw [hT, rulesF, if_pos (by rfl)]
    · obtain ⟨r, s', l', rfl, h1, h2, h3⟩ := rules_out h hT
      rw [List.length_cons] at hR
      have hc : ¬ (c' = R ∧ (isW Tr.wAllow s.toks || isW Tr.wDeny s.toks) = true) := fun h => by omega
      have hg' := (rule_out h1 hg).2.2.2.2.2.2.1
      rw [rule_B] at h1
      obtain ⟨b, s1, h4, h5⟩ := bnd_out h1
      injection h5 with h5; injection h5 with h5 h6; subst h5 h6
      rcases (ruleB_nice D A).off _ _ _ d h4 with h7 | ⟨ln, h7⟩
      · have h8 : rule D A ⟨s.toks, s.atoms + d⟩ = .ok (atLine (lineOf s.toks) b, ⟨s1.toks, s1.atoms + d⟩) := by rw [rule_B, h7, bnd_ok]
        rw [rules_into (s := ⟨s.toks, s.atoms + d⟩) hT hc h8]
        rcases rules_off D A R d n (c + 1) (c' + 1) s1 l' h2 (by omega) hg' with h9 | ⟨ln, h9⟩
        · left; rw [h9]; rfl
        · right; exact ⟨ln, by rw [h9]; rfl⟩
      · right
        refine ⟨ln, ?_⟩
        rw [rulesF, if_neg (by simpa using hT), if_neg hc, rule_B, h7]
        rfl
end Go.Proofs.YtmcgflpgkkophaaGreatDoor.Pa
/- Texts that are read, in plain words: errors have numbers; a policy's text is read as the policy; two texts behind one another; blanks and remarks; nots and brackets. Conditions: none. -/
namespace Go.Proofs.YtmcgflpgkkophaaGreatDoor.Pa
set_option linter.unusedVariables false
open Go.RowKit
open Tr (kind field rs lo hi of dp dpL right rightL must range1 rng rangesR numR atomR manyR plain txt txtL brack inner atoms atomsL same sameL ruleR textOk textsL rtxt rule1)
open Re (tOk tL vOf sizeOk sizeL)
/-- An error has a number. -/
def Err {α : Type} (p : Rd α) : Prop := ∀ s ln e, p s = .error (ln, e) → e ≠ 0
theorem Err.ret {α : Type} (a : α) : Err (fun s => (.ok (a, s) : Except (Int × Int) (α × PSt))) := fun s ln e h => by cases h
theorem Err.fail {α : Type} {e : Int} (he : e ≠ 0) : Err (failAt e : Rd α) := fun s ln e' h => by cases h; exact he
theorem Err.bnd {α β : Type} {p : Rd α} {f : α → Rd β} (hp : Err p) (hf : ∀ a, Err (f a)) : Err (fun s => Pa.bnd (p s) f) := fun s ln e h => by
  cases hx : p s with
  | error x =>
    obtain ⟨l2, e2⟩ := x
    simp only [hx] at h
    cases h
    exact hp s ln e hx
  | ok y =>
    obtain ⟨a, s1⟩ := y
    simp only [hx] at h
    exact hf a s1 ln e h
theorem Err.ite {α : Type} (t : List UInt8) {p q : Rd α} (hp : Err p) (hq : Err q) : Err (fun s => if isW t s.toks then p (adv s) else q s) := fun s ln e h => by
  have h : (if isW t s.toks = true then p (adv s) else q s) = .error (ln, e) := h
  split at h
  · exact hp _ _ _ h
  · exact hq _ _ _ h
theorem num_err : Err num := fun s ln e h => by
  obtain ⟨T, a⟩ := s
  cases T with
  | nil => cases h; decide
  | cons k l =>
    have h : (if k.kind = 2 then Except.ok (k.num, (⟨l, a⟩ : PSt)) else failAt 7 ⟨k :: l, a⟩) = .error (ln, e) := h
    split at h
    · cases h
    · cases h; decide
theorem perR_err : Err perR := fun s ln e h => by
  obtain ⟨T, a⟩ := s
  cases T with
  | nil => cases h; decide
  | cons k l =>
    have h : (if k.kind = 2 ∧ ¬ k.num = 0 then Except.ok (k.num, (⟨l, a⟩ : PSt)) else failAt 7 ⟨k :: l, a⟩) = .error (ln, e) := h
    split at h
    · cases h
    · cases h; decide
theorem mustR_err (t : List UInt8) : Err (mustR t) := Err.ite t (Err.ret ()) (Err.fail (by decide))
theorem boundS_err (sg : Bool) : Err (boundS sg) := fun s ln e h => by
  unfold boundS at h
  split at h
  · cases h
  · cases hx : num s with
    | error x =>
      obtain ⟨l2, e2⟩ := x
      rw [hx] at h
      cases h
      exact num_err s ln e hx
    | ok y => rw [hx] at h; cases h
theorem bound_err : Err bound := Err.ite [45] (boundS_err true) (boundS_err false)
theorem range_err : Err range := Err.bnd num_err fun a => Err.ite [45] (Err.bnd num_err fun b => Err.ret (a, b)) (Err.ret (a, a))
theorem sepF_err {α : Type} {p : Rd α} (hp : Err p) (t : List UInt8) : ∀ n, Err (sepF p t n)
  | 0 => Err.fail (by decide)
  | n + 1 => Err.bnd hp fun a => Err.ite t (Err.bnd (sepF_err hp t n) fun l => Err.ret (a :: l)) (Err.ret [a])
theorem sep_err {α : Type} {p : Rd α} (hp : Err p) (t : List UInt8) : Err (sep p t) := fun s ln e h => sepF_err hp t _ s ln e h
theorem atomOf_err (f : Int) : Err (atomOf f) := fun s ln e h => by
  unfold atomOf at h
  split at h
  · exact (Err.bnd bound_err fun lo => Err.bnd (mustR_err wTo) fun _ => Err.bnd bound_err fun hi => Err.ret _) s ln e h
  · exact (Err.bnd (sep_err range_err [44]) fun r => Err.ret _) s ln e h
theorem atom_err (A : Nat) : Err (atom A) := fun s ln e h => by
  unfold atom at h
  split at h
  · exact Err.fail (α := ExprP) (e := 7) (by decide) s ln e h
  · split at h
    · exact Err.fail (α := ExprP) (e := 9) (by decide) s ln e h
    · exact atomOf_err _ _ _ _ h
theorem lst_err (k : Int) {p : Rd ExprP} (hp : Err p) (t : List UInt8) : Err (lst k p t) := Err.bnd (sep_err hp t) fun l => Err.ret _
theorem part_err (A : Nat) : ∀ k, Err (part A k)
  | 0 => fun s ln e h => by
    rw [part_zero] at h
    split at h
    · exact Err.fail (α := ExprP) (e := 8) (by decide) s ln e h
    · exact atom_err A s ln e h
  | k + 1 => Err.ite wNot (Err.bnd (part_err A k) fun e => Err.ret _) (Err.ite [40] (Err.bnd (lst_err 4 (lst_err 3 (part_err A k) _) _) fun e => Err.bnd (mustR_err [41]) fun _ => Err.ret e) (atom_err A))
theorem rule_err (D A : Nat) : Err (rule D A) := fun s ln e h => by
  have h1 : Err headR := Err.ite _ (Err.ret true) (Err.bnd (mustR_err _) fun _ => Err.ret false)
  have h2 : Err (whenR D A) := Err.ite _ (lst_err 4 (lst_err 3 (part_err A D) _) _) (Err.ret _)
  have h3 : Err rateO := Err.ite _ (Err.bnd num_err fun a => Err.bnd (mustR_err _) fun _ => Err.bnd perR_err fun b => Err.bnd (mustR_err _) fun _ => Err.bnd num_err fun c => Err.ret _) (Err.ret _)
  exact (Err.bnd h1 fun al => Err.bnd h2 fun e => Err.bnd h3 fun q => Err.bnd (mustR_err [59]) fun _ => Err.ret (⟨al, e, q.1, q.2.1, q.2.2, lineOf s.toks⟩ : RuleP)) s ln e h
theorem rules_err (D A R : Nat) : ∀ (n c : Nat) (s : PSt) (ln e : Int), rulesF D A R n c s = .error (ln, e) → e ≠ 0
  | 0, c, s, ln, e, h => by rw [rulesF] at h; cases h
  | n + 1, c, s, ln, e, h => by
    rw [rulesF] at h
    split at h
    · cases h
    · split at h
      · cases h; decide
      · cases hr : rule D A s with
        | error x =>
          obtain ⟨l2, e2⟩ := x
          simp only [hr] at h
          cases h
          exact rule_err D A s ln e hr
        | ok x =>
          obtain ⟨r, s'⟩ := x
          simp only [hr] at h
          cases hf : rulesF D A R n (c + 1) s' with
          | error y =>
            obtain ⟨l2, e2⟩ := y
            rw [hf] at h
            cases h
            exact rules_err D A R n (c + 1) s' ln e hf
          | ok l => rw [hf] at h; cases h
/-- A text of which rules are read. -/
theorem text_ok {s : List UInt8} {a : List RuleP} {i : Int} (h : text s = (a, i, 0)) : s.length ≤ 4096 ∧ i = 0 ∧ ∃ T, Lx.go s 1 = .ok T ∧ rules 16 512 64 T = .ok a := by
  unfold text at h
  unfold Lx.split at h
  by_cases hl : 4096 < s.length
  · rw [if_pos hl] at h; simp at h
  · rw [if_neg hl] at h
    cases hg : Lx.go s 1 with
    | error e => rw [hg] at h; simp at h
    | ok T =>
      rw [hg] at h
      have h : tokens T = (a, i, 0) := h
      unfold tokens at h
      cases hr : rules 16 512 64 T with
      | error x =>
        obtain ⟨ln, e⟩ := x
        rw [hr] at h
        have he := rules_err 16 512 64 _ _ _ _ _ hr
        injection h with _ h; injection h with _ h
        exact absurd h he
      | ok l =>
        rw [hr] at h
        injection h with h1 h2; injection h2 with h2 h3
        subst h1
        exact ⟨by omega, h2.symm, T, rfl, hr⟩
theorem text_mk {s : List UInt8} {T : List TokP} (hl : s.length ≤ 4096) (hg : Lx.go s 1 = .ok T) : text s = answer (rules 16 512 64 T) := by
  have hs : Lx.split s = (T, 0, 0) := by
    unfold Lx.split
    rw [if_neg (by omega), hg]
  unfold text
  rw [hs]
  rfl
/-- Where nothing is read there are no rules. -/
theorem text_no {s : List UInt8} (h : (text s).2.2 ≠ 0) : (text s).1 = [] := by
  unfold text at h ⊢
  split
  · rename_i h0
    rw [if_pos h0] at h
    unfold tokens at h ⊢
    cases hr : rules 16 512 64 (Lx.split s).1 with
    | error x => rfl
    | ok l => rw [hr] at h; exact absurd rfl h
  · rfl
/-! How long, how deep, how many. -/
theorem word_len (f : Int) : (Tr.word f).length ≤ 6 := by
  unfold Tr.word
  repeat' split
  all_goals decide
theorem range1_len (p : Int × Int) : (range1 p).length ≤ 33 := by
  unfold range1
  have h1 := Gu.put_len p.1
  have h2 := Gu.put_len p.2
  split
  · omega
  · rw [List.length_append, List.length_cons]; omega
theorem rng_len : ∀ r : List (Int × Int), (rng r).length ≤ 34 * r.length
  | [] => Nat.le_refl _
  | [p] => by
    have := range1_len p
    show (range1 p).length ≤ _
    simp; omega
  | p :: q :: l => by
    have := range1_len p
    have := rng_len (q :: l)
    rw [rng, List.length_append, List.length_cons, List.length_cons]; omega
theorem len_all : ∀ N : Nat,
    (∀ e, dp e ≤ N → right e = true → ¬ kind e = 0 → (txt e).length + 7 ≤ 60 * sz e ∧ 10 * atoms e ≤ (txt e).length + 4) ∧
    (∀ k l, dpL l ≤ N → rightL l = true → (txtL k l).length ≤ 60 * szL l ∧ (l ≠ [] → 10 * atomsL l ≤ (txtL k l).length + 4)) := by
  intro N
  induction N with
  | zero =>
    refine ⟨fun e h => absurd (Tr.dp_pos e) (by omega), fun k l h => ?_⟩
    cases l with
    | nil => intro _; rw [txtL, szL]; exact ⟨Nat.le_refl _, fun h => absurd rfl h⟩
    | cons e l => rw [dpL] at h; have := Tr.dp_pos e; omega
  | succ N ih =>
    have h1 : ∀ e, dp e ≤ N + 1 → right e = true → ¬ kind e = 0 → (txt e).length + 7 ≤ 60 * sz e ∧ 10 * atoms e ≤ (txt e).length + 4 := by
      intro e hd hr h0
      have hk := kinds_right hr h0
      have hno := fun h1 : ¬ kind e = 1 => h1
      obtain ⟨k, f, r, l, h, o⟩ := e
      rw [dp] at hd
      have hk : k = 1 ∨ k = 2 ∨ k = 3 ∨ k = 4 := hk
      rw [txt, sz]
      by_cases k1 : k = 1
      · rw [if_pos k1]
        rw [right, if_pos k1] at hr
        unfold atomR at hr
        simp only [Bool.and_eq_true, decide_eq_true_eq, beq_iff_eq] at hr
        obtain ⟨_, f1, f2, hr⟩ := hr
        rw [atoms, if_pos k1]
        have hb1 := Re.tL_len l
        have hb2 := Re.tL_len h
        by_cases h6 : f = 6
        · rw [if_pos h6]
          have e1 : Tr.wReal.length = 5 := rfl
          have e2 : Tr.wTo.length = 4 := rfl
          simp only [List.length_append]
          omega
        · rw [if_neg h6]
          rw [if_neg h6] at hr
          simp only [Bool.and_eq_true, Bool.not_eq_true', beq_eq_false_iff_ne] at hr
          have hw := word_len f
          have hw4 : 4 ≤ (Tr.word f).length := by
            have : f = 1 ∨ f = 2 ∨ f = 3 ∨ f = 4 ∨ f = 5 := by omega
            rcases this with rfl | rfl | rfl | rfl | rfl <;> decide
          have hg := rng_len r
          have hg1 : 1 ≤ (rng r).length := by
            match r, hr.2.1 with
            | p :: q, _ =>
              have hp : 1 ≤ (range1 p).length := by
                have h3 := hr.1
                unfold rangesR at h3
                rw [List.all_cons, Bool.and_eq_true, Bool.and_eq_true] at h3
                have hgo : Gu.getOk (Gu.put p.1) = true := by rw [Gu.getOk_put]; exact h3.1.1
                have : 1 ≤ (Gu.put p.1).length := by
                  rcases Nat.eq_zero_or_pos (Gu.put p.1).length with h | h
                  · rw [Gu.getOk_nil h] at hgo; cases hgo
                  · exact h
                unfold range1
                split
                · exact this
                · rw [List.length_append]; omega
              cases q with
              | nil => exact hp
              | cons x y => rw [rng, List.length_append]; omega
          rw [List.length_append, List.length_cons]
          omega
      · have ho := (right_out hr k1).2.2.2.2.2
        have hmny := (right_out hr k1).2.2.2.2.1
        have hne : o ≠ [] := by
          rintro rfl
          unfold manyR at hmny
          rcases hk with e | e | e | e
          · exact k1 e
          · subst e; simp at hmny
          · subst e; simp at hmny
          · subst e; simp at hmny
        rw [if_neg k1, atoms_inner (by omega) (by omega)]
        by_cases k2 : k = 2
        · rw [if_pos k2]
          have := ih.2 2 o (by omega) ho
          have h3 := this.2 hne
          have e1 : Tr.wNot.length = 4 := rfl
          rw [List.length_append]
          omega
        · rw [if_neg k2]
          have := ih.2 k o (by omega) ho
          have h3 := this.2 hne
          omega
    refine ⟨h1, fun k l => ?_⟩
    induction l with
    | nil => intro _ _; rw [txtL, szL]; exact ⟨Nat.le_refl _, fun h => absurd rfl h⟩
    | cons e l il =>
      intro hd hr
      rw [dpL] at hd
      rw [rightL] at hr
      simp only [Bool.and_eq_true, Bool.not_eq_true', beq_eq_false_iff_ne] at hr
      have he := h1 e (by omega) hr.1.2 (by simpa using hr.1.1)
      have hl := il (by omega) hr.2
      rw [txtL, szL, atomsL, List.length_append]
      have hb : (txt e).length ≤ (brack (txt e) (must k (kind e))).length ∧ (brack (txt e) (must k (kind e))).length ≤ (txt e).length + 2 := by
        unfold brack
        split
        · rw [List.length_cons, List.length_append, List.length_singleton]; omega
        · omega
      cases l with
      | nil =>
        rw [if_pos (by rfl)]
        simp only [List.length_nil, atomsL, szL]
        omega
      | cons x y =>
        rw [if_neg (by simp), List.length_append]
        have hs : 4 ≤ (Tr.sep k).length ∧ (Tr.sep k).length ≤ 5 := by
          unfold Tr.sep
          split
          · exact ⟨by decide, by decide⟩
          · exact ⟨by decide, by decide⟩
        have h3 := hl.2 (by simp)
        omega
theorem txt_sz {e : ExprP} (hr : right e = true) (h0 : ¬ kind e = 0) : (txt e).length + 7 ≤ 60 * sz e ∧ 10 * atoms e ≤ (txt e).length + 4 := (len_all _).1 e (Nat.le_refl _) hr h0
theorem rtxt_sz {r : RuleP} (hr : ruleR r = true) : (rtxt r).length ≤ 60 * sz r.when_ + 100 ∧ (bits r.when_ → 10 * atoms r.when_ ≤ (rtxt r).length) := by
  have h1 : right r.when_ = true := by
    unfold ruleR at hr
    rw [Bool.and_eq_true] at hr
    exact hr.1
  have h2 := Gu.put_len r.num
  have h3 := Gu.put_len r.per
  have h4 := Gu.put_len r.burst
  have w1 : Tr.wAllow.length = 5 := rfl
  have w2 : Tr.wDeny.length = 4 := rfl
  have w3 : Tr.wWhen.length = 6 := rfl
  have w4 : Tr.wRate.length = 6 := rfl
  have w5 : Tr.wPer.length = 5 := rfl
  have w6 : Tr.wBurst.length = 7 := rfl
  unfold rtxt
  rw [List.length_append, List.length_append, List.length_append]
  have a1 : 4 ≤ (if r.allow then Tr.wAllow else Tr.wDeny).length ∧ (if r.allow then Tr.wAllow else Tr.wDeny).length ≤ 5 := by split <;> omega
  have a3 : (if r.per = 0 then [] else Tr.wRate ++ (Gu.put r.num ++ (Tr.wPer ++ (Gu.put r.per ++ (Tr.wBurst ++ Gu.put r.burst))))).length ≤ 66 := by
    split
    · simp
    · simp only [List.length_append]; omega
  have a4 : ([59, 10] : List UInt8).length = 2 := rfl
  by_cases hk : kind r.when_ = 0
  · rw [if_pos hk]
    refine ⟨by simp only [List.length_nil]; omega, fun hb => ?_⟩
    rw [(zero_of h1 hk hb).2.1]; omega
  · rw [if_neg hk, List.length_append]
    have := txt_sz h1 hk
    exact ⟨by omega, fun _ => by omega⟩
theorem atoms_len : ∀ l : List RuleP, textOk l = true → (∀ r ∈ l, bits r.when_) → 10 * atomsR l ≤ (textsL l).length
  | [], _, _ => by simp [atomsR]
  | r :: l, h, hb => by
    unfold textOk at h
    rw [List.all_cons, Bool.and_eq_true] at h
    have h1 := (rtxt_sz h.1).2 (hb r (List.mem_cons_self ..))
    have h2 := atoms_len l h.2 fun x hx => hb x (List.mem_cons_of_mem _ hx)
    have e : atomsR (r :: l) = atoms r.when_ + atomsR l := by simp [atomsR]
    have e2 : textsL (r :: l) = rtxt r ++ textsL l := by simp [textsL]
    rw [e, e2, List.length_append]; omega
theorem bd_dp_all : ∀ N : Nat, (∀ e, dp e ≤ N → bd e + 1 ≤ 2 * dp e) ∧ (∀ k l, dpL l ≤ N → bdL k l ≤ 2 * dpL l) := by
  intro N
  induction N with
  | zero =>
    refine ⟨fun e h => absurd (Tr.dp_pos e) (by omega), fun k l h => ?_⟩
    cases l with
    | nil => rw [bdL]; exact Nat.zero_le _
    | cons e l => rw [dpL] at h; have := Tr.dp_pos e; omega
  | succ N ih =>
    have h1 : ∀ e, dp e ≤ N + 1 → bd e + 1 ≤ 2 * dp e := by
      intro e hd
      obtain ⟨k, f, r, l, h, o⟩ := e
      rw [dp] at hd ⊢
      rw [bd]
      have h2 := ih.2 2 o (by omega)
      have h3 := ih.2 k o (by omega)
      split
      · omega
      · split <;> omega
    refine ⟨h1, fun k l => ?_⟩
    induction l with
    | nil => intro _; rw [bdL]; exact Nat.zero_le _
    | cons e l il =>
      intro hd
      rw [dpL] at hd ⊢
      rw [bdL]
      have h2 := h1 e (by omega)
      have h3 := il (by omega)
      have hb : bump k (kind e) ≤ 1 := by unfold bump; split <;> omega
      omega
theorem bd_dp (e : ExprP) : bd e + 1 ≤ 2 * dp e := (bd_dp_all _).1 e (Nat.le_refl _)
theorem small_dp_all : ∀ N : Nat, (∀ e d, dp e ≤ N → Tr.small e d = true → (dp e : Int) ≤ d + 1) ∧ (∀ l d, dpL l ≤ N → Tr.smallL l d = true → (dpL l : Int) ≤ max (d + 1) 0) := by
  intro N
  induction N with
  | zero =>
    refine ⟨fun e d h => absurd (Tr.dp_pos e) (by omega), fun l d h => ?_⟩
    cases l with
    | nil => intro _; rw [dpL]; omega
    | cons e l => rw [dpL] at h; have := Tr.dp_pos e; omega
  | succ N ih =>
    have h1 : ∀ e d, dp e ≤ N + 1 → Tr.small e d = true → (dp e : Int) ≤ d + 1 := by
      intro e d hd hs
      obtain ⟨k, f, r, l, h, o⟩ := e
      rw [dp] at hd ⊢
      rw [Tr.small] at hs
      simp only [Bool.and_eq_true, decide_eq_true_eq] at hs
      have := ih.2 o (d - 1) (by omega) hs.2.2.2
      omega
    refine ⟨h1, fun l => ?_⟩
    induction l with
    | nil => intro d _ _; rw [dpL]; omega
    | cons e l il =>
      intro d hd hs
      rw [dpL] at hd ⊢
      rw [Tr.smallL, Bool.and_eq_true] at hs
      have h2 := h1 e d (by omega) hs.1
      have h3 := il d (by omega) hs.2
      omega
theorem small_bd {e : ExprP} (h : Tr.small e 4 = true) : bd e ≤ 16 := by
  have h1 := (small_dp_all _).1 e 4 (Nat.le_refl _) h
  have h2 := bd_dp e
  omega
/-- A small policy's text is read as the policy. -/
theorem few_back (l : List RuleP) (hf : Tr.few l 6 = true) (hok : textOk l = true) (hb : ∀ r ∈ l, bits r.when_) (hl : (textsL l).length ≤ 4096) : text (textsL l) = (lines 1 l, 0, 0) := by
  have ha := atoms_len l hok hb
  rw [Tr.few, Bool.and_eq_true, decide_eq_true_eq, List.all_eq_true] at hf
  have h := policy_back 16 512 64 l hok (fun r hr => ⟨hb r hr, small_bd (hf.2 r hr)⟩) (by omega) (by omega)
  rw [text_mk hl h.1, h.2]
  rfl
theorem rules_lines : ∀ (l : List RuleP) (ln : Int), (∀ r ∈ l, bits r.when_) → Tr.rules l (lines ln l) = true
  | [], ln, _ => rfl
  | r :: l, ln, h => by
    rw [lines, Tr.rules, rules_lines l (ln + 1) fun x hx => h x (List.mem_cons_of_mem _ hx)]
    unfold rule1 atLine
    simp [same_refl (h r (List.mem_cons_self ..))]
theorem go_len {s : List UInt8} {ln : Int} {T : List TokP} (h : Lx.go s ln = .ok T) : T.length ≤ s.length := (Lx.go_size _ s ln T (Nat.le_refl _) h).1
/-- What is read may be. -/
theorem read_good {s : List UInt8} {a : List RuleP} {i : Int} (h : text s = (a, i, 0)) : textOk a = true ∧ (∀ r ∈ a, bits r.when_ ∧ bd r.when_ ≤ 16 ∧ sz r.when_ ≤ 4096) ∧ atomsR a ≤ 512 ∧ a.length ≤ 64 := by
  obtain ⟨hl, _, T, hg, hr⟩ := text_ok h
  have := rules_good 16 512 64 _ 0 ⟨T, 0⟩ a hr (go_tokG hg) (Nat.zero_le _) (Nat.zero_le _)
  have ht := go_len hg
  refine ⟨this.1, fun r hr => ⟨(this.2.1 r hr).1, (this.2.1 r hr).2.1, ?_⟩, by simpa using this.2.2.1, by simpa using this.2.2.2⟩
  have := (this.2.1 r hr).2.2
  simp only at this
  omega
/-- What is read, written, is read as the same. -/
theorem read_back {s : List UInt8} {a : List RuleP} {i : Int} (h : text s = (a, i, 0)) (hl : (textsL a).length ≤ 4096) : text (textsL a) = (lines 1 a, 0, 0) := by
  obtain ⟨h1, h2, h3, h4⟩ := read_good h
  have := policy_back 16 512 64 a h1 (fun r hr => ⟨(h2 r hr).1, (h2 r hr).2.1⟩) h3 h4
  rw [text_mk hl this.1, this.2]
  rfl
end Go.Proofs.YtmcgflpgkkophaaGreatDoor.Pa
/- Two texts behind one another; blanks and remarks between tokens; nots and brackets: plain words. Conditions: none. -/
namespace Go.Proofs.YtmcgflpgkkophaaGreatDoor.Pa
set_option linter.unusedVariables false
open Go.RowKit
open Tr (kind field rs lo hi of dp dpL right rightL must range1 rng rangesR numR atomR manyR plain txt txtL brack inner atoms atomsL same sameL ruleR textOk textsL rtxt rule1)
theorem like_later (d : Int) (T : List TokP) : Like T (T.map (Lx.later d)) := by
  unfold Like
  rw [List.map_map]
  rfl
theorem rules_refl_lines : ∀ (c l : List RuleP) (i j : Int), (∀ r ∈ l, bits r.when_) → lines i c = lines j l → i = j → Tr.rules c l = true
  | [], [], _, _, _, _, _ => rfl
  | a :: c, b :: l, i, j, hb, h, e => by
    subst e
    rw [lines, lines] at h
    injection h with h1 h2
    rw [Tr.rules, rules_refl_lines c l (i + 1) (i + 1) (fun x hx => hb x (List.mem_cons_of_mem _ hx)) h2 rfl]
    have hbb := hb b (List.mem_cons_self ..)
    obtain ⟨a1, a2, a3, a4, a5, a6⟩ := a
    obtain ⟨b1, b2, b3, b4, b5, b6⟩ := b
    unfold atLine at h1
    injection h1 with e1 e2 e3 e4 e5 _
    subst e1 e2 e3 e4 e5
    unfold rule1
    rw [same_refl hbb]
    simp
  | [], b :: m, _, _, _, h, _ => by cases h
  | a :: l, [], _, _, _, h, _ => by cases h
theorem rules_append : ∀ (a b c d : List RuleP), Tr.rules a b = true → Tr.rules c d = true → Tr.rules (a ++ c) (b ++ d) = true
  | [], [], c, d, _, h => h
  | x :: a, y :: b, c, d, h, h' => by
    rw [Tr.rules, Bool.and_eq_true] at h
    show Tr.rules (x :: (a ++ c)) (y :: (b ++ d)) = true
    rw [Tr.rules, h.1, rules_append a b c d h.2 h']; rfl
  | [], y :: b, _, _, h, _ => by cases h
  | x :: a, [], _, _, h, _ => by cases h
theorem rules_self (l : List RuleP) (h : ∀ r ∈ l, bits r.when_) : Tr.rules l l = true := rules_refl_lines l l 1 1 h rfl rfl
/-- Two policies, one behind the other. -/
theorem splits {s t : List UInt8} {a b : List RuleP} {i j : Int} (hs : text s = (a, i, 0)) (ht : text t = (b, j, 0)) (hl : s.length + t.length < 4096) (hR : a.length + b.length ≤ 64) :
    (∃ c, text (s ++ 10 :: t) = (c, 0, 0) ∧ Tr.rules c (a ++ b) = true ∧ atomsR c ≤ 512) ∨ ∃ ln, text (s ++ 10 :: t) = ([], ln, 9) := by
  obtain ⟨_, _, T1, g1, r1⟩ := text_ok hs
  obtain ⟨_, _, T2, g2, r2⟩ := text_ok ht
  have hg : Lx.go (s ++ 10 :: t) 1 = .ok (T1 ++ T2.map (Lx.later ((Lx.feeds s : Int) + 1))) := by
    rw [Lx.go_joins t _ s 1 (Nat.le_refl _), g1]
    show (Lx.go t (1 + (Lx.feeds s : Int) + 1)).map _ = _
    rw [show (1 : Int) + (Lx.feeds s : Int) + 1 = 1 + ((Lx.feeds s : Int) + 1) by omega, Lx.go_later _ _ t 1 (Nat.le_refl _), g2]
    rfl
  have hlen : (s ++ 10 :: t).length ≤ 4096 := by rw [List.length_append, List.length_cons]; omega
  have hT1 := go_tokG g1
  have hT2 := go_tokG g2
  have hb := fun (r : RuleP) hr => ((read_good ht).2.1 r hr).1
  have ha := fun (r : RuleP) hr => ((read_good hs).2.1 r hr).1
  rw [text_mk hlen hg]
  obtain ⟨T3, hT3⟩ : ∃ T, T = T2.map (Lx.later ((Lx.feeds s : Int) + 1)) := ⟨_, rfl⟩
  rw [← hT3] at hg ⊢
  have hlk : Like T2 T3 := by rw [hT3]; exact like_later _ _
  have e1 : rules 16 512 64 (T1 ++ T3) = (rulesF 16 512 64 ((T1 ++ T3).length + 1) a.length ⟨T3, atomsR a⟩).map (a ++ ·) := by
    have := rules_app 16 512 64 T3 _ 0 ⟨T1, 0⟩ a ((T1 ++ T3).length + 1) (by show T1.length < T1.length + 1; omega) r1 hT1 (by show (T1 ++ T3).length < _; omega)
    simp only [Nat.zero_add] at this
    exact this
  have r2' : rulesF 16 512 64 ((T1 ++ T3).length + 1) 0 ⟨T2, 0⟩ = .ok b := by
    rw [← r2]
    have hl3 := like_len hlk
    exact rulesF_more 16 512 64 _ _ 0 ⟨T2, 0⟩ (by show T2.length < (T1 ++ T3).length + 1; rw [List.length_append]; omega) (by show T2.length < T2.length + 1; omega)
  have goods : ∀ c, rules 16 512 64 (T1 ++ T3) = .ok c → atomsR c ≤ 512 := fun c hc => by
    have := rules_good 16 512 64 _ 0 ⟨T1 ++ T3, 0⟩ c hc (hT1.app (like_tokG hT2 hlk)) (Nat.zero_le _) (Nat.zero_le _)
    simpa using this.2.2.1
  obtain ⟨b', h2, h3⟩ := rules_any 16 512 64 _ _ _ b T3 r2' hlk
  have hlb : b'.length = b.length := by
    have hll : ∀ (l : List RuleP) (i : Int), (lines i l).length = l.length := by
      intro l
      induction l with
      | nil => intro i; rfl
      | cons x l ih => intro i; rw [lines, List.length_cons, List.length_cons, ih]
    have := congrArg List.length h3
    rwa [hll, hll] at this
  rcases rules_off 16 512 64 (atomsR a) _ 0 a.length ⟨T3, 0⟩ b' h2 (by omega) (like_tokG hT2 hlk) with h | ⟨ln, h⟩
  · left
    simp only [Nat.zero_add] at h
    rw [h] at e1
    have e1 : rules 16 512 64 (T1 ++ T3) = .ok (a ++ b') := e1
    exact ⟨a ++ b', by rw [e1]; rfl, rules_append a a b' b (rules_self a ha) (rules_refl_lines b' b 1 1 hb h3 rfl), goods _ e1⟩
  · right
    simp only [Nat.zero_add] at h
    rw [h] at e1
    have e1 : rules 16 512 64 (T1 ++ T3) = .error (ln, 9) := e1
    exact ⟨ln, by rw [e1]; rfl⟩
/-! Blanks, lines and remarks between tokens. -/
def gap : List UInt8 := [10, 9, 35, 32, 120, 10]
def spread (T : List TokP) : List UInt8 := T.flatMap fun k => bl k.text ++ gap
theorem go_gap (m : List UInt8) (ln : Int) : Lx.go (gap ++ m) ln = Lx.go m (ln + 2) := by
  show Lx.go (10 :: 9 :: 35 :: 32 :: 120 :: 10 :: m) ln = _
  rw [go_feed]
  have h9 : ∀ (m : List UInt8) (ln : Int), Lx.go (9 :: m) ln = Lx.go m ln := fun m ln => by
    rw [Lx.go_some (n := 0) (k := Lx.none_) (by rfl), List.drop_zero, next_ne (by decide), map_none]
  have h35 : Lx.piece 35 (32 :: 120 :: 10 :: m) = some (2, Lx.none_) := by
    have : Lx.run Lx.noLf (32 :: 120 :: 10 :: m) = 2 := by
      simp [Lx.run, Lx.noLf]
    show some (Lx.run Lx.noLf (32 :: 120 :: 10 :: m), Lx.none_) = _
    rw [this]
  rw [h9, Lx.go_some h35, next_ne (by decide), map_none]
  show Lx.go (10 :: m) (ln + 1) = _
  rw [go_feed, show ln + 1 + 1 = ln + 2 by omega]
theorem go_spread : ∀ (T : List TokP) (ln : Int), (∀ k ∈ T, Lx.good k) → ∃ T', Like T T' ∧ Lx.go (spread T) ln = .ok T'
  | [], ln, _ => ⟨[], rfl, Lx.go_nil ln⟩
  | k :: T, ln, h => by
    obtain ⟨hk, c, t, ht, hc, hp⟩ := h k (List.mem_cons_self ..)
    have e1 : spread (k :: T) = (c :: t) ++ (10 :: (9 :: 35 :: 32 :: 120 :: 10 :: spread T)) := by
      show (bl k.text ++ gap) ++ spread T = _
      rw [ht, List.append_assoc]; rfl
    have hp' : Lx.piece c (t ++ 10 :: (9 :: 35 :: 32 :: 120 :: 10 :: spread T)) = some (t.length, Lx.at_ 0 k) := (Lx.piece_app c t 10 rfl rfl _ (.inl rfl)).trans hp
    have hc10 : c ≠ 10 := by
      intro e
      subst e
      rw [show Lx.piece 10 t = some (0, Lx.none_) from rfl] at hp
      injection hp with hp
      injection hp with _ hp
      exact absurd (show (Lx.at_ 0 k).kind = 0 by rw [← hp]; rfl) hk
    obtain ⟨T', hl, hg⟩ := go_spread T (ln + 2) fun x hx => h x (List.mem_cons_of_mem _ hx)
    refine ⟨Lx.at_ ln k :: T', ?_, ?_⟩
    · unfold Like at hl ⊢
      rw [List.map_cons, List.map_cons, hl]; rfl
    · rw [e1, List.cons_append, Lx.go_some hp', next_ne hc10, List.drop_append_of_le_length (Nat.le_refl _), List.drop_length, List.nil_append]
      have := go_gap (spread T) ln
      rw [show (10 :: (9 :: 35 :: 32 :: 120 :: 10 :: spread T)) = gap ++ spread T from rfl, this, hg, map_put _ _ _ (show (Lx.at_ 0 k).kind ≠ 0 from hk)]
      rfl
theorem blanks {s : List UInt8} {a : List RuleP} {i : Int} {T : List TokP} (hs : text s = (a, i, 0)) (hg : Lx.go s 1 = .ok T) (hl : (spread T).length ≤ 4096) :
    ∃ b, text (spread T) = (b, 0, 0) ∧ Tr.rules a b = true := by
  obtain ⟨_, _, T1, g1, r1⟩ := text_ok hs
  obtain rfl : T = T1 := by rw [hg] at g1; injection g1
  obtain ⟨T', hlk, hg'⟩ := go_spread T 1 (Lx.go_good _ s 1 T (Nat.le_refl _) hg)
  obtain ⟨b, h2, h3⟩ := rules_any 16 512 64 _ _ _ a T' r1 hlk
  have hb := fun (r : RuleP) hr => ((read_good hs).2.1 r hr).1
  rw [text_mk hl hg']
  have e : rules 16 512 64 T' = .ok b := by
    rw [← h2]
    exact rulesF_more 16 512 64 _ _ 0 ⟨T', 0⟩ (by show T'.length < T'.length + 1; omega) (by show T'.length < T.length + 1; rw [like_len hlk]; omega)
  rw [e]
  refine ⟨b, rfl, ?_⟩
  -- the same the other way round
  have hsym : ∀ (a b : List RuleP) (i : Int), (∀ r ∈ a, bits r.when_) → lines i b = lines i a → Tr.rules a b = true := by
    intro a
    induction a with
    | nil => intro b i _ h; cases b with
      | nil => rfl
      | cons x y => cases h
    | cons x a ih => intro b i hb h; cases b with
      | nil => cases h
      | cons y b =>
        rw [lines, lines] at h
        injection h with h1 h2
        rw [Tr.rules, ih b (i + 1) (fun z hz => hb z (List.mem_cons_of_mem _ hz)) h2]
        have hbb := hb x (List.mem_cons_self ..)
        obtain ⟨a1, a2, a3, a4, a5, a6⟩ := x
        obtain ⟨b1, b2, b3, b4, b5, b6⟩ := y
        unfold atLine at h1
        injection h1 with e1 e2 e3 e4 e5 _
        subst e1 e2 e3 e4 e5
        unfold rule1
        rw [same_refl hbb]
        simp
  exact hsym a b 1 hb h3
/-! Nots and brackets. -/
def opens (l : List Bool) : List UInt8 := l.flatMap fun b => if b then [110, 111, 116, 32] else [40]
def closes (l : List Bool) : List UInt8 := l.flatMap fun b => if b then [] else [41]
def nest (l : List Bool) : List UInt8 := [100, 101, 110, 121, 32, 119, 104, 101, 110, 32] ++ (opens l ++ ([102, 117, 110, 99, 32, 51] ++ (closes l ++ [59])))
def openT (l : List Bool) : List TokP := l.map fun b => if b then tw 1 wNot else tm 1 40
def closeT (l : List Bool) : List TokP := l.flatMap fun b => if b then [] else [tm 1 41]
theorem go_opens : ∀ (l : List Bool) (m : List UInt8), Lx.go (opens l ++ m) 1 = pre (openT l) (Lx.go m 1)
  | [], m => by rw [show opens [] ++ m = m from rfl, show openT [] = [] from rfl, pre_nil]
  | true :: l, m => by
    have e : opens (true :: l) ++ m = wNot ++ (32 :: (opens l ++ m)) := by simp [opens, wNot]
    rw [e, go_word wNot (by decide) (by decide) _ (ends_cons (by decide) _), go_blank, go_opens l m, pre_pre]
    rfl
  | false :: l, m => by
    have e : opens (false :: l) ++ m = 40 :: (opens l ++ m) := by simp [opens]
    rw [e, go_mark 40 (by decide), go_opens l m, pre_pre]
    rfl
theorem go_closes : ∀ (l : List Bool) (m : List UInt8), Lx.go (closes l ++ m) 1 = pre (closeT l) (Lx.go m 1)
  | [], m => by rw [show closes [] ++ m = m from rfl, show closeT [] = [] from rfl, pre_nil]
  | true :: l, m => by
    have e : closes (true :: l) ++ m = closes l ++ m := by simp [closes]
    rw [e, go_closes l m]
    rfl
  | false :: l, m => by
    have e : closes (false :: l) ++ m = 41 :: (closes l ++ m) := by simp [closes]
    rw [e, go_mark 41 (by decide), go_closes l m, pre_pre]
    rfl
theorem ends_closes (l : List Bool) : Ends (closes l ++ [59]) := by
  induction l with
  | nil => exact ends_cons (by decide) _
  | cons b l ih =>
    cases b
    · exact ends_cons (by decide) _
    · exact ih
def func3 : List TokP := [tw 1 (Tr.word 3), tn 1 3]
theorem go_nest (l : List Bool) : Lx.go (nest l) 1 = .ok (tw 1 Tr.wDeny :: tw 1 wWhen :: (openT l ++ (func3 ++ (closeT l ++ [tm 1 59])))) := by
  have e : nest l = Tr.wDeny ++ (32 :: (wWhen ++ (32 :: (opens l ++ (Tr.word 3 ++ (32 :: (Gu.put 3 ++ (closes l ++ [59])))))))) := by
    have p3 : Gu.put 3 = [51] := Gu.put_getN (l := [51]) (by decide)
    rw [p3]
    simp [nest, Tr.wDeny, wWhen, Tr.word]
  have h59 : Lx.go [59] 1 = .ok [tm 1 59] := by rw [go_mark 59 (by decide), Lx.go_nil]; rfl
  rw [e, go_word Tr.wDeny (by decide) (by decide) _ (ends_cons (by decide) _), go_blank, go_word wWhen (by decide) (by decide) _ (ends_cons (by decide) _), go_blank, go_opens,
    go_word (Tr.word 3) (by decide) (by decide) _ (ends_cons (by decide) _), go_blank, go_num 3 (by decide) _ (ends_closes l), go_closes, h59]
  simp only [pre_pre]
  unfold pre func3
  simp
def wrap : List Bool → ExprP
  | [] => .mk 1 3 [(3, 3)] 0 0 []
  | true :: l => .mk 2 0 [] 0 0 [wrap l]
  | false :: l => wrap l
theorem lst_no (q : Rd ExprP) (hq : Down q) (t : List UInt8) {s : PSt} {x : Int × Int} (h : q s = .error x) (k : Int) : lst k q t s = .error x := by
  unfold lst
  rw [sep_eq hq, h]; rfl
/-- So many nots and brackets as may be are read; one more is not. -/
theorem part_nest (A : Nat) (hA : 1 ≤ A) : ∀ (l : List Bool) (K : Nat) (m : List TokP), Stops m → 
    part A K ⟨openT l ++ (func3 ++ (closeT l ++ m)), 0⟩ = if l.length ≤ K then .ok (wrap l, ⟨m, 1⟩) else .error (1, 8)
  | [], K, m, hm => by
    rw [if_pos (show ([] : List Bool).length ≤ K from Nat.zero_le _)]
    show part A K ⟨func3 ++ m, 0⟩ = _
    have hf : func3 = tk 1 (.mk 1 3 [(3, 3)] 0 0 []) := by
      rw [tk, if_pos rfl, if_neg (by decide)]; rfl
    rw [part_atom A K _ (by rfl) (by rfl), hf]
    have := atom_back A 1 (.mk 1 3 [(3, 3)] 0 0 []) rfl (by
      have hp : plain 0 = true := Fp.sameB_self (by decide)
      rw [right, if_pos rfl]
      unfold atomR
      rw [if_neg (by decide), hp]
      decide) (by rw [bits, bitsL]; exact ⟨⟨by decide, by decide⟩, trivial⟩) m 0 hm (by omega)
    exact this
  | true :: l, K, m, hm => by
    show part A K ⟨tw 1 wNot :: (openT l ++ (func3 ++ (closeT l ++ m))), 0⟩ = _
    cases K with
    | zero =>
      rw [if_neg (by simp), part_zero, isW_tw, if_pos (by rfl)]; rfl
    | succ K =>
      rw [part_succ, isW_tw, if_pos (by decide), adv_mk, part_nest A hA l K m hm]
      by_cases h : l.length ≤ K
      · rw [if_pos h, bnd_ok, if_pos (by rw [List.length_cons]; omega)]; rfl
      · rw [if_neg h, bnd_err, if_neg (by rw [List.length_cons]; omega)]
  | false :: l, K, m, hm => by
    have e : openT (false :: l) ++ (func3 ++ (closeT (false :: l) ++ m)) = tm 1 40 :: (openT l ++ (func3 ++ (closeT l ++ (tm 1 41 :: m)))) := by
      have hc : ∀ l : List Bool, closeT (false :: l) ++ m = closeT l ++ (tm 1 41 :: m) := by
        intro l
        show tm 1 41 :: closeT l ++ m = _
        have : ∀ l : List Bool, tm 1 41 :: closeT l = closeT l ++ [tm 1 41] := by
          intro l
          induction l with
          | nil => rfl
          | cons b l ih =>
            cases b
            · show tm 1 41 :: (tm 1 41 :: closeT l) = (tm 1 41 :: closeT l) ++ [tm 1 41]
              exact congrArg (tm 1 41 :: ·) ih
            · exact ih
        rw [this, List.append_assoc]; rfl
      rw [hc]; rfl
    rw [e]
    obtain ⟨h1, h2, h3⟩ := stops_tm 1 m
    cases K with
    | zero =>
      rw [if_neg (by simp), part_zero, isW_tm, isW_tm, if_pos (by decide)]; rfl
    | succ K =>
      rw [part_succ, isW_tm, if_neg (by decide), isW_tm, if_pos (by decide), adv_mk]
      have hp := part_nest A hA l K (tm 1 41 :: m) h1
      by_cases h : l.length ≤ K
      · rw [if_pos h] at hp
        have he : expr (part A K) ⟨openT l ++ (func3 ++ (closeT l ++ (tm 1 41 :: m))), 0⟩ = .ok (wrap l, ⟨tm 1 41 :: m, 1⟩) := sep_one _ (lst_down 3 (part_down A K) wAnd) wOr (sep_one _ (part_down A K) wAnd hp h2 3) h3 4
        rw [he, bnd_ok, mustR_tm, bnd_ok, if_pos (by rw [List.length_cons]; omega)]; rfl
      · rw [if_neg h] at hp
        have he : expr (part A K) ⟨openT l ++ (func3 ++ (closeT l ++ (tm 1 41 :: m))), 0⟩ = .error (1, 8) := by
          exact lst_no _ (lst_down 3 (part_down A K) wAnd) wOr (lst_no _ (part_down A K) wAnd hp 3) 4
        rw [he, bnd_err, if_neg (by rw [List.length_cons]; omega)]
theorem deep_text (l : List Bool) (hl : (nest l).length ≤ 4096) : text (nest l) = if l.length ≤ 16 then ([⟨false, wrap l, 0, 0, 0, 1⟩], 0, 0) else ([], 1, 8) := by
  rw [text_mk hl (go_nest l)]
  obtain ⟨n, hn⟩ : ∃ n, (tw 1 Tr.wDeny :: tw 1 wWhen :: (openT l ++ (func3 ++ (closeT l ++ [tm 1 59])))).length = n + 1 := ⟨_, rfl⟩
  have hm : Stops [tm 1 59] := ⟨by rw [isW_tm]; decide, by rw [isW_tm]; decide⟩
  have hp := part_nest 512 (by decide) l 16 [tm 1 59] hm
  have hw : whenR 16 512 ⟨tw 1 wWhen :: (openT l ++ (func3 ++ (closeT l ++ [tm 1 59]))), 0⟩ = if l.length ≤ 16 then .ok (wrap l, ⟨[tm 1 59], 1⟩) else .error (1, 8) := by
    unfold whenR
    rw [isW_tw, if_pos (by decide), adv_mk]
    by_cases h : l.length ≤ 16
    · rw [if_pos h] at hp ⊢
      exact sep_one _ (lst_down 3 (part_down 512 16) wAnd) wOr (sep_one _ (part_down 512 16) wAnd hp (by show isW wAnd [tm 1 59] = false; rw [isW_tm]; decide) 3) (by show isW wOr [tm 1 59] = false; rw [isW_tm]; decide) 4
    · rw [if_neg h] at hp ⊢
      exact lst_no _ (lst_down 3 (part_down 512 16) wAnd) wOr (lst_no _ (part_down 512 16) wAnd hp 3) 4
  have hr : rule 16 512 ⟨tw 1 Tr.wDeny :: tw 1 wWhen :: (openT l ++ (func3 ++ (closeT l ++ [tm 1 59]))), 0⟩ = if l.length ≤ 16 then .ok (⟨false, wrap l, 0, 0, 0, 1⟩, ⟨[], 1⟩) else .error (1, 8) := by
    unfold rule
    have hh : headR ⟨tw 1 Tr.wDeny :: tw 1 wWhen :: (openT l ++ (func3 ++ (closeT l ++ [tm 1 59]))), 0⟩ = .ok (false, ⟨tw 1 wWhen :: (openT l ++ (func3 ++ (closeT l ++ [tm 1 59]))), 0⟩) := headR_back 1 false _ 0
    rw [hh, bnd_ok, hw]
    by_cases h : l.length ≤ 16
    · rw [if_pos h, if_pos h, bnd_ok]
      have : rateO ⟨[tm 1 59], 1⟩ = .ok ((0, 0, 0), ⟨[tm 1 59], 1⟩) := rfl
      rw [this, bnd_ok, mustR_tm, bnd_ok]; rfl
    · rw [if_neg h, if_neg h, bnd_err]
  unfold rules
  rw [hn, rulesF, if_neg (by simp), if_neg (by omega), hr]
  by_cases h : l.length ≤ 16
  · rw [if_pos h, if_pos h]
    show answer (Except.map _ (rulesF 16 512 64 (n + 1) 1 ⟨[], 1⟩)) = _
    rw [rulesF, if_pos (by rfl)]; rfl
  · rw [if_neg h, if_neg h]; rfl
theorem nest_len (l : List Bool) : (nest l).length ≤ 17 + 4 * l.length := by
  have h1 : ∀ l : List Bool, (opens l).length + (closes l).length ≤ 4 * l.length := by
    intro l
    induction l with
    | nil => simp [opens, closes]
    | cons b l ih =>
      cases b
      · show ((40 : UInt8) :: opens l).length + ((41 : UInt8) :: closes l).length ≤ _
        simp only [List.length_cons]; omega
      · show ([110, 111, 116, 32] ++ opens l : List UInt8).length + (closes l).length ≤ _
        simp only [List.length_append, List.length_cons, List.length_nil]; omega
  have := h1 l
  unfold nest
  simp only [List.length_append, List.length_cons, List.length_nil]
  omega
end Go.Proofs.YtmcgflpgkkophaaGreatDoor.Pa
