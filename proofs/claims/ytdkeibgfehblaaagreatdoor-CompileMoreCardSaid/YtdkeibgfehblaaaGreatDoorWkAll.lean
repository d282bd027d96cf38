/- Several texts in one: WkA, WkB. Conditions: as each part says. -/
import Derived.Test.YtdkeibgfehblaaaGreatDoorMeA
import Derived.Test.YtdkeibgfehblaaaGreatDoorNdA
import Derived.Test.YtdkeibgfehblaaaGreatDoorNtA
/- Through a decision tree, in plain words. Conditions: none. -/
namespace Go.Proofs.YtdkeibgfehblaaaGreatDoor.Wk
set_option linter.unusedVariables false
open Go.RowKit
open Nd (zeroN)
/-- Where a test goes on. -/
noncomputable def next (x : FactsP) (n : NodeP) : Int := if Me.holds x n.atom then n.yes else n.no
noncomputable def go (l : List NodeP) (x : FactsP) : Nat → Nat → Int × Nat
  | 0, _ => (-1, 0)
  | n + 1, k => if (l.getD k zeroN).leaf then ((l.getD k zeroN).rule, 0) else ((go l x n (next x (l.getD k zeroN)).toNat).1, (go l x n (next x (l.getD k zeroN)).toNat).2 + 1)
/-- From a node on: the leaf's rule, and how many tests. -/
noncomputable def walk (l : List NodeP) (x : FactsP) (k : Nat) : Int × Nat := go l x (k + 1) k
noncomputable def top (l : List NodeP) (x : FactsP) : Int × Nat := walk l x (l.length - 1)
theorem right_at : ∀ (l : List NodeP) (i : Int) (k : Nat), Cp.rightF l i = true → k < l.length → (if (l.getD k zeroN).leaf then Cp.bare (l.getD k zeroN) else Cp.test (l.getD k zeroN) (i + k)) = true
  | [], _, k, _, h => absurd h (by simp)
  | a :: l, i, 0, h, _ => by
    rw [Cp.rightF, Bool.and_eq_true] at h
    simpa using h.1
  | a :: l, i, k + 1, h, hk => by
    rw [Cp.rightF, Bool.and_eq_true] at h
    have := right_at l (i + 1) k h.2 (by simpa using hk)
    rw [show i + 1 + (k : Int) = i + (k + 1 : Nat) by omega] at this
    exact this
theorem right_test {l : List NodeP} (h : Cp.right l = true) {k : Nat} (hk : k < l.length) (hl : (l.getD k zeroN).leaf = false) (x : FactsP) :
    0 ≤ next x (l.getD k zeroN) ∧ next x (l.getD k zeroN) < k ∧ Tr.right (l.getD k zeroN).atom = true ∧ Tr.kind (l.getD k zeroN).atom = 1 := by
  rw [Cp.right, Bool.and_eq_true] at h
  have := right_at l 0 k h.1 hk
  rw [hl] at this
  simp only [Bool.false_eq_true, if_false, Int.zero_add, Cp.test, Bool.and_eq_true, decide_eq_true_eq, beq_iff_eq] at this
  obtain ⟨⟨⟨⟨⟨⟨⟨h1, h2⟩, h3⟩, h4⟩, h5⟩, h6⟩, h7⟩, h8⟩ := this
  unfold next
  split
  · exact ⟨h3, h4, h8, h7⟩
  · exact ⟨h5, h6, h8, h7⟩
theorem go_fuel {l : List NodeP} (h : Cp.right l = true) (x : FactsP) : ∀ (n m k : Nat), k < l.length → k < n → k < m → go l x n k = go l x m k
  | 0, _, _, _, h1, _ => absurd h1 (Nat.not_lt_zero _)
  | _ + 1, 0, _, _, _, h1 => absurd h1 (Nat.not_lt_zero _)
  | n + 1, m + 1, k, hk, h1, h2 => by
    rw [go, go]
    cases hl : (l.getD k zeroN).leaf with
    | true => rfl
    | false =>
      obtain ⟨a, b, _⟩ := right_test h hk hl x
      rw [go_fuel h x n m (next x (l.getD k zeroN)).toNat (by omega) (by omega) (by omega)]
theorem walk_leaf {l : List NodeP} (x : FactsP) {k : Nat} (hl : (l.getD k zeroN).leaf = true) : walk l x k = ((l.getD k zeroN).rule, 0) := by
  unfold walk
  rw [go, hl]; rfl
theorem walk_test {l : List NodeP} (h : Cp.right l = true) (x : FactsP) {k : Nat} (hk : k < l.length) (hl : (l.getD k zeroN).leaf = false) :
    walk l x k = ((walk l x (next x (l.getD k zeroN)).toNat).1, (walk l x (next x (l.getD k zeroN)).toNat).2 + 1) := by
  obtain ⟨a, b, _⟩ := right_test h hk hl x
  unfold walk
  rw [go, hl, go_fuel h x k ((next x (l.getD k zeroN)).toNat + 1) (next x (l.getD k zeroN)).toNat (by omega) (by omega) (by omega)]
  rfl
theorem walk_le {l : List NodeP} (h : Cp.right l = true) (x : FactsP) : ∀ (n k : Nat), k < n → k < l.length → (walk l x k).2 ≤ k
  | 0, _, h1, _ => absurd h1 (Nat.not_lt_zero _)
  | n + 1, k, h1, hk => by
    cases hl : (l.getD k zeroN).leaf with
    | true => rw [walk_leaf x hl]; exact Nat.zero_le _
    | false =>
      obtain ⟨a, b, _⟩ := right_test h hk hl x
      rw [walk_test h x hk hl]
      have := walk_le h x n (next x (l.getD k zeroN)).toNat (by omega) (by omega)
      show (walk l x (next x (l.getD k zeroN)).toNat).2 + 1 ≤ k
      omega
end Go.Proofs.YtdkeibgfehblaaaGreatDoor.Wk
/- A tree of rules, in plain words: it is in order, and tells the first rule. Conditions: none. -/
namespace Go.Proofs.YtdkeibgfehblaaaGreatDoor.Wk
set_option linter.unusedVariables false
open Go.RowKit
open Tr (kind field rs lo hi of zero right atoms atomsL inner)
open Cp (testP leafP lay layN layA layO rulesF rules rightF)
open Nd (zeroN okL full okRs)
/-- Ranges put in order: there is always a way. -/
theorem into_ex (l : List (Int × Int)) (r : Int × Int) (hl : Sp.Right l) (hr : r.1 ≤ r.2) : ∀ k, k ≤ l.length → ∃ out q, Sp.Into l r k out q
  | 0, _ => ⟨[], r, Sp.Into.start l r hr⟩
  | k + 1, h => by
    obtain ⟨out, q, hi⟩ := into_ex l r hl hr k (by omega)
    by_cases ha : (l.getD k (0, 0)).2 + 1 < q.1 ∨ q.2 + 1 < (l.getD k (0, 0)).1
    · exact ⟨_, _, hi.apart (by omega) ha⟩
    · exact ⟨_, _, hi.touch (by omega) hl (by omega) (by omega)⟩
theorem place (out : List (Int × Int)) (c : Int) : ∀ n, n ≤ out.length → (∃ i, i ≤ out.length ∧ (∀ j, j < i → (out.getD j (0, 0)).1 < c) ∧ (i < out.length → c ≤ (out.getD i (0, 0)).1)) ∨ (∀ j, j < n → (out.getD j (0, 0)).1 < c)
  | 0, _ => .inr fun j h => absurd h (Nat.not_lt_zero _)
  | n + 1, h => by
    rcases place out c n (by omega) with hi | hi
    · exact .inl hi
    · by_cases hc : c ≤ (out.getD n (0, 0)).1
      · exact .inl ⟨n, by omega, hi, fun _ => hc⟩
      · refine .inr fun j hj => ?_
        rcases Nat.lt_or_ge j n with h1 | h1
        · exact hi j h1
        · obtain rfl : j = n := by omega
          omega
theorem norm_okl : ∀ zs : List (Int × Int), Sp.NormOk zs ∧ (Sp.norm zs).length ≤ zs.length
  | [] => by
    have h := Sp.norm_of (z := []) (zs := []) Sp.Right.nil fun _ => rfl
    exact ⟨h.2, by rw [h.1]; exact Nat.le_refl _⟩
  | r :: zs => by
    obtain ⟨⟨h1, h2⟩, hl⟩ := norm_okl zs
    by_cases hr : r.1 ≤ r.2
    · obtain ⟨out, q, hi⟩ := into_ex (Sp.norm zs) r h1 hr _ (Nat.le_refl _)
      have ⟨i, hi1, hi2, hi3⟩ : ∃ i, i ≤ out.length ∧ (∀ j, j < i → (out.getD j (0, 0)).1 < q.1) ∧ (i < out.length → q.1 ≤ (out.getD i (0, 0)).1) := by
        rcases place out q.1 out.length (Nat.le_refl _) with h | h
        · exact h
        · exact ⟨out.length, Nat.le_refl _, h, fun h => absurd h (Nat.lt_irrefl _)⟩
      have hd := hi.done h1 i hi2 hi1 hi3
      have ho := hi.1.length_le
      have h := Sp.norm_of (zs := r :: zs) hd.1 fun n => by rw [hd.2, h2, Sp.has_cons, Bool.or_comm]
      refine ⟨h.2, ?_⟩
      rw [h.1]
      simp at ho ⊢
      omega
    · have h := Sp.norm_of (zs := r :: zs) h1 fun n => by
        rw [h2, Sp.has_cons]
        have : Sp.inR r n = false := by simp [Sp.inR]; omega
        rw [this, Bool.false_or]
      exact ⟨h.2, by rw [h.1, List.length_cons]; omega⟩
theorem norm_ok (zs : List (Int × Int)) : Sp.NormOk zs := (norm_okl zs).1
theorem atom_norm (f : Int) (r : List (Int × Int)) (l h : Nat) (x : FactsP) : Me.atom f (Sp.norm r) l h x = Me.atom f r l h x := by
  have hn := norm_ok r
  have e : ∀ v, Sp.has (Sp.norm r) v = Sp.has r v := hn.2
  unfold Me.atom
  simp only [e, Sp.norm_norm hn]
/-- An expression whose ranges have numbers. -/
def okF (e : ExprP) : Prop := okL e ∧ full e = true
theorem okF.sub {k f : Int} {r : List (Int × Int)} {l h : Nat} {o : List ExprP} (hk : okF (.mk k f r l h o)) (k1 : k ≠ 1) : ∀ x ∈ o, okF x := fun x hx => by
  have h2 := hk.2
  rw [full, Nd.fullL_all, Bool.and_eq_true, List.all_eq_true, List.all_eq_true] at h2
  exact ⟨hk.1.sub k1 x hx, h2.2 x hx⟩
theorem okF.nz {k f : Int} {r : List (Int × Int)} {l h : Nat} {o : List ExprP} (hk : okF (.mk k f r l h o)) (k1 : k ≠ 1) : ∀ x ∈ o, kind x ≠ 0 := fun x hx => by
  have h3 := hk.1.2.2
  rw [right, if_neg k1, Tr.rightL_all] at h3
  simp only [Bool.and_eq_true, List.all_eq_true] at h3
  have := (h3.2.2 x hx).1
  simpa using this
theorem same_zero : Tr.same zero zero = true := by decide
theorem bare_leaf (i : Int) (h : -1 ≤ i) : Cp.bare (leafP i) = true := by
  unfold Cp.bare leafP
  simp [h, same_zero]
/-- The atom of a test is one that may be. -/
theorem right_norm {f : Int} {r : List (Int × Int)} {l h : Nat} {o : List ExprP} (hk : okF (.mk 1 f r l h o)) : right (.mk 1 f (Sp.norm r) l h []) = true := by
  have h3 := hk.1.2.2
  have h2 := hk.2
  rw [full, Bool.and_eq_true, List.all_eq_true] at h2
  rw [right, if_pos rfl, Tr.atomR] at h3
  rw [right, if_pos rfl, Tr.atomR]
  simp only [Bool.and_eq_true, decide_eq_true_eq, beq_iff_eq] at h3
  obtain ⟨_, h4, h5, h6⟩ := h3
  have hn := norm_ok r
  have hl0 : ([] : List ExprP).length = 0 := rfl
  rw [decide_eq_true h4, decide_eq_true h5, hl0]
  simp only [Bool.true_and, BEq.rfl]
  by_cases f6 : f = 6
  · rw [if_pos f6] at h6 ⊢
    rw [Bool.and_eq_true, beq_iff_eq] at h6
    have : r = [] := List.eq_nil_of_length_eq_zero h6.1
    subst this
    have e : Sp.norm [] = [] := (Sp.norm_of Sp.Right.nil fun _ => rfl).1
    rw [e]
    simpa using h6.2
  · rw [if_neg f6] at h6 ⊢
    rw [Bool.and_eq_true, Bool.and_eq_true] at h6
    obtain ⟨h7, h8, h9⟩ := h6
    rw [Bool.and_eq_true, Bool.and_eq_true]
    refine ⟨?_, ?_, h9⟩
    · unfold Tr.rangesR at h7 ⊢
      rw [List.all_eq_true] at h7 ⊢
      have hb := Sp.norm_fit hn (lo := 0) (hi := 9007199254740992) (fun p hp => by
        have := h7 p hp
        rw [Bool.and_eq_true] at this
        exact ⟨Gu.inR_out this.1, Gu.inR_out this.2⟩)
      intro p hp
      obtain ⟨⟨a, b⟩, c, d⟩ := hb p hp
      rw [Bool.and_eq_true]
      exact ⟨Gu.inR_mk a b, Gu.inR_mk c d⟩
    · cases hr : r with
      | nil => rw [hr] at h8; exact absurd h8 (by decide)
      | cons p r' =>
        have hp : p.1 ≤ p.2 := by
          have := h2.1 p (by rw [hr]; exact List.mem_cons_self ..)
          simpa using this
        have hh : Sp.has (Sp.norm r) p.1 = true := by
          rw [hn.2, hr, Sp.has_cons]
          have : Sp.inR p p.1 = true := by simp [Sp.inR, hp]
          rw [this]; rfl
        cases hq : Sp.norm r with
        | nil => rw [hq] at hh; cases hh
        | cons a b => rw [← hr, hq]; rfl
theorem rightF_snoc (a : NodeP) : ∀ (t : List NodeP) (i : Int), rightF (t ++ [a]) i = (rightF t i && (if a.leaf then Cp.bare a else Cp.test a (i + t.length)))
  | [], i => by simp [rightF]
  | b :: t, i => by
    rw [List.cons_append, rightF, rightF, rightF_snoc a t (i + 1), Bool.and_assoc]
    rw [show i + 1 + (t.length : Int) = i + ((b :: t).length : Nat) by simp; omega]
/-- A place in a list. -/
def In (t : List NodeP) (y : Int) : Prop := 0 ≤ y ∧ y < t.length
theorem In.pre {t u : List NodeP} {y : Int} (h : In t y) (hp : t <+: u) : In u y := ⟨h.1, by have := hp.length_le; have := h.2; omega⟩
mutual
theorem lay_right : ∀ (e : ExprP) (t : List NodeP) (y n : Int), okF e → In t y → In t n → rightF t 0 = true → rightF (lay t e y n).1 0 = true ∧ In (lay t e y n).1 (lay t e y n).2 ∧ (kind e ≠ 0 → (lay t e y n).2 + 1 = (lay t e y n).1.length)
  | .mk k f r l h o, t, y, n, hk, hy, hn, ht => by
    by_cases k1 : k = 1
    · rw [Nd.lay_1 t k1]
      subst k1
      refine ⟨?_, ⟨by simp, by simp; omega⟩, fun _ => by simp⟩
      show rightF (t ++ [testP f r l h y n]) 0 = true
      rw [rightF_snoc, ht]
      have hr := right_norm hk
      have h1 := hy.1
      have h2 := hy.2
      have h3 := hn.1
      have h4 := hn.2
      simp [testP, Cp.test, kind, hr, h1, h2, h3, h4]
    have hs := hk.sub k1
    have hz := hk.nz k1
    rcases hk.1.many k1 with ⟨rfl, rfl⟩ | ⟨rfl, x, rfl⟩ | ⟨rfl | rfl, h2⟩
    · rw [lay]
      simp only [if_neg k1]
      rw [if_neg (by decide), if_neg (by decide), if_neg (by decide)]
      exact ⟨ht, hy, fun h => absurd rfl h⟩
    · have := layN_right [x] t y n hs hz (by simp) hy hn ht
      rw [lay, if_neg k1, if_pos rfl]
      exact ⟨this.1, this.2.1, fun _ => this.2.2⟩
    · have := layA_right o t y n hs hz hy hn ht
      rw [Nd.lay_3]
      exact ⟨this.1, this.2.1, fun _ => this.2.2 (by omega)⟩
    · have := layO_right o t y n hs hz hy hn ht
      rw [Nd.lay_4]
      exact ⟨this.1, this.2.1, fun _ => this.2.2 (by omega)⟩
theorem layN_right : ∀ (o : List ExprP) (t : List NodeP) (y n : Int), (∀ x ∈ o, okF x) → (∀ x ∈ o, kind x ≠ 0) → 0 < o.length → In t y → In t n → rightF t 0 = true → rightF (layN t o y n).1 0 = true ∧ In (layN t o y n).1 (layN t o y n).2 ∧ (layN t o y n).2 + 1 = (layN t o y n).1.length
  | [], t, y, n, hs, hz, hl, hy, hn, ht => absurd hl (Nat.lt_irrefl 0)
  | e :: o, t, y, n, hs, hz, hl, hy, hn, ht => by
    rw [layN]
    have := lay_right e t n y (hs e (List.mem_cons_self ..)) hn hy ht
    exact ⟨this.1, this.2.1, this.2.2 (hz e (List.mem_cons_self ..))⟩
theorem layA_right : ∀ (o : List ExprP) (t : List NodeP) (y n : Int), (∀ x ∈ o, okF x) → (∀ x ∈ o, kind x ≠ 0) → In t y → In t n → rightF t 0 = true → rightF (layA t o y n).1 0 = true ∧ In (layA t o y n).1 (layA t o y n).2 ∧ (0 < o.length → (layA t o y n).2 + 1 = (layA t o y n).1.length)
  | [], t, y, n, hs, hz, hy, hn, ht => by rw [layA]; exact ⟨ht, hy, fun h => absurd h (Nat.lt_irrefl 0)⟩
  | e :: o, t, y, n, hs, hz, hy, hn, ht => by
    rw [layA]
    have h1 := layA_right o t y n (fun x hx => hs x (List.mem_cons_of_mem _ hx)) (fun x hx => hz x (List.mem_cons_of_mem _ hx)) hy hn ht
    have := lay_right e (layA t o y n).1 (layA t o y n).2 n (hs e (List.mem_cons_self ..)) h1.2.1 (hn.pre (Cp.layA_pre o t y n)) h1.1
    exact ⟨this.1, this.2.1, fun _ => this.2.2 (hz e (List.mem_cons_self ..))⟩
theorem layO_right : ∀ (o : List ExprP) (t : List NodeP) (y n : Int), (∀ x ∈ o, okF x) → (∀ x ∈ o, kind x ≠ 0) → In t y → In t n → rightF t 0 = true → rightF (layO t o y n).1 0 = true ∧ In (layO t o y n).1 (layO t o y n).2 ∧ (0 < o.length → (layO t o y n).2 + 1 = (layO t o y n).1.length)
  | [], t, y, n, hs, hz, hy, hn, ht => by rw [layO]; exact ⟨ht, hn, fun h => absurd h (Nat.lt_irrefl 0)⟩
  | e :: o, t, y, n, hs, hz, hy, hn, ht => by
    rw [layO]
    have h1 := layO_right o t y n (fun x hx => hs x (List.mem_cons_of_mem _ hx)) (fun x hx => hz x (List.mem_cons_of_mem _ hx)) hy hn ht
    have := lay_right e (layO t o y n).1 y (layO t o y n).2 (hs e (List.mem_cons_self ..)) (hy.pre (Cp.layO_pre o t y n)) h1.2.1 h1.1
    exact ⟨this.1, this.2.1, fun _ => this.2.2 (hz e (List.mem_cons_self ..))⟩
end
/-- Where it leads. -/
def to (b : Bool) (y n : Int) : Int := if b then y else n
def Leads (T : List NodeP) (x : FactsP) (k y : Int) (a : Nat) : Prop := (walk T x k.toNat).1 = (walk T x y.toNat).1 ∧ (walk T x k.toNat).2 ≤ a + (walk T x y.toNat).2
theorem Leads.refl (T : List NodeP) (x : FactsP) (k : Int) (a : Nat) : Leads T x k k a := ⟨rfl, by omega⟩
theorem Leads.trans {T : List NodeP} {x : FactsP} {k y z : Int} {a b : Nat} (h : Leads T x k y a) (g : Leads T x y z b) : Leads T x k z (a + b) := ⟨h.1.trans g.1, by have := h.2; have := g.2; omega⟩
theorem Leads.more {T : List NodeP} {x : FactsP} {k y : Int} {a b : Nat} (h : Leads T x k y a) (hb : a ≤ b) : Leads T x k y b := ⟨h.1, by have := h.2; omega⟩
theorem getD_pre {t T : List NodeP} (h : t <+: T) {k : Nat} (hk : k < t.length) : T.getD k zeroN = t.getD k zeroN := by
  obtain ⟨s, rfl⟩ := h
  rw [List.getD_eq_getElem?_getD, List.getD_eq_getElem?_getD, List.getElem?_append_left hk]
mutual
theorem lay_leads (x : FactsP) (T : List NodeP) (hT : Cp.right T = true) : ∀ (e : ExprP) (t : List NodeP) (y n : Int), okF e → (lay t e y n).1 <+: T → Leads T x (lay t e y n).2 (to (Me.holds x e) y n) (atoms e)
  | .mk k f r l h o, t, y, n, hk, hp => by
    by_cases k1 : k = 1
    · rw [Nd.lay_1 t k1] at hp ⊢
      subst k1
      have hl : t.length < T.length := by have := hp.length_le; rw [List.length_append, List.length_singleton] at this; omega
      have hg : T.getD t.length zeroN = testP f r l h y n := by
        rw [getD_pre hp (by simp)]
        simp [List.getD_eq_getElem?_getD]
      have hlf : (T.getD t.length zeroN).leaf = false := by rw [hg]; rfl
      have hw := walk_test hT x hl hlf
      have hx : next x (T.getD t.length zeroN) = to (Me.holds x (.mk 1 f r l h o)) y n := by
        rw [hg]
        unfold next testP to
        rw [Me.holds, if_pos rfl, Me.holds, if_pos rfl, atom_norm]
      rw [hx] at hw
      rw [atoms, if_pos rfl]
      refine ⟨?_, ?_⟩
      · show (walk T x ((t.length : Int)).toNat).1 = _
        rw [show ((t.length : Int)).toNat = t.length by omega, hw]
      · show (walk T x ((t.length : Int)).toNat).2 ≤ _
        rw [show ((t.length : Int)).toNat = t.length by omega, hw]
        show _ + 1 ≤ 1 + _
        omega
    have hs := hk.sub k1
    rcases hk.1.many k1 with ⟨rfl, rfl⟩ | ⟨rfl, e, rfl⟩ | ⟨rfl | rfl, h2⟩
    · have e1 : Me.holds x (.mk 0 f r l h []) = true := by rw [Me.holds, if_neg (by decide), if_neg (by decide), if_neg (by decide), if_neg (by decide)]
      rw [e1, lay, if_neg k1, if_neg (by decide), if_neg (by decide), if_neg (by decide)]
      exact Leads.refl _ _ _ _
    · rw [lay, if_neg k1, if_pos rfl] at hp ⊢
      have := layN_leads x T hT [e] t y n hs hp
      rw [Me.holds_not, atoms, if_neg k1]
      simpa [inner, Me.notL] using this
    · rw [Nd.lay_3] at hp ⊢
      have := layA_leads x T hT o t y n hs hp
      rw [Me.holds_and, ← Me.allL_all, atoms, if_neg k1]
      simpa [inner] using this
    · rw [Nd.lay_4] at hp ⊢
      have := layO_leads x T hT o t y n hs hp
      rw [Me.holds_or, ← Me.anyL_any, atoms, if_neg k1]
      simpa [inner] using this
theorem layN_leads (x : FactsP) (T : List NodeP) (hT : Cp.right T = true) : ∀ (o : List ExprP) (t : List NodeP) (y n : Int), (∀ e ∈ o, okF e) → (layN t o y n).1 <+: T → Leads T x (layN t o y n).2 (to (Me.notL x o) y n) (atomsL o)
  | [], t, y, n, hs, hp => by rw [layN, Me.notL]; exact Leads.refl _ _ _ _
  | e :: o, t, y, n, hs, hp => by
    rw [layN] at hp ⊢
    have := lay_leads x T hT e t n y (hs e (List.mem_cons_self ..)) hp
    rw [Me.notL, atomsL]
    have e2 : to (!(Me.holds x e)) y n = to (Me.holds x e) n y := by unfold to; cases Me.holds x e <;> rfl
    rw [e2]
    exact this.more (by omega)
theorem layA_leads (x : FactsP) (T : List NodeP) (hT : Cp.right T = true) : ∀ (o : List ExprP) (t : List NodeP) (y n : Int), (∀ e ∈ o, okF e) → (layA t o y n).1 <+: T → Leads T x (layA t o y n).2 (to (Me.allL x o) y n) (atomsL o)
  | [], t, y, n, hs, hp => by rw [layA, Me.allL]; exact Leads.refl _ _ _ _
  | e :: o, t, y, n, hs, hp => by
    rw [layA] at hp ⊢
    have h1 := layA_leads x T hT o t y n (fun x hx => hs x (List.mem_cons_of_mem _ hx)) ((Cp.lay_pre _ _ _ _).trans hp)
    have h2 := lay_leads x T hT e _ _ _ (hs e (List.mem_cons_self ..)) hp
    rw [Me.allL, atomsL]
    cases hh : Me.holds x e with
    | false =>
      rw [hh] at h2
      exact h2.more (by omega)
    | true =>
      rw [hh] at h2
      exact h2.trans h1
theorem layO_leads (x : FactsP) (T : List NodeP) (hT : Cp.right T = true) : ∀ (o : List ExprP) (t : List NodeP) (y n : Int), (∀ e ∈ o, okF e) → (layO t o y n).1 <+: T → Leads T x (layO t o y n).2 (to (Me.anyL x o) y n) (atomsL o)
  | [], t, y, n, hs, hp => by rw [layO, Me.anyL]; exact Leads.refl _ _ _ _
  | e :: o, t, y, n, hs, hp => by
    rw [layO] at hp ⊢
    have h1 := layO_leads x T hT o t y n (fun x hx => hs x (List.mem_cons_of_mem _ hx)) ((Cp.lay_pre _ _ _ _).trans hp)
    have h2 := lay_leads x T hT e _ _ _ (hs e (List.mem_cons_self ..)) hp
    rw [Me.anyL, atomsL]
    cases hh : Me.holds x e with
    | true =>
      rw [hh] at h2
      exact h2.more (by omega)
    | false =>
      rw [hh] at h2
      exact h2.trans h1
end
/-- All atoms of rules. -/
def sumA : List RuleP → Nat
  | [] => 0
  | r :: l => atoms r.when_ + sumA l
theorem rulesF_right : ∀ (l : List RuleP) (i : Int), 0 ≤ i → (∀ r ∈ l, okF r.when_) → rightF (rulesF l i).1 0 = true ∧ In (rulesF l i).1 (rulesF l i).2 ∧ (rulesF l i).2 + 1 = (rulesF l i).1.length
  | [], i, hi, _ => by
    rw [rulesF]
    refine ⟨?_, ⟨by decide, by simp⟩, by simp⟩
    have := bare_leaf (-1) (by decide)
    simp [rightF, leafP] at this ⊢
    exact this
  | r :: l, i, hi, h => by
    obtain ⟨h1, h2, h3⟩ := rulesF_right l (i + 1) (by omega) fun r hr => h r (List.mem_cons_of_mem _ hr)
    have hr := h r (List.mem_cons_self ..)
    rw [rulesF]
    have hb : rightF ((rulesF l (i + 1)).1 ++ [leafP i]) 0 = true := by
      rw [rightF_snoc, h1]
      have := bare_leaf i (by omega)
      simp [leafP] at this ⊢
      exact this
    have hy : In ((rulesF l (i + 1)).1 ++ [leafP i]) ((rulesF l (i + 1)).1.length : Nat) := ⟨by omega, by simp; omega⟩
    have hl := lay_right r.when_ _ _ _ hr hy (h2.pre (List.prefix_append _ _)) hb
    refine ⟨hl.1, hl.2.1, ?_⟩
    by_cases k0 : kind r.when_ = 0
    · have e0 : lay ((rulesF l (i + 1)).1 ++ [leafP i]) r.when_ (rulesF l (i + 1)).1.length (rulesF l (i + 1)).2 = ((rulesF l (i + 1)).1 ++ [leafP i], ((rulesF l (i + 1)).1.length : Int)) := by
        rw [Tr.eta r.when_, k0, lay, if_neg (by decide), if_neg (by decide), if_neg (by decide), if_neg (by decide)]
      rw [e0]
      simp
    · exact hl.2.2 k0
theorem rules_right (l : List RuleP) (h : ∀ r ∈ l, okF r.when_) : Cp.right (rules l) = true := by
  obtain ⟨h1, h2, h3⟩ := rulesF_right l 0 (Int.le_refl _) h
  unfold Cp.right rules
  rw [h1]
  cases hr : (rulesF l 0).1 with
  | nil => rw [hr] at h3 h2; have := h2.1; simp at h3; omega
  | cons a b => rfl
theorem rulesF_leads (x : FactsP) (T : List NodeP) (hT : Cp.right T = true) : ∀ (l : List RuleP) (i : Int), (∀ r ∈ l, okF r.when_) → (rulesF l i).1 <+: T → (walk T x (rulesF l i).2.toNat).1 = Me.firstF x l i ∧ (walk T x (rulesF l i).2.toNat).2 ≤ sumA l
  | [], i, _, hp => by
    rw [rulesF] at hp ⊢
    have hg : T.getD 0 zeroN = leafP (-1) := by rw [getD_pre hp (by simp)]; rfl
    rw [show ((0 : Int)).toNat = 0 from rfl, walk_leaf x (k := 0) (by rw [hg]; rfl), hg, Me.firstF]
    exact ⟨rfl, Nat.zero_le _⟩
  | r :: l, i, h, hp => by
    rw [rulesF] at hp ⊢
    have hr := h r (List.mem_cons_self ..)
    have hp2 := (Cp.lay_pre r.when_ _ _ _).trans hp
    have ih := rulesF_leads x T hT l (i + 1) (fun r hr => h r (List.mem_cons_of_mem _ hr)) ((List.prefix_append _ _).trans hp2)
    have hl := lay_leads x T hT r.when_ _ _ _ hr hp
    have hg : T.getD (rulesF l (i + 1)).1.length zeroN = leafP i := by
      rw [getD_pre hp2 (by simp)]
      simp [List.getD_eq_getElem?_getD]
    have hw := walk_leaf x (l := T) (k := (rulesF l (i + 1)).1.length) (by rw [hg]; rfl)
    rw [hg] at hw
    rw [Me.firstF, sumA]
    cases hh : Me.holds x r.when_ with
    | true =>
      rw [hh] at hl
      obtain ⟨a, b⟩ := hl
      simp only [to, if_true] at a b
      rw [show (((rulesF l (i + 1)).1.length : Nat) : Int).toNat = (rulesF l (i + 1)).1.length by omega, hw] at a b
      refine ⟨a, ?_⟩
      have : (leafP i).rule = i := rfl
      simp at b
      omega
    | false =>
      rw [hh] at hl
      obtain ⟨a, b⟩ := hl
      have a' := a.trans ih.1
      refine ⟨a', ?_⟩
      have := ih.2
      have hb : (walk T x (lay ((rulesF l (i + 1)).1 ++ [leafP i]) r.when_ (rulesF l (i + 1)).1.length (rulesF l (i + 1)).2).2.toNat).2 ≤ atoms r.when_ + (walk T x (rulesF l (i + 1)).2.toNat).2 := b
      omega
/-- A tree of rules tells the first rule; its tests are at most the atoms. -/
theorem top_rules (l : List RuleP) (h : ∀ r ∈ l, okF r.when_) (x : FactsP) : (top (rules l) x).1 = Me.first x l ∧ (top (rules l) x).2 ≤ sumA l := by
  have hr := rules_right l h
  obtain ⟨h1, h2, h3⟩ := rulesF_right l 0 (Int.le_refl _) h
  have := rulesF_leads x (rules l) hr l 0 h (List.prefix_refl _)
  have e : (rulesF l 0).2.toNat = (rules l).length - 1 := by
    unfold rules
    have := h2.1
    omega
  rw [e] at this
  exact this
end Go.Proofs.YtdkeibgfehblaaaGreatDoor.Wk
