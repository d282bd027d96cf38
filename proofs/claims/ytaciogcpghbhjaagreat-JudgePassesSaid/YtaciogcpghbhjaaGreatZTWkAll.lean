/- Of these texts: WkAll, JgA. Conditions: as each part says. -/
import Derived.Test.YtaciogcpghbhjaaGreatZTMeA
import Derived.Test.YtaciogcpghbhjaaGreatZTNdA
import Derived.Test.YtaciogcpghbhjaaGreatZTNtA
import Derived.Test.YtaciogcpghbhjaaGreatZTMeR
import Derived.Test.YtaciogcpghbhjaaGreatZTMe
import Derived.ScopeJumps
import Derived.Test.YtaciogcpghbhjaaGreatZTReU
import Derived.Test.YtaciogcpghbhjaaGreatZTBuR
import Derived.Test.YtaciogcpghbhjaaGreatZTAskA
/- Several texts in one: WkA, WkB, WkR, WkD, Wk. Conditions: as each part says. -/
namespace Go.Proofs.YtaciogcpghbhjaaGreat.Wk
set_option linter.unusedVariables false
open Go.RowKit
open Nd (zeroN)
noncomputable def next (x : FactsP) (n : NodeP) : Int := if Me.holds x n.atom then n.yes else n.no
noncomputable def go (l : List NodeP) (x : FactsP) : Nat -> Nat -> Int × Nat
 | 0, _ => (-1, 0)
 | n + 1, k => if (l.getD k zeroN).leaf then ((l.getD k zeroN).rule, 0) else ((go l x n (next x (l.getD k zeroN)).toNat).1, (go l x n (next x (l.getD k zeroN)).toNat).2 + 1)
noncomputable def walk (l : List NodeP) (x : FactsP) (k : Nat) : Int × Nat := go l x (k + 1) k
noncomputable def top (l : List NodeP) (x : FactsP) : Int × Nat := walk l x (l.length - 1)
theorem right_at : ∀ (l : List NodeP) (i : Int) (k : Nat), Cp.rightF l i = true -> k < l.length -> (if (l.getD k zeroN).leaf then Cp.bare (l.getD k zeroN) else Cp.test (l.getD k zeroN) (i + k)) = true
 | [], _, k, _, h => absurd h (by simp)
 | a :: l, i, 0, h, _ => by
   rw [Cp.rightF, Bool.and_eq_true] at h
   simpa using h.1
 | a :: l, i, k + 1, h, hk => by
   rw [Cp.rightF, Bool.and_eq_true] at h
   have := right_at l (i + 1) k h.2 (by simpa using hk)
   rw [show i + 1 + (k : Int) = i + (k + 1 : Nat) by omega] at this
   exact this
theorem right_test {l : List NodeP} (h : Cp.right l = true) {k : Nat} (hk : k < l.length) (hl : (l.getD k zeroN).leaf = false) (x : FactsP) :
  0 <= next x (l.getD k zeroN) ∧ next x (l.getD k zeroN) < k ∧ Tr.right (l.getD k zeroN).atom = true ∧ Tr.kind (l.getD k zeroN).atom = 1 := by
 rw [Cp.right, Bool.and_eq_true] at h
 have := right_at l 0 k h.1 hk
 rw [hl] at this
 simp only [Bool.false_eq_true, if_false, Int.zero_add, Cp.test, Bool.and_eq_true, decide_eq_true_eq, beq_iff_eq] at this
 obtain ⟨⟨⟨⟨⟨⟨⟨h1, h2⟩, h3⟩, h4⟩, h5⟩, h6⟩, h7⟩, h8⟩ := this
 unfold next
 split
 ·exact ⟨h3, h4, h8, h7⟩
 ·exact ⟨h5, h6, h8, h7⟩
theorem go_fuel {l : List NodeP} (h : Cp.right l = true) (x : FactsP) : ∀ (n m k : Nat), k < l.length -> k < n -> k < m -> go l x n k = go l x m k
 | 0, _, _, _, h1, _ => absurd h1 (Nat.not_lt_zero _)
 | _ + 1, 0, _, _, _, h1 => absurd h1 (Nat.not_lt_zero _)
 | n + 1, m + 1, k, hk, h1, h2 => by
   rw [go, go]
   cases hl : (l.getD k zeroN).leaf with
   | true => rfl
   | false =>
     obtain ⟨a, b, _⟩ := right_test h hk hl x
     rw [go_fuel h x n m (next x (l.getD k zeroN)).toNat (by omega) (by omega) (by omega)]
theorem walk_leaf {l : List NodeP} (x : FactsP) {k : Nat} (hl : (l.getD k zeroN).leaf = true) : walk l x k = ((l.getD k zeroN).rule, 0) := by
 unfold walk
 rw [go, hl]; rfl
theorem walk_test {l : List NodeP} (h : Cp.right l = true) (x : FactsP) {k : Nat} (hk : k < l.length) (hl : (l.getD k zeroN).leaf = false) :
  walk l x k = ((walk l x (next x (l.getD k zeroN)).toNat).1, (walk l x (next x (l.getD k zeroN)).toNat).2 + 1) := by
 obtain ⟨a, b, _⟩ := right_test h hk hl x
 unfold walk
 rw [go, hl, go_fuel h x k ((next x (l.getD k zeroN)).toNat + 1) (next x (l.getD k zeroN)).toNat (by omega) (by omega) (by omega)]
 rfl
end Go.Proofs.YtaciogcpghbhjaaGreat.Wk
namespace Go.Proofs.YtaciogcpghbhjaaGreat.Wk
set_option linter.unusedVariables false
open Go.RowKit
open Tr (kind field rs lo hi of zero right atoms atomsL inner)
open Cp (testP leafP lay layN layA layO rulesF rules rightF)
open Nd (zeroN okL full okRs)
theorem into_ex (l : List (Int × Int)) (r : Int × Int) (hl : Sp.Right l) (hr : r.1 <= r.2) : ∀ k, k <= l.length -> ∃ out q, Sp.Into l r k out q
 | 0, _ => ⟨[], r, Sp.Into.start l r hr⟩
 | k + 1, h => by
   obtain ⟨out, q, hi⟩ := into_ex l r hl hr k (by omega)
   by_cases ha : (l.getD k (0, 0)).2 + 1 < q.1 ∨ q.2 + 1 < (l.getD k (0, 0)).1
   ·exact ⟨_, _, hi.apart (by omega) ha⟩
   ·exact ⟨_, _, hi.touch (by omega) hl (by omega) (by omega)⟩
theorem place (out : List (Int × Int)) (c : Int) : ∀ n, n <= out.length -> (∃ i, i <= out.length ∧ (∀ j, j < i -> (out.getD j (0, 0)).1 < c) ∧ (i < out.length -> c <= (out.getD i (0, 0)).1)) ∨ (∀ j, j < n -> (out.getD j (0, 0)).1 < c)
 | 0, _ => .inr fun j h => absurd h (Nat.not_lt_zero _)
 | n + 1, h => by
   rcases place out c n (by omega) with hi | hi
   ·exact .inl hi
   ·by_cases hc : c <= (out.getD n (0, 0)).1
    ·exact .inl ⟨n, by omega, hi, fun _ => hc⟩
    ·refine .inr fun j hj => ?_
     rcases Nat.lt_or_ge j n with h1 | h1
     ·exact hi j h1
     ·obtain rfl : j = n := by omega
      omega
theorem norm_okl : ∀ zs : List (Int × Int), Sp.NormOk zs ∧ (Sp.norm zs).length <= zs.length
 | [] => by
   have h := Sp.norm_of (z := []) (zs := []) Sp.Right.nil fun _ => rfl
   exact ⟨h.2, by rw [h.1]; exact Nat.le_refl _⟩
 | r :: zs => by
   obtain ⟨⟨h1, h2⟩, hl⟩ := norm_okl zs
   by_cases hr : r.1 <= r.2
   ·obtain ⟨out, q, hi⟩ := into_ex (Sp.norm zs) r h1 hr _ (Nat.le_refl _)
    have ⟨i, hi1, hi2, hi3⟩ : ∃ i, i <= out.length ∧ (∀ j, j < i -> (out.getD j (0, 0)).1 < q.1) ∧ (i < out.length -> q.1 <= (out.getD i (0, 0)).1) := by
     rcases place out q.1 out.length (Nat.le_refl _) with h | h
     ·exact h
     ·exact ⟨out.length, Nat.le_refl _, h, fun h => absurd h (Nat.lt_irrefl _)⟩
    have hd := hi.done h1 i hi2 hi1 hi3
    have ho := hi.1.length_le
    have h := Sp.norm_of (zs := r :: zs) hd.1 fun n => by rw [hd.2, h2, Sp.has_cons, Bool.or_comm]
    refine ⟨h.2, ?_⟩
    rw [h.1]
    simp at ho ⊢
    omega
   ·have h := Sp.norm_of (zs := r :: zs) h1 fun n => by
     rw [h2, Sp.has_cons]
     have : Sp.inR r n = false := by simp [Sp.inR]; omega
     rw [this, Bool.false_or]
    exact ⟨h.2, by rw [h.1, List.length_cons]; omega⟩
theorem norm_ok (zs : List (Int × Int)) : Sp.NormOk zs := (norm_okl zs).1
theorem atom_norm (f : Int) (r : List (Int × Int)) (l h : Nat) (x : FactsP) : Me.atom f (Sp.norm r) l h x = Me.atom f r l h x := by
 have hn := norm_ok r
 have e : ∀ v, Sp.has (Sp.norm r) v = Sp.has r v := hn.2
 unfold Me.atom
 simp only [e, Sp.norm_norm hn]
def okF (e : ExprP) : Prop := okL e ∧ full e = true
theorem okF.sub {k f : Int} {r : List (Int × Int)} {l h : Nat} {o : List ExprP} (hk : okF (.mk k f r l h o)) (k1 : k ≠ 1) : ∀ x ∈ o, okF x := fun x hx => by
 have h2 := hk.2
 rw [full, Nd.fullL_all, Bool.and_eq_true, List.all_eq_true, List.all_eq_true] at h2
 exact ⟨hk.1.sub k1 x hx, h2.2 x hx⟩
theorem okF.nz {k f : Int} {r : List (Int × Int)} {l h : Nat} {o : List ExprP} (hk : okF (.mk k f r l h o)) (k1 : k ≠ 1) : ∀ x ∈ o, kind x ≠ 0 := fun x hx => by
 have h3 := hk.1.2.2
 rw [right, if_neg k1, Tr.rightL_all] at h3
 simp only [Bool.and_eq_true, List.all_eq_true] at h3
 have := (h3.2.2 x hx).1
 simpa using this
theorem same_zero : Tr.same zero zero = true := by decide
theorem bare_leaf (i : Int) (h : -1 <= i) : Cp.bare (leafP i) = true := by
 unfold Cp.bare leafP
 simp [h, same_zero]
theorem right_norm {f : Int} {r : List (Int × Int)} {l h : Nat} {o : List ExprP} (hk : okF (.mk 1 f r l h o)) : right (.mk 1 f (Sp.norm r) l h []) = true := by
 have h3 := hk.1.2.2
 have h2 := hk.2
 rw [full, Bool.and_eq_true, List.all_eq_true] at h2
 rw [right, if_pos rfl, Tr.atomR] at h3
 rw [right, if_pos rfl, Tr.atomR]
 simp only [Bool.and_eq_true, decide_eq_true_eq, beq_iff_eq] at h3
 obtain ⟨_, h4, h5, h6⟩ := h3
 have hn := norm_ok r
 have hl0 : ([] : List ExprP).length = 0 := rfl
 rw [decide_eq_true h4, decide_eq_true h5, hl0]
 simp only [Bool.true_and, BEq.rfl]
 by_cases f6 : f = 6
 ·rw [if_pos f6] at h6 ⊢
  rw [Bool.and_eq_true, beq_iff_eq] at h6
  have : r = [] := List.eq_nil_of_length_eq_zero h6.1
  subst this
  have e : Sp.norm [] = [] := (Sp.norm_of Sp.Right.nil fun _ => rfl).1
  rw [e]
  simpa using h6.2
 ·rw [if_neg f6] at h6 ⊢
  rw [Bool.and_eq_true, Bool.and_eq_true] at h6
  obtain ⟨h7, h8, h9⟩ := h6
  rw [Bool.and_eq_true, Bool.and_eq_true]
  refine ⟨?_, ?_, h9⟩
  ·unfold Tr.rangesR at h7 ⊢
   rw [List.all_eq_true] at h7 ⊢
   have hb := Sp.norm_fit hn (lo := 0) (hi := 9007199254740992) (fun p hp => by
    have := h7 p hp
    rw [Bool.and_eq_true] at this
    exact ⟨Gu.inR_out this.1, Gu.inR_out this.2⟩)
   intro p hp
   obtain ⟨⟨a, b⟩, c, d⟩ := hb p hp
   rw [Bool.and_eq_true]
   exact ⟨Gu.inR_mk a b, Gu.inR_mk c d⟩
  ·cases hr : r with
   | nil => rw [hr] at h8; exact absurd h8 (by decide)
   | cons p r' =>
     have hp : p.1 <= p.2 := by
      have := h2.1 p (by rw [hr]; exact List.mem_cons_self ..)
      simpa using this
     have hh : Sp.has (Sp.norm r) p.1 = true := by
      rw [hn.2, hr, Sp.has_cons]
      have : Sp.inR p p.1 = true := by simp [Sp.inR, hp]
      rw [this]; rfl
     cases hq : Sp.norm r with
     | nil => rw [hq] at hh; cases hh
     | cons a b => rw [<- hr, hq]; rfl
theorem rightF_snoc (a : NodeP) : ∀ (t : List NodeP) (i : Int), rightF (t ++ [a]) i = (rightF t i && (if a.leaf then Cp.bare a else Cp.test a (i + t.length)))
 | [], i => by simp [rightF]
 | b :: t, i => by
   rw [List.cons_append, rightF, rightF, rightF_snoc a t (i + 1), Bool.and_assoc]
   rw [show i + 1 + (t.length : Int) = i + ((b :: t).length : Nat) by simp; omega]
def In (t : List NodeP) (y : Int) : Prop := 0 <= y ∧ y < t.length
theorem In.pre {t u : List NodeP} {y : Int} (h : In t y) (hp : t <+: u) : In u y := ⟨h.1, by have := hp.length_le; have := h.2; omega⟩
mutual
theorem lay_right : ∀ (e : ExprP) (t : List NodeP) (y n : Int), okF e -> In t y -> In t n -> rightF t 0 = true -> rightF (lay t e y n).1 0 = true ∧ In (lay t e y n).1 (lay t e y n).2 ∧ (kind e ≠ 0 -> (lay t e y n).2 + 1 = (lay t e y n).1.length)
 | .mk k f r l h o, t, y, n, hk, hy, hn, ht => by
   by_cases k1 : k = 1
   ·rw [Nd.lay_1 t k1]
    subst k1
    refine ⟨?_, ⟨by simp, by simp; omega⟩, fun _ => by simp⟩
    show rightF (t ++ [testP f r l h y n]) 0 = true
    rw [rightF_snoc, ht]
    have hr := right_norm hk
    have h1 := hy.1
    have h2 := hy.2
    have h3 := hn.1
    have h4 := hn.2
    simp [testP, Cp.test, kind, hr, h1, h2, h3, h4]
   have hs := hk.sub k1
   have hz := hk.nz k1
   rcases hk.1.many k1 with ⟨rfl, rfl⟩ | ⟨rfl, x, rfl⟩ | ⟨rfl | rfl, h2⟩
   ·rw [lay]
    simp only [if_neg k1]
    rw [if_neg (by decide), if_neg (by decide), if_neg (by decide)]
    exact ⟨ht, hy, fun h => absurd rfl h⟩
   ·have := layN_right [x] t y n hs hz (by simp) hy hn ht
    rw [lay, if_neg k1, if_pos rfl]
    exact ⟨this.1, this.2.1, fun _ => this.2.2⟩
   ·have := layA_right o t y n hs hz hy hn ht
    rw [Nd.lay_3]
    exact ⟨this.1, this.2.1, fun _ => this.2.2 (by omega)⟩
   ·have := layO_right o t y n hs hz hy hn ht
    rw [Nd.lay_4]
    exact ⟨this.1, this.2.1, fun _ => this.2.2 (by omega)⟩
theorem layN_right : ∀ (o : List ExprP) (t : List NodeP) (y n : Int), (∀ x ∈ o, okF x) -> (∀ x ∈ o, kind x ≠ 0) -> 0 < o.length -> In t y -> In t n -> rightF t 0 = true -> rightF (layN t o y n).1 0 = true ∧ In (layN t o y n).1 (layN t o y n).2 ∧ (layN t o y n).2 + 1 = (layN t o y n).1.length
 | [], t, y, n, hs, hz, hl, hy, hn, ht => absurd hl (Nat.lt_irrefl 0)
 | e :: o, t, y, n, hs, hz, hl, hy, hn, ht => by
   rw [layN]
   have := lay_right e t n y (hs e (List.mem_cons_self ..)) hn hy ht
   exact ⟨this.1, this.2.1, this.2.2 (hz e (List.mem_cons_self ..))⟩
theorem layA_right : ∀ (o : List ExprP) (t : List NodeP) (y n : Int), (∀ x ∈ o, okF x) -> (∀ x ∈ o, kind x ≠ 0) -> In t y -> In t n -> rightF t 0 = true -> rightF (layA t o y n).1 0 = true ∧ In (layA t o y n).1 (layA t o y n).2 ∧ (0 < o.length -> (layA t o y n).2 + 1 = (layA t o y n).1.length)
 | [], t, y, n, hs, hz, hy, hn, ht => by rw [layA]; exact ⟨ht, hy, fun h => absurd h (Nat.lt_irrefl 0)⟩
 | e :: o, t, y, n, hs, hz, hy, hn, ht => by
   rw [layA]
   have h1 := layA_right o t y n (fun x hx => hs x (List.mem_cons_of_mem _ hx)) (fun x hx => hz x (List.mem_cons_of_mem _ hx)) hy hn ht
   have := lay_right e (layA t o y n).1 (layA t o y n).2 n (hs e (List.mem_cons_self ..)) h1.2.1 (hn.pre (Cp.layA_pre o t y n)) h1.1
   exact ⟨this.1, this.2.1, fun _ => this.2.2 (hz e (List.mem_cons_self ..))⟩
theorem layO_right : ∀ (o : List ExprP) (t : List NodeP) (y n : Int), (∀ x ∈ o, okF x) -> (∀ x ∈ o, kind x ≠ 0) -> In t y -> In t n -> rightF t 0 = true -> rightF (layO t o y n).1 0 = true ∧ In (layO t o y n).1 (layO t o y n).2 ∧ (0 < o.length -> (layO t o y n).2 + 1 = (layO t o y n).1.length)
 | [], t, y, n, hs, hz, hy, hn, ht => by rw [layO]; exact ⟨ht, hn, fun h => absurd h (Nat.lt_irrefl 0)⟩
 | e :: o, t, y, n, hs, hz, hy, hn, ht => by
   rw [layO]
   have h1 := layO_right o t y n (fun x hx => hs x (List.mem_cons_of_mem _ hx)) (fun x hx => hz x (List.mem_cons_of_mem _ hx)) hy hn ht
   have := lay_right e (layO t o y n).1 y (layO t o y n).2 (hs e (List.mem_cons_self ..)) (hy.pre (Cp.layO_pre o t y n)) h1.2.1 h1.1
   exact ⟨this.1, this.2.1, fun _ => this.2.2 (hz e (List.mem_cons_self ..))⟩
end
def to (b : Bool) (y n : Int) : Int := if b then y else n
def Leads (T : List NodeP) (x : FactsP) (k y : Int) (a : Nat) : Prop := (walk T x k.toNat).1 = (walk T x y.toNat).1 ∧ (walk T x k.toNat).2 <= a + (walk T x y.toNat).2
theorem Leads.refl (T : List NodeP) (x : FactsP) (k : Int) (a : Nat) : Leads T x k k a := ⟨rfl, by omega⟩
theorem Leads.trans {T : List NodeP} {x : FactsP} {k y z : Int} {a b : Nat} (h : Leads T x k y a) (g : Leads T x y z b) : Leads T x k z (a + b) := ⟨h.1.trans g.1, by have := h.2; have := g.2; omega⟩
theorem Leads.more {T : List NodeP} {x : FactsP} {k y : Int} {a b : Nat} (h : Leads T x k y a) (hb : a <= b) : Leads T x k y b := ⟨h.1, by have := h.2; omega⟩
theorem getD_pre {t T : List NodeP} (h : t <+: T) {k : Nat} (hk : k < t.length) : T.getD k zeroN = t.getD k zeroN := by
 obtain ⟨s, rfl⟩ := h
 rw [List.getD_eq_getElem?_getD, List.getD_eq_getElem?_getD, List.getElem?_append_left hk]
mutual
theorem lay_leads (x : FactsP) (T : List NodeP) (hT : Cp.right T = true) : ∀ (e : ExprP) (t : List NodeP) (y n : Int), okF e -> (lay t e y n).1 <+: T -> Leads T x (lay t e y n).2 (to (Me.holds x e) y n) (atoms e)
 | .mk k f r l h o, t, y, n, hk, hp => by
   by_cases k1 : k = 1
   ·rw [Nd.lay_1 t k1] at hp ⊢
    subst k1
    have hl : t.length < T.length := by have := hp.length_le; rw [List.length_append, List.length_singleton] at this; omega
    have hg : T.getD t.length zeroN = testP f r l h y n := by
     rw [getD_pre hp (by simp)]
     simp [List.getD_eq_getElem?_getD]
    have hlf : (T.getD t.length zeroN).leaf = false := by rw [hg]; rfl
    have hw := walk_test hT x hl hlf
    have hx : next x (T.getD t.length zeroN) = to (Me.holds x (.mk 1 f r l h o)) y n := by
     rw [hg]
     unfold next testP to
     rw [Me.holds, if_pos rfl, Me.holds, if_pos rfl, atom_norm]
    rw [hx] at hw
    rw [atoms, if_pos rfl]
    refine ⟨?_, ?_⟩
    ·show (walk T x ((t.length : Int)).toNat).1 = _
     rw [show ((t.length : Int)).toNat = t.length by omega, hw]
    ·show (walk T x ((t.length : Int)).toNat).2 <= _
     rw [show ((t.length : Int)).toNat = t.length by omega, hw]
     show _ + 1 <= 1 + _
     omega
   have hs := hk.sub k1
   rcases hk.1.many k1 with ⟨rfl, rfl⟩ | ⟨rfl, e, rfl⟩ | ⟨rfl | rfl, h2⟩
   ·have e1 : Me.holds x (.mk 0 f r l h []) = true := by rw [Me.holds, if_neg (by decide), if_neg (by decide), if_neg (by decide), if_neg (by decide)]
    rw [e1, lay, if_neg k1, if_neg (by decide), if_neg (by decide), if_neg (by decide)]
    exact Leads.refl _ _ _ _
   ·rw [lay, if_neg k1, if_pos rfl] at hp ⊢
    have := layN_leads x T hT [e] t y n hs hp
    rw [Me.holds_not, atoms, if_neg k1]
    simpa [inner, Me.notL] using this
   ·rw [Nd.lay_3] at hp ⊢
    have := layA_leads x T hT o t y n hs hp
    rw [Me.holds_and, <- Me.allL_all, atoms, if_neg k1]
    simpa [inner] using this
   ·rw [Nd.lay_4] at hp ⊢
    have := layO_leads x T hT o t y n hs hp
    rw [Me.holds_or, <- Me.anyL_any, atoms, if_neg k1]
    simpa [inner] using this
theorem layN_leads (x : FactsP) (T : List NodeP) (hT : Cp.right T = true) : ∀ (o : List ExprP) (t : List NodeP) (y n : Int), (∀ e ∈ o, okF e) -> (layN t o y n).1 <+: T -> Leads T x (layN t o y n).2 (to (Me.notL x o) y n) (atomsL o)
 | [], t, y, n, hs, hp => by rw [layN, Me.notL]; exact Leads.refl _ _ _ _
 | e :: o, t, y, n, hs, hp => by
   rw [layN] at hp ⊢
   have := lay_leads x T hT e t n y (hs e (List.mem_cons_self ..)) hp
   rw [Me.notL, atomsL]
   have e2 : to (!(Me.holds x e)) y n = to (Me.holds x e) n y := by unfold to; cases Me.holds x e <;> rfl
   rw [e2]
   exact this.more (by omega)
theorem layA_leads (x : FactsP) (T : List NodeP) (hT : Cp.right T = true) : ∀ (o : List ExprP) (t : List NodeP) (y n : Int), (∀ e ∈ o, okF e) -> (layA t o y n).1 <+: T -> Leads T x (layA t o y n).2 (to (Me.allL x o) y n) (atomsL o)
 | [], t, y, n, hs, hp => by rw [layA, Me.allL]; exact Leads.refl _ _ _ _
 | e :: o, t, y, n, hs, hp => by
   rw [layA] at hp ⊢
   have h1 := layA_leads x T hT o t y n (fun x hx => hs x (List.mem_cons_of_mem _ hx)) ((Cp.lay_pre _ _ _ _).trans hp)
   have h2 := lay_leads x T hT e _ _ _ (hs e (List.mem_cons_self ..)) hp
   rw [Me.allL, atomsL]
   cases hh : Me.holds x e with
   | false =>
     rw [hh] at h2
     exact h2.more (by omega)
   | true =>
     rw [hh] at h2
     exact h2.trans h1
theorem layO_leads (x : FactsP) (T : List NodeP) (hT : Cp.right T = true) : ∀ (o : List ExprP) (t : List NodeP) (y n : Int), (∀ e ∈ o, okF e) -> (layO t o y n).1 <+: T -> Leads T x (layO t o y n).2 (to (Me.anyL x o) y n) (atomsL o)
 | [], t, y, n, hs, hp => by rw [layO, Me.anyL]; exact Leads.refl _ _ _ _
 | e :: o, t, y, n, hs, hp => by
   rw [layO] at hp ⊢
   have h1 := layO_leads x T hT o t y n (fun x hx => hs x (List.mem_cons_of_mem _ hx)) ((Cp.lay_pre _ _ _ _).trans hp)
   have h2 := lay_leads x T hT e _ _ _ (hs e (List.mem_cons_self ..)) hp
   rw [Me.anyL, atomsL]
   cases hh : Me.holds x e with
   | true =>
     rw [hh] at h2
     exact h2.more (by omega)
   | false =>
     rw [hh] at h2
     exact h2.trans h1
end
def sumA : List RuleP -> Nat
 | [] => 0
 | r :: l => atoms r.when_ + sumA l
theorem rulesF_right : ∀ (l : List RuleP) (i : Int), 0 <= i -> (∀ r ∈ l, okF r.when_) -> rightF (rulesF l i).1 0 = true ∧ In (rulesF l i).1 (rulesF l i).2 ∧ (rulesF l i).2 + 1 = (rulesF l i).1.length
 | [], i, hi, _ => by
   rw [rulesF]
   refine ⟨?_, ⟨by decide, by simp⟩, by simp⟩
   have := bare_leaf (-1) (by decide)
   simp [rightF, leafP] at this ⊢
   exact this
 | r :: l, i, hi, h => by
   obtain ⟨h1, h2, h3⟩ := rulesF_right l (i + 1) (by omega) fun r hr => h r (List.mem_cons_of_mem _ hr)
   have hr := h r (List.mem_cons_self ..)
   rw [rulesF]
   have hb : rightF ((rulesF l (i + 1)).1 ++ [leafP i]) 0 = true := by
    rw [rightF_snoc, h1]
    have := bare_leaf i (by omega)
    simp [leafP] at this ⊢
    exact this
   have hy : In ((rulesF l (i + 1)).1 ++ [leafP i]) ((rulesF l (i + 1)).1.length : Nat) := ⟨by omega, by simp; omega⟩
   have hl := lay_right r.when_ _ _ _ hr hy (h2.pre (List.prefix_append _ _)) hb
   refine ⟨hl.1, hl.2.1, ?_⟩
   by_cases k0 : kind r.when_ = 0
   ·have e0 : lay ((rulesF l (i + 1)).1 ++ [leafP i]) r.when_ (rulesF l (i + 1)).1.length (rulesF l (i + 1)).2 = ((rulesF l (i + 1)).1 ++ [leafP i], ((rulesF l (i + 1)).1.length : Int)) := by
     rw [Tr.eta r.when_, k0, lay, if_neg (by decide), if_neg (by decide), if_neg (by decide), if_neg (by decide)]
    rw [e0]
    simp
   ·exact hl.2.2 k0
theorem rules_right (l : List RuleP) (h : ∀ r ∈ l, okF r.when_) : Cp.right (rules l) = true := by
 obtain ⟨h1, h2, h3⟩ := rulesF_right l 0 (Int.le_refl _) h
 unfold Cp.right rules
 rw [h1]
 cases hr : (rulesF l 0).1 with
 | nil => rw [hr] at h3 h2; have := h2.1; simp at h3; omega
 | cons a b => rfl
theorem rulesF_leads (x : FactsP) (T : List NodeP) (hT : Cp.right T = true) : ∀ (l : List RuleP) (i : Int), (∀ r ∈ l, okF r.when_) -> (rulesF l i).1 <+: T -> (walk T x (rulesF l i).2.toNat).1 = Me.firstF x l i ∧ (walk T x (rulesF l i).2.toNat).2 <= sumA l
 | [], i, _, hp => by
   rw [rulesF] at hp ⊢
   have hg : T.getD 0 zeroN = leafP (-1) := by rw [getD_pre hp (by simp)]; rfl
   rw [show ((0 : Int)).toNat = 0 from rfl, walk_leaf x (k := 0) (by rw [hg]; rfl), hg, Me.firstF]
   exact ⟨rfl, Nat.zero_le _⟩
 | r :: l, i, h, hp => by
   rw [rulesF] at hp ⊢
   have hr := h r (List.mem_cons_self ..)
   have hp2 := (Cp.lay_pre r.when_ _ _ _).trans hp
   have ih := rulesF_leads x T hT l (i + 1) (fun r hr => h r (List.mem_cons_of_mem _ hr)) ((List.prefix_append _ _).trans hp2)
   have hl := lay_leads x T hT r.when_ _ _ _ hr hp
   have hg : T.getD (rulesF l (i + 1)).1.length zeroN = leafP i := by
    rw [getD_pre hp2 (by simp)]
    simp [List.getD_eq_getElem?_getD]
   have hw := walk_leaf x (l := T) (k := (rulesF l (i + 1)).1.length) (by rw [hg]; rfl)
   rw [hg] at hw
   rw [Me.firstF, sumA]
   cases hh : Me.holds x r.when_ with
   | true =>
     rw [hh] at hl
     obtain ⟨a, b⟩ := hl
     simp only [to, if_true] at a b
     rw [show (((rulesF l (i + 1)).1.length : Nat) : Int).toNat = (rulesF l (i + 1)).1.length by omega, hw] at a b
     refine ⟨a, ?_⟩
     have : (leafP i).rule = i := rfl
     simp at b
     omega
   | false =>
     rw [hh] at hl
     obtain ⟨a, b⟩ := hl
     have a' := a.trans ih.1
     refine ⟨a', ?_⟩
     have := ih.2
     have hb : (walk T x (lay ((rulesF l (i + 1)).1 ++ [leafP i]) r.when_ (rulesF l (i + 1)).1.length (rulesF l (i + 1)).2).2.toNat).2 <= atoms r.when_ + (walk T x (rulesF l (i + 1)).2.toNat).2 := b
     omega
theorem top_rules (l : List RuleP) (h : ∀ r ∈ l, okF r.when_) (x : FactsP) : (top (rules l) x).1 = Me.first x l ∧ (top (rules l) x).2 <= sumA l := by
 have hr := rules_right l h
 obtain ⟨h1, h2, h3⟩ := rulesF_right l 0 (Int.le_refl _) h
 have := rulesF_leads x (rules l) hr l 0 h (List.prefix_refl _)
 have e : (rulesF l 0).2.toNat = (rules l).length - 1 := by
  unfold rules
  have := h2.1
  omega
 rw [e] at this
 exact this
end Go.Proofs.YtaciogcpghbhjaaGreat.Wk
namespace Go.Proofs.YtaciogcpghbhjaaGreat.Wk
set_option linter.unusedVariables false
open Go.ChangeShapes Go.WideShapes Go.ChangeAt Go.RowKit
open Tr (kind field rs lo hi of zero dp Ex Exs getD_mem ret_bool ret_int store_float)
open Fa (FaAt)
open Me (fewF okE short holds)
open Nd (Nds NodeAt zeroN)
def okNs (l : List NodeP) : Prop := l.length <= 1000000 ∧ ∀ n ∈ l, okE n.atom ∧ ∀ N, short N n.atom
theorem right_pos {l : List NodeP} (h : Cp.right l = true) : 0 < l.length := by
 rw [Cp.right, Bool.and_eq_true] at h
 cases l with
 | nil => exact absurd h.2 (by decide)
 | cons a l => simp
set_option maxHeartbeats 4000000 in
theorem ref_walk_any (A : Option Addr) (c : Nat) (l : List NodeP) (x : FactsP) (SA VA QA : Option Addr) (c1 c2 c3 : Nat) (w : World) (hok : okNs l) (hr : Cp.right l = true) (h3 : x.rg.length <= c3) (h3m : c3 <= maxLen) (hx : fewF x) (hR : Nds w A l.length l) (hF : FaAt w x SA VA QA) :
  Calls Tryz.prog 60 #[.slice A l.length c, .agg #[.int .i64 x.cl, .int .i64 x.un, .int .i64 x.fc, .slice SA x.sp.length c1, .slice VA x.vs.length c2, .slice QA x.rg.length c3]] w fun e w' => ∃ k : Nat, e = .returned (.tuple #[.int .i64 k, .int .i64 ((top l x).2 : Nat)]) ∧ k < l.length ∧ (l.getD k zeroN).rule = (top l x).1 ∧ Keep w w' := by
 have hp := right_pos hr
 have HR := Lib.hid hr
 have HOK := Lib.hid hok
 have hll := hok.1
 obtain ⟨X, hX⟩ : ∃ X, X = w.alloc (.cells #[.int .i64 x.cl, .int .i64 x.un, .int .i64 x.fc, .slice SA x.sp.length c1, .slice VA x.vs.length c2, .slice QA x.rg.length c3] 54) := ⟨_, rfl⟩
 have hkX : Keep w X := by rw [hX]; exact (Keep.refl w).alloc _
 have bX : Bx X w.heap.size [.int .i64 x.cl, .int .i64 x.un, .int .i64 x.fc, .slice SA x.sp.length c1, .slice VA x.vs.length c2, .slice QA x.rg.length c3] := by rw [hX]; exact Bx.newq rfl
 have HB := Lib.hid (show ∀ W, Keep X W -> Bx W w.heap.size [.int .i64 x.cl, .int .i64 x.un, .int .i64 x.fc, .slice SA x.sp.length c1, .slice VA x.vs.length c2, .slice QA x.rg.length c3] from fun W hk => bX.kept hk)
 have HFA := Lib.hid (fun (W : World) (hk : Keep X W) => (hF.kept hkX).kept hk)
 have HND := Lib.hid (fun (W : World) (hk : Keep X W) => (hR.kept hkX).kept hk)
 have HKX := Lib.hid hkX
 have HX3 := Lib.hid (And.intro h3 (And.intro h3m hx))
 obtain ⟨b, off, rfl, _⟩ := hR.addr hp
 clear hr hok bX hF hR hkX h3 h3m hx
 have g1 : ((l.length : Int) - 1) = ((l.length - 1 : Nat) : Int) := by omega
 go_enter Tryz.func60, Tryz.ntmps60
 go_wp2
 rw [<- hX]
 clear hX
 go_loopw [6, 7] (fun s6 s7 wr => ∃ k n : Nat, s6 = .int .i64 k ∧ s7 = .int .i64 n ∧ k + n < l.length ∧ Hid (top l x = ((walk l x k).1, (walk l x k).2 + n)) ∧ Keep X wr) (fun s6 _ _ => (intOf s6).toNat)
 case atStart =>
  exact ⟨l.length - 1, 0, by rw [<- g1], rfl, by omega, rfl, Keep.refl _⟩
 case round =>
  obtain ⟨k, n, rfl, rfl, hkn, htop, hk⟩ := hrel
  have hk0 : (0 : Int) <= k := by omega
  have hk1 : (k : Int) < l.length := by omega
  have hkl : k < l.length := by omega
  obtain ⟨hbb, RA, OA, rc, oc, hn, hE⟩ := (HND.out _ hk).node k hkl
  obtain ⟨lf, hlf⟩ : ∃ lf, (l.getD k zeroN).leaf = lf := ⟨_, rfl⟩
  have HST := Lib.hid (fun h => walk_test (x := x) HR.out hkl h)
  have HSR := Lib.hid (fun h => right_test (x := x) HR.out hkl h)
  have HLF := Lib.hid (fun h => walk_leaf (l := l) x (k := k) h)
  have HOE := Lib.hid (HOK.out.2 _ (getD_mem zeroN l k hkl))
  cases lf with
  | true =>
    have n0 := hn.1
    rw [hlf] at n0
    have HT := Lib.hid (show top l x = ((l.getD k zeroN).rule, n) by rw [htop.out, HLF.out hlf]; simp)
    clear hn hE HST HSR HLF HOE
    go_wp2
    go_ret2
    exact ⟨k, by rw [HT.out]; rfl, hkl, by rw [HT.out], HKX.out.trans hk⟩
  | false =>
    have HT := Lib.hid (show top l x = ((walk l x (next x (l.getD k zeroN)).toNat).1, (walk l x (next x (l.getD k zeroN)).toNat).2 + (n + 1)) by rw [htop.out, HST.out hlf]; simp; omega)
    obtain ⟨s1, s2, s3, s4⟩ := HSR.out hlf
    generalize l.getD k zeroN = y at *
    have HN := Lib.hid (fun (W : World) (h : Keep wr W) => hn.kept hbb h)
    have n0 := fun p : KeptOf wr => (HN.out p.w p.h).1
    have n1 := fun p : KeptOf wr => (HN.out p.w p.h).2.1
    have n2 := fun p : KeptOf wr => (HN.out p.w p.h).2.2.1
    have n3 := fun p : KeptOf wr => (HN.out p.w p.h).2.2.2.1
    have n4 := fun p : KeptOf wr => (HN.out p.w p.h).2.2.2.2.1
    have n5 := fun p : KeptOf wr => (HN.out p.w p.h).2.2.2.2.2.1
    have n6 := fun p : KeptOf wr => (HN.out p.w p.h).2.2.2.2.2.2.1
    have n7 := fun p : KeptOf wr => (HN.out p.w p.h).2.2.2.2.2.2.2.1
    have n8 := fun p : KeptOf wr => (HN.out p.w p.h).2.2.2.2.2.2.2.2.1
    have n9 := fun p : KeptOf wr => (HN.out p.w p.h).2.2.2.2.2.2.2.2.2
    simp only [hlf] at n0
    have f0 := fun p : KeptOf wr => (HB.out p.w (hk.trans p.h)).six.1
    have f1 := fun p : KeptOf wr => (HB.out p.w (hk.trans p.h)).six.2.1
    have f2 := fun p : KeptOf wr => (HB.out p.w (hk.trans p.h)).six.2.2.1
    have f3 := fun p : KeptOf wr => (HB.out p.w (hk.trans p.h)).six.2.2.2.1
    have f4 := fun p : KeptOf wr => (HB.out p.w (hk.trans p.h)).six.2.2.2.2.1
    have f5 := fun p : KeptOf wr => (HB.out p.w (hk.trans p.h)).six.2.2.2.2.2
    obtain ⟨hb, hhb⟩ : ∃ hb, holds x y.atom = hb := ⟨_, rfl⟩
    have hC := fun p : KeptOf wr => Me.ref_holdsN x SA VA QA c1 c2 c3 HX3.out.1 HX3.out.2.1 HX3.out.2.2 _ y.atom RA OA rc oc p.w (Nat.le_refl _) HOE.out.1 (HOE.out.2 _) s3 (hE.kept p.h) (HFA.out p.w (hk.trans p.h))
    rw [hhb] at hC
    have m0 := n0 ⟨wr, Keep.refl wr⟩
    clear hn HST HSR HLF HOE s3 s4 hE htop
    have hw0 : Keep wr wr := Keep.refl wr
    cases hb with
    | true =>
      have HX := Lib.hid (show next x y = y.yes by unfold next; rw [hhb]; rfl)
      clear hhb
      go_wp2
      refine wp_region_kept (by kernel_rfl) (by kernel_rfl) ?_
      repeat (go_big_quiet_step (first | with_reducible exact KeptOf.of (hC _)))
      refine Go.wpQuiet_nil ?_
      intro _ hw'
      obtain ⟨p, rfl⟩ := hw'
      obtain ⟨V, hw⟩ := p
      dsimp only
      have y8 := n8 ⟨V, hw⟩
      rw [HX.out] at s1 s2
      obtain ⟨m, hm⟩ : ∃ m : Nat, y.yes = m := ⟨y.yes.toNat, by omega⟩
      rw [hm] at y8
      clear n0 n1 n2 n3 n4 n5 n6 n7 n8 n9 f0 f1 f2 f3 f4 f5 hC m0
      go_wp2
      go_roundw
      case rel => exact ⟨m, n + 1, rfl, by go_num, by omega, by have := HT.out; rw [HX.out, hm] at this; exact this, hk.trans hw⟩
      case measure => simp [intOf]; omega
    | false =>
      have HX := Lib.hid (show next x y = y.no by unfold next; rw [hhb]; rfl)
      clear hhb
      go_wp2
      refine wp_region_kept (by kernel_rfl) (by kernel_rfl) ?_
      repeat (go_big_quiet_step (first | with_reducible exact KeptOf.of (hC _)))
      refine Go.wpQuiet_nil ?_
      intro _ hw'
      obtain ⟨p, rfl⟩ := hw'
      obtain ⟨V, hw⟩ := p
      dsimp only
      have y9 := n9 ⟨V, hw⟩
      rw [HX.out] at s1 s2
      obtain ⟨m, hm⟩ : ∃ m : Nat, y.no = m := ⟨y.no.toNat, by omega⟩
      rw [hm] at y9
      clear n0 n1 n2 n3 n4 n5 n6 n7 n8 n9 f0 f1 f2 f3 f4 f5 hC m0
      go_wp2
      go_roundw
      case rel => exact ⟨m, n + 1, rfl, by go_num, by omega, by have := HT.out; rw [HX.out, hm] at this; exact this, hk.trans hw⟩
      case measure => simp [intOf]; omega
set_option maxHeartbeats 2000000 in
theorem ref_rule_any (A : Option Addr) (c : Nat) (l : List NodeP) (x : FactsP) (SA VA QA : Option Addr) (c1 c2 c3 : Nat) (w : World) (hok : okNs l) (hr : Cp.right l = true) (h3 : x.rg.length <= c3) (h3m : c3 <= maxLen) (hx : fewF x) (hR : Nds w A l.length l) (hF : FaAt w x SA VA QA) :
  Calls Tryz.prog 40 #[.slice A l.length c, .agg #[.int .i64 x.cl, .int .i64 x.un, .int .i64 x.fc, .slice SA x.sp.length c1, .slice VA x.vs.length c2, .slice QA x.rg.length c3]] w fun e w' => e = .returned (.int .i64 (top l x).1) ∧ Keep w w' := by
 have CW := Lib.hid (fun W (hk : Keep w W) => ref_walk_any A c l x SA VA QA c1 c2 c3 W hok hr h3 h3m hx (hR.kept hk) (hF.kept hk))
 obtain ⟨b, off, rfl, hbb⟩ := hR.addr (right_pos hr)
 have HR := Lib.hid hR
 have hll := hok.1
 clear hok hr h3 h3m hx hR hF
 obtain ⟨X, hX⟩ : ∃ X, X = w.alloc (.cells #[.int .i64 x.cl, .int .i64 x.un, .int .i64 x.fc, .slice SA x.sp.length c1, .slice VA x.vs.length c2, .slice QA x.rg.length c3] 54) := ⟨_, rfl⟩
 have hkX : Keep w X := by rw [hX]; exact (Keep.refl w).alloc _
 have hC := CW.out X hkX
 clear CW
 go_enter Tryz.func40, Tryz.ntmps40
 go_wp2_with fail
 rw [<- hX]
 clear hX
 refine hC.mono ?_
 rintro e w1 ⟨k, rfl, hkl, hru, hk1⟩
 have HRU := Lib.hid hru
 obtain ⟨_, RA, OA, rc, oc, hn, _⟩ := (HR.out.kept (hkX.trans hk1)).node k hkl
 generalize l.getD k zeroN = y at hn HRU hru
 have n1 := hn.2.1
 have hk0 : (0 : Int) <= k := by omega
 have hk1' : (k : Int) < l.length := by omega
 clear hn hru
 go_wp2
 go_ret
 exact ⟨ret_int HRU.out, hkX.trans hk1⟩
end Go.Proofs.YtaciogcpghbhjaaGreat.Wk
namespace Go.Proofs.YtaciogcpghbhjaaGreat.WkD
set_option linter.unusedVariables false
set_option linter.unusedSimpArgs false
set_option maxRecDepth 100000
open Go.ChangeShapes Go.WideShapes Go.ChangeAt Go.RowKit
open Wk
open Tr (kind field rs lo hi of zero zeroR dp Ex Exs ExIn Rus RuIn RuleAt RulesIn wf wfL fits fitsL wfR getD_mem ret_bool ret_int store_float small_fits atoms atomsL)
open Fa (FaAt)
open Me (fewF okE short holds)
open Nd (Nds NodeAt zeroN okL okRs full RetNodes NOwn NodesIn wfN smallB laid)
open Cp (testP leafP lay layN layA layO rulesF rules)
theorem small_short : ∀ (N : Nat) (e : ExprP) (d : Int), Tr.small e d = true -> short N e
 | 0, _, _, _ => trivial
 | N + 1, e, d, h => by
   obtain ⟨k, f, r, l, hh, o⟩ := e
   rw [Tr.small, Tr.smallL_all] at h
   simp only [Bool.and_eq_true, decide_eq_true_eq, List.all_eq_true] at h
   obtain ⟨h0, h1, h2, h3⟩ := h
   exact ⟨by show r.length <= 100000; omega, fun y hy => small_short N y _ (h3 y hy)⟩
theorem roomy_short : ∀ (N : Nat) (e : ExprP), Nd.roomy e -> short N e
 | 0, _, _ => trivial
 | N + 1, e, h => by
   obtain ⟨k, f, r, l, hh, o⟩ := e
   rw [Nd.roomy] at h
   exact ⟨by show r.length <= 100000; omega, fun y hy => roomy_short N y (Nd.roomyL_mem h.2 y hy)⟩
def okAt (e : ExprP) : Prop := okE e ∧ ∀ N, short N e
theorem okAt_of {e : ExprP} {d : Int} (hw : wf e) (hs : Tr.small e d = true) : okAt e := ⟨⟨hw, (small_fits (dp e) e d (Nat.le_refl _) hw hs).1⟩, fun N => small_short N e d hs⟩
theorem okAt_norm {f : Int} {r : List (Int × Int)} {l h : Nat} {o : List ExprP} (hk : okL (.mk 1 f r l h o)) : okAt (.mk 1 f (Sp.norm r) l h []) := by
 have hw := hk.1
 rw [wf] at hw
 have hl := (norm_okl r).2
 have h8 := hk.few.1
 have hb := Sp.norm_fit (norm_ok r) (lo := -9223372036854775808) (hi := 9223372036854775807) (fun p hp => by have := hk.fit p hp; unfold Span.Fit at this; omega)
 have a1 : IntKind.i64.min = -9223372036854775808 := by decide
 have a2 : IntKind.i64.max = 9223372036854775807 := by decide
 have hw2 : wf (.mk 1 f (Sp.norm r) l h []) := by
  rw [wf]
  refine ⟨hw.1, fun p hp => ?_, hw.2.2.1, ⟨by unfold maxLen; omega, Nat.zero_le _⟩, by rw [wfL]; trivial⟩
  have := hb p hp
  simp only [Lit.wf, Bool.and_eq_true, decide_eq_true_eq, a1, a2]
  omega
 have hro : Nd.roomy (.mk 1 f (Sp.norm r) l h []) := by rw [Nd.roomy, Nd.roomyL]; exact ⟨⟨by omega, by simp⟩, trivial⟩
 exact ⟨⟨hw2, Nd.roomy_fits _ _ (Nat.le_refl _) hw2 hro⟩, fun N => roomy_short N _ hro⟩
mutual
theorem lay_at : ∀ (e : ExprP) (t : List NodeP) (y n : Int), okL e -> (∀ x ∈ t, okAt x.atom) -> ∀ x ∈ (lay t e y n).1, okAt x.atom
 | .mk k f r l h o, t, y, n, hk, ht, x, hx => by
   by_cases k1 : k = 1
   ·rw [Nd.lay_1 t k1] at hx
    subst k1
    rcases List.mem_append.1 hx with hx | hx
    ·exact ht x hx
    ·rw [List.mem_singleton] at hx; subst hx; exact okAt_norm hk
   have hs := hk.sub k1
   rcases hk.many k1 with ⟨rfl, rfl⟩ | ⟨rfl, e, rfl⟩ | ⟨rfl | rfl, h2⟩
   ·rw [lay, if_neg k1, if_neg (by decide), if_neg (by decide), if_neg (by decide)] at hx
    exact ht x hx
   ·rw [lay, if_neg k1, if_pos rfl] at hx
    exact layN_at [e] t y n hs ht x hx
   ·rw [Nd.lay_3] at hx
    exact layA_at o t y n hs ht x hx
   ·rw [Nd.lay_4] at hx
    exact layO_at o t y n hs ht x hx
theorem layN_at : ∀ (o : List ExprP) (t : List NodeP) (y n : Int), (∀ e ∈ o, okL e) -> (∀ x ∈ t, okAt x.atom) -> ∀ x ∈ (layN t o y n).1, okAt x.atom
 | [], t, y, n, hs, ht, x, hx => by rw [layN] at hx; exact ht x hx
 | e :: o, t, y, n, hs, ht, x, hx => by rw [layN] at hx; exact lay_at e t n y (hs e (List.mem_cons_self ..)) ht x hx
theorem layA_at : ∀ (o : List ExprP) (t : List NodeP) (y n : Int), (∀ e ∈ o, okL e) -> (∀ x ∈ t, okAt x.atom) -> ∀ x ∈ (layA t o y n).1, okAt x.atom
 | [], t, y, n, hs, ht, x, hx => by rw [layA] at hx; exact ht x hx
 | e :: o, t, y, n, hs, ht, x, hx => by
   rw [layA] at hx
   exact lay_at e _ _ _ (hs e (List.mem_cons_self ..)) (layA_at o t y n (fun x hx => hs x (List.mem_cons_of_mem _ hx)) ht) x hx
theorem layO_at : ∀ (o : List ExprP) (t : List NodeP) (y n : Int), (∀ e ∈ o, okL e) -> (∀ x ∈ t, okAt x.atom) -> ∀ x ∈ (layO t o y n).1, okAt x.atom
 | [], t, y, n, hs, ht, x, hx => by rw [layO] at hx; exact ht x hx
 | e :: o, t, y, n, hs, ht, x, hx => by
   rw [layO] at hx
   exact lay_at e _ _ _ (hs e (List.mem_cons_self ..)) (layO_at o t y n (fun x hx => hs x (List.mem_cons_of_mem _ hx)) ht) x hx
end
theorem wf_zero : wf zero := by
 unfold zero
 rw [wf]
 exact ⟨⟨by decide, by decide⟩, fun p hp => by (cases hp), ⟨by decide, by decide⟩, ⟨by decide, by decide⟩, by rw [wfL]; trivial⟩
theorem okAt_zero : okAt zero := okAt_of (d := 0) wf_zero (by decide)
theorem rulesF_at : ∀ (l : List RuleP) (i : Int), (∀ r ∈ l, okL r.when_) -> ∀ x ∈ (rulesF l i).1, okAt x.atom
 | [], i, _, x, hx => by rw [rulesF, List.mem_singleton] at hx; subst hx; exact okAt_zero
 | r :: l, i, h, x, hx => by
   rw [rulesF] at hx
   refine lay_at r.when_ _ _ _ (h r (List.mem_cons_self ..)) (fun x hx => ?_) x hx
   rcases List.mem_append.1 hx with hx | hx
   ·exact rulesF_at l (i + 1) (fun r hr => h r (List.mem_cons_of_mem _ hr)) x hx
   ·rw [List.mem_singleton] at hx; subst hx; exact okAt_zero
theorem rules_ok {l : List RuleP} (h : okRs l) : okNs (rules l) := by
 have hl := Nd.rulesF_len l 0 h.2
 have h40 := h.1
 exact ⟨by unfold rules; omega, rulesF_at l 0 fun r hr => (h.2 r hr).1⟩
end Go.Proofs.YtaciogcpghbhjaaGreat.WkD
namespace Go.Proofs.YtaciogcpghbhjaaGreat.Wk
set_option linter.unusedVariables false
open Go.ChangeShapes Go.WideShapes Go.ChangeAt Go.RowKit
open Tr (kind field rs lo hi of zero dp Ex Exs getD_mem ret_bool ret_int store_float)
open Fa (FaAt)
open Me (fewF okE short holds)
open Nd (Nds NodeAt zeroN)
theorem skip_seq {P : Program} {a : Act} {w : World} {Q : Exit -> Act -> World -> Prop} {rest : Code} (h : rest.wp P Q a w) : (Code.skip.seq rest).wp P Q a w := wp_seq (wp_skip h)
theorem wp_scope_jumps' {P : Program} {a : Act} {w : World} {Q : Exit -> Act -> World -> Prop} {c rest : Code} (l : Nat) (J : Act -> World -> Prop) (μ : Act -> World -> Nat) (hf : findLabel c l = some (Code.skip.seq rest))
  (pass : ∀ a w, J a w -> rest.wp P (Exit.jump l (fun a' w' => J a' w' ∧ μ a' w' < μ a w) Q) a w)
  (first : (∀ a w, J a w -> rest.wp P (Exit.jump l J Q) a w) -> c.wp P (Exit.jump l J Q) a w) : (Code.scope c).wp P Q a w :=
 wp_scope_jumps l J μ hf (first fun a w h => wp_mono (pass a w h) fun e a' w' hq => by
  cases e with
  | goto l' => exact ⟨hq.1, hq.2.1⟩
  | normal => exact hq
  | exit id => exact hq
  | ret => exact hq
  | panic ch => exact hq
  | outgrown => exact hq) fun a w h => skip_seq (pass a w h)
set_option maxHeartbeats 2000000 in
theorem next_any (y : NodeP) (RA OA : Option Addr) (rc oc : Nat) (x : FactsP) (SA VA QA : Option Addr) (c1 c2 c3 : Nat) (w : World) (hok : okE y.atom) (hsh : ∀ N, short N y.atom) (hri : Tr.right y.atom = true) (h3 : x.rg.length <= c3) (h3m : c3 <= maxLen) (hx : fewF x) (hE : Ex w y.atom RA OA) (hF : FaAt w x SA VA QA) :
  Calls Tryz.prog 81 #[.agg #[.bool y.leaf, .int .i64 y.rule, .int .i64 (kind y.atom), .int .i64 (field y.atom), .slice RA (rs y.atom).length rc, .float .f64 (lo y.atom), .float .f64 (hi y.atom), .slice OA (of y.atom).length oc, .int .i64 y.yes, .int .i64 y.no], .agg #[.int .i64 x.cl, .int .i64 x.un, .int .i64 x.fc, .slice SA x.sp.length c1, .slice VA x.vs.length c2, .slice QA x.rg.length c3]] w fun e w' => e = .returned (.int .i64 (next x y)) ∧ Keep w w' := by
 obtain ⟨X, hX⟩ : ∃ X, X = (w.alloc (.cells #[.bool y.leaf, .int .i64 y.rule, .int .i64 (kind y.atom), .int .i64 (field y.atom), .slice RA (rs y.atom).length rc, .float .f64 (lo y.atom), .float .f64 (hi y.atom), .slice OA (of y.atom).length oc, .int .i64 y.yes, .int .i64 y.no] 72)).alloc (.cells #[.int .i64 x.cl, .int .i64 x.un, .int .i64 x.fc, .slice SA x.sp.length c1, .slice VA x.vs.length c2, .slice QA x.rg.length c3] 54) := ⟨_, rfl⟩
 have hkX : Keep w X := by rw [hX]; exact ((Keep.refl w).alloc _).alloc _
 have bX : Bx X w.heap.size [.bool y.leaf, .int .i64 y.rule, .int .i64 (kind y.atom), .int .i64 (field y.atom), .slice RA (rs y.atom).length rc, .float .f64 (lo y.atom), .float .f64 (hi y.atom), .slice OA (of y.atom).length oc, .int .i64 y.yes, .int .i64 y.no] := by rw [hX]; exact (Bx.newq rfl).alloc _
 have HB := Lib.hid (show ∀ W, Keep X W -> Bx W w.heap.size [.bool y.leaf, .int .i64 y.rule, .int .i64 (kind y.atom), .int .i64 (field y.atom), .slice RA (rs y.atom).length rc, .float .f64 (lo y.atom), .float .f64 (hi y.atom), .slice OA (of y.atom).length oc, .int .i64 y.yes, .int .i64 y.no] from fun W hk => bX.kept hk)
 have hC := Lib.hid (Mean.holdsN x SA VA QA c1 c2 c3 h3 h3m hx _ y.atom RA OA rc oc X (Nat.le_refl _) hok (hsh _) hri (hE.kept hkX) (hF.kept hkX))
 clear hok hsh hri h3 h3m hx hE hF bX
 obtain ⟨hb, hhb⟩ : ∃ hb, holds x y.atom = hb := ⟨_, rfl⟩
 rw [hhb] at hC
 cases hb with
 | true =>
   have HX := Lib.hid (show next x y = y.yes by unfold next; rw [hhb]; rfl)
   clear hhb
   go_enter Tryz.func81, Tryz.ntmps81
   go_wp2_with fail
   rw [<- hX]
   clear hX
   refine hC.out.mono ?_
   rintro e w1 ⟨rfl, hk1⟩
   have y8 := (HB.out _ hk1).2 8 _ rfl
   go_wp2
   go_ret
   exact ⟨ret_int HX.out.symm, hkX.trans hk1⟩
 | false =>
   have HX := Lib.hid (show next x y = y.no by unfold next; rw [hhb]; rfl)
   clear hhb
   go_enter Tryz.func81, Tryz.ntmps81
   go_wp2_with fail
   rw [<- hX]
   clear hX
   refine hC.out.mono ?_
   rintro e w1 ⟨rfl, hk1⟩
   have y9 := (HB.out _ hk1).2 9 _ rfl
   go_wp2
   go_ret
   exact ⟨ret_int HX.out.symm, hkX.trans hk1⟩
set_option maxHeartbeats 8000000 in
theorem toLeaf_any (A : Option Addr) (c : Nat) (l : List NodeP) (x : FactsP) (SA VA QA : Option Addr) (c1 c2 c3 : Nat) (w : World) (hok : okNs l) (hr : Cp.right l = true) (h3 : x.rg.length <= c3) (h3m : c3 <= maxLen) (hx : fewF x) (hR : Nds w A l.length l) (hF : FaAt w x SA VA QA) :
  Calls Tryz.prog 56 #[.slice A l.length c, .agg #[.int .i64 x.cl, .int .i64 x.un, .int .i64 x.fc, .slice SA x.sp.length c1, .slice VA x.vs.length c2, .slice QA x.rg.length c3]] w fun e w' => e = .returned (.tuple #[.int .i64 (top l x).1, .int .i64 ((top l x).2 : Nat)]) ∧ Keep w w' := by
 have hp := right_pos hr
 have HR := Lib.hid hr
 have HOK := Lib.hid hok
 have hll := hok.1
 obtain ⟨X, hX⟩ : ∃ X, X = w.alloc (.cells #[.int .i64 x.cl, .int .i64 x.un, .int .i64 x.fc, .slice SA x.sp.length c1, .slice VA x.vs.length c2, .slice QA x.rg.length c3] 54) := ⟨_, rfl⟩
 have hkX : Keep w X := by rw [hX]; exact (Keep.refl w).alloc _
 have bX : Bx X w.heap.size [.int .i64 x.cl, .int .i64 x.un, .int .i64 x.fc, .slice SA x.sp.length c1, .slice VA x.vs.length c2, .slice QA x.rg.length c3] := by rw [hX]; exact Bx.newq rfl
 have HB := Lib.hid (show ∀ W, Keep X W -> Bx W w.heap.size [.int .i64 x.cl, .int .i64 x.un, .int .i64 x.fc, .slice SA x.sp.length c1, .slice VA x.vs.length c2, .slice QA x.rg.length c3] from fun W hk => bX.kept hk)
 have HFA := Lib.hid (fun (W : World) (hk : Keep X W) => (hF.kept hkX).kept hk)
 have HND := Lib.hid (fun (W : World) (hk : Keep X W) => (hR.kept hkX).kept hk)
 have HKX := Lib.hid hkX
 have HX3 := Lib.hid (And.intro h3 (And.intro h3m hx))
 obtain ⟨b, off, rfl, _⟩ := hR.addr hp
 clear hr hok bX hF hR hkX h3 h3m hx
 go_enter Tryz.func56, Tryz.ntmps56
 go_wp2
 refine wp_scope_jumps' 0 (fun a' w' => ∃ (k n cm : Nat) (u2 u8 u9 u10 u11 u12 u13 u14 u15 u16 u17 u18 u19 u20 u21 u22 u23 u24 u25 u26 u27 u28 u29 u30 u31 u32 u33 u34 u35 u36 u37 u38 u39 u40 : Value), a' = { tmps := #[.slice (some ⟨b, off, none⟩) l.length c, .agg #[.int .i64 x.cl, .int .i64 x.un, .int .i64 x.fc, .slice SA x.sp.length c1, .slice VA x.vs.length c2, .slice QA x.rg.length c3], u2, .pointer (some ⟨w.heap.size, 0, none⟩), .int .i64 0, .int .i64 n, .int .i64 cm, .int .i64 k, u8, u9, u10, u11, u12, u13, u14, u15, u16, u17, u18, u19, u20, u21, u22, u23, u24, u25, u26, u27, u28, u29, u30, u31, u32, u33, u34, u35, u36, u37, u38, u39, u40], defers := [] } ∧ k < cm ∧ cm <= l.length ∧ k + n < l.length ∧ Hid (top l x = ((walk l x k).1, (walk l x k).2 + n)) ∧ Keep X w') (fun a' _ => (intOf (a'.tmps.getD 7 undef)).toNat) rfl ?_ ?_
 ·rintro a0 w0 ⟨k, n, cm, u2, u8, u9, u10, u11, u12, u13, u14, u15, u16, u17, u18, u19, u20, u21, u22, u23, u24, u25, u26, u27, u28, u29, u30, u31, u32, u33, u34, u35, u36, u37, u38, u39, u40, rfl, hkc, hcl, hkn, htop, hk⟩
  have hk0 : (0 : Int) <= k := by omega
  have hk1 : (k : Int) < l.length := by omega
  have hkl : k < l.length := by omega
  have dA : decide ((k : Int) < 0) = false := by simp
  have dB : decide (cm <= k) = false := by simp; omega
  have dB' : decide ((cm : Int) <= (k : Int)) = false := by simp; omega
  obtain ⟨hbb, RA, OA, rc, oc, hn, hE⟩ := (HND.out _ hk).node k hkl
  obtain ⟨lf, hlf⟩ : ∃ lf, (l.getD k zeroN).leaf = lf := ⟨_, rfl⟩
  have HST := Lib.hid (fun h => walk_test (x := x) HR.out hkl h)
  have HSR := Lib.hid (fun h => right_test (x := x) HR.out hkl h)
  have HLF := Lib.hid (fun h => walk_leaf (l := l) x (k := k) h)
  have HOE := Lib.hid (HOK.out.2 _ (getD_mem zeroN l k hkl))
  clear hX
  cases lf with
  | true =>
    have HT := Lib.hid (show top l x = ((l.getD k zeroN).rule, n) by rw [htop.out, HLF.out hlf]; simp)
    generalize l.getD k zeroN = y at *
    have n0 := hn.1
    have n1 := hn.2.1
    rw [hlf] at n0
    clear hn hE HST HSR HLF HOE
    go_wp2
    have E1 := HT.out
    simp only [Exit.jump]
    go_ret2
    exact ⟨by rw [E1]; rfl, HKX.out.trans hk⟩
  | false =>
    have HT := Lib.hid (show top l x = ((walk l x (next x (l.getD k zeroN)).toNat).1, (walk l x (next x (l.getD k zeroN)).toNat).2 + (n + 1)) by rw [htop.out, HST.out hlf]; simp; omega)
    obtain ⟨s1, s2, s3, s4⟩ := HSR.out hlf
    generalize l.getD k zeroN = y at *
    have HN := Lib.hid (fun (W : World) (h : Keep w0 W) => hn.kept hbb h)
    have n0 := fun p : KeptOf w0 => (HN.out p.w p.h).1
    have n1 := fun p : KeptOf w0 => (HN.out p.w p.h).2.1
    have n2 := fun p : KeptOf w0 => (HN.out p.w p.h).2.2.1
    have n3 := fun p : KeptOf w0 => (HN.out p.w p.h).2.2.2.1
    have n4 := fun p : KeptOf w0 => (HN.out p.w p.h).2.2.2.2.1
    have n5 := fun p : KeptOf w0 => (HN.out p.w p.h).2.2.2.2.2.1
    have n6 := fun p : KeptOf w0 => (HN.out p.w p.h).2.2.2.2.2.2.1
    have n7 := fun p : KeptOf w0 => (HN.out p.w p.h).2.2.2.2.2.2.2.1
    have n8 := fun p : KeptOf w0 => (HN.out p.w p.h).2.2.2.2.2.2.2.2.1
    have n9 := fun p : KeptOf w0 => (HN.out p.w p.h).2.2.2.2.2.2.2.2.2
    simp only [hlf] at n0
    have f0 := fun p : KeptOf w0 => (HB.out p.w (hk.trans p.h)).six.1
    have f1 := fun p : KeptOf w0 => (HB.out p.w (hk.trans p.h)).six.2.1
    have f2 := fun p : KeptOf w0 => (HB.out p.w (hk.trans p.h)).six.2.2.1
    have f3 := fun p : KeptOf w0 => (HB.out p.w (hk.trans p.h)).six.2.2.2.1
    have f4 := fun p : KeptOf w0 => (HB.out p.w (hk.trans p.h)).six.2.2.2.2.1
    have f5 := fun p : KeptOf w0 => (HB.out p.w (hk.trans p.h)).six.2.2.2.2.2
    obtain ⟨m, hm⟩ : ∃ m : Nat, next x y = m := ⟨(next x y).toNat, by omega⟩
    have hC := fun p : KeptOf w0 => next_any y RA OA rc oc x SA VA QA c1 c2 c3 p.w HOE.out.1 HOE.out.2 s3 HX3.out.1 HX3.out.2.1 HX3.out.2.2 (hE.kept p.h) (HFA.out p.w (hk.trans p.h))
    rw [hm] at hC HT s1 s2
    rw [hlf] at hC
    have m0 := n0 ⟨w0, Keep.refl w0⟩
    clear hn HST HSR HLF HOE s3 s4 hE htop
    go_wp2
    clear m0
    refine wp_region_kept (by kernel_rfl) (by kernel_rfl) ?_
    repeat (go_big_quiet_step (first | with_reducible exact KeptOf.of (hC _)))
    refine Go.wpQuiet_nil ?_
    intro _ hw'
    obtain ⟨p, rfl⟩ := hw'
    obtain ⟨V, hw⟩ := p
    dsimp only
    clear n0 n1 n2 n3 n4 n5 n6 n7 n8 n9 f0 f1 f2 f3 f4 f5 hC
    go_wp2
    go_step3
    refine ⟨rfl, ⟨m, n + 1, k, _, _, _, _, _, _, _, _, _, _, _, _, _, _, _, _, _, _, _, _, _, _, _, _, _, _, _, _, _, _, _, _, _, _, rfl, by omega, by omega, by omega, by simpa using HT, hk.trans hw⟩, ?_⟩
    simp [intOf]
    omega
 ·intro hrest
  have g1 : ((l.length : Int) - 1) = ((l.length - 1 : Nat) : Int) := by omega
  go_wp2
  go_step3
  rw [<- hX]
  rename_i K hKK
  refine hKK _ _ (hrest _ _ ⟨l.length - 1, 0, l.length, _, _, _, _, _, _, _, _, _, _, _, _, _, _, _, _, _, _, _, _, _, _, _, _, _, _, _, _, _, _, _, _, _, _, rfl, by omega, Nat.le_refl _, by omega, rfl, Keep.refl _⟩)
set_option maxHeartbeats 2000000 in
theorem rule_any (A : Option Addr) (c : Nat) (l : List NodeP) (x : FactsP) (SA VA QA : Option Addr) (c1 c2 c3 : Nat) (w : World) (hok : okNs l) (hr : Cp.right l = true) (h3 : x.rg.length <= c3) (h3m : c3 <= maxLen) (hx : fewF x) (hR : Nds w A l.length l) (hF : FaAt w x SA VA QA) :
  Calls Tryz.prog 37 #[.slice A l.length c, .agg #[.int .i64 x.cl, .int .i64 x.un, .int .i64 x.fc, .slice SA x.sp.length c1, .slice VA x.vs.length c2, .slice QA x.rg.length c3]] w fun e w' => e = .returned (.int .i64 (top l x).1) ∧ Keep w w' := by
 have CW := Lib.hid (fun W (hk : Keep w W) => toLeaf_any A c l x SA VA QA c1 c2 c3 W hok hr h3 h3m hx (hR.kept hk) (hF.kept hk))
 obtain ⟨b, off, rfl, hbb⟩ := hR.addr (right_pos hr)
 have hll := hok.1
 clear hok hr h3 h3m hx hR hF
 obtain ⟨X, hX⟩ : ∃ X, X = w.alloc (.cells #[.int .i64 x.cl, .int .i64 x.un, .int .i64 x.fc, .slice SA x.sp.length c1, .slice VA x.vs.length c2, .slice QA x.rg.length c3] 54) := ⟨_, rfl⟩
 have hkX : Keep w X := by rw [hX]; exact (Keep.refl w).alloc _
 have hC := CW.out X hkX
 clear CW
 go_enter Tryz.func37, Tryz.ntmps37
 go_wp2_with fail
 rw [<- hX]
 clear hX
 refine hC.mono ?_
 rintro e w1 ⟨rfl, hk1⟩
 go_wp2
 go_ret
 exact ⟨rfl, hkX.trans hk1⟩
end Go.Proofs.YtaciogcpghbhjaaGreat.Wk
/- What becomes of a client's frame, in plain words: levels, ticks, the verdict, the exception. Conditions: none. -/
namespace Go.Proofs.YtaciogcpghbhjaaGreat.Jg
set_option linter.unusedVariables false
open Go.RowKit
open Tr (zeroR ruleR)
def rate (r : RuleP) : RateB := ⟨r.num, r.per, r.burst⟩
def levels (l : List RuleP) : List Int := l.map fun r => Bu.full (rate r)
def tick1 (r : RuleP) (n : Int) : Int := if 0 < r.per then Bu.tick n (rate r) else 0
def tick (l : List RuleP) (lv : List Int) : List Int := List.zipWith tick1 l lv
noncomputable def rule (l : List RuleP) (cl : Int) (f : FrameP) : Int := Me.first (Fa.of cl f.unit (Ak.get f.pdu)) l
noncomputable def verdict (l : List RuleP) (lv : List Int) (cl : Int) (f : FrameP) (full : Bool) : Int × Int × List Int :=
 if Ak.err f.pdu = 2 then (3, -1, lv) else if Ak.err f.pdu = 3 then (4, -1, lv) else if Ak.err f.pdu = 4 then (5, -1, lv)
 else if rule l cl f < 0 ∨ (l.getD (rule l cl f).toNat zeroR).allow = false then (2, rule l cl f, lv)
 else if full then (7, rule l cl f, lv)
 else if (l.getD (rule l cl f).toNat zeroR).per = 0 then (1, rule l cl f, lv)
 else if lv.getD (rule l cl f).toNat 0 < (l.getD (rule l cl f).toNat zeroR).per then (6, rule l cl f, lv)
 else (1, rule l cl f, lv.set (rule l cl f).toNat (lv.getD (rule l cl f).toNat 0 - (l.getD (rule l cl f).toNat zeroR).per))
def code (v : Int) : Int := if v = 3 ∨ v = 2 then 1 else if v = 4 then 2 else if v = 5 then 3 else if v = 6 ∨ v = 7 then 6 else 0
def excuse (f : FrameP) (v : Int) : FrameP := if code v = 0 then Mb.zero else ⟨f.id, f.unit, st [UInt8.ofNat (byteAt f.pdu 0 % 128 + 128).toNat, UInt8.ofNat (code v).toNat]⟩
def excuseOk (v : Int) : Bool := !(code v == 0)
def okJ (l : List RuleP) : Prop := ∀ r ∈ l, (r.per = 0 ∧ r.num = 0 ∧ r.burst = 0) ∨ Bu.right (rate r) = true
def okV (l : List RuleP) (lv : List Int) : Prop := lv.length = l.length ∧ ∀ k, k < l.length -> 0 <= lv.getD k 0 ∧ lv.getD k 0 <= Bu.full (rate (l.getD k zeroR))
theorem getR (l : List RuleP) (k : Nat) (h : k < l.length) : l.getD k zeroR = l[k] := by simp [List.getD, List.getElem?_eq_getElem h]
theorem getI (l : List Int) (k : Nat) (h : k < l.length) : l.getD k 0 = l[k] := by simp [List.getD, List.getElem?_eq_getElem h]
theorem memR (l : List RuleP) (k : Nat) (h : k < l.length) : l.getD k zeroR ∈ l := by rw [getR l k h]; exact List.getElem_mem h
theorem okJ.at {l : List RuleP} (h : okJ l) (k : Nat) (hk : k < l.length) : ((l.getD k zeroR).per = 0 ∧ (l.getD k zeroR).num = 0 ∧ (l.getD k zeroR).burst = 0) ∨ Bu.right (rate (l.getD k zeroR)) = true := h _ (memR l k hk)
theorem okJ.pos {l : List RuleP} (h : okJ l) {k : Nat} (hk : k < l.length) (hp : (l.getD k zeroR).per ≠ 0) : Bu.right (rate (l.getD k zeroR)) = true := by
 rcases h.at k hk with h | h
 ·exact absurd h.1 hp
 ·exact h
theorem full_zero {r : RuleP} (h : r.per = 0 ∧ r.num = 0 ∧ r.burst = 0) : Bu.full (rate r) = 0 := by
 show r.burst * r.per = 0
 rw [h.1]; simp
theorem okV_levels {l : List RuleP} (h : okJ l) : okV l (levels l) := by
 refine ⟨by simp [levels], fun k hk => ?_⟩
 have e : (levels l).getD k 0 = Bu.full (rate (l.getD k zeroR)) := by
  rw [getI _ k (by simpa [levels] using hk), getR l k hk]; simp [levels]
 rw [e]
 refine ⟨?_, Int.le_refl _⟩
 rcases h.at k hk with h | h
 ·rw [full_zero h]; exact Int.le_refl _
 ·have := Bu.full_range h
  have := (Bu.right_iff _).1 h
  omega
theorem tick_len {l : List RuleP} {lv : List Int} (h : lv.length = l.length) : (tick l lv).length = l.length := by unfold tick; rw [List.length_zipWith]; omega
theorem tick_at {l : List RuleP} {lv : List Int} (h : lv.length = l.length) (k : Nat) (hk : k < l.length) : (tick l lv).getD k 0 = tick1 (l.getD k zeroR) (lv.getD k 0) := by
 rw [getI _ k (by rw [tick_len h]; exact hk), getR l k hk, getI lv k (by omega)]
 simp [tick]
theorem okV_tick {l : List RuleP} {lv : List Int} (hj : okJ l) (h : okV l lv) : okV l (tick l lv) := by
 refine ⟨tick_len h.1, fun k hk => ?_⟩
 rw [tick_at h.1 k hk]
 obtain ⟨h0, h1⟩ := h.2 k hk
 unfold tick1
 split
 ·rename_i hp
  have hr := hj.pos hk (by omega)
  have := Bu.tick_range hr h0 h1
  omega
 ·rename_i hp
  rcases hj.at k hk with h | h
  ·rw [full_zero h]; omega
  ·have := Bu.full_range h
   have := (Bu.right_iff _).1 h
   omega
theorem okV_set {l : List RuleP} {lv : List Int} (h : okV l lv) (k : Nat) (z : Int) (hz : k < l.length -> 0 <= z ∧ z <= Bu.full (rate (l.getD k zeroR))) : okV l (lv.set k z) := by
 refine ⟨by rw [List.length_set]; exact h.1, fun j hj => ?_⟩
 have e : (lv.set k z).getD j 0 = if k = j then z else lv.getD j 0 := by
  simp only [List.getD_eq_getElem?_getD, List.getElem?_set]
  by_cases hkj : k = j
  ·subst hkj
   have := h.1
   simp [show k < lv.length by omega]
  ·simp [hkj]
 rw [e]
 split
 ·rename_i hkj; subst hkj; exact hz hj
 ·exact h.2 j hj
theorem err_four (s : ByteArray) : Ak.err s = 0 ∨ Ak.err s = 2 ∨ Ak.err s = 3 ∨ Ak.err s = 4 := by
 unfold Ak.err
 split
 ·exact .inr (.inl rfl)
 ·split
  ·exact .inr (.inr (.inr rfl))
  ·split
   ·exact .inr (.inr (.inl rfl))
   ·exact .inl rfl
theorem firstF_range (x : FactsP) : ∀ (l : List RuleP) (i : Int), Me.firstF x l i = -1 ∨ (i <= Me.firstF x l i ∧ Me.firstF x l i < i + l.length)
 | [], i => .inl rfl
 | r :: l, i => by
   unfold Me.firstF
   split
   ·right; simp; omega
   ·rcases firstF_range x l (i + 1) with h | h
    ·exact .inl h
    ·right; simp; omega
theorem rule_range (l : List RuleP) (cl : Int) (f : FrameP) : rule l cl f = -1 ∨ (0 <= rule l cl f ∧ rule l cl f < l.length) := by
 have := firstF_range (Fa.of cl f.unit (Ak.get f.pdu)) l 0
 unfold rule Me.first
 rcases this with h | h
 ·exact .inl h
 ·right; omega
theorem okV_verdict {l : List RuleP} {lv : List Int} (hj : okJ l) (h : okV l lv) (cl : Int) (f : FrameP) (full : Bool) : okV l (verdict l lv cl f full).2.2 := by
 unfold verdict
 split
 ·exact h
 split
 ·exact h
 split
 ·exact h
 split
 ·exact h
 split
 ·exact h
 split
 ·exact h
 split
 ·exact h
 ·rename_i h1 h2 h3 h4 h5 h6 h7
  refine okV_set h _ _ fun hk => ?_
  have hr := hj.pos hk h6
  have := (Bu.right_iff _).1 hr
  have hp : 1 <= (l.getD (rule l cl f).toNat zeroR).per := this.2.2.1
  have := h.2 _ hk
  omega
end Go.Proofs.YtaciogcpghbhjaaGreat.Jg
