/- Of these texts: SpA. Conditions: as each part says. -/
import Derived.ProofKit
/- Ranges in plain words: which numbers they have, when they are in order, and that there is one way to write numbers so. Conditions: none. -/
namespace Go.Proofs.YtaciogcpghbhjaaGreat.Sp
def inR (r : Int × Int) (n : Int) : Bool := decide (r.1 <= n) && decide (n <= r.2)
def emp (r : Int × Int) : Bool := decide (r.2 < r.1)
def has (l : List (Int × Int)) (n : Int) : Bool := l.any fun r => inR r n
def apart (a r : Int × Int) : Bool := decide (a.2 + 1 < r.1)
def Right (l : List (Int × Int)) : Prop := (∀ r ∈ l, r.1 <= r.2) ∧ l.Pairwise fun a b => a.2 + 1 < b.1
theorem inR_iff {r : Int × Int} {n : Int} : inR r n = true ↔ r.1 <= n ∧ n <= r.2 := by simp [inR]
theorem has_iff {l : List (Int × Int)} {n : Int} : has l n = true ↔ ∃ r ∈ l, r.1 <= n ∧ n <= r.2 := by simp [has, inR]
theorem has_append (a b : List (Int × Int)) (n : Int) : has (a ++ b) n = (has a n || has b n) := by simp [has]
theorem has_cons (a : Int × Int) (b : List (Int × Int)) (n : Int) : has (a :: b) n = (inR a n || has b n) := by simp [has]
theorem has_one (a : Int × Int) (n : Int) : has [a] n = inR a n := by simp [has]
theorem Right.nil : Right [] := ⟨fun r h => (by cases h), List.Pairwise.nil⟩
theorem right_cons {x : Int × Int} {l : List (Int × Int)} (h : Right (x :: l)) : x.1 <= x.2 ∧ (∀ y ∈ l, x.2 + 1 < y.1) ∧ Right l := by
 obtain ⟨h1, h2⟩ := h
 rw [List.pairwise_cons] at h2
 exact ⟨h1 x (by simp), h2.1, fun r hr => h1 r (by simp [hr]), h2.2⟩
theorem Right.sub {a b : List (Int × Int)} (h : Right b) (hs : a.Sublist b) : Right a := ⟨fun r hr => h.1 r (hs.subset hr), h.2.sublist hs⟩
theorem one_way : ∀ (a b : List (Int × Int)), Right a -> Right b -> (∀ n, has a n = has b n) -> a = b
 | [], [], _, _, _ => rfl
 | [], y :: b, _, hb, h => by
   have h1 := right_cons hb
   have := h y.1
   rw [has_cons, (inR_iff (r := y) (n := y.1)).2 ⟨by omega, h1.1⟩] at this
   simp [has] at this
 | x :: a, [], ha, _, h => by
   have h1 := right_cons ha
   have := h x.1
   rw [has_cons, (inR_iff (r := x) (n := x.1)).2 ⟨by omega, h1.1⟩] at this
   simp [has] at this
 | x :: a, y :: b, ha, hb, h => by
   obtain ⟨hx, hxa, ha'⟩ := right_cons ha
   obtain ⟨hy, hyb, hb'⟩ := right_cons hb
   have lo : ∀ (u : Int × Int) (l : List (Int × Int)) (n : Int), u.1 <= u.2 -> (∀ v ∈ l, u.2 + 1 < v.1) -> has (u :: l) n = true -> u.1 <= n ∧ (u.2 < n -> u.2 + 1 < n) := by
    intro u l n hu hl hn
    rw [has_cons, Bool.or_eq_true] at hn
    rcases hn with hn | hn
    ·have := inR_iff.1 hn; omega
    ·obtain ⟨r, hr, h1, h2⟩ := has_iff.1 hn
     have := hl r hr
     omega
   have fst : ∀ (u : Int × Int) (l : List (Int × Int)) (n : Int), u.1 <= n -> n <= u.2 -> has (u :: l) n = true := by
    intro u l n h1 h2
    rw [has_cons, inR_iff.2 ⟨h1, h2⟩]; rfl
   have e1 : x.1 = y.1 := by
    have a1 := (lo y b x.1 hy hyb (by rw [<- h]; exact fst x a _ (by omega) (by omega))).1
    have a2 := (lo x a y.1 hx hxa (by rw [h]; exact fst y b _ (by omega) (by omega))).1
    omega
   have e2 : x.2 = y.2 := by
    rcases Int.lt_trichotomy x.2 y.2 with h1 | h1 | h1
    ·have := (lo x a (x.2 + 1) hx hxa (by rw [h]; exact fst y b _ (by omega) (by omega))).2; omega
    ·exact h1
    ·have := (lo y b (y.2 + 1) hy hyb (by rw [<- h]; exact fst x a _ (by omega) (by omega))).2; omega
   have e : x = y := Prod.ext e1 e2
   subst e
   congr 1
   refine one_way a b ha' hb' fun n => ?_
   by_cases hn : x.2 < n
   ·have hi : inR x n = false := by
     cases e : inR x n with
     | false => rfl
     | true => have := inR_iff.1 e; omega
    have := h n
    rw [has_cons, has_cons, hi] at this
    simpa using this
   ·have no : ∀ l : List (Int × Int), (∀ v ∈ l, x.2 + 1 < v.1) -> has l n = false := by
     intro l hl
     cases e : has l n with
     | false => rfl
     | true =>
       obtain ⟨r, hr, h1, h2⟩ := has_iff.1 e
       have := hl r hr
       omega
    rw [no a hxa, no b hyb]
theorem right_snoc {m : List (Int × Int)} {r : Int × Int} (h : Right m) (hr : r.1 <= r.2) (ha : ∀ a ∈ m, a.2 + 1 < r.1) : Right (m ++ [r]) := by
 refine ⟨fun x hx => ?_, ?_⟩
 ·rw [List.mem_append] at hx
  rcases hx with hx | hx
  ·exact h.1 x hx
  ·simp at hx; subst hx; exact hr
 ·rw [List.pairwise_append]
  refine ⟨h.2, by simp, fun a ham b hb => ?_⟩
  simp at hb; subst hb
  exact ha a ham
theorem right_last {m : List (Int × Int)} {a : Int × Int} (h : Right (m ++ [a])) : Right m ∧ a.1 <= a.2 ∧ ∀ b ∈ m, b.2 + 1 < a.1 := by
 have hp := h.2
 rw [List.pairwise_append] at hp
 exact ⟨h.sub (List.sublist_append_left _ _), h.1 a (by simp), fun b hb => hp.2.2 b hb a (by simp)⟩
theorem right_step_new {m : List (Int × Int)} {a r : Int × Int} (h : Right (m ++ [a])) (hr : r.1 <= r.2) (ha : a.2 + 1 < r.1) : Right (m ++ [a] ++ [r]) := by
 obtain ⟨h1, h2, h3⟩ := right_last h
 refine right_snoc h hr fun b hb => ?_
 rw [List.mem_append] at hb
 rcases hb with hb | hb
 ·have := h3 b hb; omega
 ·simp at hb; subst hb; exact ha
theorem right_step_into {m : List (Int × Int)} {a r : Int × Int} (h : Right (m ++ [a])) : Right (m ++ [(a.1, max a.2 r.2)]) := by
 obtain ⟨h1, h2, h3⟩ := right_last h
 exact right_snoc h1 (by simp only; omega) h3
theorem has_step_into {m : List (Int × Int)} {a r : Int × Int} (hl : a.1 <= r.1) (ha : r.1 <= a.2 + 1) (n : Int) : has (m ++ [(a.1, max a.2 r.2)]) n = (has (m ++ [a]) n || inR r n) := by
 rw [has_append, has_append, has_one, has_one, Bool.or_assoc]
 congr 1
 rw [Bool.eq_iff_iff, Bool.or_eq_true, inR_iff, inR_iff, inR_iff]
 simp only
 omega
def Into (l : List (Int × Int)) (r : Int × Int) (k : Nat) (out : List (Int × Int)) (q : Int × Int) : Prop :=
 out.Sublist (l.take k) ∧ q.1 <= q.2 ∧ (∀ o ∈ out, o.2 + 1 < q.1 ∨ q.2 + 1 < o.1) ∧ ∀ n, (has out n || inR q n) = (has (l.take k) n || inR r n)
theorem Into.start (l : List (Int × Int)) (r : Int × Int) (hr : r.1 <= r.2) : Into l r 0 [] r := ⟨by simp, hr, fun o h => (by cases h), fun n => by simp⟩
theorem take_snoc (l : List (Int × Int)) (k : Nat) (hk : k < l.length) : l.take (k + 1) = l.take k ++ [l.getD k (0, 0)] := by
 rw [List.take_succ_eq_append_getElem hk]
 simp [List.getD, List.getElem?_eq_getElem hk]
theorem Into.apart {l : List (Int × Int)} {r q : Int × Int} {k : Nat} {out : List (Int × Int)} (h : Into l r k out q) (hk : k < l.length) (ha : (l.getD k (0, 0)).2 + 1 < q.1 ∨ q.2 + 1 < (l.getD k (0, 0)).1) :
  Into l r (k + 1) (out ++ [l.getD k (0, 0)]) q := by
 obtain ⟨h1, h2, h3, h4⟩ := h
 refine ⟨by rw [take_snoc l k hk]; exact List.Sublist.append h1 (List.Sublist.refl _), h2, fun o ho => ?_, fun n => ?_⟩
 ·rw [List.mem_append] at ho
  rcases ho with ho | ho
  ·exact h3 o ho
  ·simp only [List.mem_singleton] at ho
   subst ho
   exact ha
 ·have := h4 n
  rw [take_snoc l k hk, has_append, has_append, Bool.or_right_comm, this, Bool.or_right_comm]
theorem Into.touch {l : List (Int × Int)} {r q : Int × Int} {k : Nat} {out : List (Int × Int)} (h : Into l r k out q) (hk : k < l.length) (hl : Right l) (ha : q.1 <= (l.getD k (0, 0)).2 + 1) (hb : (l.getD k (0, 0)).1 <= q.2 + 1) :
  Into l r (k + 1) out (min q.1 (l.getD k (0, 0)).1, max q.2 (l.getD k (0, 0)).2) := by
 obtain ⟨h1, h2, h3, h4⟩ := h
 have hr := hl.sub (List.take_sublist (k + 1) l)
 have hs := take_snoc l k hk
 rw [hs] at hr
 obtain ⟨_, hx, hbef⟩ := right_last hr
 clear hr
 generalize l.getD k (0, 0) = x at *
 refine ⟨h1.trans (by rw [hs]; exact List.sublist_append_left _ _), by simp only; omega, fun o ho => ?_, fun n => ?_⟩
 ·have a := hbef o (h1.subset ho)
  have b := h3 o ho
  have c := (hl.sub (List.take_sublist k l)).1 o (h1.subset ho)
  simp only
  omega
 ·have := h4 n
  rw [hs, has_append, has_one, Bool.or_right_comm, <- this, Bool.or_assoc]
  congr 1
  rw [Bool.eq_iff_iff, Bool.or_eq_true, inR_iff, inR_iff, inR_iff]
  simp only
  omega
theorem Into.done {l : List (Int × Int)} {r q : Int × Int} {out : List (Int × Int)} (h : Into l r l.length out q) (hl : Right l) (i : Nat) (hb : ∀ j, j < i -> (out.getD j (0, 0)).1 < q.1) (hi : i <= out.length) (he : i < out.length -> q.1 <= (out.getD i (0, 0)).1) :
  Right (out.take i ++ [q] ++ out.drop i) ∧ ∀ n, has (out.take i ++ [q] ++ out.drop i) n = (has l n || inR r n) := by
 obtain ⟨h1, h2, h3, h4⟩ := h
 rw [List.take_length] at h1 h4
 have ho := hl.sub h1
 have gd : ∀ j (hj : j < out.length), out.getD j (0, 0) = out[j] := fun j hj => by simp [List.getD, List.getElem?_eq_getElem hj]
 have hp := List.pairwise_iff_getElem.1 ho.2
 have h5 : ∀ a ∈ out.take i, a.2 + 1 < q.1 := by
  intro a ha
  obtain ⟨j, hj, rfl⟩ := List.mem_iff_getElem.1 ha
  rw [List.getElem_take]
  have hj' : j < i ∧ j < out.length := by simp at hj; omega
  have a1 := hb j hj'.1
  rw [gd j hj'.2] at a1
  have a2 := h3 out[j] (List.getElem_mem hj'.2)
  omega
 have h6 : ∀ b ∈ out.drop i, q.2 + 1 < b.1 := by
  intro b hbm
  obtain ⟨j, hj, rfl⟩ := List.mem_iff_getElem.1 hbm
  rw [List.getElem_drop]
  have hj' : i + j < out.length := by simp at hj; omega
  have a1 := he (by omega)
  rw [gd i (by omega)] at a1
  have a2 := h3 out[i + j] (List.getElem_mem hj')
  have a4 := ho.1 out[i + j] (List.getElem_mem hj')
  rcases Nat.eq_zero_or_pos j with rfl | hjp
  ·simp only [Nat.add_zero] at *; omega
  ·have a3 := hp i (i + j) (by omega) hj' (by omega)
   have a5 := ho.1 out[i] (List.getElem_mem (by omega))
   omega
 refine ⟨⟨fun x hx => ?_, ?_⟩, fun n => ?_⟩
 ·simp only [List.mem_append, List.mem_singleton] at hx
  rcases hx with (hx | hx) | hx
  ·exact ho.1 x (List.mem_of_mem_take hx)
  ·subst hx; exact h2
  ·exact ho.1 x (List.mem_of_mem_drop hx)
 ·rw [List.pairwise_append]
  refine ⟨?_, ho.2.sublist (List.drop_sublist _ _), fun a ha b hbm => ?_⟩
  ·rw [List.pairwise_append]
   refine ⟨ho.2.sublist (List.take_sublist _ _), by simp, fun a ha b hbm => ?_⟩
   simp only [List.mem_singleton] at hbm
   subst hbm
   exact h5 a ha
  ·simp only [List.mem_append, List.mem_singleton] at ha
   rcases ha with ha | ha
   ·have := h5 a ha; have := h6 b hbm; omega
   ·subst ha; exact h6 b hbm
 ·rw [has_append, has_append, has_one, <- h4 n, Bool.or_right_comm, <- has_append, List.take_append_drop]
def cov (zs : List (Int × Int)) (r : Int × Int) : Bool := zs.any fun o => decide (o.1 <= r.1) && decide (r.2 <= o.2)
def covers (zs : List (Int × Int)) (r : Int × Int) : Bool := emp r || cov zs r
theorem has_perm {a b : List (Int × Int)} (h : a.Perm b) (n : Int) : has a n = has b n := by
 rw [Bool.eq_iff_iff, has_iff, has_iff]
 constructor
 ·rintro ⟨r, hr, h1⟩; exact ⟨r, h.mem_iff.1 hr, h1⟩
 ·rintro ⟨r, hr, h1⟩; exact ⟨r, h.mem_iff.2 hr, h1⟩
theorem has_filter (l : List (Int × Int)) (n : Int) : has (l.filter fun r => !emp r) n = has l n := by
 rw [Bool.eq_iff_iff, has_iff, has_iff]
 constructor
 ·rintro ⟨r, hr, h1⟩; exact ⟨r, (List.mem_filter.1 hr).1, h1⟩
 ·rintro ⟨r, hr, h1, h2⟩; exact ⟨r, List.mem_filter.2 ⟨hr, by simp [emp]; omega⟩, h1, h2⟩
theorem has_snoc_emp {l : List (Int × Int)} {r : Int × Int} (h : emp r = true) (n : Int) : has (l ++ [r]) n = has l n := by
 have : inR r n = false := by
  cases e : inR r n with
  | false => rfl
  | true => have := inR_iff.1 e; simp [emp] at h; omega
 rw [has_append, has_one, this, Bool.or_false]
open Classical in
noncomputable def norm (zs : List (Int × Int)) : List (Int × Int) := if h : ∃ z, Right z ∧ ∀ n, has z n = has zs n then h.choose else []
def NormOk (zs : List (Int × Int)) : Prop := Right (norm zs) ∧ ∀ n, has (norm zs) n = has zs n
theorem norm_of {z zs : List (Int × Int)} (h : Right z) (hn : ∀ n, has z n = has zs n) : norm zs = z ∧ NormOk zs := by
 have hex : ∃ z, Right z ∧ ∀ n, has z n = has zs n := ⟨z, h, hn⟩
 have hs := hex.choose_spec
 have e : norm zs = hex.choose := by unfold norm; rw [dif_pos hex]
 have e2 : hex.choose = z := one_way _ _ hs.1 h fun n => by rw [hs.2, hn]
 refine ⟨e.trans e2, ?_, ?_⟩
 ·rw [e]; exact hs.1
 ·rw [e]; exact hs.2
theorem norm_congr {a b : List (Int × Int)} (h : ∀ n, has a n = has b n) (hb : NormOk b) : norm a = norm b := (norm_of hb.1 fun n => (hb.2 n).trans (h n).symm).1
theorem norm_fit {zs : List (Int × Int)} (h : NormOk zs) {lo hi : Int} (hz : ∀ r ∈ zs, (lo <= r.1 ∧ r.1 <= hi) ∧ lo <= r.2 ∧ r.2 <= hi) : ∀ r ∈ norm zs, (lo <= r.1 ∧ r.1 <= hi) ∧ lo <= r.2 ∧ r.2 <= hi := by
 intro r hr
 have hle := h.1.1 r hr
 have h1 := h.2 r.1
 have h2 := h.2 r.2
 rw [(has_iff (l := norm zs)).2 ⟨r, hr, by omega, hle⟩] at h1
 rw [(has_iff (l := norm zs)).2 ⟨r, hr, hle, by omega⟩] at h2
 obtain ⟨a, ha, a1, a2⟩ := has_iff.1 h1.symm
 obtain ⟨b, hb, b1, b2⟩ := has_iff.1 h2.symm
 have := hz a ha
 have := hz b hb
 omega
theorem norm_norm {zs : List (Int × Int)} (h : NormOk zs) : norm (norm zs) = norm zs := norm_congr h.2 h
def Merge (ys : List (Int × Int)) (k : Nat) (m : List (Int × Int)) : Prop :=
 Right m ∧ (∀ t, has m t = has (ys.take k) t) ∧ (∀ a ∈ m, ∀ j, k <= j -> j < ys.length -> a.1 <= (ys.getD j (0, 0)).1) ∧ m.length <= k
def Lows (ys : List (Int × Int)) : Prop := ∀ i j, i < j -> j < ys.length -> (ys.getD i (0, 0)).1 <= (ys.getD j (0, 0)).1
theorem Merge.start (ys : List (Int × Int)) : Merge ys 0 [] := ⟨Right.nil, fun t => by simp, fun a h => (by cases h), Nat.le_refl _⟩
theorem Lows.le {ys : List (Int × Int)} (h : Lows ys) {k j : Nat} (hk : k <= j) (hj : j < ys.length) : (ys.getD k (0, 0)).1 <= (ys.getD j (0, 0)).1 := by
 rcases Nat.eq_or_lt_of_le hk with rfl | hlt
 ·exact Int.le_refl _
 ·exact h _ _ hlt hj
theorem Merge.new {ys m : List (Int × Int)} {k : Nat} (h : Merge ys k m) (hs : Lows ys) (hk : k < ys.length) (hm : Right (m ++ [ys.getD k (0, 0)])) : Merge ys (k + 1) (m ++ [ys.getD k (0, 0)]) := by
 obtain ⟨h1, h2, h3, h4⟩ := h
 refine ⟨hm, fun t => by rw [take_snoc ys k hk, has_append, has_append, h2], fun a ha j hj hjl => ?_, by simp; omega⟩
 rw [List.mem_append] at ha
 rcases ha with ha | ha
 ·exact h3 a ha j (by omega) hjl
 ·simp only [List.mem_singleton] at ha
  subst ha
  exact hs.le (by omega) hjl
theorem Merge.first {ys : List (Int × Int)} {k : Nat} (h : Merge ys k []) (hs : Lows ys) (hk : k < ys.length) (hr : (ys.getD k (0, 0)).1 <= (ys.getD k (0, 0)).2) : Merge ys (k + 1) [ys.getD k (0, 0)] :=
 h.new hs hk (right_snoc Right.nil hr fun a ha => (by cases ha))
theorem Merge.apart {ys m : List (Int × Int)} {a : Int × Int} {k : Nat} (h : Merge ys k (m ++ [a])) (hs : Lows ys) (hk : k < ys.length) (hr : (ys.getD k (0, 0)).1 <= (ys.getD k (0, 0)).2) (ha : Sp.apart a (ys.getD k (0, 0)) = true) : Merge ys (k + 1) (m ++ [a] ++ [ys.getD k (0, 0)]) :=
 h.new hs hk (right_step_new h.1 hr (by simpa [Sp.apart] using ha))
theorem Merge.into {ys m : List (Int × Int)} {a : Int × Int} {k : Nat} (h : Merge ys k (m ++ [a])) (hk : k < ys.length) (ha : Sp.apart a (ys.getD k (0, 0)) = false) : Merge ys (k + 1) (m ++ [(a.1, max a.2 (ys.getD k (0, 0)).2)]) := by
 obtain ⟨h1, h2, h3, h4⟩ := h
 have hl := h3 a (by simp) k (Nat.le_refl _) hk
 have ha' : (ys.getD k (0, 0)).1 <= a.2 + 1 := by
  have := decide_eq_false_iff_not.1 ha
  omega
 refine ⟨right_step_into h1, fun t => by rw [has_step_into hl ha', h2, take_snoc ys k hk, has_append, has_one], fun b hb j hj hjl => ?_, by simp at h4 ⊢; omega⟩
 rw [List.mem_append] at hb
 rcases hb with hb | hb
 ·exact h3 b (by simp [hb]) j (by omega) hjl
 ·simp only [List.mem_singleton] at hb
  subst hb
  exact h3 a (by simp) j (by omega) hjl
theorem Merge.done {ys zs m : List (Int × Int)} (h : Merge ys ys.length m) (hz : ∀ t, has ys t = has zs t) : norm zs = m ∧ NormOk zs :=
 norm_of h.1 fun t => by rw [h.2.1, List.take_length, hz]
end Go.Proofs.YtaciogcpghbhjaaGreat.Sp
