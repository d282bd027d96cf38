/- Requests that wait, but for the place of their values: likeness, and what goes along with it. Conditions: none. -/
import Derived.Test.YtijnajlijdnbcaaPnR
namespace Go.Proofs.Ytijnajlijdnbcaa.Pn
set_option linter.unusedVariables false
open Go.ChangeShapes Go.WideShapes Go.ChangeAt Go.RowKit
/-- One whose values lie elsewhere. -/
def wh (p : PendP) (A : Option Addr) (c : Nat) : PendP := { p with A := A, c := c }
def nrm (p : PendP) : PendP := wh p none 0
theorem nrm_wh {p q : PendP} (h : nrm q = nrm p) : q = wh p q.A q.c := by
  cases p; cases q
  simp [nrm, wh] at h ⊢
  exact h
/-- The same requests, but for where their values lie. -/
def Like (zs ys : List PendP) : Prop := ys.map nrm = zs.map nrm
theorem Like.refl (l : List PendP) : Like l l := rfl
theorem Like.symm {a b : List PendP} (h : Like a b) : Like b a := Eq.symm h
theorem Like.trans {a b c : List PendP} (h : Like a b) (k : Like b c) : Like a c := Eq.trans k h
theorem Like.len {zs ys : List PendP} (h : Like zs ys) : ys.length = zs.length := by
  have := congrArg List.length h
  simpa using this
theorem Like.get {zs ys : List PendP} (h : Like zs ys) (j : Nat) (hj : j < zs.length) : ys.getD j zero = wh (zs.getD j zero) (ys.getD j zero).A (ys.getD j zero).c := by
  have hl := h.len
  have e : (ys.map nrm)[j]? = (zs.map nrm)[j]? := by rw [show ys.map nrm = zs.map nrm from h]
  rw [List.getElem?_map, List.getElem?_map, List.getElem?_eq_getElem hj, List.getElem?_eq_getElem (by omega)] at e
  simp only [Option.map_some, Option.some.injEq] at e
  have a1 : ys.getD j zero = ys[j]'(by omega) := by simp [List.getD, List.getElem?_eq_getElem (show j < ys.length by omega)]
  have a2 : zs.getD j zero = zs[j] := by simp [List.getD, List.getElem?_eq_getElem hj]
  rw [a1, a2]
  exact nrm_wh e
theorem Like.app {a b x y : List PendP} (h : Like a b) (k : Like x y) : Like (a ++ x) (b ++ y) := by
  unfold Like at *
  rw [List.map_append, List.map_append, h, k]
theorem like_one (p : PendP) (A : Option Addr) (c : Nat) : Like [p] [wh p A c] := rfl
theorem Like.snoc {a b : List PendP} (h : Like a b) (p : PendP) (A : Option Addr) (c : Nat) : Like (a ++ [p]) (b ++ [wh p A c]) := h.app (like_one p A c)
theorem nrm_outers (l : List PendP) : outers (l.map nrm) = outers l := by
  unfold outers
  rw [List.map_map]; rfl
theorem Like.outers {zs ys : List PendP} (h : Like zs ys) : Pn.outers ys = Pn.outers zs := by
  rw [← nrm_outers, ← nrm_outers zs, show ys.map nrm = zs.map nrm from h]
theorem Like.right {zs ys : List PendP} (h : Like zs ys) : Pn.right ys = Pn.right zs := by unfold Pn.right; rw [h.outers]
theorem nrm_find : ∀ (l : List PendP) (x : Int), find (l.map nrm) x = find l x
  | [], _ => rfl
  | p :: l, x => by
    have ih := nrm_find l x
    rw [List.map_cons]
    show (if p.o = x then (0 : Int) else if find (l.map nrm) x < 0 then -1 else find (l.map nrm) x + 1) = _
    rw [ih]; rfl
theorem Like.find {zs ys : List PendP} (h : Like zs ys) (x : Int) : Pn.find ys x = Pn.find zs x := by
  rw [← nrm_find, ← nrm_find zs, show ys.map nrm = zs.map nrm from h]
theorem Like.filter {zs ys : List PendP} (h : Like zs ys) (q : PendP → Bool) (hq : ∀ p, q (nrm p) = q p) : Like (zs.filter q) (ys.filter q) := by
  have e : ∀ l : List PendP, (l.filter q).map nrm = (l.map nrm).filter q := fun l => by
    rw [List.filter_map]
    congr 1
    exact List.filter_congr fun p _ => (hq p).symm
  unfold Like
  rw [e, e, show ys.map nrm = zs.map nrm from h]
theorem Like.due {zs ys : List PendP} (h : Like zs ys) (t : Int) : Like (Pn.due zs t) (Pn.due ys t) := h.filter _ fun _ => rfl
theorem Like.rest {zs ys : List PendP} (h : Like zs ys) (t : Int) : Like (Pn.rest zs t) (Pn.rest ys t) := h.filter _ fun _ => rfl
theorem Like.leave {zs ys : List PendP} (h : Like zs ys) (t : Int) : Like (Pn.leave zs t) (Pn.leave ys t) := h.filter _ fun _ => rfl
theorem Like.drop {zs ys : List PendP} (h : Like zs ys) (k : Int) : Like (Pn.drop zs k) (Pn.drop ys k) := by
  unfold Pn.drop
  split
  · exact h
  · unfold Like
    have e : ∀ (l : List PendP) (n : Nat), (l.eraseIdx n).map nrm = (l.map nrm).eraseIdx n := fun l n => by
      rw [List.eraseIdx_eq_take_drop_succ, List.eraseIdx_eq_take_drop_succ, List.map_append, List.map_take, List.map_drop]
    rw [e, e, show ys.map nrm = zs.map nrm from h]
/-- The values are no more than a slice may hold of numbers. -/
def SmV (l : List PendP) : Prop := ∀ p ∈ l, p.ak.vs.length * 8 ≤ 140737488355328
theorem SmV.sub {l m : List PendP} (h : SmV l) (hs : ∀ p ∈ m, p ∈ l) : SmV m := fun p hp => h p (hs p hp)
theorem SmV.like {zs ys : List PendP} (h : SmV zs) (k : Like zs ys) : SmV ys := fun p hp => by
  have : nrm p ∈ zs.map nrm := by
    rw [← show ys.map nrm = zs.map nrm from k]
    exact List.mem_map.2 ⟨p, hp, rfl⟩
  obtain ⟨q, hq, e⟩ := List.mem_map.1 this
  have := h q hq
  have e2 : q.ak = p.ak := by cases p; cases q; simp [nrm, wh] at e; exact e.2.2.2.2.2.1
  rwa [e2] at this
theorem Like.vlen {zs ys : List PendP} (k : Like zs ys) {m : Nat} (h : ∀ p ∈ zs, p.ak.vs.length ≤ m) : ∀ p ∈ ys, p.ak.vs.length ≤ m := fun p hp => by
  have : nrm p ∈ zs.map nrm := by
    rw [← show ys.map nrm = zs.map nrm from k]
    exact List.mem_map.2 ⟨p, hp, rfl⟩
  obtain ⟨q, hq, e⟩ := List.mem_map.1 this
  have := h q hq
  have e2 : q.ak = p.ak := by cases p; cases q; simp [nrm, wh] at e; exact e.2.2.2.2.2.1
  rwa [e2] at this
/-- The values are the call's own. -/
def OwnV (w : World) (base : Nat) (l : List PendP) : Prop := ∀ p ∈ l, w.ownsRow base 3 1 (.slice p.A p.ak.vs.length p.c) p.ak.vs.length (p.ak.vs.map (Value.int .i64))
theorem OwnV.nil (w : World) (base : Nat) : OwnV w base [] := fun p hp => by cases hp
theorem OwnV.vals {w : World} {base : Nat} {l : List PendP} (h : OwnV w base l) : Vals w l := fun p hp => by
  obtain ⟨h1, h2⟩ := own_le (h p hp)
  exact ⟨Ints.of_own (h p hp), Nat.le_trans h1 h2⟩
theorem OwnV.keep {w w' : World} {base : Nat} {l : List PendP} (h : OwnV w base l) (hk : Keep w w') : OwnV w' base l := fun p hp => own_keep (h p hp) hk
theorem OwnV.mono {w : World} {base base' : Nat} {l : List PendP} (h : OwnV w base l) (hb : base' ≤ base) : OwnV w base' l := fun p hp => by
  obtain ⟨h1, h2⟩ := h p hp
  refine ⟨h1, h2.imp id ?_⟩
  rintro ⟨g, cap, cur, e, hg, r⟩
  exact ⟨g, cap, cur, e, Nat.le_trans hb hg, r⟩
/-- Rows of two types of element lie in two blocks. -/
theorem own_types {w : World} {b1 b2 : Nat} {e1 e2 : TypeId} {k1 k2 n1 n2 : Nat} {v1 v2 : Value} {x1 x2 : List Value} (h1 : w.ownsRow b1 e1 k1 v1 n1 x1) (h2 : w.ownsRow b2 e2 k2 v2 n2 x2) (hne : e1 ≠ e2) : v1.ownBlock = none ∨ v1.ownBlock ≠ v2.ownBlock := by
  rcases h1.2 with ⟨rfl, _⟩ | ⟨g, cap, cur, rfl, _, hh, _⟩
  · exact .inl rfl
  · rcases h2.2 with ⟨rfl, _⟩ | ⟨g', cap', cur', rfl, _, hh', _⟩
    · exact .inr fun e => by cases e
    · refine .inr fun e => ?_
      have : g = g' := by simpa [Value.ownBlock] using e
      subst this
      rw [hh] at hh'
      simp at hh'
      exact hne hh'.2
theorem OwnV.grown {w w' : World} {base b2 : Nat} {l : List PendP} {v : Value} {n : Nat} {xs : List Value} (h : OwnV w base l) (hrow : w.ownsRow b2 35 12 v n xs) (hg : w.grownBy w' v.ownBlock) : OwnV w' base l := fun p hp =>
  (h p hp).kept hg (own_types (h p hp) hrow (by decide))
theorem OwnV.snoc {w : World} {base : Nat} {l : List PendP} {p : PendP} (h : OwnV w base l) (hp : w.ownsRow base 3 1 (.slice p.A p.ak.vs.length p.c) p.ak.vs.length (p.ak.vs.map (Value.int .i64))) : OwnV w base (l ++ [p]) := fun q hq => by
  rcases List.mem_append.1 hq with hq | hq
  · exact h q hq
  · obtain rfl : q = p := by simpa using hq
    exact hp
/-- What the code's own calls give back: such requests, with values of their own. -/
def RetL (zs : List PendP) (w : World) (e : Ending) (w' : World) : Prop :=
  ∃ A n c ys, e = .returned (.slice A n c) ∧ n ≤ c ∧ c ≤ maxLen ∧ Row encQ 12 w' w'.heap.size A n ys ∧ Like zs ys ∧ Vals w' ys ∧ Keep w w'
def RetLE (zs : List PendP) (er : Int) (w : World) (e : Ending) (w' : World) : Prop :=
  ∃ A n c ys, e = .returned (.tuple #[.slice A n c, .int .i64 er]) ∧ n ≤ c ∧ c ≤ maxLen ∧ Row encQ 12 w' w'.heap.size A n ys ∧ Like zs ys ∧ Vals w' ys ∧ Keep w w'
def RetLL (xs ys : List PendP) (w : World) (e : Ending) (w' : World) : Prop :=
  ∃ A n c B m d us vs, e = .returned (.tuple #[.slice A n c, .slice B m d]) ∧ (n ≤ c ∧ c ≤ maxLen) ∧ (m ≤ d ∧ d ≤ maxLen) ∧ Row encQ 12 w' w'.heap.size A n us ∧ Row encQ 12 w' w'.heap.size B m vs ∧ Like xs us ∧ Like ys vs ∧ Vals w' us ∧ Vals w' vs ∧ Keep w w'
end Go.Proofs.Ytijnajlijdnbcaa.Pn
