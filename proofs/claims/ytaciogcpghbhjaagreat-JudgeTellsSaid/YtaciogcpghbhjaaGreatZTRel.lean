/- Of these texts: Rel, RelT, Tail. Conditions: as each part says. -/
import Derived.Test.YtaciogcpghbhjaaGreatZTLib
import Derived.StillTail
/- A region that draws its order and holds calls (or makings of memory) whose values hang on the order: each such slot has a relation that stays when blocks are added; one walk in the order of the text serves every order. Conditions: the program follows mixed orders; no operation turns an old block. -/
namespace Go.Proofs.YtaciogcpghbhjaaGreat
set_option linter.unusedVariables false
open Go.ChangeShapes Go.WideShapes Go.ChangeAt Go.RowKit
namespace Rel
def fill (D : List Tmp) (V : Tmp -> Value) (a : Act) : Act := D.foldl (fun a d => a.put (some d) (V d)) a
theorem put_get (a : Act) (d : Tmp) (v : Value) (t : Tmp) : (a.put (some d) v).tmps[t]? = if d = t ∧ t < a.tmps.size then some v else a.tmps[t]? := by
 unfold Act.put
 simp only [Array.getElem?_setIfInBounds]
 by_cases h : d = t
 ·subst h
  by_cases h2 : d < a.tmps.size <;> simp [h2]
 ·simp [h]
theorem put_size (a : Act) (d : Option Tmp) (v : Value) : (a.put d v).tmps.size = a.tmps.size := by
 cases d <;> simp [Act.put]
theorem put_defers (a : Act) (d : Option Tmp) (v : Value) : (a.put d v).defers = a.defers := by
 cases d <;> rfl
theorem fill_size (D : List Tmp) (V : Tmp -> Value) (a : Act) : (fill D V a).tmps.size = a.tmps.size := by
 unfold fill
 induction D generalizing a with
 | nil => rfl
 | cons d D ih => rw [List.foldl_cons, ih, put_size]
theorem fill_defers (D : List Tmp) (V : Tmp -> Value) (a : Act) : (fill D V a).defers = a.defers := by
 unfold fill
 induction D generalizing a with
 | nil => rfl
 | cons d D ih => rw [List.foldl_cons, ih, put_defers]
theorem fill_get (D : List Tmp) (V : Tmp -> Value) (a : Act) (t : Tmp) : (fill D V a).tmps[t]? = if t ∈ D ∧ t < a.tmps.size then some (V t) else a.tmps[t]? := by
 unfold fill
 induction D generalizing a with
 | nil => simp
 | cons d D ih =>
   rw [List.foldl_cons, ih, put_size, put_get]
   by_cases h1 : t ∈ D
   ·by_cases h2 : t < a.tmps.size <;> simp [h1, h2]
   ·by_cases h3 : d = t
    ·subst h3
     by_cases h2 : d < a.tmps.size <;> simp [h1, h2]
    ·have : ¬ t = d := fun e => h3 e.symm
     simp [h1, h3, this]
theorem eval_agree {a a' : Act} {x : Operand} (h : ∀ t, x = .tmp t -> a.tmps[t]? = a'.tmps[t]?) : a.eval x = a'.eval x := by
 cases x with
 | tmp t =>
   have := h t rfl
   simp only [Act.eval, Array.getD_eq_getD_getElem?, this]
 | _ => rfl
section
variable {P : Program} {ops : Array Oper}
theorem exec_agree (o : Oper) (hs : ∀ cs b, o.op ≠ .select cs b) {a a' : Act} (h : ∀ t ∈ o.looksAt ops, a.tmps[t]? = a'.tmps[t]?) : execOp a.eval o = execOp a'.eval o :=
 execOp_congr o hs fun x hx => eval_agree fun t ht => h t (by
  subst ht
  exact List.mem_append_left _ (List.mem_filterMap.2 ⟨.tmp t, by simpa using hx, rfl⟩))
theorem wanted_agree (o : Oper) {a a' : Act} (h : ∀ t ∈ o.looksAt ops, a.tmps[t]? = a'.tmps[t]?) : Region.wanted o (yielded ops a.tmps) = Region.wanted o (yielded ops a'.tmps) := by
 unfold Region.wanted
 cases hg : o.guard with
 | none => rfl
 | some gw =>
   obtain ⟨g, want⟩ := gw
   have hy : yielded ops a.tmps g = yielded ops a'.tmps g := by
    unfold yielded
    cases ht : (ops[g]?).bind (·.dst) with
    | none => rfl
    | some t =>
      have := h t (by simp [Oper.looksAt, hg, ht])
      simp [this]
   simp only [hy]
theorem wanted_guard {o : Oper} {a a' : Act} (h : ∀ g want, o.guard = some (g, want) -> ∀ t, (ops[g]?).bind (·.dst) = some t -> a.tmps[t]? = a'.tmps[t]?) : Region.wanted o (yielded ops a.tmps) = Region.wanted o (yielded ops a'.tmps) := by
 unfold Region.wanted
 cases hg : o.guard with
 | none => rfl
 | some gw =>
   obtain ⟨g, want⟩ := gw
   have hy : yielded ops a.tmps g = yielded ops a'.tmps g := by
    unfold yielded
    cases ht : (ops[g]?).bind (·.dst) with
    | none => rfl
    | some t =>
      have := h g want hg t ht
      simp [this]
   simp only [hy]
def relUpon (P : Program) (w : World) (R : Value -> World -> Prop) : Result Next -> Prop
 | .ok (.value u) w' => Keep w w' ∧ R u w'
 | .ok (.enter f args) w' => Keep w w' ∧ Calls P f args w' (fun e w'' => ∃ v, e = .returned v ∧ Keep w w'' ∧ R v w'')
 | _ => False
def relAt (P : Program) (o : Oper) (a : Act) (w : World) (R : Value -> World -> Prop) : Prop := relUpon P w R ((execOp a.eval o).run P w)
theorem relAt_agree {o : Oper} (hs : ∀ cs b, o.op ≠ .select cs b) {a a' : Act} (h : ∀ t ∈ o.looksAt ops, a.tmps[t]? = a'.tmps[t]?) {w : World} {R : Value -> World -> Prop} (hr : relAt P o a w R) : relAt P o a' w R := by
 unfold relAt at *
 rwa [<- exec_agree o hs h]
theorem relAt_wp {o : Oper} {a : Act} {w : World} {R : Value -> World -> Prop} {K : Act -> World -> Prop} {Q : Exit -> Act -> World -> Prop} (h : ∀ v w', Keep w w' -> R v w' -> K (a.put o.dst v) w') (hr : relAt P o a w R) : o.wp P a w K Q := by
 unfold relAt at hr
 unfold Oper.wp
 generalize (execOp a.eval o).run P w = r at *
 cases r with
 | ok n w' =>
   cases n <;> simp only [relUpon] at hr <;> simp only [Oper.upon]
   case value u => exact h _ _ hr.1 hr.2
   case enter f args =>
    exact hr.2.mono fun e w'' ⟨v, he, hk, hR⟩ => by subst he; exact h _ _ hk hR
 | halt x w' => simp only [relUpon] at hr
theorem relAt_of_quiet {o : Oper} {a : Act} {w : World} {v : Value} {C : World -> Prop} (hC : ∀ w', C w' -> Keep w w') (h : o.quietAt P a C w v) : relAt P o a w (fun u _ => u = v) ∨ ((∃ w', (execOp a.eval o).run P w = .ok .skip w' ∧ w' = w) ∧ v = undef) := by
 unfold Oper.quietAt at h
 unfold relAt
 generalize (execOp a.eval o).run P w = r at *
 cases r with
 | ok n w' =>
   cases n <;> simp only [Oper.quietUpon] at h
   case value u => left; simp only [relUpon]; exact ⟨by rw [h.1]; exact Keep.refl _, h.2⟩
   case skip => right; exact ⟨⟨w', rfl, h.1⟩, h.2⟩
   case enter f args =>
    left; simp only [relUpon]
    exact ⟨by rw [h.1]; exact Keep.refl _, by rw [h.1]; exact h.2.mono fun e w'' ⟨he, hc⟩ => ⟨v, he, hC _ hc, rfl⟩⟩
 | halt x w' => simp only [Oper.quietUpon] at h
theorem quiet_wp {o : Oper} {a : Act} {w : World} {v : Value} {C : World -> Prop} {K : Act -> World -> Prop} {Q : Exit -> Act -> World -> Prop} (hC : ∀ w', C w' -> Keep w w') (h : ∀ w', Keep w w' -> K (a.put o.dst v) w') (hr : o.quietAt P a C w v) : o.wp P a w K Q := by
 rcases relAt_of_quiet hC hr with h1 | ⟨⟨w', h1, e1⟩, e2⟩
 ·exact relAt_wp (R := fun u _ => u = v) (fun u w' hk hu => by subst hu; exact h w' hk) h1
 ·subst e1 e2
  unfold Oper.wp
  rw [h1]
  exact h _ (Keep.refl _)
def stepR (P : Program) (ops : Array Oper) (X : World) (D : List Tmp) (R : Tmp -> Value -> World -> Prop) (o : Oper) (a : Act) (v : Value) : Prop :=
 if Region.wanted o (yielded ops a.tmps) = true then
  ∃ d, o.dst = some d ∧ if d ∈ D then ∀ V w, Keep X w -> (∀ t ∈ o.looksAt ops, t ∈ D -> R t (V t) w) -> relAt P o (fill D V a) w (R d)
    else ∀ V w, Keep X w -> (∀ t ∈ o.looksAt ops, t ∈ D -> R t (V t) w) -> o.quietAt P (fill D V a) (Keep w) w v
 else v = undef ∧ ∀ d, o.dst = some d -> d ∉ D
theorem stepR_agree {X : World} {D : List Tmp} {R : Tmp -> Value -> World -> Prop} {o : Oper} (hs : ∀ cs b, o.op ≠ .select cs b) {a a' : Act} {v : Value} (hz : a.tmps.size = a'.tmps.size) (h : ∀ t ∈ o.looksAt ops, a.tmps[t]? = a'.tmps[t]?) (hr : stepR P ops X D R o a v) : stepR P ops X D R o a' v := by
 have hf : ∀ V, ∀ t ∈ o.looksAt ops, (fill D V a).tmps[t]? = (fill D V a').tmps[t]? := fun V t ht => by
  rw [fill_get, fill_get, hz, h t ht]
 unfold stepR at *
 rw [<- wanted_agree o h]
 split
 ·rename_i hw
  rw [if_pos hw] at hr
  obtain ⟨d, hd, hr⟩ := hr
  refine ⟨d, hd, ?_⟩
  split
  ·rename_i hD
   rw [if_pos hD] at hr
   exact fun V w hk hV => relAt_agree hs (hf V) (hr V w hk hV)
  ·rename_i hD
   rw [if_neg hD] at hr
   intro V w hk hV
   have := hr V w hk hV
   unfold Oper.quietAt at *
   rwa [<- exec_agree o hs (hf V)]
 ·rename_i hw
  rwa [if_neg hw] at hr
def wpRel (P : Program) (ops : Array Oper) (X : World) (D : List Tmp) (R : Tmp -> Value -> World -> Prop) (Q : Act -> Prop) : List Oper -> Act -> Prop
 | [], a => Q a
 | o :: rest, a => ∃ v, stepR P ops X D R o a v ∧ wpRel P ops X D R Q rest (a.put o.dst v)
def dsts (l : List Oper) : List Tmp := l.filterMap (·.dst)
def chk (ops : Array Oper) (n : Nat) : List Oper -> Bool
 | [] => true
 | o :: r => (match o.dst with | some d => decide (d < n) && !(dsts r).contains d | none => true) && (o.looksAt ops).all (fun t => !(dsts (o :: r)).contains t) && chk ops n r
theorem rel_end {X : World} {D : List Tmp} {R : Tmp -> Value -> World -> Prop} {Q : Act -> Prop} : ∀ (l : List Oper) (a : Act), (∀ o ∈ l, ∀ cs b, o.op ≠ .select cs b) -> chk ops a.tmps.size l = true -> wpRel P ops X D R Q l a ->
  ∃ z : Act, Q z ∧ z.defers = a.defers ∧ z.tmps.size = a.tmps.size ∧ (∀ t, t ∉ dsts l -> z.tmps[t]? = a.tmps[t]?) ∧ ∀ o ∈ l, ∃ v, stepR P ops X D R o z v ∧ ∀ d, o.dst = some d -> z.tmps[d]? = some v
 | [], a, _, _, h => ⟨a, h, rfl, rfl, fun _ _ => rfl, fun o ho => by cases ho⟩
 | o :: r, a, hs, hc, ⟨v, hv, h⟩ => by
   simp only [chk, Bool.and_eq_true] at hc
   obtain ⟨⟨hd, hl⟩, hc⟩ := hc
   obtain ⟨z, hQ, hde, hz, hag, hst⟩ := rel_end r (a.put o.dst v) (fun o' ho => hs o' (List.mem_cons_of_mem _ ho)) (by rw [put_size]; exact hc) h
   rw [put_size] at hz
   rw [put_defers] at hde
   have hnot : ∀ t, t ∉ dsts (o :: r) -> z.tmps[t]? = a.tmps[t]? := fun t ht => by
    have h1 : t ∉ dsts r := fun h => ht (by
     unfold dsts at *
     rw [List.filterMap_cons]
     split
     ·exact h
     ·exact List.mem_cons_of_mem _ h)
    rw [hag t h1]
    cases hod : o.dst with
    | none => rfl
    | some d =>
      have : d ≠ t := fun e => ht (by unfold dsts; rw [List.filterMap_cons, hod]; simp [e])
      rw [put_get, if_neg (fun h => this h.1)]
   refine ⟨z, hQ, hde, hz, hnot, fun o' ho => ?_⟩
   rcases List.mem_cons.1 ho with rfl | ho
   ·refine ⟨v, stepR_agree (hs o' List.mem_cons_self) hz.symm (fun t ht => ?_) hv, fun d hod => ?_⟩
    ·have := List.all_eq_true.1 hl t ht
     simp at this
     exact (hnot t this).symm
    ·rw [hod] at hd
     simp at hd
     rw [hag d hd.2, hod, put_get, if_pos ⟨rfl, hd.1⟩]
   ·exact hst o' ho
def waits (md : Region.Mode) (ops : Array Oper) : Bool :=
 (List.range ops.size).all fun j => match ops[j]? with
  | none => true
  | some o => (o.after.all fun e => !Region.binds md e || decide (e.on < j)) &&
    ((List.range ops.size).all fun i => match (ops[i]?).bind (·.dst) with
      | none => true
      | some d => !(o.looksAt ops).contains d || o.after.toList.any fun e => Region.binds md e && e.on == i)
theorem waits_back {md : Region.Mode} (h : waits md ops = true) {j : Nat} {o : Oper} (ho : ops[j]? = some o) : (∀ e ∈ o.after, Region.binds md e = true -> e.on < j) ∧
  ∀ i oi d, ops[i]? = some oi -> oi.dst = some d -> d ∈ o.looksAt ops -> ∃ e ∈ o.after, Region.binds md e = true ∧ e.on = i := by
 have hj : j < ops.size := (Array.getElem?_eq_some_iff.1 ho).1
 have h1 := List.all_eq_true.1 h j (List.mem_range.2 hj)
 rw [ho] at h1
 simp only [Bool.and_eq_true] at h1
 obtain ⟨h1, h2⟩ := h1
 refine ⟨fun e he hb => ?_, fun i oi d hoi hd hl => ?_⟩
 ·have := Array.all_eq_true_iff_forall_mem.1 h1 e he
  simp [hb] at this
  exact this
 ·have hi : i < ops.size := (Array.getElem?_eq_some_iff.1 hoi).1
  have := List.all_eq_true.1 h2 i (List.mem_range.2 hi)
  rw [hoi] at this
  simp only [Option.bind_some, hd, Bool.or_eq_true, Bool.not_eq_true', List.any_eq_true, Bool.and_eq_true, beq_iff_eq] at this
  rcases this with h | ⟨e, he, h⟩
  ·simp at h; exact absurd hl h
  ·exact ⟨e, by simpa using he, h⟩
theorem all_listed {md : Region.Mode} (h : waits md ops = true) {listed : Array Bool} (hsz : listed.size = ops.size) (hr : Region.ready md ops listed = []) : ∀ i, i < ops.size -> listed.getD i false = true := by
 intro i
 induction i using Nat.strongRecOn with
 | _ i ih =>
   intro hi
   cases hl : listed.getD i false
   ·exfalso
    have hlt : listed.getD i true = false := getD_in (by omega) hl
    obtain ⟨o, ho⟩ : ∃ o, ops[i]? = some o := ⟨ops[i], by simp [hi]⟩
    have : i ∈ Region.ready md ops listed := mem_ready.2 ⟨hlt, o, ho, fun e he hb => by
     have := (waits_back h ho).1 e he hb
     exact ih e.on this (by omega)⟩
    rw [hr] at this
    cases this
   ·rfl
def left (n : Nat) (listed : Array Bool) : Nat := (List.range n).countP (fun i => !listed.getD i true)
theorem left_set {n i : Nat} {listed : Array Bool} (hi : i < n) (hl : listed.getD i true = false) (hsz : i < listed.size) : left n listed = left n (listed.setIfInBounds i true) + 1 := by
 unfold left
 have key : ∀ m, (i < m -> (List.range m).countP (fun j => !listed.getD j true) = (List.range m).countP (fun j => !(listed.setIfInBounds i true).getD j true) + 1) ∧
   (¬ i < m -> (List.range m).countP (fun j => !listed.getD j true) = (List.range m).countP (fun j => !(listed.setIfInBounds i true).getD j true)) := by
  intro m
  induction m with
  | zero => exact ⟨fun h => absurd h (by omega), fun _ => rfl⟩
  | succ m ih =>
    rw [List.range_succ, List.countP_append, List.countP_append]
    simp only [List.countP_cons, List.countP_nil, Nat.zero_add]
    constructor
    ·intro h
     by_cases hm : i = m
     ·subst hm
      have := ih.2 (by omega)
      rw [this, hl]
      have e : (listed.setIfInBounds i true).getD i true = true := by simp [hsz]
      rw [e]; simp
     ·have := ih.1 (by omega)
      rw [this, getD_set_ne true hm]
      omega
    ·intro h
     have := ih.2 (by omega)
     rw [this, getD_set_ne true (by omega)]
 exact (key n).1 hi
theorem any_of_facts {md : Region.Mode} {X : World} {D : List Tmp} {R : Tmp -> Value -> World -> Prop} {Q : Exit -> Act -> World -> Prop} {z : Act} (hsel : ∀ (j : Nat) (o : Oper) cs b, ops[j]? = some o -> o.op ≠ .select cs b) (hw : waits md ops = true)
  (hinj : ∀ (i j : Nat) (oi oj : Oper) (d : Tmp), ops[i]? = some oi -> ops[j]? = some oj -> oi.dst = some d -> oj.dst = some d -> i = j) (hin : ∀ (i : Nat) (oi : Oper) (d : Tmp), ops[i]? = some oi -> oi.dst = some d -> d < z.tmps.size) (hD : ∀ d ∈ D, ∃ (i : Nat) (o : Oper), ops[i]? = some o ∧ o.dst = some d)
  (hR : ∀ d ∈ D, ∀ v w w', Keep w w' -> R d v w -> R d v w')
  (hG : ∀ (i : Nat) (o : Oper) (g : Nat) (want : Bool), ops[i]? = some o -> o.guard = some (g, want) -> ∀ t, (ops[g]?).bind (·.dst) = some t -> t ∉ D)
  (hst : ∀ (i : Nat) (o : Oper), ops[i]? = some o -> ∃ v, stepR P ops X D R o z v ∧ ∀ d, o.dst = some d -> z.tmps[d]? = some v)
  (hQ : ∀ V w, Keep X w -> (∀ d ∈ D, R d (V d) w) -> Q .normal (fill D V z) w) :
  ∀ (fuel : Nat) (listed : Array Bool) (a : Act) (w : World), listed.size = ops.size -> left ops.size listed = fuel -> Keep X w -> a.defers = z.defers -> a.tmps.size = z.tmps.size ->
    (∀ t, (∀ (i : Nat) (o : Oper), ops[i]? = some o -> o.dst ≠ some t) -> a.tmps[t]? = z.tmps[t]?) ->
    (∀ (i : Nat) (o : Oper) (d : Tmp), ops[i]? = some o -> o.dst = some d -> listed.getD i false = true -> if d ∈ D then R d (a.tmps.getD d undef) w else a.tmps[d]? = z.tmps[d]?) ->
    wpAny P md ops Q fuel listed a w := by
 have fin : ∀ (listed : Array Bool) (a : Act) (w : World), (∀ i, i < ops.size -> listed.getD i false = true) -> Keep X w -> a.defers = z.defers -> a.tmps.size = z.tmps.size ->
   (∀ t, (∀ (i : Nat) (o : Oper), ops[i]? = some o -> o.dst ≠ some t) -> a.tmps[t]? = z.tmps[t]?) ->
   (∀ (i : Nat) (o : Oper) (d : Tmp), ops[i]? = some o -> o.dst = some d -> listed.getD i false = true -> if d ∈ D then R d (a.tmps.getD d undef) w else a.tmps[d]? = z.tmps[d]?) -> Q .normal a w := by
  intro listed a w hall hk hde hz h1 h2
  have key : fill D (fun t => a.tmps.getD t undef) z = a := by
   have e1 : (fill D (fun t => a.tmps.getD t undef) z).tmps = a.tmps := by
    apply Array.ext_getElem?
    intro t
    rw [fill_get]
    by_cases hD' : t ∈ D
    ·obtain ⟨i, o, ho, hd⟩ := hD t hD'
     have hlt := hin i o t ho hd
     rw [if_pos ⟨hD', hlt⟩]
     have hlt' : t < a.tmps.size := by rw [hz]; exact hlt
     simp [hlt']
    ·rw [if_neg (fun h => hD' h.1)]
     by_cases hex : ∃ (i : Nat) (o : Oper), ops[i]? = some o ∧ o.dst = some t
     ·obtain ⟨i, o, ho, hd⟩ := hex
      have := h2 i o t ho hd (hall i (Array.getElem?_eq_some_iff.1 ho).1)
      rw [if_neg hD'] at this
      exact this.symm
     ·exact (h1 t fun i o ho hd => hex ⟨i, o, ho, hd⟩).symm
   have e2 := (fill_defers D (fun t => a.tmps.getD t undef) z).trans hde.symm
   cases hf : fill D (fun t => a.tmps.getD t undef) z with
   | mk t1 d1 =>
     cases a with
     | mk t2 d2 =>
       rw [hf] at e1 e2
       simp only at e1 e2
       rw [e1, e2]
  have := hQ (fun t => a.tmps.getD t undef) w hk fun d hd => by
   obtain ⟨i, o, ho, hod⟩ := hD d hd
   have := h2 i o d ho hod (hall i (Array.getElem?_eq_some_iff.1 ho).1)
   rwa [if_pos hd] at this
  rwa [key] at this
 intro fuel
 induction fuel with
 | zero =>
   intro listed a w hsz hl hk hde hz h1 h2
   have hall : ∀ i, i < ops.size -> listed.getD i false = true := fun i hi => by
    cases h : listed.getD i true
    ·have : 0 < left ops.size listed := by
      unfold left
      rw [List.countP_pos_iff]
      exact ⟨i, List.mem_range.2 hi, by rw [h]; rfl⟩
     omega
    ·have hi' : i < listed.size := by omega
     simp [hi'] at h ⊢
     exact h
   refine ⟨?_, fin listed a w hall hk hde hz h1 h2⟩
   unfold Region.ready
   rw [List.filter_eq_nil_iff]
   intro i hi
   have := hall i (List.mem_range.1 hi)
   have hi' : i < listed.size := by have := List.mem_range.1 hi; omega
   simp [hi'] at this ⊢
   intro h; rw [this] at h; cases h
 | succ fuel ih =>
   intro listed a w hsz hl hk hde hz h1 h2
   refine ⟨fun hr => fin listed a w (all_listed hw hsz hr) hk hde hz h1 h2, fun i hi => ?_⟩
   obtain ⟨hun, o, ho, hall⟩ := mem_ready.1 hi
   have hlt : i < ops.size := (Array.getElem?_eq_some_iff.1 ho).1
   obtain ⟨v, hv, hzv⟩ := hst i o ho
   -- what it looks at is there
   have hlook : ∀ t ∈ o.looksAt ops, (fill D (fun t => a.tmps.getD t undef) z).tmps[t]? = a.tmps[t]? ∧ (t ∈ D -> R t (a.tmps.getD t undef) w) := fun t ht => by
    rw [fill_get]
    by_cases hex : ∃ (k : Nat) (ok : Oper), ops[k]? = some ok ∧ ok.dst = some t
    ·obtain ⟨k, ok, hok, hkd⟩ := hex
     obtain ⟨e, he, hb, hon⟩ := (waits_back hw ho).2 k ok t hok hkd ht
     have hkl := hall e he hb
     rw [hon] at hkl
     have h3 := h2 k ok t hok hkd hkl
     by_cases hD' : t ∈ D
     ·rw [if_pos hD'] at h3
      have hlt' : t < a.tmps.size := by rw [hz]; exact hin k ok t hok hkd
      rw [if_pos ⟨hD', hin k ok t hok hkd⟩]
      exact ⟨by simp [hlt'], fun _ => h3⟩
     ·rw [if_neg hD'] at h3
      rw [if_neg (fun h => hD' h.1)]
      exact ⟨h3.symm, fun h => absurd h hD'⟩
    ·have hD' : t ∉ D := fun h => by
      obtain ⟨k, ok, hok, hkd⟩ := hD t h
      exact hex ⟨k, ok, hok, hkd⟩
     rw [if_neg (fun h => hD' h.1)]
     exact ⟨(h1 t fun k ok hok hkd => hex ⟨k, ok, hok, hkd⟩).symm, fun h => absurd h hD'⟩
   have hs : ∀ cs b, o.op ≠ .select cs b := fun cs b => hsel i o cs b ho
   obtain ⟨V, hV⟩ : ∃ V : Tmp -> Value, V = fun t => a.tmps.getD t undef := ⟨_, rfl⟩
   rw [<- hV] at hlook
   have hag : ∀ t ∈ o.looksAt ops, (fill D V z).tmps[t]? = a.tmps[t]? := fun t ht => (hlook t ht).1
   have hwt : Region.wanted o (yielded ops z.tmps) = Region.wanted o (yielded ops a.tmps) := by
    rw [<- wanted_agree o hag]
    refine wanted_guard fun g want hgd t ht => ?_
    rw [fill_get, if_neg (fun h => hG i o g want ho hgd t ht h.1)]
   have hdeps : ∀ t ∈ o.looksAt ops, t ∈ D -> R t (V t) w := fun t ht hD' => by
    have := (hlook t ht).2 hD'
    rw [hV]; exact this
   have next : ∀ v' w', Keep w w' -> (∀ d, o.dst = some d -> if d ∈ D then R d v' w' else v' = v) -> wpAny P md ops Q fuel (listed.setIfInBounds i true) (a.put o.dst v') w' := fun v' w' hkw hval => by
    refine ih _ _ _ (by simpa using hsz) ?_ (hk.trans hkw) (by rw [put_defers]; exact hde) (by rw [put_size]; exact hz) ?_ ?_
    ·have := left_set hlt hun (show i < listed.size by omega)
     omega
    ·intro t ht
     cases hod : o.dst with
     | none => exact h1 t ht
     | some d =>
       have : d ≠ t := fun e => ht i o ho (e ▸ hod)
       rw [put_get, if_neg (fun h => this h.1)]
       exact h1 t ht
    ·intro k ok d hok hkd hkl
     by_cases hki : i = k
     ·subst hki
      obtain rfl : o = ok := Option.some.inj (ho.symm.trans hok)
      have hlt' : d < a.tmps.size := by rw [hz]; exact hin i o d ho hkd
      have hval' := hval d hkd
      have hg : (a.put o.dst v').tmps[d]? = some v' := by rw [hkd, put_get, if_pos ⟨rfl, hlt'⟩]
      split
      ·rename_i hD'
       rw [if_pos hD'] at hval'
       rw [Array.getD_eq_getD_getElem?, hg]; exact hval'
      ·rename_i hD'
       rw [if_neg hD'] at hval'
       rw [hg, hval', hzv d hkd]
     ·have hkl' : listed.getD k false = true := by rw [getD_set_ne false hki] at hkl; exact hkl
      have h3 := h2 k ok d hok hkd hkl'
      have hne : ∀ d', o.dst = some d' -> d' ≠ d := fun d' hd' e => hki (hinj i k o ok d ho hok (e ▸ hd') hkd)
      have hg : (a.put o.dst v').tmps[d]? = a.tmps[d]? := by
       cases hod : o.dst with
       | none => rfl
       | some d' => rw [put_get, if_neg (fun h => hne d' hod h.1)]
      split
      ·rename_i hD'
       rw [if_pos hD'] at h3
       rw [Array.getD_eq_getD_getElem?, hg, <- Array.getD_eq_getD_getElem?]
       exact hR d hD' _ _ _ hkw h3
      ·rename_i hD'
       rw [if_neg hD'] at h3
       rw [hg]; exact h3
   unfold wpOp
   simp only [ho]
   unfold stepR at hv
   rw [hwt] at hv
   split
   ·rename_i hwd
    rw [if_pos hwd] at hv
    obtain ⟨d, hod, hv⟩ := hv
    refine .inl ?_
    split at hv
    ·rename_i hD'
     exact relAt_wp (fun v' w' hkw hRv => next v' w' hkw fun d' hd' => by
      obtain rfl : d = d' := Option.some.inj (hod.symm.trans hd')
      rw [if_pos hD']; exact hRv) (relAt_agree hs hag (hv V w hk hdeps))
    ·rename_i hD'
     have hq := hv V w hk hdeps
     have hq' : o.quietAt P a (Keep w) w v := by
      unfold Oper.quietAt at *
      rwa [<- exec_agree o hs hag]
     exact quiet_wp (fun _ h => h) (fun w' hkw => next v w' hkw fun d' hd' => by
      obtain rfl : d = d' := Option.some.inj (hod.symm.trans hd')
      rw [if_neg hD']) hq'
   ·rename_i hwd
    rw [if_neg hwd] at hv
    exact next undef w (Keep.refl w) fun d' hd' => by rw [if_neg (hv.2 d' hd')]; exact hv.1.symm
def guards (D : List Tmp) (ops : Array Oper) : Bool := ops.all fun o => match o.guard with
 | some (g, _) => (match (ops[g]?).bind (·.dst) with | some t => !D.contains t | none => true)
 | none => true
def relB (D : List Tmp) (n : Nat) (l : List Oper) : Bool :=
 Region.noSelect l.toArray && waits .any l.toArray && chk l.toArray n l && D.all (fun d => (dsts l).contains d) && guards D l.toArray
theorem dsts_inj : ∀ (l : List Oper) (n : Nat), chk ops n l = true -> ∀ (i j : Nat) (oi oj : Oper) (d : Tmp), l[i]? = some oi -> l[j]? = some oj -> oi.dst = some d -> oj.dst = some d -> i = j := by
 intro l
 induction l with
 | nil => intro n _ i j oi oj d h; simp at h
 | cons o r ih =>
   intro n hc i j oi oj d hi hj hdi hdj
   simp only [chk, Bool.and_eq_true] at hc
   obtain ⟨⟨hd, _⟩, hc⟩ := hc
   have key : ∀ (k : Nat) (ok : Oper), r[k]? = some ok -> o.dst = some d -> ok.dst ≠ some d := fun k ok hok hod hkd => by
    rw [hod] at hd
    simp at hd
    refine hd.2 ?_
    unfold dsts
    exact List.mem_filterMap.2 ⟨ok, List.mem_of_getElem? hok, hkd⟩
   match i, j, hi, hj with
   | 0, 0, _, _ => rfl
   | 0, j + 1, hi, hj =>
     simp at hi hj; subst hi
     exact absurd hdj (key j oj hj hdi)
   | i + 1, 0, hi, hj =>
     simp at hi hj; subst hj
     exact absurd hdi (key i oi hi hdj)
   | i + 1, j + 1, hi, hj =>
     simp at hi hj
     rw [ih n hc i j oi oj d hi hj hdi hdj]
theorem dsts_in : ∀ (l : List Oper) (n : Nat), chk ops n l = true -> ∀ (i : Nat) (o : Oper) (d : Tmp), l[i]? = some o -> o.dst = some d -> d < n := by
 intro l
 induction l with
 | nil => intro n _ i o d h; simp at h
 | cons o r ih =>
   intro n hc i oi d hi hdi
   simp only [chk, Bool.and_eq_true] at hc
   obtain ⟨⟨hd, _⟩, hc⟩ := hc
   match i, hi with
   | 0, hi => simp at hi; subst hi; rw [hdi] at hd; simp at hd; exact hd.1
   | i + 1, hi => simp at hi; exact ih n hc i oi d hi hdi
theorem wp_region_rel {id : Nat} {Q : Exit -> Act -> World -> Prop} {a : Act} {w : World} {l : List Oper} (D : List Tmp) (R : Tmp -> Value -> World -> Prop) (hm : P.follows .mixedOrders = true) (hB : relB D a.tmps.size l = true)
  (hR : ∀ d ∈ D, ∀ v w w', Keep w w' -> R d v w -> R d v w')
  (h : wpRel P l.toArray w D R (fun z => ∀ V w', Keep w w' -> (∀ d ∈ D, R d (V d) w') -> Q .normal (fill D V z) w') l a) : (Code.region id l.toArray true).wp P Q a w := by
 simp only [relB, Bool.and_eq_true] at hB
 obtain ⟨⟨⟨⟨hsel, hwt⟩, hc⟩, hD⟩, hg⟩ := hB
 have hsel' := Region.noSelect_spec hsel
 have hget : ∀ i : Nat, l.toArray[i]? = l[i]? := fun i => by simp
 obtain ⟨z, hQ, hde, hz, hag, hst⟩ := rel_end (ops := l.toArray) l a (fun o ho cs b => by
  obtain ⟨i, hi, rfl⟩ := List.mem_iff_getElem.1 ho
  exact hsel' i _ cs b (by simp [hi])) hc h
 refine wp_region_any hm ?_
 refine any_of_facts (z := z) (X := w) (D := D) (R := R) hsel' hwt (fun i j oi oj d h1 h2 => dsts_inj l _ hc i j oi oj d (by rw [<- hget]; exact h1) (by rw [<- hget]; exact h2)) (fun i oi d h1 h2 => by rw [hz]; exact dsts_in l _ hc i oi d (by rw [<- hget]; exact h1) h2)
  (fun d hd => by
   have := List.all_eq_true.1 hD d hd
   simp [dsts] at this
   obtain ⟨o, ho, hod⟩ := this
   obtain ⟨i, hi, rfl⟩ := List.mem_iff_getElem.1 ho
   exact ⟨i, _, by simp [hi], hod⟩)
  hR (fun i o g want ho hgd t ht hD' => by
   have := Array.all_eq_true_iff_forall_mem.1 hg o (Array.mem_of_getElem? ho)
   rw [hgd] at this
   simp only [ht] at this
   simp at this
   exact this hD')
  (fun i o ho => hst o (List.mem_of_getElem? (by rw [<- hget]; exact ho))) hQ _ _ a _ (by simp) ?_ ((Quiet.refl w).drew).keep hde.symm hz.symm (fun t ht => (hag t fun h => by
   obtain ⟨o, ho, hod⟩ := List.mem_filterMap.1 h
   obtain ⟨i, hi, rfl⟩ := List.mem_iff_getElem.1 ho
   exact ht i _ (by simp [hi]) hod).symm) (fun i o d _ _ hl => by rw [getD_replicate_false] at hl; cases hl)
 unfold left
 rw [List.countP_eq_length.2 (fun i hi => by
  have := List.mem_range.1 hi
  simp at this
  simp [this])]
 simp
structure KeptIn (X : World) (F : World -> Prop) where
 w : World
 h : Keep X w
 f : F w
theorem KeptIn.of {f : FuncId} {args : Array Value} {X : World} {F : World -> Prop} (hF : ∀ w w', Keep w w' -> F w -> F w') {p : KeptIn X F} {v : Value} (h : Calls P f args p.w fun e w' => e = .returned v ∧ Keep p.w w') :
  Calls P f args p.w fun e w' => e = .returned v ∧ ∃ q : KeptIn X F, w' = q.w :=
 h.mono fun _ w' ⟨he, hk⟩ => ⟨he, ⟨w', p.h.trans hk, hF _ _ hk p.f⟩, rfl⟩
theorem quiet_get {C : World -> Prop} {z : Act} : ∀ (l : List Oper) (a : Act), wpQuiet P ops C (fun b => b = z) l a -> ∀ t, t ∉ dsts l -> z.tmps[t]? = a.tmps[t]?
 | [], a, h, t, _ => by
   simp only [wpQuiet] at h
   rw [<- h]
 | o :: r, a, h, t, ht => by
   have h1 : t ∉ dsts r := fun h => ht (by
    unfold dsts at *
    rw [List.filterMap_cons]
    split
    ·exact h
    ·exact List.mem_cons_of_mem _ h)
   have hp : ∀ v, (a.put o.dst v).tmps[t]? = a.tmps[t]? := fun v => by
    cases hod : o.dst with
    | none => rfl
    | some d =>
      have : d ≠ t := fun e => ht (by unfold dsts; rw [List.filterMap_cons, hod]; simp [e])
      rw [put_get, if_neg (fun h => this h.1)]
   simp only [wpQuiet] at h
   split at h
   ·obtain ⟨v, _, h⟩ := h
    rw [quiet_get r _ h t h1, hp]
   ·rw [quiet_get r _ h t h1, hp]
def plainB (ops : Array Oper) (D : List Tmp) (l : List Oper) : Bool := l.all fun o => (match o.dst with | some d => !D.contains d | none => false) && (o.looksAt ops).all fun t => !D.contains t
theorem rel_block {X : World} {D : List Tmp} {R : Tmp -> Value -> World -> Prop} {Q : Act -> Prop} {z : Act} : ∀ (l r : List Oper) (a : Act), plainB ops D l = true -> chk ops a.tmps.size l = true -> (∀ o ∈ l, ∀ cs b, o.op ≠ .select cs b) ->
  (∀ F : World -> Prop, (∀ w w', Keep w w' -> F w -> F w') -> Nonempty (KeptIn X F) -> wpQuiet P ops (fun w' => ∃ p : KeptIn X F, w' = p.w) (fun b => b = z) l a) -> wpRel P ops X D R Q r z -> wpRel P ops X D R Q (l ++ r) a
 | [], r, a, _, _, _, h, hr => by
   have := h (fun _ => True) (fun _ _ _ _ => trivial) ⟨⟨X, Keep.refl X, trivial⟩⟩
   simp only [wpQuiet] at this
   rw [this]; exact hr
 | o :: l, r, a, hB, hc, hs, h, hr => by
   simp only [plainB, List.all_cons, Bool.and_eq_true] at hB
   obtain ⟨⟨hd, hlk⟩, hB⟩ := hB
   simp only [chk, Bool.and_eq_true] at hc
   obtain ⟨⟨hd2, hl⟩, hc⟩ := hc
   cases hod : o.dst with
   | none => rw [hod] at hd; cases hd
   | some d =>
     rw [hod] at hd hd2
     simp at hd hd2
     have val : ∀ C v, wpQuiet P ops C (fun b => b = z) l (a.put o.dst v) -> z.tmps.getD d undef = v := fun C v hq => by
      have := quiet_get l _ hq d hd2.2
      rw [hod, put_get, if_pos ⟨rfl, hd2.1⟩] at this
      rw [Array.getD_eq_getD_getElem?, this]; rfl
     refine ⟨z.tmps.getD d undef, ?_, rel_block l r _ hB (by rw [put_size]; exact hc) (fun o' ho => hs o' (List.mem_cons_of_mem _ ho)) (fun F hF hne => ?_) hr⟩
     ·unfold stepR
      split
      ·rename_i hw
       refine ⟨d, hod, ?_⟩
       rw [if_neg hd]
       intro V w hk _
       have hq := h (Keep w) (fun _ _ hk' h' => h'.trans hk') ⟨⟨w, hk, Keep.refl w⟩⟩
       simp only [wpQuiet, hw, if_true] at hq
       obtain ⟨v, hq, hn⟩ := hq
       have hv := val _ _ hn
       rw [hv]
       have := hq w ⟨⟨w, hk, Keep.refl w⟩, rfl⟩
       have hag : ∀ t ∈ o.looksAt ops, a.tmps[t]? = (fill D V a).tmps[t]? := fun t ht => by
        have := List.all_eq_true.1 hlk t ht
        simp at this
        rw [fill_get, if_neg (fun h => this h.1)]
       unfold Oper.quietAt at *
       rw [<- exec_agree o (fun cs b => hs o List.mem_cons_self cs b) hag]
       generalize (execOp a.eval o).run P w = q at *
       cases q with
       | ok n w' =>
         cases n <;> simp only [Oper.quietUpon] at this ⊢
         case value => exact this
         case skip => exact this
         case enter f args => exact ⟨this.1, this.2.mono fun e w'' ⟨he, p, hp⟩ => ⟨he, hp ▸ p.f⟩⟩
       | halt x w' => simp only [Oper.quietUpon] at this
      ·rename_i hw
       have hq := h (fun _ => True) (fun _ _ _ _ => trivial) ⟨⟨X, Keep.refl X, trivial⟩⟩
       simp only [wpQuiet, hw] at hq
       exact ⟨val _ _ hq, fun d' hd' => by rw [hod] at hd'; injection hd' with e; rw [<- e]; exact hd⟩
     ·have hq := h F hF hne
      simp only [wpQuiet] at hq
      split at hq
      ·obtain ⟨v, _, hn⟩ := hq
       rw [val _ _ hn]; exact hn
      ·rw [val _ _ hq]; exact hq
theorem rel_take {X : World} {D : List Tmp} {R : Tmp -> Value -> World -> Prop} {Q : Act -> Prop} {a : Act} {l : List Oper} (n : Nat) (z : Act) (hB : (plainB ops D (l.take n) && chk ops a.tmps.size (l.take n) && Region.noSelect (l.take n).toArray) = true)
  (h : ∀ F : World -> Prop, (∀ w w', Keep w w' -> F w -> F w') -> Nonempty (KeptIn X F) -> wpQuiet P ops (fun w' => ∃ p : KeptIn X F, w' = p.w) (fun b => b = z) (l.take n) a) (hr : wpRel P ops X D R Q (l.drop n) z) : wpRel P ops X D R Q l a := by
 simp only [Bool.and_eq_true] at hB
 have := rel_block (l.take n) (l.drop n) a hB.1.1 hB.1.2 (fun o ho cs b => by
  obtain ⟨i, hi, e⟩ := List.mem_iff_getElem.1 ho
  exact Region.noSelect_spec hB.2 i o cs b (by rw [List.getElem?_toArray, List.getElem?_eq_getElem hi, e])) h hr
 rwa [List.take_append_drop] at this
theorem rel_take' {X : World} {D : List Tmp} {R : Tmp -> Value -> World -> Prop} {Q : Act -> Prop} {a : Act} {l : List Oper} (n : Nat) (hB : (plainB ops D (l.take n) && chk ops a.tmps.size (l.take n) && Region.noSelect (l.take n).toArray) = true)
  (h : ∃ z : Act, (∀ F : World -> Prop, (∀ w w', Keep w w' -> F w -> F w') -> Nonempty (KeptIn X F) -> wpQuiet P ops (fun w' => ∃ p : KeptIn X F, w' = p.w) (fun b => b = z) (l.take n) a) ∧ wpRel P ops X D R Q (l.drop n) z) : wpRel P ops X D R Q l a := by
 obtain ⟨z, h1, h2⟩ := h
 exact rel_take n z hB h1 h2
def entersB (P : Program) (f : FuncId) : Bool := match P.funcs[f]? with
 | some fn => !(fn.name == "runtime.NumGoroutine") && fn.body.isSome
 | none => false
theorem run_enters {f : FuncId} (h : entersB P f = true) (args : Array Value) (w : World) : (callFunc f args).run P w = .ok (.enter f args) w := by
 unfold entersB at h
 split at h
 ·rename_i fn hf
  simp only [Bool.and_eq_true, Bool.not_eq_true', Option.isSome_iff_exists] at h
  obtain ⟨h1, c, hc⟩ := h
  have h1' : fn.name ≠ "runtime.NumGoroutine" := by simpa using h1
  simp [callFunc, hf, h1', hc]
 ·cases h
theorem rel_call {X : World} {D : List Tmp} {R : Tmp -> Value -> World -> Prop} {Q : Act -> Prop} {a : Act} {o : Oper} {r : List Oper} (d : Tmp) (f : FuncId) (xs : Array Operand) (ts : Array TypeId)
  (hop : o.op = .call { callee := .value (.func f), args := xs, argTypes := ts }) (hd : o.dst = some d) (hD : D.contains d = true) (hent : entersB P f = true) (hw : Region.wanted o (yielded ops a.tmps) = true)
  (h : ∀ V w, Keep X w -> (∀ t ∈ o.looksAt ops, t ∈ D -> R t (V t) w) -> Calls P f (xs.map (fill D V a).eval) w fun e w' => ∃ v, e = .returned v ∧ Keep w w' ∧ R d v w')
  (hr : wpRel P ops X D R Q r (a.put o.dst undef)) : wpRel P ops X D R Q (o :: r) a := by
 refine ⟨undef, ?_, hr⟩
 unfold stepR
 rw [if_pos hw]
 refine ⟨d, hd, ?_⟩
 rw [if_pos (by simpa using hD)]
 intro V w hk hV
 unfold relAt
 have e : (execOp (fill D V a).eval o).run P w = .ok (.enter f (xs.map (fill D V a).eval)) w := by
  simp [execOp, hop, resolve, Deferred.ofValue, invoke, Act.eval, run_enters hent]
 rw [e]
 exact ⟨Keep.refl w, h V w hk hV⟩
theorem rel_callq {X : World} {D : List Tmp} {R : Tmp -> Value -> World -> Prop} {Q : Act -> Prop} {a : Act} {o : Oper} {r : List Oper} (v : Value) (d : Tmp) (f : FuncId) (xs : Array Operand) (ts : Array TypeId)
  (hop : o.op = .call { callee := .value (.func f), args := xs, argTypes := ts }) (hd : o.dst = some d) (hD : D.contains d = false) (hent : entersB P f = true) (hw : Region.wanted o (yielded ops a.tmps) = true)
  (h : ∀ V w, Keep X w -> (∀ t ∈ o.looksAt ops, t ∈ D -> R t (V t) w) -> Calls P f (xs.map (fill D V a).eval) w fun e w' => e = .returned v ∧ Keep w w')
  (hr : wpRel P ops X D R Q r (a.put o.dst v)) : wpRel P ops X D R Q (o :: r) a := by
 refine ⟨v, ?_, hr⟩
 unfold stepR
 rw [if_pos hw]
 refine ⟨d, hd, ?_⟩
 rw [if_neg (by simpa using hD)]
 intro V w hk hV
 unfold Oper.quietAt
 have e : (execOp (fill D V a).eval o).run P w = .ok (.enter f (xs.map (fill D V a).eval)) w := by
  simp [execOp, hop, resolve, Deferred.ofValue, invoke, Act.eval, run_enters hent]
 rw [e]
 exact ⟨rfl, h V w hk hV⟩
def pickV (D : List Tmp) (V : Tmp -> Value) (a : Act) : Operand -> Value
 | .tmp t => if D.contains t then V t else a.tmps.getD t undef
 | .const v => v
 | .global g => .pointer (some ⟨g, 0, none⟩)
 | .func f => .func (.func f) #[] #[]
theorem pick_eval {D : List Tmp} {V : Tmp -> Value} {a : Act} (hD : D.all (fun d => decide (d < a.tmps.size)) = true) (x : Operand) : (fill D V a).eval x = pickV D V a x := by
 cases x with
 | tmp t =>
   unfold pickV
   simp only [Act.eval, Array.getD_eq_getD_getElem?, fill_get]
   by_cases h : t ∈ D
   ·have h1 := List.all_eq_true.1 hD t h
    simp only [decide_eq_true_eq] at h1
    have h2 : D.contains t = true := by simpa using h
    rw [if_pos ⟨h, h1⟩, if_pos h2]; rfl
   ·have h2 : ¬ D.contains t = true := by simpa using h
    rw [if_neg (fun k => h k.1), if_neg h2]
 | _ => rfl
def depsB (ops : Array Oper) (D : List Tmp) (o : Oper) (ds : List Tmp) : Bool := ds.all fun t => (o.looksAt ops).contains t && D.contains t
theorem rel_call' {X : World} {D : List Tmp} {R : Tmp -> Value -> World -> Prop} {Q : Act -> Prop} {a : Act} {o : Oper} {r : List Oper} (d : Tmp) (f : FuncId) (xs : List Operand) (ts : Array TypeId) (ds : List Tmp) (args : (Tmp -> Value) -> List Value)
  (hop : o.op = .call { callee := .value (.func f), args := xs.toArray, argTypes := ts }) (hd : o.dst = some d)
  (hB : (D.contains d && entersB P f && Region.wanted o (yielded ops a.tmps) && D.all (fun d => decide (d < a.tmps.size)) && depsB ops D o ds) = true) (ha : ∀ V, xs.map (pickV D V a) = args V)
  (h : ∀ V w, Keep X w -> (∀ t ∈ ds, R t (V t) w) -> Calls P f (args V).toArray w fun e w' => ∃ v, e = .returned v ∧ Keep w w' ∧ R d v w')
  (hr : wpRel P ops X D R Q r (a.put o.dst undef)) : wpRel P ops X D R Q (o :: r) a := by
 simp only [Bool.and_eq_true] at hB
 obtain ⟨⟨⟨⟨h1, h2⟩, h3⟩, h4⟩, h5⟩ := hB
 refine rel_call d f xs.toArray ts hop hd h1 h2 h3 (fun V w hk hV => ?_) hr
 have e : xs.toArray.map (fill D V a).eval = (args V).toArray := by
  rw [<- ha V, List.map_toArray]
  congr 1
  exact List.map_congr_left fun x _ => pick_eval h4 x
 rw [e]
 exact h V w hk fun t ht => by
  have := List.all_eq_true.1 h5 t ht
  simp at this
  exact hV t this.1 this.2
theorem rel_callq' {X : World} {D : List Tmp} {R : Tmp -> Value -> World -> Prop} {Q : Act -> Prop} {a : Act} {o : Oper} {r : List Oper} (v : Value) (d : Tmp) (f : FuncId) (xs : List Operand) (ts : Array TypeId) (ds : List Tmp) (args : (Tmp -> Value) -> List Value)
  (hop : o.op = .call { callee := .value (.func f), args := xs.toArray, argTypes := ts }) (hd : o.dst = some d)
  (hB : (!D.contains d && entersB P f && Region.wanted o (yielded ops a.tmps) && D.all (fun d => decide (d < a.tmps.size)) && depsB ops D o ds) = true) (ha : ∀ V, xs.map (pickV D V a) = args V)
  (h : ∀ V w, Keep X w -> (∀ t ∈ ds, R t (V t) w) -> Calls P f (args V).toArray w fun e w' => e = .returned v ∧ Keep w w')
  (hr : wpRel P ops X D R Q r (a.put o.dst v)) : wpRel P ops X D R Q (o :: r) a := by
 simp only [Bool.and_eq_true, Bool.not_eq_true'] at hB
 obtain ⟨⟨⟨⟨h1, h2⟩, h3⟩, h4⟩, h5⟩ := hB
 refine rel_callq v d f xs.toArray ts hop hd h1 h2 h3 (fun V w hk hV => ?_) hr
 have e : xs.toArray.map (fill D V a).eval = (args V).toArray := by
  rw [<- ha V, List.map_toArray]
  congr 1
  exact List.map_congr_left fun x _ => pick_eval h4 x
 rw [e]
 exact h V w hk fun t ht => by
  have := List.all_eq_true.1 h5 t ht
  simp at this
  exact hV t this.1 this.2
def noSel (o : Oper) : Bool := match o.op with | .select .. => false | _ => true
theorem noSel_spec {o : Oper} (h : noSel o = true) (cs : Array SelectCase) (b : Bool) : o.op ≠ .select cs b := fun e => by
 unfold noSel at h
 rw [e] at h; cases h
theorem rel_opq {X : World} {D : List Tmp} {R : Tmp -> Value -> World -> Prop} {Q : Act -> Prop} {a : Act} {o : Oper} {r : List Oper} (v : Value) (d : Tmp) (ds : List Tmp) (hd : o.dst = some d)
  (hB : (!D.contains d && noSel o && Region.wanted o (yielded ops a.tmps) && D.all (fun d => decide (d < a.tmps.size)) && depsB ops D o ds) = true)
  (h : ∀ V w, Keep X w -> (∀ t ∈ ds, R t (V t) w) -> (execOp (pickV D V a) o).run P w = .ok (.value v) w)
  (hr : wpRel P ops X D R Q r (a.put o.dst v)) : wpRel P ops X D R Q (o :: r) a := by
 simp only [Bool.and_eq_true, Bool.not_eq_true'] at hB
 obtain ⟨⟨⟨⟨h1, h2⟩, h3⟩, h4⟩, h5⟩ := hB
 refine ⟨v, ?_, hr⟩
 unfold stepR
 rw [if_pos h3]
 refine ⟨d, hd, ?_⟩
 rw [if_neg (by simpa using h1)]
 intro V w hk hV
 unfold Oper.quietAt
 rw [execOp_congr o (noSel_spec h2) fun x _ => pick_eval h4 x, h V w hk fun t ht => by
  have := List.all_eq_true.1 h5 t ht
  simp at this
  exact hV t this.1 this.2]
 exact ⟨rfl, rfl⟩
theorem rel_opR {X : World} {D : List Tmp} {R : Tmp -> Value -> World -> Prop} {Q : Act -> Prop} {a : Act} {o : Oper} {r : List Oper} (d : Tmp) (ds : List Tmp) (hd : o.dst = some d)
  (hB : (D.contains d && noSel o && Region.wanted o (yielded ops a.tmps) && D.all (fun d => decide (d < a.tmps.size)) && depsB ops D o ds) = true)
  (h : ∀ V w, Keep X w -> (∀ t ∈ ds, R t (V t) w) -> ∃ u w', (execOp (pickV D V a) o).run P w = .ok (.value u) w' ∧ Keep w w' ∧ R d u w')
  (hr : wpRel P ops X D R Q r (a.put o.dst undef)) : wpRel P ops X D R Q (o :: r) a := by
 simp only [Bool.and_eq_true] at hB
 obtain ⟨⟨⟨⟨h1, h2⟩, h3⟩, h4⟩, h5⟩ := hB
 refine ⟨undef, ?_, hr⟩
 unfold stepR
 rw [if_pos h3]
 refine ⟨d, hd, ?_⟩
 rw [if_pos (by simpa using h1)]
 intro V w hk hV
 obtain ⟨u, w', e, hk', hR⟩ := h V w hk fun t ht => by
  have := List.all_eq_true.1 h5 t ht
  simp at this
  exact hV t this.1 this.2
 unfold relAt
 rw [execOp_congr o (noSel_spec h2) fun x _ => pick_eval h4 x, e]
 exact ⟨hk', hR⟩
theorem rel_nil {X : World} {D : List Tmp} {R : Tmp -> Value -> World -> Prop} {Q : Act -> Prop} {a : Act} (h : Q a) : wpRel P ops X D R Q [] a := h
end
end Rel
end Go.Proofs.YtaciogcpghbhjaaGreat
/- A region as XRel's, whose last operations come one behind the other behind all of these, and may turn memory. Conditions: the program follows mixed orders. -/
namespace Go.Proofs.YtaciogcpghbhjaaGreat
set_option linter.unusedVariables false
open Go.ChangeShapes Go.WideShapes Go.ChangeAt Go.RowKit
namespace Rel
section
variable {P : Program} {ops : Array Oper}
def waitsN (md : Region.Mode) (ops : Array Oper) (n : Nat) : Bool :=
 (List.range n).all fun j => match ops[j]? with
  | none => true
  | some o => (o.after.all fun e => !Region.binds md e || decide (e.on < j)) &&
    ((List.range n).all fun i => match (ops[i]?).bind (·.dst) with
      | none => true
      | some d => !(o.looksAt ops).contains d || o.after.toList.any fun e => Region.binds md e && e.on == i)
theorem waitsN_back {md : Region.Mode} {n : Nat} (h : waitsN md ops n = true) {j : Nat} {o : Oper} (hj : j < n) (ho : ops[j]? = some o) : (∀ e ∈ o.after, Region.binds md e = true -> e.on < j) ∧
  ∀ i oi d, i < n -> ops[i]? = some oi -> oi.dst = some d -> d ∈ o.looksAt ops -> ∃ e ∈ o.after, Region.binds md e = true ∧ e.on = i := by
 have h1 := List.all_eq_true.1 h j (List.mem_range.2 hj)
 rw [ho] at h1
 simp only [Bool.and_eq_true] at h1
 obtain ⟨h1, h2⟩ := h1
 refine ⟨fun e he hb => ?_, fun i oi d hin hoi hd hl => ?_⟩
 ·have := Array.all_eq_true_iff_forall_mem.1 h1 e he
  simp [hb] at this
  exact this
 ·have := List.all_eq_true.1 h2 i (List.mem_range.2 hin)
  rw [hoi] at this
  simp only [Option.bind_some, hd, Bool.or_eq_true, Bool.not_eq_true', List.any_eq_true, Bool.and_eq_true, beq_iff_eq] at this
  rcases this with h | ⟨e, he, h⟩
  ·simp at h; exact absurd hl h
  ·exact ⟨e, by simpa using he, h⟩
theorem head_listed {md : Region.Mode} {n : Nat} (h : waitsN md ops n = true) {listed : Array Bool} (hn : n <= ops.size) (hsz : listed.size = ops.size) (hr : Region.ready md ops listed = []) : ∀ i, i < n -> listed.getD i false = true := by
 intro i
 induction i using Nat.strongRecOn with
 | _ i ih =>
   intro hi
   cases hl : listed.getD i false
   ·exfalso
    have hlt : listed.getD i true = false := getD_in (by omega) hl
    obtain ⟨o, ho⟩ : ∃ o, ops[i]? = some o := ⟨ops[i]'(by omega), Array.getElem?_eq_getElem _⟩
    have : i ∈ Region.ready md ops listed := mem_ready.2 ⟨hlt, o, ho, fun e he hb => by
     have := (waitsN_back h hi ho).1 e he hb
     exact ih e.on this (by omega)⟩
    rw [hr] at this
    cases this
   ·rfl
theorem left_one {n : Nat} {listed : Array Bool} (h : 0 < left n listed) : ∃ i, i < n ∧ listed.getD i true = false := by
 unfold left at h
 rw [List.countP_pos_iff] at h
 obtain ⟨i, hi, h⟩ := h
 exact ⟨i, List.mem_range.1 hi, by simpa using h⟩
theorem any_of_facts_tail {md : Region.Mode} {X : World} {D : List Tmp} {R : Tmp -> Value -> World -> Prop} {Q : Exit -> Act -> World -> Prop} {z : Act} {n g : Nat} (hsel : ∀ (j : Nat) (o : Oper) cs b, ops[j]? = some o -> o.op ≠ .select cs b) (hw : waitsN md ops n = true)
  (hs : Region.sinkB md ops n = true) (hc : Region.chainB md ops n = true) (hn : n < ops.size)
  (hinj : ∀ (i j : Nat) (oi oj : Oper) (d : Tmp), i < n -> j < n -> ops[i]? = some oi -> ops[j]? = some oj -> oi.dst = some d -> oj.dst = some d -> i = j) (hin : ∀ (i : Nat) (oi : Oper) (d : Tmp), i < n -> ops[i]? = some oi -> oi.dst = some d -> d < z.tmps.size) (hD : ∀ d ∈ D, ∃ (i : Nat) (o : Oper), i < n ∧ ops[i]? = some o ∧ o.dst = some d)
  (hR : ∀ d ∈ D, ∀ v w w', Keep w w' -> R d v w -> R d v w')
  (hG : ∀ (i : Nat) (o : Oper) (g : Nat) (want : Bool), i < n -> ops[i]? = some o -> o.guard = some (g, want) -> ∀ t, (ops[g]?).bind (·.dst) = some t -> t ∉ D)
  (hst : ∀ (i : Nat) (o : Oper), i < n -> ops[i]? = some o -> ∃ v, stepR P ops X D R o z v ∧ ∀ d, o.dst = some d -> z.tmps[d]? = some v)
  (hQ : ∀ V w t, HeadInv md ops n t -> (∀ i, i < n -> t.getD i false = true) -> Keep X w -> (∀ d ∈ D, R d (V d) w) -> wpAny P md ops Q g t (fill D V z) w) :
  ∀ (fuel : Nat) (listed : Array Bool) (a : Act) (w : World), HeadInv md ops n listed -> left n listed = fuel -> Keep X w -> a.defers = z.defers -> a.tmps.size = z.tmps.size ->
    (∀ t, (∀ (i : Nat) (o : Oper), i < n -> ops[i]? = some o -> o.dst ≠ some t) -> a.tmps[t]? = z.tmps[t]?) ->
    (∀ (i : Nat) (o : Oper) (d : Tmp), i < n -> ops[i]? = some o -> o.dst = some d -> listed.getD i false = true -> if d ∈ D then R d (a.tmps.getD d undef) w else a.tmps[d]? = z.tmps[d]?) ->
    wpAny P md ops Q (fuel + g) listed a w := by
 have fin : ∀ (listed : Array Bool) (a : Act) (w : World), HeadInv md ops n listed -> (∀ i, i < n -> listed.getD i false = true) -> Keep X w -> a.defers = z.defers -> a.tmps.size = z.tmps.size ->
   (∀ t, (∀ (i : Nat) (o : Oper), i < n -> ops[i]? = some o -> o.dst ≠ some t) -> a.tmps[t]? = z.tmps[t]?) ->
   (∀ (i : Nat) (o : Oper) (d : Tmp), i < n -> ops[i]? = some o -> o.dst = some d -> listed.getD i false = true -> if d ∈ D then R d (a.tmps.getD d undef) w else a.tmps[d]? = z.tmps[d]?) -> wpAny P md ops Q g listed a w := by
  intro listed a w inv hall hk hde hz h1 h2
  have key : fill D (fun t => a.tmps.getD t undef) z = a := by
   have e1 : (fill D (fun t => a.tmps.getD t undef) z).tmps = a.tmps := by
    apply Array.ext_getElem?
    intro t
    rw [fill_get]
    by_cases hD' : t ∈ D
    ·obtain ⟨i, o, hin', ho, hd⟩ := hD t hD'
     have hlt := hin i o t hin' ho hd
     rw [if_pos ⟨hD', hlt⟩]
     have hlt' : t < a.tmps.size := by rw [hz]; exact hlt
     simp [hlt']
    ·rw [if_neg (fun h => hD' h.1)]
     by_cases hex : ∃ (i : Nat) (o : Oper), i < n ∧ ops[i]? = some o ∧ o.dst = some t
     ·obtain ⟨i, o, hin', ho, hd⟩ := hex
      have := h2 i o t hin' ho hd (hall i hin')
      rw [if_neg hD'] at this
      exact this.symm
     ·exact (h1 t fun i o hin' ho hd => hex ⟨i, o, hin', ho, hd⟩).symm
   have e2 := (fill_defers D (fun t => a.tmps.getD t undef) z).trans hde.symm
   cases hf : fill D (fun t => a.tmps.getD t undef) z with
   | mk t1 d1 =>
     cases a with
     | mk t2 d2 =>
       rw [hf] at e1 e2
       simp only at e1 e2
       rw [e1, e2]
  have := hQ (fun t => a.tmps.getD t undef) w listed inv hall hk fun d hd => by
   obtain ⟨i, o, hin', ho, hod⟩ := hD d hd
   have := h2 i o d hin' ho hod (hall i hin')
   rwa [if_pos hd] at this
  rwa [key] at this
 intro fuel
 induction fuel with
 | zero =>
   intro listed a w inv hl hk hde hz h1 h2
   have hall : ∀ i, i < n -> listed.getD i false = true := fun i hi => by
    have hi' : i < listed.size := by have := inv.size; omega
    cases h : listed.getD i true
    ·have : 0 < left n listed := by
      unfold left
      rw [List.countP_pos_iff]
      exact ⟨i, List.mem_range.2 hi, by rw [h]; rfl⟩
     omega
    ·simp [hi'] at h ⊢
     exact h
   rw [Nat.zero_add]
   exact fin listed a w inv hall hk hde hz h1 h2
 | succ fuel ih =>
   intro listed a w inv hl hk hde hz h1 h2
   have hsz := inv.size
   rw [show fuel + 1 + g = (fuel + g) + 1 by omega]
   obtain ⟨i0, hi0, hun0⟩ := left_one (n := n) (listed := listed) (by omega)
   refine ⟨fun hr => ?_, fun i hi => ?_⟩
   ·have := head_listed hw (Nat.le_of_lt hn) hsz hr i0 hi0
    rw [getD_both hun0] at this; cases this
   have hin0 : i < n := Nat.lt_of_not_le fun h => tail_waits hs hc hn inv _ i0 rfl hi0 hun0 i h hi
   obtain ⟨hun, o, ho, hall⟩ := mem_ready.1 hi
   have hlt : i < ops.size := (Array.getElem?_eq_some_iff.1 ho).1
   obtain ⟨v, hv, hzv⟩ := hst i o hin0 ho
   have hlook : ∀ t ∈ o.looksAt ops, (fill D (fun t => a.tmps.getD t undef) z).tmps[t]? = a.tmps[t]? ∧ (t ∈ D -> R t (a.tmps.getD t undef) w) := fun t ht => by
    rw [fill_get]
    by_cases hex : ∃ (k : Nat) (ok : Oper), k < n ∧ ops[k]? = some ok ∧ ok.dst = some t
    ·obtain ⟨k, ok, hkn, hok, hkd⟩ := hex
     obtain ⟨e, he, hb, hon⟩ := (waitsN_back hw hin0 ho).2 k ok t hkn hok hkd ht
     have hkl := hall e he hb
     rw [hon] at hkl
     have h3 := h2 k ok t hkn hok hkd hkl
     by_cases hD' : t ∈ D
     ·rw [if_pos hD'] at h3
      have hlt' : t < a.tmps.size := by rw [hz]; exact hin k ok t hkn hok hkd
      rw [if_pos ⟨hD', hin k ok t hkn hok hkd⟩]
      exact ⟨by simp [hlt'], fun _ => h3⟩
     ·rw [if_neg hD'] at h3
      rw [if_neg (fun h => hD' h.1)]
      exact ⟨h3.symm, fun h => absurd h hD'⟩
    ·have hD' : t ∉ D := fun h => by
      obtain ⟨k, ok, hkn, hok, hkd⟩ := hD t h
      exact hex ⟨k, ok, hkn, hok, hkd⟩
     rw [if_neg (fun h => hD' h.1)]
     exact ⟨(h1 t fun k ok hkn hok hkd => hex ⟨k, ok, hkn, hok, hkd⟩).symm, fun h => absurd h hD'⟩
   have hs' : ∀ cs b, o.op ≠ .select cs b := fun cs b => hsel i o cs b ho
   obtain ⟨V, hV⟩ : ∃ V : Tmp -> Value, V = fun t => a.tmps.getD t undef := ⟨_, rfl⟩
   rw [<- hV] at hlook
   have hag : ∀ t ∈ o.looksAt ops, (fill D V z).tmps[t]? = a.tmps[t]? := fun t ht => (hlook t ht).1
   have hwt : Region.wanted o (yielded ops z.tmps) = Region.wanted o (yielded ops a.tmps) := by
    rw [<- wanted_agree o hag]
    refine wanted_guard fun g want hgd t ht => ?_
    rw [fill_get, if_neg (fun h => hG i o g want hin0 ho hgd t ht h.1)]
   have hdeps : ∀ t ∈ o.looksAt ops, t ∈ D -> R t (V t) w := fun t ht hD' => by
    have := (hlook t ht).2 hD'
    rw [hV]; exact this
   have next : ∀ v' w', Keep w w' -> (∀ d, o.dst = some d -> if d ∈ D then R d v' w' else v' = v) -> wpAny P md ops Q (fuel + g) (listed.setIfInBounds i true) (a.put o.dst v') w' := fun v' w' hkw hval => by
    refine ih _ _ _ (inv.set hi hin0) ?_ (hk.trans hkw) (by rw [put_defers]; exact hde) (by rw [put_size]; exact hz) ?_ ?_
    ·have := left_set hin0 hun (show i < listed.size by omega)
     omega
    ·intro t ht
     cases hod : o.dst with
     | none => exact h1 t ht
     | some d =>
       have : d ≠ t := fun e => ht i o hin0 ho (e ▸ hod)
       rw [put_get, if_neg (fun h => this h.1)]
       exact h1 t ht
    ·intro k ok d hkn hok hkd hkl
     by_cases hki : i = k
     ·subst hki
      obtain rfl : o = ok := Option.some.inj (ho.symm.trans hok)
      have hlt' : d < a.tmps.size := by rw [hz]; exact hin i o d hin0 ho hkd
      have hval' := hval d hkd
      have hg : (a.put o.dst v').tmps[d]? = some v' := by rw [hkd, put_get, if_pos ⟨rfl, hlt'⟩]
      split
      ·rename_i hD'
       rw [if_pos hD'] at hval'
       rw [Array.getD_eq_getD_getElem?, hg]; exact hval'
      ·rename_i hD'
       rw [if_neg hD'] at hval'
       rw [hg, hval', hzv d hkd]
     ·have hkl' : listed.getD k false = true := by rw [getD_set_ne false hki] at hkl; exact hkl
      have h3 := h2 k ok d hkn hok hkd hkl'
      have hne : ∀ d', o.dst = some d' -> d' ≠ d := fun d' hd' e => hki (hinj i k o ok d hin0 hkn ho hok (e ▸ hd') hkd)
      have hg : (a.put o.dst v').tmps[d]? = a.tmps[d]? := by
       cases hod : o.dst with
       | none => rfl
       | some d' => rw [put_get, if_neg (fun h => hne d' hod h.1)]
      split
      ·rename_i hD'
       rw [if_pos hD'] at h3
       rw [Array.getD_eq_getD_getElem?, hg, <- Array.getD_eq_getD_getElem?]
       exact hR d hD' _ _ _ hkw h3
      ·rename_i hD'
       rw [if_neg hD'] at h3
       rw [hg]; exact h3
   unfold wpOp
   simp only [ho]
   unfold stepR at hv
   rw [hwt] at hv
   split
   ·rename_i hwd
    rw [if_pos hwd] at hv
    obtain ⟨d, hod, hv⟩ := hv
    refine .inl ?_
    split at hv
    ·rename_i hD'
     exact relAt_wp (fun v' w' hkw hRv => next v' w' hkw fun d' hd' => by
      obtain rfl : d = d' := Option.some.inj (hod.symm.trans hd')
      rw [if_pos hD']; exact hRv) (relAt_agree hs' hag (hv V w hk hdeps))
    ·rename_i hD'
     have hq := hv V w hk hdeps
     have hq' : o.quietAt P a (Keep w) w v := by
      unfold Oper.quietAt at *
      rwa [<- exec_agree o hs' hag]
     exact quiet_wp (fun _ h => h) (fun w' hkw => next v w' hkw fun d' hd' => by
      obtain rfl : d = d' := Option.some.inj (hod.symm.trans hd')
      rw [if_neg hD']) hq'
   ·rename_i hwd
    rw [if_neg hwd] at hv
    exact next undef w (Keep.refl w) fun d' hd' => by rw [if_neg (hv.2 d' hd')]; exact hv.1.symm
def relTailB (D : List Tmp) (m n : Nat) (l : List Oper) : Bool :=
 Region.noSelect l.toArray && waitsN .any l.toArray n && chk l.toArray m (l.take n) && D.all (fun d => (dsts (l.take n)).contains d) && guards D l.toArray &&
 decide (n < l.length) && Region.sinkB .any l.toArray n && Region.chainB .any l.toArray n && Region.seqB .any l.toArray (l.length - n) n ((List.range l.length).map fun i => decide (i < n)).toArray
theorem take_get {l : List Oper} {n i : Nat} {o : Oper} (h1 : i < n) (h2 : l.toArray[i]? = some o) : (l.take n)[i]? = some o := by
 rw [List.getElem?_take_of_lt h1]; simpa using h2
theorem wp_region_rel_tail {id : Nat} {Q : Exit -> Act -> World -> Prop} {a : Act} {w : World} {l : List Oper} (n : Nat) (D : List Tmp) (R : Tmp -> Value -> World -> Prop) (hm : P.follows .mixedOrders = true) (hB : relTailB D a.tmps.size n l = true)
  (hR : ∀ d ∈ D, ∀ v w w', Keep w w' -> R d v w -> R d v w')
  (h : wpRel P l.toArray w D R (fun z => ∀ V w', Keep w w' -> (∀ d ∈ D, R d (V d) w') -> wpList P l.toArray Q (l.drop n) (fill D V z) w') (l.take n) a) : (Code.region id l.toArray true).wp P Q a w := by
 simp only [relTailB, Bool.and_eq_true, decide_eq_true_eq] at hB
 obtain ⟨⟨⟨⟨⟨⟨⟨⟨hsel, hwt⟩, hc⟩, hD⟩, hg⟩, hn⟩, hs⟩, hch⟩, hseq⟩ := hB
 have hsel' := Region.noSelect_spec hsel
 have hn' : n < l.toArray.size := by simpa using hn
 obtain ⟨z, hQ, hde, hz, hag, hst⟩ := rel_end (ops := l.toArray) (l.take n) a (fun o ho cs b => by
  obtain ⟨i, hi, rfl⟩ := List.mem_iff_getElem.1 (List.mem_of_mem_take ho)
  exact hsel' i _ cs b (by simp [hi])) hc h
 have inv0 : HeadInv .any l.toArray n (Array.replicate l.toArray.size false) :=
  ⟨by simp, fun j oj _ hl => (by rw [getD_replicate_false] at hl; cases hl), fun t _ ht => getD_in (by simpa using ht) (getD_replicate_false _ _)⟩
 refine wp_region_any hm ?_
 have hdl : (l.drop n).length = l.length - n := by simp
 have := any_of_facts_tail (z := z) (X := w) (D := D) (R := R) (Q := Q) (n := n) (g := l.length - n) hsel' hwt hs hch hn'
  (fun i j oi oj d hi hj h1 h2 => dsts_inj (l.take n) _ hc i j oi oj d (take_get hi h1) (take_get hj h2))
  (fun i oi d hi h1 h2 => by rw [hz]; exact dsts_in (l.take n) _ hc i oi d (take_get hi h1) h2)
  (fun d hd => by
   have := List.all_eq_true.1 hD d hd
   have hm : d ∈ dsts (l.take n) := by simpa using this
   obtain ⟨o, ho, hod⟩ := List.mem_filterMap.1 hm
   obtain ⟨i, hi, rfl⟩ := List.mem_iff_getElem.1 ho
   have hi2 : i < n := by have := hi; simp at this; omega
   have hi3 : i < l.length := by have := hi; simp at this; omega
   exact ⟨i, _, hi2, by simp [hi3], hod⟩)
  hR (fun i o g want _ ho hgd t ht hD' => by
   have := Array.all_eq_true_iff_forall_mem.1 hg o (Array.mem_of_getElem? ho)
   rw [hgd] at this
   simp only [ht] at this
   simp at this
   exact this hD')
  (fun i o hi ho => hst o (List.mem_of_getElem? (take_get hi ho)))
  (fun V w' t inv hall hk hRV => by
   have et : t = ((List.range l.length).map fun i => decide (i < n)).toArray := by
    apply Array.ext
    ·rw [inv.size]; simp
    ·intro i h1 h2
     have hl : i < l.length := by have := inv.size; simp at this; omega
     simp only [List.getElem_toArray, List.getElem_map, List.getElem_range]
     by_cases hin : i < n
     ·have := hall i hin
      simp [h1] at this
      simp [hin, this]
     ·have := inv.tail i (by omega) (by simpa using hl)
      simp [h1] at this
      simp [hin, this]
   have hw2 := wpAny_of_seq (P := P) (md := .any) (Q' := Q) (l.drop n) n t (fill D V z) w' (fun j => by simp [List.getElem?_drop]) (by rw [hdl, et]; exact hseq) (hQ V w' hk hRV)
   rwa [hdl] at hw2)
  (left n (Array.replicate l.toArray.size false)) _ a w.drew inv0 rfl ((Quiet.refl w).drew).keep hde.symm hz.symm (fun t ht => (hag t fun h => by
   obtain ⟨o, ho, hod⟩ := List.mem_filterMap.1 h
   obtain ⟨i, hi, rfl⟩ := List.mem_iff_getElem.1 ho
   have hi2 : i < n := by have := hi; simp at this; omega
   have hi3 : i < l.length := by have := hi; simp at this; omega
   exact ht i (l.take n)[i] hi2 (by simp [hi3]) hod).symm) (fun i o d _ _ _ hl => by rw [getD_replicate_false] at hl; cases hl)
 have e : left n (Array.replicate l.toArray.size false) = n := by
  unfold left
  rw [List.countP_eq_length.2 (fun i hi => by
   have := List.mem_range.1 hi
   have h2 : i < l.length := by omega
   simp [h2])]
  simp
 rw [e, show n + (l.length - n) = l.toArray.size by simp; omega] at this
 exact this
end
end Rel
end Go.Proofs.YtaciogcpghbhjaaGreat
/- A region that draws its order, whose operations up to the n-th read, or call what keeps all old blocks, and whose last ones come one behind the other behind all of these: one walk serves every order. Conditions: the program follows mixed orders. -/
namespace Go.Proofs.YtaciogcpghbhjaaGreat
open Go.ChangeShapes Go.WideShapes Go.ChangeAt Go.RowKit
section
variable {P : Program} {ops : Array Oper} {md : Region.Mode} {C : World -> Prop}
def headQ (P : Program) (md : Region.Mode) (ops : Array Oper) (C : World -> Prop) (n : Nat) (L : Array Bool -> Act -> Prop) : Nat -> Array Bool -> Act -> Prop
 | 0, t, a => L t a
 | f + 1, t, a => Region.ready md ops t ≠ [] ∧ ∀ i ∈ Region.ready md ops t, i < n ∧ qOp P ops C i (headQ P md ops C n L f (t.setIfInBounds i true)) a
theorem any_of_headQ {n g : Nat} {L : Array Bool -> Act -> Prop} {Q : Exit -> Act -> World -> Prop} (hL : ∀ t a w, C w -> L t a -> wpAny P md ops Q g t a w) :
  ∀ (f : Nat) (t : Array Bool) (a : Act) (w : World), C w -> headQ P md ops C n L f t a -> wpAny P md ops Q (f + g) t a w
 | 0, t, a, w, hw, h => by rw [Nat.zero_add]; exact hL _ _ _ hw h
 | f + 1, t, a, w, hw, h => by
   rw [show f + 1 + g = (f + g) + 1 by omega]
   exact ⟨fun h0 => absurd h0 h.1, fun i hi => wpOp_of_qOp hw (fun a' w' hw' h' => any_of_headQ hL f _ a' w' hw' h') (h.2 i hi).2⟩
theorem headQ_first {n i : Nat} {oi : Oper} {v : Value} {L : Array Bool -> Act -> Prop} (hi : ops[i]? = some oi) (hsel : ∀ (j : Nat) (o : Oper) cs b, ops[j]? = some o -> o.op ≠ .select cs b)
  (hs : Region.sinkB md ops n = true) (hc : Region.chainB md ops n = true) (hn : n < ops.size) (hin : i < n) (hend : ∀ t a, L t a -> ∀ j ∈ Region.ready md ops t, n <= j) :
  ∀ (f : Nat) (t : Array Bool) (a : Act), HeadInv md ops n t ->
    (∀ j oj, ops[j]? = some oj -> j ≠ i -> t.getD j true = false -> (∀ e ∈ oj.after, Region.binds md e = true -> e.on ≠ i) -> oi.apart ops oj = true) ->
    i ∈ Region.ready md ops t -> YieldsIn P ops C oi v a -> headQ P md ops C n L f (t.setIfInBounds i true) (a.put oi.dst v) -> headQ P md ops C n L (f + 1) t a := by
 intro f
 induction f with
 | zero =>
   intro t a inv _ hr hy H
   have hun := (mem_ready.1 hr).1
   refine ⟨fun h => (by rw [h] at hr; cases hr), fun j hj => ?_⟩
   have hjn : j < n := Nat.lt_of_not_le fun h => tail_waits hs hc hn inv _ i rfl hin hun j h hj
   refine ⟨hjn, ?_⟩
   by_cases hji : j = i
   ·subst hji; exact hy.qOp hi H
   ·exact absurd (hend _ _ H j (ready_mono hj hji)) (by omega)
 | succ f ih =>
   intro t a inv hfree hr hy H
   have hun := (mem_ready.1 hr).1
   refine ⟨fun h => (by rw [h] at hr; cases hr), fun j hj => ?_⟩
   have hjn : j < n := Nat.lt_of_not_le fun h => tail_waits hs hc hn inv _ i rfl hin hun j h hj
   refine ⟨hjn, ?_⟩
   by_cases hji : j = i
   ·subst hji; exact hy.qOp hi H
   ·obtain ⟨hjun, oj, hoj, hall⟩ := mem_ready.1 hj
    have hnot : ∀ e ∈ oj.after, Region.binds md e = true -> e.on ≠ i := fun e he hb heq => by
     have h1 := hall e he hb
     rw [heq, getD_both hun] at h1
     cases h1
    have hfree' : ∀ k ok, ops[k]? = some ok -> k ≠ i -> (t.setIfInBounds j true).getD k true = false -> (∀ e ∈ ok.after, Region.binds md e = true -> e.on ≠ i) -> oi.apart ops ok = true := fun k ok hk hki hun' hno => by
     refine hfree k ok hk hki ?_ hno
     by_cases hjk : j = k
     ·subst hjk; exact hjun
     ·rwa [getD_set_ne true hjk] at hun'
    refine qOp_mono (fun a' h3 => ih (t.setIfInBounds j true) a' (inv.set hj hjn) hfree' (ready_mono hr (Ne.symm hji)) h3.1 ?_) (qOp_put hoj (hfree j oj hoj hji hjun hnot) (fun cs b => hsel i oi cs b hi) (fun cs b => hsel j oj cs b hoj) hy (H.2 j (ready_mono hj hji)).2)
    rw [Array.setIfInBounds_comm _ _ hji]
    exact h3.2
theorem headQ_lex {n g : Nat} {R : Act -> Prop} (hsel : Region.noSelect ops = true) (hs : Region.sinkB md ops n = true) (hc : Region.chainB md ops n = true) (hn : n < ops.size) :
  ∀ (l : List Oper) (k : Nat) (t : Array Bool) (a : Act), (∀ j, j < l.length -> l[j]? = ops[k + j]?) -> k + l.length = n -> HeadInv md ops n t -> Region.lexHead md ops g l.length k t = true -> wpQuiet P ops C R l a ->
  headQ P md ops C n (fun t' a' => Region.seqB md ops g n t' = true ∧ R a') l.length t a
 | [], k, t, a, _, hk, _, hB, h => by
   obtain rfl : k = n := by simpa using hk
   exact ⟨by simpa [Region.lexHead] using hB, h⟩
 | o :: l, k, t, a, hl, hk, inv, hB, h => by
   have h0 : ops[k]? = some o := by simpa using (hl 0 (by simp)).symm
   simp only [List.length_cons, Region.lexHead, Bool.and_eq_true] at hB
   obtain ⟨⟨hr, hf⟩, hB'⟩ := hB
   have hkn : k < n := by simp only [List.length_cons] at hk; omega
   have hr' : k ∈ Region.ready md ops t := by simpa using hr
   obtain ⟨v, hy, hK⟩ := yieldsIn_of_qOp h0 (show qOp P ops C k (wpQuiet P ops C R l) a by unfold qOp; simp only [h0]; exact h)
   exact headQ_first h0 (Region.noSelect_spec hsel) hs hc hn hkn (fun t' a' hL => seqB_ready hL.1) l.length t a inv (Region.free_spec h0 hf) hr' hy
    (headQ_lex hsel hs hc hn l (k + 1) _ _ (fun j hj => by have := hl (j + 1) (by simp; omega); simpa [Nat.add_assoc, Nat.add_comm 1 j] using this) (by simp only [List.length_cons] at hk; omega) (inv.set hr' hkn) hB' hK)
end
theorem wp_region_tail {P : Program} {id : Nat} {Q : Exit -> Act -> World -> Prop} {a : Act} {w : World} {l : List Oper} {C : World -> Prop} (n : Nat) (hm : P.follows .mixedOrders = true) (hB : Region.lexTailB .any l.toArray n = true) (hC : C w.drew)
  (h : wpQuiet P l.toArray C (fun a' => ∀ w', C w' -> wpList P l.toArray Q (l.drop n) a' w') (l.take n) a) : (Code.region id l.toArray true).wp P Q a w := by
 simp only [Region.lexTailB, Bool.and_eq_true, decide_eq_true_eq] at hB
 obtain ⟨⟨⟨⟨hsel, hn⟩, hs⟩, hc⟩, hlex⟩ := hB
 have hn' : n < l.length := by simpa using hn
 have htl : (l.take n).length = n := by simp; omega
 have hdl : (l.drop n).length = l.toArray.size - n := by simp
 have inv0 : HeadInv .any l.toArray n (Array.replicate l.toArray.size false) :=
  ⟨by simp, fun j oj _ hl => (by rw [getD_replicate_false] at hl; cases hl), fun t _ ht => getD_in (by simpa using ht) (getD_replicate_false _ _)⟩
 have H := headQ_lex (md := .any) (g := l.toArray.size - n) hsel hs hc hn (l.take n) 0 _ a (fun j hj => by
  have hj' : j < n := by rw [htl] at hj; exact hj
  simp [hj']) (by simpa using htl) inv0 (by rw [htl]; exact hlex) h
 refine wp_region_any hm ?_
 have := any_of_headQ (C := C) (Q := Q) (g := l.toArray.size - n) (fun t a' w' hw' hL => by
  have := wpAny_of_seq (md := .any) (Q' := Q) (l.drop n) n t a' w' (fun j => by simp [List.getElem?_drop]) (by rw [hdl]; exact hL.1) (hL.2 w' hw')
  rwa [hdl] at this) _ _ _ _ hC H
 rw [htl, show n + (l.toArray.size - n) = l.toArray.size by omega] at this
 exact this
theorem wp_region_kept_tail {P : Program} {id : Nat} {Q : Exit -> Act -> World -> Prop} {a : Act} {w : World} {l : List Oper} (n : Nat) (hm : P.follows .mixedOrders = true) (hB : Region.lexTailB .any l.toArray n = true)
  (h : wpQuiet P l.toArray (fun w' => ∃ p : KeptOf w, w' = p.w) (fun a' => ∀ p : KeptOf w, wpList P l.toArray Q (l.drop n) a' p.w) (l.take n) a) : (Code.region id l.toArray true).wp P Q a w :=
 wp_region_tail (C := fun w' => ∃ p : KeptOf w, w' = p.w) n hm hB ⟨⟨w.drew, ((Quiet.refl w).drew).keep⟩, rfl⟩ (by
  have hr : (fun a' => ∀ w', (∃ p : KeptOf w, w' = p.w) -> wpList P l.toArray Q (l.drop n) a' w') = fun a' => ∀ p : KeptOf w, wpList P l.toArray Q (l.drop n) a' p.w := by
   funext a'
   exact propext ⟨fun h p => h _ ⟨p, rfl⟩, fun h w' ⟨p, hp⟩ => hp ▸ h p⟩
  rw [hr]; exact h)
end Go.Proofs.YtaciogcpghbhjaaGreat
