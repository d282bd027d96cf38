/- Of these texts: Box. Conditions: as each part says. -/
import Derived.Test.YtaciogcpghbhjaaGreatZTRel
import Derived.Deep.MidRow
import Derived.Deep.WholeRow
/- A region as XRel's that besides makes one box and stores into it (what comes of a call goes to a variable whose address is taken), in whatever order. Conditions: the program follows mixed orders; no other operation turns an old block. -/
namespace Go.Proofs.YtaciogcpghbhjaaGreat
set_option linter.unusedVariables false
open Go.ChangeShapes Go.WideShapes Go.ChangeAt Go.RowKit
namespace Rel
section
variable {P : Program} {ops : Array Oper}
abbrev ptr (b : Nat) : Value := .pointer (some ⟨b, 0, none⟩)
def FreshO (X : World) (β : Option Nat) (w : World) : Prop := ∀ b, β = some b -> X.heap.size <= b ∧ b < w.heap.size
theorem FreshO.mono {X w w' : World} {β : Option Nat} (h : FreshO X β w) (hs : w.heap.size <= w'.heap.size) : FreshO X β w' := fun b hb => ⟨(h b hb).1, Nat.lt_of_lt_of_le (h b hb).2 hs⟩
theorem any_of_box {md : Region.Mode} {X : World} {D : List Tmp} {R : Option Nat -> Tmp -> Value -> World -> Prop} {Z S : Nat -> World -> Prop} {Q : Exit -> Act -> World -> Prop} {z : Act} {ia is : Nat} {p : Tmp} {oa os : Oper} {O : Obj}
  (hoa : ops[ia]? = some oa) (hos : ops[is]? = some os) (hne : ia ≠ is) (hpa : oa.dst = some p) (hps : os.dst = none) (hga : oa.guard = none) (hgs : os.guard = none) (hpD : p ∉ D) (hpl2 : p ∈ os.looksAt ops) (hpz : p < z.tmps.size)
  (hpl : ∀ (i : Nat) (o : Oper), ops[i]? = some o -> i ≠ is -> p ∉ o.looksAt ops)
  (hA : ∀ (c : Act) (W : World), (execOp c.eval oa).run P W = .ok (.value (ptr W.heap.size)) (W.alloc O))
  (hZ0 : ∀ W : World, Z W.heap.size (W.alloc O)) (hZ : ∀ (b : Nat) (W W' : World), b < W.heap.size -> Keep W W' -> Z b W -> Z b W') (hS : ∀ (b : Nat) (W W' : World), X.heap.size <= b -> b < W.heap.size -> Keep W W' -> S b W -> S b W')
  (hRa : ∀ d ∈ D, ∀ v W, Keep X W -> R none d v W -> R (some W.heap.size) d v (W.alloc O))
  (hSt : ∀ V b W, Keep X W -> X.heap.size <= b -> b < W.heap.size -> Z b W -> (∀ t ∈ os.looksAt ops, t ∈ D -> R (some b) t (V t) W) ->
   ∃ W', (execOp ((fill D V z).put (some p) (ptr b)).eval os).run P W = .ok .skip W' ∧ Keep X W' ∧ W.heap.size <= W'.heap.size ∧ S b W' ∧ ∀ d ∈ D, ∀ v, R (some b) d v W -> R (some b) d v W')
  (hsel : ∀ (j : Nat) (o : Oper) cs b, ops[j]? = some o -> o.op ≠ .select cs b) (hw : waits md ops = true)
  (hinj : ∀ (i j : Nat) (oi oj : Oper) (d : Tmp), ops[i]? = some oi -> ops[j]? = some oj -> oi.dst = some d -> oj.dst = some d -> i = j) (hin : ∀ (i : Nat) (oi : Oper) (d : Tmp), ops[i]? = some oi -> oi.dst = some d -> d < z.tmps.size) (hD : ∀ d ∈ D, ∃ (i : Nat) (o : Oper), ops[i]? = some o ∧ o.dst = some d)
  (hR : ∀ β, ∀ d ∈ D, ∀ v w w', FreshO X β w -> Keep w w' -> R β d v w -> R β d v w')
  (hG : ∀ (i : Nat) (o : Oper) (g : Nat) (want : Bool), ops[i]? = some o -> o.guard = some (g, want) -> ∀ t, (ops[g]?).bind (·.dst) = some t -> t ∉ D ∧ t ≠ p)
  (hst : ∀ (i : Nat) (o : Oper), ops[i]? = some o -> i ≠ ia -> i ≠ is -> ∃ v, (∀ Y β, Keep X Y -> FreshO X β Y -> stepR P ops Y D (R β) o z v) ∧ ∀ d, o.dst = some d -> z.tmps[d]? = some v)
  (hQ : ∀ V b w, Keep X w -> X.heap.size <= b -> b < w.heap.size -> S b w -> (∀ d ∈ D, R (some b) d (V d) w) -> Q .normal ((fill D V z).put (some p) (ptr b)) w) :
  ∀ (fuel : Nat) (listed : Array Bool) (a : Act) (w : World) (β : Option Nat), listed.size = ops.size -> left ops.size listed = fuel -> Keep X w -> a.defers = z.defers -> a.tmps.size = z.tmps.size -> FreshO X β w ->
    (listed.getD ia false = false -> β = none ∧ listed.getD is false = false) -> (listed.getD ia false = true -> ∃ b, β = some b ∧ a.tmps[p]? = some (ptr b) ∧ (listed.getD is false = false -> Z b w) ∧ (listed.getD is false = true -> S b w)) ->
    (∀ t, (∀ (i : Nat) (o : Oper), ops[i]? = some o -> o.dst ≠ some t) -> a.tmps[t]? = z.tmps[t]?) ->
    (∀ (i : Nat) (o : Oper) (d : Tmp), ops[i]? = some o -> i ≠ ia -> o.dst = some d -> listed.getD i false = true -> if d ∈ D then R β d (a.tmps.getD d undef) w else a.tmps[d]? = z.tmps[d]?) ->
    wpAny P md ops Q fuel listed a w := by
 have hlt_of : ∀ {i : Nat} {o : Oper}, ops[i]? = some o -> i < ops.size := fun h => (Array.getElem?_eq_some_iff.1 h).1
 have fin : ∀ (listed : Array Bool) (a : Act) (w : World) (β : Option Nat), (∀ i, i < ops.size -> listed.getD i false = true) -> Keep X w -> a.defers = z.defers -> a.tmps.size = z.tmps.size -> FreshO X β w ->
   (listed.getD ia false = true -> ∃ b, β = some b ∧ a.tmps[p]? = some (ptr b) ∧ (listed.getD is false = false -> Z b w) ∧ (listed.getD is false = true -> S b w)) ->
   (∀ t, (∀ (i : Nat) (o : Oper), ops[i]? = some o -> o.dst ≠ some t) -> a.tmps[t]? = z.tmps[t]?) ->
   (∀ (i : Nat) (o : Oper) (d : Tmp), ops[i]? = some o -> i ≠ ia -> o.dst = some d -> listed.getD i false = true -> if d ∈ D then R β d (a.tmps.getD d undef) w else a.tmps[d]? = z.tmps[d]?) -> Q .normal a w := by
  intro listed a w β hall hk hde hz hf hb h1 h2
  obtain ⟨b, rfl, hap, _, hSb⟩ := hb (hall ia (hlt_of hoa))
  have hSb := hSb (hall is (hlt_of hos))
  have key : (fill D (fun t => a.tmps.getD t undef) z).put (some p) (ptr b) = a := by
   have e1 : ((fill D (fun t => a.tmps.getD t undef) z).put (some p) (ptr b)).tmps = a.tmps := by
    apply Array.ext_getElem?
    intro t
    rw [put_get, fill_size]
    by_cases hpt : p = t
    ·subst hpt
     rw [if_pos ⟨rfl, hpz⟩]; exact hap.symm
    rw [if_neg (fun h => hpt h.1), fill_get]
    by_cases hD' : t ∈ D
    ·obtain ⟨i, o, ho, hd⟩ := hD t hD'
     have hlt := hin i o t ho hd
     rw [if_pos ⟨hD', hlt⟩]
     have hlt' : t < a.tmps.size := by rw [hz]; exact hlt
     simp [hlt']
    ·rw [if_neg (fun h => hD' h.1)]
     by_cases hex : ∃ (i : Nat) (o : Oper), ops[i]? = some o ∧ o.dst = some t
     ·obtain ⟨i, o, ho, hd⟩ := hex
      have hia : i ≠ ia := fun e => by
       subst e
       obtain rfl : oa = o := Option.some.inj (hoa.symm.trans ho)
       rw [hpa] at hd; exact hpt (Option.some.inj hd)
      have := h2 i o t ho hia hd (hall i (hlt_of ho))
      rw [if_neg hD'] at this
      exact this.symm
     ·exact (h1 t fun i o ho hd => hex ⟨i, o, ho, hd⟩).symm
   have e2 : ((fill D (fun t => a.tmps.getD t undef) z).put (some p) (ptr b)).defers = a.defers := by rw [put_defers]; exact (fill_defers D (fun t => a.tmps.getD t undef) z).trans hde.symm
   cases hf : (fill D (fun t => a.tmps.getD t undef) z).put (some p) (ptr b) with
   | mk t1 d1 =>
     cases a with
     | mk t2 d2 =>
       rw [hf] at e1 e2
       simp only at e1 e2
       rw [e1, e2]
  have := hQ (fun t => a.tmps.getD t undef) b w hk (hf b rfl).1 (hf b rfl).2 hSb fun d hd => by
   obtain ⟨i, o, ho, hod⟩ := hD d hd
   have hia : i ≠ ia := fun e => by
    subst e
    obtain rfl : oa = o := Option.some.inj (hoa.symm.trans ho)
    rw [hpa] at hod
    exact hpD (Option.some.inj hod ▸ hd)
   have := h2 i o d ho hia hod (hall i (hlt_of ho))
   rwa [if_pos hd] at this
  rwa [key] at this
 intro fuel
 induction fuel with
 | zero =>
   intro listed a w β hsz hl hk hde hz hf hb0 hb1 h1 h2
   have hall : ∀ i, i < ops.size -> listed.getD i false = true := fun i hi => by
    cases h : listed.getD i true
    ·have : 0 < left ops.size listed := by
      unfold left
      rw [List.countP_pos_iff]
      exact ⟨i, List.mem_range.2 hi, by rw [h]; rfl⟩
     omega
    ·have hi' : i < listed.size := by omega
     simp [hi'] at h ⊢
     exact h
   refine ⟨?_, fin listed a w β hall hk hde hz hf hb1 h1 h2⟩
   unfold Region.ready
   rw [List.filter_eq_nil_iff]
   intro i hi
   have := hall i (List.mem_range.1 hi)
   have hi' : i < listed.size := by have := List.mem_range.1 hi; omega
   simp [hi'] at this ⊢
   intro h; rw [this] at h; cases h
 | succ fuel ih =>
   intro listed a w β hsz hl hk hde hz hf hb0 hb1 h1 h2
   refine ⟨fun hr => fin listed a w β (all_listed hw hsz hr) hk hde hz hf hb1 h1 h2, fun i hi => ?_⟩
   obtain ⟨hun, o, ho, hall⟩ := mem_ready.1 hi
   have hlt := hlt_of ho
   have hunf : listed.getD i false = false := by
    have hi' : i < listed.size := by omega
    simp [hi'] at hun ⊢; exact hun
   -- what it looks at is there
   have hlook : ∀ t ∈ o.looksAt ops, t ≠ p -> (fill D (fun t => a.tmps.getD t undef) z).tmps[t]? = a.tmps[t]? ∧ (t ∈ D -> R β t (a.tmps.getD t undef) w) := fun t ht htp => by
    rw [fill_get]
    by_cases hex : ∃ (k : Nat) (ok : Oper), ops[k]? = some ok ∧ ok.dst = some t
    ·obtain ⟨k, ok, hok, hkd⟩ := hex
     obtain ⟨e, he, hb, hon⟩ := (waits_back hw ho).2 k ok t hok hkd ht
     have hkl := hall e he hb
     rw [hon] at hkl
     have hka : k ≠ ia := fun e => by
      subst e
      obtain rfl : oa = ok := Option.some.inj (hoa.symm.trans hok)
      rw [hpa] at hkd; exact htp (Option.some.inj hkd).symm
     have h3 := h2 k ok t hok hka hkd hkl
     by_cases hD' : t ∈ D
     ·rw [if_pos hD'] at h3
      have hlt' : t < a.tmps.size := by rw [hz]; exact hin k ok t hok hkd
      rw [if_pos ⟨hD', hin k ok t hok hkd⟩]
      exact ⟨by simp [hlt'], fun _ => h3⟩
     ·rw [if_neg hD'] at h3
      rw [if_neg (fun h => hD' h.1)]
      exact ⟨h3.symm, fun h => absurd h hD'⟩
    ·have hD' : t ∉ D := fun h => by
      obtain ⟨k, ok, hok, hkd⟩ := hD t h
      exact hex ⟨k, ok, hok, hkd⟩
     rw [if_neg (fun h => hD' h.1)]
     exact ⟨(h1 t fun k ok hok hkd => hex ⟨k, ok, hok, hkd⟩).symm, fun h => absurd h hD'⟩
   have hs : ∀ cs b, o.op ≠ .select cs b := fun cs b => hsel i o cs b ho
   obtain ⟨V, hV⟩ : ∃ V : Tmp -> Value, V = fun t => a.tmps.getD t undef := ⟨_, rfl⟩
   rw [<- hV] at hlook
   have hdeps : ∀ t ∈ o.looksAt ops, t ∈ D -> R β t (V t) w := fun t ht hD' => by
    have := (hlook t ht (fun e => hpD (e ▸ hD'))).2 hD'
    rw [hV]; exact this
   -- a step that is neither the making of the box nor the store
   have setl : ∀ j, i ≠ j -> (listed.setIfInBounds i true).getD j false = listed.getD j false := fun j h => getD_set_ne false h
   have hlf : left ops.size (listed.setIfInBounds i true) = fuel := by
    have := left_set hlt hun (show i < listed.size by omega)
    omega
   by_cases hia : i = ia
   ·subst hia
    obtain rfl : oa = o := Option.some.inj (hoa.symm.trans ho)
    obtain ⟨rfl, hisf⟩ := hb0 hunf
    unfold wpOp
    simp only [ho]
    have hwd : Region.wanted oa (yielded ops a.tmps) = true := by unfold Region.wanted; rw [hga]
    rw [if_pos hwd]
    refine .inl ?_
    unfold Oper.wp
    rw [hA a w]
    show wpAny P md ops Q fuel _ (a.put oa.dst (ptr w.heap.size)) (w.alloc O)
    have hka : Keep w (w.alloc O) := (Keep.refl w).alloc O
    refine ih _ _ _ (some w.heap.size) (by simpa using hsz) hlf (hk.trans hka) (by rw [put_defers]; exact hde) (by rw [put_size]; exact hz) (fun b hb => by injection hb with hb; subst hb; exact ⟨hk.size, by simp⟩) ?_ ?_ ?_ ?_
    ·intro h
     rw [show (listed.setIfInBounds i true).getD i false = true by simp; omega] at h
     cases h
    ·intro _
     refine ⟨_, rfl, by rw [hpa, put_get, if_pos ⟨rfl, by rw [hz]; exact hpz⟩], fun _ => hZ0 w, fun h => ?_⟩
     rw [setl is hne, hisf] at h; cases h
    ·intro t ht
     have : p ≠ t := fun e => ht i oa ho (e ▸ hpa)
     rw [hpa, put_get, if_neg (fun h => this h.1)]
     exact h1 t ht
    ·intro k ok d hok hka hkd hkl
     rw [setl k (Ne.symm hka)] at hkl
     have h3 := h2 k ok d hok hka hkd hkl
     have hdp : p ≠ d := fun e => hka (hinj k i ok oa d hok ho hkd (e ▸ hpa))
     have hg : (a.put oa.dst (ptr w.heap.size)).tmps[d]? = a.tmps[d]? := by rw [hpa, put_get, if_neg (fun h => hdp h.1)]
     split
     ·rename_i hD'
      rw [if_pos hD'] at h3
      rw [Array.getD_eq_getD_getElem?, hg, <- Array.getD_eq_getD_getElem?]
      exact hRa d hD' _ _ hk h3
     ·rename_i hD'
      rw [if_neg hD'] at h3
      rw [hg]; exact h3
   by_cases his : i = is
   ·subst his
    obtain rfl : os = o := Option.some.inj (hos.symm.trans ho)
    have hial : listed.getD ia false = true := by
     obtain ⟨e, he, hb, hon⟩ := (waits_back hw ho).2 ia oa p hoa hpa hpl2
     have hkl := hall e he hb
     rwa [hon] at hkl
    obtain ⟨b, rfl, hap, hZb, _⟩ := hb1 hial
    have hZb := hZb hunf
    obtain ⟨hb1', hb2'⟩ := hf b rfl
    obtain ⟨W', hrun, hkW, hsW, hSb, hRS⟩ := hSt V b w hk hb1' hb2' hZb hdeps
    unfold wpOp
    simp only [ho]
    have hwd : Region.wanted os (yielded ops a.tmps) = true := by unfold Region.wanted; rw [hgs]
    rw [if_pos hwd]
    refine .inl ?_
    unfold Oper.wp
    have hrun' : (execOp a.eval os).run P w = .ok .skip W' := by
     rw [<- hrun, exec_agree (ops := ops) os hs (a := a) (a' := (fill D V z).put (some p) (ptr b)) (fun t ht => ?_)]
     rw [put_get, fill_size]
     by_cases hpt : p = t
     ·subst hpt
      rw [if_pos ⟨rfl, hpz⟩, hap]
     ·rw [if_neg (fun h => hpt h.1)]
      exact (hlook t ht (Ne.symm hpt)).1.symm
    rw [hrun']
    show wpAny P md ops Q fuel _ (a.put os.dst undef) W'
    rw [hps]
    show wpAny P md ops Q fuel _ a W'
    refine ih _ _ _ (some b) (by simpa using hsz) hlf hkW hde hz (fun b' hb' => by injection hb' with hb'; subst hb'; exact ⟨hb1', by omega⟩) ?_ ?_ h1 ?_
    ·intro h
     rw [setl ia (Ne.symm hne), hial] at h; cases h
    ·intro _
     refine ⟨b, rfl, hap, fun h => ?_, fun _ => hSb⟩
     rw [show (listed.setIfInBounds i true).getD i false = true by simp; omega] at h
     cases h
    ·intro k ok d hok hka hkd hkl
     have hki : i ≠ k := fun e => by
      subst e
      obtain rfl : os = ok := Option.some.inj (ho.symm.trans hok)
      rw [hps] at hkd; cases hkd
     rw [setl k hki] at hkl
     have h3 := h2 k ok d hok hka hkd hkl
     split
     ·rename_i hD'
      rw [if_pos hD'] at h3
      exact hRS d hD' _ h3
     ·rename_i hD'
      rw [if_neg hD'] at h3
      exact h3
   -- any other one
   obtain ⟨v, hv, hzv⟩ := hst i o ho hia his
   replace hv := hv w β hk hf
   have hag : ∀ t ∈ o.looksAt ops, (fill D V z).tmps[t]? = a.tmps[t]? := fun t ht => (hlook t ht (fun e => hpl i o ho his (e ▸ ht))).1
   have hwt : Region.wanted o (yielded ops z.tmps) = Region.wanted o (yielded ops a.tmps) := by
    rw [<- wanted_agree o hag]
    refine wanted_guard fun g want hgd t ht => ?_
    rw [fill_get, if_neg (fun h => (hG i o g want ho hgd t ht).1 h.1)]
   have next : ∀ v' w', Keep w w' -> (∀ d, o.dst = some d -> if d ∈ D then R β d v' w' else v' = v) -> wpAny P md ops Q fuel (listed.setIfInBounds i true) (a.put o.dst v') w' := fun v' w' hkw hval => by
    refine ih _ _ _ β (by simpa using hsz) hlf (hk.trans hkw) (by rw [put_defers]; exact hde) (by rw [put_size]; exact hz) (hf.mono hkw.size) (fun h => by rw [setl ia hia] at h; rw [setl is his]; exact hb0 h) ?_ ?_ ?_
    ·intro h
     rw [setl ia hia] at h
     obtain ⟨b, hbe, hap, hZb, hSb⟩ := hb1 h
     have hbw := (hf b hbe).2
     refine ⟨b, hbe, ?_, fun h => hZ b _ _ hbw hkw (hZb (by rwa [setl is his] at h)), fun h => hS b _ _ (hf b hbe).1 hbw hkw (hSb (by rwa [setl is his] at h))⟩
     have hne : ∀ d', o.dst = some d' -> d' ≠ p := fun d' hd' e => hia (hinj i ia o oa p ho hoa (e ▸ hd') hpa)
     have hg : (a.put o.dst v').tmps[p]? = a.tmps[p]? := by
      cases hod : o.dst with
      | none => rfl
      | some d' => rw [put_get, if_neg (fun h => hne d' hod h.1)]
     rw [hg]; exact hap
    ·intro t ht
     cases hod : o.dst with
     | none => exact h1 t ht
     | some d =>
       have : d ≠ t := fun e => ht i o ho (e ▸ hod)
       rw [put_get, if_neg (fun h => this h.1)]
       exact h1 t ht
    ·intro k ok d hok hka hkd hkl
     by_cases hki : i = k
     ·subst hki
      obtain rfl : o = ok := Option.some.inj (ho.symm.trans hok)
      have hlt' : d < a.tmps.size := by rw [hz]; exact hin i o d ho hkd
      have hval' := hval d hkd
      have hg : (a.put o.dst v').tmps[d]? = some v' := by rw [hkd, put_get, if_pos ⟨rfl, hlt'⟩]
      split
      ·rename_i hD'
       rw [if_pos hD'] at hval'
       rw [Array.getD_eq_getD_getElem?, hg]; exact hval'
      ·rename_i hD'
       rw [if_neg hD'] at hval'
       rw [hg, hval', hzv d hkd]
     ·have hkl' : listed.getD k false = true := by rw [setl k hki] at hkl; exact hkl
      have h3 := h2 k ok d hok hka hkd hkl'
      have hne : ∀ d', o.dst = some d' -> d' ≠ d := fun d' hd' e => hki (hinj i k o ok d ho hok (e ▸ hd') hkd)
      have hg : (a.put o.dst v').tmps[d]? = a.tmps[d]? := by
       cases hod : o.dst with
       | none => rfl
       | some d' => rw [put_get, if_neg (fun h => hne d' hod h.1)]
      split
      ·rename_i hD'
       rw [if_pos hD'] at h3
       rw [Array.getD_eq_getD_getElem?, hg, <- Array.getD_eq_getD_getElem?]
       exact hR β d hD' _ _ _ hf hkw h3
      ·rename_i hD'
       rw [if_neg hD'] at h3
       rw [hg]; exact h3
   unfold wpOp
   simp only [ho]
   unfold stepR at hv
   rw [hwt] at hv
   split
   ·rename_i hwd
    rw [if_pos hwd] at hv
    obtain ⟨d, hod, hv⟩ := hv
    refine .inl ?_
    split at hv
    ·rename_i hD'
     exact relAt_wp (fun v' w' hkw hRv => next v' w' hkw fun d' hd' => by
      obtain rfl : d = d' := Option.some.inj (hod.symm.trans hd')
      rw [if_pos hD']; exact hRv) (relAt_agree hs hag (hv V w (Keep.refl w) hdeps))
    ·rename_i hD'
     have hq := hv V w (Keep.refl w) hdeps
     have hq' : o.quietAt P a (Keep w) w v := by
      unfold Oper.quietAt at *
      rwa [<- exec_agree o hs hag]
     exact quiet_wp (fun _ h => h) (fun w' hkw => next v w' hkw fun d' hd' => by
      obtain rfl : d = d' := Option.some.inj (hod.symm.trans hd')
      rw [if_neg hD']) hq'
   ·rename_i hwd
    rw [if_neg hwd] at hv
    exact next undef w (Keep.refl w) fun d' hd' => by rw [if_neg (hv.2 d' hd')]; exact hv.1.symm
theorem guardsP_spec {D : List Tmp} {p : Tmp} (h : guards (p :: D) ops = true) (i : Nat) (o : Oper) (g : Nat) (want : Bool) (ho : ops[i]? = some o) (hgd : o.guard = some (g, want)) (t : Tmp) (ht : (ops[g]?).bind (·.dst) = some t) : t ∉ D ∧ t ≠ p := by
 have := Array.all_eq_true_iff_forall_mem.1 h o (Array.mem_of_getElem? ho)
 rw [hgd] at this
 simp only [ht] at this
 simp at this
 exact ⟨this.2, this.1⟩
def boxB (D : List Tmp) (m n : Nat) (p x : Tmp) (T : TypeId) (l : List Oper) : Bool :=
 Region.noSelect l.toArray && waits .any l.toArray && chk l.toArray m l && chk l.toArray m (l.take n ++ l.drop (n + 2)) && D.all (fun d => (dsts l).contains d) && guards (p :: D) l.toArray && !D.contains p && D.contains x && decide (p < m) &&
 (l.take (n + 1) ++ l.drop (n + 2)).all (fun o => !(o.looksAt l.toArray).contains p) &&
 (match l[n]? with | some o => (match o.op with | .alloc e => e == T | _ => false) && o.dst == some p && o.guard.isNone | none => false) &&
 (match l[n + 1]? with | some o => (match o.op with | .store e (.tmp q) (.tmp y) => e == T && q == p && y == x | _ => false) && o.dst.isNone && o.guard.isNone && (o.looksAt l.toArray).contains p && (o.looksAt l.toArray).contains x | none => false)
theorem there_alloc (W : World) (cs : Array Value) (T : TypeId) : (W.alloc (.cells cs T)).there W.heap.size 0 cs.size := fun j hj => by
 rw [Nat.zero_add]
 exact ⟨by simp [hj], by simp⟩
theorem there_kept {W W' : World} {b n : Nat} (h : W.there b 0 n) (hb : b < W.heap.size) (hk : Keep W W') : W'.there b 0 n := fun j hj =>
 ⟨by rw [Below.cell hk hb]; exact (h j hj).1, by rw [Below.frozen hk hb]; exact (h j hj).2⟩
theorem range_kept {W W' : World} {b : Nat} {cs : List Value} (h : W.rangeAt b 0 cs) (hb : b < W.heap.size) (hk : Keep W W') : W'.rangeAt b 0 cs := fun j v hv => (Below.cell hk hb).trans (h j v hv)
theorem keep_setCells {X : World} {b : Nat} (hb : X.heap.size <= b) : ∀ (vs : List Value) (o : Nat) {W : World}, Keep X W -> Keep X (W.setCells b o vs)
 | [], _, _, h => h
 | v :: r, o, W, h => keep_setCells hb r (o + 1) (Below.setCell h hb v)
theorem setCells_size (b : Nat) : ∀ (vs : List Value) (o : Nat) (W : World), (W.setCells b o vs).heap.size = W.heap.size
 | [], _, _ => rfl
 | v :: r, o, W => by
   show ((W.setCell ⟨b, o, none⟩ v).setCells b (o + 1) r).heap.size = _
   rw [setCells_size b r (o + 1)]
   simp
def Lain (R : Option Nat -> Tmp -> Value -> World -> Prop) (x : Tmp) (k : Nat) (b : Nat) (W : World) : Prop := ∃ cs : Array Value, cs.size = k ∧ W.there b 0 k ∧ W.rangeAt b 0 cs.toList ∧ R (some b) x (.agg cs) W
theorem wp_region_box {id : Nat} {Q : Exit -> Act -> World -> Prop} {a : Act} {w : World} {l : List Oper} (n : Nat) (p x : Tmp) (T : TypeId) (zc : Array Value) (D : List Tmp) (R : Option Nat -> Tmp -> Value -> World -> Prop) (hm : P.follows .mixedOrders = true) (hB : boxB D a.tmps.size n p x T l = true)
  (hz : ∀ W, (zeroValue T).run P W = .ok (.agg zc) W) (hi : (P.info? T).map (·.size) = some zc.size)
  (hR : ∀ β, ∀ d ∈ D, ∀ v W W', FreshO w β W -> Keep W W' -> R β d v W -> R β d v W')
  (hRa : ∀ d ∈ D, ∀ v W, Keep w W -> R none d v W -> R (some W.heap.size) d v (W.alloc (.cells zc T)))
  (hRs : ∀ d ∈ D, ∀ v b vs W, Keep w W -> w.heap.size <= b -> b < W.heap.size -> R (some b) d v W -> R (some b) d v (W.setCells b 0 vs))
  (hx : ∀ b v W, R (some b) x v W -> ∃ cs : Array Value, v = .agg cs ∧ cs.size = zc.size ∧ cs.all (·.oneCell') = true)
  (h : ∃ z : Act, (∀ Y β, Keep w Y -> FreshO w β Y -> wpRel P l.toArray Y D (R β) (fun c => c = z) (l.take n ++ l.drop (n + 2)) a) ∧
   ∀ V b W, Keep w W -> w.heap.size <= b -> b < W.heap.size -> Lain R x zc.size b W -> (∀ d ∈ D, R (some b) d (V d) W) -> Q .normal ((fill D V z).put (some p) (ptr b)) W) : (Code.region id l.toArray true).wp P Q a w := by
 obtain ⟨z, hwalk, hQ⟩ := h
 simp only [boxB, Bool.and_eq_true, decide_eq_true_eq] at hB
 obtain ⟨⟨⟨⟨⟨⟨⟨⟨⟨⟨⟨hsel, hwt⟩, hc⟩, hc2⟩, hD⟩, hg⟩, hpD⟩, hxD⟩, hpm⟩, hpl⟩, hoa⟩, hos⟩ := hB
 have hsel' := Region.noSelect_spec hsel
 have hget : ∀ i : Nat, l.toArray[i]? = l[i]? := fun i => by simp
 cases ha : l[n]? with
 | none => rw [ha] at hoa; cases hoa
 | some oa =>
 cases hs : l[n + 1]? with
 | none => rw [hs] at hos; cases hos
 | some os =>
 rw [ha] at hoa
 rw [hs] at hos
 simp only [Bool.and_eq_true, beq_iff_eq, Option.isNone_iff_eq_none] at hoa hos
 obtain ⟨⟨hopa, hdpa⟩, hga⟩ := hoa
 obtain ⟨⟨⟨⟨hops, hdps⟩, hgs⟩, hlp⟩, hlx⟩ := hos
 have hopa' : oa.op = .alloc T := by
  cases ho : oa.op with
  | alloc e => rw [ho] at hopa; simp at hopa; rw [hopa]
  | _ => rw [ho] at hopa; cases hopa
 have hops' : os.op = .store T (.tmp p) (.tmp x) := by
  cases ho : os.op with
  | store e u v =>
    rw [ho] at hops
    cases u with
    | tmp q =>
      cases v with
      | tmp y => simp at hops; rw [hops.1.1, hops.1.2, hops.2]
      | _ => cases hops
    | _ => cases hops
  | _ => rw [ho] at hops; cases hops
 have hpD' : p ∉ D := by simpa using hpD
 have hxD' : x ∈ D := by simpa using hxD
 have hn1 : n + 1 < l.length := (List.getElem?_eq_some_iff.1 hs).1
 have hmem : ∀ (i : Nat) (o : Oper), l[i]? = some o -> i ≠ n -> i ≠ n + 1 -> o ∈ l.take n ++ l.drop (n + 2) := fun i o ho h1 h2 => by
  rw [List.mem_append]
  by_cases h : i < n
  ·exact .inl (List.mem_of_getElem? (i := i) (by rw [List.getElem?_take_of_lt h]; exact ho))
  ·exact .inr (List.mem_of_getElem? (i := i - (n + 2)) (by rw [List.getElem?_drop, show n + 2 + (i - (n + 2)) = i by omega]; exact ho))
 have hsell : ∀ o ∈ l.take n ++ l.drop (n + 2), ∀ cs b, o.op ≠ .select cs b := fun o ho cs b => by
  have : o ∈ l := by
   rcases List.mem_append.1 ho with h | h
   ·exact List.mem_of_mem_take h
   ·exact List.mem_of_mem_drop h
  obtain ⟨i, hi, rfl⟩ := List.mem_iff_getElem.1 this
  exact hsel' i _ cs b (by simp [hi])
 have ends := fun Y β h1 h2 => rel_end (ops := l.toArray) (l.take n ++ l.drop (n + 2)) a hsell hc2 (hwalk Y β h1 h2)
 obtain ⟨z1, ez, hde, hz', hag, _⟩ := ends w none (Keep.refl w) (fun b hb => by cases hb)
 rw [ez] at hde hz' hag
 have hst : ∀ (i : Nat) (o : Oper), l.toArray[i]? = some o -> i ≠ n -> i ≠ n + 1 -> ∃ v, (∀ Y β, Keep w Y -> FreshO w β Y -> stepR P l.toArray Y D (R β) o z v) ∧ ∀ d, o.dst = some d -> z.tmps[d]? = some v := fun i o ho h1 h2 => by
  rw [hget] at ho
  have hm' := hmem i o ho h1 h2
  cases hod : o.dst with
  | none =>
    refine ⟨undef, fun Y β hY hf => ?_, fun d hd => by cases hd⟩
    obtain ⟨z1, ez, _, _, _, h⟩ := ends Y β hY hf
    rw [ez] at h
    obtain ⟨v, hv, _⟩ := h o hm'
    unfold stepR at hv ⊢
    split
    ·rename_i hw
     rw [if_pos hw] at hv
     obtain ⟨d, hd, _⟩ := hv
     rw [hod] at hd; cases hd
    ·rename_i hw
     rw [if_neg hw] at hv
     exact ⟨rfl, hv.2⟩
  | some d =>
    refine ⟨z.tmps.getD d undef, fun Y β hY hf => ?_, fun d' hd' => ?_⟩
    ·obtain ⟨z1, ez, _, _, _, h⟩ := ends Y β hY hf
     rw [ez] at h
     obtain ⟨v, hv, hzv⟩ := h o hm'
     have := hzv d hod
     rw [Array.getD_eq_getD_getElem?, this]; exact hv
    ·injection hd' with hd'; subst hd'
     obtain ⟨z1, ez, _, _, _, h⟩ := ends w none (Keep.refl w) (fun b hb => by cases hb)
     rw [ez] at h
     obtain ⟨v, hv, hzv⟩ := h o hm'
     have := hzv d hod
     rw [Array.getD_eq_getD_getElem?, this]; rfl
 have hpz : p < z.tmps.size := by rw [hz']; exact hpm
 refine wp_region_any hm ?_
 refine any_of_box (z := z) (X := w) (D := D) (R := R) (Z := fun b W => W.there b 0 zc.size) (S := Lain R x zc.size) (ia := n) (is := n + 1) (p := p) (oa := oa) (os := os) (O := .cells zc T)
  (by rw [hget]; exact ha) (by rw [hget]; exact hs) (by omega) hdpa hdps hga hgs hpD' (by simpa using hlp) hpz
  (fun i o ho hi => by
   rw [hget] at ho
   have hm' : o ∈ l.take (n + 1) ++ l.drop (n + 2) := by
    rw [List.mem_append]
    by_cases h : i < n + 1
    ·exact .inl (List.mem_of_getElem? (i := i) (by rw [List.getElem?_take_of_lt h]; exact ho))
    ·exact .inr (List.mem_of_getElem? (i := i - (n + 2)) (by rw [List.getElem?_drop, show n + 2 + (i - (n + 2)) = i by omega]; exact ho))
   have := List.all_eq_true.1 hpl o hm'
   simpa using this)
  (fun c W => by
   have : (Instr.alloc T true (.tuple #[])).run P W = .ok (ptr W.heap.size) (W.alloc (.cells zc T)) := by
    simp only [Instr.alloc, Sem.run_bind, hz W, Result.andThen_ok]
    simp [newVar, newRow, Value.cells]
   simp [execOp, hopa', this])
  (fun W => there_alloc W zc T) (fun b W W' hb hk h => there_kept h hb hk)
  (fun b W W' hX hb hk ⟨cs, h0, h1, h2, h3⟩ => ⟨cs, h0, there_kept h1 hb hk, range_kept h2 hb hk, hR (some b) x hxD' _ _ _ (fun b' hb' => by injection hb' with hb'; subst hb'; exact ⟨hX, hb⟩) hk h3⟩)
  hRa ?_ hsel' hwt (fun i j oi oj d h1 h2 => dsts_inj l _ hc i j oi oj d (by rw [<- hget]; exact h1) (by rw [<- hget]; exact h2)) (fun i oi d h1 h2 => by rw [hz']; exact dsts_in l _ hc i oi d (by rw [<- hget]; exact h1) h2)
  (fun d hd => by
   have := List.all_eq_true.1 hD d hd
   simp [dsts] at this
   obtain ⟨o, ho, hod⟩ := this
   obtain ⟨i, hi, rfl⟩ := List.mem_iff_getElem.1 ho
   exact ⟨i, _, by simp [hi], hod⟩)
  hR (guardsP_spec hg) hst hQ _ _ a _ none (by simp) ?_ ((Quiet.refl w).drew).keep hde.symm hz'.symm (fun b hb => by cases hb) (fun _ => ⟨rfl, getD_replicate_false _ _⟩) (fun hl => by rw [getD_replicate_false] at hl; cases hl) (fun t ht => ?_) (fun i o d _ _ _ hl => by rw [getD_replicate_false] at hl; cases hl)
 ·intro V b W hk h1 h2 hth hdeps
  have hRx := hdeps x (by simpa using hlx) hxD'
  obtain ⟨cs, hv, hcs, h1c⟩ := hx b _ W hRx
  rw [hv] at hRx
  have hrun : (Instr.storeAt T (ptr b) (.agg cs)).run P W = .ok () (W.setCells b 0 cs.toList) := run_storeAt_mid W b 0 T cs (by rw [hcs]; exact hth) (by rw [hcs]; exact hi) h1c
  have e1 : ((fill D V z).put (some p) (ptr b)).eval (.tmp p) = ptr b := by
   simp only [Act.eval, Array.getD_eq_getD_getElem?]
   rw [put_get, if_pos ⟨rfl, by rw [fill_size]; exact hpz⟩]; rfl
  have hxz : x < z.tmps.size := by
   have := List.all_eq_true.1 hD x hxD'
   simp [dsts] at this
   obtain ⟨o, ho, hod⟩ := this
   obtain ⟨i, hi, rfl⟩ := List.mem_iff_getElem.1 ho
   rw [hz']; exact dsts_in l _ hc i _ x (by simp [hi]) hod
  have e2 : ((fill D V z).put (some p) (ptr b)).eval (.tmp x) = V x := by
   simp only [Act.eval, Array.getD_eq_getD_getElem?]
   have hne : ¬ p = x := fun h => hpD' (h ▸ hxD')
   rw [put_get, if_neg (fun h => hne h.1), fill_get, if_pos ⟨hxD', hxz⟩]; rfl
  refine ⟨W.setCells b 0 cs.toList, ?_, keep_setCells h1 _ _ hk, by rw [setCells_size]; exact Nat.le_refl _, ⟨cs, hcs, World.there_setCells hth _ _ _, World.rangeAt_setCells_same W b 0 _ (by rw [show cs.toList.length = zc.size by simpa using hcs]; exact hth), hRs x hxD' _ b _ W hk h1 h2 hRx⟩, fun d hd v hv => hRs d hd v b _ W hk h1 h2 hv⟩
  simp [execOp, hops', e1, e2, hv, hrun]
 ·unfold left
  rw [List.countP_eq_length.2 (fun i hi => by
   have := List.mem_range.1 hi
   simp at this
   simp [this])]
  simp
 ·refine (hag t fun h => ?_).symm
  obtain ⟨o, ho, hod⟩ := List.mem_filterMap.1 h
  have : o ∈ l := by
   rcases List.mem_append.1 ho with h | h
   ·exact List.mem_of_mem_take h
   ·exact List.mem_of_mem_drop h
  obtain ⟨i, hi, rfl⟩ := List.mem_iff_getElem.1 this
  exact ht i _ (by simp [hi]) hod
theorem pick_in {D : List Tmp} {o : Oper} {t : Tmp} (h : depsB ops D o [t] = true) (V : Tmp -> Value) (a : Act) : pickV D V a (.tmp t) = V t := by
 simp only [depsB, List.all_cons, List.all_nil, Bool.and_true, Bool.and_eq_true] at h
 simp only [pickV]
 rw [if_pos h.2]
theorem rel_move {X : World} {D : List Tmp} {R : Tmp -> Value -> World -> Prop} {Q : Act -> Prop} {a : Act} {o : Oper} {r : List Oper} (d t : Tmp) (hd : o.dst = some d) (hop : o.op = .move (.tmp t) ∨ o.op = .assign (.tmp t))
  (hB : (D.contains d && noSel o && Region.wanted o (yielded ops a.tmps) && D.all (fun d => decide (d < a.tmps.size)) && depsB ops D o [t]) = true) (h : ∀ v W, Keep X W -> R t v W -> R d v W)
  (hr : wpRel P ops X D R Q r (a.put o.dst undef)) : wpRel P ops X D R Q (o :: r) a := by
 refine rel_opR d [t] hd hB (fun V w hk hV => ⟨V t, w, ?_, Keep.refl w, h _ _ hk (hV t List.mem_cons_self)⟩) hr
 simp only [Bool.and_eq_true] at hB
 have e := pick_in hB.2 V a
 rcases hop with hop | hop <;> simp [execOp, hop, e]
theorem rel_ext {X : World} {D : List Tmp} {R : Tmp -> Value -> World -> Prop} {Q : Act -> Prop} {a : Act} {o : Oper} {r : List Oper} (d t : Tmp) (k : Nat) (hd : o.dst = some d) (hop : o.op = .extract (.tmp t) k)
  (hB : (D.contains d && noSel o && Region.wanted o (yielded ops a.tmps) && D.all (fun d => decide (d < a.tmps.size)) && depsB ops D o [t]) = true) (h : ∀ v W, Keep X W -> R t v W -> ∃ (vs : Array Value) (u : Value), v = .tuple vs ∧ vs[k]? = some u ∧ R d u W)
  (hr : wpRel P ops X D R Q r (a.put o.dst undef)) : wpRel P ops X D R Q (o :: r) a := by
 refine rel_opR d [t] hd hB (fun V w hk hV => ?_) hr
 obtain ⟨vs, u, e1, e2, hR⟩ := h _ _ hk (hV t List.mem_cons_self)
 refine ⟨u, w, ?_, Keep.refl w, hR⟩
 simp only [Bool.and_eq_true] at hB
 have e := pick_in hB.2 V a
 simp [execOp, hop, e, e1, Instr.extract, e2]
theorem rel_extq {X : World} {D : List Tmp} {R : Tmp -> Value -> World -> Prop} {Q : Act -> Prop} {a : Act} {o : Oper} {r : List Oper} (v : Value) (d t : Tmp) (k : Nat) (hd : o.dst = some d) (hop : o.op = .extract (.tmp t) k)
  (hB : (!D.contains d && noSel o && Region.wanted o (yielded ops a.tmps) && D.all (fun d => decide (d < a.tmps.size)) && depsB ops D o [t]) = true) (h : ∀ u W, Keep X W -> R t u W -> ∃ vs : Array Value, u = .tuple vs ∧ vs[k]? = some v)
  (hr : wpRel P ops X D R Q r (a.put o.dst v)) : wpRel P ops X D R Q (o :: r) a := by
 refine rel_opq v d [t] hd hB (fun V w hk hV => ?_) hr
 obtain ⟨vs, e1, e2⟩ := h _ _ hk (hV t List.mem_cons_self)
 simp only [Bool.and_eq_true] at hB
 have e := pick_in hB.2 V a
 simp [execOp, hop, e, e1, Instr.extract, e2]
end
end Rel
end Go.Proofs.YtaciogcpghbhjaaGreat
