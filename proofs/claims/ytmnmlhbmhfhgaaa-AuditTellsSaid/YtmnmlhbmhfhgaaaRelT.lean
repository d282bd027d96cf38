/- A region as XRel's, whose last operations come one behind the other behind all of these, and may turn memory. Conditions: the program follows mixed orders. -/
import Derived.Test.YtmnmlhbmhfhgaaaRel
namespace Go.Proofs.Ytmnmlhbmhfhgaaa
set_option linter.unusedVariables false
open Go.ChangeShapes Go.WideShapes Go.ChangeAt Go.RowKit
namespace Rel
section
variable {P : Program} {ops : Array Oper}
/-- Of the first n: whoever looks at a slot that one of them writes comes behind him; edges go back. -/
def waitsN (md : Region.Mode) (ops : Array Oper) (n : Nat) : Bool :=
  (List.range n).all fun j => match ops[j]? with
    | none => true
    | some o => (o.after.all fun e => !Region.binds md e || decide (e.on < j)) &&
      ((List.range n).all fun i => match (ops[i]?).bind (·.dst) with
        | none => true
        | some d => !(o.looksAt ops).contains d || o.after.toList.any fun e => Region.binds md e && e.on == i)
theorem waitsN_back {md : Region.Mode} {n : Nat} (h : waitsN md ops n = true) {j : Nat} {o : Oper} (hj : j < n) (ho : ops[j]? = some o) : (∀ e ∈ o.after, Region.binds md e = true → e.on < j) ∧
    ∀ i oi d, i < n → ops[i]? = some oi → oi.dst = some d → d ∈ o.looksAt ops → ∃ e ∈ o.after, Region.binds md e = true ∧ e.on = i := by
  have h1 := List.all_eq_true.1 h j (List.mem_range.2 hj)
  rw [ho] at h1
  simp only [Bool.and_eq_true] at h1
  obtain ⟨h1, h2⟩ := h1
  refine ⟨fun e he hb => ?_, fun i oi d hin hoi hd hl => ?_⟩
  · have := Array.all_eq_true_iff_forall_mem.1 h1 e he
    simp [hb] at this
    exact this
  · have := List.all_eq_true.1 h2 i (List.mem_range.2 hin)
    rw [hoi] at this
    simp only [Option.bind_some, hd, Bool.or_eq_true, Bool.not_eq_true', List.any_eq_true, Bool.and_eq_true, beq_iff_eq] at this
    rcases this with h | ⟨e, he, h⟩
    · simp at h; exact absurd hl h
    · exact ⟨e, by simpa using he, h⟩
theorem head_listed {md : Region.Mode} {n : Nat} (h : waitsN md ops n = true) {listed : Array Bool} (hn : n ≤ ops.size) (hsz : listed.size = ops.size) (hr : Region.ready md ops listed = []) : ∀ i, i < n → listed.getD i false = true := by
  intro i
  induction i using Nat.strongRecOn with
  | _ i ih =>
    intro hi
    cases hl : listed.getD i false
    · exfalso
      have hlt : listed.getD i true = false := getD_in (by omega) hl
      obtain ⟨o, ho⟩ : ∃ o, ops[i]? = some o := ⟨ops[i]'(by omega), Array.getElem?_eq_getElem _⟩
      have : i ∈ Region.ready md ops listed := mem_ready.2 ⟨hlt, o, ho, fun e he hb => by
        have := (waitsN_back h hi ho).1 e he hb
        exact ih e.on this (by omega)⟩
      rw [hr] at this
      cases this
    · rfl
theorem left_one {n : Nat} {listed : Array Bool} (h : 0 < left n listed) : ∃ i, i < n ∧ listed.getD i true = false := by
  unfold left at h
  rw [List.countP_pos_iff] at h
  obtain ⟨i, hi, h⟩ := h
  exact ⟨i, List.mem_range.1 hi, by simpa using h⟩
/-- Whatever order is drawn, the tail behind. -/
theorem any_of_facts_tail {md : Region.Mode} {X : World} {D : List Tmp} {R : Tmp → Value → World → Prop} {Q : Exit → Act → World → Prop} {z : Act} {n g : Nat} (hsel : ∀ (j : Nat) (o : Oper) cs b, ops[j]? = some o → o.op ≠ .select cs b) (hw : waitsN md ops n = true)
    (hs : Region.sinkB md ops n = true) (hc : Region.chainB md ops n = true) (hn : n < ops.size)
    (hinj : ∀ (i j : Nat) (oi oj : Oper) (d : Tmp), i < n → j < n → ops[i]? = some oi → ops[j]? = some oj → oi.dst = some d → oj.dst = some d → i = j) (hin : ∀ (i : Nat) (oi : Oper) (d : Tmp), i < n → ops[i]? = some oi → oi.dst = some d → d < z.tmps.size) (hD : ∀ d ∈ D, ∃ (i : Nat) (o : Oper), i < n ∧ ops[i]? = some o ∧ o.dst = some d)
    (hR : ∀ d ∈ D, ∀ v w w', Keep w w' → R d v w → R d v w')
    (hG : ∀ (i : Nat) (o : Oper) (g : Nat) (want : Bool), i < n → ops[i]? = some o → o.guard = some (g, want) → ∀ t, (ops[g]?).bind (·.dst) = some t → t ∉ D)
    (hst : ∀ (i : Nat) (o : Oper), i < n → ops[i]? = some o → ∃ v, stepR P ops X D R o z v ∧ ∀ d, o.dst = some d → z.tmps[d]? = some v)
    (hQ : ∀ V w t, HeadInv md ops n t → (∀ i, i < n → t.getD i false = true) → Keep X w → (∀ d ∈ D, R d (V d) w) → wpAny P md ops Q g t (fill D V z) w) :
    ∀ (fuel : Nat) (listed : Array Bool) (a : Act) (w : World), HeadInv md ops n listed → left n listed = fuel → Keep X w → a.defers = z.defers → a.tmps.size = z.tmps.size →
      (∀ t, (∀ (i : Nat) (o : Oper), i < n → ops[i]? = some o → o.dst ≠ some t) → a.tmps[t]? = z.tmps[t]?) →
      (∀ (i : Nat) (o : Oper) (d : Tmp), i < n → ops[i]? = some o → o.dst = some d → listed.getD i false = true → if d ∈ D then R d (a.tmps.getD d undef) w else a.tmps[d]? = z.tmps[d]?) →
      wpAny P md ops Q (fuel + g) listed a w := by
  have fin : ∀ (listed : Array Bool) (a : Act) (w : World), HeadInv md ops n listed → (∀ i, i < n → listed.getD i false = true) → Keep X w → a.defers = z.defers → a.tmps.size = z.tmps.size →
      (∀ t, (∀ (i : Nat) (o : Oper), i < n → ops[i]? = some o → o.dst ≠ some t) → a.tmps[t]? = z.tmps[t]?) →
      (∀ (i : Nat) (o : Oper) (d : Tmp), i < n → ops[i]? = some o → o.dst = some d → listed.getD i false = true → if d ∈ D then R d (a.tmps.getD d undef) w else a.tmps[d]? = z.tmps[d]?) → wpAny P md ops Q g listed a w := by
    intro listed a w inv hall hk hde hz h1 h2
    have key : fill D (fun t => a.tmps.getD t undef) z = a := by
      have e1 : (fill D (fun t => a.tmps.getD t undef) z).tmps = a.tmps := by
        apply Array.ext_getElem?
        intro t
        rw [fill_get]
        by_cases hD' : t ∈ D
        · obtain ⟨i, o, hin', ho, hd⟩ := hD t hD'
          have hlt := hin i o t hin' ho hd
          rw [if_pos ⟨hD', hlt⟩]
          have hlt' : t < a.tmps.size := by rw [hz]; exact hlt
          simp [hlt']
        · rw [if_neg (fun h => hD' h.1)]
          by_cases hex : ∃ (i : Nat) (o : Oper), i < n ∧ ops[i]? = some o ∧ o.dst = some t
          · obtain ⟨i, o, hin', ho, hd⟩ := hex
            have := h2 i o t hin' ho hd (hall i hin')
            rw [if_neg hD'] at this
            exact this.symm
          · exact (h1 t fun i o hin' ho hd => hex ⟨i, o, hin', ho, hd⟩).symm
      have e2 := (fill_defers D (fun t => a.tmps.getD t undef) z).trans hde.symm
      cases hf : fill D (fun t => a.tmps.getD t undef) z with
      | mk t1 d1 =>
        cases a with
        | mk t2 d2 =>
          rw [hf] at e1 e2
          simp only at e1 e2
          rw [e1, e2]
    have := hQ (fun t => a.tmps.getD t undef) w listed inv hall hk fun d hd => by
      obtain ⟨i, o, hin', ho, hod⟩ := hD d hd
      have := h2 i o d hin' ho hod (hall i hin')
      rwa [if_pos hd] at this
    rwa [key] at this
  intro fuel
  induction fuel with
  | zero =>
    intro listed a w inv hl hk hde hz h1 h2
    have hall : ∀ i, i < n → listed.getD i false = true := fun i hi => by
      have hi' : i < listed.size := by have := inv.size; omega
      cases h : listed.getD i true
      · have : 0 < left n listed := by
          unfold left
          rw [List.countP_pos_iff]
          exact ⟨i, List.mem_range.2 hi, by rw [h]; rfl⟩
        omega
      · simp [hi'] at h ⊢
        exact h
    rw [Nat.zero_add]
    exact fin listed a w inv hall hk hde hz h1 h2
  | succ fuel ih =>
    intro listed a w inv hl hk hde hz h1 h2
    have hsz := inv.size
    rw [show fuel + 1 + g = (fuel + g) + 1 by omega]
    obtain ⟨i0, hi0, hun0⟩ := left_one (n := n) (listed := listed) (by omega)
    refine ⟨fun hr => ?_, fun i hi => ?_⟩
    · have := head_listed hw (Nat.le_of_lt hn) hsz hr i0 hi0
      rw [getD_both hun0] at this; cases this
    have hin0 : i < n := Nat.lt_of_not_le fun h => tail_waits hs hc hn inv _ i0 rfl hi0 hun0 i h hi
    obtain ⟨hun, o, ho, hall⟩ := mem_ready.1 hi
    have hlt : i < ops.size := (Array.getElem?_eq_some_iff.1 ho).1
    obtain ⟨v, hv, hzv⟩ := hst i o hin0 ho
    have hlook : ∀ t ∈ o.looksAt ops, (fill D (fun t => a.tmps.getD t undef) z).tmps[t]? = a.tmps[t]? ∧ (t ∈ D → R t (a.tmps.getD t undef) w) := fun t ht => by
      rw [fill_get]
      by_cases hex : ∃ (k : Nat) (ok : Oper), k < n ∧ ops[k]? = some ok ∧ ok.dst = some t
      · obtain ⟨k, ok, hkn, hok, hkd⟩ := hex
        obtain ⟨e, he, hb, hon⟩ := (waitsN_back hw hin0 ho).2 k ok t hkn hok hkd ht
        have hkl := hall e he hb
        rw [hon] at hkl
        have h3 := h2 k ok t hkn hok hkd hkl
        by_cases hD' : t ∈ D
        · rw [if_pos hD'] at h3
          have hlt' : t < a.tmps.size := by rw [hz]; exact hin k ok t hkn hok hkd
          rw [if_pos ⟨hD', hin k ok t hkn hok hkd⟩]
          exact ⟨by simp [hlt'], fun _ => h3⟩
        · rw [if_neg hD'] at h3
          rw [if_neg (fun h => hD' h.1)]
          exact ⟨h3.symm, fun h => absurd h hD'⟩
      · have hD' : t ∉ D := fun h => by
          obtain ⟨k, ok, hkn, hok, hkd⟩ := hD t h
          exact hex ⟨k, ok, hkn, hok, hkd⟩
        rw [if_neg (fun h => hD' h.1)]
        exact ⟨(h1 t fun k ok hkn hok hkd => hex ⟨k, ok, hkn, hok, hkd⟩).symm, fun h => absurd h hD'⟩
    have hs' : ∀ cs b, o.op ≠ .select cs b := fun cs b => hsel i o cs b ho
    obtain ⟨V, hV⟩ : ∃ V : Tmp → Value, V = fun t => a.tmps.getD t undef := ⟨_, rfl⟩
    rw [← hV] at hlook
    have hag : ∀ t ∈ o.looksAt ops, (fill D V z).tmps[t]? = a.tmps[t]? := fun t ht => (hlook t ht).1
    have hwt : Region.wanted o (yielded ops z.tmps) = Region.wanted o (yielded ops a.tmps) := by
      rw [← wanted_agree o hag]
      refine wanted_guard fun g want hgd t ht => ?_
      rw [fill_get, if_neg (fun h => hG i o g want hin0 ho hgd t ht h.1)]
    have hdeps : ∀ t ∈ o.looksAt ops, t ∈ D → R t (V t) w := fun t ht hD' => by
      have := (hlook t ht).2 hD'
      rw [hV]; exact this
    have next : ∀ v' w', Keep w w' → (∀ d, o.dst = some d → if d ∈ D then R d v' w' else v' = v) → wpAny P md ops Q (fuel + g) (listed.setIfInBounds i true) (a.put o.dst v') w' := fun v' w' hkw hval => by
      refine ih _ _ _ (inv.set hi hin0) ?_ (hk.trans hkw) (by rw [put_defers]; exact hde) (by rw [put_size]; exact hz) ?_ ?_
      · have := left_set hin0 hun (show i < listed.size by omega)
        omega
      · intro t ht
        cases hod : o.dst with
        | none => exact h1 t ht
        | some d =>
          have : d ≠ t := fun e => ht i o hin0 ho (e ▸ hod)
          rw [put_get, if_neg (fun h => this h.1)]
          exact h1 t ht
      · intro k ok d hkn hok hkd hkl
        by_cases hki : i = k
        · subst hki
          obtain rfl : o = ok := Option.some.inj (ho.symm.trans hok)
          have hlt' : d < a.tmps.size := by rw [hz]; exact hin i o d hin0 ho hkd
          have hval' := hval d hkd
          have hg : (a.put o.dst v').tmps[d]? = some v' := by rw [hkd, put_get, if_pos ⟨rfl, hlt'⟩]
          split
          · rename_i hD'
            rw [if_pos hD'] at hval'
            rw [Array.getD_eq_getD_getElem?, hg]; exact hval'
          · rename_i hD'
            rw [if_neg hD'] at hval'
            rw [hg, hval', hzv d hkd]
        · have hkl' : listed.getD k false = true := by rw [getD_set_ne false hki] at hkl; exact hkl
          have h3 := h2 k ok d hkn hok hkd hkl'
          have hne : ∀ d', o.dst = some d' → d' ≠ d := fun d' hd' e => hki (hinj i k o ok d hin0 hkn ho hok (e ▸ hd') hkd)
          have hg : (a.put o.dst v').tmps[d]? = a.tmps[d]? := by
            cases hod : o.dst with
            | none => rfl
            | some d' => rw [put_get, if_neg (fun h => hne d' hod h.1)]
          split
          · rename_i hD'
            rw [if_pos hD'] at h3
            rw [Array.getD_eq_getD_getElem?, hg, ← Array.getD_eq_getD_getElem?]
            exact hR d hD' _ _ _ hkw h3
          · rename_i hD'
            rw [if_neg hD'] at h3
            rw [hg]; exact h3
    unfold wpOp
    simp only [ho]
    unfold stepR at hv
    rw [hwt] at hv
    split
    · rename_i hwd
      rw [if_pos hwd] at hv
      obtain ⟨d, hod, hv⟩ := hv
      refine .inl ?_
      split at hv
      · rename_i hD'
        exact relAt_wp (fun v' w' hkw hRv => next v' w' hkw fun d' hd' => by
          obtain rfl : d = d' := Option.some.inj (hod.symm.trans hd')
          rw [if_pos hD']; exact hRv) (relAt_agree hs' hag (hv V w hk hdeps))
      · rename_i hD'
        have hq := hv V w hk hdeps
        have hq' : o.quietAt P a (Keep w) w v := by
          unfold Oper.quietAt at *
          rwa [← exec_agree o hs' hag]
        exact quiet_wp (fun _ h => h) (fun w' hkw => next v w' hkw fun d' hd' => by
          obtain rfl : d = d' := Option.some.inj (hod.symm.trans hd')
          rw [if_neg hD']) hq'
    · rename_i hwd
      rw [if_neg hwd] at hv
      exact next undef w (Keep.refl w) fun d' hd' => by rw [if_neg (hv.2 d' hd')]; exact hv.1.symm
/-- The head's slots; the tail comes one behind the other. -/
def relTailB (D : List Tmp) (m n : Nat) (l : List Oper) : Bool :=
  Region.noSelect l.toArray && waitsN .any l.toArray n && chk l.toArray m (l.take n) && D.all (fun d => (dsts (l.take n)).contains d) && guards D l.toArray &&
  decide (n < l.length) && Region.sinkB .any l.toArray n && Region.chainB .any l.toArray n && Region.seqB .any l.toArray (l.length - n) n ((List.range l.length).map fun i => decide (i < n)).toArray
theorem take_get {l : List Oper} {n i : Nat} {o : Oper} (h1 : i < n) (h2 : l.toArray[i]? = some o) : (l.take n)[i]? = some o := by
  rw [List.getElem?_take_of_lt h1]; simpa using h2
/-- The region's law: the walk of the first n operations in the order of the text, then, in whatever world, with whatever values of those relations, the others one behind the other. -/
theorem wp_region_rel_tail {id : Nat} {Q : Exit → Act → World → Prop} {a : Act} {w : World} {l : List Oper} (n : Nat) (D : List Tmp) (R : Tmp → Value → World → Prop) (hm : P.follows .mixedOrders = true) (hB : relTailB D a.tmps.size n l = true)
    (hR : ∀ d ∈ D, ∀ v w w', Keep w w' → R d v w → R d v w')
    (h : wpRel P l.toArray w D R (fun z => ∀ V w', Keep w w' → (∀ d ∈ D, R d (V d) w') → wpList P l.toArray Q (l.drop n) (fill D V z) w') (l.take n) a) : (Code.region id l.toArray true).wp P Q a w := by
  simp only [relTailB, Bool.and_eq_true, decide_eq_true_eq] at hB
  obtain ⟨⟨⟨⟨⟨⟨⟨⟨hsel, hwt⟩, hc⟩, hD⟩, hg⟩, hn⟩, hs⟩, hch⟩, hseq⟩ := hB
  have hsel' := Region.noSelect_spec hsel
  have hn' : n < l.toArray.size := by simpa using hn
  obtain ⟨z, hQ, hde, hz, hag, hst⟩ := rel_end (ops := l.toArray) (l.take n) a (fun o ho cs b => by
    obtain ⟨i, hi, rfl⟩ := List.mem_iff_getElem.1 (List.mem_of_mem_take ho)
    exact hsel' i _ cs b (by simp [hi])) hc h
  have inv0 : HeadInv .any l.toArray n (Array.replicate l.toArray.size false) :=
    ⟨by simp, fun j oj _ hl => (by rw [getD_replicate_false] at hl; cases hl), fun t _ ht => getD_in (by simpa using ht) (getD_replicate_false _ _)⟩
  refine wp_region_any hm ?_
  have hdl : (l.drop n).length = l.length - n := by simp
  have := any_of_facts_tail (z := z) (X := w) (D := D) (R := R) (Q := Q) (n := n) (g := l.length - n) hsel' hwt hs hch hn'
    (fun i j oi oj d hi hj h1 h2 => dsts_inj (l.take n) _ hc i j oi oj d (take_get hi h1) (take_get hj h2))
    (fun i oi d hi h1 h2 => by rw [hz]; exact dsts_in (l.take n) _ hc i oi d (take_get hi h1) h2)
    (fun d hd => by
      have := List.all_eq_true.1 hD d hd
      have hm : d ∈ dsts (l.take n) := by simpa using this
      obtain ⟨o, ho, hod⟩ := List.mem_filterMap.1 hm
      obtain ⟨i, hi, rfl⟩ := List.mem_iff_getElem.1 ho
      have hi2 : i < n := by have := hi; simp at this; omega
      have hi3 : i < l.length := by have := hi; simp at this; omega
      exact ⟨i, _, hi2, by simp [hi3], hod⟩)
    hR (fun i o g want _ ho hgd t ht hD' => by
      have := Array.all_eq_true_iff_forall_mem.1 hg o (Array.mem_of_getElem? ho)
      rw [hgd] at this
      simp only [ht] at this
      simp at this
      exact this hD')
    (fun i o hi ho => hst o (List.mem_of_getElem? (take_get hi ho)))
    (fun V w' t inv hall hk hRV => by
      have et : t = ((List.range l.length).map fun i => decide (i < n)).toArray := by
        apply Array.ext
        · rw [inv.size]; simp
        · intro i h1 h2
          have hl : i < l.length := by have := inv.size; simp at this; omega
          simp only [List.getElem_toArray, List.getElem_map, List.getElem_range]
          by_cases hin : i < n
          · have := hall i hin
            simp [h1] at this
            simp [hin, this]
          · have := inv.tail i (by omega) (by simpa using hl)
            simp [h1] at this
            simp [hin, this]
      have hw2 := wpAny_of_seq (P := P) (md := .any) (Q' := Q) (l.drop n) n t (fill D V z) w' (fun j => by simp [List.getElem?_drop]) (by rw [hdl, et]; exact hseq) (hQ V w' hk hRV)
      rwa [hdl] at hw2)
    (left n (Array.replicate l.toArray.size false)) _ a w.drew inv0 rfl ((Quiet.refl w).drew).keep hde.symm hz.symm (fun t ht => (hag t fun h => by
      obtain ⟨o, ho, hod⟩ := List.mem_filterMap.1 h
      obtain ⟨i, hi, rfl⟩ := List.mem_iff_getElem.1 ho
      have hi2 : i < n := by have := hi; simp at this; omega
      have hi3 : i < l.length := by have := hi; simp at this; omega
      exact ht i (l.take n)[i] hi2 (by simp [hi3]) hod).symm) (fun i o d _ _ _ hl => by rw [getD_replicate_false] at hl; cases hl)
  have e : left n (Array.replicate l.toArray.size false) = n := by
    unfold left
    rw [List.countP_eq_length.2 (fun i hi => by
      have := List.mem_range.1 hi
      have h2 : i < l.length := by omega
      simp [h2])]
    simp
  rw [e, show n + (l.length - n) = l.toArray.size by simp; omega] at this
  exact this
end
end Rel
end Go.Proofs.Ytmnmlhbmhfhgaaa
