/- Of these texts: Row2. Conditions: as each part says. -/
import Derived.Test.YtaciogcpghbhjaaGreatZTRow
import Derived.Laws.IdiomCopy
import Derived.Deep.AppendLies
/- Rows of the call's own, written: one element anew, cut short, cleared. Conditions: none. -/
namespace Go.Proofs.YtaciogcpghbhjaaGreat
open Go.ChangeShapes Go.WideShapes Go.ChangeAt Go.RowKit
theorem keep_drew {a b : World} (h : Keep a b) : Keep a b.drew := h.trans ((Quiet.refl b).drew).keep
theorem keep_set {a b : World} (h : Keep a b) (p : Addr) (hp : a.heap.size <= p.block) (v : Value) : Keep a (b.setCell p v) := Below.setCell h hp v
theorem keep_below {a b c : World} {n : Nat} (h : Keep a b) (k : Below n b c) (hn : a.heap.size <= n) : Keep a c := Below.trans h (Below.mono k hn)
theorem own_keep {w w' : World} {base : Nat} {e : TypeId} {k : Nat} {v : Value} {n : Nat} {xs : List Value} (h : w.ownsRow base e k v n xs) (hk : Keep w w') : w'.ownsRow base e k v n xs :=
 h.kept (row := none) ⟨hk.os, hk.tape, hk.output, hk.size, fun i hi _ => hk.block i hi⟩ (by cases v.ownBlock <;> simp)
theorem own_cut {w : World} {base : Nat} {e : TypeId} {k g cap n : Nat} {xs : List Value} (h : w.ownsRow base e k (.slice (some ⟨g, 0, none⟩) n cap) n xs) (i : Nat) (hi : i <= n) : w.ownsRow base e k (.slice (some ⟨g, 0, none⟩) i cap) i (xs.take (i * k)) := by
 have hm : i * k <= n * k := Nat.mul_le_mul_right k hi
 rcases h.2 with ⟨h', _⟩ | ⟨g', cap', cur, h', hb, hg, hnc, hcm, hcs, htake⟩
 ·simp at h'
 ·simp only [Value.slice.injEq, Option.some.injEq, Addr.mk.injEq, and_true, true_and] at h'
  obtain ⟨rfl, rfl⟩ := h'
  refine ⟨by rw [List.length_take, h.1]; omega, .inr ⟨g, cap, cur, rfl, hb, hg, by omega, hcm, hcs, ?_⟩⟩
  rw [<- htake, List.take_take]
  congr 1
  omega
theorem own_setCells {base : Nat} {e : TypeId} {k g cap n : Nat} : ∀ (vs : List Value) (o : Nat) {w : World} {xs : List Value}, w.ownsRow base e k (.slice (some ⟨g, 0, none⟩) n cap) n xs -> n * k <= o -> (w.setCells g o vs).ownsRow base e k (.slice (some ⟨g, 0, none⟩) n cap) n xs
 | [], _, _, _, h, _ => h
 | v :: r, o, w, xs, h, ho => by
   rw [World.setCells]
   refine own_setCells r (o + 1) ?_ (by omega)
   have := (h.stored o v).1
   rwa [List.set_eq_of_length_le (by rw [h.1]; exact ho)] at this
theorem below_setCells {B g : Nat} (hg : B <= g) : ∀ (vs : List Value) (o : Nat) {a w : World}, Below B a w -> Below B a (w.setCells g o vs)
 | [], _, _, _, h => h
 | v :: r, o, _, w, h => by
   rw [World.setCells]
   exact below_setCells hg r (o + 1) (h.setCell (show B <= (⟨g, o, none⟩ : Addr).block from hg) v)
section
variable {P : Program}
theorem run_clear_rows (w : World) (t e ty : TypeId) (z : Value) (k : Nat) (ht : P.underlying t = some (.slice e)) (hv : ∀ w, (zeroValue e).run P w = .ok z w) (hz : z.cells.size = k) (h1 : ∀ v ∈ z.cells.toList, v.oneCell' = true) (b o n c : Nat) (hn : 0 < n) (hk : 0 < k)
  (hc : ∀ j, j < n * k -> (w.cell? ⟨b, o + j, none⟩).isSome = true) (hf : ∀ j, j < n * k -> w.frozen? ⟨b, o + j, none⟩ = false) :
  (Builtin.clear_ #[t] ty #[.slice (some ⟨b, o, none⟩) n c]).run P w = .ok (.tuple #[]) (w.setCells b o (Builtin.zeroCells z.cells n).toList) := by
 have hl : (Builtin.zeroCells z.cells n).toList.length = n * k := by
  simp [Builtin.zeroCells, hz]
  try rw [Nat.mul_comm]
 have hm : ∀ v ∈ (Builtin.zeroCells z.cells n).toList, v.oneCell' = true := by
  intro v hv'
  simp only [Builtin.zeroCells, Array.toList_map, List.mem_map] at hv'
  obtain ⟨i, _, rfl⟩ := hv'
  have hi : i % z.cells.size < z.cells.size := Nat.mod_lt _ (by omega)
  apply h1
  rw [getElem!_pos z.cells _ hi]
  simp
 have hst := run_storeCells_cells (P := P) b o (Builtin.zeroCells z.cells n).toList 0 w (by rw [hl]; simpa using hc) (by rw [hl]; simpa using hf) hm
 simp only [Nat.add_zero] at hst
 obtain ⟨m, rfl⟩ : ∃ m, n = m + 1 := ⟨n - 1, by omega⟩
 simp [Builtin.clear_, run_underlying ht, hv, hst]
end
theorem flat_set (zs : List (Int × Int)) (i : Nat) (x : Int × Int) : ((flat encP zs).set (i * 2) (.int .i64 x.1)).set (i * 2 + 1) (.int .i64 x.2) = flat encP (zs.set i x) := by
 induction zs generalizing i with
 | nil => simp [flat]
 | cons y zs ih =>
   cases i with
   | zero => simp [flat_cons, encP]
   | succ i =>
     rw [List.set_cons_succ, flat_cons, flat_cons, <- ih i]
     simp only [encP, Nat.add_mul, Nat.one_mul, List.cons_append, List.nil_append]
     rfl
theorem flat_set_snd (zs : List (Int × Int)) (i : Nat) (x : Int) : (flat encP zs).set (i * 2 + 1) (.int .i64 x) = flat encP (zs.set i ((zs.getD i (0, 0)).1, x)) := by
 induction zs generalizing i with
 | nil => simp [flat]
 | cons y zs ih =>
   cases i with
   | zero => simp [flat_cons, encP]
   | succ i =>
     rw [List.set_cons_succ, flat_cons, flat_cons, List.getD_cons_succ, <- ih i]
     simp only [encP, Nat.add_mul, Nat.one_mul, List.cons_append, List.nil_append]
     rfl
theorem own_pair {w : World} {base : Nat} {e : TypeId} {g cap n : Nat} {zs : List (Int × Int)} (h : w.ownsRow base e 2 (.slice (some ⟨g, 0, none⟩) n cap) n (flat encP zs)) (j : Nat) (hj : j < n) :
  (w.cell? ⟨g, j * 2, none⟩ = some (.int .i64 (zs.getD j (0, 0)).1) ∧ w.cell? ⟨g, j * 2 + 1, none⟩ = some (.int .i64 (zs.getD j (0, 0)).2)) ∧ w.frozen? ⟨g, j * 2, none⟩ = false ∧ w.frozen? ⟨g, j * 2 + 1, none⟩ = false := by
 have hl := Row.length_own encP_len h (by omega)
 have hj' : j < zs.length := by omega
 have e : zs.getD j (0, 0) = zs[j] := by simp [List.getD, List.getElem?_eq_getElem hj']
 rw [e]
 have a0 := flat_get encP_len zs j hj' 0 (by omega)
 have a1 := flat_get encP_len zs j hj' 1 (by omega)
 refine ⟨⟨?_, ?_⟩, h.frozenAt _, h.frozenAt _⟩
 ·rw [h.cellAt _ (by omega)]; simpa [encP] using a0
 ·rw [h.cellAt _ (by omega)]; simpa [encP] using a1
theorem own_write {w : World} {base : Nat} {e : TypeId} {g cap n : Nat} {zs : List (Int × Int)} (h : w.ownsRow base e 2 (.slice (some ⟨g, 0, none⟩) n cap) n (flat encP zs)) (i : Nat) (x : Int × Int) :
  ((w.setCell ⟨g, i * 2, none⟩ (.int .i64 x.1)).setCell ⟨g, i * 2 + 1, none⟩ (.int .i64 x.2)).ownsRow base e 2 (.slice (some ⟨g, 0, none⟩) n cap) n (flat encP (zs.set i x)) := by
 have := ((h.stored (i * 2) (.int .i64 x.1)).1.stored (i * 2 + 1) (.int .i64 x.2)).1
 rwa [flat_set] at this
theorem own_write_snd {w : World} {base : Nat} {e : TypeId} {g cap n : Nat} {zs : List (Int × Int)} (h : w.ownsRow base e 2 (.slice (some ⟨g, 0, none⟩) n cap) n (flat encP zs)) (i : Nat) (x : Int) :
  (w.setCell ⟨g, i * 2 + 1, none⟩ (.int .i64 x)).ownsRow base e 2 (.slice (some ⟨g, 0, none⟩) n cap) n (flat encP (zs.set i ((zs.getD i (0, 0)).1, x))) := by
 have := (h.stored (i * 2 + 1) (.int .i64 x)).1
 rwa [flat_set_snd] at this
def Kept {α : Type} (p : α -> Bool) (zs : List α) (i j : Nat) (ys : List α) : Prop :=
 i < j ∧ j <= zs.length ∧ ys.length = zs.length ∧ ys.take i = (zs.take j).filter p ∧ ys.drop j = zs.drop j
theorem Kept.start {α : Type} {p : α -> Bool} {zs : List α} {d : α} {k : Nat} (hk : k < zs.length) (h : p (zs.getD k d) = false) (ha : ∀ j, j < k -> p (zs.getD j d) = true) : Kept p zs k (k + 1) zs := by
 refine ⟨by omega, by omega, rfl, ?_, rfl⟩
 rw [List.take_succ_eq_append_getElem hk, List.filter_append]
 have e : zs.getD k d = zs[k] := by simp [List.getD, List.getElem?_eq_getElem hk]
 rw [e] at h
 rw [List.filter_eq_self.2 ?_]
 ·simp [h]
 ·intro a ham
  obtain ⟨i, hi, rfl⟩ := List.mem_iff_getElem.1 ham
  have hi' : i < k ∧ i < zs.length := by simp at hi; omega
  have := ha i hi'.1
  rw [show zs.getD i d = zs[i] by simp [List.getD, List.getElem?_eq_getElem hi'.2]] at this
  rw [List.getElem_take]
  exact this
theorem Kept.skip {α : Type} {p : α -> Bool} {zs ys : List α} {d : α} {i j : Nat} (h : Kept p zs i j ys) (hj : j < zs.length) (hp : p (zs.getD j d) = false) : Kept p zs i (j + 1) ys := by
 obtain ⟨h1, h2, h3, h4, h5⟩ := h
 refine ⟨by omega, by omega, h3, ?_, ?_⟩
 ·rw [List.take_succ_eq_append_getElem hj, List.filter_append, h4]
  rw [show zs.getD j d = zs[j] by simp [List.getD, List.getElem?_eq_getElem hj]] at hp
  simp [hp]
 ·rw [<- List.drop_drop, h5, List.drop_drop]
theorem Kept.keep {α : Type} {p : α -> Bool} {zs ys : List α} {d : α} {i j : Nat} (h : Kept p zs i j ys) (hj : j < zs.length) (hp : p (zs.getD j d) = true) : Kept p zs (i + 1) (j + 1) (ys.set i (zs.getD j d)) := by
 obtain ⟨h1, h2, h3, h4, h5⟩ := h
 have e : zs.getD j d = zs[j] := by simp [List.getD, List.getElem?_eq_getElem hj]
 rw [e] at hp ⊢
 refine ⟨by omega, by omega, by simp [h3], ?_, ?_⟩
 ·rw [List.take_succ_eq_append_getElem hj, List.filter_append, <- h4]
  simp only [hp, List.filter_cons, List.filter_nil, if_true]
  rw [List.take_succ_eq_append_getElem (by simp; omega), List.take_set_of_le (Nat.le_refl _)]
  simp
 ·rw [List.drop_set_of_lt (by omega), <- List.drop_drop, h5, List.drop_drop]
theorem Kept.high {α : Type} {p : α -> Bool} {zs ys : List α} {d : α} {i j : Nat} (h : Kept p zs i j ys) : ys.getD j d = zs.getD j d := by
 have := h.2.2.2.2
 have a : ∀ l : List α, l.getD j d = (l.drop j).getD 0 d := fun l => by simp [List.getD]
 rw [a ys, a zs, this]
section
variable {P : Program} {α : Type} {enc : α -> List Value} {k : Nat}
theorem wp_append_rows {o : Oper} {a : Act} {K : Act -> World -> Prop} {Q : Exit -> Act -> World -> Prop} {w : World} (s x : Operand) (t : TypeId)
  (ho : o.op = .call { callee := .builtin .append, args := #[s, x], argTypes := #[t, t] })
  (base : Nat) (e : TypeId) (z : Value) (bytes : Nat) (ht : P.underlying t = some (.slice e)) (hinfo : (P.info? e).map (fun i => (i.zero, i.size, i.bytes)) = some (some z, k, bytes))
  (hzs : z.cells.size = k) (h0 : 0 < k) (hk : ∀ x, (enc x).length = k) (h1 : ∀ x, ∀ v ∈ enc x, v.oneCell' = true)
  (v : Value) (n : Nat) (xs : List α) (hs : a.eval s = v) (hown : w.ownsRow base e k v n (flat enc xs)) (hbase : base <= w.heap.size)
  (B : Nat) (A : Option Addr) (m c : Nat) (ys : List α) (hx : a.eval x = .slice A m c) (hA : Row enc k w B A m ys)
  (h63 : n + m <= maxLen) (hbytes : (n + m) * bytes <= 140737488355328)
  (h : ∀ v' w', w'.ownsRow base e k v' (n + m) (flat enc (xs ++ ys)) -> w.grownBy w' v.ownBlock -> (v'.ownBlock = v.ownBlock ∨ v'.ownBlock = some w.heap.size) -> K (a.put o.dst v') w') : o.wp P a w K Q := by
 obtain ⟨i0, hi, hz0, hz1, hz2⟩ := info_parts hinfo
 rcases A with _ | ad
 ·have hm : m = 0 := by
   rcases Nat.eq_zero_or_pos m with h0 | h0
   ·exact h0
   ·obtain ⟨_, _, h, _⟩ := hA.2 h0
    cases h
  subst hm
  have hn : ys = [] := List.eq_nil_of_length_eq_zero hA.1
  subst hn
  have hv := h v w (by simpa using hown) ⟨rfl, rfl, rfl, Nat.le_refl _, fun _ _ _ => rfl⟩ (.inl rfl)
  have hrun : (Builtin.append_ #[t, t] o.type #[v, .slice none 0 c]).run P w = .ok v w := by
   rcases hown.2 with ⟨rfl, rfl⟩ | ⟨g, cap, cur, rfl, _, _, hnc, _⟩
   ·simp [Builtin.append_, run_underlying ht, sizeOf, typeInfo, hi, Builtin.lenOf, Builtin.firstCells]
   ·simp [Builtin.append_, run_underlying ht, sizeOf, typeInfo, hi, Builtin.lenOf, Builtin.firstCells, hnc, storeCells]
  unfold Oper.wp
  simp [execOp, ho, resolve, invoke, builtin, hs, hx, hrun, Result.andThen]
  exact hv
 ·obtain ⟨v', w', hr, h2, h3, _, h5⟩ := run_append_own_at (P := P) w base t o.type e i0 z k bytes ht hi hz0 hz1 hz2 hzs h0 v n _ hown ad m c (flat enc ys) (by rw [flat_length hk, hA.1]) (by
    intro j u hj
    have hjl : j < ys.length * k := by
     have := (List.getElem?_eq_some_iff.1 hj).1
     rwa [flat_length hk] at this
    have hl := hA.1
    have hm : 0 < m := by
     rcases Nat.eq_zero_or_pos m with h0 | h0
     ·rw [hl, h0, Nat.zero_mul] at hjl; omega
     ·exact h0
    obtain ⟨b, off, h, _, hc⟩ := hA.2 hm
    injection h with h
    subst h
    have hq : j / k < ys.length := by
     rw [Nat.div_lt_iff_lt_mul h0]; exact hjl
    have hr : j % k < k := Nat.mod_lt _ h0
    have e : j = j / k * k + j % k := by rw [Nat.mul_comm]; exact (Nat.div_add_mod j k).symm
    have hcc := hc (j / k) hq (j % k) u (by rw [<- flat_get hk ys _ hq _ hr, <- e]; exact hj)
    rw [Nat.add_assoc, <- e] at hcc
    rw [Addr.add_lit]
    exact hcc) (by
    intro u hu
    obtain ⟨y, _, hy⟩ := List.mem_flatMap.1 hu
    exact h1 y u hy) h63 hbytes hbase
  rw [<- flat_append] at h2
  unfold Oper.wp execOp
  simp only [ho, resolve, invoke, builtin, Sem.run_bind, Sem.run_pure, Result.andThen_ok, List.map_toArray, List.map_cons, List.map_nil, hs, hx, hr]
  exact h v' w' h2 h3 h5
theorem step_append_rows {ops : Array Oper} {o : Oper} {a : Act} {K : Act -> World -> Prop} {Q : Exit -> Act -> World -> Prop} {E : Prop} {w : World} (hgd : o.guard = none) (s x : Operand) (t : TypeId)
  (ho : o.op = .call { callee := .builtin .append, args := #[s, x], argTypes := #[t, t] })
  (base : Nat) (e : TypeId) (z : Value) (bytes : Nat) (ht : P.underlying t = some (.slice e)) (hinfo : (P.info? e).map (fun i => (i.zero, i.size, i.bytes)) = some (some z, k, bytes))
  (hzs : z.cells.size = k) (h0 : 0 < k) (hk : ∀ x, (enc x).length = k) (h1 : ∀ x, ∀ v ∈ enc x, v.oneCell' = true)
  (v : Value) (n : Nat) (xs : List α) (hs : a.eval s = v) (hown : w.ownsRow base e k v n (flat enc xs)) (hbase : base <= w.heap.size)
  (B : Nat) (A : Option Addr) (m c : Nat) (ys : List α) (hx : a.eval x = .slice A m c) (hA : Row enc k w B A m ys)
  (h63 : n + m <= maxLen) (hbytes : (n + m) * bytes <= 140737488355328)
  (h : ∀ v' w', w'.ownsRow base e k v' (n + m) (flat enc (xs ++ ys)) -> w.grownBy w' v.ownBlock -> (v'.ownBlock = v.ownBlock ∨ v'.ownBlock = some w.heap.size) -> Below base w w' -> K (a.put o.dst v') w') :
  if Region.wanted o (yielded ops a.tmps) = true then Oper.wp P o a w K Q else E := by
 have hw : Region.wanted o (yielded ops a.tmps) = true := by simp [Region.wanted, hgd]
 rw [if_pos hw]
 exact wp_append_rows s x t ho base e z bytes ht hinfo hzs h0 hk h1 v n xs hs hown hbase B A m c ys hx hA h63 hbytes fun v' w' a b c => h v' w' a b c ((Below.refl base w).grown b hbase fun k hk => (hown.lt k hk).1)
end
theorem Row.tail {α : Type} {enc : α -> List Value} {k : Nat} {w : World} {B n b off c : Nat} {zs : List α} (h : Row enc k w B (some ⟨b, off, none⟩) n zs) (i : Nat) (hi : i <= n) (hc : n <= c) :
  Row enc k w B (if c = i then some ⟨b, off, none⟩ else some ⟨b, off + i * k, none⟩) (n - i) (zs.drop i) := by
 have hd := h.drop i (n - i) (by omega)
 rw [List.take_of_length_le (by rw [List.length_drop, h.1]; exact Nat.le_refl _)] at hd
 split
 ·have h0 : n - i = 0 := by omega
  rw [h0] at hd ⊢
  exact ⟨hd.1, fun h => absurd h (by omega)⟩
 ·exact hd
theorem Row.far {α : Type} {enc : α -> List Value} {k : Nat} {w w' : World} {row : Option Nat} {B n b off : Nat} {zs : List α} (h : Row enc k w B (some ⟨b, off, none⟩) n zs) (hg : w.grownBy w' row) (hb : b < w.heap.size) (hr : some b ≠ row) : Row enc k w' B (some ⟨b, off, none⟩) n zs :=
 ⟨h.1, fun hn => by
  obtain ⟨b', off', e, hb', hc⟩ := h.2 hn
  injection e with e
  injection e with e1 e2
  subst e1 e2
  exact ⟨b, off, rfl, hb', fun j hj i v hv => (hg.cell_far _ hb hr).trans (hc j hj i v hv)⟩⟩
theorem own_le {w : World} {base : Nat} {e : TypeId} {k : Nat} {A : Option Addr} {n c : Nat} {xs : List Value} (h : w.ownsRow base e k (.slice A n c) n xs) : n <= c ∧ c <= maxLen := by
 rcases h.2 with ⟨h, _⟩ | ⟨_, cap, _, h, _, _, h1, h2, _⟩
 ·injection h with _ h1 h2
  subst h1 h2
  exact ⟨Nat.le_refl _, Nat.zero_le _⟩
 ·injection h with _ _ h
  subst h
  exact ⟨h1, h2⟩
theorem own_form {w : World} {base : Nat} {e : TypeId} {k : Nat} {A : Option Addr} {n c : Nat} {xs : List Value} (h : w.ownsRow base e k (.slice A n c) n xs) : (A = none ∧ n = 0 ∧ c = 0) ∨ ∃ g, A = some ⟨g, 0, none⟩ := by
 rcases h.2 with ⟨h, _⟩ | ⟨g, cap, _, h, _⟩
 ·injection h with h0 h1 h2
  exact .inl ⟨h0, h1, h2⟩
 ·injection h with h0
  exact .inr ⟨g, h0⟩
end Go.Proofs.YtaciogcpghbhjaaGreat
