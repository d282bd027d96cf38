/- Of these texts: Row. Conditions: as each part says. -/
import Derived.Test.YtaciogcpghbhjaaGreatZTOpen
import Derived.Sort.Grow
import Derived.Deep.Onto
import Derived.Laws.OwnMore
/- Slices of structs, each of k cells: what such a slice reads as; appending to one of the call's own. Conditions: none. -/
namespace Go.Proofs.YtaciogcpghbhjaaGreat
open Go.ChangeShapes Go.WideShapes Go.ChangeAt Go.RowKit
section
variable {α : Type} {enc : α -> List Value} {k : Nat}
def Row (enc : α -> List Value) (k : Nat) (w : World) (B : Nat) (A : Option Addr) (n : Nat) (zs : List α) : Prop :=
 zs.length = n ∧ (0 < n -> ∃ b off, A = some ⟨b, off, none⟩ ∧ b < B ∧ ∀ j (h : j < zs.length) i v, (enc zs[j])[i]? = some v -> w.cell? ⟨b, off + j * k + i, none⟩ = some v)
theorem Row.keep {w w' : World} {B n : Nat} {A : Option Addr} {zs : List α} (h : Row enc k w B A n zs) (hk : ∀ p : Addr, p.block < B -> w'.cell? p = w.cell? p) : Row enc k w' B A n zs :=
 ⟨h.1, fun hn => by
  obtain ⟨b, off, e, hb, hc⟩ := h.2 hn
  exact ⟨b, off, e, hb, fun j hj i v hv => (hk _ hb).trans (hc j hj i v hv)⟩⟩
theorem Row.below {w w' : World} {B n : Nat} {A : Option Addr} {zs : List α} (h : Row enc k w B A n zs) (hb : Below B w w') : Row enc k w' B A n zs := h.keep fun _ hp => hb.cell hp
theorem Row.more {w : World} {B B' n : Nat} {A : Option Addr} {zs : List α} (h : Row enc k w B A n zs) (hB : B <= B') : Row enc k w B' A n zs :=
 ⟨h.1, fun hn => by
  obtain ⟨b, off, e, hb, hc⟩ := h.2 hn
  exact ⟨b, off, e, by omega, hc⟩⟩
theorem Row.kept {w w' : World} {n : Nat} {A : Option Addr} {zs : List α} (h : Row enc k w w.heap.size A n zs) (hb : Keep w w') : Row enc k w' w'.heap.size A n zs := (h.below hb).more hb.size
theorem Row.none_ (w : World) (B : Nat) (A : Option Addr) : Row enc k w B A 0 [] := ⟨rfl, fun h => absurd h (by omega)⟩
def flat (enc : α -> List Value) (zs : List α) : List Value := zs.flatMap enc
theorem flat_cons (x : α) (zs : List α) : flat enc (x :: zs) = enc x ++ flat enc zs := rfl
theorem flat_append (a b : List α) : flat enc (a ++ b) = flat enc a ++ flat enc b := by simp [flat]
theorem flat_one (x : α) : flat enc [x] = enc x := by simp [flat]
theorem flat_length (hk : ∀ x, (enc x).length = k) (zs : List α) : (flat enc zs).length = zs.length * k := by
 induction zs with
 | nil => simp [flat]
 | cons x zs ih => rw [flat_cons, List.length_append, hk, ih, List.length_cons, Nat.add_mul, Nat.one_mul, Nat.add_comm]
theorem flat_get (hk : ∀ x, (enc x).length = k) (zs : List α) (j : Nat) (h : j < zs.length) (i : Nat) (hi : i < k) : (flat enc zs)[j * k + i]? = (enc zs[j])[i]? := by
 induction zs generalizing j with
 | nil => simp at h
 | cons x zs ih =>
   rw [flat_cons]
   cases j with
   | zero => rw [Nat.zero_mul, Nat.zero_add, List.getElem?_append_left (by rw [hk]; exact hi)]; rfl
   | succ j =>
     rw [Nat.add_mul, Nat.one_mul, List.getElem?_append_right (by rw [hk]; omega), hk, show j * k + k + i - k = j * k + i by omega, ih j (by simpa using h)]
     rfl
theorem flat_take (hk : ∀ x, (enc x).length = k) (zs : List α) (j : Nat) : (flat enc zs).take (j * k) = flat enc (zs.take j) := by
 induction zs generalizing j with
 | nil => simp [flat]
 | cons x zs ih =>
   cases j with
   | zero => simp [flat]
   | succ j => rw [List.take_succ_cons, flat_cons, flat_cons, <- ih, Nat.add_mul, Nat.one_mul, Nat.add_comm (j * k) k, <- hk x, List.take_append, List.take_of_length_le (by omega), hk x, show k + j * k - k = j * k by omega]
theorem Row.cells {w : World} {B n : Nat} {b off : Nat} {zs : List α} (h : Row enc k w B (some ⟨b, off, none⟩) n zs) (hn : 0 < n) : b < B ∧ ∀ j (h : j < zs.length) i v, (enc zs[j])[i]? = some v -> w.cell? ⟨b, off + j * k + i, none⟩ = some v := by
 obtain ⟨b', off', e, hb, hc⟩ := h.2 hn
 injection e with e
 injection e with e1 e2
 subst e1 e2
 exact ⟨hb, hc⟩
theorem Row.addr {w : World} {B n : Nat} {A : Option Addr} {zs : List α} (h : Row enc k w B A n zs) (hn : 0 < n) : ∃ b off, A = some ⟨b, off, none⟩ ∧ b < B := by
 obtain ⟨b', off', e, hb, _⟩ := h.2 hn
 exact ⟨b', off', e, hb⟩
theorem Row.of_own (hk : ∀ x, (enc x).length = k) {w : World} {base : Nat} {e : TypeId} {A : Option Addr} {n c : Nat} {zs : List α} (h : w.ownsRow base e k (.slice A n c) n (flat enc zs)) (h0 : 0 < k) : Row enc k w w.heap.size A n zs := by
 have hl : zs.length = n := by
  have := h.1
  rw [flat_length hk] at this
  exact Nat.eq_of_mul_eq_mul_right h0 this
 refine ⟨hl, fun hn => ?_⟩
 rcases h.2 with ⟨hv, h0⟩ | ⟨g, cap, cur, hv, _, hh, _⟩
 ·omega
 ·injection hv with hA
  subst hA
  have hlt := (h.lt g rfl).2
  refine ⟨g, 0, rfl, hlt, fun j hj i v hv => ?_⟩
  have hi : i < k := by
   have := (List.getElem?_eq_some_iff.1 hv).1
   rwa [hk] at this
  have := h.cells (g := g) rfl (j * k + i) v (by rw [flat_get hk zs j hj i hi]; exact hv)
  simpa [Addr.add_lit] using this
theorem Row.length_own (hk : ∀ x, (enc x).length = k) {w : World} {base : Nat} {e : TypeId} {v : Value} {n : Nat} {zs : List α} (h : w.ownsRow base e k v n (flat enc zs)) (h0 : 0 < k) : zs.length = n := by
 have := h.1
 rw [flat_length hk] at this
 exact Nat.eq_of_mul_eq_mul_right h0 this
theorem Row.new (hk : ∀ x, (enc x).length = k) (w : World) (e : TypeId) (zs : List α) (cs : Array Value) (hc : cs.toList = flat enc zs) : Row enc k (w.alloc (.cells cs e)) (w.heap.size + 1) (some ⟨w.heap.size, 0, none⟩) zs.length zs := by
 refine ⟨rfl, fun _ => ⟨_, _, rfl, by omega, fun j hj i v hv => ?_⟩⟩
 have hi : i < k := by
  have := (List.getElem?_eq_some_iff.1 hv).1
  rwa [hk] at this
 rw [World.cell?_alloc_at (hn := rfl), Nat.zero_add, <- Array.getElem?_toList, hc, flat_get hk zs j hj i hi]
 exact hv
theorem Row.drop {w : World} {B n : Nat} {b off : Nat} {zs : List α} (h : Row enc k w B (some ⟨b, off, none⟩) n zs) (i m : Nat) (hi : i + m <= n) : Row enc k w B (some ⟨b, off + i * k, none⟩) m ((zs.drop i).take m) := by
 have hl := h.1
 refine ⟨by simp; omega, fun hm => ?_⟩
 obtain ⟨hb, hc⟩ := h.cells (by omega)
 refine ⟨b, off + i * k, rfl, hb, fun j hj x v hv => ?_⟩
 have hj' : i + j < zs.length := by simp at hj; omega
 have := hc (i + j) hj' x v (by simpa using hv)
 rw [Nat.add_mul] at this
 rw [<- this]
 congr 2
 omega
theorem Row.take {w : World} {B n : Nat} {A : Option Addr} {zs : List α} (h : Row enc k w B A n zs) (m : Nat) (hm : m <= n) : Row enc k w B A m (zs.take m) := by
 have hl := h.1
 refine ⟨by simp; omega, fun h0 => ?_⟩
 obtain ⟨b, off, e, hb, hc⟩ := h.2 (by omega)
 exact ⟨b, off, e, hb, fun j hj i v hv => hc j (by simp at hj; omega) i v (by simpa using hv)⟩
end
def RetRow {α : Type} (enc : α -> List Value) (k : Nat) (zs : List α) (w : World) (e : Ending) (w' : World) : Prop :=
 ∃ A n c, e = .returned (.slice A n c) ∧ n <= c ∧ c <= maxLen ∧ Row enc k w' w'.heap.size A n zs ∧ Keep w w'
def FreshR (w : World) (A : Option Addr) (n : Nat) : Prop := 0 < n -> ∀ p, A = some p -> w.heap.size <= p.block
theorem FreshR.of_own {W w : World} {base : Nat} {e : TypeId} {A : Option Addr} {k n c : Nat} {xs : List Value} (h : w.ownsRow base e k (.slice A n c) n xs) (hb : W.heap.size <= base) : FreshR W A n := fun hn p hp => by
 rcases h.2 with ⟨hv, h0⟩ | ⟨g, cap, cur, hv, hg, _⟩
 ·omega
 ·injection hv with hA
  rw [hp] at hA
  injection hA with hA
  rw [hA]
  show W.heap.size <= g
  omega
theorem FreshR.mono {w w' : World} {A : Option Addr} {n : Nat} (h : FreshR w' A n) (hk : Keep w w') : FreshR w A n := fun hn p hp => Nat.le_trans hk.size (h hn p hp)
theorem FreshR.zero (w : World) (A : Option Addr) : FreshR w A 0 := fun h => absurd h (Nat.lt_irrefl 0)
def RetRowF {α : Type} (enc : α -> List Value) (k : Nat) (zs : List α) (w : World) (e : Ending) (w' : World) : Prop :=
 ∃ A n c, e = .returned (.slice A n c) ∧ n <= c ∧ c <= maxLen ∧ Row enc k w' w'.heap.size A n zs ∧ Keep w w' ∧ FreshR w A n
theorem RetRowF.row {α : Type} {enc : α -> List Value} {k : Nat} {zs : List α} {w w' : World} {e : Ending} (h : RetRowF enc k zs w e w') : RetRow enc k zs w e w' := by
 obtain ⟨A, n, c, h1, h2, h3, h4, h5, _⟩ := h
 exact ⟨A, n, c, h1, h2, h3, h4, h5⟩
def Grew (w w' : World) : Prop := ∃ q os, w' = Sort.grow (w.drewN q) os
theorem Grew.refl (w : World) : Grew w w := ⟨0, #[], by rw [Sort.grow_empty]; rfl⟩
theorem Grew.drewN {a w : World} (h : Grew a w) (n : Nat) : Grew a (w.drewN n) := by
 obtain ⟨m, os, rfl⟩ := h
 exact ⟨m + n, os, by rw [<- World.drewN_drewN]; rfl⟩
theorem Grew.alloc {a w : World} (h : Grew a w) (o : Obj) : Grew a (w.alloc o) := by
 obtain ⟨m, os, rfl⟩ := h
 exact ⟨m, os ++ #[o], by rw [Sort.alloc_eq_grow, Sort.grow_grow]⟩
theorem Grew.trans {a b c : World} (h : Grew a b) (k : Grew b c) : Grew a c := by
 obtain ⟨m, os, rfl⟩ := h
 obtain ⟨n, os', rfl⟩ := k
 exact ⟨m + n, os ++ os', by rw [<- Sort.grow_grow, <- World.drewN_drewN]; rfl⟩
theorem Grew.keep {w w' : World} (h : Grew w w') : Keep w w' := by
 obtain ⟨m, os, rfl⟩ := h
 refine ⟨rfl, rfl, rfl, by simp [Sort.grow], fun i hi => ?_⟩
 show (w.heap ++ os)[i]? = _
 rw [Array.getElem?_append_left hi]
section
variable {P : Program} {α : Type} {enc : α -> List Value} {k : Nat}
theorem append_rows {ops : Array Oper} {rest : List Oper} {o : Oper} {a : Act} {Q : Exit -> Act -> World -> Prop} {w : World} (hgd : o.guard = none) (s x : Operand) (t : TypeId)
  (ho : o.op = .call { callee := .builtin .append, args := #[s, x], argTypes := #[t, t] })
  (base : Nat) (e : TypeId) (z : Value) (bytes : Nat) (ht : P.underlying t = some (.slice e)) (hinfo : (P.info? e).map (fun i => (i.zero, i.size, i.bytes)) = some (some z, k, bytes))
  (hzs : z.cells.size = k) (h0 : 0 < k) (hk : ∀ x, (enc x).length = k) (h1 : ∀ x, ∀ v ∈ enc x, v.oneCell' = true)
  (v : Value) (n : Nat) (xs : List α) (hs : a.eval s = v) (hown : w.ownsRow base e k v n (flat enc xs)) (hbase : base <= w.heap.size)
  (B : Nat) (A : Option Addr) (m c : Nat) (ys : List α) (hx : a.eval x = .slice A m c) (hA : Row enc k w B A m ys)
  (h63 : n + m <= maxLen) (hbytes : (n + m) * bytes <= 140737488355328)
  (h : ∀ v' w', w'.ownsRow base e k v' (n + m) (flat enc (xs ++ ys)) -> Below base w w' -> wpList P ops Q rest (a.put o.dst v') w') : wpList P ops Q (o :: rest) a w := by
 obtain ⟨i0, hi, hz0, hz1, hz2⟩ := info_parts hinfo
 rcases A with _ | ad
 ·have hm : m = 0 := by
   rcases Nat.eq_zero_or_pos m with h0 | h0
   ·exact h0
   ·obtain ⟨_, _, h, _⟩ := hA.2 h0
    cases h
  subst hm
  have hn : ys = [] := List.eq_nil_of_length_eq_zero hA.1
  subst hn
  have hv := h v w (by simpa using hown) (Below.refl _ _)
  refine wpList_plain hgd fun K hK => ?_
  have hrun : (Builtin.append_ #[t, t] o.type #[v, .slice none 0 c]).run P w = .ok v w := by
   rcases hown.2 with ⟨rfl, rfl⟩ | ⟨g, cap, cur, rfl, _, _, hnc, _⟩
   ·simp [Builtin.append_, run_underlying ht, sizeOf, typeInfo, hi, Builtin.lenOf, Builtin.firstCells]
   ·simp [Builtin.append_, run_underlying ht, sizeOf, typeInfo, hi, Builtin.lenOf, Builtin.firstCells, hnc, storeCells]
  unfold Oper.wp
  simp [execOp, ho, resolve, invoke, builtin, hs, hx, hrun, Result.andThen]
  exact hK _ _ hv
 ·refine wpList_append_own _ hgd s x t ho base e i0 z k bytes ht hi hz0 hz1 hz2 hzs h0 v n _ hs hown ad m c (flat enc ys) hx (by rw [flat_length hk, hA.1]) ?_ ?_ h63 hbytes hbase ?_
  ·intro j u hj
   have hjl : j < ys.length * k := by
    have := (List.getElem?_eq_some_iff.1 hj).1
    rwa [flat_length hk] at this
   have hl := hA.1
   have hm : 0 < m := by
    rcases Nat.eq_zero_or_pos m with h0 | h0
    ·rw [hl, h0, Nat.zero_mul] at hjl; omega
    ·exact h0
   obtain ⟨b, off, h, _, hc⟩ := hA.2 hm
   injection h with h
   subst h
   have hq : j / k < ys.length := by
    rw [Nat.div_lt_iff_lt_mul h0]; exact hjl
   have hr : j % k < k := Nat.mod_lt _ h0
   have e : j = j / k * k + j % k := by rw [Nat.mul_comm]; exact (Nat.div_add_mod j k).symm
   have hcc := hc (j / k) hq (j % k) u (by rw [<- flat_get hk ys _ hq _ hr, <- e]; exact hj)
   rw [Nat.add_assoc, <- e] at hcc
   rw [Addr.add_lit]
   exact hcc
  ·intro u hu
   obtain ⟨y, _, hy⟩ := List.mem_flatMap.1 hu
   exact h1 y u hy
  ·intro v' w' hown' hgrow _
   exact h v' w' (by rw [flat_append]; exact hown') ((Below.refl base w).grown hgrow hbase fun k hk => (hown.lt k hk).1)
end
def encP (x : Int × Int) : List Value := [.int .i64 x.1, .int .i64 x.2]
theorem encP_len (x : Int × Int) : (encP x).length = 2 := rfl
theorem encP_one (x : Int × Int) : ∀ v ∈ encP x, v.oneCell' = true := fun v hv => by
 simp [encP] at hv
 rcases hv with rfl | rfl <;> rfl
theorem Row.pair {w : World} {B n : Nat} {b off : Nat} {zs : List (Int × Int)} (h : Row encP 2 w B (some ⟨b, off, none⟩) n zs) (j : Nat) (hj : j < n) :
  b < B ∧ w.cell? ⟨b, off + j * 2, none⟩ = some (.int .i64 (zs.getD j (0, 0)).1) ∧ w.cell? ⟨b, off + j * 2 + 1, none⟩ = some (.int .i64 (zs.getD j (0, 0)).2) := by
 have hl := h.1
 obtain ⟨hb, hc⟩ := h.cells (by omega)
 have hj' : j < zs.length := by omega
 have e : zs.getD j (0, 0) = zs[j] := by simp [List.getD, List.getElem?_eq_getElem hj']
 rw [e]
 exact ⟨hb, by simpa using hc j hj' 0 _ rfl, hc j hj' 1 _ rfl⟩
theorem Row.of_pairs {w : World} {B n : Nat} {b off : Nat} {zs : List (Int × Int)} (hl : zs.length = n) (hb : b < B)
  (h : ∀ j, j < n -> w.cell? ⟨b, off + j * 2, none⟩ = some (.int .i64 (zs.getD j (0, 0)).1) ∧ w.cell? ⟨b, off + j * 2 + 1, none⟩ = some (.int .i64 (zs.getD j (0, 0)).2)) : Row encP 2 w B (some ⟨b, off, none⟩) n zs := by
 refine ⟨hl, fun _ => ⟨b, off, rfl, hb, fun j hj i v hv => ?_⟩⟩
 obtain ⟨h1, h2⟩ := h j (by omega)
 have e : zs.getD j (0, 0) = zs[j] := by simp [List.getD, List.getElem?_eq_getElem hj]
 rw [e] at h1 h2
 match i, hv with
 | 0, hv => simp [encP] at hv; subst hv; exact h1
 | 1, hv => simp [encP] at hv; subst hv; exact h2
 | i + 2, hv => simp [encP] at hv
def PairsIn (w : World) (A : Option Addr) (n : Nat) (zs : List (Int × Int)) : Prop := Row encP 2 w w.heap.size A n zs ∧ ∀ z ∈ zs, (Lit.int .i64 z.1).wf = true ∧ (Lit.int .i64 z.2).wf = true
theorem opens_pairs {P : Program} {t e i : TypeId} {fs : Array Field} (ht : P.underlying t = some (.slice e)) (he : P.underlying e = some (.struct fs)) (hi : P.underlying i = some (.int .i64)) (hz : P.cellsOf e = 2) (hiz : P.cellsOf i = 1)
  (f0 f1 : Field) (h0 : fs[0]? = some f0) (h1 : fs[1]? = some f1) (t0 : f0.type = i) (t1 : f1.type = i) (o0 : f0.offset = 0) (o1 : f1.offset = 1) :
  Opens P t fun W cs => ∃ A n c zs, cs = [.slice A n c] ∧ n <= c ∧ c <= maxLen ∧ PairsIn W A n zs := by
 have q0 : Opens P f0.type fun _ cs => ∃ n, cs = [.int .i64 n] ∧ (Lit.int .i64 n).wf = true := by rw [t0]; exact opens_int hi
 have q1 : Opens P f1.type fun _ cs => ∃ n, cs = [.int .i64 n] ∧ (Lit.int .i64 n).wf = true := by rw [t1]; exact opens_int hi
 refine (opens_slice ht hz (by omega) ((opens_field he 0 f0 h0 2 1 hz (by rw [t0]; exact hiz) q0).and (opens_field he 1 f1 h1 2 1 hz (by rw [t1]; exact hiz) q1))).mono
  fun W cs ⟨A, n, c, hcs, hn, hc, hE⟩ => ?_
 ·skip
  rcases Nat.eq_zero_or_pos n with rfl | hp
  ·exact ⟨A, 0, c, [], hcs, hn, hc, Row.none_ _ _ _, fun z hz => by cases hz⟩
  ·obtain ⟨b, off, hA, hb, hE⟩ := hE hp
   obtain ⟨zs, hl, hzs⟩ := choose_list n (fun j (z : Int × Int) => (W.cell? ⟨b, off + j * 2, none⟩ = some (.int .i64 z.1) ∧ W.cell? ⟨b, off + j * 2 + 1, none⟩ = some (.int .i64 z.2)) ∧ (Lit.int .i64 z.1).wf = true ∧ (Lit.int .i64 z.2).wf = true) (fun j hj => by
    obtain ⟨es, hl, hc, ⟨_, x, ex, wx⟩, _, y, ey, wy⟩ := hE j hj
    match es, hl with
    | [e0, e1], _ =>
      rw [o0] at ex
      rw [o1] at ey
      simp at ex ey
      subst ex ey
      exact ⟨(x, y), ⟨by simpa using hc 0 (by omega), by simpa using hc 1 (by omega)⟩, wx, wy⟩)
   have gd : ∀ j (hj : j < zs.length), zs.getD j (0, 0) = zs[j] := fun j hj => by simp [List.getD, List.getElem?_eq_getElem hj]
   refine ⟨A, n, c, zs, hcs, hn, hc, ?_, fun z hz => ?_⟩
   ·subst hA
    refine Row.of_pairs hl hb fun j hj => ?_
    rw [gd j (by omega)]
    exact (hzs j _ (List.getElem?_eq_getElem (by omega))).1
   ·obtain ⟨j, hj, rfl⟩ := List.mem_iff_getElem.1 hz
    exact (hzs j _ (List.getElem?_eq_getElem hj)).2
end Go.Proofs.YtaciogcpghbhjaaGreat
