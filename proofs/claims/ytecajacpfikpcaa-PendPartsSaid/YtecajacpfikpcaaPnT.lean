/- Layer 20's reference, more: which are the same, those that are due, one more. Conditions: lists of at most a million requests. -/
import Derived.Test.YtecajacpfikpcaaPnS
import Derived.Test.YtecajacpfikpcaaPnN
namespace Go.Proofs.Ytecajacpfikpcaa.Ref20
set_option linter.unusedVariables false
open Go.ChangeShapes Go.WideShapes Go.ChangeAt Go.RowKit
open Pn
theorem ak_same (a : AskP) : Ak.same a a = true := by unfold Ak.same; simp
set_option maxHeartbeats 2000000 in
theorem one_any (p : PendP) (A' : Option Addr) (c' : Nat) (w : World) (hn : p.ak.vs.length ≤ 1000000) (hA' : Ints .i64 w w.heap.size A' p.ak.vs.length p.ak.vs) (hA : Ints .i64 w w.heap.size p.A p.ak.vs.length p.ak.vs) :
    Calls Try.prog 27 #[.agg #[.int .i64 p.o, .int .i64 p.cn, .int .i64 p.lf, .int .i64 p.id, .int .i64 p.un, .int .i64 p.ak.fc, .int .i64 p.ak.rd, .int .i64 p.ak.ct, .int .i64 p.ak.wr, .int .i64 p.ak.mn, .slice A' p.ak.vs.length c', .int .i64 p.due], .agg #[.int .i64 p.o, .int .i64 p.cn, .int .i64 p.lf, .int .i64 p.id, .int .i64 p.un, .int .i64 p.ak.fc, .int .i64 p.ak.rd, .int .i64 p.ak.ct, .int .i64 p.ak.wr, .int .i64 p.ak.mn, .slice p.A p.ak.vs.length p.c, .int .i64 p.due]] w fun e w' => e = .returned (.bool true) ∧ Keep w w' := by
  have hK := ((Keep.refl w).alloc (.cells #[.int .i64 p.o, .int .i64 p.cn, .int .i64 p.lf, .int .i64 p.id, .int .i64 p.un, .int .i64 p.ak.fc, .int .i64 p.ak.rd, .int .i64 p.ak.ct, .int .i64 p.ak.wr, .int .i64 p.ak.mn, .slice A' p.ak.vs.length c', .int .i64 p.due] 27)).alloc (.cells #[.int .i64 p.o, .int .i64 p.cn, .int .i64 p.lf, .int .i64 p.id, .int .i64 p.un, .int .i64 p.ak.fc, .int .i64 p.ak.rd, .int .i64 p.ak.ct, .int .i64 p.ak.wr, .int .i64 p.ak.mn, .slice p.A p.ak.vs.length p.c, .int .i64 p.due] 27)
  have HA := Lib.hid hA
  have HA' := Lib.hid hA'
  clear hA hA'
  have q := fun (i : Int) => (beq_self_eq_true i)
  have e0 := q p.o
  have e1 := q p.cn
  have e2 := q p.lf
  have e3 := q p.id
  have e4 := q p.un
  have e5 := q p.due
  clear q
  go_enter Try.func27, Try.ntmps27
  go_wp2_with fail
  refine (Ref6.same_any A' p.A p.ak.vs.length c' p.ak.vs.length p.c p.ak p.ak _ hn (HA'.out.kept hK) (HA.out.kept hK)).mono ?_
  rintro e w1 ⟨rfl, hq⟩
  rw [ak_same]
  have x0 : ((w.alloc (.cells #[.int .i64 p.o, .int .i64 p.cn, .int .i64 p.lf, .int .i64 p.id, .int .i64 p.un, .int .i64 p.ak.fc, .int .i64 p.ak.rd, .int .i64 p.ak.ct, .int .i64 p.ak.wr, .int .i64 p.ak.mn, .slice A' p.ak.vs.length c', .int .i64 p.due] 27)).alloc (.cells #[.int .i64 p.o, .int .i64 p.cn, .int .i64 p.lf, .int .i64 p.id, .int .i64 p.un, .int .i64 p.ak.fc, .int .i64 p.ak.rd, .int .i64 p.ak.ct, .int .i64 p.ak.wr, .int .i64 p.ak.mn, .slice p.A p.ak.vs.length p.c, .int .i64 p.due] 27)).cell? ⟨w.heap.size, 11, none⟩ = some (.int .i64 p.due) := by go_simp
  have x1 : ((w.alloc (.cells #[.int .i64 p.o, .int .i64 p.cn, .int .i64 p.lf, .int .i64 p.id, .int .i64 p.un, .int .i64 p.ak.fc, .int .i64 p.ak.rd, .int .i64 p.ak.ct, .int .i64 p.ak.wr, .int .i64 p.ak.mn, .slice A' p.ak.vs.length c', .int .i64 p.due] 27)).alloc (.cells #[.int .i64 p.o, .int .i64 p.cn, .int .i64 p.lf, .int .i64 p.id, .int .i64 p.un, .int .i64 p.ak.fc, .int .i64 p.ak.rd, .int .i64 p.ak.ct, .int .i64 p.ak.wr, .int .i64 p.ak.mn, .slice p.A p.ak.vs.length p.c, .int .i64 p.due] 27)).cell? ⟨w.heap.size + 1, 11, none⟩ = some (.int .i64 p.due) := by go_simp
  replace x0 := (Below.cell hq (by simp; omega)).trans x0
  replace x1 := (Below.cell hq (by simp)).trans x1
  go_wp2
  go_ret
  exact ⟨rfl, hK.trans hq⟩
set_option maxHeartbeats 2000000 in
/-- Lists that are the same. -/
theorem same_any (A B : Option Addr) (n m c d : Nat) (ys zs : List PendP) (w : World) (hn : n ≤ 1000000) (hA : Row encQ 12 w w.heap.size A n ys) (hB : Row encQ 12 w w.heap.size B m zs) (hLk : Like zs ys) (hVy : Vals w ys) (hV : Vals w zs) (hs : ∀ p ∈ zs, p.ak.vs.length ≤ 1000000) :
    Calls Try.prog 13 #[.slice A n c, .slice B m d] w fun e w' => e = .returned (.bool true) ∧ Keep w w' := by
  obtain rfl : n = m := by have h1 := hA.1; have h2 := hB.1; have h3 := hLk.len; omega
  have hl := Lib.hid hB.1
  have hly := Lib.hid hA.1
  have HLk := Lib.hid hLk
  have HVy := Lib.hid hVy
  go_enter Try.func13, Try.ntmps13
  go_wp2
  go_loopw [5] (fun i wr => ∃ k : Nat, k ≤ n ∧ i = .int .i64 k ∧ Keep w wr) (fun i _ => n - (intOf i).toNat)
  case atStart => exact ⟨0, Nat.zero_le _, rfl, Keep.refl _⟩
  case round =>
    obtain ⟨k, hk, rfl, hK⟩ := hrel
    by_cases hlt : k < n
    · obtain ⟨b, off, rfl, _⟩ := hA.addr (by omega)
      obtain ⟨b', off', rfl, _⟩ := hB.addr (by omega)
      obtain ⟨hb, hp⟩ := row_pend hA k hlt
      obtain ⟨hb', hp'⟩ := row_pend hB k hlt
      replace hp := hp.kept hb hK
      replace hp' := hp'.kept hb' hK
      have hmem := getD_mem zs k (by rw [hl.out]; exact hlt)
      have hmemy := getD_mem ys k (by rw [hly.out]; exact hlt)
      have hget := HLk.out.get k (by rw [hl.out]; exact hlt)
      obtain ⟨A', hA'⟩ : ∃ a, a = (ys.getD k zero).A := ⟨_, rfl⟩
      obtain ⟨c', hc'⟩ : ∃ a, a = (ys.getD k zero).c := ⟨_, rfl⟩
      rw [← hA', ← hc'] at hget
      obtain ⟨p, hpe⟩ : ∃ p, p = zs.getD k zero := ⟨_, rfl⟩
      rw [← hpe] at hp' hmem hget
      rw [hget] at hp hmemy
      have HI := Lib.hid (And.intro (hs p hmem) ((hV p hmem).1.kept hK))
      have HJ : Hid (Ints .i64 wr wr.heap.size A' p.ak.vs.length p.ak.vs) := Lib.hid ((HVy.out _ hmemy).1.kept hK)
      have hb1 := Nat.lt_of_lt_of_le hb hK.size
      have hb2 := Nat.lt_of_lt_of_le hb' hK.size
      clear hpe hmem hmemy hget hA' hc'
      have hx := fun q : KeptOf wr => hp.kept hb1 q.h
      have hy := fun q : KeptOf wr => hp'.kept hb2 q.h
      have hc : ∀ q : KeptOf wr, Calls Try.prog 27 #[.agg #[.int .i64 p.o, .int .i64 p.cn, .int .i64 p.lf, .int .i64 p.id, .int .i64 p.un, .int .i64 p.ak.fc, .int .i64 p.ak.rd, .int .i64 p.ak.ct, .int .i64 p.ak.wr, .int .i64 p.ak.mn, .slice A' p.ak.vs.length c', .int .i64 p.due], .agg #[.int .i64 p.o, .int .i64 p.cn, .int .i64 p.lf, .int .i64 p.id, .int .i64 p.un, .int .i64 p.ak.fc, .int .i64 p.ak.rd, .int .i64 p.ak.ct, .int .i64 p.ak.wr, .int .i64 p.ak.mn, .slice p.A p.ak.vs.length p.c, .int .i64 p.due]] q.w fun e w' => e = .returned (.bool true) ∧ Keep q.w w' := fun q => one_any p A' c' q.w HI.out.1 (HJ.out.kept q.h) (HI.out.2.kept q.h)
      have x0 := fun q => (hx q).1
      have y0 := fun q => (hy q).1
      have x1 := fun q => (hx q).2.1
      have y1 := fun q => (hy q).2.1
      have x2 := fun q => (hx q).2.2.1
      have y2 := fun q => (hy q).2.2.1
      have x3 := fun q => (hx q).2.2.2.1
      have y3 := fun q => (hy q).2.2.2.1
      have x4 := fun q => (hx q).2.2.2.2.1
      have y4 := fun q => (hy q).2.2.2.2.1
      have x5 := fun q => (hx q).2.2.2.2.2.1
      have y5 := fun q => (hy q).2.2.2.2.2.1
      have x6 := fun q => (hx q).2.2.2.2.2.2.1
      have y6 := fun q => (hy q).2.2.2.2.2.2.1
      have x7 := fun q => (hx q).2.2.2.2.2.2.2.1
      have y7 := fun q => (hy q).2.2.2.2.2.2.2.1
      have x8 := fun q => (hx q).2.2.2.2.2.2.2.2.1
      have y8 := fun q => (hy q).2.2.2.2.2.2.2.2.1
      have x9 := fun q => (hx q).2.2.2.2.2.2.2.2.2.1
      have y9 := fun q => (hy q).2.2.2.2.2.2.2.2.2.1
      have x10 := fun q => (hx q).2.2.2.2.2.2.2.2.2.2.1
      have y10 := fun q => (hy q).2.2.2.2.2.2.2.2.2.2.1
      have x11 := fun q => (hx q).2.2.2.2.2.2.2.2.2.2.2
      have y11 := fun q => (hy q).2.2.2.2.2.2.2.2.2.2.2
      simp only [wh] at x0 x1 x2 x3 x4 x5 x6 x7 x8 x9 x10 x11
      have hltz : (k : Int) < n := by omega
      have hk0 : (0 : Int) ≤ k := by omega
      have HA := Lib.hid hA
      have HB := Lib.hid hB
      have HC := hc
      clear hx hy hp hp' hA hB hV hs hb hb' hb1 hb2 hLk hVy
      go_wp2_with fail
      refine wp_region_kept (by kernel_rfl) (by kernel_rfl) ?_
      repeat (go_big_quiet_step (first | with_reducible exact KeptOf.of (HC _)))
      refine Go.wpQuiet_nil ?_
      intro _ hw'
      obtain ⟨⟨W, hw⟩, hw''⟩ := hw'
      subst hw''
      go_wp2
      refine ⟨⟨k + 1, by omega, by go_num, hK.trans hw⟩, by simp [intOf]; omega⟩
    · obtain rfl : k = n := by omega
      go_wp2
      go_ret
      exact ⟨rfl, hK⟩
/-- What the loop that parts has. -/
def DueRel (w : World) (t : Int) (zs : List PendP) (o1 o2 iv : Value) (wr : World) : Prop :=
  ∃ (k : Nat) (xs ys : List PendP), k ≤ zs.length ∧ iv = .int .i64 k ∧ Hid (xs = Pn.due (zs.take k) t ∧ ys = rest (zs.take k) t) ∧ wr.ownsRow w.heap.size 27 12 o1 xs.length (flat encQ xs) ∧ wr.ownsRow w.heap.size 27 12 o2 ys.length (flat encQ ys) ∧
    Hid (o1.ownBlock = none ∨ o2.ownBlock = none ∨ o1.ownBlock ≠ o2.ownBlock) ∧ Keep w wr ∧ xs.length ≤ k ∧ ys.length ≤ k
theorem apart_l {v v' u : Value} {W : World} {base : Nat} {e : TypeId} {k n : Nat} {xs : List Value} (h : v.ownBlock = none ∨ u.ownBlock = none ∨ v.ownBlock ≠ u.ownBlock) (hu : W.ownsRow base e k u n xs) (hv : v'.ownBlock = v.ownBlock ∨ v'.ownBlock = some W.heap.size) :
    v'.ownBlock = none ∨ u.ownBlock = none ∨ v'.ownBlock ≠ u.ownBlock := by
  rcases hv with e | e
  · rw [e]; exact h
  · cases hb : u.ownBlock with
    | none => exact .inr (.inl rfl)
    | some g =>
      refine .inr (.inr ?_)
      rw [e]
      intro h
      injection h with h
      have := (hu.lt g hb).2
      omega
theorem apart_symm {v u : Value} (h : v.ownBlock = none ∨ u.ownBlock = none ∨ v.ownBlock ≠ u.ownBlock) : u.ownBlock = none ∨ v.ownBlock = none ∨ u.ownBlock ≠ v.ownBlock := by
  rcases h with h | h | h
  · exact .inr (.inl h)
  · exact .inl h
  · exact .inr (.inr fun e => h e.symm)
theorem apart_ne {v u : Value} (h : v.ownBlock = none ∨ u.ownBlock = none ∨ v.ownBlock ≠ u.ownBlock) : u.ownBlock = none ∨ u.ownBlock ≠ v.ownBlock := by
  rcases h with h | h | h
  · cases hu : u.ownBlock with
    | none => exact .inl rfl
    | some g => exact .inr (by rw [h]; exact fun e => by cases e)
  · exact .inl h
  · exact .inr fun e => h e.symm
set_option maxHeartbeats 4000000 in
theorem due_any (A : Option Addr) (n c : Nat) (zs : List PendP) (t : Int) (w : World) (hn : n ≤ 1000000) (hA : Row encQ 12 w w.heap.size A n zs) :
    Calls Try.prog 12 #[.slice A n c, .int .i64 t] w (RetQQ (Pn.due zs t) (rest zs t) w) := by
  have hl := Lib.hid hA.1
  go_enter Try.func12, Try.ntmps12
  go_wp2
  go_loopw [6, 7, 8] (fun o1 o2 iv wr => DueRel w t zs o1 o2 iv wr) (fun _ _ iv _ => n - (intOf iv).toNat)
  case atStart => exact ⟨0, [], [], Nat.zero_le _, rfl, ⟨rfl, rfl⟩, ⟨rfl, .inl ⟨rfl, rfl⟩⟩, ⟨rfl, .inl ⟨rfl, rfl⟩⟩, .inl rfl, Keep.refl _, Nat.zero_le _, Nat.zero_le _⟩
  case round =>
    obtain ⟨k, xs, ys, hk, rfl, HF, hown, hown2, HO, hK, hal, hal2⟩ := hrel
    obtain ⟨OA, oc, rfl⟩ := own_slice hown
    obtain ⟨OB, oc2, rfl⟩ := own_slice hown2
    rw [hl.out] at hk
    by_cases hlt : k < n
    · obtain ⟨b, off, rfl, _⟩ := hA.addr (by omega)
      obtain ⟨hb, hp⟩ := row_pend hA k hlt
      have hp' := hp.kept hb hK
      obtain ⟨p, hpe⟩ : ∃ p, p = zs.getD k zero := ⟨_, rfl⟩
      rw [← hpe] at hp'
      have hsn := filter_snoc (isDue t) zs k (by rw [hl.out]; exact hlt)
      have hsm := filter_snoc (fun p => !isDue t p) zs k (by rw [hl.out]; exact hlt)
      rw [← hpe] at hsn hsm
      have HS := Lib.hid (And.intro hsn hsm)
      clear hpe hsn hsm hp
      obtain ⟨c0, c1, c2, c3, c4, c5, c6, c7, c8, c9, c10, c11⟩ := hp'
      have hltz : (k : Int) < n := by omega
      have hk0 : (0 : Int) ≤ k := by omega
      have hszV : w.heap.size ≤ wr.heap.size := hK.size
      have HA := Lib.hid hA
      clear hA
      have hrow := row_one wr p 27
      have HB2 := Lib.hid ((Below.refl w.heap.size wr).alloc hszV (.cells (cellsQ p) 27))
      have hKA : Keep wr (wr.alloc (.cells (cellsQ p) 27)) := (Keep.refl wr).alloc _
      have ho1 := own_keep hown hKA
      have ho2 := own_keep hown2 hKA
      have HK := Lib.hid hKA
      clear hown hown2 hKA
      by_cases he : p.due ≤ t
      · have he2 : decide (p.due ≤ t) = true := by simp [he]
        have HE := Lib.hid (show isDue t p = true from he2)
        clear he
        go_wp2_with (at_builtin; refine append_rows_k rfl _ _ 22 rfl w.heap.size 27 _ 112 Try.underlying22 info_pend rfl (by omega) encQ_len encQ_one _ xs.length xs rfl ho1 (by simp; omega) _ _ 1 1 [p] rfl hrow (by unfold maxLen; omega) (by omega) ?_)
        intro v' w1 hown' hb1 hg1 hat1
        have hKw : Keep w w1 := Below.trans hK (HB2.out.trans hb1)
        have ho2' := ho2.kept hg1 (apart_ne HO.out)
        have HO' := Lib.hid (apart_l HO.out ho2 (by simpa using hat1))
        clear ho1 ho2 hg1 hat1
        go_wp2
        refine ⟨⟨k + 1, xs ++ [p], ys, by rw [hl.out]; omega, by go_num, Lib.hid ⟨?_, ?_⟩, by rw [List.length_append]; exact hown', ho2', HO', hKw, by simp; omega, by omega⟩, by simp [intOf]; omega⟩
        · unfold Pn.due; rw [HS.out.1, HE.out, HF.out.1]; rfl
        · unfold rest; rw [HS.out.2, HE.out, HF.out.2]; simp [rest]
      · have he2 : decide (p.due ≤ t) = false := by simp [he]
        have HE := Lib.hid (show isDue t p = false from he2)
        clear he
        go_wp2_with (at_builtin; refine append_rows_k rfl _ _ 22 rfl w.heap.size 27 _ 112 Try.underlying22 info_pend rfl (by omega) encQ_len encQ_one _ ys.length ys rfl ho2 (by simp; omega) _ _ 1 1 [p] rfl hrow (by unfold maxLen; omega) (by omega) ?_)
        intro v' w1 hown' hb1 hg1 hat1
        have hKw : Keep w w1 := Below.trans hK (HB2.out.trans hb1)
        have ho1' := ho1.kept hg1 (apart_ne (apart_symm HO.out))
        have HO' := Lib.hid (apart_symm (apart_l (apart_symm HO.out) ho1 (by simpa using hat1)))
        clear ho1 ho2 hg1 hat1
        go_wp2
        refine ⟨⟨k + 1, xs, ys ++ [p], by rw [hl.out]; omega, by go_num, Lib.hid ⟨?_, ?_⟩, ho1', by rw [List.length_append]; exact hown', HO', hKw, by omega, by simp; omega⟩, by simp [intOf]; omega⟩
        · unfold Pn.due; rw [HS.out.1, HE.out, HF.out.1]; simp [Pn.due]
        · unfold rest; rw [HS.out.2, HE.out, HF.out.2]; rfl
    · obtain rfl : k = n := by omega
      go_wp2
      go_ret2
      have h := HF.out
      rw [List.take_of_length_le (by rw [hl.out]; omega)] at h
      have hr := Row.of_own encQ_len hown (by omega)
      have hr2 := Row.of_own encQ_len hown2 (by omega)
      have a1 := own_le hown
      have a2 := own_le hown2
      rw [← h.1, ← h.2]
      exact ⟨OA, xs.length, oc, OB, ys.length, oc2, rfl, a1, a2, hr, hr2, hK⟩
set_option maxHeartbeats 4000000 in
theorem add_any (A : Option Addr) (n c : Nat) (zs : List PendP) (p : PendP) (most : Int) (w : World) (hn : n ≤ 1000000) (hc : n ≤ c) (hcm : c ≤ maxLen) (hA : Row encQ 12 w w.heap.size A n zs) :
    Calls Try.prog 10 #[.slice A n c, aggQ p, .int .i64 most] w (RetQE (add zs p most) (addErr zs p most) w) := by
  have hl := Lib.hid hA.1
  unfold aggQ
  obtain ⟨X, hX⟩ : ∃ X, X = w.alloc (.cells #[.int .i64 p.o, .int .i64 p.cn, .int .i64 p.lf, .int .i64 p.id, .int .i64 p.un, .int .i64 p.ak.fc, .int .i64 p.ak.rd, .int .i64 p.ak.ct, .int .i64 p.ak.wr, .int .i64 p.ak.mn, .slice p.A p.ak.vs.length p.c, .int .i64 p.due] 27) := ⟨_, rfl⟩
  have hkX : Keep w X := by rw [hX]; exact (Keep.refl _).alloc _
  have hXs : w.heap.size < X.heap.size := by rw [hX]; simp
  have hcX : X.cell? ⟨w.heap.size, 0, none⟩ = some (.int .i64 p.o) ∧ X.cell? ⟨w.heap.size, 1, none⟩ = some (.int .i64 p.cn) ∧ X.cell? ⟨w.heap.size, 2, none⟩ = some (.int .i64 p.lf) ∧ X.cell? ⟨w.heap.size, 3, none⟩ = some (.int .i64 p.id) ∧ X.cell? ⟨w.heap.size, 4, none⟩ = some (.int .i64 p.un) ∧ X.cell? ⟨w.heap.size, 5, none⟩ = some (.int .i64 p.ak.fc) ∧ X.cell? ⟨w.heap.size, 6, none⟩ = some (.int .i64 p.ak.rd) ∧ X.cell? ⟨w.heap.size, 7, none⟩ = some (.int .i64 p.ak.ct) ∧ X.cell? ⟨w.heap.size, 8, none⟩ = some (.int .i64 p.ak.wr) ∧ X.cell? ⟨w.heap.size, 9, none⟩ = some (.int .i64 p.ak.mn) ∧ X.cell? ⟨w.heap.size, 10, none⟩ = some (.slice p.A p.ak.vs.length p.c) ∧ X.cell? ⟨w.heap.size, 11, none⟩ = some (.int .i64 p.due) := by
    rw [hX]; refine ⟨?_, ?_, ?_, ?_, ?_, ?_, ?_, ?_, ?_, ?_, ?_, ?_⟩ <;> go_simp
  have hS : ∀ W, Keep X W → W.cell? ⟨w.heap.size, 0, none⟩ = some (.int .i64 p.o) ∧ W.cell? ⟨w.heap.size, 1, none⟩ = some (.int .i64 p.cn) ∧ W.cell? ⟨w.heap.size, 2, none⟩ = some (.int .i64 p.lf) ∧ W.cell? ⟨w.heap.size, 3, none⟩ = some (.int .i64 p.id) ∧ W.cell? ⟨w.heap.size, 4, none⟩ = some (.int .i64 p.un) ∧ W.cell? ⟨w.heap.size, 5, none⟩ = some (.int .i64 p.ak.fc) ∧ W.cell? ⟨w.heap.size, 6, none⟩ = some (.int .i64 p.ak.rd) ∧ W.cell? ⟨w.heap.size, 7, none⟩ = some (.int .i64 p.ak.ct) ∧ W.cell? ⟨w.heap.size, 8, none⟩ = some (.int .i64 p.ak.wr) ∧ W.cell? ⟨w.heap.size, 9, none⟩ = some (.int .i64 p.ak.mn) ∧ W.cell? ⟨w.heap.size, 10, none⟩ = some (.slice p.A p.ak.vs.length p.c) ∧ W.cell? ⟨w.heap.size, 11, none⟩ = some (.int .i64 p.due) := fun W h => by
    obtain ⟨h0, h1, h2, h3, h4, h5, h6, h7, h8, h9, h10, h11⟩ := hcX
    exact ⟨(Below.cell h hXs).trans h0, (Below.cell h hXs).trans h1, (Below.cell h hXs).trans h2, (Below.cell h hXs).trans h3, (Below.cell h hXs).trans h4, (Below.cell h hXs).trans h5, (Below.cell h hXs).trans h6, (Below.cell h hXs).trans h7, (Below.cell h hXs).trans h8, (Below.cell h hXs).trans h9, (Below.cell h hXs).trans h10, (Below.cell h hXs).trans h11⟩
  have hrow := hA.kept hkX
  have HF := Lib.hid (show full zs most = decide (most ≤ (n : Int)) by unfold full; rw [hl.out])
  by_cases h1 : most ≤ (n : Int)
  · have d1 : decide (most ≤ (n : Int)) = true := by simp [h1]
    have HE := Lib.hid (show add zs p most = zs ∧ addErr zs p most = 11 by unfold add addErr; rw [HF.out, d1]; exact ⟨rfl, rfl⟩)
    have HR := Lib.hid hrow
    clear h1 hS hcX hA hrow
    go_enter Try.func10, Try.ntmps10
    go_wp2
    go_ret2
    rw [← hX]
    exact ⟨A, n, c, by rw [HE.out.2]; rfl, hc, hcm, by rw [HE.out.1]; exact HR.out, hkX⟩
  · have d1 : decide (most ≤ (n : Int)) = false := by simp [h1]
    clear h1
    have hfind := Lib.hid fun W (h : Keep X W) => find_any A n c zs p.o W (by unfold maxLen; omega) (hrow.kept h)
    have hfr := find_range zs p.o
    cases hh : has zs p.o
    · have hf1 := find_none hh
      have HE := Lib.hid (show add zs p most = zs ++ [p] ∧ addErr zs p most = 0 by unfold add addErr; rw [HF.out, d1, hh]; exact ⟨rfl, rfl⟩)
      have c0 := hcX.1
      have HX := Lib.hid hX
      have hR : ∀ W, Keep X W → Row encQ 12 W W.heap.size A n zs := fun W h => hrow.kept h
      have HR := Lib.hid hR
      have HS := Lib.hid hS
      clear hh hcX hA hrow hfr hS hR hX
      go_enter Try.func10, Try.ntmps10
      go_wp2_with fail
      rw [← HX.out]
      refine (hfind.out X (Keep.refl X)).mono ?_
      rintro e w1 ⟨rfl, hq⟩
      rw [hf1]
      obtain ⟨Y, hY⟩ : ∃ Y, Y = w1 := ⟨_, rfl⟩
      have hkY : Keep X Y := by rw [hY]; exact hq.keep
      have hYs : Y.heap.size = X.heap.size := by rw [hY]; exact hq.size
      rw [← hY]
      have hkwY := Lib.hid (hkX.trans hkY)
      have hS : ∀ W, Keep Y W → W.cell? ⟨w.heap.size, 0, none⟩ = some (.int .i64 p.o) ∧ W.cell? ⟨w.heap.size, 1, none⟩ = some (.int .i64 p.cn) ∧ W.cell? ⟨w.heap.size, 2, none⟩ = some (.int .i64 p.lf) ∧ W.cell? ⟨w.heap.size, 3, none⟩ = some (.int .i64 p.id) ∧ W.cell? ⟨w.heap.size, 4, none⟩ = some (.int .i64 p.un) ∧ W.cell? ⟨w.heap.size, 5, none⟩ = some (.int .i64 p.ak.fc) ∧ W.cell? ⟨w.heap.size, 6, none⟩ = some (.int .i64 p.ak.rd) ∧ W.cell? ⟨w.heap.size, 7, none⟩ = some (.int .i64 p.ak.ct) ∧ W.cell? ⟨w.heap.size, 8, none⟩ = some (.int .i64 p.ak.wr) ∧ W.cell? ⟨w.heap.size, 9, none⟩ = some (.int .i64 p.ak.mn) ∧ W.cell? ⟨w.heap.size, 10, none⟩ = some (.slice p.A p.ak.vs.length p.c) ∧ W.cell? ⟨w.heap.size, 11, none⟩ = some (.int .i64 p.due) := fun W h => HS.out W (hkY.trans h)
      have hR : ∀ W, Keep Y W → Row encQ 12 W W.heap.size A n zs := fun W h => HR.out W (hkY.trans h)
      clear hY hq hkY HX hfind hkX hYs c0
      have hO0 : ∀ W, Keep Y W → (W.alloc (.cells #[] 27)).ownsRow Y.heap.size 27 12 (.slice (some ⟨W.heap.size, 0, none⟩) 0 0) 0 (flat encQ []) := fun W h => World.ownsRow_lit W #[] 0 h.size (Nat.zero_le _) rfl
      have kX := Keep.refl Y
      have kD := keep_drew (Keep.refl Y)
      go_wp2_with fail
      have hN : ∀ W : World, Row encQ 12 (W.alloc (.cells #[.int .i64 p.o, .int .i64 p.cn, .int .i64 p.lf, .int .i64 p.id, .int .i64 p.un, .int .i64 p.ak.fc, .int .i64 p.ak.rd, .int .i64 p.ak.ct, .int .i64 p.ak.wr, .int .i64 p.ak.mn, .slice p.A p.ak.vs.length p.c, .int .i64 p.due] 27)) (W.heap.size + 1) (some ⟨W.heap.size, 0, none⟩) 1 [p] := fun W => row_one W p 27
      have hNb : Row encQ 12 ((Y.alloc (.cells #[] 27)).alloc (.cells #[.int .i64 p.o, .int .i64 p.cn, .int .i64 p.lf, .int .i64 p.id, .int .i64 p.un, .int .i64 p.ak.fc, .int .i64 p.ak.rd, .int .i64 p.ak.ct, .int .i64 p.ak.wr, .int .i64 p.ak.mn, .slice p.A p.ak.vs.length p.c, .int .i64 p.due] 27)) (Y.heap.size + 2) (some ⟨Y.heap.size + 1, 0, none⟩) 1 [p] := (by simpa using hN (Y.alloc (.cells #[] 27)))
      have hNc : Row encQ 12 ((Y.alloc (.cells #[.int .i64 p.o, .int .i64 p.cn, .int .i64 p.lf, .int .i64 p.id, .int .i64 p.un, .int .i64 p.ak.fc, .int .i64 p.ak.rd, .int .i64 p.ak.ct, .int .i64 p.ak.wr, .int .i64 p.ak.mn, .slice p.A p.ak.vs.length p.c, .int .i64 p.due] 27)).alloc (.cells #[] 27)) (Y.heap.size + 1) (some ⟨Y.heap.size, 0, none⟩) 1 [p] := (hN Y).below ((Below.refl _ _).alloc (by simp) _)
      have hOa : (Y.drew.alloc (.cells #[] 27)).ownsRow Y.heap.size 27 12 (.slice (some ⟨Y.heap.size, 0, none⟩) 0 0) 0 (flat encQ []) := hO0 Y.drew kD
      have hOc : ((Y.drew.alloc (.cells #[.int .i64 p.o, .int .i64 p.cn, .int .i64 p.lf, .int .i64 p.id, .int .i64 p.un, .int .i64 p.ak.fc, .int .i64 p.ak.rd, .int .i64 p.ak.ct, .int .i64 p.ak.wr, .int .i64 p.ak.mn, .slice p.A p.ak.vs.length p.c, .int .i64 p.due] 27)).alloc (.cells #[] 27)).ownsRow Y.heap.size 27 12 (.slice (some ⟨Y.heap.size + 1, 0, none⟩) 0 0) 0 (flat encQ []) := (by simpa using hO0 (Y.drew.alloc (.cells #[.int .i64 p.o, .int .i64 p.cn, .int .i64 p.lf, .int .i64 p.id, .int .i64 p.un, .int .i64 p.ak.fc, .int .i64 p.ak.rd, .int .i64 p.ak.ct, .int .i64 p.ak.wr, .int .i64 p.ak.mn, .slice p.A p.ak.vs.length p.c, .int .i64 p.due] 27)) (kD.alloc _))
      have hNbD : Row encQ 12 ((Y.drew.alloc (.cells #[] 27)).alloc (.cells #[.int .i64 p.o, .int .i64 p.cn, .int .i64 p.lf, .int .i64 p.id, .int .i64 p.un, .int .i64 p.ak.fc, .int .i64 p.ak.rd, .int .i64 p.ak.ct, .int .i64 p.ak.wr, .int .i64 p.ak.mn, .slice p.A p.ak.vs.length p.c, .int .i64 p.due] 27)) (Y.heap.size + 2) (some ⟨Y.heap.size + 1, 0, none⟩) 1 [p] := (by simpa using hN (Y.drew.alloc (.cells #[] 27)))
      have hNcD : Row encQ 12 ((Y.drew.alloc (.cells #[.int .i64 p.o, .int .i64 p.cn, .int .i64 p.lf, .int .i64 p.id, .int .i64 p.un, .int .i64 p.ak.fc, .int .i64 p.ak.rd, .int .i64 p.ak.ct, .int .i64 p.ak.wr, .int .i64 p.ak.mn, .slice p.A p.ak.vs.length p.c, .int .i64 p.due] 27)).alloc (.cells #[] 27)) (Y.heap.size + 1) (some ⟨Y.heap.size, 0, none⟩) 1 [p] := (hN Y.drew).below ((Below.refl _ _).alloc (by simp) _)
      go_region_held3 (fun W => W.cell? ⟨w.heap.size, 0, none⟩ = some (.int .i64 p.o) ∧ W.cell? ⟨w.heap.size, 1, none⟩ = some (.int .i64 p.cn) ∧ W.cell? ⟨w.heap.size, 2, none⟩ = some (.int .i64 p.lf) ∧ W.cell? ⟨w.heap.size, 3, none⟩ = some (.int .i64 p.id) ∧ W.cell? ⟨w.heap.size, 4, none⟩ = some (.int .i64 p.un) ∧ W.cell? ⟨w.heap.size, 5, none⟩ = some (.int .i64 p.ak.fc) ∧ W.cell? ⟨w.heap.size, 6, none⟩ = some (.int .i64 p.ak.rd) ∧ W.cell? ⟨w.heap.size, 7, none⟩ = some (.int .i64 p.ak.ct) ∧ W.cell? ⟨w.heap.size, 8, none⟩ = some (.int .i64 p.ak.wr) ∧ W.cell? ⟨w.heap.size, 9, none⟩ = some (.int .i64 p.ak.mn) ∧ W.cell? ⟨w.heap.size, 10, none⟩ = some (.slice p.A p.ak.vs.length p.c) ∧ W.cell? ⟨w.heap.size, 11, none⟩ = some (.int .i64 p.due))
        (first
          | exact hS _ kX
          | exact hS _ kD
          | exact hS _ (kD.alloc _)
          | exact hS _ ((kD.alloc _).alloc _)
          | exact hS _ (kX.alloc _)
          | exact hS _ ((kX.alloc _).alloc _)
          | exact hS _ hw6
          | exact hS _ hw5
          | exact hS _ (hw5.alloc _)
          | fail)
        ((first
          | (refine step_append_rows (by rfl) _ _ 22 (by rfl) Y.heap.size 27 _ 112 Try.underlying22 info_pend rfl (by omega) encQ_len encQ_one _ n zs (by rfl) (hown5.alloc _) (by first | omega | (simp; done) | (simp; omega)) _ (some ⟨w5.heap.size, 0, none⟩) 1 1 [p] (by rfl) (hN w5) (by unfold maxLen; omega) (by omega) ?_; intro v6 w6 hown6 hg6 hat6 hb6; have hw6 : Keep Y w6 := Below.trans (hw5.alloc _) hb6)
          | (refine step_append_rows (by rfl) _ _ 22 (by rfl) Y.heap.size 27 _ 112 Try.underlying22 info_pend rfl (by omega) encQ_len encQ_one _ n zs (by rfl) (hown5) (by first | omega | (simp; done) | (simp; omega)) _ _ 1 1 [p] (by rfl) (hx5) (by unfold maxLen; omega) (by omega) ?_; intro v6 w6 hown6 hg6 hat6 hb6; have hw6 : Keep Y w6 := Below.trans (hw5) hb6)
          | (refine step_append_rows (by rfl) _ _ 22 (by rfl) Y.heap.size 27 _ 112 Try.underlying22 info_pend rfl (by omega) encQ_len encQ_one _ 0 [] (by rfl) (hOa) (by first | omega | (simp; done) | (simp; omega)) _ A n c zs (by rfl) (hR _ (kD.alloc _)) (by unfold maxLen; omega) (by omega) ?_; intro v5 w5 hown5 hg5 hat5 hb5; have hw5 : Keep Y w5 := Below.trans (kD.alloc _) hb5; have hs5 := hw5.size; replace hown5 : w5.ownsRow Y.heap.size 27 12 v5 n (flat encQ zs) := (by simpa using hown5))
          | (refine step_append_rows (by rfl) _ _ 22 (by rfl) Y.heap.size 27 _ 112 Try.underlying22 info_pend rfl (by omega) encQ_len encQ_one _ 0 [] (by rfl) (hOa.alloc _) (by first | omega | (simp; done) | (simp; omega)) _ A n c zs (by rfl) (hR _ ((kD.alloc _).alloc _)) (by unfold maxLen; omega) (by omega) ?_; intro v5 w5 hown5 hg5 hat5 hb5; have hw5 : Keep Y w5 := Below.trans ((kD.alloc _).alloc _) hb5; have hs5 := hw5.size; replace hown5 : w5.ownsRow Y.heap.size 27 12 v5 n (flat encQ zs) := (by simpa using hown5); have hx5 := Row.far hNbD hg5 (by first | (simp; done) | (simp; omega)) (by simp [Value.ownBlock]))
          | (refine step_append_rows (by rfl) _ _ 22 (by rfl) Y.heap.size 27 _ 112 Try.underlying22 info_pend rfl (by omega) encQ_len encQ_one _ 0 [] (by rfl) (hOc) (by first | omega | (simp; done) | (simp; omega)) _ A n c zs (by rfl) (hR _ ((kD.alloc _).alloc _)) (by unfold maxLen; omega) (by omega) ?_; intro v5 w5 hown5 hg5 hat5 hb5; have hw5 : Keep Y w5 := Below.trans ((kD.alloc _).alloc _) hb5; have hs5 := hw5.size; replace hown5 : w5.ownsRow Y.heap.size 27 12 v5 n (flat encQ zs) := (by simpa using hown5); have hx5 := Row.far hNcD hg5 (by first | (simp; done) | (simp; omega)) (by simp [Value.ownBlock]))
          | fail))
      all_goals (
        obtain ⟨A6, c6, rfl⟩ := own_slice hown6
        have hr6 := Row.of_own encQ_len hown6 (by omega)
        obtain ⟨l1, l2⟩ := own_le hown6
        have hK6 := hkwY.out.trans hw6
        clear hown6 hg6 hat6 hb6 hw6 hown5 hg5 hat5 hb5 hw5 hs5
        go_wp2
        go_ret2
        exact ⟨A6, n + 1, c6, by rw [HE.out.2]; rfl, l1, l2, by rw [HE.out.1]; exact hr6, hK6⟩)
    · have hf1 := (find_has zs p.o).2 hh
      obtain ⟨q, hqe⟩ : ∃ q, q = find zs p.o := ⟨_, rfl⟩
      rw [← hqe] at hf1
      have d2 : decide (0 ≤ q) = true := by simp [hf1]
      have HQ := Lib.hid hqe
      have HE := Lib.hid (show add zs p most = zs ∧ addErr zs p most = 1 by unfold add addErr; rw [HF.out, d1, hh]; exact ⟨rfl, rfl⟩)
      have c0 := hcX.1
      have HX := Lib.hid hX
      have HR := Lib.hid hrow
      clear hh hcX hA hrow hfr hS hf1 hqe hX
      go_enter Try.func10, Try.ntmps10
      go_wp2_with fail
      rw [← HX.out]
      refine (hfind.out X (Keep.refl X)).mono ?_
      rintro e w1 ⟨rfl, hq⟩
      rw [← HQ.out]
      go_wp2
      go_ret2
      exact ⟨A, n, c, by rw [HE.out.2]; rfl, hc, hcm, by rw [HE.out.1]; exact HR.out.kept hq.keep, hkX.trans hq.keep⟩
end Go.Proofs.Ytecajacpfikpcaa.Ref20
