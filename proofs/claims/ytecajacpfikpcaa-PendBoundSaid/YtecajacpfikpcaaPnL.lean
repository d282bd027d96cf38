/- Layer 20's laws: the example, PendTells. Conditions: none beyond the law's own. -/
import Derived.Test.YtecajacpfikpcaaPn
import Derived.Test.YtecajacpfikpcaaPnT
import Derived.Test.YtecajacpfikpcaaRel
import Derived.Test.YtecajacpfikpcaaBx
namespace Go.Proofs.Ytecajacpfikpcaa.Pend
set_option linter.unusedVariables false
set_option linter.unusedSimpArgs false
set_option maxRecDepth 100000
open Go.ChangeShapes Go.WideShapes Go.ChangeAt Go.RowKit
open Pn
theorem bx12 {W : World} {q : Nat} {p : PendP} (h : Bx W q (cellsQ p).toList) : W.cell? ⟨q, 0, none⟩ = some (.int .i64 p.o) ∧ W.cell? ⟨q, 1, none⟩ = some (.int .i64 p.cn) ∧ W.cell? ⟨q, 2, none⟩ = some (.int .i64 p.lf) ∧ W.cell? ⟨q, 3, none⟩ = some (.int .i64 p.id) ∧ W.cell? ⟨q, 4, none⟩ = some (.int .i64 p.un) ∧ W.cell? ⟨q, 5, none⟩ = some (.int .i64 p.ak.fc) ∧ W.cell? ⟨q, 6, none⟩ = some (.int .i64 p.ak.rd) ∧ W.cell? ⟨q, 7, none⟩ = some (.int .i64 p.ak.ct) ∧ W.cell? ⟨q, 8, none⟩ = some (.int .i64 p.ak.wr) ∧ W.cell? ⟨q, 9, none⟩ = some (.int .i64 p.ak.mn) ∧ W.cell? ⟨q, 10, none⟩ = some (.slice p.A p.ak.vs.length p.c) ∧ W.cell? ⟨q, 11, none⟩ = some (.int .i64 p.due) :=
  ⟨h.2 0 _ rfl, h.2 1 _ rfl, h.2 2 _ rfl, h.2 3 _ rfl, h.2 4 _ rfl, h.2 5 _ rfl, h.2 6 _ rfl, h.2 7 _ rfl, h.2 8 _ rfl, h.2 9 _ rfl, h.2 10 _ rfl, h.2 11 _ rfl⟩
def one1 : PendP := ⟨1, 0, 0, 0, 0, Ak.zero, none, 0, 5⟩
def one2 : PendP := ⟨2, 0, 0, 0, 0, Ak.zero, none, 0, 7⟩
theorem vals_nil {w : World} {l : List PendP} (h : ∀ p ∈ l, p.ak.vs = []) : Vals w l := fun p hp => by
  have e := h p hp
  rw [e]
  exact ⟨Ints.none_ _ _ _ _, Nat.zero_le _⟩
theorem smv_nil {l : List PendP} (h : ∀ p ∈ l, p.ak.vs = []) : SmV l := fun p hp => by
  rw [h p hp]; decide
set_option maxHeartbeats 2000000 in
theorem awake_any (w : World) : Calls Try.prog 6 #[] w fun e w' => e = .returned (.bool true) ∧ Keep w w' := by
  have hrow := row_one w one1 27
  have hA : Row encQ 12 (w.alloc (.cells (cellsQ one1) 27)) (w.alloc (.cells (cellsQ one1) 27)).heap.size (some ⟨w.heap.size, 0, none⟩) 1 [one1] := by simpa using hrow
  obtain ⟨X, hX⟩ : ∃ X, X = w.alloc (.cells (cellsQ one1) 27) := ⟨_, rfl⟩
  rw [← hX] at hA
  have k0 : Keep w X := by rw [hX]; exact (Keep.refl w).alloc _
  have hV1 : Vals X [one1] := vals_nil (by simp [one1, Ak.zero])
  have HA := Lib.hid (add_any (some ⟨w.heap.size, 0, none⟩) 1 1 [one1] one2 2 X (by omega) (by omega) (by decide) hA hV1 (smv_nil (by simp [one1, Ak.zero])) (Ints.none_ _ _ _ _) (by simp [one2, Ak.zero]))
  clear hrow hA
  go_enter Try.func6, Try.ntmps6
  go_wp2_with fail
  rw [show w.alloc (.cells #[.int .i64 1, .int .i64 0, .int .i64 0, .int .i64 0, .int .i64 0, .int .i64 0, .int .i64 0, .int .i64 0, .int .i64 0, .int .i64 0, .slice none 0 0, .int .i64 5] 27) = X from hX.symm]
  refine HA.out.mono ?_
  rintro e w1 ⟨A1, n1, c1, u1, rfl, l1, m1, r1, lk1, v1, k1⟩
  replace lk1 : Like [one1, one2] u1 := lk1
  have hu1 : u1.length = 2 := lk1.len
  obtain rfl : 2 = n1 := by rw [← hu1]; exact r1.1
  have s1 : SmV u1 := (smv_nil (l := [one1, one2]) (by simp [one1, one2, Ak.zero])).like lk1
  have he : addErr [one1] one2 2 = 0 := rfl
  rw [he]
  replace k0 := k0.trans k1
  clear k1 HA hX he
  go_wp2_with fail
  refine (due_any A1 2 c1 u1 5 w1 (by omega) l1 m1 r1 v1 s1).mono ?_
  rintro e w2 ⟨A2, n2, c2, B2, q2, d2, u2, u3, rfl, l2, l3, r2, r3, lk2, lk3, v2, v3, k2⟩
  replace lk2 : Like [one1] u2 := (lk1.due 5).trans lk2
  replace lk3 : Like [one2] u3 := (lk1.rest 5).trans lk3
  have hu2 : u2.length = 1 := lk2.len
  have hu3 : u3.length = 1 := lk3.len
  obtain rfl : 1 = n2 := by rw [← hu2]; exact r2.1
  obtain rfl : 1 = q2 := by rw [← hu3]; exact r3.1
  obtain ⟨b, off, rfl, hb⟩ := r2.addr (by omega)
  have c0 := (row_pend r2 0 (by omega)).2.1
  rw [lk2.get 0 (by decide)] at c0
  replace c0 : w2.cell? ⟨b, off, none⟩ = some (.int .i64 1) := c0
  have r1' := r1.kept k2
  replace k0 := k0.trans k2
  clear k2 r1
  have H2 := Lib.hid fun (W : World) (h : Keep w2 W) => find_any A1 2 c1 u1 2 W (by omega) l1 m1 (r1'.kept h)
  have H3 := Lib.hid fun (W : World) (h : Keep w2 W) => find_any A1 2 c1 u1 3 W (by omega) l1 m1 (r1'.kept h)
  have e2 : find u1 2 = 1 := (lk1.find 2).trans rfl
  have e3 : find u1 3 = -1 := (lk1.find 3).trans rfl
  clear r1' r2 r3 lk1 lk2 lk3 v1 v2 v3 s1 hu1 hu2 hu3
  go_wp2_with fail
  refine (H2.out w2 (Keep.refl w2)).mono ?_
  rintro e w3 ⟨rfl, k3⟩
  rw [e2]
  go_wp2_with fail
  refine (H3.out w3 k3).mono ?_
  rintro e w4 ⟨rfl, k4⟩
  rw [e3]
  go_wp2
  go_ret
  exact ⟨rfl, (k0.trans k3).trans k4⟩
/-- The slots of nested answers. -/
def tellsR (zs : List PendP) (x : Int) (t : Tmp) (v : Value) (w : World) : Prop :=
  if t = 117 ∨ t = 121 then ∃ A n c ys, v = .slice A n c ∧ Row encQ 12 w w.heap.size A n ys ∧ Like (drop zs x) ys ∧ Vals w ys
  else if t = 128 ∨ t = 132 then ∃ A n c ys, v = .slice A n c ∧ Row encQ 12 w w.heap.size A n ys ∧ Like (leave zs x) ys ∧ Vals w ys
  else ∃ A n c, v = .slice A n c ∧ Ints .i64 w w.heap.size A n (outers zs)
theorem tellsR_keep (zs : List PendP) (x : Int) (t : Tmp) (v : Value) (w w' : World) (hk : Keep w w') (h : tellsR zs x t v w) : tellsR zs x t v w' := by
  unfold tellsR at *
  split
  · rename_i h1; rw [if_pos h1] at h
    obtain ⟨A, n, c, ys, e, hr, hl, hv⟩ := h
    exact ⟨A, n, c, ys, e, hr.kept hk, hl, hv.kept hk⟩
  · rename_i h1; rw [if_neg h1] at h
    split
    · rename_i h2; rw [if_pos h2] at h
      obtain ⟨A, n, c, ys, e, hr, hl, hv⟩ := h
      exact ⟨A, n, c, ys, e, hr.kept hk, hl, hv.kept hk⟩
    · rename_i h2; rw [if_neg h2] at h
      obtain ⟨A, n, c, e, hr⟩ := h
      exact ⟨A, n, c, e, hr.kept hk⟩
def tellsD : List Tmp := [117, 121, 128, 132, 137, 139]
theorem drop_mem (zs : List PendP) (x : Int) : ∀ p ∈ drop zs x, p ∈ zs := fun p hp => by
  unfold drop at hp
  split at hp
  · exact hp
  · exact List.mem_of_mem_eraseIdx hp
theorem leave_mem (zs : List PendP) (x : Int) : ∀ p ∈ leave zs x, p ∈ zs := fun p hp => (List.mem_filter.1 hp).1
theorem drop_le (zs : List PendP) (x : Int) : (drop zs x).length ≤ zs.length := Pn.drop_le zs x
theorem leave_le (zs : List PendP) (x : Int) : (leave zs x).length ≤ zs.length := List.length_filter_le _ _
theorem due_mem (zs : List PendP) (t : Int) : ∀ p ∈ Pn.due zs t, p ∈ zs := fun p hp => (List.mem_filter.1 hp).1
theorem rest_mem (zs : List PendP) (t : Int) : ∀ p ∈ rest zs t, p ∈ zs := fun p hp => (List.mem_filter.1 hp).1
theorem add_mem (zs : List PendP) (p : PendP) (m : Int) : ∀ q ∈ add zs p m, q ∈ zs ∨ q = p := fun q hq => by
  unfold add at hq
  split at hq
  · exact .inl hq
  · split at hq
    · exact .inl hq
    · simpa using hq
theorem add_len' (zs : List PendP) (p : PendP) (m : Int) : (add zs p m).length ≤ zs.length + 1 := by
  unfold add
  split
  · omega
  · split
    · omega
    · simp
set_option maxHeartbeats 8000000 in
theorem tells_any (A : Option Addr) (n c : Nat) (zs : List PendP) (p : PendP) (x y : Int) (w : World) (hc : n ≤ c) (hcm : c ≤ maxLen) (hA : Row encQ 12 w w.heap.size A n zs) (hV : Vals w zs) (hW : ∀ q ∈ zs, (Lit.int .i64 q.o).wf = true) (hp : Ints .i64 w w.heap.size p.A p.ak.vs.length p.ak.vs) :
    Calls Try.prog 3 #[.slice A n c, aggQ p, .agg #[.int .i64 x, .int .i64 y]] w fun e w' => e = .returned (.bool true) ∧ Keep w w' := by
  have hl := Lib.hid hA.1
  have HWF := Lib.hid hW
  clear hW
  obtain ⟨X, hX⟩ : ∃ X, X = (w.alloc (.cells (cellsQ p) 27)).alloc (.cells #[.int .i64 x, .int .i64 y] 28) := ⟨_, rfl⟩
  have k0 : Keep w X := by rw [hX]; exact ((Keep.refl w).alloc _).alloc _
  have B1 : Hid (Bx X w.heap.size (cellsQ p).toList) := Lib.hid (by rw [hX]; exact (Bx.newq rfl).alloc _)
  have B2 : Hid (Bx X (w.heap.size + 1) [.int .i64 x, .int .i64 y]) := Lib.hid (by rw [hX]; exact Bx.new1)
  have c10 := B1.out.2 10 _ rfl
  have HX := Lib.hid hX
  unfold aggQ
  by_cases h1 : 80 < n
  · have d1 : decide ((80 : Int) < (n : Int)) = true := by simp; omega
    clear h1 hA hV hp hX c10
    go_enter Try.func3, Try.ntmps3
    go_wp2_with fail
    rw [← HX.out]
    go_wp2_with fail
    refine (awake_any _).mono ?_
    rintro e W2 ⟨rfl, hb2⟩
    go_wp2
    go_ret
    exact ⟨rfl, (k0).trans hb2⟩

  · have d1 : decide ((80 : Int) < (n : Int)) = false := by simp; omega
    have hn80 : n ≤ 80 := by omega
    by_cases h2 : 100 < p.ak.vs.length
    · have d2 : decide ((100 : Int) < (p.ak.vs.length : Int)) = true := by simp; omega
      clear h1 h2 hA hV hp hX
      go_enter Try.func3, Try.ntmps3
      go_wp2_with fail
      rw [← HX.out]
      go_wp2_with fail
      go_wp2_with fail
      refine (awake_any _).mono ?_
      rintro e W2 ⟨rfl, hb2⟩
      go_wp2
      go_ret
      exact ⟨rfl, (k0).trans hb2⟩

    · have d2 : decide ((100 : Int) < (p.ak.vs.length : Int)) = false := by simp; omega
      have hp100 : p.ak.vs.length ≤ 100 := by omega
      have hn1 : n ≤ 1000000 := by omega
      have HA := Lib.hid (hA.kept k0)
      have HV := Lib.hid (hV.kept k0)
      have HP := Lib.hid (hp.kept k0)
      have HW := Lib.hid (And.intro hc hcm)
      clear h1 h2 hA hV hp hX
      go_enter Try.func3, Try.ntmps3
      go_wp2_with fail
      rw [← HX.out]
      go_wp2
      go_loopw [7] (fun iv wr => ∃ k : Nat, k ≤ n ∧ iv = .int .i64 k ∧ Hid (∀ j, j < k → (zs.getD j zero).ak.vs.length ≤ 100) ∧ Keep X wr) (fun iv _ => n - (intOf iv).toNat)
      case atStart => exact ⟨0, Nat.zero_le _, rfl, Lib.hid (fun j hj => absurd hj (by omega)), Keep.refl _⟩
      case round =>
        clear c10
        obtain ⟨k, hk, rfl, HK, hK⟩ := hrel
        by_cases hlt : k < n
        · have hltz : (k : Int) < n := by omega
          have hk0 : (0 : Int) ≤ k := by omega
          obtain ⟨b, off, rfl, _⟩ := HA.out.addr (by omega)
          obtain ⟨hb, hq⟩ := row_pend HA.out k hlt
          have hq' := hq.kept hb hK
          obtain ⟨q, hqe⟩ : ∃ q, q = zs.getD k zero := ⟨_, rfl⟩
          rw [← hqe] at hq'
          have HQ := Lib.hid hqe
          obtain ⟨_, _, _, _, _, _, _, _, _, _, q10, _⟩ := hq'
          clear hq hqe
          by_cases h3 : 100 < q.ak.vs.length
          · have d3 : decide ((100 : Int) < (q.ak.vs.length : Int)) = true := by simp; omega
            clear h3
            go_wp2_with fail
            refine (awake_any _).mono ?_
            rintro e W2 ⟨rfl, hb2⟩
            go_wp2
            go_ret
            exact ⟨rfl, ((k0.trans hK)).trans hb2⟩

          · have d3 : decide ((100 : Int) < (q.ak.vs.length : Int)) = false := by simp; omega
            go_wp2
            refine ⟨⟨k + 1, by omega, by go_num, Lib.hid ?_, hK⟩, by simp [intOf]; omega⟩
            intro j hj
            rcases Nat.lt_succ_iff_lt_or_eq.1 hj with hj | rfl
            · exact HK.out j hj
            · rw [← HQ.out]; omega
        · obtain rfl : k = n := by omega
          have HS := Lib.hid (show ∀ q ∈ zs, q.ak.vs.length ≤ 100 from fun q hq => by
            obtain ⟨j, hj, rfl⟩ := List.mem_iff_getElem.1 hq
            have := HK.out j (by rw [← hl.out]; exact hj)
            rwa [show zs.getD j zero = zs[j] by simp [List.getD, List.getElem?_eq_getElem hj]] at this)
          have SM : Hid (SmV zs) := Lib.hid fun q hq => by have := HS.out q hq; omega
          clear HK hk hlt
          obtain ⟨rb, hrb⟩ : ∃ b, b = right zs := ⟨_, rfl⟩
          have HR1 := Lib.hid fun (W : World) (h : Keep X W) => right_any A k c zs W hn1 HW.out.1 HW.out.2 (HA.out.kept h) HWF.out
          have HR2 := Lib.hid fun (W : World) (h : Keep X W) => Ref20.right_any A k c zs W (by unfold maxLen; omega) (HA.out.kept h)
          rw [← hrb] at HR1 HR2
          clear hrb
          go_wp2_with fail
          refine (HR1.out _ hK).mono ?_
          rintro e w1 ⟨rfl, kk1⟩
          replace kk1 := hK.trans kk1
          go_wp2_with fail
          refine (HR2.out _ kk1).mono ?_
          rintro e w2 ⟨rfl, kk2⟩
          replace kk2 := kk1.trans kk2.keep
          clear hK kk1
          cases rb
          · go_wp2_with fail
            refine (HR2.out _ kk2).mono ?_
            rintro e w3 ⟨rfl, kk3⟩
            replace kk3 := kk2.trans kk3.keep
            go_wp2_with fail
            refine (awake_any _).mono ?_
            rintro e W2 ⟨rfl, hb2⟩
            go_wp2
            go_ret
            exact ⟨rfl, ((k0.trans kk3)).trans hb2⟩

          · go_wp2_with fail
            refine (HR2.out _ kk2).mono ?_
            rintro e w3 ⟨rfl, kk3⟩
            replace kk3 := kk2.trans kk3.keep
            clear kk2
            obtain ⟨c0, c1, c2, c3, c4, c5, c6, c7, c8, c9, c10, c11⟩ := bx12 (B1.out.kept kk3)
            obtain ⟨e0, e1⟩ := Bx.two (B2.out.kept kk3)
            go_wp2_with fail
            refine (add_any A k c zs p x _ hn1 HW.out.1 HW.out.2 (HA.out.kept kk3) (HV.out.kept kk3) SM.out (HP.out.kept kk3) (by omega)).mono ?_
            rintro e w4 ⟨A1, n1, f1, u1, rfl, l1, m1, r1, lk1, v1, kk4⟩
            have LK1 := Lib.hid lk1
            replace v1 := Lib.hid v1
            clear lk1
            replace kk4 := kk3.trans kk4
            clear c0 c1 c2 c3 c4 c5 c6 c7 c8 c9 c10 c11 e0 e1 kk3
            obtain ⟨c0, c1, c2, c3, c4, c5, c6, c7, c8, c9, c10, c11⟩ := bx12 (B1.out.kept kk4)
            obtain ⟨e0, e1⟩ := Bx.two (B2.out.kept kk4)
            replace r1 := Lib.hid r1
            go_wp2_with fail
            refine (Ref20.add_any A k c zs p x _ hn1 HW.out.1 HW.out.2 (HA.out.kept kk4)).mono ?_
            rintro e w5 ⟨A2, n2, f2, rfl, l2, m2, r2, kk5⟩
            replace r1 := Lib.hid (r1.out.kept kk5)
            replace v1 := Lib.hid (v1.out.kept kk5)
            replace r2 := Lib.hid r2
            replace kk5 := kk4.trans kk5
            clear c0 c1 c2 c3 c4 c5 c6 c7 c8 c9 c10 c11 e0 e1 kk4
            obtain ⟨e0, e1⟩ := Bx.two (B2.out.kept kk5)
            go_wp2_with fail
            refine (due_any A k c zs y _ hn1 HW.out.1 HW.out.2 (HA.out.kept kk5) (HV.out.kept kk5) SM.out).mono ?_
            rintro e w6 ⟨A3, n3, f3, A4, n4, f4, u3, u4, rfl, l3, l4, r3, r4, lk3, lk4, v3, v4, kk6⟩
            have LK3 := Lib.hid lk3
            have LK4 := Lib.hid lk4
            replace v3 := Lib.hid v3
            replace v4 := Lib.hid v4
            clear lk3 lk4
            replace r1 := Lib.hid (r1.out.kept kk6)
            replace v1 := Lib.hid (v1.out.kept kk6)
            replace r2 := Lib.hid (r2.out.kept kk6)
            replace r3 := Lib.hid r3
            replace r4 := Lib.hid r4
            replace kk6 := kk5.trans kk6
            clear e0 e1 kk5
            obtain ⟨e0, e1⟩ := Bx.two (B2.out.kept kk6)
            go_wp2_with fail
            refine (Ref20.due_any A k c zs y _ hn1 (HA.out.kept kk6)).mono ?_
            rintro e w7 ⟨A5, n5, f5, A6, n6, f6, rfl, l5, l6, r5, r6, kk7⟩
            replace r1 := Lib.hid (r1.out.kept kk7)
            replace v1 := Lib.hid (v1.out.kept kk7)
            replace v3 := Lib.hid (v3.out.kept kk7)
            replace v4 := Lib.hid (v4.out.kept kk7)
            replace r2 := Lib.hid (r2.out.kept kk7)
            replace r3 := Lib.hid (r3.out.kept kk7)
            replace r4 := Lib.hid (r4.out.kept kk7)
            replace r5 := Lib.hid r5
            replace r6 := Lib.hid r6
            replace kk7 := kk6.trans kk7
            clear e0 e1 kk6
            have hB2 : Hid (∀ W, Keep w7 W → Bx W (w.heap.size + 1) [.int .i64 x, .int .i64 y]) := Lib.hid fun W h => B2.out.kept (kk7.trans h)
            obtain ⟨er, her⟩ : ∃ er, er = addErr zs p x := ⟨_, rfl⟩
            rw [← her]
            have HAw := Lib.hid fun (W : World) => awake_any W
            have VW : ∀ W, Keep w7 W → Vals W zs := fun W h => HV.out.kept (kk7.trans h)
            have HS1 := Lib.hid fun (W : World) (h : Keep w7 W) => Ref20.same_any A1 A2 n1 n2 f1 f2 u1 (add zs p x) W (by have := r1.out.1; have := LK1.out.len; have := add_len' zs p x; have := hl.out; omega) (r1.out.kept h) (r2.out.kept h) LK1.out (v1.out.kept h)
              (fun q hq => (add_mem zs p x q hq).elim (fun hq => VW W h q hq) (fun e => by subst e; exact ⟨HP.out.kept (kk7.trans h), by unfold maxLen; omega⟩)) (fun q hq => (add_mem zs p x q hq).elim (fun hq => by have := HS.out q hq; omega) (fun e => by subst e; omega))
            have HS2 := Lib.hid fun (W : World) (h : Keep w7 W) => Ref20.same_any A3 A5 n3 n5 f3 f5 u3 (Pn.due zs y) W (by have := r5.out.1; have := r3.out.1; have := LK3.out.len; have := List.length_filter_le (isDue y) zs; unfold Pn.due at *; have := hl.out; omega) (r3.out.kept h) (r5.out.kept h) LK3.out (v3.out.kept h) ((VW W h).sub (due_mem zs y)) (fun q hq => by have := HS.out q (due_mem zs y q hq); omega)
            have HS3 := Lib.hid fun (W : World) (h : Keep w7 W) => Ref20.same_any A4 A6 n4 n6 f4 f6 u4 (rest zs y) W (by have := r6.out.1; have := r4.out.1; have := LK4.out.len; have := List.length_filter_le (fun p => !isDue y p) zs; unfold rest at *; have := hl.out; omega) (r4.out.kept h) (r6.out.kept h) LK4.out (v4.out.kept h) ((VW W h).sub (rest_mem zs y)) (fun q hq => by have := HS.out q (rest_mem zs y q hq); omega)
            obtain ⟨fi, hfi⟩ : ∃ v, v = find zs x := ⟨_, rfl⟩
            have HF1 := Lib.hid fun (W : World) (h : Keep w7 W) => find_any A k c zs x W hn1 HW.out.1 HW.out.2 (HA.out.kept (kk7.trans h))
            have HF2 := Lib.hid fun (W : World) (h : Keep w7 W) => (Ref20.find_any A k c zs x W (by unfold maxLen; omega) (HA.out.kept (kk7.trans h))).mono fun e w' h => And.intro h.1 h.2.keep
            rw [← hfi] at HF1 HF2
            have HRow := Lib.hid fun (W : World) (h : Keep w7 W) => HA.out.kept (kk7.trans h)
            clear hfi her
            go_wp2_with fail
            refine Rel.wp_region_rel tellsD (tellsR zs x) (by kernel_rfl) (by kernel_rfl) (fun t _ v W W' hk h => tellsR_keep zs x t v W W' hk h) ?_
            refine Rel.rel_take' 36 (by kernel_rfl) ?_
            apply Exists.intro
            refine ⟨fun F hF hne => ?_, ?_⟩
            · skip
              simp only [List.take_succ_cons, List.take_zero]
              have hA0 := fun q : Rel.KeptIn w7 F => HAw.out q.w
              have hS1 := fun q : Rel.KeptIn w7 F => HS1.out q.w q.h
              have hS2 := fun q : Rel.KeptIn w7 F => HS2.out q.w q.h
              have hS3 := fun q : Rel.KeptIn w7 F => HS3.out q.w q.h
              have hF1 := fun q : Rel.KeptIn w7 F => HF1.out q.w q.h
              have hF2 := fun q : Rel.KeptIn w7 F => HF2.out q.w q.h
              have e0 := fun q : Rel.KeptIn w7 F => (Bx.two (hB2.out q.w q.h)).1
              repeat (go_big_quiet_step (first | with_reducible exact Rel.KeptIn.of hF (hA0 _) | with_reducible exact Rel.KeptIn.of hF (hS1 _) | with_reducible exact Rel.KeptIn.of hF (hS2 _) | with_reducible exact Rel.KeptIn.of hF (hS3 _) | with_reducible exact Rel.KeptIn.of hF (hF1 _) | with_reducible exact Rel.KeptIn.of hF (hF2 _)))
              refine Go.wpQuiet_nil ?_
              rfl
            simp only [List.drop_succ_cons, List.drop_zero]
            refine Rel.rel_call' 117 16 [.tmp 114, .tmp 116] #[22, 3] [] (fun V => [.slice A k c, .int .i64 x]) rfl rfl (by kernel_rfl) (fun _ => rfl) ?_ ?_
            · intro V W hk hV
              exact (drop_any A k c zs x W hn1 HW.out.1 HW.out.2 (HRow.out W hk) (VW W hk) SM.out).mono fun e W' ⟨B, m, q, us, he, _, _, hr, hlk, hv, hk'⟩ => ⟨_, he, hk', by unfold tellsR; rw [if_pos (by decide)]; exact ⟨B, m, q, us, rfl, hr, hlk, hv⟩⟩
            simp only [Act.put, List.setIfInBounds_toArray, List.set_cons_zero, List.set_cons_succ]
            refine Rel.rel_take' 3 (by kernel_rfl) ?_
            apply Exists.intro
            refine ⟨fun F hF hne => ?_, ?_⟩
            · simp only [List.take_succ_cons, List.take_zero]
              have e0 := fun q : Rel.KeptIn w7 F => (Bx.two (hB2.out q.w q.h)).1
              repeat (go_big_quiet_step (fail))
              refine Go.wpQuiet_nil ?_
              rfl
            simp only [List.drop_succ_cons, List.drop_zero]
            refine Rel.rel_call' 121 17 [.tmp 118, .tmp 120] #[22, 3] [] (fun V => [.slice A k c, .int .i64 x]) rfl rfl (by kernel_rfl) (fun _ => rfl) ?_ ?_
            · intro V W hk hV
              exact (Ref20.drop_any A k c zs x W hn1 (HRow.out W hk)).mono fun e W' ⟨B, m, q, he, _, _, hr, hk'⟩ => ⟨_, he, hk', by unfold tellsR; rw [if_pos (by decide)]; exact ⟨B, m, q, _, rfl, hr, Like.refl _, (VW W' (hk.trans hk')).sub (drop_mem zs x)⟩⟩
            simp only [Act.put, List.setIfInBounds_toArray, List.set_cons_zero, List.set_cons_succ]
            refine Rel.rel_callq' (.bool true) 122 13 [.tmp 117, .tmp 121] #[22, 22] [117, 121] (fun V => [V 117, V 121]) rfl rfl (by kernel_rfl) (fun _ => rfl) ?_ ?_
            · intro V W hk hV
              obtain ⟨B1, m1, q1, y1, u1, s1, lk1, vv1⟩ : ∃ A n c ys, V 117 = .slice A n c ∧ Row encQ 12 W W.heap.size A n ys ∧ Like (drop zs x) ys ∧ Vals W ys := by
                have := hV 117 (by simp)
                unfold tellsR at this
                rw [if_pos (by decide)] at this
                exact this
              obtain ⟨B2, m2, q2, y2, u2, s2, lk2, vv2⟩ : ∃ A n c ys, V 121 = .slice A n c ∧ Row encQ 12 W W.heap.size A n ys ∧ Like (drop zs x) ys ∧ Vals W ys := by
                have := hV 121 (by simp)
                unfold tellsR at this
                rw [if_pos (by decide)] at this
                exact this
              show Calls _ _ #[V 117, V 121] W _
              rw [u1, u2]
              exact Ref20.same_any B1 B2 m1 m2 q1 q2 y1 y2 W (by have := s1.1; have := lk1.len; have := drop_le zs x; have := hl.out; omega) s1 s2 (lk2.symm.trans lk1) vv1 vv2 (lk2.vlen fun q hq => by have := HS.out q (drop_mem zs x q hq); omega)
            simp only [Act.put, List.setIfInBounds_toArray, List.set_cons_zero, List.set_cons_succ]
            refine Rel.rel_take' 5 (by kernel_rfl) ?_
            apply Exists.intro
            refine ⟨fun F hF hne => ?_, ?_⟩
            · simp only [List.take_succ_cons, List.take_zero]
              have e0 := fun q : Rel.KeptIn w7 F => (Bx.two (hB2.out q.w q.h)).1
              repeat (go_big_quiet_step (fail))
              refine Go.wpQuiet_nil ?_
              rfl
            simp only [List.drop_succ_cons, List.drop_zero]
            refine Rel.rel_call' 128 18 [.tmp 125, .tmp 127] #[22, 3] [] (fun V => [.slice A k c, .int .i64 x]) rfl rfl (by kernel_rfl) (fun _ => rfl) ?_ ?_
            · intro V W hk hV
              exact (leave_any A k c zs x W hn1 HW.out.1 HW.out.2 (HRow.out W hk) (VW W hk) SM.out).mono fun e W' ⟨B, m, q, us, he, _, _, hr, hlk, hv, hk'⟩ => ⟨_, he, hk', by unfold tellsR; rw [if_neg (by decide), if_pos (by decide)]; exact ⟨B, m, q, us, rfl, hr, hlk, hv⟩⟩
            simp only [Act.put, List.setIfInBounds_toArray, List.set_cons_zero, List.set_cons_succ]
            refine Rel.rel_take' 3 (by kernel_rfl) ?_
            apply Exists.intro
            refine ⟨fun F hF hne => ?_, ?_⟩
            · simp only [List.take_succ_cons, List.take_zero]
              have e0 := fun q : Rel.KeptIn w7 F => (Bx.two (hB2.out q.w q.h)).1
              repeat (go_big_quiet_step (fail))
              refine Go.wpQuiet_nil ?_
              rfl
            simp only [List.drop_succ_cons, List.drop_zero]
            refine Rel.rel_call' 132 19 [.tmp 129, .tmp 131] #[22, 3] [] (fun V => [.slice A k c, .int .i64 x]) rfl rfl (by kernel_rfl) (fun _ => rfl) ?_ ?_
            · intro V W hk hV
              exact (Ref20.leave_any A k c zs x W hn1 (HRow.out W hk)).mono fun e W' ⟨B, m, q, he, _, _, hr, hk'⟩ => ⟨_, he, hk', by unfold tellsR; rw [if_neg (by decide), if_pos (by decide)]; exact ⟨B, m, q, _, rfl, hr, Like.refl _, (VW W' (hk.trans hk')).sub (leave_mem zs x)⟩⟩
            simp only [Act.put, List.setIfInBounds_toArray, List.set_cons_zero, List.set_cons_succ]
            refine Rel.rel_callq' (.bool true) 133 13 [.tmp 128, .tmp 132] #[22, 22] [128, 132] (fun V => [V 128, V 132]) rfl rfl (by kernel_rfl) (fun _ => rfl) ?_ ?_
            · intro V W hk hV
              obtain ⟨B1, m1, q1, y1, u1, s1, lk1, vv1⟩ : ∃ A n c ys, V 128 = .slice A n c ∧ Row encQ 12 W W.heap.size A n ys ∧ Like (leave zs x) ys ∧ Vals W ys := by
                have := hV 128 (by simp)
                unfold tellsR at this
                rw [if_neg (by decide), if_pos (by decide)] at this
                exact this
              obtain ⟨B2, m2, q2, y2, u2, s2, lk2, vv2⟩ : ∃ A n c ys, V 132 = .slice A n c ∧ Row encQ 12 W W.heap.size A n ys ∧ Like (leave zs x) ys ∧ Vals W ys := by
                have := hV 132 (by simp)
                unfold tellsR at this
                rw [if_neg (by decide), if_pos (by decide)] at this
                exact this
              show Calls _ _ #[V 128, V 132] W _
              rw [u1, u2]
              exact Ref20.same_any B1 B2 m1 m2 q1 q2 y1 y2 W (by have := s1.1; have := lk1.len; have := leave_le zs x; have := hl.out; omega) s1 s2 (lk2.symm.trans lk1) vv1 vv2 (lk2.vlen fun q hq => by have := HS.out q (leave_mem zs x q hq); omega)
            simp only [Act.put, List.setIfInBounds_toArray, List.set_cons_zero, List.set_cons_succ]
            refine Rel.rel_take' 3 (by kernel_rfl) ?_
            apply Exists.intro
            refine ⟨fun F hF hne => ?_, ?_⟩
            · simp only [List.take_succ_cons, List.take_zero]
              have e0 := fun q : Rel.KeptIn w7 F => (Bx.two (hB2.out q.w q.h)).1
              repeat (go_big_quiet_step (fail))
              refine Go.wpQuiet_nil ?_
              rfl
            simp only [List.drop_succ_cons, List.drop_zero]
            refine Rel.rel_call' 137 21 [.tmp 136] #[22] [] (fun V => [.slice A k c]) rfl rfl (by kernel_rfl) (fun _ => rfl) ?_ ?_
            · intro V W hk hV
              exact (outers_any A k c zs W hn1 HW.out.1 HW.out.2 (HRow.out W hk)).mono fun e W' ⟨B, m, q, he, _, _, hr, hk'⟩ => ⟨_, he, hk', by unfold tellsR; rw [if_neg (by decide), if_neg (by decide)]; exact ⟨B, m, q, rfl, hr⟩⟩
            simp only [Act.put, List.setIfInBounds_toArray, List.set_cons_zero, List.set_cons_succ]
            refine Rel.rel_take' 1 (by kernel_rfl) ?_
            apply Exists.intro
            refine ⟨fun F hF hne => ?_, ?_⟩
            · simp only [List.take_succ_cons, List.take_zero]
              have e0 := fun q : Rel.KeptIn w7 F => (Bx.two (hB2.out q.w q.h)).1
              repeat (go_big_quiet_step (fail))
              refine Go.wpQuiet_nil ?_
              rfl
            simp only [List.drop_succ_cons, List.drop_zero]
            refine Rel.rel_call' 139 22 [.tmp 138] #[22] [] (fun V => [.slice A k c]) rfl rfl (by kernel_rfl) (fun _ => rfl) ?_ ?_
            · intro V W hk hV
              exact (Ref20.outers_any A k c zs W hn1 (HRow.out W hk)).mono fun e W' ⟨B, m, q, he, _, _, hr, hk'⟩ => ⟨_, he, hk', by unfold tellsR; rw [if_neg (by decide), if_neg (by decide)]; exact ⟨B, m, q, rfl, hr⟩⟩
            simp only [Act.put, List.setIfInBounds_toArray, List.set_cons_zero, List.set_cons_succ]
            refine Rel.rel_callq' (.bool true) 140 20 [.tmp 137, .tmp 139] #[23, 23] [137, 139] (fun V => [V 137, V 139]) rfl rfl (by kernel_rfl) (fun _ => rfl) ?_ ?_
            · intro V W hk hV
              obtain ⟨B1, m1, q1, u1, s1⟩ : ∃ A n c, V 137 = .slice A n c ∧ Ints .i64 W W.heap.size A n (outers zs) := by
                have := hV 137 (by simp)
                unfold tellsR at this
                rw [if_neg (by decide), if_neg (by decide)] at this
                exact this
              obtain ⟨B2, m2, q2, u2, s2⟩ : ∃ A n c, V 139 = .slice A n c ∧ Ints .i64 W W.heap.size A n (outers zs) := by
                have := hV 139 (by simp)
                unfold tellsR at this
                rw [if_neg (by decide), if_neg (by decide)] at this
                exact this
              show Calls _ _ #[V 137, V 139] W _
              rw [u1, u2]
              refine (Ref1.ints_any _ _ _ _ _ _ _ _ _ (by have := s1.1; have : (outers zs).length = zs.length := List.length_map ..; have := hl.out; omega) s1 s2).mono ?_
              rintro e W' ⟨rfl, hq⟩
              exact ⟨by simp, hq.keep⟩
            simp only [Act.put, List.setIfInBounds_toArray, List.set_cons_zero, List.set_cons_succ]
            refine Rel.rel_take' 2 (by kernel_rfl) ?_
            apply Exists.intro
            refine ⟨fun F hF hne => ?_, ?_⟩
            · simp only [List.take_succ_cons, List.take_zero]
              have e0 := fun q : Rel.KeptIn w7 F => (Bx.two (hB2.out q.w q.h)).1
              repeat (go_big_quiet_step (fail))
              refine Go.wpQuiet_nil ?_
              rfl
            simp only [List.drop_succ_cons, List.drop_zero]
            refine Rel.rel_nil ?_
            intro V W hk _
            simp only [tellsD, Rel.fill, List.foldl_cons, List.foldl_nil, Act.put, List.setIfInBounds_toArray, List.set_cons_zero, List.set_cons_succ]
            go_wp2
            go_ret
            exact ⟨rfl, (k0.trans kk7).trans hk⟩
end Go.Proofs.Ytecajacpfikpcaa.Pend
