/- Layer 20's own: a list of copies, parting by a closure. Conditions: lists of at most a million. -/
import Derived.Test.YtecajacpfikpcaaPnB
namespace Go.Proofs.Ytecajacpfikpcaa.Pend
set_option linter.unusedVariables false
set_option maxRecDepth 100000
open Go.Shelf Go.ChangeShapes Go.WideShapes Go.ChangeAt Go.RowKit
open Pn
theorem set_app (a b : List Value) (m : Nat) (v : Value) (h : a.length = 12) : (a ++ b).set (12 + m) v = a ++ b.set m v := by
  rw [List.set_append_right _ _ (by omega), h, Nat.add_sub_cancel_left]
theorem flat_put (x : PendP) : ∀ (zs : List PendP) (i : Nat), (((((((((((((flat encQ zs).set (i * 12) (.int .i64 x.o)).set (i * 12 + 1) (.int .i64 x.cn)).set (i * 12 + 2) (.int .i64 x.lf)).set (i * 12 + 3) (.int .i64 x.id)).set (i * 12 + 4) (.int .i64 x.un)).set (i * 12 + 5) (.int .i64 x.ak.fc)).set (i * 12 + 6) (.int .i64 x.ak.rd)).set (i * 12 + 7) (.int .i64 x.ak.ct)).set (i * 12 + 8) (.int .i64 x.ak.wr)).set (i * 12 + 9) (.int .i64 x.ak.mn)).set (i * 12 + 10) (.slice x.A x.ak.vs.length x.c)).set (i * 12 + 11) (.int .i64 x.due)) = flat encQ (zs.set i x)
  | [], i => by simp [flat]
  | z :: zs, 0 => by
    simp only [flat_cons, List.set_cons_zero, Nat.zero_mul, Nat.zero_add]
    simp [encQ]
  | z :: zs, i + 1 => by
    have ih := flat_put x zs i
    have e0 : (i + 1) * 12 = 12 + i * 12 := by omega
    rw [List.set_cons_succ, flat_cons, flat_cons, ← ih]
    simp only [e0, Nat.add_assoc, set_app _ _ _ _ (encQ_len z)]
theorem own_put {w : World} {base : Nat} {e : TypeId} {g cap n : Nat} {zs : List PendP} (h : w.ownsRow base e 12 (.slice (some ⟨g, 0, none⟩) n cap) n (flat encQ zs)) (i : Nat) (x : PendP) :
    ((((((((((((w.setCell ⟨g, i * 12, none⟩ (.int .i64 x.o)).setCell ⟨g, i * 12 + 1, none⟩ (.int .i64 x.cn)).setCell ⟨g, i * 12 + 2, none⟩ (.int .i64 x.lf)).setCell ⟨g, i * 12 + 3, none⟩ (.int .i64 x.id)).setCell ⟨g, i * 12 + 4, none⟩ (.int .i64 x.un)).setCell ⟨g, i * 12 + 5, none⟩ (.int .i64 x.ak.fc)).setCell ⟨g, i * 12 + 6, none⟩ (.int .i64 x.ak.rd)).setCell ⟨g, i * 12 + 7, none⟩ (.int .i64 x.ak.ct)).setCell ⟨g, i * 12 + 8, none⟩ (.int .i64 x.ak.wr)).setCell ⟨g, i * 12 + 9, none⟩ (.int .i64 x.ak.mn)).setCell ⟨g, i * 12 + 10, none⟩ (.slice x.A x.ak.vs.length x.c)).setCell ⟨g, i * 12 + 11, none⟩ (.int .i64 x.due)).ownsRow base e 12 (.slice (some ⟨g, 0, none⟩) n cap) n (flat encQ (zs.set i x)) := by
  have := ((((((((((((h.stored (i * 12) (.int .i64 x.o)).1.stored (i * 12 + 1) (.int .i64 x.cn)).1.stored (i * 12 + 2) (.int .i64 x.lf)).1.stored (i * 12 + 3) (.int .i64 x.id)).1.stored (i * 12 + 4) (.int .i64 x.un)).1.stored (i * 12 + 5) (.int .i64 x.ak.fc)).1.stored (i * 12 + 6) (.int .i64 x.ak.rd)).1.stored (i * 12 + 7) (.int .i64 x.ak.ct)).1.stored (i * 12 + 8) (.int .i64 x.ak.wr)).1.stored (i * 12 + 9) (.int .i64 x.ak.mn)).1.stored (i * 12 + 10) (.slice x.A x.ak.vs.length x.c)).1.stored (i * 12 + 11) (.int .i64 x.due)).1
  rwa [flat_put] at this
theorem pair_set {w : World} {base b2 g n cap : Nat} {l : List PendP} {xs : List Value} (h : OwnV w base l ∧ w.ownsRow b2 27 12 (.slice (some ⟨g, 0, none⟩) n cap) n xs) (j : Nat) (u : Value) :
    OwnV (w.setCell ⟨g, j, none⟩ u) base l ∧ (w.setCell ⟨g, j, none⟩ u).ownsRow b2 27 12 (.slice (some ⟨g, 0, none⟩) n cap) n (xs.set j u) :=
  ⟨h.1.grown h.2 (h.2.stored j u).2, (h.2.stored j u).1⟩
theorem own_put_v {w : World} {base b2 g n cap : Nat} {l : List PendP} {xs : List Value} (hv : OwnV w base l) (h : w.ownsRow b2 27 12 (.slice (some ⟨g, 0, none⟩) n cap) n xs) (i : Nat) (x : PendP) :
    OwnV ((((((((((((w.setCell ⟨g, i * 12, none⟩ (.int .i64 x.o)).setCell ⟨g, i * 12 + 1, none⟩ (.int .i64 x.cn)).setCell ⟨g, i * 12 + 2, none⟩ (.int .i64 x.lf)).setCell ⟨g, i * 12 + 3, none⟩ (.int .i64 x.id)).setCell ⟨g, i * 12 + 4, none⟩ (.int .i64 x.un)).setCell ⟨g, i * 12 + 5, none⟩ (.int .i64 x.ak.fc)).setCell ⟨g, i * 12 + 6, none⟩ (.int .i64 x.ak.rd)).setCell ⟨g, i * 12 + 7, none⟩ (.int .i64 x.ak.ct)).setCell ⟨g, i * 12 + 8, none⟩ (.int .i64 x.ak.wr)).setCell ⟨g, i * 12 + 9, none⟩ (.int .i64 x.ak.mn)).setCell ⟨g, i * 12 + 10, none⟩ (.slice x.A x.ak.vs.length x.c)).setCell ⟨g, i * 12 + 11, none⟩ (.int .i64 x.due)) base l := (pair_set (pair_set (pair_set (pair_set (pair_set (pair_set (pair_set (pair_set (pair_set (pair_set (pair_set (pair_set ⟨hv, h⟩ (i * 12) (.int .i64 x.o)) (i * 12 + 1) (.int .i64 x.cn)) (i * 12 + 2) (.int .i64 x.lf)) (i * 12 + 3) (.int .i64 x.id)) (i * 12 + 4) (.int .i64 x.un)) (i * 12 + 5) (.int .i64 x.ak.fc)) (i * 12 + 6) (.int .i64 x.ak.rd)) (i * 12 + 7) (.int .i64 x.ak.ct)) (i * 12 + 8) (.int .i64 x.ak.wr)) (i * 12 + 9) (.int .i64 x.ak.mn)) (i * 12 + 10) (.slice x.A x.ak.vs.length x.c)) (i * 12 + 11) (.int .i64 x.due)).1
/-- A place of a row of the call's own: its cells, and that they may be written. -/
theorem own_pend {w : World} {base : Nat} {e : TypeId} {g cap n : Nat} {zs : List PendP} (h : w.ownsRow base e 12 (.slice (some ⟨g, 0, none⟩) n cap) n (flat encQ zs)) (j : Nat) (hj : j < n) :
    PAt w g (j * 12) (zs.getD j zero) ∧ ∀ i, w.frozen? ⟨g, i, none⟩ = false := by
  have hr := Row.of_own encQ_len h (by omega)
  have := (row_pend hr j hj).2
  rw [Nat.zero_add] at this
  exact ⟨this, fun i => h.frozenAt i⟩
theorem take_getD (l : List PendP) (k : Nat) (hk : k < l.length) : l.take (k + 1) = l.take k ++ [l.getD k zero] := by
  rw [List.take_succ_eq_append_getElem hk]
  simp [List.getD, List.getElem?_eq_getElem hk]
/-- A round of copying. -/
def CopyRel (w : World) (zs : List PendP) (v : Value) (n : Nat) (iv : Value) (wr : World) : Prop :=
  ∃ (k : Nat) (ys : List PendP), k ≤ n ∧ iv = .int .i64 k ∧ Hid (Like (zs.take k) ys) ∧ wr.ownsRow w.heap.size 27 12 v n (flat encQ (ys ++ zs.drop k)) ∧ Hid (OwnV wr w.heap.size ys) ∧ Keep w wr
set_option maxHeartbeats 4000000 in
theorem copyAll_any (A : Option Addr) (n c : Nat) (zs : List PendP) (w : World) (hn : n ≤ 1000000) (hA : Row encQ 12 w w.heap.size A n zs) (hV : Vals w zs) (hS : SmV zs) :
    Calls Try.prog 23 #[.slice A n c] w fun e w' => ∃ B d ys, e = .returned (.slice B n d) ∧ w'.ownsRow w.heap.size 27 12 (.slice B n d) n (flat encQ ys) ∧ Like zs ys ∧ OwnV w' w.heap.size ys ∧ Keep w w' := by
  have hl := Lib.hid hA.1
  have HV := Lib.hid hV
  have HS := Lib.hid hS
  have HC := clone_any A n c zs w hn hA
  clear hV hS hA
  go_enter Try.func23, Try.ntmps23
  go_wp2_with fail
  refine HC.mono ?_
  rintro e w1 ⟨B, d, rfl, hown, hk1⟩
  clear HC
  go_wp2
  go_loopw [10] (fun iv wr => CopyRel w zs (.slice B n d) n iv wr) (fun iv _ => n - (intOf iv).toNat)
  case atStart => exact ⟨0, [], Nat.zero_le _, rfl, Lib.hid (Like.refl _), by simpa using hown, Lib.hid (OwnV.nil _ _), hk1⟩
  case round =>
    obtain ⟨k, ys, hk, rfl, HL, hown, HO, hK⟩ := hrel
    by_cases hlt : k < n
    · have hltz : (k : Int) < n := by omega
      have hk0 : (0 : Int) ≤ k := by omega
      obtain ⟨g, cap, hA1, hb1, hb2⟩ := hown.form (by omega)
      injection hA1 with hA1 _ hA2
      subst hA1 hA2
      obtain ⟨hp, hfz⟩ := own_pend hown k hlt
      have hyl : ys.length = k := by rw [HL.out.len, List.length_take, hl.out]; omega
      have hget : (ys ++ zs.drop k).getD k zero = zs.getD k zero := by
        rw [List.getD_eq_getElem?_getD, List.getElem?_append_right (by omega), hyl, Nat.sub_self, List.getElem?_drop, Nat.add_zero, ← List.getD_eq_getElem?_getD]
      rw [hget] at hp
      have hmem := getD_mem zs k (by rw [hl.out]; exact hlt)
      obtain ⟨p, hpe⟩ : ∃ p, p = zs.getD k zero := ⟨_, rfl⟩
      rw [← hpe] at hp hmem
      have HP := Lib.hid hpe
      have kX : Keep wr (wr.alloc (.cells (cellsQ p) 27)) := (Keep.refl wr).alloc _
      have hcall := copyOf_any p (wr.alloc (.cells (cellsQ p) 27)) (HS.out p hmem) ((HV.out p hmem).1.kept (hK.trans kX))
      have HC := Lib.hid hcall
      have hgw := (hown.lt g rfl).2
      have hgne : g ≠ wr.heap.size := by omega
      have HY := Lib.hid hyl
      have HM := Lib.hid hmem
      clear hcall hpe hmem hget hyl
      obtain ⟨c0, c1, c2, c3, c4, c5, c6, c7, c8, c9, c10, c11⟩ := hp
      go_wp2_with fail
      refine HC.out.mono ?_
      rintro e w2 ⟨B2, d2, rfl, hvo, hk2⟩
      have hkk := (kX.trans hk2)
      have hown2 := own_keep hown hkk
      have HO2 := Lib.hid (HO.out.keep hkk)
      obtain ⟨hp2, hfz2⟩ := own_pend hown2 k hlt
      clear c0 c1 c2 c3 c4 c5 c6 c7 c8 c9 c10 c11 hfz
      obtain ⟨c0, c1, c2, c3, c4, c5, c6, c7, c8, c9, c10, c11⟩ := hp2
      have f0 := hfz2 (k * 12)
      have f1 := hfz2 (k * 12 + 1)
      have f2 := hfz2 (k * 12 + 2)
      have f3 := hfz2 (k * 12 + 3)
      have f4 := hfz2 (k * 12 + 4)
      have f5 := hfz2 (k * 12 + 5)
      have f6 := hfz2 (k * 12 + 6)
      have f7 := hfz2 (k * 12 + 7)
      have f8 := hfz2 (k * 12 + 8)
      have f9 := hfz2 (k * 12 + 9)
      have f10 := hfz2 (k * 12 + 10)
      have f11 := hfz2 (k * 12 + 11)
      have hput := own_put hown2 k (wh p B2 d2)
      have hputv := own_put_v HO2.out hown2 k (wh p B2 d2)
      have hvo2 := own_put_v (l := [wh p B2 d2]) (base := w.heap.size) (fun q hq => by
        obtain rfl : q = wh p B2 d2 := by simpa using hq
        exact ownsRow_mono (hK.trans kX).size hvo) hown2 k (wh p B2 d2)
      have hset : (ys ++ zs.drop k).set k (wh p B2 d2) = (ys ++ [wh p B2 d2]) ++ zs.drop (k + 1) := by
        rw [List.set_append_right _ _ (by rw [HY.out]; omega), HY.out, Nat.sub_self, List.drop_eq_getElem_cons (by rw [hl.out]; exact hlt), List.set_cons_zero, List.append_assoc]
        rfl
      rw [hset] at hput
      have hkf : ∀ o v, Keep w (w2.setCell ⟨g, o, none⟩ v) := fun o v => keep_set (hK.trans hkk) _ hb1 v
      have HF := Lib.hid (And.intro hput (And.intro hputv hvo2))
      have HKK := Lib.hid (hK.trans hkk)
      clear hput hputv hvo2 hset hkf hown2 hown hvo hfz2 hkk hk2 kX
      go_wp2
      refine ⟨⟨k + 1, ys ++ [wh p B2 d2], by omega, by go_num, Lib.hid ?_, HF.out.1, Lib.hid ?_, ?_⟩, by simp [intOf]; omega⟩
      · rw [take_getD zs k (by rw [hl.out]; exact hlt), ← HP.out]
        exact HL.out.snoc p B2 d2
      · exact fun q hq => (List.mem_append.1 hq).elim (fun h => HF.out.2.1 q h) (fun h => HF.out.2.2 q h)
      · repeat refine keep_set ?_ _ hb1 _
        exact HKK.out
    · obtain rfl : k = n := by omega
      have hr := hown
      rw [List.drop_of_length_le (by rw [hl.out]; omega), List.append_nil] at hr
      have h := HL.out
      rw [List.take_of_length_le (by rw [hl.out]; omega)] at h
      go_wp2
      go_ret
      exact ⟨B, d, ys, rfl, hr, h, HO.out, hK⟩
theorem apart_l {v v' u : Value} {W : World} {base : Nat} {e : TypeId} {k n : Nat} {xs : List Value} (h : v.ownBlock = none ∨ u.ownBlock = none ∨ v.ownBlock ≠ u.ownBlock) (hu : W.ownsRow base e k u n xs) (hv : v'.ownBlock = v.ownBlock ∨ v'.ownBlock = some W.heap.size) :
    v'.ownBlock = none ∨ u.ownBlock = none ∨ v'.ownBlock ≠ u.ownBlock := by
  rcases hv with e | e
  · rw [e]; exact h
  · cases hb : u.ownBlock with
    | none => exact .inr (.inl rfl)
    | some g =>
      refine .inr (.inr ?_)
      rw [e]
      intro h
      injection h with h
      have := (hu.lt g hb).2
      omega
theorem apart_symm {v u : Value} (h : v.ownBlock = none ∨ u.ownBlock = none ∨ v.ownBlock ≠ u.ownBlock) : u.ownBlock = none ∨ v.ownBlock = none ∨ u.ownBlock ≠ v.ownBlock := by
  rcases h with h | h | h
  · exact .inr (.inl h)
  · exact .inl h
  · exact .inr (.inr fun e => h e.symm)
theorem apart_ne {v u : Value} (h : v.ownBlock = none ∨ u.ownBlock = none ∨ v.ownBlock ≠ u.ownBlock) : u.ownBlock = none ∨ u.ownBlock ≠ v.ownBlock := by
  rcases h with h | h | h
  · cases hu : u.ownBlock with
    | none => exact .inl rfl
    | some g => exact .inr (by rw [h]; exact fun e => by cases e)
  · exact .inl h
  · exact .inr fun e => h e.symm
/-- A closure that tests a place and what stands there. -/
def TestsI (g : Nat) (lb : Array Value) (q : Nat → PendP → Bool) (w : World) : Prop :=
  ∀ (W : World) (k : Nat) (p : PendP), Keep w W → Calls Try.prog g (#[.int .i64 (k : Int), .agg (cellsQ p)] ++ lb) W fun e w' => e = .returned (.bool (q k p)) ∧ Keep W w'
def PartRel (w : World) (G R : Nat → List PendP) (n : Nat) (o1 o2 iv : Value) (wr : World) : Prop :=
  ∃ (k : Nat) (xs ys : List PendP), k ≤ n ∧ iv = .int .i64 k ∧ Hid (Like (G k) xs ∧ Like (R k) ys) ∧ wr.ownsRow w.heap.size 27 12 o1 xs.length (flat encQ xs) ∧ wr.ownsRow w.heap.size 27 12 o2 ys.length (flat encQ ys) ∧
    Hid (o1.ownBlock = none ∨ o2.ownBlock = none ∨ o1.ownBlock ≠ o2.ownBlock) ∧ Hid (OwnV wr w.heap.size xs ∧ OwnV wr w.heap.size ys) ∧ Keep w wr ∧ xs.length ≤ k ∧ ys.length ≤ k
set_option maxHeartbeats 4000000 in
theorem part_any (A : Option Addr) (n c : Nat) (zs : List PendP) (g : Nat) (lb : Array Value) (q : Nat → PendP → Bool) (G R : Nat → List PendP) (w : World) (hn : n ≤ 1000000) (hA : Row encQ 12 w w.heap.size A n zs) (hV : Vals w zs) (hS : SmV zs)
    (eg : ∀ args w, (callFunc g args).run Try.prog w = .ok (.enter g args) w) (hp : TestsI g lb q w) (h0 : G 0 = [] ∧ R 0 = [])
    (hs : ∀ k, k < n → if q k (zs.getD k zero) = true then G (k + 1) = G k ++ [zs.getD k zero] ∧ R (k + 1) = R k else G (k + 1) = G k ∧ R (k + 1) = R k ++ [zs.getD k zero]) :
    Calls Try.prog 25 #[.slice A n c, .func (.func g) #[] lb] w (RetLL (G n) (R n) w) := by
  have hl := Lib.hid hA.1
  have HV := Lib.hid hV
  have HS := Lib.hid hS
  have HA := Lib.hid hA
  have HT := Lib.hid hp
  have HG := Lib.hid h0
  have HQ := Lib.hid hs
  clear hV hS hA hp h0 hs
  go_enter Try.func25, Try.ntmps25
  go_wp2
  go_loopw [4, 5, 10] (fun o1 o2 iv wr => PartRel w G R n o1 o2 iv wr) (fun _ _ iv _ => n - (intOf iv).toNat)
  case atStart => exact ⟨0, [], [], Nat.zero_le _, rfl, Lib.hid (by rw [HG.out.1, HG.out.2]; exact ⟨Like.refl _, Like.refl _⟩), ⟨rfl, .inl ⟨rfl, rfl⟩⟩, ⟨rfl, .inl ⟨rfl, rfl⟩⟩, .inl rfl, Lib.hid ⟨OwnV.nil _ _, OwnV.nil _ _⟩, Keep.refl _, Nat.zero_le _, Nat.zero_le _⟩
  case round =>
    obtain ⟨k, xs, ys, hk, rfl, HL, hown, hown2, HO, HOV, hK, hal, hal2⟩ := hrel
    obtain ⟨OA, oc, rfl⟩ := own_slice hown
    obtain ⟨OB, oc2, rfl⟩ := own_slice hown2
    by_cases hlt : k < n
    · obtain ⟨b, off, rfl, _⟩ := HA.out.addr (by omega)
      obtain ⟨hb, hp⟩ := row_pend HA.out k hlt
      have hp' := hp.kept hb hK
      have hst := HQ.out k hlt
      have hmem := getD_mem zs k (by rw [hl.out]; exact hlt)
      obtain ⟨p, hpe⟩ : ∃ p, p = zs.getD k zero := ⟨_, rfl⟩
      rw [← hpe] at hp' hmem
      rw [← hpe] at hst
      have HP := Lib.hid hpe
      have HM := Lib.hid hmem
      have HST0 := Lib.hid (show G (k + 1) = G (k + 1) from rfl)
      clear hpe hmem hp
      obtain ⟨c0, c1, c2, c3, c4, c5, c6, c7, c8, c9, c10, c11⟩ := hp'
      have hltz : (k : Int) < n := by omega
      have hk0 : (0 : Int) ≤ k := by omega
      have kX : Keep wr (wr.alloc (.cells #[.int .i64 p.o, .int .i64 p.cn, .int .i64 p.lf, .int .i64 p.id, .int .i64 p.un, .int .i64 p.ak.fc, .int .i64 p.ak.rd, .int .i64 p.ak.ct, .int .i64 p.ak.wr, .int .i64 p.ak.mn, .slice p.A p.ak.vs.length p.c, .int .i64 p.due] 27)) := (Keep.refl wr).alloc _
      have hcall := HT.out (wr.alloc (.cells #[.int .i64 p.o, .int .i64 p.cn, .int .i64 p.lf, .int .i64 p.id, .int .i64 p.un, .int .i64 p.ak.fc, .int .i64 p.ak.rd, .int .i64 p.ak.ct, .int .i64 p.ak.wr, .int .i64 p.ak.mn, .slice p.A p.ak.vs.length p.c, .int .i64 p.due] 27)) k p (hK.trans kX)
      have HKR := Lib.hid hK
      have HKX0 := Lib.hid kX
      have HOW := Lib.hid (And.intro hown hown2)
      clear hown hown2 kX hK
      cases hv : q k p with
      | true =>
        rw [hv] at hcall hst
        have HST := Lib.hid (by simpa using hst)
        clear hst hv
        go_wp2_with fail
        refine hcall.mono ?_
        rintro e w2 ⟨rfl, hk2⟩
        have hb2 : ∀ i v, (cellsQ p)[i]? = some v → w2.cell? ⟨wr.heap.size, i, none⟩ = some v := fun i v h => (Below.cell hk2 (by simp)).trans (by simpa using h)
        clear c0 c1 c2 c3 c4 c5 c6 c7 c8 c9 c10 c11 hcall
        have c0 := hb2 0 _ rfl
        have c1 := hb2 1 _ rfl
        have c2 := hb2 2 _ rfl
        have c3 := hb2 3 _ rfl
        have c4 := hb2 4 _ rfl
        have c5 := hb2 5 _ rfl
        have c6 := hb2 6 _ rfl
        have c7 := hb2 7 _ rfl
        have c8 := hb2 8 _ rfl
        have c9 := hb2 9 _ rfl
        have c10 := hb2 10 _ rfl
        have c11 := hb2 11 _ rfl
        have HK2 := Lib.hid ((HKR.out.trans HKX0.out).trans hk2)
        have HKX := Lib.hid (HKX0.out.trans hk2)
        have HKw := HKR
        clear hk2 hb2
        go_wp2_with fail
        refine (copyOf_any p w2 (HS.out p HM.out) ((HV.out p HM.out).1.kept HK2.out)).mono ?_
        rintro e w3 ⟨B2, d2, rfl, hvo, hk3⟩
        have hkk := (HKX.out.trans hk3).alloc (.cells #[.int .i64 p.o, .int .i64 p.cn, .int .i64 p.lf, .int .i64 p.id, .int .i64 p.un, .int .i64 p.ak.fc, .int .i64 p.ak.rd, .int .i64 p.ak.ct, .int .i64 p.ak.wr, .int .i64 p.ak.mn, .slice B2 p.ak.vs.length d2, .int .i64 p.due] 27)
        have ho1 := own_keep HOW.out.1 hkk
        have ho2 := own_keep HOW.out.2 hkk
        have hV1 := HOV.out.1.keep hkk
        have hV2 := HOV.out.2.keep hkk
        have hv3 := OwnV.keep (l := [wh p B2 d2]) (base := w.heap.size) (fun q hq => by
          obtain rfl : q = wh p B2 d2 := by simpa using hq
          exact ownsRow_mono (HK2.out.size) hvo) ((Keep.refl w3).alloc (.cells #[.int .i64 p.o, .int .i64 p.cn, .int .i64 p.lf, .int .i64 p.id, .int .i64 p.un, .int .i64 p.ak.fc, .int .i64 p.ak.rd, .int .i64 p.ak.ct, .int .i64 p.ak.wr, .int .i64 p.ak.mn, .slice B2 p.ak.vs.length d2, .int .i64 p.due] 27))
        have hrow : Row encQ 12 (w3.alloc (.cells #[.int .i64 p.o, .int .i64 p.cn, .int .i64 p.lf, .int .i64 p.id, .int .i64 p.un, .int .i64 p.ak.fc, .int .i64 p.ak.rd, .int .i64 p.ak.ct, .int .i64 p.ak.wr, .int .i64 p.ak.mn, .slice B2 p.ak.vs.length d2, .int .i64 p.due] 27)) (w3.heap.size + 1) (some ⟨w3.heap.size, 0, none⟩) 1 [wh p B2 d2] := row_one w3 (wh p B2 d2) 27
        have hkw : Keep w (w3.alloc (.cells #[.int .i64 p.o, .int .i64 p.cn, .int .i64 p.lf, .int .i64 p.id, .int .i64 p.un, .int .i64 p.ak.fc, .int .i64 p.ak.rd, .int .i64 p.ak.ct, .int .i64 p.ak.wr, .int .i64 p.ak.mn, .slice B2 p.ak.vs.length d2, .int .i64 p.due] 27)) := HKw.out.trans hkk
        have hszV : w.heap.size ≤ (w3.alloc (.cells #[.int .i64 p.o, .int .i64 p.cn, .int .i64 p.lf, .int .i64 p.id, .int .i64 p.un, .int .i64 p.ak.fc, .int .i64 p.ak.rd, .int .i64 p.ak.ct, .int .i64 p.ak.wr, .int .i64 p.ak.mn, .slice B2 p.ak.vs.length d2, .int .i64 p.due] 27)).heap.size := hkw.size
        have HKW := Lib.hid hkw
        have HVV := Lib.hid (And.intro hV1 (And.intro hV2 hv3))
        clear hkk hkw hV1 hV2 hv3 hvo hk3
        go_wp2_with (at_builtin; refine append_rows_k rfl _ _ 22 rfl w.heap.size 27 _ 112 Try.underlying22 info_pend rfl (by omega) encQ_len encQ_one _ xs.length xs rfl ho1 hszV _ _ 1 1 [wh p B2 d2] rfl hrow (by unfold maxLen; omega) (by omega) ?_)
        intro v' w4 hown' hb1 hg1 hat1
        have hKw4 : Keep w w4 := Below.trans HKW.out hb1
        have hoth := ho2.kept hg1 (apart_ne HO.out)
        have hap := apart_l HO.out ho2 (by simpa using hat1)
        have hV4 := HVV.out.1.grown ho1 hg1
        have hV5 := HVV.out.2.1.grown ho1 hg1
        have hV6 := HVV.out.2.2.grown ho1 hg1
        have HF := Lib.hid (And.intro hap (And.intro hV4 (And.intro hV5 hV6)))
        clear hap hV4 hV5 hV6 ho1 ho2 hg1 hat1 hrow hb1
        go_wp2
        refine ⟨⟨k + 1, xs ++ [wh p B2 d2], ys, by omega, by go_num, Lib.hid ?_, by rw [List.length_append]; exact hown', hoth, Lib.hid HF.out.1, Lib.hid ?_, hKw4, by (try rw [List.length_append]); (try simp); omega, by (try rw [List.length_append]); (try simp); omega⟩, by simp [intOf]; omega⟩
        · obtain ⟨s1, s2⟩ := HST.out
          rw [s1, s2]
          exact ⟨HL.out.1.snoc p B2 d2, HL.out.2⟩
        · exact ⟨fun q hq => (List.mem_append.1 hq).elim (fun h => HF.out.2.1 q h) (fun h => HF.out.2.2.2 q h), HF.out.2.2.1⟩
      | false =>
        rw [hv] at hcall hst
        have HST := Lib.hid (by simpa using hst)
        clear hst hv
        go_wp2_with fail
        refine hcall.mono ?_
        rintro e w2 ⟨rfl, hk2⟩
        have hb2 : ∀ i v, (cellsQ p)[i]? = some v → w2.cell? ⟨wr.heap.size, i, none⟩ = some v := fun i v h => (Below.cell hk2 (by simp)).trans (by simpa using h)
        clear c0 c1 c2 c3 c4 c5 c6 c7 c8 c9 c10 c11 hcall
        have c0 := hb2 0 _ rfl
        have c1 := hb2 1 _ rfl
        have c2 := hb2 2 _ rfl
        have c3 := hb2 3 _ rfl
        have c4 := hb2 4 _ rfl
        have c5 := hb2 5 _ rfl
        have c6 := hb2 6 _ rfl
        have c7 := hb2 7 _ rfl
        have c8 := hb2 8 _ rfl
        have c9 := hb2 9 _ rfl
        have c10 := hb2 10 _ rfl
        have c11 := hb2 11 _ rfl
        have HK2 := Lib.hid ((HKR.out.trans HKX0.out).trans hk2)
        have HKX := Lib.hid (HKX0.out.trans hk2)
        have HKw := HKR
        clear hk2 hb2
        go_wp2_with fail
        refine (copyOf_any p w2 (HS.out p HM.out) ((HV.out p HM.out).1.kept HK2.out)).mono ?_
        rintro e w3 ⟨B2, d2, rfl, hvo, hk3⟩
        have hkk := (HKX.out.trans hk3).alloc (.cells #[.int .i64 p.o, .int .i64 p.cn, .int .i64 p.lf, .int .i64 p.id, .int .i64 p.un, .int .i64 p.ak.fc, .int .i64 p.ak.rd, .int .i64 p.ak.ct, .int .i64 p.ak.wr, .int .i64 p.ak.mn, .slice B2 p.ak.vs.length d2, .int .i64 p.due] 27)
        have ho1 := own_keep HOW.out.1 hkk
        have ho2 := own_keep HOW.out.2 hkk
        have hV1 := HOV.out.1.keep hkk
        have hV2 := HOV.out.2.keep hkk
        have hv3 := OwnV.keep (l := [wh p B2 d2]) (base := w.heap.size) (fun q hq => by
          obtain rfl : q = wh p B2 d2 := by simpa using hq
          exact ownsRow_mono (HK2.out.size) hvo) ((Keep.refl w3).alloc (.cells #[.int .i64 p.o, .int .i64 p.cn, .int .i64 p.lf, .int .i64 p.id, .int .i64 p.un, .int .i64 p.ak.fc, .int .i64 p.ak.rd, .int .i64 p.ak.ct, .int .i64 p.ak.wr, .int .i64 p.ak.mn, .slice B2 p.ak.vs.length d2, .int .i64 p.due] 27))
        have hrow : Row encQ 12 (w3.alloc (.cells #[.int .i64 p.o, .int .i64 p.cn, .int .i64 p.lf, .int .i64 p.id, .int .i64 p.un, .int .i64 p.ak.fc, .int .i64 p.ak.rd, .int .i64 p.ak.ct, .int .i64 p.ak.wr, .int .i64 p.ak.mn, .slice B2 p.ak.vs.length d2, .int .i64 p.due] 27)) (w3.heap.size + 1) (some ⟨w3.heap.size, 0, none⟩) 1 [wh p B2 d2] := row_one w3 (wh p B2 d2) 27
        have hkw : Keep w (w3.alloc (.cells #[.int .i64 p.o, .int .i64 p.cn, .int .i64 p.lf, .int .i64 p.id, .int .i64 p.un, .int .i64 p.ak.fc, .int .i64 p.ak.rd, .int .i64 p.ak.ct, .int .i64 p.ak.wr, .int .i64 p.ak.mn, .slice B2 p.ak.vs.length d2, .int .i64 p.due] 27)) := HKw.out.trans hkk
        have hszV : w.heap.size ≤ (w3.alloc (.cells #[.int .i64 p.o, .int .i64 p.cn, .int .i64 p.lf, .int .i64 p.id, .int .i64 p.un, .int .i64 p.ak.fc, .int .i64 p.ak.rd, .int .i64 p.ak.ct, .int .i64 p.ak.wr, .int .i64 p.ak.mn, .slice B2 p.ak.vs.length d2, .int .i64 p.due] 27)).heap.size := hkw.size
        have HKW := Lib.hid hkw
        have HVV := Lib.hid (And.intro hV1 (And.intro hV2 hv3))
        clear hkk hkw hV1 hV2 hv3 hvo hk3
        go_wp2_with (at_builtin; refine append_rows_k rfl _ _ 22 rfl w.heap.size 27 _ 112 Try.underlying22 info_pend rfl (by omega) encQ_len encQ_one _ ys.length ys rfl ho2 hszV _ _ 1 1 [wh p B2 d2] rfl hrow (by unfold maxLen; omega) (by omega) ?_)
        intro v' w4 hown' hb1 hg1 hat1
        have hKw4 : Keep w w4 := Below.trans HKW.out hb1
        have hoth := ho1.kept hg1 (apart_ne (apart_symm HO.out))
        have hap := apart_symm (apart_l (apart_symm HO.out) ho1 (by simpa using hat1))
        have hV4 := HVV.out.1.grown ho2 hg1
        have hV5 := HVV.out.2.1.grown ho2 hg1
        have hV6 := HVV.out.2.2.grown ho2 hg1
        have HF := Lib.hid (And.intro hap (And.intro hV4 (And.intro hV5 hV6)))
        clear hap hV4 hV5 hV6 ho1 ho2 hg1 hat1 hrow hb1
        go_wp2
        refine ⟨⟨k + 1, xs, ys ++ [wh p B2 d2], by omega, by go_num, Lib.hid ?_, hoth, by rw [List.length_append]; exact hown', Lib.hid HF.out.1, Lib.hid ?_, hKw4, by (try rw [List.length_append]); (try simp); omega, by (try rw [List.length_append]); (try simp); omega⟩, by simp [intOf]; omega⟩
        · obtain ⟨s1, s2⟩ := HST.out
          rw [s1, s2]
          exact ⟨HL.out.1, HL.out.2.snoc p B2 d2⟩
        · exact ⟨HF.out.2.1, fun q hq => (List.mem_append.1 hq).elim (fun h => HF.out.2.2.1 q h) (fun h => HF.out.2.2.2 q h)⟩
    · obtain rfl : k = n := by omega
      go_wp2
      go_ret2
      have hr := Row.of_own encQ_len hown (by omega)
      have hr2 := Row.of_own encQ_len hown2 (by omega)
      exact ⟨OA, _, oc, OB, _, oc2, xs, ys, rfl, own_le hown, own_le hown2, hr, hr2, HL.out.1, HL.out.2, HOV.out.1.vals, HOV.out.2.vals, hK⟩
end Go.Proofs.Ytecajacpfikpcaa.Pend
