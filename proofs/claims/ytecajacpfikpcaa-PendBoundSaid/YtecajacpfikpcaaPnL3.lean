/- Layer 20's law PendBound. Conditions: none beyond the law's own. -/
import Derived.Test.YtecajacpfikpcaaPnL
import Derived.Test.YtecajacpfikpcaaOpen
namespace Go.Proofs.Ytecajacpfikpcaa.Pend
set_option linter.unusedVariables false
set_option linter.unusedSimpArgs false
set_option maxRecDepth 100000
open Go.ChangeShapes Go.WideShapes Go.ChangeAt Go.RowKit
open Pn
theorem in_i16 {z : Int} (h : (Lit.int .i16 z).wf = true) : -32768 ≤ z ∧ z ≤ 32767 := by
  simp [Lit.wf] at h
  have e1 : IntKind.i16.min = -32768 := rfl
  have e2 : IntKind.i16.max = 32767 := rfl
  omega
theorem in_u8' {z : Int} (h : (Lit.int .u8 z).wf = true) : 0 ≤ z ∧ z ≤ 255 := by
  simp [Lit.wf] at h
  have e1 : IntKind.u8.min = 0 := rfl
  have e2 : IntKind.u8.max = 255 := rfl
  omega
theorem opens_i16s : Opens Try.prog 42 fun W cs => ∃ A n c zs, cs = [.slice A n c] ∧ n ≤ c ∧ c ≤ maxLen ∧ IntsIn .i16 W A n zs :=
  opens_ints Try.underlying42 Try.underlying43 (by kernel_rfl)
/-- Requests without values, of small numbers. -/
def Plain (l : List PendP) : Prop := ∀ p ∈ l, p.ak.vs = [] ∧ 0 ≤ p.o ∧ p.o ≤ 15
theorem Plain.nil : Plain [] := fun p hp => by cases hp
theorem Plain.vals {w : World} {l : List PendP} (h : Plain l) : Vals w l := vals_nil fun p hp => (h p hp).1
theorem Plain.sm {l : List PendP} (h : Plain l) : SmV l := smv_nil fun p hp => (h p hp).1
theorem Plain.sub {l m : List PendP} (h : Plain l) (hs : ∀ p ∈ m, p ∈ l) : Plain m := fun p hp => h p (hs p hp)
theorem Plain.wf {l : List PendP} (h : Plain l) : ∀ p ∈ l, (Lit.int .i64 p.o).wf = true := fun p hp => by
  obtain ⟨_, h1, h2⟩ := h p hp
  have e1 : IntKind.i64.min = -9223372036854775808 := rfl
  have e2 : IntKind.i64.max = 9223372036854775807 := rfl
  simp [Lit.wf, e1, e2]
  omega
theorem Plain.like {l m : List PendP} (h : Plain l) (k : Like l m) : Plain m := fun p hp => by
  have : nrm p ∈ l.map nrm := by
    rw [← show m.map nrm = l.map nrm from k]
    exact List.mem_map.2 ⟨p, hp, rfl⟩
  obtain ⟨q, hq, e⟩ := List.mem_map.1 this
  have := h q hq
  have e2 : q.ak = p.ak ∧ q.o = p.o := by cases p; cases q; simp [nrm, wh] at e; exact ⟨e.2.2.2.2.2.1, e.1⟩
  rwa [e2.1, e2.2] at this
theorem Plain.add {l : List PendP} (h : Plain l) {p : PendP} (hp : p.ak.vs = [] ∧ 0 ≤ p.o ∧ p.o ≤ 15) {m : Int} : Plain (Pn.add l p m) := fun q hq => by
  rcases add_mem l p m q hq with h1 | rfl
  · exact h q h1
  · exact hp
set_option maxHeartbeats 8000000 in
theorem bound_any (A : Option Addr) (n c : Nat) (ac : List Int) (z : Int) (w : World) (hn : n ≤ maxLen) (hA : IntsIn .i16 w A n ac) (h0 : 0 ≤ z) (h1 : z ≤ 255) :
    Calls Try.prog 4 #[.slice A n c, .int .u8 z] w fun e w' => e = .returned (.bool true) ∧ Keep w w' := by
  by_cases hb : 200 < n
  · have d1 : decide ((200 : Int) < (n : Int)) = true := by simp; omega
    clear hb hA
    unfold maxLen at hn
    go_enter Try.func4, Try.ntmps4
    go_wp2_with fail
    refine (awake_any _).mono ?_
    rintro e w1 ⟨rfl, k1⟩
    go_wp2
    go_ret
    exact ⟨rfl, k1⟩
  · have d1 : decide ((200 : Int) < (n : Int)) = false := by simp; omega
    have hn2 : n ≤ 200 := by omega
    have HA := Lib.hid hA
    have hlen : ac.length = n := hA.1.1
    have HLN := Lib.hid hlen
    have hm0 : 0 ≤ z % 9 := by omega
    have hm8 : z % 9 ≤ 8 := by omega
    clear hb hA hlen hn
    go_enter Try.func4, Try.ntmps4
    go_wp2
    obtain ⟨m, hm⟩ : ∃ m, m = z % 9 := ⟨_, rfl⟩
    rw [← hm] at hm0 hm8
    have HM := Lib.hid hm
    try rw [← hm]
    clear hm
    go_loopw [5, 7] (fun lv iv wr => ∃ (k : Nat) (zs : List PendP) (L : Option Addr) (lc : Nat), k ≤ n ∧ iv = .int .i64 k ∧ lv = .slice L zs.length lc ∧ zs.length ≤ lc ∧ lc ≤ maxLen ∧ (zs.length : Int) ≤ m ∧ Hid (Row encQ 12 wr wr.heap.size L zs.length zs) ∧ Hid (right zs = true) ∧ Hid (Plain zs) ∧ Keep w wr) (fun _ iv _ => n - (intOf iv).toNat)
    case atStart => exact ⟨0, [], none, 0, Nat.zero_le _, rfl, rfl, Nat.le_refl _, Nat.zero_le _, hm0, Lib.hid (Row.none_ _ _ _), Lib.hid (by simp [right, outers]), Lib.hid (Plain.nil), Keep.refl _⟩
    case round =>
      obtain ⟨k, zs, L, lc, hk, rfl, rfl, hlc, hcm, hzm, HR, HT, HPL, hK⟩ := hrel
      by_cases hlt : k < n
      · have hltz : (k : Int) < n := by omega
        have hk0 : (0 : Int) ≤ k := by omega
        obtain ⟨b, off, rfl, hb, hc⟩ := HA.out.1.2 (by omega)
        have ca := (Below.cell hK (show (⟨b, off + k, none⟩ : Addr).block < w.heap.size from hb)).trans (hc k hlt)
        have hr := in_i16 (HA.out.2 (ac.getD k 0) (by
          have : k < ac.length := by rw [HLN.out]; exact hlt
          rw [show ac.getD k 0 = ac[k] by simp [List.getD, List.getElem?_eq_getElem this]]
          exact List.getElem_mem this))
        obtain ⟨a, ha⟩ : ∃ a, a = ac.getD k 0 := ⟨_, rfl⟩
        rw [← ha] at ca hr
        have HRa := Lib.hid hr
        obtain ⟨ha1, ha2⟩ := hr
        clear hc ha
        have hz8 : zs.length ≤ 8 := by omega
        by_cases hneg : a < 0
        · have dn : decide (a < 0) = true := by simp [hneg]
          go_wp2_with fail
          refine (find_any L zs.length lc zs _ _ (by omega) hlc hcm HR.out).mono ?_
          rintro e w1 ⟨rfl, k1⟩
          obtain ⟨v, hv⟩ : ∃ v, v = find zs (-a.tmod 16) := ⟨_, rfl⟩
          rw [← hv]
          have hvr := find_range zs (-a.tmod 16)
          rw [← hv] at hvr
          have HF := Lib.hid (show find (drop zs v) (-a.tmod 16) = -1 from find_none (by rw [hv]; exact drop_find HT.out))
          clear hv
          go_wp2_with fail
          refine (drop_any L zs.length lc zs v _ (by omega) hlc hcm (HR.out.kept k1) HPL.out.vals HPL.out.sm).mono ?_
          rintro e w2 ⟨A2, n2, c2, us, rfl, l2, m2, r2, lk2, vv2, k2⟩
          have HPL2 := Lib.hid ((HPL.out.sub (drop_mem zs v)).like lk2)
          have hul := lk2.len
          have hufd := lk2.find (-a.tmod 16)
          have hurt := lk2.right
          clear lk2 vv2
          have HT2 := Lib.hid (hurt.trans (right_drop (k := v) HT.out))
          replace HF : Hid (find us (-a.tmod 16) = -1) := Lib.hid (hufd.trans HF.out)
          have hfar := drop_neg zs v
          have hnear := drop_len zs v
          replace hfar : v < 0 → us.length = zs.length := fun h => by rw [hul, hfar h]
          replace hnear : 0 ≤ v → v < (zs.length : Int) → us.length = zs.length - 1 := fun h1 h2 => by rw [hul, hnear h1 h2]
          obtain ⟨ys, hys⟩ : ∃ ys, ys = us := ⟨_, rfl⟩
          rw [← hys] at r2 HF HT2 hfar hnear HPL2
          obtain rfl : ys.length = n2 := r2.1
          replace r2 := Lib.hid r2
          have kk := (hK.trans k1).trans k2
          clear hys hK k1 k2 HR hul hufd hurt
          by_cases hv0 : v < 0
          · have e1 : ys.length = zs.length := hfar hv0
            have g1 : ((ys.length : Int) != (zs.length : Int)) = false := by simp; omega
            have hzm' : (ys.length : Int) ≤ m := by omega
            clear hfar hnear e1 hv0
            go_wp2_with fail
            refine (find_any A2 ys.length c2 ys _ _ (by omega) l2 m2 r2.out).mono ?_
            rintro e w3 ⟨rfl, k3⟩
            rw [HF.out]
            go_wp2
            exact ⟨⟨k + 1, ys, A2, c2, by omega, by go_num, rfl, l2, m2, hzm', Lib.hid (r2.out.kept k3), HT2, HPL2, kk.trans k3⟩, by simp [intOf]; omega⟩
          · have hlt2 : v < (zs.length : Int) := hvr.2
            have e1 := hnear (by omega) hlt2
            have g1 : ((ys.length : Int) != (zs.length : Int)) = true := by simp; omega
            have g2 : decide (v < 0) = false := by simp; omega
            have g3 : ((ys.length : Int) != (zs.length : Int) - 1) = false := by simp; omega
            have hzm' : (ys.length : Int) ≤ m := by omega
            have hzp : 1 ≤ zs.length := by omega
            clear hfar hnear e1 hv0
            go_wp2_with fail
            refine (find_any A2 ys.length c2 ys _ _ (by omega) l2 m2 r2.out).mono ?_
            rintro e w3 ⟨rfl, k3⟩
            rw [HF.out]
            go_wp2
            exact ⟨⟨k + 1, ys, A2, c2, by omega, by go_num, rfl, l2, m2, hzm', Lib.hid (r2.out.kept k3), HT2, HPL2, kk.trans k3⟩, by simp [intOf]; omega⟩
        · have dn : decide (a < 0) = false := by simp [hneg]
          go_wp2_with fail
          refine (add_any L zs.length lc zs ⟨_, 0, 0, 0, 0, Ak.zero, none, 0, _⟩ _ _ (by omega) hlc hcm HR.out HPL.out.vals HPL.out.sm (Ints.none_ _ _ _ _) (by simp [Ak.zero])).mono ?_
          rintro e w1 ⟨A1, n1, c1, us, rfl, l1, m1, r1, lk1, vv1, k1⟩
          obtain ⟨p, hp⟩ : ∃ p : PendP, p = ⟨a % 16, 0, 0, 0, 0, Ak.zero, none, 0, (k : Int)⟩ := ⟨_, rfl⟩
          rw [← hp] at lk1 ⊢
          have HP := Lib.hid (show p.o = a % 16 by rw [hp])
          have HPL2 := Lib.hid ((HPL.out.add (p := p) (by rw [hp]; exact ⟨rfl, (by omega : 0 ≤ a % 16), (by omega : a % 16 ≤ 15)⟩) (m := m)).like lk1)
          have hurt := lk1.right
          have hul := lk1.len
          have hget := lk1.get zs.length
          clear vv1
          have HT2 := Lib.hid (hurt.trans (right_add (p := p) (m := m) HT.out))
          have hadd : (full zs m = true ∧ us.length = zs.length ∧ addErr zs p m = 11) ∨ (full zs m = false ∧ us.length = zs.length ∧ addErr zs p m = 1) ∨ (full zs m = false ∧ (us.length = zs.length + 1 ∧ (us.getD zs.length zero).o = p.o) ∧ addErr zs p m = 0) := by
            unfold add at hget hul
            unfold addErr
            cases hf : full zs m
            · rw [hf] at hget hul
              cases hh : has zs p.o
              · rw [hh] at hget hul
                right; right
                refine ⟨rfl, ⟨by simpa using hul, ?_⟩, rfl⟩
                rw [hget (by simp)]
                simp [wh, List.getD]
              · rw [hh] at hul
                right; left; exact ⟨rfl, by simpa using hul, rfl⟩
            · rw [hf] at hul
              left; exact ⟨rfl, by simpa using hul, rfl⟩
          obtain ⟨ys, hys⟩ : ∃ ys, ys = us := ⟨_, rfl⟩
          obtain ⟨er, her⟩ : ∃ er, er = addErr zs p m := ⟨_, rfl⟩
          rw [← hys] at r1 HT2 hadd HPL2
          rw [← her] at hadd ⊢
          obtain rfl : ys.length = n1 := r1.1
          clear hul hget hurt lk1
          have kk := hK.trans k1
          have hfull : full zs m = decide (m ≤ (zs.length : Int)) := rfl
          clear hp hys her hK k1 HR
          have HRY := fun (W : World) (h : Keep w1 W) => right_any A1 ys.length c1 ys W (by have : ys.length ≤ zs.length + 1 := (by rcases hadd with ⟨_, e, _⟩ | ⟨_, e, _⟩ | ⟨_, ⟨e, _⟩, _⟩ <;> omega); omega) l1 m1 (r1.kept h) HPL2.out.wf
          have HRY2 := fun (W : World) (h : Keep w1 W) => Ref20.right_any A1 ys.length c1 ys W (by have : ys.length ≤ zs.length + 1 := (by rcases hadd with ⟨_, e, _⟩ | ⟨_, e, _⟩ | ⟨_, ⟨e, _⟩, _⟩ <;> omega); unfold maxLen; omega) (r1.kept h)
          rw [HT2.out] at HRY HRY2
          replace HRY := Lib.hid HRY
          replace HRY2 := Lib.hid HRY2
          rcases hadd with ⟨hf, e2, rfl⟩ | ⟨hf, e2, rfl⟩ | ⟨hf, ⟨e2, e1⟩, rfl⟩
          · rw [hfull] at hf
            have hzm' : (ys.length : Int) ≤ m := by omega
            have g4 : decide (m < (ys.length : Int)) = false := by simp; omega
            replace r1 := Lib.hid r1
            clear e2 hfull
            go_wp2_with fail
            refine (HRY.out _ (Keep.refl _)).mono ?_
            rintro e w2 ⟨rfl, k2⟩
            go_wp2_with fail
            refine (HRY2.out _ k2).mono ?_
            rintro e w3 ⟨rfl, k3⟩
            replace k3 := k2.trans k3.keep
            go_wp2
            exact ⟨⟨k + 1, ys, A1, c1, by omega, by go_num, rfl, l1, m1, hzm', Lib.hid (r1.out.kept k3), HT2, HPL2, kk.trans k3⟩, by simp [intOf]; omega⟩
          · rw [hfull] at hf
            have hzm' : (ys.length : Int) ≤ m := by omega
            have g4 : decide (m < (ys.length : Int)) = false := by simp; omega
            replace r1 := Lib.hid r1
            clear e2 hfull
            go_wp2_with fail
            refine (HRY.out _ (Keep.refl _)).mono ?_
            rintro e w2 ⟨rfl, k2⟩
            go_wp2_with fail
            refine (HRY2.out _ k2).mono ?_
            rintro e w3 ⟨rfl, k3⟩
            replace k3 := k2.trans k3.keep
            go_wp2
            exact ⟨⟨k + 1, ys, A1, c1, by omega, by go_num, rfl, l1, m1, hzm', Lib.hid (r1.out.kept k3), HT2, HPL2, kk.trans k3⟩, by simp [intOf]; omega⟩
          · rw [hfull] at hf
            have hzm' : (ys.length : Int) ≤ m := by simp at hf; omega
            have g4 : decide (m < (zs.length : Int) + 1) = false := by simp at hf; simp; omega
            obtain ⟨b1, o1, rfl, _⟩ := r1.addr (by omega)
            have hcell := (row_pend r1 zs.length (by omega)).2.1
            rw [e1, HP.out] at hcell
            replace r1 := Lib.hid r1
            have HW1 := Lib.hid (And.intro l1 (And.intro m1 (And.intro hzm' e2)))
            rw [e2] at HRY HRY2
            clear e1 hfull l1 m1 hzm'
            rw [e2]
            clear e2
            go_wp2_with fail
            refine (HRY.out _ (Keep.refl _)).mono ?_
            rintro e w2 ⟨rfl, k2⟩
            go_wp2_with fail
            refine (HRY2.out _ k2).mono ?_
            rintro e w3 ⟨rfl, k3⟩
            replace k3 := k2.trans k3.keep
            go_wp2
            exact ⟨⟨k + 1, ys, _, c1, by omega, by go_num, by rw [HW1.out.2.2.2], HW1.out.1, HW1.out.2.1, HW1.out.2.2.1, Lib.hid (r1.out.kept k3), HT2, HPL2, kk.trans k3⟩, by simp [intOf]; omega⟩
      · obtain rfl : k = n := by omega
        go_wp2_with fail
        refine (awake_any _).mono ?_
        rintro e w1 ⟨rfl, k1⟩
        go_wp2
        go_ret
        exact ⟨rfl, hK.trans k1⟩
end Go.Proofs.Ytecajacpfikpcaa.Pend
