/- Layer 22's law ConnsPlaces. Conditions: none beyond the law's own. -/
import Derived.Test.YtdgnmoebahaaeaaCsL
import Derived.Test.YtdgnmoebahaaeaaOpen
namespace Go.Proofs.Ytdgnmoebahaaeaa.Conns
set_option linter.unusedVariables false
set_option linter.unusedSimpArgs false
set_option maxRecDepth 100000
open Go.ChangeShapes Go.WideShapes Go.ChangeAt Go.RowKit
open Cs
theorem in_i16 {z : Int} (h : (Lit.int .i16 z).wf = true) : -32768 ≤ z ∧ z ≤ 32767 := by
  simp [Lit.wf] at h
  have e1 : IntKind.i16.min = -32768 := rfl
  have e2 : IntKind.i16.max = 32767 := rfl
  omega
theorem in_u8 {z : Int} (h : (Lit.int .u8 z).wf = true) : 0 ≤ z ∧ z ≤ 255 := by
  simp [Lit.wf] at h
  have e1 : IntKind.u8.min = 0 := rfl
  have e2 : IntKind.u8.max = 255 := rfl
  omega
theorem opens_i16s : Opens Try.prog 22 fun W cs => ∃ A n c zs, cs = [.slice A n c] ∧ n ≤ c ∧ c ≤ maxLen ∧ IntsIn .i16 W A n zs :=
  opens_ints Try.underlying22 Try.underlying27 (by kernel_rfl)
/-- The box of what is open: these six cells, and no more. -/
def Box (w : World) (q : Nat) (os : List Bool) : Prop := (∀ j, w.cell? ⟨q, j, none⟩ = (os.map Value.bool)[j]?) ∧ (∀ j, w.frozen? ⟨q, j, none⟩ = false) ∧ q < w.heap.size
theorem Box.kept {w w' : World} {q : Nat} {os : List Bool} (h : Box w q os) (hk : Keep w w') : Box w' q os :=
  ⟨fun j => (Below.cell hk h.2.2).trans (h.1 j), fun j => (Below.frozen hk h.2.2).trans (h.2.1 j), Nat.lt_of_lt_of_le h.2.2 hk.size⟩
theorem Box.at_ {w : World} {q : Nat} {os : List Bool} (h : Box w q os) (j : Nat) (hj : j < os.length) : w.cell? ⟨q, j, none⟩ = some (.bool (os.getD j false)) := by
  rw [h.1 j, List.getElem?_map, List.getElem?_eq_getElem hj]
  simp [List.getD, List.getElem?_eq_getElem hj]
theorem Box.set {w : World} {q : Nat} {os : List Bool} (h : Box w q os) (k : Nat) (hk : k < os.length) (v : Bool) : Box (w.setCell ⟨q, k, none⟩ (.bool v)) q (os.set k v) := by
  obtain ⟨h1, h2, h3⟩ := h
  have hck := Box.at_ ⟨h1, h2, h3⟩ k hk
  refine ⟨fun j => ?_, fun j => ?_, by simpa [World.setCell] using h3⟩
  · rw [List.getElem?_map, List.getElem?_set]
    by_cases hjk : k = j
    · subst hjk
      rw [if_pos rfl, if_pos hk]
      go_simp
    · rw [if_neg hjk, ← List.getElem?_map, ← h1 j]
      have : (⟨q, k, none⟩ : Addr) ≠ ⟨q, j, none⟩ := fun e => hjk (by injection e)
      go_simp
  · have := h2 j
    go_simp
/-- Connections lie elsewhere. -/
theorem row_apart {w : World} {q n b off : Nat} {os : List Bool} {zs : List ConnP} (h : Box w q os) (hr : Row encC 5 w w.heap.size (some ⟨b, off, none⟩) n zs) (hn : 0 < n) : b ≠ q := fun e => by
  subst e
  have hc := (row_conn hr 0 hn).2.2.1
  rw [h.1 (off + 0 * 5 + 1), List.getElem?_map] at hc
  cases hx : os[off + 0 * 5 + 1]? with
  | none => rw [hx] at hc; cases hc
  | some v => rw [hx] at hc; cases hc
theorem row_set {w : World} {q n k : Nat} {A : Option Addr} {os : List Bool} {zs : List ConnP} (h : Box w q os) (hr : Row encC 5 w w.heap.size A n zs) (v : Value) : Row encC 5 (w.setCell ⟨q, k, none⟩ v) (w.setCell ⟨q, k, none⟩ v).heap.size A n zs := by
  rcases Nat.eq_zero_or_pos n with hn | hn
  · have hl := hr.1
    exact ⟨hl, fun h => absurd h (by omega)⟩
  · obtain ⟨b, off, rfl, hb⟩ := hr.addr hn
    have hne := row_apart h hr hn
    refine ⟨hr.1, fun _ => ⟨b, off, rfl, by simpa [World.setCell] using hb, fun j hj i u hu => ?_⟩⟩
    rw [World.cell?_of_block (Below.heap_setCell _ _ _ _ hne)]
    exact (hr.cells hn).2 j hj i u hu
/-- What is open is as told. -/
def Agree (zs : List ConnP) (os : List Bool) : Prop := os.length = 6 ∧ ∀ j, os.getD j false = (zs.getD j zero).opn
theorem agree_new (n : Int) : Agree (Cs.new n) [false, false, false, false, false, false] := by
  refine ⟨rfl, fun j => ?_⟩
  have e1 : ([false, false, false, false, false, false] : List Bool).getD j false = false := by
    match j with
    | 0 => rfl
    | 1 => rfl
    | 2 => rfl
    | 3 => rfl
    | 4 => rfl
    | 5 => rfl
    | j + 6 => rfl
  rw [e1]
  unfold Cs.new
  simp only [List.getD_eq_getElem?_getD, List.getElem?_replicate]
  split <;> rfl
theorem getD_setB (os : List Bool) (k j : Nat) (v : Bool) (hk : k < os.length) : (os.set k v).getD j false = if k = j then v else os.getD j false := by
  simp only [List.getD_eq_getElem?_getD, List.getElem?_set]
  by_cases h : k = j
  · subst h; simp [hk]
  · simp [h]
theorem getD_setC (zs : List ConnP) (k j : Nat) (c : ConnP) (hk : k < zs.length) : (zs.set k c).getD j zero = if k = j then c else zs.getD j zero := by
  simp only [List.getD_eq_getElem?_getD, List.getElem?_set]
  by_cases h : k = j
  · subst h; simp [hk]
  · simp [h]
theorem getD_out (zs : List ConnP) (j : Nat) (h : zs.length ≤ j) : zs.getD j zero = zero := by
  simp [List.getD, List.getElem?_eq_none h]
theorem agree_close {zs : List ConnP} {os : List Bool} (h : Agree zs os) (k : Nat) (hk : k < 6) : Agree (close zs k) (os.set k false) := by
  refine ⟨by rw [List.length_set]; exact h.1, fun j => ?_⟩
  rw [getD_setB _ _ _ _ (by rw [h.1]; exact hk)]
  by_cases hkz : k < zs.length
  · have ht : there zs (k : Int) = true := by simp [there]; omega
    unfold close
    rw [if_pos ht, Int.toNat_natCast, getD_setC _ _ _ _ hkz]
    split
    · rfl
    · exact h.2 j
  · have ht : ¬ there zs (k : Int) = true := by simp [there]; omega
    unfold close
    rw [if_neg ht]
    by_cases e : k = j
    · subst e
      rw [if_pos rfl, getD_out _ _ (by omega)]; rfl
    · rw [if_neg e]
      exact h.2 j
theorem agree_accept {zs : List ConnP} {os : List Bool} (h : Agree zs os) (hz : zs.length ≤ 5) (x : Int) : Agree (accept zs x) (if hasFree zs then os.set (free zs) true else os) := by
  unfold accept
  cases hf : hasFree zs
  · simpa using h
  · simp only [if_true]
    have hlt : free zs < zs.length := by simpa [hasFree] using hf
    refine ⟨by rw [List.length_set]; exact h.1, fun j => ?_⟩
    rw [getD_setB _ _ _ _ (by rw [h.1]; omega), getD_setC _ _ _ _ hlt]
    split
    · rfl
    · exact h.2 j
theorem open_is {zs : List ConnP} {os : List Bool} (h : Agree zs os) (j : Nat) : isOpen zs j = os.getD j false := by
  rw [h.2 j]
  unfold isOpen
  rw [Int.toNat_natCast]
  by_cases hj : j < zs.length
  · simp [hj]
  · rw [getD_out _ _ (by omega)]
    simp [zero]
/-- How often places were taken. -/
def Lives (zs : List ConnP) (k : Nat) : Prop := ∀ c ∈ zs, c.lf ≤ k
theorem lives_new (n : Int) : Lives (Cs.new n) 0 := fun c hc => by
  rw [(List.mem_replicate.1 hc).2]; decide
theorem lives_set {zs : List ConnP} {k : Nat} (h : Lives zs k) (i : Nat) (c : ConnP) (hc : c.lf ≤ (k + 1 : Nat)) : Lives (zs.set i c) (k + 1) := fun x hx => by
  rcases List.mem_or_eq_of_mem_set hx with hx | rfl
  · have := h x hx; omega
  · exact hc
theorem lives_close {zs : List ConnP} {k : Nat} (h : Lives zs k) (i : Int) : Lives (close zs i) (k + 1) := by
  unfold close
  split
  · rename_i ht
    simp [there] at ht
    refine lives_set h _ _ ?_
    show (zs.getD i.toNat zero).lf ≤ _
    have := h _ (getD_mem zs i.toNat (by omega))
    omega
  · exact fun c hc => by have := h c hc; omega
theorem lives_accept {zs : List ConnP} {k : Nat} (h : Lives zs k) (x : Int) : Lives (accept zs x) (k + 1) := by
  unfold accept
  split
  · rename_i hf
    have hlt : free zs < zs.length := by simpa [hasFree] using hf
    refine lives_set h _ _ ?_
    show (zs.getD (free zs) zero).lf + 1 ≤ _
    have := h _ (getD_mem zs (free zs) hlt)
    omega
  · exact fun c hc => by have := h c hc; omega
set_option maxHeartbeats 8000000 in
theorem places_any (A : Option Addr) (n c : Nat) (ac : List Int) (z : Int) (w : World) (hn : n ≤ maxLen) (hA : IntsIn .i16 w A n ac) (h0 : 0 ≤ z) (h1 : z ≤ 255) :
    Calls Try.prog 3 #[.slice A n c, .int .u8 z] w fun e w' => e = .returned (.bool true) ∧ Keep w w' := by
  by_cases hb : 100 < n
  · have d1 : decide ((100 : Int) < (n : Int)) = true := by simp; omega
    clear hb hA
    unfold maxLen at hn
    go_enter Try.func3, Try.ntmps3
    go_wp2_with fail
    refine (awake_any _).mono ?_
    rintro e w1 ⟨rfl, k1⟩
    go_wp2
    go_ret
    exact ⟨rfl, k1⟩
  · have d1 : decide ((100 : Int) < (n : Int)) = false := by simp; omega
    have hn2 : n ≤ 100 := by omega
    have HA := Lib.hid hA
    have HLN := Lib.hid (show ac.length = n from hA.1.1)
    clear hb hA hn
    go_enter Try.func3, Try.ntmps3
    go_wp2_with fail
    refine (new_any _ _ (by omega)).mono ?_
    rintro e w1 ⟨L0, m0, lc0, rfl, a0, a1, r0, k0⟩
    obtain ⟨m, hm⟩ : ∃ m : Nat, z % 6 = (m : Int) := ⟨(z % 6).toNat, by omega⟩
    have hm5 : m ≤ 5 := by omega
    have hnl : (Cs.new (z % 6)).length = m := by unfold Cs.new; rw [List.length_replicate]; omega
    obtain rfl : m = m0 := by rw [← r0.1]; exact hnl.symm
    have HNL := Lib.hid hnl
    have R0 := Lib.hid r0
    clear r0 hnl
    obtain ⟨X, hX⟩ : ∃ X, X = w1.alloc (.cells #[.bool false, .bool false, .bool false, .bool false, .bool false, .bool false] 26) := ⟨_, rfl⟩
    have k1 : Keep w X := by rw [hX]; exact k0.alloc _
    have hxs : w1.heap.size < X.heap.size := by rw [hX]; simp
    have B0 : Hid (Box X w1.heap.size [false, false, false, false, false, false]) := Lib.hid (by
      refine ⟨fun j => ?_, fun j => by rw [hX]; go_simp, hxs⟩
      rw [hX, World.cell?_alloc_at (hn := rfl)]
      simp)
    have R1 := Lib.hid (show Row encC 5 X X.heap.size L0 m (Cs.new (z % 6)) by rw [hX]; exact R0.out.kept ((Keep.refl _).alloc _))
    have hq0 : w.heap.size ≤ w1.heap.size := k0.size
    have HX := Lib.hid hX
    have HK1 := Lib.hid k1
    have HNR := Lib.hid (right_new (z % 6))
    have HAG := Lib.hid (agree_new (z % 6))
    have HLV := Lib.hid (lives_new (z % 6))
    obtain ⟨z0, hz0⟩ : ∃ l, l = Cs.new (z % 6) := ⟨_, rfl⟩
    rw [← hz0] at R1 HNR HAG HLV HNL
    clear hX k0 k1 hxs hz0 R0
    go_wp2
    rw [← HX.out]
    go_loopw [5, 7] (fun lv iv wr => ∃ (k : Nat) (zs : List ConnP) (L : Option Addr) (lc : Nat) (os : List Bool), k ≤ n ∧ iv = .int .i64 k ∧ lv = .slice L m lc ∧ m ≤ lc ∧ lc ≤ maxLen ∧ Hid (zs.length = m) ∧ Hid (Row encC 5 wr wr.heap.size L m zs) ∧ Hid (right zs = true) ∧ Hid (Lives zs k) ∧ Hid (Agree zs os) ∧ Hid (Box wr w1.heap.size os) ∧ Hid (Keep w wr)) (fun _ iv _ => n - (intOf iv).toNat)
    case atStart => exact ⟨0, z0, L0, lc0, _, Nat.zero_le _, rfl, rfl, a0, a1, HNL, R1, HNR, HLV, HAG, B0, HK1⟩
    case round =>
      obtain ⟨k, zs, L, lc, os, hk, rfl, rfl, hlc, hcm, HZL, HR, HT, HLf, HAg, HB, HK⟩ := hrel
      have hm1 : m ≤ 1000000 := by omega
      by_cases hlt : k < n
      · have hltz : (k : Int) < n := by omega
        have hk0 : (0 : Int) ≤ k := by omega
        obtain ⟨b, off, rfl, hb, hc⟩ := HA.out.1.2 (by omega)
        have HCA := Lib.hid fun (W : World) (h : Keep w W) => (Below.cell h (show (⟨b, off + k, none⟩ : Addr).block < w.heap.size from hb)).trans (hc k hlt)
        have hr := in_i16 (HA.out.2 (ac.getD k 0) (by
          have : k < ac.length := by rw [HLN.out]; exact hlt
          rw [show ac.getD k 0 = ac[k] by simp [List.getD, List.getElem?_eq_getElem this]]
          exact List.getElem_mem this))
        obtain ⟨a, ha⟩ : ∃ a, a = ac.getD k 0 := ⟨_, rfl⟩
        rw [← ha] at HCA hr
        have ca := HCA.out wr HK.out
        obtain ⟨ha1, ha2⟩ := hr
        clear hc ha
        by_cases hneg : a < 0
        · have dn : decide (a < 0) = true := by simp [hneg]
          have htm : (-a).tmod 6 = (-a) % 6 := Int.tmod_eq_emod_of_nonneg (by omega)
          rw [Int.neg_tmod] at htm
          obtain ⟨kk, hkk, hkk6⟩ : ∃ kk : Nat, -a.tmod 6 = (kk : Int) ∧ kk < 6 := ⟨(-a % 6).toNat, by omega, by omega⟩
          clear htm
          have HCl := Lib.hid (close_any L m lc zs (kk : Int) wr hm1 hlc hcm HR.out HT.out)
          go_wp2_with fail
          refine HCl.out.mono ?_
          rintro e w2 ⟨L2, m2, lc2, rfl, l2, l2', r2, k2⟩
          obtain rfl : m = m2 := by rw [← r2.1, close_len]; exact HZL.out.symm
          have B2 := HB.out.kept k2
          have hck := B2.at_ kk (by rw [HAg.out.1]; exact hkk6)
          have hfk := B2.2.1 kk
          have HB2 := Lib.hid (B2.set kk (by rw [HAg.out.1]; exact hkk6) false)
          have HR2 := Lib.hid (row_set (k := kk) B2 r2 (.bool false))
          have HK2 := Lib.hid (keep_set (HK.out.trans k2) ⟨w1.heap.size, kk, none⟩ hq0 (.bool false))
          have HAg2 := Lib.hid (agree_close HAg.out kk hkk6)
          have HLf2 := Lib.hid (lives_close HLf.out (kk : Int))
          have HT2 := Lib.hid (right_close HT.out (kk : Int))
          have HZL2 := Lib.hid ((close_len zs (kk : Int)).trans HZL.out)
          have hkk60 : (kk : Int) < 6 := by omega
          have hkk00 : (0 : Int) ≤ (kk : Int) := by omega
          clear B2 r2 k2 ca ha1 ha2 hneg
          go_wp2
          exact ⟨⟨k + 1, _, L2, lc2, _, by omega, by go_num, rfl, l2, l2', HZL2, HR2, HT2, HLf2, HAg2, HB2, HK2⟩, by simp [intOf]; omega⟩
        · have dn : decide (a < 0) = false := by simp [hneg]
          have HFL := Lib.hid (show free zs ≤ m by rw [← HZL.out]; exact free_le zs)
          obtain ⟨V, hV⟩ : ∃ V, V = wr := ⟨_, rfl⟩
          subst hV
          go_wp2
          go_loopw [9] (fun fv wr2 => ∃ f : Nat, f ≤ m ∧ fv = .int .i64 f ∧ Hid (f ≤ free zs) ∧ Hid (Keep V wr2)) (fun fv _ => m - (intOf fv).toNat)
          case atStart => exact ⟨0, Nat.zero_le _, rfl, Lib.hid (Nat.zero_le _), Lib.hid (Keep.refl _)⟩
          case round =>
            clear ca
            obtain ⟨f, hfm, rfl, HF, HK3⟩ := hrel
            have hf0 : (0 : Int) ≤ (f : Int) := by omega
            by_cases hff : f < free zs
            · have hfm2 : f < m := Nat.lt_of_lt_of_le hff HFL.out
              have d2 : decide ((f : Int) < (m : Int)) = true := by simp; omega
              have d2' : decide (f < m) = true := by simp; omega
              have hcf := (HB.out.kept HK3.out).at_ f (by rw [HAg.out.1]; omega)
              rw [HAg.out.2 f, free_before zs f hff] at hcf
              have hf6 : (f : Int) < 6 := by omega
              have HFF := Lib.hid hff
              clear hff
              go_wp2
              exact ⟨⟨f + 1, by omega, by go_num, Lib.hid (by have := HFF.out; omega), HK3⟩, by simp [intOf]; omega⟩
            · have hfe : f = free zs := by have := HF.out; omega
              have HFE := Lib.hid hfe
              have HOK := Lib.hid (show hasFree zs = decide (f < m) by unfold hasFree; rw [← hfe, HZL.out])
              have HAT := Lib.hid (show acceptAt zs = if f < m then (f : Int) else 0 by
                unfold acceptAt; rw [HOK.out, ← hfe]; simp)
              have HAcc := Lib.hid fun (W : World) (h : Keep V W) => accept_any L m lc zs a W hm1 hlc hcm (HR.out.kept h) HT.out (fun c hc => by have := HLf.out c hc; omega)
              have HAg2 := Lib.hid (agree_accept HAg.out (by rw [HZL.out]; exact hm5) a)
              have HLf2 := Lib.hid (lives_accept HLf.out a)
              have HT2 := Lib.hid (right_accept HT.out a)
              have HZL2 := Lib.hid ((accept_len zs a).trans HZL.out)
              have HCL := Lib.hid (show f < m → ((accept zs a).getD f zero).cl = a from fun h => by
                unfold accept
                rw [HOK.out, if_pos (by simpa using h), ← hfe, getD_setC _ _ _ _ (by rw [HZL.out]; exact h), if_pos rfl]; rfl)
              clear hff hfe
              obtain ⟨ys, hys⟩ : ∃ ys, ys = accept zs a := ⟨_, rfl⟩
              rw [← hys] at HAg2 HLf2 HT2 HZL2 HCL
              rw [← hys] at HAcc
              clear hys
              by_cases hfl : f < m
              · have d2 : decide ((f : Int) < (m : Int)) = true := by simp; omega
                have d2' : decide (f < m) = true := by simp; omega
                have hcf := (HB.out.kept HK3.out).at_ f (by rw [HAg.out.1]; omega)
                rw [HAg.out.2 f, HFE.out, free_at zs (by rw [HZL.out, ← HFE.out]; exact hfl), ← HFE.out] at hcf
                have hf6 : (f : Int) < 6 := by omega
                have hok : hasFree zs = true := by rw [HOK.out]; simpa using hfl
                have hat : acceptAt zs = (f : Int) := by rw [HAT.out, if_pos hfl]
                rw [hok, hat] at HAcc
                rw [hok, if_pos rfl, ← HFE.out] at HAg2
                have hcl := HCL.out hfl
                have HCLF := Lib.hid hcl
                have ca := HCA.out _ (HK.out.trans HK3.out)
                have HFLM := Lib.hid hfl
                clear hok hat hcl
                go_wp2_with fail
                refine (HAcc.out _ HK3.out).mono ?_
                rintro e w3 ⟨L3, m3, lc3, rfl, l3, l3', r3, k3⟩
                obtain rfl : m = m3 := by rw [← r3.1]; exact HZL2.out.symm
                have kk3 := HK3.out.trans k3
                clear ca hcf
                have r3' := Lib.hid r3
                have BX := Lib.hid (HB.out.kept kk3)
                have kw3 := Lib.hid (HK.out.trans kk3)
                obtain ⟨b3, o3, hL3, _⟩ := r3.addr (Nat.lt_of_le_of_lt (Nat.zero_le _) HFLM.out)
                have hc3 := (row_conn (hL3 ▸ r3) f HFLM.out).2.2.1
                rw [HCLF.out] at hc3
                have ca3 := HCA.out w3 kw3.out
                have cb3 := BX.out.at_ f (by rw [HAg.out.1]; have := HFLM.out; omega)
                have cf3 := BX.out.2.1 f
                obtain ⟨ob, hob⟩ : ∃ x, x = os.getD f false := ⟨_, rfl⟩
                rw [← hob] at cb3
                subst hL3
                have hos := Lib.hid (show (os.set f true).length = 6 by rw [List.length_set]; exact HAg.out.1)
                have hfz : (f : Int) < (m : Int) := by have := HFLM.out; omega
                clear hob r3 k3 kk3 hfl
                go_wp2
                go_quiet (fail)
                go_wp2
                go_loopw [13] (fun jv wr4 => ∃ j : Nat, j ≤ 6 ∧ jv = .int .i64 j ∧ Hid (Row encC 5 wr4 wr4.heap.size (some ⟨b3, o3, none⟩) m ys) ∧ Hid (Box wr4 w1.heap.size (os.set f true)) ∧ Hid (Keep w wr4)) (fun jv _ => 6 - (intOf jv).toNat)
                case atStart => exact ⟨0, by omega, rfl, Lib.hid (row_set (BX.out.kept (((Quiet.refl _).drewN _).keep)) (r3'.out.kept (((Quiet.refl _).drewN _).keep)) _), Lib.hid ((BX.out.kept (((Quiet.refl _).drewN _).keep)).set f (by rw [HAg.out.1]; have := HFLM.out; omega) true), Lib.hid (keep_set (kw3.out.trans (((Quiet.refl _).drewN _).keep)) _ hq0 _)⟩
                case round =>
                  obtain ⟨j, hj6, rfl, R4, B4, K4⟩ := hrel
                  by_cases hjl : j < 6
                  · have hjz : (j : Int) < 6 := by omega
                    have hj0 : (0 : Int) ≤ (j : Int) := by omega
                    obtain ⟨bo, hbo⟩ : ∃ x, x = (os.set f true).getD j false := ⟨_, rfl⟩
                    have HOp := Lib.hid fun (W : World) (h : Keep wr W) => open_any (some ⟨b3, o3, none⟩) m lc3 ys (j : Int) W hm1 l3 l3' (R4.out.kept h) HT2.out
                    rw [open_is HAg2.out j, ← hbo] at HOp
                    have hop := fun q : KeptOf wr => HOp.out q.w q.h
                    have hcb := fun q : KeptOf wr => (B4.out.kept q.h).at_ j (by rw [HAg2.out.1]; exact hjl)
                    rw [← hbo] at hcb
                    clear hbo
                    go_wp2_with fail
                    refine wp_region_kept (by kernel_rfl) (by kernel_rfl) ?_
                    repeat (go_big_quiet_step (first | with_reducible exact KeptOf.of (hop _)))
                    refine Go.wpQuiet_nil ?_
                    intro x hw'
                    obtain ⟨⟨W, hw⟩, hw''⟩ := hw'
                    replace hw'' : x = W := hw''
                    subst hw''
                    go_wp2
                    exact ⟨⟨j + 1, by omega, by go_num, Lib.hid (R4.out.kept hw), Lib.hid (B4.out.kept hw), Lib.hid (K4.out.trans hw)⟩, by simp [intOf]; omega⟩
                  · obtain rfl : j = 6 := by omega
                    go_wp2
                    exact ⟨⟨k + 1, ys, some ⟨b3, o3, none⟩, lc3, (os.set f true), by omega, by go_num, rfl, l3, l3', HZL2, R4, HT2, HLf2, HAg2, B4, K4⟩, by simp [intOf]; omega⟩
              · skip
                have d2 : decide ((f : Int) < (m : Int)) = false := by simp; omega
                have d2' : decide (f < m) = false := by simp; omega
                have hok : hasFree zs = false := by rw [HOK.out]; simpa using hfl
                have hat : acceptAt zs = 0 := by rw [HAT.out, if_neg hfl]
                rw [hok, hat] at HAcc
                rw [hok, if_neg (by simp)] at HAg2
                have ca := HCA.out _ (HK.out.trans HK3.out)
                clear hok hat
                go_wp2_with fail
                refine (HAcc.out _ HK3.out).mono ?_
                rintro e w3 ⟨L3, m3, lc3, rfl, l3, l3', r3, k3⟩
                obtain rfl : m = m3 := by rw [← r3.1]; exact HZL2.out.symm
                have kk3 := HK3.out.trans k3
                clear ca
                have r3' := Lib.hid r3
                have BX := Lib.hid (HB.out.kept kk3)
                have kw3 := Lib.hid (HK.out.trans kk3)
                clear r3 k3 kk3 hfl
                go_wp2
                go_quiet (fail)
                go_wp2
                go_loopw [13] (fun jv wr4 => ∃ j : Nat, j ≤ 6 ∧ jv = .int .i64 j ∧ Hid (Row encC 5 wr4 wr4.heap.size L3 m ys) ∧ Hid (Box wr4 w1.heap.size os) ∧ Hid (Keep w wr4)) (fun jv _ => 6 - (intOf jv).toNat)
                case atStart => exact ⟨0, by omega, rfl, Lib.hid (r3'.out.kept (((Quiet.refl _).drewN _).keep)), Lib.hid (BX.out.kept (((Quiet.refl _).drewN _).keep)), Lib.hid (kw3.out.trans (((Quiet.refl _).drewN _).keep))⟩
                case round =>
                  obtain ⟨j, hj6, rfl, R4, B4, K4⟩ := hrel
                  by_cases hjl : j < 6
                  · have hjz : (j : Int) < 6 := by omega
                    have hj0 : (0 : Int) ≤ (j : Int) := by omega
                    obtain ⟨bo, hbo⟩ : ∃ x, x = (os).getD j false := ⟨_, rfl⟩
                    have HOp := Lib.hid fun (W : World) (h : Keep wr W) => open_any L3 m lc3 ys (j : Int) W hm1 l3 l3' (R4.out.kept h) HT2.out
                    rw [open_is HAg2.out j, ← hbo] at HOp
                    have hop := fun q : KeptOf wr => HOp.out q.w q.h
                    have hcb := fun q : KeptOf wr => (B4.out.kept q.h).at_ j (by rw [HAg2.out.1]; exact hjl)
                    rw [← hbo] at hcb
                    clear hbo
                    go_wp2_with fail
                    refine wp_region_kept (by kernel_rfl) (by kernel_rfl) ?_
                    repeat (go_big_quiet_step (first | with_reducible exact KeptOf.of (hop _)))
                    refine Go.wpQuiet_nil ?_
                    intro x hw'
                    obtain ⟨⟨W, hw⟩, hw''⟩ := hw'
                    replace hw'' : x = W := hw''
                    subst hw''
                    go_wp2
                    exact ⟨⟨j + 1, by omega, by go_num, Lib.hid (R4.out.kept hw), Lib.hid (B4.out.kept hw), Lib.hid (K4.out.trans hw)⟩, by simp [intOf]; omega⟩
                  · obtain rfl : j = 6 := by omega
                    go_wp2
                    exact ⟨⟨k + 1, ys, L3, lc3, os, by omega, by go_num, rfl, l3, l3', HZL2, R4, HT2, HLf2, HAg2, B4, K4⟩, by simp [intOf]; omega⟩
      · obtain rfl : k = n := by omega
        go_wp2_with fail
        refine (awake_any _).mono ?_
        rintro e w3 ⟨rfl, k3⟩
        go_wp2_with fail
        refine (right_any L m lc zs _ hm1 hlc hcm (HR.out.kept k3) (right_texts HT.out)).mono ?_
        rintro e w4 ⟨rfl, k4⟩
        rw [HT.out]
        go_wp2
        go_ret
        exact ⟨rfl, (HK.out.trans k3).trans k4⟩
end Go.Proofs.Ytdgnmoebahaaeaa.Conns
