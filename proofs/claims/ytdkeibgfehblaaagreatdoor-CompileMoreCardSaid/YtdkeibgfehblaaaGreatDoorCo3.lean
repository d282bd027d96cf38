/- Layer 16's law: CompileMore. Conditions: none beyond the law's own. -/
import Derived.Test.YtdkeibgfehblaaaGreatDoorCo
namespace Go.Proofs.YtdkeibgfehblaaaGreatDoor.Cm
set_option linter.unusedVariables false
set_option linter.unusedSimpArgs false
set_option maxRecDepth 100000
open Go.ChangeShapes Go.WideShapes Go.ChangeAt Go.RowKit
open Tr (kind field rs lo hi of zero zeroR dp dpL dp_of Ex Exs ExIn Rus RuIn RuleAt RulesIn wf wfL fits fitsL wfR getD_mem ret_bool ret_int store_float small_fits atoms atomsL)
open Nd (Nds NodeAt zeroN okL okRs full RetNodes NOwn NodesIn wfN smallB laid)
open Cp (sameN testP leafP lay layN layA layO rulesF rules)
open Wk (okF rules_right norm_okl norm_ok)
open Tree (eqL)
open Cp (shift rules_more)
open Nd (encN encN_len encN_one)
mutual
theorem lay_all {P : NodeP → Prop} (hP : ∀ f r l h y n, P (testP f r l h y n)) : ∀ (e : ExprP) (t : List NodeP) (y n : Int), (∀ x ∈ t, P x) → ∀ x ∈ (lay t e y n).1, P x
  | .mk k f r l h o, t, y, n, ht, x, hx => by
    rw [lay] at hx
    split at hx
    · rcases List.mem_append.1 hx with hx | hx
      · exact ht x hx
      · rw [List.mem_singleton] at hx; subst hx; exact hP ..
    split at hx
    · exact layN_all hP o t y n ht x hx
    split at hx
    · exact layA_all hP o t y n ht x hx
    split at hx
    · exact layO_all hP o t y n ht x hx
    · exact ht x hx
theorem layN_all {P : NodeP → Prop} (hP : ∀ f r l h y n, P (testP f r l h y n)) : ∀ (o : List ExprP) (t : List NodeP) (y n : Int), (∀ x ∈ t, P x) → ∀ x ∈ (layN t o y n).1, P x
  | [], t, y, n, ht, x, hx => by rw [layN] at hx; exact ht x hx
  | e :: o, t, y, n, ht, x, hx => by rw [layN] at hx; exact lay_all hP e t n y ht x hx
theorem layA_all {P : NodeP → Prop} (hP : ∀ f r l h y n, P (testP f r l h y n)) : ∀ (o : List ExprP) (t : List NodeP) (y n : Int), (∀ x ∈ t, P x) → ∀ x ∈ (layA t o y n).1, P x
  | [], t, y, n, ht, x, hx => by rw [layA] at hx; exact ht x hx
  | e :: o, t, y, n, ht, x, hx => by rw [layA] at hx; exact lay_all hP e _ _ _ (layA_all hP o t y n ht) x hx
theorem layO_all {P : NodeP → Prop} (hP : ∀ f r l h y n, P (testP f r l h y n)) : ∀ (o : List ExprP) (t : List NodeP) (y n : Int), (∀ x ∈ t, P x) → ∀ x ∈ (layO t o y n).1, P x
  | [], t, y, n, ht, x, hx => by rw [layO] at hx; exact ht x hx
  | e :: o, t, y, n, ht, x, hx => by rw [layO] at hx; exact lay_all hP e _ _ _ (layO_all hP o t y n ht) x hx
end
theorem rulesF_rule : ∀ (l : List RuleP) (i m : Int), 0 ≤ i → i + l.length ≤ m → ∀ x ∈ (rulesF l i).1, x.rule ≤ m
  | [], i, m, hi, hm, x, hx => by
    rw [rulesF, List.mem_singleton] at hx
    subst hx
    show (-1 : Int) ≤ m
    simp at hm
    omega
  | r :: l, i, m, hi, hm, x, hx => by
    rw [rulesF] at hx
    rw [List.length_cons] at hm
    refine lay_all (P := fun x => x.rule ≤ m) (fun f r l h y n => by show (0 : Int) ≤ m; omega) r.when_ _ _ _ (fun x hx => ?_) x hx
    rcases List.mem_append.1 hx with hx | hx
    · exact rulesF_rule l (i + 1) m (by omega) (by omega) x hx
    · rw [List.mem_singleton] at hx; subst hx; show i ≤ m; omega
theorem shift_atom (k : Int) (x : NodeP) : (shift k x).atom = x.atom := by unfold shift; split <;> rfl
theorem info_rule : (Tryz.prog.info? 46).map (fun i => (i.zero, i.size, i.bytes)) = some (some (.agg #[.bool false, .int .i64 0, .int .i64 0, .slice none 0 0, .float .f64 0, .float .f64 0, .slice none 0 0, .int .i64 0, .int .i64 0, .int .i64 0, .int .i64 0]), 11, 120) := by kernel_rfl
theorem encU_len (x : RawU) : (encU x).length = 11 := rfl
theorem encU_one (x : RawU) : ∀ v ∈ encU x, v.oneCell' = true := by
  intro v hv
  simp [encU] at hv
  rcases hv with rfl | rfl | rfl | rfl | rfl | rfl | rfl | rfl | rfl | rfl | rfl <;> rfl
theorem rus_of {W : World} {A : Option Addr} {n : Nat} {raws : List RawU} (h : Row encU 11 W W.heap.size A n raws) (hx : ∀ x ∈ raws, Ex W x.r.when_ x.RA x.OA) : Rus W A (raws.map (·.r)) := fun hn => by
  rw [List.length_map] at hn
  have hl := h.1
  obtain ⟨b, off, rfl, hb, hc⟩ := h.2 (by omega)
  refine ⟨b, off, rfl, hb, fun k hk => ?_⟩
  rw [List.length_map] at hk
  have he := hx _ (List.getElem_mem (h := hk))
  refine ⟨encU raws[k], fun j v hv => hc k hk j v hv, ?_⟩
  rw [List.getElem_map]
  exact ⟨_, rfl, rfl, he.into raws[k].rc raws[k].oc⟩
theorem nds_take {W : World} {A : Option Addr} {n : Nat} {l : List NodeP} (h : Nds W A n l) (m : Nat) (hm : m ≤ n) : Nds W A m (l.take m) := by
  obtain ⟨raws, rfl, h2, h3⟩ := h
  exact ⟨raws.take m, by rw [List.map_take], h2.take m hm, fun x hx => h3 x (List.mem_of_mem_take hx)⟩
theorem rules_pos (l : List RuleP) : 0 < (rules l).length := by
  have hp : ∀ (l : List RuleP) (i : Int), 0 < (rulesF l i).1.length := by
    intro l
    induction l with
    | nil => intro i; rw [rulesF]; decide
    | cons r l ih =>
      intro i
      rw [rulesF]
      have := (Cp.lay_pre r.when_ ((rulesF l (i + 1)).1 ++ [leafP i]) (rulesF l (i + 1)).1.length (rulesF l (i + 1)).2).length_le
      rw [List.length_append] at this
      have := ih (i + 1)
      omega
  exact hp l 0
/-- A node whose rule is told k places on, as it lies. -/
def shiftR (k : Int) (x : Nd.RawN) : Nd.RawN := { x with n := shift k x.n }
theorem map_shiftR (k : Int) (raws : List Nd.RawN) : (raws.map (shiftR k)).map Nd.RawN.n = (raws.map Nd.RawN.n).map (shift k) := by
  rw [List.map_map, List.map_map]; rfl
theorem more_eq (a b : List RuleP) (h : ∀ x ∈ rules (a ++ b), fits x.atom) : eqL sameN ((rules (a ++ b)).take (rules b).length) ((rules b).map (shift a.length)) = true := by
  have hp := rules_more a b
  have e : (rules (a ++ b)).take (rules b).length = (rules b).map (shift a.length) := by
    have := List.prefix_iff_eq_take.1 hp
    rw [List.length_map] at this
    exact this.symm
  rw [e]
  refine eqL_self fun x hx => ?_
  exact h x (hp.subset hx)
set_option maxHeartbeats 16000000 in
theorem more_any (A : Option Addr) (n c : Nat) (a : List RuleP) (B : Option Addr) (m d : Nat) (b : List RuleP) (w : World) (ht : Tab w) (hA : RulesIn w A n a) (hB : RulesIn w B m b) :
    Calls Tryz.prog 4 #[.slice A n c, .slice B m d] w fun e w' => e = .returned (.bool true) ∧ Keep w w' := by
  obtain ⟨rfl, hRa, hwA⟩ := hA
  obtain ⟨rfl, hRb, hwB⟩ := hB
  have CW := Lib.hid (fun W (hk : Keep w W) => awake16_any W (ht.keep hk))
  have CA := Lib.hid (fun W (hk : Keep w W) => may_any A c a W hwA (hRa.kept hk))
  have CB := Lib.hid (fun W (hk : Keep w W) => may_any B d b W hwB (hRb.kept hk))
  cases hm : laid a 6
  · rw [hm] at CA
    clear hm hRa hwA hRb hwB ht
    go_enter Tryz.func4, Tryz.ntmps4
    go_wp2_with fail
    refine (CA.out _ (Keep.refl _)).mono ?_
    rintro e1 w1 ⟨rfl, k1⟩
    go_wp2_with fail
    refine (CW.out _ (k1)).mono ?_
    rintro e9 w9 ⟨rfl, k9⟩
    go_wp2
    go_ret
    exact ⟨rfl, (k1).trans k9⟩
  rw [hm] at CA
  obtain ⟨ha6, hallA⟩ := laid_ok hwA hm
  clear hm
  cases hm : laid b 6
  · rw [hm] at CB
    clear hm hRa hwA hRb hwB ht hallA
    go_enter Tryz.func4, Tryz.ntmps4
    go_wp2_with fail
    refine (CA.out _ (Keep.refl _)).mono ?_
    rintro e1 w1 ⟨rfl, k1⟩
    go_wp2_with fail
    refine (CB.out _ k1).mono ?_
    rintro e2 w2 ⟨rfl, k2⟩
    go_wp2_with fail
    refine (CW.out _ (k1.trans k2)).mono ?_
    rintro e9 w9 ⟨rfl, k9⟩
    go_wp2
    go_ret
    exact ⟨rfl, (k1.trans k2).trans k9⟩
  rw [hm] at CB
  obtain ⟨hb6, hallB⟩ := laid_ok hwB hm
  clear hm
  have ho1 : okR12 b := ⟨by omega, fun r hr => ⟨(hallB r hr).1, (hallB r hr).2.1, (hallB r hr).2.2.1⟩⟩
  have ho2 : okR12 (a ++ b) := ⟨by rw [List.length_append]; omega, fun r hr => by
    rcases List.mem_append.1 hr with hr | hr
    · exact ⟨(hallA r hr).1, (hallA r hr).2.1, (hallA r hr).2.2.1⟩
    · exact ⟨(hallB r hr).1, (hallB r hr).2.1, (hallB r hr).2.2.1⟩⟩
  have CR := Lib.hid (fun W (hk : Keep w W) => rules_any B d b W ho1 (hRb.kept hk))
  obtain ⟨rawA, hreA, hrowA, hxA⟩ := rus_rows hRa
  obtain ⟨rawB, hreB, hrowB, hxB⟩ := rus_rows hRb
  have hTf2 := Lib.hid (show ∀ x ∈ rules (a ++ b), fits x.atom from rulesF_fits (a ++ b) 0 fun r hr => (ho2.2 r hr).1)
  have hTl1 := Lib.hid (rules_len (fun r hr => ⟨(ho1.2 r hr).1, (ho1.2 r hr).2.1⟩) ho1.1)
  have hTl2 := Lib.hid (rules_len (fun r hr => ⟨(ho2.2 r hr).1, (ho2.2 r hr).2.1⟩) ho2.1)
  have HEQ := Lib.hid (more_eq a b hTf2.out)
  have HRU := Lib.hid (show ∀ x ∈ rules b, x.rule ≤ 6 from rulesF_rule b 0 6 (by omega) (by omega))
  have HLE := Lib.hid (show (rules b).length ≤ (rules (a ++ b)).length by have := (rules_more a b).length_le; rwa [List.length_map] at this)
  have HO2 := Lib.hid ho2
  have HTW := Lib.hid ht
  have HXA := Lib.hid hxA
  have HXB := Lib.hid hxB
  have HREAB := Lib.hid (And.intro hreA hreB)
  have HRWA := Lib.hid hrowA
  have HRWB := Lib.hid hrowB
  have haL : rawA.length = a.length := by rw [← hreA, List.length_map]
  have hbL : rawB.length = b.length := by rw [← hreB, List.length_map]
  have HAL := Lib.hid haL
  have HBL := Lib.hid hbL
  clear hallA hallB ho1 ho2 hRa hRb hwA hwB ht hxA hxB hreA hreB hrowA hrowB haL hbL
  go_enter Tryz.func4, Tryz.ntmps4
  go_wp2_with fail
  refine (CA.out _ (Keep.refl _)).mono ?_
  rintro e1 w1 ⟨rfl, k1⟩
  go_wp2_with fail
  refine (CB.out _ k1).mono ?_
  rintro e2 w2 ⟨rfl, k2⟩
  have k12 := k1.trans k2
  clear k1 k2
  go_wp2_with fail
  refine (CR.out _ k12).mono ?_
  rintro e3 w3 ⟨A1, c1, rfl, _, _, n1, k3⟩
  have k13 := k12.trans k3
  have HN1 := Lib.hid n1
  clear k12 k3 n1
  have hown0 : (w3.alloc (.cells #[] 46)).ownsRow w3.heap.size 46 11 (.slice (some ⟨w3.heap.size, 0, none⟩) 0 0) 0 (flat encU []) := World.ownsRow_lit (base := w3.heap.size) (e := 46) (size := 11) w3 #[] 0 (Nat.le_refl _) (Nat.zero_le _) rfl
  have rA : Row encU 11 (w3.alloc (.cells #[] 46)) (w3.alloc (.cells #[] 46)).heap.size A a.length rawA := HRWA.out.kept (k13.alloc _)
  go_wp2_with (at_builtin; refine append_rows rfl _ _ 22 rfl w3.heap.size 46 _ 120 Tryz.underlying22 info_rule rfl (by omega) encU_len encU_one _ 0 [] rfl hown0 (by simp) _ A a.length c rawA rfl rA (by unfold maxLen; omega) (by omega) ?_)
  intro v4 w4 hown4 hb4
  have k34 : Keep w3 w4 := Below.trans ((Keep.refl w3).alloc _) hb4
  obtain ⟨A4, c4, rfl⟩ := own_slice hown4
  have rB : Row encU 11 w4 w4.heap.size B b.length rawB := HRWB.out.kept (k13.trans k34)
  have hs34 := k34.size
  go_wp2_with (at_builtin; refine append_rows rfl _ _ 22 rfl w3.heap.size 46 _ 120 Tryz.underlying22 info_rule rfl (by omega) encU_len encU_one _ a.length rawA rfl hown4 hs34 _ B b.length d rawB rfl rB (by unfold maxLen; omega) (by omega) ?_)
  intro v5 w5 hown5 hb5
  obtain ⟨A5, c5, rfl⟩ := own_slice hown5
  have k35 : Keep w3 w5 := Below.trans k34 hb5
  have hrow5 := Row.of_own encU_len hown5 (by omega)
  have k15 := k13.trans k35
  have hRus : Rus w5 A5 (a ++ b) := by
    have h := rus_of hrow5 fun x hx => by
      rcases List.mem_append.1 hx with hx | hx
      · exact (HXA.out x hx).kept k15
      · exact (HXB.out x hx).kept k15
    rw [List.map_append, HREAB.out.1, HREAB.out.2] at h
    exact h
  have CY := rules_any A5 c5 (a ++ b) w5 HO2.out hRus
  rw [List.length_append] at CY
  have HCY := Lib.hid CY
  have HN5 := Lib.hid (HN1.out.kept k35)
  clear hown5 hb5 hrow5 hRus hown0 rA rB k34 k35 hb4 hown4 CY hs34
  go_wp2_with fail
  refine HCY.out.mono ?_
  rintro e6 w6 ⟨A6, c6, rfl, hl6, hm6, n6, k6⟩
  obtain ⟨raw1, hr1, hrow1, hx1⟩ := HN5.out.kept k6
  obtain ⟨b6, off6, rfl, _⟩ := n6.addr (by have := HLE.out; have := rules_pos b; omega)
  obtain ⟨b1, off1, rfl, _⟩ := hrow1.addr (rules_pos b)
  have k16 := k15.trans k6
  have HN6 := Lib.hid n6
  have HR1 := Lib.hid hr1
  have HX1 := Lib.hid hx1
  have hru1 : ∀ x ∈ raw1, x.n.rule ≤ 6 := fun x hx => HRU.out _ (by have := List.mem_map_of_mem (f := Nd.RawN.n) hx; rw [hr1] at this; exact this)
  have HRU1 := Lib.hid hru1
  obtain ⟨T1, hT1⟩ : ∃ T1, T1 = rules b := ⟨_, rfl⟩
  obtain ⟨T2, hT2⟩ : ∃ T2, T2 = rules (a ++ b) := ⟨_, rfl⟩
  have HT := Lib.hid (And.intro hT1 hT2)
  rw [← hT2, ← hT1] at HLE
  rw [← hT1] at hrow1
  rw [← hT2] at HN6 hl6 hTf2
  have hrl := hrow1.1
  have hle := HLE.out
  have hl1 := hTl1.out
  have hl2 := hTl2.out
  rw [← hT1] at hl1 ⊢
  rw [← hT2] at hl2 ⊢
  rw [← hT1, ← hT2] at HEQ
  rw [← hT1] at HR1
  have d0 : decide (T2.length < T1.length) = false := by simp; omega
  have d0' : decide ((T2.length : Int) < (T1.length : Int)) = false := by simp; omega
  clear hT1 hT2 hr1 hx1 hru1 n6 HCY HN5 HXA HXB HRWA HRWB HN1 HREAB HO2 CR CA CB k15 k13 HRU hTl1 hTl2 hle
  have hsf := store_float Tryz.prog
  go_wp2
  go_loopw [7, 8, 9] (fun s7 s8 _ wr => ∃ j : Nat, j ≤ T1.length ∧ s8 = .int .i64 j ∧ wr.ownsRow w6.heap.size 37 10 s7 j (flat encN ((raw1.take j).map (shiftR a.length))) ∧ Keep w6 wr) (fun _ s8 _ _ => T1.length - (intOf s8).toNat)
  case atStart => exact ⟨0, Nat.zero_le _, rfl, World.ownsRow_nil _ _ _ _, Keep.refl _⟩
  case round =>
    obtain ⟨j, hj, rfl, hown, hk⟩ := hrel
    obtain ⟨A7, c7, rfl⟩ := own_slice hown
    by_cases hlt : j < T1.length
    · have hi1 : (j : Int) < T1.length := by omega
      have hj0 : (0 : Int) ≤ j := by omega
      have hjr : j < raw1.length := by omega
      obtain ⟨hbb, hcs⟩ := hrow1.cells (by omega)
      have hcs : ∀ i v, (encN (raw1[j]'hjr))[i]? = some v → wr.cell? ⟨b1, off1 + j * 10 + i, none⟩ = some v := fun i v hv => (Below.cell hk hbb).trans (hcs j hjr i v hv)
      have HTK := Lib.hid (show (raw1.take (j + 1)).map (shiftR (a.length : Int)) = (raw1.take j).map (shiftR (a.length : Int)) ++ [shiftR (a.length : Int) (raw1[j]'hjr)] by rw [List.take_succ_eq_append_getElem hjr, List.map_append]; rfl)
      have hr6 := HRU1.out _ (List.getElem_mem hjr)
      generalize raw1[j]'hjr = x at *
      have x0 : wr.cell? ⟨b1, off1 + j * 10, none⟩ = some (Value.bool x.n.leaf) := hcs 0 _ rfl
      have x1 : wr.cell? ⟨b1, off1 + j * 10 + 1, none⟩ = some (Value.int .i64 x.n.rule) := hcs 1 _ rfl
      have x2 : wr.cell? ⟨b1, off1 + j * 10 + 2, none⟩ = some (Value.int .i64 (kind x.n.atom)) := hcs 2 _ rfl
      have x3 : wr.cell? ⟨b1, off1 + j * 10 + 3, none⟩ = some (Value.int .i64 (field x.n.atom)) := hcs 3 _ rfl
      have x4 : wr.cell? ⟨b1, off1 + j * 10 + 4, none⟩ = some (Value.slice x.RA (rs x.n.atom).length x.rc) := hcs 4 _ rfl
      have x5 : wr.cell? ⟨b1, off1 + j * 10 + 5, none⟩ = some (Value.float .f64 (lo x.n.atom)) := hcs 5 _ rfl
      have x6 : wr.cell? ⟨b1, off1 + j * 10 + 6, none⟩ = some (Value.float .f64 (hi x.n.atom)) := hcs 6 _ rfl
      have x7 : wr.cell? ⟨b1, off1 + j * 10 + 7, none⟩ = some (Value.slice x.OA (of x.n.atom).length x.oc) := hcs 7 _ rfl
      have x8 : wr.cell? ⟨b1, off1 + j * 10 + 8, none⟩ = some (Value.int .i64 x.n.yes) := hcs 8 _ rfl
      have x9 : wr.cell? ⟨b1, off1 + j * 10 + 9, none⟩ = some (Value.int .i64 x.n.no) := hcs 9 _ rfl
      clear hcs hbb
      obtain ⟨lf, hlf⟩ : ∃ lf, x.n.leaf = lf := ⟨_, rfl⟩
      rw [hlf] at x0
      cases lf with
      | true =>
        by_cases h0 : 0 ≤ x.n.rule
        · have d1 : decide (0 ≤ x.n.rule) = true := by simpa using h0
          have HSH := Lib.hid (show [Value.bool true, .int .i64 (x.n.rule + a.length), .int .i64 (kind x.n.atom), .int .i64 (field x.n.atom), .slice x.RA (rs x.n.atom).length x.rc, .float .f64 (lo x.n.atom), .float .f64 (hi x.n.atom), .slice x.OA (of x.n.atom).length x.oc, .int .i64 x.n.yes, .int .i64 x.n.no] = encN (shiftR (a.length : Int) x) by
            unfold shiftR shift encN
            simp only [hlf, h0, and_self, if_true])
          clear hlf
          have hown2 := (hown.alloc (.cells #[.bool true, .int .i64 (x.n.rule + a.length), .int .i64 (kind x.n.atom), .int .i64 (field x.n.atom), .slice x.RA (rs x.n.atom).length x.rc, .float .f64 (lo x.n.atom), .float .f64 (hi x.n.atom), .slice x.OA (of x.n.atom).length x.oc, .int .i64 x.n.yes, .int .i64 x.n.no] 37)).alloc (.cells #[.bool true, .int .i64 (x.n.rule + a.length), .int .i64 (kind x.n.atom), .int .i64 (field x.n.atom), .slice x.RA (rs x.n.atom).length x.rc, .float .f64 (lo x.n.atom), .float .f64 (hi x.n.atom), .slice x.OA (of x.n.atom).length x.oc, .int .i64 x.n.yes, .int .i64 x.n.no] 37)
          have hrow2 : Row encN 10 ((wr.alloc (.cells #[.bool true, .int .i64 (x.n.rule + a.length), .int .i64 (kind x.n.atom), .int .i64 (field x.n.atom), .slice x.RA (rs x.n.atom).length x.rc, .float .f64 (lo x.n.atom), .float .f64 (hi x.n.atom), .slice x.OA (of x.n.atom).length x.oc, .int .i64 x.n.yes, .int .i64 x.n.no] 37)).alloc (.cells #[.bool true, .int .i64 (x.n.rule + a.length), .int .i64 (kind x.n.atom), .int .i64 (field x.n.atom), .slice x.RA (rs x.n.atom).length x.rc, .float .f64 (lo x.n.atom), .float .f64 (hi x.n.atom), .slice x.OA (of x.n.atom).length x.oc, .int .i64 x.n.yes, .int .i64 x.n.no] 37)) (wr.heap.size + 1 + 1) (some ⟨wr.heap.size + 1, 0, none⟩) 1 [shiftR a.length x] := by
            have := Row.new encN_len (wr.alloc (.cells #[.bool true, .int .i64 (x.n.rule + a.length), .int .i64 (kind x.n.atom), .int .i64 (field x.n.atom), .slice x.RA (rs x.n.atom).length x.rc, .float .f64 (lo x.n.atom), .float .f64 (hi x.n.atom), .slice x.OA (of x.n.atom).length x.oc, .int .i64 x.n.yes, .int .i64 x.n.no] 37)) 37 [shiftR a.length x] #[.bool true, .int .i64 (x.n.rule + a.length), .int .i64 (kind x.n.atom), .int .i64 (field x.n.atom), .slice x.RA (rs x.n.atom).length x.rc, .float .f64 (lo x.n.atom), .float .f64 (hi x.n.atom), .slice x.OA (of x.n.atom).length x.oc, .int .i64 x.n.yes, .int .i64 x.n.no] (by rw [flat_one]; exact HSH.out)
            simpa using this
          go_wp2_with (at_builtin; refine append_rows rfl _ _ 23 rfl w6.heap.size 37 _ 112 Tryz.underlying23 Nd.info_node rfl (by omega) encN_len encN_one _ j ((raw1.take j).map (shiftR a.length)) rfl hown2 (by have := hk.size; simp; omega) _ (some ⟨wr.heap.size + 1, 0, none⟩) 1 1 [shiftR a.length x] rfl hrow2 (by unfold maxLen; omega) (by omega) ?_)
          intro v8 w8 hown8 hb8
          have hk8 : Keep w6 w8 := Below.trans ((hk.alloc _).alloc _) hb8
          go_wp2
          go_roundw
          case rel => exact ⟨j + 1, by omega, by go_num, by rw [HTK.out, List.map_take]; exact hown8, hk8⟩
          case measure => simp [intOf]; omega
        · have d1 : decide (0 ≤ x.n.rule) = false := by simpa using h0
          have HSH := Lib.hid (show [Value.bool true, .int .i64 x.n.rule, .int .i64 (kind x.n.atom), .int .i64 (field x.n.atom), .slice x.RA (rs x.n.atom).length x.rc, .float .f64 (lo x.n.atom), .float .f64 (hi x.n.atom), .slice x.OA (of x.n.atom).length x.oc, .int .i64 x.n.yes, .int .i64 x.n.no] = encN (shiftR (a.length : Int) x) by
            unfold shiftR shift encN
            simp only [hlf, h0, and_false, if_false])
          clear hlf
          have hown2 := (hown.alloc (.cells #[.bool true, .int .i64 x.n.rule, .int .i64 (kind x.n.atom), .int .i64 (field x.n.atom), .slice x.RA (rs x.n.atom).length x.rc, .float .f64 (lo x.n.atom), .float .f64 (hi x.n.atom), .slice x.OA (of x.n.atom).length x.oc, .int .i64 x.n.yes, .int .i64 x.n.no] 37)).alloc (.cells #[.bool true, .int .i64 x.n.rule, .int .i64 (kind x.n.atom), .int .i64 (field x.n.atom), .slice x.RA (rs x.n.atom).length x.rc, .float .f64 (lo x.n.atom), .float .f64 (hi x.n.atom), .slice x.OA (of x.n.atom).length x.oc, .int .i64 x.n.yes, .int .i64 x.n.no] 37)
          have hrow2 : Row encN 10 ((wr.alloc (.cells #[.bool true, .int .i64 x.n.rule, .int .i64 (kind x.n.atom), .int .i64 (field x.n.atom), .slice x.RA (rs x.n.atom).length x.rc, .float .f64 (lo x.n.atom), .float .f64 (hi x.n.atom), .slice x.OA (of x.n.atom).length x.oc, .int .i64 x.n.yes, .int .i64 x.n.no] 37)).alloc (.cells #[.bool true, .int .i64 x.n.rule, .int .i64 (kind x.n.atom), .int .i64 (field x.n.atom), .slice x.RA (rs x.n.atom).length x.rc, .float .f64 (lo x.n.atom), .float .f64 (hi x.n.atom), .slice x.OA (of x.n.atom).length x.oc, .int .i64 x.n.yes, .int .i64 x.n.no] 37)) (wr.heap.size + 1 + 1) (some ⟨wr.heap.size + 1, 0, none⟩) 1 [shiftR a.length x] := by
            have := Row.new encN_len (wr.alloc (.cells #[.bool true, .int .i64 x.n.rule, .int .i64 (kind x.n.atom), .int .i64 (field x.n.atom), .slice x.RA (rs x.n.atom).length x.rc, .float .f64 (lo x.n.atom), .float .f64 (hi x.n.atom), .slice x.OA (of x.n.atom).length x.oc, .int .i64 x.n.yes, .int .i64 x.n.no] 37)) 37 [shiftR a.length x] #[.bool true, .int .i64 x.n.rule, .int .i64 (kind x.n.atom), .int .i64 (field x.n.atom), .slice x.RA (rs x.n.atom).length x.rc, .float .f64 (lo x.n.atom), .float .f64 (hi x.n.atom), .slice x.OA (of x.n.atom).length x.oc, .int .i64 x.n.yes, .int .i64 x.n.no] (by rw [flat_one]; exact HSH.out)
            simpa using this
          go_wp2_with (at_builtin; refine append_rows rfl _ _ 23 rfl w6.heap.size 37 _ 112 Tryz.underlying23 Nd.info_node rfl (by omega) encN_len encN_one _ j ((raw1.take j).map (shiftR a.length)) rfl hown2 (by have := hk.size; simp; omega) _ (some ⟨wr.heap.size + 1, 0, none⟩) 1 1 [shiftR a.length x] rfl hrow2 (by unfold maxLen; omega) (by omega) ?_)
          intro v8 w8 hown8 hb8
          have hk8 : Keep w6 w8 := Below.trans ((hk.alloc _).alloc _) hb8
          go_wp2
          go_roundw
          case rel => exact ⟨j + 1, by omega, by go_num, by rw [HTK.out, List.map_take]; exact hown8, hk8⟩
          case measure => simp [intOf]; omega
      | false =>
        have HSH := Lib.hid (show [Value.bool false, .int .i64 x.n.rule, .int .i64 (kind x.n.atom), .int .i64 (field x.n.atom), .slice x.RA (rs x.n.atom).length x.rc, .float .f64 (lo x.n.atom), .float .f64 (hi x.n.atom), .slice x.OA (of x.n.atom).length x.oc, .int .i64 x.n.yes, .int .i64 x.n.no] = encN (shiftR (a.length : Int) x) by
          unfold shiftR shift encN
          simp only [hlf, Bool.false_eq_true, false_and, if_false])
        clear hlf
        have hown2 := (hown.alloc (.cells #[.bool false, .int .i64 x.n.rule, .int .i64 (kind x.n.atom), .int .i64 (field x.n.atom), .slice x.RA (rs x.n.atom).length x.rc, .float .f64 (lo x.n.atom), .float .f64 (hi x.n.atom), .slice x.OA (of x.n.atom).length x.oc, .int .i64 x.n.yes, .int .i64 x.n.no] 37)).alloc (.cells #[.bool false, .int .i64 x.n.rule, .int .i64 (kind x.n.atom), .int .i64 (field x.n.atom), .slice x.RA (rs x.n.atom).length x.rc, .float .f64 (lo x.n.atom), .float .f64 (hi x.n.atom), .slice x.OA (of x.n.atom).length x.oc, .int .i64 x.n.yes, .int .i64 x.n.no] 37)
        have hrow2 : Row encN 10 ((wr.alloc (.cells #[.bool false, .int .i64 x.n.rule, .int .i64 (kind x.n.atom), .int .i64 (field x.n.atom), .slice x.RA (rs x.n.atom).length x.rc, .float .f64 (lo x.n.atom), .float .f64 (hi x.n.atom), .slice x.OA (of x.n.atom).length x.oc, .int .i64 x.n.yes, .int .i64 x.n.no] 37)).alloc (.cells #[.bool false, .int .i64 x.n.rule, .int .i64 (kind x.n.atom), .int .i64 (field x.n.atom), .slice x.RA (rs x.n.atom).length x.rc, .float .f64 (lo x.n.atom), .float .f64 (hi x.n.atom), .slice x.OA (of x.n.atom).length x.oc, .int .i64 x.n.yes, .int .i64 x.n.no] 37)) (wr.heap.size + 1 + 1) (some ⟨wr.heap.size + 1, 0, none⟩) 1 [shiftR a.length x] := by
          have := Row.new encN_len (wr.alloc (.cells #[.bool false, .int .i64 x.n.rule, .int .i64 (kind x.n.atom), .int .i64 (field x.n.atom), .slice x.RA (rs x.n.atom).length x.rc, .float .f64 (lo x.n.atom), .float .f64 (hi x.n.atom), .slice x.OA (of x.n.atom).length x.oc, .int .i64 x.n.yes, .int .i64 x.n.no] 37)) 37 [shiftR a.length x] #[.bool false, .int .i64 x.n.rule, .int .i64 (kind x.n.atom), .int .i64 (field x.n.atom), .slice x.RA (rs x.n.atom).length x.rc, .float .f64 (lo x.n.atom), .float .f64 (hi x.n.atom), .slice x.OA (of x.n.atom).length x.oc, .int .i64 x.n.yes, .int .i64 x.n.no] (by rw [flat_one]; exact HSH.out)
          simpa using this
        go_wp2_with (at_builtin; refine append_rows rfl _ _ 23 rfl w6.heap.size 37 _ 112 Tryz.underlying23 Nd.info_node rfl (by omega) encN_len encN_one _ j ((raw1.take j).map (shiftR a.length)) rfl hown2 (by have := hk.size; simp; omega) _ (some ⟨wr.heap.size + 1, 0, none⟩) 1 1 [shiftR a.length x] rfl hrow2 (by unfold maxLen; omega) (by omega) ?_)
        intro v8 w8 hown8 hb8
        have hk8 : Keep w6 w8 := Below.trans ((hk.alloc _).alloc _) hb8
        go_wp2
        go_roundw
        case rel => exact ⟨j + 1, by omega, by go_num, by rw [HTK.out, List.map_take]; exact hown8, hk8⟩
        case measure => simp [intOf]; omega
    · obtain rfl : j = T1.length := by omega
      rw [List.take_of_length_le (by omega)] at hown
      have hz : Nds wr A7 T1.length (T1.map (shift a.length)) := ⟨raw1.map (shiftR a.length), by rw [map_shiftR, HR1.out], Row.of_own encN_len hown (by omega), fun y hy => by
        obtain ⟨x, hx, rfl⟩ := List.mem_map.1 hy
        have e : (shiftR (a.length : Int) x).n.atom = x.n.atom := shift_atom _ _
        rw [e]
        exact (HX1.out x hx).kept hk⟩
      have HZ := Lib.hid hz
      have hzl : (T1.map (shift (a.length : Int))).length = T1.length := List.length_map _
      have htl : (T2.take T1.length).length = T1.length := by rw [List.length_take]; have := HLE.out; omega
      have hsub : ∀ y ∈ T1.map (shift (a.length : Int)), fits y.atom := fun y hy => by
        have hp := rules_more a b
        rw [← HT.out.1, ← HT.out.2] at hp
        exact hTf2.out y (hp.subset hy)
      have CS := Lib.hid (fun (W : World) (hkW : Keep wr W) => ref_same_any (some ⟨b6, off6, none⟩) c6 (T2.take T1.length) A7 c7 (T1.map (shift a.length)) W (by omega) (by omega) (fun y hy => hTf2.out y (List.mem_of_mem_take hy)) hsub (by rw [htl]; exact nds_take ((HN6.out.kept hk).kept hkW) _ HLE.out) (by rw [hzl]; exact HZ.out.kept hkW))
      rw [htl, hzl, HEQ.out] at CS
      have k1r := k16.trans hk
      have q1 : T1.length ≤ c6 := by have := HLE.out; omega
      have q2 : (T1.length : Int) ≤ (c6 : Int) := by omega
      have q3 : (0 : Int) ≤ (T1.length : Int) := by omega
      have q4 : ¬ (c6 : Int) < (T1.length : Int) := by omega
      have q5 : decide ((T1.length : Int) ≤ (c6 : Int)) = true := by simpa using q2
      clear hz hown hzl htl hsub
      go_wp2_with fail
      refine (CW.out _ k1r).mono ?_
      rintro e9 w9 ⟨rfl, k9⟩
      go_wp2_with fail
      refine (CS.out _ k9).mono ?_
      rintro e10 w10 ⟨rfl, k10⟩
      go_wp2
      go_ret
      exact ⟨rfl, (k1r.trans k9).trans k10⟩
end Go.Proofs.YtdkeibgfehblaaaGreatDoor.Cm
