/- Layer 16's laws: what laid nodes are; rules that may be laid; the example. Conditions: none. -/
import Derived.Test.YtdkeibgfehblaaaGreatDoorCmAll
import Derived.Test.YtdkeibgfehblaaaGreatDoorCnAll
import Derived.Test.YtdkeibgfehblaaaGreatDoorWkAll
import Derived.Test.YtdkeibgfehblaaaGreatDoorGuT
namespace Go.Proofs.YtdkeibgfehblaaaGreatDoor.Cm
set_option linter.unusedVariables false
set_option linter.unusedSimpArgs false
set_option maxRecDepth 100000
open Go.ChangeShapes Go.WideShapes Go.ChangeAt Go.RowKit
open Tr (kind field rs lo hi of zero zeroR dp dpL dp_of Ex Exs ExIn Rus RuIn RuleAt RulesIn wf wfL fits fitsL wfR getD_mem ret_bool ret_int store_float small_fits atoms atomsL)
open Nd (Nds NodeAt zeroN okL okRs full RetNodes NOwn NodesIn wfN smallB laid)
open Cp (sameN testP leafP lay layN layA layO rulesF rules)
open Wk (okF rules_right norm_okl norm_ok)
open Tree (eqL)
theorem wf_zero : wf zero := by
  unfold zero
  rw [wf]
  exact ⟨⟨by decide, by decide⟩, fun p hp => by (cases hp), ⟨by decide, by decide⟩, ⟨by decide, by decide⟩, by rw [wfL]; trivial⟩
theorem fits_norm {f : Int} {r : List (Int × Int)} {l h : Nat} {o : List ExprP} (hk : okL (.mk 1 f r l h o)) : fits (.mk 1 f (Sp.norm r) l h []) := by
  obtain ⟨d, hd⟩ := hk.2.1
  have hf := (small_fits _ _ d (Nat.le_refl _) hk.1 hd).1
  rw [fits] at hf ⊢
  have hl := (norm_okl r).2
  have h8 := hk.few.1
  exact ⟨⟨by omega, Nat.zero_le _⟩, hf.2.1, by rw [fitsL]; trivial⟩
mutual
theorem lay_fits : ∀ (e : ExprP) (t : List NodeP) (y n : Int), okL e → (∀ x ∈ t, fits x.atom) → ∀ x ∈ (lay t e y n).1, fits x.atom
  | .mk k f r l h o, t, y, n, hk, ht, x, hx => by
    by_cases k1 : k = 1
    · rw [Nd.lay_1 t k1] at hx
      subst k1
      rcases List.mem_append.1 hx with hx | hx
      · exact ht x hx
      · rw [List.mem_singleton] at hx; subst hx; exact fits_norm hk
    have hs := hk.sub k1
    rcases hk.many k1 with ⟨rfl, rfl⟩ | ⟨rfl, e, rfl⟩ | ⟨rfl | rfl, h2⟩
    · rw [lay, if_neg k1, if_neg (by decide), if_neg (by decide), if_neg (by decide)] at hx
      exact ht x hx
    · rw [lay, if_neg k1, if_pos rfl] at hx
      exact layN_fits [e] t y n hs ht x hx
    · rw [Nd.lay_3] at hx
      exact layA_fits o t y n hs ht x hx
    · rw [Nd.lay_4] at hx
      exact layO_fits o t y n hs ht x hx
theorem layN_fits : ∀ (o : List ExprP) (t : List NodeP) (y n : Int), (∀ e ∈ o, okL e) → (∀ x ∈ t, fits x.atom) → ∀ x ∈ (layN t o y n).1, fits x.atom
  | [], t, y, n, hs, ht, x, hx => by rw [layN] at hx; exact ht x hx
  | e :: o, t, y, n, hs, ht, x, hx => by rw [layN] at hx; exact lay_fits e t n y (hs e (List.mem_cons_self ..)) ht x hx
theorem layA_fits : ∀ (o : List ExprP) (t : List NodeP) (y n : Int), (∀ e ∈ o, okL e) → (∀ x ∈ t, fits x.atom) → ∀ x ∈ (layA t o y n).1, fits x.atom
  | [], t, y, n, hs, ht, x, hx => by rw [layA] at hx; exact ht x hx
  | e :: o, t, y, n, hs, ht, x, hx => by
    rw [layA] at hx
    exact lay_fits e _ _ _ (hs e (List.mem_cons_self ..)) (layA_fits o t y n (fun x hx => hs x (List.mem_cons_of_mem _ hx)) ht) x hx
theorem layO_fits : ∀ (o : List ExprP) (t : List NodeP) (y n : Int), (∀ e ∈ o, okL e) → (∀ x ∈ t, fits x.atom) → ∀ x ∈ (layO t o y n).1, fits x.atom
  | [], t, y, n, hs, ht, x, hx => by rw [layO] at hx; exact ht x hx
  | e :: o, t, y, n, hs, ht, x, hx => by
    rw [layO] at hx
    exact lay_fits e _ _ _ (hs e (List.mem_cons_self ..)) (layO_fits o t y n (fun x hx => hs x (List.mem_cons_of_mem _ hx)) ht) x hx
end
theorem rulesF_fits : ∀ (l : List RuleP) (i : Int), (∀ r ∈ l, okL r.when_) → ∀ x ∈ (rulesF l i).1, fits x.atom
  | [], i, _, x, hx => by rw [rulesF, List.mem_singleton] at hx; subst hx; exact Nd.fits_zero
  | r :: l, i, h, x, hx => by
    rw [rulesF] at hx
    refine lay_fits r.when_ _ _ _ (h r (List.mem_cons_self ..)) (fun x hx => ?_) x hx
    rcases List.mem_append.1 hx with hx | hx
    · exact rulesF_fits l (i + 1) (fun r hr => h r (List.mem_cons_of_mem _ hr)) x hx
    · rw [List.mem_singleton] at hx; subst hx; exact Nd.fits_zero
mutual
theorem same_self : ∀ e : ExprP, fits e → Tr.same e e = true
  | .mk k f r l h o, hf => by
    rw [fits] at hf
    rw [Tr.same, Fp.sameB_self hf.2.1.1, Fp.sameB_self hf.2.1.2, sameL_self o hf.2.2]
    simp
theorem sameL_self : ∀ o : List ExprP, fitsL o → Tr.sameL o o = true
  | [], _ => by rw [Tr.sameL]
  | e :: o, hf => by
    rw [fitsL] at hf
    rw [Tr.sameL, same_self e hf.1, sameL_self o hf.2]; rfl
end
theorem sameN_self {x : NodeP} (h : fits x.atom) : sameN x x = true := by
  unfold sameN
  rw [same_self x.atom h]
  simp
theorem eqL_self : ∀ {l : List NodeP}, (∀ x ∈ l, fits x.atom) → eqL sameN l l = true
  | [], _ => rfl
  | a :: l, h => by
    show (sameN a a && eqL sameN l l) = true
    rw [sameN_self (h a (List.mem_cons_self ..)), eqL_self fun x hx => h x (List.mem_cons_of_mem _ hx)]; rfl
theorem small_dp : ∀ (N : Nat) (e : ExprP) (d : Int), dp e ≤ N → Tr.small e d = true → (dp e : Int) ≤ d + 1
  | 0, e, d, hN, _ => absurd (Tr.dp_pos e) (by omega)
  | N + 1, .mk k f r l h o, d, hN, hs => by
    rw [Tr.small, Tr.smallL_all] at hs
    simp only [Bool.and_eq_true, decide_eq_true_eq, List.all_eq_true] at hs
    obtain ⟨h0, _, _, h3⟩ := hs
    have hL : ∀ p : List ExprP, (∀ x ∈ p, x ∈ o) → (dpL p : Int) ≤ d := by
      intro p
      induction p with
      | nil => intro _; rw [dpL]; exact h0
      | cons a p ih =>
        intro hm
        have ha := hm a (List.mem_cons_self ..)
        have h1 := ih fun x hx => hm x (List.mem_cons_of_mem _ hx)
        have hd : dp a < dp (.mk k f r l h o) := dp_of (e := .mk k f r l h o) ha
        have h2 := small_dp N a (d - 1) (by omega) (h3 a ha)
        rw [dpL]
        omega
    have := hL o fun _ h => h
    rw [dp]
    omega
/-- Rules that may be laid. -/
theorem laid_ok {l : List RuleP} (hw : ∀ r ∈ l, wfR r) (h : laid l 6 = true) : l.length ≤ 6 ∧ ∀ r ∈ l, okL r.when_ ∧ atoms r.when_ ≤ 20000 ∧ dp r.when_ ≤ 5 ∧ full r.when_ = true := by
  unfold laid Tr.few at h
  simp only [Bool.and_eq_true, decide_eq_true_eq, List.all_eq_true] at h
  obtain ⟨⟨h1, h2⟩, h3⟩ := h
  refine ⟨h1, fun r hr => ?_⟩
  have hf := small_fits (dp r.when_) r.when_ 4 (Nat.le_refl _) (hw r hr).1 (h2 r hr)
  have hd := small_dp _ r.when_ 4 (Nat.le_refl _) (h2 r hr)
  have e : (7 : Nat) ^ ((4 : Int) + 1).toNat = 16807 := by decide
  have := hf.2.2
  exact ⟨⟨(hw r hr).1, ⟨4, h2 r hr⟩, (h3 r hr).1⟩, by omega, by omega, (h3 r hr).2⟩
theorem rules_len {l : List RuleP} (h : ∀ r ∈ l, okL r.when_ ∧ atoms r.when_ ≤ 20000) (h12 : l.length ≤ 12) : (rules l).length ≤ 300000 := by
  have := Nd.rulesF_len l 0 h
  unfold rules
  omega
set_option maxHeartbeats 1000000 in
theorem may_any (A : Option Addr) (c : Nat) (l : List RuleP) (w : World) (hw : ∀ r ∈ l, wfR r) (hR : Rus w A l) :
    Calls Tryz.prog 5 #[.slice A l.length c] w fun e' w' => e' = .returned (.bool (laid l 6)) ∧ Keep w w' := by
  have hC := Lib.hid (Nd.laid_any A c l 6 w (by omega) hw hR)
  clear hR hw
  go_enter Tryz.func5, Tryz.ntmps5
  go_wp2_with fail
  refine hC.out.mono ?_
  rintro e w1 ⟨rfl, hk1⟩
  go_wp2
  go_ret
  exact ⟨rfl, hk1⟩
theorem norm_55 : Sp.norm [(5, 5)] = [(5, 5)] := (Sp.norm_of (z := [(5, 5)]) ⟨fun r hr => by simp at hr; subst hr; decide, by simp⟩ fun _ => rfl).1
def eF : ExprP := .mk 1 3 [(5, 5)] 0 0 []
def rEx : List RuleP := [⟨false, eF, 0, 0, 0, 0⟩, ⟨true, zero, 0, 0, 0, 0⟩]
theorem okL_eF : okL eF := ⟨by
    unfold eF
    rw [wf]
    refine ⟨⟨by decide, by decide⟩, fun p hp => ?_, ⟨by decide, by decide⟩, ⟨by decide, by decide⟩, by rw [wfL]; trivial⟩
    simp at hp
    subst hp
    exact ⟨by decide, by decide⟩, ⟨3, by decide⟩, by decide⟩
theorem okL_zero : okL zero := ⟨wf_zero, ⟨3, by decide⟩, by decide⟩
theorem okF_ex : ∀ r ∈ rEx, okF r.when_ := fun r hr => by
  unfold rEx at hr
  simp at hr
  rcases hr with rfl | rfl
  · exact ⟨okL_eF, by decide⟩
  · exact ⟨okL_zero, by decide⟩
theorem rules_ex : rules rEx = [leafP (-1), leafP 1, leafP 0, testP 3 [(5, 5)] 0 0 2 1] := by
  unfold rules rEx
  simp [rulesF, eF, zero, lay]
theorem row_bx' {W : World} {q : Nat} {a b : Int} {l : List Value} (h : Bx W q (.int .i64 a :: .int .i64 b :: l)) : Row encP 2 W W.heap.size (some ⟨q, 0, none⟩) 1 [(a, b)] :=
  ⟨rfl, fun _ => ⟨q, 0, rfl, h.1, fun j hj i v hv => by
    have : j = 0 := by simpa using hj
    subst this
    match i, hv with
    | 0, hv => injection hv with hv; rw [← hv]; exact h.2 0 _ rfl
    | 1, hv => injection hv with hv; rw [← hv]; exact h.2 1 _ rfl
    | i + 2, hv => cases hv⟩⟩
theorem ex_atom' {W : World} {q : Nat} {a b k f : Int} {lo hi : Nat} (h : Bx W q [.int .i64 a, .int .i64 b]) : Ex W (.mk k f [(a, b)] lo hi []) (some ⟨q, 0, none⟩) none :=
  ⟨row_bx' h, fun hn => absurd hn (by simp [of])⟩
theorem rus_new' {W : World} {q : Nat} (l : List RuleP) (L : List Value) (h : Bx W q L) (hl : ∀ k (hk : k < l.length), ∃ cs : List Value, RuIn W W.heap.size l[k] cs ∧ ∀ j v, cs[j]? = some v → L[k * 11 + j]? = some v) : Rus W (some ⟨q, 0, none⟩) l := fun _ =>
  ⟨q, 0, rfl, h.1, fun k hk => by
    obtain ⟨cs, h1, h2⟩ := hl k hk
    refine ⟨cs, fun j v hv => ?_, h1⟩
    have := h.2 _ _ (h2 j v hv)
    rwa [Nat.zero_add]⟩
set_option maxHeartbeats 8000000 in
theorem awake16_any (w : World) (ht : Tab w) : Calls Tryz.prog 7 #[] w fun e w' => e = .returned (.bool true) ∧ Keep w w' := by
  obtain ⟨X1, hX1⟩ : ∃ X1, X1 = (w.alloc (.cells #[.int .i64 5, .int .i64 5] 42)).alloc (.cells #[.int .i64 1, .int .i64 3, .slice (some ⟨w.heap.size, 0, none⟩) 1 1, .float .f64 0, .float .f64 0, .slice none 0 0] 35) := ⟨_, rfl⟩
  have k1 : Keep w X1 := by rw [hX1]; exact ((Keep.refl w).alloc _).alloc _
  have b0 : Bx X1 (w.heap.size) [.int .i64 5, .int .i64 5] := by rw [hX1]; exact ((Bx.newq (by simp)).alloc _)
  obtain ⟨X, hX⟩ : ∃ X, X = X1.alloc (.cells #[.bool false, .int .i64 1, .int .i64 3, .slice (some ⟨w.heap.size, 0, none⟩) 1 1, .float .f64 0, .float .f64 0, .slice none 0 0, .int .i64 0, .int .i64 0, .int .i64 0, .int .i64 0, .bool true, .int .i64 0, .int .i64 0, .slice none 0 0, .float .f64 0, .float .f64 0, .slice none 0 0, .int .i64 0, .int .i64 0, .int .i64 0, .int .i64 0] 46) := ⟨_, rfl⟩
  have k2 : Keep X1 X := by rw [hX]; exact (Keep.refl X1).alloc _
  have hsz : X1.heap.size = w.heap.size + 1 + 1 := by rw [hX1]; simp
  have bR : Bx X (w.heap.size + 1 + 1) [.bool false, .int .i64 1, .int .i64 3, .slice (some ⟨w.heap.size, 0, none⟩) 1 1, .float .f64 0, .float .f64 0, .slice none 0 0, .int .i64 0, .int .i64 0, .int .i64 0, .int .i64 0, .bool true, .int .i64 0, .int .i64 0, .slice none 0 0, .float .f64 0, .float .f64 0, .slice none 0 0, .int .i64 0, .int .i64 0, .int .i64 0, .int .i64 0] := by rw [hX]; exact Bx.newq hsz.symm
  have hR : Rus X (some ⟨w.heap.size + 1 + 1, 0, none⟩) rEx := rus_new' rEx _ bR fun k hk' => by
    match k, hk' with
    | 0, _ => exact ⟨_, ⟨_, rfl, rfl, (ex_atom' (k := 1) (f := 3) (lo := 0) (hi := 0) (b0.kept k2)).into 1 0⟩, fun j v hv => by
        match j, hv with
        | 0, hv => exact hv
        | 1, hv => exact hv
        | 2, hv => exact hv
        | 3, hv => exact hv
        | 4, hv => exact hv
        | 5, hv => exact hv
        | 6, hv => exact hv
        | 7, hv => exact hv
        | 8, hv => exact hv
        | 9, hv => exact hv
        | 10, hv => exact hv
        | j + 11, hv => cases hv⟩
    | 1, _ => exact ⟨_, ⟨_, rfl, rfl, (Nd.exZ _).into 0 0⟩, fun j v hv => by
        match j, hv with
        | 0, hv => exact hv
        | 1, hv => exact hv
        | 2, hv => exact hv
        | 3, hv => exact hv
        | 4, hv => exact hv
        | 5, hv => exact hv
        | 6, hv => exact hv
        | 7, hv => exact hv
        | 8, hv => exact hv
        | 9, hv => exact hv
        | 10, hv => exact hv
        | j + 11, hv => cases hv⟩
  have hok12 : okR12 rEx := ⟨by decide, fun r hr => by
    unfold rEx at hr
    simp at hr
    rcases hr with rfl | rfl
    · exact ⟨okL_eF, by decide, by decide⟩
    · exact ⟨okL_zero, by decide, by decide⟩⟩
  have CR := Lib.hid (rules_any (some ⟨w.heap.size + 1 + 1, 0, none⟩) 2 rEx X hok12 hR)
  have HRT := Lib.hid (rules_right rEx okF_ex)
  have HFT := Lib.hid (rulesF_fits rEx 0 fun r hr => (hok12.2 r hr).1)
  have hex := rules_ex
  have HXX := Lib.hid hX
  have HX1 := Lib.hid hX1
  have kX := k1.trans k2
  have HTX := Lib.hid (ht.keep kX)
  clear b0 bR hR hok12 ht
  have hsf := store_float Tryz.prog
  go_enter Tryz.func7, Tryz.ntmps7
  go_wp2_with fail
  rw [← hX1, ← hX]
  clear hX hX1 hsf hsz
  refine CR.out.mono ?_
  rintro e w1 ⟨A, c, rfl, hlc, hcm, hn, hk1⟩
  have CT := Lib.hid (fun W (hk : Keep w1 W) => right_any A c (rules rEx) W ((HTX.out.keep hk1).keep hk) (by rw [rules_ex]; decide) HFT.out (hn.kept hk))
  rw [HRT.out] at CT
  rw [rules_ex] at hn CT ⊢
  obtain ⟨b, off, rfl, _⟩ := hn.addr (by decide)
  obtain ⟨_, _, _, _, _, n0, _⟩ := hn.node 0 (by decide)
  obtain ⟨_, _, _, _, _, n1, _⟩ := hn.node 1 (by decide)
  obtain ⟨_, _, _, _, _, n2, _⟩ := hn.node 2 (by decide)
  obtain ⟨_, _, _, _, _, n3, _⟩ := hn.node 3 (by decide)
  have c00 : w1.cell? ⟨b, off, none⟩ = some (.bool true) := n0.1
  have c01 : w1.cell? ⟨b, off + 1, none⟩ = some (.int .i64 (-1)) := n0.2.1
  have c11 : w1.cell? ⟨b, off + 10 + 1, none⟩ = some (.int .i64 1) := n1.2.1
  have c20 : w1.cell? ⟨b, off + 20, none⟩ = some (.bool true) := n2.1
  have c21 : w1.cell? ⟨b, off + 20 + 1, none⟩ = some (.int .i64 0) := n2.2.1
  have c30 : w1.cell? ⟨b, off + 30, none⟩ = some (.bool false) := n3.1
  have c38 : w1.cell? ⟨b, off + 30 + 8, none⟩ = some (.int .i64 2) := n3.2.2.2.2.2.2.2.2.1
  have c39 : w1.cell? ⟨b, off + 30 + 9, none⟩ = some (.int .i64 1) := n3.2.2.2.2.2.2.2.2.2
  simp only [List.length_cons, List.length_nil, Nat.zero_add, Nat.reduceAdd] at CT ⊢
  clear n0 n1 n2 n3 hn CR hex hlc
  go_wp2_with fail
  refine (CT.out _ (Keep.refl _)).mono ?_
  rintro e w2 ⟨rfl, hk2⟩
  go_wp2
  go_ret
  exact ⟨rfl, (kX.trans hk1).trans hk2⟩
end Go.Proofs.YtdkeibgfehblaaaGreatDoor.Cm
