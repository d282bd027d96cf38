/- Several texts in one: Ns, Nt. Conditions: as each part says. -/
import Derived.Test.YtdkeibgfehblaaaGreatDoorNdA
import Derived.Test.YtdkeibgfehblaaaGreatDoorTrRef
import Derived.Test.YtdkeibgfehblaaaGreatDoorTrRu
import Derived.BigQuiet
/- Layer 16's reference: Small, full, Laid. Conditions: lists at most a million. -/
namespace Go.Proofs.YtdkeibgfehblaaaGreatDoor.Nd
set_option linter.unusedVariables false
open Go.ChangeShapes Go.WideShapes Go.ChangeAt Go.RowKit
open Tr
/-- The cells of a node at a place. -/
def NodeAt (W : World) (x : NodeP) (RA OA : Option Addr) (rc oc b p : Nat) : Prop :=
  W.cell? ⟨b, p, none⟩ = some (.bool x.leaf) ∧ W.cell? ⟨b, p + 1, none⟩ = some (.int .i64 x.rule) ∧ W.cell? ⟨b, p + 2, none⟩ = some (.int .i64 (kind x.atom)) ∧ W.cell? ⟨b, p + 3, none⟩ = some (.int .i64 (field x.atom)) ∧
  W.cell? ⟨b, p + 4, none⟩ = some (.slice RA (rs x.atom).length rc) ∧ W.cell? ⟨b, p + 5, none⟩ = some (.float .f64 (lo x.atom)) ∧ W.cell? ⟨b, p + 6, none⟩ = some (.float .f64 (hi x.atom)) ∧
  W.cell? ⟨b, p + 7, none⟩ = some (.slice OA (of x.atom).length oc) ∧ W.cell? ⟨b, p + 8, none⟩ = some (.int .i64 x.yes) ∧ W.cell? ⟨b, p + 9, none⟩ = some (.int .i64 x.no)
theorem NodeAt.kept {W W' : World} {x : NodeP} {RA OA : Option Addr} {rc oc b p : Nat} (h : NodeAt W x RA OA rc oc b p) (hb : b < W.heap.size) (hk : Keep W W') : NodeAt W' x RA OA rc oc b p := by
  obtain ⟨h0, h1, h2, h3, h4, h5, h6, h7, h8, h9⟩ := h
  exact ⟨(Below.cell hk hb).trans h0, (Below.cell hk hb).trans h1, (Below.cell hk hb).trans h2, (Below.cell hk hb).trans h3, (Below.cell hk hb).trans h4, (Below.cell hk hb).trans h5,
    (Below.cell hk hb).trans h6, (Below.cell hk hb).trans h7, (Below.cell hk hb).trans h8, (Below.cell hk hb).trans h9⟩
/-- The cells of a new node. -/
theorem NodeAt.new (W : World) (x : NodeP) (RA OA : Option Addr) (rc oc : Nat) (t : TypeId) :
    NodeAt (W.alloc (.cells #[.bool x.leaf, .int .i64 x.rule, .int .i64 (kind x.atom), .int .i64 (field x.atom), .slice RA (rs x.atom).length rc, .float .f64 (lo x.atom), .float .f64 (hi x.atom), .slice OA (of x.atom).length oc, .int .i64 x.yes, .int .i64 x.no] t)) x RA OA rc oc W.heap.size 0 := by
  have hc : ∀ j v, (#[.bool x.leaf, .int .i64 x.rule, .int .i64 (kind x.atom), .int .i64 (field x.atom), .slice RA (rs x.atom).length rc, .float .f64 (lo x.atom), .float .f64 (hi x.atom), .slice OA (of x.atom).length oc, .int .i64 x.yes, .int .i64 x.no] : Array Value)[j]? = some v →
      (W.alloc (.cells #[.bool x.leaf, .int .i64 x.rule, .int .i64 (kind x.atom), .int .i64 (field x.atom), .slice RA (rs x.atom).length rc, .float .f64 (lo x.atom), .float .f64 (hi x.atom), .slice OA (of x.atom).length oc, .int .i64 x.yes, .int .i64 x.no] t)).cell? ⟨W.heap.size, j, none⟩ = some v := fun j v hj => by
    rw [World.cell?_alloc_at (hn := rfl), hj]
  exact ⟨hc 0 _ rfl, hc 1 _ rfl, hc 2 _ rfl, hc 3 _ rfl, hc 4 _ rfl, hc 5 _ rfl, hc 6 _ rfl, hc 7 _ rfl, hc 8 _ rfl, hc 9 _ rfl⟩
theorem Nds.node {W : World} {b off n : Nat} {l : List NodeP} (h : Nds W (some ⟨b, off, none⟩) n l) (k : Nat) (hk : k < n) :
    b < W.heap.size ∧ ∃ RA OA rc oc, NodeAt W (l.getD k zeroN) RA OA rc oc b (off + k * 10) ∧ Ex W (l.getD k zeroN).atom RA OA := by
  obtain ⟨hb, RA, OA, rc, oc, hc, hE⟩ := h.elem k hk
  exact ⟨hb, RA, OA, rc, oc, ⟨hc 0 _ rfl, hc 1 _ rfl, hc 2 _ rfl, hc 3 _ rfl, hc 4 _ rfl, hc 5 _ rfl, hc 6 _ rfl, hc 7 _ rfl, hc 8 _ rfl, hc 9 _ rfl⟩, hE⟩
def smallB (l : List NodeP) (m : Nat) : Bool := decide (l.length ≤ m) && l.all fun x => small x.atom 3
set_option maxHeartbeats 1000000 in
theorem ref_small_any (A : Option Addr) (c : Nat) (l : List NodeP) (n : Nat) (w : World) (hn : n ≤ 1000000) (hR : Nds w A l.length l) :
    Calls Tryz.prog 6 #[.slice A l.length c, .int .i64 (n : Int)] w fun e' w' => e' = .returned (.bool (smallB l n)) ∧ Keep w w' := by
  by_cases h1 : n < l.length
  · have HS := Lib.hid (show smallB l n = false by rw [smallB, show decide (l.length ≤ n) = false by simp; omega]; rfl)
    have d1 : decide (n < l.length) = true := by simpa using h1
    have d1' : decide ((n : Int) < (l.length : Int)) = true := by simp; omega
    clear h1
    go_enter Tryz.func6, Tryz.ntmps6
    go_wp2
    go_ret
    exact ⟨ret_bool HS.out.symm, Keep.refl _⟩
  have HS := Lib.hid (show smallB l n = l.all fun x => small x.atom 3 by rw [smallB, show decide (l.length ≤ n) = true by simp; omega]; rfl)
  have d1 : decide (n < l.length) = false := by simpa using h1
  have d1' : decide ((n : Int) < (l.length : Int)) = false := by simp; omega
  have hll : l.length ≤ 1000000 := by omega
  clear h1
  go_enter Tryz.func6, Tryz.ntmps6
  go_wp2
  go_loopw [5] (fun iv wr => ∃ j : Nat, j ≤ l.length ∧ iv = .int .i64 j ∧ Hid ((l.take j).all (fun x => small x.atom 3) = true) ∧ Keep w wr) (fun iv _ => l.length - (intOf iv).toNat)
  case atStart => exact ⟨0, Nat.zero_le _, rfl, rfl, Keep.refl _⟩
  case round =>
    obtain ⟨j, hj, rfl, hall, hk⟩ := hrel
    by_cases hlt : j < l.length
    · have hi1 : (j : Int) < l.length := by omega
      have hj0 : (0 : Int) ≤ j := by omega
      have hRw := hR.kept hk
      obtain ⟨b, off, rfl, hbb⟩ := hRw.addr (by omega)
      obtain ⟨_, RA, OA, rc, oc, hx6, hx⟩ := hRw.node j hlt
      have HA := Lib.hid (all_snoc (fun x : NodeP => small x.atom 3) zeroN l j hlt)
      have HNo := Lib.hid (all_no (fun x : NodeP => small x.atom 3) zeroN l j hlt)
      generalize l.getD j zeroN = r at *
      obtain ⟨_, _, x1, x2, x3, x4, x5, x6, _, _⟩ := hx6
      obtain ⟨sm, hsm⟩ : ∃ sm, small r.atom 3 = sm := ⟨_, rfl⟩
      have HC := Lib.hid (show ∀ W, Keep wr W → Calls Tryz.prog 15 #[.agg #[.int .i64 (kind r.atom), .int .i64 (field r.atom), .slice RA (rs r.atom).length rc, .float .f64 (lo r.atom), .float .f64 (hi r.atom), .slice OA (of r.atom).length oc], .int .i64 3] W fun e' w' => e' = .returned (.bool sm) ∧ Keep W w' from fun W hW => by
          have := small_any _ r.atom RA OA rc oc 3 W (Nat.le_refl _) (by omega) (by omega) (hx.kept hW)
          rwa [hsm] at this)
      cases sm
      · have HF := Lib.hid (HNo.out hsm)
        clear hx HA HNo hsm hRw
        go_wp2_with fail
        refine (HC.out _ (Keep.refl _)).mono ?_
        rintro e w1 ⟨rfl, hk1⟩
        go_wp2
        go_ret
        exact ⟨ret_bool (by rw [HS.out, HF.out]), hk.trans hk1⟩
      · have HF := Lib.hid (show (l.take (j + 1)).all (fun x => small x.atom 3) = true by rw [HA.out, hall.out, hsm]; rfl)
        clear hx HA HNo hsm hRw
        go_wp2_with fail
        refine (HC.out _ (Keep.refl _)).mono ?_
        rintro e w1 ⟨rfl, hk1⟩
        go_wp2
        go_roundw
        case rel => exact ⟨j + 1, by omega, by go_num, HF, hk.trans hk1⟩
        case measure => simp [intOf]; omega
    · obtain rfl : j = l.length := by omega
      have HF := Lib.hid (show l.all (fun x => small x.atom 3) = true by have := hall.out; rwa [List.take_length] at this)
      go_wp2
      go_ret
      exact ⟨ret_bool (by rw [HS.out, HF.out]), hk⟩
mutual
/-- Has each range of an expression a number? -/
def full : ExprP → Bool
  | .mk _ _ r _ _ o => r.all (fun p => decide (p.1 ≤ p.2)) && fullL o
def fullL : List ExprP → Bool
  | [] => true
  | e :: l => full e && fullL l
end
theorem fullL_all (l : List ExprP) : fullL l = l.all full := by
  induction l with
  | nil => rfl
  | cons e l ih => rw [fullL, List.all_cons, ih]
set_option maxHeartbeats 2000000 in
theorem full_any : ∀ (N : Nat) (e : ExprP) (RA OA : Option Addr) (rc oc : Nat) (w : World), dp e ≤ N → fits e → Ex w e RA OA →
    Calls Tryz.prog 29 #[.agg #[.int .i64 (kind e), .int .i64 (field e), .slice RA (rs e).length rc, .float .f64 (lo e), .float .f64 (hi e), .slice OA (of e).length oc]] w fun e' w' => e' = .returned (.bool (full e)) ∧ Keep w w' := by
  intro N
  induction N with
  | zero => intro e RA OA rc oc w hN; exact absurd (dp_pos e) (by omega)
  | succ N ih =>
    intro e RA OA rc oc w hN hfit hE
    have hsub := fun x (hx : x ∈ of e) => dp_of hx
    obtain ⟨k, f, r, l, h, o⟩ := e
    rw [fits] at hfit
    have hrl : r.length ≤ 1000000 := hfit.1.1
    have hol : o.length ≤ 1000000 := hfit.1.2
    have hfs := fun x (hx : x ∈ o) => fitsL_mem hfit.2.2 x hx
    clear hfit
    simp only [kind, field, rs, lo, hi, of] at hsub ⊢
    have HS := Lib.hid (show full (.mk k f r l h o) = (r.all (fun p => decide (p.1 ≤ p.2)) && o.all full) by rw [full, fullL_all])
    obtain ⟨X, hX⟩ : ∃ X, X = w.alloc (.cells #[.int .i64 k, .int .i64 f, .slice RA r.length rc, .float .f64 l, .float .f64 h, .slice OA o.length oc] 35) := ⟨_, rfl⟩
    have hkX : Keep w X := by rw [hX]; exact (Keep.refl w).alloc _
    have hltX : w.heap.size < X.heap.size := by rw [hX]; simp
    have hEl : ElemAt X (.mk k f r l h o) RA OA rc oc w.heap.size 0 := by rw [hX]; exact ElemAt.new w (.mk k f r l h o) RA OA rc oc 35
    have HB := Lib.hid (show ∀ W, Keep X W → ElemAt W (.mk k f r l h o) RA OA rc oc w.heap.size 0 from fun W hk => hEl.kept hltX hk)
    have hEX := hE.kept hkX
    clear hEl hE
    have hO : Exs X OA o := hEX.exs
    have hR : Row encP 2 X X.heap.size RA r.length r := hEX.1
    clear hEX
    go_enter Tryz.func29, Tryz.ntmps29
    go_wp2
    rw [← hX]
    clear hX
    go_loopw [3] (fun iv wr => ∃ j : Nat, j ≤ r.length ∧ iv = .int .i64 j ∧ Hid ((r.take j).all (fun p => decide (p.1 ≤ p.2)) = true) ∧ Keep X wr) (fun iv _ => r.length - (intOf iv).toNat)
    case atStart => exact ⟨0, Nat.zero_le _, rfl, rfl, Keep.refl _⟩
    case round =>
      obtain ⟨j, hj, rfl, hall, hk⟩ := hrel
      obtain ⟨b0, b1, b2, b3, b4, b5⟩ := HB.out _ hk
      simp only [kind, field, rs, lo, hi, of] at b0 b1 b2 b3 b4 b5
      by_cases hlt : j < r.length
      · have hi1 : (j : Int) < r.length := by omega
        have hj0 : (0 : Int) ≤ j := by omega
        have hRw := hR.kept hk
        obtain ⟨b, off, rfl, hbb⟩ := hRw.addr (by omega)
        obtain ⟨_, x0, x1⟩ := hRw.pair j hlt
        have HA := Lib.hid (all_snoc (fun p : Int × Int => decide (p.1 ≤ p.2)) (0, 0) r j hlt)
        have HNo := Lib.hid (all_no (fun p : Int × Int => decide (p.1 ≤ p.2)) (0, 0) r j hlt)
        generalize r.getD j (0, 0) = x at *
        obtain ⟨p, q⟩ := x
        simp only at x0 x1
        by_cases hpq : p ≤ q
        · have HF := Lib.hid (show (r.take (j + 1)).all (fun p => decide (p.1 ≤ p.2)) = true by rw [HA.out, hall.out]; simpa using hpq)
          have d : decide (q < p) = false := by simpa using hpq
          clear HA HNo hRw hsub hfs hpq
          go_wp2
          go_quiet (fail)
          go_wp2
          go_roundw
          case rel => exact ⟨j + 1, by omega, by go_num, HF, hk.trans (Quiet.keep ⟨nq, rfl⟩)⟩
          case measure => simp [intOf]; omega
        · have HF := Lib.hid (HNo.out (by simpa using hpq))
          have d : decide (q < p) = true := by simpa using hpq
          clear HA HNo hRw hsub hfs hpq
          go_wp2
          go_quiet (fail)
          go_wp2
          go_ret
          exact ⟨ret_bool (by rw [HS.out, HF.out]; rfl), (hkX.trans hk).trans (Quiet.keep ⟨nq, rfl⟩)⟩
      · obtain rfl : j = r.length := by omega
        have HF := Lib.hid (show full (.mk k f r l h o) = o.all full by have := hall.out; rw [List.take_length] at this; rw [HS.out, this]; rfl)
        clear hall
        have HKX := Lib.hid (hkX.trans hk)
        replace HB := Lib.hid (fun W (h : Keep wr W) => HB.out W (hk.trans h))
        replace hO := hO.kept hk
        clear hk hR hkX hltX HS
        go_wp2
        go_loopw [4] (fun iv wr2 => ∃ j : Nat, j ≤ o.length ∧ iv = .int .i64 j ∧ Hid ((o.take j).all full = true) ∧ Keep wr wr2) (fun iv _ => o.length - (intOf iv).toNat)
        case atStart => exact ⟨0, Nat.zero_le _, rfl, rfl, Keep.refl _⟩
        case round =>
          obtain ⟨j, hj, rfl, hall, hk⟩ := hrel
          clear b0 b1 b2 b3 b4 b5
          obtain ⟨b0, b1, b2, b3, b4, b5⟩ := HB.out _ hk
          simp only [kind, field, rs, lo, hi, of] at b0 b1 b2 b3 b4 b5
          by_cases hlt : j < o.length
          · have hi1 : (j : Int) < o.length := by omega
            have hj0 : (0 : Int) ≤ j := by omega
            have hOw := hO.kept hk
            obtain ⟨b, off, rfl, hbb⟩ := hOw.addr (by omega)
            obtain ⟨_, RA', OA', rc', oc', ⟨x0, x1, x2, x3, x4, x5⟩, hx⟩ := hOw.elem j hlt
            have hmem := getD_mem zero o j hlt
            have hdp := hsub _ hmem
            have hfx := hfs _ hmem
            have HA := Lib.hid (all_snoc full zero o j hlt)
            have HNo := Lib.hid (all_no full zero o j hlt)
            generalize o.getD j zero = x at *
            obtain ⟨sm, hsm⟩ : ∃ sm, full x = sm := ⟨_, rfl⟩
            have HC := Lib.hid (show ∀ W, Keep _ W → Calls Tryz.prog 29 #[.agg #[.int .i64 (kind x), .int .i64 (field x), .slice RA' (rs x).length rc', .float .f64 (lo x), .float .f64 (hi x), .slice OA' (of x).length oc']] W fun e' w' => e' = .returned (.bool sm) ∧ Keep W w' from fun W hW => by
              have := ih x RA' OA' rc' oc' W (by omega) hfx (hx.kept hW)
              rwa [hsm] at this)
            cases sm
            · have HF2 := Lib.hid (HNo.out hsm)
              clear hx hsub hdp hmem HA HNo hsm hfs hfx
              go_wp2_with fail
              refine (HC.out _ (Keep.refl _)).mono ?_
              rintro e w1 ⟨rfl, hk1⟩
              go_wp2
              go_ret
              exact ⟨ret_bool (by rw [HF.out, HF2.out]), (HKX.out.trans hk).trans hk1⟩
            · have HF2 := Lib.hid (show (o.take (j + 1)).all full = true by rw [HA.out, hall.out, hsm]; rfl)
              clear hx hsub hdp hmem HA HNo hsm hfs hfx
              go_wp2_with fail
              refine (HC.out _ (Keep.refl _)).mono ?_
              rintro e w1 ⟨rfl, hk1⟩
              go_wp2
              go_roundw
              case rel => exact ⟨j + 1, by omega, by go_num, HF2, hk.trans hk1⟩
              case measure => simp [intOf]; omega
          · obtain rfl : j = o.length := by omega
            have HF2 := Lib.hid (show o.all full = true by have := hall.out; rwa [List.take_length] at this)
            go_wp2
            go_ret
            exact ⟨ret_bool (by rw [HF.out, HF2.out]), HKX.out.trans hk⟩
def laid (l : List RuleP) (n : Nat) : Bool := Tr.few l n && l.all fun r => right r.when_ && full r.when_
set_option maxHeartbeats 2000000 in
theorem laid_any (A : Option Addr) (c : Nat) (l : List RuleP) (n : Nat) (w : World) (hn : n ≤ 1000000) (hw : ∀ r ∈ l, wfR r) (hR : Rus w A l) :
    Calls Tryz.prog 14 #[.slice A l.length c, .int .i64 (n : Int)] w fun e' w' => e' = .returned (.bool (laid l n)) ∧ Keep w w' := by
  have CF := Lib.hid (few_any A c l n w hn hR)
  obtain ⟨fw, hfw⟩ : ∃ fw, few l n = fw := ⟨_, rfl⟩
  rw [hfw] at CF
  cases fw with
  | false =>
    have HS := Lib.hid (show laid l n = false by rw [laid, hfw]; rfl)
    clear hfw
    go_enter Tryz.func14, Tryz.ntmps14
    go_wp2_with fail
    refine CF.out.mono ?_
    rintro e w1 ⟨rfl, hk1⟩
    go_wp2
    go_ret
    exact ⟨ret_bool HS.out.symm, hk1⟩
  | true =>
    have HS := Lib.hid (show laid l n = l.all fun r => right r.when_ && full r.when_ by rw [laid, hfw]; rfl)
    have hll : l.length ≤ 1000000 := by
      rw [few, Bool.and_eq_true, decide_eq_true_eq] at hfw
      exact Nat.le_trans hfw.1 hn
    have hfs : ∀ r ∈ l, fits r.when_ := fun r hr => by
      rw [few, Bool.and_eq_true, List.all_eq_true] at hfw
      exact (small_fits (dp r.when_) r.when_ 4 (Nat.le_refl _) (hw r hr).1 (hfw.2 r hr)).1
    clear hfw hw
    go_enter Tryz.func14, Tryz.ntmps14
    go_wp2_with fail
    refine CF.out.mono ?_
    rintro e w1 ⟨rfl, hk1⟩
    clear CF
    replace hR := hR.kept hk1
    have HK1 := Lib.hid hk1
    clear hk1
    go_wp2
    go_loopw [5] (fun iv wr => ∃ j : Nat, j ≤ l.length ∧ iv = .int .i64 j ∧ Hid ((l.take j).all (fun r => right r.when_ && full r.when_) = true) ∧ Keep w1 wr) (fun iv _ => l.length - (intOf iv).toNat)
    case atStart => exact ⟨0, Nat.zero_le _, rfl, rfl, Keep.refl _⟩
    case round =>
      obtain ⟨j, hj, rfl, hall, hk⟩ := hrel
      by_cases hlt : j < l.length
      · have hi1 : (j : Int) < l.length := by omega
        have hj0 : (0 : Int) ≤ j := by omega
        have hRw := hR.kept hk
        obtain ⟨b, off, rfl, _⟩ := hRw.addr (by omega)
        obtain ⟨hbb, RA, OA, rc, oc, hx6, hx⟩ := hRw.elem j hlt
        have hfx := hfs _ (getD_mem zeroR l j hlt)
        have HA := Lib.hid (all_snoc (fun r : RuleP => right r.when_ && full r.when_) zeroR l j hlt)
        have HNo := Lib.hid (all_no (fun r : RuleP => right r.when_ && full r.when_) zeroR l j hlt)
        generalize l.getD j zeroR = r at *
        obtain ⟨ri, hri⟩ : ∃ ri, right r.when_ = ri := ⟨_, rfl⟩
        obtain ⟨fu, hfu⟩ : ∃ fu, full r.when_ = fu := ⟨_, rfl⟩
        have hC := fun p : KeptOf wr => right_any _ r.when_ RA OA rc oc p.w (Nat.le_refl _) hfx (hx.kept p.h)
        have hD := fun p : KeptOf wr => full_any _ r.when_ RA OA rc oc p.w (Nat.le_refl _) hfx (hx.kept p.h)
        rw [hri] at hC
        rw [hfu] at hD
        have hX := fun p : KeptOf wr => hx6.kept hbb p.h
        simp only [hri, hfu] at HA HNo
        clear hx hRw hfs hfx hri hfu
        obtain ⟨_, x1, x2, x3, x4, x5, x6, _⟩ := hX (⟨wr, Keep.refl wr⟩ : KeptOf wr)
        cases ri
        · have HF := Lib.hid (HNo.out (by simp))
          clear HA HNo hD hX
          go_wp2_with fail
          refine (hC ⟨wr, Keep.refl wr⟩).mono ?_
          rintro e w2 ⟨rfl, hw⟩
          go_wp2
          go_ret
          exact ⟨ret_bool (by rw [HS.out, HF.out]), (HK1.out.trans hk).trans hw⟩
        have HX := Lib.hid hX
        have HD := Lib.hid hD
        clear hX hD
        go_wp2_with fail
        refine (hC ⟨wr, Keep.refl wr⟩).mono ?_
        rintro e w2 ⟨rfl, hw⟩
        clear x1 x2 x3 x4 x5 x6 hC
        obtain ⟨_, x1, x2, x3, x4, x5, x6, _⟩ := HX.out ⟨w2, hw⟩
        have hD := HD.out ⟨w2, hw⟩
        cases fu
        · have HF := Lib.hid (HNo.out (by simp))
          clear HA HNo
          go_wp2_with fail
          refine hD.mono ?_
          rintro e w3 ⟨rfl, hw3⟩
          go_wp2
          go_ret
          exact ⟨ret_bool (by rw [HS.out, HF.out]), ((HK1.out.trans hk).trans hw).trans hw3⟩
        · have HF := Lib.hid (show (l.take (j + 1)).all (fun r => right r.when_ && full r.when_) = true by rw [HA.out, hall.out]; rfl)
          clear HA HNo
          go_wp2_with fail
          refine hD.mono ?_
          rintro e w3 ⟨rfl, hw3⟩
          go_wp2
          go_roundw
          case rel => exact ⟨j + 1, by omega, by go_num, HF, (hk.trans hw).trans hw3⟩
          case measure => simp [intOf]; omega
      · obtain rfl : j = l.length := by omega
        have HF := Lib.hid (show (l.all fun r => right r.when_ && full r.when_) = true by have := hall.out; rwa [List.take_length] at this)
        go_wp2
        go_ret
        exact ⟨ret_bool (by rw [HS.out, HF.out]), HK1.out.trans hk⟩
end Go.Proofs.YtdkeibgfehblaaaGreatDoor.Nd
/- Layer 16's reference: bare, Right. Conditions: lists at most a million, of atoms whose lists are short. -/
namespace Go.Proofs.YtdkeibgfehblaaaGreatDoor.Nd
set_option linter.unusedVariables false
open Go.ChangeShapes Go.WideShapes Go.ChangeAt Go.RowKit
open Tr
theorem fits_zero : fits zero := by
  unfold zero
  rw [fits, fitsL]
  exact ⟨⟨by decide, by decide⟩, ⟨by decide, by decide⟩, trivial⟩
theorem exZ (w : World) : Ex w zero none none := ⟨Row.none_ _ _ _, fun h => absurd h (Nat.lt_irrefl 0)⟩
set_option maxHeartbeats 2000000 in
theorem bare_any (x : NodeP) (RA OA : Option Addr) (rc oc : Nat) (w : World) (hfit : fits x.atom) (hE : Ex w x.atom RA OA) :
    Calls Tryz.prog 24 #[.agg #[.bool x.leaf, .int .i64 x.rule, .int .i64 (kind x.atom), .int .i64 (field x.atom), .slice RA (rs x.atom).length rc, .float .f64 (lo x.atom), .float .f64 (hi x.atom), .slice OA (of x.atom).length oc, .int .i64 x.yes, .int .i64 x.no]] w fun e' w' => e' = .returned (.bool (Cp.bare x)) ∧ Keep w w' := by
  have CS := Lib.hid (fun (W : World) (hk : Keep w W) => same_any _ x.atom zero RA OA rc oc none none 0 0 W (Nat.le_refl _) hfit fits_zero (hE.kept hk) (exZ W))
  clear hfit hE
  rcases (Classical.em (-1 ≤ x.rule)).symm with t0 | t0
  · have d0 : decide (-1 ≤ x.rule) = false := by simpa using t0
    have HS := Lib.hid (show Cp.bare x = false by rw [Cp.bare, d0]; simp)
    clear t0 CS
    go_enter Tryz.func24, Tryz.ntmps24
    go_wp2
    go_ret
    exact ⟨ret_bool HS.out.symm, (Keep.refl w).alloc _⟩
  have d0 : decide (-1 ≤ x.rule) = true := by simpa using t0
  clear t0
  rcases (Classical.em (x.yes = 0)).symm with t1 | t1
  · have d1 : (x.yes == 0) = false := by simpa using t1
    have HS := Lib.hid (show Cp.bare x = false by rw [Cp.bare, d1]; simp)
    clear t1 CS
    go_enter Tryz.func24, Tryz.ntmps24
    go_wp2
    go_ret
    exact ⟨ret_bool HS.out.symm, (Keep.refl w).alloc _⟩
  have d1 : (x.yes == 0) = true := by simpa using t1
  clear t1
  rcases (Classical.em (x.no = 0)).symm with t2 | t2
  · have d2 : (x.no == 0) = false := by simpa using t2
    have HS := Lib.hid (show Cp.bare x = false by rw [Cp.bare, d2]; simp)
    clear t2 CS
    go_enter Tryz.func24, Tryz.ntmps24
    go_wp2
    go_ret
    exact ⟨ret_bool HS.out.symm, (Keep.refl w).alloc _⟩
  have d2 : (x.no == 0) = true := by simpa using t2
  clear t2
  have HS := Lib.hid (show Cp.bare x = same x.atom zero by rw [Cp.bare, d0, d1, d2]; rfl)
  obtain ⟨X, hX⟩ : ∃ X, X = w.alloc (.cells #[.bool x.leaf, .int .i64 x.rule, .int .i64 (kind x.atom), .int .i64 (field x.atom), .slice RA (rs x.atom).length rc, .float .f64 (lo x.atom), .float .f64 (hi x.atom), .slice OA (of x.atom).length oc, .int .i64 x.yes, .int .i64 x.no] 37) := ⟨_, rfl⟩
  have hC := CS.out X (by rw [hX]; exact (Keep.refl w).alloc _)
  have hkX : Keep w X := by rw [hX]; exact (Keep.refl w).alloc _
  rw [← HS.out] at hC
  rw [hX] at hC
  simp only [kind, field, rs, lo, hi, of, zero, List.length_nil] at hC
  clear CS hX
  go_enter Tryz.func24, Tryz.ntmps24
  go_wp2_with fail
  refine hC.mono ?_
  rintro e w1 ⟨rfl, hk1⟩
  go_wp2
  go_ret
  exact ⟨rfl, ((Keep.refl w).alloc _).trans hk1⟩
theorem rightF_step {l : List NodeP} {j : Nat} (h : j < l.length) (i : Int) : Cp.rightF (l.drop j) i = ((if (l.getD j zeroN).leaf then Cp.bare (l.getD j zeroN) else Cp.test (l.getD j zeroN) i) && Cp.rightF (l.drop (j + 1)) (i + 1)) := by
  have e : l.drop j = l.getD j zeroN :: l.drop (j + 1) := by
    rw [List.drop_eq_getElem_cons h, List.getD_eq_getElem?_getD, List.getElem?_eq_getElem h]; rfl
  rw [e, Cp.rightF]
set_option maxHeartbeats 8000000 in
theorem ref_right_any (A : Option Addr) (c : Nat) (l : List NodeP) (w : World) (hl : l.length ≤ 1000000) (hfs : ∀ x ∈ l, fits x.atom) (hR : Nds w A l.length l) :
    Calls Tryz.prog 12 #[.slice A l.length c] w fun e' w' => e' = .returned (.bool (Cp.right l)) ∧ Keep w w' := by
  have hsf := store_float Tryz.prog
  go_enter Tryz.func12, Tryz.ntmps12
  go_wp2
  go_loopw [3, 4] (fun iv _ wr => ∃ j : Nat, j ≤ l.length ∧ iv = .int .i64 j ∧ Hid (Cp.rightF l 0 = Cp.rightF (l.drop j) j) ∧ Keep w wr) (fun iv _ _ => l.length - (intOf iv).toNat)
  case atStart => exact ⟨0, Nat.zero_le _, rfl, rfl, Keep.refl _⟩
  case round =>
    obtain ⟨j, hj, rfl, hall, hk⟩ := hrel
    by_cases hlt : j < l.length
    · have hi1 : (j : Int) < l.length := by omega
      have hj0 : (0 : Int) ≤ j := by omega
      have hRw := hR.kept hk
      obtain ⟨b, off, rfl, hbb⟩ := hRw.addr (by omega)
      obtain ⟨_, RA, OA, rc, oc, hx6, hx⟩ := hRw.node j hlt
      have hfx := hfs _ (getD_mem zeroN l j hlt)
      have HA := Lib.hid (rightF_step hlt (j : Int))
      generalize l.getD j zeroN = x at *
      obtain ⟨x0, x1, x2, x3, x4, x5, x6, x7, x8, x9⟩ := hx6
      obtain ⟨X, hX⟩ : ∃ X, X = wr.alloc (.cells #[.bool x.leaf, .int .i64 x.rule, .int .i64 (kind x.atom), .int .i64 (field x.atom), .slice RA (rs x.atom).length rc, .float .f64 (lo x.atom), .float .f64 (hi x.atom), .slice OA (of x.atom).length oc, .int .i64 x.yes, .int .i64 x.no] 37) := ⟨_, rfl⟩
      have hkX : Keep wr X := by rw [hX]; exact (Keep.refl wr).alloc _
      have hXn : NodeAt X x RA OA rc oc wr.heap.size 0 := by rw [hX]; exact NodeAt.new wr x RA OA rc oc _
      have CB := Lib.hid (bare_any x RA OA rc oc X hfx (hx.kept hkX))
      have CR := Lib.hid (fun W (hk : Keep X W) => right_any _ x.atom RA OA rc oc W (Nat.le_refl _) hfx (hx.kept (hkX.trans hk)))
      have HKX := Lib.hid (hk.trans hkX)
      have HXN := Lib.hid hXn
      have HLT := Lib.hid (show wr.heap.size < X.heap.size by rw [hX]; simp)
      clear hfx hx hRw hkX hXn
      obtain ⟨lf, hlf⟩ : ∃ lf, x.leaf = lf := ⟨_, rfl⟩
      rw [hlf] at x0 HA
      cases lf with
      | true =>
        obtain ⟨ba, hba⟩ : ∃ ba, Cp.bare x = ba := ⟨_, rfl⟩
        rw [hba] at CB HA
        have hXX := hX
        rw [hlf] at hX
        simp only [if_pos] at HA
        have CB := CB.out
        rw [hlf] at CB
        have CB := Lib.hid CB
        clear CR hba
        cases ba with
        | false =>
          have HF := Lib.hid (show Cp.right l = false by rw [Cp.right, hall.out, HA.out]; rfl)
          clear HA
          go_wp2_with fail
          rw [← hX]
          clear hX hXX
          refine CB.out.mono ?_
          rintro e w1 ⟨rfl, hk1⟩
          go_wp2
          go_ret
          exact ⟨ret_bool HF.out.symm, HKX.out.trans hk1⟩
        | true =>
          have HF := Lib.hid (show Cp.rightF l 0 = Cp.rightF (l.drop (j + 1)) ((j + 1 : Nat) : Int) by rw [hall.out, HA.out]; simp)
          clear HA
          go_wp2_with fail
          rw [← hX]
          clear hX hXX
          refine CB.out.mono ?_
          rintro e w1 ⟨rfl, hk1⟩
          obtain ⟨q0, q1, q2, q3, q4, q5, q6, q7, q8, q9⟩ := HXN.out.kept HLT.out hk1
          rw [hlf] at q0
          clear x0 x1 x2 x3 x4 x5 x6 x7 x8 x9
          go_wp2
          go_roundw
          case rel => exact ⟨j + 1, by omega, by go_num, HF, HKX.out.trans hk1⟩
          case measure => simp [intOf]; omega
      | false =>
        clear CB
        simp only [Bool.false_eq_true, if_false] at HA
        rw [hlf] at hX
        rcases (Classical.em (x.rule = 0)).symm with t0 | t0
        · have d0 : (x.rule != 0) = true := by simpa using t0
          have HF := Lib.hid (show Cp.right l = false by rw [Cp.right, hall.out, HA.out, Cp.test]; simp [t0])
          clear HA CR t0
          go_wp2
          go_ret
          exact ⟨ret_bool HF.out.symm, hk.trans ((Keep.refl wr).alloc _)⟩
        have d0 : (x.rule != 0) = false := by simpa using t0
        rcases (Classical.em (0 ≤ x.yes)).symm with t1 | t1
        · have d1 : decide (x.yes < 0) = true := by simp; omega
          have HF := Lib.hid (show Cp.right l = false by rw [Cp.right, hall.out, HA.out, Cp.test]; simp [t1])
          clear HA CR t1
          go_wp2
          go_ret
          exact ⟨ret_bool HF.out.symm, hk.trans ((Keep.refl wr).alloc _)⟩
        have d1 : decide (x.yes < 0) = false := by simp; omega
        rcases (Classical.em (x.yes < j)).symm with t2 | t2
        · have d2 : decide ((j : Int) ≤ x.yes) = true := by simp; omega
          have HF := Lib.hid (show Cp.right l = false by rw [Cp.right, hall.out, HA.out, Cp.test]; simp [t2])
          clear HA CR t2
          go_wp2
          go_ret
          exact ⟨ret_bool HF.out.symm, hk.trans ((Keep.refl wr).alloc _)⟩
        have d2 : decide ((j : Int) ≤ x.yes) = false := by simp; omega
        rcases (Classical.em (0 ≤ x.no)).symm with t3 | t3
        · have d3 : decide (x.no < 0) = true := by simp; omega
          have HF := Lib.hid (show Cp.right l = false by rw [Cp.right, hall.out, HA.out, Cp.test]; simp [t3])
          clear HA CR t3
          go_wp2
          go_ret
          exact ⟨ret_bool HF.out.symm, hk.trans ((Keep.refl wr).alloc _)⟩
        have d3 : decide (x.no < 0) = false := by simp; omega
        rcases (Classical.em (x.no < j)).symm with t4 | t4
        · have d4 : decide ((j : Int) ≤ x.no) = true := by simp; omega
          have HF := Lib.hid (show Cp.right l = false by rw [Cp.right, hall.out, HA.out, Cp.test]; simp [t4])
          clear HA CR t4
          go_wp2
          go_ret
          exact ⟨ret_bool HF.out.symm, hk.trans ((Keep.refl wr).alloc _)⟩
        have d4 : decide ((j : Int) ≤ x.no) = false := by simp; omega
        rcases (Classical.em (kind x.atom = 1)).symm with t5 | t5
        · have d5 : (kind x.atom != 1) = true := by simpa using t5
          have HF := Lib.hid (show Cp.right l = false by rw [Cp.right, hall.out, HA.out, Cp.test]; simp [t5])
          clear HA CR t5
          go_wp2
          go_ret
          exact ⟨ret_bool HF.out.symm, hk.trans ((Keep.refl wr).alloc _)⟩
        have d5 : (kind x.atom != 1) = false := by simpa using t5
        have HT := Lib.hid (show Cp.test x j = right x.atom by rw [Cp.test, hlf]; simp [t0, t1, t2, t3, t4, t5])
        clear t0 t1 t2 t3 t4 t5
        obtain ⟨ri, hri⟩ : ∃ ri, right x.atom = ri := ⟨_, rfl⟩
        have hC := CR.out X (Keep.refl X)
        rw [hri] at hC HT
        clear CR hri
        cases ri with
        | false =>
          have HF := Lib.hid (show Cp.right l = false by rw [Cp.right, hall.out, HA.out, HT.out]; simp)
          clear HA
          go_wp2_with fail
          rw [← hX]
          clear hX
          refine hC.mono ?_
          rintro e w1 ⟨rfl, hk1⟩
          go_wp2
          go_ret
          exact ⟨ret_bool HF.out.symm, HKX.out.trans hk1⟩
        | true =>
          have HF := Lib.hid (show Cp.rightF l 0 = Cp.rightF (l.drop (j + 1)) ((j + 1 : Nat) : Int) by rw [hall.out, HA.out, HT.out]; simp)
          clear HA
          go_wp2_with fail
          rw [← hX]
          clear hX
          refine hC.mono ?_
          rintro e w1 ⟨rfl, hk1⟩
          go_wp2
          go_roundw
          case rel => exact ⟨j + 1, by omega, by go_num, HF, HKX.out.trans hk1⟩
          case measure => simp [intOf]; omega
    · obtain rfl : j = l.length := by omega
      have HF := Lib.hid (show Cp.rightF l 0 = true by rw [hall.out, List.drop_length]; rfl)
      by_cases h0 : 0 < l.length
      · have d0 : decide (0 < l.length) = true := by simpa using h0
        have d0' : decide ((0 : Int) < (l.length : Int)) = true := by simp; omega
        have HS := Lib.hid (show Cp.right l = true by rw [Cp.right, HF.out]; cases l with | nil => exact absurd h0 (Nat.lt_irrefl 0) | cons _ _ => rfl)
        clear h0
        go_wp2
        go_ret
        exact ⟨ret_bool HS.out.symm, hk⟩
      · have hl0 : l = [] := List.eq_nil_of_length_eq_zero (Nat.eq_zero_of_not_pos h0)
        have d0 : decide (0 < l.length) = false := by simpa using h0
        have d0' : decide ((0 : Int) < (l.length : Int)) = false := by simp; omega
        have HS := Lib.hid (show Cp.right l = false by rw [Cp.right, hl0]; simp)
        clear h0 hl0
        go_wp2
        go_ret
        exact ⟨ret_bool HS.out.symm, hk⟩
end Go.Proofs.YtdkeibgfehblaaaGreatDoor.Nd
