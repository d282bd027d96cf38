/- Connections in memory: rows of five cells; layer 22's reference Right, the law's few. Conditions: texts and lists of Go's sizes. -/
import Derived.Test.YtdgnmoebahaaeaaCsA
import Derived.Test.YtdgnmoebahaaeaaSmR
import Derived.Test.YtdgnmoebahaaeaaRow2
import Derived.Test.YtdgnmoebahaaeaaKept
import Derived.Test.YtdgnmoebahaaeaaStr
import Derived.Test.YtdgnmoebahaaeaaRows
import Derived.Laws.StructEq
namespace Go.Proofs.Ytdgnmoebahaaeaa.Cs
set_option linter.unusedVariables false
set_option linter.unusedSimpArgs false
set_option maxRecDepth 100000
open Go.ChangeShapes Go.WideShapes Go.ChangeAt Go.RowKit
def encC (c : ConnP) : List Value := [.bool c.opn, .int .i64 c.cl, .int .i64 c.lf, .string c.buf, .bool c.bad]
theorem encC_len (c : ConnP) : (encC c).length = 5 := rfl
theorem encC_one (c : ConnP) : ∀ v ∈ encC c, v.oneCell' = true := by
  intro v hv
  simp [encC] at hv
  rcases hv with rfl | rfl | rfl | rfl | rfl <;> rfl
/-- The five cells of one at a place. -/
def CAt (w : World) (b p : Nat) (c : ConnP) : Prop :=
  w.cell? ⟨b, p, none⟩ = some (.bool c.opn) ∧ w.cell? ⟨b, p + 1, none⟩ = some (.int .i64 c.cl) ∧ w.cell? ⟨b, p + 2, none⟩ = some (.int .i64 c.lf) ∧ w.cell? ⟨b, p + 3, none⟩ = some (.string c.buf) ∧ w.cell? ⟨b, p + 4, none⟩ = some (.bool c.bad)
theorem CAt.keep {w w' : World} {b p : Nat} {x : ConnP} (h : CAt w b p x) (hk : ∀ q : Addr, q.block = b → w'.cell? q = w.cell? q) : CAt w' b p x := by
  obtain ⟨h0, h1, h2, h3, h4⟩ := h
  exact ⟨(hk _ rfl).trans h0, (hk _ rfl).trans h1, (hk _ rfl).trans h2, (hk _ rfl).trans h3, (hk _ rfl).trans h4⟩
theorem CAt.kept {w w' : World} {b p : Nat} {x : ConnP} (h : CAt w b p x) (hb : b < w.heap.size) (hk : Keep w w') : CAt w' b p x :=
  h.keep fun q hq => Below.cell hk (by rw [hq]; exact hb)
theorem CAt.quiet {w w' : World} {b p : Nat} {x : ConnP} (h : CAt w b p x) (hq : Quiet w w') : CAt w' b p x := h.keep fun q _ => hq.cell q
theorem row_conn {w : World} {B n b off : Nat} {zs : List ConnP} (h : Row encC 5 w B (some ⟨b, off, none⟩) n zs) (j : Nat) (hj : j < n) : b < B ∧ CAt w b (off + j * 5) (zs.getD j zero) := by
  obtain ⟨hb, hc⟩ := h.cells (by omega)
  have hl := h.1
  have hj' : j < zs.length := by omega
  have e : zs.getD j zero = zs[j] := by rw [List.getD_eq_getElem?_getD, List.getElem?_eq_getElem hj']; rfl
  rw [e]
  exact ⟨hb, hc j hj' 0 _ rfl, hc j hj' 1 _ rfl, hc j hj' 2 _ rfl, hc j hj' 3 _ rfl, hc j hj' 4 _ rfl⟩
/-- All texts fit. -/
def Texts (l : List ConnP) : Prop := ∀ c ∈ l, c.buf.size ≤ maxLen
abbrev aggC (c : ConnP) : Value := .agg #[.bool c.opn, .int .i64 c.cl, .int .i64 c.lf, .string c.buf, .bool c.bad]
theorem ret_bool {b c : Bool} (h : b = c) : Ending.returned (.bool b) = Ending.returned (.bool c) := by rw [h]
/-- What comes back: connections, a place, whether there is one. -/
def RetAcc (zs : List ConnP) (k : Int) (ok : Bool) (w : World) (e : Ending) (w' : World) : Prop :=
  ∃ A n c, e = .returned (.tuple #[.slice A n c, .int .i64 k, .bool ok]) ∧ n ≤ c ∧ c ≤ maxLen ∧ Row encC 5 w' w'.heap.size A n zs ∧ Keep w w'
/-- What comes back: connections, and frames. -/
def RetCF (zs : List ConnP) (fs : List FrameP) (w : World) (e : Ending) (w' : World) : Prop :=
  ∃ A n c B m d, e = .returned (.tuple #[.slice A n c, .slice B m d]) ∧ (n ≤ c ∧ c ≤ maxLen) ∧ Row encC 5 w' w'.heap.size A n zs ∧ Row Ref9.encF 3 w' w'.heap.size B m fs ∧ Keep w w'
/-- '==' of two streams, one being the empty one. -/
theorem eqS0 (buf : ByteArray) (bad : Bool) (w : World) : (Op.equalIn 10000 32 (.agg #[.string buf, .bool bad]) (.agg #[.string ⟨#[]⟩, .bool false])).run Try.prog w = .ok ((bl buf).isEmpty && !bad) w := by
  have u3 := Try.underlying4
  have a3 := Try.isAgg4
  have z3 := Try.sizeOf4
  have u9 := Try.underlying9
  have a9 := Try.isAgg9
  have z9 := Try.sizeOf9
  have hS : Try.prog.underlying 32 = some (.struct (Try.prog.fieldsOf 32)) := by kernel_rfl
  have hp : Try.prog.stoodInHeld 32 = false := by kernel_rfl
  rw [show (10000 : Nat) = 9999 + 1 from rfl, run_equalIn_agg w 9999 32 _ _ hS hp]
  simp only [Program.fieldsOf, Try.underlying32]
  rw [← Str.toList_eq]
  go_simp
  cases bad <;> by_cases h : buf.toList = [] <;> simp [h, List.isEmpty_iff]
theorem guardS : Try.prog.eqGuardType Try.prog.depth 32 = false := by kernel_rfl
/-- '==' of two connections that are one. -/
theorem eqC (c : ConnP) (w : World) : (Op.equalIn 10000 34 (aggC c) (aggC c)).run Try.prog w = .ok true w := by
  have u1 := Try.underlying3
  have a1 := Try.isAgg3
  have z1 := Try.sizeOf3
  have u3 := Try.underlying4
  have a3 := Try.isAgg4
  have z3 := Try.sizeOf4
  have u9 := Try.underlying9
  have a9 := Try.isAgg9
  have z9 := Try.sizeOf9
  have u8 := Try.underlying32
  have a8 := Try.isAgg32
  have z8 := Try.sizeOf32
  have hS : Try.prog.underlying 34 = some (.struct (Try.prog.fieldsOf 34)) := by kernel_rfl
  have hp : Try.prog.stoodInHeld 34 = false := by kernel_rfl
  have hS2 : Try.prog.underlying 32 = some (.struct (Try.prog.fieldsOf 32)) := by kernel_rfl
  have hp2 : Try.prog.stoodInHeld 32 = false := by kernel_rfl
  rw [show (10000 : Nat) = 9998 + 1 + 1 from rfl, run_equalIn_agg w _ 34 _ _ hS hp]
  simp only [Program.fieldsOf, Try.underlying34]
  go_simp
theorem guardC : Try.prog.eqGuardType Try.prog.depth 34 = false := by kernel_rfl
set_option maxHeartbeats 2000000 in
theorem ref_right_any (A : Option Addr) (n c : Nat) (zs : List ConnP) (w : World) (hn : n ≤ maxLen) (hA : Row encC 5 w w.heap.size A n zs) (hT : Texts zs) :
    Calls Try.prog 12 #[.slice A n c] w fun e w' => e = .returned (.bool (right zs)) ∧ Keep w w' := by
  have hl := Lib.hid hA.1
  unfold maxLen at hn
  go_enter Try.func12, Try.ntmps12
  go_wp2
  go_loopw [3] (fun iv wr => ∃ k : Nat, k ≤ n ∧ iv = .int .i64 k ∧ Hid (∀ j, j < k → rightC (zs.getD j zero) = true) ∧ Keep w wr) (fun iv _ => n - (intOf iv).toNat)
  case atStart => exact ⟨0, Nat.zero_le _, rfl, Lib.hid (fun j hj => absurd hj (by omega)), Keep.refl _⟩
  case round =>
    obtain ⟨k, hk, rfl, HK, hK⟩ := hrel
    by_cases hlt : k < n
    · have hltz : (k : Int) < n := by omega
      have hk0 : (0 : Int) ≤ k := by omega
      obtain ⟨b, off, rfl, _⟩ := hA.addr (by omega)
      obtain ⟨hb, hp⟩ := row_conn hA k hlt
      have hp' := hp.kept hb hK
      have hkz : k < zs.length := by rw [hl.out]; exact hlt
      have hmem := getD_mem zs k hkz
      have hgo := fun (h : rightC (zs.getD k zero) = false) => (show right zs = false by
        unfold right; rw [List.all_eq_false]; exact ⟨_, hmem, by rw [h]; simp⟩)
      obtain ⟨x, hxe⟩ : ∃ x, x = zs.getD k zero := ⟨_, rfl⟩
      rw [← hxe] at hp' hmem hgo
      have hon : rightC x = true → ∀ j, j < k + 1 → rightC (zs.getD j zero) = true := fun h j hj => by
        rcases Nat.lt_succ_iff_lt_or_eq.1 hj with hj | rfl
        · exact HK.out j hj
        · rw [← hxe]; exact h
      have hsz := hT x hmem
      have HG := Lib.hid hgo
      have HO := Lib.hid hon
      have HA := Lib.hid hA
      have heq := eqS0 x.buf x.bad
      have hgd := guardS
      obtain ⟨q, hq⟩ : ∃ q, q = ((bl x.buf).isEmpty && !x.bad) := ⟨_, rfl⟩
      rw [← hq] at heq
      obtain ⟨sr, hsr⟩ : ∃ q, q = Sm.right ⟨bl x.buf, x.bad⟩ := ⟨_, rfl⟩
      have HR := Lib.hid fun W => Ref9.right_any x.buf x.bad W hsz
      rw [← hsr] at HR
      have HE := Lib.hid (show rightC x = (decide (0 ≤ x.lf) && (sr && (x.opn || (x.cl == 0 && q)))) by rw [hsr, hq]; rfl)
      clear hgo hon hA hq hsr hp hmem hkz hxe
      obtain ⟨c0, c1, c2, c3, c4⟩ := hp'
      obtain ⟨op, hop⟩ : ∃ q, q = x.opn := ⟨_, rfl⟩
      rw [← hop] at c0 HE
      clear hop
      obtain ⟨Y, hY⟩ : ∃ Y, Y = wr.alloc (.cells #[.bool op, .int .i64 x.cl, .int .i64 x.lf, .string x.buf, .bool x.bad] 34) := ⟨_, rfl⟩
      have k1 : Keep w Y := by rw [hY]; exact hK.alloc _
      have hys : wr.heap.size < Y.heap.size := by rw [hY]; simp
      have b0 : Y.cell? ⟨wr.heap.size, 0, none⟩ = some (.bool op) := by rw [hY]; go_simp
      have b1 : Y.cell? ⟨wr.heap.size, 1, none⟩ = some (.int .i64 x.cl) := by rw [hY]; go_simp
      have b3 : Y.cell? ⟨wr.heap.size, 3, none⟩ = some (.string x.buf) := by rw [hY]; go_simp
      have b4 : Y.cell? ⟨wr.heap.size, 4, none⟩ = some (.bool x.bad) := by rw [hY]; go_simp
      have HY := Lib.hid hY
      clear hY
      by_cases hlf : x.lf < 0
      · have d1 : decide (x.lf < 0) = true := by simp [hlf]
        have HN := Lib.hid (HG.out (by rw [HE.out, show decide (0 ≤ x.lf) = false by simp; omega]; rfl))
        clear hlf
        go_wp2
        go_ret
        exact ⟨ret_bool HN.out.symm, by first | exact k1 | (rw [← HY.out]; exact k1)⟩
      · have d1 : decide (x.lf < 0) = false := by simp [hlf]
        have HE2 := Lib.hid (show rightC x = (sr && (op || (x.cl == 0 && q))) by rw [HE.out, show decide (0 ≤ x.lf) = true by simp; omega]; rfl)
        clear hlf
        go_wp2_with fail
        rw [← HY.out]
        refine (HR.out _).mono ?_
        rintro e w1 ⟨rfl, k2⟩
        replace b0 := (Below.cell k2 hys).trans b0
        replace b1 := (Below.cell k2 hys).trans b1
        replace b3 := (Below.cell k2 hys).trans b3
        replace b4 := (Below.cell k2 hys).trans b4
        have k3 := k1.trans k2
        clear k2 k1
        cases sr
        · have HN := Lib.hid (HG.out (by rw [HE2.out]; rfl))
          go_wp2
          go_ret
          exact ⟨ret_bool HN.out.symm, k3⟩
        · cases op
          · cases e1 : (x.cl == 0)
            · have e2 : (x.cl != 0) = true := by rw [bne, e1]; rfl
              have HN := Lib.hid (HG.out (by rw [HE2.out, e1]; rfl))
              go_wp2
              go_ret
              exact ⟨ret_bool HN.out.symm, k3⟩
            · have e2 : (x.cl != 0) = false := by rw [bne, e1]; rfl
              cases q
              · have HN := Lib.hid (HG.out (by rw [HE2.out, e1]; rfl))
                go_wp2
                go_ret
                exact ⟨ret_bool HN.out.symm, k3⟩
              · have HY2 := Lib.hid (HO.out (by rw [HE2.out, e1]; rfl))
                go_wp2
                exact ⟨⟨k + 1, by omega, by go_num, HY2, k3⟩, by simp [intOf]; omega⟩
          · have HY2 := Lib.hid (HO.out (by rw [HE2.out]; rfl))
            go_wp2
            exact ⟨⟨k + 1, by omega, by go_num, HY2, k3⟩, by simp [intOf]; omega⟩
    · obtain rfl : k = n := by omega
      go_wp2
      go_ret
      refine ⟨ret_bool ?_, hK⟩
      rw [eq_comm]
      unfold right
      rw [List.all_eq_true]
      intro p hp
      obtain ⟨j, hj, rfl⟩ := List.mem_iff_getElem.1 hp
      have := HK.out j (by rw [← hl.out]; exact hj)
      rwa [show zs.getD j zero = zs[j] by simp [List.getD, List.getElem?_eq_getElem hj]] at this
/-- Few places, of short streams, not taken too often. -/
def fewB (zs : List ConnP) : Bool := decide (zs.length ≤ 40) && zs.all fun c => decide (c.buf.size ≤ 500) && decide (c.lf < 1099511627776)
theorem few_iff (zs : List ConnP) : fewB zs = true ↔ zs.length ≤ 40 ∧ ∀ c ∈ zs, c.buf.size ≤ 500 ∧ c.lf < 1099511627776 := by
  simp [fewB]
set_option maxHeartbeats 2000000 in
theorem few_any (A : Option Addr) (n c : Nat) (zs : List ConnP) (w : World) (hn : n ≤ maxLen) (hA : Row encC 5 w w.heap.size A n zs) :
    Calls Try.prog 11 #[.slice A n c] w fun e w' => e = .returned (.bool (fewB zs)) ∧ Quiet w w' := by
  have hl := Lib.hid hA.1
  unfold maxLen at hn
  by_cases h1 : 40 < n
  · have d1 : decide ((40 : Int) < (n : Int)) = true := by simp; omega
    have HE := Lib.hid (show fewB zs = false by unfold fewB; rw [show decide (zs.length ≤ 40) = false by simp; rw [hl.out]; exact h1]; rfl)
    clear h1
    go_enter Try.func11, Try.ntmps11
    go_wp2
    go_ret
    exact ⟨ret_bool HE.out.symm, Quiet.refl _⟩
  · have d1 : decide ((40 : Int) < (n : Int)) = false := by simp; omega
    have HE := Lib.hid (show fewB zs = zs.all fun c => decide (c.buf.size ≤ 500) && decide (c.lf < 1099511627776) by unfold fewB; rw [show decide (zs.length ≤ 40) = true by simp; rw [hl.out]; omega]; rfl)
    clear h1
    go_enter Try.func11, Try.ntmps11
    go_wp2
    go_loopw [3] (fun iv wr => ∃ k : Nat, k ≤ n ∧ iv = .int .i64 k ∧ Hid (∀ j, j < k → (zs.getD j zero).buf.size ≤ 500 ∧ (zs.getD j zero).lf < 1099511627776) ∧ Quiet w wr) (fun iv _ => n - (intOf iv).toNat)
    case atStart => exact ⟨0, Nat.zero_le _, rfl, Lib.hid (fun j hj => absurd hj (by omega)), Quiet.refl _⟩
    case round =>
      obtain ⟨k, hk, rfl, HK, hq⟩ := hrel
      by_cases hlt : k < n
      · obtain ⟨b, off, rfl, _⟩ := hA.addr (by omega)
        obtain ⟨_, hp⟩ := row_conn hA k hlt
        have hp' := hp.quiet hq
        obtain ⟨x, hxe⟩ : ∃ p, p = zs.getD k zero := ⟨_, rfl⟩
        rw [← hxe] at hp'
        have HP := Lib.hid hxe
        have HA := Lib.hid hA
        obtain ⟨_, _, c2, c3, _⟩ := hp'
        clear hxe hA hp
        have hltz : (k : Int) < n := by omega
        have hk0 : (0 : Int) ≤ k := by omega
        have hno : ¬ (x.buf.size ≤ 500 ∧ x.lf < 1099511627776) → fewB zs = false := fun h => by
          rw [HE.out, List.all_eq_false]
          refine ⟨x, by rw [HP.out]; exact getD_mem zs k (by rw [hl.out]; exact hlt), ?_⟩
          simpa using h
        have hyes : (x.buf.size ≤ 500 ∧ x.lf < 1099511627776) → ∀ j, j < k + 1 → (zs.getD j zero).buf.size ≤ 500 ∧ (zs.getD j zero).lf < 1099511627776 := fun h j hj => by
          rcases Nat.lt_succ_iff_lt_or_eq.1 hj with hj | rfl
          · exact HK.out j hj
          · rw [← HP.out]; exact h
        by_cases h2 : 500 < x.buf.size
        · have d2 : decide ((500 : Int) < (x.buf.size : Int)) = true := by simp; omega
          have HN := Lib.hid (hno (by omega))
          clear h2 hno hyes
          go_wp2
          go_ret
          exact ⟨ret_bool HN.out.symm, hq⟩
        · have d2 : decide ((500 : Int) < (x.buf.size : Int)) = false := by simp; omega
          by_cases h3 : 1099511627776 ≤ x.lf
          · have d3 : decide ((1099511627776 : Int) ≤ x.lf) = true := by simp [h3]
            have HN := Lib.hid (hno (by omega))
            clear h2 h3 hno hyes
            go_wp2
            (try go_quiet (fail))
            go_wp2
            go_ret
            exact ⟨ret_bool HN.out.symm, by first | exact hq | exact hq.drewN _⟩
          · have d3 : decide ((1099511627776 : Int) ≤ x.lf) = false := by simp [h3]
            have HN := Lib.hid (hyes (by omega))
            clear h2 h3 hno hyes
            go_wp2
            exact ⟨⟨k + 1, by omega, by go_num, HN, hq⟩, by simp [intOf]; omega⟩
      · obtain rfl : k = n := by omega
        go_wp2
        go_ret
        refine ⟨ret_bool ?_, hq⟩
        rw [HE.out, eq_comm, List.all_eq_true]
        intro p hp
        obtain ⟨j, hj, rfl⟩ := List.mem_iff_getElem.1 hp
        have := HK.out j (by rw [← hl.out]; exact hj)
        rw [show zs.getD j zero = zs[j] by simp [List.getD, List.getElem?_eq_getElem hj]] at this
        simpa using this
end Go.Proofs.Ytdgnmoebahaaeaa.Cs
