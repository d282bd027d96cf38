/- The developers' lex: Split and Same: the plain words of LxA and LxT. Conditions: texts at most a hundred thousand bytes, a million tokens at most. -/
import Derived.Test.YtffojilbhpefbaaLxT
import Derived.Test.YtffojilbhpefbaaRow2
import Derived.Lib.Bytealg
import Derived.WalkMore
namespace Go.Proofs.Ytffojilbhpefbaa.Lexs
set_option linter.unusedVariables false
open Go.ChangeShapes Go.WideShapes Go.ChangeAt Go.RowKit
open Lx (run low noLf)
open Gu (dig dgB getOk getN)
open Ref10 (encT encT_len encT_one info_tok RetToks sameT sameT_len sameT_at sameT_iff eqT guardT row_tok own_keep2 fresh_row valT slice_to first byte_eq)

/-- How many bytes stand ahead of the first one that a token must begin with; in a remark, or not. -/
def gap : Bool → List UInt8 → Nat
  | _, [] => 0
  | b, c :: l => if c = 10 then gap false l + 1 else if c = 35 then gap true l + 1 else if c = 32 ∨ c = 9 ∨ c = 13 then gap b l + 1 else if b then gap b l + 1 else 0
theorem gap_le : ∀ (b : Bool) (l : List UInt8), gap b l ≤ l.length
  | _, [] => Nat.le_refl _
  | b, c :: l => by
    have h1 := gap_le false l
    have h2 := gap_le true l
    have h3 := gap_le b l
    rw [gap, List.length_cons]
    repeat' split
    all_goals omega
theorem gap_stop : ∀ (b : Bool) (l : List UInt8) (c : UInt8) (t : List UInt8), l.drop (gap b l) = c :: t → Lx.blank c = false ∧ c ≠ 35
  | _, [], c, t, h => by simp at h
  | b, d :: l, c, t, h => by
    rw [gap] at h
    by_cases h1 : d = 10
    · rw [if_pos h1, List.drop_succ_cons] at h; exact gap_stop _ l c t h
    · rw [if_neg h1] at h
      by_cases h2 : d = 35
      · rw [if_pos h2, List.drop_succ_cons] at h; exact gap_stop _ l c t h
      · rw [if_neg h2] at h
        by_cases h3 : d = 32 ∨ d = 9 ∨ d = 13
        · rw [if_pos h3, List.drop_succ_cons] at h; exact gap_stop _ l c t h
        · rw [if_neg h3] at h
          cases b
          · obtain ⟨rfl, rfl⟩ : d = c ∧ l = t := by simpa using h
            refine ⟨?_, h2⟩
            simp only [not_or] at h3
            simp [Lx.blank, h1, h3.1, h3.2.1, h3.2.2]
          · rw [if_pos rfl, List.drop_succ_cons] at h; exact gap_stop _ l c t h
theorem feeds_cons (c : UInt8) (l : List UInt8) : (Lx.feeds (c :: l) : Int) = (if c = 10 then 1 else 0) + (Lx.feeds l : Int) := by
  have h := Lx.next_feeds c 0 l
  unfold Lx.next at h
  split at h <;> rename_i hc <;> (try rw [if_pos hc]) <;> (try rw [if_neg hc]) <;> omega
theorem go_blank {c : UInt8} (h : Lx.blank c = true) (t : List UInt8) (line : Int) : Lx.go (c :: t) line = Lx.go t (Lx.next c line) := by
  have hp : Lx.piece c t = some (0, Lx.none_) := by
    simp only [Lx.blank, Bool.or_eq_true, beq_iff_eq] at h
    rcases h with ((rfl | rfl) | rfl) | rfl <;> rfl
  rw [Lx.go_some hp, List.drop_zero]
  cases Lx.go t (Lx.next c line) <;> rfl
theorem go_remark (t : List UInt8) (line : Int) : Lx.go (35 :: t) line = Lx.go (t.drop (run noLf t)) line := by
  rw [Lx.go_some (n := run noLf t) (k := Lx.none_) rfl]
  show (Lx.go _ line).map _ = _
  cases Lx.go (t.drop (run noLf t)) line <;> rfl
/-- What stands ahead of a token counts for its lines alone. -/
theorem go_gap : ∀ (l : List UInt8) (line : Int),
    Lx.go l line = Lx.go (l.drop (gap false l)) (line + (Lx.feeds (l.take (gap false l)) : Int)) ∧
    Lx.go (l.drop (run noLf l)) line = Lx.go (l.drop (gap true l)) (line + (Lx.feeds (l.take (gap true l)) : Int))
  | [], line => by
    have : Lx.feeds [] = 0 := rfl
    simp [gap, run, this]
  | c :: l, line => by
    have ih := go_gap l
    by_cases h1 : c = 10
    · subst h1
      have hr : run noLf (10 :: l) = 0 := rfl
      have hg : ∀ b, gap b (10 :: l) = gap false l + 1 := fun b => by rw [gap, if_pos rfl]
      have e := (go_blank (c := 10) rfl l line).trans (ih (line + 1)).1
      rw [hr, hg, hg, List.drop_zero, List.drop_succ_cons, List.take_succ_cons, feeds_cons, if_pos rfl, ← Int.add_assoc]
      exact ⟨e, e⟩
    · have hn : Lx.next c line = line := by unfold Lx.next; rw [if_neg h1]
      have hr : run noLf (c :: l) = run noLf l + 1 := by
        have : noLf c = true := by simp [noLf, h1]
        rw [run, if_pos this]
      have hf : ∀ m, (Lx.feeds (c :: m) : Int) = Lx.feeds m := fun m => by rw [feeds_cons, if_neg h1]; omega
      by_cases h2 : c = 35
      · subst h2
        have hg : ∀ b, gap b (35 :: l) = gap true l + 1 := fun b => by rw [gap, if_neg h1, if_pos rfl]
        rw [hr, hg, hg, List.drop_succ_cons, List.drop_succ_cons, List.take_succ_cons, hf]
        exact ⟨(go_remark l line).trans (ih line).2, (ih line).2⟩
      · by_cases h3 : c = 32 ∨ c = 9 ∨ c = 13
        · have hg : ∀ b, gap b (c :: l) = gap b l + 1 := fun b => by rw [gap, if_neg h1, if_neg h2, if_pos h3]
          have hb : Lx.blank c = true := by rcases h3 with rfl | rfl | rfl <;> rfl
          rw [hr, hg, hg, List.drop_succ_cons, List.drop_succ_cons, List.take_succ_cons, hf, go_blank hb, hn, List.drop_succ_cons, List.take_succ_cons, hf]
          exact ⟨(ih line).1, (ih line).2⟩
        · have hg : gap true (c :: l) = gap true l + 1 := by rw [gap, if_neg h1, if_neg h2, if_neg h3, if_pos rfl]
          have hg0 : gap false (c :: l) = 0 := by rw [gap, if_neg h1, if_neg h2, if_neg h3]; rfl
          rw [hr, hg, hg0, List.drop_succ_cons, List.drop_succ_cons, List.take_succ_cons, hf, List.drop_zero, List.take_zero]
          refine ⟨?_, (ih line).2⟩
          have : Lx.feeds [] = 0 := rfl
          rw [this]; simp

/-- The kind of the token that a byte begins, or 0. -/
def kindC (c : UInt8) : Nat := if low c then 1 else if dig c then 2 else if Lx.mark c then 3 else if c == 45 then 4 else 0
theorem kind_low {c : UInt8} : low c = (kindC c == 1) := by
  unfold kindC
  cases low c <;> cases dig c <;> cases Lx.mark c <;> cases (c == 45) <;> rfl
theorem low_dig {c : UInt8} (h : low c = true) : dig c = false := by
  unfold low at h
  unfold dig
  simp [Lx.lwB] at h
  exact Gu.dgB_hi (by omega)
theorem kind_dig {c : UInt8} : dig c = (kindC c == 2) := by
  have := @low_dig c
  unfold kindC
  cases h1 : low c
  · cases dig c <;> cases Lx.mark c <;> cases (c == 45) <;> rfl
  · rw [this h1]; rfl
theorem mark_idx (c : UInt8) : Lx.mark c = decide ((0 : Int) ≤ Lib.indexByte [40, 41, 44, 59] c) := by
  unfold Lx.mark
  rw [show (c == 40) = (40 == c) from by rw [Bool.eq_iff_iff, beq_iff_eq, beq_iff_eq]; exact eq_comm, show (c == 41) = (41 == c) from by rw [Bool.eq_iff_iff, beq_iff_eq, beq_iff_eq]; exact eq_comm,
    show (c == 44) = (44 == c) from by rw [Bool.eq_iff_iff, beq_iff_eq, beq_iff_eq]; exact eq_comm, show (c == 59) = (59 == c) from by rw [Bool.eq_iff_iff, beq_iff_eq, beq_iff_eq]; exact eq_comm]
  simp only [Lib.indexByte]
  by_cases a : (40 == c) = true <;> by_cases b : (41 == c) = true <;> by_cases d : (44 == c) = true <;> by_cases e : (59 == c) = true <;> simp [a, b, d, e]
theorem ixs_any (s : ByteArray) (c : Int) (w : World) : Calls Try.prog 63 #[.string s, .int .u8 c] w fun e w' => e = .returned (.int .i64 (Lib.indexByte s.data.toList c.toNat.toUInt8)) ∧ w = w' := by
  have hx : ∀ W, (callFunc 73 #[.string s, .int .u8 c]).run Try.prog W = .ok (.value (.int .i64 (Lib.indexByte s.data.toList c.toNat.toUInt8))) W := fun W => by
    rw [run_callFunc_extern (e := Extern.BytealgIndexByte.indexByte) Try.func73 (by kernel_rfl) (by kernel_rfl) (by kernel_rfl) (by kernel_rfl), Lib.run_indexByteString]; rfl
  generalize Lib.indexByte s.data.toList c.toNat.toUInt8 = r at *
  go_enter Try.func63, Try.ntmps63
  go_wp2
  go_ret
  exact ⟨rfl, rfl⟩
theorem ix_any (s : ByteArray) (c : Int) (w : World) : Calls Try.prog 54 #[.string s, .int .u8 c] w fun e w' => e = .returned (.int .i64 (Lib.indexByte s.data.toList c.toNat.toUInt8)) ∧ w = w' := by
  go_enter Try.func54, Try.ntmps54
  go_wp2_with fail
  refine (ixs_any s c _).mono ?_
  rintro e w1 ⟨rfl, rfl⟩
  go_wp2
  go_ret
  exact ⟨rfl, rfl⟩
/-- strings.Count of line feeds. -/
theorem count_any (s : ByteArray) (w : World) : Calls Try.prog 30 #[.string s, .string ⟨#[10]⟩] w fun e w' => e = .returned (.int .i64 (Lx.feeds (bl s) : Nat)) ∧ w = w' := by
  have hx : ∀ W, (callFunc 44 #[.string s, .int .u8 10]).run Try.prog W = .ok (.value (.int .i64 (Lx.feeds (bl s) : Nat))) W := fun W => by
    rw [run_callFunc_extern (e := Extern.BytealgCount.count) Try.func44 (by kernel_rfl) (by kernel_rfl) (by kernel_rfl) (by kernel_rfl), Lib.run_countString]; rfl
  generalize Lx.feeds (bl s) = r at *
  go_enter Try.func30, Try.ntmps30
  go_wp2
  rw [show ((({ data := #[10] } : ByteArray)[0].toNat : Nat) : Int) = 10 from rfl, hx, Oper.upon_value]
  go_wp2
  go_ret
  exact ⟨rfl, rfl⟩
set_option maxHeartbeats 1000000 in
theorem kindOf_any (c : UInt8) (w : World) : Calls Try.prog 46 #[.int .u8 c.toNat] w fun e w' => e = .returned (.int .i64 (kindC c : Nat)) ∧ w = w' := by
  obtain ⟨k, hk⟩ : ∃ k, k = kindC c := ⟨_, rfl⟩
  have hl : low c = decide (97 ≤ (c.toNat : Int) ∧ (c.toNat : Int) ≤ 122) := rfl
  have hd : dig c = decide (48 ≤ (c.toNat : Int) ∧ (c.toNat : Int) ≤ 57) := rfl
  have hm := mark_idx c
  have h45 : (c == 45) = ((c.toNat : Int) == 45) := by
    rw [Bool.eq_iff_iff, beq_iff_eq, beq_iff_eq]
    exact ⟨fun e => by rw [e]; rfl, fun e => byte_eq (d := 45) e⟩
  have hix : ∀ W, Calls Try.prog 54 #[.string ⟨#[40, 41, 44, 59]⟩, .int .u8 c.toNat] W fun e w' => e = .returned (.int .i64 (Lib.indexByte [40, 41, 44, 59] c)) ∧ W = w' := fun W => by
    have h := ix_any ⟨#[40, 41, 44, 59]⟩ c.toNat W
    rw [show ((c.toNat : Int)).toNat.toUInt8 = c from by simp] at h
    exact h
  have HIX := Lib.hid hix
  clear hix
  have hb : (c.toNat : Int) ≤ 255 := by have := c.toNat_lt; omega
  have hb0 : (0 : Int) ≤ (c.toNat : Int) := by omega
  unfold kindC at hk
  rw [hl, hd, hm, h45] at hk
  clear hl hd hm h45
  rw [show kindC c = k from by rw [hk]; unfold kindC; rw [show low c = decide (97 ≤ (c.toNat : Int) ∧ (c.toNat : Int) ≤ 122) from rfl, show dig c = decide (48 ≤ (c.toNat : Int) ∧ (c.toNat : Int) ≤ 57) from rfl, mark_idx c, show (c == 45) = ((c.toNat : Int) == 45) from by
    rw [Bool.eq_iff_iff, beq_iff_eq, beq_iff_eq]
    exact ⟨fun e => by rw [e]; rfl, fun e => byte_eq (d := 45) e⟩]]
  generalize Lib.indexByte [40, 41, 44, 59] c = ix at *
  generalize (c.toNat : Int) = b at *
  by_cases h1 : 97 ≤ b ∧ b ≤ 122
  · have HK := Lib.hid (show k = 1 by rw [hk, decide_eq_true h1]; rfl)
    obtain ⟨a1, a2⟩ := h1
    clear hk hb hb0
    go_enter Try.func46, Try.ntmps46
    go_wp2
    go_ret
    exact ⟨by rw [HK.out]; rfl, rfl⟩
  · rw [decide_eq_false h1, if_neg (by decide)] at hk
    by_cases h2 : 48 ≤ b ∧ b ≤ 57
    · have HK := Lib.hid (show k = 2 by rw [hk, decide_eq_true h2]; rfl)
      obtain ⟨a1, a2⟩ := h2
      have a3 : ¬ 97 ≤ b := by omega
      clear hk hb hb0 h1
      go_enter Try.func46, Try.ntmps46
      go_wp2
      go_ret
      exact ⟨by rw [HK.out]; rfl, rfl⟩
    · rw [decide_eq_false h2, if_neg (by decide)] at hk
      have HK := Lib.hid hk
      have key : ∀ W, Calls Try.prog 46 #[.int .u8 b] W fun e w' => e = .returned (.int .i64 (k : Nat)) ∧ W = w' := by
        intro W
        by_cases h3 : (0 : Int) ≤ ix
        · by_cases a1 : 97 ≤ b <;> by_cases a2 : 48 ≤ b
          all_goals (
            first | (have a3 : ¬ b ≤ 122 := by omega) | skip
            first | (have a4 : ¬ b ≤ 57 := by omega) | skip
            have HK3 := Lib.hid (show k = 3 by rw [HK.out, decide_eq_true h3]; rfl)
            have h3' : ix ≥ 0 := h3
            clear HK hk h1 h2 hb hb0
            go_enter Try.func46, Try.ntmps46
            go_wp2_with fail
            refine (HIX.out _).mono ?_
            rintro e w1 ⟨rfl, rfl⟩
            go_wp2
            all_goals (go_ret; exact ⟨by rw [HK3.out]; rfl, rfl⟩))
        · have h3' : ¬ ix ≥ 0 := h3
          cases h4 : (b == 45)
          · have HK4 := Lib.hid (show k = 0 by rw [HK.out, decide_eq_false h3, h4]; rfl)
            by_cases a1 : 97 ≤ b <;> by_cases a2 : 48 ≤ b
            all_goals (
              first | (have a3 : ¬ b ≤ 122 := by omega) | skip
              first | (have a4 : ¬ b ≤ 57 := by omega) | skip
              clear HK hk h1 h2 hb hb0
              go_enter Try.func46, Try.ntmps46
              go_wp2_with fail
              refine (HIX.out _).mono ?_
              rintro e w1 ⟨rfl, rfl⟩
              go_wp2
              all_goals (go_ret; exact ⟨by rw [HK4.out]; rfl, rfl⟩))
          · have HK4 := Lib.hid (show k = 4 by rw [HK.out, decide_eq_false h3, h4]; rfl)
            obtain rfl : b = 45 := by simpa using h4
            clear HK hk h1 h2 hb hb0 h4
            go_enter Try.func46, Try.ntmps46
            go_wp2_with fail
            refine (HIX.out _).mono ?_
            rintro e w1 ⟨rfl, rfl⟩
            go_wp2
            go_ret
            exact ⟨by rw [HK4.out]; rfl, rfl⟩
      exact key w
def GapRel (s : ByteArray) (w : World) (bv iv : Value) (wr : World) : Prop :=
  ∃ (b : Bool) (k : Nat), k ≤ s.size ∧ bv = .bool b ∧ iv = .int .i64 k ∧ Hid (gap false (bl s) = k + gap b ((bl s).drop k)) ∧ Quiet w wr
theorem gap_at (b : Bool) (l : List UInt8) (k : Nat) (h : k < l.length) : gap b (l.drop k) = if l.getD k 0 = 10 then gap false (l.drop (k + 1)) + 1 else if l.getD k 0 = 35 then gap true (l.drop (k + 1)) + 1 else if l.getD k 0 = 32 ∨ l.getD k 0 = 9 ∨ l.getD k 0 = 13 then gap b (l.drop (k + 1)) + 1 else if b then gap b (l.drop (k + 1)) + 1 else 0 := by
  rw [List.drop_eq_getElem_cons h, gap, List.getD_eq_getElem?_getD, List.getElem?_eq_getElem h]; rfl
theorem byteAt_nat (s : ByteArray) (k : Nat) : byteAt s (k : Int) = (((bl s).getD k 0).toNat : Int) := by
  unfold byteAt
  rw [show (k : Int).toNat = k from by omega]
set_option maxHeartbeats 1000000 in
theorem gapSize_any (s : ByteArray) (w : World) (hs : s.size ≤ 1000000) :
    Calls Try.prog 29 #[.string s] w fun e w' => e = .returned (.int .i64 (gap false (bl s) : Nat)) ∧ Quiet w w' := by
  go_enter Try.func29, Try.ntmps29
  go_wp2
  go_loopw [3, 7] (fun bv iv wr => GapRel s w bv iv wr) (fun _ i _ => s.size - (intOf i).toNat)
  case atStart => exact ⟨false, 0, Nat.zero_le _, rfl, rfl, Lib.hid (by simp), Quiet.refl _⟩
  case round =>
    obtain ⟨b, k, hk, rfl, rfl, hg, hq⟩ := hrel
    by_cases hlt : k < s.size
    · have hxk := idx (P := Try.prog) (k := .i64) s (k : Int) Try.underlying9 (by omega) (by omega)
      have hi1 : (k : Int) < s.size := by omega
      rw [byteAt_nat] at hxk
      have HG := Lib.hid (hg.out.trans (congrArg (k + ·) (gap_at b (bl s) k (by rw [bl_length]; exact hlt))))
      clear hg
      generalize (bl s).getD k 0 = c at *
      have d : ∀ d : UInt8, ((c.toNat : Int) == (d.toNat : Int)) = (c == d) := fun d => by
        rw [Bool.eq_iff_iff, beq_iff_eq, beq_iff_eq]
        exact ⟨fun e => byte_eq e, fun e => by rw [e]⟩
      have d1 := d 10
      have d2 := d 35
      have d3 := d 32
      have d4 := d 9
      have d5 := d 13
      rw [show ((10 : UInt8).toNat : Int) = 10 from rfl] at d1
      rw [show ((35 : UInt8).toNat : Int) = 35 from rfl] at d2
      rw [show ((32 : UInt8).toNat : Int) = 32 from rfl] at d3
      rw [show ((9 : UInt8).toNat : Int) = 9 from rfl] at d4
      rw [show ((13 : UInt8).toNat : Int) = 13 from rfl] at d5
      clear d
      by_cases h1 : c = 10
      · have HE := Lib.hid (show gap false (bl s) = (k + 1) + gap false ((bl s).drop (k + 1)) by rw [HG.out, if_pos h1]; omega)
        have hc : (c.toNat : Int) = 10 := by rw [h1]; rfl
        rw [hc] at hxk
        clear HG h1 d1 d2 d3 d4 d5 hc
        go_wp2
        go_roundw
        case rel => exact ⟨false, k + 1, by omega, rfl, by go_num, HE, hq⟩
        case measure => simp [intOf]; omega
      · by_cases h2 : c = 35
        · have HE := Lib.hid (show gap false (bl s) = (k + 1) + gap true ((bl s).drop (k + 1)) by rw [HG.out, if_neg h1, if_pos h2]; omega)
          have hc : (c.toNat : Int) = 35 := by rw [h2]; rfl
          rw [hc] at hxk
          clear HG h1 h2 d1 d2 d3 d4 d5 hc
          go_wp2
          go_roundw
          case rel => exact ⟨true, k + 1, by omega, rfl, by go_num, HE, hq⟩
          case measure => simp [intOf]; omega
        · by_cases h3 : c = 32 ∨ c = 9 ∨ c = 13
          · have HE := Lib.hid (show gap false (bl s) = (k + 1) + gap b ((bl s).drop (k + 1)) by rw [HG.out, if_neg h1, if_neg h2, if_pos h3]; omega)
            have hc : (c.toNat : Int) = 32 ∨ (c.toNat : Int) = 9 ∨ (c.toNat : Int) = 13 := by rcases h3 with rfl | rfl | rfl <;> decide
            clear HG h1 h2 h3 d1 d2 d3 d4 d5
            rcases hc with hc | hc | hc <;> (
              rw [hc] at hxk
              clear hc
              go_wp2
              go_roundw
              case rel => exact ⟨b, k + 1, by omega, rfl, by go_num, HE, hq⟩
              case measure => simp [intOf]; omega)
          · rw [beq_eq_false_iff_ne.2 h1] at d1
            rw [beq_eq_false_iff_ne.2 h2] at d2
            rw [beq_eq_false_iff_ne.2 (fun e => h3 (.inl e))] at d3
            rw [beq_eq_false_iff_ne.2 (fun e => h3 (.inr (.inl e)))] at d4
            rw [beq_eq_false_iff_ne.2 (fun e => h3 (.inr (.inr e)))] at d5
            cases b
            · have HE := Lib.hid (show gap false (bl s) = k by rw [HG.out, if_neg h1, if_neg h2, if_neg h3]; rfl)
              clear HG h1 h2 h3
              generalize (c.toNat : Int) = z at *
              go_wp2
              go_ret
              exact ⟨by rw [HE.out]; rfl, hq⟩
            · have HE := Lib.hid (show gap false (bl s) = (k + 1) + gap true ((bl s).drop (k + 1)) by rw [HG.out, if_neg h1, if_neg h2, if_neg h3, if_pos rfl]; omega)
              clear HG h1 h2 h3
              generalize (c.toNat : Int) = z at *
              go_wp2
              go_roundw
              case rel => exact ⟨true, k + 1, by omega, rfl, by go_num, HE, hq⟩
              case measure => simp [intOf]; omega
    · have HE := Lib.hid (show gap false (bl s) = s.size by rw [hg.out, List.drop_of_length_le (by rw [bl_length]; omega), gap]; omega)
      have hz : ¬ (k : Int) < s.size := by omega
      clear hg
      go_wp2
      go_ret
      exact ⟨by rw [HE.out]; rfl, hq⟩
/-- How many bytes a token of a kind has behind its first one. -/
def behind (k : Nat) (t : List UInt8) : Nat := if k = 1 ∨ k = 2 then run (fun c => kindC c == k) t else 0
def SizeRel (w : World) (k : Nat) (t : List UInt8) (nv : Value) (wr : World) : Prop :=
  ∃ j : Nat, j ≤ t.length ∧ j ≤ run (fun c => kindC c == k) t ∧ nv = .int .i64 ((j : Int) + 1) ∧ Quiet w wr
set_option maxHeartbeats 1000000 in
theorem size_any (s : ByteArray) (c : UInt8) (t : List UInt8) (h : bl s = c :: t) (k : Nat) (hk : 1 ≤ k) (hk4 : k ≤ 4) (w : World) (hs : s.size ≤ 1000000) :
    Calls Try.prog 47 #[.string s, .int .i64 k] w fun e w' => e = .returned (.int .i64 ((behind k t : Int) + 1)) ∧ Quiet w w' := by
  have hlt := bl_length s
  rw [h, List.length_cons] at hlt
  by_cases h12 : k = 1 ∨ k = 2
  · have HB := Lib.hid (show behind k t = run (fun c => kindC c == k) t from if_pos h12)
    have hidx : ∀ j : Nat, byteAt s ((j : Int) + 1) = ((t.getD j 0).toNat : Int) := fun j => by
      rw [show (j : Int) + 1 = ((j + 1 : Nat) : Int) by omega, byteAt_nat, h]; rfl
    have hk0 : ((k : Int) == 1) = true ∨ (((k : Int) == 1) = false ∧ ((k : Int) == 2) = true) := by
      rcases h12 with rfl | rfl
      · exact .inl rfl
      · exact .inr ⟨rfl, rfl⟩
    have HKK := Lib.hid hk0
    clear hk0 h12 hk hk4 h
    go_enter Try.func47, Try.ntmps47
    go_wp2
    go_step3
    go_wp2
    go_step3
    go_wp2
    go_loopw [5] (fun nv wr => SizeRel w k t nv wr) (fun i _ => s.size - (intOf i).toNat)
    case atStart => exact ⟨0, Nat.zero_le _, Nat.zero_le _, rfl, Quiet.refl _⟩
    case round =>
      obtain ⟨j, hj, hjr, rfl, hq⟩ := hrel
      by_cases hlt2 : j < t.length
      · have hxk := idx (P := Try.prog) (k := .i64) s ((j : Int) + 1) Try.underlying9 (by omega) (by omega)
        rw [hidx] at hxk
        have hi1 : (j : Int) + 1 < s.size := by omega
        obtain ⟨cc, hcc⟩ : ∃ cc, cc = t.getD j 0 := ⟨_, rfl⟩
        rw [← hcc] at hxk
        have HC := Lib.hid hcc
        have hkc := kindOf_any cc
        obtain ⟨q, hq1⟩ : ∃ q, q = kindC cc := ⟨_, rfl⟩
        rw [← hq1] at hkc
        have HQ := Lib.hid hq1
        have HX := Lib.hid hkc
        clear hcc hq1 hkc hidx
        generalize (cc.toNat : Int) = z at *
        by_cases hqk : q = k
        · have HD := Lib.hid (show (fun c => kindC c == k) (t.getD j 0) = true by rw [← HC.out]; show (kindC cc == k) = true; rw [← HQ.out, hqk]; exact beq_self_eq_true k)
          have e2 : ((q : Int) != (k : Int)) = false := by simp; omega
          clear hqk
          rcases HKK.out with e1 | ⟨e1, e3⟩ <;> (
            go_wp2_with fail
            refine (HX.out _).mono ?_
            rintro e w1 ⟨rfl, rfl⟩
            go_wp2
            go_roundw
            case rel => exact ⟨j + 1, by omega, Lx.run_step _ _ j hjr hlt2 HD.out, by go_num, hq⟩
            case measure => simp [intOf]; omega)
        · have HE := Lib.hid (Lx.run_stop (fun c => kindC c == k) t j hjr (by rw [← HC.out]; show (kindC cc == k) = false; rw [← HQ.out]; exact beq_eq_false_iff_ne.2 hqk))
          have e2 : ((q : Int) != (k : Int)) = true := by simp; omega
          clear hqk
          rcases HKK.out with e1 | ⟨e1, e3⟩ <;> (
            go_wp2_with fail
            refine (HX.out _).mono ?_
            rintro e w1 ⟨rfl, rfl⟩
            go_wp2
            (try rw [Exit.noGoto_ret]); go_ret
            exact ⟨by rw [HB.out, HE.out]; rfl, hq⟩)
      · have HE := Lib.hid (show run (fun c => kindC c == k) t = j by have := Lx.run_le (fun c => kindC c == k) t; omega)
        have hz : ¬ (j : Int) + 1 < s.size := by omega
        clear hidx
        go_wp2
        (try rw [Exit.noGoto_ret]); go_ret
        exact ⟨by rw [HB.out, HE.out]; rfl, hq⟩
  · have HB := Lib.hid (show behind k t = 0 from if_neg h12)
    rw [HB.out]
    have e1 : ((k : Int) == 1) = false := by simp; omega
    have e2 : ((k : Int) == 2) = false := by simp; omega
    clear h12 hk hk4 h
    go_enter Try.func47, Try.ntmps47
    go_wp2
    go_step3
    go_wp2
    go_step3
    go_wp2
    go_loopw [5] (fun nv wr => nv = .int .i64 1 ∧ Quiet w wr) (fun i _ => 0)
    case atStart => exact ⟨rfl, Quiet.refl _⟩
    case round =>
      obtain ⟨rfl, hq⟩ := hrel
      by_cases hlt2 : 0 < t.length
      · have hi1 : (1 : Int) < s.size := by omega
        go_wp2
        (try rw [Exit.noGoto_ret]); go_ret
        exact ⟨rfl, hq⟩
      · have hi1 : ¬ (1 : Int) < s.size := by omega
        go_wp2
        (try rw [Exit.noGoto_ret]); go_ret
        exact ⟨rfl, hq⟩
end Go.Proofs.Ytffojilbhpefbaa.Lexs
