/- Several texts in one: LxR, LxS, LxT, LxG, Lx. Conditions: as each part says. -/
import Derived.Test.YtmcgflpgkkophaaGreatDoorLxA
import Derived.Test.YtmcgflpgkkophaaGreatDoorGuAll
import Derived.Test.YtmcgflpgkkophaaGreatDoorStr
import Derived.Test.YtmcgflpgkkophaaGreatDoorRow
import Derived.Laws.ResultCell
import Derived.Laws.StructEq
import Derived.RegionTactic
import Derived.Lib.Strings
import Derived.Test.YtmcgflpgkkophaaGreatDoorRow2
import Derived.Lib.Bytealg
import Derived.WalkMore
/- Layer 10's reference: letters, one. Conditions: texts at most a hundred thousand bytes. -/
namespace Go.Proofs.YtmcgflpgkkophaaGreatDoor.Ref10
set_option linter.unusedVariables false
open Go.ChangeShapes Go.WideShapes Go.ChangeAt Go.RowKit
open Lx (run low noLf)
open Gu (lead dig getOk getN)

theorem results_ctt {fn : Func} {p u v : Tmp} {ty : TypeId} (h : fn.results = #[.cell p ty, .tmp u, .tmp v]) (tmps : Array Value) (P : Program) (w : World) :
    (results fn tmps).run P w =
      ((asAddr (tmps.getD p undef)).run P w).andThen fun a w₁ => ((loadVar ty a).run P w₁).andThen fun x w₂ => .ok (.tuple #[x, tmps.getD u undef, tmps.getD v undef]) w₂ := by
  simp only [results, h]
  simp [Sem.run_bind, Result.andThen]

def LetRel (w : World) (s : ByteArray) (i : Value) (wr : World) : Prop :=
  ∃ k : Nat, k ≤ s.size ∧ k ≤ run low (bl s) ∧ i = .int .i64 k ∧ Quiet w wr
/-- A token as a value. -/
def valT (k : TokP) : Value := .agg #[.int .i64 k.kind, .string k.text, .int .i64 k.num, .int .i64 k.line]
/-- What one answers. -/
def RetOne (x : Option (Nat × TokP)) (w : World) (e : Ending) (w' : World) : Prop :=
  (∃ k n b, e = .returned (.tuple #[valT k, .int .i64 n, .bool b]) ∧ match x with | some (m, k') => k = k' ∧ n = (m : Int) + 1 ∧ b = true | none => b = false) ∧ Keep w w'
theorem slice_to (s : ByteArray) (c : UInt8) (t : List UInt8) (h : bl s = c :: t) (n : Nat) (hn : n ≤ t.length) (W : World) :
    (Instr.slice 9 (.string s) none (some (.int .i64 ((n : Int) + 1))) none).run Tryz.prog W = .ok (.string (st (c :: t.take n))) W := by
  have hl := bl_length s
  rw [h, List.length_cons] at hl
  rw [run_slice_string_h W 9 s Tryz.underlying9 .i64 ((n : Int) + 1) (by omega) (by omega), show ((n : Int) + 1).toNat = n + 1 by omega, Lib.extract_eq]
  show Result.ok (Value.string (st (((bl s).drop 0).take (n + 1 - 0)))) W = _
  rw [h]; rfl
theorem first (s : ByteArray) (c : UInt8) (t : List UInt8) (h : bl s = c :: t) : byteAt s 0 = c.toNat := by
  unfold byteAt; rw [h]; rfl
theorem byte_eq {c d : UInt8} (h : (c.toNat : Int) = (d.toNat : Int)) : c = d := UInt8.toNat_inj.1 (by omega)
/-- What holds at the head of the rounds of a remark. -/
def RemRel (V : World) (t : List UInt8) (i : Value) (wr : World) : Prop :=
  ∃ k : Nat, k ≤ t.length ∧ k ≤ run noLf t ∧ i = .int .i64 ((k : Int) + 1) ∧ Quiet V wr
end Go.Proofs.YtmcgflpgkkophaaGreatDoor.Ref10
/- Layer 10's reference: Split. Conditions: texts at most a hundred thousand bytes. -/
namespace Go.Proofs.YtmcgflpgkkophaaGreatDoor.Ref10
set_option linter.unusedVariables false
open Go.ChangeShapes Go.WideShapes Go.ChangeAt Go.RowKit
open Lx (run low noLf)
def encT (k : TokP) : List Value := [.int .i64 k.kind, .string k.text, .int .i64 k.num, .int .i64 k.line]
theorem encT_len (k : TokP) : (encT k).length = 4 := rfl
theorem encT_one (k : TokP) : ∀ v ∈ encT k, v.oneCell' = true := by
  intro v hv
  simp [encT] at hv
  rcases hv with rfl | rfl | rfl | rfl <;> rfl
theorem info_tok : (Tryz.prog.info? 63).map (fun i => (i.zero, i.size, i.bytes)) = some (some (.agg #[.int .i64 0, .string ⟨#[]⟩, .int .i64 0, .int .i64 0]), 4, 40) := by kernel_rfl
/-- What Split answers. -/
def RetToks (x : List TokP × Int × Int) (w : World) (e : Ending) (w' : World) : Prop :=
  ∃ A n c, e = .returned (.tuple #[.slice A n c, .int .i64 x.2.1, .int .i64 x.2.2]) ∧ Row encT 4 w' w'.heap.size A n x.1 ∧ Keep w w' ∧ Fresh w A n
theorem own_keep2 {w w' : World} {base : Nat} {e : TypeId} {k n : Nat} {v : Value} {xs : List Value} (h : w.ownsRow base e k v n xs) (hk : Keep w w') : w'.ownsRow base e k v n xs :=
  h.kept (row := none) ⟨hk.os, hk.tape, hk.output, hk.size, fun i hi _ => hk.block i hi⟩ (by cases v.ownBlock <;> simp)
theorem fresh_row {W w : World} {base : Nat} {e : TypeId} {A : Option Addr} {n c k : Nat} {xs : List Value} (h : w.ownsRow base e k (.slice A n c) n xs) (hb : W.heap.size ≤ base) : Fresh W A n := fun hn => by
  rcases h.2 with ⟨hv, h0⟩ | ⟨g, cap, cur, hv, hg, _⟩
  · omega
  · injection hv with hA
    exact ⟨g, hA, by omega⟩
def SplitRel (w : World) (s : List UInt8) (sv out lv : Value) (wr : World) : Prop :=
  ∃ (r : List UInt8) (acc : List TokP) (line : Nat), sv = .string (st r) ∧ lv = .int .i64 line ∧ Hid (Lx.go s 1 = (Lx.go r line).map (acc ++ ·)) ∧ wr.ownsRow w.heap.size 63 4 out acc.length (flat encT acc) ∧ Keep w wr ∧ acc.length + r.length ≤ s.length ∧ line + r.length ≤ s.length + 1
end Go.Proofs.YtmcgflpgkkophaaGreatDoor.Ref10
/- Layer 10's reference: Same. Conditions: a million tokens at most. -/
namespace Go.Proofs.YtmcgflpgkkophaaGreatDoor.Ref10
set_option linter.unusedVariables false
open Go.ChangeShapes Go.WideShapes Go.ChangeAt Go.RowKit
/-- Two tokens that are one. -/
def oneT (a b : TokP) : Bool := a.kind == b.kind && (decide (a.text = b.text) && (a.num == b.num && a.line == b.line))
theorem eqT (a b : TokP) (w : World) : (Op.equalIn 10000 63 (.agg #[.int .i64 a.kind, .string a.text, .int .i64 a.num, .int .i64 a.line]) (.agg #[.int .i64 b.kind, .string b.text, .int .i64 b.num, .int .i64 b.line])).run Tryz.prog w = .ok (oneT a b) w := by
  have u3 := Tryz.underlying3
  have a3 := Tryz.isAgg3
  have z3 := Tryz.sizeOf3
  have u9 := Tryz.underlying9
  have a9 := Tryz.isAgg9
  have z9 := Tryz.sizeOf9
  have hS : Tryz.prog.underlying 63 = some (.struct (Tryz.prog.fieldsOf 63)) := by kernel_rfl
  have hp : Tryz.prog.stoodInHeld 63 = false := by kernel_rfl
  rw [show (10000 : Nat) = 9999 + 1 from rfl, run_equalIn_agg w 9999 63 _ _ hS hp]
  simp only [Program.fieldsOf, Tryz.underlying63]
  unfold oneT
  cases h1 : (a.kind == b.kind)
  · go_simp
  · by_cases h2 : a.text = b.text
    · cases h3 : (a.num == b.num) <;> cases h4 : (a.line == b.line) <;> (go_simp; try simp [h2, h3, h4])
    · have h3 : ¬ a.text.toList = b.text.toList := fun e => h2 (by rw [← st_bl a.text, ← st_bl b.text, ← Str.toList_eq, ← Str.toList_eq, e])
      go_simp
theorem guardT : Tryz.prog.eqGuardType Tryz.prog.depth 63 = false := by kernel_rfl
theorem oneT_iff (a b : TokP) : oneT a b = true ↔ a = b := by
  obtain ⟨a1, a2, a3, a4⟩ := a
  obtain ⟨b1, b2, b3, b4⟩ := b
  simp [oneT]
/-- Tokens that are the same, one by one. -/
def sameT : List TokP → List TokP → Bool
  | [], [] => true
  | a :: l, b :: m => oneT a b && sameT l m
  | _, _ => false
theorem sameT_len : ∀ l m : List TokP, l.length ≠ m.length → sameT l m = false
  | [], [], h => absurd rfl h
  | [], b :: m, _ => rfl
  | a :: l, [], _ => rfl
  | a :: l, b :: m, h => by rw [sameT, sameT_len l m (by simpa using h), Bool.and_false]
theorem sameT_at (z : TokP) : ∀ (l m : List TokP) (k : Nat), l.length = m.length → k < l.length → sameT (l.drop k) (m.drop k) = (oneT (l.getD k z) (m.getD k z) && sameT (l.drop (k + 1)) (m.drop (k + 1)))
  | a :: l, b :: m, 0, _, _ => rfl
  | a :: l, b :: m, k + 1, h, hk => sameT_at z l m k (by simpa using h) (by simpa using hk)
theorem sameT_self (l : List TokP) : sameT l l = true := by
  induction l with
  | nil => rfl
  | cons a l ih => rw [sameT, ih, (oneT_iff a a).2 rfl]; rfl
theorem sameT_iff : ∀ l m : List TokP, sameT l m = true ↔ l = m
  | [], [] => by simp [sameT]
  | [], b :: m => by simp [sameT]
  | a :: l, [] => by simp [sameT]
  | a :: l, b :: m => by rw [sameT, Bool.and_eq_true, oneT_iff, sameT_iff l m]; simp
theorem row_tok {w : World} {B n b off : Nat} {zs : List TokP} (h : Row encT 4 w B (some ⟨b, off, none⟩) n zs) (j : Nat) (hj : j < n) :
    b < B ∧ w.cell? ⟨b, off + j * 4, none⟩ = some (.int .i64 (zs.getD j Lx.none_).kind) ∧ w.cell? ⟨b, off + j * 4 + 1, none⟩ = some (.string (zs.getD j Lx.none_).text) ∧ w.cell? ⟨b, off + j * 4 + 2, none⟩ = some (.int .i64 (zs.getD j Lx.none_).num) ∧ w.cell? ⟨b, off + j * 4 + 3, none⟩ = some (.int .i64 (zs.getD j Lx.none_).line) := by
  obtain ⟨hb, hc⟩ := h.cells (by omega)
  have hl := h.1
  have hj' : j < zs.length := by omega
  have e : zs.getD j Lx.none_ = zs[j] := by rw [List.getD_eq_getElem?_getD, List.getElem?_eq_getElem hj']; rfl
  rw [e]
  exact ⟨hb, hc j hj' 0 _ rfl, hc j hj' 1 _ rfl, hc j hj' 2 _ rfl, hc j hj' 3 _ rfl⟩
end Go.Proofs.YtmcgflpgkkophaaGreatDoor.Ref10
/- The developers' lex: Split and Same: the plain words of LxA and LxT. Conditions: texts at most a hundred thousand bytes, a million tokens at most. -/
namespace Go.Proofs.YtmcgflpgkkophaaGreatDoor.Lexs
set_option linter.unusedVariables false
set_option maxRecDepth 100000
open Go.ChangeShapes Go.WideShapes Go.ChangeAt Go.RowKit
open Lx (run low noLf)
open Gu (dig dgB getOk getN)
open Ref10 (encT encT_len encT_one info_tok RetToks sameT sameT_len sameT_at sameT_iff eqT guardT row_tok own_keep2 fresh_row valT slice_to first byte_eq)

/-- How many bytes stand ahead of the first one that a token must begin with; in a remark, or not. -/
def gap : Bool → List UInt8 → Nat
  | _, [] => 0
  | b, c :: l => if c = 10 then gap false l + 1 else if c = 35 then gap true l + 1 else if c = 32 ∨ c = 9 ∨ c = 13 then gap b l + 1 else if b then gap b l + 1 else 0
theorem gap_le : ∀ (b : Bool) (l : List UInt8), gap b l ≤ l.length
  | _, [] => Nat.le_refl _
  | b, c :: l => by
    have h1 := gap_le false l
    have h2 := gap_le true l
    have h3 := gap_le b l
    rw [gap, List.length_cons]
    repeat' split
    all_goals omega
theorem gap_stop : ∀ (b : Bool) (l : List UInt8) (c : UInt8) (t : List UInt8), l.drop (gap b l) = c :: t → Lx.blank c = false ∧ c ≠ 35
  | _, [], c, t, h => by simp at h
  | b, d :: l, c, t, h => by
    rw [gap] at h
    by_cases h1 : d = 10
    · rw [if_pos h1, List.drop_succ_cons] at h; exact gap_stop _ l c t h
    · rw [if_neg h1] at h
      by_cases h2 : d = 35
      · rw [if_pos h2, List.drop_succ_cons] at h; exact gap_stop _ l c t h
      · rw [if_neg h2] at h
        by_cases h3 : d = 32 ∨ d = 9 ∨ d = 13
        · rw [if_pos h3, List.drop_succ_cons] at h; exact gap_stop _ l c t h
        · rw [if_neg h3] at h
          cases b
          · obtain ⟨rfl, rfl⟩ : d = c ∧ l = t := by simpa using h
            refine ⟨?_, h2⟩
            simp only [not_or] at h3
            simp [Lx.blank, h1, h3.1, h3.2.1, h3.2.2]
          · rw [if_pos rfl, List.drop_succ_cons] at h; exact gap_stop _ l c t h
theorem feeds_cons (c : UInt8) (l : List UInt8) : (Lx.feeds (c :: l) : Int) = (if c = 10 then 1 else 0) + (Lx.feeds l : Int) := by
  have h := Lx.next_feeds c 0 l
  unfold Lx.next at h
  split at h <;> rename_i hc <;> (try rw [if_pos hc]) <;> (try rw [if_neg hc]) <;> omega
theorem go_blank {c : UInt8} (h : Lx.blank c = true) (t : List UInt8) (line : Int) : Lx.go (c :: t) line = Lx.go t (Lx.next c line) := by
  have hp : Lx.piece c t = some (0, Lx.none_) := by
    simp only [Lx.blank, Bool.or_eq_true, beq_iff_eq] at h
    rcases h with ((rfl | rfl) | rfl) | rfl <;> rfl
  rw [Lx.go_some hp, List.drop_zero]
  cases Lx.go t (Lx.next c line) <;> rfl
theorem go_remark (t : List UInt8) (line : Int) : Lx.go (35 :: t) line = Lx.go (t.drop (run noLf t)) line := by
  rw [Lx.go_some (n := run noLf t) (k := Lx.none_) rfl]
  show (Lx.go _ line).map _ = _
  cases Lx.go (t.drop (run noLf t)) line <;> rfl
/-- What stands ahead of a token counts for its lines alone. -/
theorem go_gap : ∀ (l : List UInt8) (line : Int),
    Lx.go l line = Lx.go (l.drop (gap false l)) (line + (Lx.feeds (l.take (gap false l)) : Int)) ∧
    Lx.go (l.drop (run noLf l)) line = Lx.go (l.drop (gap true l)) (line + (Lx.feeds (l.take (gap true l)) : Int))
  | [], line => by
    have : Lx.feeds [] = 0 := rfl
    simp [gap, run, this]
  | c :: l, line => by
    have ih := go_gap l
    by_cases h1 : c = 10
    · subst h1
      have hr : run noLf (10 :: l) = 0 := rfl
      have hg : ∀ b, gap b (10 :: l) = gap false l + 1 := fun b => by rw [gap, if_pos rfl]
      have e := (go_blank (c := 10) rfl l line).trans (ih (line + 1)).1
      rw [hr, hg, hg, List.drop_zero, List.drop_succ_cons, List.take_succ_cons, feeds_cons, if_pos rfl, ← Int.add_assoc]
      exact ⟨e, e⟩
    · have hn : Lx.next c line = line := by unfold Lx.next; rw [if_neg h1]
      have hr : run noLf (c :: l) = run noLf l + 1 := by
        have : noLf c = true := by simp [noLf, h1]
        rw [run, if_pos this]
      have hf : ∀ m, (Lx.feeds (c :: m) : Int) = Lx.feeds m := fun m => by rw [feeds_cons, if_neg h1]; omega
      by_cases h2 : c = 35
      · subst h2
        have hg : ∀ b, gap b (35 :: l) = gap true l + 1 := fun b => by rw [gap, if_neg h1, if_pos rfl]
        rw [hr, hg, hg, List.drop_succ_cons, List.drop_succ_cons, List.take_succ_cons, hf]
        exact ⟨(go_remark l line).trans (ih line).2, (ih line).2⟩
      · by_cases h3 : c = 32 ∨ c = 9 ∨ c = 13
        · have hg : ∀ b, gap b (c :: l) = gap b l + 1 := fun b => by rw [gap, if_neg h1, if_neg h2, if_pos h3]
          have hb : Lx.blank c = true := by rcases h3 with rfl | rfl | rfl <;> rfl
          rw [hr, hg, hg, List.drop_succ_cons, List.drop_succ_cons, List.take_succ_cons, hf, go_blank hb, hn, List.drop_succ_cons, List.take_succ_cons, hf]
          exact ⟨(ih line).1, (ih line).2⟩
        · have hg : gap true (c :: l) = gap true l + 1 := by rw [gap, if_neg h1, if_neg h2, if_neg h3, if_pos rfl]
          have hg0 : gap false (c :: l) = 0 := by rw [gap, if_neg h1, if_neg h2, if_neg h3]; rfl
          rw [hr, hg, hg0, List.drop_succ_cons, List.drop_succ_cons, List.take_succ_cons, hf, List.drop_zero, List.take_zero]
          refine ⟨?_, (ih line).2⟩
          have : Lx.feeds [] = 0 := rfl
          rw [this]; simp

/-- The kind of the token that a byte begins, or 0. -/
def kindC (c : UInt8) : Nat := if low c then 1 else if dig c then 2 else if Lx.mark c then 3 else if c == 45 then 4 else 0
theorem kind_low {c : UInt8} : low c = (kindC c == 1) := by
  unfold kindC
  cases low c <;> cases dig c <;> cases Lx.mark c <;> cases (c == 45) <;> rfl
theorem low_dig {c : UInt8} (h : low c = true) : dig c = false := by
  unfold low at h
  unfold dig
  simp [Lx.lwB] at h
  exact Gu.dgB_hi (by omega)
theorem kind_dig {c : UInt8} : dig c = (kindC c == 2) := by
  have := @low_dig c
  unfold kindC
  cases h1 : low c
  · cases dig c <;> cases Lx.mark c <;> cases (c == 45) <;> rfl
  · rw [this h1]; rfl
theorem mark_idx (c : UInt8) : Lx.mark c = decide ((0 : Int) ≤ Lib.indexByte [40, 41, 44, 59] c) := by
  unfold Lx.mark
  rw [show (c == 40) = (40 == c) from by rw [Bool.eq_iff_iff, beq_iff_eq, beq_iff_eq]; exact eq_comm, show (c == 41) = (41 == c) from by rw [Bool.eq_iff_iff, beq_iff_eq, beq_iff_eq]; exact eq_comm,
    show (c == 44) = (44 == c) from by rw [Bool.eq_iff_iff, beq_iff_eq, beq_iff_eq]; exact eq_comm, show (c == 59) = (59 == c) from by rw [Bool.eq_iff_iff, beq_iff_eq, beq_iff_eq]; exact eq_comm]
  simp only [Lib.indexByte]
  by_cases a : (40 == c) = true <;> by_cases b : (41 == c) = true <;> by_cases d : (44 == c) = true <;> by_cases e : (59 == c) = true <;> simp [a, b, d, e]
theorem ixs_any (s : ByteArray) (c : Int) (w : World) : Calls Tryz.prog 88 #[.string s, .int .u8 c] w fun e w' => e = .returned (.int .i64 (Lib.indexByte s.data.toList c.toNat.toUInt8)) ∧ w = w' := by
  have hx : ∀ W, (callFunc 106 #[.string s, .int .u8 c]).run Tryz.prog W = .ok (.value (.int .i64 (Lib.indexByte s.data.toList c.toNat.toUInt8))) W := fun W => by
    rw [run_callFunc_extern (e := Extern.BytealgIndexByte.indexByte) Tryz.func106 (by kernel_rfl) (by kernel_rfl) (by kernel_rfl) (by kernel_rfl), Lib.run_indexByteString]; rfl
  generalize Lib.indexByte s.data.toList c.toNat.toUInt8 = r at *
  go_enter Tryz.func88, Tryz.ntmps88
  go_wp2
  go_ret
  exact ⟨rfl, rfl⟩
theorem ix_any (s : ByteArray) (c : Int) (w : World) : Calls Tryz.prog 70 #[.string s, .int .u8 c] w fun e w' => e = .returned (.int .i64 (Lib.indexByte s.data.toList c.toNat.toUInt8)) ∧ w = w' := by
  go_enter Tryz.func70, Tryz.ntmps70
  go_wp2_with fail
  refine (ixs_any s c _).mono ?_
  rintro e w1 ⟨rfl, rfl⟩
  go_wp2
  go_ret
  exact ⟨rfl, rfl⟩
/-- strings.Count of line feeds. -/
theorem count_any (s : ByteArray) (w : World) : Calls Tryz.prog 34 #[.string s, .string ⟨#[10]⟩] w fun e w' => e = .returned (.int .i64 (Lx.feeds (bl s) : Nat)) ∧ w = w' := by
  have hx : ∀ W, (callFunc 53 #[.string s, .int .u8 10]).run Tryz.prog W = .ok (.value (.int .i64 (Lx.feeds (bl s) : Nat))) W := fun W => by
    rw [run_callFunc_extern (e := Extern.BytealgCount.count) Tryz.func53 (by kernel_rfl) (by kernel_rfl) (by kernel_rfl) (by kernel_rfl), Lib.run_countString]; rfl
  generalize Lx.feeds (bl s) = r at *
  go_enter Tryz.func34, Tryz.ntmps34
  go_wp2
  rw [show ((({ data := #[10] } : ByteArray)[0].toNat : Nat) : Int) = 10 from rfl, hx, Oper.upon_value]
  go_wp2
  go_ret
  exact ⟨rfl, rfl⟩
set_option maxHeartbeats 1000000 in
theorem kindOf_any (c : UInt8) (w : World) : Calls Tryz.prog 55 #[.int .u8 c.toNat] w fun e w' => e = .returned (.int .i64 (kindC c : Nat)) ∧ w = w' := by
  obtain ⟨k, hk⟩ : ∃ k, k = kindC c := ⟨_, rfl⟩
  have hl : low c = decide (97 ≤ (c.toNat : Int) ∧ (c.toNat : Int) ≤ 122) := rfl
  have hd : dig c = decide (48 ≤ (c.toNat : Int) ∧ (c.toNat : Int) ≤ 57) := rfl
  have hm := mark_idx c
  have h45 : (c == 45) = ((c.toNat : Int) == 45) := by
    rw [Bool.eq_iff_iff, beq_iff_eq, beq_iff_eq]
    exact ⟨fun e => by rw [e]; rfl, fun e => byte_eq (d := 45) e⟩
  have hix : ∀ W, Calls Tryz.prog 70 #[.string ⟨#[40, 41, 44, 59]⟩, .int .u8 c.toNat] W fun e w' => e = .returned (.int .i64 (Lib.indexByte [40, 41, 44, 59] c)) ∧ W = w' := fun W => by
    have h := ix_any ⟨#[40, 41, 44, 59]⟩ c.toNat W
    rw [show ((c.toNat : Int)).toNat.toUInt8 = c from by simp] at h
    exact h
  have HIX := Lib.hid hix
  clear hix
  have hb : (c.toNat : Int) ≤ 255 := by have := c.toNat_lt; omega
  have hb0 : (0 : Int) ≤ (c.toNat : Int) := by omega
  unfold kindC at hk
  rw [hl, hd, hm, h45] at hk
  clear hl hd hm h45
  rw [show kindC c = k from by rw [hk]; unfold kindC; rw [show low c = decide (97 ≤ (c.toNat : Int) ∧ (c.toNat : Int) ≤ 122) from rfl, show dig c = decide (48 ≤ (c.toNat : Int) ∧ (c.toNat : Int) ≤ 57) from rfl, mark_idx c, show (c == 45) = ((c.toNat : Int) == 45) from by
    rw [Bool.eq_iff_iff, beq_iff_eq, beq_iff_eq]
    exact ⟨fun e => by rw [e]; rfl, fun e => byte_eq (d := 45) e⟩]]
  generalize Lib.indexByte [40, 41, 44, 59] c = ix at *
  generalize (c.toNat : Int) = b at *
  by_cases h1 : 97 ≤ b ∧ b ≤ 122
  · have HK := Lib.hid (show k = 1 by rw [hk, decide_eq_true h1]; rfl)
    obtain ⟨a1, a2⟩ := h1
    clear hk hb hb0
    go_enter Tryz.func55, Tryz.ntmps55
    go_wp2
    go_ret
    exact ⟨by rw [HK.out]; rfl, rfl⟩
  · rw [decide_eq_false h1, if_neg (by decide)] at hk
    by_cases h2 : 48 ≤ b ∧ b ≤ 57
    · have HK := Lib.hid (show k = 2 by rw [hk, decide_eq_true h2]; rfl)
      obtain ⟨a1, a2⟩ := h2
      have a3 : ¬ 97 ≤ b := by omega
      clear hk hb hb0 h1
      go_enter Tryz.func55, Tryz.ntmps55
      go_wp2
      go_ret
      exact ⟨by rw [HK.out]; rfl, rfl⟩
    · rw [decide_eq_false h2, if_neg (by decide)] at hk
      have HK := Lib.hid hk
      have key : ∀ W, Calls Tryz.prog 55 #[.int .u8 b] W fun e w' => e = .returned (.int .i64 (k : Nat)) ∧ W = w' := by
        intro W
        by_cases h3 : (0 : Int) ≤ ix
        · by_cases a1 : 97 ≤ b <;> by_cases a2 : 48 ≤ b
          all_goals (
            first | (have a3 : ¬ b ≤ 122 := by omega) | skip
            first | (have a4 : ¬ b ≤ 57 := by omega) | skip
            have HK3 := Lib.hid (show k = 3 by rw [HK.out, decide_eq_true h3]; rfl)
            have h3' : ix ≥ 0 := h3
            clear HK hk h1 h2 hb hb0
            go_enter Tryz.func55, Tryz.ntmps55
            go_wp2_with fail
            refine (HIX.out _).mono ?_
            rintro e w1 ⟨rfl, rfl⟩
            go_wp2
            all_goals (go_ret; exact ⟨by rw [HK3.out]; rfl, rfl⟩))
        · have h3' : ¬ ix ≥ 0 := h3
          cases h4 : (b == 45)
          · have HK4 := Lib.hid (show k = 0 by rw [HK.out, decide_eq_false h3, h4]; rfl)
            by_cases a1 : 97 ≤ b <;> by_cases a2 : 48 ≤ b
            all_goals (
              first | (have a3 : ¬ b ≤ 122 := by omega) | skip
              first | (have a4 : ¬ b ≤ 57 := by omega) | skip
              clear HK hk h1 h2 hb hb0
              go_enter Tryz.func55, Tryz.ntmps55
              go_wp2_with fail
              refine (HIX.out _).mono ?_
              rintro e w1 ⟨rfl, rfl⟩
              go_wp2
              all_goals (go_ret; exact ⟨by rw [HK4.out]; rfl, rfl⟩))
          · have HK4 := Lib.hid (show k = 4 by rw [HK.out, decide_eq_false h3, h4]; rfl)
            obtain rfl : b = 45 := by simpa using h4
            clear HK hk h1 h2 hb hb0 h4
            go_enter Tryz.func55, Tryz.ntmps55
            go_wp2_with fail
            refine (HIX.out _).mono ?_
            rintro e w1 ⟨rfl, rfl⟩
            go_wp2
            go_ret
            exact ⟨by rw [HK4.out]; rfl, rfl⟩
      exact key w
def GapRel (s : ByteArray) (w : World) (bv iv : Value) (wr : World) : Prop :=
  ∃ (b : Bool) (k : Nat), k ≤ s.size ∧ bv = .bool b ∧ iv = .int .i64 k ∧ Hid (gap false (bl s) = k + gap b ((bl s).drop k)) ∧ Quiet w wr
theorem gap_at (b : Bool) (l : List UInt8) (k : Nat) (h : k < l.length) : gap b (l.drop k) = if l.getD k 0 = 10 then gap false (l.drop (k + 1)) + 1 else if l.getD k 0 = 35 then gap true (l.drop (k + 1)) + 1 else if l.getD k 0 = 32 ∨ l.getD k 0 = 9 ∨ l.getD k 0 = 13 then gap b (l.drop (k + 1)) + 1 else if b then gap b (l.drop (k + 1)) + 1 else 0 := by
  rw [List.drop_eq_getElem_cons h, gap, List.getD_eq_getElem?_getD, List.getElem?_eq_getElem h]; rfl
theorem byteAt_nat (s : ByteArray) (k : Nat) : byteAt s (k : Int) = (((bl s).getD k 0).toNat : Int) := by
  unfold byteAt
  rw [show (k : Int).toNat = k from by omega]
set_option maxHeartbeats 1000000 in
theorem gapSize_any (s : ByteArray) (w : World) (hs : s.size ≤ 1000000) :
    Calls Tryz.prog 33 #[.string s] w fun e w' => e = .returned (.int .i64 (gap false (bl s) : Nat)) ∧ Quiet w w' := by
  go_enter Tryz.func33, Tryz.ntmps33
  go_wp2
  go_loopw [3, 7] (fun bv iv wr => GapRel s w bv iv wr) (fun _ i _ => s.size - (intOf i).toNat)
  case atStart => exact ⟨false, 0, Nat.zero_le _, rfl, rfl, Lib.hid (by simp), Quiet.refl _⟩
  case round =>
    obtain ⟨b, k, hk, rfl, rfl, hg, hq⟩ := hrel
    by_cases hlt : k < s.size
    · have hxk := idx (P := Tryz.prog) (k := .i64) s (k : Int) Tryz.underlying9 (by omega) (by omega)
      have hi1 : (k : Int) < s.size := by omega
      rw [byteAt_nat] at hxk
      have HG := Lib.hid (hg.out.trans (congrArg (k + ·) (gap_at b (bl s) k (by rw [bl_length]; exact hlt))))
      clear hg
      generalize (bl s).getD k 0 = c at *
      have d : ∀ d : UInt8, ((c.toNat : Int) == (d.toNat : Int)) = (c == d) := fun d => by
        rw [Bool.eq_iff_iff, beq_iff_eq, beq_iff_eq]
        exact ⟨fun e => byte_eq e, fun e => by rw [e]⟩
      have d1 := d 10
      have d2 := d 35
      have d3 := d 32
      have d4 := d 9
      have d5 := d 13
      rw [show ((10 : UInt8).toNat : Int) = 10 from rfl] at d1
      rw [show ((35 : UInt8).toNat : Int) = 35 from rfl] at d2
      rw [show ((32 : UInt8).toNat : Int) = 32 from rfl] at d3
      rw [show ((9 : UInt8).toNat : Int) = 9 from rfl] at d4
      rw [show ((13 : UInt8).toNat : Int) = 13 from rfl] at d5
      clear d
      by_cases h1 : c = 10
      · have HE := Lib.hid (show gap false (bl s) = (k + 1) + gap false ((bl s).drop (k + 1)) by rw [HG.out, if_pos h1]; omega)
        have hc : (c.toNat : Int) = 10 := by rw [h1]; rfl
        rw [hc] at hxk
        clear HG h1 d1 d2 d3 d4 d5 hc
        go_wp2
        go_roundw
        case rel => exact ⟨false, k + 1, by omega, rfl, by go_num, HE, hq⟩
        case measure => simp [intOf]; omega
      · by_cases h2 : c = 35
        · have HE := Lib.hid (show gap false (bl s) = (k + 1) + gap true ((bl s).drop (k + 1)) by rw [HG.out, if_neg h1, if_pos h2]; omega)
          have hc : (c.toNat : Int) = 35 := by rw [h2]; rfl
          rw [hc] at hxk
          clear HG h1 h2 d1 d2 d3 d4 d5 hc
          go_wp2
          go_roundw
          case rel => exact ⟨true, k + 1, by omega, rfl, by go_num, HE, hq⟩
          case measure => simp [intOf]; omega
        · by_cases h3 : c = 32 ∨ c = 9 ∨ c = 13
          · have HE := Lib.hid (show gap false (bl s) = (k + 1) + gap b ((bl s).drop (k + 1)) by rw [HG.out, if_neg h1, if_neg h2, if_pos h3]; omega)
            have hc : (c.toNat : Int) = 32 ∨ (c.toNat : Int) = 9 ∨ (c.toNat : Int) = 13 := by rcases h3 with rfl | rfl | rfl <;> decide
            clear HG h1 h2 h3 d1 d2 d3 d4 d5
            rcases hc with hc | hc | hc <;> (
              rw [hc] at hxk
              clear hc
              go_wp2
              go_roundw
              case rel => exact ⟨b, k + 1, by omega, rfl, by go_num, HE, hq⟩
              case measure => simp [intOf]; omega)
          · rw [beq_eq_false_iff_ne.2 h1] at d1
            rw [beq_eq_false_iff_ne.2 h2] at d2
            rw [beq_eq_false_iff_ne.2 (fun e => h3 (.inl e))] at d3
            rw [beq_eq_false_iff_ne.2 (fun e => h3 (.inr (.inl e)))] at d4
            rw [beq_eq_false_iff_ne.2 (fun e => h3 (.inr (.inr e)))] at d5
            cases b
            · have HE := Lib.hid (show gap false (bl s) = k by rw [HG.out, if_neg h1, if_neg h2, if_neg h3]; rfl)
              clear HG h1 h2 h3
              generalize (c.toNat : Int) = z at *
              go_wp2
              go_ret
              exact ⟨by rw [HE.out]; rfl, hq⟩
            · have HE := Lib.hid (show gap false (bl s) = (k + 1) + gap true ((bl s).drop (k + 1)) by rw [HG.out, if_neg h1, if_neg h2, if_neg h3, if_pos rfl]; omega)
              clear HG h1 h2 h3
              generalize (c.toNat : Int) = z at *
              go_wp2
              go_roundw
              case rel => exact ⟨true, k + 1, by omega, rfl, by go_num, HE, hq⟩
              case measure => simp [intOf]; omega
    · have HE := Lib.hid (show gap false (bl s) = s.size by rw [hg.out, List.drop_of_length_le (by rw [bl_length]; omega), gap]; omega)
      have hz : ¬ (k : Int) < s.size := by omega
      clear hg
      go_wp2
      go_ret
      exact ⟨by rw [HE.out]; rfl, hq⟩
/-- How many bytes a token of a kind has behind its first one. -/
def behind (k : Nat) (t : List UInt8) : Nat := if k = 1 ∨ k = 2 then run (fun c => kindC c == k) t else 0
def SizeRel (w : World) (k : Nat) (t : List UInt8) (nv : Value) (wr : World) : Prop :=
  ∃ j : Nat, j ≤ t.length ∧ j ≤ run (fun c => kindC c == k) t ∧ nv = .int .i64 ((j : Int) + 1) ∧ Quiet w wr
set_option maxHeartbeats 1000000 in
theorem size_any (s : ByteArray) (c : UInt8) (t : List UInt8) (h : bl s = c :: t) (k : Nat) (hk : 1 ≤ k) (hk4 : k ≤ 4) (w : World) (hs : s.size ≤ 1000000) :
    Calls Tryz.prog 56 #[.string s, .int .i64 k] w fun e w' => e = .returned (.int .i64 ((behind k t : Int) + 1)) ∧ Quiet w w' := by
  have hlt := bl_length s
  rw [h, List.length_cons] at hlt
  by_cases h12 : k = 1 ∨ k = 2
  · have HB := Lib.hid (show behind k t = run (fun c => kindC c == k) t from if_pos h12)
    have hidx : ∀ j : Nat, byteAt s ((j : Int) + 1) = ((t.getD j 0).toNat : Int) := fun j => by
      rw [show (j : Int) + 1 = ((j + 1 : Nat) : Int) by omega, byteAt_nat, h]; rfl
    have hk0 : ((k : Int) == 1) = true ∨ (((k : Int) == 1) = false ∧ ((k : Int) == 2) = true) := by
      rcases h12 with rfl | rfl
      · exact .inl rfl
      · exact .inr ⟨rfl, rfl⟩
    have HKK := Lib.hid hk0
    clear hk0 h12 hk hk4 h
    go_enter Tryz.func56, Tryz.ntmps56
    go_wp2
    go_step3
    go_wp2
    go_step3
    go_wp2
    go_loopw [5] (fun nv wr => SizeRel w k t nv wr) (fun i _ => s.size - (intOf i).toNat)
    case atStart => exact ⟨0, Nat.zero_le _, Nat.zero_le _, rfl, Quiet.refl _⟩
    case round =>
      obtain ⟨j, hj, hjr, rfl, hq⟩ := hrel
      by_cases hlt2 : j < t.length
      · have hxk := idx (P := Tryz.prog) (k := .i64) s ((j : Int) + 1) Tryz.underlying9 (by omega) (by omega)
        rw [hidx] at hxk
        have hi1 : (j : Int) + 1 < s.size := by omega
        obtain ⟨cc, hcc⟩ : ∃ cc, cc = t.getD j 0 := ⟨_, rfl⟩
        rw [← hcc] at hxk
        have HC := Lib.hid hcc
        have hkc := kindOf_any cc
        obtain ⟨q, hq1⟩ : ∃ q, q = kindC cc := ⟨_, rfl⟩
        rw [← hq1] at hkc
        have HQ := Lib.hid hq1
        have HX := Lib.hid hkc
        clear hcc hq1 hkc hidx
        generalize (cc.toNat : Int) = z at *
        by_cases hqk : q = k
        · have HD := Lib.hid (show (fun c => kindC c == k) (t.getD j 0) = true by rw [← HC.out]; show (kindC cc == k) = true; rw [← HQ.out, hqk]; exact beq_self_eq_true k)
          have e2 : ((q : Int) != (k : Int)) = false := by simp; omega
          clear hqk
          rcases HKK.out with e1 | ⟨e1, e3⟩ <;> (
            go_wp2_with fail
            refine (HX.out _).mono ?_
            rintro e w1 ⟨rfl, rfl⟩
            go_wp2
            go_roundw
            case rel => exact ⟨j + 1, by omega, Lx.run_step _ _ j hjr hlt2 HD.out, by go_num, hq⟩
            case measure => simp [intOf]; omega)
        · have HE := Lib.hid (Lx.run_stop (fun c => kindC c == k) t j hjr (by rw [← HC.out]; show (kindC cc == k) = false; rw [← HQ.out]; exact beq_eq_false_iff_ne.2 hqk))
          have e2 : ((q : Int) != (k : Int)) = true := by simp; omega
          clear hqk
          rcases HKK.out with e1 | ⟨e1, e3⟩ <;> (
            go_wp2_with fail
            refine (HX.out _).mono ?_
            rintro e w1 ⟨rfl, rfl⟩
            go_wp2
            (try rw [Exit.noGoto_ret]); go_ret
            exact ⟨by rw [HB.out, HE.out]; rfl, hq⟩)
      · have HE := Lib.hid (show run (fun c => kindC c == k) t = j by have := Lx.run_le (fun c => kindC c == k) t; omega)
        have hz : ¬ (j : Int) + 1 < s.size := by omega
        clear hidx
        go_wp2
        (try rw [Exit.noGoto_ret]); go_ret
        exact ⟨by rw [HB.out, HE.out]; rfl, hq⟩
  · have HB := Lib.hid (show behind k t = 0 from if_neg h12)
    rw [HB.out]
    have e1 : ((k : Int) == 1) = false := by simp; omega
    have e2 : ((k : Int) == 2) = false := by simp; omega
    clear h12 hk hk4 h
    go_enter Tryz.func56, Tryz.ntmps56
    go_wp2
    go_step3
    go_wp2
    go_step3
    go_wp2
    go_loopw [5] (fun nv wr => nv = .int .i64 1 ∧ Quiet w wr) (fun i _ => 0)
    case atStart => exact ⟨rfl, Quiet.refl _⟩
    case round =>
      obtain ⟨rfl, hq⟩ := hrel
      by_cases hlt2 : 0 < t.length
      · have hi1 : (1 : Int) < s.size := by omega
        go_wp2
        (try rw [Exit.noGoto_ret]); go_ret
        exact ⟨rfl, hq⟩
      · have hi1 : ¬ (1 : Int) < s.size := by omega
        go_wp2
        (try rw [Exit.noGoto_ret]); go_ret
        exact ⟨rfl, hq⟩
end Go.Proofs.YtmcgflpgkkophaaGreatDoor.Lexs
/- The developers' lex: first and Split: the plain words of LxA. Conditions: texts at most a hundred thousand bytes. -/
namespace Go.Proofs.YtmcgflpgkkophaaGreatDoor.Lexs
set_option linter.unusedVariables false
open Go.ChangeShapes Go.WideShapes Go.ChangeAt Go.RowKit
open Lx (run low noLf)
open Gu (dig dgB getOk getN)
open Ref10 (encT encT_len encT_one info_tok RetToks sameT sameT_len sameT_at sameT_iff eqT guardT row_tok own_keep2 fresh_row valT slice_to first byte_eq)

theorem run_low (t : List UInt8) : run low t = run (fun c => kindC c == 1) t := by rw [show low = fun c => kindC c == 1 from funext fun c => kind_low]
theorem run_dig (t : List UInt8) : run dig t = run (fun c => kindC c == 2) t := by rw [show dig = fun c => kindC c == 2 from funext fun c => kind_dig]
/-- The token with which a text begins, by its kind. -/
theorem piece_kind (c : UInt8) (t : List UInt8) (hb : Lx.blank c = false) (h35 : c ≠ 35) :
    Lx.piece c t = if kindC c = 0 then none else if kindC c = 2 then (if getOk (c :: t.take (behind 2 t)) then some (behind 2 t, ⟨2, st (c :: t.take (behind 2 t)), getN (c :: t.take (behind 2 t)), 0⟩) else none)
      else some (behind (kindC c) t, ⟨kindC c, st (c :: t.take (behind (kindC c) t)), 0, 0⟩) := by
  have b1 : behind 1 t = run low t := (run_low t).symm
  have b2 : behind 2 t = run dig t := (run_dig t).symm
  have b3 : behind 3 t = 0 := rfl
  have b4 : behind 4 t = 0 := rfl
  have h5 : (c == 35) = false := beq_eq_false_iff_ne.2 h35
  unfold Lx.piece kindC
  rw [hb, h5]
  cases h1 : low c
  · cases h2 : dig c
    · cases h3 : Lx.mark c
      · cases h4 : (c == 45)
        · rfl
        · simp [b4]
      · simp [b3]
    · simp [b2]
  · simp [b1]
theorem piece_text {c : UInt8} {t : List UInt8} (hb : Lx.blank c = false) (h35 : c ≠ 35) {m : Nat} {k : TokP} (h : Lx.piece c t = some (m, k)) : k.text = st (c :: t.take m) ∧ k.kind ≠ 0 := by
  rw [piece_kind c t hb h35] at h
  by_cases h0 : kindC c = 0
  · rw [if_pos h0] at h; cases h
  · rw [if_neg h0] at h
    by_cases h2 : kindC c = 2
    · rw [if_pos h2] at h
      split at h
      · cases h; exact ⟨rfl, by show (2 : Int) ≠ 0; decide⟩
      · cases h
    · rw [if_neg h2] at h
      cases h; exact ⟨rfl, by show ((kindC c : Nat) : Int) ≠ 0; omega⟩
theorem behind_le (k : Nat) (t : List UInt8) : behind k t ≤ t.length := by
  unfold behind
  split
  · exact Lx.run_le _ _
  · omega
theorem kind_le (c : UInt8) : kindC c ≤ 4 := by
  unfold kindC
  repeat' split
  all_goals omega
theorem keep_drewN {a b : World} (h : Keep a b) (n : Nat) : Keep a (b.drewN n) := h.trans ((Quiet.refl b).drewN n).keep
/-- What first answers. -/
def RetFirst (x : Option (Nat × TokP)) (line : Int) (w : World) (e : Ending) (w' : World) : Prop :=
  (∃ k b, e = .returned (.tuple #[valT k, .bool b]) ∧ match x with | some (m, k') => k = Lx.at_ line k' ∧ b = true | none => b = false) ∧ Keep w w'
set_option maxHeartbeats 1000000 in
theorem first_none (s : ByteArray) (c : UInt8) (t : List UInt8) (h : bl s = c :: t) (line : Int) (w : World) (hs : s.size ≤ 100000) (hk : kindC c = 0) :
    Calls Tryz.prog 35 #[.string s, .int .i64 line] w (RetFirst none line w) := by
  have hlt := bl_length s
  rw [h, List.length_cons] at hlt
  have hx := idx (P := Tryz.prog) (k := .i64) s 0 Tryz.underlying9 (by omega) (by omega)
  rw [first s c t h] at hx
  have H1 := Lib.hid (fun W => kindOf_any c W)
  rw [hk] at H1
  clear hk h
  generalize (c.toNat : Int) = b at *
  go_enter Tryz.func35, Tryz.ntmps35
  go_wp2_with fail
  refine (H1.out _).mono ?_
  rintro e w1 ⟨rfl, rfl⟩
  have k0 := (Keep.refl w).alloc (.cells #[.int .i64 0, .string ⟨#[]⟩, .int .i64 0, .int .i64 0] 63)
  go_wp2
  (try simp only [Exit.inBlock, Exit.then])
  refine bodyPost_ret (v := .tuple #[valT Lx.none_, .bool false]) ?_ rfl ⟨⟨_, _, rfl, rfl⟩, ?_⟩
  · rw [results_cell_tmp rfl]
    go_simp
    rfl
  · repeat' (first | with_reducible exact Keep.refl _ | with_reducible refine keep_set ?_ _ ?_ _ | with_reducible refine Keep.alloc ?_ _ | with_reducible refine keep_drewN ?_ _ | exact Nat.le_refl _)
set_option maxHeartbeats 2000000 in
theorem first_plain (s : ByteArray) (c : UInt8) (t : List UInt8) (h : bl s = c :: t) (line : Int) (w : World) (hs : s.size ≤ 100000) (hk0 : kindC c ≠ 0) (hk2 : kindC c ≠ 2) (m : Nat) (hm : m = behind (kindC c) t) :
    Calls Tryz.prog 35 #[.string s, .int .i64 line] w (RetFirst (some (m, ⟨kindC c, st (c :: t.take m), 0, 0⟩)) line w) := by
  have hlt := bl_length s
  rw [h, List.length_cons] at hlt
  have hx := idx (P := Tryz.prog) (k := .i64) s 0 Tryz.underlying9 (by omega) (by omega)
  rw [first s c t h] at hx
  have H1 := Lib.hid (fun W => kindOf_any c W)
  have H2 := Lib.hid (fun W => size_any s c t h (kindC c) (by omega) (kind_le c) W (by omega))
  rw [← hm] at H2
  have hsl := slice_to s c t h m (by rw [hm]; exact behind_le _ t)
  have d1 : ((kindC c : Int) == 0) = false := by simp; omega
  have d2 : ((kindC c : Int) != 2) = true := by simp; omega
  generalize kindC c = k at *
  clear h hk0 hk2 hm
  obtain ⟨tx, htx⟩ : ∃ x, x = st (c :: t.take m) := ⟨_, rfl⟩
  rw [← htx] at hsl ⊢
  clear htx
  generalize (c.toNat : Int) = b at *
  go_enter Tryz.func35, Tryz.ntmps35
  go_wp2_with fail
  refine (H1.out _).mono ?_
  rintro e w1 ⟨rfl, rfl⟩
  have k0 := (Keep.refl w).alloc (.cells #[.int .i64 0, .string ⟨#[]⟩, .int .i64 0, .int .i64 0] 63)
  go_wp2_with fail
  refine (H2.out _).mono ?_
  rintro e w1 ⟨rfl, ⟨q, rfl⟩⟩
  go_wp2
  (try simp only [Exit.inBlock, Exit.then])
  refine bodyPost_ret (v := .tuple #[valT ⟨k, tx, 0, line⟩, .bool true]) ?_ rfl ⟨⟨_, _, rfl, rfl, rfl⟩, ?_⟩
  · rw [results_cell_tmp rfl]
    go_simp
    rfl
  · repeat' (first | with_reducible exact Keep.refl _ | with_reducible refine keep_set ?_ _ ?_ _ | with_reducible refine Keep.alloc ?_ _ | with_reducible refine keep_drewN ?_ _ | exact Nat.le_refl _)
set_option maxHeartbeats 2000000 in
theorem first_num (s : ByteArray) (c : UInt8) (t : List UInt8) (h : bl s = c :: t) (line : Int) (w : World) (hs : s.size ≤ 100000) (hk2 : kindC c = 2) (m : Nat) (hm : m = behind 2 t) :
    Calls Tryz.prog 35 #[.string s, .int .i64 line] w (RetFirst (if getOk (c :: t.take m) then some (m, ⟨2, st (c :: t.take m), getN (c :: t.take m), 0⟩) else none) line w) := by
  have hlt := bl_length s
  rw [h, List.length_cons] at hlt
  have hx := idx (P := Tryz.prog) (k := .i64) s 0 Tryz.underlying9 (by omega) (by omega)
  rw [first s c t h] at hx
  have H1 := Lib.hid (fun W => kindOf_any c W)
  rw [hk2] at H1
  have H2 := Lib.hid (fun W => size_any s c t h 2 (by omega) (by omega) W (by omega))
  rw [← hm] at H2
  have hmt : m ≤ t.length := by rw [hm]; exact behind_le _ t
  have hsl := slice_to s c t h m hmt
  have hts : (c :: t.take m).length ≤ 100000 := by simp; omega
  clear h hk2 hm hmt
  generalize c :: t.take m = l at *
  have H3 := Lib.hid (fun W => Guard.get_any (st l) W (by rw [st_size]; omega))
  rw [bl_st] at H3
  obtain ⟨v, hv⟩ : ∃ v, v = getN l := ⟨_, rfl⟩
  obtain ⟨ok, hok⟩ : ∃ v, v = getOk l := ⟨_, rfl⟩
  rw [← hv, ← hok] at H3 ⊢
  obtain ⟨r, hr⟩ : ∃ r : Option (Nat × TokP), r = if ok = true then some (m, ⟨2, st l, v, 0⟩) else none := ⟨_, rfl⟩
  rw [← hr]
  have HR := Lib.hid hr
  clear hv hok hts hr
  generalize (c.toNat : Int) = b at *
  go_enter Tryz.func35, Tryz.ntmps35
  go_wp2_with fail
  refine (H1.out _).mono ?_
  rintro e w1 ⟨rfl, rfl⟩
  go_wp2_with fail
  refine (H2.out _).mono ?_
  rintro e w1 ⟨rfl, ⟨q, rfl⟩⟩
  go_wp2_with fail
  refine (H3.out _).mono ?_
  rintro e V ⟨rfl, hV⟩
  have c0 : V.cell? ⟨w.heap.size, 0, none⟩ = some (.int .i64 0) := (Below.cell hV (by simp; omega)).trans (by go_simp)
  have c1 : V.cell? ⟨w.heap.size, 1, none⟩ = some (.string ⟨#[]⟩) := (Below.cell hV (by simp; omega)).trans (by go_simp)
  have c2 : V.cell? ⟨w.heap.size, 2, none⟩ = some (.int .i64 0) := (Below.cell hV (by simp; omega)).trans (by go_simp)
  have c3 : V.cell? ⟨w.heap.size, 3, none⟩ = some (.int .i64 0) := (Below.cell hV (by simp; omega)).trans (by go_simp)
  have hfr : ∀ j, V.frozen? ⟨w.heap.size, j, none⟩ = false := fun j => (Below.frozen hV (by simp; omega)).trans (by go_simp)
  have e0 : V.cell? ⟨w.heap.size + 1, 0, none⟩ = some (.int .i64 2) := (Below.cell hV (by simp)).trans (by go_simp)
  have e1 : V.cell? ⟨w.heap.size + 1, 1, none⟩ = some (.string (st l)) := (Below.cell hV (by simp)).trans (by go_simp)
  have e2 : V.cell? ⟨w.heap.size + 1, 2, none⟩ = some (.int .i64 0) := (Below.cell hV (by simp)).trans (by go_simp)
  have e3 : V.cell? ⟨w.heap.size + 1, 3, none⟩ = some (.int .i64 line) := (Below.cell hV (by simp)).trans (by go_simp)
  have hfs : ∀ j, V.frozen? ⟨w.heap.size + 1, j, none⟩ = false := fun j => (Below.frozen hV (by simp)).trans (by go_simp)
  have hKV : Keep w V := by
    refine Keep.trans ?_ hV
    repeat' (first | with_reducible exact Keep.refl _ | with_reducible refine keep_set ?_ _ ?_ _ | with_reducible refine Keep.alloc ?_ _ | with_reducible refine keep_drewN ?_ _ | exact Nat.le_refl _ | exact Nat.le_succ _)
  have hsz : w.heap.size + 1 < V.heap.size := by have := hV.size; simp at this; omega
  clear hV
  go_wp2
  (try simp only [Exit.inBlock, Exit.then])
  refine bodyPost_ret (v := .tuple #[valT ⟨2, st l, v, line⟩, .bool ok]) ?_ rfl ⟨⟨_, _, rfl, by rw [HR.out]; cases ok; exact rfl; exact ⟨rfl, rfl⟩⟩, ?_⟩
  · rw [results_cell_tmp rfl]
    go_simp
    rfl
  · repeat' (first | with_reducible exact hKV | with_reducible refine keep_set ?_ _ ?_ _ | with_reducible refine Keep.alloc ?_ _ | with_reducible refine keep_drewN ?_ _ | exact Nat.le_refl _ | exact Nat.le_succ _)
theorem first_any (s : ByteArray) (c : UInt8) (t : List UInt8) (h : bl s = c :: t) (line : Int) (w : World) (hs : s.size ≤ 100000) (hb : Lx.blank c = false) (h35 : c ≠ 35) :
    Calls Tryz.prog 35 #[.string s, .int .i64 line] w (RetFirst (Lx.piece c t) line w) := by
  rw [piece_kind c t hb h35]
  by_cases h0 : kindC c = 0
  · rw [if_pos h0]; exact first_none s c t h line w hs h0
  · rw [if_neg h0]
    by_cases h2 : kindC c = 2
    · rw [if_pos h2]; exact first_num s c t h line w hs h2 _ rfl
    · rw [if_neg h2]; exact first_plain s c t h line w hs h0 h2 _ rfl
section
variable {P : Program} {α : Type} {enc : α → List Value} {k : Nat}
/-- 'append(out, ys...)' with what it leaves: only out's own block, and new ones, turn. -/
theorem append_rows_g {ops : Array Oper} {rest : List Oper} {o : Oper} {a : Act} {Q : Exit → Act → World → Prop} {w : World} (hgd : o.guard = none) (s x : Operand) (t : TypeId)
    (ho : o.op = .call { callee := .builtin .append, args := #[s, x], argTypes := #[t, t] })
    (base : Nat) (e : TypeId) (z : Value) (bytes : Nat) (ht : P.underlying t = some (.slice e)) (hinfo : (P.info? e).map (fun i => (i.zero, i.size, i.bytes)) = some (some z, k, bytes))
    (hzs : z.cells.size = k) (h0 : 0 < k) (hk : ∀ x, (enc x).length = k) (h1 : ∀ x, ∀ v ∈ enc x, v.oneCell' = true)
    (v : Value) (n : Nat) (xs : List α) (hs : a.eval s = v) (hown : w.ownsRow base e k v n (flat enc xs)) (hbase : base ≤ w.heap.size)
    (B : Nat) (A : Option Addr) (m c : Nat) (ys : List α) (hx : a.eval x = .slice A m c) (hA : Row enc k w B A m ys)
    (h63 : n + m ≤ maxLen) (hbytes : (n + m) * bytes ≤ 140737488355328)
    (h : ∀ v' w', w'.ownsRow base e k v' (n + m) (flat enc (xs ++ ys)) → Below base w w' → w.grownBy w' v.ownBlock → wpList P ops Q rest (a.put o.dst v') w') : wpList P ops Q (o :: rest) a w :=
  wpList_plain hgd fun K hK =>
    wp_append_rows s x t ho base e z bytes ht hinfo hzs h0 hk h1 v n xs hs hown hbase B A m c ys hx hA h63 hbytes fun v' w' a b _ => hK _ _ (h v' w' a ((Below.refl base w).grown b hbase fun k hk => (hown.lt k hk).1) b)
end
def SplitRel (w : World) (s : List UInt8) (sv out lv : Value) (wr : World) : Prop :=
  ∃ (r : List UInt8) (acc : List TokP) (line : Nat), sv = .string (st r) ∧ lv = .int .i64 line ∧ Hid (Lx.go s 1 = (Lx.go r line).map (acc ++ ·)) ∧ wr.ownsRow w.heap.size 63 4 out acc.length (flat encT acc) ∧ Keep w wr ∧ acc.length + r.length ≤ s.length ∧ line + r.length ≤ s.length + 1
theorem feeds_le (l : List UInt8) : Lx.feeds l ≤ l.length := List.countP_le_length
theorem slice_h (l : List UInt8) (n : Nat) (hn : n ≤ l.length) (W : World) : (Instr.slice 9 (.string (st l)) none (some (.int .i64 (n : Int))) none).run Tryz.prog W = .ok (.string (st (l.take n))) W := by
  have h := run_slice_string_h (P := Tryz.prog) (w := W) (t := 9) (s := st l) Tryz.underlying9 .i64 (n : Int) (by omega) (by rw [st_size]; omega)
  rw [h, show (n : Int).toNat = n from by omega, Lib.extract_eq]; rfl
theorem slice_l (l : List UInt8) (n : Nat) (hn : n ≤ l.length) (W : World) : (Instr.slice 9 (.string (st l)) (some (.int .i64 (n : Int))) none none).run Tryz.prog W = .ok (.string (st (l.drop n))) W := by
  have h := run_slice_string_l (P := Tryz.prog) (w := W) (t := 9) (s := st l) Tryz.underlying9 .i64 (n : Int) (by omega) (by rw [st_size]; omega)
  rw [h, show (n : Int).toNat = n from by omega, Lib.extract_eq]
  show Result.ok (Value.string (st ((l.drop n).take _))) W = _
  rw [List.take_of_length_le (by rw [st_size, List.length_drop]; omega)]
/-- What Split answers, and its slice's room. -/
def RetToksC (x : List TokP × Int × Int) (w : World) (e : Ending) (w' : World) : Prop :=
  ∃ A n c, e = .returned (.tuple #[.slice A n c, .int .i64 x.2.1, .int .i64 x.2.2]) ∧ Row encT 4 w' w'.heap.size A n x.1 ∧ Keep w w' ∧ Fresh w A n ∧ n ≤ c ∧ c ≤ maxLen
set_option maxHeartbeats 4000000 in
theorem split_cap (s : ByteArray) (w : World) (hm : s.size ≤ maxLen) :
    Calls Tryz.prog 18 #[.string s] w (RetToksC (Lx.split (bl s)) w) := by
  by_cases hl : 4096 < s.size
  · have HS := Lib.hid (show Lx.split (bl s) = ([], 0, 9) by rw [Lx.split, bl_length, if_pos hl])
    have d : (s.size : Int) > 4096 := by omega
    go_enter Tryz.func18, Tryz.ntmps18
    go_wp2
    (try simp only [Exit.inBlock, Exit.then])
    refine bodyPost_ret (results_tmp3 rfl _ _ _) rfl ⟨none, 0, 0, by rw [HS.out]; rfl, by rw [HS.out]; exact Row.none_ _ _ _, Keep.refl _, fun h => absurd h (by omega), Nat.le_refl _, Nat.zero_le _⟩
  · have hs : s.size ≤ 100000 := by omega
    have HS := Lib.hid (show Lx.split (bl s) = match Lx.go (bl s) 1 with | .ok r => (r, 0, 0) | .error e => ([], e, 6) by rw [Lx.split, bl_length, if_neg hl]; cases Lx.go (bl s) 1 <;> rfl)
    have d : ¬ (s.size : Int) > 4096 := by omega
    go_enter Tryz.func18, Tryz.ntmps18
    go_wp2
    go_loopw [0, 5, 6] (fun sv out lv wr => SplitRel w (bl s) sv out lv wr) (fun sv _ _ _ => match sv with | .string x => x.size | _ => 0)
    case atStart => exact ⟨bl s, [], 1, rfl, rfl, Lib.hid (by cases Lx.go (bl s) 1 <;> rfl), ⟨rfl, .inl ⟨rfl, rfl⟩⟩, Keep.refl _, by simp, by omega⟩
    case round =>
      obtain ⟨r, acc, line, rfl, rfl, hg, hown, hK, hal, hll⟩ := hrel
      rw [bl_length] at hal hll
      obtain ⟨OA, oc, rfl⟩ := own_slice hown
      obtain ⟨n, hn⟩ : ∃ n, n = gap false r := ⟨_, rfl⟩
      have hnr : n ≤ r.length := by rw [hn]; exact gap_le _ _
      have H1 := Lib.hid (fun W => gapSize_any (st r) W (by rw [st_size]; omega))
      rw [bl_st, ← hn] at H1
      have hs1 := slice_h r n hnr
      have hs2 := slice_l r n hnr
      have H2 := Lib.hid (fun W => count_any (st (r.take n)) W)
      rw [bl_st] at H2
      have hfe := feeds_le (r.take n)
      rw [List.length_take] at hfe
      have hgo := (go_gap r line).1
      have hstop := gap_stop false r
      rw [← hn] at hgo hstop
      have hdl : (r.drop n).length = r.length - n := List.length_drop
      have hsr : (st r).size = r.length := st_size r
      have HG := Lib.hid (hg.out.trans (congrArg (fun x => x.map (acc ++ ·)) hgo))
      clear hg hgo hn
      generalize Lx.feeds (r.take n) = f at *
      generalize r.take n = r1 at *
      obtain ⟨r2, hr2⟩ : ∃ r2, r2 = r.drop n := ⟨_, rfl⟩
      rw [← hr2] at hs2 hdl HG hstop
      clear hr2
      have HZ := Lib.hid (show r2.length ≤ r.length ∧ f ≤ n ∧ r2.length + n = r.length by omega)
      have hal2 : acc.length + r2.length ≤ s.size := by omega
      have hll2 : line + f + r2.length ≤ s.size + 1 := by omega
      clear hnr hfe hdl hal hll
      match r2 with
      | [] =>
        have HE := Lib.hid (show Lx.split (bl s) = (acc, 0, 0) by rw [HS.out, HG.out, Lx.go_nil]; show (acc ++ [], _, _) = _; rw [List.append_nil])
        have hz : ((st []).toList == []) = true := by rw [Str.toList_eq]; rfl
        clear hstop
        go_wp2_with fail
        refine (H1.out _).mono ?_
        rintro e V ⟨rfl, hV⟩
        go_wp2_with fail
        refine (H2.out _).mono ?_
        rintro e V1 ⟨rfl, rfl⟩
        have hoV := own_keep2 hown hV.keep
        have hKV := hK.trans hV.keep
        go_wp2
        (try simp only [Exit.inBlock, Exit.then])
        refine bodyPost_ret (results_tmp3 rfl _ _ _) rfl ⟨OA, acc.length, oc, by rw [HE.out]; rfl, by rw [HE.out]; exact Row.of_own encT_len hoV (by omega), hKV, fresh_row hoV (Nat.le_refl _), own_le hoV⟩
      | c :: t =>
        obtain ⟨hb, h35⟩ := hstop c t rfl
        have hz : ((st (c :: t)).toList == []) = false := by rw [Str.toList_eq]; rfl
        rw [List.length_cons] at hal2 hll2
        have hsz2 : (st (c :: t)).size ≤ 100000 := by rw [st_size, List.length_cons]; omega
        have H3 := Lib.hid (fun W => first_any (st (c :: t)) c t rfl ((line : Int) + f) W hsz2 hb h35)
        clear hstop
        go_wp2_with fail
        refine (H1.out _).mono ?_
        rintro e V ⟨rfl, hV⟩
        go_wp2_with fail
        refine (H2.out _).mono ?_
        rintro e V1 ⟨rfl, rfl⟩
        have hoV := own_keep2 hown hV.keep
        have hKV := hK.trans hV.keep
        clear hown hK hV
        go_wp2_with fail
        refine (H3.out _).mono ?_
        rintro e V1 ⟨⟨⟨kk, kt, kn, kl⟩, b, rfl, hm⟩, hV1⟩
        replace hoV := own_keep2 hoV hV1
        replace hKV := hKV.trans hV1
        clear hV1 H1 H2 H3 hs1 hs2
        unfold valT
        cases hp : Lx.piece c t with
        | none =>
          rw [hp] at hm
          subst hm
          have HE := Lib.hid (show Lx.split (bl s) = ([], (line : Int) + f, 6) by rw [HS.out, HG.out, Lx.go_none hp]; rfl)
          go_wp2
          (try simp only [Exit.inBlock, Exit.then])
          refine bodyPost_ret (results_tmp3 rfl _ _ _) rfl ⟨none, 0, 0, by rw [HE.out]; rfl, by rw [HE.out]; exact Row.none_ _ _ _, hKV.alloc _, fun h => absurd h (by omega), Nat.le_refl _, Nat.zero_le _⟩
        | some x =>
          obtain ⟨m, ⟨q0, q1, q2, q3⟩⟩ := x
          rw [hp] at hm
          obtain ⟨hm, rfl⟩ := hm
          simp only [Lx.at_, TokP.mk.injEq] at hm
          obtain ⟨rfl, rfl, rfl, rfl⟩ := hm
          have hml := Lx.piece_len hp
          obtain ⟨ht1, ht2⟩ := piece_text hb h35 hp
          simp only at ht1 ht2
          have hon := Lx.go_onto hp ((line : Int) + f) acc
          have hnx : Lx.next c ((line : Int) + f) = (line : Int) + f := by
            unfold Lx.next
            rw [if_neg]
            rintro rfl
            exact absurd hb (by decide)
          rw [show Lx.onto acc ⟨kk, kt, kn, q3⟩ ((line : Int) + f) = acc ++ [⟨kk, kt, kn, (line : Int) + f⟩] from if_neg ht2, hnx] at hon
          have HF := Lib.hid (HG.out.trans hon)
          have hks : (kt.size : Int) = (m : Int) + 1 := by
            rw [ht1, st_size, List.length_cons, List.length_take, Nat.min_eq_left hml]; omega
          have hsl : ∀ W : World, (Instr.slice 9 (.string (st (c :: t))) (some (.int .i64 ((m : Int) + 1))) none none).run Tryz.prog W = .ok (.string (st (t.drop m))) W := fun W => by
            have := slice_l (c :: t) (m + 1) (by rw [List.length_cons]; omega) W
            rw [List.drop_succ_cons, show ((m + 1 : Nat) : Int) = (m : Int) + 1 by omega] at this
            exact this
          have hdl := List.length_drop (i := m) (l := t)
          have hZ2 := HZ.out
          rw [List.length_cons] at hZ2
          have HM := Lib.hid (show (t.drop m).length < r.length ∧ (acc.length + 1) + (t.drop m).length ≤ s.size ∧ line + f + (t.drop m).length ≤ s.size + 1 by omega)
          have hac : acc.length ≤ 100000 := by omega
          have hlt := fun k hk => (hoV.lt k hk).2
          have hszV : w.heap.size ≤ V1.heap.size := hKV.size
          clear hon hnx ht1 ht2 hml hp hdl hZ2 hal2 hll2 HZ HG hb h35 hz hsz2
          generalize t.drop m = t2 at *
          have hrow : Row encT 4 ((V1.alloc (.cells #[.int .i64 kk, .string kt, .int .i64 kn, .int .i64 ((line : Int) + f)] 63)).alloc (.cells #[.int .i64 kk, .string kt, .int .i64 kn, .int .i64 ((line : Int) + f)] 63)) ((V1.alloc (.cells #[.int .i64 kk, .string kt, .int .i64 kn, .int .i64 ((line : Int) + f)] 63)).heap.size + 1) (some ⟨V1.heap.size + 1, 0, none⟩) 1 [⟨kk, kt, kn, (line : Int) + f⟩] := by
            have h := Row.new encT_len (V1.alloc (.cells #[.int .i64 kk, .string kt, .int .i64 kn, .int .i64 ((line : Int) + f)] 63)) 63 [⟨kk, kt, kn, (line : Int) + f⟩] #[.int .i64 kk, .string kt, .int .i64 kn, .int .i64 ((line : Int) + f)] rfl
            have e : (V1.alloc (.cells #[.int .i64 kk, .string kt, .int .i64 kn, .int .i64 ((line : Int) + f)] 63)).heap.size = V1.heap.size + 1 := by simp
            rw [e] at h
            rw [e]
            exact h
          have HB2 := Lib.hid (((Below.refl w.heap.size V1).alloc hszV (.cells #[.int .i64 kk, .string kt, .int .i64 kn, .int .i64 ((line : Int) + f)] 63)).alloc (by simp; omega) (.cells #[.int .i64 kk, .string kt, .int .i64 kn, .int .i64 ((line : Int) + f)] 63))
          go_wp2_with (at_builtin; refine append_rows_g rfl _ _ 47 rfl w.heap.size 63 _ 40 Tryz.underlying47 info_tok rfl (by omega) encT_len encT_one _ acc.length acc rfl ((hoV.alloc _).alloc _) (by simp; omega) _ _ 1 1 [⟨kk, kt, kn, (line : Int) + f⟩] rfl hrow (by unfold maxLen; omega) (by omega) ?_)
          intro v' w1 hown' hb1 hgr
          have hKw : Keep w w1 := Below.trans hKV (HB2.out.trans hb1)
          have hbox : w1.cell? ⟨V1.heap.size, 1, none⟩ = some (.string kt) := (World.cell?_of_block (hgr.block V1.heap.size (by simp; omega) (fun e => by have := hlt _ e.symm; omega))).trans (by go_simp)
          clear hgr hb1 hrow HB2
          go_wp2
          refine ⟨⟨t2, acc ++ [⟨kk, kt, kn, (line : Int) + f⟩], line + f, rfl, by go_num, Lib.hid (by rw [HF.out]; rfl), by rw [List.length_append]; exact hown', hKw, by rw [List.length_append, List.length_singleton, bl_length]; exact HM.out.2.1, by rw [bl_length]; exact HM.out.2.2⟩, ?_⟩
          simp only [st_size]
          exact HM.out.1
theorem split_any (s : ByteArray) (w : World) (hs : s.size ≤ 100000) :
    Calls Tryz.prog 18 #[.string s] w (RetToks (Lx.split (bl s)) w) :=
  (split_cap s w (by unfold maxLen; omega)).mono fun e w' ⟨A, n, c, h1, h2, h3, h4, _⟩ => ⟨A, n, c, h1, h2, h3, h4⟩
end Go.Proofs.YtmcgflpgkkophaaGreatDoor.Lexs
