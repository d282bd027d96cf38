/- Layer 10's reference: letters, one. Conditions: texts at most a hundred thousand bytes. -/
import Derived.Test.YtffojilbhpefbaaLxA
import Derived.Test.YtffojilbhpefbaaGuR
import Derived.Test.YtffojilbhpefbaaStr
import Derived.Test.YtffojilbhpefbaaRow
import Derived.Laws.ResultCell
import Derived.Laws.StructEq
import Derived.RegionTactic
import Derived.Lib.Strings
namespace Go.Proofs.Ytffojilbhpefbaa.Ref10
set_option linter.unusedVariables false
open Go.ChangeShapes Go.WideShapes Go.ChangeAt Go.RowKit
open Lx (run low noLf)
open Gu (lead dig getOk getN)

theorem results_ctt {fn : Func} {p u v : Tmp} {ty : TypeId} (h : fn.results = #[.cell p ty, .tmp u, .tmp v]) (tmps : Array Value) (P : Program) (w : World) :
    (results fn tmps).run P w =
      ((asAddr (tmps.getD p undef)).run P w).andThen fun a w₁ => ((loadVar ty a).run P w₁).andThen fun x w₂ => .ok (.tuple #[x, tmps.getD u undef, tmps.getD v undef]) w₂ := by
  simp only [results, h]
  simp [Sem.run_bind, Result.andThen]

def LetRel (w : World) (s : ByteArray) (i : Value) (wr : World) : Prop :=
  ∃ k : Nat, k ≤ s.size ∧ k ≤ run low (bl s) ∧ i = .int .i64 k ∧ Quiet w wr
set_option maxHeartbeats 1000000 in
theorem letters_any (s : ByteArray) (w : World) (hs : s.size ≤ 1000000) :
    Calls Try.prog 36 #[.string s] w fun e w' => e = .returned (.int .i64 (run low (bl s) : Nat)) ∧ Quiet w w' := by
  go_enter Try.func36, Try.ntmps36
  go_wp2
  go_loopw [3] (fun i wr => LetRel w s i wr) (fun i _ => s.size - (intOf i).toNat)
  case atStart => exact ⟨0, Nat.zero_le _, Nat.zero_le _, rfl, Quiet.refl _⟩
  case round =>
    obtain ⟨k, hk, hkl, rfl, hq⟩ := hrel
    by_cases hlt : k < s.size
    · have hxk := idx (P := Try.prog) (k := .i64) s (k : Int) Try.underlying9 (by omega) (by omega)
      have hi1 : (k : Int) < s.size := by omega
      obtain ⟨b, hbe⟩ : ∃ b, b = byteAt s (k : Int) := ⟨_, rfl⟩
      rw [← hbe] at hxk
      have HB := Lib.hid hbe
      clear hbe
      by_cases h48 : 97 ≤ b
      · by_cases h57 : b ≤ 122
        · have hd := Lx.lwB_mk h48 h57
          have HD := Lib.hid hd
          clear hd
          go_wp2
          go_roundw
          case rel => exact ⟨k + 1, by omega, Lx.run_step _ _ k hkl (by rw [bl_length]; exact hlt) (by rw [Lx.low_at, ← HB.out]; exact HD.out), by go_num, hq⟩
          case measure => simp [intOf]; omega
        · have hd := Lx.lwB_hi (z := b) (by omega)
          have e1 := Lx.run_stop _ _ k hkl (by rw [Lx.low_at, ← HB.out]; exact hd)
          have HE := Lib.hid e1
          clear e1 hd
          go_wp2
          go_ret
          exact ⟨by rw [HE.out]; rfl, hq⟩
      · have hd := Lx.lwB_lo (z := b) (by omega)
        have e1 := Lx.run_stop _ _ k hkl (by rw [Lx.low_at, ← HB.out]; exact hd)
        have HE := Lib.hid e1
        clear e1 hd
        go_wp2
        go_ret
        exact ⟨by rw [HE.out]; rfl, hq⟩
    · have e1 : run low (bl s) = k := by
        have := Lx.run_le low (bl s)
        rw [bl_length] at this
        omega
      have HE := Lib.hid e1
      have hz : ¬ (k : Int) < s.size := by omega
      clear e1
      go_wp2
      go_ret
      exact ⟨by rw [HE.out]; rfl, hq⟩

/-- A token as a value. -/
def valT (k : TokP) : Value := .agg #[.int .i64 k.kind, .string k.text, .int .i64 k.num, .int .i64 k.line]
/-- What one answers. -/
def RetOne (x : Option (Nat × TokP)) (w : World) (e : Ending) (w' : World) : Prop :=
  (∃ k n b, e = .returned (.tuple #[valT k, .int .i64 n, .bool b]) ∧ match x with | some (m, k') => k = k' ∧ n = (m : Int) + 1 ∧ b = true | none => b = false) ∧ Keep w w'
theorem slice_to (s : ByteArray) (c : UInt8) (t : List UInt8) (h : bl s = c :: t) (n : Nat) (hn : n ≤ t.length) (W : World) :
    (Instr.slice 9 (.string s) none (some (.int .i64 ((n : Int) + 1))) none).run Try.prog W = .ok (.string (st (c :: t.take n))) W := by
  have hl := bl_length s
  rw [h, List.length_cons] at hl
  rw [run_slice_string_h W 9 s Try.underlying9 .i64 ((n : Int) + 1) (by omega) (by omega), show ((n : Int) + 1).toNat = n + 1 by omega, Lib.extract_eq]
  show Result.ok (Value.string (st (((bl s).drop 0).take (n + 1 - 0)))) W = _
  rw [h]; rfl
theorem first (s : ByteArray) (c : UInt8) (t : List UInt8) (h : bl s = c :: t) : byteAt s 0 = c.toNat := by
  unfold byteAt; rw [h]; rfl
theorem byte_eq {c d : UInt8} (h : (c.toNat : Int) = (d.toNat : Int)) : c = d := UInt8.toNat_inj.1 (by omega)
set_option maxHeartbeats 2000000 in
theorem one_word (s : ByteArray) (c : UInt8) (t : List UInt8) (h : bl s = c :: t) (w : World) (hs : s.size ≤ 100000) (h1 : low c = true) :
    Calls Try.prog 22 #[.string s] w (RetOne (Lx.piece c t) w) := by
  have hp : Lx.piece c t = some (run low t, ⟨1, st (c :: t.take (run low t)), 0, 0⟩) := by unfold Lx.piece; rw [if_pos h1]
  have hr := Lx.run_le low t
  have hsl := slice_to s c t h (run low t) hr
  have he : (run low (bl s) : Int) = (run low t : Int) + 1 := by rw [h, Lx.run, if_pos h1]; omega
  rw [hp]
  clear hp
  generalize run low t = n at *
  obtain ⟨tx, htx⟩ : ∃ x, x = st (c :: t.take n) := ⟨_, rfl⟩
  rw [← htx] at hsl ⊢
  have d1 : decide ((n : Int) + 1 > 0) = true := decide_eq_true (by omega)
  have HE := Lib.hid he
  clear htx he h1 h hr
  go_enter Try.func22, Try.ntmps22
  go_wp2_with fail
  refine (letters_any s _ (by omega)).mono ?_
  rintro e V ⟨rfl, hb⟩
  rw [HE.out]
  have hbW : Keep w V := ((Keep.refl w).alloc _).trans hb.keep
  have c0 : V.cell? ⟨w.heap.size, 0, none⟩ = some (.int .i64 0) := (Below.cell hb.keep (by simp)).trans (by go_simp)
  have c1 : V.cell? ⟨w.heap.size, 1, none⟩ = some (.string ⟨#[]⟩) := (Below.cell hb.keep (by simp)).trans (by go_simp)
  have c2 : V.cell? ⟨w.heap.size, 2, none⟩ = some (.int .i64 0) := (Below.cell hb.keep (by simp)).trans (by go_simp)
  have c3 : V.cell? ⟨w.heap.size, 3, none⟩ = some (.int .i64 0) := (Below.cell hb.keep (by simp)).trans (by go_simp)
  have hfr : ∀ j, V.frozen? ⟨w.heap.size, j, none⟩ = false := fun j => (Below.frozen hb.keep (by simp)).trans (by go_simp)
  go_wp2
  (try simp only [Exit.inBlock, Exit.then])
  refine bodyPost_ret (v := .tuple #[valT ⟨1, tx, 0, 0⟩, .int .i64 ((n : Int) + 1), .bool true]) ?_ rfl ⟨⟨_, _, _, rfl, rfl, rfl, rfl⟩, ?_⟩
  · rw [results_ctt rfl]
    go_simp
    rfl
  · exact (((hbW.setCell (Nat.le_refl _) _).setCell (Nat.le_refl _) _).setCell (Nat.le_refl _) _).setCell (Nat.le_refl _) _
set_option maxHeartbeats 2000000 in
theorem one_num (s : ByteArray) (c : UInt8) (t : List UInt8) (h : bl s = c :: t) (w : World) (hs : s.size ≤ 100000) (h1 : low c = false) (h2 : dig c = true) :
    Calls Try.prog 22 #[.string s] w (RetOne (Lx.piece c t) w) := by
  have hr := Lx.run_le dig t
  have hsl := slice_to s c t h (run dig t) hr
  have he : (run low (bl s) : Int) = 0 := by rw [h, Lx.run, if_neg (by rw [h1]; decide)]; rfl
  have hd : (lead (bl s) : Int) = (run dig t : Int) + 1 := by rw [← Lx.run_lead, h, Lx.run, if_pos h2]; omega
  have hp : Lx.piece c t = if getOk (c :: t.take (run dig t)) then some (run dig t, ⟨2, st (c :: t.take (run dig t)), getN (c :: t.take (run dig t)), 0⟩) else none := by unfold Lx.piece; rw [if_neg (by rw [h1]; decide), if_pos h2]
  rw [hp]
  clear hp
  have hlt := bl_length s
  rw [h, List.length_cons] at hlt
  generalize run dig t = n at *
  have hts : (c :: t.take n).length ≤ 100000 := by simp; omega
  generalize c :: t.take n = l at *
  have d1 : decide ((n : Int) + 1 > 0) = true := decide_eq_true (by omega)
  have hz : (st l).size ≤ 1000000 := by rw [st_size]; omega
  have HE := Lib.hid he
  have HD := Lib.hid hd
  clear he hd h1 h2 h hr hts hlt
  obtain ⟨v, hv⟩ : ∃ v, v = getN l := ⟨_, rfl⟩
  rw [← hv]
  have HV := Lib.hid hv
  clear hv
  cases hg : getOk l
  · rw [if_neg (by decide)]
    have HG := Lib.hid hg
    clear hg
    go_enter Try.func22, Try.ntmps22
    go_wp2_with fail
    refine (letters_any s _ (by omega)).mono ?_
    rintro e V ⟨rfl, hb⟩
    rw [HE.out]
    go_wp2_with fail
    refine (Ref2.lead_any s _ (by omega)).mono ?_
    rintro e V ⟨rfl, hb2⟩
    rw [HD.out]
    replace hb := hb.trans hb2
    go_wp2_with fail
    refine (Ref2.get_any (st l) _ hz).mono ?_
    rintro e V ⟨rfl, hb3⟩
    rw [Lx.bl_st, ← HV.out, HG.out]
    have hbb := hb.keep.trans hb3
    clear hb hb2 hb3
    have hbW : Keep w V := ((Keep.refl w).alloc _).trans hbb
    have c0 : V.cell? ⟨w.heap.size, 0, none⟩ = some (.int .i64 0) := (Below.cell hbb (by simp)).trans (by go_simp)
    have c1 : V.cell? ⟨w.heap.size, 1, none⟩ = some (.string ⟨#[]⟩) := (Below.cell hbb (by simp)).trans (by go_simp)
    have c2 : V.cell? ⟨w.heap.size, 2, none⟩ = some (.int .i64 0) := (Below.cell hbb (by simp)).trans (by go_simp)
    have c3 : V.cell? ⟨w.heap.size, 3, none⟩ = some (.int .i64 0) := (Below.cell hbb (by simp)).trans (by go_simp)
    have hfr : ∀ j, V.frozen? ⟨w.heap.size, j, none⟩ = false := fun j => (Below.frozen hbb (by simp)).trans (by go_simp)
    go_wp2
    (try simp only [Exit.inBlock, Exit.then])
    refine bodyPost_ret (v := .tuple #[valT ⟨2, st l, v, 0⟩, .int .i64 ((n : Int) + 1), .bool false]) ?_ rfl ⟨⟨_, _, _, rfl, rfl⟩, ?_⟩
    · rw [results_ctt rfl]
      go_simp
      rfl
    · exact (((hbW.setCell (Nat.le_refl _) _).setCell (Nat.le_refl _) _).setCell (Nat.le_refl _) _).setCell (Nat.le_refl _) _
  · rw [if_pos rfl]
    have HG := Lib.hid hg
    clear hg
    go_enter Try.func22, Try.ntmps22
    go_wp2_with fail
    refine (letters_any s _ (by omega)).mono ?_
    rintro e V ⟨rfl, hb⟩
    rw [HE.out]
    go_wp2_with fail
    refine (Ref2.lead_any s _ (by omega)).mono ?_
    rintro e V ⟨rfl, hb2⟩
    rw [HD.out]
    replace hb := hb.trans hb2
    go_wp2_with fail
    refine (Ref2.get_any (st l) _ hz).mono ?_
    rintro e V ⟨rfl, hb3⟩
    rw [Lx.bl_st, ← HV.out, HG.out]
    have hbb := hb.keep.trans hb3
    clear hb hb2 hb3
    have hbW : Keep w V := ((Keep.refl w).alloc _).trans hbb
    have c0 : V.cell? ⟨w.heap.size, 0, none⟩ = some (.int .i64 0) := (Below.cell hbb (by simp)).trans (by go_simp)
    have c1 : V.cell? ⟨w.heap.size, 1, none⟩ = some (.string ⟨#[]⟩) := (Below.cell hbb (by simp)).trans (by go_simp)
    have c2 : V.cell? ⟨w.heap.size, 2, none⟩ = some (.int .i64 0) := (Below.cell hbb (by simp)).trans (by go_simp)
    have c3 : V.cell? ⟨w.heap.size, 3, none⟩ = some (.int .i64 0) := (Below.cell hbb (by simp)).trans (by go_simp)
    have hfr : ∀ j, V.frozen? ⟨w.heap.size, j, none⟩ = false := fun j => (Below.frozen hbb (by simp)).trans (by go_simp)
    go_wp2
    (try simp only [Exit.inBlock, Exit.then])
    refine bodyPost_ret (v := .tuple #[valT ⟨2, st l, v, 0⟩, .int .i64 ((n : Int) + 1), .bool true]) ?_ rfl ⟨⟨_, _, _, rfl, rfl, rfl, rfl⟩, ?_⟩
    · rw [results_ctt rfl]
      go_simp
      rfl
    · exact (((hbW.setCell (Nat.le_refl _) _).setCell (Nat.le_refl _) _).setCell (Nat.le_refl _) _).setCell (Nat.le_refl _) _
set_option maxHeartbeats 2000000 in
theorem one_mark (s : ByteArray) (c : UInt8) (t : List UInt8) (h : bl s = c :: t) (w : World) (hs : s.size ≤ 100000) (hc : c = 40 ∨ c = 41 ∨ c = 44 ∨ c = 59) :
    Calls Try.prog 22 #[.string s] w (RetOne (Lx.piece c t) w) := by
  have h1 : low c = false := by rcases hc with rfl | rfl | rfl | rfl <;> rfl
  have h2 : dig c = false := by rcases hc with rfl | rfl | rfl | rfl <;> rfl
  have hp : Lx.piece c t = some (0, ⟨3, st [c], 0, 0⟩) := by rcases hc with rfl | rfl | rfl | rfl <;> rfl
  have he : (run low (bl s) : Int) = 0 := by rw [h, Lx.run, if_neg (by rw [h1]; decide)]; rfl
  have hd : (lead (bl s) : Int) = 0 := by rw [← Lx.run_lead, h, Lx.run, if_neg (by rw [h2]; decide)]; rfl
  have hlt := bl_length s
  rw [h, List.length_cons] at hlt
  have hx := idx (P := Try.prog) (k := .i64) s 0 Try.underlying9 (by omega) (by omega)
  rw [first s c t h] at hx
  have HE := Lib.hid he
  have HD := Lib.hid hd
  clear he hd
  rw [hp]
  clear hp
  have hsl := slice_to s c t h 0 (Nat.zero_le _)
  rw [show ((0 : Nat) : Int) + 1 = 1 from rfl, List.take_zero] at hsl
  clear h1 h2 h
  go_enter Try.func22, Try.ntmps22
  go_wp2_with fail
  refine (letters_any s _ (by omega)).mono ?_
  rintro e V ⟨rfl, hb⟩
  rw [HE.out]
  go_wp2_with fail
  refine (Ref2.lead_any s _ (by omega)).mono ?_
  rintro e V ⟨rfl, hb2⟩
  rw [HD.out]
  replace hb := hb.trans hb2
  have hbW : Keep w V := ((Keep.refl w).alloc _).trans hb.keep
  have c0 : V.cell? ⟨w.heap.size, 0, none⟩ = some (.int .i64 0) := (Below.cell hb.keep (by simp)).trans (by go_simp)
  have c1 : V.cell? ⟨w.heap.size, 1, none⟩ = some (.string ⟨#[]⟩) := (Below.cell hb.keep (by simp)).trans (by go_simp)
  have c2 : V.cell? ⟨w.heap.size, 2, none⟩ = some (.int .i64 0) := (Below.cell hb.keep (by simp)).trans (by go_simp)
  have c3 : V.cell? ⟨w.heap.size, 3, none⟩ = some (.int .i64 0) := (Below.cell hb.keep (by simp)).trans (by go_simp)
  have hfr : ∀ j, V.frozen? ⟨w.heap.size, j, none⟩ = false := fun j => (Below.frozen hb.keep (by simp)).trans (by go_simp)
  rcases hc with rfl | rfl | rfl | rfl <;> (
  go_wp2
  (try simp only [Exit.inBlock, Exit.then])
  refine bodyPost_ret (v := .tuple #[valT ⟨3, st [_], 0, 0⟩, .int .i64 1, .bool true]) ?_ rfl ⟨⟨_, _, _, rfl, rfl, rfl, rfl⟩, ?_⟩
  · rw [results_ctt rfl]
    go_simp
    rfl
  · exact (((hbW.setCell (Nat.le_refl _) _).setCell (Nat.le_refl _) _).setCell (Nat.le_refl _) _).setCell (Nat.le_refl _) _)
set_option maxHeartbeats 2000000 in
theorem one_minus (s : ByteArray) (c : UInt8) (t : List UInt8) (h : bl s = c :: t) (w : World) (hs : s.size ≤ 100000) (hc : c = 45) :
    Calls Try.prog 22 #[.string s] w (RetOne (Lx.piece c t) w) := by
  have h1 : low c = false := by rcases hc with rfl <;> rfl
  have h2 : dig c = false := by rcases hc with rfl <;> rfl
  have hp : Lx.piece c t = some (0, ⟨4, st [c], 0, 0⟩) := by rcases hc with rfl <;> rfl
  have he : (run low (bl s) : Int) = 0 := by rw [h, Lx.run, if_neg (by rw [h1]; decide)]; rfl
  have hd : (lead (bl s) : Int) = 0 := by rw [← Lx.run_lead, h, Lx.run, if_neg (by rw [h2]; decide)]; rfl
  have hlt := bl_length s
  rw [h, List.length_cons] at hlt
  have hx := idx (P := Try.prog) (k := .i64) s 0 Try.underlying9 (by omega) (by omega)
  rw [first s c t h] at hx
  have HE := Lib.hid he
  have HD := Lib.hid hd
  clear he hd
  rw [hp]
  clear hp
  clear h1 h2 h
  go_enter Try.func22, Try.ntmps22
  go_wp2_with fail
  refine (letters_any s _ (by omega)).mono ?_
  rintro e V ⟨rfl, hb⟩
  rw [HE.out]
  go_wp2_with fail
  refine (Ref2.lead_any s _ (by omega)).mono ?_
  rintro e V ⟨rfl, hb2⟩
  rw [HD.out]
  replace hb := hb.trans hb2
  have hbW : Keep w V := ((Keep.refl w).alloc _).trans hb.keep
  have c0 : V.cell? ⟨w.heap.size, 0, none⟩ = some (.int .i64 0) := (Below.cell hb.keep (by simp)).trans (by go_simp)
  have c1 : V.cell? ⟨w.heap.size, 1, none⟩ = some (.string ⟨#[]⟩) := (Below.cell hb.keep (by simp)).trans (by go_simp)
  have c2 : V.cell? ⟨w.heap.size, 2, none⟩ = some (.int .i64 0) := (Below.cell hb.keep (by simp)).trans (by go_simp)
  have c3 : V.cell? ⟨w.heap.size, 3, none⟩ = some (.int .i64 0) := (Below.cell hb.keep (by simp)).trans (by go_simp)
  have hfr : ∀ j, V.frozen? ⟨w.heap.size, j, none⟩ = false := fun j => (Below.frozen hb.keep (by simp)).trans (by go_simp)
  rcases hc with rfl <;> (
  go_wp2
  (try simp only [Exit.inBlock, Exit.then])
  refine bodyPost_ret (v := .tuple #[valT ⟨4, st [45], 0, 0⟩, .int .i64 1, .bool true]) ?_ rfl ⟨⟨_, _, _, rfl, rfl, rfl, rfl⟩, ?_⟩
  · rw [results_ctt rfl]
    go_simp
    rfl
  · exact (((hbW.setCell (Nat.le_refl _) _).setCell (Nat.le_refl _) _).setCell (Nat.le_refl _) _).setCell (Nat.le_refl _) _)
set_option maxHeartbeats 2000000 in
theorem one_blank (s : ByteArray) (c : UInt8) (t : List UInt8) (h : bl s = c :: t) (w : World) (hs : s.size ≤ 100000) (hc : c = 32 ∨ c = 9 ∨ c = 10 ∨ c = 13) :
    Calls Try.prog 22 #[.string s] w (RetOne (Lx.piece c t) w) := by
  have h1 : low c = false := by rcases hc with rfl | rfl | rfl | rfl <;> rfl
  have h2 : dig c = false := by rcases hc with rfl | rfl | rfl | rfl <;> rfl
  have hp : Lx.piece c t = some (0, Lx.none_) := by rcases hc with rfl | rfl | rfl | rfl <;> rfl
  have he : (run low (bl s) : Int) = 0 := by rw [h, Lx.run, if_neg (by rw [h1]; decide)]; rfl
  have hd : (lead (bl s) : Int) = 0 := by rw [← Lx.run_lead, h, Lx.run, if_neg (by rw [h2]; decide)]; rfl
  have hlt := bl_length s
  rw [h, List.length_cons] at hlt
  have hx := idx (P := Try.prog) (k := .i64) s 0 Try.underlying9 (by omega) (by omega)
  rw [first s c t h] at hx
  have HE := Lib.hid he
  have HD := Lib.hid hd
  clear he hd
  rw [hp]
  clear hp
  clear h1 h2 h
  go_enter Try.func22, Try.ntmps22
  go_wp2_with fail
  refine (letters_any s _ (by omega)).mono ?_
  rintro e V ⟨rfl, hb⟩
  rw [HE.out]
  go_wp2_with fail
  refine (Ref2.lead_any s _ (by omega)).mono ?_
  rintro e V ⟨rfl, hb2⟩
  rw [HD.out]
  replace hb := hb.trans hb2
  have hbW : Keep w V := ((Keep.refl w).alloc _).trans hb.keep
  have c0 : V.cell? ⟨w.heap.size, 0, none⟩ = some (.int .i64 0) := (Below.cell hb.keep (by simp)).trans (by go_simp)
  have c1 : V.cell? ⟨w.heap.size, 1, none⟩ = some (.string ⟨#[]⟩) := (Below.cell hb.keep (by simp)).trans (by go_simp)
  have c2 : V.cell? ⟨w.heap.size, 2, none⟩ = some (.int .i64 0) := (Below.cell hb.keep (by simp)).trans (by go_simp)
  have c3 : V.cell? ⟨w.heap.size, 3, none⟩ = some (.int .i64 0) := (Below.cell hb.keep (by simp)).trans (by go_simp)
  have hfr : ∀ j, V.frozen? ⟨w.heap.size, j, none⟩ = false := fun j => (Below.frozen hb.keep (by simp)).trans (by go_simp)
  rcases hc with rfl | rfl | rfl | rfl <;> (
  go_wp2
  (try simp only [Exit.inBlock, Exit.then])
  refine bodyPost_ret (v := .tuple #[valT Lx.none_, .int .i64 1, .bool true]) ?_ rfl ⟨⟨_, _, _, rfl, rfl, rfl, rfl⟩, ?_⟩
  · rw [results_ctt rfl]
    go_simp
    rfl
  · exact (((hbW.setCell (Nat.le_refl _) _).setCell (Nat.le_refl _) _).setCell (Nat.le_refl _) _).setCell (Nat.le_refl _) _)
set_option maxHeartbeats 2000000 in
theorem one_else (s : ByteArray) (c : UInt8) (t : List UInt8) (h : bl s = c :: t) (w : World) (hs : s.size ≤ 100000) (h1 : low c = false) (h2 : dig c = false) (h3 : Lx.mark c = false) (h4 : (c == 45) = false) (h5 : Lx.blank c = false) (h6 : (c == 35) = false) :
    Calls Try.prog 22 #[.string s] w (RetOne (Lx.piece c t) w) := by
  have hp : Lx.piece c t = none := by unfold Lx.piece; simp [h1, h2, h3, h4, h5, h6]
  rw [hp]
  clear hp
  have he : (run low (bl s) : Int) = 0 := by rw [h, Lx.run, if_neg (by rw [h1]; decide)]; rfl
  have hd : (lead (bl s) : Int) = 0 := by rw [← Lx.run_lead, h, Lx.run, if_neg (by rw [h2]; decide)]; rfl
  have hlt := bl_length s
  rw [h, List.length_cons] at hlt
  have hx := idx (P := Try.prog) (k := .i64) s 0 Try.underlying9 (by omega) (by omega)
  rw [first s c t h] at hx
  have HE := Lib.hid he
  have HD := Lib.hid hd
  clear he hd
  have d : ∀ d : UInt8, c ≠ d → ((c.toNat : Int) == (d.toNat : Int)) = false := fun d hd => by rw [beq_eq_false_iff_ne]; exact fun e => hd (byte_eq e)
  simp only [Lx.mark, Lx.blank, Bool.or_eq_false_iff, beq_eq_false_iff_ne] at h3 h4 h5 h6
  have q1 := d 40 h3.1.1.1
  have q2 := d 41 h3.1.1.2
  have q3 := d 44 h3.1.2
  have q4 := d 59 h3.2
  have q5 := d 45 h4
  have q6 := d 32 h5.1.1.1
  have q7 := d 9 h5.1.1.2
  have q8 := d 10 h5.1.2
  have q9 := d 13 h5.2
  have q0 := d 35 h6
  rw [show ((40 : UInt8).toNat : Int) = 40 from rfl] at q1
  rw [show ((41 : UInt8).toNat : Int) = 41 from rfl] at q2
  rw [show ((44 : UInt8).toNat : Int) = 44 from rfl] at q3
  rw [show ((59 : UInt8).toNat : Int) = 59 from rfl] at q4
  rw [show ((45 : UInt8).toNat : Int) = 45 from rfl] at q5
  rw [show ((32 : UInt8).toNat : Int) = 32 from rfl] at q6
  rw [show ((9 : UInt8).toNat : Int) = 9 from rfl] at q7
  rw [show ((10 : UInt8).toNat : Int) = 10 from rfl] at q8
  rw [show ((13 : UInt8).toNat : Int) = 13 from rfl] at q9
  rw [show ((35 : UInt8).toNat : Int) = 35 from rfl] at q0
  generalize (c.toNat : Int) = b at *
  clear d h1 h2 h3 h4 h5 h6 h
  go_enter Try.func22, Try.ntmps22
  go_wp2_with fail
  refine (letters_any s _ (by omega)).mono ?_
  rintro e V ⟨rfl, hb⟩
  rw [HE.out]
  go_wp2_with fail
  refine (Ref2.lead_any s _ (by omega)).mono ?_
  rintro e V ⟨rfl, hb2⟩
  rw [HD.out]
  replace hb := hb.trans hb2
  have hbW : Keep w V := ((Keep.refl w).alloc _).trans hb.keep
  have c0 : V.cell? ⟨w.heap.size, 0, none⟩ = some (.int .i64 0) := (Below.cell hb.keep (by simp)).trans (by go_simp)
  have c1 : V.cell? ⟨w.heap.size, 1, none⟩ = some (.string ⟨#[]⟩) := (Below.cell hb.keep (by simp)).trans (by go_simp)
  have c2 : V.cell? ⟨w.heap.size, 2, none⟩ = some (.int .i64 0) := (Below.cell hb.keep (by simp)).trans (by go_simp)
  have c3 : V.cell? ⟨w.heap.size, 3, none⟩ = some (.int .i64 0) := (Below.cell hb.keep (by simp)).trans (by go_simp)
  have hfr : ∀ j, V.frozen? ⟨w.heap.size, j, none⟩ = false := fun j => (Below.frozen hb.keep (by simp)).trans (by go_simp)
  go_wp2
  (try simp only [Exit.inBlock, Exit.then])
  refine bodyPost_ret (v := .tuple #[valT Lx.none_, .int .i64 0, .bool false]) ?_ rfl ⟨⟨_, _, _, rfl, rfl⟩, ?_⟩
  · rw [results_ctt rfl]
    go_simp
    rfl
  · exact (((hbW.setCell (Nat.le_refl _) _).setCell (Nat.le_refl _) _).setCell (Nat.le_refl _) _).setCell (Nat.le_refl _) _
/-- What holds at the head of the rounds of a remark. -/
def RemRel (V : World) (t : List UInt8) (i : Value) (wr : World) : Prop :=
  ∃ k : Nat, k ≤ t.length ∧ k ≤ run noLf t ∧ i = .int .i64 ((k : Int) + 1) ∧ Quiet V wr
set_option maxHeartbeats 2000000 in
theorem one_remark (s : ByteArray) (c : UInt8) (t : List UInt8) (h : bl s = c :: t) (w : World) (hs : s.size ≤ 100000) (hc : c = 35) :
    Calls Try.prog 22 #[.string s] w (RetOne (Lx.piece c t) w) := by
  have h1 : low c = false := by rw [hc]; rfl
  have h2 : dig c = false := by rw [hc]; rfl
  have hp : Lx.piece c t = some (run noLf t, Lx.none_) := by rw [hc]; rfl
  have he : (run low (bl s) : Int) = 0 := by rw [h, Lx.run, if_neg (by rw [h1]; decide)]; rfl
  have hd : (lead (bl s) : Int) = 0 := by rw [← Lx.run_lead, h, Lx.run, if_neg (by rw [h2]; decide)]; rfl
  have hlt := bl_length s
  rw [h, List.length_cons] at hlt
  have hx := idx (P := Try.prog) (k := .i64) s 0 Try.underlying9 (by omega) (by omega)
  rw [first s c t h] at hx
  have HE := Lib.hid he
  have HD := Lib.hid hd
  clear he hd
  rw [hp]
  clear hp h1 h2
  have hidx : ∀ k : Nat, k < t.length → byteAt s ((k : Int) + 1) = byteAt (st t) (k : Int) := fun k hk => by
    unfold byteAt
    rw [h, Lx.bl_st, show ((k : Int) + 1).toNat = k + 1 by omega, show (k : Int).toNat = k by omega]; rfl
  have hc35 : (c.toNat : Int) = 35 := by rw [hc]; rfl
  rw [hc35] at hx
  clear hc35 hc h
  go_enter Try.func22, Try.ntmps22
  go_wp2_with fail
  refine (letters_any s _ (by omega)).mono ?_
  rintro e V ⟨rfl, hb⟩
  rw [HE.out]
  go_wp2_with fail
  refine (Ref2.lead_any s _ (by omega)).mono ?_
  rintro e V ⟨rfl, hb2⟩
  rw [HD.out]
  replace hb := hb.trans hb2
  have hbW : Keep w V := ((Keep.refl w).alloc _).trans hb.keep
  have c0 : V.cell? ⟨w.heap.size, 0, none⟩ = some (.int .i64 0) := (Below.cell hb.keep (by simp)).trans (by go_simp)
  have c1 : V.cell? ⟨w.heap.size, 1, none⟩ = some (.string ⟨#[]⟩) := (Below.cell hb.keep (by simp)).trans (by go_simp)
  have c2 : V.cell? ⟨w.heap.size, 2, none⟩ = some (.int .i64 0) := (Below.cell hb.keep (by simp)).trans (by go_simp)
  have c3 : V.cell? ⟨w.heap.size, 3, none⟩ = some (.int .i64 0) := (Below.cell hb.keep (by simp)).trans (by go_simp)
  have hfr : ∀ j, V.frozen? ⟨w.heap.size, j, none⟩ = false := fun j => (Below.frozen hb.keep (by simp)).trans (by go_simp)
  have hzV : w.heap.size < V.heap.size := by have := hb.keep.size; simp at this; omega
  clear hb hb2
  go_wp2
  go_loopw [5] (fun i wr => RemRel V t i wr) (fun i _ => s.size - (intOf i).toNat)
  case atStart => exact ⟨0, Nat.zero_le _, Nat.zero_le _, rfl, Quiet.refl _⟩
  case round =>
    obtain ⟨k, hk, hkl, rfl, hq⟩ := hrel
    replace hbW := hbW.trans hq.keep
    replace c0 := (hq.cell _).trans c0
    replace c1 := (hq.cell _).trans c1
    replace c2 := (hq.cell _).trans c2
    replace c3 := (hq.cell _).trans c3
    have hfr : ∀ j, wr.frozen? ⟨w.heap.size, j, none⟩ = false := fun j => (Below.frozen hq.keep hzV).trans (hfr j)
    by_cases hlt : k < t.length
    · have hxk := idx (P := Try.prog) (k := .i64) s ((k : Int) + 1) Try.underlying9 (by omega) (by omega)
      rw [hidx k hlt] at hxk
      have hi1 : (k : Int) + 1 < s.size := by omega
      obtain ⟨b, hbe⟩ : ∃ b, b = byteAt (st t) (k : Int) := ⟨_, rfl⟩
      rw [← hbe] at hxk
      have HB := Lib.hid (show noLf (t.getD k 0) = !(b == 10) by rw [hbe]; exact Lx.noLf_at (st t) k)
      clear hbe hidx
      cases hb10 : (b == 10)
      · have HD := Lib.hid (show noLf (t.getD k 0) = true by rw [HB.out, hb10]; rfl)
        have hb10' : (b != 10) = true := by rw [bne, hb10]; rfl
        go_wp2
        go_roundw
        case rel => exact ⟨k + 1, by omega, Lx.run_step _ _ k hkl hlt HD.out, by go_num, hq⟩
        case measure => simp [intOf]; omega
      · have HE := Lib.hid (Lx.run_stop _ _ k hkl (show noLf (t.getD k 0) = false by rw [HB.out, hb10]; rfl))
        have hb10' : (b != 10) = false := by rw [bne, hb10]; rfl
        go_wp2
        rw [HE.out]
        (try simp only [Exit.inBlock, Exit.then])
        refine bodyPost_ret (v := .tuple #[valT Lx.none_, .int .i64 ((k : Int) + 1), .bool true]) ?_ rfl ⟨⟨_, _, _, rfl, rfl, rfl, rfl⟩, ?_⟩
        · rw [results_ctt rfl]
          go_simp
          rfl
        · exact (((hbW.setCell (Nat.le_refl _) _).setCell (Nat.le_refl _) _).setCell (Nat.le_refl _) _).setCell (Nat.le_refl _) _
    · have HE := Lib.hid (show run noLf t = k by have := Lx.run_le noLf t; omega)
      have hz : ¬ (k : Int) + 1 < s.size := by omega
      clear hidx
      go_wp2
      rw [HE.out]
      (try simp only [Exit.inBlock, Exit.then])
      refine bodyPost_ret (v := .tuple #[valT Lx.none_, .int .i64 ((k : Int) + 1), .bool true]) ?_ rfl ⟨⟨_, _, _, rfl, rfl, rfl, rfl⟩, ?_⟩
      · rw [results_ctt rfl]
        go_simp
        rfl
      · exact (((hbW.setCell (Nat.le_refl _) _).setCell (Nat.le_refl _) _).setCell (Nat.le_refl _) _).setCell (Nat.le_refl _) _
theorem one_any (s : ByteArray) (c : UInt8) (t : List UInt8) (h : bl s = c :: t) (w : World) (hs : s.size ≤ 100000) :
    Calls Try.prog 22 #[.string s] w (RetOne (Lx.piece c t) w) := by
  cases h1 : low c
  · cases h2 : dig c
    · cases h3 : Lx.mark c
      · cases h4 : (c == 45)
        · cases h5 : Lx.blank c
          · cases h6 : (c == 35)
            · exact one_else s c t h w hs h1 h2 h3 h4 h5 h6
            · exact one_remark s c t h w hs (by simpa using h6)
          · exact one_blank s c t h w hs (by simpa [Lx.blank, or_assoc] using h5)
        · exact one_minus s c t h w hs (by simpa using h4)
      · exact one_mark s c t h w hs (by simpa [Lx.mark, or_assoc] using h3)
    · exact one_num s c t h w hs h1 h2
  · exact one_word s c t h w hs h1
end Go.Proofs.Ytffojilbhpefbaa.Ref10
