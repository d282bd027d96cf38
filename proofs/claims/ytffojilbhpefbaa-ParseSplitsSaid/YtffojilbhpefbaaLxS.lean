/- Layer 10's reference: Split. Conditions: texts at most a hundred thousand bytes. -/
import Derived.Test.YtffojilbhpefbaaLxR
namespace Go.Proofs.Ytffojilbhpefbaa.Ref10
set_option linter.unusedVariables false
open Go.ChangeShapes Go.WideShapes Go.ChangeAt Go.RowKit
open Lx (run low noLf)
def encT (k : TokP) : List Value := [.int .i64 k.kind, .string k.text, .int .i64 k.num, .int .i64 k.line]
theorem encT_len (k : TokP) : (encT k).length = 4 := rfl
theorem encT_one (k : TokP) : ∀ v ∈ encT k, v.oneCell' = true := by
  intro v hv
  simp [encT] at hv
  rcases hv with rfl | rfl | rfl | rfl <;> rfl
theorem info_tok : (Try.prog.info? 49).map (fun i => (i.zero, i.size, i.bytes)) = some (some (.agg #[.int .i64 0, .string ⟨#[]⟩, .int .i64 0, .int .i64 0]), 4, 40) := by kernel_rfl
/-- What Split answers. -/
def RetToks (x : List TokP × Int × Int) (w : World) (e : Ending) (w' : World) : Prop :=
  ∃ A n c, e = .returned (.tuple #[.slice A n c, .int .i64 x.2.1, .int .i64 x.2.2]) ∧ Row encT 4 w' w'.heap.size A n x.1 ∧ Keep w w' ∧ Fresh w A n
theorem own_keep2 {w w' : World} {base : Nat} {e : TypeId} {k n : Nat} {v : Value} {xs : List Value} (h : w.ownsRow base e k v n xs) (hk : Keep w w') : w'.ownsRow base e k v n xs :=
  h.kept (row := none) ⟨hk.os, hk.tape, hk.output, hk.size, fun i hi _ => hk.block i hi⟩ (by cases v.ownBlock <;> simp)
theorem fresh_row {W w : World} {base : Nat} {e : TypeId} {A : Option Addr} {n c k : Nat} {xs : List Value} (h : w.ownsRow base e k (.slice A n c) n xs) (hb : W.heap.size ≤ base) : Fresh W A n := fun hn => by
  rcases h.2 with ⟨hv, h0⟩ | ⟨g, cap, cur, hv, hg, _⟩
  · omega
  · injection hv with hA
    exact ⟨g, hA, by omega⟩
def SplitRel (w : World) (s : List UInt8) (sv out lv : Value) (wr : World) : Prop :=
  ∃ (r : List UInt8) (acc : List TokP) (line : Nat), sv = .string (st r) ∧ lv = .int .i64 line ∧ Hid (Lx.go s 1 = (Lx.go r line).map (acc ++ ·)) ∧ wr.ownsRow w.heap.size 49 4 out acc.length (flat encT acc) ∧ Keep w wr ∧ acc.length + r.length ≤ s.length ∧ line + r.length ≤ s.length + 1
set_option maxHeartbeats 4000000 in
theorem split_any (s : ByteArray) (w : World) (hs : s.size ≤ 100000) :
    Calls Try.prog 13 #[.string s] w (RetToks (Lx.split (bl s)) w) := by
  by_cases hl : 4096 < s.size
  · have HS := Lib.hid (show Lx.split (bl s) = ([], 0, 9) by rw [Lx.split, bl_length, if_pos hl])
    have d : (s.size : Int) > 4096 := by omega
    go_enter Try.func13, Try.ntmps13
    go_wp2
    (try simp only [Exit.inBlock, Exit.then])
    refine bodyPost_ret (results_tmp3 rfl _ _ _) rfl ⟨none, 0, 0, by rw [HS.out]; rfl, by rw [HS.out]; exact Row.none_ _ _ _, Keep.refl _, fun h => absurd h (by omega)⟩
  · have HS := Lib.hid (show Lx.split (bl s) = match Lx.go (bl s) 1 with | .ok r => (r, 0, 0) | .error e => ([], e, 6) by rw [Lx.split, bl_length, if_neg hl]; cases Lx.go (bl s) 1 <;> rfl)
    have d : ¬ (s.size : Int) > 4096 := by omega
    go_enter Try.func13, Try.ntmps13
    go_wp2
    go_loopw [0, 5, 6] (fun sv out lv wr => SplitRel w (bl s) sv out lv wr) (fun sv _ _ _ => match sv with | .string x => x.size | _ => 0)
    case atStart => exact ⟨bl s, [], 1, rfl, rfl, Lib.hid (by cases Lx.go (bl s) 1 <;> rfl), ⟨rfl, .inl ⟨rfl, rfl⟩⟩, Keep.refl _, by simp, by omega⟩
    case round =>
      obtain ⟨r, acc, line, rfl, rfl, hg, hown, hK, hal, hll⟩ := hrel
      rw [bl_length] at hal hll
      obtain ⟨OA, oc, rfl⟩ := own_slice hown
      match r with
      | [] =>
        have hz : ((st []).size : Int) = 0 := rfl
        have HE := Lib.hid (show Lx.split (bl s) = (acc, 0, 0) by rw [HS.out, hg.out, Lx.go_nil]; show (acc ++ [], _, _) = _; rw [List.append_nil])
        go_wp2
        (try simp only [Exit.inBlock, Exit.then])
        refine bodyPost_ret (results_tmp3 rfl _ _ _) rfl ⟨OA, acc.length, oc, by rw [HE.out]; rfl, by rw [HE.out]; exact Row.of_own encT_len hown (by omega), hK, fresh_row hown (Nat.le_refl _)⟩
      | c :: t =>
        have hz : ((st (c :: t)).size : Int) > 0 := by rw [st_size, List.length_cons]; omega
        rw [List.length_cons] at hal hll
        go_wp2_with fail
        refine (one_any (st (c :: t)) c t rfl _ (by rw [st_size, List.length_cons]; omega)).mono ?_
        rintro e V ⟨⟨k, n, b, rfl, hm⟩, hV⟩
        obtain ⟨kk, kt, kn, kl⟩ := k
        cases hp : Lx.piece c t with
        | none =>
          rw [hp] at hm
          subst hm
          have HE := Lib.hid (show Lx.split (bl s) = ([], (line : Int), 6) by rw [HS.out, hg.out, Lx.go_none hp]; rfl)
          have hKV := hK.trans hV
          unfold valT
          go_wp2
          (try simp only [Exit.inBlock, Exit.then])
          refine bodyPost_ret (results_tmp3 rfl _ _ _) rfl ⟨none, 0, 0, by rw [HE.out]; rfl, by rw [HE.out]; exact Row.none_ _ _ _, hKV.alloc _, fun h => absurd h (by omega)⟩
        | some x =>
          obtain ⟨m, k'⟩ := x
          rw [hp] at hm
          obtain ⟨rfl, rfl, rfl⟩ := hm
          have hml := Lx.piece_len hp
          have hon := Lx.go_onto hp (line : Int) acc
          have HG := Lib.hid (hg.out.trans hon)
          have hx := idx (P := Try.prog) (k := .i64) (st (c :: t)) 0 Try.underlying9 (by omega) (by omega)
          rw [first (st (c :: t)) c t rfl] at hx
          have hsl : ∀ W : World, (Instr.slice 9 (.string (st (c :: t))) (some (.int .i64 ((m : Int) + 1))) none none).run Try.prog W = .ok (.string (st (t.drop m))) W := fun W => by
            rw [run_slice_string_l W 9 _ Try.underlying9 .i64 ((m : Int) + 1) (by omega) (by rw [st_size, List.length_cons]; omega), show ((m : Int) + 1).toNat = m + 1 by omega, Lib.extract_eq]
            show Result.ok (Value.string (st (((c :: t).drop (m + 1)).take _))) W = _
            rw [List.drop_succ_cons, List.take_of_length_le (by rw [st_size, List.length_cons, List.length_drop]; omega)]
          have hnx : (((c.toNat : Int) == 10) = true ∧ Lx.next c line = ((line + 1 : Nat) : Int)) ∨ (((c.toNat : Int) == 10) = false ∧ Lx.next c line = ((line : Nat) : Int)) := by
            by_cases h : c = 10
            · left; subst h; exact ⟨rfl, rfl⟩
            · right; exact ⟨by rw [beq_eq_false_iff_ne]; exact fun e => h (byte_eq e), by unfold Lx.next; rw [if_neg h]⟩
          have hoV := own_keep2 hown hV
          have hKV := hK.trans hV
          have hszV : w.heap.size ≤ V.heap.size := hKV.size
          have hz1 : (t.drop m).length < (st (c :: t)).size := by rw [st_size, List.length_cons, List.length_drop]; omega
          have hdl := List.length_drop (i := m) (l := t)
          clear hown hK hV hg hon hp
          unfold valT
          cases hk : (kk != 0)
          · have hk0 : kk = 0 := by simpa using hk
            subst hk0
            have ho : Lx.onto acc ⟨0, kt, kn, kl⟩ line = acc := if_pos rfl
            rw [ho] at HG
            clear ho
            rcases hnx with ⟨d1, d2⟩ | ⟨d1, d2⟩
            · rw [d2] at HG
              go_wp2
              refine ⟨⟨t.drop m, acc, line + 1, rfl, by go_num, HG, own_keep2 hoV ((Keep.refl V).alloc _), hKV.alloc _, by rw [bl_length]; omega, by rw [bl_length]; omega⟩, by simp only [st_size]; rw [st_size] at hz1; exact hz1⟩
            · rw [d2] at HG
              go_wp2
              refine ⟨⟨t.drop m, acc, line, rfl, by go_num, HG, own_keep2 hoV ((Keep.refl V).alloc _), hKV.alloc _, by rw [bl_length]; omega, by rw [bl_length]; omega⟩, by simp only [st_size]; rw [st_size] at hz1; exact hz1⟩
          · have ho : Lx.onto acc ⟨kk, kt, kn, kl⟩ line = acc ++ [⟨kk, kt, kn, line⟩] := if_neg (by simpa using hk)
            rw [ho] at HG
            clear ho
            have hrow : Row encT 4 ((V.alloc (.cells #[.int .i64 kk, .string kt, .int .i64 kn, .int .i64 (line : Int)] 49)).alloc (.cells #[.int .i64 kk, .string kt, .int .i64 kn, .int .i64 (line : Int)] 49)) ((V.alloc (.cells #[.int .i64 kk, .string kt, .int .i64 kn, .int .i64 (line : Int)] 49)).heap.size + 1) (some ⟨V.heap.size + 1, 0, none⟩) 1 [⟨kk, kt, kn, line⟩] := by
              have h := Row.new encT_len (V.alloc (.cells #[.int .i64 kk, .string kt, .int .i64 kn, .int .i64 (line : Int)] 49)) 49 [⟨kk, kt, kn, (line : Int)⟩] #[.int .i64 kk, .string kt, .int .i64 kn, .int .i64 (line : Int)] rfl
              have e : (V.alloc (.cells #[.int .i64 kk, .string kt, .int .i64 kn, .int .i64 (line : Int)] 49)).heap.size = V.heap.size + 1 := by simp
              rw [e] at h
              rw [e]
              exact h
            have HB2 := Lib.hid (((Below.refl w.heap.size V).alloc hszV (.cells #[.int .i64 kk, .string kt, .int .i64 kn, .int .i64 (line : Int)] 49)).alloc (by simp; omega) (.cells #[.int .i64 kk, .string kt, .int .i64 kn, .int .i64 (line : Int)] 49))
            rcases hnx with ⟨d1, d2⟩ | ⟨d1, d2⟩
            · rw [d2] at HG
              go_wp2_with (at_builtin; refine append_rows rfl _ _ 45 rfl w.heap.size 49 _ 40 Try.underlying45 info_tok rfl (by omega) encT_len encT_one _ acc.length acc rfl ((hoV.alloc _).alloc _) (by simp; omega) _ _ 1 1 [⟨kk, kt, kn, line⟩] rfl hrow (by unfold maxLen; omega) (by omega) ?_)
              intro v' w1 hown' hb1
              have hKw : Keep w w1 := Below.trans hKV (HB2.out.trans hb1)
              go_wp2
              refine ⟨⟨t.drop m, acc ++ [⟨kk, kt, kn, line⟩], line + 1, rfl, by go_num, HG, by rw [List.length_append]; exact hown', hKw, by rw [List.length_append, List.length_singleton, bl_length]; omega, by rw [bl_length]; omega⟩, by simp only [st_size]; rw [st_size] at hz1; exact hz1⟩
            · rw [d2] at HG
              go_wp2_with (at_builtin; refine append_rows rfl _ _ 45 rfl w.heap.size 49 _ 40 Try.underlying45 info_tok rfl (by omega) encT_len encT_one _ acc.length acc rfl ((hoV.alloc _).alloc _) (by simp; omega) _ _ 1 1 [⟨kk, kt, kn, line⟩] rfl hrow (by unfold maxLen; omega) (by omega) ?_)
              intro v' w1 hown' hb1
              have hKw : Keep w w1 := Below.trans hKV (HB2.out.trans hb1)
              go_wp2
              refine ⟨⟨t.drop m, acc ++ [⟨kk, kt, kn, line⟩], line, rfl, by go_num, HG, by rw [List.length_append]; exact hown', hKw, by rw [List.length_append, List.length_singleton, bl_length]; omega, by rw [bl_length]; omega⟩, by simp only [st_size]; rw [st_size] at hz1; exact hz1⟩
end Go.Proofs.Ytffojilbhpefbaa.Ref10
