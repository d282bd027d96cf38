/- The developers' lex: first and Split: the plain words of LxA. Conditions: texts at most a hundred thousand bytes. -/
import Derived.Test.YtffojilbhpefbaaLxG
import Derived.Test.YtffojilbhpefbaaGu2
namespace Go.Proofs.Ytffojilbhpefbaa.Lexs
set_option linter.unusedVariables false
open Go.ChangeShapes Go.WideShapes Go.ChangeAt Go.RowKit
open Lx (run low noLf)
open Gu (dig dgB getOk getN)
open Ref10 (encT encT_len encT_one info_tok RetToks sameT sameT_len sameT_at sameT_iff eqT guardT row_tok own_keep2 fresh_row valT slice_to first byte_eq)

theorem run_low (t : List UInt8) : run low t = run (fun c => kindC c == 1) t := by rw [show low = fun c => kindC c == 1 from funext fun c => kind_low]
theorem run_dig (t : List UInt8) : run dig t = run (fun c => kindC c == 2) t := by rw [show dig = fun c => kindC c == 2 from funext fun c => kind_dig]
/-- The token with which a text begins, by its kind. -/
theorem piece_kind (c : UInt8) (t : List UInt8) (hb : Lx.blank c = false) (h35 : c ≠ 35) :
    Lx.piece c t = if kindC c = 0 then none else if kindC c = 2 then (if getOk (c :: t.take (behind 2 t)) then some (behind 2 t, ⟨2, st (c :: t.take (behind 2 t)), getN (c :: t.take (behind 2 t)), 0⟩) else none)
      else some (behind (kindC c) t, ⟨kindC c, st (c :: t.take (behind (kindC c) t)), 0, 0⟩) := by
  have b1 : behind 1 t = run low t := (run_low t).symm
  have b2 : behind 2 t = run dig t := (run_dig t).symm
  have b3 : behind 3 t = 0 := rfl
  have b4 : behind 4 t = 0 := rfl
  have h5 : (c == 35) = false := beq_eq_false_iff_ne.2 h35
  unfold Lx.piece kindC
  rw [hb, h5]
  cases h1 : low c
  · cases h2 : dig c
    · cases h3 : Lx.mark c
      · cases h4 : (c == 45)
        · rfl
        · simp [b4]
      · simp [b3]
    · simp [b2]
  · simp [b1]
theorem piece_text {c : UInt8} {t : List UInt8} (hb : Lx.blank c = false) (h35 : c ≠ 35) {m : Nat} {k : TokP} (h : Lx.piece c t = some (m, k)) : k.text = st (c :: t.take m) ∧ k.kind ≠ 0 := by
  rw [piece_kind c t hb h35] at h
  by_cases h0 : kindC c = 0
  · rw [if_pos h0] at h; cases h
  · rw [if_neg h0] at h
    by_cases h2 : kindC c = 2
    · rw [if_pos h2] at h
      split at h
      · cases h; exact ⟨rfl, by show (2 : Int) ≠ 0; decide⟩
      · cases h
    · rw [if_neg h2] at h
      cases h; exact ⟨rfl, by show ((kindC c : Nat) : Int) ≠ 0; omega⟩
theorem behind_le (k : Nat) (t : List UInt8) : behind k t ≤ t.length := by
  unfold behind
  split
  · exact Lx.run_le _ _
  · omega
theorem kind_le (c : UInt8) : kindC c ≤ 4 := by
  unfold kindC
  repeat' split
  all_goals omega
theorem keep_drewN {a b : World} (h : Keep a b) (n : Nat) : Keep a (b.drewN n) := h.trans ((Quiet.refl b).drewN n).keep
/-- What first answers. -/
def RetFirst (x : Option (Nat × TokP)) (line : Int) (w : World) (e : Ending) (w' : World) : Prop :=
  (∃ k b, e = .returned (.tuple #[valT k, .bool b]) ∧ match x with | some (m, k') => k = Lx.at_ line k' ∧ b = true | none => b = false) ∧ Keep w w'
set_option maxHeartbeats 1000000 in
theorem first_none (s : ByteArray) (c : UInt8) (t : List UInt8) (h : bl s = c :: t) (line : Int) (w : World) (hs : s.size ≤ 100000) (hk : kindC c = 0) :
    Calls Try.prog 31 #[.string s, .int .i64 line] w (RetFirst none line w) := by
  have hlt := bl_length s
  rw [h, List.length_cons] at hlt
  have hx := idx (P := Try.prog) (k := .i64) s 0 Try.underlying9 (by omega) (by omega)
  rw [first s c t h] at hx
  have H1 := Lib.hid (fun W => kindOf_any c W)
  rw [hk] at H1
  clear hk h
  generalize (c.toNat : Int) = b at *
  go_enter Try.func31, Try.ntmps31
  go_wp2_with fail
  refine (H1.out _).mono ?_
  rintro e w1 ⟨rfl, rfl⟩
  have k0 := (Keep.refl w).alloc (.cells #[.int .i64 0, .string ⟨#[]⟩, .int .i64 0, .int .i64 0] 49)
  go_wp2
  (try simp only [Exit.inBlock, Exit.then])
  refine bodyPost_ret (v := .tuple #[valT Lx.none_, .bool false]) ?_ rfl ⟨⟨_, _, rfl, rfl⟩, ?_⟩
  · rw [results_cell_tmp rfl]
    go_simp
    rfl
  · repeat' (first | with_reducible exact Keep.refl _ | with_reducible refine keep_set ?_ _ ?_ _ | with_reducible refine Keep.alloc ?_ _ | with_reducible refine keep_drewN ?_ _ | exact Nat.le_refl _)
set_option maxHeartbeats 2000000 in
theorem first_plain (s : ByteArray) (c : UInt8) (t : List UInt8) (h : bl s = c :: t) (line : Int) (w : World) (hs : s.size ≤ 100000) (hk0 : kindC c ≠ 0) (hk2 : kindC c ≠ 2) (m : Nat) (hm : m = behind (kindC c) t) :
    Calls Try.prog 31 #[.string s, .int .i64 line] w (RetFirst (some (m, ⟨kindC c, st (c :: t.take m), 0, 0⟩)) line w) := by
  have hlt := bl_length s
  rw [h, List.length_cons] at hlt
  have hx := idx (P := Try.prog) (k := .i64) s 0 Try.underlying9 (by omega) (by omega)
  rw [first s c t h] at hx
  have H1 := Lib.hid (fun W => kindOf_any c W)
  have H2 := Lib.hid (fun W => size_any s c t h (kindC c) (by omega) (kind_le c) W (by omega))
  rw [← hm] at H2
  have hsl := slice_to s c t h m (by rw [hm]; exact behind_le _ t)
  have d1 : ((kindC c : Int) == 0) = false := by simp; omega
  have d2 : ((kindC c : Int) != 2) = true := by simp; omega
  generalize kindC c = k at *
  clear h hk0 hk2 hm
  obtain ⟨tx, htx⟩ : ∃ x, x = st (c :: t.take m) := ⟨_, rfl⟩
  rw [← htx] at hsl ⊢
  clear htx
  generalize (c.toNat : Int) = b at *
  go_enter Try.func31, Try.ntmps31
  go_wp2_with fail
  refine (H1.out _).mono ?_
  rintro e w1 ⟨rfl, rfl⟩
  have k0 := (Keep.refl w).alloc (.cells #[.int .i64 0, .string ⟨#[]⟩, .int .i64 0, .int .i64 0] 49)
  go_wp2_with fail
  refine (H2.out _).mono ?_
  rintro e w1 ⟨rfl, ⟨q, rfl⟩⟩
  go_wp2
  (try simp only [Exit.inBlock, Exit.then])
  refine bodyPost_ret (v := .tuple #[valT ⟨k, tx, 0, line⟩, .bool true]) ?_ rfl ⟨⟨_, _, rfl, rfl, rfl⟩, ?_⟩
  · rw [results_cell_tmp rfl]
    go_simp
    rfl
  · repeat' (first | with_reducible exact Keep.refl _ | with_reducible refine keep_set ?_ _ ?_ _ | with_reducible refine Keep.alloc ?_ _ | with_reducible refine keep_drewN ?_ _ | exact Nat.le_refl _)
set_option maxHeartbeats 2000000 in
theorem first_num (s : ByteArray) (c : UInt8) (t : List UInt8) (h : bl s = c :: t) (line : Int) (w : World) (hs : s.size ≤ 100000) (hk2 : kindC c = 2) (m : Nat) (hm : m = behind 2 t) :
    Calls Try.prog 31 #[.string s, .int .i64 line] w (RetFirst (if getOk (c :: t.take m) then some (m, ⟨2, st (c :: t.take m), getN (c :: t.take m), 0⟩) else none) line w) := by
  have hlt := bl_length s
  rw [h, List.length_cons] at hlt
  have hx := idx (P := Try.prog) (k := .i64) s 0 Try.underlying9 (by omega) (by omega)
  rw [first s c t h] at hx
  have H1 := Lib.hid (fun W => kindOf_any c W)
  rw [hk2] at H1
  have H2 := Lib.hid (fun W => size_any s c t h 2 (by omega) (by omega) W (by omega))
  rw [← hm] at H2
  have hmt : m ≤ t.length := by rw [hm]; exact behind_le _ t
  have hsl := slice_to s c t h m hmt
  have hts : (c :: t.take m).length ≤ 100000 := by simp; omega
  clear h hk2 hm hmt
  generalize c :: t.take m = l at *
  have H3 := Lib.hid (fun W => Guard.get_any (st l) W (by rw [st_size]; omega))
  rw [bl_st] at H3
  obtain ⟨v, hv⟩ : ∃ v, v = getN l := ⟨_, rfl⟩
  obtain ⟨ok, hok⟩ : ∃ v, v = getOk l := ⟨_, rfl⟩
  rw [← hv, ← hok] at H3 ⊢
  obtain ⟨r, hr⟩ : ∃ r : Option (Nat × TokP), r = if ok = true then some (m, ⟨2, st l, v, 0⟩) else none := ⟨_, rfl⟩
  rw [← hr]
  have HR := Lib.hid hr
  clear hv hok hts hr
  generalize (c.toNat : Int) = b at *
  go_enter Try.func31, Try.ntmps31
  go_wp2_with fail
  refine (H1.out _).mono ?_
  rintro e w1 ⟨rfl, rfl⟩
  go_wp2_with fail
  refine (H2.out _).mono ?_
  rintro e w1 ⟨rfl, ⟨q, rfl⟩⟩
  go_wp2_with fail
  refine (H3.out _).mono ?_
  rintro e V ⟨rfl, hV⟩
  have c0 : V.cell? ⟨w.heap.size, 0, none⟩ = some (.int .i64 0) := (Below.cell hV (by simp; omega)).trans (by go_simp)
  have c1 : V.cell? ⟨w.heap.size, 1, none⟩ = some (.string ⟨#[]⟩) := (Below.cell hV (by simp; omega)).trans (by go_simp)
  have c2 : V.cell? ⟨w.heap.size, 2, none⟩ = some (.int .i64 0) := (Below.cell hV (by simp; omega)).trans (by go_simp)
  have c3 : V.cell? ⟨w.heap.size, 3, none⟩ = some (.int .i64 0) := (Below.cell hV (by simp; omega)).trans (by go_simp)
  have hfr : ∀ j, V.frozen? ⟨w.heap.size, j, none⟩ = false := fun j => (Below.frozen hV (by simp; omega)).trans (by go_simp)
  have e0 : V.cell? ⟨w.heap.size + 1, 0, none⟩ = some (.int .i64 2) := (Below.cell hV (by simp)).trans (by go_simp)
  have e1 : V.cell? ⟨w.heap.size + 1, 1, none⟩ = some (.string (st l)) := (Below.cell hV (by simp)).trans (by go_simp)
  have e2 : V.cell? ⟨w.heap.size + 1, 2, none⟩ = some (.int .i64 0) := (Below.cell hV (by simp)).trans (by go_simp)
  have e3 : V.cell? ⟨w.heap.size + 1, 3, none⟩ = some (.int .i64 line) := (Below.cell hV (by simp)).trans (by go_simp)
  have hfs : ∀ j, V.frozen? ⟨w.heap.size + 1, j, none⟩ = false := fun j => (Below.frozen hV (by simp)).trans (by go_simp)
  have hKV : Keep w V := by
    refine Keep.trans ?_ hV
    repeat' (first | with_reducible exact Keep.refl _ | with_reducible refine keep_set ?_ _ ?_ _ | with_reducible refine Keep.alloc ?_ _ | with_reducible refine keep_drewN ?_ _ | exact Nat.le_refl _ | exact Nat.le_succ _)
  have hsz : w.heap.size + 1 < V.heap.size := by have := hV.size; simp at this; omega
  clear hV
  go_wp2
  (try simp only [Exit.inBlock, Exit.then])
  refine bodyPost_ret (v := .tuple #[valT ⟨2, st l, v, line⟩, .bool ok]) ?_ rfl ⟨⟨_, _, rfl, by rw [HR.out]; cases ok; exact rfl; exact ⟨rfl, rfl⟩⟩, ?_⟩
  · rw [results_cell_tmp rfl]
    go_simp
    rfl
  · repeat' (first | with_reducible exact hKV | with_reducible refine keep_set ?_ _ ?_ _ | with_reducible refine Keep.alloc ?_ _ | with_reducible refine keep_drewN ?_ _ | exact Nat.le_refl _ | exact Nat.le_succ _)
theorem first_any (s : ByteArray) (c : UInt8) (t : List UInt8) (h : bl s = c :: t) (line : Int) (w : World) (hs : s.size ≤ 100000) (hb : Lx.blank c = false) (h35 : c ≠ 35) :
    Calls Try.prog 31 #[.string s, .int .i64 line] w (RetFirst (Lx.piece c t) line w) := by
  rw [piece_kind c t hb h35]
  by_cases h0 : kindC c = 0
  · rw [if_pos h0]; exact first_none s c t h line w hs h0
  · rw [if_neg h0]
    by_cases h2 : kindC c = 2
    · rw [if_pos h2]; exact first_num s c t h line w hs h2 _ rfl
    · rw [if_neg h2]; exact first_plain s c t h line w hs h0 h2 _ rfl
section
variable {P : Program} {α : Type} {enc : α → List Value} {k : Nat}
/-- 'append(out, ys...)' with what it leaves: only out's own block, and new ones, turn. -/
theorem append_rows_g {ops : Array Oper} {rest : List Oper} {o : Oper} {a : Act} {Q : Exit → Act → World → Prop} {w : World} (hgd : o.guard = none) (s x : Operand) (t : TypeId)
    (ho : o.op = .call { callee := .builtin .append, args := #[s, x], argTypes := #[t, t] })
    (base : Nat) (e : TypeId) (z : Value) (bytes : Nat) (ht : P.underlying t = some (.slice e)) (hinfo : (P.info? e).map (fun i => (i.zero, i.size, i.bytes)) = some (some z, k, bytes))
    (hzs : z.cells.size = k) (h0 : 0 < k) (hk : ∀ x, (enc x).length = k) (h1 : ∀ x, ∀ v ∈ enc x, v.oneCell' = true)
    (v : Value) (n : Nat) (xs : List α) (hs : a.eval s = v) (hown : w.ownsRow base e k v n (flat enc xs)) (hbase : base ≤ w.heap.size)
    (B : Nat) (A : Option Addr) (m c : Nat) (ys : List α) (hx : a.eval x = .slice A m c) (hA : Row enc k w B A m ys)
    (h63 : n + m ≤ maxLen) (hbytes : (n + m) * bytes ≤ 140737488355328)
    (h : ∀ v' w', w'.ownsRow base e k v' (n + m) (flat enc (xs ++ ys)) → Below base w w' → w.grownBy w' v.ownBlock → wpList P ops Q rest (a.put o.dst v') w') : wpList P ops Q (o :: rest) a w :=
  wpList_plain hgd fun K hK =>
    wp_append_rows s x t ho base e z bytes ht hinfo hzs h0 hk h1 v n xs hs hown hbase B A m c ys hx hA h63 hbytes fun v' w' a b _ => hK _ _ (h v' w' a ((Below.refl base w).grown b hbase fun k hk => (hown.lt k hk).1) b)
end
def SplitRel (w : World) (s : List UInt8) (sv out lv : Value) (wr : World) : Prop :=
  ∃ (r : List UInt8) (acc : List TokP) (line : Nat), sv = .string (st r) ∧ lv = .int .i64 line ∧ Hid (Lx.go s 1 = (Lx.go r line).map (acc ++ ·)) ∧ wr.ownsRow w.heap.size 49 4 out acc.length (flat encT acc) ∧ Keep w wr ∧ acc.length + r.length ≤ s.length ∧ line + r.length ≤ s.length + 1
theorem feeds_le (l : List UInt8) : Lx.feeds l ≤ l.length := List.countP_le_length
theorem slice_h (l : List UInt8) (n : Nat) (hn : n ≤ l.length) (W : World) : (Instr.slice 9 (.string (st l)) none (some (.int .i64 (n : Int))) none).run Try.prog W = .ok (.string (st (l.take n))) W := by
  have h := run_slice_string_h (P := Try.prog) (w := W) (t := 9) (s := st l) Try.underlying9 .i64 (n : Int) (by omega) (by rw [st_size]; omega)
  rw [h, show (n : Int).toNat = n from by omega, Lib.extract_eq]; rfl
theorem slice_l (l : List UInt8) (n : Nat) (hn : n ≤ l.length) (W : World) : (Instr.slice 9 (.string (st l)) (some (.int .i64 (n : Int))) none none).run Try.prog W = .ok (.string (st (l.drop n))) W := by
  have h := run_slice_string_l (P := Try.prog) (w := W) (t := 9) (s := st l) Try.underlying9 .i64 (n : Int) (by omega) (by rw [st_size]; omega)
  rw [h, show (n : Int).toNat = n from by omega, Lib.extract_eq]
  show Result.ok (Value.string (st ((l.drop n).take _))) W = _
  rw [List.take_of_length_le (by rw [st_size, List.length_drop]; omega)]
/-- What Split answers, and its slice's room. -/
def RetToksC (x : List TokP × Int × Int) (w : World) (e : Ending) (w' : World) : Prop :=
  ∃ A n c, e = .returned (.tuple #[.slice A n c, .int .i64 x.2.1, .int .i64 x.2.2]) ∧ Row encT 4 w' w'.heap.size A n x.1 ∧ Keep w w' ∧ Fresh w A n ∧ n ≤ c ∧ c ≤ maxLen
set_option maxHeartbeats 4000000 in
theorem split_cap (s : ByteArray) (w : World) (hm : s.size ≤ maxLen) :
    Calls Try.prog 18 #[.string s] w (RetToksC (Lx.split (bl s)) w) := by
  by_cases hl : 4096 < s.size
  · have HS := Lib.hid (show Lx.split (bl s) = ([], 0, 9) by rw [Lx.split, bl_length, if_pos hl])
    have d : (s.size : Int) > 4096 := by omega
    go_enter Try.func18, Try.ntmps18
    go_wp2
    (try simp only [Exit.inBlock, Exit.then])
    refine bodyPost_ret (results_tmp3 rfl _ _ _) rfl ⟨none, 0, 0, by rw [HS.out]; rfl, by rw [HS.out]; exact Row.none_ _ _ _, Keep.refl _, fun h => absurd h (by omega), Nat.le_refl _, Nat.zero_le _⟩
  · have hs : s.size ≤ 100000 := by omega
    have HS := Lib.hid (show Lx.split (bl s) = match Lx.go (bl s) 1 with | .ok r => (r, 0, 0) | .error e => ([], e, 6) by rw [Lx.split, bl_length, if_neg hl]; cases Lx.go (bl s) 1 <;> rfl)
    have d : ¬ (s.size : Int) > 4096 := by omega
    go_enter Try.func18, Try.ntmps18
    go_wp2
    go_loopw [0, 5, 6] (fun sv out lv wr => SplitRel w (bl s) sv out lv wr) (fun sv _ _ _ => match sv with | .string x => x.size | _ => 0)
    case atStart => exact ⟨bl s, [], 1, rfl, rfl, Lib.hid (by cases Lx.go (bl s) 1 <;> rfl), ⟨rfl, .inl ⟨rfl, rfl⟩⟩, Keep.refl _, by simp, by omega⟩
    case round =>
      obtain ⟨r, acc, line, rfl, rfl, hg, hown, hK, hal, hll⟩ := hrel
      rw [bl_length] at hal hll
      obtain ⟨OA, oc, rfl⟩ := own_slice hown
      obtain ⟨n, hn⟩ : ∃ n, n = gap false r := ⟨_, rfl⟩
      have hnr : n ≤ r.length := by rw [hn]; exact gap_le _ _
      have H1 := Lib.hid (fun W => gapSize_any (st r) W (by rw [st_size]; omega))
      rw [bl_st, ← hn] at H1
      have hs1 := slice_h r n hnr
      have hs2 := slice_l r n hnr
      have H2 := Lib.hid (fun W => count_any (st (r.take n)) W)
      rw [bl_st] at H2
      have hfe := feeds_le (r.take n)
      rw [List.length_take] at hfe
      have hgo := (go_gap r line).1
      have hstop := gap_stop false r
      rw [← hn] at hgo hstop
      have hdl : (r.drop n).length = r.length - n := List.length_drop
      have hsr : (st r).size = r.length := st_size r
      have HG := Lib.hid (hg.out.trans (congrArg (fun x => x.map (acc ++ ·)) hgo))
      clear hg hgo hn
      generalize Lx.feeds (r.take n) = f at *
      generalize r.take n = r1 at *
      obtain ⟨r2, hr2⟩ : ∃ r2, r2 = r.drop n := ⟨_, rfl⟩
      rw [← hr2] at hs2 hdl HG hstop
      clear hr2
      have HZ := Lib.hid (show r2.length ≤ r.length ∧ f ≤ n ∧ r2.length + n = r.length by omega)
      have hal2 : acc.length + r2.length ≤ s.size := by omega
      have hll2 : line + f + r2.length ≤ s.size + 1 := by omega
      clear hnr hfe hdl hal hll
      match r2 with
      | [] =>
        have HE := Lib.hid (show Lx.split (bl s) = (acc, 0, 0) by rw [HS.out, HG.out, Lx.go_nil]; show (acc ++ [], _, _) = _; rw [List.append_nil])
        have hz : ((st []).toList == []) = true := by rw [Str.toList_eq]; rfl
        clear hstop
        go_wp2_with fail
        refine (H1.out _).mono ?_
        rintro e V ⟨rfl, hV⟩
        go_wp2_with fail
        refine (H2.out _).mono ?_
        rintro e V1 ⟨rfl, rfl⟩
        have hoV := own_keep2 hown hV.keep
        have hKV := hK.trans hV.keep
        go_wp2
        (try simp only [Exit.inBlock, Exit.then])
        refine bodyPost_ret (results_tmp3 rfl _ _ _) rfl ⟨OA, acc.length, oc, by rw [HE.out]; rfl, by rw [HE.out]; exact Row.of_own encT_len hoV (by omega), hKV, fresh_row hoV (Nat.le_refl _), own_le hoV⟩
      | c :: t =>
        obtain ⟨hb, h35⟩ := hstop c t rfl
        have hz : ((st (c :: t)).toList == []) = false := by rw [Str.toList_eq]; rfl
        rw [List.length_cons] at hal2 hll2
        have hsz2 : (st (c :: t)).size ≤ 100000 := by rw [st_size, List.length_cons]; omega
        have H3 := Lib.hid (fun W => first_any (st (c :: t)) c t rfl ((line : Int) + f) W hsz2 hb h35)
        clear hstop
        go_wp2_with fail
        refine (H1.out _).mono ?_
        rintro e V ⟨rfl, hV⟩
        go_wp2_with fail
        refine (H2.out _).mono ?_
        rintro e V1 ⟨rfl, rfl⟩
        have hoV := own_keep2 hown hV.keep
        have hKV := hK.trans hV.keep
        clear hown hK hV
        go_wp2_with fail
        refine (H3.out _).mono ?_
        rintro e V1 ⟨⟨⟨kk, kt, kn, kl⟩, b, rfl, hm⟩, hV1⟩
        replace hoV := own_keep2 hoV hV1
        replace hKV := hKV.trans hV1
        clear hV1 H1 H2 H3 hs1 hs2
        unfold valT
        cases hp : Lx.piece c t with
        | none =>
          rw [hp] at hm
          subst hm
          have HE := Lib.hid (show Lx.split (bl s) = ([], (line : Int) + f, 6) by rw [HS.out, HG.out, Lx.go_none hp]; rfl)
          go_wp2
          (try simp only [Exit.inBlock, Exit.then])
          refine bodyPost_ret (results_tmp3 rfl _ _ _) rfl ⟨none, 0, 0, by rw [HE.out]; rfl, by rw [HE.out]; exact Row.none_ _ _ _, hKV.alloc _, fun h => absurd h (by omega), Nat.le_refl _, Nat.zero_le _⟩
        | some x =>
          obtain ⟨m, ⟨q0, q1, q2, q3⟩⟩ := x
          rw [hp] at hm
          obtain ⟨hm, rfl⟩ := hm
          simp only [Lx.at_, TokP.mk.injEq] at hm
          obtain ⟨rfl, rfl, rfl, rfl⟩ := hm
          have hml := Lx.piece_len hp
          obtain ⟨ht1, ht2⟩ := piece_text hb h35 hp
          simp only at ht1 ht2
          have hon := Lx.go_onto hp ((line : Int) + f) acc
          have hnx : Lx.next c ((line : Int) + f) = (line : Int) + f := by
            unfold Lx.next
            rw [if_neg]
            rintro rfl
            exact absurd hb (by decide)
          rw [show Lx.onto acc ⟨kk, kt, kn, q3⟩ ((line : Int) + f) = acc ++ [⟨kk, kt, kn, (line : Int) + f⟩] from if_neg ht2, hnx] at hon
          have HF := Lib.hid (HG.out.trans hon)
          have hks : (kt.size : Int) = (m : Int) + 1 := by
            rw [ht1, st_size, List.length_cons, List.length_take, Nat.min_eq_left hml]; omega
          have hsl : ∀ W : World, (Instr.slice 9 (.string (st (c :: t))) (some (.int .i64 ((m : Int) + 1))) none none).run Try.prog W = .ok (.string (st (t.drop m))) W := fun W => by
            have := slice_l (c :: t) (m + 1) (by rw [List.length_cons]; omega) W
            rw [List.drop_succ_cons, show ((m + 1 : Nat) : Int) = (m : Int) + 1 by omega] at this
            exact this
          have hdl := List.length_drop (i := m) (l := t)
          have hZ2 := HZ.out
          rw [List.length_cons] at hZ2
          have HM := Lib.hid (show (t.drop m).length < r.length ∧ (acc.length + 1) + (t.drop m).length ≤ s.size ∧ line + f + (t.drop m).length ≤ s.size + 1 by omega)
          have hac : acc.length ≤ 100000 := by omega
          have hlt := fun k hk => (hoV.lt k hk).2
          have hszV : w.heap.size ≤ V1.heap.size := hKV.size
          clear hon hnx ht1 ht2 hml hp hdl hZ2 hal2 hll2 HZ HG hb h35 hz hsz2
          generalize t.drop m = t2 at *
          have hrow : Row encT 4 ((V1.alloc (.cells #[.int .i64 kk, .string kt, .int .i64 kn, .int .i64 ((line : Int) + f)] 49)).alloc (.cells #[.int .i64 kk, .string kt, .int .i64 kn, .int .i64 ((line : Int) + f)] 49)) ((V1.alloc (.cells #[.int .i64 kk, .string kt, .int .i64 kn, .int .i64 ((line : Int) + f)] 49)).heap.size + 1) (some ⟨V1.heap.size + 1, 0, none⟩) 1 [⟨kk, kt, kn, (line : Int) + f⟩] := by
            have h := Row.new encT_len (V1.alloc (.cells #[.int .i64 kk, .string kt, .int .i64 kn, .int .i64 ((line : Int) + f)] 49)) 49 [⟨kk, kt, kn, (line : Int) + f⟩] #[.int .i64 kk, .string kt, .int .i64 kn, .int .i64 ((line : Int) + f)] rfl
            have e : (V1.alloc (.cells #[.int .i64 kk, .string kt, .int .i64 kn, .int .i64 ((line : Int) + f)] 49)).heap.size = V1.heap.size + 1 := by simp
            rw [e] at h
            rw [e]
            exact h
          have HB2 := Lib.hid (((Below.refl w.heap.size V1).alloc hszV (.cells #[.int .i64 kk, .string kt, .int .i64 kn, .int .i64 ((line : Int) + f)] 49)).alloc (by simp; omega) (.cells #[.int .i64 kk, .string kt, .int .i64 kn, .int .i64 ((line : Int) + f)] 49))
          go_wp2_with (at_builtin; refine append_rows_g rfl _ _ 45 rfl w.heap.size 49 _ 40 Try.underlying45 info_tok rfl (by omega) encT_len encT_one _ acc.length acc rfl ((hoV.alloc _).alloc _) (by simp; omega) _ _ 1 1 [⟨kk, kt, kn, (line : Int) + f⟩] rfl hrow (by unfold maxLen; omega) (by omega) ?_)
          intro v' w1 hown' hb1 hgr
          have hKw : Keep w w1 := Below.trans hKV (HB2.out.trans hb1)
          have hbox : w1.cell? ⟨V1.heap.size, 1, none⟩ = some (.string kt) := (World.cell?_of_block (hgr.block V1.heap.size (by simp; omega) (fun e => by have := hlt _ e.symm; omega))).trans (by go_simp)
          clear hgr hb1 hrow HB2
          go_wp2
          refine ⟨⟨t2, acc ++ [⟨kk, kt, kn, (line : Int) + f⟩], line + f, rfl, by go_num, Lib.hid (by rw [HF.out]; rfl), by rw [List.length_append]; exact hown', hKw, by rw [List.length_append, List.length_singleton, bl_length]; exact HM.out.2.1, by rw [bl_length]; exact HM.out.2.2⟩, ?_⟩
          simp only [st_size]
          exact HM.out.1
theorem split_any (s : ByteArray) (w : World) (hs : s.size ≤ 100000) :
    Calls Try.prog 18 #[.string s] w (RetToks (Lx.split (bl s)) w) :=
  (split_cap s w (by unfold maxLen; omega)).mono fun e w' ⟨A, n, c, h1, h2, h3, h4, _⟩ => ⟨A, n, c, h1, h2, h3, h4⟩
end Go.Proofs.Ytffojilbhpefbaa.Lexs
