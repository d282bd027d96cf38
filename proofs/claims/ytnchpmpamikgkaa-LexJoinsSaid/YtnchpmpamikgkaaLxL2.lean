/- Layer 10's law LexJoins. Conditions: none beyond the law's own. -/
import Derived.Test.YtnchpmpamikgkaaLxL
import Derived.Test.YtnchpmpamikgkaaRow2
import Derived.Deep.RegionHeld3
namespace Go.Proofs.Ytnchpmpamikgkaa.Lexs
set_option linter.unusedVariables false
open Go.ChangeShapes Go.WideShapes Go.ChangeAt Go.RowKit
open Ref10 (encT encT_len encT_one info_tok RetToks sameT sameT_self eqT guardT row_tok own_keep2)

/-- What the three answers are to one another. -/
theorem joins_words (s t : List UInt8) (hs : s.length ≤ 1000) (ht : t.length ≤ 1000) :
    (∃ e, Lx.split s = ([], e, 6) ∧ Lx.split (s ++ 10 :: t) = ([], e, 6)) ∨
    (∃ r e, Lx.split s = (r, 0, 0) ∧ Lx.split t = ([], e, 6) ∧ Lx.split (s ++ 10 :: t) = ([], e + ((Lx.feeds s + 1 : Nat) : Int), 6)) ∨
    (∃ r q, Lx.split s = (r, 0, 0) ∧ Lx.split t = (q, 0, 0) ∧ Lx.split (s ++ 10 :: t) = (r ++ q.map (Lx.later ((Lx.feeds s + 1 : Nat) : Int)), 0, 0)) := by
  have h1 : ¬ 4096 < s.length := by omega
  have h2 : ¬ 4096 < t.length := by omega
  have h3 : ¬ 4096 < (s ++ 10 :: t).length := by simp; omega
  have hj := Lx.go_joins t _ s 1 (Nat.le_refl _)
  have hl := Lx.go_later ((Lx.feeds s + 1 : Nat) : Int) _ t 1 (Nat.le_refl _)
  rw [show 1 + (Lx.feeds s : Int) + 1 = 1 + ((Lx.feeds s + 1 : Nat) : Int) by omega, hl] at hj
  unfold Lx.split
  rw [if_neg h1, if_neg h2, if_neg h3, hj]
  cases hg : Lx.go s 1 with
  | error e => exact .inl ⟨e, rfl, rfl⟩
  | ok r =>
    cases hk : Lx.go t 1 with
    | error e => exact .inr (.inl ⟨r, e, rfl, rfl, rfl⟩)
    | ok q => exact .inr (.inr ⟨r, q, rfl, rfl, rfl⟩)
theorem feeds_take (s : ByteArray) (k : Nat) (h : k < s.size) : Lx.feeds ((bl s).take (k + 1)) = Lx.feeds ((bl s).take k) + (if byteAt s (k : Int) = 10 then 1 else 0) := by
  have hk : k < (bl s).length := by rw [bl_length]; exact h
  rw [List.take_succ_eq_append_getElem hk, Lx.feeds_app]
  have e : byteAt s (k : Int) = ((bl s)[k].toNat : Int) := by
    unfold byteAt
    rw [show (k : Int).toNat = k from by omega, List.getD_eq_getElem?_getD, List.getElem?_eq_getElem hk]; rfl
  rw [e]
  by_cases hc : (bl s)[k] = 10
  · rw [hc]; rfl
  · have : ¬ (((bl s)[k].toNat : Int) = 10) := fun h => hc (UInt8.toNat_inj.1 (by have : (10 : UInt8).toNat = 10 := rfl; omega))
    rw [if_neg this]
    simp [Lx.feeds, hc]
def LinesRel (s : ByteArray) (w : World) (lv iv : Value) (wr : World) : Prop :=
  ∃ k : Nat, k ≤ s.size ∧ iv = .int .i64 k ∧ lv = .int .i64 ((Lx.feeds ((bl s).take k) + 1 : Nat) : Int) ∧ Quiet w wr
def JoinRel (w : World) (r q : List TokP) (d : Int) (n : Nat) (av iv : Value) (wr : World) : Prop :=
  ∃ (k : Nat) (A : Option Addr) (c : Nat), k ≤ n ∧ iv = .int .i64 k ∧ av = .slice A (r.length + k) c ∧ Row encT 4 wr wr.heap.size A (r.length + k) (r ++ (q.take k).map (Lx.later d)) ∧ Keep w wr
theorem later_take (q : List TokP) (d : Int) (k : Nat) (h : k < q.length) : (q.take (k + 1)).map (Lx.later d) = (q.take k).map (Lx.later d) ++ [Lx.later d (q.getD k Lx.none_)] := by
  rw [List.take_succ_eq_append_getElem h, List.map_append, List.map_singleton, List.getD_eq_getElem?_getD, List.getElem?_eq_getElem h]; rfl
/-- Lines of tokens are small. -/
theorem go_lines : ∀ (n : Nat) (l : List UInt8) (line : Int) (r : List TokP), l.length ≤ n → Lx.go l line = .ok r → ∀ k ∈ r, line ≤ k.line ∧ k.line ≤ line + l.length := by
  intro n
  induction n with
  | zero => intro l line r h hr; rw [List.eq_nil_of_length_eq_zero (Nat.le_zero.1 h), Lx.go_nil] at hr; cases hr; intro k hk; cases hk
  | succ n ih =>
    intro l line r h hr
    match l with
    | [] => rw [Lx.go_nil] at hr; cases hr; intro k hk; cases hk
    | c :: t =>
      cases hp : Lx.piece c t with
      | none => rw [Lx.go_none hp] at hr; cases hr
      | some x =>
        obtain ⟨m, k⟩ := x
        rw [Lx.go_some hp] at hr
        cases hg : Lx.go (t.drop m) (Lx.next c line) with
        | error e => rw [hg] at hr; cases hr
        | ok q =>
          rw [hg] at hr
          obtain rfl : Lx.put k line q = r := by injection hr
          have hq := ih _ _ q (by simp at h ⊢; omega) hg
          have hn : line ≤ Lx.next c line ∧ Lx.next c line ≤ line + 1 := by unfold Lx.next; split <;> omega
          have hd := List.length_drop (i := m) (l := t)
          intro x hx
          have hc : ((c :: t).length : Int) = t.length + 1 := by simp
          unfold Lx.put at hx
          by_cases hk : k.kind = 0
          · rw [if_pos hk] at hx
            have := hq x hx
            omega
          · rw [if_neg hk, List.mem_cons] at hx
            rcases hx with rfl | hx
            · simp only; omega
            · have := hq x hx
              omega
theorem split_lines {l : List UInt8} {r : List TokP} (h : Lx.split l = (r, 0, 0)) : ∀ k ∈ r, 1 ≤ k.line ∧ k.line ≤ 4097 := by
  unfold Lx.split at h
  by_cases h1 : 4096 < l.length
  · rw [if_pos h1] at h; cases h
  · rw [if_neg h1] at h
    cases hg : Lx.go l 1 with
    | error e => rw [hg] at h; cases h
    | ok q =>
      rw [hg] at h
      cases h
      intro k hk
      have := go_lines _ l 1 _ (Nat.le_refl _) hg k hk
      omega
theorem go_err : ∀ (n : Nat) (l : List UInt8) (line e : Int), l.length ≤ n → Lx.go l line = .error e → line ≤ e ∧ e ≤ line + l.length := by
  intro n
  induction n with
  | zero => intro l line e h hr; rw [List.eq_nil_of_length_eq_zero (Nat.le_zero.1 h), Lx.go_nil] at hr; cases hr
  | succ n ih =>
    intro l line e h hr
    match l with
    | [] => rw [Lx.go_nil] at hr; cases hr
    | c :: t =>
      have hc : ((c :: t).length : Int) = t.length + 1 := by simp
      cases hp : Lx.piece c t with
      | none =>
        rw [Lx.go_none hp] at hr
        injection hr with hr
        omega
      | some x =>
        obtain ⟨m, k⟩ := x
        rw [Lx.go_some hp] at hr
        cases hg : Lx.go (t.drop m) (Lx.next c line) with
        | ok q => rw [hg] at hr; cases hr
        | error e' =>
          rw [hg] at hr
          obtain rfl : e' = e := by injection hr
          have := ih _ _ _ (by simp at h ⊢; omega) hg
          have hn : line ≤ Lx.next c line ∧ Lx.next c line ≤ line + 1 := by unfold Lx.next; split <;> omega
          have hd := List.length_drop (i := m) (l := t)
          omega
theorem split_err {l : List UInt8} {e : Int} (h : Lx.split l = ([], e, 6)) : 1 ≤ e ∧ e ≤ 1 + l.length := by
  unfold Lx.split at h
  by_cases h1 : 4096 < l.length
  · rw [if_pos h1] at h; cases h
  · rw [if_neg h1] at h
    cases hg : Lx.go l 1 with
    | ok r => rw [hg] at h; cases h
    | error e' =>
      rw [hg] at h
      obtain rfl : e' = e := by simpa using h
      exact go_err _ l 1 _ (Nat.le_refl _) hg
set_option maxHeartbeats 4000000 in
theorem joins_any (s t : ByteArray) (w : World) (hs : s.size ≤ maxLen) (ht : t.size ≤ maxLen) :
    Calls Try.prog 4 #[.string s, .string t] w fun e w' => e = .returned (.bool true) ∧ Keep w w' := by
  unfold maxLen at hs ht
  by_cases h1 : (s.size : Int) > 1000
  · go_enter Try.func4, Try.ntmps4
    go_wp2_with fail
    refine (awake_any _).mono ?_
    rintro e w1 ⟨rfl, k1⟩
    go_wp2
    go_ret
    exact ⟨rfl, k1⟩
  by_cases h2 : (t.size : Int) > 1000
  · go_enter Try.func4, Try.ntmps4
    go_wp2_with fail
    refine (awake_any _).mono ?_
    rintro e w1 ⟨rfl, k1⟩
    go_wp2
    go_ret
    exact ⟨rfl, k1⟩
  have HC := Lib.hid (joins_words (bl s) (bl t) (by rw [bl_length]; omega) (by rw [bl_length]; omega))
  obtain ⟨⟨xs, l1, e1⟩, hx⟩ : ∃ x, x = Lx.split (bl s) := ⟨_, rfl⟩
  obtain ⟨⟨ys, l2, e2⟩, hy⟩ : ∃ x, x = Lx.split (bl t) := ⟨_, rfl⟩
  obtain ⟨⟨zs, l3, e3⟩, hz⟩ : ∃ x, x = Lx.split (bl s ++ 10 :: bl t) := ⟨_, rfl⟩
  have HX := Lib.hid hx
  have HY := Lib.hid hy
  have HZ := Lib.hid hz
  have HLX := Lib.hid (show xs.length ≤ 4096 by have h := split_len (bl s); rwa [← hx] at h)
  have HLY := Lib.hid (show ys.length ≤ 4096 by have h := split_len (bl t); rwa [← hy] at h)
  have HLZ := Lib.hid (show zs.length ≤ 4096 by have h := split_len (bl s ++ 10 :: bl t); rwa [← hz] at h)
  clear hx hy hz
  obtain ⟨u1, hu1⟩ : ∃ u, u = st (bl s ++ [10]) := ⟨_, rfl⟩
  obtain ⟨u, hu⟩ : ∃ u, u = st (bl s ++ 10 :: bl t) := ⟨_, rfl⟩
  have a1 : ∀ W : World, (Op.stringOp .add s ⟨#[10]⟩).run Try.prog W = .ok (.string u1) W := fun W => by
    have h := add_st (P := Try.prog) (bl s) [10] (by rw [bl_length]; simp; omega) W
    rw [hu1, ← h, st_bl]; rfl
  have a2 : ∀ W : World, (Op.stringOp .add u1 t).run Try.prog W = .ok (.string u) W := fun W => by
    have h := add_st (P := Try.prog) (bl s ++ [10]) (bl t) (by rw [List.length_append, bl_length, bl_length]; simp; omega) W
    rw [hu1, hu, show bl s ++ 10 :: bl t = (bl s ++ [10]) ++ bl t by simp, ← h, st_bl]
  have HSZ := Lib.hid (show u.size ≤ 100000 by rw [hu, st_size, List.length_append, List.length_cons, bl_length, bl_length]; omega)
  have HU := Lib.hid (show bl u = bl s ++ 10 :: bl t by rw [hu]; rfl)
  clear hu hu1
  go_enter Try.func4, Try.ntmps4
  go_wp2_with fail
  refine (split_any s _ (by omega)).mono ?_
  rw [← HX.out]
  rintro e w1 ⟨A1, n1, c1, rfl, i1, k1, _⟩
  go_wp2_with fail
  refine (split_any t _ (by omega)).mono ?_
  rw [← HY.out]
  rintro e w2 ⟨A2, n2, c2, rfl, i2, k2, _⟩
  replace i1 := i1.kept k2
  go_wp2_with fail
  refine (split_any u _ HSZ.out).mono ?_
  rw [HU.out, ← HZ.out]
  rintro e w3 ⟨A3, n3, c3, rfl, i3, k3, _⟩
  simp only at i1 i2 i3
  replace i1 := i1.kept k3
  replace i2 := i2.kept k3
  have K := (k1.trans k2).trans k3
  clear k1 k2 k3
  go_wp2
  go_loopw [14, 15] (fun lv iv wr => LinesRel s w3 lv iv wr) (fun _ iv _ => s.size - (intOf iv).toNat)
  case atStart => exact ⟨0, Nat.zero_le _, rfl, rfl, Quiet.refl _⟩
  case round =>
    obtain ⟨k, hk, rfl, rfl, hq⟩ := hrel
    by_cases hlt : k < s.size
    · have hxk := idx (P := Try.prog) (k := .i64) s (k : Int) Try.underlying9 (by omega) (by omega)
      have hi1 : (k : Int) < s.size := by omega
      have hft := feeds_take s k hlt
      have hfl : Lx.feeds ((bl s).take k) ≤ k := by
        have := List.countP_le_length (p := (· == 10)) (l := (bl s).take k)
        rw [List.length_take] at this
        unfold Lx.feeds
        omega
      generalize Lx.feeds ((bl s).take k) = f0 at *
      have hb : byteAt s (k : Int) = 10 ∨ byteAt s (k : Int) ≠ 10 := by omega
      generalize byteAt s (k : Int) = b at *
      rcases hb with hb | hb
      · subst hb
        have HF := Lib.hid hft
        clear hft
        go_wp2
        go_roundw
        case rel => exact ⟨k + 1, by omega, by go_num, by rw [HF.out]; go_num, hq⟩
        case measure => simp [intOf]; omega
      · have hb' : (b == 10) = false := by simpa using hb
        have HF := Lib.hid (show Lx.feeds ((bl s).take (k + 1)) = f0 by rw [hft, if_neg hb]; rfl)
        clear hft hb
        go_wp2
        go_roundw
        case rel => exact ⟨k + 1, by omega, by go_num, by rw [HF.out], hq⟩
        case measure => simp [intOf]; omega
    · obtain rfl : k = s.size := by omega
      have hfl : Lx.feeds ((bl s).take s.size) = Lx.feeds (bl s) := by rw [List.take_of_length_le (by rw [bl_length]; exact Nat.le_refl _)]
      have hft : Lx.feeds (bl s) ≤ s.size := by
        have := List.countP_le_length (p := (· == 10)) (l := bl s)
        rw [bl_length] at this
        exact this
      rw [hfl]
      clear hfl
      obtain ⟨m, hm⟩ : ∃ m : Nat, m = Lx.feeds (bl s) + 1 := ⟨_, rfl⟩
      have hC := HC.out
      rw [← HX.out, ← HY.out, ← HZ.out] at hC
      rw [← hm] at hC ⊢
      have hm1 : m ≤ 1001 := by omega
      clear hm hft
      have K := K.trans hq.keep
      replace i1 := i1.kept hq.keep
      replace i2 := i2.kept hq.keep
      replace i3 := i3.kept hq.keep
      clear hq
      rcases hC with ⟨e, hC1, hC3⟩ | ⟨r, e, hC1, hC2, hC3⟩ | ⟨r, q, hC1, hC2, hC3⟩
      · obtain ⟨rfl, rfl, rfl⟩ : xs = [] ∧ l1 = e ∧ e1 = 6 := by simpa using hC1
        obtain ⟨rfl, rfl, rfl⟩ : zs = [] ∧ l3 = l1 ∧ e3 = 6 := by simpa using hC3
        go_wp2_with fail
        refine (awake_any _).mono ?_
        rintro e w4 ⟨rfl, k4⟩
        go_wp2
        go_ret
        exact ⟨rfl, K.trans k4⟩
      · obtain ⟨rfl, rfl, rfl⟩ : xs = r ∧ l1 = 0 ∧ e1 = 0 := by simpa using hC1
        obtain ⟨rfl, rfl, rfl⟩ : ys = [] ∧ l2 = e ∧ e2 = 6 := by simpa using hC2
        obtain ⟨rfl, rfl, rfl⟩ : zs = [] ∧ l3 = l2 + (m : Int) ∧ e3 = 6 := by simpa using hC3
        obtain rfl : 0 = n3 := i3.1
        have hl2 := split_err HY.out.symm
        rw [bl_length] at hl2
        go_wp2_with fail
        refine (awake_any _).mono ?_
        rintro e w4 ⟨rfl, k4⟩
        go_wp2
        go_ret
        exact ⟨rfl, K.trans k4⟩
      · obtain ⟨rfl, rfl, rfl⟩ : xs = r ∧ l1 = 0 ∧ e1 = 0 := by simpa using hC1
        obtain ⟨rfl, rfl, rfl⟩ : ys = q ∧ l2 = 0 ∧ e2 = 0 := by simpa using hC2
        obtain ⟨rfl, rfl, rfl⟩ : zs = xs ++ ys.map (Lx.later (m : Int)) ∧ l3 = 0 ∧ e3 = 0 := by simpa using hC3
        have HLN := Lib.hid (split_lines HY.out.symm)
        obtain rfl : xs.length = n1 := i1.1
        obtain rfl : ys.length = n2 := i2.1
        obtain ⟨Y, hY⟩ : ∃ Y, Y = wr := ⟨_, rfl⟩
        rw [← hY] at K i1 i2 i3
        have hn1 := HLX.out
        have hn2 := HLY.out
        go_wp2
        go_loopw [5, 16, 17] (fun av iv _ wr => JoinRel Y xs ys (m : Int) ys.length av iv wr) (fun _ iv _ _ => ys.length - (intOf iv).toNat)
        case atStart => exact ⟨0, A1, c1, Nat.zero_le _, rfl, rfl, by subst hY; simpa using i1, by subst hY; exact Keep.refl _⟩
        case round =>
          obtain ⟨k, A, c, hk, rfl, rfl, hrow, hkY⟩ := hrel
          by_cases hlt : k < ys.length
          · have hi1 : (k : Int) < ys.length := by omega
            have i2w := i2.kept hkY
            obtain ⟨b, off, rfl, hbb⟩ := i2w.addr (by omega)
            obtain ⟨_, x0, x1, x2, x3⟩ := row_tok i2w k hlt
            have hmem : ys.getD k Lx.none_ ∈ ys := by rw [List.getD_eq_getElem?_getD, List.getElem?_eq_getElem hlt]; exact List.getElem_mem _
            have hln := HLN.out _ hmem
            have HTK := Lib.hid (later_take ys (m : Int) k hlt)
            obtain ⟨⟨tk, tt, tn, tl⟩, htok⟩ : ∃ x, x = ys.getD k Lx.none_ := ⟨_, rfl⟩
            rw [← htok] at x0 x1 x2 x3 hln HTK
            simp only at x0 x1 x2 x3 hln
            clear htok hmem
            go_wp2
            obtain ⟨X, hX⟩ : ∃ X, X = wr.alloc (.cells #[.int .i64 tk, .string tt, .int .i64 tn, .int .i64 (tl + (m : Int))] 30) := ⟨_, rfl⟩
            rw [← hX]
            have hkX : Keep wr X := by rw [hX]; exact (Keep.refl _).alloc _
            have hXs : wr.heap.size < X.heap.size := by rw [hX]; simp
            have hcX : X.cell? ⟨wr.heap.size, 0, none⟩ = some (.int .i64 tk) ∧ X.cell? ⟨wr.heap.size, 1, none⟩ = some (.string tt) ∧ X.cell? ⟨wr.heap.size, 2, none⟩ = some (.int .i64 tn) ∧ X.cell? ⟨wr.heap.size, 3, none⟩ = some (.int .i64 (tl + (m : Int))) := by
              rw [hX]; exact ⟨by go_simp, by go_simp, by go_simp, by go_simp⟩
            clear hX x0 x1 x2 x3
            have hS : ∀ W, Keep X W → W.cell? ⟨wr.heap.size, 0, none⟩ = some (.int .i64 tk) ∧ W.cell? ⟨wr.heap.size, 1, none⟩ = some (.string tt) ∧ W.cell? ⟨wr.heap.size, 2, none⟩ = some (.int .i64 tn) ∧ W.cell? ⟨wr.heap.size, 3, none⟩ = some (.int .i64 (tl + (m : Int))) :=
              fun W h => ⟨(Below.cell h hXs).trans hcX.1, (Below.cell h hXs).trans hcX.2.1, (Below.cell h hXs).trans hcX.2.2.1, (Below.cell h hXs).trans hcX.2.2.2⟩
            clear hcX
            have hkYX := hkY.trans hkX
            have hR : ∀ W, Keep X W → Row encT 4 W W.heap.size A (xs.length + k) (xs ++ (ys.take k).map (Lx.later (m : Int))) := fun W h => (hrow.kept hkX).kept h
            clear hrow hkX i2w
            have hO0 : ∀ W, Keep X W → (W.alloc (.cells #[] 30)).ownsRow X.heap.size 30 4 (.slice (some ⟨W.heap.size, 0, none⟩) 0 0) 0 (flat encT []) := fun W h => World.ownsRow_lit W #[] 0 h.size (Nat.zero_le _) rfl
            have kX := Keep.refl X
            have kD := keep_drew (Keep.refl X)
            have hkl : k ≤ 4096 := by omega
            have hN : ∀ W : World, Row encT 4 (W.alloc (.cells #[.int .i64 tk, .string tt, .int .i64 tn, .int .i64 (tl + (m : Int))] 30)) (W.heap.size + 1) (some ⟨W.heap.size, 0, none⟩) 1 [⟨tk, tt, tn, tl + (m : Int)⟩] := fun W => Row.new encT_len W 30 [⟨tk, tt, tn, tl + (m : Int)⟩] #[.int .i64 tk, .string tt, .int .i64 tn, .int .i64 (tl + (m : Int))] rfl
            have hNb : Row encT 4 ((X.alloc (.cells #[] 30)).alloc (.cells #[.int .i64 tk, .string tt, .int .i64 tn, .int .i64 (tl + (m : Int))] 30)) (X.heap.size + 2) (some ⟨X.heap.size + 1, 0, none⟩) 1 [⟨tk, tt, tn, tl + (m : Int)⟩] := (by simpa using hN (X.alloc (.cells #[] 30)))
            have hNc : Row encT 4 ((X.alloc (.cells #[.int .i64 tk, .string tt, .int .i64 tn, .int .i64 (tl + (m : Int))] 30)).alloc (.cells #[] 30)) (X.heap.size + 1) (some ⟨X.heap.size, 0, none⟩) 1 [⟨tk, tt, tn, tl + (m : Int)⟩] := (hN X).below ((Below.refl _ _).alloc (by simp) _)
            have hOa : (X.drew.alloc (.cells #[] 30)).ownsRow X.heap.size 30 4 (.slice (some ⟨X.heap.size, 0, none⟩) 0 0) 0 (flat encT []) := hO0 X.drew kD
            have hOc : ((X.drew.alloc (.cells #[.int .i64 tk, .string tt, .int .i64 tn, .int .i64 (tl + (m : Int))] 30)).alloc (.cells #[] 30)).ownsRow X.heap.size 30 4 (.slice (some ⟨X.heap.size + 1, 0, none⟩) 0 0) 0 (flat encT []) := (by simpa using hO0 (X.drew.alloc (.cells #[.int .i64 tk, .string tt, .int .i64 tn, .int .i64 (tl + (m : Int))] 30)) (kD.alloc _))
            have hNbD : Row encT 4 ((X.drew.alloc (.cells #[] 30)).alloc (.cells #[.int .i64 tk, .string tt, .int .i64 tn, .int .i64 (tl + (m : Int))] 30)) (X.heap.size + 2) (some ⟨X.heap.size + 1, 0, none⟩) 1 [⟨tk, tt, tn, tl + (m : Int)⟩] := (by simpa using hN (X.drew.alloc (.cells #[] 30)))
            have hNcD : Row encT 4 ((X.drew.alloc (.cells #[.int .i64 tk, .string tt, .int .i64 tn, .int .i64 (tl + (m : Int))] 30)).alloc (.cells #[] 30)) (X.heap.size + 1) (some ⟨X.heap.size, 0, none⟩) 1 [⟨tk, tt, tn, tl + (m : Int)⟩] := (hN X.drew).below ((Below.refl _ _).alloc (by simp) _)
            go_region_held3 (fun W => W.cell? ⟨wr.heap.size, 0, none⟩ = some (.int .i64 tk) ∧ W.cell? ⟨wr.heap.size, 1, none⟩ = some (.string tt) ∧ W.cell? ⟨wr.heap.size, 2, none⟩ = some (.int .i64 tn) ∧ W.cell? ⟨wr.heap.size, 3, none⟩ = some (.int .i64 (tl + (m : Int))))
              (first
                | exact hS _ kX
                | exact hS _ kD
                | exact hS _ (kD.alloc _)
                | exact hS _ ((kD.alloc _).alloc _)
                | exact hS _ (kX.alloc _)
                | exact hS _ ((kX.alloc _).alloc _)
                | exact hS _ hw6
                | exact hS _ hw5
                | exact hS _ (hw5.alloc _)
                | fail)
              ((first
                | (refine step_append_rows (by rfl) _ _ 23 (by rfl) X.heap.size 30 _ 40 Try.underlying23 info_tok rfl (by omega) encT_len encT_one _ (xs.length + k) (xs ++ (ys.take k).map (Lx.later (m : Int))) (by rfl) (hown5.alloc _) (by first | omega | (simp; done) | (simp; omega)) _ (some ⟨w5.heap.size, 0, none⟩) 1 1 [⟨tk, tt, tn, tl + (m : Int)⟩] (by rfl) (hN w5) (by unfold maxLen; omega) (by omega) ?_; intro v6 w6 hown6 hg6 hat6 hb6; have hw6 : Keep X w6 := Below.trans (hw5.alloc _) hb6)
                | (refine step_append_rows (by rfl) _ _ 23 (by rfl) X.heap.size 30 _ 40 Try.underlying23 info_tok rfl (by omega) encT_len encT_one _ (xs.length + k) (xs ++ (ys.take k).map (Lx.later (m : Int))) (by rfl) (hown5) (by first | omega | (simp; done) | (simp; omega)) _ _ 1 1 [⟨tk, tt, tn, tl + (m : Int)⟩] (by rfl) (hx5) (by unfold maxLen; omega) (by omega) ?_; intro v6 w6 hown6 hg6 hat6 hb6; have hw6 : Keep X w6 := Below.trans (hw5) hb6)
                | (refine step_append_rows (by rfl) _ _ 23 (by rfl) X.heap.size 30 _ 40 Try.underlying23 info_tok rfl (by omega) encT_len encT_one _ 0 [] (by rfl) (hOa) (by first | omega | (simp; done) | (simp; omega)) _ A (xs.length + k) c (xs ++ (ys.take k).map (Lx.later (m : Int))) (by rfl) (hR _ (kD.alloc _)) (by unfold maxLen; omega) (by omega) ?_; intro v5 w5 hown5 hg5 hat5 hb5; have hw5 : Keep X w5 := Below.trans (kD.alloc _) hb5; have hs5 := hw5.size; replace hown5 : w5.ownsRow X.heap.size 30 4 v5 (xs.length + k) (flat encT (xs ++ (ys.take k).map (Lx.later (m : Int)))) := (by simpa using hown5))
                | (refine step_append_rows (by rfl) _ _ 23 (by rfl) X.heap.size 30 _ 40 Try.underlying23 info_tok rfl (by omega) encT_len encT_one _ 0 [] (by rfl) (hOa.alloc _) (by first | omega | (simp; done) | (simp; omega)) _ A (xs.length + k) c (xs ++ (ys.take k).map (Lx.later (m : Int))) (by rfl) (hR _ ((kD.alloc _).alloc _)) (by unfold maxLen; omega) (by omega) ?_; intro v5 w5 hown5 hg5 hat5 hb5; have hw5 : Keep X w5 := Below.trans ((kD.alloc _).alloc _) hb5; have hs5 := hw5.size; replace hown5 : w5.ownsRow X.heap.size 30 4 v5 (xs.length + k) (flat encT (xs ++ (ys.take k).map (Lx.later (m : Int)))) := (by simpa using hown5); have hx5 := Row.far hNbD hg5 (by first | (simp; done) | (simp; omega)) (by simp [Value.ownBlock]))
                | (refine step_append_rows (by rfl) _ _ 23 (by rfl) X.heap.size 30 _ 40 Try.underlying23 info_tok rfl (by omega) encT_len encT_one _ 0 [] (by rfl) (hOc) (by first | omega | (simp; done) | (simp; omega)) _ A (xs.length + k) c (xs ++ (ys.take k).map (Lx.later (m : Int))) (by rfl) (hR _ ((kD.alloc _).alloc _)) (by unfold maxLen; omega) (by omega) ?_; intro v5 w5 hown5 hg5 hat5 hb5; have hw5 : Keep X w5 := Below.trans ((kD.alloc _).alloc _) hb5; have hs5 := hw5.size; replace hown5 : w5.ownsRow X.heap.size 30 4 v5 (xs.length + k) (flat encT (xs ++ (ys.take k).map (Lx.later (m : Int)))) := (by simpa using hown5); have hx5 := Row.far hNcD hg5 (by first | (simp; done) | (simp; omega)) (by simp [Value.ownBlock]))
                | fail))
            all_goals (
              obtain ⟨A6, c6, rfl⟩ := own_slice hown6
              have hr6 := Row.of_own encT_len hown6 (by omega)
              have HR6 := Lib.hid (show Row encT 4 w6 w6.heap.size A6 (xs.length + (k + 1)) (xs ++ (ys.take (k + 1)).map (Lx.later (m : Int))) by
                rw [HTK.out, ← List.append_assoc]; exact hr6)
              have HK6 := Lib.hid (hkYX.trans hw6)
              clear hr6 hown6 hg6 hat6 hb6 hw6 hown5 hg5 hat5 hb5 hw5 hs5
              go_wp2
              refine ⟨⟨k + 1, A6, c6, by omega, by go_num, rfl, HR6.out, HK6.out⟩, by simp [intOf]; omega⟩)
          · obtain rfl : k = ys.length := by omega
            rw [List.take_length] at hrow
            have i3w := i3.kept hkY
            obtain rfl : (xs ++ ys.map (Lx.later (m : Int))).length = n3 := i3.1
            have hln : xs.length + ys.length = (xs ++ ys.map (Lx.later (m : Int))).length := by simp
            rw [hln] at hrow ⊢
            generalize xs ++ ys.map (Lx.later (m : Int)) = ss at *
            have hl2 : ss.length ≤ 1000000 := by omega
            go_wp2_with fail
            refine (awake_any _).mono ?_
            rintro e w4 ⟨rfl, k4⟩
            replace hrow := hrow.kept k4
            replace i3w := i3w.kept k4
            go_wp2_with fail
            refine (Ref10.same_any A A3 ss.length ss.length c c3 ss ss _ hl2 hl2 hrow i3w).mono ?_
            rintro e w5 ⟨rfl, k5⟩
            rw [sameT_self]
            go_wp2
            go_ret
            exact ⟨rfl, ((K.trans hkY).trans k4).trans k5⟩
end Go.Proofs.Ytnchpmpamikgkaa.Lexs
