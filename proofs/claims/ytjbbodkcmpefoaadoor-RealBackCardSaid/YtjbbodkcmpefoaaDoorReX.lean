/- Layer 3's laws of texts, and there and back: each answers true. Conditions: the library's table of powers of ten lies as its initialiser lays it. -/
import Derived.Test.YtjbbodkcmpefoaaDoorReW
import Derived.Test.YtjbbodkcmpefoaaDoorTw2
import Derived.Test.YtjbbodkcmpefoaaDoorOpen
namespace Go.Proofs.YtjbbodkcmpefoaaDoor.Real
set_option linter.unusedVariables false
open Go.Proofs.YtjbbodkcmpefoaaDoor.Fp Go.Proofs.YtjbbodkcmpefoaaDoor.Re Go.ChangeShapes Go.WideShapes Go.ChangeAt Go.RowKit

set_option maxHeartbeats 1000000 in
theorem texts_any (x : Nat) (s : ByteArray) (w : World) (ht : Tab w) (wx : (Lit.float .f64 x).wf = true) (hs : s.size ≤ maxLen) :
    Calls Tryd.prog 3 #[.float .f64 x, .string s] w fun e w' => e = .returned (.bool true) ∧ Below w.heap.size w w' := by
  have hx : x < 18446744073709551616 := by simpa [Lit.wf] using wx
  unfold maxLen at hs
  by_cases h1 : 100 < s.size
  · have h1' : (100 : Int) < s.size := by omega
    go_enter Tryd.func3, Tryd.ntmps3
    go_wp2_with fail
    refine (awake_any _).mono ?_
    rintro e w1 ⟨rfl, hb⟩
    go_wp2
    go_ret
    exact ⟨rfl, hb⟩
  · have h1' : decide ((100 : Int) < s.size) = false := decide_eq_false (by omega)
    have hsz : s.size ≤ 1000000 := by omega
    have H1 := Lib.hid h1
    clear h1
    have hlt := rdF_lt (bl s)
    have e4 : sameB (rdF (bl s)) (rdF (bl s)) = true := sameB_self hlt
    have hr1 := fun w => Re.read_any s hsz w
    have hr2 := fun w => Ref3.read_any s hsz w
    have ht1 := fun w hT => Re.text_any x hx w hT
    have ht2 := fun w => Ref3.text_any x hx w
    generalize st (tL x) = a at *
    generalize tOk x = p at *
    generalize rdF (bl s) = c at *
    generalize rdOk (bl s) = u at *
    have e1 : (a.toList == a.toList) = true := by simp
    have e2 : (p == p) = true := by simp
    have e3 : (u == u) = true := by simp
    go_enter Tryd.func3, Tryd.ntmps3
    go_wp2_with fail
    refine (ht1 _ ht).mono ?_
    rintro e w1 ⟨rfl, b1⟩
    go_wp2_with fail
    refine (ht2 _).mono ?_
    rintro e w2 ⟨rfl, hb2⟩
    have b2 := b1.trans hb2
    clear hb2 b1
    go_wp2_with fail
    refine (hr1 _).mono ?_
    rintro e w3 ⟨rfl, hb3⟩
    have b3 := b2.trans hb3
    clear hb3 b2
    go_wp2_with fail
    refine (hr2 _).mono ?_
    rintro e w4 ⟨rfl, hb4⟩
    have b4 := b3.trans hb4
    clear hb4 b3
    go_wp2_with fail
    refine (awake_any _).mono ?_
    rintro e w5 ⟨rfl, hb5⟩
    have b5 := b4.trans hb5
    clear hb5 b4
    go_wp2_with fail
    refine (Ref3.same_any _ _ hlt hlt _).mono ?_
    rintro e w6 ⟨rfl, rfl⟩
    go_wp2
    go_ret
    exact ⟨rfl, b5⟩

theorem canon_ok {b : Nat} (h : nanB b = false) : canon b = b := by unfold canon; rw [h, if_neg (by decide)]
theorem canon_same {b : Nat} (hb : b < 18446744073709551616) : sameB b (canon b) = true := by
  cases h : nanB b
  · rw [canon_ok h]; exact sameB_self hb
  · unfold canon
    rw [h, if_pos rfl]
    exact sameB_nan h (by decide)
/-- What the texts give, told ahead: the float's text is s, whether it has one p; u, q of that text; v, r of the other; its text again a. -/
structure Said3 (x : Nat) (s : ByteArray) (t1 : ByteArray) (p : Bool) (u : Nat) (q : Bool) (v : Nat) (r : Bool) (t2 : ByteArray) (o : Bool) : Prop where
  hT1 : ∀ w, Tab w → Calls Tryd.prog 6 #[.float .f64 x] w fun e w' => e = .returned (.tuple #[.string t1, .bool p]) ∧ Keep w w'
  hR1 : ∀ w, Calls Tryd.prog 8 #[.string t1] w fun e w' => e = .returned (.tuple #[.float .f64 u, .bool q]) ∧ Keep w w'
  hR2 : ∀ w, Calls Tryd.prog 8 #[.string s] w fun e w' => e = .returned (.tuple #[.float .f64 v, .bool r]) ∧ Keep w w'
  hT2 : ∀ w, Tab w → Calls Tryd.prog 6 #[.float .f64 v] w fun e w' => e = .returned (.tuple #[.string t2, .bool o]) ∧ Keep w w'
theorem said3 (x : Nat) (hx : x < 18446744073709551616) (s : ByteArray) (hs : s.size ≤ 1000000) :
    Said3 x s (st (tL x)) (tOk x) (rdF (tL x)) (rdOk (tL x)) (rdF (bl s)) (rdOk (bl s)) (st (tL (rdF (bl s)))) (tOk (rdF (bl s))) where
  hT1 := fun w hT => Re.text_any x hx w hT
  hR1 := fun w => by
    have := Re.read_any (st (tL x)) (by rw [st_size]; have := tL_len x; omega) w
    rwa [bl_st] at this
  hR2 := fun w => Re.read_any s hs w
  hT2 := fun w hT => Re.text_any _ (rdF_lt _) w hT
set_option maxHeartbeats 1000000 in
theorem back_att (x : Nat) (hx : x < 18446744073709551616) (A : Option Addr) (n c : Nat) (zs : List Int) (s : ByteArray) (w : World) (ht : Tab w) (hA : Ints .i64 w w.heap.size A n zs) (hn : n ≤ 9) (hs : s.size ≤ 100) (hz : okL zs = false)
    (t1 : ByteArray) (v : Nat) (o : Bool) (hsd : Said3 x s t1 true x true v true s o) :
    Calls Tryd.prog 4 #[.float .f64 x, .slice A n c, .string s] w fun e w' => e = .returned (.bool true) ∧ Keep w w' := by
  obtain ⟨hT1, hR1, hR2, hT2⟩ := hsd
  have hcl := canon_lt hx
  have hcs := canon_same hx
  have hxx := sameB_self hx
  have h1' : decide ((100 : Int) < s.size) = false := decide_eq_false (by omega)
  have h2' : decide ((9 : Int) < n) = false := decide_eq_false (by omega)
  go_enter Tryd.func4, Tryd.ntmps4
  go_wp2_with fail
  refine (Re.regs_any x hx _).mono ?_
  rintro e w1 ⟨A1, n1, c1, rfl, hA1, b1⟩
  have hA2 := hA.kept b1
  have t1 := ht.keep b1
  clear hA ht
  obtain rfl : n1 = 4 := by have := hA1.1; simp [regsN] at this; omega
  go_wp2_with fail
  refine (Re.of_any A1 4 c1 _ _ hA1).mono ?_
  rintro e w2 ⟨rfl, rfl⟩
  rw [ofB_regs _ hcl, regs_ok]
  clear hA1
  generalize canon x = y at *
  go_wp2_with fail
  refine (Re.same_any _ _ hx hcl _).mono ?_
  rintro e w2 ⟨rfl, rfl⟩
  rw [hcs]
  go_wp2_with fail
  refine (Ref3.same_any _ _ hx hcl _).mono ?_
  rintro e w2 ⟨rfl, rfl⟩
  rw [hcs]
  clear hcs
  go_wp2_with fail
  refine (Re.of_any A n c zs _ hA2).mono ?_
  rintro e w2 ⟨rfl, rfl⟩
  rw [hz]
  go_wp2_with fail
  refine (hT1 _ t1).mono ?_
  rintro e w5 ⟨rfl, b5⟩
  have b6 := b1.trans b5
  have t6 := t1.keep b5
  clear b1 b5 t1
  go_wp2_with fail
  refine (hR1 _).mono ?_
  rintro e w6 ⟨rfl, b7⟩
  have b8 := b6.trans b7
  have t8 := t6.keep b7
  clear b6 b7 t6
  go_wp2_with fail
  refine (hR2 _).mono ?_
  rintro e w7 ⟨rfl, b9⟩
  have b10 := b8.trans b9
  have t10 := t8.keep b9
  clear b8 b9 t8
  go_wp2_with fail
  refine (hT2 _ t10).mono ?_
  rintro e w8 ⟨rfl, b11⟩
  have b12 := b10.trans b11
  clear b10 b11 t10
  go_wp2_with fail
  refine (awake_any _).mono ?_
  rintro e w9 ⟨rfl, b13⟩
  have b14 := b12.trans b13
  clear b12 b13
  go_wp2_with fail
  refine (Ref3.same_any _ _ hx hx _).mono ?_
  rintro e w10 ⟨rfl, rfl⟩
  rw [hxx]
  go_wp2
  go_ret
  exact ⟨rfl, b14⟩
set_option maxHeartbeats 1000000 in
theorem back_atf (x : Nat) (hx : x < 18446744073709551616) (A : Option Addr) (n c : Nat) (zs : List Int) (s : ByteArray) (w : World) (ht : Tab w) (hA : Ints .i64 w w.heap.size A n zs) (hn : n ≤ 9) (hs : s.size ≤ 100) (hz : okL zs = false)
    (t1 : ByteArray) (v : Nat) (t2 : ByteArray) (o : Bool) (hsd : Said3 x s t1 true x true v false t2 o) :
    Calls Tryd.prog 4 #[.float .f64 x, .slice A n c, .string s] w fun e w' => e = .returned (.bool true) ∧ Keep w w' := by
  obtain ⟨hT1, hR1, hR2, hT2⟩ := hsd
  have hcl := canon_lt hx
  have hcs := canon_same hx
  have hxx := sameB_self hx
  have h1' : decide ((100 : Int) < s.size) = false := decide_eq_false (by omega)
  have h2' : decide ((9 : Int) < n) = false := decide_eq_false (by omega)
  go_enter Tryd.func4, Tryd.ntmps4
  go_wp2_with fail
  refine (Re.regs_any x hx _).mono ?_
  rintro e w1 ⟨A1, n1, c1, rfl, hA1, b1⟩
  have hA2 := hA.kept b1
  have t1 := ht.keep b1
  clear hA ht
  obtain rfl : n1 = 4 := by have := hA1.1; simp [regsN] at this; omega
  go_wp2_with fail
  refine (Re.of_any A1 4 c1 _ _ hA1).mono ?_
  rintro e w2 ⟨rfl, rfl⟩
  rw [ofB_regs _ hcl, regs_ok]
  clear hA1
  generalize canon x = y at *
  go_wp2_with fail
  refine (Re.same_any _ _ hx hcl _).mono ?_
  rintro e w2 ⟨rfl, rfl⟩
  rw [hcs]
  go_wp2_with fail
  refine (Ref3.same_any _ _ hx hcl _).mono ?_
  rintro e w2 ⟨rfl, rfl⟩
  rw [hcs]
  clear hcs
  go_wp2_with fail
  refine (Re.of_any A n c zs _ hA2).mono ?_
  rintro e w2 ⟨rfl, rfl⟩
  rw [hz]
  go_wp2_with fail
  refine (hT1 _ t1).mono ?_
  rintro e w5 ⟨rfl, b5⟩
  have b6 := b1.trans b5
  have t6 := t1.keep b5
  clear b1 b5 t1
  go_wp2_with fail
  refine (hR1 _).mono ?_
  rintro e w6 ⟨rfl, b7⟩
  have b8 := b6.trans b7
  have t8 := t6.keep b7
  clear b6 b7 t6
  go_wp2_with fail
  refine (hR2 _).mono ?_
  rintro e w7 ⟨rfl, b9⟩
  have b10 := b8.trans b9
  have t10 := t8.keep b9
  clear b8 b9 t8
  go_wp2_with fail
  refine (hT2 _ t10).mono ?_
  rintro e w8 ⟨rfl, b11⟩
  have b12 := b10.trans b11
  clear b10 b11 t10
  go_wp2_with fail
  refine (awake_any _).mono ?_
  rintro e w9 ⟨rfl, b13⟩
  have b14 := b12.trans b13
  clear b12 b13
  go_wp2_with fail
  refine (Ref3.same_any _ _ hx hx _).mono ?_
  rintro e w10 ⟨rfl, rfl⟩
  rw [hxx]
  go_wp2
  go_ret
  exact ⟨rfl, b14⟩
set_option maxHeartbeats 1000000 in
theorem back_aft (x : Nat) (hx : x < 18446744073709551616) (A : Option Addr) (n c : Nat) (zs : List Int) (s : ByteArray) (w : World) (ht : Tab w) (hA : Ints .i64 w w.heap.size A n zs) (hn : n ≤ 9) (hs : s.size ≤ 100) (hz : okL zs = false)
    (u : Nat) (q : Bool) (v : Nat) (o : Bool) (hsd : Said3 x s ⟨#[]⟩ false u q v true s o) :
    Calls Tryd.prog 4 #[.float .f64 x, .slice A n c, .string s] w fun e w' => e = .returned (.bool true) ∧ Keep w w' := by
  obtain ⟨hT1, hR1, hR2, hT2⟩ := hsd
  have hcl := canon_lt hx
  have hcs := canon_same hx
  have hxx := sameB_self hx
  have h1' : decide ((100 : Int) < s.size) = false := decide_eq_false (by omega)
  have h2' : decide ((9 : Int) < n) = false := decide_eq_false (by omega)
  go_enter Tryd.func4, Tryd.ntmps4
  go_wp2_with fail
  refine (Re.regs_any x hx _).mono ?_
  rintro e w1 ⟨A1, n1, c1, rfl, hA1, b1⟩
  have hA2 := hA.kept b1
  have t1 := ht.keep b1
  clear hA ht
  obtain rfl : n1 = 4 := by have := hA1.1; simp [regsN] at this; omega
  go_wp2_with fail
  refine (Re.of_any A1 4 c1 _ _ hA1).mono ?_
  rintro e w2 ⟨rfl, rfl⟩
  rw [ofB_regs _ hcl, regs_ok]
  clear hA1
  generalize canon x = y at *
  go_wp2_with fail
  refine (Re.same_any _ _ hx hcl _).mono ?_
  rintro e w2 ⟨rfl, rfl⟩
  rw [hcs]
  go_wp2_with fail
  refine (Ref3.same_any _ _ hx hcl _).mono ?_
  rintro e w2 ⟨rfl, rfl⟩
  rw [hcs]
  clear hcs
  go_wp2_with fail
  refine (Re.of_any A n c zs _ hA2).mono ?_
  rintro e w2 ⟨rfl, rfl⟩
  rw [hz]
  go_wp2_with fail
  refine (hT1 _ t1).mono ?_
  rintro e w5 ⟨rfl, b5⟩
  have b6 := b1.trans b5
  have t6 := t1.keep b5
  clear b1 b5 t1
  go_wp2_with fail
  refine (hR1 _).mono ?_
  rintro e w6 ⟨rfl, b7⟩
  have b8 := b6.trans b7
  have t8 := t6.keep b7
  clear b6 b7 t6
  go_wp2_with fail
  refine (hR2 _).mono ?_
  rintro e w7 ⟨rfl, b9⟩
  have b10 := b8.trans b9
  have t10 := t8.keep b9
  clear b8 b9 t8
  go_wp2_with fail
  refine (hT2 _ t10).mono ?_
  rintro e w8 ⟨rfl, b11⟩
  have b12 := b10.trans b11
  clear b10 b11 t10
  go_wp2_with fail
  refine (awake_any _).mono ?_
  rintro e w9 ⟨rfl, b13⟩
  have b14 := b12.trans b13
  clear b12 b13
  go_wp2
  go_ret
  exact ⟨rfl, b14⟩
set_option maxHeartbeats 1000000 in
theorem back_aff (x : Nat) (hx : x < 18446744073709551616) (A : Option Addr) (n c : Nat) (zs : List Int) (s : ByteArray) (w : World) (ht : Tab w) (hA : Ints .i64 w w.heap.size A n zs) (hn : n ≤ 9) (hs : s.size ≤ 100) (hz : okL zs = false)
    (u : Nat) (q : Bool) (v : Nat) (t2 : ByteArray) (o : Bool) (hsd : Said3 x s ⟨#[]⟩ false u q v false t2 o) :
    Calls Tryd.prog 4 #[.float .f64 x, .slice A n c, .string s] w fun e w' => e = .returned (.bool true) ∧ Keep w w' := by
  obtain ⟨hT1, hR1, hR2, hT2⟩ := hsd
  have hcl := canon_lt hx
  have hcs := canon_same hx
  have hxx := sameB_self hx
  have h1' : decide ((100 : Int) < s.size) = false := decide_eq_false (by omega)
  have h2' : decide ((9 : Int) < n) = false := decide_eq_false (by omega)
  go_enter Tryd.func4, Tryd.ntmps4
  go_wp2_with fail
  refine (Re.regs_any x hx _).mono ?_
  rintro e w1 ⟨A1, n1, c1, rfl, hA1, b1⟩
  have hA2 := hA.kept b1
  have t1 := ht.keep b1
  clear hA ht
  obtain rfl : n1 = 4 := by have := hA1.1; simp [regsN] at this; omega
  go_wp2_with fail
  refine (Re.of_any A1 4 c1 _ _ hA1).mono ?_
  rintro e w2 ⟨rfl, rfl⟩
  rw [ofB_regs _ hcl, regs_ok]
  clear hA1
  generalize canon x = y at *
  go_wp2_with fail
  refine (Re.same_any _ _ hx hcl _).mono ?_
  rintro e w2 ⟨rfl, rfl⟩
  rw [hcs]
  go_wp2_with fail
  refine (Ref3.same_any _ _ hx hcl _).mono ?_
  rintro e w2 ⟨rfl, rfl⟩
  rw [hcs]
  clear hcs
  go_wp2_with fail
  refine (Re.of_any A n c zs _ hA2).mono ?_
  rintro e w2 ⟨rfl, rfl⟩
  rw [hz]
  go_wp2_with fail
  refine (hT1 _ t1).mono ?_
  rintro e w5 ⟨rfl, b5⟩
  have b6 := b1.trans b5
  have t6 := t1.keep b5
  clear b1 b5 t1
  go_wp2_with fail
  refine (hR1 _).mono ?_
  rintro e w6 ⟨rfl, b7⟩
  have b8 := b6.trans b7
  have t8 := t6.keep b7
  clear b6 b7 t6
  go_wp2_with fail
  refine (hR2 _).mono ?_
  rintro e w7 ⟨rfl, b9⟩
  have b10 := b8.trans b9
  have t10 := t8.keep b9
  clear b8 b9 t8
  go_wp2_with fail
  refine (hT2 _ t10).mono ?_
  rintro e w8 ⟨rfl, b11⟩
  have b12 := b10.trans b11
  clear b10 b11 t10
  go_wp2_with fail
  refine (awake_any _).mono ?_
  rintro e w9 ⟨rfl, b13⟩
  have b14 := b12.trans b13
  clear b12 b13
  go_wp2
  go_ret
  exact ⟨rfl, b14⟩
set_option maxHeartbeats 1000000 in
theorem back_btt (x : Nat) (hx : x < 18446744073709551616) (A : Option Addr) (n c : Nat) (zs : List Int) (s : ByteArray) (w : World) (ht : Tab w) (hA : Ints .i64 w w.heap.size A n zs) (hn : n ≤ 9) (hs : s.size ≤ 100) (hz : okL zs = true) (hzn : (FloatKind.f64.format.order (ofB zs) (ofB zs) == some Ordering.eq) = false)
    (t1 : ByteArray) (v : Nat) (o : Bool) (hsd : Said3 x s t1 true x true v true s o) :
    Calls Tryd.prog 4 #[.float .f64 x, .slice A n c, .string s] w fun e w' => e = .returned (.bool true) ∧ Keep w w' := by
  obtain ⟨hT1, hR1, hR2, hT2⟩ := hsd
  have hcl := canon_lt hx
  have hcs := canon_same hx
  have hxx := sameB_self hx
  have h1' : decide ((100 : Int) < s.size) = false := decide_eq_false (by omega)
  have h2' : decide ((9 : Int) < n) = false := decide_eq_false (by omega)
  go_enter Tryd.func4, Tryd.ntmps4
  go_wp2_with fail
  refine (Re.regs_any x hx _).mono ?_
  rintro e w1 ⟨A1, n1, c1, rfl, hA1, b1⟩
  have hA2 := hA.kept b1
  have t1 := ht.keep b1
  clear hA ht
  obtain rfl : n1 = 4 := by have := hA1.1; simp [regsN] at this; omega
  go_wp2_with fail
  refine (Re.of_any A1 4 c1 _ _ hA1).mono ?_
  rintro e w2 ⟨rfl, rfl⟩
  rw [ofB_regs _ hcl, regs_ok]
  clear hA1
  generalize canon x = y at *
  go_wp2_with fail
  refine (Re.same_any _ _ hx hcl _).mono ?_
  rintro e w2 ⟨rfl, rfl⟩
  rw [hcs]
  go_wp2_with fail
  refine (Ref3.same_any _ _ hx hcl _).mono ?_
  rintro e w2 ⟨rfl, rfl⟩
  rw [hcs]
  clear hcs
  go_wp2_with fail
  refine (Re.of_any A n c zs _ hA2).mono ?_
  rintro e w2 ⟨rfl, rfl⟩
  rw [hz]
  generalize ofB zs = z at *
  go_wp2_with fail
  refine (hT1 _ t1).mono ?_
  rintro e w5 ⟨rfl, b5⟩
  have b6 := b1.trans b5
  have t6 := t1.keep b5
  clear b1 b5 t1
  go_wp2_with fail
  refine (hR1 _).mono ?_
  rintro e w6 ⟨rfl, b7⟩
  have b8 := b6.trans b7
  have t8 := t6.keep b7
  clear b6 b7 t6
  go_wp2_with fail
  refine (hR2 _).mono ?_
  rintro e w7 ⟨rfl, b9⟩
  have b10 := b8.trans b9
  have t10 := t8.keep b9
  clear b8 b9 t8
  go_wp2_with fail
  refine (hT2 _ t10).mono ?_
  rintro e w8 ⟨rfl, b11⟩
  have b12 := b10.trans b11
  clear b10 b11 t10
  go_wp2_with fail
  refine (awake_any _).mono ?_
  rintro e w9 ⟨rfl, b13⟩
  have b14 := b12.trans b13
  clear b12 b13
  go_wp2_with fail
  refine (Ref3.same_any _ _ hx hx _).mono ?_
  rintro e w10 ⟨rfl, rfl⟩
  rw [hxx]
  go_wp2
  go_ret
  exact ⟨rfl, b14⟩
set_option maxHeartbeats 1000000 in
theorem back_btf (x : Nat) (hx : x < 18446744073709551616) (A : Option Addr) (n c : Nat) (zs : List Int) (s : ByteArray) (w : World) (ht : Tab w) (hA : Ints .i64 w w.heap.size A n zs) (hn : n ≤ 9) (hs : s.size ≤ 100) (hz : okL zs = true) (hzn : (FloatKind.f64.format.order (ofB zs) (ofB zs) == some Ordering.eq) = false)
    (t1 : ByteArray) (v : Nat) (t2 : ByteArray) (o : Bool) (hsd : Said3 x s t1 true x true v false t2 o) :
    Calls Tryd.prog 4 #[.float .f64 x, .slice A n c, .string s] w fun e w' => e = .returned (.bool true) ∧ Keep w w' := by
  obtain ⟨hT1, hR1, hR2, hT2⟩ := hsd
  have hcl := canon_lt hx
  have hcs := canon_same hx
  have hxx := sameB_self hx
  have h1' : decide ((100 : Int) < s.size) = false := decide_eq_false (by omega)
  have h2' : decide ((9 : Int) < n) = false := decide_eq_false (by omega)
  go_enter Tryd.func4, Tryd.ntmps4
  go_wp2_with fail
  refine (Re.regs_any x hx _).mono ?_
  rintro e w1 ⟨A1, n1, c1, rfl, hA1, b1⟩
  have hA2 := hA.kept b1
  have t1 := ht.keep b1
  clear hA ht
  obtain rfl : n1 = 4 := by have := hA1.1; simp [regsN] at this; omega
  go_wp2_with fail
  refine (Re.of_any A1 4 c1 _ _ hA1).mono ?_
  rintro e w2 ⟨rfl, rfl⟩
  rw [ofB_regs _ hcl, regs_ok]
  clear hA1
  generalize canon x = y at *
  go_wp2_with fail
  refine (Re.same_any _ _ hx hcl _).mono ?_
  rintro e w2 ⟨rfl, rfl⟩
  rw [hcs]
  go_wp2_with fail
  refine (Ref3.same_any _ _ hx hcl _).mono ?_
  rintro e w2 ⟨rfl, rfl⟩
  rw [hcs]
  clear hcs
  go_wp2_with fail
  refine (Re.of_any A n c zs _ hA2).mono ?_
  rintro e w2 ⟨rfl, rfl⟩
  rw [hz]
  generalize ofB zs = z at *
  go_wp2_with fail
  refine (hT1 _ t1).mono ?_
  rintro e w5 ⟨rfl, b5⟩
  have b6 := b1.trans b5
  have t6 := t1.keep b5
  clear b1 b5 t1
  go_wp2_with fail
  refine (hR1 _).mono ?_
  rintro e w6 ⟨rfl, b7⟩
  have b8 := b6.trans b7
  have t8 := t6.keep b7
  clear b6 b7 t6
  go_wp2_with fail
  refine (hR2 _).mono ?_
  rintro e w7 ⟨rfl, b9⟩
  have b10 := b8.trans b9
  have t10 := t8.keep b9
  clear b8 b9 t8
  go_wp2_with fail
  refine (hT2 _ t10).mono ?_
  rintro e w8 ⟨rfl, b11⟩
  have b12 := b10.trans b11
  clear b10 b11 t10
  go_wp2_with fail
  refine (awake_any _).mono ?_
  rintro e w9 ⟨rfl, b13⟩
  have b14 := b12.trans b13
  clear b12 b13
  go_wp2_with fail
  refine (Ref3.same_any _ _ hx hx _).mono ?_
  rintro e w10 ⟨rfl, rfl⟩
  rw [hxx]
  go_wp2
  go_ret
  exact ⟨rfl, b14⟩
set_option maxHeartbeats 1000000 in
theorem back_bft (x : Nat) (hx : x < 18446744073709551616) (A : Option Addr) (n c : Nat) (zs : List Int) (s : ByteArray) (w : World) (ht : Tab w) (hA : Ints .i64 w w.heap.size A n zs) (hn : n ≤ 9) (hs : s.size ≤ 100) (hz : okL zs = true) (hzn : (FloatKind.f64.format.order (ofB zs) (ofB zs) == some Ordering.eq) = false)
    (u : Nat) (q : Bool) (v : Nat) (o : Bool) (hsd : Said3 x s ⟨#[]⟩ false u q v true s o) :
    Calls Tryd.prog 4 #[.float .f64 x, .slice A n c, .string s] w fun e w' => e = .returned (.bool true) ∧ Keep w w' := by
  obtain ⟨hT1, hR1, hR2, hT2⟩ := hsd
  have hcl := canon_lt hx
  have hcs := canon_same hx
  have hxx := sameB_self hx
  have h1' : decide ((100 : Int) < s.size) = false := decide_eq_false (by omega)
  have h2' : decide ((9 : Int) < n) = false := decide_eq_false (by omega)
  go_enter Tryd.func4, Tryd.ntmps4
  go_wp2_with fail
  refine (Re.regs_any x hx _).mono ?_
  rintro e w1 ⟨A1, n1, c1, rfl, hA1, b1⟩
  have hA2 := hA.kept b1
  have t1 := ht.keep b1
  clear hA ht
  obtain rfl : n1 = 4 := by have := hA1.1; simp [regsN] at this; omega
  go_wp2_with fail
  refine (Re.of_any A1 4 c1 _ _ hA1).mono ?_
  rintro e w2 ⟨rfl, rfl⟩
  rw [ofB_regs _ hcl, regs_ok]
  clear hA1
  generalize canon x = y at *
  go_wp2_with fail
  refine (Re.same_any _ _ hx hcl _).mono ?_
  rintro e w2 ⟨rfl, rfl⟩
  rw [hcs]
  go_wp2_with fail
  refine (Ref3.same_any _ _ hx hcl _).mono ?_
  rintro e w2 ⟨rfl, rfl⟩
  rw [hcs]
  clear hcs
  go_wp2_with fail
  refine (Re.of_any A n c zs _ hA2).mono ?_
  rintro e w2 ⟨rfl, rfl⟩
  rw [hz]
  generalize ofB zs = z at *
  go_wp2_with fail
  refine (hT1 _ t1).mono ?_
  rintro e w5 ⟨rfl, b5⟩
  have b6 := b1.trans b5
  have t6 := t1.keep b5
  clear b1 b5 t1
  go_wp2_with fail
  refine (hR1 _).mono ?_
  rintro e w6 ⟨rfl, b7⟩
  have b8 := b6.trans b7
  have t8 := t6.keep b7
  clear b6 b7 t6
  go_wp2_with fail
  refine (hR2 _).mono ?_
  rintro e w7 ⟨rfl, b9⟩
  have b10 := b8.trans b9
  have t10 := t8.keep b9
  clear b8 b9 t8
  go_wp2_with fail
  refine (hT2 _ t10).mono ?_
  rintro e w8 ⟨rfl, b11⟩
  have b12 := b10.trans b11
  clear b10 b11 t10
  go_wp2_with fail
  refine (awake_any _).mono ?_
  rintro e w9 ⟨rfl, b13⟩
  have b14 := b12.trans b13
  clear b12 b13
  go_wp2
  go_ret
  exact ⟨rfl, b14⟩
set_option maxHeartbeats 1000000 in
theorem back_bff (x : Nat) (hx : x < 18446744073709551616) (A : Option Addr) (n c : Nat) (zs : List Int) (s : ByteArray) (w : World) (ht : Tab w) (hA : Ints .i64 w w.heap.size A n zs) (hn : n ≤ 9) (hs : s.size ≤ 100) (hz : okL zs = true) (hzn : (FloatKind.f64.format.order (ofB zs) (ofB zs) == some Ordering.eq) = false)
    (u : Nat) (q : Bool) (v : Nat) (t2 : ByteArray) (o : Bool) (hsd : Said3 x s ⟨#[]⟩ false u q v false t2 o) :
    Calls Tryd.prog 4 #[.float .f64 x, .slice A n c, .string s] w fun e w' => e = .returned (.bool true) ∧ Keep w w' := by
  obtain ⟨hT1, hR1, hR2, hT2⟩ := hsd
  have hcl := canon_lt hx
  have hcs := canon_same hx
  have hxx := sameB_self hx
  have h1' : decide ((100 : Int) < s.size) = false := decide_eq_false (by omega)
  have h2' : decide ((9 : Int) < n) = false := decide_eq_false (by omega)
  go_enter Tryd.func4, Tryd.ntmps4
  go_wp2_with fail
  refine (Re.regs_any x hx _).mono ?_
  rintro e w1 ⟨A1, n1, c1, rfl, hA1, b1⟩
  have hA2 := hA.kept b1
  have t1 := ht.keep b1
  clear hA ht
  obtain rfl : n1 = 4 := by have := hA1.1; simp [regsN] at this; omega
  go_wp2_with fail
  refine (Re.of_any A1 4 c1 _ _ hA1).mono ?_
  rintro e w2 ⟨rfl, rfl⟩
  rw [ofB_regs _ hcl, regs_ok]
  clear hA1
  generalize canon x = y at *
  go_wp2_with fail
  refine (Re.same_any _ _ hx hcl _).mono ?_
  rintro e w2 ⟨rfl, rfl⟩
  rw [hcs]
  go_wp2_with fail
  refine (Ref3.same_any _ _ hx hcl _).mono ?_
  rintro e w2 ⟨rfl, rfl⟩
  rw [hcs]
  clear hcs
  go_wp2_with fail
  refine (Re.of_any A n c zs _ hA2).mono ?_
  rintro e w2 ⟨rfl, rfl⟩
  rw [hz]
  generalize ofB zs = z at *
  go_wp2_with fail
  refine (hT1 _ t1).mono ?_
  rintro e w5 ⟨rfl, b5⟩
  have b6 := b1.trans b5
  have t6 := t1.keep b5
  clear b1 b5 t1
  go_wp2_with fail
  refine (hR1 _).mono ?_
  rintro e w6 ⟨rfl, b7⟩
  have b8 := b6.trans b7
  have t8 := t6.keep b7
  clear b6 b7 t6
  go_wp2_with fail
  refine (hR2 _).mono ?_
  rintro e w7 ⟨rfl, b9⟩
  have b10 := b8.trans b9
  have t10 := t8.keep b9
  clear b8 b9 t8
  go_wp2_with fail
  refine (hT2 _ t10).mono ?_
  rintro e w8 ⟨rfl, b11⟩
  have b12 := b10.trans b11
  clear b10 b11 t10
  go_wp2_with fail
  refine (awake_any _).mono ?_
  rintro e w9 ⟨rfl, b13⟩
  have b14 := b12.trans b13
  clear b12 b13
  go_wp2
  go_ret
  exact ⟨rfl, b14⟩
set_option maxHeartbeats 1000000 in
theorem back_ctt (x : Nat) (hx : x < 18446744073709551616) (A : Option Addr) (n c : Nat) (zs : List Int) (s : ByteArray) (w : World) (ht : Tab w) (hA : Ints .i64 w w.heap.size A n zs) (hn : n ≤ 9) (hs : s.size ≤ 100) (hz : okL zs = true) (hzn : (FloatKind.f64.format.order (ofB zs) (ofB zs) == some Ordering.eq) = true) (hzl : ofB zs < 18446744073709551616) (hzr : (regsN (canon (ofB zs)) == zs) = true)
    (t1 : ByteArray) (v : Nat) (o : Bool) (hsd : Said3 x s t1 true x true v true s o) :
    Calls Tryd.prog 4 #[.float .f64 x, .slice A n c, .string s] w fun e w' => e = .returned (.bool true) ∧ Keep w w' := by
  obtain ⟨hT1, hR1, hR2, hT2⟩ := hsd
  have hcl := canon_lt hx
  have hcs := canon_same hx
  have hxx := sameB_self hx
  have h1' : decide ((100 : Int) < s.size) = false := decide_eq_false (by omega)
  have h2' : decide ((9 : Int) < n) = false := decide_eq_false (by omega)
  go_enter Tryd.func4, Tryd.ntmps4
  go_wp2_with fail
  refine (Re.regs_any x hx _).mono ?_
  rintro e w1 ⟨A1, n1, c1, rfl, hA1, b1⟩
  have hA2 := hA.kept b1
  have t1 := ht.keep b1
  clear hA ht
  obtain rfl : n1 = 4 := by have := hA1.1; simp [regsN] at this; omega
  go_wp2_with fail
  refine (Re.of_any A1 4 c1 _ _ hA1).mono ?_
  rintro e w2 ⟨rfl, rfl⟩
  rw [ofB_regs _ hcl, regs_ok]
  clear hA1
  generalize canon x = y at *
  go_wp2_with fail
  refine (Re.same_any _ _ hx hcl _).mono ?_
  rintro e w2 ⟨rfl, rfl⟩
  rw [hcs]
  go_wp2_with fail
  refine (Ref3.same_any _ _ hx hcl _).mono ?_
  rintro e w2 ⟨rfl, rfl⟩
  rw [hcs]
  clear hcs
  go_wp2_with fail
  refine (Re.of_any A n c zs _ hA2).mono ?_
  rintro e w2 ⟨rfl, rfl⟩
  rw [hz]
  generalize ofB zs = z at *
  go_wp2_with fail
  refine (Re.regs_any z hzl _).mono ?_
  rintro e w3 ⟨A3, n3, c3, rfl, hA3, b3⟩
  have hA4 := hA2.kept b3
  have t3 := t1.keep b3
  have b4 := b1.trans b3
  clear hA2 t1 b1 b3
  go_wp2_with fail
  refine (Ref1.ints_any A3 A n3 n c3 c _ _ _ (by have := hA3.1; simp [regsN] at this; omega) hA3 hA4).mono ?_
  rintro e w4 ⟨rfl, hq⟩
  have b1 := b4.trans hq.keep
  have t1 := t3.keep hq.keep
  rw [hzr]
  clear b4 t3 hA3 hA4 hq
  go_wp2_with fail
  refine (hT1 _ t1).mono ?_
  rintro e w5 ⟨rfl, b5⟩
  have b6 := b1.trans b5
  have t6 := t1.keep b5
  clear b1 b5 t1
  go_wp2_with fail
  refine (hR1 _).mono ?_
  rintro e w6 ⟨rfl, b7⟩
  have b8 := b6.trans b7
  have t8 := t6.keep b7
  clear b6 b7 t6
  go_wp2_with fail
  refine (hR2 _).mono ?_
  rintro e w7 ⟨rfl, b9⟩
  have b10 := b8.trans b9
  have t10 := t8.keep b9
  clear b8 b9 t8
  go_wp2_with fail
  refine (hT2 _ t10).mono ?_
  rintro e w8 ⟨rfl, b11⟩
  have b12 := b10.trans b11
  clear b10 b11 t10
  go_wp2_with fail
  refine (awake_any _).mono ?_
  rintro e w9 ⟨rfl, b13⟩
  have b14 := b12.trans b13
  clear b12 b13
  go_wp2_with fail
  refine (Ref3.same_any _ _ hx hx _).mono ?_
  rintro e w10 ⟨rfl, rfl⟩
  rw [hxx]
  go_wp2
  go_ret
  exact ⟨rfl, b14⟩
set_option maxHeartbeats 1000000 in
theorem back_ctf (x : Nat) (hx : x < 18446744073709551616) (A : Option Addr) (n c : Nat) (zs : List Int) (s : ByteArray) (w : World) (ht : Tab w) (hA : Ints .i64 w w.heap.size A n zs) (hn : n ≤ 9) (hs : s.size ≤ 100) (hz : okL zs = true) (hzn : (FloatKind.f64.format.order (ofB zs) (ofB zs) == some Ordering.eq) = true) (hzl : ofB zs < 18446744073709551616) (hzr : (regsN (canon (ofB zs)) == zs) = true)
    (t1 : ByteArray) (v : Nat) (t2 : ByteArray) (o : Bool) (hsd : Said3 x s t1 true x true v false t2 o) :
    Calls Tryd.prog 4 #[.float .f64 x, .slice A n c, .string s] w fun e w' => e = .returned (.bool true) ∧ Keep w w' := by
  obtain ⟨hT1, hR1, hR2, hT2⟩ := hsd
  have hcl := canon_lt hx
  have hcs := canon_same hx
  have hxx := sameB_self hx
  have h1' : decide ((100 : Int) < s.size) = false := decide_eq_false (by omega)
  have h2' : decide ((9 : Int) < n) = false := decide_eq_false (by omega)
  go_enter Tryd.func4, Tryd.ntmps4
  go_wp2_with fail
  refine (Re.regs_any x hx _).mono ?_
  rintro e w1 ⟨A1, n1, c1, rfl, hA1, b1⟩
  have hA2 := hA.kept b1
  have t1 := ht.keep b1
  clear hA ht
  obtain rfl : n1 = 4 := by have := hA1.1; simp [regsN] at this; omega
  go_wp2_with fail
  refine (Re.of_any A1 4 c1 _ _ hA1).mono ?_
  rintro e w2 ⟨rfl, rfl⟩
  rw [ofB_regs _ hcl, regs_ok]
  clear hA1
  generalize canon x = y at *
  go_wp2_with fail
  refine (Re.same_any _ _ hx hcl _).mono ?_
  rintro e w2 ⟨rfl, rfl⟩
  rw [hcs]
  go_wp2_with fail
  refine (Ref3.same_any _ _ hx hcl _).mono ?_
  rintro e w2 ⟨rfl, rfl⟩
  rw [hcs]
  clear hcs
  go_wp2_with fail
  refine (Re.of_any A n c zs _ hA2).mono ?_
  rintro e w2 ⟨rfl, rfl⟩
  rw [hz]
  generalize ofB zs = z at *
  go_wp2_with fail
  refine (Re.regs_any z hzl _).mono ?_
  rintro e w3 ⟨A3, n3, c3, rfl, hA3, b3⟩
  have hA4 := hA2.kept b3
  have t3 := t1.keep b3
  have b4 := b1.trans b3
  clear hA2 t1 b1 b3
  go_wp2_with fail
  refine (Ref1.ints_any A3 A n3 n c3 c _ _ _ (by have := hA3.1; simp [regsN] at this; omega) hA3 hA4).mono ?_
  rintro e w4 ⟨rfl, hq⟩
  have b1 := b4.trans hq.keep
  have t1 := t3.keep hq.keep
  rw [hzr]
  clear b4 t3 hA3 hA4 hq
  go_wp2_with fail
  refine (hT1 _ t1).mono ?_
  rintro e w5 ⟨rfl, b5⟩
  have b6 := b1.trans b5
  have t6 := t1.keep b5
  clear b1 b5 t1
  go_wp2_with fail
  refine (hR1 _).mono ?_
  rintro e w6 ⟨rfl, b7⟩
  have b8 := b6.trans b7
  have t8 := t6.keep b7
  clear b6 b7 t6
  go_wp2_with fail
  refine (hR2 _).mono ?_
  rintro e w7 ⟨rfl, b9⟩
  have b10 := b8.trans b9
  have t10 := t8.keep b9
  clear b8 b9 t8
  go_wp2_with fail
  refine (hT2 _ t10).mono ?_
  rintro e w8 ⟨rfl, b11⟩
  have b12 := b10.trans b11
  clear b10 b11 t10
  go_wp2_with fail
  refine (awake_any _).mono ?_
  rintro e w9 ⟨rfl, b13⟩
  have b14 := b12.trans b13
  clear b12 b13
  go_wp2_with fail
  refine (Ref3.same_any _ _ hx hx _).mono ?_
  rintro e w10 ⟨rfl, rfl⟩
  rw [hxx]
  go_wp2
  go_ret
  exact ⟨rfl, b14⟩
set_option maxHeartbeats 1000000 in
theorem back_cft (x : Nat) (hx : x < 18446744073709551616) (A : Option Addr) (n c : Nat) (zs : List Int) (s : ByteArray) (w : World) (ht : Tab w) (hA : Ints .i64 w w.heap.size A n zs) (hn : n ≤ 9) (hs : s.size ≤ 100) (hz : okL zs = true) (hzn : (FloatKind.f64.format.order (ofB zs) (ofB zs) == some Ordering.eq) = true) (hzl : ofB zs < 18446744073709551616) (hzr : (regsN (canon (ofB zs)) == zs) = true)
    (u : Nat) (q : Bool) (v : Nat) (o : Bool) (hsd : Said3 x s ⟨#[]⟩ false u q v true s o) :
    Calls Tryd.prog 4 #[.float .f64 x, .slice A n c, .string s] w fun e w' => e = .returned (.bool true) ∧ Keep w w' := by
  obtain ⟨hT1, hR1, hR2, hT2⟩ := hsd
  have hcl := canon_lt hx
  have hcs := canon_same hx
  have hxx := sameB_self hx
  have h1' : decide ((100 : Int) < s.size) = false := decide_eq_false (by omega)
  have h2' : decide ((9 : Int) < n) = false := decide_eq_false (by omega)
  go_enter Tryd.func4, Tryd.ntmps4
  go_wp2_with fail
  refine (Re.regs_any x hx _).mono ?_
  rintro e w1 ⟨A1, n1, c1, rfl, hA1, b1⟩
  have hA2 := hA.kept b1
  have t1 := ht.keep b1
  clear hA ht
  obtain rfl : n1 = 4 := by have := hA1.1; simp [regsN] at this; omega
  go_wp2_with fail
  refine (Re.of_any A1 4 c1 _ _ hA1).mono ?_
  rintro e w2 ⟨rfl, rfl⟩
  rw [ofB_regs _ hcl, regs_ok]
  clear hA1
  generalize canon x = y at *
  go_wp2_with fail
  refine (Re.same_any _ _ hx hcl _).mono ?_
  rintro e w2 ⟨rfl, rfl⟩
  rw [hcs]
  go_wp2_with fail
  refine (Ref3.same_any _ _ hx hcl _).mono ?_
  rintro e w2 ⟨rfl, rfl⟩
  rw [hcs]
  clear hcs
  go_wp2_with fail
  refine (Re.of_any A n c zs _ hA2).mono ?_
  rintro e w2 ⟨rfl, rfl⟩
  rw [hz]
  generalize ofB zs = z at *
  go_wp2_with fail
  refine (Re.regs_any z hzl _).mono ?_
  rintro e w3 ⟨A3, n3, c3, rfl, hA3, b3⟩
  have hA4 := hA2.kept b3
  have t3 := t1.keep b3
  have b4 := b1.trans b3
  clear hA2 t1 b1 b3
  go_wp2_with fail
  refine (Ref1.ints_any A3 A n3 n c3 c _ _ _ (by have := hA3.1; simp [regsN] at this; omega) hA3 hA4).mono ?_
  rintro e w4 ⟨rfl, hq⟩
  have b1 := b4.trans hq.keep
  have t1 := t3.keep hq.keep
  rw [hzr]
  clear b4 t3 hA3 hA4 hq
  go_wp2_with fail
  refine (hT1 _ t1).mono ?_
  rintro e w5 ⟨rfl, b5⟩
  have b6 := b1.trans b5
  have t6 := t1.keep b5
  clear b1 b5 t1
  go_wp2_with fail
  refine (hR1 _).mono ?_
  rintro e w6 ⟨rfl, b7⟩
  have b8 := b6.trans b7
  have t8 := t6.keep b7
  clear b6 b7 t6
  go_wp2_with fail
  refine (hR2 _).mono ?_
  rintro e w7 ⟨rfl, b9⟩
  have b10 := b8.trans b9
  have t10 := t8.keep b9
  clear b8 b9 t8
  go_wp2_with fail
  refine (hT2 _ t10).mono ?_
  rintro e w8 ⟨rfl, b11⟩
  have b12 := b10.trans b11
  clear b10 b11 t10
  go_wp2_with fail
  refine (awake_any _).mono ?_
  rintro e w9 ⟨rfl, b13⟩
  have b14 := b12.trans b13
  clear b12 b13
  go_wp2
  go_ret
  exact ⟨rfl, b14⟩
set_option maxHeartbeats 1000000 in
theorem back_cff (x : Nat) (hx : x < 18446744073709551616) (A : Option Addr) (n c : Nat) (zs : List Int) (s : ByteArray) (w : World) (ht : Tab w) (hA : Ints .i64 w w.heap.size A n zs) (hn : n ≤ 9) (hs : s.size ≤ 100) (hz : okL zs = true) (hzn : (FloatKind.f64.format.order (ofB zs) (ofB zs) == some Ordering.eq) = true) (hzl : ofB zs < 18446744073709551616) (hzr : (regsN (canon (ofB zs)) == zs) = true)
    (u : Nat) (q : Bool) (v : Nat) (t2 : ByteArray) (o : Bool) (hsd : Said3 x s ⟨#[]⟩ false u q v false t2 o) :
    Calls Tryd.prog 4 #[.float .f64 x, .slice A n c, .string s] w fun e w' => e = .returned (.bool true) ∧ Keep w w' := by
  obtain ⟨hT1, hR1, hR2, hT2⟩ := hsd
  have hcl := canon_lt hx
  have hcs := canon_same hx
  have hxx := sameB_self hx
  have h1' : decide ((100 : Int) < s.size) = false := decide_eq_false (by omega)
  have h2' : decide ((9 : Int) < n) = false := decide_eq_false (by omega)
  go_enter Tryd.func4, Tryd.ntmps4
  go_wp2_with fail
  refine (Re.regs_any x hx _).mono ?_
  rintro e w1 ⟨A1, n1, c1, rfl, hA1, b1⟩
  have hA2 := hA.kept b1
  have t1 := ht.keep b1
  clear hA ht
  obtain rfl : n1 = 4 := by have := hA1.1; simp [regsN] at this; omega
  go_wp2_with fail
  refine (Re.of_any A1 4 c1 _ _ hA1).mono ?_
  rintro e w2 ⟨rfl, rfl⟩
  rw [ofB_regs _ hcl, regs_ok]
  clear hA1
  generalize canon x = y at *
  go_wp2_with fail
  refine (Re.same_any _ _ hx hcl _).mono ?_
  rintro e w2 ⟨rfl, rfl⟩
  rw [hcs]
  go_wp2_with fail
  refine (Ref3.same_any _ _ hx hcl _).mono ?_
  rintro e w2 ⟨rfl, rfl⟩
  rw [hcs]
  clear hcs
  go_wp2_with fail
  refine (Re.of_any A n c zs _ hA2).mono ?_
  rintro e w2 ⟨rfl, rfl⟩
  rw [hz]
  generalize ofB zs = z at *
  go_wp2_with fail
  refine (Re.regs_any z hzl _).mono ?_
  rintro e w3 ⟨A3, n3, c3, rfl, hA3, b3⟩
  have hA4 := hA2.kept b3
  have t3 := t1.keep b3
  have b4 := b1.trans b3
  clear hA2 t1 b1 b3
  go_wp2_with fail
  refine (Ref1.ints_any A3 A n3 n c3 c _ _ _ (by have := hA3.1; simp [regsN] at this; omega) hA3 hA4).mono ?_
  rintro e w4 ⟨rfl, hq⟩
  have b1 := b4.trans hq.keep
  have t1 := t3.keep hq.keep
  rw [hzr]
  clear b4 t3 hA3 hA4 hq
  go_wp2_with fail
  refine (hT1 _ t1).mono ?_
  rintro e w5 ⟨rfl, b5⟩
  have b6 := b1.trans b5
  have t6 := t1.keep b5
  clear b1 b5 t1
  go_wp2_with fail
  refine (hR1 _).mono ?_
  rintro e w6 ⟨rfl, b7⟩
  have b8 := b6.trans b7
  have t8 := t6.keep b7
  clear b6 b7 t6
  go_wp2_with fail
  refine (hR2 _).mono ?_
  rintro e w7 ⟨rfl, b9⟩
  have b10 := b8.trans b9
  have t10 := t8.keep b9
  clear b8 b9 t8
  go_wp2_with fail
  refine (hT2 _ t10).mono ?_
  rintro e w8 ⟨rfl, b11⟩
  have b12 := b10.trans b11
  clear b10 b11 t10
  go_wp2_with fail
  refine (awake_any _).mono ?_
  rintro e w9 ⟨rfl, b13⟩
  have b14 := b12.trans b13
  clear b12 b13
  go_wp2
  go_ret
  exact ⟨rfl, b14⟩
set_option maxHeartbeats 1000000 in
theorem back_any (x : Nat) (A : Option Addr) (n c : Nat) (zs : List Int) (s : ByteArray) (w : World) (ht : Tab w) (wx : (Lit.float .f64 x).wf = true) (hAI : IntsIn .i64 w A n zs) (hn : n ≤ maxLen) (hs : s.size ≤ maxLen) :
    Calls Tryd.prog 4 #[.float .f64 x, .slice A n c, .string s] w fun e w' => e = .returned (.bool true) ∧ Below w.heap.size w w' := by
  have hx : x < 18446744073709551616 := by simpa [Lit.wf] using wx
  unfold maxLen at hs hn
  have hA := hAI.1
  by_cases h1 : 100 < s.size
  · have h1' : (100 : Int) < s.size := by omega
    go_enter Tryd.func4, Tryd.ntmps4
    go_wp2_with fail
    refine (awake_any _).mono ?_
    rintro e w1 ⟨rfl, hb⟩
    go_wp2
    go_ret
    exact ⟨rfl, hb⟩
  · by_cases h2 : 9 < n
    · have h1' : decide ((100 : Int) < s.size) = false := decide_eq_false (by omega)
      have H1 := Lib.hid h1
      clear h1
      have h2' : decide ((9 : Int) < n) = true := decide_eq_true (by omega)
      go_enter Tryd.func4, Tryd.ntmps4
      go_wp2_with fail
      refine (awake_any _).mono ?_
      rintro e w1 ⟨rfl, hb⟩
      go_wp2
      go_ret
      exact ⟨rfl, hb⟩
    · have hsz : s.size ≤ 100 := by omega
      have hnn : n ≤ 9 := by omega
      have hsd := said3 x hx s (by omega)
      have hzl := ofB_lt zs
      have hR : rdOk (bl s) = true → st (tL (rdF (bl s))) = s := fun h => by rw [read_text h, st_bl]
      have hP : tOk x = true → rdOk (tL x) = true ∧ rdF (tL x) = x := fun h => text_read hx h
      have hN : tOk x = false → st (tL x) = ⟨#[]⟩ := fun h => by rw [tL_no h]; rfl
      cases hz : okL zs
      ·
        cases hp : tOk x <;> cases hr : rdOk (bl s) <;> rw [hp, hr] at hsd
        · rw [hN hp] at hsd
          exact back_aff x hx A n c zs s w ht hA hnn hsz hz _ _ _ _ _ hsd
        · rw [hN hp] at hsd
          rw [hR hr] at hsd
          exact back_aft x hx A n c zs s w ht hA hnn hsz hz _ _ _ _ hsd
        · rw [(hP hp).1, (hP hp).2] at hsd
          exact back_atf x hx A n c zs s w ht hA hnn hsz hz _ _ _ _ hsd
        · rw [(hP hp).1, (hP hp).2] at hsd
          rw [hR hr] at hsd
          exact back_att x hx A n c zs s w ht hA hnn hsz hz _ _ _ hsd
      · cases hnb : nanB (ofB zs)
        · have hzn : (FloatKind.f64.format.order (ofB zs) (ofB zs) == some Ordering.eq) = true := by
            have h : (!(FloatKind.f64.format.order (ofB zs) (ofB zs) == some Ordering.eq)) = false := hnb
            simpa using h
          have hb : ofB zs = bitsL zs := by unfold ofB; rw [if_pos hz]
          have hzr : (regsN (canon (ofB zs)) == zs) = true := by
            rw [canon_ok hnb, hb, bits_regs zs hz]
            exact beq_self_eq_true _
          cases hp : tOk x <;> cases hr : rdOk (bl s) <;> rw [hp, hr] at hsd
          · rw [hN hp] at hsd
            exact back_cff x hx A n c zs s w ht hA hnn hsz hz hzn hzl hzr _ _ _ _ _ hsd
          · rw [hN hp] at hsd
            rw [hR hr] at hsd
            exact back_cft x hx A n c zs s w ht hA hnn hsz hz hzn hzl hzr _ _ _ _ hsd
          · rw [(hP hp).1, (hP hp).2] at hsd
            exact back_ctf x hx A n c zs s w ht hA hnn hsz hz hzn hzl hzr _ _ _ _ hsd
          · rw [(hP hp).1, (hP hp).2] at hsd
            rw [hR hr] at hsd
            exact back_ctt x hx A n c zs s w ht hA hnn hsz hz hzn hzl hzr _ _ _ hsd
        · have hzn : (FloatKind.f64.format.order (ofB zs) (ofB zs) == some Ordering.eq) = false := by
            have h : (!(FloatKind.f64.format.order (ofB zs) (ofB zs) == some Ordering.eq)) = true := hnb
            simpa using h
          cases hp : tOk x <;> cases hr : rdOk (bl s) <;> rw [hp, hr] at hsd
          · rw [hN hp] at hsd
            exact back_bff x hx A n c zs s w ht hA hnn hsz hz hzn _ _ _ _ _ hsd
          · rw [hN hp] at hsd
            rw [hR hr] at hsd
            exact back_bft x hx A n c zs s w ht hA hnn hsz hz hzn _ _ _ _ hsd
          · rw [(hP hp).1, (hP hp).2] at hsd
            exact back_btf x hx A n c zs s w ht hA hnn hsz hz hzn _ _ _ _ hsd
          · rw [(hP hp).1, (hP hp).2] at hsd
            rw [hR hr] at hsd
            exact back_btt x hx A n c zs s w ht hA hnn hsz hz hzn _ _ _ hsd
end Go.Proofs.YtjbbodkcmpefoaaDoor.Real
