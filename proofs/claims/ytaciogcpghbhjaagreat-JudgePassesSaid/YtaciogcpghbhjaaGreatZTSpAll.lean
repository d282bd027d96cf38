/- Of these texts: SpAll. Conditions: as each part says. -/
import Derived.Test.YtaciogcpghbhjaaGreatRows
import Derived.Test.YtaciogcpghbhjaaGreatZTRow
import Derived.Test.YtaciogcpghbhjaaGreatZTSpA
import Derived.IntWalk
import Derived.Laws.StructEq
/- Several texts in one: Sp, SpS. Conditions: as each part says. -/
namespace Go.Proofs.YtaciogcpghbhjaaGreat.Span
open Go.ChangeShapes Go.WideShapes Go.ChangeAt Go.RowKit
def Fit (r : Int × Int) : Prop := (-9223372036854775808 <= r.1 ∧ r.1 <= 9223372036854775807) ∧ (-9223372036854775808 <= r.2 ∧ r.2 <= 9223372036854775807)
set_option maxHeartbeats 400000 in
theorem isEmpty_any (a b : Int) (w : World) :
  Calls Tryz.prog 141 #[.agg #[.int .i64 a, .int .i64 b]] w fun e w' => e = .returned (.bool (Sp.emp (a, b))) ∧ Grew w w' := by
 have he : Sp.emp (a, b) = decide (b < a) := rfl
 rw [he]
 clear he
 go_enter Tryz.func141, Tryz.ntmps141
 go_wp2
 go_ret
 exact ⟨rfl, (Grew.refl _).alloc _⟩
set_option maxHeartbeats 400000 in
theorem isApart_any (a b c d : Int) (w : World) (h0 : -9223372036854775808 <= b) (h1 : c <= 9223372036854775807) :
  Calls Tryz.prog 152 #[.agg #[.int .i64 a, .int .i64 b], .agg #[.int .i64 c, .int .i64 d]] w fun e w' => e = .returned (.bool (Sp.apart (a, b) (c, d))) ∧ Grew w w' := by
 have he : Sp.apart (a, b) (c, d) = decide (b + 1 < c) := rfl
 rw [he]
 clear he
 by_cases h : b < c
 ·go_enter Tryz.func152, Tryz.ntmps152
  go_wp2
  go_ret
  exact ⟨rfl, ((Grew.refl _).alloc _).alloc _⟩
 ·have e : decide (b + 1 < c) = false := by simp; omega
  rw [e]
  clear e
  go_enter Tryz.func152, Tryz.ntmps152
  go_wp2
  go_ret
  exact ⟨rfl, ((Grew.refl _).alloc _).alloc _⟩
end Go.Proofs.YtaciogcpghbhjaaGreat.Span
namespace Go.Proofs.YtaciogcpghbhjaaGreat.Span
open Go.ChangeShapes Go.WideShapes Go.ChangeAt Go.RowKit
theorem has_true (zs : List (Int × Int)) (m : Int) (k : Nat) (hk : k < zs.length) (h : Sp.inR (zs.getD k (0, 0)) m = true) : Sp.has zs m = true := by
 simp only [Sp.has, List.any_eq_true]
 refine ⟨_, ?_, h⟩
 rw [List.getD_eq_getElem?_getD, List.getElem?_eq_getElem hk]
 exact List.getElem_mem _
theorem has_false (zs : List (Int × Int)) (m : Int) (h : ∀ k, k < zs.length -> Sp.inR (zs.getD k (0, 0)) m = false) : Sp.has zs m = false := by
 cases e : Sp.has zs m with
 | false => rfl
 | true =>
   simp only [Sp.has, List.any_eq_true] at e
   obtain ⟨r, hr, h1⟩ := e
   obtain ⟨i, hi, rfl⟩ := List.mem_iff_getElem.1 hr
   have := h i hi
   rw [List.getD_eq_getElem?_getD, List.getElem?_eq_getElem hi] at this
   simp [h1] at this
set_option maxHeartbeats 400000 in
theorem ref_has_any (A : Option Addr) (n c : Nat) (zs : List (Int × Int)) (m : Int) (w : World) (hn : n <= 1000000) (hA : Row encP 2 w w.heap.size A n zs) :
  Calls Tryz.prog 87 #[.slice A n c, .int .i64 m] w fun e w' => e = .returned (.bool (Sp.has zs m)) ∧ Quiet w w' := by
 have HL := Lib.hid hA.1
 go_enter Tryz.func87, Tryz.ntmps87
 go_wp2
 go_loopw [5] (fun i wr => ∃ k : Nat, k <= n ∧ i = .int .i64 k ∧ Quiet w wr ∧ Hid (∀ j, j < k -> Sp.inR (zs.getD j (0, 0)) m = false)) (fun i _ => n - (intOf i).toNat)
 case atStart => exact ⟨0, Nat.zero_le _, rfl, Quiet.refl _, fun j hj => absurd hj (Nat.not_lt_zero _)⟩
 case round =>
  obtain ⟨k, hk, rfl, hq, hg⟩ := hrel
  by_cases hlt : k < n
  ·obtain ⟨b, off, rfl, _⟩ := hA.addr (by omega)
   obtain ⟨_, c1, c2⟩ := hA.pair k hlt
   have d1 := (hq.cell _).trans c1
   have d2 := (hq.cell _).trans c2
   clear c1 c2
   obtain ⟨x1, x2, hx⟩ : ∃ p q, zs.getD k (0, 0) = (p, q) := ⟨_, _, rfl⟩
   rw [hx] at d1 d2
   have HX := Lib.hid hx
   clear hx
   simp only at d1 d2
   have hltz : (k : Int) < n := by omega
   have hk0 : (0 : Int) <= k := by omega
   have go_on : Sp.inR (x1, x2) m = false -> ∀ j, j < k + 1 -> Sp.inR (zs.getD j (0, 0)) m = false := fun h j hj => by
    rcases Nat.lt_or_ge j k with h1 | h1
    ·exact hg.out j h1
    ·obtain rfl : j = k := by omega
     rw [HX.out]; exact h
   by_cases h1 : x1 <= m
   ·by_cases h2 : m <= x2
    ·have G := Lib.hid (show Sp.inR (x1, x2) m = true by simp [Sp.inR, h1, h2])
     go_wp2
     go_ret
     rw [has_true zs m k (by rw [HL.out]; exact hlt) (by rw [HX.out]; exact G.out)]
     exact ⟨rfl, hq⟩
    ·have G := Lib.hid (show Sp.inR (x1, x2) m = false by simp [Sp.inR, h2])
     go_wp2
     go_roundw
     case rel => exact ⟨k + 1, by omega, by go_num, hq, go_on G.out⟩
     case measure => simp [intOf]; omega
   ·have G := Lib.hid (show Sp.inR (x1, x2) m = false by simp [Sp.inR, h1])
    go_wp2
    go_roundw
    case rel => exact ⟨k + 1, by omega, by go_num, hq, go_on G.out⟩
    case measure => simp [intOf]; omega
  ·obtain rfl : k = n := by omega
   go_wp2
   go_ret
   rw [has_false zs m (fun j hj => hg.out j (by rw [<- HL.out]; exact hj))]
   exact ⟨rfl, hq⟩
def Tests (g : Nat) (lb : Array Value) (p : Int × Int -> Bool) (w : World) : Prop :=
 ∀ (W : World) (x1 x2 : Int), Keep w W -> Calls Tryz.prog g (#[.agg #[.int .i64 x1, .int .i64 x2]] ++ lb) W fun e w' => e = .returned (.bool (p (x1, x2))) ∧ Keep W w'
theorem any_true (zs : List (Int × Int)) (p : Int × Int -> Bool) (k : Nat) (hk : k < zs.length) (h : p (zs.getD k (0, 0)) = true) : zs.any p = true := by
 simp only [List.any_eq_true]
 refine ⟨_, ?_, h⟩
 rw [List.getD_eq_getElem?_getD, List.getElem?_eq_getElem hk]
 exact List.getElem_mem _
theorem any_false (zs : List (Int × Int)) (p : Int × Int -> Bool) (h : ∀ k, k < zs.length -> p (zs.getD k (0, 0)) = false) : zs.any p = false := by
 cases e : zs.any p with
 | false => rfl
 | true =>
   simp only [List.any_eq_true] at e
   obtain ⟨r, hr, h1⟩ := e
   obtain ⟨i, hi, rfl⟩ := List.mem_iff_getElem.1 hr
   have := h i hi
   rw [List.getD_eq_getElem?_getD, List.getElem?_eq_getElem hi] at this
   simp [h1] at this
def First (zs : List (Int × Int)) (p : Int × Int -> Bool) (w : World) (e : Ending) (w' : World) : Prop :=
 ∃ i : Int, e = .returned (.int .i64 i) ∧ Keep w w' ∧ ((i = -1 ∧ ∀ j, j < zs.length -> p (zs.getD j (0, 0)) = false) ∨ ∃ k : Nat, i = k ∧ k < zs.length ∧ p (zs.getD k (0, 0)) = true ∧ ∀ j, j < k -> p (zs.getD j (0, 0)) = false)
set_option maxHeartbeats 400000 in
theorem index_any (A : Option Addr) (n c : Nat) (zs : List (Int × Int)) (g : Nat) (lb : Array Value) (p : Int × Int -> Bool) (w : World) (hn : n <= 1000000) (hA : Row encP 2 w w.heap.size A n zs)
  (eg : ∀ args w, (callFunc g args).run Tryz.prog w = .ok (.enter g args) w) (hp : Tests g lb p w) :
  Calls Tryz.prog 140 #[.slice A n c, .func (.func g) #[] lb] w (First zs p w) := by
 have HL := Lib.hid hA.1
 go_enter Tryz.func140, Tryz.ntmps140
 go_wp2
 go_loopw [8] (fun i wr => ∃ k : Nat, k <= n ∧ i = .int .i64 k ∧ Keep w wr ∧ Hid (∀ j, j < k -> p (zs.getD j (0, 0)) = false)) (fun i _ => n - (intOf i).toNat)
 case atStart => exact ⟨0, Nat.zero_le _, rfl, Keep.refl _, fun j hj => absurd hj (Nat.not_lt_zero _)⟩
 case round =>
  obtain ⟨k, hk, rfl, hq, hg⟩ := hrel
  by_cases hlt : k < n
  ·obtain ⟨b, off, rfl, _⟩ := hA.addr (by omega)
   obtain ⟨hb, c1, c2⟩ := hA.pair k hlt
   have d1 := (hq.cell (p := ⟨b, off + k * 2, none⟩) hb).trans c1
   have d2 := (hq.cell (p := ⟨b, off + k * 2 + 1, none⟩) hb).trans c2
   clear c1 c2
   obtain ⟨x1, x2, hx⟩ : ∃ p q, zs.getD k (0, 0) = (p, q) := ⟨_, _, rfl⟩
   rw [hx] at d1 d2
   have HX := Lib.hid hx
   clear hx
   simp only at d1 d2
   have hltz : (k : Int) < n := by omega
   have hk0 : (0 : Int) <= k := by omega
   have hcall := hp wr x1 x2 hq
   have go_on : p (x1, x2) = false -> ∀ j, j < k + 1 -> p (zs.getD j (0, 0)) = false := fun h j hj => by
    rcases Nat.lt_or_ge j k with h1 | h1
    ·exact hg.out j h1
    ·obtain rfl : j = k := by omega
     rw [HX.out]; exact h
   cases hv : p (x1, x2) with
   | true =>
     rw [hv] at hcall
     have HV := Lib.hid hv
     clear hv
     go_wp2_with fail
     refine hcall.mono ?_
     rintro e w1 ⟨rfl, hk1⟩
     go_wp2
     go_ret
     exact ⟨k, rfl, hq.trans hk1, .inr ⟨k, rfl, by rw [HL.out]; exact hlt, by rw [HX.out]; exact HV.out, hg.out⟩⟩
   | false =>
     rw [hv] at hcall
     have HV := Lib.hid hv
     clear hv
     go_wp2_with fail
     refine hcall.mono ?_
     rintro e w1 ⟨rfl, hk1⟩
     go_wp2
     go_roundw
     case rel => exact ⟨k + 1, by omega, by go_num, hq.trans hk1, go_on HV.out⟩
     case measure => simp [intOf]; omega
  ·obtain rfl : k = n := by omega
   go_wp2
   go_ret
   exact ⟨-1, rfl, hq, .inl ⟨rfl, fun j hj => hg.out j (by rw [<- HL.out]; exact hj)⟩⟩
set_option maxHeartbeats 400000 in
theorem contains_any (A : Option Addr) (n c : Nat) (zs : List (Int × Int)) (g : Nat) (lb : Array Value) (p : Int × Int -> Bool) (w : World) (hn : n <= 1000000) (hA : Row encP 2 w w.heap.size A n zs)
  (eg : ∀ args w, (callFunc g args).run Tryz.prog w = .ok (.enter g args) w) (hp : Tests g lb p w) :
  Calls Tryz.prog 131 #[.slice A n c, .func (.func g) #[] lb] w fun e w' => e = .returned (.bool (zs.any p)) ∧ Keep w w' := by
 have hcon := index_any A n c zs g lb p w hn hA eg hp
 obtain ⟨r, hr⟩ : ∃ r, r = zs.any p := ⟨_, rfl⟩
 rw [<- hr]
 have HR := Lib.hid hr
 clear hr hp hA
 go_enter Tryz.func131, Tryz.ntmps131
 go_wp2_with fail
 refine hcon.mono ?_
 rintro e w1 ⟨i, rfl, hk, hi⟩
 have HI := Lib.hid hi
 clear hi hcon
 rcases HI.out with ⟨h1, h2⟩ | ⟨k, h1, h2, h3, h4⟩
 ·obtain rfl := h1
  have e := any_false zs p h2
  clear h2
  rw [<- HR.out] at e
  subst e
  go_wp2
  go_ret
  exact ⟨rfl, hk⟩
 ·obtain rfl := h1
  have e := any_true zs p k h2 h3
  clear h2 h3 h4
  rw [<- HR.out] at e
  subst e
  have h0 : (0 : Int) <= k := by omega
  go_wp2
  go_ret
  exact ⟨rfl, hk⟩
end Go.Proofs.YtaciogcpghbhjaaGreat.Span
