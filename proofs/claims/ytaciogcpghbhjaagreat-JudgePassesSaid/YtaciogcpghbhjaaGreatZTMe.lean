/- Of these texts: Me. Conditions: as each part says. -/
import Derived.Test.YtaciogcpghbhjaaGreatZTMeR
import Derived.Test.YtaciogcpghbhjaaGreatZTTrCf
import Derived.Test.YtaciogcpghbhjaaGreatZTSpN
import Derived.Test.YtaciogcpghbhjaaGreatZTFaGN
import Derived.Shelf.Abstract
/- The developers' mean: atoms, Holds, First. Conditions: lists of facts at most a thousand, ranges at most a hundred thousand. -/
namespace Go.Proofs.YtaciogcpghbhjaaGreat.Mean
set_option linter.unusedVariables false
set_option linter.unusedSimpArgs false
open Go.ChangeShapes Go.WideShapes Go.ChangeAt Go.RowKit
open Tr (kind field rs lo hi of zero zeroR dp dp_of dp_pos Ex Exs ElemAt Rus RuleAt wf fits getD_mem all_snoc all_no ret_bool)
open Tree (any_snoc any_yes)
open Fa (FaAt Near near encFl RetReals row_float)
open Re (withB leB)
open Me
def TestsI (g : Nat) (lb : Array Value) (p : Int -> Bool) (w : World) : Prop :=
 ∀ (W : World) (z : Int), Keep w W -> Calls Tryz.prog g (#[.int .i64 z] ++ lb) W fun e w' => e = .returned (.bool (p z)) ∧ Keep W w'
def TestsF (g : Nat) (lb : Array Value) (p : Nat -> Bool) (w : World) : Prop :=
 ∀ (W : World) (z : Nat), Keep w W -> Calls Tryz.prog g (#[.float .f64 z] ++ lb) W fun e w' => e = .returned (.bool (p z)) ∧ Keep W w'
def idx {α : Type} (p : α -> Bool) : List α -> Int -> Int
 | [], _ => -1
 | a :: l, i => if p a then i else idx p l (i + 1)
theorem idx_step {α : Type} {p : α -> Bool} {l : List α} (z : α) {j : Nat} (h : j < l.length) (i : Int) : idx p (l.drop j) i = if p (l.getD j z) then i else idx p (l.drop (j + 1)) (i + 1) := by
 have e : l.drop j = l.getD j z :: l.drop (j + 1) := by
  rw [List.drop_eq_getElem_cons h, List.getD_eq_getElem?_getD, List.getElem?_eq_getElem h]; rfl
 rw [e, idx]
theorem idx_any {α : Type} (p : α -> Bool) : ∀ (l : List α) (i : Int), 0 <= i -> decide (0 <= idx p l i) = l.any p
 | [], i, _ => rfl
 | a :: l, i, h => by
   rw [idx, List.any_cons]
   cases p a with
   | true => simpa using h
   | false => simpa using idx_any p l (i + 1) (by omega)
set_option maxHeartbeats 1000000 in
theorem indexI_any (A : Option Addr) (n c : Nat) (zs : List Int) (g : Nat) (lb : Array Value) (p : Int -> Bool) (w : World) (hn : n <= 1000000) (hA : Ints .i64 w w.heap.size A n zs)
  (eg : ∀ args w, (callFunc g args).run Tryz.prog w = .ok (.enter g args) w) (hp : TestsI g lb p w) :
  Calls Tryz.prog 115 #[.slice A n c, .func (.func g) #[] lb] w fun e w' => e = .returned (.int .i64 (idx p zs 0)) ∧ Keep w w' := by
 have HL := Lib.hid hA.1
 go_enter Tryz.func115, Tryz.ntmps115
 go_wp2
 go_loopw [8] (fun i wr => ∃ k : Nat, k <= n ∧ i = .int .i64 k ∧ Keep w wr ∧ Hid (idx p zs 0 = idx p (zs.drop k) k)) (fun i _ => n - (intOf i).toNat)
 case atStart => exact ⟨0, Nat.zero_le _, rfl, Keep.refl _, rfl⟩
 case round =>
  obtain ⟨k, hk, rfl, hq, hg⟩ := hrel
  by_cases hlt : k < n
  ·have hAr := hA.kept hq
   obtain ⟨b, off, rfl, _⟩ : ∃ b off, A = some ⟨b, off, none⟩ ∧ b < wr.heap.size := by
    obtain ⟨b, off, e, h1, _⟩ := hAr.2 (by omega)
    exact ⟨b, off, e, h1⟩
   have d1 := ints_cell hAr k hlt
   have HN := Lib.hid (idx_step (p := p) 0 (show k < zs.length by rw [HL.out]; exact hlt) (k : Int))
   obtain ⟨u, hu⟩ : ∃ u, zs.getD k 0 = u := ⟨_, rfl⟩
   rw [hu] at d1 HN
   have hltz : (k : Int) < n := by omega
   have hk0 : (0 : Int) <= k := by omega
   have hcall := hp wr u hq
   clear hAr hu
   cases hv : p u with
   | true =>
     rw [hv] at hcall
     have HV := Lib.hid (show idx p zs 0 = (k : Int) by rw [hg.out, HN.out, hv]; rfl)
     clear hv HN
     go_wp2_with fail
     refine hcall.mono ?_
     rintro e w1 ⟨rfl, hk1⟩
     go_wp2
     go_ret
     exact ⟨by rw [HV.out]; rfl, hq.trans hk1⟩
   | false =>
     rw [hv] at hcall
     have HV := Lib.hid (show idx p zs 0 = idx p (zs.drop (k + 1)) ((k + 1 : Nat) : Int) by rw [hg.out, HN.out, hv]; rfl)
     clear hv HN
     go_wp2_with fail
     refine hcall.mono ?_
     rintro e w1 ⟨rfl, hk1⟩
     go_wp2
     go_roundw
     case rel => exact ⟨k + 1, by omega, by go_num, hq.trans hk1, HV⟩
     case measure => simp [intOf]; omega
  ·obtain rfl : k = n := by omega
   have HV := Lib.hid (show idx p zs 0 = -1 by rw [hg.out, List.drop_of_length_le (by rw [HL.out]; exact Nat.le_refl _)]; rfl)
   go_wp2
   go_ret
   exact ⟨by rw [HV.out]; rfl, hq⟩
set_option maxHeartbeats 1000000 in
theorem containsI_any (A : Option Addr) (n c : Nat) (zs : List Int) (g : Nat) (lb : Array Value) (p : Int -> Bool) (w : World) (hn : n <= 1000000) (hA : Ints .i64 w w.heap.size A n zs)
  (eg : ∀ args w, (callFunc g args).run Tryz.prog w = .ok (.enter g args) w) (hp : TestsI g lb p w) :
  Calls Tryz.prog 102 #[.slice A n c, .func (.func g) #[] lb] w fun e w' => e = .returned (.bool (zs.any p)) ∧ Keep w w' := by
 have hcon := indexI_any A n c zs g lb p w hn hA eg hp
 have HI := Lib.hid (idx_any p zs 0 (Int.le_refl 0))
 generalize idx p zs 0 = i at *
 clear hp hA
 go_enter Tryz.func102, Tryz.ntmps102
 go_wp2_with fail
 refine hcon.mono ?_
 rintro e w1 ⟨rfl, hk⟩
 go_wp2
 go_ret
 exact ⟨ret_bool HI.out, hk⟩
set_option maxHeartbeats 1000000 in
theorem indexF_any (A : Option Addr) (n c : Nat) (zs : List Nat) (g : Nat) (lb : Array Value) (p : Nat -> Bool) (w : World) (hn : n <= 1000000) (hA : Row encFl 1 w w.heap.size A n zs)
  (eg : ∀ args w, (callFunc g args).run Tryz.prog w = .ok (.enter g args) w) (hp : TestsF g lb p w) :
  Calls Tryz.prog 146 #[.slice A n c, .func (.func g) #[] lb] w fun e w' => e = .returned (.int .i64 (idx p zs 0)) ∧ Keep w w' := by
 have HL := Lib.hid hA.1
 go_enter Tryz.func146, Tryz.ntmps146
 go_wp2
 go_loopw [8] (fun i wr => ∃ k : Nat, k <= n ∧ i = .int .i64 k ∧ Keep w wr ∧ Hid (idx p zs 0 = idx p (zs.drop k) k)) (fun i _ => n - (intOf i).toNat)
 case atStart => exact ⟨0, Nat.zero_le _, rfl, Keep.refl _, rfl⟩
 case round =>
  obtain ⟨k, hk, rfl, hq, hg⟩ := hrel
  by_cases hlt : k < n
  ·have hAr := hA.kept hq
   obtain ⟨b, off, rfl, _⟩ := hAr.addr (by omega)
   have d1 := (row_float hAr k hlt).2
   have HN := Lib.hid (idx_step (p := p) 0 (show k < zs.length by rw [HL.out]; exact hlt) (k : Int))
   obtain ⟨u, hu⟩ : ∃ u, zs.getD k 0 = u := ⟨_, rfl⟩
   rw [hu] at d1 HN
   have hltz : (k : Int) < n := by omega
   have hk0 : (0 : Int) <= k := by omega
   have hcall := hp wr u hq
   clear hAr hu
   cases hv : p u with
   | true =>
     rw [hv] at hcall
     have HV := Lib.hid (show idx p zs 0 = (k : Int) by rw [hg.out, HN.out, hv]; rfl)
     clear hv HN
     go_wp2_with fail
     refine hcall.mono ?_
     rintro e w1 ⟨rfl, hk1⟩
     go_wp2
     go_ret
     exact ⟨by rw [HV.out]; rfl, hq.trans hk1⟩
   | false =>
     rw [hv] at hcall
     have HV := Lib.hid (show idx p zs 0 = idx p (zs.drop (k + 1)) ((k + 1 : Nat) : Int) by rw [hg.out, HN.out, hv]; rfl)
     clear hv HN
     go_wp2_with fail
     refine hcall.mono ?_
     rintro e w1 ⟨rfl, hk1⟩
     go_wp2
     go_roundw
     case rel => exact ⟨k + 1, by omega, by go_num, hq.trans hk1, HV⟩
     case measure => simp [intOf]; omega
  ·obtain rfl : k = n := by omega
   have HV := Lib.hid (show idx p zs 0 = -1 by rw [hg.out, List.drop_of_length_le (by rw [HL.out]; exact Nat.le_refl _)]; rfl)
   go_wp2
   go_ret
   exact ⟨by rw [HV.out]; rfl, hq⟩
set_option maxHeartbeats 1000000 in
theorem containsF_any (A : Option Addr) (n c : Nat) (zs : List Nat) (g : Nat) (lb : Array Value) (p : Nat -> Bool) (w : World) (hn : n <= 1000000) (hA : Row encFl 1 w w.heap.size A n zs)
  (eg : ∀ args w, (callFunc g args).run Tryz.prog w = .ok (.enter g args) w) (hp : TestsF g lb p w) :
  Calls Tryz.prog 137 #[.slice A n c, .func (.func g) #[] lb] w fun e w' => e = .returned (.bool (zs.any p)) ∧ Keep w w' := by
 have hcon := indexF_any A n c zs g lb p w hn hA eg hp
 have HI := Lib.hid (idx_any p zs 0 (Int.le_refl 0))
 generalize idx p zs 0 = i at *
 clear hp hA
 go_enter Tryz.func137, Tryz.ntmps137
 go_wp2_with fail
 refine hcon.mono ?_
 rintro e w1 ⟨rfl, hk⟩
 go_wp2
 go_ret
 exact ⟨ret_bool HI.out, hk⟩
set_option maxHeartbeats 1000000 in
theorem cover1_any (A : Option Addr) (n c : Nat) (zs : List (Int × Int)) (p q : Int) (Q : Nat) (w : World) (hn : n <= 100000) (hA : Row encP 2 w w.heap.size A n zs) (hf : ∀ r ∈ zs, Span.Fit r) (hQ : Bx w Q [.slice A n c]) :
  Calls Tryz.prog 133 #[.agg #[.int .i64 p, .int .i64 q], .pointer (some ⟨Q, 0, none⟩)] w fun e w' => e = .returned (.bool (!(Sp.covers (Sp.norm zs) (p, q)))) ∧ Keep w w' := by
 have kb := (Keep.refl w).alloc (.cells #[.int .i64 p, .int .i64 q] 87)
 have C := Lib.hid (Span.covers_any A n c zs p q _ hn (hA.kept kb) hf)
 have b0 := (hQ.kept kb).one
 have hne : Q ≠ w.heap.size := Nat.ne_of_lt hQ.1
 have hc := hQ.one
 generalize Sp.covers (Sp.norm zs) (p, q) = v at *
 clear hA hf hQ
 go_enter Tryz.func133, Tryz.ntmps133
 go_wp2_with fail
 refine C.out.mono ?_
 rintro e w1 ⟨rfl, hk⟩
 go_wp2
 go_ret
 exact ⟨rfl, kb.trans hk⟩
set_option maxHeartbeats 1000000 in
theorem have1_any (A : Option Addr) (n c : Nat) (zs : List (Int × Int)) (m : Int) (Q : Nat) (w : World) (hn : n <= 100000) (hA : Row encP 2 w w.heap.size A n zs) (hQ : Bx w Q [.slice A n c]) :
  Calls Tryz.prog 135 #[.int .i64 m, .pointer (some ⟨Q, 0, none⟩)] w fun e w' => e = .returned (.bool (!(Sp.has zs m))) ∧ Keep w w' := by
 have C := Lib.hid (Span.has_any A n c zs m w (by omega) hA)
 have hc := hQ.one
 generalize Sp.has zs m = v at *
 clear hA hQ
 go_enter Tryz.func135, Tryz.ntmps135
 go_wp2_with fail
 refine C.out.mono ?_
 rintro e w1 ⟨rfl, hk⟩
 go_wp2
 go_ret
 exact ⟨rfl, hk⟩
set_option maxHeartbeats 1000000 in
theorem within1_any (u l h : Nat) (P Q : Nat) (w : World) (hP : Bx w P [.float .f64 l]) (hQ : Bx w Q [.float .f64 h]) :
  Calls Tryz.prog 138 #[.float .f64 u, .pointer (some ⟨P, 0, none⟩), .pointer (some ⟨Q, 0, none⟩)] w fun e w' => e = .returned (.bool (!(withB u l h))) ∧ Keep w w' := by
 have C := Lib.hid (Re.within_any u l h w)
 have hp := hP.one
 have hq := hQ.one
 generalize withB u l h = v at *
 clear hP hQ
 go_enter Tryz.func138, Tryz.ntmps138
 go_wp2_with fail
 refine C.out.mono ?_
 rintro e w1 ⟨rfl, rfl⟩
 go_wp2
 go_ret
 exact ⟨rfl, Keep.refl _⟩
theorem not_any_not {α : Type} (p : α -> Bool) (l : List α) : (!(l.any fun a => !(p a))) = l.all p := by
 induction l with
 | nil => rfl
 | cons a l ih => rw [List.any_cons, List.all_cons, <- ih]; cases p a <;> simp
set_option maxHeartbeats 1000000 in
theorem coverAll_any (A B : Option Addr) (n c m d : Nat) (zs ss : List (Int × Int)) (w : World) (hn : n <= 100000) (hm : m <= 100000) (hA : Row encP 2 w w.heap.size A n zs) (hf : ∀ r ∈ zs, Span.Fit r) (hB : Row encP 2 w w.heap.size B m ss) :
  Calls Tryz.prog 127 #[.slice A n c, .slice B m d] w fun e w' => e = .returned (.bool (ss.all fun p => Sp.covers (Sp.norm zs) p)) ∧ Keep w w' := by
 obtain ⟨X, hX⟩ : ∃ X, X = w.alloc (.cells #[.slice A n c] 52) := ⟨_, rfl⟩
 have kX : Keep w X := by rw [hX]; exact (Keep.refl w).alloc _
 have bX : Bx X w.heap.size [.slice A n c] := by rw [hX]; exact Bx.newq rfl
 have eg := enters_of Tryz.func133 (by kernel_rfl) rfl
 have ht : Span.Tests 133 #[.pointer (some ⟨w.heap.size, 0, none⟩)] (fun p => !(Sp.covers (Sp.norm zs) p)) X := fun W x1 x2 hk => cover1_any A n c zs x1 x2 w.heap.size W hn (hA.kept (kX.trans hk)) hf (bX.kept hk)
 have HC := Lib.hid (Span.contains_any B m d ss 133 #[.pointer (some ⟨w.heap.size, 0, none⟩)] (fun p => !(Sp.covers (Sp.norm zs) p)) X (by omega) (hB.kept kX) eg ht)
 have HS := Lib.hid (not_any_not (fun p => Sp.covers (Sp.norm zs) p) ss)
 generalize (ss.any fun p => !(Sp.covers (Sp.norm zs) p)) = q at *
 clear hA hB hf ht eg bX
 go_enter Tryz.func127, Tryz.ntmps127
 go_wp2_with fail
 rw [<- hX]
 clear hX
 refine HC.out.mono ?_
 rintro e w1 ⟨rfl, hk⟩
 go_wp2
 go_ret
 exact ⟨ret_bool HS.out, kX.trans hk⟩
set_option maxHeartbeats 1000000 in
theorem haveAll_any (A B : Option Addr) (n c m d : Nat) (zs : List (Int × Int)) (vs : List Int) (w : World) (hn : n <= 100000) (hm : m <= 100000) (hA : Row encP 2 w w.heap.size A n zs) (hB : Ints .i64 w w.heap.size B m vs) :
  Calls Tryz.prog 128 #[.slice A n c, .slice B m d] w fun e w' => e = .returned (.bool (vs.all fun v => Sp.has zs v)) ∧ Keep w w' := by
 obtain ⟨X, hX⟩ : ∃ X, X = w.alloc (.cells #[.slice A n c] 52) := ⟨_, rfl⟩
 have kX : Keep w X := by rw [hX]; exact (Keep.refl w).alloc _
 have bX : Bx X w.heap.size [.slice A n c] := by rw [hX]; exact Bx.newq rfl
 have eg := enters_of Tryz.func135 (by kernel_rfl) rfl
 have ht : TestsI 135 #[.pointer (some ⟨w.heap.size, 0, none⟩)] (fun v => !(Sp.has zs v)) X := fun W z hk => have1_any A n c zs z w.heap.size W hn (hA.kept (kX.trans hk)) (bX.kept hk)
 have HC := Lib.hid (containsI_any B m d vs 135 #[.pointer (some ⟨w.heap.size, 0, none⟩)] (fun v => !(Sp.has zs v)) X (by omega) (hB.kept kX) eg ht)
 have HS := Lib.hid (not_any_not (fun v => Sp.has zs v) vs)
 generalize (vs.any fun v => !(Sp.has zs v)) = q at *
 clear hA hB ht eg bX
 go_enter Tryz.func128, Tryz.ntmps128
 go_wp2_with fail
 rw [<- hX]
 clear hX
 refine HC.out.mono ?_
 rintro e w1 ⟨rfl, hk⟩
 go_wp2
 go_ret
 exact ⟨ret_bool HS.out, kX.trans hk⟩
set_option maxHeartbeats 2000000 in
theorem areWithin_any (x : FactsP) (QA : Option Addr) (c3 : Nat) (l h : Nat) (w : World) (hn : x.rg.length <= 1000) (h3 : x.rg.length <= c3) (h3m : c3 <= maxLen) (hA : Ints .i64 w w.heap.size QA x.rg.length x.rg) :
  Calls Tryz.prog 129 #[.slice QA x.rg.length c3, .float .f64 l, .float .f64 h] w fun e w' => e = .returned (.bool (real x l h)) ∧ Keep w w' := by
 obtain ⟨X, hX⟩ : ∃ X, X = (w.alloc (.cells #[.float .f64 l] 56)).alloc (.cells #[.float .f64 h] 56) := ⟨_, rfl⟩
 have kX : Keep w X := by rw [hX]; exact ((Keep.refl w).alloc _).alloc _
 have bL : Bx X w.heap.size [.float .f64 l] := by rw [hX]; exact (Bx.newq rfl).alloc _
 have bH : Bx X (w.heap.size + 1) [.float .f64 h] := by rw [hX]; exact Bx.newq (by simp)
 have eg := enters_of Tryz.func138 (by kernel_rfl) rfl
 have CR := Facts.reals_any QA x.rg.length c3 x.rg X (by omega) h3 h3m (hA.kept kX)
 cases hre : Fa.reals x.rg with
 | none =>
   have HN := Lib.hid (real_none (l := l) (h := h) hre)
   have CR2 := Lib.hid (CR.mono fun e w' hh => (by unfold RetReals at hh; rw [hre] at hh; exact hh : ∃ A c, e = .returned (.tuple #[.slice A 0 c, .bool false]) ∧ Keep X w'))
   clear hre CR bL bH eg hA
   go_enter Tryz.func129, Tryz.ntmps129
   go_wp2_with fail
   rw [<- hX]
   clear hX
   refine CR2.out.mono ?_
   rintro e w1 ⟨A, c, rfl, hk1⟩
   go_wp2
   go_ret
   exact ⟨ret_bool HN.out.symm, kX.trans hk1⟩
 | some bs =>
   have HSS := Lib.hid (fun ys (hn : Near ys bs) => real_some (l := l) (h := h) hre hn)
   have HLB := Lib.hid (show bs.length <= 1000 from Nat.le_trans (reals_len' _ _ hre) hn)
   have CR2 := Lib.hid (CR.mono fun e w' hh => (by unfold RetReals at hh; rw [hre] at hh; exact hh : ∃ A c ys, e = .returned (.tuple #[.slice A ys.length c, .bool true]) ∧ Row encFl 1 w' w'.heap.size A ys.length ys ∧ Near ys bs ∧ Keep X w'))
   clear hre CR hA
   go_enter Tryz.func129, Tryz.ntmps129
   go_wp2_with fail
   rw [<- hX]
   clear hX
   refine CR2.out.mono ?_
   rintro e w1 ⟨A, c, ys, rfl, hrow, hnr, hk1⟩
   have hys : ys.length <= 1000 := by rw [hnr.len]; exact HLB.out
   have HSS := Lib.hid (HSS.out ys hnr)
   have ht : TestsF 138 #[.pointer (some ⟨w.heap.size, 0, none⟩), .pointer (some ⟨w.heap.size + 1, 0, none⟩)] (fun u => !(withB u l h)) w1 := fun W z hk => within1_any z l h w.heap.size (w.heap.size + 1) W (bL.kept (hk1.trans hk)) (bH.kept (hk1.trans hk))
   have HC := Lib.hid (containsF_any A ys.length c ys 138 #[.pointer (some ⟨w.heap.size, 0, none⟩), .pointer (some ⟨w.heap.size + 1, 0, none⟩)] (fun u => !(withB u l h)) w1 (by omega) hrow eg ht)
   have HS := Lib.hid ((not_any_not (fun u => withB u l h) ys).trans HSS.out.symm)
   generalize (ys.any fun u => !(withB u l h)) = q at *
   clear hrow ht eg bL bH hnr hys
   go_wp2_with fail
   refine HC.out.mono ?_
   rintro e w2 ⟨rfl, hk2⟩
   go_wp2
   go_ret
   exact ⟨ret_bool HS.out, (kX.trans hk1).trans hk2⟩
set_option maxHeartbeats 4000000 in
theorem atom_any (e : ExprP) (RA OA : Option Addr) (rc oc : Nat) (x : FactsP) (SA VA QA : Option Addr) (c1 c2 c3 : Nat) (w : World) (hw : okE e) (hr : (rs e).length <= 100000) (hfi : 1 <= field e ∧ field e <= 6) (hx : fewF x) (h3 : x.rg.length <= c3) (h3m : c3 <= maxLen) (hE : Ex w e RA OA) (hF : FaAt w x SA VA QA) :
  Calls Tryz.prog 119 #[.agg #[.int .i64 (kind e), .int .i64 (field e), .slice RA (rs e).length rc, .float .f64 (lo e), .float .f64 (hi e), .slice OA (of e).length oc], .agg #[.int .i64 x.cl, .int .i64 x.un, .int .i64 x.fc, .slice SA x.sp.length c1, .slice VA x.vs.length c2, .slice QA x.rg.length c3]] w fun e' w' => e' = .returned (.bool (atom (field e) (rs e) (lo e) (hi e) x)) ∧ Keep w w' := by
 have hR := hE.1
 obtain ⟨k, f, r, l, h, o⟩ := e
 have hfit := hw.fit
 simp only [kind, field, rs, lo, hi, of] at hR hr hfi ⊢
 obtain ⟨x1, x2, x3⟩ := hx
 obtain ⟨hS, hV, hQ⟩ := hF
 obtain ⟨X, hX⟩ : ∃ X, X = (w.alloc (.cells #[.int .i64 k, .int .i64 f, .slice RA r.length rc, .float .f64 l, .float .f64 h, .slice OA o.length oc] 59)).alloc (.cells #[.int .i64 x.cl, .int .i64 x.un, .int .i64 x.fc, .slice SA x.sp.length c1, .slice VA x.vs.length c2, .slice QA x.rg.length c3] 54) := ⟨_, rfl⟩
 have hkX : Keep w X := by rw [hX]; exact ((Keep.refl w).alloc _).alloc _
 have bE : Bx X w.heap.size [.int .i64 k, .int .i64 f, .slice RA r.length rc, .float .f64 l, .float .f64 h, .slice OA o.length oc] := by rw [hX]; exact (Bx.newq rfl).alloc _
 have bF : Bx X (w.heap.size + 1) [.int .i64 x.cl, .int .i64 x.un, .int .i64 x.fc, .slice SA x.sp.length c1, .slice VA x.vs.length c2, .slice QA x.rg.length c3] := by rw [hX]; exact Bx.newq (by simp)
 have HE := Lib.hid (show ∀ W, Keep X W -> Bx W w.heap.size [.int .i64 k, .int .i64 f, .slice RA r.length rc, .float .f64 l, .float .f64 h, .slice OA o.length oc] from fun W hk => bE.kept hk)
 have HF := Lib.hid (show ∀ W, Keep X W -> Bx W (w.heap.size + 1) [.int .i64 x.cl, .int .i64 x.un, .int .i64 x.fc, .slice SA x.sp.length c1, .slice VA x.vs.length c2, .slice QA x.rg.length c3] from fun W hk => bF.kept hk)
 clear bE bF
 have CH := Lib.hid (fun (W : World) (m : Int) (hk : Keep X W) => Span.has_any RA r.length rc r m W (by omega) (hR.kept (hkX.trans hk)))
 have C4 := Lib.hid (fun (W : World) (hk : Keep X W) => coverAll_any RA SA r.length rc x.sp.length c1 r x.sp W hr (by omega) (hR.kept (hkX.trans hk)) hfit (hS.kept (hkX.trans hk)))
 have C5 := Lib.hid (fun (W : World) (hk : Keep X W) => haveAll_any RA VA r.length rc x.vs.length c2 r x.vs W hr (by omega) (hR.kept (hkX.trans hk)) (hV.kept (hkX.trans hk)))
 have C6 := Lib.hid (fun (W : World) (hk : Keep X W) => areWithin_any x QA c3 l h W (by omega) h3 h3m (hQ.kept (hkX.trans hk)))
 clear hR hfit hS hV hQ hE hw
 by_cases q1 : f = 1
 ·have HA := Lib.hid (show atom f r l h x = (Sp.has r x.cl) by unfold atom; rw [if_pos q1])
  have d1 : (f == 1) = true := by simpa using q1
  clear q1 hfi
  go_enter Tryz.func119, Tryz.ntmps119
  go_wp2_with fail
  rw [<- hX]
  clear hX
  refine (CH.out _ x.cl (Keep.refl _)).mono ?_
  rintro e w1 ⟨rfl, hq⟩
  go_wp2
  go_ret
  exact ⟨ret_bool HA.out.symm, hkX.trans hq⟩
 by_cases q2 : f = 2
 ·have HA := Lib.hid (show atom f r l h x = (Sp.has r x.un) by unfold atom; rw [if_neg q1, if_pos q2])
  have d1 : (f == 1) = false := by simpa using q1
  have d2 : (f == 2) = true := by simpa using q2
  clear q1 q2 hfi
  go_enter Tryz.func119, Tryz.ntmps119
  go_wp2_with fail
  rw [<- hX]
  clear hX
  refine (CH.out _ x.un (Keep.refl _)).mono ?_
  rintro e w1 ⟨rfl, hq⟩
  go_wp2
  go_ret
  exact ⟨ret_bool HA.out.symm, hkX.trans hq⟩
 by_cases q3 : f = 3
 ·have HA := Lib.hid (show atom f r l h x = (Sp.has r x.fc) by unfold atom; rw [if_neg q1, if_neg q2, if_pos q3])
  have d1 : (f == 1) = false := by simpa using q1
  have d2 : (f == 2) = false := by simpa using q2
  have d3 : (f == 3) = true := by simpa using q3
  clear q1 q2 q3 hfi
  go_enter Tryz.func119, Tryz.ntmps119
  go_wp2_with fail
  rw [<- hX]
  clear hX
  refine (CH.out _ x.fc (Keep.refl _)).mono ?_
  rintro e w1 ⟨rfl, hq⟩
  go_wp2
  go_ret
  exact ⟨ret_bool HA.out.symm, hkX.trans hq⟩
 by_cases q4 : f = 4
 ·have HA := Lib.hid (show atom f r l h x = (x.sp.all fun p => Sp.covers (Sp.norm r) p) by unfold atom; rw [if_neg q1, if_neg q2, if_neg q3, if_pos q4])
  have d1 : (f == 1) = false := by simpa using q1
  have d2 : (f == 2) = false := by simpa using q2
  have d3 : (f == 3) = false := by simpa using q3
  have d4 : (f == 4) = true := by simpa using q4
  clear q1 q2 q3 q4 hfi
  generalize (x.sp.all fun p => Sp.covers (Sp.norm r) p) = v at *
  go_enter Tryz.func119, Tryz.ntmps119
  go_wp2_with fail
  rw [<- hX]
  clear hX
  refine (C4.out _ (Keep.refl _)).mono ?_
  rintro e w1 ⟨rfl, hq⟩
  go_wp2
  go_ret
  exact ⟨ret_bool HA.out.symm, hkX.trans hq⟩
 by_cases q5 : f = 5
 ·have HA := Lib.hid (show atom f r l h x = (x.vs.all fun v => Sp.has r v) by unfold atom; rw [if_neg q1, if_neg q2, if_neg q3, if_neg q4, if_pos q5])
  have d1 : (f == 1) = false := by simpa using q1
  have d2 : (f == 2) = false := by simpa using q2
  have d3 : (f == 3) = false := by simpa using q3
  have d4 : (f == 4) = false := by simpa using q4
  have d5 : (f == 5) = true := by simpa using q5
  clear q1 q2 q3 q4 q5 hfi
  generalize (x.vs.all fun v => Sp.has r v) = v at *
  go_enter Tryz.func119, Tryz.ntmps119
  go_wp2_with fail
  rw [<- hX]
  clear hX
  refine (C5.out _ (Keep.refl _)).mono ?_
  rintro e w1 ⟨rfl, hq⟩
  go_wp2
  go_ret
  exact ⟨ret_bool HA.out.symm, hkX.trans hq⟩
 by_cases q6 : f = 6
 ·have HA := Lib.hid (show atom f r l h x = (real x l h) by unfold atom; rw [if_neg q1, if_neg q2, if_neg q3, if_neg q4, if_neg q5])
  have d1 : (f == 1) = false := by simpa using q1
  have d2 : (f == 2) = false := by simpa using q2
  have d3 : (f == 3) = false := by simpa using q3
  have d4 : (f == 4) = false := by simpa using q4
  have d5 : (f == 5) = false := by simpa using q5
  have d6 : (f == 6) = true := by simpa using q6
  clear q1 q2 q3 q4 q5 q6 hfi
  generalize (real x l h) = v at *
  go_enter Tryz.func119, Tryz.ntmps119
  go_wp2_with fail
  rw [<- hX]
  clear hX
  refine (C6.out _ (Keep.refl _)).mono ?_
  rintro e w1 ⟨rfl, hq⟩
  go_wp2
  go_ret
  exact ⟨ret_bool HA.out.symm, hkX.trans hq⟩
 omega
set_option maxHeartbeats 1000000 in
theorem holds1_any (e : ExprP) (RA OA : Option Addr) (rc oc : Nat) (x : FactsP) (SA VA QA : Option Addr) (c1 c2 c3 : Nat) (Q : Nat) (w : World) (hQ : Bx w Q [.int .i64 x.cl, .int .i64 x.un, .int .i64 x.fc, .slice SA x.sp.length c1, .slice VA x.vs.length c2, .slice QA x.rg.length c3])
  (hC : ∀ W, Keep w W -> Calls Tryz.prog 107 #[.agg #[.int .i64 (kind e), .int .i64 (field e), .slice RA (rs e).length rc, .float .f64 (lo e), .float .f64 (hi e), .slice OA (of e).length oc], .agg #[.int .i64 x.cl, .int .i64 x.un, .int .i64 x.fc, .slice SA x.sp.length c1, .slice VA x.vs.length c2, .slice QA x.rg.length c3]] W fun e' w' => e' = .returned (.bool (holds x e)) ∧ Keep W w') :
  Calls Tryz.prog 117 #[.agg #[.int .i64 (kind e), .int .i64 (field e), .slice RA (rs e).length rc, .float .f64 (lo e), .float .f64 (hi e), .slice OA (of e).length oc], .pointer (some ⟨Q, 0, none⟩)] w fun e' w' => e' = .returned (.bool (holds x e)) ∧ Keep w w' := by
 have HC := Lib.hid hC
 clear hC
 obtain ⟨k, f, r, l, h, o⟩ := e
 simp only [kind, field, rs, lo, hi, of] at HC ⊢
 obtain ⟨X, hX⟩ : ∃ X, X = w.alloc (.cells #[.int .i64 k, .int .i64 f, .slice RA r.length rc, .float .f64 l, .float .f64 h, .slice OA o.length oc] 59) := ⟨_, rfl⟩
 have hkX : Keep w X := by rw [hX]; exact (Keep.refl w).alloc _
 have hne : Q ≠ w.heap.size := Nat.ne_of_lt hQ.1
 obtain ⟨a0, a1, a2, a3, a4, a5⟩ := hQ.six
 obtain ⟨b0, b1, b2, b3, b4, b5⟩ := (hQ.kept ((Keep.refl w).alloc (.cells #[.int .i64 k, .int .i64 f, .slice RA r.length rc, .float .f64 l, .float .f64 h, .slice OA o.length oc] 59))).six
 generalize holds x (.mk k f r l h o) = v at *
 clear hQ
 go_enter Tryz.func117, Tryz.ntmps117
 go_wp2_with fail
 rw [<- hX]
 clear hX
 refine (HC.out _ hkX).mono ?_
 rintro e w1 ⟨rfl, hk⟩
 go_wp2
 go_ret
 exact ⟨rfl, hkX.trans hk⟩
set_option maxHeartbeats 1000000 in
theorem holds2_any (e : ExprP) (RA OA : Option Addr) (rc oc : Nat) (x : FactsP) (SA VA QA : Option Addr) (c1 c2 c3 : Nat) (Q : Nat) (w : World) (hQ : Bx w Q [.int .i64 x.cl, .int .i64 x.un, .int .i64 x.fc, .slice SA x.sp.length c1, .slice VA x.vs.length c2, .slice QA x.rg.length c3])
  (hC : ∀ W, Keep w W -> Calls Tryz.prog 107 #[.agg #[.int .i64 (kind e), .int .i64 (field e), .slice RA (rs e).length rc, .float .f64 (lo e), .float .f64 (hi e), .slice OA (of e).length oc], .agg #[.int .i64 x.cl, .int .i64 x.un, .int .i64 x.fc, .slice SA x.sp.length c1, .slice VA x.vs.length c2, .slice QA x.rg.length c3]] W fun e' w' => e' = .returned (.bool (holds x e)) ∧ Keep W w') :
  Calls Tryz.prog 118 #[.agg #[.int .i64 (kind e), .int .i64 (field e), .slice RA (rs e).length rc, .float .f64 (lo e), .float .f64 (hi e), .slice OA (of e).length oc], .pointer (some ⟨Q, 0, none⟩)] w fun e' w' => e' = .returned (.bool (!(holds x e))) ∧ Keep w w' := by
 have HC := Lib.hid hC
 clear hC
 obtain ⟨k, f, r, l, h, o⟩ := e
 simp only [kind, field, rs, lo, hi, of] at HC ⊢
 obtain ⟨X, hX⟩ : ∃ X, X = w.alloc (.cells #[.int .i64 k, .int .i64 f, .slice RA r.length rc, .float .f64 l, .float .f64 h, .slice OA o.length oc] 59) := ⟨_, rfl⟩
 have hkX : Keep w X := by rw [hX]; exact (Keep.refl w).alloc _
 have hne : Q ≠ w.heap.size := Nat.ne_of_lt hQ.1
 obtain ⟨a0, a1, a2, a3, a4, a5⟩ := hQ.six
 obtain ⟨b0, b1, b2, b3, b4, b5⟩ := (hQ.kept ((Keep.refl w).alloc (.cells #[.int .i64 k, .int .i64 f, .slice RA r.length rc, .float .f64 l, .float .f64 h, .slice OA o.length oc] 59))).six
 generalize holds x (.mk k f r l h o) = v at *
 clear hQ
 go_enter Tryz.func118, Tryz.ntmps118
 go_wp2_with fail
 rw [<- hX]
 clear hX
 refine (HC.out _ hkX).mono ?_
 rintro e w1 ⟨rfl, hk⟩
 go_wp2
 go_ret
 exact ⟨rfl, hkX.trans hk⟩
theorem contains1 {w : World} (A : Option Addr) (c : Nat) (o : List ExprP) (g : Nat) (q : Nat) (p : ExprP -> Bool) (hn : o.length <= 1000000) (hO : Exs w A o)
  (eg : ∀ args w, (callFunc g args).run Tryz.prog w = .ok (.enter g args) w) (hp : ∀ (W : World) (y : ExprP) (RA OA : Option Addr) (rc oc : Nat), Keep w W -> y ∈ o -> Ex W y RA OA -> Calls Tryz.prog g #[.agg #[.int .i64 (kind y), .int .i64 (field y), .slice RA (rs y).length rc, .float .f64 (lo y), .float .f64 (hi y), .slice OA (of y).length oc], .pointer (some ⟨q + 1, 0, none⟩)] W fun e w' => e = .returned (.bool (p y)) ∧ Keep W w') :
  Calls Tryz.prog 120 #[.slice A o.length c, .func (.func g) #[] #[.pointer (some ⟨q + 1, 0, none⟩)]] w fun e w' => e = .returned (.bool (o.any p)) ∧ Keep w w' :=
 Tree.contains_any A c o g #[.pointer (some ⟨q + 1, 0, none⟩)] p w hn hO eg (fun W y RA OA rc oc hk hm hy => hp W y RA OA rc oc hk hm hy)
set_option maxHeartbeats 8000000 in
theorem holdsN (x : FactsP) (SA VA QA : Option Addr) (c1 c2 c3 : Nat) (h3 : x.rg.length <= c3) (h3m : c3 <= maxLen) (hx : fewF x) : ∀ (N : Nat) (e : ExprP) (RA OA : Option Addr) (rc oc : Nat) (w : World), dp e <= N -> okE e -> short N e -> Tr.right e = true -> Ex w e RA OA -> FaAt w x SA VA QA ->
  Calls Tryz.prog 107 #[.agg #[.int .i64 (kind e), .int .i64 (field e), .slice RA (rs e).length rc, .float .f64 (lo e), .float .f64 (hi e), .slice OA (of e).length oc], .agg #[.int .i64 x.cl, .int .i64 x.un, .int .i64 x.fc, .slice SA x.sp.length c1, .slice VA x.vs.length c2, .slice QA x.rg.length c3]] w fun e' w' => e' = .returned (.bool (holds x e)) ∧ Keep w w' := by
 have eg1 := enters_of Tryz.func117 (by kernel_rfl) rfl
 have eg2 := enters_of Tryz.func118 (by kernel_rfl) rfl
 intro N
 induction N with
 | zero => intro e RA OA rc oc w hN; exact absurd (dp_pos e) (by omega)
 | succ N ih =>
   intro e RA OA rc oc w hN hok hsh hri hE hF
   have hsub := fun y (hy : y ∈ of e) => dp_of hy
   have hoks := hok.of
   have hshs := (short_of hsh).2
   have hris : ∀ y ∈ of e, kind e ≠ 1 -> Tr.right y = true := by
    intro y hy hk
    obtain ⟨k, f, r, l, h, o⟩ := e
    simp only [of, kind] at hy hk
    rw [Tr.right, if_neg hk] at hri
    simp only [Bool.and_eq_true] at hri
    have := hri.2.2
    rw [Tr.rightL_all, List.all_eq_true] at this
    have := this y hy
    simp only [Bool.and_eq_true] at this
    exact this.2
   have hnot : kind e = 2 -> (of e).length = 1 := by
    intro hk
    obtain ⟨k, f, r, l, h, o⟩ := e
    simp only [of, kind] at hk ⊢
    subst hk
    rw [Tr.right, if_neg (by decide), Tr.manyR, if_neg (by decide), if_pos rfl] at hri
    simp only [Bool.and_eq_true, beq_iff_eq] at hri
    exact hri.2.1
   have hfi : kind e = 1 -> 1 <= field e ∧ field e <= 6 := by
    intro hk
    obtain ⟨k, f, r, l, h, o⟩ := e
    simp only [of, kind, field] at hk ⊢
    subst hk
    rw [Tr.right, if_pos rfl, Tr.atomR] at hri
    simp only [Bool.and_eq_true, decide_eq_true_eq] at hri
    exact ⟨hri.2.1, hri.2.2.1⟩
   have hki : kind e = 0 ∨ kind e = 1 ∨ kind e = 2 ∨ kind e = 3 ∨ kind e = 4 := by
    obtain ⟨k, f, r, l, h, o⟩ := e
    simp only [kind]
    by_cases h0 : k = 0
    ·exact .inl h0
    by_cases h1 : k = 1
    ·exact .inr (.inl h1)
    by_cases h2 : k = 2
    ·exact .inr (.inr (.inl h2))
    by_cases h3 : k = 3
    ·exact .inr (.inr (.inr (.inl h3)))
    by_cases h4 : k = 4
    ·exact .inr (.inr (.inr (.inr h4)))
    rw [Tr.right, if_neg h1, Tr.manyR, if_neg h0, if_neg h2, if_neg (by omega)] at hri
    simp at hri
   have hol : (of e).length <= 1000000 := by
    have := hok.2
    cases e
    rw [fits] at this
    exact this.1.2
   have CA := Lib.hid (fun (W : World) (hk : Keep w W) (hq : kind e = 1) => atom_any e RA OA rc oc x SA VA QA c1 c2 c3 W hok (short_of hsh).1 (hfi hq) hx h3 h3m (hE.kept hk) (hF.kept hk))
   have hO : Exs w OA (of e) := hE.exs
   obtain ⟨k, f, r, l, h, o⟩ := e
   simp only [kind, field, rs, lo, hi, of] at CA hO hsub hoks hshs hris hnot hol hki ⊢
   obtain ⟨X, hX⟩ : ∃ X, X = (w.alloc (.cells #[.int .i64 k, .int .i64 f, .slice RA r.length rc, .float .f64 l, .float .f64 h, .slice OA o.length oc] 59)).alloc (.cells #[.int .i64 x.cl, .int .i64 x.un, .int .i64 x.fc, .slice SA x.sp.length c1, .slice VA x.vs.length c2, .slice QA x.rg.length c3] 54) := ⟨_, rfl⟩
   have hkX : Keep w X := by rw [hX]; exact ((Keep.refl w).alloc _).alloc _
   have bE : Bx X w.heap.size [.int .i64 k, .int .i64 f, .slice RA r.length rc, .float .f64 l, .float .f64 h, .slice OA o.length oc] := by rw [hX]; exact (Bx.newq rfl).alloc _
   have bF : Bx X (w.heap.size + 1) [.int .i64 x.cl, .int .i64 x.un, .int .i64 x.fc, .slice SA x.sp.length c1, .slice VA x.vs.length c2, .slice QA x.rg.length c3] := by rw [hX]; exact Bx.newq (by simp)
   have HE := Lib.hid (show ∀ W, Keep X W -> Bx W w.heap.size [.int .i64 k, .int .i64 f, .slice RA r.length rc, .float .f64 l, .float .f64 h, .slice OA o.length oc] from fun W hk => bE.kept hk)
   have HF := Lib.hid (show ∀ W, Keep X W -> Bx W (w.heap.size + 1) [.int .i64 x.cl, .int .i64 x.un, .int .i64 x.fc, .slice SA x.sp.length c1, .slice VA x.vs.length c2, .slice QA x.rg.length c3] from fun W hk => bF.kept hk)
   clear bE bF
   have hOX := hO.kept hkX
   have hFX := hF.kept hkX
   have CS := Lib.hid (fun (W : World) (y : ExprP) (RA' OA' : Option Addr) (rc' oc' : Nat) (hk : Keep X W) (hm : y ∈ o) (hn : k ≠ 1) (hy : Ex W y RA' OA') => ih y RA' OA' rc' oc' W (by have := hsub y hm; omega) (hoks y hm) (hshs y hm) (hris y hm hn) hy (hFX.kept hk))
   have T1 := Lib.hid (fun (hn : k ≠ 1) => contains1 (w := X) OA oc o 117 w.heap.size (holds x) hol hOX eg1 (fun W y RA' OA' rc' oc' hk hm hy => holds1_any y RA' OA' rc' oc' x SA VA QA c1 c2 c3 (w.heap.size + 1) W (HF.out _ hk) (fun V hV => CS.out V y RA' OA' rc' oc' (hk.trans hV) hm hn (hy.kept hV))))
   have T2 := Lib.hid (fun (hn : k ≠ 1) => contains1 (w := X) OA oc o 118 w.heap.size (fun y => !(holds x y)) hol hOX eg2 (fun W y RA' OA' rc' oc' hk hm hy => holds2_any y RA' OA' rc' oc' x SA VA QA c1 c2 c3 (w.heap.size + 1) W (HF.out _ hk) (fun V hV => CS.out V y RA' OA' rc' oc' (hk.trans hV) hm hn (hy.kept hV))))
   clear hO hF hE hFX ih hsub hoks hshs hris hsh hok hri hx h3 h3m hN hfi eg1 eg2 CS hOX hol
   by_cases q0 : k = 0
   ·have HS := Lib.hid (show true = holds x (.mk k f r l h o) by rw [holds_any (by omega) (by omega) (by omega) (by omega)])
    have d0 : (k == 0) = true := by simpa using q0
    clear q0 CA T1 T2 hnot hki
    go_enter Tryz.func107, Tryz.ntmps107
    go_wp2
    go_ret
    exact ⟨ret_bool HS.out, by rw [<- hX]; exact hkX⟩
   by_cases q1 : k = 1
   ·have HS := Lib.hid (show atom f r l h x = holds x (.mk k f r l h o) by rw [q1, holds_k1])
    have d0 : (k == 0) = false := by simpa using q0
    have d1 : (k == 1) = true := by simpa using q1
    have CA := Lib.hid (CA.out X hkX q1)
    clear q0 q1 T1 T2 hnot hki
    go_enter Tryz.func107, Tryz.ntmps107
    go_wp2_with fail
    rw [<- hX]
    clear hX
    refine CA.out.mono ?_
    rintro e w1 ⟨rfl, hk1⟩
    go_wp2
    go_ret
    exact ⟨ret_bool HS.out, hkX.trans hk1⟩
   by_cases q2 : k = 2
   ·have HS := Lib.hid (show (!(o.any (holds x))) = holds x (.mk k f r l h o) by
      obtain ⟨y, hy⟩ := List.length_eq_one_iff.mp (hnot q2)
      rw [hy]
      rw [q2, holds_not]; simp)
    have d0 : (k == 0) = false := by simpa using q0
    have d1 : (k == 1) = false := by simpa using q1
    have d2 : (k == 2) = true := by simpa using q2
    have T1 := Lib.hid (T1.out q1)
    generalize (o.any (holds x)) = v at *
    clear q0 q1 q2 CA T2 hnot hki
    go_enter Tryz.func107, Tryz.ntmps107
    go_wp2_with fail
    rw [<- hX]
    clear hX
    refine T1.out.mono ?_
    rintro e w1 ⟨rfl, hk1⟩
    go_wp2
    go_ret
    exact ⟨ret_bool HS.out, hkX.trans hk1⟩
   by_cases q3 : k = 3
   ·have HS := Lib.hid (show (!(o.any fun y => !(holds x y))) = holds x (.mk k f r l h o) by
      rw [q3, holds_and, not_any_not])
    have d0 : (k == 0) = false := by simpa using q0
    have d1 : (k == 1) = false := by simpa using q1
    have d2 : (k == 2) = false := by simpa using q2
    have d3 : (k == 3) = true := by simpa using q3
    have T2 := Lib.hid (T2.out q1)
    generalize (o.any fun y => !(holds x y)) = v at *
    clear q0 q1 q2 q3 CA T1 hnot hki
    go_enter Tryz.func107, Tryz.ntmps107
    go_wp2_with fail
    rw [<- hX]
    clear hX
    refine T2.out.mono ?_
    rintro e w1 ⟨rfl, hk1⟩
    go_wp2
    go_ret
    exact ⟨ret_bool HS.out, hkX.trans hk1⟩
   by_cases q4 : k = 4
   ·have HS := Lib.hid (show ((o.any (holds x))) = holds x (.mk k f r l h o) by
      rw [q4, holds_or])
    have d0 : (k == 0) = false := by simpa using q0
    have d1 : (k == 1) = false := by simpa using q1
    have d2 : (k == 2) = false := by simpa using q2
    have d3 : (k == 3) = false := by simpa using q3
    have d4 : (k == 4) = true := by simpa using q4
    have T1 := Lib.hid (T1.out q1)
    generalize (o.any (holds x)) = v at *
    clear q0 q1 q2 q3 q4 CA T2 hnot hki
    go_enter Tryz.func107, Tryz.ntmps107
    go_wp2_with fail
    rw [<- hX]
    clear hX
    refine T1.out.mono ?_
    rintro e w1 ⟨rfl, hk1⟩
    go_wp2
    go_ret
    exact ⟨ret_bool HS.out, hkX.trans hk1⟩
   omega
end Go.Proofs.YtaciogcpghbhjaaGreat.Mean
