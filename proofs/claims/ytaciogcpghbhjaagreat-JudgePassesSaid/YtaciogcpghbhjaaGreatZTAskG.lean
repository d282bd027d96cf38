/- Of these texts: AskG. Conditions: as each part says. -/
import Derived.Test.YtaciogcpghbhjaaGreatZTAskR
import Derived.WalkSpells
/- Layer 6's reference: Right, Same, at, values. Conditions: lengths at most a million. -/
namespace Go.Proofs.YtaciogcpghbhjaaGreat.Ref6
set_option linter.unusedVariables false
open Go.ChangeShapes Go.WideShapes Go.ChangeAt Go.RowKit
set_option maxHeartbeats 1000000 in
theorem right_any (A : Option Addr) (n c : Nat) (a : AskP) (w : World) (hn : n <= 1000000) (hA : Ints .i64 w w.heap.size A n a.vs) :
  Calls Tryz.prog 44 #[.agg #[.int .i64 a.fc, .int .i64 a.rd, .int .i64 a.ct, .int .i64 a.wr, .int .i64 a.mn, .slice A n c]] w fun e w' => e = .returned (.bool (Ak.right a)) ∧ Keep w w' := by
 obtain ⟨fc, rd, ct, wr, mn, vs⟩ := a
 simp only at hA ⊢
 have cells : ∀ W W' : World, Keep (W.alloc (.cells #[.int .i64 fc, .int .i64 rd, .int .i64 ct, .int .i64 wr, .int .i64 mn, .slice A n c] 40)) W' ->
   (W'.cell? ⟨W.heap.size, 1, none⟩ = some (.int .i64 rd) ∧ W'.cell? ⟨W.heap.size, 2, none⟩ = some (.int .i64 ct)) ∧ W'.cell? ⟨W.heap.size, 3, none⟩ = some (.int .i64 wr) ∧ W'.cell? ⟨W.heap.size, 4, none⟩ = some (.int .i64 mn) := fun W W' hK => by
  have hc : ∀ j v, (#[Value.int .i64 fc, .int .i64 rd, .int .i64 ct, .int .i64 wr, .int .i64 mn, .slice A n c] : Array Value)[j]? = some v -> W'.cell? ⟨W.heap.size, j, none⟩ = some v := fun j v hj => by
   rw [hK.cell (by simp), World.cell?_alloc_at (hn := rfl), hj]
  exact ⟨⟨hc 1 _ rfl, hc 2 _ rfl⟩, hc 3 _ rfl, hc 4 _ rfl⟩
 go_enter Tryz.func44, Tryz.ntmps44
 go_wp2_with fail
 refine (formed_any A n c ⟨fc, rd, ct, wr, mn, vs⟩ _ hn (hA.kept ((Keep.refl w).alloc _))).mono ?_
 rintro e w1 ⟨rfl, hK⟩
 obtain ⟨⟨c1, c2⟩, c3, c4⟩ := cells w w1 hK
 replace hK : Keep w w1 := ((Keep.refl w).alloc _).trans hK
 clear cells
 cases hf : Ak.formed ⟨fc, rd, ct, wr, mn, vs⟩
 ·go_wp2
  go_ret
  refine ⟨ret_bool ?_, hK⟩
  rw [Ak.right, hf]; rfl
 ·have hb : (0 <= rd ∧ rd <= 65535) ∧ (0 <= ct ∧ ct <= 2000) ∧ (0 <= wr ∧ wr <= 65535) ∧ 0 <= mn ∧ mn <= 1968 := by
   have h := (Ak.formed_iff _).1 hf
   have h1 : Ak.reads fc <= 2000 := by unfold Ak.reads; repeat (first | omega | split)
   have h2 : Ak.wmax fc <= 1968 := by unfold Ak.wmax; repeat (first | omega | split)
   simp only at h
   omega
  have HR := Lib.hid (show Ak.right ⟨fc, rd, ct, wr, mn, vs⟩ = (decide (rd + ct <= 65536) && decide (wr + mn <= 65536)) by rw [Ak.right, hf]; simp)
  clear hf
  obtain ⟨⟨b1, b2⟩, ⟨b3, b4⟩, ⟨b5, b6⟩, b7, b8⟩ := hb
  by_cases h1 : rd + ct <= 65536
  ·have d1 : decide (rd + ct <= 65536) = true := by simpa using h1
   go_wp2
   go_ret
   refine ⟨ret_bool ?_, hK⟩
   rw [HR.out, d1]; rfl
  ·have d1 : decide (rd + ct <= 65536) = false := by simpa using h1
   go_wp2
   go_ret
   refine ⟨ret_bool ?_, hK⟩
   rw [HR.out, d1]; rfl
set_option maxHeartbeats 1000000 in
theorem same_any (A B : Option Addr) (n c m d : Nat) (a b : AskP) (w : World) (hn : n <= 1000000) (hA : Ints .i64 w w.heap.size A n a.vs) (hB : Ints .i64 w w.heap.size B m b.vs) :
  Calls Tryz.prog 19 #[.agg #[.int .i64 a.fc, .int .i64 a.rd, .int .i64 a.ct, .int .i64 a.wr, .int .i64 a.mn, .slice A n c], .agg #[.int .i64 b.fc, .int .i64 b.rd, .int .i64 b.ct, .int .i64 b.wr, .int .i64 b.mn, .slice B m d]] w
   fun e w' => e = .returned (.bool (Ak.same a b)) ∧ Keep w w' := by
 obtain ⟨fc, rd, ct, wr, mn, vs⟩ := a
 obtain ⟨fc2, rd2, ct2, wr2, mn2, vs2⟩ := b
 simp only at hA hB ⊢
 go_enter Tryz.func19, Tryz.ntmps19
 cases h1 : (fc == fc2)
 ·go_wp2
  go_ret
  refine ⟨ret_bool ?_, ((Keep.refl w).alloc _).alloc _⟩
  simp only [Ak.same, h1, Bool.false_and]
 cases h2 : (rd == rd2)
 ·go_wp2
  go_ret
  refine ⟨ret_bool ?_, ((Keep.refl w).alloc _).alloc _⟩
  simp only [Ak.same, h1, h2, Bool.false_and, Bool.true_and]
 cases h3 : (ct == ct2)
 ·go_wp2
  go_ret
  refine ⟨ret_bool ?_, ((Keep.refl w).alloc _).alloc _⟩
  simp only [Ak.same, h1, h2, h3, Bool.false_and, Bool.true_and]
 cases h4 : (wr == wr2)
 ·go_wp2
  go_ret
  refine ⟨ret_bool ?_, ((Keep.refl w).alloc _).alloc _⟩
  simp only [Ak.same, h1, h2, h3, h4, Bool.false_and, Bool.true_and]
 cases h5 : (mn == mn2)
 ·go_wp2
  go_ret
  refine ⟨ret_bool ?_, ((Keep.refl w).alloc _).alloc _⟩
  simp only [Ak.same, h1, h2, h3, h4, h5, Bool.false_and, Bool.true_and]
 go_wp2_with fail
 have hK := ((Keep.refl w).alloc (.cells #[.int .i64 fc, .int .i64 rd, .int .i64 ct, .int .i64 wr, .int .i64 mn, .slice A n c] 40)).alloc (.cells #[.int .i64 fc2, .int .i64 rd2, .int .i64 ct2, .int .i64 wr2, .int .i64 mn2, .slice B m d] 40)
 refine (Ref1.ints_any _ _ _ _ _ _ _ _ _ hn (hA.kept hK) (hB.kept hK)).mono ?_
 rintro e w1 ⟨rfl, hq⟩
 replace hK := hK.trans hq.keep
 clear hq
 go_wp2
 go_ret
 refine ⟨ret_bool ?_, hK⟩
 simp only [Ak.same, h1, h2, h3, h4, h5, Bool.true_and]
set_option maxHeartbeats 400000 in
theorem at_any (s : ByteArray) (i : Int) (w : World) (hs : s.size <= maxLen) :
  Calls Tryz.prog 61 #[.string s, .int .i64 i] w fun e w' => e = .returned (.int .i64 (Ak.at_ s i)) ∧ Quiet w w' := by
 go_enter Tryz.func61, Tryz.ntmps61
 go_wp2_with fail
 refine (Ref1.get_any s i _ hs).mono ?_
 rintro e w1 ⟨rfl, hq⟩
 cases h : Tw.getOk s i
 ·go_wp2
  go_ret
  refine ⟨ret_int ?_, hq⟩
  rw [Ak.at_, h]; rfl
 ·go_wp2
  go_ret
  refine ⟨ret_int ?_, hq⟩
  rw [Ak.at_, h]; rfl
set_option maxHeartbeats 1000000 in
theorem valuesF_any (s : ByteArray) (i : Nat) (fc many : Int) (w : World) (hs : s.size <= 1000000) (hi : i <= 100) (hm : many <= 70000) :
  Calls Tryz.prog 62 #[.string s, .int .i64 i, .int .i64 fc, .int .i64 many] w (RetIntsF (Ak.vals s i fc many) (Ak.valOk s i fc many) w) := by
 have fail_ : Ak.valOk0 s i many = false -> Ak.vals s i fc many = [] ∧ Ak.valOk s i fc many = false := fun h => by
  rw [Ak.vals, Ak.valOk, h]; simp
 by_cases h1 : s.size <= i
 ·have d1 : decide ((s.size : Int) <= i) = true := by simpa using h1
  have hf := fail_ (by rw [Ak.valOk0, show decide (i < s.size) = false by simpa using h1]; rfl)
  have HF := Lib.hid hf
  clear hf fail_
  go_enter Tryz.func62, Tryz.ntmps62
  go_wp2
  go_ret2
  exact ⟨none, 0, 0, by rw [HF.out.2]; rfl, by rw [HF.out.1]; exact Ints.none_ _ _ _ _, Below.refl _ _, FreshC.zero _ _ _⟩
 ·have d1 : decide ((s.size : Int) <= i) = false := by simp; omega
  have hx1 := idx (P := Tryz.prog) (k := .i64) s (i : Int) Tryz.underlying9 (by omega) (by omega)
  have hr1 := byteAt_range s (i : Int)
  cases h2 : ((s.size : Int) - i - 1 == byteAt s i)
  ·have d2 : ((s.size : Int) - i - 1 != byteAt s i) = true := by rw [bne, h2]; rfl
   have hf := fail_ (by rw [Ak.valOk0, h2]; simp)
   have HF := Lib.hid hf
   clear hf fail_ h2
   go_enter Tryz.func62, Tryz.ntmps62
   go_wp2
   go_ret2
   exact ⟨none, 0, 0, by rw [HF.out.2]; rfl, by rw [HF.out.1]; exact Ints.none_ _ _ _ _, Below.refl _ _, FreshC.zero _ _ _⟩
  ·have d2 : ((s.size : Int) - i - 1 != byteAt s i) = false := by rw [bne, h2]; rfl
   by_cases h3 : many < 0
   ·have d3 : decide (many < 0) = true := by simpa using h3
    have hf := fail_ (by rw [Ak.valOk0, show decide (0 <= many) = false by simp; omega]; simp)
    have HF := Lib.hid hf
    clear hf fail_ h2
    go_enter Tryz.func62, Tryz.ntmps62
    go_wp2
    go_ret2
    exact ⟨none, 0, 0, by rw [HF.out.2]; rfl, by rw [HF.out.1]; exact Ints.none_ _ _ _ _, Below.refl _ _, FreshC.zero _ _ _⟩
   ·have d3 : decide (many < 0) = false := by simpa using h3
    have h0 : Ak.valOk0 s i many = true := by
     rw [Ak.valOk0, h2, show decide (i < s.size) = true by simp; omega, show decide (0 <= many) = true by simp; omega]; rfl
    have HV : Hid (Ak.vals s i fc many = (if fc = 15 then Co.get (Ak.sub s (i + 1)) many else Tw.getAll (Ak.sub s (i + 1))) ∧ Ak.valOk s i fc many = (if fc = 15 then Co.getOk (Ak.sub s (i + 1)) many else Tw.evenB (Ak.sub s (i + 1)))) :=
     Lib.hid (by rw [Ak.vals, Ak.valOk, h0]; simp)
    have hss : (Ak.sub s (i + 1)).size <= s.size := by rw [Ak.sub, st_size, List.length_drop, bl_length]; omega
    clear fail_ h0 h2
    by_cases h15 : fc = 15
    ·subst h15
     go_enter Tryz.func62, Tryz.ntmps62
     go_wp2_with fail
     rw [Ak.extract_end]
     refine (Ref5.getF_any (Ak.sub s (i + 1)) many _ (by omega)).mono ?_
     rintro e w1 ⟨A, n, c, rfl, hI, hb, hfr⟩
     go_wp2
     go_ret2
     refine ⟨A, n, c, by rw [HV.out.2]; simp only [if_true]; rfl, ?_, hb, hfr⟩
     rw [HV.out.1]
     simp only [if_true]
     exact hI
    ·have d4 : (fc == 15) = false := by simpa using h15
     go_enter Tryz.func62, Tryz.ntmps62
     go_wp2_with fail
     rw [Ak.extract_end]
     refine (Ref1.getAllF_any (Ak.sub s (i + 1)) _ (by omega)).mono ?_
     rintro e w1 ⟨A, n, c, rfl, hI, hb, hfr⟩
     go_wp2
     go_ret2
     refine ⟨A, n, c, by rw [HV.out.2, if_neg h15]; rfl, ?_, hb, hfr⟩
     rw [HV.out.1, if_neg h15]
     exact hI
end Go.Proofs.YtaciogcpghbhjaaGreat.Ref6
