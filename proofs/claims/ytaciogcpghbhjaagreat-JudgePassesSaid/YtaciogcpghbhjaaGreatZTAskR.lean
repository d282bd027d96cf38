/- Of these texts: AskR, AskF. Conditions: as each part says. -/
import Derived.Test.YtaciogcpghbhjaaGreatRows
import Derived.Test.YtaciogcpghbhjaaGreatZTAskA
import Derived.Test.YtaciogcpghbhjaaGreatZTTw2
/- Layer 6's reference: each function answers what the plain words of AskA say. Conditions: lengths at most a million. -/
namespace Go.Proofs.YtaciogcpghbhjaaGreat.Ref6
set_option linter.unusedVariables false
open Go.ChangeShapes Go.WideShapes Go.ChangeAt Go.RowKit
theorem ret_bool {b c : Bool} (h : b = c) : Ending.returned (.bool b) = Ending.returned (.bool c) := by rw [h]
theorem ret_int {b c : Int} (h : b = c) : Ending.returned (.int .i64 b) = Ending.returned (.int .i64 c) := by rw [h]
theorem ret_ints3 {a b c d e f : Int} (h1 : a = d) (h2 : b = e) (h3 : c = f) : Ending.returned (.tuple #[.int .i64 a, .int .i64 b, .int .i64 c]) = Ending.returned (.tuple #[.int .i64 d, .int .i64 e, .int .i64 f]) := by rw [h1, h2, h3]
set_option maxHeartbeats 400000 in
theorem known_any (fc : Int) (w : World) :
  Calls Tryz.prog 41 #[.int .i64 fc] w fun e w' => e = .returned (.bool (Ak.known fc)) ∧ w = w' := by
 go_enter Tryz.func41, Tryz.ntmps41
 go_wp2
 all_goals (go_ret; refine ⟨ret_bool ?_, rfl⟩; rw [Bool.eq_iff_iff]; simp [Ak.known]; omega)
set_option maxHeartbeats 400000 in
theorem reads_any (fc : Int) (w : World) :
  Calls Tryz.prog 63 #[.int .i64 fc] w fun e w' => e = .returned (.int .i64 (Ak.reads fc)) ∧ w = w' := by
 go_enter Tryz.func63, Tryz.ntmps63
 go_wp2
 all_goals (go_ret; refine ⟨ret_int ?_, rfl⟩; simp_all [Ak.reads])
set_option maxHeartbeats 400000 in
theorem writes_any (fc : Int) (w : World) :
  Calls Tryz.prog 64 #[.int .i64 fc] w fun e w' => e = .returned (.tuple #[.int .i64 (Ak.wmax fc), .int .i64 (Ak.wtwo fc), .int .i64 (Ak.wtop fc)]) ∧ w = w' := by
 go_enter Tryz.func64, Tryz.ntmps64
 go_wp2
 all_goals (go_ret3; refine ⟨ret_ints3 ?_ ?_ ?_, rfl⟩ <;> simp_all [Ak.wmax, Ak.wtwo, Ak.wtop])
def AllRel (w : World) (n : Nat) (most : Int) (zs : List Int) (i : Value) (wr : World) : Prop :=
 ∃ k : Nat, k <= n ∧ i = .int .i64 k ∧ Ak.allTo most (zs.take k) = true ∧ w = wr
theorem allTo_snoc (most : Int) (l : List Int) (z : Int) : Ak.allTo most (l ++ [z]) = (Ak.allTo most l && Ak.inTo most z) := by simp [Ak.allTo]
theorem allTo_false (most : Int) (l : List Int) (k : Nat) (h : k < l.length) (hz : Ak.inTo most (l.getD k 0) = false) : Ak.allTo most l = false := by
 rw [<- List.take_append_drop (k + 1) l, Co.take_snoc l k h]
 simp [Ak.allTo]
 rw [List.getD_eq_getElem?_getD] at hz
 simp [hz]
set_option maxHeartbeats 400000 in
theorem all_any (A : Option Addr) (n c : Nat) (zs : List Int) (most : Int) (w : World) (hn : n <= 1000000) (hA : Ints .i64 w w.heap.size A n zs) :
  Calls Tryz.prog 65 #[.slice A n c, .int .i64 most] w fun e w' => e = .returned (.bool (Ak.allTo most zs)) ∧ Quiet w w' := by
 have HL := Lib.hid hA.1
 go_enter Tryz.func65, Tryz.ntmps65
 go_wp2
 go_loopw [5] (fun i wr => AllRel w n most zs i wr) (fun i _ => n - (intOf i).toNat)
 case atStart => exact ⟨0, Nat.zero_le _, rfl, rfl, rfl⟩
 case round =>
  obtain ⟨k, hk, rfl, hall, rfl⟩ := hrel
  have HALL := Lib.hid hall
  clear hall
  by_cases hlt : k < n
  ·obtain ⟨b, off, rfl, hb, hc⟩ := hA.2 (by omega)
   have hck := hc k hlt
   clear hc
   obtain ⟨z, hz⟩ : ∃ z, z = zs.getD k 0 := ⟨_, rfl⟩
   rw [<- hz] at hck
   have HZ := Lib.hid hz
   clear hz
   by_cases h0 : Ak.inTo most z = true
   ·have h1 := (Ak.inTo_iff most z).1 h0
    have d1 : decide (z < 0) = false := by simp; omega
    have d2 : decide (most < z) = false := by simp; omega
    go_wp2
    refine ⟨⟨k + 1, by omega, by go_num, ?_, rfl⟩, by simp [intOf]; omega⟩
    rw [Co.take_snoc zs k (by rw [HL.out]; exact hlt), allTo_snoc, HALL.out, <- HZ.out, h0]; rfl
   ·have hf : Ak.allTo most zs = false := allTo_false most zs k (by rw [HL.out]; exact hlt) (by rw [<- HZ.out]; simpa using h0)
    have HF := Lib.hid hf
    clear hf
    have h1 : z < 0 ∨ (0 <= z ∧ most < z) := by
     have := mt (Ak.inTo_iff most z).2 h0
     omega
    rcases h1 with h1 | h1
    ·have d1 : decide (z < 0) = true := by simp; omega
     go_wp2
     go_ret
     rw [HF.out]
     exact ⟨rfl, Quiet.refl _⟩
    ·have d1 : decide (z < 0) = false := by simp; omega
     have d2 : decide (most < z) = true := by simp; omega
     go_wp2
     go_ret
     rw [HF.out]
     exact ⟨rfl, Quiet.refl _⟩
  ·obtain rfl : k = n := by omega
   have e := HALL.out
   rw [List.take_of_length_le (by rw [HL.out]; omega)] at e
   have HE := Lib.hid e
   clear e
   go_wp2
   go_ret
   rw [HE.out]
   exact ⟨rfl, Quiet.refl _⟩
end Go.Proofs.YtaciogcpghbhjaaGreat.Ref6
/- Layer 6's reference: whether a request is formed. Conditions: at most a million values. -/
namespace Go.Proofs.YtaciogcpghbhjaaGreat.Ref6
set_option linter.unusedVariables false
open Go.ChangeShapes Go.WideShapes Go.ChangeAt Go.RowKit
theorem part_false {most lo n : Int} (h0 : 0 <= most) (h : Ak.part most lo n = false) :
  decide (lo < 0) = true ∨ (decide (lo < 0) = false ∧ decide (65535 < lo) = true) ∨ (decide (lo < 0) = false ∧ decide (65535 < lo) = false ∧ decide (n < 0) = true) ∨
  (decide (lo < 0) = false ∧ decide (65535 < lo) = false ∧ decide (n < 0) = false ∧ decide (most < n) = true) ∨
  (decide (lo < 0) = false ∧ decide (65535 < lo) = false ∧ decide (n < 0) = false ∧ decide (most < n) = false ∧ decide (0 < most) = true ∧ (n == 0) = true) ∨
  (decide (lo < 0) = false ∧ decide (65535 < lo) = false ∧ decide (n < 0) = false ∧ decide (most < n) = false ∧ decide (0 < most) = false ∧ (most == 0) = true ∧ (lo != 0) = true) := by
 simp only [decide_eq_true_eq, decide_eq_false_iff_not, beq_iff_eq, bne_iff_ne]
 by_cases a1 : lo < 0
 ·exact .inl a1
 by_cases a2 : 65535 < lo
 ·exact .inr (.inl ⟨a1, a2⟩)
 by_cases a3 : n < 0
 ·exact .inr (.inr (.inl ⟨a1, a2, a3⟩))
 by_cases a4 : most < n
 ·exact .inr (.inr (.inr (.inl ⟨a1, a2, a3, a4⟩)))
 by_cases a5 : 0 < most
 ·by_cases a6 : n = 0
  ·exact .inr (.inr (.inr (.inr (.inl ⟨a1, a2, a3, a4, a5, a6⟩))))
  ·exfalso
   have e : Ak.part most lo n = true := by simp [Ak.part, Ak.inTo]; omega
   rw [e] at h; cases h
 ·by_cases a7 : lo = 0
  ·exfalso
   have e : Ak.part most lo n = true := by simp [Ak.part, Ak.inTo]; omega
   rw [e] at h; cases h
  ·exact .inr (.inr (.inr (.inr (.inr ⟨a1, a2, a3, a4, a5, by omega, a7⟩))))
theorem part_true {most lo n : Int} (h0 : 0 <= most) (h : Ak.part most lo n = true) :
  (decide (lo < 0) = false ∧ decide (65535 < lo) = false ∧ decide (n < 0) = false ∧ decide (most < n) = false) ∧
  ((decide (0 < most) = true ∧ (n == 0) = false ∧ (most == 0) = false) ∨ (decide (0 < most) = false ∧ (most == 0) = true ∧ (lo != 0) = false)) := by
 simp [Ak.part, Ak.inTo] at h
 simp
 omega
theorem reads_nn (fc : Int) : 0 <= Ak.reads fc := by unfold Ak.reads; repeat (first | omega | split)
theorem wmax_nn (fc : Int) : 0 <= Ak.wmax fc := by unfold Ak.wmax; repeat (first | omega | split)
set_option maxHeartbeats 1000000 in
theorem formed_any (A : Option Addr) (n c : Nat) (a : AskP) (w : World) (hn : n <= 1000000) (hA : Ints .i64 w w.heap.size A n a.vs) :
  Calls Tryz.prog 43 #[.agg #[.int .i64 a.fc, .int .i64 a.rd, .int .i64 a.ct, .int .i64 a.wr, .int .i64 a.mn, .slice A n c]] w fun e w' => e = .returned (.bool (Ak.formed a)) ∧ Keep w w' := by
 obtain ⟨fc, rd, ct, wr, mn, vs⟩ := a
 simp only at hA ⊢
 have HL := Lib.hid hA.1
 obtain ⟨kn, hkn⟩ : ∃ b, b = Ak.known fc := ⟨_, rfl⟩
 obtain ⟨nr, hnr⟩ : ∃ b, b = Ak.reads fc := ⟨_, rfl⟩
 obtain ⟨nw, hnw⟩ : ∃ b, b = Ak.wmax fc := ⟨_, rfl⟩
 obtain ⟨tw, htw⟩ : ∃ b, b = Ak.wtwo fc := ⟨_, rfl⟩
 obtain ⟨tp, htp⟩ : ∃ b, b = Ak.wtop fc := ⟨_, rfl⟩
 have HKN := Lib.hid hkn
 have HNR := Lib.hid hnr
 have HNW := Lib.hid hnw
 have HTW := Lib.hid htw
 have HTP := Lib.hid htp
 clear hkn hnr hnw htw htp
 go_enter Tryz.func43, Tryz.ntmps43
 go_wp2_with fail
 refine (known_any fc _).mono ?_
 rintro e w1 ⟨rfl, rfl⟩
 rw [<- HKN.out]
 cases kn
 ·go_wp2
  go_ret
  refine ⟨ret_bool ?_, (Keep.refl w).alloc _⟩
  rw [Ak.formed, <- HKN.out]; rfl
 ·go_wp2_with fail
  refine (reads_any fc _).mono ?_
  rintro e w1 ⟨rfl, rfl⟩
  rw [<- HNR.out]
  cases hp1 : Ak.part nr rd ct
  ·have hfm : Ak.formed ⟨fc, rd, ct, wr, mn, vs⟩ = false := by
    rw [Ak.formed, <- HKN.out, <- HNR.out, hp1]; rfl
   have HF := Lib.hid hfm
   have hd := part_false (by rw [HNR.out]; exact reads_nn fc) hp1
   clear hfm hp1
   rcases hd with d1 | ⟨d1, d2⟩ | ⟨d1, d2, d3⟩ | ⟨d1, d2, d3, d4⟩ | ⟨d1, d2, d3, d4, d5, d6⟩ | ⟨d1, d2, d3, d4, d5, d6, d7⟩ <;>
    (go_wp2; go_ret; exact ⟨ret_bool HF.out.symm, (Keep.refl w).alloc _⟩)
  ·have HP1 := Lib.hid hp1
   have hd := part_true (by rw [HNR.out]; exact reads_nn fc) hp1
   clear hp1
   obtain ⟨⟨d1, d2, d3, d4⟩, hd⟩ := hd
   rcases hd with ⟨d5, d6, d7⟩ | ⟨d5, d6, d7⟩ <;>
    (go_wp2_with fail
     refine (writes_any fc _).mono ?_
     rintro e w1 ⟨rfl, rfl⟩
     rw [<- HNW.out, <- HTW.out, <- HTP.out]
     clear d1 d2 d3 d4 d5 d6 d7
     cases hp2 : Ak.part nw wr mn
     ·have hfm : Ak.formed ⟨fc, rd, ct, wr, mn, vs⟩ = false := by
       rw [Ak.formed, <- HKN.out, <- HNR.out, <- HNW.out, HP1.out, hp2]; rfl
      have HF := Lib.hid hfm
      have hd := part_false (by rw [HNW.out]; exact wmax_nn fc) hp2
      clear hfm hp2
      rcases hd with d1 | ⟨d1, d2⟩ | ⟨d1, d2, d3⟩ | ⟨d1, d2, d3, d4⟩ | ⟨d1, d2, d3, d4, d5, d6⟩ | ⟨d1, d2, d3, d4, d5, d6, d7⟩ <;>
       (go_wp2; go_ret; exact ⟨ret_bool HF.out.symm, (Keep.refl w).alloc _⟩)
     ·have HP2 := Lib.hid hp2
      have hd := part_true (by rw [HNW.out]; exact wmax_nn fc) hp2
      clear hp2
      obtain ⟨⟨d1, d2, d3, d4⟩, hd⟩ := hd
      rcases hd with ⟨d5, d6, d7⟩ | ⟨d5, d6, d7⟩ <;>
       (by_cases ht : tw = 0
        ·have d8 : (tw == 0) = true := by simpa using ht
         have hnd : Ak.need ⟨fc, rd, ct, wr, mn, vs⟩ = mn := by rw [Ak.need, <- HTW.out, if_pos ht]
         have HND := Lib.hid hnd
         clear ht hnd
         by_cases hl : (n : Int) = mn
         ·have d9 : ((n : Int) == mn) = true := by simpa using hl
          have hfm : Ak.formed ⟨fc, rd, ct, wr, mn, vs⟩ = Ak.allTo tp vs := by
           rw [Ak.formed, <- HKN.out, <- HNR.out, <- HNW.out, HP1.out, HP2.out, HND.out, <- HTP.out]
           simp [HL.out, hl]
          have HF := Lib.hid hfm
          clear hfm hl
          go_wp2_with fail
          refine (all_any A n c vs tp _ hn (hA.kept ((Keep.refl w).alloc _))).mono ?_
          rintro e w1 ⟨rfl, hq⟩
          have hK : Keep w w1 := ((Keep.refl w).alloc _).trans hq.keep
          clear hq
          go_wp2
          go_ret
          exact ⟨ret_bool HF.out.symm, hK⟩
         ·have d9 : ((n : Int) == mn) = false := by simpa using hl
          have hfm : Ak.formed ⟨fc, rd, ct, wr, mn, vs⟩ = false := by
           rw [Ak.formed, HND.out]
           simp [HL.out, hl]
          have HF := Lib.hid hfm
          clear hfm hl
          go_wp2
          go_ret
          exact ⟨ret_bool HF.out.symm, (Keep.refl w).alloc _⟩
        ·have d8 : (tw == 0) = false := by simpa using ht
         have hnd : Ak.need ⟨fc, rd, ct, wr, mn, vs⟩ = tw := by rw [Ak.need, <- HTW.out, if_neg ht]
         have HND := Lib.hid hnd
         clear ht hnd
         by_cases hl : (n : Int) = tw
         ·have d9 : ((n : Int) == tw) = true := by simpa using hl
          have hfm : Ak.formed ⟨fc, rd, ct, wr, mn, vs⟩ = Ak.allTo tp vs := by
           rw [Ak.formed, <- HKN.out, <- HNR.out, <- HNW.out, HP1.out, HP2.out, HND.out, <- HTP.out]
           simp [HL.out, hl]
          have HF := Lib.hid hfm
          clear hfm hl
          go_wp2_with fail
          refine (all_any A n c vs tp _ hn (hA.kept ((Keep.refl w).alloc _))).mono ?_
          rintro e w1 ⟨rfl, hq⟩
          have hK : Keep w w1 := ((Keep.refl w).alloc _).trans hq.keep
          clear hq
          go_wp2
          go_ret
          exact ⟨ret_bool HF.out.symm, hK⟩
         ·have d9 : ((n : Int) == tw) = false := by simpa using hl
          have hfm : Ak.formed ⟨fc, rd, ct, wr, mn, vs⟩ = false := by
           rw [Ak.formed, HND.out]
           simp [HL.out, hl]
          have HF := Lib.hid hfm
          clear hfm hl
          go_wp2
          go_ret
          exact ⟨ret_bool HF.out.symm, (Keep.refl w).alloc _⟩))
end Go.Proofs.YtaciogcpghbhjaaGreat.Ref6
