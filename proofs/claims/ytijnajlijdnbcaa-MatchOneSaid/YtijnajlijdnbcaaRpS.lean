/- Layer 7's reference: Data and Kind. Conditions: lengths at most a hundred thousand. -/
import Derived.Test.YtijnajlijdnbcaaRpR
import Derived.Test.YtijnajlijdnbcaaKept
namespace Go.Proofs.Ytijnajlijdnbcaa.Ref7
set_option linter.unusedVariables false
open Go.ChangeShapes Go.WideShapes Go.ChangeAt Go.RowKit
open Str (toList_eq)
open Ref6 (ret_bool ret_int Boxed ret_sb)
theorem slice2 (s : ByteArray) (W : World) (h : 2 ≤ s.size) : (Instr.slice 9 (.string s) (some (.int .i64 2)) none none).run Try.prog W = .ok (.string (s.extract 2 s.size)) W := by
  have u := Try.underlying9
  have h2 : (2 : Int) ≤ (s.size : Int) := by omega
  go_simp
theorem ret_none {ok : Bool} (h : ok = false) (w w' : World) (zs : List Int) (hz : zs = []) (hb : Below w.heap.size w w') (e : Ending) (he : e = .returned (.tuple #[.slice none 0 0, .bool false])) : RetInts zs ok w e w' :=
  ⟨none, 0, 0, by rw [he, h], by rw [hz]; exact Ints.none_ _ _ _ _, hb⟩
theorem norm_of {a : AskP} {s : ByteArray} (l : List Int) (hl : Rp.part a s = l) : Rp.norm a s = (Rp.ok a l && (st (Rp.make a l)).toList == s.toList) := by
  rw [Rp.norm, hl, toList_eq, toList_eq, bl_st]
  cases h : Rp.ok a l
  · rfl
  · rw [Rp.make_ok h]
set_option maxHeartbeats 2000000 in
theorem data_any (A : Option Addr) (n c : Nat) (a : AskP) (s : ByteArray) (w : World) (hn : n ≤ 1000000) (hs : s.size ≤ 100000) (hA : Ints .i64 w w.heap.size A n a.vs) :
    Calls Try.prog 23 #[.agg #[.int .i64 a.fc, .int .i64 a.rd, .int .i64 a.ct, .int .i64 a.wr, .int .i64 a.mn, .slice A n c], .string s] w (RetInts (Rp.data a s) (Rp.norm a s) w) := by
  have hbx := Boxed.new w a A n c 33
  have k0 := (Keep.refl w).alloc (.cells #[.int .i64 a.fc, .int .i64 a.rd, .int .i64 a.ct, .int .i64 a.wr, .int .i64 a.mn, .slice A n c] 33)
  have hlt0 : w.heap.size < (w.alloc (.cells #[.int .i64 a.fc, .int .i64 a.rd, .int .i64 a.ct, .int .i64 a.wr, .int .i64 a.mn, .slice A n c] 33)).heap.size := by simp
  cases hr : Ak.right a
  · have hno := Rp.norm_right (s := s) hr
    have HNO := Lib.hid hno
    clear hno
    go_enter Try.func23, Try.ntmps23
    go_wp2_with fail
    refine (Ref6.right_any A n c a _ hn (hA.kept k0)).mono ?_
    rintro e w1 ⟨rfl, hK⟩
    rw [hr]
    have hbx := hbx.below hK hlt0
    have hlt : w.heap.size < w1.heap.size := Nat.lt_of_lt_of_le hlt0 hK.size
    replace k0 := k0.trans hK
    clear hK hlt0
    have HX := Lib.hid hbx
    obtain ⟨c0, c1, c2, c3, c4, c5⟩ := hbx
    go_wp2
    go_ret2
    exact ret_none HNO.out _ _ _ (by rw [Rp.data, HNO.out]; rfl) k0 _ rfl
  by_cases h2 : s.size < 2
  · have d2 : decide ((s.size : Int) < 2) = true := by simp; omega
    have HNO := Lib.hid (show Rp.norm a s = false from Rp.norm_not (by rw [show decide (2 ≤ s.size) = false by simp; omega]; simp))
    go_enter Try.func23, Try.ntmps23
    go_wp2_with fail
    refine (Ref6.right_any A n c a _ hn (hA.kept k0)).mono ?_
    rintro e w1 ⟨rfl, hK⟩
    rw [hr]
    have hbx := hbx.below hK hlt0
    have hlt : w.heap.size < w1.heap.size := Nat.lt_of_lt_of_le hlt0 hK.size
    replace k0 := k0.trans hK
    clear hK hlt0
    have HX := Lib.hid hbx
    obtain ⟨c0, c1, c2, c3, c4, c5⟩ := hbx
    go_wp2
    go_ret2
    exact ret_none HNO.out _ _ _ (by rw [Rp.data, HNO.out]; rfl) k0 _ rfl
  have d2 : decide ((s.size : Int) < 2) = false := by simp; omega
  by_cases hct : 0 < a.ct
  · have dc : decide (0 < a.ct) = true := by simpa using hct
    have hsub : (Ak.sub s 2).size ≤ s.size := by rw [Ak.sub, st_size, List.length_drop, bl_length]; omega
    have hctb : a.ct ≤ 2000 := by have := Rp.reads_cases hr; omega
    by_cases hf : a.fc ≤ 2
    · have df : decide (a.fc ≤ 2) = true := by simpa using hf
      have HP := Lib.hid (show Rp.part a s = Co.get (Ak.sub s 2) a.ct by rw [Rp.part, if_pos hct, if_pos hf])
      have HO := Lib.hid (show Rp.partOk a s = Co.getOk (Ak.sub s 2) a.ct by rw [Rp.partOk, if_pos hct, if_pos hf])
      have hlen := Co.get_len8 (Ak.sub s 2) a.ct
      go_enter Try.func23, Try.ntmps23
      go_wp2_with fail
      refine (Ref6.right_any A n c a _ hn (hA.kept k0)).mono ?_
      rintro e w1 ⟨rfl, hK⟩
      rw [hr]
      have hbx := hbx.below hK hlt0
      have hlt : w.heap.size < w1.heap.size := Nat.lt_of_lt_of_le hlt0 hK.size
      replace k0 := k0.trans hK
      clear hK hlt0
      have HX := Lib.hid hbx
      obtain ⟨c0, c1, c2, c3, c4, c5⟩ := hbx
      go_wp2_with fail
      rw [Ak.extract_end]
      refine (Ref1.getAllF_any (Ak.sub s 2) _ (by omega)).mono ?_
      rintro e w2 ⟨A1, n1, c1', rfl, _, hb2, _⟩
      replace hb2 : Keep w1 w2 := hb2
      have hbx := Boxed.kept HX.out hb2 hlt
      have hlt : w.heap.size < w2.heap.size := Nat.lt_of_lt_of_le hlt hb2.size
      replace k0 := k0.trans hb2
      clear hb2 c0 c1 c2 c3 c4 c5 HX
      have HX := Lib.hid hbx
      obtain ⟨c0, c1, c2, c3, c4, c5⟩ := hbx
      go_wp2
      have HX2 := Lib.hid (show ∀ W, Keep w2 W → W.cell? ⟨w.heap.size, 2, none⟩ = some (.int .i64 a.ct) from fun W h => (Boxed.kept HX.out h hlt).2.2.1)
      have hS := HX2.out
      have hsl : ∀ W : World, (Instr.slice 9 (.string s) (some (.int .i64 2)) none none).run Try.prog W = .ok (.string (Ak.sub s 2)) W := fun W => by rw [← Ak.extract_end]; exact slice2 s W (by omega)
      go_region_held3 (fun w' => w'.cell? ⟨w.heap.size, 2, none⟩ = some (.int .i64 a.ct))
        (first
          | exact hS _ hw
          | exact hS _ (keepd (Keep.refl w2))
          | fail)
        ((first
          | (go_at_call 32; refine (Ref5.getF_any (Ak.sub s 2) a.ct _ (by omega)).mono ?_; rintro e w4 ⟨A2, n2, c2', rfl, hI, hb4, _⟩; have hw : Keep w2 w4 := Below.trans (keepd (Keep.refl w2)) hb4)
          | fail))
      clear hS HX2 hb4 hsl
      have hbx := Boxed.kept HX.out hw hlt
      have hlt : w.heap.size < w4.heap.size := Nat.lt_of_lt_of_le hlt hw.size
      replace k0 := k0.trans hw
      clear hw c0 c1 c2 c3 c4 c5 HX
      have HX := Lib.hid hbx
      obtain ⟨c0, c1, c2, c3, c4, c5⟩ := hbx
      rw [← HP.out] at hI
      have hn2 : n2 ≤ 1000000 := by have := hI.1; rw [HP.out] at this; omega
      obtain ⟨pk, hpk⟩ : ∃ b, b = Co.getOk (Ak.sub s 2) a.ct := ⟨_, rfl⟩
      rw [← hpk]
      have HPK := Lib.hid hpk
      clear hpk hlen
      rw [HP.out] at hI
      cases pk
      · have hno : Rp.norm a s = false := Rp.norm_not (by rw [HO.out, ← HPK.out]; simp)
        have HNO := Lib.hid hno
        clear hno
        go_wp2
        go_ret2
        exact ret_none HNO.out _ _ _ (by rw [Rp.data, HNO.out]; rfl) k0 _ rfl
      · skip
        go_wp2_with fail
        refine (make_any A A2 n c n2 c2' a (Co.get (Ak.sub s 2) a.ct) _ hn hn2 (hA.kept k0) (hI)).mono ?_
        rintro e w5 ⟨rfl, hK5⟩
        obtain ⟨ok, hok⟩ : ∃ b, b = Rp.ok a (Co.get (Ak.sub s 2) a.ct) := ⟨_, rfl⟩
        obtain ⟨q, hq⟩ : ∃ b, b = st (Rp.make a (Co.get (Ak.sub s 2) a.ct)) := ⟨_, rfl⟩
        rw [← hok, ← hq]
        have HN := Lib.hid (show Rp.norm a s = (ok && q.toList == s.toList) by rw [norm_of (Co.get (Ak.sub s 2) a.ct) HP.out, hok, hq])
        replace k0 := k0.trans hK5
        clear hok hq c0 c1 c2 c3 c4 c5
        cases ok
        · go_wp2
          go_ret2
          have hno : Rp.norm a s = false := by rw [HN.out]; rfl
          exact ret_none hno _ _ _ (by rw [Rp.data, hno]; rfl) k0 _ rfl
        · cases hcmp : (q.toList == s.toList)
          · go_wp2
            go_ret2
            have hno : Rp.norm a s = false := by rw [HN.out, hcmp]; rfl
            exact ret_none hno _ _ _ (by rw [Rp.data, hno]; rfl) k0 _ rfl
          · go_wp2
            go_ret2
            have hyes : Rp.norm a s = true := by rw [HN.out, hcmp]; rfl
            exact ⟨A2, n2, c2', by rw [hyes]; rfl, by rw [Rp.data, hyes, if_pos rfl, HP.out]; exact hI.kept hK5, k0⟩
    · have df : decide (a.fc ≤ 2) = false := by simpa using hf
      have HP := Lib.hid (show Rp.part a s = Tw.getAll (Ak.sub s 2) by rw [Rp.part, if_pos hct, if_neg hf])
      have HO := Lib.hid (show Rp.partOk a s = Tw.evenB (Ak.sub s 2) by rw [Rp.partOk, if_pos hct, if_neg hf])
      have hlen := Tw.getAll_len (Ak.sub s 2)
      go_enter Try.func23, Try.ntmps23
      go_wp2_with fail
      refine (Ref6.right_any A n c a _ hn (hA.kept k0)).mono ?_
      rintro e w1 ⟨rfl, hK⟩
      rw [hr]
      have hbx := hbx.below hK hlt0
      have hlt : w.heap.size < w1.heap.size := Nat.lt_of_lt_of_le hlt0 hK.size
      replace k0 := k0.trans hK
      clear hK hlt0
      have HX := Lib.hid hbx
      obtain ⟨c0, c1, c2, c3, c4, c5⟩ := hbx
      go_wp2_with fail
      rw [Ak.extract_end]
      refine (Ref1.getAllF_any (Ak.sub s 2) _ (by omega)).mono ?_
      rintro e w2 ⟨A2, n2, c2', rfl, hI, hb2, _⟩
      replace hb2 : Keep w1 w2 := hb2
      have hbx := Boxed.kept HX.out hb2 hlt
      have hlt : w.heap.size < w2.heap.size := Nat.lt_of_lt_of_le hlt hb2.size
      replace k0 := k0.trans hb2
      clear hb2 c0 c1 c2 c3 c4 c5 HX
      have HX := Lib.hid hbx
      obtain ⟨c0, c1, c2, c3, c4, c5⟩ := hbx
      have hn2 : n2 ≤ 1000000 := by have := hI.1; omega
      obtain ⟨pk, hpk⟩ : ∃ b, b = Tw.evenB (Ak.sub s 2) := ⟨_, rfl⟩
      rw [← hpk]
      have HPK := Lib.hid hpk
      clear hpk hlen
      cases pk
      · have hno : Rp.norm a s = false := Rp.norm_not (by rw [HO.out, ← HPK.out]; simp)
        have HNO := Lib.hid hno
        clear hno
        go_wp2
        go_ret2
        exact ret_none HNO.out _ _ _ (by rw [Rp.data, HNO.out]; rfl) k0 _ rfl
      · skip
        go_wp2_with fail
        refine (make_any A A2 n c n2 c2' a (Tw.getAll (Ak.sub s 2)) _ hn hn2 (hA.kept k0) (hI)).mono ?_
        rintro e w5 ⟨rfl, hK5⟩
        obtain ⟨ok, hok⟩ : ∃ b, b = Rp.ok a (Tw.getAll (Ak.sub s 2)) := ⟨_, rfl⟩
        obtain ⟨q, hq⟩ : ∃ b, b = st (Rp.make a (Tw.getAll (Ak.sub s 2))) := ⟨_, rfl⟩
        rw [← hok, ← hq]
        have HN := Lib.hid (show Rp.norm a s = (ok && q.toList == s.toList) by rw [norm_of (Tw.getAll (Ak.sub s 2)) HP.out, hok, hq])
        replace k0 := k0.trans hK5
        clear hok hq c0 c1 c2 c3 c4 c5
        cases ok
        · go_wp2
          go_ret2
          have hno : Rp.norm a s = false := by rw [HN.out]; rfl
          exact ret_none hno _ _ _ (by rw [Rp.data, hno]; rfl) k0 _ rfl
        · cases hcmp : (q.toList == s.toList)
          · go_wp2
            go_ret2
            have hno : Rp.norm a s = false := by rw [HN.out, hcmp]; rfl
            exact ret_none hno _ _ _ (by rw [Rp.data, hno]; rfl) k0 _ rfl
          · go_wp2
            go_ret2
            have hyes : Rp.norm a s = true := by rw [HN.out, hcmp]; rfl
            exact ⟨A2, n2, c2', by rw [hyes]; rfl, by rw [Rp.data, hyes, if_pos rfl, HP.out]; exact hI.kept hK5, k0⟩
  · have dc : decide (0 < a.ct) = false := by simpa using hct
    have HP := Lib.hid (show Rp.part a s = [] by rw [Rp.part, if_neg hct])
    go_enter Try.func23, Try.ntmps23
    go_wp2_with fail
    refine (Ref6.right_any A n c a _ hn (hA.kept k0)).mono ?_
    rintro e w1 ⟨rfl, hK⟩
    rw [hr]
    have hbx := hbx.below hK hlt0
    have hlt : w.heap.size < w1.heap.size := Nat.lt_of_lt_of_le hlt0 hK.size
    replace k0 := k0.trans hK
    clear hK hlt0
    have HX := Lib.hid hbx
    obtain ⟨c0, c1, c2, c3, c4, c5⟩ := hbx
    go_wp2_with fail
    refine (make_any A none n c 0 0 a [] _ hn (Nat.zero_le _) (hA.kept k0) (Ints.none_ _ _ _ _)).mono ?_
    rintro e w5 ⟨rfl, hK5⟩
    obtain ⟨ok, hok⟩ : ∃ b, b = Rp.ok a [] := ⟨_, rfl⟩
    obtain ⟨q, hq⟩ : ∃ b, b = st (Rp.make a []) := ⟨_, rfl⟩
    rw [← hok, ← hq]
    have HN := Lib.hid (show Rp.norm a s = (ok && q.toList == s.toList) by rw [norm_of [] HP.out, hok, hq])
    replace k0 := k0.trans hK5
    clear hok hq c0 c1 c2 c3 c4 c5
    cases ok
    · go_wp2
      go_ret2
      have hno : Rp.norm a s = false := by rw [HN.out]; rfl
      exact ret_none hno _ _ _ (by rw [Rp.data, hno]; rfl) k0 _ rfl
    · cases hcmp : (q.toList == s.toList)
      · go_wp2
        go_ret2
        have hno : Rp.norm a s = false := by rw [HN.out, hcmp]; rfl
        exact ret_none hno _ _ _ (by rw [Rp.data, hno]; rfl) k0 _ rfl
      · go_wp2
        go_ret2
        have hyes : Rp.norm a s = true := by rw [HN.out, hcmp]; rfl
        exact ⟨none, 0, 0, by rw [hyes]; rfl, by rw [Rp.data, hyes, if_pos rfl, HP.out]; exact Ints.none_ _ _ _ _, k0⟩

set_option maxHeartbeats 2000000 in
theorem kind_any (A : Option Addr) (n c : Nat) (a : AskP) (s : ByteArray) (w : World) (hn : n ≤ 1000000) (hs : s.size ≤ 100000) (hA : Ints .i64 w w.heap.size A n a.vs) :
    Calls Try.prog 15 #[.agg #[.int .i64 a.fc, .int .i64 a.rd, .int .i64 a.ct, .int .i64 a.wr, .int .i64 a.mn, .slice A n c], .string s] w fun e w' => e = .returned (.int .i64 (Rp.kind a s)) ∧ Keep w w' := by
  have hbx := Boxed.new w a A n c 33
  have k0 := (Keep.refl w).alloc (.cells #[.int .i64 a.fc, .int .i64 a.rd, .int .i64 a.ct, .int .i64 a.wr, .int .i64 a.mn, .slice A n c] 33)
  have hlt0 : w.heap.size < (w.alloc (.cells #[.int .i64 a.fc, .int .i64 a.rd, .int .i64 a.ct, .int .i64 a.wr, .int .i64 a.mn, .slice A n c] 33)).heap.size := by simp
  obtain ⟨X, hX⟩ : ∃ X, X = (w.alloc (.cells #[.int .i64 a.fc, .int .i64 a.rd, .int .i64 a.ct, .int .i64 a.wr, .int .i64 a.mn, .slice A n c] 33)) := ⟨_, rfl⟩
  rw [← hX] at hbx k0 hlt0
  have D7 := fun hAX => data_any A n c a s X hn hs hAX
  have hd := D7 (hA.kept k0)
  clear D7
  obtain ⟨nm, hnm⟩ : ∃ b, b = Rp.norm a s := ⟨_, rfl⟩
  rw [← hnm] at hd
  have HNM := Lib.hid hnm
  clear hnm
  cases nm
  · obtain ⟨r, hr⟩ : ∃ b, b = Ak.right a := ⟨_, rfl⟩
    have HR := Lib.hid hr
    have HK := Lib.hid (show Rp.kind a s = if (r && s.size == 2 && byteAt s 0 == a.fc + 128 && Rp.code (byteAt s 1)) then 2 else 0 by rw [Rp.kind, ← HNM.out, hr]; rfl)
    have hfcb : r = true → 1 ≤ a.fc ∧ a.fc ≤ 23 := fun h => Rp.right_fc (by rw [← hr]; exact h)
    clear hr
    cases r
    · skip
      go_enter Try.func15, Try.ntmps15
      go_wp2_with fail
      rw [← hX]
      refine hd.mono ?_
      rintro e w1 ⟨A1, n1, c1', rfl, _, hb1⟩
      replace hb1 : Keep X w1 := hb1
      have hlt := hlt0
      have HX := Lib.hid hbx
      obtain ⟨c0, c1, c2, c3, c4, c5⟩ := hbx
      clear hd hX
      have hbx := Boxed.kept HX.out hb1 hlt
      have hlt : w.heap.size < w1.heap.size := Nat.lt_of_lt_of_le hlt hb1.size
      replace k0 := k0.trans hb1
      clear hb1 c0 c1 c2 c3 c4 c5 HX
      have HX := Lib.hid hbx
      obtain ⟨c0, c1, c2, c3, c4, c5⟩ := hbx
      go_wp2
      have hS : ∀ W, Keep w1 W → W.cell? ⟨w.heap.size, 0, none⟩ = some (.int .i64 a.fc) ∧ W.cell? ⟨w.heap.size, 1, none⟩ = some (.int .i64 a.rd) ∧ W.cell? ⟨w.heap.size, 2, none⟩ = some (.int .i64 a.ct) ∧ W.cell? ⟨w.heap.size, 3, none⟩ = some (.int .i64 a.wr) ∧ W.cell? ⟨w.heap.size, 4, none⟩ = some (.int .i64 a.mn) ∧ W.cell? ⟨w.heap.size, 5, none⟩ = some (.slice A n c) := fun W h => Boxed.kept HX.out h hlt
      have hAX := hA.kept k0
      have hk : ∀ p : KeptOf w1, (p.w.cell? ⟨w.heap.size, 0, none⟩ = some (.int .i64 a.fc) ∧ p.w.cell? ⟨w.heap.size, 1, none⟩ = some (.int .i64 a.rd) ∧ p.w.cell? ⟨w.heap.size, 2, none⟩ = some (.int .i64 a.ct)) ∧ p.w.cell? ⟨w.heap.size, 3, none⟩ = some (.int .i64 a.wr) ∧ p.w.cell? ⟨w.heap.size, 4, none⟩ = some (.int .i64 a.mn) ∧ p.w.cell? ⟨w.heap.size, 5, none⟩ = some (.slice A n c) := fun p => by
        obtain ⟨x0, x1, x2, x3, x4, x5⟩ := hS p.w p.h
        exact ⟨⟨x0, x1, x2⟩, x3, x4, x5⟩
      have hk0 := fun p => (hk p).1.1
      have hk1 := fun p => (hk p).1.2.1
      have hk2 := fun p => (hk p).1.2.2
      have hk3 := fun p => (hk p).2.1
      have hk4 := fun p => (hk p).2.2.1
      have hk5 := fun p => (hk p).2.2.2
      have hR : ∀ p : KeptOf w1, Calls Try.prog 17 #[.agg #[.int .i64 a.fc, .int .i64 a.rd, .int .i64 a.ct, .int .i64 a.wr, .int .i64 a.mn, .slice A n c]] p.w fun e w' => e = .returned (.bool false) ∧ Keep p.w w' := fun p => by
        have h := Ref6.right_any A n c a p.w hn (hAX.kept p.h)
        rwa [← HR.out] at h
      clear hk hS c0 c1 c2 c3 c4 c5
      refine wp_region_kept (by kernel_rfl) (by kernel_rfl) ?_
      repeat (go_big_quiet_step (first | with_reducible exact KeptOf.of (hR _)))
      refine Go.wpQuiet_nil ?_
      intro _ hw'
      obtain ⟨⟨W, hw⟩, hw''⟩ := hw'
      subst hw''
      go_wp2
      go_ret
      exact ⟨ret_int (by rw [HK.out]; rfl), k0.trans hw⟩
    have hfc := hfcb rfl
    by_cases h2 : s.size = 2
    · have d2 : ((s.size : Int) == 2) = true := by simp; omega
      have e2 : (s.size == 2) = true := by simp; omega
      have hx0 := idx (P := Try.prog) (k := .i64) s 0 Try.underlying9 (by omega) (by omega)
      have hx1 := idx (P := Try.prog) (k := .i64) s 1 Try.underlying9 (by omega) (by omega)
      have hr0 := byteAt_range s 0
      have hr1 := byteAt_range s 1
      cases hh : (byteAt s 0 == a.fc + 128)
      · have HH := Lib.hid hh
        have E2 := Lib.hid e2
        clear e2
        go_enter Try.func15, Try.ntmps15
        go_wp2_with fail
        rw [← hX]
        refine hd.mono ?_
        rintro e w1 ⟨A1, n1, c1', rfl, _, hb1⟩
        replace hb1 : Keep X w1 := hb1
        have hlt := hlt0
        have HX := Lib.hid hbx
        obtain ⟨c0, c1, c2, c3, c4, c5⟩ := hbx
        clear hd hX
        have hbx := Boxed.kept HX.out hb1 hlt
        have hlt : w.heap.size < w1.heap.size := Nat.lt_of_lt_of_le hlt hb1.size
        replace k0 := k0.trans hb1
        clear hb1 c0 c1 c2 c3 c4 c5 HX
        have HX := Lib.hid hbx
        obtain ⟨c0, c1, c2, c3, c4, c5⟩ := hbx
        go_wp2
        have hS : ∀ W, Keep w1 W → W.cell? ⟨w.heap.size, 0, none⟩ = some (.int .i64 a.fc) ∧ W.cell? ⟨w.heap.size, 1, none⟩ = some (.int .i64 a.rd) ∧ W.cell? ⟨w.heap.size, 2, none⟩ = some (.int .i64 a.ct) ∧ W.cell? ⟨w.heap.size, 3, none⟩ = some (.int .i64 a.wr) ∧ W.cell? ⟨w.heap.size, 4, none⟩ = some (.int .i64 a.mn) ∧ W.cell? ⟨w.heap.size, 5, none⟩ = some (.slice A n c) := fun W h => Boxed.kept HX.out h hlt
        have hAX := hA.kept k0
        have hk : ∀ p : KeptOf w1, (p.w.cell? ⟨w.heap.size, 0, none⟩ = some (.int .i64 a.fc) ∧ p.w.cell? ⟨w.heap.size, 1, none⟩ = some (.int .i64 a.rd) ∧ p.w.cell? ⟨w.heap.size, 2, none⟩ = some (.int .i64 a.ct)) ∧ p.w.cell? ⟨w.heap.size, 3, none⟩ = some (.int .i64 a.wr) ∧ p.w.cell? ⟨w.heap.size, 4, none⟩ = some (.int .i64 a.mn) ∧ p.w.cell? ⟨w.heap.size, 5, none⟩ = some (.slice A n c) := fun p => by
          obtain ⟨x0, x1, x2, x3, x4, x5⟩ := hS p.w p.h
          exact ⟨⟨x0, x1, x2⟩, x3, x4, x5⟩
        have hk0 := fun p => (hk p).1.1
        have hk1 := fun p => (hk p).1.2.1
        have hk2 := fun p => (hk p).1.2.2
        have hk3 := fun p => (hk p).2.1
        have hk4 := fun p => (hk p).2.2.1
        have hk5 := fun p => (hk p).2.2.2
        have hR : ∀ p : KeptOf w1, Calls Try.prog 17 #[.agg #[.int .i64 a.fc, .int .i64 a.rd, .int .i64 a.ct, .int .i64 a.wr, .int .i64 a.mn, .slice A n c]] p.w fun e w' => e = .returned (.bool true) ∧ Keep p.w w' := fun p => by
          have h := Ref6.right_any A n c a p.w hn (hAX.kept p.h)
          rwa [← HR.out] at h
        clear hk hS c0 c1 c2 c3 c4 c5
        refine wp_region_kept (by kernel_rfl) (by kernel_rfl) ?_
        repeat (go_big_quiet_step (first | with_reducible exact KeptOf.of (hR _)))
        refine Go.wpQuiet_nil ?_
        intro _ hw'
        obtain ⟨⟨W, hw⟩, hw''⟩ := hw'
        subst hw''
        go_wp2
        go_ret
        exact ⟨ret_int (by rw [HK.out, E2.out, HH.out]; rfl), k0.trans hw⟩
      · have HH := Lib.hid hh
        have E2 := Lib.hid e2
        clear e2
        cases hc : Rp.code (byteAt s 1)
        · have HC := Lib.hid hc
          clear hc
          have hCd : ∀ W : World, Calls Try.prog 24 #[.int .i64 (byteAt s 1)] W fun e w' => e = .returned (.bool false) ∧ Keep W w' := fun W => (code_any (byteAt s 1) W).mono fun e w' h => ⟨by rw [← HC.out]; exact h.1, by rw [← h.2]; exact Keep.refl _⟩
          go_enter Try.func15, Try.ntmps15
          go_wp2_with fail
          rw [← hX]
          refine hd.mono ?_
          rintro e w1 ⟨A1, n1, c1', rfl, _, hb1⟩
          replace hb1 : Keep X w1 := hb1
          have hlt := hlt0
          have HX := Lib.hid hbx
          obtain ⟨c0, c1, c2, c3, c4, c5⟩ := hbx
          clear hd hX
          have hbx := Boxed.kept HX.out hb1 hlt
          have hlt : w.heap.size < w1.heap.size := Nat.lt_of_lt_of_le hlt hb1.size
          replace k0 := k0.trans hb1
          clear hb1 c0 c1 c2 c3 c4 c5 HX
          have HX := Lib.hid hbx
          obtain ⟨c0, c1, c2, c3, c4, c5⟩ := hbx
          go_wp2
          have hS : ∀ W, Keep w1 W → W.cell? ⟨w.heap.size, 0, none⟩ = some (.int .i64 a.fc) ∧ W.cell? ⟨w.heap.size, 1, none⟩ = some (.int .i64 a.rd) ∧ W.cell? ⟨w.heap.size, 2, none⟩ = some (.int .i64 a.ct) ∧ W.cell? ⟨w.heap.size, 3, none⟩ = some (.int .i64 a.wr) ∧ W.cell? ⟨w.heap.size, 4, none⟩ = some (.int .i64 a.mn) ∧ W.cell? ⟨w.heap.size, 5, none⟩ = some (.slice A n c) := fun W h => Boxed.kept HX.out h hlt
          have hAX := hA.kept k0
          have hk : ∀ p : KeptOf w1, (p.w.cell? ⟨w.heap.size, 0, none⟩ = some (.int .i64 a.fc) ∧ p.w.cell? ⟨w.heap.size, 1, none⟩ = some (.int .i64 a.rd) ∧ p.w.cell? ⟨w.heap.size, 2, none⟩ = some (.int .i64 a.ct)) ∧ p.w.cell? ⟨w.heap.size, 3, none⟩ = some (.int .i64 a.wr) ∧ p.w.cell? ⟨w.heap.size, 4, none⟩ = some (.int .i64 a.mn) ∧ p.w.cell? ⟨w.heap.size, 5, none⟩ = some (.slice A n c) := fun p => by
            obtain ⟨x0, x1, x2, x3, x4, x5⟩ := hS p.w p.h
            exact ⟨⟨x0, x1, x2⟩, x3, x4, x5⟩
          have hk0 := fun p => (hk p).1.1
          have hk1 := fun p => (hk p).1.2.1
          have hk2 := fun p => (hk p).1.2.2
          have hk3 := fun p => (hk p).2.1
          have hk4 := fun p => (hk p).2.2.1
          have hk5 := fun p => (hk p).2.2.2
          have hR : ∀ p : KeptOf w1, Calls Try.prog 17 #[.agg #[.int .i64 a.fc, .int .i64 a.rd, .int .i64 a.ct, .int .i64 a.wr, .int .i64 a.mn, .slice A n c]] p.w fun e w' => e = .returned (.bool true) ∧ Keep p.w w' := fun p => by
            have h := Ref6.right_any A n c a p.w hn (hAX.kept p.h)
            rwa [← HR.out] at h
          clear hk hS c0 c1 c2 c3 c4 c5
          refine wp_region_kept (by kernel_rfl) (by kernel_rfl) ?_
          repeat (go_big_quiet_step (first | with_reducible exact KeptOf.of (hR _) | with_reducible exact KeptOf.of (hCd _)))
          refine Go.wpQuiet_nil ?_
          intro _ hw'
          obtain ⟨⟨W, hw⟩, hw''⟩ := hw'
          subst hw''
          go_wp2
          go_ret
          exact ⟨ret_int (by rw [HK.out, E2.out, HH.out, HC.out]; rfl), k0.trans hw⟩
        · have HC := Lib.hid hc
          clear hc
          have hCd : ∀ W : World, Calls Try.prog 24 #[.int .i64 (byteAt s 1)] W fun e w' => e = .returned (.bool true) ∧ Keep W w' := fun W => (code_any (byteAt s 1) W).mono fun e w' h => ⟨by rw [← HC.out]; exact h.1, by rw [← h.2]; exact Keep.refl _⟩
          go_enter Try.func15, Try.ntmps15
          go_wp2_with fail
          rw [← hX]
          refine hd.mono ?_
          rintro e w1 ⟨A1, n1, c1', rfl, _, hb1⟩
          replace hb1 : Keep X w1 := hb1
          have hlt := hlt0
          have HX := Lib.hid hbx
          obtain ⟨c0, c1, c2, c3, c4, c5⟩ := hbx
          clear hd hX
          have hbx := Boxed.kept HX.out hb1 hlt
          have hlt : w.heap.size < w1.heap.size := Nat.lt_of_lt_of_le hlt hb1.size
          replace k0 := k0.trans hb1
          clear hb1 c0 c1 c2 c3 c4 c5 HX
          have HX := Lib.hid hbx
          obtain ⟨c0, c1, c2, c3, c4, c5⟩ := hbx
          go_wp2
          have hS : ∀ W, Keep w1 W → W.cell? ⟨w.heap.size, 0, none⟩ = some (.int .i64 a.fc) ∧ W.cell? ⟨w.heap.size, 1, none⟩ = some (.int .i64 a.rd) ∧ W.cell? ⟨w.heap.size, 2, none⟩ = some (.int .i64 a.ct) ∧ W.cell? ⟨w.heap.size, 3, none⟩ = some (.int .i64 a.wr) ∧ W.cell? ⟨w.heap.size, 4, none⟩ = some (.int .i64 a.mn) ∧ W.cell? ⟨w.heap.size, 5, none⟩ = some (.slice A n c) := fun W h => Boxed.kept HX.out h hlt
          have hAX := hA.kept k0
          have hk : ∀ p : KeptOf w1, (p.w.cell? ⟨w.heap.size, 0, none⟩ = some (.int .i64 a.fc) ∧ p.w.cell? ⟨w.heap.size, 1, none⟩ = some (.int .i64 a.rd) ∧ p.w.cell? ⟨w.heap.size, 2, none⟩ = some (.int .i64 a.ct)) ∧ p.w.cell? ⟨w.heap.size, 3, none⟩ = some (.int .i64 a.wr) ∧ p.w.cell? ⟨w.heap.size, 4, none⟩ = some (.int .i64 a.mn) ∧ p.w.cell? ⟨w.heap.size, 5, none⟩ = some (.slice A n c) := fun p => by
            obtain ⟨x0, x1, x2, x3, x4, x5⟩ := hS p.w p.h
            exact ⟨⟨x0, x1, x2⟩, x3, x4, x5⟩
          have hk0 := fun p => (hk p).1.1
          have hk1 := fun p => (hk p).1.2.1
          have hk2 := fun p => (hk p).1.2.2
          have hk3 := fun p => (hk p).2.1
          have hk4 := fun p => (hk p).2.2.1
          have hk5 := fun p => (hk p).2.2.2
          have hR : ∀ p : KeptOf w1, Calls Try.prog 17 #[.agg #[.int .i64 a.fc, .int .i64 a.rd, .int .i64 a.ct, .int .i64 a.wr, .int .i64 a.mn, .slice A n c]] p.w fun e w' => e = .returned (.bool true) ∧ Keep p.w w' := fun p => by
            have h := Ref6.right_any A n c a p.w hn (hAX.kept p.h)
            rwa [← HR.out] at h
          clear hk hS c0 c1 c2 c3 c4 c5
          refine wp_region_kept (by kernel_rfl) (by kernel_rfl) ?_
          repeat (go_big_quiet_step (first | with_reducible exact KeptOf.of (hR _) | with_reducible exact KeptOf.of (hCd _)))
          refine Go.wpQuiet_nil ?_
          intro _ hw'
          obtain ⟨⟨W, hw⟩, hw''⟩ := hw'
          subst hw''
          go_wp2
          go_ret
          exact ⟨ret_int (by rw [HK.out, E2.out, HH.out, HC.out]; rfl), k0.trans hw⟩
    · have d2 : ((s.size : Int) == 2) = false := by simp; omega
      have E2 := Lib.hid (show (s.size == 2) = false by simpa using h2)
      go_enter Try.func15, Try.ntmps15
      go_wp2_with fail
      rw [← hX]
      refine hd.mono ?_
      rintro e w1 ⟨A1, n1, c1', rfl, _, hb1⟩
      replace hb1 : Keep X w1 := hb1
      have hlt := hlt0
      have HX := Lib.hid hbx
      obtain ⟨c0, c1, c2, c3, c4, c5⟩ := hbx
      clear hd hX
      have hbx := Boxed.kept HX.out hb1 hlt
      have hlt : w.heap.size < w1.heap.size := Nat.lt_of_lt_of_le hlt hb1.size
      replace k0 := k0.trans hb1
      clear hb1 c0 c1 c2 c3 c4 c5 HX
      have HX := Lib.hid hbx
      obtain ⟨c0, c1, c2, c3, c4, c5⟩ := hbx
      go_wp2
      have hS : ∀ W, Keep w1 W → W.cell? ⟨w.heap.size, 0, none⟩ = some (.int .i64 a.fc) ∧ W.cell? ⟨w.heap.size, 1, none⟩ = some (.int .i64 a.rd) ∧ W.cell? ⟨w.heap.size, 2, none⟩ = some (.int .i64 a.ct) ∧ W.cell? ⟨w.heap.size, 3, none⟩ = some (.int .i64 a.wr) ∧ W.cell? ⟨w.heap.size, 4, none⟩ = some (.int .i64 a.mn) ∧ W.cell? ⟨w.heap.size, 5, none⟩ = some (.slice A n c) := fun W h => Boxed.kept HX.out h hlt
      have hAX := hA.kept k0
      have hk : ∀ p : KeptOf w1, (p.w.cell? ⟨w.heap.size, 0, none⟩ = some (.int .i64 a.fc) ∧ p.w.cell? ⟨w.heap.size, 1, none⟩ = some (.int .i64 a.rd) ∧ p.w.cell? ⟨w.heap.size, 2, none⟩ = some (.int .i64 a.ct)) ∧ p.w.cell? ⟨w.heap.size, 3, none⟩ = some (.int .i64 a.wr) ∧ p.w.cell? ⟨w.heap.size, 4, none⟩ = some (.int .i64 a.mn) ∧ p.w.cell? ⟨w.heap.size, 5, none⟩ = some (.slice A n c) := fun p => by
        obtain ⟨x0, x1, x2, x3, x4, x5⟩ := hS p.w p.h
        exact ⟨⟨x0, x1, x2⟩, x3, x4, x5⟩
      have hk0 := fun p => (hk p).1.1
      have hk1 := fun p => (hk p).1.2.1
      have hk2 := fun p => (hk p).1.2.2
      have hk3 := fun p => (hk p).2.1
      have hk4 := fun p => (hk p).2.2.1
      have hk5 := fun p => (hk p).2.2.2
      have hR : ∀ p : KeptOf w1, Calls Try.prog 17 #[.agg #[.int .i64 a.fc, .int .i64 a.rd, .int .i64 a.ct, .int .i64 a.wr, .int .i64 a.mn, .slice A n c]] p.w fun e w' => e = .returned (.bool true) ∧ Keep p.w w' := fun p => by
        have h := Ref6.right_any A n c a p.w hn (hAX.kept p.h)
        rwa [← HR.out] at h
      clear hk hS c0 c1 c2 c3 c4 c5
      refine wp_region_kept (by kernel_rfl) (by kernel_rfl) ?_
      repeat (go_big_quiet_step (first | with_reducible exact KeptOf.of (hR _)))
      refine Go.wpQuiet_nil ?_
      intro _ hw'
      obtain ⟨⟨W, hw⟩, hw''⟩ := hw'
      subst hw''
      go_wp2
      go_ret
      exact ⟨ret_int (by rw [HK.out, E2.out]; rfl), k0.trans hw⟩
  · have HK := Lib.hid (show Rp.kind a s = 1 by rw [Rp.kind, ← HNM.out]; rfl)
    go_enter Try.func15, Try.ntmps15
    go_wp2_with fail
    rw [← hX]
    refine hd.mono ?_
    rintro e w1 ⟨A1, n1, c1', rfl, _, hb1⟩
    go_wp2
    go_ret
    exact ⟨ret_int HK.out.symm, k0.trans hb1⟩
end Go.Proofs.Ytijnajlijdnbcaa.Ref7
