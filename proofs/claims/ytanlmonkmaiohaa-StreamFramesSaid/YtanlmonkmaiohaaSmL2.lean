/- Layer 9's law StreamFrames. Conditions: none beyond the law's own. -/
import Derived.Test.YtanlmonkmaiohaaSmL
namespace Go.Proofs.Ytanlmonkmaiohaa.Strm
set_option linter.unusedVariables false
open Go.ChangeShapes Go.WideShapes Go.ChangeAt Go.RowKit
open Ref8 (ret_bool)
open Ref9 (BoxedS RetPush encF encF_len row_frame frames_same)
open Ref8 (BoxedF)

theorem all_snoc (l : List FrameP) (f : FrameP) : Sm.all (l ++ [f]) = Sm.all l ++ Mb.put f := by simp [Sm.all]
theorem all_len (l : List FrameP) : (Sm.all l).length ≤ 260 * l.length := by
  induction l with
  | nil => simp [Sm.all]
  | cons f l ih =>
    have h : (Mb.put f).length ≤ 260 := by
      cases hr : Mb.right f
      · rw [Mb.put, hr]; simp
      · exact (Mb.get_put hr).2.2.2
    have e : Sm.all (f :: l) = Mb.put f ++ Sm.all l := by simp [Sm.all]
    rw [e, List.length_append, List.length_cons]
    omega
theorem getD_take {α : Type} (l : List α) (d : α) (k : Nat) (hk : k < l.length) : l.take (k + 1) = l.take k ++ [l.getD k d] := by
  rw [List.take_succ_eq_append_getElem hk]
  simp [List.getD, List.getElem?_eq_getElem hk]
set_option maxHeartbeats 4000000 in
theorem frames_any (A : Option Addr) (n c : Nat) (zs : List FrameP) (f : FrameP) (cut : Int) (w : World) (hn : n ≤ maxLen) (hA : Row encF 3 w w.heap.size A n zs) (hL : ∀ g ∈ zs, g.pdu.size ≤ maxLen) (hf : f.pdu.size ≤ maxLen) (hc0 : 0 ≤ cut) (hc1 : cut ≤ 65535) :
    Calls Try.prog 5 #[.slice A n c, .agg #[.int .i64 f.id, .int .i64 f.unit, .string f.pdu], .int .u16 cut] w fun e w' => e = .returned (.bool true) ∧ Keep w w' := by
  unfold maxLen at hn
  have HLL := Lib.hid hL
  have HFL := Lib.hid hf
  have hbx := BoxedF.new w f 34
  obtain ⟨X, hX⟩ : ∃ X, X = w.alloc (.cells #[.int .i64 f.id, .int .i64 f.unit, .string f.pdu] 34) := ⟨_, rfl⟩
  rw [← hX] at hbx
  have k0 : Keep w X := by rw [hX]; exact (Keep.refl w).alloc _
  have hltX : w.heap.size < X.heap.size := by rw [hX]; simp
  have hAX := hA.kept k0
  have hlen := hA.1
  clear hL hf hA
  by_cases hn20 : 20 < n
  · have d20 : decide ((20 : Int) < (n : Int)) = true := by simp; omega
    go_enter Try.func5, Try.ntmps5
    go_wp2_with fail
    rw [← hX]
    refine (awake_any _).mono ?_
    rintro e w1 ⟨rfl, hb⟩
    go_wp2
    go_ret
    exact ⟨rfl, k0.trans hb⟩
  have d20 : decide ((20 : Int) < (n : Int)) = false := by simp; omega
  obtain ⟨c0, c1, c2⟩ := hbx
  go_enter Try.func5, Try.ntmps5
  go_wp2
  rw [← hX]
  clear hX
  go_loopw [7, 8] (fun s i wr => ∃ k : Nat, k ≤ n ∧ i = .int .i64 k ∧ s = .string (st (Sm.all (zs.take k))) ∧ Hid (∀ g ∈ zs.take k, Mb.right g = true) ∧ Keep X wr) (fun _ i _ => n - (intOf i).toNat)
  case atStart => exact ⟨0, Nat.zero_le _, rfl, rfl, fun g hg => (by simp at hg), Keep.refl X⟩
  case round =>
    obtain ⟨k, hk, rfl, rfl, hall, hkx⟩ := hrel
    by_cases hlt : k < n
    · have hltz : (k : Int) < n := by omega
      have hk0 : (0 : Int) ≤ k := by omega
      obtain ⟨b, off, rfl, _⟩ := hAX.addr (by omega)
      obtain ⟨hbb, x0, x1, x2⟩ := row_frame hAX k hlt
      replace x0 := (Below.cell hkx (p := ⟨b, off + k * 3, none⟩) hbb).trans x0
      replace x1 := (Below.cell hkx (p := ⟨b, off + k * 3 + 1, none⟩) hbb).trans x1
      replace x2 := (Below.cell hkx (p := ⟨b, off + k * 3 + 2, none⟩) hbb).trans x2
      have htk := getD_take zs Mb.zero k (by omega)
      have hgl : (zs.getD k Mb.zero).pdu.size ≤ maxLen := by
        rw [List.getD_eq_getElem?_getD, List.getElem?_eq_getElem (by omega)]
        exact HLL.out _ (List.getElem_mem _)
      obtain ⟨g, hg⟩ : ∃ g, g = zs.getD k Mb.zero := ⟨_, rfl⟩
      rw [← hg] at x0 x1 x2 htk hgl
      have HTK := Lib.hid htk
      have HGL := Lib.hid hgl
      clear hg htk hgl
      go_wp2_with fail
      refine (Ref8.put_any g _ HGL.out).mono ?_
      rintro e w1 ⟨rfl, h1⟩
      clear x0 x1 x2
      cases hr : Mb.right g
      · go_wp2_with fail
        refine (awake_any _).mono ?_
        rintro e w2 ⟨rfl, h2⟩
        go_wp2
        go_ret
        exact ⟨rfl, ((k0.trans hkx).trans h1).trans h2⟩
      · have HS := Lib.hid (all_snoc (zs.take k) g)
        have hl1 := all_len (zs.take k)
        have hl2 := (Mb.get_put hr).2.2.2
        have HR := Lib.hid hr
        have hl3 : (zs.take k).length ≤ 20 := by rw [List.length_take]; omega
        have a1 := add_st (P := Try.prog) (Sm.all (zs.take k)) (Mb.put g) (by omega)
        clear hr hl1 hl2 hl3
        go_wp2
        refine ⟨⟨k + 1, by omega, by go_num, by rw [HTK.out, HS.out], ?_, hkx.trans h1⟩, by simp [intOf]; omega⟩
        show ∀ g' ∈ zs.take (k + 1), Mb.right g' = true
        rw [HTK.out]
        intro g' hg'
        rcases List.mem_append.1 hg' with h | h
        · exact hall.out g' h
        · rw [List.mem_singleton.1 h]; exact HR.out
    · obtain rfl : k = n := by omega
      have hzs : zs.take k = zs := List.take_of_length_le (by omega)
      have hall' : ∀ g ∈ zs, Mb.right g = true := by have := hall.out; rwa [hzs] at this
      rw [hzs]
      have y0 := (Below.cell hkx (p := ⟨w.heap.size, 0, none⟩) hltX).trans c0
      have y1 := (Below.cell hkx (p := ⟨w.heap.size, 1, none⟩) hltX).trans c1
      have y2 := (Below.cell hkx (p := ⟨w.heap.size, 2, none⟩) hltX).trans c2
      replace hAX := hAX.kept hkx
      replace k0 := k0.trans hkx
      have hsl1 := all_len zs
      have HALL := Lib.hid hall'
      clear hall hall' hzs hkx c0 c1 c2
      go_wp2_with fail
      refine (Ref8.put_any f _ HFL.out).mono ?_
      rintro e w1 ⟨rfl, h1⟩
      replace hAX := hAX.kept h1
      replace k0 := k0.trans h1
      clear h1 y0 y1 y2
      cases hr : Mb.right f
      · go_wp2_with fail
        refine (awake_any _).mono ?_
        rintro e w2 ⟨rfl, h2⟩
        go_wp2
        go_ret
        exact ⟨rfl, k0.trans h2⟩
      · obtain ⟨_, _, g3, g4⟩ := Mb.get_put hr
        obtain ⟨q, hq⟩ : ∃ q, q = st (Mb.put f) := ⟨_, rfl⟩
        have hqs : q.size = (Mb.put f).length := by rw [hq, st_size]
        obtain ⟨m, hm⟩ : ∃ m : Nat, m = cut.toNat % (Mb.put f).length := ⟨_, rfl⟩
        have hml : m < (Mb.put f).length := by rw [hm]; exact Nat.mod_lt _ (by omega)
        have hmod : cut.tmod (q.size : Int) = (m : Int) := by
          rw [Int.tmod_eq_emod_of_nonneg hc0, hqs, hm]
          have : cut = (cut.toNat : Int) := by omega
          rw [this]
          simp
        obtain ⟨t, ht⟩ : ∃ t, t = (Mb.put f).take m := ⟨_, rfl⟩
        have hex : q.extract 0 m = st t := by rw [hq, Lib.extract_eq, ht]; rfl
        have hsl : ∀ W : World, (Instr.slice 9 (.string q) none (some (.int .i64 (m : Int))) none).run Try.prog W = .ok (.string (st t)) W := fun W => by
          have h := run_slice_string_h (P := Try.prog) (w := W) (t := 9) (s := q) Try.underlying9 .i64 (m : Int) (by omega) (by omega)
          rw [h, show (m : Int).toNat = m from by omega, hex]
        have htl : t.length = m := by rw [ht, List.length_take]; omega
        have a1 := add_st (P := Try.prog) (Sm.all zs) t (by omega)
        have hrt := Sm.begin_right f hr m hml
        rw [← ht] at hrt
        have hfd : Sm.feed (⟨[], false⟩, []) (Sm.all zs ++ t) = (⟨t, false⟩, zs) := by
          rw [Sm.feed_frames zs HALL.out t []]
          exact Sm.right_feed ⟨t, false⟩ hrt rfl _
        have P1 := Lib.hid (fun W => push_to ⟨#[]⟩ (st (Sm.all zs ++ t)) false _ _ W (by decide) (by rw [st_size, List.length_append]; omega) rfl hfd)
        have hgd := guardS
        have heq := eqS (st t) false
        have hq0 : (q.size : Int) ≠ 0 := by omega
        have hq00 : ((q.size : Int) == 0) = false := by simpa using hq0
        have h16 : IntKind.i64.wrap cut = cut := by rw [IntKind.wrap_i64]; omega
        rw [← hq]
        clear hrt hfd hex ht htl hm hq hqs hr g3 g4 hml hsl1
        go_wp2_with fail
        refine (P1.out _).mono ?_
        rintro e w2 ⟨A2, n2, c2', rfl, i2, h2, _⟩
        replace hAX := hAX.kept h2
        replace k0 := k0.trans h2
        clear h2
        simp only at i2 ⊢
        have B1 := Bs.new w2 (st t) false 23
        have h2a := (Keep.refl w2).alloc (.cells #[.string (st t), .bool false] 23)
        go_wp2_with fail
        refine (awake_any _).mono ?_
        rintro e w3 ⟨rfl, h3⟩
        replace B1 := Lib.hid (B1.kept h3)
        replace h3 := h2a.trans h3
        replace hAX := hAX.kept h3
        replace i2 := i2.kept h3
        replace k0 := k0.trans h3
        clear h3 h2a
        obtain ⟨⟨a1, b1⟩, _⟩ := B1.out
        go_wp2_with fail
        refine (frames_same A A2 k n2 c c2' zs _ (by omega) hAX i2).mono ?_
        rintro e w4 ⟨rfl, h4⟩
        go_wp2
        go_ret
        exact ⟨rfl, k0.trans h4⟩
end Go.Proofs.Ytanlmonkmaiohaa.Strm
