/- Several texts in one: Gu, Gu2, GuR. Conditions: as each part says. -/
import Derived.Test.YtmcgflpgkkophaaGreatDoorItoa
import Derived.Recover
import Derived.WalkLawsBesides
import Derived.Defers
import Derived.Laws.Pointers
import Derived.Test.YtmcgflpgkkophaaGreatDoorRows
import Derived.Test.YtmcgflpgkkophaaGreatDoorGuA
/- Layer 2's functions: each answers what the plain words of GuA say. Conditions: texts at most a million bytes; the library's table lies. -/
namespace Go.Proofs.YtmcgflpgkkophaaGreatDoor.Guard
open Go.ChangeShapes Go.WideShapes Go.ChangeAt Go.RowKit

set_option maxHeartbeats 400000 in
theorem isDigit_any (b : Int) (w : World) :
    Calls Tryz.prog 108 #[.int .u8 b] w fun e w' => e = .returned (.bool (Gu.dgB b)) ∧ w = w' := by
  by_cases h0 : b < 48
  · have e := Gu.dgB_lo h0
    have h0' : ¬ 48 ≤ b := by omega
    rw [e]
    clear e h0
    go_enter Tryz.func108, Tryz.ntmps108
    go_wp2
    go_ret
    exact ⟨rfl, rfl⟩
  · by_cases h1 : 57 < b
    · have e := Gu.dgB_hi h1
      have h0' : 48 ≤ b := by omega
      have h1' : ¬ b ≤ 57 := by omega
      rw [e]
      clear e h0 h1
      go_enter Tryz.func108, Tryz.ntmps108
      go_wp2
      go_ret
      exact ⟨rfl, rfl⟩
    · have h0' : 48 ≤ b := by omega
      have h1' : b ≤ 57 := by omega
      rw [Gu.dgB_mk h0' h1']
      go_enter Tryz.func108, Tryz.ntmps108
      go_wp2
      go_ret
      exact ⟨rfl, rfl⟩

/-- The panic that ends a reading. -/
def Wrong (e : Ending) : Prop := e = .panicked [{ v := .iface 105 (.agg #[]), recovered := false }]

set_option maxHeartbeats 400000 in
theorem digit_yes (b : Int) (w : World) (h : Gu.dgB b = true) :
    Calls Tryz.prog 93 #[.int .u8 b] w fun e w' => e = .returned (.int .i64 (b - 48)) ∧ w = w' := by
  have h0 := Gu.dgB_out h
  obtain ⟨h1, h2⟩ := h0
  go_enter Tryz.func93, Tryz.ntmps93
  go_wp2_with fail
  refine (isDigit_any b _).mono ?_
  rintro e w1 ⟨rfl, rfl⟩
  go_wp2
  go_ret
  exact ⟨rfl, rfl⟩
set_option maxHeartbeats 400000 in
theorem digit_no (b : Int) (w : World) (h : Gu.dgB b = false) :
    Calls Tryz.prog 93 #[.int .u8 b] w fun e w' => Wrong e ∧ w = w' := by
  go_enter Tryz.func93, Tryz.ntmps93
  go_wp2_with fail
  refine (isDigit_any b _).mono ?_
  rintro e w1 ⟨rfl, rfl⟩
  go_wp2
  exact ⟨rfl, rfl, rfl⟩
set_option maxHeartbeats 400000 in
theorem atMost_yes (n : Int) (w : World) (h : n ≤ 9007199254740992) :
    Calls Tryz.prog 92 #[.int .i64 n] w fun e w' => e = .returned (.int .i64 n) ∧ w = w' := by
  have h' : ¬ 9007199254740992 < n := by omega
  go_enter Tryz.func92, Tryz.ntmps92
  go_wp2
  go_ret
  exact ⟨rfl, rfl⟩
set_option maxHeartbeats 400000 in
theorem atMost_no (n : Int) (w : World) (h : 9007199254740992 < n) :
    Calls Tryz.prog 92 #[.int .i64 n] w fun e w' => Wrong e ∧ w = w' := by
  go_enter Tryz.func92, Tryz.ntmps92
  go_wp2
  exact ⟨rfl, rfl, rfl⟩

/-- How a reading ends. -/
def ReadEnd (l : List UInt8) (w : World) (e : Ending) (w' : World) : Prop :=
  ((Gu.getOk l = true ∧ e = .returned (.int .i64 (Gu.val l))) ∨ (Gu.getOk l = false ∧ Wrong e)) ∧ Quiet w w'
/-- What holds at the head of the reading's rounds. -/
def ReadRel (w : World) (s : ByteArray) (n i : Value) (wr : World) : Prop :=
  ∃ k : Nat, k ≤ s.size ∧ i = .int .i64 k ∧ n = .int .i64 (Gu.val ((bl s).take k)) ∧ ((bl s).take k).all Gu.dig = true ∧ Gu.val ((bl s).take k) ≤ 9007199254740992 ∧ Quiet w wr

set_option maxHeartbeats 1000000 in
theorem read_any (s : ByteArray) (w : World) (hs : s.size ≤ 1000000) :
    Calls Tryz.prog 72 #[.string s] w (ReadEnd (bl s) w) := by
  by_cases hz : s.size = 0
  · have h0 : s = ⟨#[]⟩ := by
      cases s; rename_i d
      have hd : d.size = 0 := hz
      rw [Array.eq_empty_of_size_eq_zero hd]
    subst h0
    clear hs hz
    go_enter Tryz.func72, Tryz.ntmps72
    go_wp2
    exact ⟨rfl, .inr ⟨rfl, rfl⟩, Quiet.refl _⟩
  · have hne : bl s ≠ [] := by intro h; apply hz; rw [← bl_length, h]; rfl
    have hs1 := isEmpty_false hne
    by_cases hh : Gu.headOk (bl s) = true
    · have HH := Lib.hid hh
      have hx := idx (P := Tryz.prog) (k := .i64) s 0 Tryz.underlying9 (by omega) (by omega)
      have hcase : ((byteAt s 0 == 48) = true ∧ ¬ (1 : Int) < s.size) ∨ (byteAt s 0 == 48) = false := by
        by_cases h3 : byteAt s 0 = 48
        · left
          refine ⟨by simp [h3], ?_⟩
          simp only [Gu.headOk, decide_eq_true_eq] at hh
          rcases hh.2 with h4 | h4
          · exfalso
            apply h4
            apply UInt8.toNat_inj.1
            have h5 : ((((bl s).getD 0 0).toNat : Nat) : Int) = 48 := h3
            show ((bl s).getD 0 0).toNat = 48
            omega
          · rw [bl_length] at h4; omega
        · right; simp [h3]
      clear hh hne hz
      rcases hcase with ⟨hb, h1⟩ | hb
      all_goals
        go_enter Tryz.func72, Tryz.ntmps72
        go_wp2
        go_loopw [3, 21] (fun v i wr => ReadRel w s v i wr) (fun _ i _ => s.size - (intOf i).toNat)
        case atStart => exact ⟨0, Nat.zero_le _, rfl, rfl, rfl, Nat.zero_le _, Quiet.refl _⟩
        case round =>
          obtain ⟨k, hk, rfl, rfl, hall, hval, hq⟩ := hrel
          by_cases hlt : k < s.size
          · have hxk := idx (P := Tryz.prog) (k := .i64) s (k : Int) Tryz.underlying9 (by omega) (by omega)
            have hi1 : (k : Int) < s.size := by omega
            obtain ⟨b, hbe⟩ : ∃ b, b = byteAt s (k : Int) := ⟨_, rfl⟩
            rw [← hbe] at hxk
            have hbr := byteAt_range s (k : Int)
            rw [← hbe] at hbr
            obtain ⟨m, hm⟩ : ∃ m, m = Gu.val ((bl s).take k) := ⟨_, rfl⟩
            rw [← hm] at hval ⊢
            have HB := Lib.hid hbe
            have HM := Lib.hid hm
            have HA := Lib.hid hall
            clear hbe hm hall hx hb
            by_cases hd : Gu.dgB b = true
            · have hd2 := Gu.dgB_out hd
              by_cases hgr : 10 * (m : Int) + (b - 48) ≤ 9007199254740992
              · go_wp2_with fail
                refine (digit_yes b _ hd).mono ?_
                rintro e w1 ⟨rfl, rfl⟩
                go_wp2_with fail
                refine (atMost_yes _ _ hgr).mono ?_
                rintro e w1 ⟨rfl, rfl⟩
                go_wp2
                go_roundw
                case rel =>
                  have e1 := Gu.val_next s k hlt (by rw [← HB.out]; exact hd)
                  rw [← HB.out, ← HM.out] at e1
                  exact ⟨k + 1, by omega, by go_num, by rw [e1], Gu.all_next s k hlt HA.out (by rw [← HB.out]; exact hd), by omega, hq⟩
                case measure => simp [intOf]; omega
              · have e1 := Gu.too_great s k hlt (by rw [← HB.out]; exact hd) (by rw [← HB.out, ← HM.out]; omega)
                have HE := Lib.hid e1
                clear e1
                go_wp2_with fail
                refine (digit_yes b _ hd).mono ?_
                rintro e w1 ⟨rfl, rfl⟩
                go_wp2_with fail
                refine (atMost_no _ _ (by omega)).mono ?_
                rintro e w1 ⟨rfl, rfl⟩
                go_wp2
                exact ⟨rfl, .inr ⟨HE.out, rfl⟩, hq⟩
            · have hd : Gu.dgB b = false := by simpa using hd
              have e1 := Gu.no_digit s k hlt (by rw [← HB.out]; exact hd)
              have HE := Lib.hid e1
              clear e1
              go_wp2_with fail
              refine (digit_no b _ hd).mono ?_
              rintro e w1 ⟨rfl, rfl⟩
              go_wp2
              exact ⟨rfl, .inr ⟨HE.out, rfl⟩, hq⟩
          · obtain rfl : k = s.size := by omega
            have e1 := Gu.all_read s HH.out hall hval
            have e2 := Gu.val_whole s
            have HE := Lib.hid e1
            have HV := Lib.hid e2
            clear e1 e2 hall hval
            go_wp2
            go_ret
            exact ⟨.inl ⟨HE.out, by rw [HV.out]; rfl⟩, hq⟩
    · have hh : Gu.headOk (bl s) = false := by simpa using hh
      have e := Gu.getOk_nohead hh
      have h2 : 1 < s.size := by
        rcases Nat.lt_or_ge 1 s.size with h | h
        · exact h
        · exfalso
          have : s.size = 1 := by omega
          rw [← bl_length] at this
          simp [Gu.headOk, hne, this] at hh
      have h3 : byteAt s 0 = 48 := by
        have h4 : (bl s).getD 0 0 = 48 := by
          rw [← bl_length] at h2
          simp [Gu.headOk, hne] at hh
          exact hh.1
        show ((((bl s).getD 0 0).toNat : Nat) : Int) = 48
        rw [h4]; rfl
      have hx := idx (P := Tryz.prog) (k := .i64) s 0 Tryz.underlying9 (by omega) (by omega)
      rw [h3] at hx
      have HE := Lib.hid e
      have h2' : (1 : Int) < s.size := by omega
      clear e hh hne h3 hz
      go_enter Tryz.func72, Tryz.ntmps72
      go_wp2
      exact ⟨rfl, .inr ⟨HE.out, rfl⟩, Quiet.refl _⟩

end Go.Proofs.YtmcgflpgkkophaaGreatDoor.Guard
/- Layer 2's reading, its deferred function that recovers, and its writing. Conditions: texts at most a million bytes; the library's table lies. -/
namespace Go.Proofs.YtmcgflpgkkophaaGreatDoor.Guard
open Go.ChangeShapes Go.WideShapes Go.ChangeAt Go.RowKit

theorem lt_of_cell? {w : World} {p : Addr} {v : Value} (h : w.cell? p = some v) : p.block < w.heap.size := by
  rcases Nat.lt_or_ge p.block w.heap.size with hlt | hge
  · exact hlt
  · unfold World.cell? at h
    rw [Array.getElem?_eq_none hge] at h
    split at h <;> simp_all

/-- The panic of a reading that is given up. -/
def wrongPanic (r : Bool) : PanicEntry := { v := .iface 105 (.agg #[]), recovered := r }
/-- What the deferred function leaves of a reading that was given up. -/
def Caught (b : Nat) (w : World) (older : List PanicEntry) (e : Ending) (u' : FrameMode) (w' : World) : Prop :=
  e = .returned (.tuple #[]) ∧ u' = .panicking (wrongPanic true :: older) ∧ w'.cell? ⟨b, 0, none⟩ = some (.int .i64 0) ∧ w'.cell? ⟨b + 1, 0, none⟩ = some (.bool false) ∧ Below b w w'

set_option maxHeartbeats 1000000 in
theorem catch_panicking (b : Nat) (x : Int) (y : Bool) (older : List PanicEntry) (w : World) (hp : w.cell? ⟨b, 0, none⟩ = some (.int .i64 x)) (hq : w.cell? ⟨b + 1, 0, none⟩ = some (.bool y)) (hzp : w.frozen? ⟨b, 0, none⟩ = false) (hzq : w.frozen? ⟨b + 1, 0, none⟩ = false) :
    CallsD Tryz.prog 71 #[.pointer (some ⟨b, 0, none⟩), .pointer (some ⟨b + 1, 0, none⟩)] (.panicking (wrongPanic false :: older)) w (Caught b w older) := by
  have hlt := lt_of_cell? hq
  refine callsD_of_wpS Tryz.func71 rfl fun c₀ cs hu => ?_
  apply wpS_seq
  apply wpS_region
  simp [wpOpsS, go_sem, recoverD, hu, Tryz.ntmps71, Exit.thenS, wrongPanic]
  refine wpS_of_wp ?_
  have hta : ∀ w : World, (Instr.typeAssert (.iface 105 (.agg #[])) 20 105 true).run Tryz.prog w = .ok (.tuple #[.agg #[], .bool true]) w := fun w => (by kernel_rfl)
  clear hu
  have bel := (Below.refl w.heap.size w).alloc (Nat.le_refl _) (.cells #[] 105)
  have hp1 := (bel.cell (p := ⟨b, 0, none⟩) (by show b < _; have : b + 1 < w.heap.size := hlt; omega)).trans hp
  have hq1 := (bel.cell (p := ⟨b + 1, 0, none⟩) hlt).trans hq
  have hzp1 := (bel.frozen (p := ⟨b, 0, none⟩) (by show b < _; have : b + 1 < w.heap.size := hlt; omega)).trans hzp
  have hzq1 := (bel.frozen (p := ⟨b + 1, 0, none⟩) hlt).trans hzq
  have HLT := Lib.hid hlt
  clear bel hp hq hzp hzq hlt
  change Code.wp _ _ _ { tmps := #[.pointer (some ⟨b, 0, none⟩), .pointer (some ⟨b + 1, 0, none⟩), .iface 105 (.agg #[]), undef, undef, .iface 105 (.agg #[]), undef, undef, undef, undef, undef, undef, undef, undef, undef, undef], defers := [] } _
  go_wp2
  have hlt : b + 1 < w.heap.size := HLT.out
  refine ⟨rfl, .panicking (wrongPanic true :: older), rfl, .tuple #[], by simp [results, Tryz.results71, go_sem], rfl, rfl, ?_, ?_, ?_⟩
  · exact (World.cell?_setCell_other _ _ _ _ (by simp)).trans (World.cell?_setCell_same _ _ _ hp1)
  · exact World.cell?_setCell_same _ _ _ ((World.cell?_setCell_other _ _ _ _ (by simp)).trans hq1)
  · exact ((((Below.refl b w).alloc (by omega) _)).setCell (Nat.le_refl _) _).setCell (Nat.le_succ _) _

set_option maxHeartbeats 1000000 in
theorem catch_idle (p q : Addr) (w : World) :
    CallsD Tryz.prog 71 #[.pointer (some p), .pointer (some q)] .returning w fun e u' w' => e = .returned (.tuple #[]) ∧ u' = .returning ∧ w' = w := by
  refine callsD_of_wpS Tryz.func71 rfl fun c₀ cs hu => ?_
  apply wpS_seq
  apply wpS_region
  simp [wpOpsS, go_sem, recoverD, hu, Tryz.ntmps71, Exit.thenS]
  refine wpS_of_wp ?_
  go_wp2
  refine ⟨rfl, .returning, ?_, .tuple #[], by simp [results, Tryz.results71, go_sem], rfl, rfl, rfl⟩
  rw [← hu]

/-- The world with the two named results' variables. -/
def res2 (w : World) : World := (w.alloc (.cells #[.int .i64 0] 3)).alloc (.cells #[.bool false] 4)
theorem res2_keep (w : World) : Below w.heap.size w (res2 w) := ((Below.refl _ _).alloc (Nat.le_refl _) _).alloc (by simp) _
theorem res2_n (w : World) : (res2 w).cell? ⟨w.heap.size, 0, none⟩ = some (.int .i64 0) := by simp [res2, go_sem]
theorem res2_ok (w : World) : (res2 w).cell? ⟨w.heap.size + 1, 0, none⟩ = some (.bool false) := by simp [res2, go_sem]
theorem res2_fn (w : World) : (res2 w).frozen? ⟨w.heap.size, 0, none⟩ = false := by simp [res2, go_sem]
theorem res2_fok (w : World) : (res2 w).frozen? ⟨w.heap.size + 1, 0, none⟩ = false := by simp [res2, go_sem]

set_option maxHeartbeats 1000000 in
theorem get_any (s : ByteArray) (w : World) (hs : s.size ≤ 1000000) :
    Calls Tryz.prog 57 #[.string s] w fun e w' => e = .returned (.tuple #[.int .i64 (Gu.getN (bl s)), .bool (Gu.getOk (bl s))]) ∧ Keep w w' := by
  have hmf : ∀ (fn : Fn) (first cap : Array Value) (w : World), (Instr.makeFunc fn first cap).run Tryz.prog w = .ok (.func fn first cap) w := fun _ _ _ _ => rfl
  go_enter_defers Tryz.func57, Tryz.ntmps57
  go_wp2_with fail
  refine (read_any s _ hs).mono ?_
  rintro e w1 ⟨hend, hq⟩
  have c1 := (hq.cell ⟨w.heap.size, 0, none⟩).trans (res2_n w)
  have c2 := (hq.cell ⟨w.heap.size + 1, 0, none⟩).trans (res2_ok w)
  have f1 := (hq.frozen ⟨w.heap.size, 0, none⟩).trans (res2_fn w)
  have f2 := (hq.frozen ⟨w.heap.size + 1, 0, none⟩).trans (res2_fok w)
  have hb : Below w.heap.size w w1 := (res2_keep w).trans (hq.below _)
  clear hq
  rcases hend with ⟨hok, rfl⟩ | ⟨hno, he⟩
  · have HOK := Lib.hid hok
    clear hok
    go_wp2
    refine leaves_cons (f := 71) (args := #[.pointer (some ⟨w.heap.size, 0, none⟩), .pointer (some ⟨w.heap.size + 1, 0, none⟩)]) (by simp) (by simp [go_sem]) ?_
    refine (catch_idle ⟨w.heap.size, 0, none⟩ ⟨w.heap.size + 1, 0, none⟩ _).mono ?_
    rintro e u' w'' ⟨rfl, rfl, rfl⟩
    have r1 : ((w1.setCell ⟨w.heap.size, 0, none⟩ (.int .i64 (Gu.val (bl s) : Nat))).setCell ⟨w.heap.size + 1, 0, none⟩ (.bool true)).cell? ⟨w.heap.size, 0, none⟩ = some (.int .i64 (Gu.val (bl s) : Nat)) :=
      (World.cell?_setCell_other _ _ _ _ (by simp)).trans (World.cell?_setCell_same _ _ _ c1)
    have r2 : ((w1.setCell ⟨w.heap.size, 0, none⟩ (.int .i64 (Gu.val (bl s) : Nat))).setCell ⟨w.heap.size + 1, 0, none⟩ (.bool true)).cell? ⟨w.heap.size + 1, 0, none⟩ = some (.bool true) :=
      World.cell?_setCell_same _ _ _ ((World.cell?_setCell_other _ _ _ _ (by simp)).trans c2)
    have hb3 : Keep w ((w1.setCell ⟨w.heap.size, 0, none⟩ (.int .i64 (Gu.val (bl s) : Nat))).setCell ⟨w.heap.size + 1, 0, none⟩ (.bool true)) := (hb.setCell (Nat.le_refl _) _).setCell (Nat.le_succ _) _
    generalize (w1.setCell ⟨w.heap.size, 0, none⟩ (.int .i64 (Gu.val (bl s) : Nat))).setCell ⟨w.heap.size + 1, 0, none⟩ (.bool true) = w9 at r1 r2 hb3
    clear c1 c2 f1 f2 hb hmf
    simp [Leaves, settle, results, Tryz.results57, go_sem, r1, r2]
    exact ⟨by rw [Gu.getN_ok HOK.out, HOK.out]; exact ⟨rfl, rfl⟩, hb3⟩
  · obtain rfl : e = .panicked [wrongPanic false] := he
    have HNO := Lib.hid hno
    clear hno
    go_wp2
    refine leaves_cons (f := 71) (args := #[.pointer (some ⟨w.heap.size, 0, none⟩), .pointer (some ⟨w.heap.size + 1, 0, none⟩)]) (by simp) (by simp [go_sem]) ?_
    refine (catch_panicking w.heap.size 0 false [] w1 c1 c2 f1 f2).mono ?_
    rintro e u' w'' ⟨rfl, rfl, g1, g2, hb2⟩
    have hb3 : Keep w w'' := hb.trans hb2
    clear c1 c2 f1 f2 hb hmf hb2
    simp [Leaves, settle, wrongPanic, results, Tryz.results57, go_sem, g1, g2]
    exact ⟨by rw [Gu.getN_no HNO.out, HNO.out]; exact ⟨rfl, rfl⟩, hb3⟩

set_option maxHeartbeats 400000 in
theorem put_any (n : Int) (w : World) (ht : Tab w) :
    Calls Tryz.prog 86 #[.int .i64 n] w fun e w' => e = .returned (.tuple #[.string (st (Gu.put n)), .bool (Gu.inR n)]) ∧ Keep w w' := by
  by_cases h0 : n < 0
  · have e := Gu.inR_lo h0
    rw [Gu.put_out e, e]
    clear e
    go_enter Tryz.func86, Tryz.ntmps86
    go_wp2
    go_ret2
    exact ⟨rfl, Keep.refl _⟩
  · by_cases h1 : 9007199254740992 < n
    · have e := Gu.inR_hi h1
      rw [Gu.put_out e, e]
      clear e
      go_enter Tryz.func86, Tryz.ntmps86
      go_wp2
      go_ret2
      exact ⟨rfl, Keep.refl _⟩
    · have e := Gu.inR_mk (n := n) (by omega) (by omega)
      rw [Gu.put_in e, e]
      clear e
      go_enter Tryz.func86, Tryz.ntmps86
      go_wp2_with fail
      refine (itoa_any n (by omega) (by omega) _ ht).mono ?_
      rintro e w1 ⟨rfl, hb⟩
      go_wp2
      go_ret2
      exact ⟨rfl, hb⟩
end Go.Proofs.YtmcgflpgkkophaaGreatDoor.Guard
/- Layer 2's reference: each function answers what the plain words of GuA say. Conditions: texts at most a million bytes. -/
namespace Go.Proofs.YtmcgflpgkkophaaGreatDoor.Ref2
open Go.ChangeShapes Go.WideShapes Go.ChangeAt Go.RowKit

set_option maxHeartbeats 400000 in
theorem most_any (w : World) : Calls Tryz.prog 51 #[] w fun e w' => e = .returned (.int .i64 9007199254740992) ∧ w = w' := by
  go_enter Tryz.func51, Tryz.ntmps51
  go_wp2
  go_ret
  exact ⟨rfl, rfl⟩

/-- What holds at the head of the counting's rounds. -/
def LeadRel (w : World) (s : ByteArray) (i : Value) (wr : World) : Prop :=
  ∃ k : Nat, k ≤ s.size ∧ k ≤ Gu.lead (bl s) ∧ i = .int .i64 k ∧ Quiet w wr
/-- What holds at the head of the rounds that put digits. -/
def PutRel (w : World) (n : Int) (m s : Value) (wr : World) : Prop :=
  ∃ (k : Nat) (acc : List UInt8), m = .int .i64 k ∧ s = .string (st acc) ∧ (k : Int) ≤ 9007199254740992 ∧ Gu.put n = Lib.decDigits k ++ acc ∧ Keep w wr
set_option maxHeartbeats 1000000 in
theorem put_any (n : Int) (w : World) :
    Calls Tryz.prog 30 #[.int .i64 n] w fun e w' => e = .returned (.tuple #[.string (st (Gu.put n)), .bool (Gu.inR n)]) ∧ Keep w w' := by
  by_cases h0 : n < 0
  · have e := Gu.inR_lo h0
    rw [Gu.put_out e, e]
    clear e
    go_enter Tryz.func30, Tryz.ntmps30
    go_wp2
    go_ret2
    exact ⟨rfl, Keep.refl _⟩
  · by_cases h1 : 9007199254740992 < n
    · have e := Gu.inR_hi h1
      rw [Gu.put_out e, e]
      clear e
      go_enter Tryz.func30, Tryz.ntmps30
      go_wp2_with fail
      refine (most_any _).mono ?_
      rintro e w1 ⟨rfl, rfl⟩
      go_wp2
      go_ret2
      exact ⟨rfl, Keep.refl _⟩
    · have e := Gu.inR_mk (n := n) (by omega) (by omega)
      rw [e]
      have HE := Lib.hid e
      clear e
      go_enter Tryz.func30, Tryz.ntmps30
      go_wp2_with fail
      refine (most_any _).mono ?_
      rintro e w1 ⟨rfl, rfl⟩
      go_wp2
      go_loopw [0, 4] (fun m s wr => PutRel w n m s wr) (fun m _ _ => (intOf m).toNat)
      case atStart => exact ⟨n.toNat, [], by rw [Int.toNat_of_nonneg (by omega)], rfl, by omega, by rw [Gu.put_in HE.out, List.append_nil], Keep.refl _⟩
      case round =>
        obtain ⟨k, acc, rfl, rfl, hk, hput, hkeep⟩ := hrel
        obtain ⟨d, hd⟩ : ∃ d, d = UInt8.ofNat (48 + k % 10) := ⟨_, rfl⟩
        have hdn : (d.toNat : Int) = 48 + (k : Int) % 10 := by rw [hd, Gu.digit_byte _ (by omega)]; omega
        have hcv : ∀ w : World, (convert 74 9 (.slice (some ⟨w.heap.size, 0, none⟩) 1 1)).run Tryz.prog (w.alloc (.cells #[.int .u8 (48 + (k : Int) % 10)] 5)) = .ok (.string (st [d])) (w.alloc (.cells #[.int .u8 (48 + (k : Int) % 10)] 5)) :=
          fun w => conv_new Tryz.underlying74 Tryz.underlying5 Tryz.underlying9 _ 1 [d] (by simp [bv, hdn]) rfl
        have hal : acc.length ≤ 16 := by
          have h1 := congrArg List.length hput
          have h2 := Gu.put_len n
          rw [List.length_append] at h1
          omega
        have hadd := add_st (P := Tryz.prog) [d] acc (by simp; omega)
        have HP := Lib.hid hput
        have HD := Lib.hid hd
        have hkeep2 := hkeep.alloc (.cells #[.int .u8 (48 + (k : Int) % 10)] 5)
        clear hput hd hdn hal hkeep
        by_cases hk0 : k < 10
        · have hz : ((k : Int) / 10 == 0) = true := by simp; omega
          have e1 : Gu.put n = [d] ++ acc := by rw [HP.out, Gu.dec_small hk0, HD.out, Nat.mod_eq_of_lt hk0]
          have HE1 := Lib.hid e1
          clear e1 hk0
          go_wp2
          go_ret2
          exact ⟨by rw [HE1.out]; rfl, hkeep2⟩
        · have hz : ((k : Int) / 10 == 0) = false := by simp; omega
          have e1 : Gu.put n = Lib.decDigits (k / 10) ++ ([d] ++ acc) := by rw [HP.out, Gu.dec_big hk0, HD.out, List.append_assoc]
          have HE1 := Lib.hid e1
          clear e1
          go_wp2
          go_roundw
          case rel => exact ⟨k / 10, [d] ++ acc, congrArg (Value.int .i64) (by omega), rfl, by omega, HE1.out, hkeep2⟩
          case measure => simp [intOf]; omega

/-- What holds at the head of the rounds that read digits. -/
def GetRel (w : World) (s : ByteArray) (n i : Value) (wr : World) : Prop :=
  ∃ k : Nat, k ≤ s.size ∧ i = .int .i64 k ∧ n = .int .i64 (Gu.val ((bl s).take k)) ∧ Quiet w wr
end Go.Proofs.YtmcgflpgkkophaaGreatDoor.Ref2
