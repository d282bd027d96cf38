/- Layer 9's reference: Right, Push, and layer 8's Frames. Conditions: lengths at most a hundred thousand. -/
import Derived.Test.YtanlmonkmaiohaaSmA
import Derived.Test.YtanlmonkmaiohaaMbR
import Derived.Test.YtanlmonkmaiohaaRow
import Derived.Laws.StructEq
import Derived.RegionTactic
namespace Go.Proofs.Ytanlmonkmaiohaa.Ref9
set_option linter.unusedVariables false
open Go.ChangeShapes Go.WideShapes Go.ChangeAt Go.RowKit
open Str (toList_eq)
open Ref8 (ret_bool BoxedF RetFrame)

def encF (f : FrameP) : List Value := [.int .i64 f.id, .int .i64 f.unit, .string f.pdu]
theorem encF_len (f : FrameP) : (encF f).length = 3 := rfl
theorem encF_one (f : FrameP) : ∀ v ∈ encF f, v.oneCell' = true := by
  intro v hv
  simp [encF] at hv
  rcases hv with rfl | rfl | rfl <;> rfl
theorem info_frame : (Try.prog.info? 34).map (fun i => (i.zero, i.size, i.bytes)) = some (some (.agg #[.int .i64 0, .int .i64 0, .string ⟨#[]⟩]), 3, 32) := by kernel_rfl
theorem row_frame {w : World} {B n b off : Nat} {zs : List FrameP} (h : Row encF 3 w B (some ⟨b, off, none⟩) n zs) (j : Nat) (hj : j < n) :
    b < B ∧ w.cell? ⟨b, off + j * 3, none⟩ = some (.int .i64 (zs.getD j Mb.zero).id) ∧ w.cell? ⟨b, off + j * 3 + 1, none⟩ = some (.int .i64 (zs.getD j Mb.zero).unit) ∧ w.cell? ⟨b, off + j * 3 + 2, none⟩ = some (.string (zs.getD j Mb.zero).pdu) := by
  obtain ⟨hb, hc⟩ := h.cells (by omega)
  have hl := h.1
  have hj' : j < zs.length := by omega
  have e : zs.getD j Mb.zero = zs[j] := by rw [List.getD_eq_getElem?_getD, List.getElem?_eq_getElem hj']; rfl
  rw [e]
  exact ⟨hb, hc j hj' 0 _ rfl, hc j hj' 1 _ rfl, hc j hj' 2 _ rfl⟩
/-- '==' of two frames that are one. -/
theorem eqF (f : FrameP) (w : World) : (Op.equalIn 10000 34 (.agg #[.int .i64 f.id, .int .i64 f.unit, .string f.pdu]) (.agg #[.int .i64 f.id, .int .i64 f.unit, .string f.pdu])).run Try.prog w = .ok true w := by
  have u3 := Try.underlying3
  have a3 := Try.isAgg3
  have z3 := Try.sizeOf3
  have u9 := Try.underlying9
  have a9 := Try.isAgg9
  have z9 := Try.sizeOf9
  have hS : Try.prog.underlying 34 = some (.struct (Try.prog.fieldsOf 34)) := by kernel_rfl
  have hp : Try.prog.stoodInHeld 34 = false := by kernel_rfl
  rw [show (10000 : Nat) = 9999 + 1 from rfl, run_equalIn_agg w 9999 34 _ _ hS hp]
  simp only [Program.fieldsOf, Try.underlying34]
  go_simp
theorem guardF : Try.prog.eqGuardType Try.prog.depth 34 = false := by kernel_rfl

set_option maxHeartbeats 1000000 in
/-- Frames that are the same. -/
theorem frames_same (A B : Option Addr) (n m c d : Nat) (xs : List FrameP) (w : World) (hn : n ≤ 1000000) (hA : Row encF 3 w w.heap.size A n xs) (hB : Row encF 3 w w.heap.size B m xs) :
    Calls Try.prog 11 #[.slice A n c, .slice B m d] w fun e w' => e = .returned (.bool true) ∧ Keep w w' := by
  obtain rfl : n = m := by have h1 := hA.1; have h2 := hB.1; omega
  have hgd := guardF
  go_enter Try.func11, Try.ntmps11
  go_wp2
  go_loopw [5] (fun i wr => ∃ k : Nat, k ≤ n ∧ i = .int .i64 k ∧ Quiet w wr) (fun i _ => n - (intOf i).toNat)
  case atStart => exact ⟨0, Nat.zero_le _, rfl, Quiet.refl _⟩
  case round =>
    obtain ⟨k, hk, rfl, hq⟩ := hrel
    by_cases hlt : k < n
    · obtain ⟨b, off, rfl, _⟩ := hA.addr (by omega)
      obtain ⟨b', off', rfl, _⟩ := hB.addr (by omega)
      obtain ⟨_, x0, x1, x2⟩ := row_frame hA k hlt
      obtain ⟨_, y0, y1, y2⟩ := row_frame hB k hlt
      replace x0 := (hq.cell _).trans x0
      replace x1 := (hq.cell _).trans x1
      replace x2 := (hq.cell _).trans x2
      replace y0 := (hq.cell _).trans y0
      replace y1 := (hq.cell _).trans y1
      replace y2 := (hq.cell _).trans y2
      generalize xs.getD k Mb.zero = f at x0 x1 x2 y0 y1 y2
      have he := eqF f
      have hltz : (k : Int) < n := by omega
      have hk0 : (0 : Int) ≤ k := by omega
      go_wp2
      go_quiet (fail)
      go_wp2
      go_roundw
      case rel => exact ⟨k + 1, by omega, by go_num, hq.drewN _⟩
      case measure => simp [intOf]; omega
    · obtain rfl : k = n := by omega
      go_wp2
      go_ret
      exact ⟨rfl, hq.keep⟩

/-- A stream as its two cells. -/
def BoxedS (p : Nat) (buf : ByteArray) (bad : Bool) (w : World) : Prop := w.cell? ⟨p, 0, none⟩ = some (.string buf) ∧ w.cell? ⟨p, 1, none⟩ = some (.bool bad)
set_option maxHeartbeats 1000000 in
theorem right_any (buf : ByteArray) (bad : Bool) (w : World) (hs : buf.size ≤ maxLen) :
    Calls Try.prog 8 #[.agg #[.string buf, .bool bad]] w fun e w' => e = .returned (.bool (Sm.right ⟨bl buf, bad⟩)) ∧ Keep w w' := by
  have k0 := (Keep.refl w).alloc (.cells #[.string buf, .bool bad] 23)
  cases bad
  · obtain ⟨nd, hnd⟩ : ∃ n, n = Mb.need buf := ⟨_, rfl⟩
    obtain ⟨er, her⟩ : ∃ n, n = Mb.needErr buf := ⟨_, rfl⟩
    have HN := Lib.hid (And.intro hnd her)
    have HR := Lib.hid (show Sm.right ⟨bl buf, false⟩ = (er == 0 && (nd == 0 || decide ((buf.size : Int) < nd))) by
      simp only [Sm.right, Sm.err, Sm.need, st_bl, bl_length, ← hnd, ← her]; rfl)
    clear hnd her
    go_enter Try.func8, Try.ntmps8
    go_wp2_with fail
    refine (Ref8.need_any buf _ hs).mono ?_
    rintro e w1 ⟨rfl, h1⟩
    rw [← HN.out.1, ← HN.out.2]
    have c0 : w1.cell? ⟨w.heap.size, 0, none⟩ = some (.string buf) := (Below.cell h1 (by simp)).trans (by go_simp)
    replace k0 := k0.trans h1
    clear h1
    go_wp2
    all_goals (
      go_ret
      refine ⟨ret_bool ?_, k0⟩
      rw [HR.out]
      simp_all)
  · have HR := Lib.hid (show Sm.right ⟨bl buf, true⟩ = (buf.toList == []) by rw [toList_eq]; rfl)
    go_enter Try.func8, Try.ntmps8
    go_wp2
    all_goals (
      go_ret
      refine ⟨ret_bool ?_, k0⟩
      rw [HR.out]
      generalize buf.toList = l
      cases l <;> rfl)
/-- What comes back: a stream, and frames. -/
def RetPush (x : StreamP × List FrameP) (w : World) (e : Ending) (w' : World) : Prop :=
  ∃ A n c, e = .returned (.tuple #[.agg #[.string (st x.1.buf), .bool x.1.bad], .slice A n c]) ∧ Row encF 3 w' w'.heap.size A n x.2 ∧ Keep w w' ∧ Fresh w A n
theorem fresh_row {W w : World} {base : Nat} {e : TypeId} {A : Option Addr} {n c k : Nat} {xs : List Value} (h : w.ownsRow base e k (.slice A n c) n xs) (hb : W.heap.size ≤ base) : Fresh W A n := fun hn => by
  rcases h.2 with ⟨hv, h0⟩ | ⟨g, cap, cur, hv, hg, _⟩
  · omega
  · injection hv with hA
    exact ⟨g, hA, by omega⟩
theorem own_keep2 {w w' : World} {base : Nat} {e : TypeId} {k n : Nat} {v : Value} {xs : List Value} (h : w.ownsRow base e k v n xs) (hk : Keep w w') : w'.ownsRow base e k v n xs :=
  h.kept (row := none) ⟨hk.os, hk.tape, hk.output, hk.size, fun i hi _ => hk.block i hi⟩ (by cases v.ownBlock <;> simp)
theorem own_drew2 {w : World} {base : Nat} {e : TypeId} {size : Nat} {v : Value} {n : Nat} {xs : List Value} (k : w.ownsRow base e size v n xs) : w.drew.ownsRow base e size v n xs := ((Quiet.refl w).drew).own k
theorem own_set2 {w : World} {base : Nat} {e : TypeId} {k n : Nat} {v : Value} {xs : List Value} (h : w.ownsRow base e k v n xs) (p : Addr) (u : Value) (hp : p.block < base) : (w.setCell p u).ownsRow base e k v n xs := by
  rcases h with ⟨hl, h⟩
  refine ⟨hl, ?_⟩
  rcases h with h | ⟨g, cap, cur, hv, hg, hh, hr⟩
  · exact .inl h
  · refine .inr ⟨g, cap, cur, hv, hg, ?_, hr⟩
    rw [Below.heap_setCell _ _ _ _ (by omega)]
    exact hh
/-- What the loop of Push holds behind k bytes. -/
def PushRel (w : World) (l0 : Nat) (s : StreamP) (b : List UInt8) (out i : Value) (wr : World) : Prop :=
  ∃ (k : Nat) (x : StreamP) (fs : List FrameP), k ≤ b.length ∧ i = .int .i64 k ∧ Hid (Sm.feed (s, []) (b.take k) = (x, fs)) ∧ wr.ownsRow (w.heap.size + 2) 34 3 out fs.length (flat encF fs) ∧
    (wr.cell? ⟨w.heap.size, 0, none⟩ = some (.string (st x.buf)) ∧ wr.cell? ⟨w.heap.size, 1, none⟩ = some (.bool x.bad) ∧ ∀ j, wr.frozen? ⟨w.heap.size, j, none⟩ = false) ∧
    (wr.cell? ⟨w.heap.size + 1, 0, none⟩ = some (.string ⟨#[]⟩) ∧ wr.cell? ⟨w.heap.size + 1, 1, none⟩ = some (.bool false) ∧ ∀ j, wr.frozen? ⟨w.heap.size + 1, j, none⟩ = false) ∧
    Keep w wr ∧ w.heap.size + 2 ≤ wr.heap.size ∧ fs.length ≤ k ∧ x.buf.length ≤ l0 + k
set_option maxHeartbeats 4000000 in
theorem push_any (buf b : ByteArray) (bad : Bool) (w : World) (hs : buf.size ≤ 100000) (hb : b.size ≤ 100000) :
    Calls Try.prog 10 #[.agg #[.string buf, .bool bad], .string b] w (RetPush (Sm.feed (⟨bl buf, bad⟩, []) (bl b)) w) := by
  go_enter Try.func10, Try.ntmps10
  go_wp2
  go_loopw [6, 7] (fun out i wr => PushRel w buf.size ⟨bl buf, bad⟩ (bl b) out i wr) (fun _ i _ => b.size - (intOf i).toNat)
  case atStart =>
    exact ⟨0, ⟨bl buf, bad⟩, [], Nat.zero_le _, rfl, rfl, ⟨rfl, .inl ⟨rfl, rfl⟩⟩, ⟨by rw [st_bl]; go_simp, by go_simp, fun j => by go_simp⟩, ⟨by go_simp, by go_simp, fun j => by go_simp⟩, ((Keep.refl w).alloc _).alloc _, by simp, Nat.zero_le _, by rw [bl_length]; exact Nat.le_refl _⟩
  case round =>
    obtain ⟨k, ⟨xb, xbad⟩, fs, hk, rfl, hf, hown, ⟨c0, c1, fz⟩, ⟨z0, z1, zf⟩, hK, hsz, hfl, hxl⟩ := hrel
    rw [bl_length] at hk
    simp only at c0 c1 hxl
    obtain ⟨OA, oc, rfl⟩ := own_slice hown
    have hlen := bl_length b
    have fin : ∀ (V : World), Keep w V → (∀ p : Addr, w.heap.size + 2 ≤ p.block → V.cell? p = wr.cell? p) → wr.heap.size ≤ V.heap.size → Row encF 3 V V.heap.size OA fs.length fs := fun V _ hc hsV => by
      have hr := Row.of_own encF_len hown (by omega)
      refine ⟨hr.1, fun hn => ?_⟩
      obtain ⟨b', off, e, hbb, hcl⟩ := hr.2 hn
      obtain ⟨g, e', hg⟩ := fresh_row (W := ((w.alloc (.cells #[] 0)).alloc (.cells #[] 0))) hown (by simp) hn
      have : b' = g := by rw [e] at e'; injection e' with e'; injection e'
      subst this
      refine ⟨b', off, e, by omega, fun j hj i v hv => ?_⟩
      rw [hc _ (by simpa using hg)]
      exact hcl j hj i v hv
    have HFIN := Lib.hid fin
    have HFR := Lib.hid (show Fresh w OA fs.length from fresh_row hown (by omega))
    clear fin
    by_cases hlt : k < b.size
    · have hltz : (k : Int) < b.size := by omega
      cases xbad
      · obtain ⟨c, hc⟩ : ∃ c, c = (bl b).getD k 0 := ⟨_, rfl⟩
        have hst : Sm.feed (⟨bl buf, bad⟩, []) ((bl b).take (k + 1)) = Sm.step (⟨xb, false⟩, fs) c := by
          rw [Sm.take_snoc _ k (by omega), Sm.feed_snoc, hf.out, hc]
        have HST := Lib.hid hst
        have hsl : ∀ W : World, (Instr.slice 9 (.string b) (some (.int .i64 (k : Int))) (some (.int .i64 ((k : Int) + 1))) none).run Try.prog W = .ok (.string (st [c])) W := fun W => by
          have e : b.extract k (k + 1) = st [c] := by
            rw [Lib.extract_eq, show k + 1 - k = 1 by omega, hc]
            have hd : (b.data.toList.drop k).take 1 = [(bl b).getD k 0] := by
              rw [List.getD_eq_getElem?_getD, List.getElem?_eq_getElem (by omega), List.drop_eq_getElem_cons (by rw [Array.length_toList]; exact hlt)]
              rfl
            rw [hd]; rfl
          have h := run_slice_string (P := Try.prog) (w := W) 9 b .i64 .i64 (k : Int) ((k : Int) + 1) Try.underlying9 (by omega) (by omega) (by omega)
          rw [h, show (k : Int).toNat = k from by omega, show ((k : Int) + 1).toNat = k + 1 from by omega, e]
        obtain ⟨nb, hnb⟩ : ∃ l, l = xb ++ [c] := ⟨_, rfl⟩
        have a1 : ∀ W : World, (Op.stringOp .add (st xb) (st [c])).run Try.prog W = .ok (.string (st nb)) W := by rw [hnb]; exact add_st xb [c] (by simp; omega)
        have hnl : nb.length = xb.length + 1 := by rw [hnb]; simp
        have HNB := Lib.hid hnb
        clear hst hc hnb
        have hfz := fz 0
        obtain ⟨Z, hZ⟩ : ∃ Z, Z = (wr.setCell ⟨w.heap.size, 0, none⟩ (.string (st nb))).drew := ⟨_, rfl⟩
        have y0 : Z.cell? ⟨w.heap.size, 0, none⟩ = some (.string (st nb)) := by rw [hZ]; go_simp
        have y1 : Z.cell? ⟨w.heap.size, 1, none⟩ = some (.bool false) := by rw [hZ]; go_simp
        have yf : ∀ j, Z.frozen? ⟨w.heap.size, j, none⟩ = false := fun j => by rw [hZ]; have := fz j; go_simp
        have hfar : ∀ p : Addr, p.block ≠ w.heap.size → Z.cell? p = wr.cell? p := fun p hp => by rw [hZ]; show (wr.setCell _ _).cell? p = _; exact World.cell?_of_block (Below.heap_setCell _ _ _ _ hp)
        have hzf : ∀ j, Z.frozen? ⟨w.heap.size + 1, j, none⟩ = false := fun j => by rw [hZ]; have := zf j; go_simp
        have hKZ : Keep w Z := by rw [hZ]; exact Keep.trans (hK.setCell (Nat.le_refl _) _) ((Quiet.refl _).drew).keep
        have hZs : Z.heap.size = wr.heap.size := by rw [hZ]; simp
        have hoZ : Z.ownsRow (w.heap.size + 2) 34 3 (.slice OA fs.length oc) fs.length (flat encF fs) := by
          rw [hZ]
          exact own_drew2 (own_set2 hown _ _ (by simp))
        go_wp2
        go_region
        go_wp2_with fail
        rw [← hZ]
        clear hZ
        refine (Ref8.need_any (st nb) _ (by rw [st_size]; unfold maxLen; omega)).mono ?_
        rintro e U ⟨rfl, hU⟩
        have hp0 : w.heap.size < Z.heap.size := by omega
        have hp1 : w.heap.size + 1 < Z.heap.size := by omega
        have u0 : U.cell? ⟨w.heap.size, 0, none⟩ = some (.string (st nb)) := (Below.cell hU hp0).trans y0
        have u1 : U.cell? ⟨w.heap.size, 1, none⟩ = some (.bool false) := (Below.cell hU hp0).trans y1
        have uf : ∀ j, U.frozen? ⟨w.heap.size, j, none⟩ = false := fun j => (Below.frozen hU hp0).trans (yf j)
        have v0 : U.cell? ⟨w.heap.size + 1, 0, none⟩ = some (.string ⟨#[]⟩) := (Below.cell hU hp1).trans ((hfar _ (by simp)).trans z0)
        have v1 : U.cell? ⟨w.heap.size + 1, 1, none⟩ = some (.bool false) := (Below.cell hU hp1).trans ((hfar _ (by simp)).trans z1)
        have vf : ∀ j, U.frozen? ⟨w.heap.size + 1, j, none⟩ = false := fun j => (Below.frozen hU hp1).trans (hzf j)
        have hoU := own_keep2 hoZ hU
        have hKU := hKZ.trans hU
        have hUs : w.heap.size + 2 ≤ U.heap.size := by have := hU.size; omega
        obtain ⟨nd, hnd⟩ : ∃ n, n = Mb.need (st nb) := ⟨_, rfl⟩
        obtain ⟨er, her⟩ : ∃ n, n = Mb.needErr (st nb) := ⟨_, rfl⟩
        rw [← hnd, ← her]
        have HST2 := Lib.hid (show Sm.step (⟨xb, false⟩, fs) c = (if er ≠ 0 then (⟨[], true⟩, fs) else if nd = (nb.length : Int) ∧ 0 < nd then (⟨[], false⟩, fs ++ [Mb.get (st nb)]) else (⟨nb, false⟩, fs)) by
          unfold Sm.step Sm.push1 Sm.err Sm.need
          rw [if_neg (by simp)]
          simp only
          rw [← HNB.out, ← hnd, ← her]
          split
          · simp
          · split <;> simp)
        clear hfar y0 y1 yf hzf hoZ hKZ hU hnd her c0 c1 fz z0 z1 zf hown hK
        by_cases he : er = 0
        · have d1 : (er != 0) = false := by simpa using he
          have hst : (if er ≠ 0 then ((⟨[], true⟩ : StreamP), fs) else if nd = (nb.length : Int) ∧ 0 < nd then (⟨[], false⟩, fs ++ [Mb.get (st nb)]) else (⟨nb, false⟩, fs)) = (if nd = (nb.length : Int) ∧ 0 < nd then (⟨[], false⟩, fs ++ [Mb.get (st nb)]) else (⟨nb, false⟩, fs)) := if_neg (by simpa using he)
          have HST3 := Lib.hid (HST2.out.trans hst)
          clear hst he HST2
          have hsz2 : (st nb).size = nb.length := st_size nb
          by_cases hw : nd = (nb.length : Int) ∧ 0 < nd
          · have HST4 := Lib.hid (HST3.out.trans (if_pos hw))
            have d2 : decide (0 < nd) = true := by simpa using hw.2
            have d3 : ((nb.length : Int) == nd) = true := by simpa using hw.1.symm
            obtain ⟨g, hg⟩ : ∃ g, g = Mb.get (st nb) := ⟨_, rfl⟩
            have HG := Lib.hid hg
            clear hw HST3 hg
            go_wp2_with fail
            refine (Ref8.get_any (st nb) _ (by rw [st_size]; unfold maxLen; omega)).mono ?_
            rintro e T ⟨rfl, hT⟩
            rw [← HG.out]
            have hq0 : w.heap.size < U.heap.size := by omega
            have hq1 : w.heap.size + 1 < U.heap.size := by omega
            have t0 : T.cell? ⟨w.heap.size, 0, none⟩ = some (.string (st nb)) := (Below.cell hT hq0).trans u0
            have t1 : T.cell? ⟨w.heap.size, 1, none⟩ = some (.bool false) := (Below.cell hT hq0).trans u1
            have tf : ∀ j, T.frozen? ⟨w.heap.size, j, none⟩ = false := fun j => (Below.frozen hT hq0).trans (uf j)
            have s0 : T.cell? ⟨w.heap.size + 1, 0, none⟩ = some (.string ⟨#[]⟩) := (Below.cell hT hq1).trans v0
            have s1 : T.cell? ⟨w.heap.size + 1, 1, none⟩ = some (.bool false) := (Below.cell hT hq1).trans v1
            have sf : ∀ j, T.frozen? ⟨w.heap.size + 1, j, none⟩ = false := fun j => (Below.frozen hT hq1).trans (vf j)
            have hoT := own_keep2 hoU hT
            have hKT := hKU.trans hT
            have hTs : w.heap.size + 2 ≤ T.heap.size := by have := hT.size; omega
            clear u0 u1 uf v0 v1 vf hoU hKU hT
            have hrow : Row encF 3 ((T.alloc (.cells #[.int .i64 g.id, .int .i64 g.unit, .string g.pdu] 34)).alloc (.cells #[.int .i64 g.id, .int .i64 g.unit, .string g.pdu] 34)) ((T.alloc (.cells #[.int .i64 g.id, .int .i64 g.unit, .string g.pdu] 34)).heap.size + 1) (some ⟨T.heap.size + 1, 0, none⟩) 1 [g] := by
              have h := Row.new encF_len (T.alloc (.cells #[.int .i64 g.id, .int .i64 g.unit, .string g.pdu] 34)) 34 [g] #[.int .i64 g.id, .int .i64 g.unit, .string g.pdu] rfl
              have e : (T.alloc (.cells #[.int .i64 g.id, .int .i64 g.unit, .string g.pdu] 34)).heap.size = T.heap.size + 1 := by simp
              rw [e] at h
              rw [e]
              exact h
            have HB2 := Lib.hid (((Below.refl (w.heap.size + 2) T).alloc hTs (.cells #[.int .i64 g.id, .int .i64 g.unit, .string g.pdu] 34)).alloc (by simp; omega) (.cells #[.int .i64 g.id, .int .i64 g.unit, .string g.pdu] 34))
            go_wp2_with (at_builtin; refine append_rows rfl _ _ 26 rfl (w.heap.size + 2) 34 _ 32 Try.underlying26 info_frame rfl (by omega) encF_len encF_one _ fs.length fs rfl ((hoT.alloc _).alloc _) (by simp; omega) _ _ 1 1 [g] rfl hrow (by unfold maxLen; omega) (by omega) ?_)
            intro v' w1 hown' hb1
            have hbT := HB2.out.trans hb1
            have r0 : w1.cell? ⟨w.heap.size, 0, none⟩ = some (.string (st nb)) := (hbT.cell (by simp)).trans t0
            have r1 : w1.cell? ⟨w.heap.size, 1, none⟩ = some (.bool false) := (hbT.cell (by simp)).trans t1
            have rf : ∀ j, w1.frozen? ⟨w.heap.size, j, none⟩ = false := fun j => (hbT.frozen (by simp)).trans (tf j)
            have q0 : w1.cell? ⟨w.heap.size + 1, 0, none⟩ = some (.string ⟨#[]⟩) := (hbT.cell (by simp)).trans s0
            have q1 : w1.cell? ⟨w.heap.size + 1, 1, none⟩ = some (.bool false) := (hbT.cell (by simp)).trans s1
            have qf : ∀ j, w1.frozen? ⟨w.heap.size + 1, j, none⟩ = false := fun j => (hbT.frozen (by simp)).trans (sf j)
            have hKw : Keep w w1 := Below.trans hKT (hbT.mono (by omega))
            have hws : w.heap.size + 2 ≤ w1.heap.size := Nat.le_trans hTs hbT.size
            clear hbT hb1 t0 t1 tf s0 s1 sf hKT hTs hoT hrow
            go_wp2
            refine ⟨⟨k + 1, ⟨[], false⟩, fs ++ [g], by omega, by go_num, Lib.hid (HST.out.trans (by rw [HST4.out, HG.out])), by rw [List.length_append]; exact own_set2 hown' _ _ (by simp), ⟨by go_simp; rfl, by go_simp, fun j => by have := rf j; go_simp⟩, ⟨by go_simp, by go_simp, fun j => by have := qf j; go_simp⟩, hKw.setCell (Nat.le_refl _) _, by simpa using hws, by simp; omega, by simp⟩, by simp [intOf]; omega⟩
          · have HST4 := Lib.hid (HST3.out.trans (if_neg hw))
            have hcase : decide (0 < nd) = false ∨ (decide (0 < nd) = true ∧ ((nb.length : Int) == nd) = false) := by
              by_cases h : 0 < nd
              · right
                refine ⟨by simpa using h, ?_⟩
                simp only [beq_eq_false_iff_ne]
                intro e
                exact hw ⟨e.symm, h⟩
              · left; simpa using h
            clear hw HST3
            rcases hcase with d2 | ⟨d2, d3⟩ <;> (
              go_wp2
              refine ⟨⟨k + 1, ⟨nb, false⟩, fs, by omega, by go_num, Lib.hid (HST.out.trans HST4.out), hoU, ⟨u0, u1, uf⟩, ⟨v0, v1, vf⟩, hKU, hUs, by omega, by simp only; omega⟩, by simp [intOf]; omega⟩)
        · have d1 : (er != 0) = true := by simpa using he
          have HST3 := Lib.hid (HST2.out.trans (if_pos he))
          clear he HST2
          go_wp2
          refine ⟨⟨k + 1, ⟨[], true⟩, fs, by omega, by go_num, Lib.hid (HST.out.trans HST3.out), own_set2 (own_set2 hoU _ _ (by simp)) _ _ (by simp), ⟨by go_simp; rfl, by go_simp, fun j => by have := uf j; go_simp⟩, ⟨by go_simp, by go_simp, fun j => by have := vf j; go_simp⟩, (hKU.setCell (Nat.le_refl _) _).setCell (Nat.le_refl _) _, by simpa using hUs, by omega, by simp⟩, by simp [intOf]; omega⟩
      · skip
        have HFE := Lib.hid (show Sm.feed (⟨bl buf, bad⟩, []) (bl b) = (⟨xb, true⟩, fs) by rw [← List.take_append_drop k (bl b), Sm.feed_app, hf.out]; exact Sm.feed_bad _ _ _ rfl)
        have zf0 := zf 0
        have zf1 := zf 1
        go_wp2
        (try simp only [Exit.inBlock, Exit.then])
        refine bodyPost_ret (v := .tuple #[.agg #[.string (st xb), .bool true], .slice OA fs.length oc]) ?_ rfl ⟨OA, fs.length, oc, by rw [HFE.out], ?_, ?_, HFR.out⟩
        · rw [results_cell_tmp rfl]
          go_simp
        · rw [HFE.out]
          refine HFIN.out _ ((hK.setCell (by simp) _).setCell (by simp) _) (fun p hp => ?_) (by simp)
          rw [World.cell?_of_block (Below.heap_setCell _ _ _ _ (by show p.block ≠ w.heap.size + 1; omega)), World.cell?_of_block (Below.heap_setCell _ _ _ _ (by show p.block ≠ w.heap.size + 1; omega))]
        · exact (hK.setCell (by simp) _).setCell (by simp) _
    · obtain rfl : k = b.size := by omega
      cases xbad
      · skip
        have HFE := Lib.hid (show Sm.feed (⟨bl buf, bad⟩, []) (bl b) = (⟨xb, false⟩, fs) by have e := hf.out; rwa [List.take_of_length_le (by omega)] at e)
        have zf0 := zf 0
        have zf1 := zf 1
        go_wp2
        (try simp only [Exit.inBlock, Exit.then])
        refine bodyPost_ret (v := .tuple #[.agg #[.string (st xb), .bool false], .slice OA fs.length oc]) ?_ rfl ⟨OA, fs.length, oc, by rw [HFE.out], ?_, ?_, HFR.out⟩
        · rw [results_cell_tmp rfl]
          go_simp
        · rw [HFE.out]
          refine HFIN.out _ ((hK.setCell (by simp) _).setCell (by simp) _) (fun p hp => ?_) (by simp)
          rw [World.cell?_of_block (Below.heap_setCell _ _ _ _ (by show p.block ≠ w.heap.size + 1; omega)), World.cell?_of_block (Below.heap_setCell _ _ _ _ (by show p.block ≠ w.heap.size + 1; omega))]
        · exact (hK.setCell (by simp) _).setCell (by simp) _
      · skip
        have HFE := Lib.hid (show Sm.feed (⟨bl buf, bad⟩, []) (bl b) = (⟨xb, true⟩, fs) by have e := hf.out; rwa [List.take_of_length_le (by omega)] at e)
        have zf0 := zf 0
        have zf1 := zf 1
        go_wp2
        (try simp only [Exit.inBlock, Exit.then])
        refine bodyPost_ret (v := .tuple #[.agg #[.string (st xb), .bool true], .slice OA fs.length oc]) ?_ rfl ⟨OA, fs.length, oc, by rw [HFE.out], ?_, ?_, HFR.out⟩
        · rw [results_cell_tmp rfl]
          go_simp
        · rw [HFE.out]
          refine HFIN.out _ ((hK.setCell (by simp) _).setCell (by simp) _) (fun p hp => ?_) (by simp)
          rw [World.cell?_of_block (Below.heap_setCell _ _ _ _ (by show p.block ≠ w.heap.size + 1; omega)), World.cell?_of_block (Below.heap_setCell _ _ _ _ (by show p.block ≠ w.heap.size + 1; omega))]
        · exact (hK.setCell (by simp) _).setCell (by simp) _
end Go.Proofs.Ytanlmonkmaiohaa.Ref9
