/- The developers' stream: Right, and Push of streams that are right: the plain words of SmA. Conditions: lengths at most a hundred thousand. -/
import Derived.Test.YtdgnmoebahaaeaaSmR
import Derived.Test.YtdgnmoebahaaeaaMb
namespace Go.Proofs.Ytdgnmoebahaaeaa.Strm
set_option linter.unusedVariables false
open Go.ChangeShapes Go.WideShapes Go.ChangeAt Go.RowKit
open Str (toList_eq)
open Ref8 (ret_bool)
open Ref9 (encF encF_len encF_one info_frame RetPush own_keep2 own_drew2 own_set2 fresh_row)

/-- Whether a frame's bytes are all there. -/
def whole (n : Int) (l : Nat) : Bool := decide (0 < n) && decide (n ≤ (l : Int))
theorem isWhole_any (s : ByteArray) (n : Int) (w : World) :
    Calls Try.prog 27 #[.string s, .int .i64 n] w fun e w' => e = .returned (.bool (whole n s.size)) ∧ Quiet w w' := by
  by_cases h : 0 < n
  · have d : decide (0 < n) = true := by simpa using h
    have HW := Lib.hid (show whole n s.size = decide (n ≤ (s.size : Int)) by rw [whole, d, Bool.true_and])
    clear h
    go_enter Try.func27, Try.ntmps27
    go_wp2
    all_goals (go_ret; exact ⟨ret_bool (by rw [HW.out]), by first | exact Quiet.refl _ | exact (Quiet.refl _).drewN _ | exact (Quiet.refl _).drew⟩)
  · have d : decide (0 < n) = false := by simpa using h
    have HW := Lib.hid (show whole n s.size = false by rw [whole, d, Bool.false_and])
    clear h
    go_enter Try.func27, Try.ntmps27
    go_wp2
    all_goals (go_ret; exact ⟨ret_bool (by rw [HW.out]), by first | exact Quiet.refl _ | exact (Quiet.refl _).drewN _ | exact (Quiet.refl _).drew⟩)

set_option maxHeartbeats 1000000 in
theorem right_any (buf : ByteArray) (bad : Bool) (w : World) (hs : buf.size ≤ maxLen) :
    Calls Try.prog 24 #[.agg #[.string buf, .bool bad]] w fun e w' => e = .returned (.bool (Sm.right ⟨bl buf, bad⟩)) ∧ Keep w w' := by
  have k0 := (Keep.refl w).alloc (.cells #[.string buf, .bool bad] 32)
  cases bad
  · obtain ⟨nd, hnd⟩ : ∃ n, n = Mb.need buf := ⟨_, rfl⟩
    obtain ⟨er, her⟩ : ∃ n, n = Mb.needErr buf := ⟨_, rfl⟩
    have HN := Lib.hid (And.intro hnd her)
    have hnn : 0 ≤ nd := by
      by_cases h : 6 ≤ buf.size
      · have := Mb.need_range buf h; omega
      · have := Mb.need_short buf (by omega); omega
    have HR := Lib.hid (show Sm.right ⟨bl buf, false⟩ = (er == 0 && !(whole nd buf.size)) by
      have e : Sm.right ⟨bl buf, false⟩ = (er == 0 && (nd == 0 || decide ((buf.size : Int) < nd))) := by
        simp only [Sm.right, Sm.err, Sm.need, st_bl, bl_length, ← hnd, ← her]; rfl
      rw [e]
      congr 1
      rw [Bool.eq_iff_iff]
      simp [whole]
      omega)
    clear hnd her hnn
    by_cases he : er = 0
    · have d1 : (er == 0) = true := by simpa using he
      have HR2 := Lib.hid (HR.out.trans (by rw [d1, Bool.true_and] : _ = !(whole nd buf.size)))
      clear he HR
      go_enter Try.func24, Try.ntmps24
      go_wp2_with fail
      refine (Mbap.need_any buf _ hs).mono ?_
      rintro e w1 ⟨rfl, h1⟩
      rw [← HN.out.1, ← HN.out.2]
      have c0 : w1.cell? ⟨w.heap.size, 0, none⟩ = some (.string buf) := (Below.cell h1 (by simp)).trans (by go_simp)
      replace k0 := k0.trans h1
      clear h1
      go_wp2_with fail
      refine (isWhole_any buf nd _).mono ?_
      rintro e w2 ⟨rfl, h2⟩
      have k1 := k0.trans h2.keep
      generalize whole nd buf.size = b at *
      go_wp2
      go_ret
      exact ⟨ret_bool (by rw [HR2.out]), k1⟩
    · have d1 : (er == 0) = false := by simpa using he
      have HR2 := Lib.hid (HR.out.trans (by rw [d1, Bool.false_and] : _ = false))
      clear he HR
      go_enter Try.func24, Try.ntmps24
      go_wp2_with fail
      refine (Mbap.need_any buf _ hs).mono ?_
      rintro e w1 ⟨rfl, h1⟩
      rw [← HN.out.1, ← HN.out.2]
      have c0 : w1.cell? ⟨w.heap.size, 0, none⟩ = some (.string buf) := (Below.cell h1 (by simp)).trans (by go_simp)
      replace k0 := k0.trans h1
      clear h1
      go_wp2
      go_ret
      exact ⟨ret_bool (by rw [HR2.out]), k0⟩
  · have HR := Lib.hid (show Sm.right ⟨bl buf, true⟩ = (buf.toList == []) by rw [toList_eq]; rfl)
    go_enter Try.func24, Try.ntmps24
    go_wp2
    all_goals (
      go_ret
      refine ⟨ret_bool ?_, k0⟩
      rw [HR.out]
      generalize buf.toList = l
      cases l <;> rfl)

/-- What the loop of Push holds: frames that are out, bytes that are left. -/
def TakeRel (w : World) (g : StreamP × List FrameP) (out bv : Value) (wr : World) : Prop :=
  ∃ (l : List UInt8) (fs : List FrameP), bv = .string (st l) ∧ Hid (Sm.feed (⟨[], false⟩, fs) l = g) ∧ wr.ownsRow (w.heap.size + 2) 55 3 out fs.length (flat encF fs) ∧
    (wr.cell? ⟨w.heap.size + 1, 0, none⟩ = some (.string ⟨#[]⟩) ∧ wr.cell? ⟨w.heap.size + 1, 1, none⟩ = some (.bool false) ∧ ∀ j, wr.frozen? ⟨w.heap.size + 1, j, none⟩ = false) ∧
    Keep w wr ∧ w.heap.size + 2 ≤ wr.heap.size ∧ fs.length + l.length ≤ 200000
set_option maxHeartbeats 4000000 in
theorem push_any (buf b : ByteArray) (bad : Bool) (w : World) (hs : buf.size ≤ 100000) (hb : b.size ≤ 100000) (hr : Sm.right ⟨bl buf, bad⟩ = true) :
    Calls Try.prog 23 #[.agg #[.string buf, .bool bad], .string b] w (RetPush (Sm.feed (⟨bl buf, bad⟩, []) (bl b)) w) := by
  cases bad
  · obtain ⟨g, hg⟩ : ∃ g, g = Sm.feed (⟨bl buf, false⟩, []) (bl b) := ⟨_, rfl⟩
    have hg2 : g = Sm.feed (⟨[], false⟩, []) (bl buf ++ bl b) := hg.trans (Sm.feed_all ⟨bl buf, false⟩ hr rfl [] (bl b))
    rw [← hg]
    have a1 : ∀ W : World, (Op.stringOp .add buf b).run Try.prog W = .ok (.string (st (bl buf ++ bl b))) W := fun W => by
      have := run_string_add_sum (P := Try.prog) W buf b (by first | omega | (unfold maxLen; omega))
      rw [this, ← st_bl buf, ← st_bl b, st_add, st_bl, st_bl]
    have HL := Lib.hid (show (bl buf ++ bl b).length ≤ 200000 by simp [bl_length]; omega)
    obtain ⟨l0, hl0⟩ : ∃ l, l = bl buf ++ bl b := ⟨_, rfl⟩
    rw [← hl0] at hg2 HL a1
    have HG := Lib.hid hg2
    clear hg hg2 hr hl0
    go_enter Try.func23, Try.ntmps23
    go_wp2
    go_loopw [6, 7] (fun out bv wr => TakeRel w g out bv wr) (fun _ bv _ => match bv with | .string s => s.size | _ => 0)
    case atStart =>
      exact ⟨l0, [], rfl, Lib.hid HG.out.symm, ⟨rfl, .inl ⟨rfl, rfl⟩⟩, ⟨by go_simp, by go_simp, fun j => by go_simp⟩, ((Keep.refl w).alloc _).alloc _, by simp, by simpa using HL.out⟩
    case round =>
      obtain ⟨l, fs, rfl, hf, hown, ⟨z0, z1, zf⟩, hK, hsz, hln⟩ := hrel
      obtain ⟨OA, oc, rfl⟩ := own_slice hown
      have hsl : (st l).size = l.length := st_size l
      obtain ⟨nd, hnd⟩ : ∃ n, n = Mb.need (st l) := ⟨_, rfl⟩
      obtain ⟨er, her⟩ : ∃ n, n = Mb.needErr (st l) := ⟨_, rfl⟩
      have HN := Lib.hid (And.intro hnd her)
      have hnn : 0 ≤ nd := by
        by_cases h : 6 ≤ (st l).size
        · have := Mb.need_range (st l) h; omega
        · have := Mb.need_short (st l) (by omega); omega
      go_wp2_with fail
      refine (Mbap.need_any (st l) wr (by unfold maxLen; omega)).mono ?_
      rintro e U ⟨rfl, hU⟩
      rw [← hnd, ← her]
      have hq1 : w.heap.size + 1 < wr.heap.size := by omega
      have v0 : U.cell? ⟨w.heap.size + 1, 0, none⟩ = some (.string ⟨#[]⟩) := (Below.cell hU hq1).trans z0
      have v1 : U.cell? ⟨w.heap.size + 1, 1, none⟩ = some (.bool false) := (Below.cell hU hq1).trans z1
      have vf : ∀ j, U.frozen? ⟨w.heap.size + 1, j, none⟩ = false := fun j => (Below.frozen hU hq1).trans (zf j)
      have hoU := own_keep2 hown hU
      have hKU := hK.trans hU
      have hUs : w.heap.size + 2 ≤ U.heap.size := by have := hU.size; omega
      clear z0 z1 zf hown hK hq1 hU hsz
      have HE0 := Lib.hid (show er = Sm.err l ∧ nd = Sm.need l from ⟨her, hnd⟩)
      clear hnd her
      -- the end, at a world that holds what U holds
      have fin : ∀ (X V : World), X.ownsRow (w.heap.size + 2) 55 3 (.slice OA fs.length oc) fs.length (flat encF fs) → Keep w V → (∀ p : Addr, w.heap.size + 2 ≤ p.block → V.cell? p = X.cell? p) → X.heap.size ≤ V.heap.size → Row encF 3 V V.heap.size OA fs.length fs ∧ Fresh w OA fs.length := fun X V hown _ hc hsV => by
        refine ⟨?_, fresh_row hown (by omega)⟩
        have hr := Row.of_own encF_len hown (by omega)
        refine ⟨hr.1, fun hn => ?_⟩
        obtain ⟨b', off, e, hbb, hcl⟩ := hr.2 hn
        obtain ⟨g, e', hg⟩ := fresh_row (W := ((w.alloc (.cells #[] 0)).alloc (.cells #[] 0))) hown (by simp) hn
        have : b' = g := by rw [e] at e'; injection e' with e'; injection e'
        subst this
        refine ⟨b', off, e, by omega, fun j hj i v hv => ?_⟩
        rw [hc _ (by simpa using hg)]
        exact hcl j hj i v hv
      have HFIN := Lib.hid fin
      clear fin
      by_cases he : er = 0
      · have d1 : (er != 0) = false := by simpa using he
        have HE1 := Lib.hid he
        clear he
        go_wp2_with fail
        refine (isWhole_any (st l) nd U).mono ?_
        rintro e U2 ⟨rfl, hU2⟩
        have v0 : U2.cell? ⟨w.heap.size + 1, 0, none⟩ = some (.string ⟨#[]⟩) := (hU2.cell _).trans v0
        have v1 : U2.cell? ⟨w.heap.size + 1, 1, none⟩ = some (.bool false) := (hU2.cell _).trans v1
        have vf : ∀ j, U2.frozen? ⟨w.heap.size + 1, j, none⟩ = false := fun j => (hU2.frozen _).trans (vf j)
        replace hoU := own_keep2 hoU hU2.keep
        replace hKU := hKU.trans hU2.keep
        replace hUs : w.heap.size + 2 ≤ U2.heap.size := by have := hU2.keep.size; omega
        clear hU2
        by_cases hw : whole nd (st l).size = true
        · rw [hw]
          have hw2 : 0 < nd ∧ nd ≤ (l.length : Int) := by rw [whole, hsl] at hw; simpa using hw
          obtain ⟨n, rfl⟩ : ∃ n : Nat, nd = (n : Int) := ⟨nd.toNat, by omega⟩
          obtain ⟨n0, n1⟩ : 0 < n ∧ n ≤ l.length := by omega
          have s1 : ∀ W : World, (Instr.slice 9 (.string (st l)) none (some (.int .i64 (n : Int))) none).run Try.prog W = .ok (.string (st (l.take n))) W := fun W => by
            have h := run_slice_string_h (P := Try.prog) (w := W) (t := 9) (s := st l) Try.underlying9 .i64 (n : Int) (by omega) (by rw [hsl]; omega)
            rw [h, show (n : Int).toNat = n from by omega, Lib.extract_eq]; rfl
          have s2 : ∀ W : World, (Instr.slice 9 (.string (st l)) (some (.int .i64 (n : Int))) none none).run Try.prog W = .ok (.string (st (l.drop n))) W := fun W => by
            have h := run_slice_string_l (P := Try.prog) (w := W) (t := 9) (s := st l) Try.underlying9 .i64 (n : Int) (by omega) (by rw [hsl]; omega)
            rw [h, show (n : Int).toNat = n from by omega, Ak.extract_end]; rfl
          obtain ⟨f, hfd⟩ : ∃ f, f = Mb.get (st (l.take n)) := ⟨_, rfl⟩
          have HE := Lib.hid (show Sm.feed (⟨[], false⟩, fs ++ [f]) (l.drop n) = g by
            rw [← hf.out, hfd]; exact (Sm.feed_frame l n (by rw [← HE0.out.1]; exact HE1.out) HE0.out.2.symm n0 n1 fs).symm)
          have hls : (st (l.take n)).size ≤ 200000 := by rw [st_size, List.length_take]; omega
          have HLD := Lib.hid (show (fs ++ [f]).length + (l.drop n).length ≤ 200000 ∧ (l.drop n).length < l.length by simp; omega)
          have HF := Lib.hid hfd
          have hfl : fs.length ≤ 200000 := by omega
          clear hw hw2 hfd hf hnn hsl hln n0 n1
          generalize l.drop n = l2 at *
          generalize l.take n = l1 at *
          go_wp2_with fail
          refine (Mbap.get_any (st l1) _ (by unfold maxLen; omega)).mono ?_
          rintro e T ⟨rfl, hT⟩
          rw [← HF.out]
          have hq1 : w.heap.size + 1 < U2.heap.size := by omega
          have s0 : T.cell? ⟨w.heap.size + 1, 0, none⟩ = some (.string ⟨#[]⟩) := (Below.cell hT hq1).trans v0
          have s3 : T.cell? ⟨w.heap.size + 1, 1, none⟩ = some (.bool false) := (Below.cell hT hq1).trans v1
          have sf : ∀ j, T.frozen? ⟨w.heap.size + 1, j, none⟩ = false := fun j => (Below.frozen hT hq1).trans (vf j)
          have hoT := own_keep2 hoU hT
          have hKT := hKU.trans hT
          have hTs : w.heap.size + 2 ≤ T.heap.size := by have := hT.size; omega
          clear v0 v1 vf hoU hKU hT hUs hq1
          have hrow : Row encF 3 ((T.alloc (.cells #[.int .i64 f.id, .int .i64 f.unit, .string f.pdu] 55)).alloc (.cells #[.int .i64 f.id, .int .i64 f.unit, .string f.pdu] 55)) ((T.alloc (.cells #[.int .i64 f.id, .int .i64 f.unit, .string f.pdu] 55)).heap.size + 1) (some ⟨T.heap.size + 1, 0, none⟩) 1 [f] := by
            have h := Row.new encF_len (T.alloc (.cells #[.int .i64 f.id, .int .i64 f.unit, .string f.pdu] 55)) 55 [f] #[.int .i64 f.id, .int .i64 f.unit, .string f.pdu] rfl
            have e : (T.alloc (.cells #[.int .i64 f.id, .int .i64 f.unit, .string f.pdu] 55)).heap.size = T.heap.size + 1 := by simp
            rw [e] at h
            rw [e]
            exact h
          have HB2 := Lib.hid (((Below.refl (w.heap.size + 2) T).alloc hTs (.cells #[.int .i64 f.id, .int .i64 f.unit, .string f.pdu] 55)).alloc (by simp; omega) (.cells #[.int .i64 f.id, .int .i64 f.unit, .string f.pdu] 55))
          go_wp2_with (at_builtin; refine append_rows rfl _ _ 38 rfl (w.heap.size + 2) 55 _ 32 Try.underlying38 info_frame rfl (by omega) encF_len encF_one _ fs.length fs rfl ((hoT.alloc _).alloc _) (by simp; omega) _ _ 1 1 [f] rfl hrow (by unfold maxLen; omega) (by omega) ?_)
          intro v' w1 hown' hb1
          have hbT := HB2.out.trans hb1
          have q0 : w1.cell? ⟨w.heap.size + 1, 0, none⟩ = some (.string ⟨#[]⟩) := (hbT.cell (by simp)).trans s0
          have q1 : w1.cell? ⟨w.heap.size + 1, 1, none⟩ = some (.bool false) := (hbT.cell (by simp)).trans s3
          have qf : ∀ j, w1.frozen? ⟨w.heap.size + 1, j, none⟩ = false := fun j => (hbT.frozen (by simp)).trans (sf j)
          have hKw : Keep w w1 := Below.trans hKT (hbT.mono (by omega))
          have hws : w.heap.size + 2 ≤ w1.heap.size := Nat.le_trans hTs hbT.size
          clear hbT hb1 s0 s3 sf hKT hTs hoT hrow
          go_wp2
          exact ⟨⟨l2, fs ++ [f], rfl, HE, by rw [List.length_append]; exact hown', ⟨q0, q1, qf⟩, hKw, hws, HLD.out.1⟩, by show (st l2).size < (st l).size; rw [st_size, st_size]; exact HLD.out.2⟩
        · have hw1 : whole nd (st l).size = false := by simpa using hw
          have hw2 : nd = 0 ∨ (l.length : Int) < nd := by
            rw [whole, hsl] at hw
            simp at hw
            omega
          rw [hw1]
          have HE := Lib.hid (show g = (⟨l, false⟩, fs) by
            rw [← hf.out]; exact Sm.feed_part l (by rw [← HE0.out.1]; exact HE1.out) (by rw [← HE0.out.2]; exact hw2) fs)
          clear hw hw1 hw2 hnn hsl hln
          have hK := hKU
          have vf0 := vf 0
          have vf1 := vf 1
          go_wp2
          (try simp only [Exit.inBlock, Exit.then])
          refine bodyPost_ret (v := .tuple #[.agg #[.string (st l), .bool false], .slice OA fs.length oc]) ?_ rfl ⟨OA, fs.length, oc, by rw [HE.out], ?_, ?_, (HFIN.out U2 U2 hoU hK (fun p hp => rfl) (Nat.le_refl _)).2⟩
          · rw [results_cell_tmp rfl]
            go_simp
          · rw [HE.out]
            refine And.left (HFIN.out U2 _ hoU ((hK.setCell (by simp) _).setCell (by simp) _) (fun p hp => ?_) (by simp))
            rw [World.cell?_of_block (Below.heap_setCell _ _ _ _ (by show p.block ≠ w.heap.size + 1; omega)), World.cell?_of_block (Below.heap_setCell _ _ _ _ (by show p.block ≠ w.heap.size + 1; omega))]
          · exact (hK.setCell (by simp) _).setCell (by simp) _
      · have d1 : (er != 0) = true := by simpa using he
        have HE := Lib.hid (show g = (⟨[], true⟩, fs) by
          rw [← hf.out]; exact Sm.feed_err l (by rw [← HE0.out.1]; exact he) fs)
        clear he hnn hsl hln
        have hK := hKU
        have vf0 := vf 0
        have vf1 := vf 1
        go_wp2
        (try simp only [Exit.inBlock, Exit.then])
        refine bodyPost_ret (v := .tuple #[.agg #[.string (st []), .bool true], .slice OA fs.length oc]) ?_ rfl ⟨OA, fs.length, oc, by rw [HE.out], ?_, ?_, (HFIN.out U U hoU hK (fun p hp => rfl) (Nat.le_refl _)).2⟩
        · rw [results_cell_tmp rfl]
          go_simp
          rfl
        · rw [HE.out]
          refine And.left (HFIN.out U _ hoU ((hK.setCell (by simp) _).setCell (by simp) _) (fun p hp => ?_) (by simp))
          rw [World.cell?_of_block (Below.heap_setCell _ _ _ _ (by show p.block ≠ w.heap.size + 1; omega)), World.cell?_of_block (Below.heap_setCell _ _ _ _ (by show p.block ≠ w.heap.size + 1; omega))]
        · exact (hK.setCell (by simp) _).setCell (by simp) _
  · have HG := Lib.hid (show Sm.feed (⟨bl buf, true⟩, []) (bl b) = (⟨bl buf, true⟩, []) from Sm.feed_bad _ _ _ rfl)
    clear hr
    go_enter Try.func23, Try.ntmps23
    go_wp2
    refine bodyPost_ret (v := .tuple #[.agg #[.string buf, .bool true], .slice none 0 0]) ?_ rfl ⟨none, 0, 0, by rw [HG.out, st_bl], ?_, ?_, fun h => absurd h (Nat.lt_irrefl 0)⟩
    · rw [results_cell_tmp rfl]
      go_simp
    · rw [HG.out]
      exact ⟨rfl, fun h => absurd h (Nat.lt_irrefl 0)⟩
    · exact ((Keep.refl w).alloc _).alloc _
end Go.Proofs.Ytdgnmoebahaaeaa.Strm
