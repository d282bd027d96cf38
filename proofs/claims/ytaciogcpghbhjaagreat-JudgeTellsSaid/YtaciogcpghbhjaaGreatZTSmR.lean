/- Of these texts: SmR, SmO. Conditions: as each part says. -/
import Derived.Test.YtaciogcpghbhjaaGreatZTAskA
import Derived.Test.YtaciogcpghbhjaaGreatZTMbR
import Derived.Test.YtaciogcpghbhjaaGreatZTRow
import Derived.Laws.StructEq
import Derived.RegionTactic
import Derived.Test.YtaciogcpghbhjaaGreatZTOpen
/- Layer 9's reference: Right, Push, and layer 8's Frames. Conditions: lengths at most a hundred thousand. -/
namespace Go.Proofs.YtaciogcpghbhjaaGreat.Ref9
set_option linter.unusedVariables false
open Go.ChangeShapes Go.WideShapes Go.ChangeAt Go.RowKit
open Str (toList_eq)
open Ref8 (ret_bool BoxedF RetFrame)
def encF (f : FrameP) : List Value := [.int .i64 f.id, .int .i64 f.unit, .string f.pdu]
theorem encF_len (f : FrameP) : (encF f).length = 3 := rfl
theorem row_frame {w : World} {B n b off : Nat} {zs : List FrameP} (h : Row encF 3 w B (some ⟨b, off, none⟩) n zs) (j : Nat) (hj : j < n) :
  b < B ∧ w.cell? ⟨b, off + j * 3, none⟩ = some (.int .i64 (zs.getD j Mb.zero).id) ∧ w.cell? ⟨b, off + j * 3 + 1, none⟩ = some (.int .i64 (zs.getD j Mb.zero).unit) ∧ w.cell? ⟨b, off + j * 3 + 2, none⟩ = some (.string (zs.getD j Mb.zero).pdu) := by
 obtain ⟨hb, hc⟩ := h.cells (by omega)
 have hl := h.1
 have hj' : j < zs.length := by omega
 have e : zs.getD j Mb.zero = zs[j] := by rw [List.getD_eq_getElem?_getD, List.getElem?_eq_getElem hj']; rfl
 rw [e]
 exact ⟨hb, hc j hj' 0 _ rfl, hc j hj' 1 _ rfl, hc j hj' 2 _ rfl⟩
end Go.Proofs.YtaciogcpghbhjaaGreat.Ref9
/- What a reading of a slice of frames, and of bytes, tells. Conditions: none. -/
namespace Go.Proofs.YtaciogcpghbhjaaGreat.Strm
set_option linter.unusedVariables false
open Go.ChangeShapes Go.WideShapes Go.ChangeAt Go.RowKit
open Ref9 (encF encF_len)
def FramesIn (w : World) (A : Option Addr) (n : Nat) (zs : List FrameP) : Prop := Row encF 3 w w.heap.size A n zs ∧ ∀ z ∈ zs, z.pdu.size <= maxLen
theorem opens_frames3 {P : Program} {t e i s : TypeId} {fs : Array Field} (ht : P.underlying t = some (.slice e)) (he : P.underlying e = some (.struct fs)) (hi : P.underlying i = some (.int .i64)) (hs : P.underlying s = some .string) (hz : P.cellsOf e = 3) (hiz : P.cellsOf i = 1) (hsz : P.cellsOf s = 1)
  (f0 f1 f2 : Field) (h0 : fs[0]? = some f0) (h1 : fs[1]? = some f1) (h2 : fs[2]? = some f2) (t0 : f0.type = i) (t1 : f1.type = i) (t2 : f2.type = s) (o0 : f0.offset = 0) (o1 : f1.offset = 1) (o2 : f2.offset = 2) :
  Opens P t fun W cs => ∃ A n c zs, cs = [.slice A n c] ∧ n <= c ∧ c <= maxLen ∧ FramesIn W A n zs := by
 have q0 : Opens P f0.type fun _ cs => ∃ n, cs = [.int .i64 n] ∧ (Lit.int .i64 n).wf = true := by rw [t0]; exact opens_int hi
 have q1 : Opens P f1.type fun _ cs => ∃ n, cs = [.int .i64 n] ∧ (Lit.int .i64 n).wf = true := by rw [t1]; exact opens_int hi
 have q2 : Opens P f2.type fun _ cs => ∃ s : ByteArray, cs = [.string s] ∧ s.size <= maxLen := by rw [t2]; exact opens_string hs
 refine (opens_slice ht hz (by omega) (((opens_field he 0 f0 h0 3 1 hz (by rw [t0]; exact hiz) q0).and (opens_field he 1 f1 h1 3 1 hz (by rw [t1]; exact hiz) q1)).and (opens_field he 2 f2 h2 3 1 hz (by rw [t2]; exact hsz) q2))).mono
  fun W cs ⟨A, n, c, hcs, hn, hc, hE⟩ => ?_
 ·skip
  rcases Nat.eq_zero_or_pos n with rfl | hp
  ·exact ⟨A, 0, c, [], hcs, hn, hc, Row.none_ _ _ _, fun z hz => by cases hz⟩
  ·obtain ⟨b, off, hA, hb, hE⟩ := hE hp
   obtain ⟨zs, hl, hzs⟩ := choose_list n (fun j (z : FrameP) => (W.cell? ⟨b, off + j * 3, none⟩ = some (.int .i64 z.id) ∧ W.cell? ⟨b, off + j * 3 + 1, none⟩ = some (.int .i64 z.unit) ∧ W.cell? ⟨b, off + j * 3 + 2, none⟩ = some (.string z.pdu)) ∧ z.pdu.size <= maxLen) (fun j hj => by
    obtain ⟨es, hl, hc, ⟨⟨_, x, ex, _⟩, _, y, ey, _⟩, _, z, ez, wz⟩ := hE j hj
    match es, hl with
    | [e0, e1, e2], _ =>
      rw [o0] at ex
      rw [o1] at ey
      rw [o2] at ez
      simp at ex ey ez
      subst ex ey ez
      exact ⟨⟨x, y, z⟩, ⟨by simpa using hc 0 (by omega), by simpa using hc 1 (by omega), by simpa using hc 2 (by omega)⟩, wz⟩)
   refine ⟨A, n, c, zs, hcs, hn, hc, ⟨hl, fun _ => ⟨b, off, hA, hb, fun j hj i v hv => ?_⟩⟩, fun z hz => ?_⟩
   ·obtain ⟨⟨x0, x1, x2⟩, _⟩ := hzs j _ (List.getElem?_eq_getElem hj)
    match i, hv with
    | 0, hv => simp [encF] at hv; subst hv; exact x0
    | 1, hv => simp [encF] at hv; subst hv; exact x1
    | 2, hv => simp [encF] at hv; subst hv; exact x2
    | i + 3, hv => simp [encF] at hv
   ·obtain ⟨j, hj, rfl⟩ := List.mem_iff_getElem.1 hz
    exact (hzs j _ (List.getElem?_eq_getElem hj)).2
theorem opens_frames : Opens Tryz.prog 23 fun W cs => ∃ A n c zs, cs = [.slice A n c] ∧ n <= c ∧ c <= maxLen ∧ FramesIn W A n zs :=
 opens_frames3 Tryz.underlying23 Tryz.underlying37 Tryz.underlying3 Tryz.underlying9 (by kernel_rfl) (by kernel_rfl) (by kernel_rfl) _ _ _ rfl rfl rfl rfl rfl rfl rfl rfl rfl
theorem opens_u8s : Opens Tryz.prog 25 fun W cs => ∃ A n c zs, cs = [.slice A n c] ∧ n <= c ∧ c <= maxLen ∧ IntsIn .u8 W A n zs :=
 opens_ints Tryz.underlying25 Tryz.underlying5 (by kernel_rfl)
end Go.Proofs.YtaciogcpghbhjaaGreat.Strm
