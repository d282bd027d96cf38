/- Layer 14's reference: Reals, Floats, Same, Of. Conditions: at most a hundred thousand numbers, spans, values. -/
import Derived.Test.YtfdadlalnffdoaaFaA
import Derived.Test.YtfdadlalnffdoaaReR3
import Derived.Test.YtfdadlalnffdoaaSpAll
import Derived.Test.YtfdadlalnffdoaaRow2
import Derived.Test.YtfdadlalnffdoaaTw2
namespace Go.Proofs.Ytfdadlalnffdoaa.Fa
set_option linter.unusedVariables false
open Go.ChangeShapes Go.WideShapes Go.ChangeAt Go.RowKit
open Re (okL ofB)
open Fp (IsN sameB)
def encFl (b : Nat) : List Value := [.float .f64 b]
theorem encFl_len (b : Nat) : (encFl b).length = 1 := rfl
theorem encFl_one (b : Nat) : ∀ v ∈ encFl b, v.oneCell' = true := by
  intro v hv
  simp [encFl] at hv
  subst hv; rfl
theorem info_float : (Try.prog.info? 36).map (fun i => (i.zero, i.size, i.bytes)) = some (some (.float .f64 0), 1, 8) := by kernel_rfl
theorem Ints.part {k : IntKind} {w : World} {B n b off : Nat} {zs : List Int} (h : Ints k w B (some ⟨b, off, none⟩) n zs) (i m : Nat) (hi : i + m ≤ n) : Ints k w B (some ⟨b, off + i, none⟩) m ((zs.drop i).take m) := by
  have hl := h.1
  refine ⟨by rw [List.length_take, List.length_drop]; omega, fun hm => ?_⟩
  obtain ⟨b', off', e, hb, hc⟩ := h.2 (by omega)
  injection e with e
  injection e with e1 e2
  subst e1 e2
  refine ⟨b, off + i, rfl, hb, fun j hj => ?_⟩
  have := hc (i + j) (by omega)
  rw [← Nat.add_assoc] at this
  rw [this]
  have e : ((zs.drop i).take m).getD j 0 = zs.getD (i + j) 0 := by
    rw [List.getD_eq_getElem?_getD, List.getD_eq_getElem?_getD, List.getElem?_take_of_lt hj, List.getElem?_drop]
  rw [e]
/-- What Reals answers. -/
def RetReals (zs : List Int) (w : World) (e : Ending) (w' : World) : Prop :=
  match reals zs with
  | none => ∃ A c, e = .returned (.tuple #[.slice A 0 c, .bool false]) ∧ Keep w w'
  | some bs => ∃ A c xs, e = .returned (.tuple #[.slice A xs.length c, .bool true]) ∧ Row encFl 1 w' w'.heap.size A xs.length xs ∧ Near xs bs ∧ Keep w w'
theorem RetReals.none_ {zs : List Int} {w w' : World} {A : Option Addr} {c : Nat} (h : reals zs = none) (hk : Keep w w') : RetReals zs w (.returned (.tuple #[.slice A 0 c, .bool false])) w' := by
  unfold RetReals
  rw [h]
  exact ⟨A, c, rfl, hk⟩
theorem RetReals.some_ {zs : List Int} {w w' : World} {A : Option Addr} {c : Nat} {bs xs : List Nat} (h : reals zs = some bs) (hr : Row encFl 1 w' w'.heap.size A xs.length xs) (hn : Near xs bs) (hk : Keep w w') : RetReals zs w (.returned (.tuple #[.slice A xs.length c, .bool true])) w' := by
  unfold RetReals
  rw [h]
  exact ⟨A, c, xs, rfl, hr, hn, hk⟩
def RealsRel (w : World) (zs : List Int) (out iv : Value) (wr : World) : Prop :=
  ∃ (k : Nat) (bs xs : List Nat), k ≤ zs.length ∧ k % 4 = 0 ∧ iv = .int .i64 k ∧ Hid (reals (zs.take k) = some bs) ∧ wr.ownsRow w.heap.size 36 1 out xs.length (flat encFl xs) ∧ Hid (Near xs bs) ∧ Keep w wr ∧ xs.length ≤ k
set_option maxHeartbeats 4000000 in
theorem ref_reals_any (A : Option Addr) (n c : Nat) (zs : List Int) (w : World) (hn : n ≤ 100000) (hc : n ≤ c) (hcm : c ≤ maxLen) (hA : Ints .i64 w w.heap.size A n zs) :
    Calls Try.prog 42 #[.slice A n c] w (RetReals zs w) := by
  have hl : zs.length = n := hA.1
  by_cases hm : n % 4 = 0
  · have d4 : ((n : Int) % 4 != 0) = false := by simp; omega
    have HM := Lib.hid hm
    clear hm
    go_enter Try.func42, Try.ntmps42
    go_wp2
    go_loopw [4, 5] (fun out iv wr => RealsRel w zs out iv wr) (fun _ iv _ => n - (intOf iv).toNat)
    case atStart => exact ⟨0, [], [], Nat.zero_le _, rfl, rfl, rfl, ⟨rfl, .inl ⟨rfl, rfl⟩⟩, trivial, Keep.refl _, Nat.zero_le _⟩
    case round =>
      obtain ⟨k, bs, xs, hk, hk4, rfl, hb, hown, hnr, hK, hbl⟩ := hrel
      obtain ⟨OA, oc, rfl⟩ := own_slice hown
      rw [hl] at hk
      by_cases hlt : k < n
      · have hm := HM.out
        have hk4n : k + 4 ≤ n := by omega
        have hltz : (k : Int) < n := by omega
        have hk0 : (0 : Int) ≤ k := by omega
        obtain ⟨b, off, rfl, hbB⟩ : ∃ b off, A = some ⟨b, off, none⟩ ∧ b < w.heap.size := by
          obtain ⟨b, off, e, h1, _⟩ := hA.2 (by omega)
          exact ⟨b, off, e, h1⟩
        have hP := Ints.part (hA.kept hK) k 4 hk4n
        obtain ⟨g, hg⟩ : ∃ g, g = (zs.drop k).take 4 := ⟨_, rfl⟩
        rw [← hg] at hP
        have hcc : ¬ c = k := by omega
        have hks : IntKind.i64.wrap ((k : Int) + 4) = ((k + 4 : Nat) : Int) := by rw [IntKind.wrap_i64]; omega
        have hsl : ∀ W : World, (Instr.slice 24 (.slice (some ⟨b, off, none⟩) n c) (some (.int .i64 (k : Int))) (some (.int .i64 ((k + 4 : Nat) : Int))) none).run Try.prog W = .ok (.slice (some ⟨b, off + k, none⟩) 4 (c - k)) W := fun W => by
          go_simp
          have e1 : ((k : Int) + 4).toNat = k + 4 := by omega
          rw [if_pos (by omega), e1, if_pos (by omega), Nat.add_sub_cancel_left]
        have HG := Lib.hid hg
        clear hg hm hcc
        go_wp2_with fail
        refine (Ref3.of_any _ 4 (c - k) g _ hP).mono ?_
        rintro e V ⟨x, rfl, hx, hx64, hq⟩
        have hKV := hK.trans hq.keep
        have hoV := hq.own hown
        have hsV : w.heap.size ≤ V.heap.size := hKV.size
        have hbm : xs.length ≤ 100000 := by omega
        cases hok : okL g
        · have HN := Lib.hid (reals_stop zs k (by omega) hk4 bs hb.out (by rw [← HG.out]; exact hok))
          clear hok
          go_wp2
          go_ret2
          exact RetReals.none_ HN.out hKV
        · have HN := Lib.hid (reals_step zs k (by omega) hk4 bs hb.out (by rw [← HG.out]; exact hok))
          have HNR := Lib.hid (Near.snoc hnr.out (show near x (ofB g) from ⟨hx, hx64⟩))
          rw [← HG.out] at HN
          clear hok hx
          have hrow : Row encFl 1 (V.alloc (.cells #[.float .f64 x] 36)) (V.heap.size + 1) (some ⟨V.heap.size, 0, none⟩) 1 [x] := Row.new encFl_len V 36 [x] #[.float .f64 x] rfl
          have HB2 := Lib.hid ((Below.refl w.heap.size V).alloc hsV (.cells #[.float .f64 x] 36))
          go_wp2_with (at_builtin; refine append_rows rfl _ _ 70 rfl w.heap.size 36 _ 8 Try.underlying70 info_float rfl (by omega) encFl_len encFl_one _ xs.length xs rfl (hoV.alloc _) (by simp; omega) _ _ 1 1 [x] rfl hrow (by unfold maxLen; omega) (by omega) ?_)
          intro v' w1 hown' hb1
          have hKw : Keep w w1 := Below.trans hKV (HB2.out.trans hb1)
          go_wp2
          refine ⟨⟨k + 4, bs ++ [ofB g], xs ++ [x], by omega, by omega, by go_num, HN, ?_, HNR, hKw, by simp; omega⟩, by simp [intOf]; omega⟩
          rw [List.length_append]
          exact hown'
      · obtain rfl : k = n := by omega
        have HE := Lib.hid (show reals zs = some bs by have := hb.out; rwa [List.take_of_length_le (by omega)] at this)
        go_wp2
        go_ret2
        exact RetReals.some_ HE.out (Row.of_own encFl_len hown (by omega)) hnr.out hK
  · have HR := Lib.hid (reals_mod zs (by rw [hl]; exact hm))
    have d4 : ((n : Int) % 4 != 0) = true := by simp; omega
    clear hm
    go_enter Try.func42, Try.ntmps42
    go_wp2
    go_ret2
    exact RetReals.none_ HR.out (Keep.refl _)
end Go.Proofs.Ytfdadlalnffdoaa.Fa
