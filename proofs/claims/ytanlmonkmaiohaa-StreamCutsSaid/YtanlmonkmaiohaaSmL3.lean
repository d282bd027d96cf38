/- Layer 9's law StreamCuts. Conditions: none beyond the law's own. -/
import Derived.Test.YtanlmonkmaiohaaSmL
import Derived.Test.YtanlmonkmaiohaaRow2
namespace Go.Proofs.Ytanlmonkmaiohaa.Strm
set_option linter.unusedVariables false
open Go.ChangeShapes Go.WideShapes Go.ChangeAt Go.RowKit
open Ref8 (ret_bool)
open Ref9 (BoxedS RetPush encF encF_len row_frame frames_same)
open Ref9 (own_drew2 own_set2 own_keep2 info_frame encF_one fresh_row)

theorem drop_drop' (l : List UInt8) (a b : Nat) : (l.drop a).drop b = l.drop (a + b) := by rw [List.drop_drop]
theorem take_more (l : List UInt8) (a b : Nat) : l.take (a + b) = l.take a ++ (l.drop a).take b := List.take_add
/-- 'append' behind a guard that lets it by. -/
theorem append_rows_w {α : Type} {enc : α → List Value} {k : Nat} {P : Program} {ops : Array Oper} {rest : List Oper} {o : Oper} {a : Act} {Q : Exit → Act → World → Prop} {w : World} (hw : Region.wanted o (yielded ops a.tmps) = true) (s x : Operand) (t : TypeId)
    (ho : o.op = .call { callee := .builtin .append, args := #[s, x], argTypes := #[t, t] })
    (base : Nat) (e : TypeId) (z : Value) (bytes : Nat) (ht : P.underlying t = some (.slice e)) (hinfo : (P.info? e).map (fun i => (i.zero, i.size, i.bytes)) = some (some z, k, bytes))
    (hzs : z.cells.size = k) (h0 : 0 < k) (hk : ∀ x, (enc x).length = k) (h1 : ∀ x, ∀ v ∈ enc x, v.oneCell' = true)
    (v : Value) (n : Nat) (xs : List α) (hs : a.eval s = v) (hown : w.ownsRow base e k v n (flat enc xs)) (hbase : base ≤ w.heap.size)
    (B : Nat) (A : Option Addr) (m c : Nat) (ys : List α) (hx : a.eval x = .slice A m c) (hA : Row enc k w B A m ys)
    (h63 : n + m ≤ maxLen) (hbytes : (n + m) * bytes ≤ 140737488355328)
    (h : ∀ v' w', w'.ownsRow base e k v' (n + m) (flat enc (xs ++ ys)) → Below base w w' → wpList P ops Q rest (a.put o.dst v') w') : wpList P ops Q (o :: rest) a w :=
  wpList_step fun K hK => by
    rw [if_pos hw]
    exact wp_append_rows s x t ho base e z bytes ht hinfo hzs h0 hk h1 v n xs hs hown hbase B A m c ys hx hA h63 hbytes fun v' w' a b _ => hK _ _ (h v' w' a ((Below.refl base w).grown b hbase fun k hk => (hown.lt k hk).1))
/-- What the loop of StreamCuts holds behind k pieces. -/
def CutRel (Y : World) (s : ByteArray) (n : Nat) (m rest i : Value) (wr : World) : Prop :=
  ∃ (k p : Nat) (y : StreamP) (ms : List FrameP), k ≤ n ∧ i = .int .i64 k ∧ p ≤ s.size ∧ Hid (Sm.feed (⟨[], false⟩, []) ((bl s).take p) = (y, ms)) ∧ rest = .string (st ((bl s).drop p)) ∧
    wr.ownsRow (Y.heap.size + 1) 34 3 m ms.length (flat encF ms) ∧
    (wr.cell? ⟨Y.heap.size, 0, none⟩ = some (.string (st y.buf)) ∧ wr.cell? ⟨Y.heap.size, 1, none⟩ = some (.bool y.bad) ∧ wr.frozen? ⟨Y.heap.size, 0, none⟩ = false ∧ wr.frozen? ⟨Y.heap.size, 1, none⟩ = false) ∧
    Keep Y wr ∧ Y.heap.size + 1 ≤ wr.heap.size
set_option maxHeartbeats 4000000 in
theorem cuts_any (s : ByteArray) (A : Option Addr) (n c : Nat) (zs : List Int) (w : World) (hs : s.size ≤ maxLen) (hn : n ≤ maxLen) (hA : Ints .u8 w w.heap.size A n zs) (hz : ∀ z ∈ zs, 0 ≤ z ∧ z ≤ 255) :
    Calls Try.prog 4 #[.string s, .slice A n c] w fun e w' => e = .returned (.bool true) ∧ Keep w w' := by
  unfold maxLen at hs hn
  by_cases hs2 : 2000 < s.size
  · have ds : decide ((2000 : Int) < (s.size : Int)) = true := by simp; omega
    go_enter Try.func4, Try.ntmps4
    go_wp2_with fail
    refine (awake_any _).mono ?_
    rintro e w1 ⟨rfl, hb⟩
    go_wp2
    go_ret
    exact ⟨rfl, hb⟩
  have ds : decide ((2000 : Int) < (s.size : Int)) = false := by simp; omega
  by_cases hn2 : 100 < n
  · have dn : decide ((100 : Int) < (n : Int)) = true := by simp; omega
    go_enter Try.func4, Try.ntmps4
    go_wp2_with fail
    refine (awake_any _).mono ?_
    rintro e w1 ⟨rfl, hb⟩
    go_wp2
    go_ret
    exact ⟨rfl, hb⟩
  have dn : decide ((100 : Int) < (n : Int)) = false := by simp; omega
  rcases hx : Sm.feed (⟨[], false⟩, []) (bl s) with ⟨⟨xb, xd⟩, fs⟩
  have hfs : fs.length ≤ 2000 := by
    have := Sm.feed_count (bl s) ⟨[], false⟩ []
    rw [hx, bl_length] at this
    simp only [List.length_nil] at this
    omega
  have HX := Lib.hid hx
  have HZ := Lib.hid hz
  clear hx hz
  go_enter Try.func4, Try.ntmps4
  go_wp2_with fail
  refine (push_to ⟨#[]⟩ s false _ _ _ (by decide) (by omega) rfl HX.out).mono ?_
  rintro e w1 ⟨A1, n1, c1, rfl, i1, h1, _⟩
  replace h1 : Keep w w1 := h1
  replace hA := hA.kept h1
  simp only at i1 ⊢
  go_wp2
  obtain ⟨Y, hY⟩ : ∃ Y, Y = w1.alloc (.cells #[.string (st xb), .bool xd] 23) := ⟨_, rfl⟩
  have B5 := Lib.hid (show Bs w1.heap.size (st xb) xd Y by rw [hY]; exact Bs.new _ _ _ _)
  have hYs : w1.heap.size + 1 = Y.heap.size := by rw [hY]; simp
  have kY : Keep w Y := by rw [hY]; exact h1.alloc _
  replace i1 := i1.kept (show Keep w1 Y by rw [hY]; exact (Keep.refl w1).alloc _)
  replace hA := hA.kept (show Keep w1 Y by rw [hY]; exact (Keep.refl w1).alloc _)
  rw [← hY, hYs]
  clear hY hYs h1
  have HAY := Lib.hid hA
  have hzl := hA.1
  go_loopw [8, 9, 10] (fun m rest i wr => CutRel Y s n m rest i wr) (fun _ _ i _ => n - (intOf i).toNat)
  case atStart =>
    exact ⟨0, 0, ⟨[], false⟩, [], Nat.zero_le _, rfl, Nat.zero_le _, rfl, by rw [List.drop_zero, st_bl], ⟨rfl, .inl ⟨rfl, rfl⟩⟩, ⟨by go_simp; rfl, by go_simp, by go_simp, by go_simp⟩, (Keep.refl Y).alloc _, by simp⟩
  case round =>
    obtain ⟨k, p, ⟨yb, yd⟩, ms, hk, rfl, hp, hf, rfl, hown, ⟨y0, y1, f0, f1⟩, hkY, hsz⟩ := hrel
    simp only at y0 y1
    obtain ⟨MA, mc, rfl⟩ := own_slice hown
    have hrt : Sm.right ⟨yb, yd⟩ = true := by
      have h := Sm.feed_right ((bl s).take p) ⟨[], false⟩ [] rfl
      rwa [hf.out] at h
    have hyl : yb.length ≤ 259 := Sm.right_len _ hrt
    have hml : ms.length ≤ 2000 := by
      have h := Sm.feed_count ((bl s).take p) ⟨[], false⟩ []
      rw [hf.out, List.length_take, bl_length] at h
      simp only [List.length_nil] at h
      omega
    have hsl0 := bl_length s
    have HRT := Lib.hid hrt
    clear hrt
    by_cases hlt : k < n
    · have hltz : (k : Int) < n := by omega
      have hk0 : (0 : Int) ≤ k := by omega
      obtain ⟨b, off, rfl, hbb, hcl⟩ := HAY.out.2 (by omega)
      have hck := (Below.cell hkY (p := ⟨b, off + k, none⟩) hbb).trans (hcl k hlt)
      clear hcl
      obtain ⟨z, hzz⟩ : ∃ z, z = zs.getD k 0 := ⟨_, rfl⟩
      have hz2 : 0 ≤ z ∧ z ≤ 255 := by
        rw [hzz, List.getD_eq_getElem?_getD, List.getElem?_eq_getElem (by omega)]
        exact HZ.out _ (List.getElem_mem _)
      rw [← hzz] at hck
      clear hzz
      obtain ⟨r, hr⟩ : ∃ r, r = (bl s).drop p := ⟨_, rfl⟩
      have hrl : r.length = s.size - p := by rw [hr, List.length_drop, hsl0]
      by_cases hdec : z ≤ (r.length : Int)
      · obtain ⟨zn, rfl⟩ := Int.eq_ofNat_of_zero_le hz2.1
        have hnr : zn ≤ r.length := by omega
        have hwz : IntKind.i64.wrap (zn : Int) = (zn : Int) := by rw [IntKind.wrap_i64]; omega
        have hrs : (st r).size = r.length := st_size r
        rcases hf2 : Sm.feed (⟨yb, yd⟩, []) (r.take zn) with ⟨⟨zb, zd⟩, f2⟩
        have hf3 : Sm.feed (⟨[], false⟩, []) ((bl s).take (p + zn)) = (⟨zb, zd⟩, ms ++ f2) := by
          rw [take_more, Sm.feed_app, hf.out, ← hr]
          have h := Sm.feed_pre (r.take zn) ⟨yb, yd⟩ ms []
          rw [List.append_nil, hf2] at h
          exact h
        have hfl : f2.length ≤ 2000 := by
          have h := Sm.feed_count (r.take zn) ⟨yb, yd⟩ []
          rw [hf2, List.length_take] at h
          simp only [List.length_nil] at h
          omega
        have HF3 := Lib.hid hf3
        have P1 := Lib.hid (fun W => push_to (st yb) (st (r.take zn)) yd _ _ W (by rw [st_size]; omega) (by rw [st_size, List.length_take]; omega) HRT.out hf2)
        have hsa : ∀ W : World, (Instr.slice 9 (.string (st r)) none (some (.int .i64 (zn : Int))) none).run Try.prog W = .ok (.string (st (r.take zn))) W := fun W => by
          have h := run_slice_string_h (P := Try.prog) (w := W) (t := 9) (s := st r) Try.underlying9 .i64 (zn : Int) (by omega) (by rw [hrs]; omega)
          rw [h, show (zn : Int).toNat = zn from by omega, Lib.extract_eq]; rfl
        have hsb : ∀ W : World, (Instr.slice 9 (.string (st r)) (some (.int .i64 (zn : Int))) none none).run Try.prog W = .ok (.string (st (r.drop zn))) W := fun W => by
          have h := run_slice_string_l (P := Try.prog) (w := W) (t := 9) (s := st r) Try.underlying9 .i64 (zn : Int) (by omega) (by rw [hrs]; omega)
          rw [h, show (zn : Int).toNat = zn from by omega, Ak.extract_end]; rfl
        have HR := Lib.hid (show st (r.drop zn) = st ((bl s).drop (p + zn)) by rw [hr, drop_drop'])
        rw [← hr]
        have HRL := Lib.hid hrl
        clear hf2 hf3 hr hrl
        go_wp2
        clear hck
        have hpq : Y.heap.size < wr.heap.size := by omega
        have hS : ∀ W, Keep wr W → W.cell? ⟨Y.heap.size, 0, none⟩ = some (.string (st yb)) ∧ W.cell? ⟨Y.heap.size, 1, none⟩ = some (.bool yd) := fun W h => ⟨(Below.cell h hpq).trans y0, (Below.cell h hpq).trans y1⟩
        go_region_held3 (fun W => W.cell? ⟨Y.heap.size, 0, none⟩ = some (.string (st yb)) ∧ W.cell? ⟨Y.heap.size, 1, none⟩ = some (.bool yd))
          (first
            | exact hS _ hw
            | exact hS _ (hw.alloc _)
            | exact hS _ (keepd' (Keep.refl wr))
            | exact hS _ (keepd' ((Keep.refl wr).alloc _))
            | exact ⟨(sets2 (by omega) 0).trans (hS _ hw).1, (sets2 (by omega) 1).trans (hS _ hw).2⟩
            | fail)
          ((first
            | (go_at_call 9; refine (P1.out _).mono ?_; rintro e w3 ⟨A2, n2, c2, rfl, i2, h2, hfr⟩; have hw : Keep wr w3 := Keep.trans (keepd' ((Keep.refl wr).alloc _)) h2; have hn3 := zero_new h2; simp only)
            | (go_at_call 9; refine (P1.out _).mono ?_; rintro e w3 ⟨A2, n2, c2, rfl, i2, h2, hfr⟩; have hw : Keep wr w3 := Below.trans (keepd' (Keep.refl wr)) h2; simp only)
            | fail))
        · skip
          obtain ⟨W, hW⟩ : ∃ W, W = w3.alloc (.cells #[.string (st zb), .bool zd] 23) := ⟨_, rfl⟩
          have hkW : Keep wr W := by rw [hW]; exact hw.alloc _
          have hws := hw.size
          have hql : w3.heap.size < W.heap.size := by rw [hW]; simp
          have hzc : W.cell? ⟨w3.heap.size, 0, none⟩ = some (.string (st zb)) ∧ W.cell? ⟨w3.heap.size, 1, none⟩ = some (.bool zd) := by rw [hW]; exact (Bs.new _ _ _ _).1
          have i2' : Row encF 3 W W.heap.size A2 n2 f2 := by rw [hW]; exact i2.kept ((Keep.refl w3).alloc _)
          have hfr' : 0 < n2 → ∃ b, A2 = some ⟨b, 0, none⟩ ∧ wr.heap.size ≤ b := fun h => by obtain ⟨b', e', hb'⟩ := hfr h; exact ⟨b', e', by simpa using hb'⟩
          have hoW := own_keep2 hown hkW
          have hqY : Y.heap.size ≠ w3.heap.size := by omega
          have hg0 : W.cell? ⟨Y.heap.size, 0, none⟩ = some (.string (st yb)) := (Below.cell hkW hpq).trans y0
          have hg1 : W.cell? ⟨Y.heap.size, 1, none⟩ = some (.bool yd) := (Below.cell hkW hpq).trans y1
          have e0 : W.frozen? ⟨Y.heap.size, 0, none⟩ = false := (Below.frozen hkW hpq).trans f0
          have e1 : W.frozen? ⟨Y.heap.size, 1, none⟩ = false := (Below.frozen hkW hpq).trans f1
          have hWs : Y.heap.size + 1 ≤ W.heap.size := by have := hkW.size; omega
          have hoB := own_drew2 (own_set2 (own_set2 hoW ⟨Y.heap.size, 0, none⟩ (.string (st zb)) (by simp)) ⟨Y.heap.size, 1, none⟩ (.bool zd) (by simp))
          have hoA := own_drew2 hoW
          have iA : Row encF 3 W.drew W.drew.heap.size A2 n2 f2 := i2'.kept ((Quiet.refl W).drew).keep
          have iB : Row encF 3 ((W.setCell ⟨Y.heap.size, 0, none⟩ (.string (st zb))).setCell ⟨Y.heap.size, 1, none⟩ (.bool zd)).drew ((W.setCell ⟨Y.heap.size, 0, none⟩ (.string (st zb))).setCell ⟨Y.heap.size, 1, none⟩ (.bool zd)).drew.heap.size A2 n2 f2 :=
            (i2'.skip (q := Y.heap.size) (fun h => by obtain ⟨b', e', hb'⟩ := hfr' h; exact ⟨b', e', by omega⟩) (by simp) (fun p hp => by rw [World.cell?_of_block (Below.heap_setCell _ _ _ _ hp), World.cell?_of_block (Below.heap_setCell _ _ _ _ hp)])).kept ((Quiet.refl _).drew).keep
          have hsA : Y.heap.size + 1 ≤ W.drew.heap.size := hWs
          have hsB : Y.heap.size + 1 ≤ ((W.setCell ⟨Y.heap.size, 0, none⟩ (.string (st zb))).setCell ⟨Y.heap.size, 1, none⟩ (.bool zd)).drew.heap.size := by simpa using hWs
          have zA : W.cell? ⟨w3.heap.size, 0, none⟩ = some (.string (st zb)) ∧ W.cell? ⟨w3.heap.size, 1, none⟩ = some (.bool zd) := hzc
          have hgq : ∀ w5 v, W.drew.grownBy w5 (Value.slice MA ms.length mc).ownBlock → v ≤ 1 → w5.cell? ⟨w3.heap.size, v, none⟩ = W.cell? ⟨w3.heap.size, v, none⟩ := fun w5 v hg _ =>
            World.cell?_of_block (hg.block w3.heap.size hql (fun e => by have := (hown.lt w3.heap.size e.symm).2; omega))
          have hgqB : ∀ w5 v, ((W.setCell ⟨Y.heap.size, 0, none⟩ (.string (st zb))).setCell ⟨Y.heap.size, 1, none⟩ (.bool zd)).drew.grownBy w5 (Value.slice MA ms.length mc).ownBlock → v ≤ 1 → w5.cell? ⟨w3.heap.size, v, none⟩ = ((W.setCell ⟨Y.heap.size, 0, none⟩ (.string (st zb))).setCell ⟨Y.heap.size, 1, none⟩ (.bool zd)).cell? ⟨w3.heap.size, v, none⟩ := fun w5 v hg _ =>
            World.cell?_of_block (hg.block w3.heap.size (by simpa using hql) (fun e => by have := (hown.lt w3.heap.size e.symm).2; omega))
          have hkYW : Keep Y W := hkY.trans hkW
          obtain rfl : f2.length = n2 := i2'.1
          go_wp2
          rw [← hW]
          clear hW
          go_region_held3 (fun V => V.cell? ⟨w3.heap.size, 0, none⟩ = some (.string (st zb)) ∧ V.cell? ⟨w3.heap.size, 1, none⟩ = some (.bool zd))
            (first
              | exact zA
              | exact hz5
              | exact ⟨(sets2 hqY.symm 0).trans zA.1, (sets2 hqY.symm 1).trans zA.2⟩
              | exact ⟨(sets2 hqY.symm 0).trans hz5.1, (sets2 hqY.symm 1).trans hz5.2⟩
              | fail)
            ((first
              | (refine step_append_rows (by rfl) _ _ 26 (by rfl) (Y.heap.size + 1) 34 _ 32 Try.underlying26 info_frame rfl (by omega) encF_len encF_one (.slice MA ms.length mc) ms.length ms (by rfl) hoA hsA _ A2 f2.length c2 f2 (by rfl) iA (by unfold maxLen; omega) (by omega) ?_; intro v5 w5 hown5 hg5 hat5 hb5; have hz5 := And.intro ((hgq w5 0 hg5 (by omega)).trans zA.1) ((hgq w5 1 hg5 (by omega)).trans zA.2); have hwA : Below (Y.heap.size + 1) W.drew w5 := hb5; have q0 := (hwA.cell (p := ⟨Y.heap.size, 0, none⟩) (by simp)).trans hg0; have q1 := (hwA.cell (p := ⟨Y.heap.size, 1, none⟩) (by simp)).trans hg1; have r0 := (hwA.frozen (p := ⟨Y.heap.size, 0, none⟩) (by simp)).trans e0; have r1 := (hwA.frozen (p := ⟨Y.heap.size, 1, none⟩) (by simp)).trans e1)
              | (refine step_append_rows (by rfl) _ _ 26 (by rfl) (Y.heap.size + 1) 34 _ 32 Try.underlying26 info_frame rfl (by omega) encF_len encF_one (.slice MA ms.length mc) ms.length ms (by rfl) hoB hsB _ A2 f2.length c2 f2 (by rfl) iB (by unfold maxLen; omega) (by omega) ?_; intro v5 w5 hown5 hg5 hat5 hb5; have hwB : Below (Y.heap.size + 1) ((W.setCell ⟨Y.heap.size, 0, none⟩ (.string (st zb))).setCell ⟨Y.heap.size, 1, none⟩ (.bool zd)).drew w5 := hb5; have hz5 := And.intro ((hgqB w5 0 hg5 (by omega)).trans ((sets2 hqY.symm 0).trans zA.1)) ((hgqB w5 1 hg5 (by omega)).trans ((sets2 hqY.symm 1).trans zA.2)))
              | fail))
          all_goals (
            go_wp2
            have hrl := HRL.out
            first
              | exact ⟨⟨k + 1, p + zn, ⟨zb, zd⟩, ms ++ f2, by omega, by go_num, by omega, HF3, by rw [HR.out], by rw [List.length_append]; exact own_set2 (own_set2 hown5 _ _ (by simp)) _ _ (by simp), ⟨by go_simp, by go_simp, by go_simp, by go_simp⟩, ((Below.trans (hkYW.trans ((Quiet.refl W).drew).keep) (hwA.mono (Nat.le_succ _))).setCell (Nat.le_refl _) _).setCell (Nat.le_refl _) _, by simpa using Nat.le_trans hsA hwA.size⟩, by simp [intOf]; omega⟩
              | exact ⟨⟨k + 1, p + zn, ⟨zb, zd⟩, ms ++ f2, by omega, by go_num, by omega, HF3, by rw [HR.out], by rw [List.length_append]; exact hown5, ⟨(hwB.cell (by simp)).trans (by go_simp), (hwB.cell (by simp)).trans (by go_simp), (hwB.frozen (by simp)).trans (by go_simp), (hwB.frozen (by simp)).trans (by go_simp)⟩, Below.trans (keepd' ((hkYW.setCell (Nat.le_refl _) _).setCell (Nat.le_refl _) _)) (hwB.mono (Nat.le_succ _)), Nat.le_trans hsB hwB.size⟩, by simp [intOf]; omega⟩)
        · skip
          obtain ⟨W, hW⟩ : ∃ W, W = (w3.setCell ⟨wr.heap.size, 0, none⟩ (.string (st zb))).setCell ⟨wr.heap.size, 1, none⟩ (.bool zd) := ⟨_, rfl⟩
          obtain ⟨g0, g1, x0, x1, hlt3⟩ := hn3
          have hkW : Keep wr W := by rw [hW]; exact (hw.setCell (Nat.le_refl _) _).setCell (Nat.le_refl _) _
          have hql : wr.heap.size < W.heap.size := by rw [hW]; simpa using hlt3
          have hzc : W.cell? ⟨wr.heap.size, 0, none⟩ = some (.string (st zb)) ∧ W.cell? ⟨wr.heap.size, 1, none⟩ = some (.bool zd) := by rw [hW]; exact ⟨by go_simp, by go_simp⟩
          have hfr0 : 0 < n2 → ∃ b, A2 = some ⟨b, 0, none⟩ ∧ wr.heap.size + 1 ≤ b := fun h => by obtain ⟨b', e', hb'⟩ := hfr h; exact ⟨b', e', by simpa using hb'⟩
          have i2' : Row encF 3 W W.heap.size A2 n2 f2 := by
            rw [hW]
            exact i2.skip (q := wr.heap.size) (fun h => by obtain ⟨b', e', hb'⟩ := hfr0 h; exact ⟨b', e', by omega⟩) (by simp) (fun p hp => by rw [World.cell?_of_block (Below.heap_setCell _ _ _ _ hp), World.cell?_of_block (Below.heap_setCell _ _ _ _ hp)])
          have hfr' : 0 < n2 → ∃ b, A2 = some ⟨b, 0, none⟩ ∧ wr.heap.size ≤ b := fun h => by obtain ⟨b', e', hb'⟩ := hfr0 h; exact ⟨b', e', by omega⟩
          have hoW := own_keep2 hown hkW
          have hqY : Y.heap.size ≠ wr.heap.size := by omega
          have hg0 : W.cell? ⟨Y.heap.size, 0, none⟩ = some (.string (st yb)) := (Below.cell hkW hpq).trans y0
          have hg1 : W.cell? ⟨Y.heap.size, 1, none⟩ = some (.bool yd) := (Below.cell hkW hpq).trans y1
          have e0 : W.frozen? ⟨Y.heap.size, 0, none⟩ = false := (Below.frozen hkW hpq).trans f0
          have e1 : W.frozen? ⟨Y.heap.size, 1, none⟩ = false := (Below.frozen hkW hpq).trans f1
          have hWs : Y.heap.size + 1 ≤ W.heap.size := by have := hkW.size; omega
          have hoB := own_drew2 (own_set2 (own_set2 hoW ⟨Y.heap.size, 0, none⟩ (.string (st zb)) (by simp)) ⟨Y.heap.size, 1, none⟩ (.bool zd) (by simp))
          have hoA := own_drew2 hoW
          have iA : Row encF 3 W.drew W.drew.heap.size A2 n2 f2 := i2'.kept ((Quiet.refl W).drew).keep
          have iB : Row encF 3 ((W.setCell ⟨Y.heap.size, 0, none⟩ (.string (st zb))).setCell ⟨Y.heap.size, 1, none⟩ (.bool zd)).drew ((W.setCell ⟨Y.heap.size, 0, none⟩ (.string (st zb))).setCell ⟨Y.heap.size, 1, none⟩ (.bool zd)).drew.heap.size A2 n2 f2 :=
            (i2'.skip (q := Y.heap.size) (fun h => by obtain ⟨b', e', hb'⟩ := hfr' h; exact ⟨b', e', by omega⟩) (by simp) (fun p hp => by rw [World.cell?_of_block (Below.heap_setCell _ _ _ _ hp), World.cell?_of_block (Below.heap_setCell _ _ _ _ hp)])).kept ((Quiet.refl _).drew).keep
          have hsA : Y.heap.size + 1 ≤ W.drew.heap.size := hWs
          have hsB : Y.heap.size + 1 ≤ ((W.setCell ⟨Y.heap.size, 0, none⟩ (.string (st zb))).setCell ⟨Y.heap.size, 1, none⟩ (.bool zd)).drew.heap.size := by simpa using hWs
          have zA : W.cell? ⟨wr.heap.size, 0, none⟩ = some (.string (st zb)) ∧ W.cell? ⟨wr.heap.size, 1, none⟩ = some (.bool zd) := hzc
          have hgq : ∀ w5 v, W.drew.grownBy w5 (Value.slice MA ms.length mc).ownBlock → v ≤ 1 → w5.cell? ⟨wr.heap.size, v, none⟩ = W.cell? ⟨wr.heap.size, v, none⟩ := fun w5 v hg _ =>
            World.cell?_of_block (hg.block wr.heap.size hql (fun e => by have := (hown.lt wr.heap.size e.symm).2; omega))
          have hgqB : ∀ w5 v, ((W.setCell ⟨Y.heap.size, 0, none⟩ (.string (st zb))).setCell ⟨Y.heap.size, 1, none⟩ (.bool zd)).drew.grownBy w5 (Value.slice MA ms.length mc).ownBlock → v ≤ 1 → w5.cell? ⟨wr.heap.size, v, none⟩ = ((W.setCell ⟨Y.heap.size, 0, none⟩ (.string (st zb))).setCell ⟨Y.heap.size, 1, none⟩ (.bool zd)).cell? ⟨wr.heap.size, v, none⟩ := fun w5 v hg _ =>
            World.cell?_of_block (hg.block wr.heap.size (by simpa using hql) (fun e => by have := (hown.lt wr.heap.size e.symm).2; omega))
          have hkYW : Keep Y W := hkY.trans hkW
          obtain rfl : f2.length = n2 := i2'.1
          go_wp2
          rw [← hW]
          clear hW
          go_region_held3 (fun V => V.cell? ⟨wr.heap.size, 0, none⟩ = some (.string (st zb)) ∧ V.cell? ⟨wr.heap.size, 1, none⟩ = some (.bool zd))
            (first
              | exact zA
              | exact hz5
              | exact ⟨(sets2 hqY.symm 0).trans zA.1, (sets2 hqY.symm 1).trans zA.2⟩
              | exact ⟨(sets2 hqY.symm 0).trans hz5.1, (sets2 hqY.symm 1).trans hz5.2⟩
              | fail)
            ((first
              | (refine step_append_rows (by rfl) _ _ 26 (by rfl) (Y.heap.size + 1) 34 _ 32 Try.underlying26 info_frame rfl (by omega) encF_len encF_one (.slice MA ms.length mc) ms.length ms (by rfl) hoA hsA _ A2 f2.length c2 f2 (by rfl) iA (by unfold maxLen; omega) (by omega) ?_; intro v5 w5 hown5 hg5 hat5 hb5; have hz5 := And.intro ((hgq w5 0 hg5 (by omega)).trans zA.1) ((hgq w5 1 hg5 (by omega)).trans zA.2); have hwA : Below (Y.heap.size + 1) W.drew w5 := hb5; have q0 := (hwA.cell (p := ⟨Y.heap.size, 0, none⟩) (by simp)).trans hg0; have q1 := (hwA.cell (p := ⟨Y.heap.size, 1, none⟩) (by simp)).trans hg1; have r0 := (hwA.frozen (p := ⟨Y.heap.size, 0, none⟩) (by simp)).trans e0; have r1 := (hwA.frozen (p := ⟨Y.heap.size, 1, none⟩) (by simp)).trans e1)
              | (refine step_append_rows (by rfl) _ _ 26 (by rfl) (Y.heap.size + 1) 34 _ 32 Try.underlying26 info_frame rfl (by omega) encF_len encF_one (.slice MA ms.length mc) ms.length ms (by rfl) hoB hsB _ A2 f2.length c2 f2 (by rfl) iB (by unfold maxLen; omega) (by omega) ?_; intro v5 w5 hown5 hg5 hat5 hb5; have hwB : Below (Y.heap.size + 1) ((W.setCell ⟨Y.heap.size, 0, none⟩ (.string (st zb))).setCell ⟨Y.heap.size, 1, none⟩ (.bool zd)).drew w5 := hb5; have hz5 := And.intro ((hgqB w5 0 hg5 (by omega)).trans ((sets2 hqY.symm 0).trans zA.1)) ((hgqB w5 1 hg5 (by omega)).trans ((sets2 hqY.symm 1).trans zA.2)))
              | fail))
          all_goals (
            go_wp2
            have hrl := HRL.out
            first
              | exact ⟨⟨k + 1, p + zn, ⟨zb, zd⟩, ms ++ f2, by omega, by go_num, by omega, HF3, by rw [HR.out], by rw [List.length_append]; exact own_set2 (own_set2 hown5 _ _ (by simp)) _ _ (by simp), ⟨by go_simp, by go_simp, by go_simp, by go_simp⟩, ((Below.trans (hkYW.trans ((Quiet.refl W).drew).keep) (hwA.mono (Nat.le_succ _))).setCell (Nat.le_refl _) _).setCell (Nat.le_refl _) _, by simpa using Nat.le_trans hsA hwA.size⟩, by simp [intOf]; omega⟩
              | exact ⟨⟨k + 1, p + zn, ⟨zb, zd⟩, ms ++ f2, by omega, by go_num, by omega, HF3, by rw [HR.out], by rw [List.length_append]; exact hown5, ⟨(hwB.cell (by simp)).trans (by go_simp), (hwB.cell (by simp)).trans (by go_simp), (hwB.frozen (by simp)).trans (by go_simp), (hwB.frozen (by simp)).trans (by go_simp)⟩, Below.trans (keepd' ((hkYW.setCell (Nat.le_refl _) _).setCell (Nat.le_refl _) _)) (hwB.mono (Nat.le_succ _)), Nat.le_trans hsB hwB.size⟩, by simp [intOf]; omega⟩)
      · have hnr : r.length ≤ r.length := Nat.le_refl _
        have hwz : IntKind.i64.wrap z = z := by rw [IntKind.wrap_i64]; omega
        have hrs : (st r).size = r.length := st_size r
        rcases hf2 : Sm.feed (⟨yb, yd⟩, []) r with ⟨⟨zb, zd⟩, f2⟩
        have hf3 : Sm.feed (⟨[], false⟩, []) ((bl s).take (p + r.length)) = (⟨zb, zd⟩, ms ++ f2) := by
          rw [take_more, Sm.feed_app, hf.out, ← hr, List.take_length]
          have h := Sm.feed_pre r ⟨yb, yd⟩ ms []
          rw [List.append_nil, hf2] at h
          exact h
        have hfl : f2.length ≤ 2000 := by
          have h := Sm.feed_count r ⟨yb, yd⟩ []
          rw [hf2] at h
          simp only [List.length_nil] at h
          omega
        have HF3 := Lib.hid hf3
        have P1 := Lib.hid (fun W => push_to (st yb) (st r) yd _ _ W (by rw [st_size]; omega) (by rw [st_size]; omega) HRT.out hf2)
        have hsa : ∀ W : World, (Instr.slice 9 (.string (st r)) none (some (.int .i64 (r.length : Int))) none).run Try.prog W = .ok (.string (st r)) W := fun W => by
          have h := run_slice_string_h (P := Try.prog) (w := W) (t := 9) (s := st r) Try.underlying9 .i64 (r.length : Int) (by omega) (by rw [hrs]; omega)
          rw [h, show (r.length : Int).toNat = r.length from by omega, Lib.extract_eq]; show Result.ok (Value.string (st (r.take r.length))) W = _; rw [List.take_length]
        have hsb : ∀ W : World, (Instr.slice 9 (.string (st r)) (some (.int .i64 (r.length : Int))) none none).run Try.prog W = .ok (.string (st [])) W := fun W => by
          have h := run_slice_string_l (P := Try.prog) (w := W) (t := 9) (s := st r) Try.underlying9 .i64 (r.length : Int) (by omega) (by rw [hrs]; omega)
          rw [h, show (r.length : Int).toNat = r.length from by omega, Ak.extract_end]; show Result.ok (Value.string (st (r.drop r.length))) W = _; rw [List.drop_length]
        have HR := Lib.hid (show st [] = st ((bl s).drop (p + r.length)) by rw [← drop_drop', ← hr, List.drop_length])
        rw [← hr]
        have HRL := Lib.hid hrl
        clear hf2 hf3 hr hrl
        go_wp2
        clear hck
        have hpq : Y.heap.size < wr.heap.size := by omega
        have hS : ∀ W, Keep wr W → W.cell? ⟨Y.heap.size, 0, none⟩ = some (.string (st yb)) ∧ W.cell? ⟨Y.heap.size, 1, none⟩ = some (.bool yd) := fun W h => ⟨(Below.cell h hpq).trans y0, (Below.cell h hpq).trans y1⟩
        go_region_held3 (fun W => W.cell? ⟨Y.heap.size, 0, none⟩ = some (.string (st yb)) ∧ W.cell? ⟨Y.heap.size, 1, none⟩ = some (.bool yd))
          (first
            | exact hS _ hw
            | exact hS _ (hw.alloc _)
            | exact hS _ (keepd' (Keep.refl wr))
            | exact hS _ (keepd' ((Keep.refl wr).alloc _))
            | exact ⟨(sets2 (by omega) 0).trans (hS _ hw).1, (sets2 (by omega) 1).trans (hS _ hw).2⟩
            | fail)
          ((first
            | (go_at_call 9; refine (P1.out _).mono ?_; rintro e w3 ⟨A2, n2, c2, rfl, i2, h2, hfr⟩; have hw : Keep wr w3 := Keep.trans (keepd' ((Keep.refl wr).alloc _)) h2; have hn3 := zero_new h2; simp only)
            | (go_at_call 9; refine (P1.out _).mono ?_; rintro e w3 ⟨A2, n2, c2, rfl, i2, h2, hfr⟩; have hw : Keep wr w3 := Below.trans (keepd' (Keep.refl wr)) h2; simp only)
            | fail))
        · skip
          obtain ⟨W, hW⟩ : ∃ W, W = w3.alloc (.cells #[.string (st zb), .bool zd] 23) := ⟨_, rfl⟩
          have hkW : Keep wr W := by rw [hW]; exact hw.alloc _
          have hws := hw.size
          have hql : w3.heap.size < W.heap.size := by rw [hW]; simp
          have hzc : W.cell? ⟨w3.heap.size, 0, none⟩ = some (.string (st zb)) ∧ W.cell? ⟨w3.heap.size, 1, none⟩ = some (.bool zd) := by rw [hW]; exact (Bs.new _ _ _ _).1
          have i2' : Row encF 3 W W.heap.size A2 n2 f2 := by rw [hW]; exact i2.kept ((Keep.refl w3).alloc _)
          have hfr' : 0 < n2 → ∃ b, A2 = some ⟨b, 0, none⟩ ∧ wr.heap.size ≤ b := fun h => by obtain ⟨b', e', hb'⟩ := hfr h; exact ⟨b', e', by simpa using hb'⟩
          have hoW := own_keep2 hown hkW
          have hqY : Y.heap.size ≠ w3.heap.size := by omega
          have hg0 : W.cell? ⟨Y.heap.size, 0, none⟩ = some (.string (st yb)) := (Below.cell hkW hpq).trans y0
          have hg1 : W.cell? ⟨Y.heap.size, 1, none⟩ = some (.bool yd) := (Below.cell hkW hpq).trans y1
          have e0 : W.frozen? ⟨Y.heap.size, 0, none⟩ = false := (Below.frozen hkW hpq).trans f0
          have e1 : W.frozen? ⟨Y.heap.size, 1, none⟩ = false := (Below.frozen hkW hpq).trans f1
          have hWs : Y.heap.size + 1 ≤ W.heap.size := by have := hkW.size; omega
          have hoB := own_drew2 (own_set2 (own_set2 hoW ⟨Y.heap.size, 0, none⟩ (.string (st zb)) (by simp)) ⟨Y.heap.size, 1, none⟩ (.bool zd) (by simp))
          have hoA := own_drew2 hoW
          have iA : Row encF 3 W.drew W.drew.heap.size A2 n2 f2 := i2'.kept ((Quiet.refl W).drew).keep
          have iB : Row encF 3 ((W.setCell ⟨Y.heap.size, 0, none⟩ (.string (st zb))).setCell ⟨Y.heap.size, 1, none⟩ (.bool zd)).drew ((W.setCell ⟨Y.heap.size, 0, none⟩ (.string (st zb))).setCell ⟨Y.heap.size, 1, none⟩ (.bool zd)).drew.heap.size A2 n2 f2 :=
            (i2'.skip (q := Y.heap.size) (fun h => by obtain ⟨b', e', hb'⟩ := hfr' h; exact ⟨b', e', by omega⟩) (by simp) (fun p hp => by rw [World.cell?_of_block (Below.heap_setCell _ _ _ _ hp), World.cell?_of_block (Below.heap_setCell _ _ _ _ hp)])).kept ((Quiet.refl _).drew).keep
          have hsA : Y.heap.size + 1 ≤ W.drew.heap.size := hWs
          have hsB : Y.heap.size + 1 ≤ ((W.setCell ⟨Y.heap.size, 0, none⟩ (.string (st zb))).setCell ⟨Y.heap.size, 1, none⟩ (.bool zd)).drew.heap.size := by simpa using hWs
          have zA : W.cell? ⟨w3.heap.size, 0, none⟩ = some (.string (st zb)) ∧ W.cell? ⟨w3.heap.size, 1, none⟩ = some (.bool zd) := hzc
          have hgq : ∀ w5 v, W.drew.grownBy w5 (Value.slice MA ms.length mc).ownBlock → v ≤ 1 → w5.cell? ⟨w3.heap.size, v, none⟩ = W.cell? ⟨w3.heap.size, v, none⟩ := fun w5 v hg _ =>
            World.cell?_of_block (hg.block w3.heap.size hql (fun e => by have := (hown.lt w3.heap.size e.symm).2; omega))
          have hgqB : ∀ w5 v, ((W.setCell ⟨Y.heap.size, 0, none⟩ (.string (st zb))).setCell ⟨Y.heap.size, 1, none⟩ (.bool zd)).drew.grownBy w5 (Value.slice MA ms.length mc).ownBlock → v ≤ 1 → w5.cell? ⟨w3.heap.size, v, none⟩ = ((W.setCell ⟨Y.heap.size, 0, none⟩ (.string (st zb))).setCell ⟨Y.heap.size, 1, none⟩ (.bool zd)).cell? ⟨w3.heap.size, v, none⟩ := fun w5 v hg _ =>
            World.cell?_of_block (hg.block w3.heap.size (by simpa using hql) (fun e => by have := (hown.lt w3.heap.size e.symm).2; omega))
          have hkYW : Keep Y W := hkY.trans hkW
          obtain rfl : f2.length = n2 := i2'.1
          go_wp2
          rw [← hW]
          clear hW
          go_region_held3 (fun V => V.cell? ⟨w3.heap.size, 0, none⟩ = some (.string (st zb)) ∧ V.cell? ⟨w3.heap.size, 1, none⟩ = some (.bool zd))
            (first
              | exact zA
              | exact hz5
              | exact ⟨(sets2 hqY.symm 0).trans zA.1, (sets2 hqY.symm 1).trans zA.2⟩
              | exact ⟨(sets2 hqY.symm 0).trans hz5.1, (sets2 hqY.symm 1).trans hz5.2⟩
              | fail)
            ((first
              | (refine step_append_rows (by rfl) _ _ 26 (by rfl) (Y.heap.size + 1) 34 _ 32 Try.underlying26 info_frame rfl (by omega) encF_len encF_one (.slice MA ms.length mc) ms.length ms (by rfl) hoA hsA _ A2 f2.length c2 f2 (by rfl) iA (by unfold maxLen; omega) (by omega) ?_; intro v5 w5 hown5 hg5 hat5 hb5; have hz5 := And.intro ((hgq w5 0 hg5 (by omega)).trans zA.1) ((hgq w5 1 hg5 (by omega)).trans zA.2); have hwA : Below (Y.heap.size + 1) W.drew w5 := hb5; have q0 := (hwA.cell (p := ⟨Y.heap.size, 0, none⟩) (by simp)).trans hg0; have q1 := (hwA.cell (p := ⟨Y.heap.size, 1, none⟩) (by simp)).trans hg1; have r0 := (hwA.frozen (p := ⟨Y.heap.size, 0, none⟩) (by simp)).trans e0; have r1 := (hwA.frozen (p := ⟨Y.heap.size, 1, none⟩) (by simp)).trans e1)
              | (refine step_append_rows (by rfl) _ _ 26 (by rfl) (Y.heap.size + 1) 34 _ 32 Try.underlying26 info_frame rfl (by omega) encF_len encF_one (.slice MA ms.length mc) ms.length ms (by rfl) hoB hsB _ A2 f2.length c2 f2 (by rfl) iB (by unfold maxLen; omega) (by omega) ?_; intro v5 w5 hown5 hg5 hat5 hb5; have hwB : Below (Y.heap.size + 1) ((W.setCell ⟨Y.heap.size, 0, none⟩ (.string (st zb))).setCell ⟨Y.heap.size, 1, none⟩ (.bool zd)).drew w5 := hb5; have hz5 := And.intro ((hgqB w5 0 hg5 (by omega)).trans ((sets2 hqY.symm 0).trans zA.1)) ((hgqB w5 1 hg5 (by omega)).trans ((sets2 hqY.symm 1).trans zA.2)))
              | fail))
          all_goals (
            go_wp2
            have hrl := HRL.out
            first
              | exact ⟨⟨k + 1, p + r.length, ⟨zb, zd⟩, ms ++ f2, by omega, by go_num, by omega, HF3, by rw [HR.out], by rw [List.length_append]; exact own_set2 (own_set2 hown5 _ _ (by simp)) _ _ (by simp), ⟨by go_simp, by go_simp, by go_simp, by go_simp⟩, ((Below.trans (hkYW.trans ((Quiet.refl W).drew).keep) (hwA.mono (Nat.le_succ _))).setCell (Nat.le_refl _) _).setCell (Nat.le_refl _) _, by simpa using Nat.le_trans hsA hwA.size⟩, by simp [intOf]; omega⟩
              | exact ⟨⟨k + 1, p + r.length, ⟨zb, zd⟩, ms ++ f2, by omega, by go_num, by omega, HF3, by rw [HR.out], by rw [List.length_append]; exact hown5, ⟨(hwB.cell (by simp)).trans (by go_simp), (hwB.cell (by simp)).trans (by go_simp), (hwB.frozen (by simp)).trans (by go_simp), (hwB.frozen (by simp)).trans (by go_simp)⟩, Below.trans (keepd' ((hkYW.setCell (Nat.le_refl _) _).setCell (Nat.le_refl _) _)) (hwB.mono (Nat.le_succ _)), Nat.le_trans hsB hwB.size⟩, by simp [intOf]; omega⟩)
        · skip
          obtain ⟨W, hW⟩ : ∃ W, W = (w3.setCell ⟨wr.heap.size, 0, none⟩ (.string (st zb))).setCell ⟨wr.heap.size, 1, none⟩ (.bool zd) := ⟨_, rfl⟩
          obtain ⟨g0, g1, x0, x1, hlt3⟩ := hn3
          have hkW : Keep wr W := by rw [hW]; exact (hw.setCell (Nat.le_refl _) _).setCell (Nat.le_refl _) _
          have hql : wr.heap.size < W.heap.size := by rw [hW]; simpa using hlt3
          have hzc : W.cell? ⟨wr.heap.size, 0, none⟩ = some (.string (st zb)) ∧ W.cell? ⟨wr.heap.size, 1, none⟩ = some (.bool zd) := by rw [hW]; exact ⟨by go_simp, by go_simp⟩
          have hfr0 : 0 < n2 → ∃ b, A2 = some ⟨b, 0, none⟩ ∧ wr.heap.size + 1 ≤ b := fun h => by obtain ⟨b', e', hb'⟩ := hfr h; exact ⟨b', e', by simpa using hb'⟩
          have i2' : Row encF 3 W W.heap.size A2 n2 f2 := by
            rw [hW]
            exact i2.skip (q := wr.heap.size) (fun h => by obtain ⟨b', e', hb'⟩ := hfr0 h; exact ⟨b', e', by omega⟩) (by simp) (fun p hp => by rw [World.cell?_of_block (Below.heap_setCell _ _ _ _ hp), World.cell?_of_block (Below.heap_setCell _ _ _ _ hp)])
          have hfr' : 0 < n2 → ∃ b, A2 = some ⟨b, 0, none⟩ ∧ wr.heap.size ≤ b := fun h => by obtain ⟨b', e', hb'⟩ := hfr0 h; exact ⟨b', e', by omega⟩
          have hoW := own_keep2 hown hkW
          have hqY : Y.heap.size ≠ wr.heap.size := by omega
          have hg0 : W.cell? ⟨Y.heap.size, 0, none⟩ = some (.string (st yb)) := (Below.cell hkW hpq).trans y0
          have hg1 : W.cell? ⟨Y.heap.size, 1, none⟩ = some (.bool yd) := (Below.cell hkW hpq).trans y1
          have e0 : W.frozen? ⟨Y.heap.size, 0, none⟩ = false := (Below.frozen hkW hpq).trans f0
          have e1 : W.frozen? ⟨Y.heap.size, 1, none⟩ = false := (Below.frozen hkW hpq).trans f1
          have hWs : Y.heap.size + 1 ≤ W.heap.size := by have := hkW.size; omega
          have hoB := own_drew2 (own_set2 (own_set2 hoW ⟨Y.heap.size, 0, none⟩ (.string (st zb)) (by simp)) ⟨Y.heap.size, 1, none⟩ (.bool zd) (by simp))
          have hoA := own_drew2 hoW
          have iA : Row encF 3 W.drew W.drew.heap.size A2 n2 f2 := i2'.kept ((Quiet.refl W).drew).keep
          have iB : Row encF 3 ((W.setCell ⟨Y.heap.size, 0, none⟩ (.string (st zb))).setCell ⟨Y.heap.size, 1, none⟩ (.bool zd)).drew ((W.setCell ⟨Y.heap.size, 0, none⟩ (.string (st zb))).setCell ⟨Y.heap.size, 1, none⟩ (.bool zd)).drew.heap.size A2 n2 f2 :=
            (i2'.skip (q := Y.heap.size) (fun h => by obtain ⟨b', e', hb'⟩ := hfr' h; exact ⟨b', e', by omega⟩) (by simp) (fun p hp => by rw [World.cell?_of_block (Below.heap_setCell _ _ _ _ hp), World.cell?_of_block (Below.heap_setCell _ _ _ _ hp)])).kept ((Quiet.refl _).drew).keep
          have hsA : Y.heap.size + 1 ≤ W.drew.heap.size := hWs
          have hsB : Y.heap.size + 1 ≤ ((W.setCell ⟨Y.heap.size, 0, none⟩ (.string (st zb))).setCell ⟨Y.heap.size, 1, none⟩ (.bool zd)).drew.heap.size := by simpa using hWs
          have zA : W.cell? ⟨wr.heap.size, 0, none⟩ = some (.string (st zb)) ∧ W.cell? ⟨wr.heap.size, 1, none⟩ = some (.bool zd) := hzc
          have hgq : ∀ w5 v, W.drew.grownBy w5 (Value.slice MA ms.length mc).ownBlock → v ≤ 1 → w5.cell? ⟨wr.heap.size, v, none⟩ = W.cell? ⟨wr.heap.size, v, none⟩ := fun w5 v hg _ =>
            World.cell?_of_block (hg.block wr.heap.size hql (fun e => by have := (hown.lt wr.heap.size e.symm).2; omega))
          have hgqB : ∀ w5 v, ((W.setCell ⟨Y.heap.size, 0, none⟩ (.string (st zb))).setCell ⟨Y.heap.size, 1, none⟩ (.bool zd)).drew.grownBy w5 (Value.slice MA ms.length mc).ownBlock → v ≤ 1 → w5.cell? ⟨wr.heap.size, v, none⟩ = ((W.setCell ⟨Y.heap.size, 0, none⟩ (.string (st zb))).setCell ⟨Y.heap.size, 1, none⟩ (.bool zd)).cell? ⟨wr.heap.size, v, none⟩ := fun w5 v hg _ =>
            World.cell?_of_block (hg.block wr.heap.size (by simpa using hql) (fun e => by have := (hown.lt wr.heap.size e.symm).2; omega))
          have hkYW : Keep Y W := hkY.trans hkW
          obtain rfl : f2.length = n2 := i2'.1
          go_wp2
          rw [← hW]
          clear hW
          go_region_held3 (fun V => V.cell? ⟨wr.heap.size, 0, none⟩ = some (.string (st zb)) ∧ V.cell? ⟨wr.heap.size, 1, none⟩ = some (.bool zd))
            (first
              | exact zA
              | exact hz5
              | exact ⟨(sets2 hqY.symm 0).trans zA.1, (sets2 hqY.symm 1).trans zA.2⟩
              | exact ⟨(sets2 hqY.symm 0).trans hz5.1, (sets2 hqY.symm 1).trans hz5.2⟩
              | fail)
            ((first
              | (refine step_append_rows (by rfl) _ _ 26 (by rfl) (Y.heap.size + 1) 34 _ 32 Try.underlying26 info_frame rfl (by omega) encF_len encF_one (.slice MA ms.length mc) ms.length ms (by rfl) hoA hsA _ A2 f2.length c2 f2 (by rfl) iA (by unfold maxLen; omega) (by omega) ?_; intro v5 w5 hown5 hg5 hat5 hb5; have hz5 := And.intro ((hgq w5 0 hg5 (by omega)).trans zA.1) ((hgq w5 1 hg5 (by omega)).trans zA.2); have hwA : Below (Y.heap.size + 1) W.drew w5 := hb5; have q0 := (hwA.cell (p := ⟨Y.heap.size, 0, none⟩) (by simp)).trans hg0; have q1 := (hwA.cell (p := ⟨Y.heap.size, 1, none⟩) (by simp)).trans hg1; have r0 := (hwA.frozen (p := ⟨Y.heap.size, 0, none⟩) (by simp)).trans e0; have r1 := (hwA.frozen (p := ⟨Y.heap.size, 1, none⟩) (by simp)).trans e1)
              | (refine step_append_rows (by rfl) _ _ 26 (by rfl) (Y.heap.size + 1) 34 _ 32 Try.underlying26 info_frame rfl (by omega) encF_len encF_one (.slice MA ms.length mc) ms.length ms (by rfl) hoB hsB _ A2 f2.length c2 f2 (by rfl) iB (by unfold maxLen; omega) (by omega) ?_; intro v5 w5 hown5 hg5 hat5 hb5; have hwB : Below (Y.heap.size + 1) ((W.setCell ⟨Y.heap.size, 0, none⟩ (.string (st zb))).setCell ⟨Y.heap.size, 1, none⟩ (.bool zd)).drew w5 := hb5; have hz5 := And.intro ((hgqB w5 0 hg5 (by omega)).trans ((sets2 hqY.symm 0).trans zA.1)) ((hgqB w5 1 hg5 (by omega)).trans ((sets2 hqY.symm 1).trans zA.2)))
              | fail))
          all_goals (
            go_wp2
            have hrl := HRL.out
            first
              | exact ⟨⟨k + 1, p + r.length, ⟨zb, zd⟩, ms ++ f2, by omega, by go_num, by omega, HF3, by rw [HR.out], by rw [List.length_append]; exact own_set2 (own_set2 hown5 _ _ (by simp)) _ _ (by simp), ⟨by go_simp, by go_simp, by go_simp, by go_simp⟩, ((Below.trans (hkYW.trans ((Quiet.refl W).drew).keep) (hwA.mono (Nat.le_succ _))).setCell (Nat.le_refl _) _).setCell (Nat.le_refl _) _, by simpa using Nat.le_trans hsA hwA.size⟩, by simp [intOf]; omega⟩
              | exact ⟨⟨k + 1, p + r.length, ⟨zb, zd⟩, ms ++ f2, by omega, by go_num, by omega, HF3, by rw [HR.out], by rw [List.length_append]; exact hown5, ⟨(hwB.cell (by simp)).trans (by go_simp), (hwB.cell (by simp)).trans (by go_simp), (hwB.frozen (by simp)).trans (by go_simp), (hwB.frozen (by simp)).trans (by go_simp)⟩, Below.trans (keepd' ((hkYW.setCell (Nat.le_refl _) _).setCell (Nat.le_refl _) _)) (hwB.mono (Nat.le_succ _)), Nat.le_trans hsB hwB.size⟩, by simp [intOf]; omega⟩)
    · obtain rfl : k = n := by omega
      rcases hf2 : Sm.feed (⟨yb, yd⟩, []) ((bl s).drop p) with ⟨y3, f3⟩
      have hall : (⟨xb, xd⟩, fs) = (y3, ms ++ f3) := by
        have h := Sm.feed_pre ((bl s).drop p) ⟨yb, yd⟩ ms []
        rw [List.append_nil, hf2] at h
        have e := Sm.feed_app (⟨[], false⟩, []) ((bl s).take p) ((bl s).drop p)
        rw [List.take_append_drop, HX.out, hf.out, h] at e
        exact e
      injection hall with e1 e2
      subst e1 e2
      have P1 := Lib.hid (fun W => push_to (st yb) (st ((bl s).drop p)) yd _ _ W (by rw [st_size]; omega) (by rw [st_size, List.length_drop]; omega) HRT.out hf2)
      have hfl : ms.length + f3.length ≤ 2000 := by rw [← List.length_append]; exact hfs
      have hgd := guardS
      have heq := eqS (st xb) xd
      clear hf2 hf HX
      go_wp2_with fail
      refine (P1.out _).mono ?_
      rintro e w5 ⟨A3, n3, c3, rfl, i3, h5, _⟩
      replace h5 : Keep wr w5 := h5
      simp only at i3 ⊢
      replace hown := own_keep2 hown h5
      replace hkY := hkY.trans h5
      replace B5 := Lib.hid (B5.out.kept hkY)
      have hsz5 : Y.heap.size + 1 ≤ w5.heap.size := Nat.le_trans hsz h5.size
      clear h5 y0 y1 f0 f1
      have B6 := Bs.new w5 (st xb) xd 23
      have h6a := (Keep.refl w5).alloc (.cells #[.string (st xb), .bool xd] 23)
      go_wp2_with fail
      refine (awake_any _).mono ?_
      rintro e w6 ⟨rfl, h6⟩
      replace B6 := Lib.hid (B6.kept h6)
      replace h6 := h6a.trans h6
      replace hown := own_keep2 hown h6
      replace hkY := hkY.trans h6
      replace B5 := Lib.hid (B5.out.kept h6)
      replace i3 := i3.kept h6
      replace hsz5 := Nat.le_trans hsz5 h6.size
      clear h6 h6a
      obtain ⟨⟨a5, b5⟩, _⟩ := B5.out
      obtain ⟨⟨a6, b6⟩, _⟩ := B6.out
      obtain rfl : f3.length = n3 := i3.1
      go_wp2_with (at_builtin; refine append_rows_w (by rfl) _ _ 26 rfl (Y.heap.size + 1) 34 _ 32 Try.underlying26 info_frame rfl (by omega) encF_len encF_one (.slice MA ms.length mc) ms.length ms rfl hown hsz5 _ A3 f3.length c3 f3 rfl i3 (by unfold maxLen; omega) (by omega) ?_)
      intro v7 w7 hown7 hb7
      obtain ⟨A7, c7, rfl⟩ := own_slice hown7
      have hr7 := Row.of_own encF_len hown7 (by omega)
      have hkY7 : Keep Y w7 := Below.trans hkY (hb7.mono (Nat.le_succ _))
      replace i1 := i1.kept hkY7
      have hn1 : n1 ≤ 1000000 := by have := i1.1; omega
      clear hown7 hb7 hown i3
      go_wp2_with fail
      refine (frames_same A1 A7 n1 (ms.length + f3.length) c1 c7 (ms ++ f3) _ hn1 i1 hr7).mono ?_
      rintro e w8 ⟨rfl, h8⟩
      go_wp2
      go_ret
      exact ⟨rfl, (kY.trans hkY7).trans h8⟩
end Go.Proofs.Ytanlmonkmaiohaa.Strm
