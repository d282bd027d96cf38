/- Plain words of the seat's own: bytes as a list, a slice of integers that reads as a list. Conditions: none. -/
import Derived.WalkKit
import Derived.ProofKit
import Derived.Below
import Derived.Lib.Hide
import Derived.Deep.QuietTactic
import Derived.BigQuiet
import Derived.Deep.Draws
import Derived.Laws.BytesArg
import Derived.Laws.Concat
namespace Go.Proofs.Ytmnmlhbmhfhgaaa
open Go.ChangeShapes Go.WideShapes Go.ChangeAt Go.RowKit

/-- The bytes of a string, as a list. -/
def bl (s : ByteArray) : List UInt8 := s.data.toList
/-- The byte at a place, as a number (0 beyond the end). -/
def byteAt (s : ByteArray) (i : Int) : Int := ((bl s).getD i.toNat 0).toNat
theorem byteAt_range (s : ByteArray) (i : Int) : 0 ≤ byteAt s i ∧ byteAt s i ≤ 255 := by
  unfold byteAt
  have := UInt8.toNat_lt ((bl s).getD i.toNat 0)
  omega
theorem bl_length (s : ByteArray) : (bl s).length = s.size := Array.length_toList

theorem idx {P : Program} {t : TypeId} {k : IntKind} (s : ByteArray) (i : Int) (h : P.underlying t = some .string) (h0 : 0 ≤ i) (h1 : i < s.size) :
    ∀ w : World, (Instr.index t (.string s) (.int k i)).run P w = .ok (.int .u8 (byteAt s i)) w := by
  intro w
  rw [run_index_string w t s k i h, dif_pos ⟨h0, h1⟩]
  have hlt : i.toNat < (bl s).length := by rw [bl_length]; omega
  have : byteAt s i = ((s[i.toNat]'(by omega)).toNat : Int) := by
    unfold byteAt
    rw [List.getD_eq_getElem?_getD, List.getElem?_eq_getElem hlt]
    rfl
  rw [this]

/-- A slice of integers, nil let in, that reads as the list 'zs', and lies below block 'B'. -/
def Ints (k : IntKind) (w : World) (B : Nat) (A : Option Addr) (n : Nat) (zs : List Int) : Prop :=
  zs.length = n ∧ (0 < n → ∃ b off, A = some ⟨b, off, none⟩ ∧ b < B ∧ ∀ j, j < n → w.cell? ⟨b, off + j, none⟩ = some (.int k (zs.getD j 0)))

theorem Ints.keep {k : IntKind} {w w' : World} {B n : Nat} {A : Option Addr} {zs : List Int} (h : Ints k w B A n zs) (hk : ∀ p : Addr, p.block < B → w'.cell? p = w.cell? p) : Ints k w' B A n zs :=
  ⟨h.1, fun hn => by
    obtain ⟨b, off, e, hb, hc⟩ := h.2 hn
    exact ⟨b, off, e, hb, fun j hj => (hk _ hb).trans (hc j hj)⟩⟩
theorem Ints.below {k : IntKind} {w w' : World} {B n : Nat} {A : Option Addr} {zs : List Int} (h : Ints k w B A n zs) (hb : Below B w w') : Ints k w' B A n zs := h.keep fun _ hp => hb.cell hp
theorem Ints.more {k : IntKind} {w : World} {B B' n : Nat} {A : Option Addr} {zs : List Int} (h : Ints k w B A n zs) (hB : B ≤ B') : Ints k w B' A n zs :=
  ⟨h.1, fun hn => by
    obtain ⟨b, off, e, hb, hc⟩ := h.2 hn
    exact ⟨b, off, e, by omega, hc⟩⟩
theorem Ints.none_ (k : IntKind) (w : World) (B : Nat) (A : Option Addr) : Ints k w B A 0 [] := ⟨rfl, fun h => absurd h (by omega)⟩

/-- A byte as a cell. -/
def bv (b : UInt8) : Value := .int .u8 b.toNat
/-- A string of bytes. -/
def st (l : List UInt8) : ByteArray := ⟨l.toArray⟩

section
variable {P : Program}
/-- 'append(out, x..)', out the call's own, what is appended just laid in a new block. -/
theorem append_new {ops : Array Oper} {rest : List Oper} {o : Oper} {a : Act} {Q : Exit → Act → World → Prop} {w : World} (hgd : o.guard = none) (s x : Operand) (t : TypeId)
    (ho : o.op = .call { callee := .builtin .append, args := #[s, x], argTypes := #[t, t] })
    (base : Nat) (e : TypeId) (z : Value) (size bytes : Nat) (ht : P.underlying t = some (.slice e)) (hinfo : (P.info? e).map (fun i => (i.zero, i.size, i.bytes)) = some (some z, size, bytes))
    (hzs : z.cells.size = size) (hsz : 0 < size)
    (v : Value) (n : Nat) (xs : List Value) (hs : a.eval s = v) (hown : w.ownsRow base e size v n xs) (hbase : base ≤ w.heap.size)
    (m : Nat) (news : Array Value) (hx : a.eval x = .slice (some ⟨w.heap.size, 0, none⟩) m m) (hl : news.toList.length = m * size) (h1 : ∀ u ∈ news.toList, u.oneCell' = true)
    (h63 : n + m ≤ maxLen) (hbytes : (n + m) * bytes ≤ 140737488355328)
    (h : ∀ v' w', w'.ownsRow base e size v' (n + m) (xs ++ news.toList) → Below base w w' → wpList P ops Q rest (a.put o.dst v') w') : wpList P ops Q (o :: rest) a (w.alloc (.cells news e)) := by
  obtain ⟨i0, hi, hz0, hz1, hz2⟩ := info_parts hinfo
  refine wpList_append_own _ hgd s x t ho base e i0 z size bytes ht hi hz0 hz1 hz2 hzs hsz v n xs hs (hown.alloc _) ⟨w.heap.size, 0, none⟩ m m news.toList hx hl ?_ h1 h63 hbytes (by simp; omega) ?_
  · intro j u hj
    rw [Addr.add_lit, Nat.zero_add, World.cell?_alloc_at (hn := rfl)]
    simpa using hj
  · intro v' w' hown' hgrow _
    exact h v' w' hown' (((Below.refl base w).alloc hbase _).grown hgrow (by simp; omega) fun k hk => (hown.lt k hk).1)

/-- A row of bytes of the call's own, as a string. -/
theorem own_string {w : World} {base : Nat} {src e : TypeId} {v : Value} {n : Nat} {l : List UInt8} (hs : P.underlying src = some (.slice e)) (he : P.underlying e = some (.int .u8))
    (h : w.ownsRow base e 1 v n (l.map bv)) : ∀ dst, P.underlying dst = some .string → (convert src dst v).run P w = .ok (.string (st l)) w := by
  intro dst hd
  have hl := h.1
  have hlen : l.length = n := by simpa using hl
  rcases h.2 with ⟨rfl, rfl⟩ | ⟨g, cap, cur, rfl, _, hh, _⟩
  · obtain rfl : l = [] := List.eq_nil_of_length_eq_zero hlen
    exact run_convert_bytes_nil w src e hs he 0 0 dst hd
  · have hc := h.cells (g := g) rfl
    have := run_convert_bytes_arg (P := P) w src e hs he g 0 n cap (l.map fun b => (b.toNat : Int)) (by simpa using hlen) (fun i hi => by
      have := hc i (.int .u8 ((l.map fun b => (b.toNat : Int)).getD i 0)) (by
        have hi' : i < l.length := by omega
        simp [List.getD, List.getElem?_eq_getElem hi', bv])
      simpa [Addr.add_lit] using this) dst hd
    rw [this]
    congr 2
    simp only [strOfNums, st, List.map_map]
    congr 2
    exact List.map_id'' (fun b => by simp) l
end

/-- The world has at most drawn. -/
def Quiet (w w' : World) : Prop := ∃ n, w' = w.drewN n
theorem Quiet.refl (w : World) : Quiet w w := ⟨0, rfl⟩
theorem Quiet.drewN {a w : World} (h : Quiet a w) (n : Nat) : Quiet a (w.drewN n) := by
  obtain ⟨m, rfl⟩ := h
  exact ⟨m + n, by rw [World.drewN_drewN]⟩
theorem Quiet.drew {a w : World} (h : Quiet a w) : Quiet a w.drew := h.drewN 1
theorem Quiet.trans {a b c : World} (h : Quiet a b) (k : Quiet b c) : Quiet a c := by
  obtain ⟨m, rfl⟩ := k
  exact h.drewN m
theorem Quiet.below {w w' : World} (h : Quiet w w') (B : Nat) : Below B w w' := by
  obtain ⟨n, rfl⟩ := h
  exact ⟨rfl, rfl, rfl, Nat.le_refl _, fun _ _ => rfl⟩
theorem Quiet.cell {w w' : World} (h : Quiet w w') (p : Addr) : w'.cell? p = w.cell? p := by
  obtain ⟨n, rfl⟩ := h
  rfl
theorem Quiet.frozen {w w' : World} (h : Quiet w w') (p : Addr) : w'.frozen? p = w.frozen? p := by
  obtain ⟨n, rfl⟩ := h
  rfl
theorem Quiet.size {w w' : World} (h : Quiet w w') : w'.heap.size = w.heap.size := by
  obtain ⟨n, rfl⟩ := h
  rfl

theorem Quiet.own {w w' : World} (h : Quiet w w') {base : Nat} {e : TypeId} {size : Nat} {v : Value} {n : Nat} {xs : List Value} (k : w.ownsRow base e size v n xs) : w'.ownsRow base e size v n xs := by
  obtain ⟨n, rfl⟩ := h
  exact k

theorem own_slice {w : World} {base : Nat} {e : TypeId} {size : Nat} {v : Value} {n : Nat} {xs : List Value} (h : w.ownsRow base e size v n xs) : ∃ A c, v = .slice A n c := by
  rcases h.2 with ⟨rfl, rfl⟩ | ⟨g, cap, cur, rfl, _⟩
  · exact ⟨_, _, rfl⟩
  · exact ⟨_, _, rfl⟩

theorem Ints.of_own {k : IntKind} {w : World} {base : Nat} {e : TypeId} {A : Option Addr} {n c : Nat} {zs : List Int} (h : w.ownsRow base e 1 (.slice A n c) n (zs.map (Value.int k))) : Ints k w w.heap.size A n zs := by
  have hl : zs.length = n := by simpa using h.1
  refine ⟨hl, fun hn => ?_⟩
  rcases h.2 with ⟨hv, h0⟩ | ⟨g, cap, cur, hv, _, hh, _⟩
  · omega
  · injection hv with hA
    subst hA
    have hlt := (h.lt g rfl).2
    refine ⟨g, 0, rfl, hlt, fun j hj => ?_⟩
    have := h.cells (g := g) rfl j (.int k (zs.getD j 0)) (by
      have hj' : j < zs.length := by omega
      simp [List.getD, List.getElem?_eq_getElem hj'])
    simpa [Addr.add_lit] using this

/-- What comes back: a slice of integers, and a bool. -/
def RetInts (zs : List Int) (ok : Bool) (w : World) (e : Ending) (w' : World) : Prop :=
  ∃ A n c, e = .returned (.tuple #[.slice A n c, .bool ok]) ∧ Ints .i64 w' w'.heap.size A n zs ∧ Below w.heap.size w w'

/-- The slice is the call's own: no block of the world ahead. -/
def Fresh (w : World) (A : Option Addr) (n : Nat) : Prop := 0 < n → ∃ b, A = some ⟨b, 0, none⟩ ∧ w.heap.size ≤ b
theorem Fresh.zero (w : World) (A : Option Addr) : Fresh w A 0 := fun h => absurd h (by omega)
theorem Fresh.of_own {W w : World} {base : Nat} {e : TypeId} {A : Option Addr} {n c : Nat} {xs : List Value} (h : w.ownsRow base e 1 (.slice A n c) n xs) (hb : W.heap.size ≤ base) : Fresh W A n := fun hn => by
  rcases h.2 with ⟨hv, h0⟩ | ⟨g, cap, cur, hv, hg, _⟩
  · omega
  · injection hv with hA
    exact ⟨g, hA, by omega⟩
/-- The same, and the slice's room. -/
def FreshC (w : World) (A : Option Addr) (n c : Nat) : Prop := 0 < n → ∃ b, A = some ⟨b, 0, none⟩ ∧ w.heap.size ≤ b ∧ n ≤ c ∧ c ≤ maxLen
theorem FreshC.zero (w : World) (A : Option Addr) (c : Nat) : FreshC w A 0 c := fun h => absurd h (by omega)
theorem FreshC.plain {w : World} {A : Option Addr} {n c : Nat} (h : FreshC w A n c) : Fresh w A n := fun hn => by
  obtain ⟨b, e, h1, _⟩ := h hn
  exact ⟨b, e, h1⟩
theorem FreshC.of_own {W w : World} {base : Nat} {e : TypeId} {A : Option Addr} {n c : Nat} {xs : List Value} (h : w.ownsRow base e 1 (.slice A n c) n xs) (hb : W.heap.size ≤ base) : FreshC W A n c := fun hn => by
  obtain ⟨b, e1, h1⟩ := Fresh.of_own h hb hn
  refine ⟨b, e1, h1, ?_⟩
  rcases h.2 with ⟨hv, h0⟩ | ⟨_, cap, _, hv, _, _, h3, h4, _⟩
  · omega
  · injection hv with _ _ hc
    subst hc
    exact ⟨h3, h4⟩
/-- What comes back: a slice of integers of the call's own, and a bool. -/
def RetIntsF (zs : List Int) (ok : Bool) (w : World) (e : Ending) (w' : World) : Prop :=
  ∃ A n c, e = .returned (.tuple #[.slice A n c, .bool ok]) ∧ Ints .i64 w' w'.heap.size A n zs ∧ Below w.heap.size w w' ∧ FreshC w A n c
theorem RetIntsF.plain {zs : List Int} {ok : Bool} {w w' : World} {e : Ending} (h : RetIntsF zs ok w e w') : RetInts zs ok w e w' := by
  obtain ⟨A, n, c, h1, h2, h3, _⟩ := h
  exact ⟨A, n, c, h1, h2, h3⟩

/-- A new block that holds these numbers. -/
theorem Ints.new (k : IntKind) (w : World) (e : TypeId) (zs : List Int) (cs : Array Value) (hc : cs.toList = zs.map (Value.int k)) : Ints k (w.alloc (.cells cs e)) (w.heap.size + 1) (some ⟨w.heap.size, 0, none⟩) zs.length zs := by
  refine ⟨rfl, fun _ => ⟨_, _, rfl, by omega, fun j hj => ?_⟩⟩
  rw [World.cell?_alloc_at (hn := rfl), Nat.zero_add, ← Array.getElem?_toList, hc]
  simp [List.getD, List.getElem?_eq_getElem hj]

theorem conv_new {P : Program} {w : World} {src e dst : TypeId} (hs : P.underlying src = some (.slice e)) (he : P.underlying e = some (.int .u8)) (hd : P.underlying dst = some .string) (cs : Array Value) (n : Nat) (l : List UInt8)
    (hc : cs.toList = l.map bv) (hn : l.length = n) : (convert src dst (.slice (some ⟨w.heap.size, 0, none⟩) n n)).run P (w.alloc (.cells cs e)) = .ok (.string (st l)) (w.alloc (.cells cs e)) := by
  have h := run_convert_bytes_arg (P := P) (w.alloc (.cells cs e)) src e hs he w.heap.size 0 n n (l.map fun b => (b.toNat : Int)) (by simpa using hn) (fun i hi => by
    rw [World.cell?_alloc_at (hn := rfl), Nat.zero_add, ← Array.getElem?_toList, hc]
    have hi' : i < l.length := by omega
    simp [List.getD, List.getElem?_eq_getElem hi', bv]) dst hd
  rw [h]
  congr 2
  simp only [strOfNums, st, List.map_map]
  congr 2
  exact List.map_id'' (fun b => by simp) l

theorem st_add (a b : List UInt8) : st a ++ st b = st (a ++ b) := by
  apply ByteArray.ext
  simp [st]
theorem st_size (a : List UInt8) : (st a).size = a.length := rfl
theorem bl_st (a : List UInt8) : bl (st a) = a := rfl
theorem st_bl (s : ByteArray) : st (bl s) = s := by
  cases s
  simp [st, bl]
/-- '+' of two texts. -/
theorem add_st {P : Program} (a b : List UInt8) (h : a.length + b.length ≤ 9223372036854775807) : ∀ w : World, (Op.stringOp .add (st a) (st b)).run P w = .ok (.string (st (a ++ b))) w := by
  intro w
  rw [run_string_add_sum w _ _ (by rw [st_size, st_size]; exact h), st_add]

/-- What the world was stays: every block that there was. -/
def Keep (w w' : World) : Prop := Below w.heap.size w w'
theorem Keep.refl (w : World) : Keep w w := Below.refl _ _
theorem Keep.trans {a b c : World} (h : Keep a b) (k : Keep b c) : Keep a c := Below.trans h (Below.mono k h.size)
theorem Keep.alloc {a w : World} (h : Keep a w) (o : Obj) : Keep a (w.alloc o) := Below.alloc h h.size o
theorem Quiet.keep {w w' : World} (h : Quiet w w') : Keep w w' := h.below _
theorem Ints.kept {k : IntKind} {w w' : World} {n : Nat} {A : Option Addr} {zs : List Int} (h : Ints k w w.heap.size A n zs) (hb : Keep w w') : Ints k w' w'.heap.size A n zs := (h.below hb).more hb.size

section
variable {P : Program}
/-- 'append(out, ys...)', out the call's own, ys whatever slice of integers: nil, empty or not. -/
theorem append_ints {ops : Array Oper} {rest : List Oper} {o : Oper} {a : Act} {Q : Exit → Act → World → Prop} {w : World} (hgd : o.guard = none) (s x : Operand) (t : TypeId)
    (ho : o.op = .call { callee := .builtin .append, args := #[s, x], argTypes := #[t, t] })
    (base : Nat) (e : TypeId) (k : IntKind) (bytes : Nat) (ht : P.underlying t = some (.slice e)) (hinfo : (P.info? e).map (fun i => (i.zero, i.size, i.bytes)) = some (some (.int k 0), 1, bytes))
    (v : Value) (n : Nat) (xs : List Int) (hs : a.eval s = v) (hown : w.ownsRow base e 1 v n (xs.map (Value.int k))) (hbase : base ≤ w.heap.size)
    (B : Nat) (A : Option Addr) (m c : Nat) (ys : List Int) (hx : a.eval x = .slice A m c) (hA : Ints k w B A m ys)
    (h63 : n + m ≤ maxLen) (hbytes : (n + m) * bytes ≤ 140737488355328)
    (h : ∀ v' w', w'.ownsRow base e 1 v' (n + m) ((xs ++ ys).map (Value.int k)) → Below base w w' → wpList P ops Q rest (a.put o.dst v') w') : wpList P ops Q (o :: rest) a w := by
  obtain ⟨i0, hi, hz0, hz1, hz2⟩ := info_parts hinfo
  rcases A with _ | ad
  · have hm : m = 0 := by
      rcases Nat.eq_zero_or_pos m with h0 | h0
      · exact h0
      · obtain ⟨_, _, h, _⟩ := hA.2 h0
        cases h
    subst hm
    have hn : ys = [] := List.eq_nil_of_length_eq_zero hA.1
    subst hn
    have hv := h v w (by simpa using hown) (Below.refl _ _)
    refine wpList_plain hgd fun K hK => ?_
    have hrun : (Builtin.append_ #[t, t] o.type #[v, .slice none 0 c]).run P w = .ok v w := by
      rcases hown.2 with ⟨rfl, rfl⟩ | ⟨g, cap, cur, rfl, _, _, hnc, _⟩
      · simp [Builtin.append_, run_underlying ht, sizeOf, typeInfo, hi, Builtin.lenOf, Builtin.firstCells]
      · simp [Builtin.append_, run_underlying ht, sizeOf, typeInfo, hi, Builtin.lenOf, Builtin.firstCells, hnc, storeCells]
    unfold Oper.wp
    simp [execOp, ho, resolve, invoke, builtin, hs, hx, hrun, Result.andThen]
    exact hK _ _ hv
  · refine wpList_append_own _ hgd s x t ho base e i0 (.int k 0) 1 bytes ht hi hz0 hz1 hz2 rfl (by decide) v n _ hs hown ad m c (ys.map (Value.int k)) hx (by simpa using hA.1) ?_ (ints_oneCell _ _) h63 hbytes hbase ?_
    · intro j u hj
      have hjl : j < ys.length := by
        have := (List.getElem?_eq_some_iff.1 hj).1
        simpa using this
      have hl := hA.1
      obtain ⟨b, off, h, _, hc⟩ := hA.2 (by omega)
      injection h with h
      subst h
      rw [Addr.add_lit, hc j (by omega)]
      rw [List.getElem?_map, List.getElem?_eq_getElem hjl] at hj
      rw [List.getD_eq_getElem?_getD, List.getElem?_eq_getElem hjl]
      exact hj
    · intro v' w' hown' hgrow _
      exact h v' w' (by rw [List.map_append]; exact hown') ((Below.refl base w).grown hgrow hbase fun k hk => (hown.lt k hk).1)
end
end Go.Proofs.Ytmnmlhbmhfhgaaa
