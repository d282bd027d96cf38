/- Of these texts: Lib, TwA, TwB, Int, CoA, Kept, Bx, Str. Conditions: as each part says. -/
import Derived.WalkKit
import Derived.ProofKit
import Derived.Below
import Derived.Lib.Hide
import Derived.Deep.QuietTactic
import Derived.BigQuiet
import Derived.Deep.Draws
import Derived.Laws.BytesArg
import Derived.Laws.Concat
import Derived.Laws.BitsAllLaws
import Derived.Laws.BitsLemmas
/- Plain words of the seat's own: bytes as a list, a slice of integers that reads as a list. Conditions: none. -/
namespace Go.Proofs.YtaciogcpghbhjaaGreat
open Go.ChangeShapes Go.WideShapes Go.ChangeAt Go.RowKit
def bl (s : ByteArray) : List UInt8 := s.data.toList
def byteAt (s : ByteArray) (i : Int) : Int := ((bl s).getD i.toNat 0).toNat
theorem byteAt_range (s : ByteArray) (i : Int) : 0 <= byteAt s i ∧ byteAt s i <= 255 := by
 unfold byteAt
 have := UInt8.toNat_lt ((bl s).getD i.toNat 0)
 omega
theorem bl_length (s : ByteArray) : (bl s).length = s.size := Array.length_toList
theorem idx {P : Program} {t : TypeId} {k : IntKind} (s : ByteArray) (i : Int) (h : P.underlying t = some .string) (h0 : 0 <= i) (h1 : i < s.size) :
  ∀ w : World, (Instr.index t (.string s) (.int k i)).run P w = .ok (.int .u8 (byteAt s i)) w := by
 intro w
 rw [run_index_string w t s k i h, dif_pos ⟨h0, h1⟩]
 have hlt : i.toNat < (bl s).length := by rw [bl_length]; omega
 have : byteAt s i = ((s[i.toNat]'(by omega)).toNat : Int) := by
  unfold byteAt
  rw [List.getD_eq_getElem?_getD, List.getElem?_eq_getElem hlt]
  rfl
 rw [this]
def Ints (k : IntKind) (w : World) (B : Nat) (A : Option Addr) (n : Nat) (zs : List Int) : Prop :=
 zs.length = n ∧ (0 < n -> ∃ b off, A = some ⟨b, off, none⟩ ∧ b < B ∧ ∀ j, j < n -> w.cell? ⟨b, off + j, none⟩ = some (.int k (zs.getD j 0)))
theorem Ints.keep {k : IntKind} {w w' : World} {B n : Nat} {A : Option Addr} {zs : List Int} (h : Ints k w B A n zs) (hk : ∀ p : Addr, p.block < B -> w'.cell? p = w.cell? p) : Ints k w' B A n zs :=
 ⟨h.1, fun hn => by
  obtain ⟨b, off, e, hb, hc⟩ := h.2 hn
  exact ⟨b, off, e, hb, fun j hj => (hk _ hb).trans (hc j hj)⟩⟩
theorem Ints.below {k : IntKind} {w w' : World} {B n : Nat} {A : Option Addr} {zs : List Int} (h : Ints k w B A n zs) (hb : Below B w w') : Ints k w' B A n zs := h.keep fun _ hp => hb.cell hp
theorem Ints.more {k : IntKind} {w : World} {B B' n : Nat} {A : Option Addr} {zs : List Int} (h : Ints k w B A n zs) (hB : B <= B') : Ints k w B' A n zs :=
 ⟨h.1, fun hn => by
  obtain ⟨b, off, e, hb, hc⟩ := h.2 hn
  exact ⟨b, off, e, by omega, hc⟩⟩
theorem Ints.none_ (k : IntKind) (w : World) (B : Nat) (A : Option Addr) : Ints k w B A 0 [] := ⟨rfl, fun h => absurd h (by omega)⟩
def bv (b : UInt8) : Value := .int .u8 b.toNat
def st (l : List UInt8) : ByteArray := ⟨l.toArray⟩
section
variable {P : Program}
theorem append_new {ops : Array Oper} {rest : List Oper} {o : Oper} {a : Act} {Q : Exit -> Act -> World -> Prop} {w : World} (hgd : o.guard = none) (s x : Operand) (t : TypeId)
  (ho : o.op = .call { callee := .builtin .append, args := #[s, x], argTypes := #[t, t] })
  (base : Nat) (e : TypeId) (z : Value) (size bytes : Nat) (ht : P.underlying t = some (.slice e)) (hinfo : (P.info? e).map (fun i => (i.zero, i.size, i.bytes)) = some (some z, size, bytes))
  (hzs : z.cells.size = size) (hsz : 0 < size)
  (v : Value) (n : Nat) (xs : List Value) (hs : a.eval s = v) (hown : w.ownsRow base e size v n xs) (hbase : base <= w.heap.size)
  (m : Nat) (news : Array Value) (hx : a.eval x = .slice (some ⟨w.heap.size, 0, none⟩) m m) (hl : news.toList.length = m * size) (h1 : ∀ u ∈ news.toList, u.oneCell' = true)
  (h63 : n + m <= maxLen) (hbytes : (n + m) * bytes <= 140737488355328)
  (h : ∀ v' w', w'.ownsRow base e size v' (n + m) (xs ++ news.toList) -> Below base w w' -> wpList P ops Q rest (a.put o.dst v') w') : wpList P ops Q (o :: rest) a (w.alloc (.cells news e)) := by
 obtain ⟨i0, hi, hz0, hz1, hz2⟩ := info_parts hinfo
 refine wpList_append_own _ hgd s x t ho base e i0 z size bytes ht hi hz0 hz1 hz2 hzs hsz v n xs hs (hown.alloc _) ⟨w.heap.size, 0, none⟩ m m news.toList hx hl ?_ h1 h63 hbytes (by simp; omega) ?_
 ·intro j u hj
  rw [Addr.add_lit, Nat.zero_add, World.cell?_alloc_at (hn := rfl)]
  simpa using hj
 ·intro v' w' hown' hgrow _
  exact h v' w' hown' (((Below.refl base w).alloc hbase _).grown hgrow (by simp; omega) fun k hk => (hown.lt k hk).1)
theorem own_string {w : World} {base : Nat} {src e : TypeId} {v : Value} {n : Nat} {l : List UInt8} (hs : P.underlying src = some (.slice e)) (he : P.underlying e = some (.int .u8))
  (h : w.ownsRow base e 1 v n (l.map bv)) : ∀ dst, P.underlying dst = some .string -> (convert src dst v).run P w = .ok (.string (st l)) w := by
 intro dst hd
 have hl := h.1
 have hlen : l.length = n := by simpa using hl
 rcases h.2 with ⟨rfl, rfl⟩ | ⟨g, cap, cur, rfl, _, hh, _⟩
 ·obtain rfl : l = [] := List.eq_nil_of_length_eq_zero hlen
  exact run_convert_bytes_nil w src e hs he 0 0 dst hd
 ·have hc := h.cells (g := g) rfl
  have := run_convert_bytes_arg (P := P) w src e hs he g 0 n cap (l.map fun b => (b.toNat : Int)) (by simpa using hlen) (fun i hi => by
   have := hc i (.int .u8 ((l.map fun b => (b.toNat : Int)).getD i 0)) (by
    have hi' : i < l.length := by omega
    simp [List.getD, List.getElem?_eq_getElem hi', bv])
   simpa [Addr.add_lit] using this) dst hd
  rw [this]
  congr 2
  simp only [strOfNums, st, List.map_map]
  congr 2
  exact List.map_id'' (fun b => by simp) l
end
def Quiet (w w' : World) : Prop := ∃ n, w' = w.drewN n
theorem Quiet.refl (w : World) : Quiet w w := ⟨0, rfl⟩
theorem Quiet.drewN {a w : World} (h : Quiet a w) (n : Nat) : Quiet a (w.drewN n) := by
 obtain ⟨m, rfl⟩ := h
 exact ⟨m + n, by rw [World.drewN_drewN]⟩
theorem Quiet.drew {a w : World} (h : Quiet a w) : Quiet a w.drew := h.drewN 1
theorem Quiet.trans {a b c : World} (h : Quiet a b) (k : Quiet b c) : Quiet a c := by
 obtain ⟨m, rfl⟩ := k
 exact h.drewN m
theorem Quiet.below {w w' : World} (h : Quiet w w') (B : Nat) : Below B w w' := by
 obtain ⟨n, rfl⟩ := h
 exact ⟨rfl, rfl, rfl, Nat.le_refl _, fun _ _ => rfl⟩
theorem Quiet.cell {w w' : World} (h : Quiet w w') (p : Addr) : w'.cell? p = w.cell? p := by
 obtain ⟨n, rfl⟩ := h
 rfl
theorem Quiet.size {w w' : World} (h : Quiet w w') : w'.heap.size = w.heap.size := by
 obtain ⟨n, rfl⟩ := h
 rfl
theorem Quiet.own {w w' : World} (h : Quiet w w') {base : Nat} {e : TypeId} {size : Nat} {v : Value} {n : Nat} {xs : List Value} (k : w.ownsRow base e size v n xs) : w'.ownsRow base e size v n xs := by
 obtain ⟨n, rfl⟩ := h
 exact k
theorem own_slice {w : World} {base : Nat} {e : TypeId} {size : Nat} {v : Value} {n : Nat} {xs : List Value} (h : w.ownsRow base e size v n xs) : ∃ A c, v = .slice A n c := by
 rcases h.2 with ⟨rfl, rfl⟩ | ⟨g, cap, cur, rfl, _⟩
 ·exact ⟨_, _, rfl⟩
 ·exact ⟨_, _, rfl⟩
theorem Ints.of_own {k : IntKind} {w : World} {base : Nat} {e : TypeId} {A : Option Addr} {n c : Nat} {zs : List Int} (h : w.ownsRow base e 1 (.slice A n c) n (zs.map (Value.int k))) : Ints k w w.heap.size A n zs := by
 have hl : zs.length = n := by simpa using h.1
 refine ⟨hl, fun hn => ?_⟩
 rcases h.2 with ⟨hv, h0⟩ | ⟨g, cap, cur, hv, _, hh, _⟩
 ·omega
 ·injection hv with hA
  subst hA
  have hlt := (h.lt g rfl).2
  refine ⟨g, 0, rfl, hlt, fun j hj => ?_⟩
  have := h.cells (g := g) rfl j (.int k (zs.getD j 0)) (by
   have hj' : j < zs.length := by omega
   simp [List.getD, List.getElem?_eq_getElem hj'])
  simpa [Addr.add_lit] using this
def RetInts (zs : List Int) (ok : Bool) (w : World) (e : Ending) (w' : World) : Prop :=
 ∃ A n c, e = .returned (.tuple #[.slice A n c, .bool ok]) ∧ Ints .i64 w' w'.heap.size A n zs ∧ Below w.heap.size w w'
def Fresh (w : World) (A : Option Addr) (n : Nat) : Prop := 0 < n -> ∃ b, A = some ⟨b, 0, none⟩ ∧ w.heap.size <= b
theorem Fresh.zero (w : World) (A : Option Addr) : Fresh w A 0 := fun h => absurd h (by omega)
theorem Fresh.of_own {W w : World} {base : Nat} {e : TypeId} {A : Option Addr} {n c : Nat} {xs : List Value} (h : w.ownsRow base e 1 (.slice A n c) n xs) (hb : W.heap.size <= base) : Fresh W A n := fun hn => by
 rcases h.2 with ⟨hv, h0⟩ | ⟨g, cap, cur, hv, hg, _⟩
 ·omega
 ·injection hv with hA
  exact ⟨g, hA, by omega⟩
def FreshC (w : World) (A : Option Addr) (n c : Nat) : Prop := 0 < n -> ∃ b, A = some ⟨b, 0, none⟩ ∧ w.heap.size <= b ∧ n <= c ∧ c <= maxLen
theorem FreshC.zero (w : World) (A : Option Addr) (c : Nat) : FreshC w A 0 c := fun h => absurd h (by omega)
theorem FreshC.plain {w : World} {A : Option Addr} {n c : Nat} (h : FreshC w A n c) : Fresh w A n := fun hn => by
 obtain ⟨b, e, h1, _⟩ := h hn
 exact ⟨b, e, h1⟩
theorem FreshC.of_own {W w : World} {base : Nat} {e : TypeId} {A : Option Addr} {n c : Nat} {xs : List Value} (h : w.ownsRow base e 1 (.slice A n c) n xs) (hb : W.heap.size <= base) : FreshC W A n c := fun hn => by
 obtain ⟨b, e1, h1⟩ := Fresh.of_own h hb hn
 refine ⟨b, e1, h1, ?_⟩
 rcases h.2 with ⟨hv, h0⟩ | ⟨_, cap, _, hv, _, _, h3, h4, _⟩
 ·omega
 ·injection hv with _ _ hc
  subst hc
  exact ⟨h3, h4⟩
def RetIntsF (zs : List Int) (ok : Bool) (w : World) (e : Ending) (w' : World) : Prop :=
 ∃ A n c, e = .returned (.tuple #[.slice A n c, .bool ok]) ∧ Ints .i64 w' w'.heap.size A n zs ∧ Below w.heap.size w w' ∧ FreshC w A n c
theorem RetIntsF.plain {zs : List Int} {ok : Bool} {w w' : World} {e : Ending} (h : RetIntsF zs ok w e w') : RetInts zs ok w e w' := by
 obtain ⟨A, n, c, h1, h2, h3, _⟩ := h
 exact ⟨A, n, c, h1, h2, h3⟩
theorem Ints.new (k : IntKind) (w : World) (e : TypeId) (zs : List Int) (cs : Array Value) (hc : cs.toList = zs.map (Value.int k)) : Ints k (w.alloc (.cells cs e)) (w.heap.size + 1) (some ⟨w.heap.size, 0, none⟩) zs.length zs := by
 refine ⟨rfl, fun _ => ⟨_, _, rfl, by omega, fun j hj => ?_⟩⟩
 rw [World.cell?_alloc_at (hn := rfl), Nat.zero_add, <- Array.getElem?_toList, hc]
 simp [List.getD, List.getElem?_eq_getElem hj]
theorem conv_new {P : Program} {w : World} {src e dst : TypeId} (hs : P.underlying src = some (.slice e)) (he : P.underlying e = some (.int .u8)) (hd : P.underlying dst = some .string) (cs : Array Value) (n : Nat) (l : List UInt8)
  (hc : cs.toList = l.map bv) (hn : l.length = n) : (convert src dst (.slice (some ⟨w.heap.size, 0, none⟩) n n)).run P (w.alloc (.cells cs e)) = .ok (.string (st l)) (w.alloc (.cells cs e)) := by
 have h := run_convert_bytes_arg (P := P) (w.alloc (.cells cs e)) src e hs he w.heap.size 0 n n (l.map fun b => (b.toNat : Int)) (by simpa using hn) (fun i hi => by
  rw [World.cell?_alloc_at (hn := rfl), Nat.zero_add, <- Array.getElem?_toList, hc]
  have hi' : i < l.length := by omega
  simp [List.getD, List.getElem?_eq_getElem hi', bv]) dst hd
 rw [h]
 congr 2
 simp only [strOfNums, st, List.map_map]
 congr 2
 exact List.map_id'' (fun b => by simp) l
theorem st_add (a b : List UInt8) : st a ++ st b = st (a ++ b) := by
 apply ByteArray.ext
 simp [st]
theorem st_size (a : List UInt8) : (st a).size = a.length := rfl
theorem bl_st (a : List UInt8) : bl (st a) = a := rfl
theorem st_bl (s : ByteArray) : st (bl s) = s := by
 cases s
 simp [st, bl]
theorem add_st {P : Program} (a b : List UInt8) (h : a.length + b.length <= 9223372036854775807) : ∀ w : World, (Op.stringOp .add (st a) (st b)).run P w = .ok (.string (st (a ++ b))) w := by
 intro w
 rw [run_string_add_sum w _ _ (by rw [st_size, st_size]; exact h), st_add]
def Keep (w w' : World) : Prop := Below w.heap.size w w'
theorem Keep.refl (w : World) : Keep w w := Below.refl _ _
theorem Keep.trans {a b c : World} (h : Keep a b) (k : Keep b c) : Keep a c := Below.trans h (Below.mono k h.size)
theorem Keep.alloc {a w : World} (h : Keep a w) (o : Obj) : Keep a (w.alloc o) := Below.alloc h h.size o
theorem Quiet.keep {w w' : World} (h : Quiet w w') : Keep w w' := h.below _
theorem Ints.kept {k : IntKind} {w w' : World} {n : Nat} {A : Option Addr} {zs : List Int} (h : Ints k w w.heap.size A n zs) (hb : Keep w w') : Ints k w' w'.heap.size A n zs := (h.below hb).more hb.size
section
variable {P : Program}
theorem append_ints {ops : Array Oper} {rest : List Oper} {o : Oper} {a : Act} {Q : Exit -> Act -> World -> Prop} {w : World} (hgd : o.guard = none) (s x : Operand) (t : TypeId)
  (ho : o.op = .call { callee := .builtin .append, args := #[s, x], argTypes := #[t, t] })
  (base : Nat) (e : TypeId) (k : IntKind) (bytes : Nat) (ht : P.underlying t = some (.slice e)) (hinfo : (P.info? e).map (fun i => (i.zero, i.size, i.bytes)) = some (some (.int k 0), 1, bytes))
  (v : Value) (n : Nat) (xs : List Int) (hs : a.eval s = v) (hown : w.ownsRow base e 1 v n (xs.map (Value.int k))) (hbase : base <= w.heap.size)
  (B : Nat) (A : Option Addr) (m c : Nat) (ys : List Int) (hx : a.eval x = .slice A m c) (hA : Ints k w B A m ys)
  (h63 : n + m <= maxLen) (hbytes : (n + m) * bytes <= 140737488355328)
  (h : ∀ v' w', w'.ownsRow base e 1 v' (n + m) ((xs ++ ys).map (Value.int k)) -> Below base w w' -> wpList P ops Q rest (a.put o.dst v') w') : wpList P ops Q (o :: rest) a w := by
 obtain ⟨i0, hi, hz0, hz1, hz2⟩ := info_parts hinfo
 rcases A with _ | ad
 ·have hm : m = 0 := by
   rcases Nat.eq_zero_or_pos m with h0 | h0
   ·exact h0
   ·obtain ⟨_, _, h, _⟩ := hA.2 h0
    cases h
  subst hm
  have hn : ys = [] := List.eq_nil_of_length_eq_zero hA.1
  subst hn
  have hv := h v w (by simpa using hown) (Below.refl _ _)
  refine wpList_plain hgd fun K hK => ?_
  have hrun : (Builtin.append_ #[t, t] o.type #[v, .slice none 0 c]).run P w = .ok v w := by
   rcases hown.2 with ⟨rfl, rfl⟩ | ⟨g, cap, cur, rfl, _, _, hnc, _⟩
   ·simp [Builtin.append_, run_underlying ht, sizeOf, typeInfo, hi, Builtin.lenOf, Builtin.firstCells]
   ·simp [Builtin.append_, run_underlying ht, sizeOf, typeInfo, hi, Builtin.lenOf, Builtin.firstCells, hnc, storeCells]
  unfold Oper.wp
  simp [execOp, ho, resolve, invoke, builtin, hs, hx, hrun, Result.andThen]
  exact hK _ _ hv
 ·refine wpList_append_own _ hgd s x t ho base e i0 (.int k 0) 1 bytes ht hi hz0 hz1 hz2 rfl (by decide) v n _ hs hown ad m c (ys.map (Value.int k)) hx (by simpa using hA.1) ?_ (ints_oneCell _ _) h63 hbytes hbase ?_
  ·intro j u hj
   have hjl : j < ys.length := by
    have := (List.getElem?_eq_some_iff.1 hj).1
    simpa using this
   have hl := hA.1
   obtain ⟨b, off, h, _, hc⟩ := hA.2 (by omega)
   injection h with h
   subst h
   rw [Addr.add_lit, hc j (by omega)]
   rw [List.getElem?_map, List.getElem?_eq_getElem hjl] at hj
   rw [List.getD_eq_getElem?_getD, List.getElem?_eq_getElem hjl]
   exact hj
  ·intro v' w' hown' hgrow _
   exact h v' w' (by rw [List.map_append]; exact hown') ((Below.refl base w).grown hgrow hbase fun k hk => (hown.lt k hk).1)
end
end Go.Proofs.YtaciogcpghbhjaaGreat
/- The two bytes of each number of a list. Conditions: none. -/
namespace Go.Proofs.YtaciogcpghbhjaaGreat
open Go.RowKit
namespace Tw
theorem ofInt_i64 (a : Nat) (ha : a < 9223372036854775808) : (BitVec.ofInt 64 (a : Int)).toNat = a := by
 rw [BitVec.ofInt_natCast, BitVec.toNat_ofNat]; exact Nat.mod_eq_of_lt (by omega)
theorem i64_or_nat (a b : Nat) (ha : a < 9223372036854775808) (hb : b < 9223372036854775808) : bits .or .i64 (a : Int) (b : Int) = ((a ||| b : Nat) : Int) := by
 have hx : a ||| b < 2 ^ 63 := Nat.or_lt_two_pow (by omega) (by omega)
 show IntKind.i64.wrap ((BitVec.ofInt 64 (a : Int) ||| BitVec.ofInt 64 (b : Int)).toNat : Int) = _
 rw [BitVec.toNat_or, ofInt_i64 a ha, ofInt_i64 b hb, IntKind.wrap_i64]
 omega
def inR (n : Int) : Bool := decide (0 <= n) && decide (n <= 65535)
def two (n : Int) : List UInt8 := [UInt8.ofNat (n / 256).toNat, UInt8.ofNat (n % 256).toNat]
def allIn (l : List Int) : Bool := l.all inR
def bytes (l : List Int) : List UInt8 := l.flatMap two
def put (l : List Int) : List UInt8 := if allIn l then bytes l else []
theorem bytes_len (l : List Int) : (bytes l).length = 2 * l.length := by
 unfold bytes
 induction l with
 | nil => rfl
 | cons a l ih => simp [List.flatMap_cons, ih, two]; omega
theorem inR_of {z : Int} (h0 : 0 <= z) (h1 : z <= 65535) : inR z = true := by simp [inR, h0, h1]
theorem not_inR {z : Int} (h : z < 0 ∨ 65535 < z) : inR z = false := by simp [inR]; omega
theorem take_snoc (l : List Int) (k : Nat) (h : k < l.length) : l.take (k + 1) = l.take k ++ [l.getD k 0] := by
 rw [List.take_succ_eq_append_getElem h, List.getD_eq_getElem?_getD, List.getElem?_eq_getElem h]; rfl
theorem allIn_snoc (l : List Int) (z : Int) : allIn (l ++ [z]) = (allIn l && inR z) := by simp [allIn]
theorem bytes_snoc (l : List Int) (z : Int) : bytes (l ++ [z]) = bytes l ++ two z := by simp [bytes]
theorem allIn_false (l : List Int) (k : Nat) (h : k < l.length) (hz : inR (l.getD k 0) = false) : allIn l = false := by
 rw [<- List.take_append_drop (k + 1) l, take_snoc l k h]
 simp [allIn]
 rw [List.getD_eq_getElem?_getD] at hz
 simp [hz]
theorem two_cells {z : Int} (h0 : 0 <= z) (h1 : z <= 65535) : (two z).map bv = [.int .u8 (z / 256), .int .u8 (z % 256)] := by
 have e1 : (UInt8.ofNat (z / 256).toNat).toNat = (z / 256).toNat := by
  rw [UInt8.toNat_ofNat']; omega
 have e2 : (UInt8.ofNat (z % 256).toNat).toNat = (z % 256).toNat := by
  rw [UInt8.toNat_ofNat']; omega
 simp only [two, List.map_cons, List.map_nil, bv, e1, e2]
 rw [Int.toNat_of_nonneg (by omega), Int.toNat_of_nonneg (by omega)]
def getOk (s : ByteArray) (i : Int) : Bool := decide (0 <= i) && decide (i + 1 < s.size)
def num (s : ByteArray) (i : Int) : Int := byteAt s i * 256 + byteAt s (i + 1)
def get (s : ByteArray) (i : Int) : Int := if getOk s i then num s i else 0
theorem num_range (s : ByteArray) (i : Int) : 0 <= num s i ∧ num s i <= 65535 := by
 have h1 := byteAt_range s i
 have h2 := byteAt_range s (i + 1)
 unfold num
 omega
theorem or_num (a b : Int) (ha : 0 <= a ∧ a <= 255) (hb : 0 <= b ∧ b <= 255) : bits .or .i64 (a * 256) b = a * 256 + b := by
 obtain ⟨x, rfl⟩ := Int.eq_ofNat_of_zero_le ha.1
 obtain ⟨y, rfl⟩ := Int.eq_ofNat_of_zero_le hb.1
 have h := i64_or_nat (x * 256) y (by omega) (by omega)
 have e : (x * 256) ||| y = x * 256 + y := by
  have := Nat.two_pow_add_eq_or_of_lt (i := 8) (b := y) (by omega) x
  rw [Nat.mul_comm x 256]
  simpa using this.symm
 rw [e] at h
 exact h
def nums (s : ByteArray) (k : Nat) : List Int := (List.range k).map fun (i : Nat) => num s (2 * (i : Int))
theorem nums_succ (s : ByteArray) (k : Nat) : nums s (k + 1) = nums s k ++ [num s (2 * (k : Int))] := by simp [nums, List.range_succ]
theorem nums_len (s : ByteArray) (k : Nat) : (nums s k).length = k := by simp [nums]
def evenB (s : ByteArray) : Bool := s.size % 2 == 0
def getAll (s : ByteArray) : List Int := if evenB s then nums s (s.size / 2) else []
end Tw
def SameRel (w : World) (n : Nat) (xs ys : List Int) (i : Value) (wr : World) : Prop :=
 ∃ k : Nat, k <= n ∧ i = .int .i64 k ∧ xs.take k = ys.take k ∧ Quiet w wr
def GetRel (w : World) (s : ByteArray) (v i : Value) (wr : World) : Prop :=
 ∃ k : Nat, 2 * k <= s.size ∧ i = .int .i64 (2 * k : Int) ∧ wr.ownsRow w.heap.size 3 1 v k ((Tw.nums s k).map (Value.int .i64)) ∧ Below w.heap.size w wr
def PutRel (w : World) (n : Nat) (zs : List Int) (v i : Value) (wr : World) : Prop :=
 ∃ k : Nat, k <= n ∧ i = .int .i64 k ∧ wr.ownsRow w.heap.size 5 1 v (2 * k) ((Tw.bytes (zs.take k)).map bv) ∧ Below w.heap.size w wr ∧ Tw.allIn (zs.take k) = true
end Go.Proofs.YtaciogcpghbhjaaGreat
/- There and back, in plain words. Conditions: none. -/
namespace Go.Proofs.YtaciogcpghbhjaaGreat.Tw
theorem ofNat_toNat (n : Nat) (h : n < 256) : (UInt8.ofNat n).toNat = n := by
 rw [UInt8.toNat_ofNat']; omega
theorem byteAt_two (p : List UInt8) (z : Int) (h0 : 0 <= z) (h1 : z <= 65535) (q : List UInt8) :
  byteAt (st (p ++ two z ++ q)) (p.length : Int) = z / 256 ∧ byteAt (st (p ++ two z ++ q)) ((p.length : Int) + 1) = z % 256 := by
 have e1 : ((p.length : Int)).toNat = p.length := by omega
 have e2 : ((p.length : Int) + 1).toNat = p.length + 1 := by omega
 constructor
 ·rw [byteAt, bl_st, e1]
  rw [List.getD_eq_getElem?_getD, List.append_assoc, List.getElem?_append_right (by omega)]
  simp only [Nat.sub_self, two, List.cons_append, List.getElem?_cons_zero, Option.getD_some]
  rw [ofNat_toNat _ (by omega)]
  omega
 ·rw [byteAt, bl_st, e2]
  rw [List.getD_eq_getElem?_getD, List.append_assoc, List.getElem?_append_right (by omega)]
  have : p.length + 1 - p.length = 1 := by omega
  simp only [this, two, List.cons_append, List.getElem?_cons_succ, List.getElem?_cons_zero, Option.getD_some]
  rw [ofNat_toNat _ (by omega)]
  omega
theorem num_two (p : List UInt8) (z : Int) (h0 : 0 <= z) (h1 : z <= 65535) (q : List UInt8) : num (st (p ++ two z ++ q)) (p.length : Int) = z := by
 have h := byteAt_two p z h0 h1 q
 rw [num, h.1, h.2]
 omega
theorem inR_iff (z : Int) : inR z = true ↔ 0 <= z ∧ z <= 65535 := by simp [inR]
theorem nums_bytes (k : Nat) : ∀ (l q : List _), allIn l = true -> l.length = k -> nums (st (bytes l ++ q)) k = l := by
 induction k with
 | zero => intro l q _ h; rw [List.eq_nil_of_length_eq_zero h]; rfl
 | succ k ih =>
   intro l q hall hl
   obtain ⟨l', z, rfl⟩ : ∃ l' z, l = l' ++ [z] := ⟨l.dropLast, l.getLast (by intro e; rw [e] at hl; simp at hl), (List.dropLast_concat_getLast _).symm⟩
   rw [allIn_snoc, Bool.and_eq_true, inR_iff] at hall
   have hl' : l'.length = k := by simpa using hl
   rw [nums_succ, bytes_snoc]
   have h := num_two (bytes l') z hall.2.1 hall.2.2 q
   rw [bytes_len, hl'] at h
   have e : ((2 * k : Nat) : Int) = 2 * (k : Int) := by omega
   rw [e] at h
   rw [h, List.append_assoc, ih l' (two z ++ q) hall.1 hl']
theorem back1 (l : List Int) (h : allIn l = true) : evenB (st (put l)) = true ∧ getAll (st (put l)) = l ∧ (st (put l)).size = 2 * l.length := by
 have e : put l = bytes l := by rw [put, h]; rfl
 have hs : (st (put l)).size = 2 * l.length := by rw [e, st_size, bytes_len]
 have he : evenB (st (put l)) = true := by rw [evenB, hs]; simp
 refine ⟨he, ?_, hs⟩
 rw [getAll, he, hs]
 have hk : 2 * l.length / 2 = l.length := by omega
 have := nums_bytes l.length l [] h rfl
 rw [List.append_nil] at this
 rw [hk, e]
 exact this
theorem allIn_nums (s : ByteArray) (k : Nat) : allIn (nums s k) = true := by
 simp only [allIn, nums, List.all_map, List.all_eq_true]
 intro i _
 exact (inR_iff _).2 (num_range _ _)
theorem two_num (s : ByteArray) (k : Nat) (h : 2 * k + 1 < (bl s).length) : two (num s (2 * (k : Int))) = [(bl s)[2 * k], (bl s)[2 * k + 1]] := by
 have h1 : byteAt s (2 * (k : Int)) = ((bl s)[2 * k]).toNat := by
  rw [byteAt, show (2 * (k : Int)).toNat = 2 * k from by omega, List.getD_eq_getElem?_getD, List.getElem?_eq_getElem (by omega)]; rfl
 have h2 : byteAt s (2 * (k : Int) + 1) = ((bl s)[2 * k + 1]).toNat := by
  rw [byteAt, show (2 * (k : Int) + 1).toNat = 2 * k + 1 from by omega, List.getD_eq_getElem?_getD, List.getElem?_eq_getElem (by omega)]; rfl
 have b1 := UInt8.toNat_lt (bl s)[2 * k]
 have b2 := UInt8.toNat_lt (bl s)[2 * k + 1]
 rw [num, h1, h2, two]
 congr 1
 ·rw [show (((((bl s)[2 * k]).toNat : Int) * 256 + (((bl s)[2 * k + 1]).toNat : Int)) / 256).toNat = ((bl s)[2 * k]).toNat from by omega]
  simp
 ·rw [show (((((bl s)[2 * k]).toNat : Int) * 256 + (((bl s)[2 * k + 1]).toNat : Int)) % 256).toNat = ((bl s)[2 * k + 1]).toNat from by omega]
  simp
theorem take_two (l : List UInt8) (n : Nat) (h : n + 1 < l.length) : l.take (n + 1 + 1) = l.take n ++ [l[n], l[n + 1]] := by
 rw [List.take_succ_eq_append_getElem (by omega), List.take_succ_eq_append_getElem (by omega), List.append_assoc]
 rfl
theorem bytes_nums (s : ByteArray) (k : Nat) (h : 2 * k <= (bl s).length) : bytes (nums s k) = (bl s).take (2 * k) := by
 induction k with
 | zero => rfl
 | succ k ih =>
   rw [nums_succ, bytes_snoc, ih (by omega), two_num s k (by omega)]
   exact (take_two (bl s) (2 * k) (by omega)).symm
theorem back2 (s : ByteArray) (h : evenB s = true) : st (put (getAll s)) = s ∧ allIn (getAll s) = true := by
 have ha : allIn (getAll s) = true := by rw [getAll, h]; exact allIn_nums _ _
 refine ⟨?_, ha⟩
 rw [put, ha, getAll, h]
 simp only [if_true]
 have h2 : s.size % 2 = 0 := by simpa [evenB] using h
 rw [bytes_nums s _ (by rw [bl_length]; omega), show 2 * (s.size / 2) = (bl s).length from by rw [bl_length]; omega, List.take_length, st_bl]
theorem getAll_len (s : ByteArray) : (getAll s).length <= s.size := by
 unfold getAll
 split
 ·rw [nums_len]; omega
 ·simp
end Go.Proofs.YtaciogcpghbhjaaGreat.Tw
/- A row of integers of the call's own: made full of noughts, read, written. Conditions: none. -/
namespace Go.Proofs.YtaciogcpghbhjaaGreat
open Go.ChangeShapes Go.WideShapes Go.ChangeAt Go.RowKit
theorem made_ints (k : IntKind) (n : Nat) : (madeCells (Value.int k 0).cells (n * 1)).toList = (List.replicate n (0 : Int)).map (Value.int k) := by
 simp [madeCells, Value.cells, Nat.mod_one]
 rw [List.eq_replicate_iff]
 exact ⟨by simp, fun b hb => by simp at hb; exact hb.2.symm⟩
theorem own_int {k : IntKind} {w : World} {base : Nat} {e : TypeId} {v : Value} {n : Nat} {zs : List Int} (h : w.ownsRow base e 1 v n (zs.map (Value.int k))) (j : Nat) (hj : j < n) :
  ∃ g c, v = .slice (some ⟨g, 0, none⟩) n c ∧ w.cell? ⟨g, j, none⟩ = some (.int k (zs.getD j 0)) ∧ w.frozen? ⟨g, j, none⟩ = false ∧ base <= g ∧ n <= c := by
 have hl : zs.length = n := by simpa using h.1
 rcases h.2 with ⟨rfl, h0⟩ | ⟨g, cap, cur, rfl, hb, hh, hnc, hcm, hcs, htake⟩
 ·omega
 ·refine ⟨g, cap, rfl, ?_, h.frozenAt j, hb, hnc⟩
  rw [h.cellAt j (by omega), List.getElem?_map, List.getElem?_eq_getElem (by omega), List.getD_eq_getElem?_getD, List.getElem?_eq_getElem (by omega)]
  rfl
theorem own_write_int {k : IntKind} {w : World} {base : Nat} {e : TypeId} {g cap n : Nat} {zs : List Int} (h : w.ownsRow base e 1 (.slice (some ⟨g, 0, none⟩) n cap) n (zs.map (Value.int k))) (j : Nat) (x : Int) :
  (w.setCell ⟨g, j, none⟩ (.int k x)).ownsRow base e 1 (.slice (some ⟨g, 0, none⟩) n cap) n ((zs.set j x).map (Value.int k)) := by
 have := (h.stored j (.int k x)).1
 rwa [<- List.map_set] at this
theorem own_drew {w : World} {base : Nat} {e : TypeId} {size : Nat} {v : Value} {n : Nat} {xs : List Value} (k : w.ownsRow base e size v n xs) : w.drew.ownsRow base e size v n xs := ((Quiet.refl w).drew).own k
theorem keepd {a b : World} (h : Keep a b) : Keep a b.drew := h.trans ((Quiet.refl b).drew).keep
end Go.Proofs.YtaciogcpghbhjaaGreat
/- Bits in bytes, in plain words: there and back, and one behind the other. Conditions: none. -/
namespace Go.Proofs.YtaciogcpghbhjaaGreat
open Go.RowKit
namespace Co
def size (n : Int) : Int := if n < 0 then 0 else (n + 7) / 8
def nsize (n : Nat) : Nat := (n + 7) / 8
theorem size_nat (n : Nat) : size (n : Int) = (nsize n : Int) := by
 unfold size nsize
 rw [if_neg (by omega)]
 omega
def bit (zs : List Int) (i : Nat) : Nat := (zs.getD i 0).toNat
def val (zs : List Int) (a : Nat) : Nat -> Nat
 | 0 => 0
 | m + 1 => val zs a m + bit zs (a + m) * 2 ^ m
def isBit (z : Int) : Bool := z == 0 || z == 1
def allBits (zs : List Int) : Bool := zs.all isBit
def cells (zs : List Int) (s k : Nat) : List Int := (List.range s).map fun j => (val zs (8 * j) (min 8 (k - 8 * j)) : Int)
def bytes (zs : List Int) : List UInt8 := (List.range (nsize zs.length)).map fun j => UInt8.ofNat (val zs (8 * j) 8)
def put (zs : List Int) : List UInt8 := if allBits zs then bytes zs else []
def nbit (s : ByteArray) (i : Nat) : Nat := ((bl s).getD (i / 8) 0).toNat / 2 ^ (i % 8) % 2
def bitsOf (s : ByteArray) (k : Nat) : List Int := (List.range k).map fun i => (nbit s i : Int)
def restNone (s : ByteArray) (n : Int) : Bool := (List.range (8 * s.size)).all fun i => decide ((i : Int) < n) || nbit s i == 0
def getOk (s : ByteArray) (n : Int) : Bool := decide (0 <= n) && decide ((s.size : Int) = size n) && restNone s n
def get (s : ByteArray) (n : Int) : List Int := if getOk s n then bitsOf s n.toNat else []
def left (s : ByteArray) (n : Int) : Bool := decide (0 < n % 8) && !(byteAt s ((s.size : Int) - 1) / 2 ^ (n % 8).toNat == 0)
theorem isBit_iff (z : Int) : isBit z = true ↔ z = 0 ∨ z = 1 := by simp [isBit]
theorem bit_lt (zs : List Int) (h : allBits zs = true) (i : Nat) : bit zs i < 2 := by
 unfold bit
 rw [List.getD_eq_getElem?_getD]
 rcases Nat.lt_or_ge i zs.length with hl | hl
 ·rw [List.getElem?_eq_getElem hl]
  have := (isBit_iff _).1 (List.all_eq_true.1 h _ (List.getElem_mem hl))
  simp only [Option.getD_some]
  omega
 ·rw [List.getElem?_eq_none hl]; simp
theorem bit_zero (zs : List Int) (i : Nat) (h : zs.length <= i) : bit zs i = 0 := by
 unfold bit
 rw [List.getD_eq_getElem?_getD, List.getElem?_eq_none h]; rfl
theorem val_lt_of (zs : List Int) (a : Nat) (m : Nat) (h : ∀ i, i < m -> bit zs (a + i) < 2) : val zs a m < 2 ^ m := by
 induction m with
 | zero => exact Nat.one_pos
 | succ m ih =>
   have hb := h m (by omega)
   have hi := ih fun i hi => h i (by omega)
   rw [val, Nat.pow_succ]
   have : bit zs (a + m) = 0 ∨ bit zs (a + m) = 1 := by omega
   rcases this with e | e <;> rw [e] <;> omega
theorem val_lt (zs : List Int) (h : allBits zs = true) (a : Nat) (m : Nat) : val zs a m < 2 ^ m := val_lt_of zs a m fun _ _ => bit_lt zs h _
theorem val_bit (zs : List Int) (h : allBits zs = true) (a m i : Nat) (hi : i < m) : val zs a m / 2 ^ i % 2 = bit zs (a + i) := by
 induction m with
 | zero => omega
 | succ m ih =>
   have hv := val_lt zs h a m
   have hb := bit_lt zs h (a + m)
   rw [val]
   rcases Nat.lt_or_ge i m with hlt | hge
   ·have e : 2 ^ m = 2 ^ i * (2 ^ (m - i - 1) * 2) := by
     rw [<- Nat.pow_succ, <- Nat.pow_add]; congr 1; omega
    rw [e, <- Nat.mul_assoc, Nat.mul_comm (bit zs (a + m)), Nat.mul_assoc, Nat.add_mul_div_left _ _ (Nat.two_pow_pos i)]
    have := ih hlt
    rw [<- this]
    have e2 : bit zs (a + m) * (2 ^ (m - i - 1) * 2) = 2 * (bit zs (a + m) * 2 ^ (m - i - 1)) := by
     rw [<- Nat.mul_assoc, Nat.mul_comm]
    rw [e2]
    omega
   ·obtain rfl : i = m := by omega
    rw [Nat.add_mul_div_right _ _ (Nat.two_pow_pos i), Nat.div_eq_of_lt hv, Nat.zero_add]
    omega
theorem val_congr (zs ys : List Int) (a b m : Nat) (h : ∀ i, i < m -> bit zs (a + i) = bit ys (b + i)) : val zs a m = val ys b m := by
 induction m with
 | zero => rfl
 | succ m ih => rw [val, val, ih fun i hi => h i (by omega), h m (by omega)]
theorem val_bits (zs : List Int) (a x m : Nat) (h : ∀ i, i < m -> bit zs (a + i) = x / 2 ^ i % 2) : val zs a m = x % 2 ^ m := by
 induction m with
 | zero => rw [val, Nat.pow_zero, Nat.mod_one]
 | succ m ih => rw [val, ih fun i hi => h i (by omega), h m (by omega), Nat.mod_pow_succ, Nat.mul_comm]
theorem val_stop (zs : List Int) (a m : Nat) (h : zs.length <= a + m) (d : Nat) : val zs a (m + d) = val zs a m := by
 induction d with
 | zero => rfl
 | succ d ih => rw [<- Nat.add_assoc, val, ih, bit_zero zs _ (by omega), Nat.zero_mul, Nat.add_zero]
theorem cells_len (zs : List Int) (s k : Nat) : (cells zs s k).length = s := by simp [cells]
theorem cells_zero (zs : List Int) (s : Nat) : cells zs s 0 = List.replicate s 0 := by
 unfold cells
 rw [List.eq_replicate_iff]
 refine ⟨by simp, fun b hb => ?_⟩
 simp [val] at hb
 exact hb.2.symm ▸ rfl
theorem cells_get (zs : List Int) (s k : Nat) (h : k / 8 < s) : (cells zs s k)[k / 8]? = some (val zs (8 * (k / 8)) (k % 8) : Int) := by
 unfold cells
 rw [List.getElem?_map, List.getElem?_range h]
 have e : min 8 (k - 8 * (k / 8)) = k % 8 := by omega
 rw [Option.map_some, e]
theorem cells_step (zs : List Int) (s k : Nat) (h : k / 8 < s) :
  (cells zs s k).set (k / 8) ((val zs (8 * (k / 8)) (k % 8) + bit zs k * 2 ^ (k % 8) : Nat) : Int) = cells zs s (k + 1) := by
 apply List.ext_getElem?
 intro j
 rw [List.getElem?_set]
 have hl : (cells zs s k).length = s := cells_len _ _ _
 by_cases hj : k / 8 = j
 ·subst hj
  rw [if_pos rfl, if_pos (by omega)]
  unfold cells
  rw [List.getElem?_map, List.getElem?_range h, Option.map_some]
  have e : min 8 (k + 1 - 8 * (k / 8)) = k % 8 + 1 := by omega
  have e2 : 8 * (k / 8) + k % 8 = k := by omega
  rw [e, val, e2]
 ·rw [if_neg hj]
  unfold cells
  rw [List.getElem?_map, List.getElem?_map]
  rcases Nat.lt_or_ge j s with hjs | hjs
  ·rw [List.getElem?_range hjs, Option.map_some, Option.map_some]
   have e : min 8 (k - 8 * j) = min 8 (k + 1 - 8 * j) := by omega
   rw [e]
  ·rw [List.getElem?_eq_none (by simpa using hjs)]; rfl
theorem cells_all (zs : List Int) (h : allBits zs = true) : (cells zs (nsize zs.length) zs.length).map (Value.int .u8) = (bytes zs).map bv := by
 unfold cells bytes
 rw [List.map_map, List.map_map]
 apply List.map_congr_left
 intro j hj
 have hj' : j < nsize zs.length := by simpa using hj
 have hlt : 8 * j < zs.length := by unfold nsize at hj'; omega
 have e : val zs (8 * j) 8 = val zs (8 * j) (min 8 (zs.length - 8 * j)) := by
  rcases Nat.lt_or_ge (zs.length - 8 * j) 8 with hm | hm
  ·have := val_stop zs (8 * j) (zs.length - 8 * j) (by omega) (8 - (zs.length - 8 * j))
   rw [show zs.length - 8 * j + (8 - (zs.length - 8 * j)) = 8 from by omega] at this
   rw [this, show min 8 (zs.length - 8 * j) = zs.length - 8 * j from by omega]
  ·rw [show min 8 (zs.length - 8 * j) = 8 from by omega]
 have hv := val_lt zs h (8 * j) 8
 simp only [Function.comp_apply, bv]
 rw [UInt8.toNat_ofNat', Nat.mod_eq_of_lt hv, e]
theorem take_snoc (l : List Int) (k : Nat) (h : k < l.length) : l.take (k + 1) = l.take k ++ [l.getD k 0] := by
 rw [List.take_succ_eq_append_getElem h, List.getD_eq_getElem?_getD, List.getElem?_eq_getElem h]; rfl
theorem all_snoc (l : List Int) (z : Int) : allBits (l ++ [z]) = (allBits l && isBit z) := by simp [allBits]
theorem all_false (l : List Int) (k : Nat) (h : k < l.length) (hz : isBit (l.getD k 0) = false) : allBits l = false := by
 rw [<- List.take_append_drop (k + 1) l, take_snoc l k h]
 simp [allBits]
 rw [List.getD_eq_getElem?_getD] at hz
 simp [hz]
theorem bytes_len (zs : List Int) : (bytes zs).length = nsize zs.length := by simp [bytes]
theorem bit_take (zs : List Int) (k i : Nat) (h : i < k) : bit (zs.take k) i = bit zs i := by
 unfold bit
 rw [List.getD_eq_getElem?_getD, List.getD_eq_getElem?_getD, List.getElem?_take_of_lt h]
theorem val_room (zs : List Int) (k : Nat) (h : allBits (zs.take k) = true) : val zs (8 * (k / 8)) (k % 8) < 2 ^ (k % 8) :=
 val_lt_of _ _ _ fun i hi => by
  rw [<- bit_take zs k _ (by omega)]
  exact bit_lt _ h _
theorem pow_le (m : Nat) (h : m < 8) : 2 ^ (m + 1) <= 256 := Nat.pow_le_pow_right (n := 2) (by decide) (show m + 1 <= 8 by omega)
theorem sum_lt (v b m : Nat) (hv : v < 2 ^ m) (hb : b < 2) (hm : m < 8) : v + b * 2 ^ m < 256 := by
 have := pow_le m hm
 rw [Nat.pow_succ] at this
 have : b = 0 ∨ b = 1 := by omega
 rcases this with e | e <;> rw [e] <;> omega
theorem or_sum (v b m : Nat) (hv : v < 2 ^ m) (hb : b < 2) (hm : m < 8) : bits .or .u8 (v : Int) ((b * 2 ^ m : Nat) : Int) = ((v + b * 2 ^ m : Nat) : Int) := by
 have hs := sum_lt v b m hv hb hm
 rw [u8_or_nat _ _ (by omega) (by omega), Nat.or_comm, Nat.mul_comm b, Nat.add_comm, Nat.two_pow_add_eq_or_of_lt hv]
theorem put_round {e : TypeId} {w wr : World} {n k : Nat} {zs : List Int} (hown : wr.ownsRow w.heap.size e 1 (.slice (some ⟨w.heap.size, 0, none⟩) (nsize n) (nsize n)) (nsize n) ((cells zs (nsize n) k).map (Value.int .u8)))
  (hbel : Below w.heap.size w wr) (hin : k / 8 < nsize n) (_hall : allBits (zs.take k) = true) (_hb : bit zs k < 2) (u : Int) (hu : u = ((val zs (8 * (k / 8)) (k % 8) + bit zs k * 2 ^ (k % 8) : Nat) : Int)) :
  (wr.setCell ⟨w.heap.size, k / 8, none⟩ (.int .u8 u)).drew.ownsRow w.heap.size e 1 (.slice (some ⟨w.heap.size, 0, none⟩) (nsize n) (nsize n)) (nsize n) ((cells zs (nsize n) (k + 1)).map (Value.int .u8)) ∧
   Below w.heap.size w (wr.setCell ⟨w.heap.size, k / 8, none⟩ (.int .u8 u)).drew := by
 subst hu
 refine ⟨own_drew ?_, ((Quiet.refl _).drew.below _) |> (hbel.setCell (Nat.le_refl _) _).trans⟩
 have := own_write_int hown (k / 8) ((val zs (8 * (k / 8)) (k % 8) + bit zs k * 2 ^ (k % 8) : Nat) : Int)
 rwa [cells_step zs _ k hin] at this
theorem bits_len (s : ByteArray) (k : Nat) : (bitsOf s k).length = k := by simp [bitsOf]
theorem bits_succ (s : ByteArray) (k : Nat) : bitsOf s (k + 1) = bitsOf s k ++ [(nbit s k : Int)] := by simp [bitsOf, List.range_succ]
theorem nbit_div (s : ByteArray) (k : Nat) : byteAt s ((k : Int) / 8) / 2 ^ (k % 8) = ((((bl s).getD (k / 8) 0).toNat / 2 ^ (k % 8) : Nat) : Int) := by
 rw [byteAt, show ((k : Int) / 8).toNat = k / 8 from by omega]
 simp
theorem nbit_mask (s : ByteArray) (k : Nat) : Go.RowKit.wrap64 (bits .and .u8 (byteAt s ((k : Int) / 8) / 2 ^ (k % 8)) 1) = (nbit s k : Int) := by
 have hl := UInt8.toNat_lt ((bl s).getD (k / 8) 0)
 have hd : ((bl s).getD (k / 8) 0).toNat / 2 ^ (k % 8) < 256 := Nat.lt_of_le_of_lt (Nat.div_le_self _ _) (by omega)
 have h1 := u8_and_nat (((bl s).getD (k / 8) 0).toNat / 2 ^ (k % 8)) 1 hd (by decide)
 rw [Nat.and_one_is_mod] at h1
 rw [nbit_div, show (1 : Int) = ((1 : Nat) : Int) from rfl, h1, Go.RowKit.wrap64, nbit]
 omega
theorem nbit_tmod (s : ByteArray) (k : Nat) : (byteAt s ((k : Int) / 8) / 2 ^ (k % 8)).tmod 2 = (nbit s k : Int) := by
 rw [nbit_div, nbit, show (2 : Int) = ((2 : Nat) : Int) from rfl, Int.ofNat_tmod]
theorem nbit_lt (s : ByteArray) (k : Nat) : nbit s k < 2 := Nat.mod_lt _ (by decide)
theorem allBits_bits (s : ByteArray) (k : Nat) : allBits (bitsOf s k) = true := by
 simp only [allBits, bitsOf, List.all_map, List.all_eq_true]
 intro i _
 have := nbit_lt s i
 simp only [Function.comp_apply, isBit_iff]
 omega
theorem bit_bits (s : ByteArray) (k i : Nat) (h : i < k) : bit (bitsOf s k) i = nbit s i := by
 unfold bit bitsOf
 rw [List.getD_eq_getElem?_getD, List.getElem?_map, List.getElem?_range h]
 simp
theorem fill_set (s : ByteArray) (n k : Nat) (h : k < n) : (bitsOf s k ++ List.replicate (n - k) (0 : Int)).set k (nbit s k) = bitsOf s (k + 1) ++ List.replicate (n - (k + 1)) 0 := by
 rw [List.set_append_right _ _ (by rw [bits_len]; exact Nat.le_refl _), bits_len, Nat.sub_self, show n - k = (n - (k + 1)) + 1 from by omega, List.replicate_succ, List.set_cons_zero, bits_succ, List.append_assoc]
 rfl
theorem nbit_bytes (zs : List Int) (h : allBits zs = true) (i : Nat) (hi : i / 8 < nsize zs.length) : nbit (st (bytes zs)) i = bit zs i := by
 unfold nbit
 rw [bl_st, List.getD_eq_getElem?_getD, bytes, List.getElem?_map, List.getElem?_range hi, Option.map_some, Option.getD_some, UInt8.toNat_ofNat', Nat.mod_eq_of_lt (val_lt zs h _ 8),
  val_bit zs h _ _ _ (Nat.mod_lt _ (by decide)), show 8 * (i / 8) + i % 8 = i from by omega]
theorem bits_bytes (zs : List Int) (h : allBits zs = true) : bitsOf (st (bytes zs)) zs.length = zs := by
 apply List.ext_getElem?
 intro j
 rcases Nat.lt_or_ge j zs.length with hj | hj
 ·rw [bitsOf, List.getElem?_map, List.getElem?_range hj, Option.map_some, nbit_bytes zs h j (by unfold nsize; omega), bit, List.getD_eq_getElem?_getD, List.getElem?_eq_getElem hj, Option.getD_some]
  have := (isBit_iff _).1 (List.all_eq_true.1 h _ (List.getElem_mem hj))
  congr 1
  omega
 ·rw [List.getElem?_eq_none (by rw [bits_len]; exact hj), List.getElem?_eq_none hj]
theorem put_ok (zs : List Int) (h : allBits zs = true) : put zs = bytes zs := by rw [put, h]; rfl
theorem back1 (zs : List Int) (h : allBits zs = true) : getOk (st (put zs)) (zs.length : Int) = true ∧ get (st (put zs)) (zs.length : Int) = zs ∧ ((st (put zs)).size : Int) = size (zs.length : Int) := by
 have e := put_ok zs h
 have hs : ((st (put zs)).size : Int) = size (zs.length : Int) := by rw [e, st_size, bytes_len, size_nat]
 have hg : getOk (st (put zs)) (zs.length : Int) = true := by
  rw [getOk, Bool.and_eq_true, Bool.and_eq_true, decide_eq_true_eq, decide_eq_true_eq]
  refine ⟨⟨by omega, hs⟩, ?_⟩
  rw [restNone, List.all_eq_true]
  intro i hi
  have hi' : i < 8 * nsize zs.length := by rw [e, st_size, bytes_len] at hi; simpa using hi
  rcases Nat.lt_or_ge i zs.length with hlt | hge
  ·simp [hlt]
  ·rw [e, nbit_bytes zs h i (by omega), bit_zero zs i hge]
   simp
 refine ⟨hg, ?_, hs⟩
 rw [get, hg, e]
 exact bits_bytes zs h
theorem back2 (s : ByteArray) (n : Int) (h : getOk s n = true) : allBits (get s n) = true ∧ st (put (get s n)) = s ∧ ((get s n).length : Int) = n := by
 have hg := h
 rw [getOk, Bool.and_eq_true, Bool.and_eq_true, decide_eq_true_eq, decide_eq_true_eq] at h
 obtain ⟨⟨h0, hs⟩, hr⟩ := h
 obtain ⟨m, rfl⟩ := Int.eq_ofNat_of_zero_le h0
 have e : get s (m : Int) = bitsOf s m := by rw [get, hg]; rfl
 rw [e]
 have ha := allBits_bits s m
 have hsz : s.size = nsize m := by
  have := size_nat m
  rw [hs.symm] at this
  omega
 refine ⟨ha, ?_, by rw [bits_len]⟩
 rw [put_ok _ ha]
 rw [restNone, List.all_eq_true] at hr
 have hb : bytes (bitsOf s m) = bl s := by
  apply List.ext_getElem?
  intro j
  rcases Nat.lt_or_ge j s.size with hj | hj
  ·have hjl : j < (bl s).length := by rw [bl_length]; exact hj
   rw [bytes, bits_len, <- hsz, List.getElem?_map, List.getElem?_range hj, Option.map_some, List.getElem?_eq_getElem hjl]
   congr 1
   have hv : val (bitsOf s m) (8 * j) 8 = (bl s)[j].toNat % 2 ^ 8 := by
    apply val_bits
    intro i hi
    have en : nbit s (8 * j + i) = (bl s)[j].toNat / 2 ^ i % 2 := by
     rw [nbit, show (8 * j + i) / 8 = j from by omega, show (8 * j + i) % 8 = i from by omega, List.getD_eq_getElem?_getD, List.getElem?_eq_getElem hjl]; rfl
    rw [<- en]
    rcases Nat.lt_or_ge (8 * j + i) m with hlt | hge
    ·exact bit_bits s m _ hlt
    ·rw [bit_zero _ _ (by rw [bits_len]; exact hge)]
     have := hr (8 * j + i) (by simp; omega)
     simp at this
     rcases this with h | h
     ·omega
     ·exact h.symm
   rw [hv]
   have := UInt8.toNat_lt (bl s)[j]
   rw [Nat.mod_eq_of_lt (by omega)]
   simp
  ·rw [List.getElem?_eq_none (by rw [bytes_len, bits_len]; omega), List.getElem?_eq_none (by rw [bl_length]; exact hj)]
 rw [hb, st_bl]
theorem bits_high (b u : Nat) (hb : b < 256) (hu : u < 8) : b / 2 ^ u = 0 ↔ ∀ i, u <= i -> i < 8 -> b / 2 ^ i % 2 = 0 := by
 constructor
 ·intro h i hi h8
  have e : 2 ^ i = 2 ^ u * 2 ^ (i - u) := by rw [<- Nat.pow_add]; congr 1; omega
  rw [e, <- Nat.div_div_eq_div_mul, h, Nat.zero_div]
 ·intro h
  have : ∀ d, d <= 8 - u -> b / 2 ^ (8 - d) = 0 := by
   intro d
   induction d with
   | zero => intro _; exact Nat.div_eq_of_lt hb
   | succ d ih =>
     intro hd
     have h1 := ih (by omega)
     have h2 := h (8 - (d + 1)) (by omega) (by omega)
     have e : 2 ^ (8 - d) = 2 ^ (8 - (d + 1)) * 2 := by rw [<- Nat.pow_succ]; congr 1; omega
     rw [e, <- Nat.div_div_eq_div_mul] at h1
     omega
  have := this (8 - u) (Nat.le_refl _)
  rwa [show 8 - (8 - u) = u from by omega] at this
theorem left_eq (s : ByteArray) (n : Int) (h0 : 0 <= n) (hs : (s.size : Int) = size n) : restNone s n = !left s n := by
 obtain ⟨m, rfl⟩ := Int.eq_ofNat_of_zero_le h0
 have hsz : s.size = nsize m := by
  have := size_nat m
  rw [hs.symm] at this
  omega
 unfold nsize at hsz
 by_cases hu : m % 8 = 0
 ·have e1 : left s (m : Int) = false := by
   rw [left, show decide (0 < (m : Int) % 8) = false from by simp; omega, Bool.false_and]
  rw [e1, Bool.not_false, restNone, List.all_eq_true]
  intro i hi
  have hi' : i < 8 * s.size := by simpa using hi
  have : (i : Int) < (m : Int) := by omega
  simp [this]
 ·have hp : 0 < s.size := by omega
  have hjl : s.size - 1 < (bl s).length := by rw [bl_length]; omega
  have hbt : byteAt s ((s.size : Int) - 1) = ((bl s)[s.size - 1].toNat : Int) := by
   rw [byteAt, show ((s.size : Int) - 1).toNat = s.size - 1 from by omega, List.getD_eq_getElem?_getD, List.getElem?_eq_getElem hjl]; rfl
  have hlt := UInt8.toNat_lt (bl s)[s.size - 1]
  have hk := bits_high (bl s)[s.size - 1].toNat (m % 8) hlt (Nat.mod_lt _ (by decide))
  have hm : ((m : Int) % 8).toNat = m % 8 := by omega
  have e1 : left s (m : Int) = !((bl s)[s.size - 1].toNat / 2 ^ (m % 8) == 0) := by
   rw [left, show decide (0 < (m : Int) % 8) = true from by simp; omega, Bool.true_and, hbt, hm]
   congr 1
   rw [Bool.eq_iff_iff, beq_iff_eq, beq_iff_eq]
   rw [<- Int.natCast_inj (m := (bl s)[s.size - 1].toNat / 2 ^ (m % 8)) (n := 0)]
   simp
  rw [e1, Bool.not_not, Bool.eq_iff_iff, beq_iff_eq, hk, restNone, List.all_eq_true]
  have enb : ∀ i, i < 8 -> nbit s (8 * (s.size - 1) + i) = (bl s)[s.size - 1].toNat / 2 ^ i % 2 := by
   intro i hi
   rw [nbit, show (8 * (s.size - 1) + i) / 8 = s.size - 1 from by omega, show (8 * (s.size - 1) + i) % 8 = i from by omega, List.getD_eq_getElem?_getD, List.getElem?_eq_getElem hjl]; rfl
  constructor
  ·intro h i hi h8
   have := h (8 * (s.size - 1) + i) (by simp; omega)
   rw [enb i h8] at this
   simp at this
   rcases this with h | h
   ·omega
   ·exact h
  ·intro h i hi
   have hi' : i < 8 * s.size := by simpa using hi
   rcases Nat.lt_or_ge i m with hlt | hge
   ·simp [hlt]
   ·have := h (i % 8) (by omega) (Nat.mod_lt _ (by decide))
    rw [<- enb _ (Nat.mod_lt _ (by decide)), show 8 * (s.size - 1) + i % 8 = i from by omega] at this
    simp [this]
theorem get_len8 (s : ByteArray) (n : Int) : (get s n).length <= 8 * s.size := by
 unfold get
 split
 ·rename_i h
  rw [getOk, Bool.and_eq_true, Bool.and_eq_true, decide_eq_true_eq, decide_eq_true_eq] at h
  obtain ⟨⟨h0, hs⟩, _⟩ := h
  unfold size at hs
  rw [if_neg (by omega)] at hs
  rw [bits_len]
  omega
 ·simp
end Co
end Go.Proofs.YtaciogcpghbhjaaGreat
/- A region that draws its order and holds calls that keep all old blocks: one walk serves every order. Conditions: the region's own operations read only. -/
namespace Go.Proofs.YtaciogcpghbhjaaGreat
open Go.ChangeShapes Go.WideShapes Go.ChangeAt Go.RowKit
structure KeptOf (X : World) where
 w : World
 h : Keep X w
instance (X : World) : Nonempty (KeptOf X) := ⟨⟨X, Keep.refl X⟩⟩
theorem KeptOf.of {P : Program} {f : FuncId} {args : Array Value} {X : World} {p : KeptOf X} {v : Value} (h : Calls P f args p.w fun e w' => e = .returned v ∧ Keep p.w w') :
  Calls P f args p.w fun e w' => e = .returned v ∧ ∃ q : KeptOf X, w' = q.w :=
 h.mono fun _ w' ⟨he, hk⟩ => ⟨he, ⟨w', p.h.trans hk⟩, rfl⟩
theorem wp_region_kept {P : Program} {id : Nat} {Q : Exit -> Act -> World -> Prop} {a : Act} {w : World} {l : List Oper} (hm : P.follows .mixedOrders = true) (hB : Region.lexB .any l.toArray = true)
  (h : wpQuiet P l.toArray (fun w' => ∃ p : KeptOf w, w' = p.w) (fun a' => ∀ w', (∃ p : KeptOf w, w' = p.w) -> Q .normal a' w') l a) : (Code.region id l.toArray true).wp P Q a w :=
 wp_region_quiet (C := fun w' => ∃ p : KeptOf w, w' = p.w) hm hB ⟨⟨w.drew, ((Quiet.refl w).drew).keep⟩, rfl⟩ (by simpa using h)
end Go.Proofs.YtaciogcpghbhjaaGreat
/- Boxes: a block whose first cells are these. Conditions: none. -/
namespace Go.Proofs.YtaciogcpghbhjaaGreat
set_option linter.unusedVariables false
open Go.ChangeShapes Go.WideShapes Go.ChangeAt Go.RowKit
def Bx (W : World) (q : Nat) (L : List Value) : Prop := q < W.heap.size ∧ ∀ j v, L[j]? = some v -> W.cell? ⟨q, j, none⟩ = some v
theorem Bx.kept {W W' : World} {q : Nat} {L : List Value} (h : Bx W q L) (hk : Keep W W') : Bx W' q L :=
 ⟨Nat.lt_of_lt_of_le h.1 hk.size, fun j v hj => (Below.cell hk h.1).trans (h.2 j v hj)⟩
theorem Bx.newq {W : World} {q : Nat} {L : List Value} {t : TypeId} (h : q = W.heap.size) : Bx (W.alloc (.cells L.toArray t)) q L := by
 subst h
 exact ⟨by simp, fun j v hj => by
  rw [World.cell?_alloc_at (hn := rfl)]
  simpa using hj⟩
theorem Bx.alloc {W : World} {q : Nat} {L : List Value} (h : Bx W q L) (O : Obj) : Bx (W.alloc O) q L := h.kept ((Keep.refl W).alloc O)
theorem Bx.six {W : World} {q : Nat} {v0 v1 v2 v3 v4 v5 : Value} (h : Bx W q [v0, v1, v2, v3, v4, v5]) :
  W.cell? ⟨q, 0, none⟩ = some v0 ∧ W.cell? ⟨q, 1, none⟩ = some v1 ∧ W.cell? ⟨q, 2, none⟩ = some v2 ∧ W.cell? ⟨q, 3, none⟩ = some v3 ∧ W.cell? ⟨q, 4, none⟩ = some v4 ∧ W.cell? ⟨q, 5, none⟩ = some v5 :=
 ⟨h.2 0 _ rfl, h.2 1 _ rfl, h.2 2 _ rfl, h.2 3 _ rfl, h.2 4 _ rfl, h.2 5 _ rfl⟩
theorem Bx.one {W : World} {q : Nat} {v0 : Value} {l : List Value} (h : Bx W q (v0 :: l)) : W.cell? ⟨q, 0, none⟩ = some v0 := h.2 0 _ rfl
theorem Bx.two {W : World} {q : Nat} {v0 v1 : Value} {l : List Value} (h : Bx W q (v0 :: v1 :: l)) : W.cell? ⟨q, 0, none⟩ = some v0 ∧ W.cell? ⟨q, 1, none⟩ = some v1 := ⟨h.2 0 _ rfl, h.2 1 _ rfl⟩
end Go.Proofs.YtaciogcpghbhjaaGreat
/- A text as the list of its bytes. Conditions: none. -/
namespace Go.Proofs.YtaciogcpghbhjaaGreat.Str
theorem loop_eq (s : ByteArray) : ∀ (n i : Nat) (r : List UInt8), s.size - i = n -> ByteArray.toList.loop s i r = r.reverse ++ (bl s).drop i := by
 intro n
 induction n with
 | zero =>
   intro i r h
   rw [ByteArray.toList.loop, if_neg (by omega), List.drop_of_length_le (by rw [bl_length]; omega), List.append_nil]
 | succ n ih =>
   intro i r h
   have hi : i < (bl s).length := by rw [bl_length]; omega
   have hg : s.get! i = (bl s)[i] := by
    have hi' : i < s.data.size := by rw [bl_length] at hi; exact hi
    show s.data[i]! = s.data.toList[i]
    rw [getElem!_pos s.data i hi', Array.getElem_toList]
   rw [ByteArray.toList.loop, if_pos (by omega), ih (i + 1) _ (by omega), List.reverse_cons, List.append_assoc, hg, List.drop_eq_getElem_cons hi]
   rfl
theorem toList_eq (s : ByteArray) : s.toList = bl s := by
 have := loop_eq s _ 0 [] rfl
 rw [List.reverse_nil, List.nil_append, List.drop_zero] at this
 exact this
end Go.Proofs.YtaciogcpghbhjaaGreat.Str
