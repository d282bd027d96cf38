/- Responses in plain words: exceptions, normal responses, their data; there and back. Conditions: none. -/
import Derived.Test.YtijnajlijdnbcaaAskB
namespace Go.Proofs.Ytijnajlijdnbcaa.Rp
set_option linter.unusedVariables false
open Go.RowKit
def code (n : Int) : Bool := (decide (1 ≤ n) && decide (n ≤ 6)) || n == 8 || n == 10 || n == 11
def faultOk (fc c : Int) : Bool := decide (1 ≤ fc) && decide (fc ≤ 127) && code c
def fault (fc c : Int) : List UInt8 := if faultOk fc c then [UInt8.ofNat (fc + 128).toNat, UInt8.ofNat c.toNat] else []
def dataOk (fc : Int) (l : List Int) : Bool := if fc ≤ 2 then Co.allBits l else Tw.allIn l
/-- Whether a request may be, and these are its data. -/
def ok (a : AskP) (l : List Int) : Bool := Ak.right a && (l.length : Int) == a.ct && dataOk a.fc l
def load (fc : Int) (l : List Int) : List UInt8 := if fc ≤ 2 then Co.put l else Tw.put l
def raw (a : AskP) (l : List Int) : List UInt8 :=
  if a.fc = 5 ∨ a.fc = 6 ∨ a.fc = 22 then Ak.bytes a else if a.fc = 15 ∨ a.fc = 16 then (Ak.bytes a).take 5
  else UInt8.ofNat a.fc.toNat :: UInt8.ofNat (load a.fc l).length :: load a.fc l
def make (a : AskP) (l : List Int) : List UInt8 := if ok a l then raw a l else []
/-- What stands where the data stand. -/
def part (a : AskP) (s : ByteArray) : List Int := if 0 < a.ct then (if a.fc ≤ 2 then Co.get (Ak.sub s 2) a.ct else Tw.getAll (Ak.sub s 2)) else []
def partOk (a : AskP) (s : ByteArray) : Bool := if 0 < a.ct then (if a.fc ≤ 2 then Co.getOk (Ak.sub s 2) a.ct else Tw.evenB (Ak.sub s 2)) else true
/-- Whether bytes are the normal response that their data make. -/
def norm (a : AskP) (s : ByteArray) : Bool := ok a (part a s) && raw a (part a s) == bl s
def data (a : AskP) (s : ByteArray) : List Int := if norm a s then part a s else []
def kind (a : AskP) (s : ByteArray) : Int :=
  if norm a s then 1 else if Ak.right a && s.size == 2 && byteAt s 0 == a.fc + 128 && code (byteAt s 1) then 2 else 0

theorem code_iff (n : Int) : code n = true ↔ n = 1 ∨ n = 2 ∨ n = 3 ∨ n = 4 ∨ n = 5 ∨ n = 6 ∨ n = 8 ∨ n = 10 ∨ n = 11 := by
  simp [code]; omega
theorem ok_right {a : AskP} {l : List Int} (h : ok a l = true) : Ak.right a = true ∧ (l.length : Int) = a.ct ∧ dataOk a.fc l = true := by
  simp only [ok, Bool.and_eq_true, beq_iff_eq] at h
  exact ⟨h.1.1, h.1.2, h.2⟩
theorem load_bits {fc : Int} {l : List Int} (hf : fc ≤ 2) (h : dataOk fc l = true) : load fc l = Co.bytes l ∧ Co.allBits l = true := by
  rw [dataOk, if_pos hf] at h
  rw [load, if_pos hf, Co.put_ok l h]
  exact ⟨rfl, h⟩
theorem load_words {fc : Int} {l : List Int} (hf : ¬ fc ≤ 2) (h : dataOk fc l = true) : load fc l = Tw.bytes l ∧ Tw.allIn l = true := by
  rw [dataOk, if_neg hf] at h
  rw [load, if_neg hf, Tw.put, h]
  exact ⟨rfl, rfl⟩
/-- A request that may be reads data, or none. -/
theorem reads_cases {a : AskP} (h : Ak.right a = true) :
    ((a.fc = 1 ∨ a.fc = 2) ∧ 1 ≤ a.ct ∧ a.ct ≤ 2000) ∨ ((a.fc = 3 ∨ a.fc = 4 ∨ a.fc = 23) ∧ 1 ≤ a.ct ∧ a.ct ≤ 125) ∨ ((a.fc = 5 ∨ a.fc = 6 ∨ a.fc = 22) ∧ a.ct = 0) ∨ ((a.fc = 15 ∨ a.fc = 16) ∧ a.ct = 0) := by
  have hf := (Ak.formed_iff a).1 ((Ak.right_iff a).1 h).1
  obtain ⟨hk, _, h2, h3, _⟩ := hf
  rw [Ak.known_iff] at hk
  unfold Ak.reads at h2 h3
  rcases hk with e | e | e | e | e | e | e | e | e | e <;> rw [e] at h2 h3 ⊢ <;> simp at h2 h3 ⊢ <;> omega
/-- How many bytes a normal response has. -/
def sizeOf (a : AskP) : Int :=
  if a.fc = 1 ∨ a.fc = 2 then 2 + (a.ct + 7) / 8 else if a.fc = 3 ∨ a.fc = 4 ∨ a.fc = 23 then 2 + 2 * a.ct else if a.fc = 22 then 7 else 5
theorem bytes_cons (a : AskP) : ∃ t, Ak.bytes a = UInt8.ofNat a.fc.toNat :: t := ⟨_, rfl⟩
theorem raw_cons (a : AskP) (l : List Int) : ∃ t, raw a l = UInt8.ofNat a.fc.toNat :: t := by
  obtain ⟨t, e⟩ := bytes_cons a
  unfold raw
  split
  · exact ⟨t, e⟩
  · split
    · exact ⟨t.take 4, by rw [e]; rfl⟩
    · exact ⟨_, rfl⟩
theorem right_fc {a : AskP} (h : Ak.right a = true) : 1 ≤ a.fc ∧ a.fc ≤ 23 := by
  have := (Ak.known_iff a.fc).1 ((Ak.formed_iff a).1 ((Ak.right_iff a).1 h).1).1
  omega
theorem raw_size {a : AskP} {l : List Int} (h : ok a l = true) : ((raw a l).length : Int) = sizeOf a ∧ (raw a l).length ≤ 253 ∧ 2 ≤ (raw a l).length := by
  obtain ⟨hr, hl, hd⟩ := ok_right h
  have hf := ((Ak.right_iff a).1 hr).1
  have hb := (Ak.back1 hf).2.2.2
  rcases reads_cases hr with ⟨hc, h1, h2⟩ | ⟨hc, h1, h2⟩ | ⟨hc, h1⟩ | ⟨hc, h1⟩
  · have e := (load_bits (by omega) hd).1
    have hlen := Co.bytes_len l
    unfold Co.nsize at hlen
    rw [raw, if_neg (by omega), if_neg (by omega), e, sizeOf, if_pos hc]
    simp only [List.length_cons, hlen]
    omega
  · have e := (load_words (by omega) hd).1
    have hlen := Tw.bytes_len l
    rw [raw, if_neg (by omega), if_neg (by omega), e, sizeOf, if_neg (by omega), if_pos hc]
    simp only [List.length_cons, hlen]
    omega
  · rw [raw, if_pos hc, hb]
    have : Ak.sizeOf a = sizeOf a := by
      unfold Ak.sizeOf sizeOf
      rcases hc with e | e | e <;> rw [e] <;> rfl
    rw [this]
    refine ⟨rfl, ?_⟩
    have h5 : sizeOf a = 5 ∨ sizeOf a = 7 := by
      unfold sizeOf
      rcases hc with e | e | e <;> rw [e] <;> simp
    rw [this] at hb
    omega
  · rw [raw, if_neg (by omega), if_pos hc, List.length_take]
    have : 6 ≤ Ak.sizeOf a := by
      have hm := ((Ak.formed_iff a).1 hf).2.2.2.2.2.2.1.1
      unfold Ak.sizeOf
      rcases hc with e | e <;> rw [e] <;> simp <;> omega
    have h5 : sizeOf a = 5 := by
      unfold sizeOf
      rcases hc with e | e <;> rw [e] <;> rfl
    rw [h5]
    omega
/-- There and back, from data. -/
theorem back {a : AskP} {l : List Int} (h : ok a l = true) : part a (st (raw a l)) = l ∧ partOk a (st (raw a l)) = true ∧ norm a (st (raw a l)) = true := by
  obtain ⟨hr, hl, hd⟩ := ok_right h
  have hp : part a (st (raw a l)) = l ∧ partOk a (st (raw a l)) = true := by
    rcases reads_cases hr with ⟨hc, h1, h2⟩ | ⟨hc, h1, h2⟩ | ⟨hc, h1⟩ | ⟨hc, h1⟩
    · obtain ⟨e, hb⟩ := load_bits (by omega) hd
      have hbk := Co.back1 l hb
      rw [Co.put_ok l hb, hl] at hbk
      have hs : Ak.sub (st (raw a l)) 2 = st (Co.bytes l) := by
        rw [raw, if_neg (by omega), if_neg (by omega), e]
        exact Ak.sub_mid [_] _ _ 2 rfl
      rw [part, partOk, if_pos (by omega), if_pos (by omega), if_pos (by omega), if_pos (by omega), hs]
      exact ⟨hbk.2.1, hbk.1⟩
    · obtain ⟨e, hb⟩ := load_words (by omega) hd
      have hbk := Tw.back1 l hb
      rw [show Tw.put l = Tw.bytes l by rw [Tw.put, hb]; rfl] at hbk
      have hs : Ak.sub (st (raw a l)) 2 = st (Tw.bytes l) := by
        rw [raw, if_neg (by omega), if_neg (by omega), e]
        exact Ak.sub_mid [_] _ _ 2 rfl
      rw [part, partOk, if_pos (by omega), if_neg (by omega), if_pos (by omega), if_neg (by omega), hs]
      exact ⟨hbk.2.1, hbk.1⟩
    · obtain rfl : l = [] := List.eq_nil_of_length_eq_zero (by omega)
      rw [part, partOk, if_neg (by omega), if_neg (by omega)]
      exact ⟨rfl, rfl⟩
    · obtain rfl : l = [] := List.eq_nil_of_length_eq_zero (by omega)
      rw [part, partOk, if_neg (by omega), if_neg (by omega)]
      exact ⟨rfl, rfl⟩
  refine ⟨hp.1, hp.2, ?_⟩
  rw [norm, hp.1, h, bl_st]
  simp
theorem norm_iff {a : AskP} {s : ByteArray} (h : norm a s = true) : ok a (part a s) = true ∧ st (raw a (part a s)) = s ∧ partOk a s = true ∧ 2 ≤ s.size ∧ s.size ≤ 253 := by
  rw [norm, Bool.and_eq_true, beq_iff_eq] at h
  have e : st (raw a (part a s)) = s := by rw [h.2, st_bl]
  have hb := (back h.1).2.1
  have hz := raw_size h.1
  rw [e] at hb
  have hsz : s.size = (raw a (part a s)).length := by rw [← st_size, e]
  exact ⟨h.1, e, hb, by omega, by omega⟩
theorem norm_make {a : AskP} {s : ByteArray} (h : norm a s = true) : ok a (data a s) = true ∧ make a (data a s) = bl s := by
  obtain ⟨h1, h2, _⟩ := norm_iff h
  rw [data, h]
  simp only [if_true]
  refine ⟨h1, ?_⟩
  rw [make, h1, if_pos rfl, ← h2, bl_st, h2]
theorem norm_not {a : AskP} {s : ByteArray} (h : (Ak.right a && decide (2 ≤ s.size) && partOk a s) = false) : norm a s = false := by
  cases hn : norm a s
  · rfl
  · obtain ⟨h1, _, h3, h4, _⟩ := norm_iff hn
    rw [(ok_right h1).1, h3, show decide (2 ≤ s.size) = true by simpa using h4] at h
    cases h
theorem norm_right {a : AskP} {s : ByteArray} (h : Ak.right a = false) : norm a s = false := norm_not (by rw [h]; rfl)
/-- A normal response begins with the function. -/
theorem norm_head {a : AskP} {s : ByteArray} (h : norm a s = true) : byteAt s 0 = a.fc := by
  obtain ⟨h1, h2, _⟩ := norm_iff h
  obtain ⟨t, e⟩ := raw_cons a (part a s)
  rw [← h2, e, Ak.byteAt_head]
  have := right_fc (ok_right h1).1
  exact Ak.ofNat_int a.fc (by omega) (by omega)
/-- An exception is one of its function alone. -/
theorem fault_kind {a : AskP} {fc c : Int} (hr : Ak.right a = true) (h : faultOk fc c = true) : (kind a (st (fault fc c)) == 2) = (a.fc == fc) := by
  have hf : fault fc c = [UInt8.ofNat (fc + 128).toNat, UInt8.ofNat c.toNat] := by rw [fault, h]; rfl
  simp only [faultOk, Bool.and_eq_true, decide_eq_true_eq] at h
  obtain ⟨⟨h1, h2⟩, h3⟩ := h
  have hc := (code_iff c).1 h3
  have b0 : byteAt (st (fault fc c)) 0 = fc + 128 := by
    rw [hf, Ak.byteAt_head]; exact Ak.ofNat_int _ (by omega) (by omega)
  have b1 : byteAt (st (fault fc c)) 1 = c := by
    have h := Ak.byteAt_mid [UInt8.ofNat (fc + 128).toNat] (UInt8.ofNat c.toNat) [] 1 rfl
    rw [List.cons_append, List.nil_append] at h
    rw [hf, h]
    exact Ak.ofNat_int _ (by omega) (by omega)
  have hfc := right_fc hr
  have hn : norm a (st (fault fc c)) = false := by
    cases hn : norm a (st (fault fc c))
    · rfl
    · have := norm_head hn
      rw [b0] at this
      omega
  have hs : (st (fault fc c)).size = 2 := by rw [hf]; rfl
  rw [kind, hn, hr, hs, b0, b1, h3]
  simp only [Bool.and_true, Bool.true_and, beq_self_eq_true]
  by_cases e : a.fc = fc
  · rw [e]; simp
  · rw [show (fc + 128 == a.fc + 128) = false by simp; omega, show (a.fc == fc) = false by simpa using e]
    rfl
theorem fault_not {fc c : Int} (h : faultOk fc c = false) : fault fc c = [] := by rw [fault, h]; rfl
theorem make_not {a : AskP} {l : List Int} (h : ok a l = false) : make a l = [] := by rw [make, h]; rfl
theorem make_ok {a : AskP} {l : List Int} (h : ok a l = true) : make a l = raw a l := by rw [make, h]; rfl
theorem kind_one (a : AskP) (s : ByteArray) : (kind a s == 1) = norm a s := by
  unfold kind
  cases norm a s
  · split <;> simp_all <;> split <;> simp_all
  · rfl
end Go.Proofs.Ytijnajlijdnbcaa.Rp
