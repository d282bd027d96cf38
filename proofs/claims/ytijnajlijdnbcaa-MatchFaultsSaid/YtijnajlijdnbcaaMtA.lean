/- Which request a response answers, in plain words. Conditions: none. -/
import Derived.Test.YtijnajlijdnbcaaPnA
import Derived.Test.YtijnajlijdnbcaaRpA
import Derived.Test.YtijnajlijdnbcaaMbA
namespace Go.Proofs.Ytijnajlijdnbcaa.Mt
set_option linter.unusedVariables false
open Go.RowKit
def hits (l : List PendP) (f : FrameP) : Bool :=
  decide (0 ≤ Pn.find l f.id) && ((l.getD (Pn.find l f.id).toNat Pn.zero).un == f.unit && !(Rp.kind (l.getD (Pn.find l f.id).toNat Pn.zero).ak f.pdu == 0))
def find (l : List PendP) (f : FrameP) : Int := if hits l f then Pn.find l f.id else 0
def back (p : PendP) (f : FrameP) : FrameP := ⟨p.id, p.un, f.pdu⟩
def faultOk (p : PendP) (c : Int) : Bool := Rp.faultOk p.ak.fc c
def fault (p : PendP) (c : Int) : FrameP := if faultOk p c then ⟨p.id, p.un, st (Rp.fault p.ak.fc c)⟩ else Mb.zero

theorem hits_iff (l : List PendP) (f : FrameP) : hits l f = true ↔ 0 ≤ Pn.find l f.id ∧ (l.getD (Pn.find l f.id).toNat Pn.zero).un = f.unit ∧ Rp.kind (l.getD (Pn.find l f.id).toNat Pn.zero).ak f.pdu ≠ 0 := by
  simp [hits]
/-- What answers a request has its function, or that and 128. -/
theorem kind_head {a : AskP} {s : ByteArray} (h : Rp.kind a s ≠ 0) : 2 ≤ s.size ∧ byteAt s 0 % 128 = a.fc ∧ Ak.right a = true := by
  unfold Rp.kind at h
  split at h
  · rename_i hn
    obtain ⟨h1, _, _, h2, _⟩ := Rp.norm_iff hn
    have hr := (Rp.ok_right h1).1
    have := Rp.right_fc hr
    rw [Rp.norm_head hn]
    exact ⟨h2, by omega, hr⟩
  · split at h
    · rename_i hf
      simp only [Bool.and_eq_true, beq_iff_eq] at hf
      obtain ⟨⟨⟨hr, hs⟩, hb⟩, _⟩ := hf
      have := Rp.right_fc hr
      rw [hb]
      exact ⟨by omega, by omega, hr⟩
    · exact absurd rfl h
theorem find_get (l : List PendP) (x : Int) (h : 0 ≤ Pn.find l x) : (Pn.find l x).toNat < l.length ∧ (l.getD (Pn.find l x).toNat Pn.zero).o = x := by
  have hr := Pn.find_range l x
  refine ⟨by omega, ?_⟩
  induction l with
  | nil => simp [Pn.find] at h
  | cons p l ih =>
    unfold Pn.find at h ⊢
    by_cases e : p.o = x
    · rw [if_pos e]; simpa using e
    · rw [if_neg e] at h ⊢
      by_cases h0 : Pn.find l x < 0
      · rw [if_pos h0] at h; omega
      · rw [if_neg h0] at h ⊢
        have := ih (by omega) (Pn.find_range l x)
        rw [show (Pn.find l x + 1).toNat = (Pn.find l x).toNat + 1 by omega]
        simpa using this
/-- Without the one that is answered a frame answers none. -/
theorem hits_drop {l : List PendP} {f : FrameP} (h : Pn.right l = true) : hits (Pn.drop l (Pn.find l f.id)) f = false := by
  have := Pn.find_none (Pn.drop_find (x := f.id) h)
  unfold hits
  rw [this]; rfl
theorem fault_two {fc c : Int} (h : Rp.faultOk fc c = true) : Rp.fault fc c = [UInt8.ofNat (fc + 128).toNat, UInt8.ofNat c.toNat] := by
  unfold Rp.fault; rw [if_pos h]
theorem fault_range {fc c : Int} (h : Rp.faultOk fc c = true) : 1 ≤ fc ∧ fc ≤ 127 ∧ 1 ≤ c ∧ c ≤ 11 := by
  simp only [Rp.faultOk, Bool.and_eq_true, decide_eq_true_iff] at h
  have := (Rp.code_iff c).1 h.2
  omega
theorem fault_code {fc c : Int} (h : Rp.faultOk fc c = true) : byteAt (st (Rp.fault fc c)) 1 = c ∧ (st (Rp.fault fc c)).size = 2 := by
  have hr := fault_range h
  rw [fault_two h]
  refine ⟨?_, rfl⟩
  show (((UInt8.ofNat c.toNat).toNat : Nat) : Int) = c
  rw [UInt8.toNat_ofNat']
  omega
/-- The exception to a request answers it. -/
theorem fault_hits {p : PendP} {c : Int} (hr : Ak.right p.ak = true) (h : faultOk p c = true) : hits [p] ⟨p.o, p.un, st (Rp.fault p.ak.fc c)⟩ = true := by
  rw [hits_iff]
  have e : Pn.find [p] p.o = 0 := by simp [Pn.find]
  simp only [e]
  refine ⟨by omega, rfl, ?_⟩
  have hk := Rp.fault_kind hr h
  simp only [beq_self_eq_true, beq_iff_eq] at hk
  show Rp.kind p.ak _ ≠ 0
  rw [hk]; decide
end Go.Proofs.Ytijnajlijdnbcaa.Mt
