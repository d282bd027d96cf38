/- A text as the list of its bytes. Conditions: none. -/
import Derived.Test.YtdgnmoebahaaeaaLib
namespace Go.Proofs.Ytdgnmoebahaaeaa.Str
theorem loop_eq (s : ByteArray) : ∀ (n i : Nat) (r : List UInt8), s.size - i = n → ByteArray.toList.loop s i r = r.reverse ++ (bl s).drop i := by
  intro n
  induction n with
  | zero =>
    intro i r h
    rw [ByteArray.toList.loop, if_neg (by omega), List.drop_of_length_le (by rw [bl_length]; omega), List.append_nil]
  | succ n ih =>
    intro i r h
    have hi : i < (bl s).length := by rw [bl_length]; omega
    have hg : s.get! i = (bl s)[i] := by
      have hi' : i < s.data.size := by rw [bl_length] at hi; exact hi
      show s.data[i]! = s.data.toList[i]
      rw [getElem!_pos s.data i hi', Array.getElem_toList]
    rw [ByteArray.toList.loop, if_pos (by omega), ih (i + 1) _ (by omega), List.reverse_cons, List.append_assoc, hg, List.drop_eq_getElem_cons hi]
    rfl
theorem toList_eq (s : ByteArray) : s.toList = bl s := by
  have := loop_eq s _ 0 [] rfl
  rw [List.reverse_nil, List.nil_append, List.drop_zero] at this
  exact this
end Go.Proofs.Ytdgnmoebahaaeaa.Str
