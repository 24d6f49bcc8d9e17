/- THE WALK of digit.padded. -/
import Derived.Test.YtlofjfeimhjdlaaDoorRow
import Derived.Test.YtlofjfeimhjdlaaDoorDig
import Derived.Laws.BitsLemmas
import Derived.OwnWalk
namespace Go.Proofs.YtlofjfeimhjdlaaDoor
open Go.RowKit

def padB (l : List UInt8) : Bool := decide (1 < l.length) && l[0]? == some 48
theorem padded_any (s : ByteArray) (hs : s.size ≤ maxLen) (w : World) :
    Calls Tryd.prog 80 #[.string s] w fun e w' => e = .returned (.bool (padB s.data.toList)) ∧ w = w' := by
  unfold maxLen at hs
  by_cases h : 1 < s.size
  · have h0 : s.data.toList[0]? = some s[0] := by
      rw [List.getElem?_eq_getElem (by simpa using (by omega : 0 < s.size))]; rfl
    have e : padB s.data.toList = (s[0] == 48) := by
      unfold padB; rw [h0]; simp [h]
    have e2 : ((s[0].toNat : Int) == 48) = (s[0] == 48) := by
      rw [Bool.eq_iff_iff]; simp [← UInt8.toNat_inj]; omega
    have E := Lib.hid e
    clear e h0
    go_enter Tryd.func80, Tryd.ntmps80
    go_wp2
    go_ret
    exact ⟨by rw [E.out]; rfl, rfl⟩
  · have e : padB s.data.toList = false := by
      unfold padB; simp [h]
    go_enter Tryd.func80, Tryd.ntmps80
    go_wp2
    go_ret
    exact ⟨rfl, rfl⟩

theorem padded_to (s : ByteArray) (b : Bool) (h : b = padB s.data.toList) (hs : s.size ≤ maxLen) (w : World) :
    Calls Tryd.prog 80 #[.string s] w fun e w' => e = .returned (.bool b) ∧ w = w' := by
  rw [h]; exact padded_any s hs w
end Go.Proofs.YtlofjfeimhjdlaaDoor
