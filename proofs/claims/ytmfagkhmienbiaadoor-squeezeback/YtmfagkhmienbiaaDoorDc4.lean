/- digit.Dec, its answer named; the table of the powers of ten carried over calls. -/
import Derived.Test.YtmfagkhmienbiaaDoorDec4
import Derived.Test.YtmfagkhmienbiaaDoorAp4
import Derived.Lib.AppendIntMem
namespace Go.Proofs.YtmfagkhmienbiaaDoor
open Go.RowKit

abbrev Pow (w : World) : Prop := Lib.TabBelow Tryd.prog w.heap.size w "internal/strconv.uint64pow10" .u64 Lib.pow10Tab
theorem Pow.on {w v : World} (h : Pow w) (hb : Below w.heap.size w v) : Pow v := fun x hx => h x (below_step hb hx)
theorem dec_to (m : Int) (n : Nat) (d : ByteArray) (hm : m = n) (hd : d = ⟨(Lib.decDigits n).toArray⟩) (h : n ≤ 1073741824) (w : World) (hP : Pow w) :
    Calls Tryd.prog 14 #[.int .i64 m] w fun e w' => e = .returned (.string d) ∧ Below w.heap.size w w' := by
  rw [hm, hd]; exact dec_in n h w (hP w (Below.refl _ _))
theorem nDigits_3 {n : Nat} (h : n < 1000) : Lib.nDigits n ≤ 3 := by
  have hp := Lib.nDigits_pos n
  by_cases h1 : n < 10
  · rw [Lib.nDigits_small h1]; omega
  · rw [Lib.nDigits_big h1]
    by_cases h2 : n / 10 < 10
    · rw [Lib.nDigits_small h2]; omega
    · rw [Lib.nDigits_big h2, Lib.nDigits_small (by omega)]; omega
theorem dec_get (n : Nat) (h : n < 1000) : ∃ d : ByteArray, d = ⟨(Lib.decDigits n).toArray⟩ ∧ 1 ≤ d.size ∧ d.size ≤ 3 := by
  refine ⟨_, rfl, ?_, ?_⟩
  · show 1 ≤ (Lib.decDigits n).length
    rw [Lib.decDigits_length]; exact Lib.nDigits_pos n
  · show (Lib.decDigits n).length ≤ 3
    rw [Lib.decDigits_length]; exact nDigits_3 h
end Go.Proofs.YtmfagkhmienbiaaDoor
