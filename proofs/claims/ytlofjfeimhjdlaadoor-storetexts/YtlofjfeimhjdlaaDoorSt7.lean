/- TEXTS as values; rows of texts. -/
import Derived.Test.YtlofjfeimhjdlaaDoorDkC6
import Derived.Deep.AppendLies
import Derived.Deep.RegionLaw
namespace Go.Proofs.YtlofjfeimhjdlaaDoor
open Go.RowKit

def str (s : List UInt8) : Value := .string ⟨s.toArray⟩
/-- Strings lie in block b. -/
def Strs (w : World) (b : Nat) (ss : List (List UInt8)) : Prop :=
  ∃ cur, Rw w b 9 cur ∧ ∀ (i : Nat) (s : List UInt8), ss[i]? = some s → cur[i]? = some (str s)
theorem Strs.lt {w : World} {b : Nat} {ss : List (List UInt8)} (h : Strs w b ss) : b < w.heap.size := by obtain ⟨cur, h1, _⟩ := h; exact h1.size
theorem Strs.same {w v : World} {b : Nat} {ss : List (List UInt8)} (h : Strs w b ss) (e : v.heap[b]? = w.heap[b]?) : Strs v b ss := by obtain ⟨cur, h1, h2⟩ := h; exact ⟨cur, e.trans h1, h2⟩
theorem strinfo : (Tryd.prog.info? 9).map (fun i => (i.zero, i.size, i.bytes)) = some (some (.string ⟨#[]⟩), 1, 16) := by kernel_rfl
theorem own_put {w : World} {base sz n : Nat} {e : TypeId} {v : Value} {xs : List Value} (h : w.ownsRow base e sz v n xs) {p : Addr} (hp : p.block < base) (u : Value) : (w.setCell p u).ownsRow base e sz v n xs := by
  refine ⟨h.1, ?_⟩
  rcases h.2 with h0 | ⟨g, cap, cur, a1, a2, a3, a4⟩
  · exact .inl h0
  · exact .inr ⟨g, cap, cur, a1, a2, (heap_setCell_other w p g u (by omega)).trans a3, a4⟩
end Go.Proofs.YtlofjfeimhjdlaaDoor
