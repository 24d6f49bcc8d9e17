/- A SECTOR as a string. -/
import Derived.Test.YtlofjfeimhjdlaaDoorDkA6
namespace Go.Proofs.YtlofjfeimhjdlaaDoor
open Go.RowKit

theorem conv_sec {w : World} {b : Nat} {ss : List (List UInt8)} (h : Secs w b ss) {i : Nat} {s : List UInt8} (hi : ss[i]? = some s) :
    (convert 44 9 (.slice (some ⟨b, i * 32, none⟩) 32 32)).run Tryd.prog w = .ok (.string ⟨s.toArray⟩) w := by
  have hl := h.len hi
  have := run_convert_bytes_back w _ _ _ ⟨b, i * 32, none⟩ 32 s Tryd.underlying44 Tryd.underlying5 Tryd.underlying9 (fun j hj => by
    rw [Addr.add_mid]; exact h.range hi j _ (by rw [byteCells_get, List.getElem?_eq_getElem hj]; rfl))
  rw [hl] at this
  exact this
end Go.Proofs.YtlofjfeimhjdlaaDoor
