/- THE WALK of disk.Read. -/
import Derived.Test.YtfndmphmlbfjlaaDkA
namespace Go.Proofs.Ytfndmphmlbfjlaa
open Go.RowKit

theorem conv_sec {w : World} {b : Nat} {ss : List (List UInt8)} (h : Secs w b ss) {i : Nat} {s : List UInt8} (hi : ss[i]? = some s) :
    (convert 41 9 (.slice (some ⟨b, i * 32, none⟩) 32 32)).run Try.prog w = .ok (.string ⟨s.toArray⟩) w := by
  have hl := h.len hi
  have := run_convert_bytes_back w _ _ _ ⟨b, i * 32, none⟩ 32 s Try.underlying41 Try.underlying5 Try.underlying9 (fun j hj => by
    rw [Addr.add_mid]; exact h.range hi j _ (by rw [byteCells_get, List.getElem?_eq_getElem hj]; rfl))
  rw [hl] at this
  exact this
section
variable (w : World) (g b cap : Nat) (d : Dk)
theorem read_no (i : Int) (hi : ¬ (0 ≤ i ∧ i < (d.ss.length : Int))) (h : DkAt w g b cap d) :
    Calls Try.prog 10 #[.pointer (some ⟨g, 0, none⟩), .int .i64 i] w fun e w' => e = .returned (.tuple #[.string ⟨#[]⟩, .bool false]) ∧ w = w' := by
  go_enter Try.func10, Try.ntmps10
  go_wp2_with (go_at_call 19; with_reducible refine (has_any w g b cap d i false (decide_eq_false hi) h).mono ?_; rintro e w' ⟨rfl, hw⟩; subst hw)
  go_ret2
  exact ⟨rfl, rfl⟩
theorem read_yes (i : Nat) (hi : i < d.ss.length) (h : DkAt w g b cap d) :
    Calls Try.prog 10 #[.pointer (some ⟨g, 0, none⟩), .int .i64 (i : Int)] w fun e w' => e = .returned (.tuple #[.string ⟨(d.get i).toArray⟩, .bool true]) ∧ w = w' := by
  have c0 := h.head.at 0
  have hcv := conv_sec h.secs (h.ok.get hi).1
  go_enter Try.func10, Try.ntmps10
  go_wp2_with (go_at_call 19; with_reducible refine (has_any w g b cap d i true (decide_eq_true ⟨by omega, by omega⟩) h).mono ?_; rintro e w' ⟨rfl, hw⟩; subst hw)
  go_ret2
  exact ⟨rfl, rfl⟩
end
end Go.Proofs.Ytfndmphmlbfjlaa
