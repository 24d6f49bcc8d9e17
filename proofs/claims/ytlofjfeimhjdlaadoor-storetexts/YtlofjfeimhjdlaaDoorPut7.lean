/- THE WALKS of slices.Clone over rows, of store.put. -/
import Derived.Test.YtlofjfeimhjdlaaDoorIns8
import Derived.Test.YtlofjfeimhjdlaaDoorJG7
namespace Go.Proofs.YtlofjfeimhjdlaaDoor
open Go.RowKit
set_option maxRecDepth 100000

theorem nilr_no (g o n cap : Nat) (w : World) : (binOp .eql 38 (.slice (some ⟨g, o, none⟩) n cap) (.slice none 0 0)).run Tryd.prog w = .ok (.bool false) w := by
  simp [binOp, go_sem, run_equal_slice_nil w 38 _ _ _ _ Tryd.underlying38]
theorem nilr_yes (w : World) : (binOp .eql 38 (.slice none 0 0) (.slice none 0 0)).run Tryd.prog w = .ok (.bool true) w := by
  simp [binOp, go_sem, run_equal_slice_nil w 38 _ _ _ _ Tryd.underlying38]
set_option maxHeartbeats 1000000 in
theorem rclone_any (w : World) (y : Value) (st : List Rr) (hl : st.length ≤ 1099511627776) (hy : (y = .slice none 0 0 ∧ st = []) ∨ ∃ g o c, y = .slice (some ⟨g, o, none⟩) st.length c ∧ ∀ j u, (rowsC st)[j]? = some u → w.cell? ⟨g, o + j, none⟩ = some u) :
    Calls Tryd.prog 73 #[y] w fun e w' => ∃ x, e = .returned x ∧ OwnR w' w.heap.size x st ∧ Below w.heap.size w w' := by
  rcases hy with ⟨rfl, rfl⟩ | ⟨g, o, c, rfl, hc⟩
  · have hy := nilr_yes w
    go_enter Tryd.func73, Tryd.ntmps73
    go_wp2
    go_ret
    exact ⟨_, rfl, World.ownsRow_nil _ _ _ _, Below.refl _ _⟩
  · obtain ⟨i0, hi, hz0, hz1, hz2⟩ := info_parts rowinfo
    have hown : (w.alloc (.cells #[] 29)).ownsRow w.heap.size 29 3 (.slice (some ⟨w.heap.size, 0, none⟩) 0 0) 0 [] :=
      ⟨rfl, .inr ⟨w.heap.size, 0, #[], rfl, Nat.le_refl _, Rw.fresh w _ _, Nat.le_refl _, Nat.zero_le _, rfl, rfl⟩⟩
    have hb0 := (Below.refl w.heap.size w).alloc (Nat.le_refl _) (.cells #[] 29)
    have hsz : w.heap.size ≤ (w.alloc (.cells #[] 29)).heap.size := hb0.size
    have hnews : ∀ j u, (rowsC st)[j]? = some u → (w.alloc (.cells #[] 29)).cell? ((⟨g, o, none⟩ : Addr).add j) = some u := fun j u hu => by
      rw [Addr.add_mid]
      have h1 := hc j u hu
      exact (hb0.cell (p := ⟨g, o + j, none⟩) (World.block_lt_of_cell? w _ h1)).trans h1
    obtain ⟨x, w', hrun, hx, hgr, _⟩ := run_append_own_at (P := Tryd.prog) (w.alloc (.cells #[] 29)) w.heap.size 38 38 29 i0 _ 3 40 Tryd.underlying38 hi hz0 hz1 hz2 rfl (by omega) _ 0 [] hown ⟨g, o, none⟩ st.length c (rowsC st) (rowsC_len st) hnews (rowsC_one st) (by unfold maxLen; omega) (by omega) hsz
    have hnn := nilr_no g o st.length c
    rw [Nat.zero_add, List.nil_append] at hx
    have HR := Lib.hid (And.intro (show OwnR w' w.heap.size x st from hx) (hb0.grown hgr hsz (fun k hk => by cases hk; exact Nat.le_refl _)))
    clear hgr hx hnews hown hb0 hsz
    obtain ⟨n, hn⟩ : ∃ n, n = st.length := ⟨_, rfl⟩
    rw [← hn] at hrun hnn hl ⊢
    clear hn hc hi hz0 hz1 hz2
    have hform : x = .slice none 0 0 ∨ ∃ g' m' c', x = .slice (some ⟨g', 0, none⟩) m' c' := by
      rcases HR.out.1.shape with ⟨h3, _⟩ | ⟨g, c, h3⟩
      · exact .inl h3
      · exact .inr ⟨g, _, c, h3⟩
    rcases hform with rfl | ⟨g', m', c', rfl⟩
    all_goals
      go_enter Tryd.func73, Tryd.ntmps73
      go_wp2_with (at_builtin; refine wpList_appE rfl _ _ 38 38 rfl _ _ rfl rfl hrun ?_)
      go_ret
      exact ⟨_, rfl, HR.out.1, HR.out.2⟩
/-- The blocks of a store. -/
def SS (sg : Nat) (x : Value) (k : Nat) : Prop := k = sg ∨ x.ownBlock = some k
section
variable {w w' : World} {base sg jg : Nat} {x : Value} {st : List Rr}
theorem SnAt.butS {S : Nat → Prop} (h : SnAt w base sg jg x st) (hb : But S w w') (h1 : ¬ S sg) (h2 : ∀ k, x.ownBlock = some k → ¬ S k) : SnAt w' base sg jg x st := ⟨h.head.butS hb h1, own_but h.row hb h2⟩
theorem SnAt.next (h : SnAt w base sg jg x st) (hb : Below w.heap.size w w') : SnAt w' base sg jg x st := h.butS (S := fun _ => False) (But.of_below _ hb) (fun h => h) (fun _ _ h => h)
theorem SnAt.ne (h : SnAt w base sg jg x st) : ∀ k, x.ownBlock = some k → k ≠ sg := own_ne h.row h.head (by decide)
theorem SnAt.lt (h : SnAt w base sg jg x st) : ∀ k, SS sg x k → k < w.heap.size := fun k hk => by
  rcases hk with rfl | hk
  · exact h.head.size
  · exact (h.row.lt k hk).2
end
/-- What has come of a row that was put. -/
abbrev PutAt (w : World) (base sg jg : Nat) (x : Value) (st : List Rr) (e : Ending) (w' : World) : Prop :=
  e = .returned (.tuple #[]) ∧ ∃ y, SnAt w' base sg jg y st ∧ But (SS sg x) w w' ∧ Gone w x y
end Go.Proofs.YtlofjfeimhjdlaaDoor
