/- THE WALK of slices.Delete over rows. -/
import Derived.Test.YtlofjfeimhjdlaaDoorSl7
import Derived.Deep.RegionLaw
namespace Go.Proofs.YtlofjfeimhjdlaaDoor
open Go.RowKit
set_option maxRecDepth 100000

set_option maxHeartbeats 1000000 in
theorem del_any (base g n cap : Nat) (st : List Rr) (i : Nat) (w : World) (h : OwnR w base (.slice (some ⟨g, 0, none⟩) n cap) st) (hi : i < n) :
    Calls Tryd.prog 61 #[.slice (some ⟨g, 0, none⟩) n cap, .int .i64 (i : Int), .int .i64 ((i : Int) + 1)] w fun e w' =>
      e = .returned (.slice (some ⟨g, 0, none⟩) (n - 1) cap) ∧ OwnR w' base (.slice (some ⟨g, 0, none⟩) (n - 1) cap) (st.take i ++ st.drop (i + 1)) ∧ But (fun k => k = g) w w' := by
  obtain ⟨hn, hbg, hc1, hc2, rest, hL, hlen⟩ := h.lw
  unfold maxLen at hc2
  obtain ⟨i0, hi0, hz0, hz1, hz2⟩ := info_parts rowinfo
  have hstl : (rowsC st).length = n * 3 := by rw [rowsC_len, hn]
  have hnews : rowsC (st.drop (i + 1)) = ((rowsC st ++ rest).drop ((i + 1) * 3)).take ((n - (i + 1)) * 3) := by
    rw [rowsC_drop, List.drop_append_of_le_length (by omega), List.take_append_of_le_length (by rw [List.length_drop]; omega), List.take_of_length_le (by rw [List.length_drop]; omega)]
  have hnl : (rowsC (st.drop (i + 1))).length = (n - (i + 1)) * 3 := by rw [rowsC_len, List.length_drop, hn]
  have hR := hL
  -- behind the append
  obtain ⟨L1, hL1⟩ : ∃ L1, L1 = (rowsC st ++ rest).take (i * 3) ++ rowsC (st.drop (i + 1)) ++ (rowsC st ++ rest).drop (i * 3 + (rowsC (st.drop (i + 1))).length) := ⟨_, rfl⟩
  have hl1 : L1.length = cap * 3 := by rw [hL1]; simp only [List.length_append, List.length_take, List.length_drop, hnl] at hlen ⊢; omega
  have hA : ∀ (v : World) (ty : TypeId) (a : Addr) (c : Nat), Lw v g (rowsC st ++ rest) → ((n - (i + 1)) * 3 = 0 ∨ a = ⟨g, (i + 1) * 3, none⟩) → (Builtin.append_ #[38, 38] ty #[.slice (some ⟨g, 0, none⟩) i cap, .slice (some a) (n - (i + 1)) c]).run Tryd.prog v = .ok (.slice (some ⟨g, 0, none⟩) (n - 1) cap) (v.setRow g L1.toArray) := fun v ty a c hv ha => by
    have := run_append_room (P := Tryd.prog) v 38 ty 29 i0 Tryd.underlying38 hi0 g i cap (rowsC st ++ rest).toArray hv a (n - (i + 1)) c (rowsC (st.drop (i + 1))) (by rw [hnl, hz1]) (fun j u hu => by
      have hj : j < (n - (i + 1)) * 3 := by rw [← hnl]; exact (List.getElem?_eq_some_iff.1 hu).1
      rcases ha with ha | rfl
      · omega
      · rw [Addr.add_mid, hv.at]
        rw [hnews, List.getElem?_take, if_pos hj, List.getElem?_drop] at hu
        exact hu) (rowsC_one _) (by omega) (by rw [hz1, List.size_toArray, hnl]; omega)
    rw [this, show i + (n - (i + 1)) = n - 1 by omega, hz1, hL1]
  -- behind the clear
  obtain ⟨L2, hL2⟩ : ∃ L2, L2 = splice L1 ((n - 1) * 3) (Builtin.zeroCells (Value.agg #[.string ⟨#[]⟩, .string ⟨#[]⟩, .bool false]).cells 1).toList := ⟨_, rfl⟩
  have hC : ∀ (v : World) (ty : TypeId) (o m c : Nat), Lw v g L1 → o = (n - 1) * 3 → m = 1 → (Builtin.clear_ #[38] ty #[.slice (some ⟨g, o, none⟩) m c]).run Tryd.prog v = .ok (.tuple #[]) (v.setRow g L2.toArray) := fun v ty o m c hv ho hm => by
    subst ho hm
    rw [hL2]
    exact run_clearW Tryd.underlying38 hi0 hv _ 1 c _ hz0 ty (by decide) (by rw [hl1]; show (n - 1) * 3 + 1 * 3 ≤ _; omega) (by intro u hu; simp [Value.cells] at hu; rcases hu with rfl | rfl | rfl <;> rfl)
  have hfin : ∀ v : World, But (fun k => k = g) w v → Lw v g L2 → OwnR v base (.slice (some ⟨g, 0, none⟩) (n - 1) cap) (st.take i ++ st.drop (i + 1)) := fun v hb hv => by
    have e : L2 = rowsC (st.take i ++ st.drop (i + 1)) ++ L2.drop ((n - 1) * 3) := by
      have e2 : L2.take ((n - 1) * 3) = rowsC (st.take i ++ st.drop (i + 1)) := by
        rw [hL2]
        unfold splice
        rw [List.take_append_of_le_length (by rw [List.length_take, hl1]; omega), List.take_take, Nat.min_self, hL1, rowsC_app, rowsC_take, List.take_append_of_le_length (l₁ := rowsC st) (by omega)]
        rw [List.take_append_of_le_length (by simp only [List.length_append, List.length_take, hnl, hstl]; omega), List.take_of_length_le (by simp only [List.length_append, List.length_take, hnl, hstl]; omega)]
      rw [← e2, List.take_append_drop]
    rw [e] at hv
    refine OwnR.of (by simp only [List.length_append, List.length_take, List.length_drop]; omega) hbg (by omega) (by unfold maxLen; omega) hv ?_
    rw [← e, hL2]
    rw [length_splice _ _ _ (by rw [hl1, Array.length_toList, size_zeroCells]; show (n - 1) * 3 + 1 * 3 ≤ _; omega), hl1]
  have HN := Lib.hid hn
  have HF := Lib.hid hfin
  clear hn hfin hnews hL1 hL2 hlen hstl hnl hR hz0 hz1 hz2 hi0
  have hmx : Tryd.prog.follows .mixedOrders = true := by kernel_rfl
  have hic : i ≤ cap := by omega
  have hin : (i : Int) + 1 ≤ (n : Int) := by omega
  have hcn : (cap : Int) ≤ 9223372036854775807 := by omega
  have hitn : ((i : Int) + 1).toNat = i + 1 := by omega
  have hi0' : (0 : Int) ≤ (i : Int) + 1 := by omega
  have hcc' : n ≤ cap := hc1
  have hb0 : But (fun k => k = g) w ((w.drew.setRow g L1.toArray).setRow g L2.toArray) :=
    (((But.refl _ w).drew.trans (But.of_grown (Lw.grown (w := w.drew) L1.toArray) (fun k e => by cases e; rfl))).trans (But.of_grown (Lw.grown (w := w.drew.setRow g L1.toArray) L2.toArray) (fun k e => by cases e; rfl)))
  have hL1w : Lw (w.drew.setRow g L1.toArray) g L1 := Lw.set (Rw.drew hL) L1
  have hL2w : Lw ((w.drew.setRow g L1.toArray).setRow g L2.toArray) g L2 := hL1w.set L2
  have HR := Lib.hid (And.intro hb0 (HF.out _ hb0 hL2w))
  have hne : ((i : Int) == (i : Int) + 1) = false := by rw [beq_eq_false_iff_ne]; omega
  clear hb0 hL2w HF
  by_cases hcc : cap = i + 1
  · obtain rfl : n = i + 1 := by omega
    subst hcc
    have hii : (i : Int) ≤ (i : Int) + 1 := by omega
    have hC1 := fun ty c => hC (w.drew.setRow g L1.toArray) ty (i * 3) 1 c hL1w (by omega) rfl
    clear hC
    go_enter Tryd.func61, Tryd.ntmps61
    go_upto_region 5 with fail
    go_region_law (refine step_appE rfl (.tmp 22) (.tmp 25) 38 38 rfl (.slice (some ⟨g, 0, none⟩) i (i + 1)) (.slice (some ⟨g, 0, none⟩) (i + 1 - (i + 1)) (i + 1 - (i + 1))) (by go_simp) (by go_simp) (hA _ _ _ _ hL (Or.inl (by omega))) ?_)
    go_wp2
    go_ret
    exact ⟨rfl, HR.out.2, HR.out.1⟩
  · have hC1 := fun ty c => hC (w.drew.setRow g L1.toArray) ty ((n - 1) * 3) (n - (n - 1)) c hL1w rfl (by omega)
    clear hC
    go_enter Tryd.func61, Tryd.ntmps61
    go_upto_region 5 with fail
    go_region_law (refine step_appE rfl (.tmp 22) (.tmp 25) 38 38 rfl (.slice (some ⟨g, 0, none⟩) i cap) (.slice (some ⟨g, (i + 1) * 3, none⟩) (n - (i + 1)) (cap - (i + 1))) (by go_simp) (by go_simp) (hA _ _ _ _ hL (Or.inr rfl)) ?_)
    go_wp2
    go_ret
    exact ⟨rfl, HR.out.2, HR.out.1⟩
end Go.Proofs.YtlofjfeimhjdlaaDoor
