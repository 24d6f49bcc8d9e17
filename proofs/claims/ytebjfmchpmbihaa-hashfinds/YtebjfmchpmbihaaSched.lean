/- THE WALK of hash.schedule: the eighty words of a block. -/
import Derived.Test.YtebjfmchpmbihaaRot
import Derived.Test.YtebjfmchpmbihaaKit
import Derived.StillTailTactics
import Derived.IntWalk
namespace Go.Proofs.Ytebjfmchpmbihaa
open Go.RowKit

theorem zero80 (w : World) : (zeroValue 46).run Try.prog w = .ok (.agg (wa [] 0)) w := by kernel_rfl
theorem wa_zero (s : List UInt8) : wa s 0 = wa [] 0 := rfl
theorem wa_info : (Try.prog.info? 46).map (·.size) = some 80 := by kernel_rfl
theorem wa_one (s : List UInt8) (k : Nat) : (wa s k).all (·.oneCell') = true := by
  apply all_oneCell_toArray
  intro v hv
  obtain ⟨x, _, rfl⟩ := List.mem_map.1 hv
  rfl
/-- What holds at the head of each round of both loops: k words are there. -/
def SchedAt (s : List UInt8) (w wr : World) (k : Nat) : Prop :=
  Below w.heap.size w wr ∧ Rw wr w.heap.size 46 (wa [] 0) ∧ Rw wr (w.heap.size + 1) 46 (wa s k)
theorem sched_start (s : List UInt8) (w : World) : SchedAt s w ((w.alloc (.cells (wa [] 0) 46)).alloc (.cells (wa [] 0) 46)) 0 :=
  ⟨((Below.refl _ _).alloc (Nat.le_refl _) _).alloc (by simp) _, (Rw.fresh w _ _).alloc _, by
    have := Rw.fresh (w.alloc (.cells (wa [] 0) 46)) 46 (wa [] 0)
    rw [World.size_alloc] at this
    exact this⟩
theorem sched_step {s : List UInt8} {w wr : World} {k : Nat} (h : SchedAt s w wr k) (hk : k < 80) (v : Int) (hv : v = wnext s k (wl s k)) :
    SchedAt s w (wr.setCell ⟨w.heap.size + 1, k, none⟩ (.int .u32 v)) (k + 1) := by
  obtain ⟨h1, h2, h3⟩ := h
  refine ⟨h1.setCell (by simp) _, h2.other (by simp) _, ?_⟩
  rw [← wa_set s k hk, ← hv]
  exact h3.put k _
theorem SchedAt.drew {s : List UInt8} {w wr : World} {k : Nat} (h : SchedAt s w wr k) : SchedAt s w wr.drew k := ⟨h.1.drew, h.2.1, h.2.2⟩
theorem SchedAt.room {s : List UInt8} {w wr : World} {k : Nat} (h : SchedAt s w wr k) (hk : k < 80) : ∃ u, wr.cell? ⟨w.heap.size + 1, k, none⟩ = some u := by
  rw [h.2.2.at k]
  exact ⟨_, Array.getElem?_eq_getElem (by rw [wa_size s k (by omega)]; exact hk)⟩
theorem SchedAt.got {s : List UInt8} {w wr : World} {k j : Nat} (h : SchedAt s w wr k) (hk : j < k) : wr.cell? ⟨w.heap.size + 1, j, none⟩ = some (.int .u32 ((wl s k).getD j 0)) := by
  rw [h.2.2.at j, wa_get s k j hk]

set_option maxHeartbeats 1000000 in
theorem sched_any (s : ByteArray) (hs : s.size = 64) (w : World) :
    Calls Try.prog 21 #[.string s] w fun e w' => e = .returned (.agg (wa s.data.toList 80)) ∧ Below w.heap.size w w' := by
  have hz := zero80
  go_enter Try.func21, Try.ntmps21
  go_wp2
  go_loopw [6] (fun i wr => ∃ k : Nat, k ≤ 16 ∧ i = .int .i64 k ∧ SchedAt s.data.toList w wr k) (fun i _ => 16 - (intOf i).toNat)
  case atStart => exact ⟨0, Nat.zero_le _, rfl, sched_start _ _⟩
  case round =>
    obtain ⟨k, hk, rfl, hat⟩ := hrel
    by_cases hlt : k < 16
    · go_wp2
      have q0 : IntKind.i64.wrap (4 * (k : Int)) = 4 * (k : Int) := IntWalk.i64_in _ (by omega)
      have q1 : IntKind.i64.wrap (4 * (k : Int) + 1) = 4 * (k : Int) + 1 := IntWalk.i64_in _ (by omega)
      have q2 : IntKind.i64.wrap (4 * (k : Int) + 2) = 4 * (k : Int) + 2 := IntWalk.i64_in _ (by omega)
      have q3 : IntKind.i64.wrap (4 * (k : Int) + 3) = 4 * (k : Int) + 3 := IntWalk.i64_in _ (by omega)
      have n0 : (4 * (k : Int)).toNat = 4 * k := by omega
      have n1 : (4 * (k : Int) + 1).toNat = 4 * k + 1 := by omega
      have n2 : (4 * (k : Int) + 2).toNat = 4 * k + 2 := by omega
      have n3 : (4 * (k : Int) + 3).toNat = 4 * k + 3 := by omega
      have l0 : (0 : Int) ≤ 4 * (k : Int) := by omega
      have l1 : (0 : Int) ≤ 4 * (k : Int) + 1 := by omega
      have l2 : (0 : Int) ≤ 4 * (k : Int) + 2 := by omega
      have l3 : (0 : Int) ≤ 4 * (k : Int) + 3 := by omega
      have g0 : (4 * (k : Int)) < 64 := by omega
      have g1 : (4 * (k : Int) + 1) < 64 := by omega
      have g2 : (4 * (k : Int) + 2) < 64 := by omega
      have g3 : (4 * (k : Int) + 3) < 64 := by omega
      have g4 : (k : Int) < 80 := by omega
      obtain ⟨u, hu⟩ := hat.room (by omega)
      have hf := hat.2.2.free k
      go_still_tail 31, (by kernel_rfl)
      change wpList _ _ _ _ _ wr.drew
      clear q0 q1 q2 q3
      go_wp2
      go_roundw
      case rel =>
        refine ⟨k + 1, by omega, by go_num, (sched_step hat (by omega) _ ?_).drew⟩
        rw [bt_eq, bt_eq, bt_eq, bt_eq, word_wrap]
        simp [wnext, hlt]
      case measure => simp [intOf]; omega
    · have hge : 16 ≤ k := by omega
      have hd : decide ((k : Int) < 16) = false := by simpa using (by omega : (16 : Int) ≤ k)
      go_wp2
      go_loopw [5] (fun i wr => ∃ k : Nat, 16 ≤ k ∧ k ≤ 80 ∧ i = .int .i64 k ∧ SchedAt s.data.toList w wr k) (fun i _ => 80 - (intOf i).toNat)
      case atStart => obtain rfl : k = 16 := by omega
                      exact ⟨16, Nat.le_refl _, by omega, rfl, hat⟩
      case round =>
        clear hat hlt hk hge hd
        obtain ⟨k, hk1, hk, rfl, hat⟩ := hrel
        by_cases hlt : k < 80
        · go_wp2
          have q0 : IntKind.i64.wrap ((k : Int) - 3) = (k : Int) - 3 := IntWalk.i64_in _ (by omega)
          have q1 : IntKind.i64.wrap ((k : Int) - 8) = (k : Int) - 8 := IntWalk.i64_in _ (by omega)
          have q2 : IntKind.i64.wrap ((k : Int) - 14) = (k : Int) - 14 := IntWalk.i64_in _ (by omega)
          have q3 : IntKind.i64.wrap ((k : Int) - 16) = (k : Int) - 16 := IntWalk.i64_in _ (by omega)
          have n0 : ((k : Int) - 3).toNat = k - 3 := by omega
          have n1 : ((k : Int) - 8).toNat = k - 8 := by omega
          have n2 : ((k : Int) - 14).toNat = k - 14 := by omega
          have n3 : ((k : Int) - 16).toNat = k - 16 := by omega
          have l0 : (0 : Int) ≤ (k : Int) - 3 := by omega
          have l1 : (0 : Int) ≤ (k : Int) - 8 := by omega
          have l2 : (0 : Int) ≤ (k : Int) - 14 := by omega
          have l3 : (0 : Int) ≤ (k : Int) - 16 := by omega
          have g0 : (k : Int) - 3 < 80 := by omega
          have g1 : (k : Int) - 8 < 80 := by omega
          have g2 : (k : Int) - 14 < 80 := by omega
          have g3 : (k : Int) - 16 < 80 := by omega
          have m0 : (3 : Int) ≤ (k : Int) := by omega
          have m1 : (8 : Int) ≤ (k : Int) := by omega
          have m2 : (14 : Int) ≤ (k : Int) := by omega
          have m3 : (16 : Int) ≤ (k : Int) := by omega
          have g4 : (k : Int) < 80 := by omega
          obtain ⟨u, hu⟩ := hat.room (by omega)
          have c0 := hat.got (j := k - 3) (by omega)
          have c1 := hat.got (j := k - 8) (by omega)
          have c2 := hat.got (j := k - 14) (by omega)
          have c3 := hat.got (j := k - 16) (by omega)
          have hf := hat.2.2.free k
          refine wp_region_still_tail 22 (by kernel_rfl) (by kernel_rfl) ?_
          simp only [List.take_succ_cons, List.take_zero, List.drop_succ_cons, List.drop_zero]
          repeat still_step
          still_call ((rotl1 _ _).mono fun _ _ h => ⟨h.1, h.2.symm⟩)
          repeat still_step
          refine wpStill_nil ?_
          change wpList _ _ _ _ _ wr.drew
          clear q0 q1 q2 q3
          go_wp2
          go_roundw
          case rel =>
            refine ⟨k + 1, by omega, by omega, by go_num, (sched_step hat (by omega) _ ?_).drew⟩
            simp [wnext, xor4, Nat.not_lt.2 hk1]
          case measure => simp [intOf]; omega
        · obtain rfl : k = 80 := by omega
          go_wp2_with (first
            | (refine wpList_load_row rfl 46 _ rfl (w.heap.size + 1) rfl 46 (wa s.data.toList 80) (0, 0) _ hat.2.2 Try.underlying46 rfl (by rw [wa_size _ _ (Nat.le_refl _)]; exact wa_info) ?_)
            | (refine wpList_store_whole rfl 46 _ _ rfl rfl w.heap.size (wa s.data.toList 80) rfl rfl hat.2.1 (by rw [wa_size _ _ (Nat.le_refl _), wa_size _ _ (Nat.zero_le _)]) (by rw [wa_size _ _ (Nat.le_refl _)]; exact wa_info) (wa_one _ _) ?_; intro w2 hw2 _ _ hbw))
          exact bodyPost_ret (results_cell_row rfl _ w2 w.heap.size 46 (wa s.data.toList 80) (0, 0) _ rfl hw2 Try.underlying46 rfl (by rw [wa_size _ _ (Nat.le_refl _)]; exact wa_info)) rfl ⟨rfl, hbw _ _ (Nat.le_refl _) hat.1⟩
end Go.Proofs.Ytebjfmchpmbihaa
