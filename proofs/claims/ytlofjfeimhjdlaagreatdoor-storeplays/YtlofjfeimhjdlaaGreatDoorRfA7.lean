/- THE REFERENCE's DISK in memory; the walk of its NewDisk. -/
import Derived.Test.YtlofjfeimhjdlaaGreatDoorJn7
import Derived.Deep.AppendLies
import Derived.Deep.RegionLaw
namespace Go.Proofs.YtlofjfeimhjdlaaGreatDoor
open Go.RowKit

def Dk.lft (d : Dk) : Int := if d.armed = true then (d.left : Int) else -1
/-- The reference's disk lies in blocks g (its fields) and b (its sectors). -/
structure RfAt (w : World) (g b cap : Nat) (d : Dk) : Prop where
  head : ∃ K : Nat, (d.armed = true → K = d.keep) ∧ Rw w g 36 #[.slice (some ⟨b, 0, none⟩) d.ss.length cap, .int .i64 d.lft, .int .i64 (K : Int), .bool d.down]
  strs : Strs w b d.ss
  ne : g ≠ b
  ok : d.Ok
  cap1 : d.ss.length ≤ cap
section
variable {w v : World} {g b cap : Nat} {d : Dk}
theorem RfAt.lt (h : RfAt w g b cap d) : g < w.heap.size ∧ b < w.heap.size := by
  obtain ⟨K, _, h1⟩ := h.head
  exact ⟨h1.size, h.strs.lt⟩
theorem RfAt.same (h : RfAt w g b cap d) (hg : v.heap[g]? = w.heap[g]?) (hb : v.heap[b]? = w.heap[b]?) : RfAt v g b cap d := by
  obtain ⟨K, h0, h1⟩ := h.head
  exact ⟨⟨K, h0, hg.trans h1⟩, h.strs.same hb, h.ne, h.ok, h.cap1⟩
theorem RfAt.next (h : RfAt w g b cap d) (hb : Below w.heap.size w v) : RfAt v g b cap d := h.same (hb.block g h.lt.1) (hb.block b h.lt.2)
theorem RfAt.but {g' b' : Nat} (h : RfAt w g b cap d) (hb : But2 g' b' w v) (h1 : g ≠ g') (h2 : g ≠ b') (h3 : b ≠ g') (h4 : b ≠ b') : RfAt v g b cap d :=
  h.same (hb.block g h.lt.1 h1 h2) (hb.block b h.lt.2 h3 h4)
theorem RfAt.drew (h : RfAt w g b cap d) : RfAt w.drew g b cap d := h.same rfl rfl
end
abbrev zsec : ByteArray := ⟨(List.replicate 32 0).toArray⟩
theorem mk32 (w : World) : (Instr.makeSlice 64 (.int .i64 32) (.int .i64 32)).run Tryz.prog w = .ok (.slice (some ⟨w.heap.size, 0, none⟩) 32 32) (w.alloc (.cells (byteRow (List.replicate 32 0)) 5)) := by kernel_rfl
theorem cv32 (w : World) : (convert 64 9 (.slice (some ⟨w.heap.size, 0, none⟩) 32 32)).run Tryz.prog (w.alloc (.cells (byteRow (List.replicate 32 0)) 5)) = .ok (.string zsec) (w.alloc (.cells (byteRow (List.replicate 32 0)) 5)) :=
  conv_row w.heap.size 32 (List.replicate 32 0) (Rw.fresh w _ _) rfl
theorem cv32d (w : World) : (convert 64 9 (.slice (some ⟨w.heap.size, 0, none⟩) 32 32)).run Tryz.prog (w.alloc (.cells (byteRow (List.replicate 32 0)) 5)).drew = .ok (.string zsec) (w.alloc (.cells (byteRow (List.replicate 32 0)) 5)).drew :=
  conv_row w.heap.size 32 (List.replicate 32 0) (Rw.fresh w _ _).drew rfl
/-- What is known while the reference's disk is made: j strings are there. -/
structure NewAt (w wr : World) (v : Value) (j : Nat) : Prop where
  head : Rw wr w.heap.size 36 #[v, .int .i64 (-1), .int .i64 0, .bool false]
  row : wr.ownsRow (w.heap.size + 1) 9 1 v j (List.replicate j (.string zsec))
  bel : Below w.heap.size w wr
theorem newref_end {w wr : World} {v : Value} {k : Nat} (h : NewAt w wr v k) (h1 : 1 ≤ k) (h2 : k ≤ 2000) :
    ∃ b cap, Ending.returned (.pointer (some ⟨w.heap.size, 0, none⟩)) = .returned (.pointer (some ⟨w.heap.size, 0, none⟩)) ∧ w.heap.size ≤ b ∧ RfAt wr w.heap.size b cap (newDk k) ∧ Below w.heap.size w wr := by
  rcases h.row.2 with ⟨_, h0⟩ | ⟨g, cap, cur, a1, a2, a3, a4, a5, a6, a7⟩
  · omega
  · refine ⟨g, cap, rfl, by omega, ⟨⟨0, (fun h => by cases h), ?_⟩, ⟨cur, a3, fun i s hs => ?_⟩, by omega, newDk_ok k h1 h2, by simpa [newDk] using a4⟩, h.bel⟩
    · have := h.head
      rw [a1] at this
      simpa [newDk, Dk.lft] using this
    · simp only [newDk, List.getElem?_replicate] at hs
      split at hs
      · cases hs
        have e := congrArg (·[i]?) a7
        simp only [Nat.mul_one, List.getElem?_take, List.getElem?_replicate] at e
        rw [if_pos (by assumption), if_pos (by assumption)] at e
        rw [Array.getElem?_toList] at e
        exact e
      · cases hs
set_option maxHeartbeats 2000000 in
theorem newref_any (n : Int) (k : Nat) (hn : n = (k : Int)) (h1 : 1 ≤ k) (h2 : k ≤ 2000) (w : World) :
    Calls Tryz.prog 5 #[.int .i64 n] w fun e w' => ∃ b cap, e = .returned (.pointer (some ⟨w.heap.size, 0, none⟩)) ∧ w.heap.size ≤ b ∧ RfAt w' w.heap.size b cap (newDk k) ∧ Below w.heap.size w w' := by
  subst hn
  have a0 : (1 : Int) ≤ (k : Int) := by omega
  have a1 : (k : Int) ≤ 2000 := by omega
  obtain ⟨Z, hZ⟩ : ∃ Z : Array Value, Z = byteRow (List.replicate 32 0) := ⟨_, rfl⟩
  obtain ⟨S, hS⟩ : ∃ S : ByteArray, S = zsec := ⟨_, rfl⟩
  have hmk := mk32
  have hcv := cv32
  have hcvd := cv32d
  simp only [← hZ, ← hS] at hmk hcv hcvd
  have HS := Lib.hid hS
  clear hZ hS
  obtain ⟨i0, hi, hz0, hz1, hz2⟩ := info_parts strinfo
  have hs0 : NewAt w (w.alloc (.cells #[.slice none 0 0, .int .i64 (-1), .int .i64 0, .bool false] 36)) (.slice none 0 0) 0 :=
    ⟨Rw.fresh w _ _, World.ownsRow_nil _ _ _ _, (Below.refl _ w).alloc (Nat.le_refl _) _⟩
  go_enter Tryz.func5, Tryz.ntmps5
  go_wp2_with fail
  go_loopg [9] (k + 1) (fun g a wr => ∃ (j : Nat) (v : Value), a = .int .i64 (j : Int) ∧ j ≤ k ∧ g = k + 1 - j ∧ NewAt w wr v j)
  case atStart => exact ⟨0, _, rfl, by omega, by omega, hs0⟩
  case round =>
    obtain ⟨j, v, rfl, hj, hg, hN⟩ := hrel
    clear hs0
    by_cases hlt : j < k
    · have d1 : decide ((j : Int) < (k : Int)) = true := by simp; omega
      go_upto_region 4 with fail
      have hc := hN.head.at 0
      have hz := hN.head.size
      have hfr := hN.head.free 0
      have hc1 := ((hN.head.alloc (.cells Z 5)).at 0)
      have hc2 := (((hN.head.alloc (.cells Z 5)).alloc (.cells #[.string S] 9)).at 0)
      have hrow : ((wr.alloc (.cells Z 5)).alloc (.cells #[.string S] 9)).drew.ownsRow (w.heap.size + 1) 9 1 v j (List.replicate j (.string zsec)) := ((hN.row.alloc _).alloc _).drew
      have hnews : ∀ (q : Nat) (u : Value), [Value.string S][q]? = some u → ((wr.alloc (.cells Z 5)).alloc (.cells #[.string S] 9)).drew.cell? ((⟨wr.heap.size + 1, 0, none⟩ : Addr).add q) = some u := fun q u hq => by
        match q, hq with
        | 0, hq =>
          cases hq
          simp [Addr.add]
      have hone : ∀ u ∈ [Value.string S], u.oneCell' = true := by intro u hu; simp at hu; subst hu; rfl
      have hml : j + 1 ≤ maxLen := by unfold maxLen; omega
      have hR := (((hN.head.alloc (.cells Z 5)).alloc (.cells #[.string S] 9)).drew)
      have hB0 := ((hN.bel.alloc hN.bel.size (.cells Z 5)).alloc (by have := hN.bel.size; simp; omega) (.cells #[.string S] 9)).drew
      have hW0 : ((wr.alloc (.cells Z 5)).alloc (.cells #[.string S] 9)).drew.heap.size = wr.heap.size + 2 := by simp
      have hov : ∀ q, v.ownBlock = some q → w.heap.size + 1 ≤ q := fun q hq => (hN.row.lt q hq).1
      go_region_law (refine step_append_lies _ rfl (.tmp 15) (.tmp 18) 34 rfl (w.heap.size + 1) 9 i0 _ 1 16 Tryz.underlying34 hi hz0 hz1 hz2 rfl (by omega) v j (List.replicate j (.string zsec)) (by go_simp) hrow ⟨wr.heap.size + 1, 0, none⟩ 1 1 [.string S] (by go_simp) rfl hnews hone (by omega) hml (by omega) (by omega) (wr.heap.size + 2) hW0 ?_; intro g cap w' ho hgr hg hlt'; have hR2 := (hgr.block w.heap.size hR.size (fun e => absurd (hov _ e.symm) (by omega))).trans hR; have n0 := Rw.at hR2 0; have f0 := Rw.free hR2 0)
      all_goals
        go_wp2_with fail
        go_roundg (k + 1 - (j + 1))
        case measure => omega
        case rel =>
          refine ⟨j + 1, _, by go_num, by omega, rfl, ⟨Rw.put hR2 0 _, ?_, ?_⟩⟩
          · have e : List.replicate j (Value.string zsec) ++ [.string S] = List.replicate (j + 1) (.string zsec) := by rw [HS.out, ← List.replicate_succ']
            rw [e] at ho
            exact own_put ho (p := ⟨w.heap.size, 0, none⟩) (by simp) _
          · exact (hB0.grown hgr (by omega) (fun q hq => Nat.le_of_succ_le (hov q hq))).setCell (p := ⟨w.heap.size, 0, none⟩) (Nat.le_refl _) _
    · obtain rfl : j = k := by omega
      have d1 : decide ((j : Int) < (j : Int)) = false := by simp
      go_wp2_with fail
      go_ret
      exact newref_end hN h1 h2
end Go.Proofs.YtlofjfeimhjdlaaGreatDoor
