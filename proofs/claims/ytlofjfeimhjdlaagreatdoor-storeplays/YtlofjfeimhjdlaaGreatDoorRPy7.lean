/- THE WALK of the reference's Replay. -/
import Derived.Test.YtlofjfeimhjdlaaGreatDoorRTu7
import Derived.Test.YtlofjfeimhjdlaaGreatDoorSo7
namespace Go.Proofs.YtlofjfeimhjdlaaGreatDoor
open Go.RowKit
set_option maxRecDepth 100000

theorem own_shapeS {w : World} {base n : Nat} {x : Value} {xs : List Value} (h : w.ownsRow base 9 1 x n xs) : (x = .slice none 0 0 ∧ n = 0) ∨ ∃ g cap, x = .slice (some ⟨g, 0, none⟩) n cap := by
  rcases h.2 with h0 | ⟨g, cap, cur, a1, _⟩
  · exact .inl h0
  · exact .inr ⟨g, cap, a1⟩
theorem replay_take_len {ts : List (List UInt8)} (h : ∀ t ∈ ts, t.length ≤ 60000) (hn : ts.length ≤ 2000) (i : Nat) : (replay (ts.take i)).length ≤ 120000000 := by
  have h1 := replay_len 60000 (ts.take i) (fun t ht => h t (List.mem_of_mem_take ht))
  have h2 : (ts.take i).length ≤ 2000 := by rw [List.length_take]; omega
  calc (replay (ts.take i)).length ≤ (ts.take i).length * 60000 := h1
    _ ≤ 2000 * 60000 := Nat.mul_le_mul_right _ h2
set_option maxHeartbeats 2000000 in
theorem rreplay_any (w : World) (g b cap : Nat) (d : Dk) (ts : List (List UInt8)) (h : RfAt w g b cap d) (ho : Holds d.ss ts) :
    Calls Tryz.prog 17 #[.pointer (some ⟨g, 0, none⟩)] w fun e w' => ∃ y, e = .returned y ∧ OwnR w' w.heap.size y (replay ts) ∧ Below w.heap.size w w' := by
  have pS := rscan_any w g b cap d h
  rw [ho.scan_eq] at pS
  have hle := ho.le
  have hn2 := h.ok.n2
  have hM : ∀ t ∈ ts, t.length ≤ 60000 := fun t ht => by have := text_le ht; omega
  have hN : ts.length ≤ 2000 := by have := texts_le ts; omega
  obtain ⟨F, hF⟩ : ∃ F, F = (flat ts).length := ⟨_, rfl⟩
  simp only [← hF] at pS
  clear hF hle
  go_enter Tryz.func17, Tryz.ntmps17
  go_upto_region 3 with (go_at_call 12; (with_reducible refine pS.mono ?_); rintro e w1 ⟨v, rfl, hv, hb1⟩)
  clear pS
  rcases own_shapeS hv with ⟨rfl, h0⟩ | ⟨vg, vc, rfl⟩
  · have hts : ts = [] := List.length_eq_zero_iff.1 h0
    subst hts
    go_wp2
    go_loopw [5, 17] (fun l i wr => l = .slice none 0 0 ∧ i = .int .i64 0 ∧ wr = w1) (fun _ _ _ => 0)
    case atStart => exact ⟨rfl, rfl, rfl⟩
    case round =>
      obtain ⟨rfl, rfl, rfl⟩ := hrel
      go_wp2
      go_ret
      exact ⟨_, rfl, World.ownsRow_nil _ _ _ _, hb1⟩
  · obtain ⟨n, hn⟩ : ∃ n, n = ts.length := ⟨_, rfl⟩
    have hc : ∀ wx, Below w1.heap.size w1 wx → ∀ q, q < n → wx.cell? ⟨vg, q, none⟩ = some (.string (txStr ts q)) := fun wx hb q hq => own_cellS (own_next hv hb) q (by omega)
    have HN := Lib.hid hn
    rw [← hn] at hN ⊢
    clear hn hv
    go_wp2
    go_loopg [5, 17] (n + 1) (fun G l a wr => ∃ i : Nat, a = .int .i64 (i : Int) ∧ i ≤ n ∧ G = n + 1 - i ∧ OwnR wr w.heap.size l (replay (ts.take i)) ∧ Below w1.heap.size w1 wr)
    case atStart => exact ⟨0, rfl, Nat.zero_le _, by omega, World.ownsRow_nil _ _ _ _, Below.refl _ _⟩
    case round =>
      obtain ⟨i, rfl, hi, hG, hO, hb⟩ := hrel
      by_cases hlt : i < n
      · have t1 : decide ((i : Int) < (n : Int)) = true := by simp; omega
        have c0 := hc wr hb i hlt
        have hti : i < ts.length := by have := HN.out; omega
        have htx : (txStr ts i).size ≤ 60000 := tx_le hM i
        have pR := rrows_any (txStr ts i) (by omega) wr
        have hrt : replay (ts.take (i + 1)) = doT (replay (ts.take i)) (txStr ts i).data.toList := by
          have e : ts.take (i + 1) = ts.take i ++ [(txStr ts i).data.toList] := by
            rw [List.take_add_one, List.getElem?_eq_getElem hti]
            simp [txStr, List.getD_eq_getElem?_getD, List.getElem?_eq_getElem hti]
          rw [e, replay_snoc]
        have HR := Lib.hid hrt
        have hsr := replay_srt (ts.take i)
        have hl := replay_take_len hM (by rw [← HN.out]; exact hN) i
        generalize replay (ts.take i) = D at hO hsr hl HR
        generalize txStr ts i = S at c0 htx pR HR
        clear hrt hti hc
        cases hr : rread S.data.toList with
        | none =>
          rw [hr] at pR
          have hd : doT D S.data.toList = D := by unfold doT; rw [hr]
          rw [hd] at HR
          go_wp2_with (go_at_call 34; (with_reducible refine pR.mono ?_); rintro e w2 ⟨rfl, hb2⟩)
          go_roundg (n + 1 - (i + 1))
          case measure => omega
          case rel => exact ⟨i + 1, by go_num, by omega, rfl, by rw [HR.out]; exact hO.next hb2, bstep hb hb2⟩
        | some rs =>
          rw [hr] at pR
          obtain ⟨hrs, hok⟩ := rread_is hr
          have hd : doT D S.data.toList = turns D rs := by unfold doT; rw [hr]
          rw [hd] at HR
          have hrl : rs.length ≤ 60000 := by
            have := rtext_len rs
            rw [hrs] at this
            have h2 : S.data.toList.length = S.size := Array.length_toList
            omega
          have hw1 : w.heap.size ≤ w1.heap.size := hb1.size
          have hw2 : w1.heap.size ≤ wr.heap.size := hb.size
          have pT : ∀ v w2 x, OwnR w2 wr.heap.size x rs → Below wr.heap.size wr w2 → v = u5 → Calls Tryz.prog 35 #[v, x] w2 fun e w' => ∃ v', e = .returned v' ∧ OwnR w' w.heap.size v' (turns D rs) ∧ Below w2.heap.size w2 w' := fun v w2 x hx hb2 hv => by
            subst hv
            exact rturned_any w.heap.size _ D x rs w2 (hO.next hb2) (by have := hb2.size; omega) hsr hok (by omega) hx.isR
          go_wp2_with (first
            | (go_at_call 34; (with_reducible refine pR.mono ?_); rintro e w2 ⟨⟨x, rfl, hx⟩, hb2⟩)
            | (go_at_call 35; (with_reducible refine (pT _ _ _ hx hb2 rfl).mono ?_); rintro e w3 ⟨v', rfl, hv', hb3⟩))
          go_roundg (n + 1 - (i + 1))
          case measure => omega
          case rel => exact ⟨i + 1, by go_num, by omega, rfl, by rw [HR.out]; exact hv', bstep hb (bstep hb2 hb3)⟩
      · obtain rfl : i = n := by omega
        have t1 : decide ((i : Int) < (i : Int)) = false := by simp
        have e : ts.take i = ts := by rw [HN.out, List.take_length]
        rw [e] at hO
        go_wp2
        go_ret
        exact ⟨_, rfl, hO, bstep hb1 hb⟩
end Go.Proofs.YtlofjfeimhjdlaaGreatDoor
