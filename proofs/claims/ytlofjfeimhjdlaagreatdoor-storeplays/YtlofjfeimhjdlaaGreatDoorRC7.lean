/- THE WALK of the reference's Commit. -/
import Derived.Test.YtlofjfeimhjdlaaGreatDoorRS7
import Derived.Test.YtlofjfeimhjdlaaGreatDoorRP7
namespace Go.Proofs.YtlofjfeimhjdlaaGreatDoor
open Go.RowKit

/-- While it writes: k pieces are written. -/
structure RmAt (w : World) (g b : Nat) (d : Dk) (e : Nat) (wr : World) (gp k b' cap' : Nat) (dk : Dk) (ps : List (List UInt8)) : Prop where
  rf : RfAt wr g b' cap' dk
  eq : wrs d e ps = wrs dk (e + k) (ps.drop k)
  n : dk.ss.length = d.ss.length
  strs : Strs wr gp ps
  ge : w.heap.size ≤ gp
  bb : b' = b ∨ w.heap.size ≤ b'
  but : But2 g g w wr
set_option maxRecDepth 100000 in
set_option maxHeartbeats 2000000 in
theorem rcommit_any (w : World) (g b cap : Nat) (d : Dk) (s : ByteArray) (n e : Nat) (hn : n = (pieces s.data.toList).length) (he : (scan d.ss).2 = e) (hs : s.size ≤ 1099511627776) (h : RfAt w g b cap d) (hf : e + n ≤ d.ss.length) :
    Calls Tryz.prog 14 #[.pointer (some ⟨g, 0, none⟩), .string s] w fun r w' => r = .returned (.bool (wrs d e (pieces s.data.toList)).1) ∧
      (∃ b' cap', RfAt w' g b' cap' (wrs d e (pieces s.data.toList)).2 ∧ (b' = b ∨ w.heap.size ≤ b')) ∧ But2 g g w w' := by
  have pS := rscan_any w g b cap d h
  rw [he] at pS
  have pP := fun v => rpieces_any s hs v
  obtain ⟨ps, hps⟩ : ∃ ps, ps = pieces s.data.toList := ⟨_, rfl⟩
  rw [← hps] at hn pP ⊢
  rw [← hn] at pP
  have hn2 := h.ok.n2
  have HN := Lib.hid hn
  obtain ⟨f, hf2⟩ : ∃ f : Nat, f = d.ss.length - e := ⟨_, rfl⟩
  have hfi : (d.ss.length : Int) - (e : Int) = (f : Int) := by omega
  have d1 : decide ((f : Int) < (n : Int)) = false := by simp; omega
  have d1n : ¬ f < n := by omega
  have d1m : n ≤ f := by omega
  clear hn hf2 hps he
  go_enter Tryz.func14, Tryz.ntmps14
  go_upto_region 3 with (first
    | (go_at_call 12; (with_reducible refine pS.mono ?_); rintro r w1 ⟨v, rfl, _, hb1⟩)
    | (go_at_call 13; (with_reducible refine (pP _).mono ?_); rintro r w2 ⟨gp, cp, rfl, hgp, hS2, hb2⟩))
  have hbw : Below w.heap.size w w2 := hb1.trans (hb2.mono hb1.size)
  have h2 := h.next hbw
  obtain ⟨K, hK, hR⟩ := h2.head
  have c0 := hR.at 0
  have hC0 : RmAt w g b d e w2 gp 0 b cap d ps := ⟨h2, by rw [Nat.add_zero]; rfl, rfl, hS2, Nat.le_trans hb1.size hgp, .inl rfl, But2.of_below g g hbw⟩
  clear pS pP hK hS2 hgp hb1 hb2
  go_wp2_with fail
  clear c0 hR hfi d1 d1n d1m h2 hbw
  go_loopg [29] (n + 1) (fun gh a wr => ∃ (k : Nat) (dk : Dk) (b' cap' : Nat), a = .int .i64 (k : Int) ∧ k ≤ n ∧ gh = n + 1 - k ∧ RmAt w g b d e wr gp k b' cap' dk ps)
  case atStart => exact ⟨0, d, b, cap, rfl, Nat.zero_le _, by omega, hC0⟩
  case round =>
    obtain ⟨k, dk, b', cap', rfl, hk, hg, hC⟩ := hrel
    clear hC0
    by_cases hlt : k < n
    · have t1 : decide ((k : Int) < (n : Int)) = true := by simp; omega
      have hkl : k < ps.length := by have := HN.out; omega
      obtain ⟨cs, hcs, hcs2⟩ := hC.strs
      obtain ⟨P, hP⟩ : ∃ P : ByteArray, P = ⟨(ps[k]).toArray⟩ := ⟨_, rfl⟩
      have hci : wr.cell? ⟨gp, k, none⟩ = some (.string P) := by rw [hcs.at, hcs2 k _ (List.getElem?_eq_getElem hkl), hP]; rfl
      have hPl : P.data.toList = ps[k] := by rw [hP]
      have pw := rwrite_any wr g b' cap' dk ((e : Int) + (k : Int)) P hC.rf
      rw [hPl] at pw
      obtain ⟨r, hr⟩ : ∃ r, r = dk.wr ((e : Int) + (k : Int)) ps[k] := ⟨_, rfl⟩
      rw [← hr] at pw
      have hdrop : ps.drop k = ps[k] :: ps.drop (k + 1) := List.drop_eq_getElem_cons hkl
      have hstep : wrs d e ps = if r.1 = true then wrs r.2 (e + (k + 1)) (ps.drop (k + 1)) else (false, r.2) := by rw [hC.eq, hdrop, wrs, show ((e + k : Nat) : Int) = (e : Int) + (k : Int) from rfl, ← hr]; rfl
      have hrn : r.2.ss.length = d.ss.length := by rw [hr, wr_len6, hC.n]
      have HST := Lib.hid (And.intro hstep hrn)
      have hsz := hC.but.size
      have hgs := h.lt.1
      clear hstep hrn hr hdrop hPl hP hcs2 hcs
      by_cases hrt : r.1 = true
      · rw [hrt] at pw
        go_wp2_with (go_at_call 28; (with_reducible refine pw.mono ?_); rintro r' w2 ⟨rfl, ⟨b2, cap2, hR2, hbb2⟩, hB2⟩)
        go_roundg (n + 1 - (k + 1))
        case measure => omega
        case rel =>
          have hgpn : gp ≠ g := by have := hC.ge; omega
          exact ⟨k + 1, r.2, b2, cap2, by go_num, by omega, rfl, hR2, by have := HST.out.1; rw [if_pos hrt] at this; exact this, HST.out.2, hC.strs.same (hB2.block gp hC.strs.lt hgpn hgpn), hC.ge, by
            rcases hbb2 with rfl | h2
            · exact hC.bb
            · exact .inr (Nat.le_trans hsz h2), hC.but.trans hB2⟩
      · have hrf : r.1 = false := by simpa using hrt
        rw [hrf] at pw
        go_wp2_with (go_at_call 28; (with_reducible refine pw.mono ?_); rintro r' w2 ⟨rfl, ⟨b2, cap2, hR2, hbb2⟩, hB2⟩)
        go_ret
        have hst := HST.out.1
        rw [if_neg hrt] at hst
        rw [hst]
        refine ⟨rfl, ⟨b2, cap2, hR2, ?_⟩, hC.but.trans hB2⟩
        rcases hbb2 with rfl | h2
        · exact hC.bb
        · exact .inr (Nat.le_trans hsz h2)
    · obtain rfl : k = n := by omega
      have t1 : decide ((k : Int) < (k : Int)) = false := by simp
      go_wp2_with fail
      go_ret
      have hst := hC.eq
      rw [List.drop_of_length_le (by have := HN.out; omega), wrs] at hst
      rw [hst]
      exact ⟨rfl, ⟨b', cap', hC.rf, hC.bb⟩, hC.but⟩
end Go.Proofs.YtlofjfeimhjdlaaGreatDoor
