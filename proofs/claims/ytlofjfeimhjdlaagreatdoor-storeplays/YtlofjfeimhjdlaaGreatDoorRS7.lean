/- THE WALK of the reference's Scan. -/
import Derived.Test.YtlofjfeimhjdlaaGreatDoorRfW7
import Derived.Test.YtlofjfeimhjdlaaGreatDoorJo7
namespace Go.Proofs.YtlofjfeimhjdlaaGreatDoor
open Go.RowKit

/-- While the sectors are read. -/
structure ScAt (w wr : World) (v : Value) (ss : List (List UInt8)) (i : Nat) (t : List UInt8) (r : List (List UInt8) × Nat) : Prop where
  eq : scanA (ss.drop i) i t r = scan ss
  row : wr.ownsRow w.heap.size 9 1 v r.1.length (r.1.map str)
  bel : Below w.heap.size w wr
  l1 : r.1.length ≤ i
  l2 : t.length ≤ 30 * i
set_option maxRecDepth 100000 in
set_option maxHeartbeats 2000000 in
theorem rscan_any (w : World) (g b cap : Nat) (d : Dk) (h : RfAt w g b cap d) :
    Calls Tryz.prog 12 #[.pointer (some ⟨g, 0, none⟩)] w fun e w' => ∃ v, e = .returned (.tuple #[v, .int .i64 ((scan d.ss).2 : Int)]) ∧
      w'.ownsRow w.heap.size 9 1 v (scan d.ss).1.length ((scan d.ss).1.map str) ∧ Below w.heap.size w w' := by
  obtain ⟨K, hK, hR⟩ := h.head
  have c0 := hR.at 0
  have hok := h.ok
  have hn2 := hok.n2
  have hstr := h.strs
  have hs0 : ScAt w w (.slice none 0 0) d.ss 0 [] ([], 0) := ⟨rfl, World.ownsRow_nil _ _ _ _, Below.refl _ _, Nat.le_refl _, Nat.le_refl _⟩
  obtain ⟨i0, hi, hz0, hz1, hz2⟩ := info_parts strinfo
  obtain ⟨n, hn⟩ : ∃ n, d.ss.length = n := ⟨_, rfl⟩
  rw [hn] at c0 hn2
  have HN := Lib.hid hn
  clear hn hR hK h
  go_enter Tryz.func12, Tryz.ntmps12
  go_wp2_with fail
  go_loopg [4, 5, 6, 16] (n + 1) (fun g a b c e wr => ∃ (i : Nat) (T : ByteArray) (r : List (List UInt8) × Nat), e = .int .i64 (i : Int) ∧ c = .string T ∧ b = .int .i64 (r.2 : Int) ∧ i ≤ n ∧ g = n + 1 - i ∧ ScAt w wr a d.ss i T.data.toList r)
  case atStart => exact ⟨0, ⟨#[]⟩, ([], 0), rfl, rfl, rfl, by omega, by omega, hs0⟩
  case round =>
    obtain ⟨i, T, ⟨r1, r2⟩, rfl, rfl, rfl, hin, hg, hS⟩ := hrel
    clear hs0 c0
    by_cases hlt : i < n
    · have d1 : decide ((i : Int) < (n : Int)) = true := by simp; omega
      have hil : i < d.ss.length := by have := HN.out; omega
      obtain ⟨hget, hgz⟩ := hok.get hil
      obtain ⟨q, hq⟩ : ∃ q, d.get i = q := ⟨_, rfl⟩
      rw [hq] at hget hgz
      obtain ⟨cs, hcs, hcs2⟩ := hstr
      obtain ⟨P, hP⟩ : ∃ P : ByteArray, P = ⟨q.toArray⟩ := ⟨_, rfl⟩
      have hblt := hcs.size
      have hci : wr.cell? ⟨b, i, none⟩ = some (.string P) := by rw [hS.bel.cell (p := ⟨b, i, none⟩) hblt, hcs.at, hcs2 i _ hget, hP]; rfl
      have hdrop : d.ss.drop i = q :: d.ss.drop (i + 1) := by
        rw [List.drop_eq_getElem_cons hil]
        rw [List.getElem?_eq_getElem hil] at hget
        rw [Option.some.inj hget]
      have hPl : P.data.toList = q := by rw [hP]
      have hPz : P.size = 32 := by rw [hP]; simpa [ByteArray.size] using hgz
      obtain ⟨N, hN⟩ : ∃ N, (q.getD 0 0).toNat = N := ⟨_, rfl⟩
      obtain ⟨M, hM⟩ : ∃ M, (q.getD 31 0).toNat = M := ⟨_, rfl⟩
      have e0 : (P[0]'(by omega)).toNat = N := by rw [sec_at hPl, hN]
      have e31 : (P[31]'(by omega)).toNat = M := by rw [sec_at hPl, hM]
      have hNb : N ≤ 255 := hN ▸ u8_le _
      have hMb : M ≤ 255 := hM ▸ u8_le _
      have heq := hS.eq
      rw [hdrop] at heq
      have HQ := Lib.hid (And.intro heq (And.intro hN hM))
      have hTz : T.size ≤ 30 * i := by have := hS.l2; rwa [Array.length_toList] at this
      clear heq hdrop hcs2 hcs hget hq hP
      by_cases h12 : M = 1 ∨ M = 2
      · by_cases h30 : N ≤ 30
        · have t30 : decide ((30 : Int) < (N : Int)) = false := by simp; omega
          obtain ⟨R, hR⟩ : ∃ R : ByteArray, P.extract 1 (1 + N) = R := ⟨_, rfl⟩
          have hRl : R.data.toList = (q.drop 1).take N := by rw [← hR, ← hPl]; exact ext_list P N
          have hRz : R.size = N := by rw [← hR, ByteArray.size_extract]; omega
          have hno : ¬ 9223372036854775807 < T.size + R.size := by omega
          obtain ⟨T', hT'⟩ : ∃ T' : ByteArray, T ++ R = T' := ⟨_, rfl⟩
          have hT'l : T'.data.toList = T.data.toList ++ (q.drop 1).take N := by rw [← hT', ← hRl]; simp
          have hT'z : T'.size ≤ 30 * (i + 1) := by rw [← hT', ByteArray.size_append]; omega
          have HT := Lib.hid (And.intro hT'l hT'z)
          clear hT'l hT'z hN hM hPl hRl hRz hTz
          rcases h12 with rfl | rfl
          · go_wp2_with fail
            go_roundg (n + 1 - (i + 1))
            case measure => omega
            case rel =>
              obtain ⟨heq, hN, hM⟩ := HQ.out
              rw [scanA_1 (by omega) (u8_is hM 1 rfl), hN, ← HT.out.1] at heq
              exact ⟨i + 1, T', (r1, r2), by go_num, rfl, rfl, by omega, rfl, heq, hS.row, hS.bel, Nat.le_succ_of_le hS.l1, by rw [Array.length_toList]; exact HT.out.2⟩
          · have hml : r1.length + 1 ≤ maxLen := by have := hS.l1; unfold maxLen; simp only at this; omega
            have hrl : r1.length ≤ 2000 := by have := hS.l1; simp only at this; omega
            have hsz := hS.bel.size
            have hrow : wr.ownsRow w.heap.size 9 1 u4 r1.length (r1.map str) := hS.row
            go_wp2_with (at_builtin; refine wpList_append_own _ rfl _ _ 34 rfl w.heap.size 9 i0 _ 1 16 Tryz.underlying34 hi hz0 hz1 hz2 rfl (by omega) _ r1.length _ rfl (hrow.alloc _) ⟨wr.heap.size, 0, none⟩ 1 1 [.string T'] rfl rfl (one_new _ _ _) (one_str T') hml (by omega) (by simp; omega) ?_; intro v' w' ho hgr hnil)
            go_roundg (n + 1 - (i + 1))
            case measure => omega
            case rel =>
              obtain ⟨heq, hN, hM⟩ := HQ.out
              rw [scanA_2 (by omega) (u8_is hM 2 rfl), hN, ← HT.out.1] at heq
              refine ⟨i + 1, ⟨#[]⟩, (r1 ++ [T'.data.toList], i + 1), by go_num, rfl, by go_num, by omega, rfl, heq, ?_, (hS.bel.alloc hsz _).grown hgr (by simp; omega) (fun k hk => (hS.row.lt k hk).1), ?_, Nat.zero_le _⟩
              · rw [List.length_append, List.map_append]; exact ho
              · rw [List.length_append]; exact Nat.succ_le_succ hS.l1
        · have t30 : decide ((30 : Int) < (N : Int)) = true := by simp; omega
          have hfin : (r1, r2) = scan d.ss := by
            obtain ⟨heq, hN, hM⟩ := HQ.out
            rw [scanA_big (by omega)] at heq
            exact heq
          have HF := Lib.hid hfin
          clear hfin HQ hN hM
          rcases h12 with rfl | rfl
          all_goals
            go_wp2_with fail
            go_ret2
            rw [← HF.out]
            exact ⟨_, rfl, hS.row, hS.bel⟩
      · have t1 : ((M : Int) != 1) = true := by rw [bne_iff_ne]; omega
        have t2 : ((M : Int) != 2) = true := by rw [bne_iff_ne]; omega
        have hfin : (r1, r2) = scan d.ss := by
          obtain ⟨heq, hN, hM⟩ := HQ.out
          rw [scanA_no (fun e => h12 (.inl (by rw [← hM, e]; rfl))) (fun e => h12 (.inr (by rw [← hM, e]; rfl)))] at heq
          exact heq
        have HF := Lib.hid hfin
        clear hfin HQ hN hM
        go_wp2_with fail
        go_ret2
        rw [← HF.out]
        exact ⟨_, rfl, hS.row, hS.bel⟩
    · obtain rfl : i = n := by omega
      have d1 : decide ((i : Int) < (i : Int)) = false := by simp
      have hfin : (r1, r2) = scan d.ss := by
        have heq := hS.eq
        rw [List.drop_of_length_le (by have := HN.out; omega)] at heq
        exact heq
      have HF := Lib.hid hfin
      clear hfin
      go_wp2_with fail
      go_ret2
      rw [← HF.out]
      exact ⟨_, rfl, hS.row, hS.bel⟩
end Go.Proofs.YtlofjfeimhjdlaaGreatDoor
