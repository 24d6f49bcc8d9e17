/- THE WALK of the reference's Pieces. -/
import Derived.Test.YtlofjfeimhjdlaaGreatDoorRfW7
import Derived.Test.YtlofjfeimhjdlaaGreatDoorJn7
namespace Go.Proofs.YtlofjfeimhjdlaaGreatDoor
open Go.RowKit

theorem fr0 (w : World) (c : Array Value) : Rw (w.alloc (.cells c 5)) w.heap.size 5 c := Rw.fresh w _ _
theorem fr1 (w : World) (o : Obj) (c : Array Value) : Rw ((w.alloc o).alloc (.cells c 5)) (w.heap.size + 1) 5 c := by
  have := Rw.fresh (w.alloc o) 5 c
  rwa [World.size_alloc] at this
theorem fr2 (w : World) (o p : Obj) (c : Array Value) : Rw (((w.alloc o).alloc p).alloc (.cells c 5)) (w.heap.size + 2) 5 c := by
  have := Rw.fresh ((w.alloc o).alloc p) 5 c
  rwa [World.size_alloc, World.size_alloc] at this
theorem conv_one {v : World} {g n : Nat} (hn : n ≤ 255) (h : Rw v g 5 #[.int .u8 (n : Int)]) : (convert 64 9 (.slice (some ⟨g, 0, none⟩) 1 1)).run Tryz.prog v = .ok (.string ⟨#[UInt8.ofNat n]⟩) v := by
  have e : (#[.int .u8 (n : Int)] : Array Value) = byteRow [UInt8.ofNat n] := by
    unfold byteRow Lib.byteCells
    rw [List.map_singleton, show (((UInt8.ofNat n).toNat : Nat) : Int) = (n : Int) by rw [UInt8.toNat_ofNat']; omega]
  rw [e] at h
  exact conv_row g 1 [UInt8.ofNat n] h rfl
set_option maxRecDepth 100000 in
set_option maxHeartbeats 4000000 in
theorem rpieces_any (s : ByteArray) (hs : s.size ≤ 1099511627776) (w : World) :
    Calls Tryz.prog 13 #[.string s] w fun e w' => ∃ g cap, e = .returned (.slice (some ⟨g, 0, none⟩) (pieces s.data.toList).length cap) ∧ w.heap.size ≤ g ∧ Strs w' g (pieces s.data.toList) ∧ Below w.heap.size w w' := by
  have hl : s.data.toList.length = s.size := Array.length_toList
  obtain ⟨i0, hi, hz0, hz1, hz2⟩ := info_parts strinfo
  have hs0 : PcAt w w (.slice none 0 0) s.data.toList [] s := ⟨rfl, World.ownsRow_nil _ _ _ _, Below.refl _ _⟩
  have hnl : (pieces s.data.toList).length ≤ 1099511627776 := by rw [pieces_len, hl]; omega
  go_enter Tryz.func13, Tryz.ntmps13
  go_wp2_with fail
  go_loopg [0, 3] (s.size + 1) (fun g a b wr => ∃ (S : ByteArray) (ps : List (List UInt8)), a = .string S ∧ g = S.size + 1 ∧ S.size ≤ s.size ∧ PcAt w wr b s.data.toList ps S)
  case atStart => exact ⟨s, [], rfl, rfl, Nat.le_refl _, hs0⟩
  case round =>
    obtain ⟨S, ps, rfl, rfl, hSs, hP⟩ := hrel
    clear hs0
    have hSl : S.data.toList.length = S.size := Array.length_toList
    have hpl : ps.length + (pieces S.data.toList).length ≤ 1099511627776 := by have := congrArg List.length hP.eq; simp at this; omega
    have hpp := pieces_pos S.data.toList
    have hml : ps.length + 1 ≤ maxLen := by unfold maxLen; omega
    obtain ⟨n, hn⟩ : ∃ n, n = min S.size 30 := ⟨_, rfl⟩
    have hn30 : n ≤ 30 := by omega
    have hnS : n ≤ S.size := by omega
    have HN := Lib.hid hn
    clear hn
    go_upto_region 2 with fail
    go_cut [4] (fun m wx => m = .int .i64 (n : Int) ∧ wx = wr)
    case first =>
      have hmn : min (S.size : Int) 30 = (n : Int) := by have := HN.out; omega
      go_wp2_with fail
      all_goals go_meet
      all_goals first
        | exact ⟨rfl, rfl⟩
        | exact ⟨by congr 1; have := HN.out; omega, rfl⟩
    case rest =>
      obtain ⟨rfl, hw⟩ := hcut
      have hw := hw.symm
      subst hw
      obtain ⟨t, ht⟩ : ∃ t : Nat, (t = 1 ∧ 30 < S.size) ∨ (t = 2 ∧ S.size ≤ 30) := by
        by_cases h : 30 < S.size
        · exact ⟨1, .inl ⟨rfl, h⟩⟩
        · exact ⟨2, .inr ⟨rfl, by omega⟩⟩
      have ht2 : t ≤ 2 := by omega
      go_upto_if 13 with fail
      go_cut [5] (fun m wx => m = .int .u8 (t : Int) ∧ wx = wr)
      case first =>
        rcases ht with ⟨rfl, h⟩ | ⟨rfl, h⟩
        · have e1 : ((n : Int) == (S.size : Int)) = false := by have := HN.out; rw [beq_eq_false_iff_ne]; omega
          go_wp2_with fail
          go_meet
          exact ⟨rfl, rfl⟩
        · have e1 : ((n : Int) == (S.size : Int)) = true := by have := HN.out; simp; omega
          go_wp2_with fail
          go_meet
          exact ⟨rfl, rfl⟩
      case rest =>
        obtain ⟨rfl, hw⟩ := hcut
        have hw := hw.symm
        subst hw
        obtain ⟨m, hm⟩ : ∃ m : Nat, m = 30 - n := ⟨_, rfl⟩
        have hmk := mkZ (30 - (n : Int)) m (by omega) (by omega)
        obtain ⟨SA, hSA⟩ : ∃ SA : ByteArray, SA = ⟨#[UInt8.ofNat n]⟩ := ⟨_, rfl⟩
        obtain ⟨SB, hSB⟩ : ∃ SB : ByteArray, SB = ⟨#[UInt8.ofNat t]⟩ := ⟨_, rfl⟩
        obtain ⟨SZ, hSZ⟩ : ∃ SZ : ByteArray, SZ = ⟨(List.replicate m 0).toArray⟩ := ⟨_, rfl⟩
        obtain ⟨Z, hZ⟩ : ∃ Z : Array Value, Z = byteRow (List.replicate m 0) := ⟨_, rfl⟩
        simp only [← hZ] at hmk
        have cvA : ∀ (v : World) (g : Nat), Rw v g 5 #[.int .u8 (n : Int)] → (convert 64 9 (.slice (some ⟨g, 0, none⟩) 1 1)).run Tryz.prog v = .ok (.string SA) v := fun v g h => by rw [hSA]; exact conv_one (by omega) h
        have cvB : ∀ (v : World) (g : Nat), Rw v g 5 #[.int .u8 (t : Int)] → (convert 64 9 (.slice (some ⟨g, 0, none⟩) 1 1)).run Tryz.prog v = .ok (.string SB) v := fun v g h => by rw [hSB]; exact conv_one (by omega) h
        have cvZ : ∀ (v : World) (g : Nat), Rw v g 5 Z → (convert 64 9 (.slice (some ⟨g, 0, none⟩) m m)).run Tryz.prog v = .ok (.string SZ) v := fun v g h => by rw [hSZ]; exact conv_row g m _ (by rw [← hZ]; exact h) (by simp)
        have q1 : (convert 64 9 (.slice (some ⟨wr.heap.size, 0, none⟩) 1 1)).run Tryz.prog (wr.alloc (.cells #[.int .u8 (n : Int)] 5)).drew = .ok (.string SA) (wr.alloc (.cells #[.int .u8 (n : Int)] 5)).drew := cvA _ _ (fr0 wr  _).drew
        have q2 : (convert 64 9 (.slice (some ⟨wr.heap.size, 0, none⟩) 1 1)).run Tryz.prog (wr.alloc (.cells #[.int .u8 (t : Int)] 5)).drew = .ok (.string SB) (wr.alloc (.cells #[.int .u8 (t : Int)] 5)).drew := cvB _ _ (fr0 wr  _).drew
        have q3 : (convert 64 9 (.slice (some ⟨wr.heap.size, 0, none⟩) m m)).run Tryz.prog (wr.alloc (.cells Z 5)).drew = .ok (.string SZ) (wr.alloc (.cells Z 5)).drew := cvZ _ _ (fr0 wr  _).drew
        have q4 : (convert 64 9 (.slice (some ⟨wr.heap.size, 0, none⟩) 1 1)).run Tryz.prog ((wr.alloc (.cells #[.int .u8 (n : Int)] 5)).alloc (.cells #[.int .u8 (t : Int)] 5)).drew = .ok (.string SA) ((wr.alloc (.cells #[.int .u8 (n : Int)] 5)).alloc (.cells #[.int .u8 (t : Int)] 5)).drew := cvA _ _ ((fr0 wr  _).alloc _).drew
        have q5 : (convert 64 9 (.slice (some ⟨wr.heap.size + 1, 0, none⟩) 1 1)).run Tryz.prog ((wr.alloc (.cells #[.int .u8 (n : Int)] 5)).alloc (.cells #[.int .u8 (t : Int)] 5)).drew = .ok (.string SB) ((wr.alloc (.cells #[.int .u8 (n : Int)] 5)).alloc (.cells #[.int .u8 (t : Int)] 5)).drew := cvB _ _ (fr1 wr (.cells #[.int .u8 (n : Int)] 5) _).drew
        have q6 : (convert 64 9 (.slice (some ⟨wr.heap.size, 0, none⟩) 1 1)).run Tryz.prog ((wr.alloc (.cells #[.int .u8 (n : Int)] 5)).alloc (.cells Z 5)).drew = .ok (.string SA) ((wr.alloc (.cells #[.int .u8 (n : Int)] 5)).alloc (.cells Z 5)).drew := cvA _ _ ((fr0 wr  _).alloc _).drew
        have q7 : (convert 64 9 (.slice (some ⟨wr.heap.size + 1, 0, none⟩) m m)).run Tryz.prog ((wr.alloc (.cells #[.int .u8 (n : Int)] 5)).alloc (.cells Z 5)).drew = .ok (.string SZ) ((wr.alloc (.cells #[.int .u8 (n : Int)] 5)).alloc (.cells Z 5)).drew := cvZ _ _ (fr1 wr (.cells #[.int .u8 (n : Int)] 5) _).drew
        have q8 : (convert 64 9 (.slice (some ⟨wr.heap.size, 0, none⟩) 1 1)).run Tryz.prog ((wr.alloc (.cells #[.int .u8 (t : Int)] 5)).alloc (.cells #[.int .u8 (n : Int)] 5)).drew = .ok (.string SB) ((wr.alloc (.cells #[.int .u8 (t : Int)] 5)).alloc (.cells #[.int .u8 (n : Int)] 5)).drew := cvB _ _ ((fr0 wr  _).alloc _).drew
        have q9 : (convert 64 9 (.slice (some ⟨wr.heap.size + 1, 0, none⟩) 1 1)).run Tryz.prog ((wr.alloc (.cells #[.int .u8 (t : Int)] 5)).alloc (.cells #[.int .u8 (n : Int)] 5)).drew = .ok (.string SA) ((wr.alloc (.cells #[.int .u8 (t : Int)] 5)).alloc (.cells #[.int .u8 (n : Int)] 5)).drew := cvA _ _ (fr1 wr (.cells #[.int .u8 (t : Int)] 5) _).drew
        have q10 : (convert 64 9 (.slice (some ⟨wr.heap.size, 0, none⟩) 1 1)).run Tryz.prog ((wr.alloc (.cells #[.int .u8 (t : Int)] 5)).alloc (.cells Z 5)).drew = .ok (.string SB) ((wr.alloc (.cells #[.int .u8 (t : Int)] 5)).alloc (.cells Z 5)).drew := cvB _ _ ((fr0 wr  _).alloc _).drew
        have q11 : (convert 64 9 (.slice (some ⟨wr.heap.size + 1, 0, none⟩) m m)).run Tryz.prog ((wr.alloc (.cells #[.int .u8 (t : Int)] 5)).alloc (.cells Z 5)).drew = .ok (.string SZ) ((wr.alloc (.cells #[.int .u8 (t : Int)] 5)).alloc (.cells Z 5)).drew := cvZ _ _ (fr1 wr (.cells #[.int .u8 (t : Int)] 5) _).drew
        have q12 : (convert 64 9 (.slice (some ⟨wr.heap.size, 0, none⟩) m m)).run Tryz.prog ((wr.alloc (.cells Z 5)).alloc (.cells #[.int .u8 (n : Int)] 5)).drew = .ok (.string SZ) ((wr.alloc (.cells Z 5)).alloc (.cells #[.int .u8 (n : Int)] 5)).drew := cvZ _ _ ((fr0 wr  _).alloc _).drew
        have q13 : (convert 64 9 (.slice (some ⟨wr.heap.size + 1, 0, none⟩) 1 1)).run Tryz.prog ((wr.alloc (.cells Z 5)).alloc (.cells #[.int .u8 (n : Int)] 5)).drew = .ok (.string SA) ((wr.alloc (.cells Z 5)).alloc (.cells #[.int .u8 (n : Int)] 5)).drew := cvA _ _ (fr1 wr (.cells Z 5) _).drew
        have q14 : (convert 64 9 (.slice (some ⟨wr.heap.size, 0, none⟩) m m)).run Tryz.prog ((wr.alloc (.cells Z 5)).alloc (.cells #[.int .u8 (t : Int)] 5)).drew = .ok (.string SZ) ((wr.alloc (.cells Z 5)).alloc (.cells #[.int .u8 (t : Int)] 5)).drew := cvZ _ _ ((fr0 wr  _).alloc _).drew
        have q15 : (convert 64 9 (.slice (some ⟨wr.heap.size + 1, 0, none⟩) 1 1)).run Tryz.prog ((wr.alloc (.cells Z 5)).alloc (.cells #[.int .u8 (t : Int)] 5)).drew = .ok (.string SB) ((wr.alloc (.cells Z 5)).alloc (.cells #[.int .u8 (t : Int)] 5)).drew := cvB _ _ (fr1 wr (.cells Z 5) _).drew
        have q16 : (convert 64 9 (.slice (some ⟨wr.heap.size, 0, none⟩) 1 1)).run Tryz.prog (((wr.alloc (.cells #[.int .u8 (n : Int)] 5)).alloc (.cells #[.int .u8 (t : Int)] 5)).alloc (.cells Z 5)).drew = .ok (.string SA) (((wr.alloc (.cells #[.int .u8 (n : Int)] 5)).alloc (.cells #[.int .u8 (t : Int)] 5)).alloc (.cells Z 5)).drew := cvA _ _ (((fr0 wr  _).alloc _).alloc _).drew
        have q17 : (convert 64 9 (.slice (some ⟨wr.heap.size + 1, 0, none⟩) 1 1)).run Tryz.prog (((wr.alloc (.cells #[.int .u8 (n : Int)] 5)).alloc (.cells #[.int .u8 (t : Int)] 5)).alloc (.cells Z 5)).drew = .ok (.string SB) (((wr.alloc (.cells #[.int .u8 (n : Int)] 5)).alloc (.cells #[.int .u8 (t : Int)] 5)).alloc (.cells Z 5)).drew := cvB _ _ ((fr1 wr (.cells #[.int .u8 (n : Int)] 5) _).alloc _).drew
        have q18 : (convert 64 9 (.slice (some ⟨wr.heap.size + 2, 0, none⟩) m m)).run Tryz.prog (((wr.alloc (.cells #[.int .u8 (n : Int)] 5)).alloc (.cells #[.int .u8 (t : Int)] 5)).alloc (.cells Z 5)).drew = .ok (.string SZ) (((wr.alloc (.cells #[.int .u8 (n : Int)] 5)).alloc (.cells #[.int .u8 (t : Int)] 5)).alloc (.cells Z 5)).drew := cvZ _ _ (fr2 wr (.cells #[.int .u8 (n : Int)] 5) (.cells #[.int .u8 (t : Int)] 5) _).drew
        have q19 : (convert 64 9 (.slice (some ⟨wr.heap.size, 0, none⟩) 1 1)).run Tryz.prog (((wr.alloc (.cells #[.int .u8 (n : Int)] 5)).alloc (.cells Z 5)).alloc (.cells #[.int .u8 (t : Int)] 5)).drew = .ok (.string SA) (((wr.alloc (.cells #[.int .u8 (n : Int)] 5)).alloc (.cells Z 5)).alloc (.cells #[.int .u8 (t : Int)] 5)).drew := cvA _ _ (((fr0 wr  _).alloc _).alloc _).drew
        have q20 : (convert 64 9 (.slice (some ⟨wr.heap.size + 1, 0, none⟩) m m)).run Tryz.prog (((wr.alloc (.cells #[.int .u8 (n : Int)] 5)).alloc (.cells Z 5)).alloc (.cells #[.int .u8 (t : Int)] 5)).drew = .ok (.string SZ) (((wr.alloc (.cells #[.int .u8 (n : Int)] 5)).alloc (.cells Z 5)).alloc (.cells #[.int .u8 (t : Int)] 5)).drew := cvZ _ _ ((fr1 wr (.cells #[.int .u8 (n : Int)] 5) _).alloc _).drew
        have q21 : (convert 64 9 (.slice (some ⟨wr.heap.size + 2, 0, none⟩) 1 1)).run Tryz.prog (((wr.alloc (.cells #[.int .u8 (n : Int)] 5)).alloc (.cells Z 5)).alloc (.cells #[.int .u8 (t : Int)] 5)).drew = .ok (.string SB) (((wr.alloc (.cells #[.int .u8 (n : Int)] 5)).alloc (.cells Z 5)).alloc (.cells #[.int .u8 (t : Int)] 5)).drew := cvB _ _ (fr2 wr (.cells #[.int .u8 (n : Int)] 5) (.cells Z 5) _).drew
        have q22 : (convert 64 9 (.slice (some ⟨wr.heap.size, 0, none⟩) 1 1)).run Tryz.prog (((wr.alloc (.cells #[.int .u8 (t : Int)] 5)).alloc (.cells #[.int .u8 (n : Int)] 5)).alloc (.cells Z 5)).drew = .ok (.string SB) (((wr.alloc (.cells #[.int .u8 (t : Int)] 5)).alloc (.cells #[.int .u8 (n : Int)] 5)).alloc (.cells Z 5)).drew := cvB _ _ (((fr0 wr  _).alloc _).alloc _).drew
        have q23 : (convert 64 9 (.slice (some ⟨wr.heap.size + 1, 0, none⟩) 1 1)).run Tryz.prog (((wr.alloc (.cells #[.int .u8 (t : Int)] 5)).alloc (.cells #[.int .u8 (n : Int)] 5)).alloc (.cells Z 5)).drew = .ok (.string SA) (((wr.alloc (.cells #[.int .u8 (t : Int)] 5)).alloc (.cells #[.int .u8 (n : Int)] 5)).alloc (.cells Z 5)).drew := cvA _ _ ((fr1 wr (.cells #[.int .u8 (t : Int)] 5) _).alloc _).drew
        have q24 : (convert 64 9 (.slice (some ⟨wr.heap.size + 2, 0, none⟩) m m)).run Tryz.prog (((wr.alloc (.cells #[.int .u8 (t : Int)] 5)).alloc (.cells #[.int .u8 (n : Int)] 5)).alloc (.cells Z 5)).drew = .ok (.string SZ) (((wr.alloc (.cells #[.int .u8 (t : Int)] 5)).alloc (.cells #[.int .u8 (n : Int)] 5)).alloc (.cells Z 5)).drew := cvZ _ _ (fr2 wr (.cells #[.int .u8 (t : Int)] 5) (.cells #[.int .u8 (n : Int)] 5) _).drew
        have q25 : (convert 64 9 (.slice (some ⟨wr.heap.size, 0, none⟩) 1 1)).run Tryz.prog (((wr.alloc (.cells #[.int .u8 (t : Int)] 5)).alloc (.cells Z 5)).alloc (.cells #[.int .u8 (n : Int)] 5)).drew = .ok (.string SB) (((wr.alloc (.cells #[.int .u8 (t : Int)] 5)).alloc (.cells Z 5)).alloc (.cells #[.int .u8 (n : Int)] 5)).drew := cvB _ _ (((fr0 wr  _).alloc _).alloc _).drew
        have q26 : (convert 64 9 (.slice (some ⟨wr.heap.size + 1, 0, none⟩) m m)).run Tryz.prog (((wr.alloc (.cells #[.int .u8 (t : Int)] 5)).alloc (.cells Z 5)).alloc (.cells #[.int .u8 (n : Int)] 5)).drew = .ok (.string SZ) (((wr.alloc (.cells #[.int .u8 (t : Int)] 5)).alloc (.cells Z 5)).alloc (.cells #[.int .u8 (n : Int)] 5)).drew := cvZ _ _ ((fr1 wr (.cells #[.int .u8 (t : Int)] 5) _).alloc _).drew
        have q27 : (convert 64 9 (.slice (some ⟨wr.heap.size + 2, 0, none⟩) 1 1)).run Tryz.prog (((wr.alloc (.cells #[.int .u8 (t : Int)] 5)).alloc (.cells Z 5)).alloc (.cells #[.int .u8 (n : Int)] 5)).drew = .ok (.string SA) (((wr.alloc (.cells #[.int .u8 (t : Int)] 5)).alloc (.cells Z 5)).alloc (.cells #[.int .u8 (n : Int)] 5)).drew := cvA _ _ (fr2 wr (.cells #[.int .u8 (t : Int)] 5) (.cells Z 5) _).drew
        have q28 : (convert 64 9 (.slice (some ⟨wr.heap.size, 0, none⟩) m m)).run Tryz.prog (((wr.alloc (.cells Z 5)).alloc (.cells #[.int .u8 (n : Int)] 5)).alloc (.cells #[.int .u8 (t : Int)] 5)).drew = .ok (.string SZ) (((wr.alloc (.cells Z 5)).alloc (.cells #[.int .u8 (n : Int)] 5)).alloc (.cells #[.int .u8 (t : Int)] 5)).drew := cvZ _ _ (((fr0 wr  _).alloc _).alloc _).drew
        have q29 : (convert 64 9 (.slice (some ⟨wr.heap.size + 1, 0, none⟩) 1 1)).run Tryz.prog (((wr.alloc (.cells Z 5)).alloc (.cells #[.int .u8 (n : Int)] 5)).alloc (.cells #[.int .u8 (t : Int)] 5)).drew = .ok (.string SA) (((wr.alloc (.cells Z 5)).alloc (.cells #[.int .u8 (n : Int)] 5)).alloc (.cells #[.int .u8 (t : Int)] 5)).drew := cvA _ _ ((fr1 wr (.cells Z 5) _).alloc _).drew
        have q30 : (convert 64 9 (.slice (some ⟨wr.heap.size + 2, 0, none⟩) 1 1)).run Tryz.prog (((wr.alloc (.cells Z 5)).alloc (.cells #[.int .u8 (n : Int)] 5)).alloc (.cells #[.int .u8 (t : Int)] 5)).drew = .ok (.string SB) (((wr.alloc (.cells Z 5)).alloc (.cells #[.int .u8 (n : Int)] 5)).alloc (.cells #[.int .u8 (t : Int)] 5)).drew := cvB _ _ (fr2 wr (.cells Z 5) (.cells #[.int .u8 (n : Int)] 5) _).drew
        have q31 : (convert 64 9 (.slice (some ⟨wr.heap.size, 0, none⟩) m m)).run Tryz.prog (((wr.alloc (.cells Z 5)).alloc (.cells #[.int .u8 (t : Int)] 5)).alloc (.cells #[.int .u8 (n : Int)] 5)).drew = .ok (.string SZ) (((wr.alloc (.cells Z 5)).alloc (.cells #[.int .u8 (t : Int)] 5)).alloc (.cells #[.int .u8 (n : Int)] 5)).drew := cvZ _ _ (((fr0 wr  _).alloc _).alloc _).drew
        have q32 : (convert 64 9 (.slice (some ⟨wr.heap.size + 1, 0, none⟩) 1 1)).run Tryz.prog (((wr.alloc (.cells Z 5)).alloc (.cells #[.int .u8 (t : Int)] 5)).alloc (.cells #[.int .u8 (n : Int)] 5)).drew = .ok (.string SB) (((wr.alloc (.cells Z 5)).alloc (.cells #[.int .u8 (t : Int)] 5)).alloc (.cells #[.int .u8 (n : Int)] 5)).drew := cvB _ _ ((fr1 wr (.cells Z 5) _).alloc _).drew
        have q33 : (convert 64 9 (.slice (some ⟨wr.heap.size + 2, 0, none⟩) 1 1)).run Tryz.prog (((wr.alloc (.cells Z 5)).alloc (.cells #[.int .u8 (t : Int)] 5)).alloc (.cells #[.int .u8 (n : Int)] 5)).drew = .ok (.string SA) (((wr.alloc (.cells Z 5)).alloc (.cells #[.int .u8 (t : Int)] 5)).alloc (.cells #[.int .u8 (n : Int)] 5)).drew := cvA _ _ (fr2 wr (.cells Z 5) (.cells #[.int .u8 (t : Int)] 5) _).drew
        obtain ⟨X, hX⟩ : ∃ X : ByteArray, S.extract 0 n = X := ⟨_, rfl⟩
        have zA : SA.size = 1 := by rw [hSA]; rfl
        have zB : SB.size = 1 := by rw [hSB]; rfl
        have zZ : SZ.size = m := by rw [hSZ]; simp [ByteArray.size]
        have zX : X.size = n := by rw [← hX, ByteArray.size_extract]; omega
        have o1 : ¬ 9223372036854775807 < SA.size + X.size := by omega
        have o2 : ¬ 9223372036854775807 < SA.size + X.size + SZ.size := by omega
        have o3 : ¬ 9223372036854775807 < SA.size + X.size + SZ.size + SB.size := by omega
        have hpc : (SA ++ X ++ SZ ++ SB).data.toList = pc (S.data.toList.take n) (UInt8.ofNat t) := by
          have e1 : X.data.toList = S.data.toList.take n := by rw [← hX]; simp [ByteArray.data_extract, List.extract_eq_take_drop]
          have e2 : (S.data.toList.take n).length = n := by rw [List.length_take]; omega
          rw [hSA, hSB, hSZ]
          unfold pc
          rw [e2, ← hm]
          simp [e1]
        have HPC := Lib.hid hpc
        have w8 : IntKind.u8.wrap (n : Int) = (n : Int) := by simp [IntKind.wrap, IntKind.signed, IntKind.bits]; omega
        have hn8 : (n : Int) ≤ 30 := by omega
        have HB : Hid (∀ v, Below wr.heap.size wr v → Below w.heap.size w v) := Lib.hid (fun v h => hP.bel.trans (h.mono hP.bel.size))
        clear hSA hSB hSZ hZ hpc cvA cvB cvZ zA zB zZ zX hm
        go_upto_region 6 with fail
        go_cut [6] (fun m wx => ∃ P : ByteArray, m = .string P ∧ P.data.toList = pc (S.data.toList.take n) (UInt8.ofNat t) ∧ Below wr.heap.size wr wx)
        case first =>
          go_region
          all_goals
            go_wp2_with fail
            go_meet
            exact ⟨_, rfl, HPC.out, ((((Below.refl _ wr).alloc (Nat.le_refl _) _).alloc (by simp) _).alloc (by simp; omega) _).drew⟩
        case rest =>
          obtain ⟨P, rfl, hPl, hbx⟩ := hcut
          have hrow := own_next hP.row hbx
          have hbw := hP.bel.trans (hbx.mono hP.bel.size)
          have hpeq := hP.eq
          have hge := hP.row.lt
          obtain ⟨R, hR⟩ : ∃ R : ByteArray, S.extract n S.size = R := ⟨_, rfl⟩
          have hRl : R.data.toList = S.data.toList.drop n := by
            rw [← hR]; simp [ByteArray.data_extract, List.extract_eq_take_drop]
            rw [List.take_of_length_le (by simp)]
          have hRz : R.size = S.size - n := by rw [← hR, ByteArray.size_extract]; omega
          have HP := Lib.hid (And.intro hPl (And.intro hpeq (And.intro hRl hRz)))
          have hsw := hbw.size
          have hrw2 : (wc.alloc (.cells #[.string P] 9)).drew.ownsRow w.heap.size 9 1 u3 ps.length (ps.map str) := (hrow.alloc _).drew
          have hnews : ∀ (q : Nat) (u : Value), [Value.string P][q]? = some u → (wc.alloc (.cells #[.string P] 9)).drew.cell? ((⟨wc.heap.size, 0, none⟩ : Addr).add q) = some u := fun q u hq => one_new wc _ _ q u hq
          have hW0 : (wc.alloc (.cells #[.string P] 9)).drew.heap.size = wc.heap.size + 1 := by simp
          have hB0 := (hbw.alloc hbw.size (.cells #[.string P] 9)).drew
          clear hPl hpeq hRl hRz hP hbx hbw HPC q1 q2 q3 q4 q5 q6 q7 q8 q9 q10 q11 q12 q13 q14 q15 q16 q17 q18 q19 q20 q21 q22 q23 q24 q25 q26 q27 q28 q29 q30 q31 q32 q33 hmk o1 o2 o3 hX w8 HB
          have hnSi : (n : Int) ≤ (S.size : Int) := by omega
          go_upto_region 7 with fail
          go_region_law (refine step_append_lies _ rfl (.tmp 31) (.tmp 33) 34 rfl w.heap.size 9 i0 _ 1 16 Tryz.underlying34 hi hz0 hz1 hz2 rfl (by omega) u3 ps.length (ps.map str) (by go_simp) hrw2 ⟨wc.heap.size, 0, none⟩ 1 1 [.string P] (by go_simp) rfl hnews (one_str P) (by omega) hml (by omega) (by omega) (wc.heap.size + 1) hW0 ?_; intro g cap w' ho hgr hg hlt')
          all_goals
            have hB1 := hB0.grown hgr (by omega) (fun q hq => (hge q hq).1)
            obtain ⟨hPl, hpeq, hRl, hRz⟩ := HP.out
            have hn := HN.out
            rcases ht with ⟨rfl, h⟩ | ⟨rfl, h⟩
            · obtain rfl : n = 30 := by omega
              have hnext : pieces s.data.toList = (ps ++ [P.data.toList]) ++ pieces R.data.toList := by rw [hpeq, pieces_long (by omega), hRl, hPl]; simp
              have HX := Lib.hid (And.intro hnext hRz)
              clear hPl hpeq hRl hRz hn HP HN hnext
              go_wp2_with fail
              go_roundg (R.size + 1)
              case measure => have := HX.out.2; omega
              case rel =>
                refine ⟨R, ps ++ [P.data.toList], rfl, rfl, by have := HX.out.2; omega, HX.out.1, ?_, hB1⟩
                rw [List.length_append, List.map_append]
                exact ho
            · obtain rfl : n = S.size := by omega
              have hfin : pieces s.data.toList = ps ++ [P.data.toList] := by rw [hpeq, pieces_short (by omega), hPl, List.take_of_length_le (by omega)]; rfl
              have HX := Lib.hid hfin
              clear hPl hpeq hRl hRz hn HP HN hfin
              go_wp2_with fail
              go_ret
              rw [HX.out]
              have ho' : w'.ownsRow w.heap.size 9 1 (.slice (some ⟨g, 0, none⟩) (ps.length + 1) cap) (ps.length + 1) ((ps ++ [P.data.toList]).map str) := by rw [List.map_append]; exact ho
              obtain ⟨g1, cap1, e1, h1, _, h3⟩ := strs_own ho' (by simp)
              exact ⟨g1, ⟨cap1, congrArg Ending.returned e1⟩, h1, h3, hB1⟩
end Go.Proofs.YtlofjfeimhjdlaaGreatDoor
