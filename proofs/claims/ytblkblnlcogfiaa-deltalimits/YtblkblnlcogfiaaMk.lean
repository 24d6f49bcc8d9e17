/- THE WALK of delta.Make. -/
import Derived.Test.YtblkblnlcogfiaaLngst
namespace Go.Proofs.Ytblkblnlcogfiaa
open Go.RowKit

theorem put_get1 (n : Nat) : ∃ p : ByteArray, p = ⟨(put n).toArray⟩ ∧ 1 ≤ p.size ∧ p.size ≤ 6 :=
  ⟨_, rfl, by rw [put_size n _ rfl]; exact (nd_bd n).1, by rw [put_size n _ rfl]; exact (nd_bd n).2⟩
theorem make_big (S T : ByteArray) (hT : 300 < T.size) (hT2 : T.size ≤ maxLen) (w : World) :
    Calls Try.prog 18 #[.string S, .string T] w fun e w' => e = .returned (.string ByteArray.empty) ∧ w = w' := by
  unfold maxLen at hT2
  go_enter Try.func18, Try.ntmps18
  go_wp2
  go_ret
  exact ⟨rfl, rfl⟩
/-- longest in the rest of T. -/
theorem longest_at (S T : ByteArray) (k : Nat) (hS : S.size ≤ 1000) (hk : k < T.size) (hT : T.size ≤ 300) (m : Int) (w : World) (hm : w.cell? ⟨0, 0, none⟩ = some (.int .i64 m)) :
    Calls Try.prog 26 #[.string S, .string (T.extract k T.size)] w fun e w' => ∃ p z : Nat, e = .returned (.tuple #[.int .i64 p, .int .i64 z]) ∧ p ≤ 1000 ∧ k + z ≤ T.size ∧ Hid (Lng S.data.toList (T.data.toList.drop k) p z) ∧ Below w.heap.size w w' := by
  have hz : (T.extract k T.size).size = T.size - k := by rw [ByteArray.size_extract]; omega
  refine (longest_any S (T.extract k T.size) (by omega) (by omega) (by omega) m w hm).mono ?_
  rintro e w' ⟨p, z, he, HL, hb⟩
  have hl := HL.out
  rw [ext_tail] at hl
  have h1 := hl.1.1
  have h2 := hl.1.2.1
  simp at h1 h2
  exact ⟨p, z, he, by omega, by omega, Lib.hid hl, hb⟩
theorem inv_len {S T d : List UInt8} {j k : Nat} (h : Inv S T d j k) (hT : T.length ≤ 300) : d.length ≤ j + 3 := by
  obtain ⟨C, e, _, hc, _⟩ := h
  have := nd_two (n := T.length) (by omega)
  rw [e]
  simp [put_length]
  omega
theorem cop_ba (z p : Nat) (a b : ByteArray) (ha : a = ⟨(put z).toArray⟩) (hb : b = ⟨(put p).toArray⟩) : (a ++ ⟨#[64]⟩ ++ b ++ ⟨#[44]⟩ : ByteArray).data.toList = copL z p := by
  rw [ha, hb]; unfold copL; simp
theorem cop_size (a b : ByteArray) : (a ++ ⟨#[64]⟩ ++ b ++ ⟨#[44]⟩ : ByteArray).size = a.size + 1 + b.size + 1 := by
  simp only [ByteArray.size_append]; rfl
theorem ext_mid (T : ByteArray) (j k : Nat) : (T.extract j k).data.toList = (T.data.toList.drop j).take (k - j) := by
  simp [ByteArray.data_extract]
def Made (S T : ByteArray) (w : World) (e : Ending) (w' : World) : Prop :=
  ∃ d : ByteArray, e = .returned (.string d) ∧ Hid (apply S.data.toList d.data.toList = some T.data.toList) ∧ d.size ≤ T.size + 20 ∧ Hid (∀ n, 16 ≤ n → Alike S.data.toList T.data.toList n → d.size ≤ T.size - n + 24) ∧ Below w.heap.size w w'
set_option maxRecDepth 100000 in
set_option maxHeartbeats 1000000 in
theorem make_any (S T : ByteArray) (hS : S.size ≤ 1000) (hT : T.size ≤ 300) (m : Int) (w : World) (hm : w.cell? ⟨0, 0, none⟩ = some (.int .i64 m)) :
    Calls Try.prog 18 #[.string S, .string T] w (Made S T w) := by
  unfold Made
  obtain ⟨p0, hp0, z1, z2⟩ := put_get1 T.size
  have g0 := put_to T.size T.size p0 (by omega) rfl hp0
  have m0 : min (S.size : Int) 1073741824 = (S.size : Int) := by omega
  have HP := Lib.hid hp0
  have d3 : decide (300 < (T.size : Int)) = false := by simp; omega
  clear hp0
  go_enter Try.func18, Try.ntmps18
  go_wp2_with (go_at_call 8; (with_reducible refine (g0 _).mono ?_); rintro e w1 ⟨rfl, hb1⟩)
  go_loopg [5, 6, 7] (T.size + 1) (fun g a b c wr => ∃ (dd : ByteArray) (j k : Nat), a = .string dd ∧ b = .int .i64 (j : Int) ∧ c = .int .i64 (k : Int) ∧ j ≤ k ∧ k ≤ T.size ∧ g = T.size + 1 - k ∧ dd.size ≤ 400 ∧ Below w.heap.size w wr ∧ Hid (Inv S.data.toList T.data.toList dd.data.toList j k))
  case atStart =>
    refine ⟨_, 0, 0, rfl, rfl, rfl, by omega, by omega, by omega, ?_, hb1, Lib.hid ?_⟩
    · rw [ByteArray.size_append]; show p0.size + 1 ≤ _; omega
    · have := inv_start S.data.toList T.data.toList
      rw [HP.out]
      simpa using this
  case round =>
    obtain ⟨dd, j, k, rfl, rfl, rfl, hjk, hk, hg, hdd, hb, HI⟩ := hrel
    have hmr : wr.cell? ⟨0, 0, none⟩ = some (.int .i64 m) := (hb.cell (p := ⟨0, 0, none⟩) (block_lt_of_cell hm)).trans hm
    by_cases hlt : k < T.size
    · have g1 := longest_at S T k hS hlt hT m _ hmr
      go_upto_region 8 with (go_at_call 26; (with_reducible refine g1.mono ?_); rintro e w2 ⟨p, z, rfl, hp, hkz, HL, hb2⟩)
      clear g1 hmr g0 hb1 HP
      obtain ⟨pz, hpz, a1, a2⟩ := put_get1 z
      obtain ⟨pp, hpp, b1, b2⟩ := put_get1 p
      have g2 := put_to z z pz (by omega) rfl hpz
      have g3 := put_to p p pp (by omega) rfl hpp
      have hcop := cop_ba z p pz pp hpz hpp
      have hcs := cop_size pz pp
      have hcl : (copL z p).length = pz.size + 1 + pp.size + 1 := by rw [copL_len, ← put_size z pz hpz, ← put_size p pp hpp]; omega
      have hbz := below_step hb hb2
      clear hpz hpp hb hb2
      by_cases hle : z ≤ pz.size + 1 + pp.size + 1 + 3
      · have hnext := inv_skip HI.out (by simpa using hT) (by simpa using hS) HL.out (by omega)
        have HN := Lib.hid hnext
        clear hnext hcl hcop hcs HL HI
        go_wp2_with (first
          | (go_at_call 8; (with_reducible refine (g2 _).mono ?_); rintro e w3 ⟨rfl, hb3⟩)
          | (go_at_call 8; (with_reducible refine (g3 _).mono ?_); rintro e w4 ⟨rfl, hb4⟩))
        go_roundg (T.size + 1 - (k + 1))
        case measure => omega
        case rel => exact ⟨dd, j, k + 1, rfl, rfl, by go_num, by omega, by omega, rfl, hdd, below_step (below_step hbz hb3) hb4, HN⟩
      · obtain ⟨L, hL⟩ : ∃ L : ByteArray, L = ⟨(litL (T.extract j k).data.toList).toArray⟩ := ⟨_, rfl⟩
        have hjz : (T.extract j k).size = k - j := by rw [ByteArray.size_extract]; omega
        have g4 := literal_any (T.extract j k) L hL (by omega)
        have hnext := inv_copy HI.out hjk (by simpa using hk) (by simpa using hT) (by simpa using hS) HL.out (by omega)
        have hel : (dd ++ (L ++ (pz ++ ⟨#[64]⟩ ++ pp ++ ⟨#[44]⟩)) : ByteArray).data.toList = dd.data.toList ++ (litL ((T.data.toList.drop j).take (k - j)) ++ copL z p) := by
          rw [← hcop, ← ext_mid T j k, hL]; simp
        rw [← hel] at hnext
        have hLz : L.size ≤ k - j + 3 := by
          have h1 := litL_len (T.extract j k).data.toList (by simp; omega)
          have h2 : L.size = (litL (T.extract j k).data.toList).length := by rw [hL]; rfl
          have h3 : (T.extract j k).data.toList.length = (T.extract j k).size := Array.length_toList
          omega
        have hdz := inv_len hnext (by simpa using hT)
        have hdz2 : (dd ++ (L ++ (pz ++ ⟨#[64]⟩ ++ pp ++ ⟨#[44]⟩)) : ByteArray).size ≤ 400 := by
          have : (dd ++ (L ++ (pz ++ ⟨#[64]⟩ ++ pp ++ ⟨#[44]⟩)) : ByteArray).data.toList.length = (dd ++ (L ++ (pz ++ ⟨#[64]⟩ ++ pp ++ ⟨#[44]⟩)) : ByteArray).size := Array.length_toList
          omega
        have HN := Lib.hid (And.intro hnext hdz2)
        clear hnext hcl hcop hcs HL HI hel hdz hdz2 hL hjz
        go_wp2_with (first
          | (go_at_call 8; (with_reducible refine (g2 _).mono ?_); rintro e w3 ⟨rfl, hb3⟩)
          | (go_at_call 8; (with_reducible refine (g3 _).mono ?_); rintro e w4 ⟨rfl, hb4⟩)
          | (go_at_call 27; (with_reducible refine (g4 _).mono ?_); rintro e w5 ⟨rfl, hb5⟩))
        go_roundg (T.size + 1 - (k + z))
        case measure => omega
        case rel => exact ⟨_, k + z, k + z, rfl, by go_num, by go_num, by omega, by omega, rfl, HN.out.2, below_step (below_step (below_step hbz hb3) hb4) hb5, Lib.hid HN.out.1⟩
    · obtain ⟨L, hL⟩ : ∃ L : ByteArray, L = ⟨(litL (T.extract j T.size).data.toList).toArray⟩ := ⟨_, rfl⟩
      have hjz : (T.extract j T.size).size = T.size - j := by rw [ByteArray.size_extract]; omega
      have g4 := literal_any (T.extract j T.size) L hL (by omega)
      have hLz : L.size ≤ T.size - j + 3 := by
        have h1 := litL_len (T.extract j T.size).data.toList (by simp; omega)
        have h2 : L.size = (litL (T.extract j T.size).data.toList).length := by rw [hL]; rfl
        have h3 : (T.extract j T.size).data.toList.length = (T.extract j T.size).size := Array.length_toList
        omega
      obtain ⟨c, hc⟩ : ∃ c, c = chk T.data.toList := ⟨_, rfl⟩
      have g5 := check_to T c (by unfold maxLen; omega) hc
      obtain ⟨pc, hpc, a1, a2⟩ := put_get1 c
      have g6 := put_to c c pc (by have := chk_le T.data.toList; omega) rfl hpc
      have hend := inv_end HI.out (by simpa using (by omega : j ≤ T.size)) (by simpa using (by omega : T.size ≤ k)) (by simpa using hT)
      have hel : (dd ++ L ++ pc ++ ⟨#[59]⟩ : ByteArray).data.toList = dd.data.toList ++ litL (T.data.toList.drop j) ++ put (chk T.data.toList) ++ [59] := by
        rw [← ext_tail T j, hL, hpc, hc]; simp
      rw [← hel] at hend
      have hln : (dd ++ L ++ pc ++ ⟨#[59]⟩ : ByteArray).data.toList.length = (dd ++ L ++ pc ++ ⟨#[59]⟩ : ByteArray).size := Array.length_toList
      have htn : T.data.toList.length = T.size := Array.length_toList
      rw [hln, htn] at hend
      have HE := Lib.hid hend
      clear hend hel hln htn hpc hc hL hjz HI hmr g0 hb1 HP
      go_wp2_with (first
        | (go_at_call 27; (with_reducible refine (g4 _).mono ?_); rintro e w5 ⟨rfl, hb5⟩)
        | (go_at_call 9; (with_reducible refine (g5 _).mono ?_); rintro e w6 ⟨rfl, rfl⟩)
        | (go_at_call 8; (with_reducible refine (g6 _).mono ?_); rintro e w7 ⟨rfl, hb7⟩))
      go_ret
      exact ⟨_, rfl, Lib.hid HE.out.1, HE.out.2.1, Lib.hid HE.out.2.2, below_step (below_step hb hb5) hb7⟩
end Go.Proofs.Ytblkblnlcogfiaa
