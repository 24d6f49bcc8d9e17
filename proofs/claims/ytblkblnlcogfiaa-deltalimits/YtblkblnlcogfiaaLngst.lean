/- THE WALKS of delta.longest and delta.literal. -/
import Derived.Test.YtblkblnlcogfiaaMkI
import Derived.Test.YtblkblnlcogfiaaDRuns
import Derived.Test.YtblkblnlcogfiaaShelf
import Derived.Deep.DeepCutAuto
import Derived.Deep.CutBlock
import Derived.Deep.LoopGhost
import Derived.WalkMore
namespace Go.Proofs.Ytblkblnlcogfiaa
open Go.RowKit

theorem wpStill_skip2 {P : Program} {ops : Array Oper} {w : World} {Q : Act → Prop} {a : Act} {o : Oper} {rest : List Oper} (h : Region.wanted o (yielded ops a.tmps) = false) (h2 : wpStill P ops w Q rest (a.put o.dst undef)) : wpStill P ops w Q (o :: rest) a := by
  rw [wpStill, if_neg (by rw [h]; decide)]; exact h2
/-- strings.Index in a rest of a text, its answer named. -/
theorem index_to (s sub : ByteArray) (i : Int) (m : Int) (hs : s.size < 4294967281) (hi : i = Lib.index s.data.toList sub.data.toList) (w : World) (hm : w.cell? ⟨0, 0, none⟩ = some (.int .i64 m)) :
    Calls Try.prog 31 #[.string s, .string sub] w fun e w' => e = .returned (.int .i64 i) ∧ w = w' := by
  rw [hi]
  exact (Try.strings_Index s sub m w hs hm).mono fun e w' h => ⟨h.1, h.2.symm⟩
theorem ext_tail (s : ByteArray) (a : Nat) : (s.extract a s.size).data.toList = s.data.toList.drop a := by
  simp [ByteArray.data_extract]
  exact List.take_of_length_le (by simp)
theorem ext_head (s : ByteArray) (k : Nat) : (s.extract 0 k).data.toList = s.data.toList.take k := by
  simp [ByteArray.data_extract]
theorem get_l (s : ByteArray) (k : Nat) (h : k < s.size) : s.data.toList[k]'(by simpa using h) = s[k] := rfl
/-- strings.Index of the next beginning of T in the rest of S. -/
theorem index_at (S T : ByteArray) (a z : Nat) (hS : S.size ≤ 100000) (m : Int) (i : Int) (hi : i = Lib.index (S.data.toList.drop a) (T.data.toList.take (z + 1))) (w : World) (hm : w.cell? ⟨0, 0, none⟩ = some (.int .i64 m)) :
    Calls Try.prog 31 #[.string (S.extract a S.size), .string (T.extract 0 (z + 1))] w fun e w' => e = .returned (.int .i64 i) ∧ w = w' :=
  index_to _ _ i m (by rw [ByteArray.size_extract]; omega) (by rw [ext_tail, ext_head]; exact hi) w hm

def Longest (S T : ByteArray) (w : World) (e : Ending) (w' : World) : Prop := ∃ p z : Nat, e = .returned (.tuple #[.int .i64 p, .int .i64 z]) ∧ Hid (Lng S.data.toList T.data.toList p z) ∧ Below w.heap.size w w'
set_option maxRecDepth 100000 in
set_option maxHeartbeats 1000000 in
theorem longest_any (S T : ByteArray) (hS : S.size ≤ 100000) (hT0 : 0 < T.size) (hT : T.size ≤ 100000) (m : Int) (w : World) (hm : w.cell? ⟨0, 0, none⟩ = some (.int .i64 m)) :
    Calls Try.prog 26 #[.string S, .string T] w (Longest S T w) := by
  unfold Longest
  go_enter Try.func26, Try.ntmps26
  go_wp2
  go_step3
  go_wp2
  go_step3
  go_wp2
  go_loopg [4, 5, 6] (S.size + 1) (fun g a b c wr => ∃ p z k : Nat, a = .int .i64 (p : Int) ∧ b = .int .i64 (z : Int) ∧ c = .int .i64 (k : Int) ∧ k ≤ S.size ∧ z < T.size ∧ g = S.size + 1 - k ∧ Below w.heap.size w wr ∧ Hid (Mt S.data.toList T.data.toList p z ∧ Top S.data.toList T.data.toList k z))
  case atStart => exact ⟨0, 0, 0, rfl, rfl, rfl, by omega, hT0, by omega, Below.refl _ _, Lib.hid ⟨Mt.zero _ _ 0 (by omega), Or.inl ⟨rfl, rfl⟩⟩⟩
  case round =>
    obtain ⟨p, z, k, rfl, rfl, rfl, hk, hz, hg, hb, HR⟩ := hrel
    by_cases hlt : k < S.size
    · have hmr : wr.drew.cell? ⟨0, 0, none⟩ = some (.int .i64 m) := (hb.cell (p := ⟨0, 0, none⟩) (block_lt_of_cell hm)).trans hm
      have l0 : (0 : Int) ≤ (k : Int) := by omega
      have l1 : (k : Int) ≤ (S.size : Int) := by omega
      have l2 : (0 : Int) ≤ (z : Int) + 1 := by omega
      have l3 : (z : Int) + 1 ≤ (T.size : Int) := by omega
      have n1 : ((z : Int) + 1).toNat = z + 1 := by omega
      have q0 : IntKind.i64.wrap ((z : Int) + 1) = (z : Int) + 1 := IntWalk.i64_in _ (by omega)
      rcases Lib.index_spec (S.data.toList.drop k) (T.data.toList.take (z + 1)) with ⟨hi, hno⟩ | ⟨i, hi, hil, hocc, hno⟩
      · have g1 := index_at S T k z hS m (-1) hi.symm _ hmr
        have HN := Lib.hid hno
        clear hi hno
        go_wp2
        refine wp_region_still_lit (by kernel_rfl) (by kernel_rfl) ?_
        repeat still_step
        still_call (g1.mono fun _ _ h => ⟨h.1, h.2.symm⟩)
        repeat still_step
        refine wpStill_nil ?_
        go_wp2
        try rw [Exit.noGoto_ret]
        go_ret2
        exact ⟨p, z, rfl, Lib.hid ⟨HR.out.1, top_none HR.out.2 HN.out⟩, hb.drew⟩
      · have g1 := index_at S T k z hS m i hi.symm _ hmr
        have hf := found (S := S.data.toList) (T := T.data.toList) (by simpa using hz) hocc
        have htop := top_some HR.out.2 hno
        have hks : k + i + z < S.size := by simpa using hf.2
        have HN := Lib.hid (And.intro hf.1 htop)
        have d0 : decide ((i : Int) < 0) = false := by simp
        clear hi hno hocc hf htop hil HR
        go_wp2
        refine wp_region_still_lit (by kernel_rfl) (by kernel_rfl) ?_
        repeat still_step
        still_call (g1.mono fun _ _ h => ⟨h.1, h.2.symm⟩)
        repeat still_step
        refine wpStill_nil ?_
        clear l0 l1 l2 l3 n1 q0 g1 hmr
        obtain ⟨a, ha⟩ : ∃ a, a = k + i := ⟨_, rfl⟩
        have hai : (k : Int) + (i : Int) = (a : Int) := by omega
        have HK := Lib.hid ha
        clear ha
        go_wp2
        go_loopg [5] (T.size - z) (fun g b wx => ∃ y : Nat, b = .int .i64 (y : Int) ∧ z ≤ y ∧ y < T.size ∧ a + y ≤ S.size ∧ g = T.size - y ∧ Below w.heap.size w wx ∧ Hid (Mt S.data.toList T.data.toList a y ∧ (a = 0 ∨ ∀ k, Alike S.data.toList T.data.toList k → k ≤ y)))
        case atStart => exact ⟨z, rfl, by omega, hz, by omega, rfl, hb.drew, Lib.hid (by rw [HK.out]; exact HN.out)⟩
        case round =>
          obtain ⟨y, rfl, hzy, hyT, hay, hg2, hb2, HY⟩ := hrel
          go_upto_region 8 with fail
          go_cut [44] (fun b wx => ∃ bb : Bool, b = .bool bb ∧ wx = wr.drew ∧ Hid (bb = true → ∃ h1 : a + y < S.size, S[a + y] = T[y]) ∧ Hid (bb = false → ∀ h1 : a + y < S.size, S[a + y] ≠ T[y]))
          case first =>
            have w1 : IntKind.i64.wrap ((a : Int) + (y : Int)) = (a : Int) + (y : Int) := IntWalk.i64_in _ (by omega)
            have w2 : ((a : Int) + (y : Int)).toNat = a + y := by omega
            by_cases h1 : a + y < S.size
            · have d1 : decide ((a : Int) + (y : Int) < (S.size : Int)) = true := by simp; omega
              have l0 : (0 : Int) ≤ (a : Int) + (y : Int) := by omega
              have l1 : (a : Int) + (y : Int) < (S.size : Int) := by omega
              have l2 : (y : Int) < (T.size : Int) := by omega
              by_cases h2 : S[a + y] = T[y]
              · have d3 : ((S[a + y].toNat : Int) == (T[y].toNat : Int)) = true := by rw [h2]; simp
                have H2 := Lib.hid h2
                clear h2
                refine wp_region_still_lit (by kernel_rfl) (by kernel_rfl) ?_
                repeat ((with_reducible refine wpStill_step (fun K hK => ?_)); go_simp; (with_reducible refine hK _ ?_); clear hK K)
                with_reducible refine wpStill_nil ?_
                go_wp2_with fail
                go_meet
                case rel => exact ⟨true, rfl, rfl, Lib.hid fun _ => ⟨h1, H2.out⟩, Lib.hid fun h => by cases h⟩
              · have d3 : ((S[a + y].toNat : Int) == (T[y].toNat : Int)) = false := by
                  have := ne_u8 h2
                  simpa [bne] using this
                have H2 := Lib.hid h2
                clear h2
                refine wp_region_still_lit (by kernel_rfl) (by kernel_rfl) ?_
                repeat ((with_reducible refine wpStill_step (fun K hK => ?_)); go_simp; (with_reducible refine hK _ ?_); clear hK K)
                with_reducible refine wpStill_nil ?_
                go_wp2_with fail
                go_meet
                case rel => exact ⟨false, rfl, rfl, Lib.hid (fun h => by cases h), Lib.hid fun _ _ => H2.out⟩
            · have d1 : decide ((a : Int) + (y : Int) < (S.size : Int)) = false := by simp; omega
              have d2 : decide (a + y < S.size) = false := by simp; omega
              have H1 := Lib.hid h1
              clear h1
              refine wp_region_still_lit (by kernel_rfl) (by kernel_rfl) ?_
              iterate 7 ((with_reducible refine wpStill_step (fun K hK => ?_)); go_simp; (with_reducible refine hK _ ?_); clear hK K)
              iterate 9 (with_reducible refine wpStill_skip2 (by kernel_rfl) ?_)
              (with_reducible refine wpStill_step (fun K hK => ?_)); go_simp; (with_reducible refine hK _ ?_); clear hK K
              with_reducible refine wpStill_nil ?_
              go_wp2_with fail
              go_meet
              case rel => exact ⟨false, rfl, rfl, Lib.hid (fun h => by cases h), Lib.hid fun _ h => absurd h H1.out⟩
          case rest =>
            obtain ⟨bb, rfl, rfl, HT, HF⟩ := hcut
            cases bb
            · have hst : ∀ k, Alike S.data.toList T.data.toList k → k ≤ y := top_stop HY.out.2 (fun h1 h2 => HF.out rfl (by simpa using h1))
              have HS := Lib.hid hst
              clear hst HT HF
              go_wp2_with fail
              go_roundg (S.size + 1 - (a + 1))
              case measure => omega
              case rel => exact ⟨a, y, a + 1, rfl, rfl, by go_num, by omega, hyT, rfl, hb2.drew, Lib.hid ⟨HY.out.1, Or.inr HS.out⟩⟩
            · obtain ⟨h1, h2⟩ := HT.out rfl
              have hnx : Mt S.data.toList T.data.toList a (y + 1) := HY.out.1.next (by simpa using h1) (by simpa using hyT) h2
              have HX := Lib.hid hnx
              have htp := HY.out.2
              have HP := Lib.hid htp
              clear hnx htp h2 HT HF
              by_cases hend : y + 1 = T.size
              · have d4 : ((y : Int) + 1 == (T.size : Int)) = true := by simp; omega
                have HE := Lib.hid hend
                clear hend
                go_wp2_with fail
                try rw [Exit.noGoto_ret]
                go_ret2
                refine ⟨a, y + 1, by rw [show ((y + 1 : Nat) : Int) = (y : Int) + 1 by omega]; rfl, Lib.hid ⟨HX.out, fun k hk => ?_⟩, hb2.drew⟩
                have := hk.2.1
                have := HE.out
                simp at *
                omega
              · have d4 : ((y : Int) + 1 == (T.size : Int)) = false := by simp; omega
                go_wp2_with fail
                go_roundg (T.size - (y + 1))
                case measure => omega
                case rel =>
                  refine ⟨y + 1, by go_num, by omega, by omega, by omega, rfl, hb2.drew, Lib.hid ⟨HX.out, ?_⟩⟩
                  rcases HP.out with h | h
                  · exact Or.inl h
                  · exact Or.inr fun k hk => Nat.le_succ_of_le (h k hk)
    · go_wp2
      try rw [Exit.noGoto_ret]
      go_ret2
      refine ⟨p, z, rfl, Lib.hid ⟨HR.out.1, ?_⟩, hb⟩
      rcases HR.out.2 with ⟨h0, _⟩ | h
      · intro j hj
        have := hj.1
        simp at this
        omega
      · exact h

theorem literal_any (t : ByteArray) (l : ByteArray) (hl : l = ⟨(litL t.data.toList).toArray⟩) (ht : t.size ≤ 1000) (w : World) :
    Calls Try.prog 27 #[.string t] w fun e w' => e = .returned (.string l) ∧ Below w.heap.size w w' := by
  by_cases h0 : t.size = 0
  · have e0 : t = ByteArray.empty := by
      apply ByteArray.ext
      exact Array.eq_empty_of_size_eq_zero h0
    have hl2 : l = ByteArray.empty := by rw [hl, e0]; rfl
    subst e0 hl2
    clear hl h0
    go_enter Try.func27, Try.ntmps27
    go_wp2
    go_ret
    exact ⟨rfl, Below.refl _ _⟩
  · obtain ⟨p, hp, z1, z2⟩ : ∃ p : ByteArray, p = ⟨(put t.size).toArray⟩ ∧ 1 ≤ p.size ∧ p.size ≤ 6 :=
      ⟨_, rfl, by rw [put_size _ _ rfl]; exact (nd_bd _).1, by rw [put_size _ _ rfl]; exact (nd_bd _).2⟩
    have g1 := put_to t.size t.size p (by omega) rfl hp
    have hne : t.data.toList ≠ [] := by
      intro h
      have := congrArg List.length h
      simp at this
      exact h0 (by simp [ByteArray.size, this])
    have e1 : p ++ ⟨#[58]⟩ ++ t = l := by
      rw [hl, hp]
      unfold litL
      rw [if_neg hne]
      apply ByteArray.ext
      apply Array.ext'
      simp
    have t0 : t.toList.isEmpty = false := by rw [ByteArray.toList_eq]; simpa using hne
    have HE := Lib.hid e1
    clear e1 hl hp hne
    go_enter Try.func27, Try.ntmps27
    go_wp2_with (go_at_call 8; (with_reducible refine (g1 _).mono ?_); rintro e w1 ⟨rfl, hb⟩)
    go_ret
    exact ⟨by rw [← HE.out]; rfl, hb⟩
end Go.Proofs.Ytblkblnlcogfiaa
