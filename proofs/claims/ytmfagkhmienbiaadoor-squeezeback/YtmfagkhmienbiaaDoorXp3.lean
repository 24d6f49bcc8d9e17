/- squeeze.Expand at any text; ammonitelaw4.SqueezeRuns. -/
import Derived.Test.YtmfagkhmienbiaaDoorXp2
namespace Go.Proofs.YtmfagkhmienbiaaDoor
open Go.RowKit

theorem expand_bad (s : ByteArray) (m : Int) (hs : s.size ≤ 1099511627000) (h : Lib.indexByte s.data.toList 59 < 0) (w : World) :
    Calls Tryd.prog 11 #[.string s, .int .i64 m] w fun e w' => e = .returned (xpV none) ∧ Below w.heap.size w w' := by
  have hs2 : s.size ≤ maxLen := by unfold maxLen; omega
  have p1 := cut_no s h
  have p2 := readDec_any s hs2
  clear h
  cases hd : rdDec s.data.toList with
  | none =>
    rw [hd] at p2
    unfold rdDV at p2
    clear hd
    go_enter Tryd.func11, Tryd.ntmps11
    go_wp2_with (first
      | (go_at_call 20; (with_reducible refine (p1 _).mono ?_); rintro e w1 ⟨rfl, hb1⟩)
      | (go_at_call 21; (with_reducible refine (p2 _).mono ?_); rintro e w2 ⟨rfl, rfl⟩))
    go_ret2
    exact ⟨rfl, hb1⟩
  | some n =>
    rw [hd] at p2
    unfold rdDV at p2
    clear hd
    go_enter Tryd.func11, Tryd.ntmps11
    go_wp2_with (first
      | (go_at_call 20; (with_reducible refine (p1 _).mono ?_); rintro e w1 ⟨rfl, hb1⟩)
      | (go_at_call 21; (with_reducible refine (p2 _).mono ?_); rintro e w2 ⟨rfl, rfl⟩))
    go_ret2
    exact ⟨rfl, hb1⟩
theorem expand_head (s : ByteArray) (m : Int) (i : Nat) (hs : s.size ≤ 1099511627000) (hi : Lib.indexByte s.data.toList 59 = i) (h : ∀ n, rdDec (s.data.toList.take i) = some n → m < (n : Int)) (w : World) :
    Calls Tryd.prog 11 #[.string s, .int .i64 m] w fun e w' => e = .returned (xpV none) ∧ Below w.heap.size w w' := by
  have hs2 : s.size ≤ maxLen := by unfold maxLen; omega
  have hlt : i < s.size := by
    have := indexByte_le s.data.toList 59
    rw [hi] at this
    simpa using this
  have p1 := cut_yes s i hi.symm hs2
  obtain ⟨hd, hhd⟩ : ∃ hd, hd = s.extract 0 i := ⟨_, rfl⟩
  have hhs : hd.size ≤ maxLen := by rw [hhd, ext_size s 0 i (by omega)]; unfold maxLen; omega
  have hdl : hd.data.toList = s.data.toList.take i := by rw [hhd, ext_head]
  have p2 := readDec_any hd hhs
  rw [hdl] at p2
  rw [← hhd] at p1
  clear hhd hdl hhs hi hlt hs2
  cases hr : rdDec (s.data.toList.take i) with
  | none =>
    rw [hr] at p2
    unfold rdDV at p2
    clear hr h
    go_enter Tryd.func11, Tryd.ntmps11
    go_wp2_with (first
      | (go_at_call 20; (with_reducible refine (p1 _).mono ?_); rintro e w1 ⟨rfl, hb1⟩)
      | (go_at_call 21; (with_reducible refine (p2 _).mono ?_); rintro e w2 ⟨rfl, rfl⟩))
    go_ret2
    exact ⟨rfl, hb1⟩
  | some n =>
    have t0 : decide (m < (n : Int)) = true := by rw [decide_eq_true_iff]; exact h n hr
    rw [hr] at p2
    unfold rdDV at p2
    clear hr h
    go_enter Tryd.func11, Tryd.ntmps11
    go_wp2_with (first
      | (go_at_call 20; (with_reducible refine (p1 _).mono ?_); rintro e w1 ⟨rfl, hb1⟩)
      | (go_at_call 21; (with_reducible refine (p2 _).mono ?_); rintro e w2 ⟨rfl, rfl⟩))
    go_ret2
    exact ⟨rfl, hb1⟩
theorem rdDec_le {l : List UInt8} {n : Nat} (h : rdDec l = some n) : n ≤ 1073741824 := by
  unfold rdDec at h
  split at h
  · cases h
  · exact rdD_le _ _ _ h (by omega)
theorem expand_any (s : ByteArray) (m : Int) (hs : s.size ≤ 1099511627000) (w : World) :
    Calls Tryd.prog 11 #[.string s, .int .i64 m] w fun e w' => e = .returned (xpV (xpand s.data.toList m)) ∧ Below w.heap.size w w' := by
  by_cases h : Lib.indexByte s.data.toList 59 < 0
  · rw [xpand_none h]; exact expand_bad s m hs h w
  · obtain ⟨i, hi⟩ : ∃ i : Nat, Lib.indexByte s.data.toList 59 = i := ⟨(Lib.indexByte s.data.toList 59).toNat, by omega⟩
    cases hr : rdDec (s.data.toList.take i) with
    | none => rw [xpand_bad hi hr]; exact expand_head s m i hs hi (fun n hn => by rw [hr] at hn; cases hn) w
    | some n =>
      by_cases hm : m < n
      · rw [xpand_big hi hr hm]
        exact expand_head s m i hs hi (fun k hk => by rw [hr] at hk; cases hk; exact hm) w
      · rw [xpand_go hi hr hm]
        exact expand_go s m i n hs hi hr hm (rdDec_le hr) _ (by rw [show s.data.toList.length = s.size from Array.length_toList]) w
theorem expand_yes (s : ByteArray) (m : Int) (t : ByteArray) (hs : s.size ≤ 1099511627000) (h : xpand s.data.toList m = some t.data.toList) (w : World) :
    Calls Tryd.prog 11 #[.string s, .int .i64 m] w fun e w' => e = .returned (.tuple #[.string t, .bool true]) ∧ Below w.heap.size w w' := by
  have := expand_any s m hs w
  rw [h] at this
  exact this
theorem expand_not (s : ByteArray) (m : Int) (hs : s.size ≤ 1099511627000) (h : xpand s.data.toList m = none) (w : World) :
    Calls Tryd.prog 11 #[.string s, .int .i64 m] w fun e w' => e = .returned (.tuple #[.string ByteArray.empty, .bool false]) ∧ Below w.heap.size w w' := by
  have := expand_any s m hs w
  rw [h] at this
  exact this
theorem ev_1 : xpand [54, 59, 2, 97, 98, 99, 128, 0, 3] 9 = some [97, 98, 99, 97, 98, 99] := by decide +kernel
theorem ev_2 : xpand [54, 59, 2, 97, 98, 99, 128, 0, 4] 9 = none := by decide +kernel
theorem ev_3 : xpand [54, 59, 2, 97, 98, 99, 128, 0, 3] 5 = none := by decide +kernel
theorem runs_any (w : World) :
    Calls Tryd.prog 13 #[] w fun e w' => e = .returned (.bool true) ∧ Below w.heap.size w w' := by
  have p1 := expand_yes ⟨#[54, 59, 2, 97, 98, 99, 128, 0, 3]⟩ 9 ⟨#[97, 98, 99, 97, 98, 99]⟩ (by decide) ev_1
  have p2 := expand_not ⟨#[54, 59, 2, 97, 98, 99, 128, 0, 4]⟩ 9 (by decide) ev_2
  have p3 := expand_not ⟨#[54, 59, 2, 97, 98, 99, 128, 0, 3]⟩ 5 (by decide) ev_3
  go_enter Tryd.func13, Tryd.ntmps13
  go_wp2_with (first
    | (go_at_call 11; (with_reducible refine (p1 _).mono ?_); rintro e w1 ⟨rfl, hb1⟩)
    | (go_at_call 11; (with_reducible refine (p2 _).mono ?_); rintro e w2 ⟨rfl, hb2⟩)
    | (go_at_call 11; (with_reducible refine (p3 _).mono ?_); rintro e w3 ⟨rfl, hb3⟩))
  go_ret
  exact ⟨rfl, below_step (below_step hb1 hb2) hb3⟩
end Go.Proofs.YtmfagkhmienbiaaDoor
