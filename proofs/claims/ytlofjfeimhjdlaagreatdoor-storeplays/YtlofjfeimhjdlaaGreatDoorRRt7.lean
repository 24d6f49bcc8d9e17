/- THE WALK of the reference's Rows. -/
import Derived.Test.YtlofjfeimhjdlaaGreatDoorTe7
import Derived.Test.YtlofjfeimhjdlaaGreatDoorRDc7
import Derived.Deep.RegionHeld
namespace Go.Proofs.YtlofjfeimhjdlaaGreatDoor
open Go.RowKit
set_option maxRecDepth 100000

theorem rdec_to (n : Int) (m : Nat) (hn : n = (m : Int)) (h : m ≤ 1073741824) (d : ByteArray) (hd : d = bA (Lib.decDigits m)) (w : World) : Calls Tryz.prog 27 #[.int .i64 n] w fun e w' => e = .returned (.string d) ∧ Below w.heap.size w w' := by
  subst hn; subst hd
  exact rdecn_any m h w
theorem row_keep {w v : World} {Q : Nat} {r : Rr} (h : Lw w Q (rcells r)) (hb : Below w.heap.size w v) : v.cell? ⟨Q, 0, none⟩ = some (.string (bA r.k)) ∧ v.cell? ⟨Q, 1, none⟩ = some (.string (bA r.v)) := by
  have := Rw.below h hb h.size
  exact ⟨this.at 0, this.at 1⟩
set_option maxHeartbeats 2000000 in
theorem rrowsT_any (y : Value) (rs : List Rr) (w : World) (hL : (rtext rs).length ≤ 1000000000000) (hok : ∀ r ∈ rs, r.k.length ≤ 1073741824 ∧ r.v.length ≤ 1073741824) (h : IsR w y rs) :
    Calls Tryz.prog 11 #[y] w fun e w' => e = .returned (.string (bA (rtext rs))) ∧ Below w.heap.size w w' := by
  rcases h with ⟨rfl, rfl⟩ | ⟨g, o, c, rfl, hg, hcs⟩
  · go_enter Tryz.func11, Tryz.ntmps11
    go_wp2
    go_loopw [3, 8] (fun s i wr => s = .string ⟨#[]⟩ ∧ i = .int .i64 0 ∧ wr = w) (fun _ _ _ => 0)
    case atStart => exact ⟨rfl, rfl, rfl⟩
    case round =>
      obtain ⟨rfl, rfl, rfl⟩ := hrel
      go_wp2
      go_ret
      exact ⟨rfl, Below.refl _ _⟩
  · obtain ⟨n, hn⟩ : ∃ n, n = rs.length := ⟨_, rfl⟩
    rw [← hn]
    have hnl : n ≤ 1000000000000 := by rw [hn]; exact Nat.le_trans (rtext_len rs) hL
    have HN := Lib.hid hn
    clear hn
    go_enter Tryz.func11, Tryz.ntmps11
    go_wp2
    go_loopg [3, 8] (n + 1) (fun G s a wr => ∃ (i : Nat) (S : ByteArray), s = .string S ∧ Hid (S = bA (rtext (rs.take i))) ∧ a = .int .i64 (i : Int) ∧ i ≤ n ∧ G = n + 1 - i ∧ Below w.heap.size w wr)
    case atStart => exact ⟨0, ⟨#[]⟩, rfl, Lib.hid rfl, rfl, Nat.zero_le _, by omega, Below.refl _ _⟩
    case round =>
      obtain ⟨i, S, rfl, HS, rfl, hi, hG, hbw⟩ := hrel
      by_cases hlt : i < n
      · have t1 : decide ((i : Int) < (n : Int)) = true := by simp; omega
        obtain ⟨r, hrr⟩ : ∃ r, rs[i]? = some r := ⟨_, List.getElem?_eq_getElem (by have := HN.out; omega)⟩
        have hmem := List.mem_of_getElem? hrr
        obtain ⟨hk1, hv1⟩ := hok r hmem
        obtain ⟨c0, c1, c2⟩ := IsR.at (w := wr) (g := g) (o := o) (fun j u hu => (hbw.cell (p := ⟨g, o + j, none⟩) hg).trans (hcs j u hu)) hrr
        obtain ⟨Q, W1, hQ, hW1, hR1, hB1⟩ := box_row wr r
        have hB1w := bstep hbw hB1
        obtain ⟨dk, hdk⟩ := dec_name r.k.length
        obtain ⟨dv, hdv⟩ := dec_name r.v.length
        have pdk : ∀ v, Calls Tryz.prog 27 #[.int .i64 ((bA r.k).size : Int)] v fun e w' => e = .returned (.string dk) ∧ Below v.heap.size v w' := fun v => rdec_to _ r.k.length rfl hk1 dk hdk v
        have pdv : ∀ v, Calls Tryz.prog 27 #[.int .i64 ((bA r.v).size : Int)] v fun e w' => e = .returned (.string dv) ∧ Below v.heap.size v w' := fun v => rdec_to _ r.v.length rfl hv1 dv hdv v
        have hdkz : dk.size ≤ 20 := by rw [hdk]; show (Lib.decDigits _).length ≤ 20; rw [Lib.decDigits_length]; exact Lib.nDigits_le20 _ (by omega)
        have hdvz : dv.size ≤ 20 := by rw [hdv]; show (Lib.decDigits _).length ≤ 20; rw [Lib.decDigits_length]; exact Lib.nDigits_le20 _ (by omega)
        have hSz : S.size ≤ 1000000000000 := by rw [HS.out]; exact Nat.le_trans (rtext_take_len rs i) hL
        have hkz : (bA r.k).size ≤ 1073741824 := hk1
        have hvz : (bA r.v).size ≤ 1073741824 := hv1
        have f1 : ¬ 9223372036854775807 < S.size + dk.size := by omega
        have f2 : ¬ 9223372036854775807 < S.size + dk.size + 1 := by omega
        have d0 := hR1.key
        have d1 := hR1.val
        have d2 := hR1.gon
        have HT := Lib.hid (show rtext (rs.take (i + 1)) = rtext (rs.take i) ++ rt r from rtext_take hrr)
        have HD := Lib.hid (And.intro hdk hdv)
        have hkp : ∀ v, Below W1.heap.size W1 v → Lw v Q (rcells r) := fun v hv => Rw.below hR1 hv hR1.size
        clear hrr hmem hok hdk hdv hcs
        obtain ⟨S2, hS2⟩ : ∃ S2, S2 = S ++ dk ++ (⟨#[32]⟩ : ByteArray) := ⟨_, rfl⟩
        have hS2z : S2.size ≤ 1000000000021 := by rw [hS2, app_size, app_size]; show S.size + dk.size + 1 ≤ _; omega
        go_upto_region 6 with (go_at_call 27; (with_reducible refine (pdk _).mono ?_); rintro e w2 ⟨rfl, hb2⟩)
        rw [← hS2]
        have HS2 := Lib.hid hS2
        have hR2 := hkp _ hb2
        have e0 := hR2.key
        have e1 := hR2.val
        have e2 := hR2.gon
        have hb2w := bstep hB1w hb2
        clear hS2 pdk c0 c1 c2 hW1 f1 f2 d0 d1 d2
        cases hgb : r.g with
        | true =>
          rw [hgb] at e2
          have f3 : ¬ 9223372036854775807 < S2.size + 1 := by omega
          have f4 : ¬ 9223372036854775807 < S2.size + 1 + (bA r.k).size := by omega
          have hfin : Hid (S2 ++ ⟨#[45]⟩ ++ bA r.k = bA (rtext (rs.take (i + 1)))) := Lib.hid (by
            rw [HT.out, HS2.out, HS.out]
            apply ba_inj
            rw [app_list, app_list, app_list, app_list, HD.out.1]
            unfold rt
            rw [if_pos hgb]
            simp [bA])
          go_wp2
          go_roundg (n + 1 - (i + 1))
          case measure => omega
          case rel => exact ⟨i + 1, _, rfl, hfin, by go_num, by omega, rfl, hb2w⟩
        | false =>
          rw [hgb] at e2
          have f3 : ¬ 9223372036854775807 < S2.size + dv.size := by omega
          have f4 : ¬ 9223372036854775807 < S2.size + dv.size + 1 := by omega
          have f5 : ¬ 9223372036854775807 < S2.size + dv.size + 1 + (bA r.k).size := by omega
          have f6 : ¬ 9223372036854775807 < S2.size + dv.size + 1 + (bA r.k).size + (bA r.v).size := by omega
          have hfin : Hid (S2 ++ dv ++ ⟨#[32]⟩ ++ bA r.k ++ bA r.v = bA (rtext (rs.take (i + 1)))) := Lib.hid (by
            rw [HT.out, HS2.out, HS.out]
            apply ba_inj
            rw [app_list, app_list, app_list, app_list, app_list, app_list, HD.out.1, HD.out.2]
            unfold rt
            rw [if_neg (by rw [hgb]; decide)]
            simp [bA])
          go_upto_region 8 with fail
          have k2 := row_keep hR2 (Below.refl _ w2).drew
          go_region_held (fun v => v.cell? ⟨Q, 0, none⟩ = some (.string (bA r.k)) ∧ v.cell? ⟨Q, 1, none⟩ = some (.string (bA r.v))) (first | assumption | skip)
            (first | (go_at_call 27; (with_reducible refine (pdv _).mono ?_); rintro e w3 ⟨rfl, hb3⟩; have k3 := row_keep hR2 ((Below.refl _ w2).drew.trans hb3)))
          all_goals
            go_wp2
            go_roundg (n + 1 - (i + 1))
            case measure => omega
            case rel => exact ⟨i + 1, _, rfl, hfin, by go_num, by omega, rfl, bstep hb2w ((Below.refl _ w2).drew.trans hb3)⟩
      · obtain rfl : i = n := by omega
        have t1 : decide ((i : Int) < (i : Int)) = false := by simp
        go_wp2
        go_ret
        refine ⟨?_, hbw⟩
        rw [HS.out, HN.out, List.take_length]
        rfl
end Go.Proofs.YtlofjfeimhjdlaaGreatDoor
