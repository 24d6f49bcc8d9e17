/- THE WALK of store.Commit. -/
import Derived.Test.YtlofjfeimhjdlaaDoorTx7
import Derived.Test.YtlofjfeimhjdlaaDoorSOp7
namespace Go.Proofs.YtlofjfeimhjdlaaDoor
open Go.RowKit
set_option maxRecDepth 100000

theorem fits_yes7 (n : Nat) (h : 1 ≤ n ∧ n ≤ 60) (w : World) : Calls Tryd.prog 27 #[.int .i64 (n : Int)] w fun e w' => e = .returned (.bool true) ∧ w = w' := by
  have := sfits_any (n : Int) w
  rw [decide_eq_true (by omega)] at this
  exact this
theorem fits_no7 (n : Nat) (h : ¬ (1 ≤ n ∧ n ≤ 60)) (w : World) : Calls Tryd.prog 27 #[.int .i64 (n : Int)] w fun e w' => e = .returned (.bool false) ∧ w = w' := by
  have := sfits_any (n : Int) w
  rw [decide_eq_false (by omega)] at this
  exact this
set_option maxHeartbeats 2000000 in
/-- A key that may not be: ErrForm. -/
theorem commit_form (sg : Nat) (y : Value) (rs : List Rr) (m : Nat) (r : Rr) (hm : rs[m]? = some r) (hbad : ¬ (1 ≤ r.k.length ∧ r.k.length ≤ 60)) (hbef : ∀ (i : Nat) (q : Rr), i < m → rs[i]? = some q → 1 ≤ q.k.length ∧ q.k.length ≤ 60) (hl : rs.length ≤ 1000000000000) (W : World) (hy : IsR W y rs) :
    Calls Tryd.prog 9 #[.pointer (some ⟨sg, 0, none⟩), y] W fun e W' => e = .returned (.int .i64 1) ∧ Below W.heap.size W W' := by
  have hlt := (List.getElem?_eq_some_iff.1 hm).1
  rcases hy with ⟨rfl, rfl⟩ | ⟨g, o, c, rfl, hg, hcs⟩
  · simp at hlt
  · obtain ⟨n, hn⟩ : ∃ n, n = rs.length := ⟨_, rfl⟩
    rw [← hn] at hl hlt ⊢
    have HN := Lib.hid hn
    clear hn
    go_enter Tryd.func9, Tryd.ntmps9
    go_wp2
    go_loopg [11] (m + 1) (fun G a wr => ∃ i : Nat, a = .int .i64 (i : Int) ∧ i ≤ m ∧ G = m + 1 - i ∧ Below W.heap.size W wr)
    case atStart => exact ⟨0, rfl, Nat.zero_le _, by omega, Below.refl _ _⟩
    case round =>
      obtain ⟨i, rfl, hi, hG, hb⟩ := hrel
      have t1 : decide ((i : Int) < (n : Int)) = true := by simp; omega
      obtain ⟨q, hq⟩ : ∃ q, rs[i]? = some q := ⟨_, List.getElem?_eq_getElem (by have := HN.out; omega)⟩
      obtain ⟨c0, c1, c2⟩ := IsR.at (w := wr) (g := g) (o := o) (fun j u hu => (hb.cell (p := ⟨g, o + j, none⟩) hg).trans (hcs j u hu)) hq
      obtain ⟨Q, W1, hQ, hW1, hR1, hB1⟩ := box_row wr q
      have d0 := hR1.key
      have hz : ((bA q.k).size : Int) = (q.k.length : Int) := rfl
      have HW := Lib.hid (And.intro hQ hW1)
      clear hQ hW1
      by_cases him : i < m
      · have pf := fun v => fits_yes7 q.k.length (hbef i q him hq) v
        rw [← hz] at pf
        clear hz hq hcs hm hbad hbef
        go_upto_region 4 with fail
        rw [HW.out.1, HW.out.2]
        go_wp2_with (go_at_call 27; (with_reducible refine (pf _).mono ?_); rintro e w2 ⟨rfl, hw⟩; subst hw)
        go_roundg (m + 1 - (i + 1))
        case measure => omega
        case rel => exact ⟨i + 1, by go_num, by omega, rfl, bstep hb hB1⟩
      · obtain rfl : i = m := by omega
        rw [hm] at hq
        cases hq
        have pf := fun v => fits_no7 r.k.length hbad v
        rw [← hz] at pf
        clear hz hcs hm hbad hbef
        go_upto_region 4 with fail
        rw [HW.out.1, HW.out.2]
        go_wp2_with (go_at_call 27; (with_reducible refine (pf _).mono ?_); rintro e w2 ⟨rfl, hw⟩; subst hw)
        go_ret
        exact ⟨rfl, bstep hb hB1⟩
set_option maxHeartbeats 2000000 in
/-- Keys as they may be: the journal's Commit of the text; where that goes, the text is done. -/
theorem commit_core (sg jg : Nat) (x y : Value) (base : Nat) (st rs : List Rr) (W : World) (hP : Pow W) (hL : (rtext rs).length ≤ 1000000000000) (hok : ∀ r ∈ rs, r.Ok) (hy : IsR W y rs) (hS : SnAt W base sg jg x st)
    (A : World → Prop) (D : World → Prop) (E : Int → World → Prop)
    (pC : ∀ V, Below W.heap.size W V → Calls Tryd.prog 28 #[.pointer (some ⟨jg, 0, none⟩), .string (bA (rtext rs))] V fun e V' => (e = .returned (.int .i64 0) ∧ A V') ∨ (∃ c : Int, e = .returned (.int .i64 c) ∧ (c != 0) = true ∧ E c V'))
    (pD : ∀ V, A V → Calls Tryd.prog 26 #[.pointer (some ⟨sg, 0, none⟩), .string (bA (rtext rs))] V fun e V' => e = .returned (.tuple #[]) ∧ D V') :
    Calls Tryd.prog 9 #[.pointer (some ⟨sg, 0, none⟩), y] W fun e W' => (e = .returned (.int .i64 0) ∧ D W') ∨ (∃ c : Int, e = .returned (.int .i64 c) ∧ E c W') := by
  have pT : ∀ V, Below W.heap.size W V → Calls Tryd.prog 12 #[y] V fun e w' => e = .returned (.string (bA (rtext rs))) ∧ Below V.heap.size V w' := fun V hV =>
    text_any y rs V (hP.on hV) hL (fun r hr => ⟨by have := (hok r hr).k2; omega, (hok r hr).v⟩) (hy.next hV)
  obtain ⟨n, hn⟩ : ∃ n, n = rs.length := ⟨_, rfl⟩
  have hnl : n ≤ 1000000000000 := by rw [hn]; exact Nat.le_trans (rtext_len rs) hL
  obtain ⟨T, hT⟩ : ∃ T, T = bA (rtext rs) := ⟨_, rfl⟩
  rw [← hT] at pC pD pT
  have c0 : ∀ V, Below W.heap.size W V → V.cell? ⟨sg, 0, none⟩ = some (.pointer (some ⟨jg, 0, none⟩)) := fun V hV => (hS.next hV).head.at 0
  clear hT hL
  rcases hy with ⟨rfl, rfl⟩ | ⟨g, o, c, rfl, hg, hcs⟩
  · go_enter Tryd.func9, Tryd.ntmps9
    go_wp2
    go_loopw [11] (fun i wr => i = .int .i64 0 ∧ wr = W) (fun _ _ => 0)
    case atStart => exact ⟨rfl, rfl⟩
    case round =>
      obtain ⟨rfl, rfl⟩ := hrel
      have pT0 := pT wr (Below.refl _ _)
      go_wp2_with (first
        | (go_at_call 12; (with_reducible refine pT0.mono ?_); rintro e w2 ⟨rfl, hb2⟩; have d0 := c0 _ hb2)
        | (go_at_call 28; (with_reducible refine (pC _ hb2).mono ?_); rintro e w3 (⟨rfl, hA⟩ | ⟨cc, rfl, hne, hE⟩))
        | (go_at_call 26; (with_reducible refine (pD _ hA).mono ?_); rintro e w4 ⟨rfl, hD⟩))
      · go_ret
        exact .inl ⟨rfl, hD⟩
      · go_ret
        exact .inr ⟨_, rfl, hE⟩
  · rw [← hn]
    have HN := Lib.hid hn
    have pT' : ∀ V, Below W.heap.size W V → Calls Tryd.prog 12 #[.slice (some ⟨g, o, none⟩) n c] V fun e w' => e = .returned (.string T) ∧ Below V.heap.size V w' := by rw [hn]; exact pT
    clear hn pT
    go_enter Tryd.func9, Tryd.ntmps9
    go_wp2
    go_loopg [11] (n + 1) (fun G a wr => ∃ i : Nat, a = .int .i64 (i : Int) ∧ i ≤ n ∧ G = n + 1 - i ∧ Below W.heap.size W wr)
    case atStart => exact ⟨0, rfl, Nat.zero_le _, by omega, Below.refl _ _⟩
    case round =>
      obtain ⟨i, rfl, hi, hG, hb⟩ := hrel
      by_cases him : i < n
      · have t1 : decide ((i : Int) < (n : Int)) = true := by simp; omega
        obtain ⟨q, hq⟩ : ∃ q, rs[i]? = some q := ⟨_, List.getElem?_eq_getElem (by have := HN.out; omega)⟩
        obtain ⟨c0', c1, c2⟩ := IsR.at (w := wr) (g := g) (o := o) (fun j u hu => (hb.cell (p := ⟨g, o + j, none⟩) hg).trans (hcs j u hu)) hq
        obtain ⟨Q, W1, hQ, hW1, hR1, hB1⟩ := box_row wr q
        have d0 := hR1.key
        have hz : ((bA q.k).size : Int) = (q.k.length : Int) := rfl
        have HW := Lib.hid (And.intro hQ hW1)
        have hqo := hok q (List.mem_of_getElem? hq)
        have pf := fun v => fits_yes7 q.k.length ⟨hqo.k1, hqo.k2⟩ v
        rw [← hz] at pf
        clear hQ hW1 hz hq hcs hqo hok pC pD pT' c0
        go_upto_region 4 with fail
        rw [HW.out.1, HW.out.2]
        go_wp2_with (go_at_call 27; (with_reducible refine (pf _).mono ?_); rintro e w2 ⟨rfl, hw⟩; subst hw)
        go_roundg (n + 1 - (i + 1))
        case measure => omega
        case rel => exact ⟨i + 1, by go_num, by omega, rfl, bstep hb hB1⟩
      · obtain rfl : i = n := by omega
        have t1 : decide ((i : Int) < (i : Int)) = false := by simp
        have pT0 := pT' wr hb
        go_wp2_with (first
          | (go_at_call 12; (with_reducible refine pT0.mono ?_); rintro e w2 ⟨rfl, hb2⟩; have hbx := bstep hb hb2; have d0 := c0 _ hbx)
          | (go_at_call 28; (with_reducible refine (pC _ hbx).mono ?_); rintro e w3 (⟨rfl, hA⟩ | ⟨cc, rfl, hne, hE⟩))
          | (go_at_call 26; (with_reducible refine (pD _ hA).mono ?_); rintro e w4 ⟨rfl, hD⟩))
        · go_ret
          exact .inl ⟨rfl, hD⟩
        · go_ret
          exact .inr ⟨_, rfl, hE⟩
end Go.Proofs.YtlofjfeimhjdlaaDoor
