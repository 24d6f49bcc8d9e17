/- THE WALK of ammonitebook.Same over rows. -/
import Derived.Test.YtlofjfeimhjdlaaDoorTe7
namespace Go.Proofs.YtlofjfeimhjdlaaDoor
open Go.RowKit
set_option maxRecDepth 100000

theorem rows_ext {a b : List Rr} (hl : a.length = b.length) (h : ∀ j, j < a.length → a[j]? = b[j]?) : a = b := by
  apply List.ext_getElem?
  intro j
  by_cases hj : j < a.length
  · exact h j hj
  · rw [List.getElem?_eq_none (by omega), List.getElem?_eq_none (by omega)]
set_option maxHeartbeats 2000000 in
theorem same_any (x y : Value) (a b : List Rr) (hl : a.length ≤ 1099511627776) (w : World) (hx : IsR w x a) (hy : IsR w y b) :
    Calls Tryd.prog 15 #[x, y] w fun e w' => e = .returned (.bool (decide (a = b))) ∧ Below w.heap.size w w' := by
  obtain ⟨n, hn⟩ : ∃ n, n = a.length := ⟨_, rfl⟩
  obtain ⟨m, hm⟩ : ∃ m, m = b.length := ⟨_, rfl⟩
  obtain ⟨R, hR⟩ : ∃ R, R = decide (a = b) := ⟨_, rfl⟩
  have fx : (x = .slice none 0 0 ∧ n = 0) ∨ ∃ g o c, x = .slice (some ⟨g, o, none⟩) n c := by
    rcases hx with ⟨h, rfl⟩ | ⟨g, o, c, h, _⟩
    · exact .inl ⟨h, hn⟩
    · exact .inr ⟨g, o, c, by rw [hn]; exact h⟩
  have fy : (y = .slice none 0 0 ∧ m = 0) ∨ ∃ g o c, y = .slice (some ⟨g, o, none⟩) m c := by
    rcases hy with ⟨h, rfl⟩ | ⟨g, o, c, h, _⟩
    · exact .inl ⟨h, hm⟩
    · exact .inr ⟨g, o, c, by rw [hm]; exact h⟩
  rw [← hR]
  have HN := Lib.hid (And.intro hn (And.intro hm hR))
  rw [← hn] at hl
  clear hn hm hR
  by_cases hnm : n = m
  · subst hnm
    rcases fx with ⟨rfl, rfl⟩ | ⟨g, o, c, rfl⟩
    · obtain rfl : R = true := by
        rw [HN.out.2.2, decide_eq_true]
        rw [List.eq_nil_of_length_eq_zero HN.out.1.symm, List.eq_nil_of_length_eq_zero HN.out.2.1.symm]
      rcases fy with ⟨rfl, -⟩ | ⟨g, o, c, rfl⟩
      all_goals
        go_enter Tryd.func15, Tryd.ntmps15
        go_wp2
        go_loopw [5] (fun i wr => i = .int .i64 0 ∧ wr = w) (fun _ _ => 0)
        case atStart => exact ⟨rfl, rfl⟩
        case round =>
          obtain ⟨rfl, rfl⟩ := hrel
          go_wp2
          go_ret
          exact ⟨rfl, Below.refl _ _⟩
    · have hcx : g < w.heap.size ∧ ∀ j u, (rowsC a)[j]? = some u → w.cell? ⟨g, o + j, none⟩ = some u := by
        rcases hx with ⟨h, _⟩ | ⟨g', o', c', h1, h2, h3⟩
        · cases h
        · injection h1 with h1 _ _
          injection h1 with h1
          injection h1 with h1 h4 _
          subst h1; subst h4
          exact ⟨h2, h3⟩
      rcases fy with ⟨rfl, h0⟩ | ⟨gy, oy, cy, rfl⟩
      · subst h0
        obtain rfl : R = true := by
          rw [HN.out.2.2, decide_eq_true]
          rw [List.eq_nil_of_length_eq_zero HN.out.1.symm, List.eq_nil_of_length_eq_zero HN.out.2.1.symm]
        go_enter Tryd.func15, Tryd.ntmps15
        go_wp2
        go_loopw [5] (fun i wr => i = .int .i64 0 ∧ wr = w) (fun _ _ => 0)
        case atStart => exact ⟨rfl, rfl⟩
        case round =>
          obtain ⟨rfl, rfl⟩ := hrel
          go_wp2
          go_ret
          exact ⟨rfl, Below.refl _ _⟩
      · have hcy : gy < w.heap.size ∧ ∀ j u, (rowsC b)[j]? = some u → w.cell? ⟨gy, oy + j, none⟩ = some u := by
          rcases hy with ⟨h, _⟩ | ⟨g', o', c', h1, h2, h3⟩
          · cases h
          · injection h1 with h1 _ _
            injection h1 with h1
            injection h1 with h1 h4 _
            subst h1; subst h4
            exact ⟨h2, h3⟩
        clear hx hy
        go_enter Tryd.func15, Tryd.ntmps15
        go_wp2
        go_loopg [5] (n + 1) (fun G i wr => ∃ k : Nat, i = .int .i64 (k : Int) ∧ k ≤ n ∧ (∀ j, j < k → a[j]? = b[j]?) ∧ G = n + 1 - k ∧ Below w.heap.size w wr)
        case atStart => exact ⟨0, rfl, Nat.zero_le _, fun j hj => absurd hj (by omega), rfl, Below.refl _ _⟩
        case round =>
          obtain ⟨k, rfl, hk, hall, hG, hb⟩ := hrel
          have HA := Lib.hid hall
          clear hall
          by_cases hlt : k < n
          · have t1 : decide ((k : Int) < (n : Int)) = true := by simp; omega
            obtain ⟨r, hr⟩ : ∃ r, a[k]? = some r := ⟨_, List.getElem?_eq_getElem (by have := HN.out.1; omega)⟩
            obtain ⟨s, hs⟩ : ∃ s, b[k]? = some s := ⟨_, List.getElem?_eq_getElem (by have := HN.out.2.1; omega)⟩
            obtain ⟨c0, c1, c2⟩ := IsR.at (w := wr) (g := g) (o := o) (fun j u hu => (hb.cell (p := ⟨g, o + j, none⟩) hcx.1).trans (hcx.2 j u hu)) hr
            obtain ⟨e0, e1, e2⟩ := IsR.at (w := wr) (g := gy) (o := oy) (fun j u hu => (hb.cell (p := ⟨gy, oy + j, none⟩) hcy.1).trans (hcy.2 j u hu)) hs
            have hnk : a[k]? = b[k]? → r = s := fun h => by rw [hr, hs] at h; exact Option.some.inj h
            have hsk : r = s → a[k]? = b[k]? := fun h => by rw [hr, hs, h]
            have HR := Lib.hid (And.intro hnk hsk)
            have t2 : (k : Int) < (n : Int) := by omega
            have hno : r ≠ s → R = false := fun h => by
              rw [HN.out.2.2, decide_eq_false]
              intro e
              rw [e] at hr
              exact h (Option.some.inj (hr.symm.trans hs))
            have hki : (bA r.k).toList = (bA s.k).toList ↔ r.k = s.k := by rw [Lib.toList_data, Lib.toList_data]; rfl
            have hvi : (bA r.v).toList = (bA s.v).toList ↔ r.v = s.v := by rw [Lib.toList_data, Lib.toList_data]; rfl
            by_cases q1 : (bA r.k).toList = (bA s.k).toList
            · by_cases q2 : (bA r.v).toList = (bA s.v).toList
              · by_cases q3 : r.g = s.g
                · have e := hsk (Rr.ext (hki.1 q1) (hvi.1 q2) q3)
                  have HE := Lib.hid e
                  clear hr hs hnk hsk hno hki hvi e
                  go_wp2
                  go_region
                  go_wp2
                  go_roundg (n + 1 - (k + 1))
                  case measure => omega
                  case rel =>
                    refine ⟨k + 1, by go_num, by omega, fun j hj => ?_, rfl, hb.drew⟩
                    by_cases hjk : j = k
                    · rw [hjk]; exact HE.out
                    · exact HA.out j (by omega)
                · obtain rfl := hno (fun e => q3 (by rw [e]))
                  clear hr hs hnk hsk hno hki hvi
                  go_wp2
                  go_region
                  go_wp2
                  go_ret
                  exact ⟨rfl, hb.drew⟩
              · obtain rfl := hno (fun e => q2 (by rw [e]))
                clear hr hs hnk hsk hno hki hvi
                go_wp2
                go_region
                go_wp2
                go_ret
                exact ⟨rfl, hb.drew⟩
            · obtain rfl := hno (fun e => q1 (by rw [e]))
              clear hr hs hnk hsk hno hki hvi
              go_wp2
              go_region
              go_wp2
              go_ret
              exact ⟨rfl, hb.drew⟩
          · obtain rfl : k = n := by omega
            have t1 : decide ((k : Int) < (k : Int)) = false := by simp
            obtain rfl : R = true := by
              rw [HN.out.2.2, decide_eq_true]
              exact rows_ext (by rw [← HN.out.1, ← HN.out.2.1]) (fun j hj => HA.out j (by rw [HN.out.1]; exact hj))
            go_wp2
            go_ret
            exact ⟨rfl, hb⟩
  · obtain rfl : R = false := by
      rw [HN.out.2.2, decide_eq_false]
      intro e
      exact hnm (by rw [HN.out.1, HN.out.2.1, e])
    have t1 : ((n : Int) == (m : Int)) = false := by rw [beq_eq_false_iff_ne]; omega
    have t2 : (n : Int) ≠ m := by omega
    rcases fx with ⟨rfl, rfl⟩ | ⟨g, o, c, rfl⟩
    all_goals
      rcases fy with ⟨rfl, rfl⟩ | ⟨g', o', c', rfl⟩
    all_goals
      first
        | exact absurd rfl hnm
        | (go_enter Tryd.func15, Tryd.ntmps15
           go_wp2
           go_ret
           exact ⟨rfl, Below.refl _ _⟩)
end Go.Proofs.YtlofjfeimhjdlaaDoor
