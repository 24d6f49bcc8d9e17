/- THE WALK of ammonitelaw7.rows: at most four rows, of five keys, of five values or gone. -/
import Derived.Test.YtlofjfeimhjdlaaGreatDoorRd7
import Derived.Test.YtlofjfeimhjdlaaGreatDoorWthn
namespace Go.Proofs.YtlofjfeimhjdlaaGreatDoor
open Go.RowKit
set_option maxRecDepth 100000

/-- Numbers that came in. -/
def IntsAt (w : World) (v : Value) (n : Nat) : Prop :=
  (v = .slice none 0 0 ∧ n = 0) ∨ ∃ (a : Addr) (c : Nat), v = .slice (some a) n c ∧ ∀ j, j < n → ∃ z : Int, w.cell? (a.add j) = some (.int .i64 z)
theorem add_block (a : Addr) (j : Nat) : (a.add j).block = a.block := by unfold Addr.add; split <;> rfl
theorem IntsAt.next {w v : World} {x : Value} {n : Nat} (h : IntsAt w x n) (hb : Below w.heap.size w v) : IntsAt v x n := by
  rcases h with h | ⟨a, c, h1, h3⟩
  · exact .inl h
  · exact .inr ⟨a, c, h1, fun j hj => (h3 j hj).imp fun z hz => (hb.cell (p := a.add j) (World.block_lt_of_cell? w _ hz)).trans hz⟩
/-- The five keys, the five values. -/
def keys5 : List (List UInt8) := [[97], [97, 98], [98], [98, 97], [99]]
def vals5 : List (List UInt8) := [[], [49], [115, 111, 109, 101, 32, 118, 97, 108, 117, 101], [57, 32, 57, 32, 97, 57], [97, 32, 118, 97, 108, 117, 101, 32, 116, 104, 97, 116, 32, 105, 115, 32, 108, 111, 110, 103, 101, 114, 32, 116, 104, 97, 110, 32, 111, 110, 101, 32, 115, 101, 99, 116, 111, 114, 32, 105, 115, 44, 32, 105, 110, 32, 97, 110, 121, 32, 99, 97, 115, 101]]
structure Good (r : Rr) : Prop where
  k : r.k ∈ keys5
  v : (r.g = true ∧ r.v = []) ∨ (r.g = false ∧ r.v ∈ vals5)
theorem Good.small {r : Rr} (h : Good r) : 1 ≤ r.k.length ∧ r.k.length ≤ 2 ∧ r.v.length ≤ 54 := by
  have hk : ∀ k ∈ keys5, 1 ≤ k.length ∧ k.length ≤ 2 := by decide
  have hv : ∀ k ∈ vals5, k.length ≤ 54 := by decide
  refine ⟨(hk _ h.k).1, (hk _ h.k).2, ?_⟩
  rcases h.v with ⟨_, h⟩ | ⟨_, h⟩
  · rw [h]; decide
  · exact hv _ h
theorem Good.ok {r : Rr} (h : Good r) : r.Ok := by
  obtain ⟨h1, h2, h3⟩ := h.small
  refine ⟨h1, by omega, by omega, fun hg => ?_⟩
  rcases h.v with ⟨_, h⟩ | ⟨h, _⟩
  · exact h
  · rw [hg] at h; cases h
theorem OwnR.lower {w : World} {base b : Nat} {x : Value} {st : List Rr} (h : OwnR w base x st) (hb : b ≤ base) : OwnR w b x st := by
  refine ⟨h.1, ?_⟩
  rcases h.2 with h | ⟨g, c, cur, a1, a2, a3⟩
  · exact .inl h
  · exact .inr ⟨g, c, cur, a1, Nat.le_trans hb a2, a3⟩
def strs5 (l : List (List UInt8)) : Array Value := (l.map str).toArray
theorem five_at (l : List (List UInt8)) (k : Nat) (hk : k < l.length) (w : World) (g : Nat) (h : Rw w g 9 (strs5 l)) : w.cell? ⟨g, k, none⟩ = some (.string (bA (l.getD k []))) := by
  rw [h.at]
  simp [strs5, str, bA, hk]
set_option maxHeartbeats 4000000 in
theorem lrows_any (K N P : Int) (kv vv : Value) (nk nv : Nat) (w : World) (hk : IntsAt w kv nk) (hv : IntsAt w vv nv) :
    Calls Tryz.prog 10 #[.agg #[.int .i64 K, .int .i64 N, .int .i64 P, kv, vv]] w fun e w' => ∃ y rs, e = .returned y ∧ OwnR w' w.heap.size y rs ∧ rs.length ≤ 4 ∧ (∀ r ∈ rs, Good r) ∧ Below w.heap.size w w' := by
  obtain ⟨W0, hW0⟩ : ∃ W0, w.alloc (.cells #[.int .i64 K, .int .i64 N, .int .i64 P, kv, vv] 31) = W0 := ⟨_, rfl⟩
  obtain ⟨bx, hbx⟩ : ∃ bx, w.heap.size = bx := ⟨_, rfl⟩
  have hR : Rw W0 bx 31 #[.int .i64 K, .int .i64 N, .int .i64 P, kv, vv] := by rw [← hW0, ← hbx]; exact Rw.fresh w _ _
  have hB : Below w.heap.size w W0 := by rw [← hW0]; exact (Below.refl _ w).alloc (Nat.le_refl _) _
  have hk := hk.next hB
  have hv := hv.next hB
  have hkb : ∀ V, Below W0.heap.size W0 V → IntsAt V kv nk := fun V h => hk.next h
  rcases hk with ⟨rfl, rfl⟩ | ⟨xa, ca, rfl, hck⟩
  · go_enter Tryz.func10, Tryz.ntmps10
    have c3 : W0.cell? ⟨bx, 3, none⟩ = some (.slice none 0 0) := hR.at 3
    go_wp2
    go_loopw [3, 4] (fun a i wr => a = .slice none 0 0 ∧ i = .int .i64 0 ∧ wr = W0) (fun _ _ _ => 0)
    case atStart => exact ⟨rfl, rfl, rfl⟩
    case round =>
      obtain ⟨rfl, rfl, rfl⟩ := hrel
      go_wp2
      go_ret
      exact ⟨_, [], rfl, World.ownsRow_nil _ _ _ _, Nat.zero_le _, (fun r hr => by cases hr), hB⟩
  · have hform : (vv = .slice none 0 0 ∧ nv = 0) ∨ ∃ (a : Addr) (c : Nat), vv = .slice (some a) nv c := by
      rcases hv with h | ⟨a, c, h, _⟩
      · exact .inl h
      · exact .inr ⟨a, c, h⟩
    have hcV : ∀ V, Below W0.heap.size W0 V → V.cell? ⟨bx, 3, none⟩ = some (.slice (some xa) nk ca) ∧ V.cell? ⟨bx, 4, none⟩ = some vv := fun V h => by
      have := hR.below h hR.size
      exact ⟨this.at 3, this.at 4⟩
    have hzs : w.heap.size ≤ W0.heap.size := hB.size
    clear hR
    go_enter Tryz.func10, Tryz.ntmps10
    go_wp2
    go_loopg [3, 4] 5 (fun G a b wr => ∃ (i : Nat) (D : List Rr), b = .int .i64 (i : Int) ∧ i ≤ 4 ∧ D.length = i ∧ G = 5 - i ∧ OwnR wr W0.heap.size a D ∧ (∀ r ∈ D, Good r) ∧ Below W0.heap.size W0 wr)
    case atStart => exact ⟨0, [], rfl, by omega, rfl, rfl, World.ownsRow_nil _ _ _ _, (fun r hr => by cases hr), Below.refl _ _⟩
    case round =>
      obtain ⟨i, D, rfl, hi, hDl, hG, hD, hgood, hb⟩ := hrel
      obtain ⟨c3, c4⟩ := hcV wr hb
      by_cases hlt : i < nk ∧ i < 4
      · obtain ⟨hlk, hl4⟩ := hlt
        have t1 : decide ((i : Int) < (nk : Int)) = true := by simp; omega
        have t2 : decide ((i : Int) < 4) = true := by simp; omega
        obtain ⟨z, hz⟩ := hck i hlk
        -- the five keys
        obtain ⟨Q1, hQ1⟩ : ∃ Q1, wr.heap.size = Q1 := ⟨_, rfl⟩
        obtain ⟨W1, hW1⟩ : ∃ W1, wr.alloc (.cells (strs5 keys5) 9) = W1 := ⟨_, rfl⟩
        have hB1 : Below wr.heap.size wr W1 := by rw [← hW1]; exact (Below.refl _ wr).alloc (Nat.le_refl _) _
        have hR1 : Rw W1 Q1 9 (strs5 keys5) := by rw [← hW1, ← hQ1]; exact Rw.fresh wr _ _
        have hbb1 := bstep hb hB1
        obtain ⟨a3, a4⟩ := hcV W1 hbb1
        have az : W1.cell? (xa.add i) = some (.int .i64 z) := (hbb1.cell (p := xa.add i) (World.block_lt_of_cell? W0 _ hz)).trans hz
        obtain ⟨k, hk1, hk2, hk3⟩ := wthn_nat z 0 4 (by omega) (by omega)
        have hk5 : k < keys5.length := by show k < 5; omega
        have ak := five_at keys5 k hk5 W1 Q1 hR1
        have hkm : keys5.getD k [] ∈ keys5 := by rw [List.getD_eq_getElem?_getD, List.getElem?_eq_getElem hk5]; exact List.getElem_mem _
        generalize keys5.getD k [] = kk at ak hkm
        have pW := fun V => within_to z 0 4 k (by omega) (by omega) (by omega) hk1 V
        have hk6 : (k : Int) < 5 := by omega
        have b1 : (0 : Int) ≤ k := by omega
        clear hk1 hk2 hk3 hR1 hk5
        -- the row's box
        obtain ⟨Q2, W2, hQ2, hW2, hR2, hB2⟩ := box_row W1 ⟨kk, [], false⟩
        have HW2 := Lib.hid (And.intro hQ2 (show W1.alloc (.cells #[.string (bA kk), .string ⟨#[]⟩, .bool false] 52) = W2 from hW2))
        clear hQ2 hW2
        have hbb2 := bstep hbb1 hB2
        simp only [strs5, keys5, List.map_cons, List.map_nil, str] at hW1
        go_upto_region 5 with fail
        go_upto_region 6 with (go_at_call 7; (with_reducible refine (pW _).mono ?_); rintro e w1 ⟨rfl, hw⟩; subst hw)
        rw [HW2.out.1, HW2.out.2]
        have hQs : Q2 < W2.heap.size := hR2.size
        have hQ1s : W1.heap.size = Q2 := HW2.out.1
        clear HW2
        have d0 : W2.cell? ⟨Q2, 0, none⟩ = some (.string (bA kk)) := hR2.key
        have d1 : W2.cell? ⟨Q2, 1, none⟩ = some (.string ⟨#[]⟩) := hR2.val
        have d2 : W2.cell? ⟨Q2, 2, none⟩ = some (.bool false) := hR2.gon
        have f1 := hR2.free 1
        have f2 := hR2.free 2
        obtain ⟨e3, e4⟩ := hcV W2 hbb2
        have hD2 : OwnR W2 W0.heap.size u3 D := (hD.next hB1).next hB2
        have hDl4 : D.length ≤ 1099511627776 := by omega
        have HD := Lib.hid hDl
        clear hW1 a3 a4 az ak pW c3 c4 hDl t1 t2 hQ1
        -- the end of a round
        have fin : ∀ (V : World) (r : Rr), Good r → Below W0.heap.size W0 V → OwnR V W0.heap.size u3 D → ∃ y w', (∀ ty, (Builtin.append_ #[37, 37] ty #[u3, .slice (some ⟨V.heap.size, 0, none⟩) 1 1]).run Tryz.prog (V.alloc (.cells #[.string (bA r.k), .string (bA r.v), .bool r.g] 52)) = .ok y w') ∧
            (∃ g m c, y = .slice (some ⟨g, 0, none⟩) m c) ∧ OwnR w' W0.heap.size y (D ++ [r]) ∧ (∀ q ∈ D ++ [r], Good q) ∧ Below W0.heap.size W0 w' := fun V r hr hbV hDV => by
          obtain ⟨y, w', hrun, hy, hO, hbut, _⟩ := app_row r V hDV hbV.size hDl4
          refine ⟨y, w', hrun, hy, hO, fun q hq => ?_, hbV.trans (hbut.below hbV.size (fun k hk => (hDV.lt k hk).1))⟩
          rcases List.mem_append.1 hq with hq | hq
          · exact hgood q hq
          · rw [List.mem_singleton.1 hq]; exact hr
        have hQ0 : W0.heap.size ≤ Q2 := by rw [← hQ1s]; exact hbb1.size
        have hun : ∀ k, u3.ownBlock = some k → k ≠ Q2 := fun k hk => by have h1 := (hD.lt k hk).2; have h2 := hB1.size; omega
        have fing : ∃ y w', (∀ ty, (Builtin.append_ #[37, 37] ty #[u3, .slice (some ⟨W2.heap.size, 0, none⟩) 1 1]).run Tryz.prog ((W2.setCell ⟨Q2, 2, none⟩ (.bool true)).alloc (.cells #[.string (bA kk), .string ⟨#[]⟩, .bool true] 52)) = .ok y w') ∧
            (∃ g m c, y = .slice (some ⟨g, 0, none⟩) m c) ∧ OwnR w' W0.heap.size y (D ++ [⟨kk, [], true⟩]) ∧ (∀ q ∈ D ++ [⟨kk, [], true⟩], Good q) ∧ Below W0.heap.size W0 w' :=
          (show (W2.setCell ⟨Q2, 2, none⟩ (.bool true)).heap.size = W2.heap.size by simp [World.setCell]) ▸ fin _ ⟨kk, [], true⟩ ⟨hkm, .inl ⟨rfl, rfl⟩⟩ (hbb2.setCell (p := ⟨Q2, 2, none⟩) hQ0 _) (own_but (S := fun k => k = Q2) hD2 (But.setCell (S := fun k => k = Q2) (But.refl _ W2) (p := ⟨Q2, 2, none⟩) rfl _) (fun k hk e => hun k hk e))
        have finv : ∀ V (vk : List UInt8), vk ∈ vals5 → Below W2.heap.size W2 V → ∃ y w', (∀ ty, (Builtin.append_ #[37, 37] ty #[u3, .slice (some ⟨V.heap.size, 0, none⟩) 1 1]).run Tryz.prog ((V.setCell ⟨Q2, 1, none⟩ (.string (bA vk))).alloc (.cells #[.string (bA kk), .string (bA vk), .bool false] 52)) = .ok y w') ∧
            (∃ g m c, y = .slice (some ⟨g, 0, none⟩) m c) ∧ OwnR w' W0.heap.size y (D ++ [⟨kk, vk, false⟩]) ∧ (∀ q ∈ D ++ [⟨kk, vk, false⟩], Good q) ∧ Below W0.heap.size W0 w' := fun V vk hvm hbV =>
          (show (V.setCell ⟨Q2, 1, none⟩ (.string (bA vk))).heap.size = V.heap.size by simp [World.setCell]) ▸ fin _ ⟨kk, vk, false⟩ ⟨hkm, .inr ⟨rfl, hvm⟩⟩ ((bstep hbb2 hbV).setCell (p := ⟨Q2, 1, none⟩) hQ0 _) (own_but (S := fun k => k = Q2) (hD2.next hbV) (But.setCell (S := fun k => k = Q2) (But.refl _ V) (p := ⟨Q2, 1, none⟩) rfl _) (fun k hk e => hun k hk e))
        have valV : ∀ V, Below W2.heap.size W2 V → V.cell? ⟨Q2, 0, none⟩ = some (.string (bA kk)) ∧ V.cell? ⟨Q2, 2, none⟩ = some (.bool false) ∧ V.frozen? ⟨Q2, 1, none⟩ = false ∧ V.cell? ⟨Q2, 1, none⟩ = some (.string ⟨#[]⟩) := fun V h => ⟨(h.cell (p := ⟨Q2, 0, none⟩) hQs).trans d0, (h.cell (p := ⟨Q2, 2, none⟩) hQs).trans d2, (h.frozen (p := ⟨Q2, 1, none⟩) hQs).trans f1, (h.cell (p := ⟨Q2, 1, none⟩) hQs).trans d1⟩
        clear fin
        by_cases hvl : i < nv
        · have t3 : decide ((i : Int) < (nv : Int)) = true := by simp; omega
          have t4 : (i : Int) < (nv : Int) := by omega
          obtain ⟨v, xv, cv, rfl, hev⟩ : ∃ (v : Int) (a : Addr) (c : Nat), vv = .slice (some a) nv c ∧ W2.cell? (a.add i) = some (.int .i64 v) := by
            rcases hv.next hbb2 with ⟨_, h0⟩ | ⟨a, c, h1, h3⟩
            · omega
            · obtain ⟨v, hv⟩ := h3 i hvl
              exact ⟨v, a, c, h1, hv⟩
          go_upto_region 9 with fail
          by_cases hm : v.tmod 5 = 4
          · have t5 : (v.tmod 5 == 4) = true := by simpa using hm
            obtain ⟨y, w', hrun, ⟨gy, my, cy, rfl⟩, hO, hgd, hbw⟩ := fing
            go_wp2_with (at_builtin; refine wpList_appE rfl _ _ 37 37 rfl _ _ rfl rfl (hrun _) ?_)
            go_roundg (5 - (i + 1))
            case measure => omega
            case rel => exact ⟨i + 1, _, by go_num, by omega, by rw [List.length_append, HD.out, List.length_singleton], by omega, hO, hgd, hbw⟩
          · have t5 : (v.tmod 5 == 4) = false := by simpa using hm
            obtain ⟨kx, hx1, hx2, hx3⟩ := wthn_nat v 0 4 (by omega) (by omega)
            have hx5 : kx < vals5.length := by show kx < 5; omega
            obtain ⟨Q3, hQ3⟩ : ∃ Q3, W2.heap.size = Q3 := ⟨_, rfl⟩
            obtain ⟨W3, hW3⟩ : ∃ W3, W2.alloc (.cells (strs5 vals5) 9) = W3 := ⟨_, rfl⟩
            have hB3 : Below W2.heap.size W2 W3 := by rw [← hW3]; exact (Below.refl _ W2).alloc (Nat.le_refl _) _
            have hR3 : Rw W3 Q3 9 (strs5 vals5) := by rw [← hW3, ← hQ3]; exact Rw.fresh W2 _ _
            have ax := five_at vals5 kx hx5 W3 Q3 hR3
            have hxm : vals5.getD kx [] ∈ vals5 := by rw [List.getD_eq_getElem?_getD, List.getElem?_eq_getElem hx5]; exact List.getElem_mem _
            generalize vals5.getD kx [] = vk at ax hxm
            have pX := fun V => within_to v 0 4 kx (by omega) (by omega) (by omega) hx1 V
            have hx6 : (kx : Int) < 5 := by omega
            have hx7 : (0 : Int) ≤ kx := by omega
            obtain ⟨g0, g2, gf, g1⟩ := valV W3 hB3
            obtain ⟨y, w', hrun, ⟨gy, my, cy, rfl⟩, hO, hgd, hbw⟩ := finv W3 vk hxm hB3
            clear hx1 hx2 hx3 hR3 hx5 finv fing valV d0 d1 d2 f1 f2
            simp only [strs5, vals5, List.map_cons, List.map_nil, str] at hW3
            go_wp2_with (first
              | (go_at_call 7; (with_reducible refine (pX _).mono ?_); rintro e w1 ⟨rfl, hw⟩; subst hw)
              | (at_builtin; refine wpList_appE rfl _ _ 37 37 rfl _ _ rfl rfl (hrun _) ?_))
            go_roundg (5 - (i + 1))
            case measure => omega
            case rel => exact ⟨i + 1, _, by go_num, by omega, by rw [List.length_append, HD.out, List.length_singleton], by omega, hO, hgd, hbw⟩
        · have t3 : decide ((i : Int) < (nv : Int)) = false := by simp; omega
          rcases hform with ⟨rfl, -⟩ | ⟨xv, cv, rfl⟩
          all_goals
            go_upto_region 9 with fail
            obtain ⟨kx, hx1, hx2, hx3⟩ := wthn_nat 0 0 4 (by omega) (by omega)
            have hx5 : kx < vals5.length := by show kx < 5; omega
            obtain ⟨Q3, hQ3⟩ : ∃ Q3, W2.heap.size = Q3 := ⟨_, rfl⟩
            obtain ⟨W3, hW3⟩ : ∃ W3, W2.alloc (.cells (strs5 vals5) 9) = W3 := ⟨_, rfl⟩
            have hB3 : Below W2.heap.size W2 W3 := by rw [← hW3]; exact (Below.refl _ W2).alloc (Nat.le_refl _) _
            have hR3 : Rw W3 Q3 9 (strs5 vals5) := by rw [← hW3, ← hQ3]; exact Rw.fresh W2 _ _
            have ax := five_at vals5 kx hx5 W3 Q3 hR3
            have hxm : vals5.getD kx [] ∈ vals5 := by rw [List.getD_eq_getElem?_getD, List.getElem?_eq_getElem hx5]; exact List.getElem_mem _
            generalize vals5.getD kx [] = vk at ax hxm
            have pX := fun V => within_to 0 0 4 kx (by omega) (by omega) (by omega) hx1 V
            have hx6 : (kx : Int) < 5 := by omega
            have hx7 : (0 : Int) ≤ kx := by omega
            obtain ⟨g0, g2, gf, g1⟩ := valV W3 hB3
            obtain ⟨y, w', hrun, ⟨gy, my, cy, rfl⟩, hO, hgd, hbw⟩ := finv W3 vk hxm hB3
            clear hx1 hx2 hx3 hR3 hx5 finv fing valV d0 d1 d2 f1 f2
            simp only [strs5, vals5, List.map_cons, List.map_nil, str] at hW3
            go_wp2_with (first
              | (go_at_call 7; (with_reducible refine (pX _).mono ?_); rintro e w1 ⟨rfl, hw⟩; subst hw)
              | (at_builtin; refine wpList_appE rfl _ _ 37 37 rfl _ _ rfl rfl (hrun _) ?_))
            go_roundg (5 - (i + 1))
            case measure => omega
            case rel => exact ⟨i + 1, _, by go_num, by omega, by rw [List.length_append, HD.out, List.length_singleton], by omega, hO, hgd, hbw⟩
      · have hfin : ∀ a, OwnR wr W0.heap.size a D → ∃ y rs, (Ending.returned a) = .returned y ∧ OwnR wr w.heap.size y rs ∧ rs.length ≤ 4 ∧ (∀ r ∈ rs, Good r) ∧ Below w.heap.size w wr := fun a h => ⟨a, D, rfl, h.lower hzs, by omega, hgood, hB.trans (hb.mono hzs)⟩
        have HF := Lib.hid hfin
        clear hfin
        by_cases hl1 : i < nk
        · have t1 : decide ((i : Int) < (nk : Int)) = true := by simp; omega
          obtain rfl : i = 4 := by omega
          clear hDl
          rcases hD.shape with ⟨rfl, -⟩ | ⟨g, cap, rfl⟩
          all_goals
            go_wp2
            go_ret
            exact HF.out _ hD
        · have t1 : decide ((i : Int) < (nk : Int)) = false := by simp; omega
          rcases hD.shape with ⟨rfl, -⟩ | ⟨g, cap, rfl⟩
          all_goals
            go_wp2
            go_ret
            exact HF.out _ hD
end Go.Proofs.YtlofjfeimhjdlaaGreatDoor
