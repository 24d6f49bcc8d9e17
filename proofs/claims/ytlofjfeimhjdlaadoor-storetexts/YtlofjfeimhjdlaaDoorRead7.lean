/- THE WALKS of store.Read, store.do. -/
import Derived.Test.YtlofjfeimhjdlaaDoorRr7
import Derived.Test.YtlofjfeimhjdlaaDoorPut8
namespace Go.Proofs.YtlofjfeimhjdlaaDoor
open Go.RowKit
set_option maxRecDepth 100000

/-- One row is appended. -/
theorem app_row {base : Nat} {x : Value} {D : List Rr} (r : Rr) (w : World) (h : OwnR w base x D) (hbase : base ≤ w.heap.size) (hl : D.length ≤ 1099511627776) :
    ∃ y w', (∀ ty, (Builtin.append_ #[38, 38] ty #[x, .slice (some ⟨w.heap.size, 0, none⟩) 1 1]).run Tryd.prog (w.alloc (.cells #[.string (bA r.k), .string (bA r.v), .bool r.g] 29)) = .ok y w') ∧
      (∃ g m c, y = .slice (some ⟨g, 0, none⟩) m c) ∧ OwnR w' base y (D ++ [r]) ∧ But (fun k => x.ownBlock = some k) w w' ∧ Gone w x y := by
  obtain ⟨i0, hi0, hz0, hz1, hz2⟩ := info_parts rowinfo
  have hv : Lw (w.alloc (.cells #[.string (bA r.k), .string (bA r.v), .bool r.g] 29)) w.heap.size (rcells r) := Rw.fresh w _ _
  have hB := (Below.refl w.heap.size w).alloc (Nat.le_refl _) (.cells #[.string (bA r.k), .string (bA r.v), .bool r.g] 29)
  have hnews : ∀ j u, (rcells r)[j]? = some u → (w.alloc (.cells #[.string (bA r.k), .string (bA r.v), .bool r.g] 29)).cell? ((⟨w.heap.size, 0, none⟩ : Addr).add j) = some u := fun j u hu => by rw [Addr.add_mid, Nat.zero_add, hv.at]; exact hu
  have happ := fun ty => run_append_own_at (P := Tryd.prog) _ base 38 ty 29 i0 _ 3 40 Tryd.underlying38 hi0 hz0 hz1 hz2 rfl (by omega) x D.length (rowsC D) (h.next hB) ⟨w.heap.size, 0, none⟩ 1 1 (rcells r) rfl hnews (rcells_one r) (by unfold maxLen; omega) (by omega) (Nat.le_trans hbase hB.size)
  obtain ⟨y, w', hrun, hown, hgr, _, hat⟩ := happ 38
  have hO : OwnR w' base y (D ++ [r]) := by
    have e : rowsC (D ++ [r]) = rowsC D ++ rcells r := by rw [rowsC_app]; simp [rowsC]
    unfold OwnR
    rw [e, List.length_append, List.length_singleton]
    exact hown
  obtain ⟨g, c, hy⟩ := own_form hO (by simp)
  refine ⟨y, w', fun ty => hrun, ⟨g, _, c, hy⟩, hO, (But.of_below _ hB).trans (But.of_grown hgr (fun k hk => hk)), ?_⟩
  rcases hat with h1 | h1
  · exact .inl h1
  · exact .inr fun k hk => by rw [h1] at hk; cases hk; exact hB.size
def readPost (w : World) (o : Option (List Rr)) (e : Ending) (w' : World) : Prop :=
  (match o with
    | none => e = .returned (.tuple #[.slice none 0 0, .bool false])
    | some rs => ∃ x, e = .returned (.tuple #[x, .bool true]) ∧ OwnR w' w.heap.size x rs) ∧ Below w.heap.size w w'
theorem toList_nil {S : ByteArray} (h : S.data.toList = []) : S = ⟨#[]⟩ := ba_of h
set_option maxHeartbeats 2000000 in
theorem read_any (s : ByteArray) (hs : s.size ≤ 1099511627776) (w : World) :
    Calls Tryd.prog 14 #[.string s] w (readPost w (rread s.data.toList)) := by
  have hsl : s.data.toList.length = s.size := Array.length_toList
  obtain ⟨n, hn⟩ : ∃ n, n = s.size := ⟨_, rfl⟩
  rw [← hn] at hs hsl
  obtain ⟨o, ho⟩ : ∃ o, o = rread s.data.toList := ⟨_, rfl⟩
  rw [← ho]
  have HO := Lib.hid (And.intro ho hsl)
  clear ho hn hsl
  go_enter Tryd.func14, Tryd.ntmps14
  go_wp2
  go_loopg [0, 4] (n + 1) (fun G a b wr => ∃ (S : ByteArray) (D : List Rr), a = .string S ∧ S.size + D.length ≤ n ∧ G = S.size + 1 ∧ OwnR wr w.heap.size b D ∧ Hid (o = (rread S.data.toList).map (D ++ ·)) ∧ Below w.heap.size w wr)
  case atStart =>
    have hz : s.size = n := by rw [← HO.out.2]; exact Array.length_toList.symm
    refine ⟨s, [], rfl, by simp; omega, by omega, World.ownsRow_nil _ _ _ _, Lib.hid ?_, Below.refl _ _⟩
    rw [HO.out.1]
    cases rread s.data.toList <;> rfl
  case round =>
    obtain ⟨S, D, rfl, hSD, hG, hD, HS, hb⟩ := hrel
    have hSl : S.data.toList.length = S.size := Array.length_toList
    by_cases h0 : S.size = 0
    · have hS0 : S.data.toList = [] := List.eq_nil_of_length_eq_zero (by omega)
      obtain rfl := toList_nil hS0
      have ho : o = some D := by rw [HS.out]; show (some []).map (D ++ ·) = _; simp
      have HR : Hid (∀ b, OwnR wr w.heap.size b D → readPost w o (.returned (.tuple #[b, .bool true])) wr) := Lib.hid fun b h => by rw [ho]; exact ⟨⟨b, rfl, h⟩, hb⟩
      clear ho HS HO hS0 hSl
      rcases hD.shape with ⟨rfl, -⟩ | ⟨g, cap, rfl⟩
      all_goals
        go_wp2
        go_ret2
        exact HR.out _ hD
    · have t0 := nonempty (s := S) (by omega)
      have hSz : S.size ≤ n := by omega
      have pr := fun v => rrow_any S (by omega) v
      cases hr1 : rd1 S.data.toList with
      | none =>
        rw [hr1] at pr
        have ho : o = none := by rw [HS.out, rread_none (fun e => h0 (by rw [← hSl, e]; rfl)) hr1]; rfl
        have HR : Hid (∀ v, Below w.heap.size w v → readPost w o (.returned (.tuple #[.slice none 0 0, .bool false])) v) := Lib.hid fun v h => by rw [ho]; exact ⟨rfl, h⟩
        simp only [rd1V, rval] at pr
        clear ho HS HO hSl hr1
        rcases hD.shape with ⟨rfl, -⟩ | ⟨g, cap, rfl⟩
        all_goals
          go_wp2_with (go_at_call 34; (with_reducible refine (pr _).mono ?_); rintro e w1 ⟨rfl, hb1⟩)
          go_ret2
          exact HR.out _ ((bstep hb hb1).alloc (bstep hb hb1).size _)
      | some p =>
        obtain ⟨r, t⟩ := p
        rw [hr1] at pr
        have hlt := rd1_len hr1
        have hro : o = (rread t).map ((D ++ [r]) ++ ·) := by
          rw [HS.out, rread_cons hr1]
          cases rread t with
          | none => rfl
          | some rs => simp
        obtain ⟨T, hT⟩ : ∃ T, T = bA t := ⟨_, rfl⟩
        have hTl : T.data.toList = t := by rw [hT]; rfl
        have hTz : T.size + 1 ≤ S.size := by rw [hT, bA_size]; omega
        have HT := Lib.hid (And.intro hro hTl)
        simp only [rd1V, rval] at pr
        rw [← hT] at pr
        have hDl : D.length ≤ 1099511627776 := by omega
        clear HS HO hSl hr1 hT hTl hro hlt
        rcases hD.shape with ⟨rfl, -⟩ | ⟨g, cap, rfl⟩
        all_goals
          go_upto_region 6 with (go_at_call 34; (with_reducible refine (pr _).mono ?_); rintro e w1 ⟨rfl, hb1⟩)
          have hbx := bstep hb hb1
          obtain ⟨Q, W0, hQ, hW0, hR0, hB0⟩ := box_row w1 r
          rw [hQ, hW0]
          have c0 := hR0.key
          have c1 := hR0.val
          have c2 := hR0.gon
          have hb0 := bstep hbx hB0
          obtain ⟨y, w', hrun, ⟨gy, my, cy, rfl⟩, hO, hbut, hgone⟩ := app_row r W0 ((hD.next hb1).next hB0) (hb0.size) hDl
          go_wp2_with (at_builtin; refine wpList_appE rfl _ _ 38 38 rfl _ _ rfl rfl (hrun _) ?_)
          go_roundg (T.size + 1)
          case measure => omega
          case rel =>
            refine ⟨T, D ++ [r], rfl, by rw [List.length_append, List.length_singleton]; omega, rfl, hO, Lib.hid (by rw [HT.out.2]; exact HT.out.1), ?_⟩
            exact hb0.trans (hbut.below hb0.size (fun k hk => (hD.lt k hk).1))
end Go.Proofs.YtlofjfeimhjdlaaDoor
