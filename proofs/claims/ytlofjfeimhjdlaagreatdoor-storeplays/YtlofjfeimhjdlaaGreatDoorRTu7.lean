/- THE WALKS of the reference's Turned and Replay. -/
import Derived.Test.YtlofjfeimhjdlaaGreatDoorTe7
import Derived.Test.YtlofjfeimhjdlaaGreatDoorRd7
import Derived.Test.YtlofjfeimhjdlaaGreatDoorRRw7
import Derived.Test.YtlofjfeimhjdlaaGreatDoorRS7
import Derived.Deep.RegionHeld
namespace Go.Proofs.YtlofjfeimhjdlaaGreatDoor
open Go.RowKit
set_option maxRecDepth 100000

/-- Rows that are appended: none, or some that lie somewhere. -/
def Src (w : World) (xv : Value) (R : List Rr) : Prop := (xv = .slice none 0 0 ∧ R = []) ∨ ∃ g o c, xv = .slice (some ⟨g, o, none⟩) R.length c ∧ (R ≠ [] → g < w.heap.size) ∧ ∀ j u, (rowsC R)[j]? = some u → w.cell? ⟨g, o + j, none⟩ = some u
theorem Src.next {w v : World} {xv : Value} {R : List Rr} (h : Src w xv R) (hb : Below w.heap.size w v) : Src v xv R := by
  rcases h with h | ⟨g, o, c, h1, h2, h3⟩
  · exact .inl h
  · refine .inr ⟨g, o, c, h1, fun hr => Nat.lt_of_lt_of_le (h2 hr) hb.size, fun j u hu => ?_⟩
    have hr : R ≠ [] := fun e => by rw [e] at hu; simp [rowsC] at hu
    exact (hb.cell (p := ⟨g, o + j, none⟩) (h2 hr)).trans (h3 j u hu)
theorem app_rows {b0 : Nat} {x xv : Value} {D R : List Rr} {w : World} (h : OwnR w b0 x D) (hb : b0 ≤ w.heap.size) (hl : D.length + R.length ≤ 1099511627776) (hx : Src w xv R) :
    ∃ y w', (∀ ty, (Builtin.append_ #[37, 37] ty #[x, xv]).run Tryz.prog w = .ok y w') ∧ OwnR w' b0 y (D ++ R) ∧ But (fun k => x.ownBlock = some k) w w' ∧ (y.ownBlock = x.ownBlock ∨ y.ownBlock = some w.heap.size) := by
  obtain ⟨i0, hi0, hz0, hz1, hz2⟩ := info_parts rowinfo
  rcases hx with ⟨rfl, rfl⟩ | ⟨g, o, c, rfl, _, hcs⟩
  · refine ⟨x, w, fun ty => run_append_owned_none (P := Tryz.prog) w b0 37 ty 52 i0 3 Tryz.underlying37 hi0 x D.length (rowsC D) h, by rw [List.append_nil]; exact h, But.refl _ _, .inl rfl⟩
  · have happ := fun ty => run_append_own_at (P := Tryz.prog) w b0 37 ty 52 i0 _ 3 40 Tryz.underlying37 hi0 hz0 hz1 hz2 rfl (by omega) x D.length (rowsC D) h ⟨g, o, none⟩ R.length c (rowsC R) (rowsC_len R) (fun j u hu => by rw [Addr.add_mid]; exact hcs j u hu) (rowsC_one R) (by unfold maxLen; omega) (by omega) hb
    obtain ⟨y, w', hrun, hown, hgr, _, hat⟩ := happ 37
    refine ⟨y, w', fun ty => hrun, ?_, But.of_grown hgr (fun k hk => hk), hat⟩
    unfold OwnR
    rw [rowsC_app, List.length_append]
    exact hown
/-- The rows behind a place of a row of one's own. -/
theorem src_drop {b0 g cap : Nat} {D : List Rr} {w : World} (h : OwnR w b0 (.slice (some ⟨g, 0, none⟩) D.length cap) D) {P : Nat} (hP : P ≤ D.length) :
    (cap = P → Src w (.slice (some ⟨g, 0, none⟩) (D.length - P) 0) (D.drop P)) ∧ Src w (.slice (some ⟨g, P * 3, none⟩) (D.length - P) (cap - P)) (D.drop P) := by
  obtain ⟨_, _, hc, _, rest, hL, _⟩ := h.lw
  refine ⟨fun e => .inr ⟨g, 0, 0, by rw [List.length_drop], fun _ => hL.size, fun j u hu => ?_⟩, .inr ⟨g, P * 3, cap - P, by rw [List.length_drop], fun _ => hL.size, fun j u hu => ?_⟩⟩
  · rw [List.drop_of_length_le (by omega)] at hu
    simp [rowsC] at hu
  · have hju : (rowsC D)[P * 3 + j]? = some u := by rw [rowsC_drop, List.getElem?_drop] at hu; exact hu
    rw [hL.at, List.getElem?_append_left (List.getElem?_eq_some_iff.1 hju).1]
    exact hju
theorem src_take {b0 g cap : Nat} {D : List Rr} {w : World} (h : OwnR w b0 (.slice (some ⟨g, 0, none⟩) D.length cap) D) {P : Nat} (hP : P ≤ D.length) : Src w (.slice (some ⟨g, 0, none⟩) P cap) (D.take P) := by
  obtain ⟨_, _, hc, _, rest, hL, _⟩ := h.lw
  refine .inr ⟨g, 0, cap, by rw [List.length_take, Nat.min_eq_left hP], fun _ => hL.size, fun j u hu => ?_⟩
  have hju : (rowsC D)[j]? = some u := by
    rw [rowsC_take, List.getElem?_take] at hu
    split at hu
    · exact hu
    · cases hu
  rw [hL.at, Nat.zero_add, List.getElem?_append_left (List.getElem?_eq_some_iff.1 hju).1]
  exact hju
theorem own_none (w : World) (b0 : Nat) (hb : b0 ≤ w.heap.size) : OwnR (w.alloc (.cells #[] 52)) b0 (.slice (some ⟨w.heap.size, 0, none⟩) 0 0) [] :=
  World.ownsRow_lit w #[] 0 hb (Nat.zero_le _) rfl
set_option maxHeartbeats 4000000 in
theorem rturned_any (b0 : Nat) (lv : Value) (st : List Rr) (y : Value) (rs : List Rr) (w : World) (hO : OwnR w b0 lv st) (hb0 : b0 ≤ w.heap.size) (hs : Srt st) (hok : ∀ r ∈ rs, r.Ok) (hsl : st.length + rs.length ≤ 1000000000) (hy : IsR w y rs) :
    Calls Tryz.prog 35 #[lv, y] w fun e w' => ∃ v, e = .returned v ∧ OwnR w' b0 v (turns st rs) ∧ Below w.heap.size w w' := by
  rcases hy with ⟨rfl, rfl⟩ | ⟨yg, yo, yc, rfl, hg, hcs⟩
  · go_enter Tryz.func35, Tryz.ntmps35
    go_wp2
    go_loopw [0, 12] (fun l i wr => l = lv ∧ i = .int .i64 0 ∧ wr = w) (fun _ _ _ => 0)
    case atStart => exact ⟨rfl, rfl, rfl⟩
    case round =>
      obtain ⟨rfl, rfl, rfl⟩ := hrel
      go_wp2
      go_ret
      exact ⟨_, rfl, hO, Below.refl _ _⟩
  · obtain ⟨n, hn⟩ : ∃ n, n = rs.length := ⟨_, rfl⟩
    rw [← hn]
    have hnl : n ≤ 1000000000 := by omega
    have HN := Lib.hid hn
    clear hn
    go_enter Tryz.func35, Tryz.ntmps35
    go_wp2
    go_loopg [0, 12] (n + 1) (fun G l a wr => ∃ (i : Nat) (D : List Rr), a = .int .i64 (i : Int) ∧ i ≤ n ∧ G = n + 1 - i ∧ OwnR wr b0 l D ∧ Hid (D = turns st (rs.take i)) ∧ Srt D ∧ D.length ≤ st.length + i ∧ Below w.heap.size w wr)
    case atStart => exact ⟨0, st, rfl, Nat.zero_le _, by omega, hO, Lib.hid rfl, hs, Nat.le_refl _, Below.refl _ _⟩
    case round =>
      obtain ⟨i, D, rfl, hi, hG, hD, HD, hsD, hDl, hb⟩ := hrel
      clear hO hs
      by_cases hlt : i < n
      · have t1 : decide ((i : Int) < (n : Int)) = true := by simp; omega
        obtain ⟨r, hrr⟩ : ∃ r, rs[i]? = some r := ⟨_, List.getElem?_eq_getElem (by have := HN.out; omega)⟩
        have hro := hok r (List.mem_of_getElem? hrr)
        obtain ⟨c0, c1, c2⟩ := IsR.at (w := wr) (g := yg) (o := yo) (fun j u hu => (hb.cell (p := ⟨yg, yo + j, none⟩) hg).trans (hcs j u hu)) hrr
        obtain ⟨Q, W1, hQ, hW1, hR1, hB1⟩ := box_row wr r
        have hD1 := hD.next hB1
        have hbW := bstep hb hB1
        have HT : Hid (turns st (rs.take (i + 1)) = turn D r) := Lib.hid (by
          have e : rs.take (i + 1) = rs.take i ++ [r] := by rw [List.take_add_one, hrr]; rfl
          rw [e, HD.out]; simp [turns])
        have hsT : Srt (turn D r) := hsD.turn hro
        have hTl := turn_len D r
        have hDz : D.length ≤ 1000000000 := by have := HN.out; omega
        clear hD hcs hrr hok HD
        go_upto_region 4 with fail
        have hk8 := hR1.key
        have hg8 := hR1.gon
        have hgo : ∀ wx, Below W1.heap.size W1 wx → Lw wx Q (rcells r) := fun wx hbx => Rw.below hR1 hbx hR1.size
        obtain ⟨Tn, hTn⟩ : ∃ Tn, turn D r = Tn := ⟨_, rfl⟩
        rw [hTn] at HT hsT hTl
        obtain ⟨m, hm⟩ : ∃ m, m = D.length := ⟨_, rfl⟩
        rcases hD1.shape with ⟨rfl, hDn⟩ | ⟨g, cap, hlv⟩
        case' inl =>
          go_wp2_with fail
          go_loopw [7] (fun a wx => a = .int .i64 0 ∧ Below W1.heap.size W1 wx) (fun _ _ => 0)
          case atStart => exact ⟨rfl, Below.refl _ _⟩
          obtain ⟨rfl, hbx⟩ := hrel
          go_upto_region 5 with fail
          go_region
          go_upto_region 8 with fail
          go_region
          go_upto_region 10 with fail
          have hbx := (hbx.drew).drew
          generalize World.drew (World.drew _) = wx at hbx ⊢
          obtain ⟨tk, htk⟩ : ∃ tk : List Rr, tk = [] := ⟨_, rfl⟩
          obtain ⟨dr, hdr⟩ : ∃ dr : List Rr, dr = [] := ⟨_, rfl⟩
          have hTk : Src wx (.slice none 0 0) tk := .inl ⟨rfl, htk⟩
          have hRs : Src wx (.slice none 0 0) dr := .inl ⟨rfl, hdr⟩
          have HC : Hid (tk ++ (if r.g = true then [] else [r]) ++ dr = Tn) := Lib.hid (by rw [htk, hdr, ← hTn, hDn]; unfold turn; simp [pos, hasK])
          have hz : tk.length + dr.length ≤ 1000000001 := by rw [htk, hdr]; simp
          clear htk hdr hDn
        case' inr =>
          rw [← hm] at hlv
          subst hlv
          obtain ⟨P, hP⟩ : ∃ P, P = pos D r.k := ⟨_, rfl⟩
          have hPm : P ≤ m := by rw [hm, hP]; exact pos_le D r.k
          have hmz : m ≤ 1000000000 := by omega
          have hcm : m ≤ cap := by
            have := hD1
            rw [hm] at this
            obtain ⟨_, _, hc, _⟩ := this.lw
            rw [hm]; exact hc
          have hkey : ∀ q (x : Rr), D[q]? = some x → ∀ wx, Below W1.heap.size W1 wx → wx.cell? ⟨g, q * 3, none⟩ = some (.string (bA x.k)) := fun q x hx wx hb => (OwnR.at (OwnR.next hD1 hb) hx).1
          have HD := Lib.hid (And.intro hm hP)
          have HK := Lib.hid hkey
          clear hm hP hkey
          go_wp2_with fail
          go_loopg [7] (P + 1) (fun G a wx => ∃ q : Nat, a = .int .i64 (q : Int) ∧ q ≤ P ∧ G = P + 1 - q ∧ Below W1.heap.size W1 wx)
          case atStart => exact ⟨0, rfl, Nat.zero_le _, by omega, Below.refl _ _⟩
          obtain ⟨q, rfl, hq, hGq, hbx⟩ := hrel
          have hQk : ∀ wx, Below W1.heap.size W1 wx → wx.cell? ⟨Q, 0, none⟩ = some (.string (bA r.k)) := fun wx hb => (hgo wx hb).key
          by_cases hqP : q < P
          case' pos =>
            obtain ⟨x, hx⟩ : ∃ x, D[q]? = some x := ⟨_, List.getElem?_eq_getElem (by have := HD.out.1; omega)⟩
            have hl : Lt x.k r.k := (pos_iff hsD.up r.k hx).2 (by rw [← HD.out.2]; exact hqP)
            have t2 : Op.bytesLess (bA x.k).toList (bA r.k).toList = true := by
              rw [Lib.toList_data, Lib.toList_data]
              show Op.bytesLess x.k r.k = true
              rw [less_lt]; exact decide_eq_true hl
            have t3 : decide ((q : Int) < (m : Int)) = true := decide_eq_true (by omega)
            have t4 : (q : Int) < (m : Int) := by omega
            have e0 := HK.out q x hx _ hbx.drew
            have e1 := hQk _ hbx.drew
            go_upto_region 5 with fail
            go_region_held (fun v => v.cell? ⟨g, q * 3, none⟩ = some (.string (bA x.k)) ∧ v.cell? ⟨Q, 0, none⟩ = some (.string (bA r.k))) (first | assumption | exact ⟨e0, e1⟩ | skip) (fail)
            go_wp2_with fail
            go_roundg (P + 1 - (q + 1))
            case measure => omega
            case rel => exact ⟨q + 1, by go_num, by omega, rfl, hbx.drew⟩
          obtain rfl : q = P := by omega
          clear hqP hGq hq
          have hTn2 : Tn = D.take q ++ ((if r.g = true then [] else [r]) ++ D.drop (if hasK D r.k = true then q + 1 else q)) := by rw [← hTn]; unfold turn; rw [← HD.out.2]
          have hD1' : OwnR W1 b0 (.slice (some ⟨g, 0, none⟩) D.length cap) D := by rw [← HD.out.1]; exact hD1
          have hTk0 := src_take hD1' (P := q) (by rw [← HD.out.1]; exact hPm)
          have hDr0 := src_drop hD1' (P := q) (by rw [← HD.out.1]; exact hPm)
          have hDr1 := fun h => src_drop hD1' (P := q + 1) h
          rw [← HD.out.1] at hDr0
          simp only [← HD.out.1] at hDr1
          have l4 : (q : Int) ≤ (m : Int) := by omega
          have l5 : (0 : Int) ≤ (q : Int) := by omega
          have l6 : (q : Int) ≤ (cap : Int) := by omega
          have l7 : (m : Int) ≤ (cap : Int) := by omega
          refine Classical.byCases (p := q < m) ?ins ?bey
          case' bey =>
            intro hqm
            obtain rfl : q = m := by omega
            have hno : hasK D r.k = false := by
              unfold hasK
              rw [← HD.out.2, List.getElem?_eq_none (by rw [← HD.out.1]; exact Nat.le_refl _)]; rfl
            rw [hno] at hTn2
            simp only [Bool.false_eq_true, if_false, Nat.sub_self] at hTn2 hDr0
            have t3 : decide ((q : Int) < (q : Int)) = false := by simp
            go_upto_region 5 with fail
            go_region
            refine Classical.byCases (p := cap = q) ?ce1 ?cn1
            case' ce1 =>
              intro hcp
              have hRs0 := hDr0.1 hcp
              go_upto_region 8 with fail
            case' cn1 =>
              intro hcp
              have hRs0 := hDr0.2
              go_upto_region 8 with fail
            all_goals
              go_region
              go_upto_region 10 with fail
              have hbx := (hbx.drew).drew
              generalize World.drew (World.drew _) = wx at hbx ⊢
              obtain ⟨tk, htk⟩ : ∃ tk : List Rr, tk = D.take q := ⟨_, rfl⟩
              obtain ⟨dr, hdr⟩ : ∃ dr : List Rr, dr = D.drop q := ⟨_, rfl⟩
              rw [← htk] at hTk0 hTn2
              rw [← hdr] at hRs0 hTn2
              have hTk := hTk0.next hbx
              have hRs := hRs0.next hbx
              have HC : Hid (tk ++ (if r.g = true then [] else [r]) ++ dr = Tn) := Lib.hid (by rw [hTn2, List.append_assoc])
              have hz : tk.length + dr.length ≤ 1000000001 := by rw [htk, hdr, List.length_take, List.length_drop]; omega
              clear htk hdr hTk0 hRs0 hTn2 hDr0 hDr1 hcp
          case' ins =>
            intro hqm
            obtain ⟨x, hx⟩ : ∃ x, D[q]? = some x := ⟨_, List.getElem?_eq_getElem (by have := HD.out.1; omega)⟩
            have hnl' : ¬ Lt x.k r.k := fun h => by have := (pos_iff hsD.up r.k hx).1 h; rw [← HD.out.2] at this; omega
            have t2 : Op.bytesLess (bA x.k).toList (bA r.k).toList = false := by
              rw [Lib.toList_data, Lib.toList_data]
              show Op.bytesLess x.k r.k = false
              rw [less_lt]; exact decide_eq_false hnl'
            have t3 : decide ((q : Int) < (m : Int)) = true := decide_eq_true (by omega)
            have t4 : (q : Int) < (m : Int) := by omega
            have t5 : (q : Int) + 1 ≤ (m : Int) := by omega
            have t6 : (q : Int) + 1 ≤ (cap : Int) := by omega
            have hcp : ¬ cap = q := by omega
            have e0 := HK.out q x hx _ hbx.drew
            have e1 := hQk _ hbx.drew
            have hhk : hasK D r.k = decide (x.k = r.k) := by unfold hasK; rw [← HD.out.2, hx]; rfl
            go_upto_region 5 with fail
            go_region_held (fun v => v.cell? ⟨g, q * 3, none⟩ = some (.string (bA x.k)) ∧ v.cell? ⟨Q, 0, none⟩ = some (.string (bA r.k))) (first | assumption | exact ⟨e0, e1⟩ | skip) (fail)
            go_upto_region 8 with fail
            have e2 := HK.out q x hx _ hbx.drew.drew
            have e3 := hQk _ hbx.drew.drew
            refine Classical.byCases (p := x.k = r.k) ?ke ?kn
            case' ke =>
              intro hxk
              rw [hhk, decide_eq_true hxk] at hTn2
              simp only [if_true] at hTn2
              have t7 : ((bA x.k).toList == (bA r.k).toList) = true := by rw [hxk]; simp
              go_region_held (fun v => v.cell? ⟨g, q * 3, none⟩ = some (.string (bA x.k)) ∧ v.cell? ⟨Q, 0, none⟩ = some (.string (bA r.k))) (first | assumption | exact ⟨e2, e3⟩ | skip) (fail)
              have hd1 := hDr1 (by omega)
              refine Classical.byCases (p := cap = q + 1) ?ce2 ?cn2
              case' ce2 =>
                intro hcp1
                have hRs0 := hd1.1 hcp1
                go_upto_region 10 with fail
              case' cn2 =>
                intro hcp1
                have hRs0 := hd1.2
                go_upto_region 10 with fail
              all_goals
                have hbx := (hbx.drew).drew
                generalize World.drew (World.drew _) = wx at hbx ⊢
                obtain ⟨tk, htk⟩ : ∃ tk : List Rr, tk = D.take q := ⟨_, rfl⟩
                obtain ⟨dr, hdr⟩ : ∃ dr : List Rr, dr = D.drop (q + 1) := ⟨_, rfl⟩
                rw [← htk] at hTk0 hTn2
                rw [← hdr] at hRs0 hTn2
                have hTk := hTk0.next hbx
                have hRs := hRs0.next hbx
                have HC : Hid (tk ++ (if r.g = true then [] else [r]) ++ dr = Tn) := Lib.hid (by rw [hTn2, List.append_assoc])
                have hz : tk.length + dr.length ≤ 1000000001 := by rw [htk, hdr, List.length_take, List.length_drop]; omega
                clear htk hdr hTk0 hRs0 hTn2 hDr0 hDr1 hcp hcp1 e0 e1 e2 e3 hd1 t2 t3 t4 t5 t6 t7
            case' kn =>
              intro hxk
              rw [hhk, decide_eq_false hxk] at hTn2
              simp only [Bool.false_eq_true, if_false] at hTn2
              have t7 : ((bA x.k).toList == (bA r.k).toList) = false := by
                rw [Lib.toList_data, Lib.toList_data]
                show (x.k == r.k) = false
                simpa using hxk
              go_region_held (fun v => v.cell? ⟨g, q * 3, none⟩ = some (.string (bA x.k)) ∧ v.cell? ⟨Q, 0, none⟩ = some (.string (bA r.k))) (first | assumption | exact ⟨e2, e3⟩ | skip) (fail)
              have hRs0 := hDr0.2
              go_upto_region 10 with fail
              have hbx := (hbx.drew).drew
              generalize World.drew (World.drew _) = wx at hbx ⊢
              obtain ⟨tk, htk⟩ : ∃ tk : List Rr, tk = D.take q := ⟨_, rfl⟩
              obtain ⟨dr, hdr⟩ : ∃ dr : List Rr, dr = D.drop q := ⟨_, rfl⟩
              rw [← htk] at hTk0 hTn2
              rw [← hdr] at hRs0 hTn2
              have hTk := hTk0.next hbx
              have hRs := hRs0.next hbx
              have HC : Hid (tk ++ (if r.g = true then [] else [r]) ++ dr = Tn) := Lib.hid (by rw [hTn2, List.append_assoc])
              have hz : tk.length + dr.length ≤ 1000000001 := by rw [htk, hdr, List.length_take, List.length_drop]; omega
              clear htk hdr hTk0 hRs0 hTn2 hDr0 hDr1 hcp e0 e1 e2 e3 t2 t3 t4 t5 t6 t7
        all_goals
          have hbz := hbx.size
          have hbwz := hbW.size
          have hE := own_none wx b0 (by omega)
          have hwA : Below wx.heap.size wx (wx.alloc (.cells #[] 52)) := (Below.refl _ wx).alloc (Nat.le_refl _) _
          have hwz : (wx.alloc (.cells #[] 52)).heap.size = wx.heap.size + 1 := by simp
          obtain ⟨y1, w1, hrun1, hO1, hbut1, hat1⟩ := app_rows hE (by omega) (by simp; omega) (hTk.next hwA)
          rw [List.nil_append] at hO1
          have hb1 : Below wx.heap.size wx w1 := hwA.trans (hbut1.below (by omega) (fun k e => by cases e; exact Nat.le_refl _))
          have hge1 : ∀ k, y1.ownBlock = some k → wx.heap.size ≤ k := fun k hk => by
            rcases hat1 with e | e
            · rw [hk] at e; cases e; exact Nat.le_refl _
            · rw [hk] at e; cases e; omega
          have hbx1 := bstep hbx hb1
          have hR2 := hgo w1 hbx1
          have hRs1 := hRs.next hb1
          have hz1 := hb1.size
          clear hTk hE hwA hbut1 hat1 hk8 hg8
          cases hgb : r.g with
          | true =>
            have e2 := hR2.gon
            rw [hgb] at e2
            obtain ⟨y2, w2, hrun2, hO2, hbut2, hat2⟩ := app_rows hO1 (by omega) (by omega) hRs1
            have hT2 : tk ++ dr = Tn := by have := HC.out; rw [if_pos hgb, List.append_nil] at this; exact this
            rw [hT2] at hO2
            have hb2 : Below wx.heap.size wx w2 := hb1.trans (hbut2.below (by omega) hge1)
            clear hO1 hbut2 hat2
            go_wp2_with (first
              | (at_builtin; refine wpList_appE rfl _ _ 37 37 rfl _ _ rfl rfl (hrun1 _) ?_)
              | (at_builtin; refine wpList_appE rfl _ _ 37 37 rfl _ _ rfl rfl (hrun2 _) ?_))
            go_roundg (n + 1 - (i + 1))
            case measure => omega
            case rel => exact ⟨i + 1, Tn, by go_num, by omega, rfl, hO2, Lib.hid HT.out.symm, hsT, by omega, bstep (bstep hbW hbx) hb2⟩
          | false =>
            have e0 := hR2.key
            have e1 := hR2.val
            have e2 := hR2.gon
            rw [hgb] at e2
            obtain ⟨y2, w2, hrun2, ⟨g2, m2, c2', rfl⟩, hO2, hbut2, hg2⟩ := app_row r w1 hO1 (by omega) (by omega)
            rw [hgb] at hrun2
            have hb2 : Below wx.heap.size wx w2 := hb1.trans (hbut2.below (by omega) hge1)
            have hz2 := hb2.size
            obtain ⟨y3, w3, hrun3, hO3, hbut3, hat3⟩ := app_rows hO2 (by omega) (by rw [List.length_append, List.length_singleton]; omega) (hRs.next hb2)
            have hge2 : ∀ k, (Value.slice (some ⟨g2, 0, none⟩) m2 c2').ownBlock = some k → wx.heap.size ≤ k := fun k hk => by
              rcases hg2 with e | e
              · rw [hk] at e; exact hge1 k e.symm
              · have := e k hk; omega
            have hT2 : tk ++ [r] ++ dr = Tn := by have := HC.out; rw [if_neg (by rw [hgb]; decide)] at this; exact this
            rw [hT2] at hO3
            have hb3 : Below wx.heap.size wx w3 := hb2.trans (hbut3.below hz2 hge2)
            clear hO1 hbut2 hO2 hbut3 hat3 hg2 hRs hRs1
            go_upto_region 11 with (at_builtin; refine wpList_appE rfl _ _ 37 37 rfl _ _ rfl rfl (hrun1 _) ?_)
            go_upto_region 13 with (at_builtin; refine wpList_appE rfl _ _ 37 37 rfl _ _ rfl rfl (hrun2 _) ?_)
            go_wp2_with (at_builtin; refine wpList_appE rfl _ _ 37 37 rfl _ _ rfl rfl (hrun3 _) ?_)
            go_roundg (n + 1 - (i + 1))
            case measure => omega
            case rel => exact ⟨i + 1, Tn, by go_num, by omega, rfl, hO3, Lib.hid HT.out.symm, hsT, by omega, bstep (bstep hbW hbx) hb3⟩
      · obtain rfl : i = n := by omega
        have t1 : decide ((i : Int) < (i : Int)) = false := by simp
        have hlw := hD.shape
        rcases hlw with ⟨rfl, rfl⟩ | ⟨g, cap, rfl⟩
        all_goals
          have e := HD.out
          rw [HN.out, List.take_length] at e
          go_wp2
          go_ret
          exact ⟨_, rfl, by rw [← e]; exact hD, hb⟩
end Go.Proofs.YtlofjfeimhjdlaaGreatDoor
