/- THE WALKS of squeeze's places: find, add. -/
import Derived.Test.YtmfagkhmienbiaaDoorAp4
import Derived.Test.YtmfagkhmienbiaaDoorPrL
import Derived.Maps.OwnSet
import Derived.Maps.OwnOps
import Derived.Deep.LoopGhost
import Derived.Deep.RegionHeld
import Derived.Deep.DeepCutAuto
namespace Go.Proofs.YtmfagkhmienbiaaDoor
open Go.RowKit Go.Maps
open Go.WideMaps (keyOf_string_mk)
theorem keyLit (l : List UInt8) : WideAt.IsKeyLit (.string l) := trivial

theorem skeyed : Keyed Tryd.prog 9 := string_keyed Tryd.underlying9
theorem zeroI (w : World) : (zeroValue 3).run Tryd.prog w = .ok (.int .i64 0) w := by kernel_rfl
abbrev MapOwn (w : World) (b n : Nat) (D : DataW Unit) : Prop := w.ownsMap Tryd.prog 9 (plainElem Tryd.prog 3) b n D
abbrev plc (b1 b2 z : Nat) : Value := .agg #[.map (some b1), .slice (some ⟨b2, 0, none⟩) z z]
/-- What the map of the places of s ahead of k holds. -/
def KnD (s : List UInt8) (k : Nat) (D : DataW Unit) : Prop :=
  (∀ l, has D (.string l) = true → ∃ v : Nat, D.atKey (.string l) (.lit (.int .i64 0)) = .lit (.int .i64 (v : Int)) ∧ v < k ∧ v + 3 ≤ s.length) ∧
  (∀ j, j < k → j + 3 ≤ s.length → has D (.string ((s.drop j).take 3)) = true)
theorem knd_start (s : List UInt8) : KnD s 0 (.map []) := ⟨fun l h => by simp [has] at h, fun j hj => absurd hj (by omega)⟩
theorem knd_put {s : List UInt8} {k : Nat} {D : DataW Unit} (h : KnD s k D) (hm : IsMap D) (hk : k + 3 ≤ s.length) : KnD s (k + 1) (D.put (.string ((s.drop k).take 3)) (.lit (.int .i64 (k : Int)))) := by
  refine ⟨fun l hl => ?_, fun j hj hj3 => ?_⟩
  · by_cases e : l = (s.drop k).take 3
    · subst e
      exact ⟨k, atKey_put_same hm (keyLit _) _ _, by omega, hk⟩
    · have hne : Lit.string l ≠ .string ((s.drop k).take 3) := fun h => e (by injection h)
      rw [has_put_other hne] at hl
      obtain ⟨v, h1, h2, h3⟩ := h.1 l hl
      exact ⟨v, by rw [atKey_put_other hne]; exact h1, by omega, h3⟩
  · by_cases e : (s.drop j).take 3 = (s.drop k).take 3
    · rw [e]; exact has_put_same hm (keyLit _) _
    · have hne : Lit.string ((s.drop j).take 3) ≠ .string ((s.drop k).take 3) := fun h => e (by injection h)
      rw [has_put_other hne]
      exact h.2 j (by rcases Nat.lt_or_ge j k with h | h; exact h; exact absurd (by rw [show j = k by omega]) e) hj3
def KnR (s : List UInt8) (k : Nat) (row : Array Value) : Prop := row.size = s.length ∧ ∀ j, j < k → j + 3 ≤ s.length → ∃ x : Int, row[j]? = some (.int .i64 x) ∧ -1 ≤ x ∧ x < j
/-- The places of s ahead of k are known: the map in block b1, the row in block b2. -/
def Kn (s : List UInt8) (b1 b2 k : Nat) (w : World) : Prop := ∃ (D : DataW Unit) (n : Nat) (row : Array Value), MapOwn w b1 n D ∧ n ≤ k ∧ Rw w b2 3 row ∧ KnD s k D ∧ KnR s k row
theorem Kn.below {s : List UInt8} {b1 b2 k B : Nat} {w v : World} (h : Kn s b1 b2 k w) (hb : Below B w v) (h1 : b1 < B) (h2 : b2 < B) : Kn s b1 b2 k v := by
  obtain ⟨D, n, row, a1, a2, a3, a4, a5⟩ := h
  obtain ⟨es, c, e1, e2⟩ := a1
  exact ⟨D, n, row, ⟨es, c, (hb.block b1 h1).trans e1, e2⟩, a2, a3.below hb h2, a4, a5⟩
theorem MapOwn.below {w v : World} {b n B : Nat} {D : DataW Unit} (h : MapOwn w b n D) (hb : Below B w v) (h1 : b < B) : MapOwn v b n D := by
  obtain ⟨es, c, e1, e2⟩ := h
  exact ⟨es, c, (hb.block b h1).trans e1, e2⟩
theorem Kn.lt {s : List UInt8} {b1 b2 k : Nat} {w : World} (h : Kn s b1 b2 k w) : b1 < w.heap.size ∧ b2 < w.heap.size ∧ b1 ≠ b2 := by
  obtain ⟨D, n, row, a1, a2, a3, a4, a5⟩ := h
  refine ⟨a1.lt, a3.size, fun e => ?_⟩
  obtain ⟨es, c, e1, e2⟩ := a1
  unfold Rw at a3
  rw [← e, e1] at a3
  cases a3
theorem Kn.step {s : List UInt8} {b1 b2 k : Nat} {w v : World} (h : Kn s b1 b2 k w) (hb : Below w.heap.size w v) : Kn s b1 b2 k v := h.below hb h.lt.1 h.lt.2.1
def Found (s : List UInt8) (k : Nat) (key : List UInt8) (x : Int) : Prop := -1 ≤ x ∧ x < k ∧ x + 3 ≤ s.length ∧ (∀ j, j < k → j + 3 ≤ s.length → (s.drop j).take 3 = key → 0 ≤ x)
theorem find_any (s : List UInt8) (b1 b2 z k : Nat) (hs : 3 ≤ s.length) (key : ByteArray) (hk : key.size ≤ 100) (w : World) (h : Kn s b1 b2 k w) :
    Calls Tryd.prog 26 #[plc b1 b2 z, .string key] w fun e w' => ∃ x : Int, e = .returned (.int .i64 x) ∧ Hid (Found s k key.data.toList x) ∧ Below w.heap.size w w' := by
  have hb0 : Below w.heap.size w (w.alloc (.cells #[.map (some b1), .slice (some ⟨b2, 0, none⟩) z z] 42)) := (Below.refl _ w).alloc (Nat.le_refl _) _
  obtain ⟨D, n, row, a1, a2, a3, a4, a5⟩ := h.step hb0
  have hkey : keyOf Tryd.prog 9 (.string key) = some (.string key.data.toList) := keyOf_string_mk Tryd.underlying9 (by unfold maxLen; omega)
  cases hh : has D (.string key.data.toList) with
  | true =>
    obtain ⟨v, h1, h2, h3⟩ := a4.1 _ hh
    have HF : Hid (Found s k key.data.toList (v : Int)) := Lib.hid ⟨by omega, by omega, by omega, fun _ _ _ _ => by omega⟩
    have H1 := Lib.hid h1
    clear h1 a4 a5
    go_enter Tryd.func26, Tryd.ntmps26
    go_wp2_with (at_lookup; refine wpList_lookup_own_ok_int _ rfl _ _ 40 rfl 9 3 .i64 skeyed Tryd.underlying40 Tryd.underlying3 (zeroI _) b1 n D rfl a1 _ _ rfl hkey ?_; intro c hat hwc)
    go_ret
    have e : c = (v : Int) := by
      have := hat.symm.trans H1.out
      simpa using this
    exact ⟨c, rfl, by rw [e]; exact HF, hb0⟩
  | false =>
    have HF : Hid (Found s k key.data.toList (-1)) := Lib.hid ⟨by omega, by omega, by omega, fun j h1 h2 h3 => by
      have := a4.2 j h1 h2
      rw [h3, hh] at this
      cases this⟩
    clear a4 a5
    go_enter Tryd.func26, Tryd.ntmps26
    go_wp2_with (at_lookup; refine wpList_lookup_own_ok_int _ rfl _ _ 40 rfl 9 3 .i64 skeyed Tryd.underlying40 Tryd.underlying3 (zeroI _) b1 n D rfl a1 _ _ rfl hkey ?_; intro c hat hwc)
    go_ret
    exact ⟨-1, rfl, HF, hb0⟩
/-- Nothing that was there has turned but blocks b1 and b2. -/
structure Tur (b1 b2 : Nat) (w w' : World) : Prop where
  os : w'.os = w.os
  tape : w'.tape = w.tape
  output : w'.output = w.output
  size : w.heap.size ≤ w'.heap.size
  block : ∀ k, k < w.heap.size → k ≠ b1 → k ≠ b2 → w'.heap[k]? = w.heap[k]?
theorem Tur.refl (b1 b2 : Nat) (w : World) : Tur b1 b2 w w := ⟨rfl, rfl, rfl, Nat.le_refl _, fun _ _ _ _ => rfl⟩
theorem Tur.trans {b1 b2 : Nat} {w v x : World} (h : Tur b1 b2 w v) (g : Tur b1 b2 v x) : Tur b1 b2 w x :=
  ⟨g.os.trans h.os, g.tape.trans h.tape, g.output.trans h.output, Nat.le_trans h.size g.size, fun k hk h1 h2 => (g.block k (Nat.lt_of_lt_of_le hk h.size) h1 h2).trans (h.block k hk h1 h2)⟩
theorem Tur.of_below {b1 b2 : Nat} {w v : World} (h : Below w.heap.size w v) : Tur b1 b2 w v := ⟨h.os, h.tape, h.output, h.size, fun k hk _ _ => h.block k hk⟩
theorem Tur.of_set {b1 b2 : Nat} (w : World) (i : Nat) (u : Value) : Tur b1 b2 w (w.setCell ⟨b2, i, none⟩ u) := ⟨rfl, rfl, rfl, by simp [World.setCell], fun k _ _ h2 => heap_setCell_other w _ k u h2⟩
theorem Tur.of_map {b1 b2 : Nat} {w v : World} (h : w.grownBy v (some b1)) : Tur b1 b2 w v := ⟨h.os, h.tape, h.output, h.size, fun k hk h1 _ => h.block k hk (fun e => h1 (Option.some.inj e))⟩
theorem t2' (b1 g : Nat) {w v : World} {t : TypeId} {cs : Array Value} (h : w.grownBy v (some b1)) (hg : g ≠ b1) (hr : Rw w g t cs) : Rw v g t cs := (h.block g hr.size (fun e => hg (Option.some.inj e))).trans hr
theorem knr_put {s : List UInt8} {k : Nat} {row : Array Value} (h : KnR s k row) (hk : k + 3 ≤ s.length) {x : Int} (h1 : -1 ≤ x) (h2 : x < k) : KnR s (k + 1) (row.setIfInBounds k (.int .i64 x)) := by
  refine ⟨by simpa using h.1, fun j hj hj3 => ?_⟩
  by_cases e : j = k
  · subst e
    exact ⟨x, by rw [Array.getElem?_setIfInBounds_self_of_lt]; rw [h.1]; omega, h1, h2⟩
  · obtain ⟨y, hy, h3, h4⟩ := h.2 j (by omega) hj3
    exact ⟨y, by rw [Array.getElem?_setIfInBounds_ne (by omega)]; exact hy, h3, h4⟩
theorem knd_past {s : List UInt8} {k m : Nat} {D : DataW Unit} (h : KnD s k D) (hkm : k ≤ m) (hk : s.length < k + 3) : KnD s m D :=
  ⟨fun l hl => by obtain ⟨v, h1, h2, h3⟩ := h.1 l hl; exact ⟨v, h1, by omega, h3⟩, fun j hj hj3 => h.2 j (by omega) hj3⟩
theorem knr_past {s : List UInt8} {k m : Nat} {row : Array Value} (h : KnR s k row) (hk : s.length < k + 3) : KnR s m row := ⟨h.1, fun j _ hj3 => h.2 j (by omega) hj3⟩
theorem Kn.past {s : List UInt8} {b1 b2 k m : Nat} {w : World} (h : Kn s b1 b2 k w) (hkm : k ≤ m) (hk : s.length < k + 3) : Kn s b1 b2 m w := by
  obtain ⟨D, n, row, a1, a2, a3, a4, a5⟩ := h
  exact ⟨D, n, row, a1, by omega, a3, knd_past a4 hkm hk, knr_past a5 hk⟩
/-- find, at a world that lies above one in which places are known. -/
theorem find_over (s : List UInt8) (b1 b2 z k : Nat) (hs : 3 ≤ s.length) (key : ByteArray) (hk : key.size ≤ 100) {w0 : World} (h : Kn s b1 b2 k w0) (w : World) (hb : Below w0.heap.size w0 w) :
    Calls Tryd.prog 26 #[plc b1 b2 z, .string key] w fun e w' => ∃ x : Int, e = .returned (.int .i64 x) ∧ Hid (Found s k key.data.toList x) ∧ Below w0.heap.size w0 w' :=
  (find_any s b1 b2 z k hs key hk w (h.step hb)).mono fun _ _ ⟨x, h1, h2, h3⟩ => ⟨x, h1, h2, below_step hb h3⟩
set_option maxRecDepth 100000 in
set_option maxHeartbeats 1000000 in
theorem add_any (S : ByteArray) (hS : S.size ≤ 60000) (b1 b2 k n : Nat) (hn : n ≤ 1000) (hk : k ≤ 60000) (w : World) (h : Kn S.data.toList b1 b2 k w) :
    Calls Tryd.prog 18 #[plc b1 b2 S.size, .string S, .int .i64 (k : Int), .int .i64 (n : Int)] w fun e w' => e = .returned (.tuple #[]) ∧ Kn S.data.toList b1 b2 (k + n) w' ∧ Tur b1 b2 w w' := by
  have hSl : S.data.toList.length = S.size := Array.length_toList
  have hb0 : Below w.heap.size w (w.alloc (.cells #[.map (some b1), .slice (some ⟨b2, 0, none⟩) S.size S.size] 42)) := (Below.refl _ w).alloc (Nat.le_refl _) _
  have hr0 : Rw (w.alloc (.cells #[.map (some b1), .slice (some ⟨b2, 0, none⟩) S.size S.size] 42)) w.heap.size 42 #[.map (some b1), .slice (some ⟨b2, 0, none⟩) S.size S.size] := Rw.fresh w _ _
  have hk0 := h.step hb0
  have hlt1 := h.lt
  go_enter Tryd.func18, Tryd.ntmps18
  go_wp2_with fail
  generalize w.alloc (.cells #[.map (some b1), .slice (some ⟨b2, 0, none⟩) S.size S.size] 42) = w1 at hb0 hr0 hk0 ⊢
  go_loopg [8] (n + 1) (fun g a wr => ∃ j : Nat, a = .int .i64 (j : Int) ∧ k ≤ j ∧ j ≤ k + n ∧ g = k + n + 1 - j ∧ Kn S.data.toList b1 b2 j wr ∧ Tur b1 b2 w wr ∧ Rw wr w.heap.size 42 #[.map (some b1), .slice (some ⟨b2, 0, none⟩) S.size S.size])
  case atStart => exact ⟨k, rfl, by omega, by omega, by omega, hk0, Tur.of_below hb0, hr0⟩
  case round =>
    obtain ⟨j, rfl, hj1, hj2, hg, hkn, htu, hrb⟩ := hrel
    clear hb0 hr0 hk0
    by_cases hlt : j < k + n
    · by_cases h3 : j + 3 ≤ S.size
      · have d1 : decide ((j : Int) < (k : Int) + (n : Int)) = true := by simp; omega
        have d2 : decide ((j : Int) + 3 ≤ (S.size : Int)) = true := by simp; omega
        go_upto_region 5 with fail
        obtain ⟨key, hkey⟩ : ∃ key, key = S.extract j (j + 3) := ⟨_, rfl⟩
        rw [← hkey]
        have hkz : key.size ≤ 100 := by rw [hkey, ext_size _ _ _ h3]; omega
        have hkl : key.data.toList = (S.data.toList.drop j).take 3 := by rw [hkey, ext_mid, Nat.add_sub_cancel_left]
        have fo := find_over S.data.toList b1 b2 S.size j (by omega) key hkz hkn
        have HK := Lib.hid hkl
        obtain ⟨D, m, row, a1, a2, a3, a4, a5⟩ := hkn
        have HA := Lib.hid (And.intro a4 a5)
        have hz5 := a5.1
        have c0 : wr.cell? ⟨w.heap.size, 0, none⟩ = some (.map (some b1)) := hrb.at 0
        have c1 : wr.cell? ⟨w.heap.size, 1, none⟩ = some (.slice (some ⟨b2, 0, none⟩) S.size S.size) := hrb.at 1
        have c2 : wr.cell? ⟨b2, j, none⟩ = row[j]? := a3.at j
        rw [Array.getElem?_eq_getElem (by omega)] at c2
        obtain ⟨old, ho⟩ : ∃ old, row[j]? = some old := ⟨_, Array.getElem?_eq_getElem (by omega)⟩
        have c2 : wr.cell? ⟨b2, j, none⟩ = some old := (a3.at j).trans ho
        have f2 : wr.frozen? ⟨b2, j, none⟩ = false := a3.free j
        have hlw := a3.size
        have hgw : w.heap.size < wr.heap.size := hrb.size
        have hne : b2 ≠ w.heap.size := by omega
        clear hkey hkl a4 a5
        go_cut [8] (fun p wx => p = .int .i64 (j : Int) ∧ ∃ (x : Int) (v : World), wx = v.setCell ⟨b2, j, none⟩ (.int .i64 x) ∧ Hid (Found S.data.toList j key.data.toList x) ∧ Below wr.heap.size wr v)
        case first =>
          have l0 : (j : Int) < (S.size : Int) := by omega
          have fo1 := fo _ (Below.refl _ wr).drew
          have hS0 : wr.drew.cell? ⟨w.heap.size, 0, none⟩ = some (.map (some b1)) ∧ wr.drew.cell? ⟨w.heap.size, 1, none⟩ = some (.slice (some ⟨b2, 0, none⟩) S.size S.size) := ⟨c0, c1⟩
          have hkeep : ∀ v, Below wr.heap.size wr v → v.cell? ⟨w.heap.size, 0, none⟩ = some (.map (some b1)) ∧ v.cell? ⟨w.heap.size, 1, none⟩ = some (.slice (some ⟨b2, 0, none⟩) S.size S.size) := fun v hb =>
            ⟨(hb.cell (p := ⟨w.heap.size, 0, none⟩) hgw).trans c0, (hb.cell (p := ⟨w.heap.size, 1, none⟩) hgw).trans c1⟩
          have hkeep2 : ∀ v, Below wr.heap.size wr v → v.cell? ⟨b2, j, none⟩ = some old ∧ v.frozen? ⟨b2, j, none⟩ = false := fun v hb =>
            ⟨(hb.cell (p := ⟨b2, j, none⟩) hlw).trans c2, (hb.frozen (p := ⟨b2, j, none⟩) hlw).trans f2⟩
          have HKP := Lib.hid hkeep
          have HKQ := Lib.hid hkeep2
          clear hkeep hkeep2 c0 c1 c2 f2 ho
          go_region_held (fun v => v.cell? ⟨w.heap.size, 0, none⟩ = some (.map (some b1)) ∧ v.cell? ⟨w.heap.size, 1, none⟩ = some (.slice (some ⟨b2, 0, none⟩) S.size S.size))
            (first | assumption | exact ⟨(World.cell?_setCell_far _ _ _ _ hne).trans hk1.1, (World.cell?_setCell_far _ _ _ _ hne).trans hk1.2⟩ | skip) (first
              | (go_at_call 26; (with_reducible refine fo1.mono ?_); rintro e v1 ⟨x, rfl, HX, hv1⟩; have hk1 := HKP.out _ hv1; have hk2 := HKQ.out _ hv1))
          all_goals
            go_wp2_with fail
            go_meet
            case rel => exact ⟨rfl, x, _, rfl, HX, hv1⟩
        case rest =>
          obtain ⟨rfl, x, v, rfl, HX, hbv⟩ := hcut
          have m1 : MapOwn (v.setCell ⟨b2, j, none⟩ (.int .i64 x)) b1 m D := (a1.below hbv a1.lt).setCell (by simpa using hlt1.2.2) _
          have r1 : Rw (v.setCell ⟨b2, j, none⟩ (.int .i64 x)) b2 3 (row.setIfInBounds j (.int .i64 x)) := (a3.below hbv hlw).put j _
          have r2 := (hrb.below hbv hgw).other (p := ⟨b2, j, none⟩) hne.symm (.int .i64 x)
          have t1 : Tur b1 b2 w (v.setCell ⟨b2, j, none⟩ (.int .i64 x)) := (htu.trans (Tur.of_below hbv)).trans (Tur.of_set v j _)
          have hkey : keyOf Tryd.prog 9 (.string key) = some (.string key.data.toList) := keyOf_string_mk Tryd.underlying9 (by unfold maxLen; omega)
          generalize v.setCell ⟨b2, j, none⟩ (.int .i64 x) = v1 at m1 r1 r2 t1 ⊢
          have c3 : v1.cell? ⟨w.heap.size, 0, none⟩ = some (.map (some b1)) := r2.at 0
          clear hbv c0 c1 c2 f2 ho a3 a1 hrb htu fo
          go_wp2_with (at_mapUpdate; refine wpList_mapUpdate_own _ rfl _ _ _ 40 rfl 9 3 skeyed Tryd.underlying40 _ b1 m D rfl m1 (by unfold maxLen; omega) _ _ _ rfl rfl hkey _ [] (plainElem_int Tryd.underlying3 (WalkArith.wf_i64 (by omega))) ?_; intro w2 hown2 hgrow2)
          go_roundg (k + n + 1 - (j + 1))
          case measure => omega
          case rel =>
            have hf := HX.out
            have hmap := m1.isMap
            have t2 : Tur b1 b2 v1 w2 := Tur.of_map hgrow2
            refine ⟨j + 1, by go_num, by omega, by omega, rfl, ⟨_, m + 1, _, hown2, by omega, (t2' b1 b2 hgrow2 hlt1.2.2.symm r1), ?_, knr_put HA.out.2 (by omega) hf.1 hf.2.1⟩, t1.trans t2, (t2' b1 w.heap.size hgrow2 (by omega) r2)⟩
            rw [HK.out]
            exact knd_put HA.out.1 hmap (by omega)
      · have d1 : decide ((j : Int) < (k : Int) + (n : Int)) = true := by simp; omega
        have d2 : decide ((j : Int) + 3 ≤ (S.size : Int)) = false := by simp; omega
        go_wp2_with fail
        go_end0
        exact ⟨rfl, hkn.past (by omega) (by omega), htu⟩
    · have d1 : decide ((j : Int) < (k : Int) + (n : Int)) = false := by simp; omega
      go_wp2_with fail
      go_end0
      have e : j = k + n := by omega
      exact ⟨rfl, by rw [← e]; exact hkn, htu⟩
end Go.Proofs.YtmfagkhmienbiaaDoor
