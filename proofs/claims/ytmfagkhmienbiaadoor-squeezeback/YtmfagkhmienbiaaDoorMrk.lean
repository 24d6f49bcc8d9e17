/- LAWS for a row of bytes of the call's own whose block may bear a mark behind its end (what '[]byte(s)' makes): append of bytes, of a string; as a string; what else has turned. -/
import Derived.Test.YtmfagkhmienbiaaDoorAp4
import Derived.Lib.ConvBytes
namespace Go.Proofs.YtmfagkhmienbiaaDoor
open Go.RowKit

def OwnM (B : Nat) (w : World) (v : Value) (l : List UInt8) : Prop :=
  ∃ g cap cs fr, v = .slice (some ⟨g, 0, none⟩) l.length cap ∧ B ≤ g ∧ w.heap[g]? = some (.cells cs 5 fr) ∧ cs.size = cap ∧ l.length ≤ cap ∧ cap ≤ maxLen ∧ (∀ i, i < cap → ¬ (fr.1 ≤ i ∧ i < fr.2)) ∧ ∀ j (h : j < l.length), cs[j]? = some (.int .u8 (l[j].toNat : Int))
/-- Nothing that was there has turned but rows of bytes from block B on. -/
structure Fr (B : Nat) (w w' : World) : Prop where
  os : w'.os = w.os
  tape : w'.tape = w.tape
  output : w'.output = w.output
  size : w.heap.size ≤ w'.heap.size
  block : ∀ k, k < w.heap.size → (k < B ∨ ∀ cs fr, w.heap[k]? ≠ some (.cells cs 5 fr)) → w'.heap[k]? = w.heap[k]?
theorem Fr.refl (B : Nat) (w : World) : Fr B w w := ⟨rfl, rfl, rfl, Nat.le_refl _, fun _ _ _ => rfl⟩
theorem Fr.trans {B : Nat} {w v x : World} (h : Fr B w v) (g : Fr B v x) : Fr B w x :=
  ⟨g.os.trans h.os, g.tape.trans h.tape, g.output.trans h.output, Nat.le_trans h.size g.size, fun k hk hp => by
    have e := h.block k hk hp
    rw [← e]
    exact g.block k (Nat.lt_of_lt_of_le hk h.size) (hp.imp id fun hq cs fr => by rw [e]; exact hq cs fr)⟩
theorem Fr.of_below {B : Nat} {w v : World} (h : Below w.heap.size w v) : Fr B w v := ⟨h.os, h.tape, h.output, h.size, fun k hk _ => h.block k hk⟩
theorem Fr.below {B : Nat} {w v : World} (h : Fr B w v) (hB : B ≤ w.heap.size) : Below B w v := ⟨h.os, h.tape, h.output, h.size, fun k hk => h.block k (Nat.lt_of_lt_of_le hk hB) (Or.inl hk)⟩
theorem OwnM.lt {B : Nat} {w : World} {v : Value} {l : List UInt8} (h : OwnM B w v l) : ∀ k, v.ownBlock = some k → B ≤ k ∧ k < w.heap.size ∧ ∃ cs fr, w.heap[k]? = some (.cells cs 5 fr) := by
  obtain ⟨g, cap, cs, fr, rfl, h1, h2, _⟩ := h
  intro k hk
  simp [Value.ownBlock] at hk
  subst hk
  exact ⟨h1, (Array.getElem?_eq_some_iff.1 h2).1, cs, fr, h2⟩
theorem Fr.grown {B : Nat} {w w' : World} {v : Value} {l : List UInt8} (h : OwnM B w v l) (hg : w.grownBy w' v.ownBlock) : Fr B w w' :=
  ⟨hg.os, hg.tape, hg.output, hg.size, fun k hk hp => hg.block k hk (fun e => by
    obtain ⟨h1, _, cs, fr, h2⟩ := h.lt k e.symm
    rcases hp with hp | hp
    · omega
    · exact hp cs fr h2)⟩
/-- The row stays while other blocks are written, and new ones are made. -/
theorem OwnM.kept {B : Nat} {w w' : World} {v : Value} {l : List UInt8} (h : OwnM B w v l) (hk : ∀ k, v.ownBlock = some k → w'.heap[k]? = w.heap[k]?) : OwnM B w' v l := by
  obtain ⟨g, cap, cs, fr, rfl, h1, h2, h3⟩ := h
  exact ⟨g, cap, cs, fr, rfl, h1, (hk g rfl).trans h2, h3⟩
theorem OwnM.step {B : Nat} {w w' : World} {v : Value} {l : List UInt8} (h : OwnM B w v l) (hb : Below w.heap.size w w') : OwnM B w' v l := h.kept fun k hk => hb.block k (h.lt k hk).2.1
theorem OwnM.form {B : Nat} {w : World} {v : Value} {l : List UInt8} (h : OwnM B w v l) : ∃ g cap, v = .slice (some ⟨g, 0, none⟩) l.length cap := by
  obtain ⟨g, cap, _, _, h, _⟩ := h
  exact ⟨g, cap, h⟩
theorem OwnM.cell {B : Nat} {w : World} {g cap : Nat} {l : List UInt8} (h : OwnM B w (.slice (some ⟨g, 0, none⟩) l.length cap) l) (j : Nat) (hj : j < l.length) : w.cell? ⟨g, j, none⟩ = some (.int .u8 (l[j].toNat : Int)) := by
  obtain ⟨g', cap', cs, fr, e, h1, h2, _, _, _, _, h3⟩ := h
  simp at e
  obtain ⟨rfl, rfl⟩ := e
  rw [cell_of_row w g j cs _ fr h2]
  exact h3 j hj
theorem OwnM.conv {B : Nat} {w : World} {v : Value} {l : List UInt8} (h : OwnM B w v l) : (convert 30 9 v).run Tryd.prog w = .ok (.string ⟨l.toArray⟩) w := by
  obtain ⟨g, cap, rfl⟩ := h.form
  exact run_convert_bytes_back w _ _ _ ⟨g, 0, none⟩ _ l Tryd.underlying30 Tryd.underlying5 Tryd.underlying9 (fun j hj => by rw [Addr.add_mid, Nat.zero_add]; exact h.cell j hj)
theorem set_row (g : Nat) (t : TypeId) (fr : Nat × Nat) : ∀ (vs : List Value) (o : Nat) (w : World) (cs : Array Value), w.heap[g]? = some (.cells cs t fr) → ∃ cs', cs'.size = cs.size ∧ (w.setCells g o vs).heap[g]? = some (.cells cs' t fr)
  | [], _, _, cs, h => ⟨cs, rfl, h⟩
  | u :: r, o, w, cs, h => by
    have h1 : (w.setCell ⟨g, o, none⟩ u).heap[g]? = some (.cells (cs.setIfInBounds o u) t fr) := by
      simp [World.setCell, Array.getElem?_modify, h]
    obtain ⟨cs', hz, h'⟩ := set_row g t fr r (o + 1) _ _ h1
    exact ⟨cs', by simpa using hz, h'⟩
theorem set_same (g : Nat) : ∀ (vs : List Value) (o : Nat) (w : World), (w.setCells g o vs).os = w.os ∧ (w.setCells g o vs).tape = w.tape ∧ (w.setCells g o vs).output = w.output
  | [], _, _ => ⟨rfl, rfl, rfl⟩
  | u :: r, o, w => set_same g r (o + 1) (w.setCell ⟨g, o, none⟩ u)
theorem byteCells_at (l : List UInt8) (j : Nat) : (Lib.byteCells l)[j]? = l[j]?.map fun b => Value.int .u8 (b.toNat : Int) := by
  simp [Lib.byteCells]
theorem byteCells_one (l : List UInt8) : ∀ v ∈ Lib.byteCells l, v.oneCell' = true := by
  intro v hv
  simp [Lib.byteCells] at hv
  obtain ⟨b, _, rfl⟩ := hv
  rfl
theorem ownM_room {B : Nat} {w : World} {g cap : Nat} {cs : Array Value} {fr : Nat × Nat} {l : List UInt8} (bs : List UInt8) (h1 : B ≤ g) (h2 : w.heap[g]? = some (.cells cs 5 fr)) (h3 : cs.size = cap) (h5 : cap ≤ maxLen) (h6 : ∀ i, i < cap → ¬ (fr.1 ≤ i ∧ i < fr.2))
    (h7 : ∀ j (h : j < l.length), cs[j]? = some (.int .u8 (l[j].toNat : Int))) (hroom : l.length + bs.length ≤ cap) :
    OwnM B (w.setCells g l.length (Lib.byteCells bs)) (.slice (some ⟨g, 0, none⟩) (l.length + bs.length) cap) (l ++ bs) ∧ w.grownBy (w.setCells g l.length (Lib.byteCells bs)) (some g) := by
  have hbl : (Lib.byteCells bs).length = bs.length := by simp [Lib.byteCells]
  obtain ⟨cs', hz, hr⟩ := set_row g 5 fr (Lib.byteCells bs) l.length w cs h2
  have hin := World.cell?_setCells_in g (Lib.byteCells bs) l.length w (fun j hj => by
    rw [cell_of_row w g _ cs _ fr h2, Array.getElem?_eq_getElem (by omega)]; rfl)
  have hout := World.cell?_setCells_out g (Lib.byteCells bs) l.length w
  refine ⟨⟨g, cap, cs', fr, by simp, h1, hr, by omega, by simpa using hroom, h5, h6, fun j hj => ?_⟩, ?_⟩
  · have e : cs'[j]? = (w.setCells g l.length (Lib.byteCells bs)).cell? ⟨g, j, none⟩ := (cell_of_row _ g j cs' _ fr hr).symm
    rw [e]
    by_cases hjl : j < l.length
    · rw [hout ⟨g, j, none⟩ (fun _ _ => Or.inl hjl), cell_of_row w g j cs _ fr h2, h7 j hjl, List.getElem_append_left hjl]
    · have hj2 : j < l.length + bs.length := by simpa using hj
      have := hin (j - l.length) (by omega)
      rw [show l.length + (j - l.length) = j by omega] at this
      rw [this, List.getElem_append_right (by omega)]
      have hb := byteCells_at bs (j - l.length)
      rw [List.getElem?_eq_getElem (by omega), List.getElem?_eq_getElem (by omega)] at hb
      simpa using hb
  · exact ⟨(set_same g _ _ _).1, (set_same g _ _ _).2.1, (set_same g _ _ _).2.2, by rw [size_setCells]; exact Nat.le_refl _, fun k _ hk => heap_setCells g _ _ _ k (fun e => hk (by rw [e]))⟩
theorem ownM_grow {B : Nat} {w : World} {cap n : Nat} {l : List UInt8} (bs : List UInt8) (z : Value) (hz : z.cells.size = 1) (hB : B ≤ w.heap.size) (hn : l.length + bs.length = n) (hc : n ≤ grownCap w n cap 5) (hc2 : grownCap w n cap 5 ≤ maxLen) :
    OwnM B (w.drew.alloc (.cells ((Lib.byteCells l).toArray ++ (Lib.byteCells bs).toArray ++ Builtin.zeroCells z.cells (grownCap w n cap 5 - n)) 5)) (.slice (some ⟨w.heap.size, 0, none⟩) n (grownCap w n cap 5)) (l ++ bs) := by
  have hl : (Lib.byteCells l).length = l.length := by simp [Lib.byteCells]
  have hbl : (Lib.byteCells bs).length = bs.length := by simp [Lib.byteCells]
  refine ⟨w.heap.size, _, _, (0, 0), by simp [hn], hB, heap_alloc_new w.drew _, ?_, by simpa [hn] using hc, hc2, fun i _ => by omega, fun j hj => ?_⟩
  · simp only [Array.size_append, List.size_toArray, size_zeroCells, hl, hbl, hz]
    omega
  · have hj2 : j < l.length + bs.length := by simpa using hj
    have e : Lib.byteCells l ++ Lib.byteCells bs = Lib.byteCells (l ++ bs) := by simp [Lib.byteCells]
    rw [Array.getElem?_append_left (by simp [hl, hbl]; omega)]
    rw [List.append_toArray, e, List.getElem?_toArray, byteCells_at, List.getElem?_eq_getElem hj]
    rfl
/-- append of bytes that lie in memory. -/
theorem run_appM {B : Nat} {w : World} {v : Value} {l : List UInt8} (h : OwnM B w v l) (bs : List UInt8) (a : Addr) (c : Nat) (hnew : ∀ j u, (Lib.byteCells bs)[j]? = some u → w.cell? (a.add j) = some u) (hB : B ≤ w.heap.size) (hlen : l.length + bs.length ≤ 1099511627776) :
    ∃ v' w', (Builtin.append_ #[30, 30] 30 #[v, .slice (some a) bs.length c]).run Tryd.prog w = .ok v' w' ∧ OwnM B w' v' (l ++ bs) ∧ w.grownBy w' v.ownBlock := by
  obtain ⟨i0, hi, hz0, hz1, hz2⟩ := info_parts u8info
  have hbl : (Lib.byteCells bs).length = bs.length := by simp [Lib.byteCells]
  have hll : (Lib.byteCells l).length = l.length := by simp [Lib.byteCells]
  have hO := h
  obtain ⟨g, cap, cs, fr, rfl, h1, h2, h3, h4, h5, h6, h7⟩ := h
  by_cases hroom : l.length + bs.length ≤ cap
  · have hf := run_firstCells_some (P := Tryd.prog) w i0.size bs.length a bs.length c (Lib.byteCells bs) (by rw [hz1, hbl]; omega) hnew
    have hst := run_storeCells_cells (P := Tryd.prog) g l.length (Lib.byteCells bs) 0 w (fun j hj => by rw [cell_of_row w g _ cs _ fr h2, Array.getElem?_eq_getElem (by omega)]; rfl) (fun j hj => by
      unfold World.frozen?
      rw [h2]
      have := h6 (l.length + 0 + j) (by omega)
      simp only [Bool.and_eq_false_iff, decide_eq_false_iff_not]
      omega) (byteCells_one bs)
    rw [hz1] at hf
    rw [Nat.add_zero] at hst
    obtain ⟨r1, r2⟩ := ownM_room bs h1 h2 h3 h5 h6 h7 hroom
    refine ⟨_, _, ?_, r1, r2⟩
    simp [Builtin.append_, run_underlying Tryd.underlying30, sizeOf, typeInfo, hi, Builtin.lenOf, hroom, hf, hz1, Addr.add_lit, hst]
  · have hr := run_append_grow (P := Tryd.prog) w 30 30 5 i0 _ Tryd.underlying30 hi hz0 ⟨g, 0, none⟩ l.length cap (Lib.byteCells l) (by rw [hz1, hll]; omega) (fun j u hj => by
        rw [Addr.add_mid, Nat.zero_add]
        rw [byteCells_at] at hj
        obtain ⟨b, hb, rfl⟩ := Option.map_eq_some_iff.1 hj
        obtain ⟨hjl, hb2⟩ := List.getElem?_eq_some_iff.1 hb
        rw [hO.cell j hjl, hb2]) a bs.length c (Lib.byteCells bs) (by rw [hz1, hbl]; omega) hnew (by omega) (by omega) (growslice_fits (by omega) (by rw [hz2]; omega))
    have hge := grownCap_ge w (l.length + bs.length) cap 5
    have hcm := grownCap_le_maxLen w (l.length + bs.length) cap 5 (by unfold maxLen; omega)
    exact ⟨_, _, hr, ownM_grow bs _ rfl hB rfl hge hcm, ⟨rfl, rfl, rfl, by simp, fun k hk _ => Below.heap_alloc w.drew _ k hk⟩⟩
/-- append of a string. -/
theorem run_appMS {B : Nat} {w : World} {v : Value} {l : List UInt8} (h : OwnM B w v l) (s : ByteArray) (hB : B ≤ w.heap.size) (hlen : l.length + s.size ≤ 1099511627776) :
    ∃ v' w', (Builtin.append_ #[30, 9] 30 #[v, .string s]).run Tryd.prog w = .ok v' w' ∧ OwnM B w' v' (l ++ s.data.toList) ∧ w.grownBy w' v.ownBlock := by
  obtain ⟨i0, hi, hz0, hz1, hz2⟩ := info_parts u8info
  have es : Lib.strCells s = Lib.byteCells s.data.toList := by simp [Lib.strCells, Lib.byteCells]
  have hsl : s.data.toList.length = s.size := Array.length_toList
  have hll : (Lib.byteCells l).length = l.length := by simp [Lib.byteCells]
  have hbl : (Lib.byteCells s.data.toList).length = s.size := by simp [Lib.byteCells]
  have hO := h
  obtain ⟨g, cap, cs, fr, rfl, h1, h2, h3, h4, h5, h6, h7⟩ := h
  by_cases hroom : l.length + s.size ≤ cap
  · have hf := Lib.run_firstCells_string (P := Tryd.prog) w i0.size s
    have hst := run_storeCells_cells (P := Tryd.prog) g l.length (Lib.strCells s) 0 w (fun j hj => by rw [es] at hj; rw [cell_of_row w g _ cs _ fr h2, Array.getElem?_eq_getElem (by omega)]; rfl) (fun j hj => by
      rw [es] at hj
      unfold World.frozen?
      rw [h2]
      have := h6 (l.length + 0 + j) (by omega)
      simp only [Bool.and_eq_false_iff, decide_eq_false_iff_not]
      omega) (by rw [es]; exact byteCells_one _)
    rw [hz1] at hf
    rw [Nat.add_zero] at hst
    obtain ⟨r1, r2⟩ := ownM_room s.data.toList h1 h2 h3 h5 h6 h7 (by omega)
    rw [hsl] at r1
    rw [← es] at r1 r2
    refine ⟨_, _, ?_, r1, r2⟩
    simp [Builtin.append_, run_underlying Tryd.underlying30, run_underlying Tryd.underlying9, sizeOf, typeInfo, hi, Builtin.lenOf, hroom, hf, hz1, Addr.add_lit, hst]
  · have hr := Lib.run_append_grow_string (P := Tryd.prog) w 30 9 30 5 i0 _ Tryd.underlying30 Tryd.underlying9 hi hz0 ⟨g, 0, none⟩ l.length cap (Lib.byteCells l) (by rw [hz1, hll]; omega) (fun j u hj => by
        rw [Addr.add_mid, Nat.zero_add]
        rw [byteCells_at] at hj
        obtain ⟨b, hb, rfl⟩ := Option.map_eq_some_iff.1 hj
        obtain ⟨hjl, hb2⟩ := List.getElem?_eq_some_iff.1 hb
        rw [hO.cell j hjl, hb2]) s (by omega) (by omega) (growslice_fits (by omega) (by rw [hz2]; omega))
    rw [es] at hr
    have hge := grownCap_ge w (l.length + s.size) cap 5
    have hcm := grownCap_le_maxLen w (l.length + s.size) cap 5 (by unfold maxLen; omega)
    exact ⟨_, _, hr, ownM_grow s.data.toList _ rfl hB (by rw [hsl]) hge hcm, ⟨rfl, rfl, rfl, by simp, fun k hk _ => Below.heap_alloc w.drew _ k hk⟩⟩
/-- '[]byte(s)'. -/
theorem ownM_start (w : World) (s : ByteArray) (B : Nat) (hB : B ≤ w.heap.size) (hs : s.size ≤ 1099511627776) : OwnM B (Lib.bytesWorld w 5 s) (.slice (some ⟨w.heap.size, 0, none⟩) s.size (grownCap w s.size 0 5)) s.data.toList ∧ Below w.heap.size w (Lib.bytesWorld w 5 s) := by
  have hge := grownCap_ge w s.size 0 5
  have hsz : (Lib.bytesCells w 5 s).size = grownCap w s.size 0 5 := by
    unfold Lib.bytesCells
    simp only [Array.size_append, Array.size_map, Array.size_replicate]
    show s.size + (grownCap w s.size 0 5 - s.size) = _
    omega
  have hsl : s.data.toList.length = s.size := Array.length_toList
  refine ⟨⟨w.heap.size, _, _, _, by rw [hsl], hB, Lib.bytesWorld_at_new w _ s, hsz, by rw [hsl]; exact hge, grownCap_le_maxLen w _ _ _ (by unfold maxLen; omega), fun i hi => ?_, fun j hj => ?_⟩, ⟨rfl, rfl, rfl, by rw [Lib.bytesWorld_size]; omega, fun k hk => Lib.bytesWorld_at_old w _ s k hk⟩⟩
  · simp only
    omega
  · have hj2 : j < s.size := by omega
    unfold Lib.bytesCells
    rw [Array.getElem?_append_left (by simpa using hj2)]
    simp [hj2]
end Go.Proofs.YtmfagkhmienbiaaDoor
