/- THE WALK of the reference's block: one block taken in. -/
import Derived.Test.YtebjfmchpmbihaaHex
namespace Go.Proofs.Ytebjfmchpmbihaa
open Go.RowKit

/-- What holds while the words are laid: the state's box, the result's, the words so far. -/
def BlkAt (st : St) (l : List UInt8) (w wr : World) (k : Nat) : Prop :=
  Below w.heap.size w wr ∧ Rw wr w.heap.size 36 st.cells ∧ (∃ cs : Array Value, cs.size = 5 ∧ Rw wr (w.heap.size + 1) 36 cs) ∧ Rw wr (w.heap.size + 2) 46 (wa l k)
theorem BlkAt.drew {st : St} {l : List UInt8} {w wr : World} {k : Nat} (h : BlkAt st l w wr k) : BlkAt st l w wr.drew k := ⟨h.1.drew, h.2.1, h.2.2.1, h.2.2.2⟩
theorem blk_start (st : St) (l : List UInt8) (w : World) (z : Array Value) (hz : z.size = 5) :
    BlkAt st l w (((w.alloc (.cells st.cells 36)).alloc (.cells z 36)).alloc (.cells (wa [] 0) 46)) 0 := by
  refine ⟨(((Below.refl _ _).alloc (Nat.le_refl _) _).alloc (by simp) _).alloc (by simp; omega) _, ((Rw.fresh w _ _).alloc _).alloc _, ⟨z, hz, ?_⟩, ?_⟩
  · have := (Rw.fresh (w.alloc (.cells st.cells 36)) 36 z).alloc (.cells (wa [] 0) 46)
    rw [World.size_alloc] at this
    exact this
  · have := Rw.fresh ((w.alloc (.cells st.cells 36)).alloc (.cells z 36)) 46 (wa [] 0)
    rw [World.size_alloc, World.size_alloc] at this
    exact this
theorem blk_step {st : St} {l : List UInt8} {w wr : World} {k : Nat} (h : BlkAt st l w wr k) (hk : k < 80) (v : Int) (hv : v = wnext l k (wl l k)) :
    BlkAt st l w (wr.setCell ⟨w.heap.size + 2, k, none⟩ (.int .u32 v)) (k + 1) := by
  obtain ⟨h1, h2, ⟨cs, hz, h3⟩, h4⟩ := h
  refine ⟨h1.setCell (by simp) _, h2.other (by simp) _, ⟨cs, hz, h3.other (by simp) _⟩, ?_⟩
  rw [← wa_set l k hk, ← hv]
  exact h4.put k _
theorem BlkAt.room {st : St} {l : List UInt8} {w wr : World} {k : Nat} (h : BlkAt st l w wr k) (hk : k < 80) : ∃ u, wr.cell? ⟨w.heap.size + 2, k, none⟩ = some u := by
  rw [h.2.2.2.at k]
  exact ⟨_, Array.getElem?_eq_getElem (by rw [wa_size l k (by omega)]; exact hk)⟩
theorem BlkAt.got {st : St} {l : List UInt8} {w wr : World} {k j : Nat} (h : BlkAt st l w wr k) (hk : j < k) : wr.cell? ⟨w.heap.size + 2, j, none⟩ = some (.int .u32 ((wl l k).getD j 0)) := by
  rw [h.2.2.2.at j, wa_get l k j hk]
/-- The bytes of a slice. -/
def BytesAt (w : World) (g o : Nat) (l : List UInt8) : Prop := ∀ j, j < l.length → w.cell? ⟨g, o + j, none⟩ = some (.int .u8 (bt l j))
theorem BytesAt.below {w wr : World} {g o : Nat} {l : List UInt8} (h : BytesAt w g o l) (hb : Below w.heap.size w wr) : BytesAt wr g o l := fun j hj => by
  have := h j hj
  rw [hb.cell (p := ⟨g, o + j, none⟩) (block_lt_of_cell this)]
  exact this

/-- What holds in the eighty rounds: besides, block g is v. -/
def VAt (st r : St) (l : List UInt8) (w wr : World) (g : Nat) : Prop := BlkAt st l w wr 80 ∧ Rw wr g 36 r.cells ∧ w.heap.size + 3 ≤ g
theorem VAt.drew {st r : St} {l : List UInt8} {w wr : World} {g : Nat} (h : VAt st r l w wr g) : VAt st r l w wr.drew g := ⟨h.1.drew, h.2.1, h.2.2⟩
theorem v_start {st : St} {l : List UInt8} {w wr : World} (h : BlkAt st l w wr 80) : VAt st st l w (wr.alloc (.cells st.cells 36)) wr.heap.size := by
  obtain ⟨h1, h2, ⟨cs, hz, h3⟩, h4⟩ := h
  have := h4.size
  exact ⟨⟨h1.alloc h1.size _, h2.alloc _, ⟨cs, hz, h3.alloc _⟩, h4.alloc _⟩, Rw.fresh wr _ _, by omega⟩
theorem VAt.put {st r r' : St} {l : List UInt8} {w wr w' : World} {g : Nat} (h : VAt st r l w wr g) (hr : Rw w' g 36 r'.cells) (hk : ∀ k, k ≠ g → w'.heap[k]? = wr.heap[k]?) (hb : ∀ B c, B ≤ g → Below B c wr → Below B c w') : VAt st r' l w w' g := by
  obtain ⟨⟨h1, h2, ⟨cs, hz, h3⟩, h4⟩, _, h6⟩ := h
  exact ⟨⟨hb _ _ (by omega) h1, (hk _ (by omega)).trans h2, ⟨cs, hz, (hk _ (by omega)).trans h3⟩, (hk _ (by omega)).trans h4⟩, hr, h6⟩
theorem rnd_cells (ws : List Int) (k : Nat) (r : St) (x : Int) (hx : x = nxt (fF k r.b r.c r.d) (fK k) (ws.getD k 0) r) :
    (rnd ws k r).cells = #[.int .u32 x, .int .u32 r.a, .int .u32 (rot30 r.b), .int .u32 r.c, .int .u32 r.d] := by rw [hx]; rfl

theorem fF_1 {k : Nat} (b c d : Int) (h : k < 20) : fF k b c d = bits .or .u32 (bits .and .u32 b c) (bits .and .u32 (bits .xor .u32 IntKind.u32.max b) d) ∧ fK k = 1518500249 := by
  unfold fF fK; rw [if_pos h, if_pos h]; exact ⟨rfl, rfl⟩
theorem fF_2 {k : Nat} (b c d : Int) (h : 20 ≤ k) (h2 : k < 40) : fF k b c d = bits .xor .u32 (bits .xor .u32 b c) d ∧ fK k = 1859775393 := by
  unfold fF fK; rw [if_neg (by omega), if_pos h2, if_neg (by omega), if_pos h2]; exact ⟨rfl, rfl⟩
theorem fF_3 {k : Nat} (b c d : Int) (h : 40 ≤ k) (h2 : k < 60) : fF k b c d = bits .or .u32 (bits .or .u32 (bits .and .u32 b c) (bits .and .u32 b d)) (bits .and .u32 c d) ∧ fK k = 2400959708 := by
  unfold fF fK; rw [if_neg (by omega), if_neg (by omega), if_pos h2, if_neg (by omega), if_neg (by omega), if_pos h2]; exact ⟨rfl, rfl⟩
theorem fF_4 {k : Nat} (b c d : Int) (h : 60 ≤ k) : fF k b c d = bits .xor .u32 (bits .xor .u32 b c) d ∧ fK k = 3395469782 := by
  unfold fF fK; rw [if_neg (by omega), if_neg (by omega), if_neg (by omega), if_neg (by omega), if_neg (by omega), if_neg (by omega)]; exact ⟨rfl, rfl⟩
theorem rnd_put {st r : St} {l : List UInt8} {w wq w5 : World} {g k : Nat} {F K : Int} (h : VAt st r l w wq g) (hr : r = rnds (wl l 80) k st) (hF : fF k r.b r.c r.d = F ∧ fK k = K)
    (hw : Rw w5 g 36 #[.int .u32 (IntKind.u32.wrap (IntKind.u32.wrap (IntKind.u32.wrap (IntKind.u32.wrap (rot5 r.a + F) + r.e) + K) + (wl l 80)[k]?.getD 0)), .int .u32 r.a, .int .u32 (rot30 r.b), .int .u32 r.c, .int .u32 r.d])
    (hk : ∀ k, k ≠ g → w5.heap[k]? = wq.heap[k]?) (hb : ∀ B c, B ≤ g → Below B c wq → Below B c w5) : VAt st (rnds (wl l 80) (k + 1) st) l w w5 g := by
  refine h.put ?_ hk hb
  rw [show rnds (wl l 80) (k + 1) st = rnd (wl l 80) k r by rw [hr]; rfl]
  rw [rnd_cells (wl l 80) k r _ rfl, hF.1, hF.2]
  simp only [wrap_u32] at hw
  rw [nxt, List.getD_eq_getElem?_getD]
  exact hw

/-- The state's box while the two are added up, k of the five done. -/
def AddAt (st r : St) (w wr : World) (g k : Nat) : Prop :=
  Below w.heap.size w wr ∧ (∃ cs : Array Value, cs.size = 5 ∧ Rw wr w.heap.size 36 cs ∧ ∀ j, j < 5 → cs[j]? = some (.int .u32 (if j < k then (st.nth j + r.nth j) % 4294967296 else st.nth j))) ∧
    (∃ cs : Array Value, cs.size = 5 ∧ Rw wr (w.heap.size + 1) 36 cs) ∧ Rw wr g 36 r.cells ∧ w.heap.size + 3 ≤ g
theorem cells_nth (r : St) (j : Nat) (hj : j < 5) : r.cells[j]? = some (.int .u32 (r.nth j)) := by
  have h : j = 0 ∨ j = 1 ∨ j = 2 ∨ j = 3 ∨ j = 4 := by omega
  rcases h with rfl | rfl | rfl | rfl | rfl <;> rfl
theorem add_start {st r : St} {l : List UInt8} {w wr : World} {g : Nat} (h : VAt st r l w wr g) : AddAt st r w wr g 0 := by
  obtain ⟨⟨h1, h2, h3, h4⟩, h5, h6⟩ := h
  exact ⟨h1, ⟨st.cells, rfl, h2, fun j hj => by rw [if_neg (by omega)]; exact cells_nth st j hj⟩, h3, h5, h6⟩
theorem AddAt.drew {st r : St} {w wr : World} {g k : Nat} (h : AddAt st r w wr g k) : AddAt st r w wr.drew g k := ⟨h.1.drew, h.2.1, h.2.2.1, h.2.2.2⟩
theorem AddAt.cells {st r : St} {w wr : World} {g k : Nat} (h : AddAt st r w wr g k) (hk : k < 5) :
    wr.cell? ⟨w.heap.size, k, none⟩ = some (.int .u32 (st.nth k)) ∧ wr.cell? ⟨g, k, none⟩ = some (.int .u32 (r.nth k)) ∧ wr.frozen? ⟨w.heap.size, k, none⟩ = false := by
  obtain ⟨h1, ⟨cs, hz, h2, hc⟩, h3, h5, h6⟩ := h
  refine ⟨?_, ?_, h2.free k⟩
  · rw [h2.at k, hc k hk, if_neg (by omega)]
  · rw [h5.at k]; exact cells_nth r k hk
theorem add_step {st r : St} {w wr : World} {g k : Nat} (h : AddAt st r w wr g k) (hk : k < 5) (v : Int) (hv : v = (st.nth k + r.nth k) % 4294967296) :
    AddAt st r w (wr.setCell ⟨w.heap.size, k, none⟩ (.int .u32 v)) g (k + 1) := by
  obtain ⟨h1, ⟨cs, hz, h2, hc⟩, ⟨cs', hz', h3⟩, h5, h6⟩ := h
  refine ⟨h1.setCell (Nat.le_refl _) _, ⟨cs.setIfInBounds k (.int .u32 v), by simpa using hz, h2.put k _, fun j hj => ?_⟩, ⟨cs', hz', h3.other (by simp) _⟩, h5.other (by simp; omega) _, h6⟩
  rw [Array.getElem?_setIfInBounds]
  by_cases e : k = j
  · subst e
    rw [if_pos rfl, if_pos (by omega), if_pos (by omega), hv]
  · rw [if_neg e, hc j hj]
    by_cases h : j < k
    · rw [if_pos h, if_pos (by omega)]
    · rw [if_neg h, if_neg (by omega)]
theorem add_end {st r : St} {l : List UInt8} {w wr : World} {g : Nat} (h : AddAt st r w wr g 5) (hr : r = rnds (wl l 80) 80 st) : Rw wr w.heap.size 36 (mixS st l).cells := by
  obtain ⟨h1, ⟨cs, hz, h2, hc⟩, _⟩ := h
  have e : cs = (mixS st l).cells := by
    apply Array.ext (by rw [hz]; rfl)
    intro i hi1 hi2
    have a := hc i (by omega)
    rw [if_pos (by omega), Array.getElem?_eq_getElem hi1] at a
    have b := cells_nth (mixS st l) i (by omega)
    rw [Array.getElem?_eq_getElem hi2] at b
    have e2 : (mixS st l).nth i = (st.nth i + r.nth i) % 4294967296 := by
      have h : i = 0 ∨ i = 1 ∨ i = 2 ∨ i = 3 ∨ i = 4 := by omega
      have hm : mixS st l = ⟨(st.a + r.a) % 4294967296, (st.b + r.b) % 4294967296, (st.c + r.c) % 4294967296, (st.d + r.d) % 4294967296, (st.e + r.e) % 4294967296⟩ := by rw [hr]; rfl
      rw [hm]
      clear hm hr
      rcases h with rfl | rfl | rfl | rfl | rfl <;> rfl
    rw [e2] at b
    exact Option.some.inj (a.trans b.symm)
  rw [e] at h2
  exact h2

set_option maxRecDepth 100000 in
set_option maxHeartbeats 4000000 in
theorem blk_any (st : St) (l : List UInt8) (hl : l.length = 64) (g o c : Nat) (w : World) (hcb : BytesAt w g o l) :
    Calls Try.prog 18 #[st.val, .slice (some ⟨g, o, none⟩) 64 c] w fun e w' => e = .returned (mixS st l).val ∧ Below w.heap.size w w' := by
  have hz := zero80
  have HL := Lib.hid hl
  clear hl
  unfold St.val
  go_enter Try.func18, Try.ntmps18
  go_wp2
  go_loopw [14] (fun i wr => ∃ k : Nat, k ≤ 16 ∧ i = .int .i64 k ∧ BlkAt st l w wr k) (fun i _ => 16 - (intOf i).toNat)
  case atStart => exact ⟨0, Nat.zero_le _, rfl, blk_start st l w _ rfl⟩
  case round =>
    obtain ⟨k, hk, rfl, hat⟩ := hrel
    by_cases hlt : k < 16
    · have hcr := hcb.below hat.1
      have b0 := hcr (4 * k) (by rw [HL.out]; omega)
      have b1 := hcr (4 * k + 1) (by rw [HL.out]; omega)
      have b2 := hcr (4 * k + 2) (by rw [HL.out]; omega)
      have b3 := hcr (4 * k + 3) (by rw [HL.out]; omega)
      go_wp2
      have q0 : IntKind.i64.wrap (4 * (k : Int)) = 4 * (k : Int) := IntWalk.i64_in _ (by omega)
      have q1 : IntKind.i64.wrap (4 * (k : Int) + 1) = 4 * (k : Int) + 1 := IntWalk.i64_in _ (by omega)
      have q2 : IntKind.i64.wrap (4 * (k : Int) + 2) = 4 * (k : Int) + 2 := IntWalk.i64_in _ (by omega)
      have q3 : IntKind.i64.wrap (4 * (k : Int) + 3) = 4 * (k : Int) + 3 := IntWalk.i64_in _ (by omega)
      have n0 : (4 * (k : Int)).toNat = 4 * k := by omega
      have n1 : (4 * (k : Int) + 1).toNat = 4 * k + 1 := by omega
      have n2 : (4 * (k : Int) + 2).toNat = 4 * k + 2 := by omega
      have n3 : (4 * (k : Int) + 3).toNat = 4 * k + 3 := by omega
      have l0 : (0 : Int) ≤ 4 * (k : Int) := by omega
      have l1 : (0 : Int) ≤ 4 * (k : Int) + 1 := by omega
      have l2 : (0 : Int) ≤ 4 * (k : Int) + 2 := by omega
      have l3 : (0 : Int) ≤ 4 * (k : Int) + 3 := by omega
      have g0 : (4 * (k : Int)) < 64 := by omega
      have g1 : (4 * (k : Int) + 1) < 64 := by omega
      have g2 : (4 * (k : Int) + 2) < 64 := by omega
      have g3 : (4 * (k : Int) + 3) < 64 := by omega
      have g4 : (k : Int) < 80 := by omega
      obtain ⟨u, hu⟩ := hat.room (by omega)
      have hf := hat.2.2.2.free k
      go_still_tail 35, (by kernel_rfl)
      change wpList _ _ _ _ _ wr.drew
      clear q0 q1 q2 q3
      go_wp2
      go_roundw
      case rel =>
        refine ⟨k + 1, by omega, by go_num, (blk_step hat (by omega) _ ?_).drew⟩
        rw [word_wrap]
        simp [wnext, hlt]
      case measure => simp [intOf]; omega
    · have hge : 16 ≤ k := by omega
      have hd : decide ((k : Int) < 16) = false := by simpa using (by omega : (16 : Int) ≤ k)
      go_wp2
      go_loopw [7] (fun i wr => ∃ k : Nat, 16 ≤ k ∧ k ≤ 80 ∧ i = .int .i64 k ∧ BlkAt st l w wr k) (fun i _ => 80 - (intOf i).toNat)
      case atStart => obtain rfl : k = 16 := by omega
                      exact ⟨16, Nat.le_refl _, by omega, rfl, hat⟩
      case round =>
        clear hat hlt hk hge hd
        obtain ⟨k, hk1, hk, rfl, hat⟩ := hrel
        by_cases hlt : k < 80
        · go_wp2
          have q0 : IntKind.i64.wrap ((k : Int) - 3) = (k : Int) - 3 := IntWalk.i64_in _ (by omega)
          have q1 : IntKind.i64.wrap ((k : Int) - 8) = (k : Int) - 8 := IntWalk.i64_in _ (by omega)
          have q2 : IntKind.i64.wrap ((k : Int) - 14) = (k : Int) - 14 := IntWalk.i64_in _ (by omega)
          have q3 : IntKind.i64.wrap ((k : Int) - 16) = (k : Int) - 16 := IntWalk.i64_in _ (by omega)
          have n0 : ((k : Int) - 3).toNat = k - 3 := by omega
          have n1 : ((k : Int) - 8).toNat = k - 8 := by omega
          have n2 : ((k : Int) - 14).toNat = k - 14 := by omega
          have n3 : ((k : Int) - 16).toNat = k - 16 := by omega
          have l0 : (0 : Int) ≤ (k : Int) - 3 := by omega
          have l1 : (0 : Int) ≤ (k : Int) - 8 := by omega
          have l2 : (0 : Int) ≤ (k : Int) - 14 := by omega
          have l3 : (0 : Int) ≤ (k : Int) - 16 := by omega
          have g0 : (k : Int) - 3 < 80 := by omega
          have g1 : (k : Int) - 8 < 80 := by omega
          have g2 : (k : Int) - 14 < 80 := by omega
          have g3 : (k : Int) - 16 < 80 := by omega
          have m0 : (3 : Int) ≤ (k : Int) := by omega
          have m1 : (8 : Int) ≤ (k : Int) := by omega
          have m2 : (14 : Int) ≤ (k : Int) := by omega
          have m3 : (16 : Int) ≤ (k : Int) := by omega
          have g4 : (k : Int) < 80 := by omega
          obtain ⟨u, hu⟩ := hat.room (by omega)
          have c0 := hat.got (j := k - 3) (by omega)
          have c1 := hat.got (j := k - 8) (by omega)
          have c2 := hat.got (j := k - 14) (by omega)
          have c3 := hat.got (j := k - 16) (by omega)
          have hf := hat.2.2.2.free k
          refine wp_region_still_tail 22 (by kernel_rfl) (by kernel_rfl) ?_
          simp only [List.take_succ_cons, List.take_zero, List.drop_succ_cons, List.drop_zero]
          repeat still_step
          still_call ((turn1 _ _).mono fun _ _ h => ⟨h.1, h.2.symm⟩)
          repeat still_step
          refine wpStill_nil ?_
          change wpList _ _ _ _ _ wr.drew
          clear q0 q1 q2 q3
          go_wp2
          go_roundw
          case rel =>
            refine ⟨k + 1, by omega, by omega, by go_num, (blk_step hat (by omega) _ ?_).drew⟩
            simp [wnext, xor4, Nat.not_lt.2 hk1]
          case measure => simp [intOf]; omega
        · have hge : 80 ≤ k := by omega
          have hd : decide ((k : Int) < 80) = false := by simpa using (by omega : (80 : Int) ≤ k)
          have hat80 : BlkAt st l w wr 80 := by
            obtain rfl : k = 80 := by omega
            exact hat
          clear hat
          have c0 : wr.cell? ⟨w.heap.size, 0, none⟩ = some (.int .u32 st.a) := hat80.2.1.at 0
          have c1 : wr.cell? ⟨w.heap.size, 1, none⟩ = some (.int .u32 st.b) := hat80.2.1.at 1
          have c2 : wr.cell? ⟨w.heap.size, 2, none⟩ = some (.int .u32 st.c) := hat80.2.1.at 2
          have c3 : wr.cell? ⟨w.heap.size, 3, none⟩ = some (.int .u32 st.d) := hat80.2.1.at 3
          have c4 : wr.cell? ⟨w.heap.size, 4, none⟩ = some (.int .u32 st.e) := hat80.2.1.at 4
          have hv := v_start hat80
          go_wp2
          clear c0 c1 c2 c3 c4 hat80 hd
          change Code.wp _ _ _ _ (wr.alloc (.cells st.cells 36))
          generalize wr.heap.size = gv at hv ⊢
          generalize wr.alloc (.cells st.cells 36) = w4 at hv ⊢
          go_loopw [80] (fun i wr => ∃ k : Nat, k ≤ 80 ∧ i = .int .i64 k ∧ VAt st (rnds (wl l 80) k st) l w wr gv) (fun i _ => 80 - (intOf i).toNat)
          case atStart => exact ⟨0, by omega, rfl, hv⟩
          case round =>
            clear hv hge hlt hk hk1
            obtain ⟨k, hk, rfl, hat⟩ := hrel
            obtain ⟨r, hr⟩ : ∃ r, r = rnds (wl l 80) k st := ⟨_, rfl⟩
            rw [← hr] at hat
            have HR := Lib.hid hr
            clear hr
            have v0 : wr.cell? ⟨gv, 0, none⟩ = some (.int .u32 r.a) := hat.2.1.at 0
            have v1 : wr.cell? ⟨gv, 1, none⟩ = some (.int .u32 r.b) := hat.2.1.at 1
            have v2 : wr.cell? ⟨gv, 2, none⟩ = some (.int .u32 r.c) := hat.2.1.at 2
            have v3 : wr.cell? ⟨gv, 3, none⟩ = some (.int .u32 r.d) := hat.2.1.at 3
            have v4 : wr.cell? ⟨gv, 4, none⟩ = some (.int .u32 r.e) := hat.2.1.at 4
            by_cases hlt : k < 80
            · have cw := hat.1.got hlt
              rcases (show (k < 20) ∨ (20 ≤ k ∧ k < 40) ∨ (40 ≤ k ∧ k < 60) ∨ (60 ≤ k) by omega) with hc | ⟨hc, hc2⟩ | ⟨hc, hc2⟩ | hc
              · go_wp2
                have g4 : (k : Int) < 80 := by omega
                refine wp_region_still_lit (by kernel_rfl) (by kernel_rfl) ?_
                repeat still_step
                still_call ((turn5 _ _).mono fun _ _ h => ⟨h.1, h.2.symm⟩)
                repeat still_step
                refine wpStill_nil ?_
                go_wp2
                change Code.wp _ _ _ _ wr.drew
                have hatd := hat.drew
                clear v0 v1 v2 v3 v4 cw hat
                generalize wr.drew = wq at hatd ⊢
                have v0 : wq.cell? ⟨gv, 0, none⟩ = some (.int .u32 r.a) := hatd.2.1.at 0
                have v1 : wq.cell? ⟨gv, 1, none⟩ = some (.int .u32 r.b) := hatd.2.1.at 1
                have v2 : wq.cell? ⟨gv, 2, none⟩ = some (.int .u32 r.c) := hatd.2.1.at 2
                have v3 : wq.cell? ⟨gv, 3, none⟩ = some (.int .u32 r.d) := hatd.2.1.at 3
                refine wp_region_still_tail 11 (by kernel_rfl) (by kernel_rfl) ?_
                simp only [List.take_succ_cons, List.take_zero, List.drop_succ_cons, List.drop_zero]
                repeat still_step
                still_call ((turn30 _ _).mono fun _ _ h => ⟨h.1, h.2.symm⟩)
                repeat still_step
                refine wpStill_nil ?_
                change wpList _ _ _ _ _ wq.drew
                go_wp2_with (refine wpList_store_whole rfl 36 (.tmp 8) (.tmp 161) rfl rfl gv _ rfl rfl hatd.drew.2.1 ?hz ?hi ?ho ?_; rotate_right; intro w5 hw5 hk5 _ hb5)
                · go_roundw
                  case rel => exact ⟨k + 1, by omega, by go_num, rnd_put hatd.drew HR.out (fF_1 _ _ _ hc) hw5 hk5 hb5⟩
                  case measure => simp [intOf]; omega
                case hz => rfl
                case hi => kernel_rfl
                case ho => exact five_one _ _ _ _ _
              · go_wp2
                have g4 : (k : Int) < 80 := by omega
                refine wp_region_still_lit (by kernel_rfl) (by kernel_rfl) ?_
                repeat still_step
                still_call ((turn5 _ _).mono fun _ _ h => ⟨h.1, h.2.symm⟩)
                repeat still_step
                refine wpStill_nil ?_
                go_wp2
                change Code.wp _ _ _ _ wr.drew
                have hatd := hat.drew
                clear v0 v1 v2 v3 v4 cw hat
                generalize wr.drew = wq at hatd ⊢
                have v0 : wq.cell? ⟨gv, 0, none⟩ = some (.int .u32 r.a) := hatd.2.1.at 0
                have v1 : wq.cell? ⟨gv, 1, none⟩ = some (.int .u32 r.b) := hatd.2.1.at 1
                have v2 : wq.cell? ⟨gv, 2, none⟩ = some (.int .u32 r.c) := hatd.2.1.at 2
                have v3 : wq.cell? ⟨gv, 3, none⟩ = some (.int .u32 r.d) := hatd.2.1.at 3
                refine wp_region_still_tail 11 (by kernel_rfl) (by kernel_rfl) ?_
                simp only [List.take_succ_cons, List.take_zero, List.drop_succ_cons, List.drop_zero]
                repeat still_step
                still_call ((turn30 _ _).mono fun _ _ h => ⟨h.1, h.2.symm⟩)
                repeat still_step
                refine wpStill_nil ?_
                change wpList _ _ _ _ _ wq.drew
                go_wp2_with (refine wpList_store_whole rfl 36 (.tmp 8) (.tmp 161) rfl rfl gv _ rfl rfl hatd.drew.2.1 ?hz ?hi ?ho ?_; rotate_right; intro w5 hw5 hk5 _ hb5)
                · go_roundw
                  case rel => exact ⟨k + 1, by omega, by go_num, rnd_put hatd.drew HR.out (fF_2 _ _ _ hc hc2) hw5 hk5 hb5⟩
                  case measure => simp [intOf]; omega
                case hz => rfl
                case hi => kernel_rfl
                case ho => exact five_one _ _ _ _ _
              · go_wp2
                have g4 : (k : Int) < 80 := by omega
                refine wp_region_still_lit (by kernel_rfl) (by kernel_rfl) ?_
                repeat still_step
                still_call ((turn5 _ _).mono fun _ _ h => ⟨h.1, h.2.symm⟩)
                repeat still_step
                refine wpStill_nil ?_
                go_wp2
                change Code.wp _ _ _ _ wr.drew
                have hatd := hat.drew
                clear v0 v1 v2 v3 v4 cw hat
                generalize wr.drew = wq at hatd ⊢
                have v0 : wq.cell? ⟨gv, 0, none⟩ = some (.int .u32 r.a) := hatd.2.1.at 0
                have v1 : wq.cell? ⟨gv, 1, none⟩ = some (.int .u32 r.b) := hatd.2.1.at 1
                have v2 : wq.cell? ⟨gv, 2, none⟩ = some (.int .u32 r.c) := hatd.2.1.at 2
                have v3 : wq.cell? ⟨gv, 3, none⟩ = some (.int .u32 r.d) := hatd.2.1.at 3
                refine wp_region_still_tail 11 (by kernel_rfl) (by kernel_rfl) ?_
                simp only [List.take_succ_cons, List.take_zero, List.drop_succ_cons, List.drop_zero]
                repeat still_step
                still_call ((turn30 _ _).mono fun _ _ h => ⟨h.1, h.2.symm⟩)
                repeat still_step
                refine wpStill_nil ?_
                change wpList _ _ _ _ _ wq.drew
                go_wp2_with (refine wpList_store_whole rfl 36 (.tmp 8) (.tmp 161) rfl rfl gv _ rfl rfl hatd.drew.2.1 ?hz ?hi ?ho ?_; rotate_right; intro w5 hw5 hk5 _ hb5)
                · go_roundw
                  case rel => exact ⟨k + 1, by omega, by go_num, rnd_put hatd.drew HR.out (fF_3 _ _ _ hc hc2) hw5 hk5 hb5⟩
                  case measure => simp [intOf]; omega
                case hz => rfl
                case hi => kernel_rfl
                case ho => exact five_one _ _ _ _ _
              · go_wp2
                have g4 : (k : Int) < 80 := by omega
                refine wp_region_still_lit (by kernel_rfl) (by kernel_rfl) ?_
                repeat still_step
                still_call ((turn5 _ _).mono fun _ _ h => ⟨h.1, h.2.symm⟩)
                repeat still_step
                refine wpStill_nil ?_
                go_wp2
                change Code.wp _ _ _ _ wr.drew
                have hatd := hat.drew
                clear v0 v1 v2 v3 v4 cw hat
                generalize wr.drew = wq at hatd ⊢
                have v0 : wq.cell? ⟨gv, 0, none⟩ = some (.int .u32 r.a) := hatd.2.1.at 0
                have v1 : wq.cell? ⟨gv, 1, none⟩ = some (.int .u32 r.b) := hatd.2.1.at 1
                have v2 : wq.cell? ⟨gv, 2, none⟩ = some (.int .u32 r.c) := hatd.2.1.at 2
                have v3 : wq.cell? ⟨gv, 3, none⟩ = some (.int .u32 r.d) := hatd.2.1.at 3
                refine wp_region_still_tail 11 (by kernel_rfl) (by kernel_rfl) ?_
                simp only [List.take_succ_cons, List.take_zero, List.drop_succ_cons, List.drop_zero]
                repeat still_step
                still_call ((turn30 _ _).mono fun _ _ h => ⟨h.1, h.2.symm⟩)
                repeat still_step
                refine wpStill_nil ?_
                change wpList _ _ _ _ _ wq.drew
                go_wp2_with (refine wpList_store_whole rfl 36 (.tmp 8) (.tmp 161) rfl rfl gv _ rfl rfl hatd.drew.2.1 ?hz ?hi ?ho ?_; rotate_right; intro w5 hw5 hk5 _ hb5)
                · go_roundw
                  case rel => exact ⟨k + 1, by omega, by go_num, rnd_put hatd.drew HR.out (fF_4 _ _ _ hc) hw5 hk5 hb5⟩
                  case measure => simp [intOf]; omega
                case hz => rfl
                case hi => kernel_rfl
                case ho => exact five_one _ _ _ _ _
            · have hge : 80 ≤ k := by omega
              have hd : decide ((k : Int) < 80) = false := by simpa using (by omega : (80 : Int) ≤ k)
              have HR80 : Hid (r = rnds (wl l 80) 80 st) := by
                obtain rfl : k = 80 := by omega
                exact HR
              have ha := add_start hat
              clear v0 v1 v2 v3 v4 hat HR
              go_wp2
              go_loopw [163] (fun i wr => ∃ k : Nat, k ≤ 5 ∧ i = .int .i64 k ∧ AddAt st r w wr gv k) (fun i _ => 5 - (intOf i).toNat)
              case atStart => exact ⟨0, by omega, rfl, ha⟩
              case round =>
                clear ha hge hlt hk hd
                obtain ⟨k, hk, rfl, hat⟩ := hrel
                by_cases hlt : k < 5
                · obtain ⟨c0, c1, hf⟩ := hat.cells hlt
                  have g4 : (k : Int) < 5 := by omega
                  go_wp2
                  refine wp_region_still_tail 9 (by kernel_rfl) (by kernel_rfl) ?_
                  simp only [List.take_succ_cons, List.take_zero, List.drop_succ_cons, List.drop_zero]
                  repeat still_step
                  refine wpStill_nil ?_
                  change wpList _ _ _ _ _ wr.drew
                  go_wp2
                  go_roundw
                  case rel => exact ⟨k + 1, by omega, by go_num, (add_step hat (by omega) _ (wrap_u32 _)).drew⟩
                  case measure => simp [intOf]; omega
                · obtain rfl : k = 5 := by omega
                  have hend := add_end hat HR80.out
                  obtain ⟨hb, _, ⟨cs, hcs, hres⟩, _⟩ := hat
                  obtain ⟨m, hm⟩ : ∃ m, m = mixS st l := ⟨_, rfl⟩
                  rw [← hm] at hend
                  have HM := Lib.hid hm
                  clear hm
                  have c0 : wr.cell? ⟨w.heap.size, 0, none⟩ = some (.int .u32 m.a) := hend.at 0
                  have c1 : wr.cell? ⟨w.heap.size, 1, none⟩ = some (.int .u32 m.b) := hend.at 1
                  have c2 : wr.cell? ⟨w.heap.size, 2, none⟩ = some (.int .u32 m.c) := hend.at 2
                  have c3 : wr.cell? ⟨w.heap.size, 3, none⟩ = some (.int .u32 m.d) := hend.at 3
                  have c4 : wr.cell? ⟨w.heap.size, 4, none⟩ = some (.int .u32 m.e) := hend.at 4
                  go_wp2_with (refine wpList_store_whole rfl 36 (.tmp 4) (.tmp 176) rfl rfl (w.heap.size + 1) m.cells rfl rfl hres (by rw [hcs]; rfl) (by kernel_rfl) (five_one _ _ _ _ _) ?_; intro w5 hw5 _ _ hb5)
                  exact bodyPost_ret (results_cell_row rfl _ w5 (w.heap.size + 1) 36 m.cells (0, 0) _ rfl hw5 Try.underlying36 rfl (by kernel_rfl)) rfl ⟨by rw [← HM.out]; rfl, hb5 _ _ (by omega) hb⟩
end Go.Proofs.Ytebjfmchpmbihaa
