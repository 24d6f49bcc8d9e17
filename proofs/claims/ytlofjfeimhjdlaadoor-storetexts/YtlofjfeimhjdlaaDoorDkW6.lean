/- THE WALKS of disk.tear and disk.Write. -/
import Derived.Test.YtlofjfeimhjdlaaDoorDkR6
import Derived.Deep.DeepCutAuto
import Derived.Deep.CutBlock
import Derived.WalkMore
import Derived.Deep.LoopGhost
import Derived.Deep.RegionHeld
namespace Go.Proofs.YtlofjfeimhjdlaaDoor
open Go.RowKit
set_option maxRecDepth 100000

theorem wpStill_load {P : Program} {ops : Array Oper} {w : World} {Q : Act → Prop} {a : Act} {o : Oper} {rest : List Oper} (hw : Region.wanted o (yielded ops a.tmps) = true) (ty : TypeId) (x : Operand) (ho : o.op = .load ty x)
    (b off : Nat) (hx : a.eval x = .pointer (some ⟨b, off, none⟩)) (cs : Array Value) (d : TypeDesc) (hc : w.rangeAt b off cs.toList) (hu : P.underlying ty = some d) (hd : d.isRow = true) (hi : (P.info? ty).map (·.size) = some cs.size)
    (h : wpStill P ops w Q rest (a.put o.dst (.agg cs))) : wpStill P ops w Q (o :: rest) a := by
  rw [wpStill, if_pos hw]
  unfold Oper.still execOp
  simp only [ho, hx, Instr.loadAt, Instr.sureAddr, Sem.run_bind, Sem.run_pure, Result.andThen_ok, run_loadVar_mid w b off ty cs.toList d hc hu hd (by simpa using hi)]
  exact ⟨rfl, by simpa using h⟩
theorem byteRow_list (s : List UInt8) : (byteRow s).toList = Lib.byteCells s := by simp [byteRow]
theorem byteRow_size (s : List UInt8) : (byteRow s).size = s.length := by simp [byteRow, Lib.byteCells]
theorem byteCells_one (s : List UInt8) : ∀ v ∈ Lib.byteCells s, v.oneCell' = true := by
  intro v hv
  simp only [Lib.byteCells, List.mem_map] at hv
  obtain ⟨x, _, rfl⟩ := hv
  rfl
theorem byteRow_one (s : List UInt8) : (byteRow s).all (·.oneCell') = true := all_oneCell_toArray (byteCells_one s)
theorem byteCells_take (s : List UInt8) (k : Nat) : Lib.byteCells (s.take k) = (Lib.byteCells s).take k := by simp [Lib.byteCells]
/-- A copy of the first k bytes of a block into sector i. -/
theorem copy_sec {w : World} {b c : Nat} {ss : List (List UInt8)} (h : Secs w b ss) {i k : Nat} (hi : i < ss.length) (hk : k ≤ 32) {t : List UInt8} (ht : t.length = 32) (hc : Rw w c 90 (byteRow t)) (q : Nat) :
    (Builtin.copy_ #[44, 44] 3 #[.slice (some ⟨b, i * 32, none⟩) k q, .slice (some ⟨c, 0, none⟩) 32 32]).run Tryd.prog w = .ok (goInt (k : Int)) (w.setCells b (i * 32) (Lib.byteCells (t.take k))) := by
  have hth := h.there (n := k) hi hk
  have hl : (Lib.byteCells (t.take k)).length = k := by rw [byteCells_len]; simp; omega
  have := run_copy_cells (P := Tryd.prog) w 44 44 3 5 b (i * 32) k q ⟨c, 0, none⟩ 32 32 (Lib.byteCells (t.take k)) Tryd.underlying44 (by kernel_rfl)
    (by rw [hl]; exact (Nat.min_eq_right hk).symm)
    (fun j v hv => by
      rw [Addr.add_mid, Nat.zero_add, hc.at, ← hv, byteCells_take]
      have hj := (List.getElem?_eq_some_iff.1 hv).1
      rw [hl] at hj
      simp [byteRow, hj])
    (fun j hj => (hth j (by omega)).1) (fun j hj => (hth j (by omega)).2) (byteCells_one _)
  rw [this, hl]
theorem DkAt.putAt {w : World} {g b cap : Nat} {d : Dk} (h : DkAt w g b cap d) {i k : Nat} (hi : i < d.ss.length) (hk : k ≤ 32) {t : List UInt8} (ht : t.length = 32) :
    DkAt (w.setCells b (i * 32) (Lib.byteCells (t.take k))) g b cap (d.put i (torn k t (d.get i))) := by
  obtain ⟨h1, h2⟩ := h.ok.get hi
  have hl : (t.take k).length = k := by simp; omega
  have hs := h.secs.put h1 h2 (t.take k) (by omega)
  rw [hl] at hs
  refine ⟨?_, hs, h.ne, h.ok.put i _ (torn_len k t _ hk ht h2), by simpa [Dk.put] using h.cap1⟩
  have := h.head.past h.ne (Lib.byteCells (t.take k)) (i * 32)
  simpa [Dk.put] using this
theorem DkAt.putFull {w : World} {g b cap : Nat} {d : Dk} (h : DkAt w g b cap d) {i : Nat} (hi : i < d.ss.length) {t : List UInt8} (ht : t.length = 32) :
    DkAt (w.setCells b (i * 32) (byteRow t).toList) g b cap (d.put i t) := by
  have := h.putAt hi (Nat.le_refl 32) ht
  rw [show t.take 32 = t from List.take_of_length_le (by omega)] at this
  have e : torn 32 t (d.get i) = t := by unfold torn; rw [List.take_of_length_le (by omega), List.drop_of_length_le (by rw [(h.ok.get hi).2]; exact Nat.le_refl _), List.append_nil]
  rw [e] at this
  rw [byteRow_list]
  exact this
section
variable (w : World) (g b cap : Nat) (d : Dk)
def Dk.done (d : Dk) (i : Nat) (t : List UInt8) : Dk := { d.put i t with left := if d.armed = true then d.left - 1 else d.left }
def Dk.tear (d : Dk) (i : Nat) (t : List UInt8) : Dk := { d.put i (torn d.keep t (d.get i)) with down := true, armed := false }
theorem tear_any (i : Nat) (hi : i < d.ss.length) (t : List UInt8) (ht : t.length = 32) (h : DkAt w g b cap d) :
    Calls Tryd.prog 65 #[.pointer (some ⟨g, 0, none⟩), .int .i64 (i : Int), .agg (byteRow t)] w fun e w' => e = .returned (.tuple #[]) ∧ DkAt w' g b cap (d.tear i t) ∧ But2 g b w w' := by
  have hA := h.next ((Below.refl _ w).alloc (Nat.le_refl _) (.cells (byteRow t) 90))
  have hc := Rw.fresh w 90 (byteRow t)
  have hB := (But2.refl g b w).alloc (.cells (byteRow t) 90)
  have hk := h.ok.k
  have hki : (d.keep : Int) ≤ 32 := by omega
  go_enter Tryd.func65, Tryd.ntmps65
  go_wp2
  have hcs : (⟨w.heap.size, 0, none⟩ : Addr).block ≠ b := by have := h.secs.lt; simp; omega
  generalize w.alloc (.cells (byteRow t) 90) = w1 at hA hc hB ⊢
  have c0 := hA.head.at 0
  have c4 := hA.head.at 4
  have hcpd := copy_sec hA.drew.secs hi hk ht hc.drew 32
  go_region
  have hD := hA.drew.putAt hi hk ht
  have hB2 := hB.drew.set_b (i * 32) (Lib.byteCells (t.take d.keep))
  generalize w1.drew.setCells b (i * 32) (Lib.byteCells (t.take d.keep)) = w2 at hD hB2 ⊢
  have c1 := hD.head.at 1
  have f1 := hD.head.free 1
  have c2 := hD.head.at 2
  have f2 := hD.head.free 2
  have hp := (hD.head.put 1 (.bool true)).put 2 (.bool false)
  have hs := (hD.secs.same (heap_setCell_other w2 ⟨g, 1, none⟩ b (.bool true) (Ne.symm h.ne))).same (heap_setCell_other _ ⟨g, 2, none⟩ b (.bool false) (Ne.symm h.ne))
  have hB3 := (hB2.set_g 1 (.bool true)).set_g 2 (.bool false)
  go_wp2
  go_end0
  exact ⟨rfl, ⟨hp, hs, h.ne, ⟨hD.ok.n1, hD.ok.n2, hD.ok.z, hD.ok.k, hD.ok.l⟩, hD.cap1⟩, hB3⟩
theorem zero32 : (Tryd.prog.info? 90).map (fun i => (i.zero, i.size)) = some (some (.agg (byteRow (List.replicate 32 0))), 32) := by kernel_rfl
/-- Behind 'var whole sector; copy(whole[:], data)'. -/
theorem copy_new (s : ByteArray) (hs : s.size ≤ 32) (w : World) :
    (Builtin.copy_ #[44, 9] 3 #[.slice (some ⟨w.heap.size, 0, none⟩) 32 32, .string s]).run Tryd.prog (w.alloc (.cells (byteRow (List.replicate 32 0)) 90)) =
      .ok (goInt s.size) (w.alloc (.cells (byteRow (full s.data.toList)) 90)) := by
  have := Go.Lib.run_copy_row_string (P := Tryd.prog) (w.alloc (.cells (byteRow (List.replicate 32 0)) 90)) 44 9 3 5 w.heap.size 0 32 32 s _ _ Tryd.underlying44 (by kernel_rfl) (Rw.fresh w _ _) hs (by simp [byteRow, Lib.byteCells]; exact hs)
  rw [this, World.setRow_alloc_new]
  simp only [byteRow, Lib.byteCells, full, List.map_append, List.map_replicate, List.drop_replicate, List.take_zero, List.nil_append, Nat.zero_add, Array.length_toList]
  rfl
theorem zrow_lit : byteRow (List.replicate 32 0) = #[.int .u8 0, .int .u8 0, .int .u8 0, .int .u8 0, .int .u8 0, .int .u8 0, .int .u8 0, .int .u8 0, .int .u8 0, .int .u8 0, .int .u8 0, .int .u8 0, .int .u8 0, .int .u8 0, .int .u8 0, .int .u8 0, .int .u8 0, .int .u8 0, .int .u8 0, .int .u8 0, .int .u8 0, .int .u8 0, .int .u8 0, .int .u8 0, .int .u8 0, .int .u8 0, .int .u8 0, .int .u8 0, .int .u8 0, .int .u8 0, .int .u8 0, .int .u8 0] := by rfl
theorem write_no (i : Int) (s : ByteArray) (hn : ¬ d.may i s.data.toList) (h : DkAt w g b cap d) :
    Calls Tryd.prog 46 #[.pointer (some ⟨g, 0, none⟩), .int .i64 i, .string s] w fun e w' => e = .returned (.bool false) ∧ w = w' := by
  have c1 := h.head.at 1
  have hl : s.data.toList.length = s.size := Array.length_toList
  by_cases hd : d.down = true
  · rw [hd] at c1
    go_enter Tryd.func46, Tryd.ntmps46
    go_wp2_with fail
    go_ret
    exact ⟨rfl, rfl⟩
  · have hd' : d.down = false := by simpa using hd
    rw [hd'] at c1
    by_cases hi : 0 ≤ i ∧ i < (d.ss.length : Int)
    · have hsz : (32 : Int) < (s.size : Int) := by
        have : ¬ s.size ≤ 32 := fun hh => hn ⟨hd', hi.1, hi.2, by omega⟩
        omega
      go_enter Tryd.func46, Tryd.ntmps46
      go_wp2_with (go_at_call 64; with_reducible refine (has_any w g b cap d i true (decide_eq_true hi) h).mono ?_; rintro e w' ⟨rfl, hw⟩; subst hw)
      go_ret
      exact ⟨rfl, rfl⟩
    · go_enter Tryd.func46, Tryd.ntmps46
      go_wp2_with (go_at_call 64; with_reducible refine (has_any w g b cap d i false (decide_eq_false hi) h).mono ?_; rintro e w' ⟨rfl, hw⟩; subst hw)
      go_ret
      exact ⟨rfl, rfl⟩
set_option maxHeartbeats 1000000 in
theorem write_torn (i : Nat) (s : ByteArray) (hm : d.may i s.data.toList) (ha : d.armed = true) (hlf : d.left = 0) (h : DkAt w g b cap d) :
    Calls Tryd.prog 46 #[.pointer (some ⟨g, 0, none⟩), .int .i64 (i : Int), .string s] w fun e w' => e = .returned (.bool false) ∧ DkAt w' g b cap (d.tear i (full s.data.toList)) ∧ But2 g b w w' := by
  obtain ⟨hd, hi0, hi1, hs⟩ := hm
  have hl : s.data.toList.length = s.size := Array.length_toList
  have c1 := h.head.at 1
  rw [hd] at c1
  have hsz : (s.size : Int) ≤ 32 := by omega
  have hcp := copy_new s (by omega)
  simp only [zrow_lit] at hcp
  have hA := h.next ((Below.refl _ w).alloc (Nat.le_refl _) (.cells (byteRow (full s.data.toList)) 90))
  have hc := Rw.fresh w 90 (byteRow (full s.data.toList))
  have hB := (But2.refl g b w).alloc (.cells (byteRow (full s.data.toList)) 90)
  go_enter Tryd.func46, Tryd.ntmps46
  go_upto_region 5 with (go_at_call 64; with_reducible refine (has_any w g b cap d i true (decide_eq_true ⟨hi0, hi1⟩) h).mono ?_; rintro e w' ⟨rfl, hw⟩; subst hw)
  generalize w.alloc (.cells (byteRow (full s.data.toList)) 90) = w1 at hA hc hB ⊢
  have d2 := hA.head.at 2
  have d3 := hA.head.at 3
  rw [ha, hlf] at d2 d3
  have hinf : (Tryd.prog.info? 90).map (·.size) = some (byteRow (full s.data.toList)).size := by rw [byteRow_size, full_len _ hs]; kernel_rfl
  have htr := tear_any w1 g b cap d i (by omega) (full s.data.toList) (full_len _ hs) hA
  go_wp2_with (first
    | (refine wpList_load_row rfl 90 _ rfl w.heap.size rfl 90 (byteRow (full s.data.toList)) (0, 0) _ hc Tryd.underlying90 rfl hinf ?_)
    | (go_at_call 65; with_reducible refine htr.mono ?_; rintro e w2 ⟨rfl, hD2, hB2⟩))
  go_ret
  exact ⟨rfl, hD2, hB.trans hB2⟩
set_option maxHeartbeats 1000000 in
theorem write_ok (i : Nat) (s : ByteArray) (hm : d.may i s.data.toList) (ha : ¬ (d.armed = true ∧ d.left = 0)) (h : DkAt w g b cap d) :
    Calls Tryd.prog 46 #[.pointer (some ⟨g, 0, none⟩), .int .i64 (i : Int), .string s] w fun e w' => e = .returned (.bool true) ∧ DkAt w' g b cap (d.done i (full s.data.toList)) ∧ But2 g b w w' := by
  obtain ⟨hd, hi0, hi1, hs⟩ := hm
  have hl : s.data.toList.length = s.size := Array.length_toList
  have c1 := h.head.at 1
  rw [hd] at c1
  have hsz : (s.size : Int) ≤ 32 := by omega
  have hcp := copy_new s (by omega)
  simp only [zrow_lit] at hcp
  have hA := h.next ((Below.refl _ w).alloc (Nat.le_refl _) (.cells (byteRow (full s.data.toList)) 90))
  have hc := Rw.fresh w 90 (byteRow (full s.data.toList))
  have hB := (But2.refl g b w).alloc (.cells (byteRow (full s.data.toList)) 90)
  have hinf : (Tryd.prog.info? 90).map (·.size) = some (byteRow (full s.data.toList)).size := by rw [byteRow_size, full_len _ hs]; kernel_rfl
  go_enter Tryd.func46, Tryd.ntmps46
  go_upto_region 5 with (go_at_call 64; with_reducible refine (has_any w g b cap d i true (decide_eq_true ⟨hi0, hi1⟩) h).mono ?_; rintro e w' ⟨rfl, hw⟩; subst hw)
  have hcb : w.heap.size ≠ g ∧ w.heap.size ≠ b := by have := h.lt; omega
  generalize hw1 : w.alloc (.cells (byteRow (full s.data.toList)) 90) = w1 at hA hc hB ⊢
  by_cases hb : d.armed = true
  · have hlf : 0 < d.left := Nat.pos_of_ne_zero fun e => ha ⟨hb, e⟩
    have d2 := hA.head.at 2
    have d3 := hA.head.at 3
    have e3 := hA.head.free 3
    rw [hb] at d2
    have hne : ((d.left : Int) == 0) = false := by rw [beq_eq_false_iff_ne]; omega
    have hlb : d.left ≤ 9223372036854775807 := h.ok.l
    go_upto_region 10 with fail
    have hfit : (d.left : Int) - 1 = ((d.left - 1 : Nat) : Int) := by omega
    have hp := hA.head.put 3 (.int .i64 ((d.left : Int) - 1))
    have hD2 : DkAt (w1.setCell ⟨g, 3, none⟩ (.int .i64 ((d.left : Int) - 1))) g b cap { d with left := d.left - 1 } :=
      ⟨by simpa [hfit] using hp, hA.secs.same (heap_setCell_other w1 _ b _ (Ne.symm h.ne)), h.ne, ⟨h.ok.n1, h.ok.n2, h.ok.z, h.ok.k, by show d.left - 1 ≤ _; omega⟩, h.cap1⟩
    have hB2 := hB.set_g 3 (.int .i64 ((d.left : Int) - 1))
    have hc2 := hc.other (p := ⟨g, 3, none⟩) hcb.1 (.int .i64 ((d.left : Int) - 1))
    clear hp d2 d3 e3 hne hlb hfit hA hB hc hw1
    generalize w1.setCell ⟨g, 3, none⟩ (.int .i64 ((d.left : Int) - 1)) = w2 at hD2 hB2 hc2 ⊢
    have c0 := hD2.head.at 0
    have hii : (i : Int) < (d.ss.length : Int) := hi1
    have hth : w2.drew.there b (i * 32) (byteRow (full s.data.toList)).size := by rw [byteRow_size, full_len _ hs]; exact hD2.drew.secs.there (by show i < d.ss.length; omega) (Nat.le_refl _)
    refine wp_region_still_tail 7 (by kernel_rfl) (by kernel_rfl) ?_
    simp only [List.take_succ_cons, List.take_zero, List.drop_succ_cons, List.drop_zero]
    iterate 5 still_step
    refine wpStill_load (by kernel_rfl) 90 _ rfl w.heap.size 0 rfl (byteRow (full s.data.toList)) _ ?_ Tryd.underlying90 rfl hinf ?_
    · exact fun j v hv => by rw [Nat.zero_add]; exact (hc2.drew.at j).trans (by rw [← hv]; simp [byteRow])
    still_step
    refine wpStill_nil ?_
    change wpList _ _ _ _ _ w2.drew
    refine wpList_store_mid rfl 90 _ _ rfl b (i * 32) (byteRow (full s.data.toList)) rfl rfl hth hinf (byteRow_one _) ?_
    have hD3 := hD2.drew.putFull (i := i) (by show i < d.ss.length; omega) (full_len _ hs)
    have hB3 := hB2.drew.set_b (i * 32) (byteRow (full s.data.toList)).toList
    generalize w2.drew.setCells b (i * 32) (byteRow (full s.data.toList)).toList = w3 at hD3 hB3 ⊢
    go_wp2_with fail
    go_ret
    refine ⟨rfl, ?_, hB3⟩
    unfold Dk.done; rw [if_pos hb]
    exact hD3
  · have d2 := hA.head.at 2
    rw [show d.armed = false by simpa using hb] at d2
    go_upto_region 10 with fail
    have hD2 := hA
    have hB2 := hB
    have hc2 := hc
    clear d2 hA hB hc hw1
    generalize w1 = w2 at hD2 hB2 hc2 ⊢
    have c0 := hD2.head.at 0
    have hii : (i : Int) < (d.ss.length : Int) := hi1
    have hth : w2.drew.there b (i * 32) (byteRow (full s.data.toList)).size := by rw [byteRow_size, full_len _ hs]; exact hD2.drew.secs.there (by show i < d.ss.length; omega) (Nat.le_refl _)
    refine wp_region_still_tail 7 (by kernel_rfl) (by kernel_rfl) ?_
    simp only [List.take_succ_cons, List.take_zero, List.drop_succ_cons, List.drop_zero]
    iterate 5 still_step
    refine wpStill_load (by kernel_rfl) 90 _ rfl w.heap.size 0 rfl (byteRow (full s.data.toList)) _ ?_ Tryd.underlying90 rfl hinf ?_
    · exact fun j v hv => by rw [Nat.zero_add]; exact (hc2.drew.at j).trans (by rw [← hv]; simp [byteRow])
    still_step
    refine wpStill_nil ?_
    change wpList _ _ _ _ _ w2.drew
    refine wpList_store_mid rfl 90 _ _ rfl b (i * 32) (byteRow (full s.data.toList)) rfl rfl hth hinf (byteRow_one _) ?_
    have hD3 := hD2.drew.putFull (i := i) (by show i < d.ss.length; omega) (full_len _ hs)
    have hB3 := hB2.drew.set_b (i * 32) (byteRow (full s.data.toList)).toList
    generalize w2.drew.setCells b (i * 32) (byteRow (full s.data.toList)).toList = w3 at hD3 hB3 ⊢
    go_wp2_with fail
    go_ret
    refine ⟨rfl, ?_, hB3⟩
    unfold Dk.done; rw [if_neg hb]
    exact hD3
/-- Write, whatever it comes to. -/
theorem write_any (i : Int) (s : ByteArray) (h : DkAt w g b cap d) :
    Calls Tryd.prog 46 #[.pointer (some ⟨g, 0, none⟩), .int .i64 i, .string s] w fun e w' => e = .returned (.bool (d.wr i s.data.toList).1) ∧ DkAt w' g b cap (d.wr i s.data.toList).2 ∧ But2 g b w w' := by
  by_cases hm : d.may i s.data.toList
  · obtain ⟨k, rfl⟩ : ∃ k : Nat, i = (k : Int) := ⟨i.toNat, by have := hm.2.1; omega⟩
    by_cases ha : d.armed = true ∧ d.left = 0
    · have e : d.wr (k : Int) s.data.toList = (false, d.tear k (full s.data.toList)) := by unfold Dk.wr; rw [if_pos hm, if_pos ha]; rfl
      rw [e]
      exact write_torn w g b cap d k s hm ha.1 ha.2 h
    · have e : d.wr (k : Int) s.data.toList = (true, d.done k (full s.data.toList)) := by unfold Dk.wr; rw [if_pos hm, if_neg ha]; rfl
      rw [e]
      exact write_ok w g b cap d k s hm ha h
  · have e : d.wr i s.data.toList = (false, d) := by unfold Dk.wr; rw [if_neg hm]
    rw [e]
    exact (write_no w g b cap d i s hm h).mono fun e w' ⟨h1, h2⟩ => ⟨h1, h2 ▸ h, h2 ▸ But2.refl g b w⟩
end
end Go.Proofs.YtlofjfeimhjdlaaDoor
