/- A DISK, AS PLAIN DATA, AND AS IT LIES IN MEMORY: its five fields in one block, its sectors of 32 bytes each in another.
   THE WALKS of disk.New, Arm, Sectors, Revive, has.
   A SECTOR as a string.
   THE WALKS of disk.tear and disk.Write.
   THE WALK of slices.Clone over sectors. -/
import Derived.Deep.WholeRow
import Derived.Deep.DeepCutAuto
import Derived.Deep.CutBlock
import Derived.WalkMore
import Derived.Deep.LoopGhost
import Derived.Deep.RegionHeld
import Derived.Laws.Cover3
import Derived.Test.YtoddhdionhemjaaGreatDoorRow
namespace Go.Proofs.YtoddhdionhemjaaGreatDoor
open Go.RowKit

/-- A disk: its sectors, is it down, is it armed, how many writes go well, how many bytes of the torn one are written. -/
structure Dk where
  ss : List (List UInt8)
  down : Bool
  armed : Bool
  left : Nat
  keep : Nat
def full (s : List UInt8) : List UInt8 := s ++ List.replicate (32 - s.length) 0
theorem full_len (s : List UInt8) (h : s.length ≤ 32) : (full s).length = 32 := by simp [full]; omega
def torn (k : Nat) (a b : List UInt8) : List UInt8 := a.take k ++ b.drop k
theorem torn_len (k : Nat) (a b : List UInt8) (h : k ≤ 32) (ha : a.length = 32) (hb : b.length = 32) : (torn k a b).length = 32 := by simp [torn]; omega
/-- Its state is right. -/
structure Dk.Ok (d : Dk) : Prop where
  n1 : 1 ≤ d.ss.length
  n2 : d.ss.length ≤ 2000
  z : ∀ (i : Nat) (s : List UInt8), d.ss[i]? = some s → s.length = 32
  k : d.keep ≤ 32
  l : d.left ≤ 9223372036854775807
def Dk.get (d : Dk) (i : Nat) : List UInt8 := d.ss.getD i []
theorem Dk.Ok.get {d : Dk} (h : d.Ok) {i : Nat} (hi : i < d.ss.length) : d.ss[i]? = some (d.get i) ∧ (d.get i).length = 32 := by
  have e : d.ss[i]? = some (d.get i) := by simp [Dk.get, List.getD, List.getElem?_eq_getElem hi]
  exact ⟨e, h.z _ _ e⟩
def Dk.put (d : Dk) (i : Nat) (s : List UInt8) : Dk := { d with ss := d.ss.set i s }
theorem Dk.Ok.put {d : Dk} (h : d.Ok) (i : Nat) (s : List UInt8) (hs : s.length = 32) : (d.put i s).Ok :=
  ⟨by simpa [Dk.put] using h.n1, by simpa [Dk.put] using h.n2, fun j t ht => by
    simp only [Dk.put, List.getElem?_set] at ht
    split at ht
    · split at ht
      · cases ht; exact hs
      · cases ht
    · exact h.z j t ht, h.k, h.l⟩
/-- There is such a sector, the disk is up, the data is not too long. -/
def Dk.may (d : Dk) (i : Int) (s : List UInt8) : Prop := d.down = false ∧ 0 ≤ i ∧ i < d.ss.length ∧ s.length ≤ 32
instance (d : Dk) (i : Int) (s : List UInt8) : Decidable (d.may i s) := by unfold Dk.may; infer_instance
def Dk.wr (d : Dk) (i : Int) (s : List UInt8) : Bool × Dk :=
  if d.may i s then
    if d.armed = true ∧ d.left = 0 then (false, { d.put i.toNat (torn d.keep (full s) (d.get i.toNat)) with down := true, armed := false })
    else (true, { d.put i.toNat (full s) with left := if d.armed = true then d.left - 1 else d.left })
  else (false, d)

/-- Nothing that was there has turned but blocks g and b. -/
structure But2 (g b : Nat) (w w' : World) : Prop where
  os : w'.os = w.os
  tape : w'.tape = w.tape
  output : w'.output = w.output
  size : w.heap.size ≤ w'.heap.size
  block : ∀ k, k < w.heap.size → k ≠ g → k ≠ b → w'.heap[k]? = w.heap[k]?
section
variable {g b : Nat} {w v x : World}
theorem But2.refl (g b : Nat) (w : World) : But2 g b w w := ⟨rfl, rfl, rfl, Nat.le_refl _, fun _ _ _ _ => rfl⟩
theorem But2.trans (h : But2 g b w v) (k : But2 g b v x) : But2 g b w x :=
  ⟨k.os.trans h.os, k.tape.trans h.tape, k.output.trans h.output, Nat.le_trans h.size k.size, fun i hi h1 h2 => (k.block i (Nat.lt_of_lt_of_le hi h.size) h1 h2).trans (h.block i hi h1 h2)⟩
theorem But2.of_below (g b : Nat) (h : Below w.heap.size w v) : But2 g b w v := ⟨h.os, h.tape, h.output, h.size, fun k hk _ _ => h.block k hk⟩
theorem But2.set_g (h : But2 g b w v) (i : Nat) (u : Value) : But2 g b w (v.setCell ⟨g, i, none⟩ u) :=
  h.trans ⟨rfl, rfl, rfl, by simp [World.setCell], fun k _ h1 _ => heap_setCell_other v _ k u h1⟩
theorem But2.set_b (h : But2 g b w v) (o : Nat) (us : List Value) : But2 g b w (v.setCells b o us) := by
  refine h.trans ?_
  have hb := below_setCells (B := 0) (g := b) (Nat.zero_le _) us o v v (Below.refl 0 v)
  exact ⟨hb.os, hb.tape, hb.output, hb.size, fun k _ _ h2 => heap_setCells b us o v k h2⟩
theorem But2.drew (h : But2 g b w v) : But2 g b w v.drew := h.trans ⟨rfl, rfl, rfl, Nat.le_refl _, fun _ _ _ _ => rfl⟩
theorem But2.alloc (h : But2 g b w v) (o : Obj) : But2 g b w (v.alloc o) := h.trans (But2.of_below g b ((Below.refl _ v).alloc (Nat.le_refl _) o))
/-- What lies below both blocks lies as it lay. -/
theorem But2.below {B : Nat} (h : But2 g b w v) (hB : B ≤ w.heap.size) (h1 : B ≤ g) (h2 : B ≤ b) : Below B w v :=
  ⟨h.os, h.tape, h.output, h.size, fun k hk => h.block k (by omega) (by omega) (by omega)⟩
theorem Rw.but {t : TypeId} {cs : Array Value} {k : Nat} (hr : Rw w k t cs) (h : But2 g b w v) (h1 : k ≠ g) (h2 : k ≠ b) : Rw v k t cs := (h.block k hr.size h1 h2).trans hr
end

/-- The sectors lie in block b. -/
def Secs (w : World) (b : Nat) (ss : List (List UInt8)) : Prop :=
  ∃ cur, Rw w b 139 cur ∧ ss.length * 32 ≤ cur.size ∧ ∀ (i : Nat) (s : List UInt8), ss[i]? = some s → s.length = 32 ∧ ∀ j x, s[j]? = some x → cur[i * 32 + j]? = some (.int .u8 (x.toNat : Int))
theorem byteCells_get (s : List UInt8) (j : Nat) : (Lib.byteCells s)[j]? = s[j]?.map (fun x => Value.int .u8 (x.toNat : Int)) := by simp [Lib.byteCells]
theorem byteCells_len (s : List UInt8) : (Lib.byteCells s).length = s.length := by simp [Lib.byteCells]
section
variable {w v : World} {b : Nat} {ss : List (List UInt8)}
theorem Secs.lt (h : Secs w b ss) : b < w.heap.size := by obtain ⟨cur, h1, _, _⟩ := h; exact h1.size
theorem Secs.range (h : Secs w b ss) {i : Nat} {s : List UInt8} (hi : ss[i]? = some s) : w.rangeAt b (i * 32) (Lib.byteCells s) := by
  obtain ⟨cur, h1, h2, h3⟩ := h
  intro j u hu
  rw [byteCells_get] at hu
  cases hx : s[j]? with
  | none => rw [hx] at hu; cases hu
  | some x =>
    rw [hx] at hu
    cases hu
    rw [h1.at]
    exact (h3 i s hi).2 j x hx
theorem Secs.there (h : Secs w b ss) {i n : Nat} (hi : i < ss.length) (hn : n ≤ 32) : w.there b (i * 32) n := by
  obtain ⟨cur, h1, h2, h3⟩ := h
  intro j hj
  refine ⟨?_, h1.free _⟩
  rw [h1.at, Array.getElem?_eq_getElem (by omega)]
  rfl
theorem Secs.same (h : Secs w b ss) (e : v.heap[b]? = w.heap[b]?) : Secs v b ss := by
  obtain ⟨cur, h1, h2, h3⟩ := h
  exact ⟨cur, e.trans h1, h2, h3⟩
/-- The first k bytes of sector i are turned into those of t. -/
theorem Secs.put (h : Secs w b ss) {i : Nat} {s : List UInt8} (hi : ss[i]? = some s) (hs : s.length = 32) (t : List UInt8) (ht : t.length ≤ 32) :
    Secs (w.setCells b (i * 32) (Lib.byteCells t)) b (ss.set i (t ++ s.drop t.length)) := by
  have hth := h.there (n := 32) (List.getElem?_eq_some_iff.1 hi).1 (Nat.le_refl _)
  obtain ⟨cur, h1, h2, h3⟩ := h
  obtain ⟨cur', hz, h1'⟩ := h1.setCells (Lib.byteCells t) (i * 32)
  refine ⟨cur', h1', by rw [List.length_set, hz]; exact h2, fun i' s' hs' => ⟨?_, fun j x hx => ?_⟩⟩
  · rw [List.getElem?_set] at hs'
    split at hs'
    · split at hs'
      · cases hs'; simp; omega
      · cases hs'
    · exact (h3 i' s' hs').1
  rw [← h1'.at]
  have hnew : ∀ j, j < t.length → (w.setCells b (i * 32) (Lib.byteCells t)).cell? ⟨b, i * 32 + j, none⟩ = some (.int .u8 ((t[j]?.getD 0).toNat : Int)) := fun j hj => by
    rw [World.cell?_setCells_in b (Lib.byteCells t) (i * 32) w (fun k hk => (hth k (by rw [byteCells_len] at hk; omega)).1) j (by rw [byteCells_len]; exact hj)]
    simp [Lib.byteCells, List.getElem?_eq_getElem hj]
  rw [List.getElem?_set] at hs'
  split at hs'
  · rename_i e
    subst e
    split at hs'
    · cases hs'
      by_cases hj : j < t.length
      · rw [hnew j hj]
        rw [List.getElem?_append_left hj] at hx
        rw [hx]
        rfl
      · rw [World.cell?_setCells_out b _ _ _ _ (fun _ _ => Or.inr (by rw [byteCells_len]; show i * 32 + t.length ≤ i * 32 + j; omega)), h1.at]
        rw [List.getElem?_append_right (by omega), List.getElem?_drop] at hx
        exact (h3 i s hi).2 j x (by rw [← hx]; congr 1; omega)
    · cases hs'
  · rename_i e
    obtain ⟨hl', h4⟩ := h3 i' s' hs'
    have hj := (List.getElem?_eq_some_iff.1 hx).1
    rw [World.cell?_setCells_out b _ _ _ _ (fun _ _ => by rw [byteCells_len]; show i' * 32 + j < i * 32 ∨ i * 32 + t.length ≤ i' * 32 + j; omega), h1.at]
    exact h4 j x hx
theorem Secs.len (h : Secs w b ss) {i : Nat} {s : List UInt8} (hi : ss[i]? = some s) : s.length = 32 := by
  obtain ⟨cur, h1, h2, h3⟩ := h
  exact (h3 i s hi).1
end
/-- The disk d lies in blocks g (its fields) and b (its sectors; room for cap). -/
structure DkAt (w : World) (g b cap : Nat) (d : Dk) : Prop where
  head : Rw w g 66 #[.slice (some ⟨b, 0, none⟩) d.ss.length cap, .bool d.down, .bool d.armed, .int .i64 (d.left : Int), .int .i64 (d.keep : Int)]
  secs : Secs w b d.ss
  ne : g ≠ b
  ok : d.Ok
  cap1 : d.ss.length ≤ cap
section
variable {w v : World} {g b cap : Nat} {d : Dk}
theorem DkAt.lt (h : DkAt w g b cap d) : g < w.heap.size ∧ b < w.heap.size := ⟨h.head.size, h.secs.lt⟩
theorem DkAt.same (h : DkAt w g b cap d) (hg : v.heap[g]? = w.heap[g]?) (hb : v.heap[b]? = w.heap[b]?) : DkAt v g b cap d := ⟨hg.trans h.head, h.secs.same hb, h.ne, h.ok, h.cap1⟩
theorem DkAt.below {B : Nat} (h : DkAt w g b cap d) (hb : Below B w v) (h1 : g < B) (h2 : b < B) : DkAt v g b cap d := h.same (hb.block g h1) (hb.block b h2)
theorem DkAt.next (h : DkAt w g b cap d) (hb : Below w.heap.size w v) : DkAt v g b cap d := h.below hb h.lt.1 h.lt.2
theorem DkAt.but {g' b' : Nat} (h : DkAt w g b cap d) (hb : But2 g' b' w v) (h1 : g ≠ g') (h2 : g ≠ b') (h3 : b ≠ g') (h4 : b ≠ b') : DkAt v g b cap d :=
  h.same (hb.block g h.lt.1 h1 h2) (hb.block b h.lt.2 h3 h4)
theorem DkAt.drew (h : DkAt w g b cap d) : DkAt w.drew g b cap d := h.same rfl rfl
end
end Go.Proofs.YtoddhdionhemjaaGreatDoor
namespace Go.Proofs.YtoddhdionhemjaaGreatDoor
open Go.RowKit

def newDk (n : Nat) : Dk := { ss := List.replicate n (List.replicate 32 0), down := false, armed := false, left := 0, keep := 0 }
theorem newDk_ok (n : Nat) (h1 : 1 ≤ n) (h2 : n ≤ 2000) : (newDk n).Ok := by
  refine ⟨by simpa [newDk] using h1, by simpa [newDk] using h2, fun i s h => ?_, Nat.zero_le _, Nat.zero_le _⟩
  simp only [newDk, List.getElem?_replicate] at h
  split at h
  · cases h; simp
  · cases h
theorem secinfo : (Tryz.prog.info? 139).map (fun i => (i.zero, i.size, i.bytes)) = some (some (.agg (Array.replicate 32 (.int .u8 0))), 32, 32) := by kernel_rfl
theorem made_at (m k : Nat) (h : k < m) : (madeCells (Array.replicate 32 (Value.int .u8 0)) m)[k]? = some (.int .u8 0) := by
  simp [madeCells, h]
  rw [Array.getElem!_eq_getD, Array.getD, dif_pos (by simp; omega)]
  simp
theorem mk_secs (n : Nat) (h1 : 1 ≤ n) (h2 : n ≤ 2000) (w : World) :
    (Instr.makeSlice 64 (.int .i64 (n : Int)) (.int .i64 (n : Int))).run Tryz.prog w =
      .ok (.slice (some ⟨w.heap.size, 0, none⟩) n n) (w.alloc (.cells (madeCells (Array.replicate 32 (.int .u8 0)) (n * 32)) 139)) := by
  obtain ⟨i0, hi, hz0, hz1, hz2⟩ := info_parts secinfo
  have := run_make (P := Tryz.prog) w 64 139 i0 _ Tryz.underlying64 hi hz0 .i64 .i64 (n : Int) (n : Int) (by omega) (by omega) (by rw [hz2]; omega) (by omega)
  rw [this, hz1]
  simp [Value.cells]
theorem new_secs (n : Nat) (w : World) : Secs (w.alloc (.cells (madeCells (Array.replicate 32 (.int .u8 0)) (n * 32)) 139)) w.heap.size (newDk n).ss := by
  refine ⟨_, Rw.fresh w _ _, by simp [newDk, size_madeCells], fun i s hs => ?_⟩
  simp only [newDk, List.getElem?_replicate] at hs
  split at hs
  · cases hs
    refine ⟨by simp, fun j x hx => ?_⟩
    rw [List.getElem?_replicate] at hx
    split at hx
    · cases hx
      rw [made_at _ _ (by omega)]
      rfl
    · cases hx
  · cases hs
theorem mk_secsZ (m : Int) (n : Nat) (h : (n : Int) = m) (h1 : 1 ≤ n) (h2 : n ≤ 2000) (w : World) :
    (Instr.makeSlice 64 (.int .i64 m) (.int .i64 m)).run Tryz.prog w =
      .ok (.slice (some ⟨w.heap.size, 0, none⟩) n n) (w.alloc (.cells (madeCells (Array.replicate 32 (.int .u8 0)) (n * 32)) 139)) := by
  rw [← h]; exact mk_secs n h1 h2 w
theorem new_end (k : Nat) (h1 : 1 ≤ k) (h2 : k ≤ 2000) (w : World) :
    DkAt ((w.alloc (.cells (madeCells (Array.replicate 32 (.int .u8 0)) (k * 32)) 139)).alloc (.cells #[.slice (some ⟨w.heap.size, 0, none⟩) k k, .bool false, .bool false, .int .i64 0, .int .i64 0] 66)) (w.heap.size + 1) w.heap.size k (newDk k) ∧
    Below w.heap.size w ((w.alloc (.cells (madeCells (Array.replicate 32 (.int .u8 0)) (k * 32)) 139)).alloc (.cells #[.slice (some ⟨w.heap.size, 0, none⟩) k k, .bool false, .bool false, .int .i64 0, .int .i64 0] 66)) := by
  have hsec := new_secs k w
  have hb := (Below.refl w.heap.size w).alloc (Nat.le_refl _) (.cells (madeCells (Array.replicate 32 (.int .u8 0)) (k * 32)) 139)
  generalize hw1 : w.alloc (.cells (madeCells (Array.replicate 32 (.int .u8 0)) (k * 32)) 139) = w1 at hsec hb ⊢
  have hz : w1.heap.size = w.heap.size + 1 := by rw [← hw1]; simp
  refine ⟨⟨?_, hsec.same (Below.heap_alloc w1 _ _ (by omega)), by omega, newDk_ok k h1 h2, by simp [newDk]⟩, hb.alloc (by omega) _⟩
  rw [← hz]
  have := Rw.fresh w1 66 #[.slice (some ⟨w.heap.size, 0, none⟩) k k, .bool false, .bool false, .int .i64 0, .int .i64 0]
  simpa [newDk] using this
theorem new_any (n : Int) (k : Nat) (hk : (k : Int) = min (max n 1) 2000) (w : World) :
    Calls Tryz.prog 8 #[.int .i64 n] w fun e w' => e = .returned (.pointer (some ⟨w.heap.size + 1, 0, none⟩)) ∧ DkAt w' (w.heap.size + 1) w.heap.size k (newDk k) ∧ Below w.heap.size w w' := by
  have h1 : 1 ≤ k := by omega
  have h2 : k ≤ 2000 := by omega
  have he := new_end k h1 h2 w
  rcases (by omega : (n < 1 ∧ (k : Int) = 1) ∨ (1 ≤ n ∧ 2000 < n ∧ (k : Int) = 2000) ∨ (1 ≤ n ∧ n ≤ 2000 ∧ (k : Int) = n)) with ⟨a1, a2⟩ | ⟨a0, a1, a2⟩ | ⟨a0, a1, a2⟩
  all_goals
    have hmk := mk_secsZ _ k a2 h1 h2
    clear a2 hk
    go_enter Tryz.func8, Tryz.ntmps8
    go_wp2
    go_ret
    exact ⟨rfl, he⟩

section
variable (w : World) (g b cap : Nat) (d : Dk)
theorem sectors_any (h : DkAt w g b cap d) : Calls Tryz.prog 61 #[.pointer (some ⟨g, 0, none⟩)] w fun e w' => e = .returned (.int .i64 (d.ss.length : Int)) ∧ w = w' := by
  have c0 := h.head.at 0
  go_enter Tryz.func61, Tryz.ntmps61
  go_wp2
  go_ret
  exact ⟨rfl, rfl⟩
theorem has_any (i : Int) (r : Bool) (hr : decide (0 ≤ i ∧ i < (d.ss.length : Int)) = r) (h : DkAt w g b cap d) :
    Calls Tryz.prog 88 #[.pointer (some ⟨g, 0, none⟩), .int .i64 i] w fun e w' => e = .returned (.bool r) ∧ w = w' := by
  have c0 := h.head.at 0
  by_cases h0 : 0 ≤ i
  · go_enter Tryz.func88, Tryz.ntmps88
    go_wp2
    go_ret
    exact ⟨by rw [← hr]; simp [h0], rfl⟩
  · go_enter Tryz.func88, Tryz.ntmps88
    go_wp2
    go_ret
    exact ⟨by rw [← hr]; simp; omega, rfl⟩
end
end Go.Proofs.YtoddhdionhemjaaGreatDoor
namespace Go.Proofs.YtoddhdionhemjaaGreatDoor
open Go.RowKit

theorem conv_sec {w : World} {b : Nat} {ss : List (List UInt8)} (h : Secs w b ss) {i : Nat} {s : List UInt8} (hi : ss[i]? = some s) :
    (convert 60 9 (.slice (some ⟨b, i * 32, none⟩) 32 32)).run Tryz.prog w = .ok (.string ⟨s.toArray⟩) w := by
  have hl := h.len hi
  have := run_convert_bytes_back w _ _ _ ⟨b, i * 32, none⟩ 32 s Tryz.underlying60 Tryz.underlying5 Tryz.underlying9 (fun j hj => by
    rw [Addr.add_mid]; exact h.range hi j _ (by rw [byteCells_get, List.getElem?_eq_getElem hj]; rfl))
  rw [hl] at this
  exact this
end Go.Proofs.YtoddhdionhemjaaGreatDoor
namespace Go.Proofs.YtoddhdionhemjaaGreatDoor
open Go.RowKit
set_option maxRecDepth 100000

theorem wpStill_load {P : Program} {ops : Array Oper} {w : World} {Q : Act → Prop} {a : Act} {o : Oper} {rest : List Oper} (hw : Region.wanted o (yielded ops a.tmps) = true) (ty : TypeId) (x : Operand) (ho : o.op = .load ty x)
    (b off : Nat) (hx : a.eval x = .pointer (some ⟨b, off, none⟩)) (cs : Array Value) (d : TypeDesc) (hc : w.rangeAt b off cs.toList) (hu : P.underlying ty = some d) (hd : d.isRow = true) (hi : (P.info? ty).map (·.size) = some cs.size)
    (h : wpStill P ops w Q rest (a.put o.dst (.agg cs))) : wpStill P ops w Q (o :: rest) a := by
  rw [wpStill, if_pos hw]
  unfold Oper.still execOp
  simp only [ho, hx, Instr.loadAt, Instr.sureAddr, Sem.run_bind, Sem.run_pure, Result.andThen_ok, run_loadVar_mid w b off ty cs.toList d hc hu hd (by simpa using hi)]
  exact ⟨rfl, by simpa using h⟩
theorem byteRow_list (s : List UInt8) : (byteRow s).toList = Lib.byteCells s := by simp [byteRow]
theorem byteRow_size (s : List UInt8) : (byteRow s).size = s.length := by simp [byteRow, Lib.byteCells]
theorem byteCells_one (s : List UInt8) : ∀ v ∈ Lib.byteCells s, v.oneCell' = true := by
  intro v hv
  simp only [Lib.byteCells, List.mem_map] at hv
  obtain ⟨x, _, rfl⟩ := hv
  rfl
theorem byteRow_one (s : List UInt8) : (byteRow s).all (·.oneCell') = true := all_oneCell_toArray (byteCells_one s)
theorem byteCells_take (s : List UInt8) (k : Nat) : Lib.byteCells (s.take k) = (Lib.byteCells s).take k := by simp [Lib.byteCells]
/-- A copy of the first k bytes of a block into sector i. -/
theorem copy_sec {w : World} {b c : Nat} {ss : List (List UInt8)} (h : Secs w b ss) {i k : Nat} (hi : i < ss.length) (hk : k ≤ 32) {t : List UInt8} (ht : t.length = 32) (hc : Rw w c 139 (byteRow t)) (q : Nat) :
    (Builtin.copy_ #[60, 60] 3 #[.slice (some ⟨b, i * 32, none⟩) k q, .slice (some ⟨c, 0, none⟩) 32 32]).run Tryz.prog w = .ok (goInt (k : Int)) (w.setCells b (i * 32) (Lib.byteCells (t.take k))) := by
  have hth := h.there (n := k) hi hk
  have hl : (Lib.byteCells (t.take k)).length = k := by rw [byteCells_len]; simp; omega
  have := run_copy_cells (P := Tryz.prog) w 60 60 3 5 b (i * 32) k q ⟨c, 0, none⟩ 32 32 (Lib.byteCells (t.take k)) Tryz.underlying60 (by kernel_rfl)
    (by rw [hl]; exact (Nat.min_eq_right hk).symm)
    (fun j v hv => by
      rw [Addr.add_mid, Nat.zero_add, hc.at, ← hv, byteCells_take]
      have hj := (List.getElem?_eq_some_iff.1 hv).1
      rw [hl] at hj
      simp [byteRow, hj])
    (fun j hj => (hth j (by omega)).1) (fun j hj => (hth j (by omega)).2) (byteCells_one _)
  rw [this, hl]
theorem DkAt.putAt {w : World} {g b cap : Nat} {d : Dk} (h : DkAt w g b cap d) {i k : Nat} (hi : i < d.ss.length) (hk : k ≤ 32) {t : List UInt8} (ht : t.length = 32) :
    DkAt (w.setCells b (i * 32) (Lib.byteCells (t.take k))) g b cap (d.put i (torn k t (d.get i))) := by
  obtain ⟨h1, h2⟩ := h.ok.get hi
  have hl : (t.take k).length = k := by simp; omega
  have hs := h.secs.put h1 h2 (t.take k) (by omega)
  rw [hl] at hs
  refine ⟨?_, hs, h.ne, h.ok.put i _ (torn_len k t _ hk ht h2), by simpa [Dk.put] using h.cap1⟩
  have := h.head.past h.ne (Lib.byteCells (t.take k)) (i * 32)
  simpa [Dk.put] using this
theorem DkAt.putFull {w : World} {g b cap : Nat} {d : Dk} (h : DkAt w g b cap d) {i : Nat} (hi : i < d.ss.length) {t : List UInt8} (ht : t.length = 32) :
    DkAt (w.setCells b (i * 32) (byteRow t).toList) g b cap (d.put i t) := by
  have := h.putAt hi (Nat.le_refl 32) ht
  rw [show t.take 32 = t from List.take_of_length_le (by omega)] at this
  have e : torn 32 t (d.get i) = t := by unfold torn; rw [List.take_of_length_le (by omega), List.drop_of_length_le (by rw [(h.ok.get hi).2]; exact Nat.le_refl _), List.append_nil]
  rw [e] at this
  rw [byteRow_list]
  exact this
section
variable (w : World) (g b cap : Nat) (d : Dk)
def Dk.done (d : Dk) (i : Nat) (t : List UInt8) : Dk := { d.put i t with left := if d.armed = true then d.left - 1 else d.left }
def Dk.tear (d : Dk) (i : Nat) (t : List UInt8) : Dk := { d.put i (torn d.keep t (d.get i)) with down := true, armed := false }
theorem tear_any (i : Nat) (hi : i < d.ss.length) (t : List UInt8) (ht : t.length = 32) (h : DkAt w g b cap d) :
    Calls Tryz.prog 89 #[.pointer (some ⟨g, 0, none⟩), .int .i64 (i : Int), .agg (byteRow t)] w fun e w' => e = .returned (.tuple #[]) ∧ DkAt w' g b cap (d.tear i t) ∧ But2 g b w w' := by
  have hA := h.next ((Below.refl _ w).alloc (Nat.le_refl _) (.cells (byteRow t) 139))
  have hc := Rw.fresh w 139 (byteRow t)
  have hB := (But2.refl g b w).alloc (.cells (byteRow t) 139)
  have hk := h.ok.k
  have hki : (d.keep : Int) ≤ 32 := by omega
  go_enter Tryz.func89, Tryz.ntmps89
  go_wp2
  have hcs : (⟨w.heap.size, 0, none⟩ : Addr).block ≠ b := by have := h.secs.lt; simp; omega
  generalize w.alloc (.cells (byteRow t) 139) = w1 at hA hc hB ⊢
  have c0 := hA.head.at 0
  have c4 := hA.head.at 4
  have hcpd := copy_sec hA.drew.secs hi hk ht hc.drew 32
  go_region
  have hD := hA.drew.putAt hi hk ht
  have hB2 := hB.drew.set_b (i * 32) (Lib.byteCells (t.take d.keep))
  generalize w1.drew.setCells b (i * 32) (Lib.byteCells (t.take d.keep)) = w2 at hD hB2 ⊢
  have c1 := hD.head.at 1
  have f1 := hD.head.free 1
  have c2 := hD.head.at 2
  have f2 := hD.head.free 2
  have hp := (hD.head.put 1 (.bool true)).put 2 (.bool false)
  have hs := (hD.secs.same (heap_setCell_other w2 ⟨g, 1, none⟩ b (.bool true) (Ne.symm h.ne))).same (heap_setCell_other _ ⟨g, 2, none⟩ b (.bool false) (Ne.symm h.ne))
  have hB3 := (hB2.set_g 1 (.bool true)).set_g 2 (.bool false)
  go_wp2
  go_end0
  exact ⟨rfl, ⟨hp, hs, h.ne, ⟨hD.ok.n1, hD.ok.n2, hD.ok.z, hD.ok.k, hD.ok.l⟩, hD.cap1⟩, hB3⟩
theorem zero32 : (Tryz.prog.info? 139).map (fun i => (i.zero, i.size)) = some (some (.agg (byteRow (List.replicate 32 0))), 32) := by kernel_rfl
/-- Behind 'var whole sector; copy(whole[:], data)'. -/
theorem copy_new (s : ByteArray) (hs : s.size ≤ 32) (w : World) :
    (Builtin.copy_ #[60, 9] 3 #[.slice (some ⟨w.heap.size, 0, none⟩) 32 32, .string s]).run Tryz.prog (w.alloc (.cells (byteRow (List.replicate 32 0)) 139)) =
      .ok (goInt s.size) (w.alloc (.cells (byteRow (full s.data.toList)) 139)) := by
  have := Go.Lib.run_copy_row_string (P := Tryz.prog) (w.alloc (.cells (byteRow (List.replicate 32 0)) 139)) 60 9 3 5 w.heap.size 0 32 32 s _ _ Tryz.underlying60 (by kernel_rfl) (Rw.fresh w _ _) hs (by simp [byteRow, Lib.byteCells]; exact hs)
  rw [this, World.setRow_alloc_new]
  simp only [byteRow, Lib.byteCells, full, List.map_append, List.map_replicate, List.drop_replicate, List.take_zero, List.nil_append, Nat.zero_add, Array.length_toList]
  rfl
theorem zrow_lit : byteRow (List.replicate 32 0) = #[.int .u8 0, .int .u8 0, .int .u8 0, .int .u8 0, .int .u8 0, .int .u8 0, .int .u8 0, .int .u8 0, .int .u8 0, .int .u8 0, .int .u8 0, .int .u8 0, .int .u8 0, .int .u8 0, .int .u8 0, .int .u8 0, .int .u8 0, .int .u8 0, .int .u8 0, .int .u8 0, .int .u8 0, .int .u8 0, .int .u8 0, .int .u8 0, .int .u8 0, .int .u8 0, .int .u8 0, .int .u8 0, .int .u8 0, .int .u8 0, .int .u8 0, .int .u8 0] := by rfl
theorem write_no (i : Int) (s : ByteArray) (hn : ¬ d.may i s.data.toList) (h : DkAt w g b cap d) :
    Calls Tryz.prog 63 #[.pointer (some ⟨g, 0, none⟩), .int .i64 i, .string s] w fun e w' => e = .returned (.bool false) ∧ w = w' := by
  have c1 := h.head.at 1
  have hl : s.data.toList.length = s.size := Array.length_toList
  by_cases hd : d.down = true
  · rw [hd] at c1
    go_enter Tryz.func63, Tryz.ntmps63
    go_wp2_with fail
    go_ret
    exact ⟨rfl, rfl⟩
  · have hd' : d.down = false := by simpa using hd
    rw [hd'] at c1
    by_cases hi : 0 ≤ i ∧ i < (d.ss.length : Int)
    · have hsz : (32 : Int) < (s.size : Int) := by
        have : ¬ s.size ≤ 32 := fun hh => hn ⟨hd', hi.1, hi.2, by omega⟩
        omega
      go_enter Tryz.func63, Tryz.ntmps63
      go_wp2_with (go_at_call 88; with_reducible refine (has_any w g b cap d i true (decide_eq_true hi) h).mono ?_; rintro e w' ⟨rfl, hw⟩; subst hw)
      go_ret
      exact ⟨rfl, rfl⟩
    · go_enter Tryz.func63, Tryz.ntmps63
      go_wp2_with (go_at_call 88; with_reducible refine (has_any w g b cap d i false (decide_eq_false hi) h).mono ?_; rintro e w' ⟨rfl, hw⟩; subst hw)
      go_ret
      exact ⟨rfl, rfl⟩
set_option maxHeartbeats 1000000 in
theorem write_torn (i : Nat) (s : ByteArray) (hm : d.may i s.data.toList) (ha : d.armed = true) (hlf : d.left = 0) (h : DkAt w g b cap d) :
    Calls Tryz.prog 63 #[.pointer (some ⟨g, 0, none⟩), .int .i64 (i : Int), .string s] w fun e w' => e = .returned (.bool false) ∧ DkAt w' g b cap (d.tear i (full s.data.toList)) ∧ But2 g b w w' := by
  obtain ⟨hd, hi0, hi1, hs⟩ := hm
  have hl : s.data.toList.length = s.size := Array.length_toList
  have c1 := h.head.at 1
  rw [hd] at c1
  have hsz : (s.size : Int) ≤ 32 := by omega
  have hcp := copy_new s (by omega)
  simp only [zrow_lit] at hcp
  have hA := h.next ((Below.refl _ w).alloc (Nat.le_refl _) (.cells (byteRow (full s.data.toList)) 139))
  have hc := Rw.fresh w 139 (byteRow (full s.data.toList))
  have hB := (But2.refl g b w).alloc (.cells (byteRow (full s.data.toList)) 139)
  go_enter Tryz.func63, Tryz.ntmps63
  go_upto_region 5 with (go_at_call 88; with_reducible refine (has_any w g b cap d i true (decide_eq_true ⟨hi0, hi1⟩) h).mono ?_; rintro e w' ⟨rfl, hw⟩; subst hw)
  generalize w.alloc (.cells (byteRow (full s.data.toList)) 139) = w1 at hA hc hB ⊢
  have d2 := hA.head.at 2
  have d3 := hA.head.at 3
  rw [ha, hlf] at d2 d3
  have hinf : (Tryz.prog.info? 139).map (·.size) = some (byteRow (full s.data.toList)).size := by rw [byteRow_size, full_len _ hs]; kernel_rfl
  have htr := tear_any w1 g b cap d i (by omega) (full s.data.toList) (full_len _ hs) hA
  go_wp2_with (first
    | (refine wpList_load_row rfl 139 _ rfl w.heap.size rfl 139 (byteRow (full s.data.toList)) (0, 0) _ hc Tryz.underlying139 rfl hinf ?_)
    | (go_at_call 89; with_reducible refine htr.mono ?_; rintro e w2 ⟨rfl, hD2, hB2⟩))
  go_ret
  exact ⟨rfl, hD2, hB.trans hB2⟩
set_option maxHeartbeats 1000000 in
theorem write_ok (i : Nat) (s : ByteArray) (hm : d.may i s.data.toList) (ha : ¬ (d.armed = true ∧ d.left = 0)) (h : DkAt w g b cap d) :
    Calls Tryz.prog 63 #[.pointer (some ⟨g, 0, none⟩), .int .i64 (i : Int), .string s] w fun e w' => e = .returned (.bool true) ∧ DkAt w' g b cap (d.done i (full s.data.toList)) ∧ But2 g b w w' := by
  obtain ⟨hd, hi0, hi1, hs⟩ := hm
  have hl : s.data.toList.length = s.size := Array.length_toList
  have c1 := h.head.at 1
  rw [hd] at c1
  have hsz : (s.size : Int) ≤ 32 := by omega
  have hcp := copy_new s (by omega)
  simp only [zrow_lit] at hcp
  have hA := h.next ((Below.refl _ w).alloc (Nat.le_refl _) (.cells (byteRow (full s.data.toList)) 139))
  have hc := Rw.fresh w 139 (byteRow (full s.data.toList))
  have hB := (But2.refl g b w).alloc (.cells (byteRow (full s.data.toList)) 139)
  have hinf : (Tryz.prog.info? 139).map (·.size) = some (byteRow (full s.data.toList)).size := by rw [byteRow_size, full_len _ hs]; kernel_rfl
  go_enter Tryz.func63, Tryz.ntmps63
  go_upto_region 5 with (go_at_call 88; with_reducible refine (has_any w g b cap d i true (decide_eq_true ⟨hi0, hi1⟩) h).mono ?_; rintro e w' ⟨rfl, hw⟩; subst hw)
  have hcb : w.heap.size ≠ g ∧ w.heap.size ≠ b := by have := h.lt; omega
  generalize hw1 : w.alloc (.cells (byteRow (full s.data.toList)) 139) = w1 at hA hc hB ⊢
  by_cases hb : d.armed = true
  · have hlf : 0 < d.left := Nat.pos_of_ne_zero fun e => ha ⟨hb, e⟩
    have d2 := hA.head.at 2
    have d3 := hA.head.at 3
    have e3 := hA.head.free 3
    rw [hb] at d2
    have hne : ((d.left : Int) == 0) = false := by rw [beq_eq_false_iff_ne]; omega
    have hlb : d.left ≤ 9223372036854775807 := h.ok.l
    go_upto_region 10 with fail
    have hfit : (d.left : Int) - 1 = ((d.left - 1 : Nat) : Int) := by omega
    have hp := hA.head.put 3 (.int .i64 ((d.left : Int) - 1))
    have hD2 : DkAt (w1.setCell ⟨g, 3, none⟩ (.int .i64 ((d.left : Int) - 1))) g b cap { d with left := d.left - 1 } :=
      ⟨by simpa [hfit] using hp, hA.secs.same (heap_setCell_other w1 _ b _ (Ne.symm h.ne)), h.ne, ⟨h.ok.n1, h.ok.n2, h.ok.z, h.ok.k, by show d.left - 1 ≤ _; omega⟩, h.cap1⟩
    have hB2 := hB.set_g 3 (.int .i64 ((d.left : Int) - 1))
    have hc2 := hc.other (p := ⟨g, 3, none⟩) hcb.1 (.int .i64 ((d.left : Int) - 1))
    clear hp d2 d3 e3 hne hlb hfit hA hB hc hw1
    generalize w1.setCell ⟨g, 3, none⟩ (.int .i64 ((d.left : Int) - 1)) = w2 at hD2 hB2 hc2 ⊢
    have c0 := hD2.head.at 0
    have hii : (i : Int) < (d.ss.length : Int) := hi1
    have hth : w2.drew.there b (i * 32) (byteRow (full s.data.toList)).size := by rw [byteRow_size, full_len _ hs]; exact hD2.drew.secs.there (by show i < d.ss.length; omega) (Nat.le_refl _)
    refine wp_region_still_tail 7 (by kernel_rfl) (by kernel_rfl) ?_
    simp only [List.take_succ_cons, List.take_zero, List.drop_succ_cons, List.drop_zero]
    iterate 5 still_step
    refine wpStill_load (by kernel_rfl) 139 _ rfl w.heap.size 0 rfl (byteRow (full s.data.toList)) _ ?_ Tryz.underlying139 rfl hinf ?_
    · exact fun j v hv => by rw [Nat.zero_add]; exact (hc2.drew.at j).trans (by rw [← hv]; simp [byteRow])
    still_step
    refine wpStill_nil ?_
    change wpList _ _ _ _ _ w2.drew
    refine wpList_store_mid rfl 139 _ _ rfl b (i * 32) (byteRow (full s.data.toList)) rfl rfl hth hinf (byteRow_one _) ?_
    have hD3 := hD2.drew.putFull (i := i) (by show i < d.ss.length; omega) (full_len _ hs)
    have hB3 := hB2.drew.set_b (i * 32) (byteRow (full s.data.toList)).toList
    generalize w2.drew.setCells b (i * 32) (byteRow (full s.data.toList)).toList = w3 at hD3 hB3 ⊢
    go_wp2_with fail
    go_ret
    refine ⟨rfl, ?_, hB3⟩
    unfold Dk.done; rw [if_pos hb]
    exact hD3
  · have d2 := hA.head.at 2
    rw [show d.armed = false by simpa using hb] at d2
    go_upto_region 10 with fail
    have hD2 := hA
    have hB2 := hB
    have hc2 := hc
    clear d2 hA hB hc hw1
    generalize w1 = w2 at hD2 hB2 hc2 ⊢
    have c0 := hD2.head.at 0
    have hii : (i : Int) < (d.ss.length : Int) := hi1
    have hth : w2.drew.there b (i * 32) (byteRow (full s.data.toList)).size := by rw [byteRow_size, full_len _ hs]; exact hD2.drew.secs.there (by show i < d.ss.length; omega) (Nat.le_refl _)
    refine wp_region_still_tail 7 (by kernel_rfl) (by kernel_rfl) ?_
    simp only [List.take_succ_cons, List.take_zero, List.drop_succ_cons, List.drop_zero]
    iterate 5 still_step
    refine wpStill_load (by kernel_rfl) 139 _ rfl w.heap.size 0 rfl (byteRow (full s.data.toList)) _ ?_ Tryz.underlying139 rfl hinf ?_
    · exact fun j v hv => by rw [Nat.zero_add]; exact (hc2.drew.at j).trans (by rw [← hv]; simp [byteRow])
    still_step
    refine wpStill_nil ?_
    change wpList _ _ _ _ _ w2.drew
    refine wpList_store_mid rfl 139 _ _ rfl b (i * 32) (byteRow (full s.data.toList)) rfl rfl hth hinf (byteRow_one _) ?_
    have hD3 := hD2.drew.putFull (i := i) (by show i < d.ss.length; omega) (full_len _ hs)
    have hB3 := hB2.drew.set_b (i * 32) (byteRow (full s.data.toList)).toList
    generalize w2.drew.setCells b (i * 32) (byteRow (full s.data.toList)).toList = w3 at hD3 hB3 ⊢
    go_wp2_with fail
    go_ret
    refine ⟨rfl, ?_, hB3⟩
    unfold Dk.done; rw [if_neg hb]
    exact hD3
/-- Write, whatever it comes to. -/
theorem write_any (i : Int) (s : ByteArray) (h : DkAt w g b cap d) :
    Calls Tryz.prog 63 #[.pointer (some ⟨g, 0, none⟩), .int .i64 i, .string s] w fun e w' => e = .returned (.bool (d.wr i s.data.toList).1) ∧ DkAt w' g b cap (d.wr i s.data.toList).2 ∧ But2 g b w w' := by
  by_cases hm : d.may i s.data.toList
  · obtain ⟨k, rfl⟩ : ∃ k : Nat, i = (k : Int) := ⟨i.toNat, by have := hm.2.1; omega⟩
    by_cases ha : d.armed = true ∧ d.left = 0
    · have e : d.wr (k : Int) s.data.toList = (false, d.tear k (full s.data.toList)) := by unfold Dk.wr; rw [if_pos hm, if_pos ha]; rfl
      rw [e]
      exact write_torn w g b cap d k s hm ha.1 ha.2 h
    · have e : d.wr (k : Int) s.data.toList = (true, d.done k (full s.data.toList)) := by unfold Dk.wr; rw [if_pos hm, if_neg ha]; rfl
      rw [e]
      exact write_ok w g b cap d k s hm ha h
  · have e : d.wr i s.data.toList = (false, d) := by unfold Dk.wr; rw [if_neg hm]
    rw [e]
    exact (write_no w g b cap d i s hm h).mono fun e w' ⟨h1, h2⟩ => ⟨h1, h2 ▸ h, h2 ▸ But2.refl g b w⟩
end
end Go.Proofs.YtoddhdionhemjaaGreatDoor
namespace Go.Proofs.YtoddhdionhemjaaGreatDoor
open Go.RowKit
set_option maxRecDepth 100000

theorem nil_no (b n cap : Nat) (w : World) : (binOp .eql 64 (.slice (some ⟨b, 0, none⟩) n cap) (.slice none 0 0)).run Tryz.prog w = .ok (.bool false) w := by
  simp [binOp, go_sem, run_equal_slice_nil w 64 _ _ _ _ Tryz.underlying64]
set_option maxHeartbeats 1000000 in
theorem clone_any (w : World) (b cap : Nat) (ss : List (List UInt8)) (h1 : 1 ≤ ss.length) (h2 : ss.length ≤ 2000) (h : Secs w b ss) :
    Calls Tryz.prog 80 #[.slice (some ⟨b, 0, none⟩) ss.length cap] w fun e w' =>
      ∃ g cp, e = .returned (.slice (some ⟨g, 0, none⟩) ss.length cp) ∧ w.heap.size ≤ g ∧ ss.length ≤ cp ∧ Secs w' g ss ∧ Below w.heap.size w w' := by
  obtain ⟨cur, hr, hz, hc⟩ := h
  have hlt := hr.size
  have hat : ∀ k, k < ss.length * 32 → ∃ x : UInt8, cur[k]? = some (.int .u8 (x.toNat : Int)) := fun k hk => by
    have hi : ss[k / 32]? = some (ss[k / 32]'(by omega)) := List.getElem?_eq_getElem _
    obtain ⟨hl, hx⟩ := hc _ _ hi
    have := hx (k % 32) _ (List.getElem?_eq_getElem (by omega))
    exact ⟨_, by rw [← this]; congr 1; omega⟩
  obtain ⟨news, hn⟩ : ∃ news, news = cur.toList.take (ss.length * 32) := ⟨_, rfl⟩
  have hnl : news.length = ss.length * 32 := by rw [hn]; simp; omega
  have hng : ∀ k, k < ss.length * 32 → news[k]? = cur[k]? := fun k hk => by rw [hn, List.getElem?_take, if_pos hk]; simp
  have hone : ∀ u ∈ news, u.oneCell' = true := by
    intro u hu
    obtain ⟨k, hk, rfl⟩ := List.mem_iff_getElem.1 hu
    obtain ⟨x, hx⟩ := hat k (by omega)
    have := hng k (by omega)
    rw [List.getElem?_eq_getElem hk, hx] at this
    rw [Option.some.inj this]; rfl
  have hr' := hr.alloc (.cells #[] 139)
  have hnews : ∀ j u, news[j]? = some u → (w.alloc (.cells #[] 139)).cell? ((⟨b, 0, none⟩ : Addr).add j) = some u := fun j u hu => by
    have hj := (List.getElem?_eq_some_iff.1 hu).1
    rw [Addr.add_mid, Nat.zero_add, hr'.at, ← hng j (by omega), hu]
  obtain ⟨i0, hi, hz0, hz1, hz2⟩ := info_parts secinfo
  have hown : (w.alloc (.cells #[] 139)).ownsRow w.heap.size 139 32 (.slice (some ⟨w.heap.size, 0, none⟩) 0 0) 0 [] :=
    ⟨rfl, .inr ⟨w.heap.size, 0, #[], rfl, Nat.le_refl _, Rw.fresh w _ _, Nat.le_refl _, Nat.zero_le _, rfl, rfl⟩⟩
  have hb0 := (Below.refl w.heap.size w).alloc (Nat.le_refl _) (.cells #[] 139)
  have hsz : w.heap.size ≤ (w.alloc (.cells #[] 139)).heap.size := hb0.size
  have hnn := nil_no b ss.length cap
  have hml : 0 + ss.length ≤ maxLen := by unfold maxLen; omega
  go_enter Tryz.func80, Tryz.ntmps80
  go_wp2_with (at_builtin; refine wpList_append_own _ rfl _ _ 64 rfl w.heap.size 139 i0 _ 32 32 Tryz.underlying64 hi hz0 hz1 hz2 (by simp [Value.cells]) (by omega) _ 0 [] rfl hown ⟨b, 0, none⟩ ss.length cap news rfl hnl hnews hone hml (by omega) hsz ?_; intro v' w' ho hgr hnil)
  go_ret
  rw [Nat.zero_add, List.nil_append] at ho
  rcases ho.2 with ⟨_, h0⟩ | ⟨g, cp, cur', h3, h4, h5, h6, _, h7, h8⟩
  · omega
  · subst h3
    refine ⟨g, cp, rfl, h4, h6, ⟨cur', h5, by omega, fun i s hs => ?_⟩, hb0.grown hgr hsz (fun k hk => ?_)⟩
    · obtain ⟨hl, hx⟩ := hc i s hs
      refine ⟨hl, fun j x hj => ?_⟩
      have hjl := (List.getElem?_eq_some_iff.1 hj).1
      have hil := (List.getElem?_eq_some_iff.1 hs).1
      rw [← hx j x hj, ← hng (i * 32 + j) (by omega), ← h8, List.getElem?_take, if_pos (by omega)]
      simp
    · cases hk; exact Nat.le_refl _
end Go.Proofs.YtoddhdionhemjaaGreatDoor
