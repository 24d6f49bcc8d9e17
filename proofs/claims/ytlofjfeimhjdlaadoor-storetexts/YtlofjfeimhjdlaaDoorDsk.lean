/- A DISK, AS PLAIN DATA, AND AS IT LIES IN MEMORY: its five fields in one block, its sectors of 32 bytes each in another. -/
import Derived.Test.YtlofjfeimhjdlaaDoorRow
import Derived.Deep.WholeRow
namespace Go.Proofs.YtlofjfeimhjdlaaDoor
open Go.RowKit

/-- A disk: its sectors, is it down, is it armed, how many writes go well, how many bytes of the torn one are written. -/
structure Dk where
  ss : List (List UInt8)
  down : Bool
  armed : Bool
  left : Nat
  keep : Nat
def full (s : List UInt8) : List UInt8 := s ++ List.replicate (32 - s.length) 0
theorem full_len (s : List UInt8) (h : s.length ≤ 32) : (full s).length = 32 := by simp [full]; omega
def torn (k : Nat) (a b : List UInt8) : List UInt8 := a.take k ++ b.drop k
theorem torn_len (k : Nat) (a b : List UInt8) (h : k ≤ 32) (ha : a.length = 32) (hb : b.length = 32) : (torn k a b).length = 32 := by simp [torn]; omega
/-- Its state is right. -/
structure Dk.Ok (d : Dk) : Prop where
  n1 : 1 ≤ d.ss.length
  n2 : d.ss.length ≤ 2000
  z : ∀ (i : Nat) (s : List UInt8), d.ss[i]? = some s → s.length = 32
  k : d.keep ≤ 32
  l : d.left ≤ 9223372036854775807
def Dk.get (d : Dk) (i : Nat) : List UInt8 := d.ss.getD i []
theorem Dk.Ok.get {d : Dk} (h : d.Ok) {i : Nat} (hi : i < d.ss.length) : d.ss[i]? = some (d.get i) ∧ (d.get i).length = 32 := by
  have e : d.ss[i]? = some (d.get i) := by simp [Dk.get, List.getD, List.getElem?_eq_getElem hi]
  exact ⟨e, h.z _ _ e⟩
def Dk.put (d : Dk) (i : Nat) (s : List UInt8) : Dk := { d with ss := d.ss.set i s }
theorem Dk.Ok.put {d : Dk} (h : d.Ok) (i : Nat) (s : List UInt8) (hs : s.length = 32) : (d.put i s).Ok :=
  ⟨by simpa [Dk.put] using h.n1, by simpa [Dk.put] using h.n2, fun j t ht => by
    simp only [Dk.put, List.getElem?_set] at ht
    split at ht
    · split at ht
      · cases ht; exact hs
      · cases ht
    · exact h.z j t ht, h.k, h.l⟩
/-- There is such a sector, the disk is up, the data is not too long. -/
def Dk.may (d : Dk) (i : Int) (s : List UInt8) : Prop := d.down = false ∧ 0 ≤ i ∧ i < d.ss.length ∧ s.length ≤ 32
instance (d : Dk) (i : Int) (s : List UInt8) : Decidable (d.may i s) := by unfold Dk.may; infer_instance
def Dk.wr (d : Dk) (i : Int) (s : List UInt8) : Bool × Dk :=
  if d.may i s then
    if d.armed = true ∧ d.left = 0 then (false, { d.put i.toNat (torn d.keep (full s) (d.get i.toNat)) with down := true, armed := false })
    else (true, { d.put i.toNat (full s) with left := if d.armed = true then d.left - 1 else d.left })
  else (false, d)

/-- Nothing that was there has turned but blocks g and b. -/
structure But2 (g b : Nat) (w w' : World) : Prop where
  os : w'.os = w.os
  tape : w'.tape = w.tape
  output : w'.output = w.output
  size : w.heap.size ≤ w'.heap.size
  block : ∀ k, k < w.heap.size → k ≠ g → k ≠ b → w'.heap[k]? = w.heap[k]?
section
variable {g b : Nat} {w v x : World}
theorem But2.refl (g b : Nat) (w : World) : But2 g b w w := ⟨rfl, rfl, rfl, Nat.le_refl _, fun _ _ _ _ => rfl⟩
theorem But2.trans (h : But2 g b w v) (k : But2 g b v x) : But2 g b w x :=
  ⟨k.os.trans h.os, k.tape.trans h.tape, k.output.trans h.output, Nat.le_trans h.size k.size, fun i hi h1 h2 => (k.block i (Nat.lt_of_lt_of_le hi h.size) h1 h2).trans (h.block i hi h1 h2)⟩
theorem But2.of_below (g b : Nat) (h : Below w.heap.size w v) : But2 g b w v := ⟨h.os, h.tape, h.output, h.size, fun k hk _ _ => h.block k hk⟩
theorem But2.set_g (h : But2 g b w v) (i : Nat) (u : Value) : But2 g b w (v.setCell ⟨g, i, none⟩ u) :=
  h.trans ⟨rfl, rfl, rfl, by simp [World.setCell], fun k _ h1 _ => heap_setCell_other v _ k u h1⟩
theorem But2.set_b (h : But2 g b w v) (o : Nat) (us : List Value) : But2 g b w (v.setCells b o us) := by
  refine h.trans ?_
  have hb := below_setCells (B := 0) (g := b) (Nat.zero_le _) us o v v (Below.refl 0 v)
  exact ⟨hb.os, hb.tape, hb.output, hb.size, fun k _ _ h2 => heap_setCells b us o v k h2⟩
theorem But2.drew (h : But2 g b w v) : But2 g b w v.drew := h.trans ⟨rfl, rfl, rfl, Nat.le_refl _, fun _ _ _ _ => rfl⟩
theorem But2.alloc (h : But2 g b w v) (o : Obj) : But2 g b w (v.alloc o) := h.trans (But2.of_below g b ((Below.refl _ v).alloc (Nat.le_refl _) o))
/-- What lies below both blocks lies as it lay. -/
theorem But2.below {B : Nat} (h : But2 g b w v) (hB : B ≤ w.heap.size) (h1 : B ≤ g) (h2 : B ≤ b) : Below B w v :=
  ⟨h.os, h.tape, h.output, h.size, fun k hk => h.block k (by omega) (by omega) (by omega)⟩
theorem Rw.but {t : TypeId} {cs : Array Value} {k : Nat} (hr : Rw w k t cs) (h : But2 g b w v) (h1 : k ≠ g) (h2 : k ≠ b) : Rw v k t cs := (h.block k hr.size h1 h2).trans hr
end

/-- The sectors lie in block b. -/
def Secs (w : World) (b : Nat) (ss : List (List UInt8)) : Prop :=
  ∃ cur, Rw w b 90 cur ∧ ss.length * 32 ≤ cur.size ∧ ∀ (i : Nat) (s : List UInt8), ss[i]? = some s → s.length = 32 ∧ ∀ j x, s[j]? = some x → cur[i * 32 + j]? = some (.int .u8 (x.toNat : Int))
theorem byteCells_get (s : List UInt8) (j : Nat) : (Lib.byteCells s)[j]? = s[j]?.map (fun x => Value.int .u8 (x.toNat : Int)) := by simp [Lib.byteCells]
theorem byteCells_len (s : List UInt8) : (Lib.byteCells s).length = s.length := by simp [Lib.byteCells]
section
variable {w v : World} {b : Nat} {ss : List (List UInt8)}
theorem Secs.lt (h : Secs w b ss) : b < w.heap.size := by obtain ⟨cur, h1, _, _⟩ := h; exact h1.size
theorem Secs.range (h : Secs w b ss) {i : Nat} {s : List UInt8} (hi : ss[i]? = some s) : w.rangeAt b (i * 32) (Lib.byteCells s) := by
  obtain ⟨cur, h1, h2, h3⟩ := h
  intro j u hu
  rw [byteCells_get] at hu
  cases hx : s[j]? with
  | none => rw [hx] at hu; cases hu
  | some x =>
    rw [hx] at hu
    cases hu
    rw [h1.at]
    exact (h3 i s hi).2 j x hx
theorem Secs.there (h : Secs w b ss) {i n : Nat} (hi : i < ss.length) (hn : n ≤ 32) : w.there b (i * 32) n := by
  obtain ⟨cur, h1, h2, h3⟩ := h
  intro j hj
  refine ⟨?_, h1.free _⟩
  rw [h1.at, Array.getElem?_eq_getElem (by omega)]
  rfl
theorem Secs.same (h : Secs w b ss) (e : v.heap[b]? = w.heap[b]?) : Secs v b ss := by
  obtain ⟨cur, h1, h2, h3⟩ := h
  exact ⟨cur, e.trans h1, h2, h3⟩
/-- The first k bytes of sector i are turned into those of t. -/
theorem Secs.put (h : Secs w b ss) {i : Nat} {s : List UInt8} (hi : ss[i]? = some s) (hs : s.length = 32) (t : List UInt8) (ht : t.length ≤ 32) :
    Secs (w.setCells b (i * 32) (Lib.byteCells t)) b (ss.set i (t ++ s.drop t.length)) := by
  have hth := h.there (n := 32) (List.getElem?_eq_some_iff.1 hi).1 (Nat.le_refl _)
  obtain ⟨cur, h1, h2, h3⟩ := h
  obtain ⟨cur', hz, h1'⟩ := h1.setCells (Lib.byteCells t) (i * 32)
  refine ⟨cur', h1', by rw [List.length_set, hz]; exact h2, fun i' s' hs' => ⟨?_, fun j x hx => ?_⟩⟩
  · rw [List.getElem?_set] at hs'
    split at hs'
    · split at hs'
      · cases hs'; simp; omega
      · cases hs'
    · exact (h3 i' s' hs').1
  rw [← h1'.at]
  have hnew : ∀ j, j < t.length → (w.setCells b (i * 32) (Lib.byteCells t)).cell? ⟨b, i * 32 + j, none⟩ = some (.int .u8 ((t[j]?.getD 0).toNat : Int)) := fun j hj => by
    rw [World.cell?_setCells_in b (Lib.byteCells t) (i * 32) w (fun k hk => (hth k (by rw [byteCells_len] at hk; omega)).1) j (by rw [byteCells_len]; exact hj)]
    simp [Lib.byteCells, List.getElem?_eq_getElem hj]
  rw [List.getElem?_set] at hs'
  split at hs'
  · rename_i e
    subst e
    split at hs'
    · cases hs'
      by_cases hj : j < t.length
      · rw [hnew j hj]
        rw [List.getElem?_append_left hj] at hx
        rw [hx]
        rfl
      · rw [World.cell?_setCells_out b _ _ _ _ (fun _ _ => Or.inr (by rw [byteCells_len]; show i * 32 + t.length ≤ i * 32 + j; omega)), h1.at]
        rw [List.getElem?_append_right (by omega), List.getElem?_drop] at hx
        exact (h3 i s hi).2 j x (by rw [← hx]; congr 1; omega)
    · cases hs'
  · rename_i e
    obtain ⟨hl', h4⟩ := h3 i' s' hs'
    have hj := (List.getElem?_eq_some_iff.1 hx).1
    rw [World.cell?_setCells_out b _ _ _ _ (fun _ _ => by rw [byteCells_len]; show i' * 32 + j < i * 32 ∨ i * 32 + t.length ≤ i' * 32 + j; omega), h1.at]
    exact h4 j x hx
theorem Secs.len (h : Secs w b ss) {i : Nat} {s : List UInt8} (hi : ss[i]? = some s) : s.length = 32 := by
  obtain ⟨cur, h1, h2, h3⟩ := h
  exact (h3 i s hi).1
end
/-- The disk d lies in blocks g (its fields) and b (its sectors; room for cap). -/
structure DkAt (w : World) (g b cap : Nat) (d : Dk) : Prop where
  head : Rw w g 60 #[.slice (some ⟨b, 0, none⟩) d.ss.length cap, .bool d.down, .bool d.armed, .int .i64 (d.left : Int), .int .i64 (d.keep : Int)]
  secs : Secs w b d.ss
  ne : g ≠ b
  ok : d.Ok
  cap1 : d.ss.length ≤ cap
section
variable {w v : World} {g b cap : Nat} {d : Dk}
theorem DkAt.lt (h : DkAt w g b cap d) : g < w.heap.size ∧ b < w.heap.size := ⟨h.head.size, h.secs.lt⟩
theorem DkAt.same (h : DkAt w g b cap d) (hg : v.heap[g]? = w.heap[g]?) (hb : v.heap[b]? = w.heap[b]?) : DkAt v g b cap d := ⟨hg.trans h.head, h.secs.same hb, h.ne, h.ok, h.cap1⟩
theorem DkAt.below {B : Nat} (h : DkAt w g b cap d) (hb : Below B w v) (h1 : g < B) (h2 : b < B) : DkAt v g b cap d := h.same (hb.block g h1) (hb.block b h2)
theorem DkAt.next (h : DkAt w g b cap d) (hb : Below w.heap.size w v) : DkAt v g b cap d := h.below hb h.lt.1 h.lt.2
theorem DkAt.but {g' b' : Nat} (h : DkAt w g b cap d) (hb : But2 g' b' w v) (h1 : g ≠ g') (h2 : g ≠ b') (h3 : b ≠ g') (h4 : b ≠ b') : DkAt v g b cap d :=
  h.same (hb.block g h.lt.1 h1 h2) (hb.block b h.lt.2 h3 h4)
theorem DkAt.drew (h : DkAt w g b cap d) : DkAt w.drew g b cap d := h.same rfl rfl
end
end Go.Proofs.YtlofjfeimhjdlaaDoor
