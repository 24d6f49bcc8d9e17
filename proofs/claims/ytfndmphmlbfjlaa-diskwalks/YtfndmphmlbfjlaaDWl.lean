/- DiskWalks: what is known while it runs; the frames of its two loops. -/
import Derived.Test.YtfndmphmlbfjlaaDkI
import Derived.Test.YtfndmphmlbfjlaaDkT
namespace Go.Proofs.Ytfndmphmlbfjlaa
open Go.RowKit Go.Shelf
attribute [local go_sem] Oper.semAt_some

/-- What lies while DiskWalks runs: five boxes and the disk. -/
structure WI (w W : World) (R Db Mb Sb Ib G B cp : Nat) (d : Dk) (M : Nat) (s t : Int) : Prop where
  r : Boxed W R 4 (.bool false)
  db : Boxed W Db 22 (.pointer (some ⟨G, 0, none⟩))
  mb : Boxed W Mb 3 (.int .i64 (M : Int))
  sb : Boxed W Sb 3 (.int .i64 s)
  ib : Boxed W Ib 3 (.int .i64 t)
  dk : DkAt W G B cp d
  bel : Below w.heap.size w W
theorem conv2 (c e : UInt8) (v : World) :
    (convert 41 9 (.slice (some ⟨v.heap.size, 0, none⟩) 2 2)).run Try.prog (v.alloc (.cells #[.int .u8 (c.toNat : Int), .int .u8 (e.toNat : Int)] 5)) =
      .ok (.string ⟨#[c, e]⟩) (v.alloc (.cells #[.int .u8 (c.toNat : Int), .int .u8 (e.toNat : Int)] 5)) :=
  conv_row v.heap.size 2 [c, e] (Rw.fresh v _ _) rfl
/-- The first loop: what is known of the disk while it is filled. -/
structure W1 (w W : World) (R Db G B : Nat) (k : Nat) : Prop where
  r : Boxed W R 4 (.bool false)
  db : Boxed W Db 22 (.pointer (some ⟨G, 0, none⟩))
  dk : ∃ d, DkAt W G B k d ∧ d.ss.length = k
  bel : Below w.heap.size w W
theorem bx_but {W W' : World} {g b X : Nat} {t : TypeId} {v : Value} (h : Boxed W X t v) (hb : But2 g b W W') (h1 : X ≠ g) (h2 : X ≠ b) : Boxed W' X t v := (hb.block X h.lt h1 h2).trans h
theorem bx_next {W W' : World} {X : Nat} {t : TypeId} {v : Value} (h : Boxed W X t v) (hb : Below W.heap.size W W') : Boxed W' X t v := (hb.block X h.lt).trans h
theorem wr_len' (d : Dk) (i : Int) (s : List UInt8) : (d.wr i s).2.ss.length = d.ss.length := by
  unfold Dk.wr
  split
  · split
    · simp [Dk.put]
    · simp [Dk.put]
  · rfl
theorem tmps_lit (T : Array Value) (hz : T.size = 121) : T = #[T.getD 0 undef, T.getD 1 undef, T.getD 2 undef, T.getD 3 undef, T.getD 4 undef, T.getD 5 undef, T.getD 6 undef, T.getD 7 undef, T.getD 8 undef, T.getD 9 undef, T.getD 10 undef, T.getD 11 undef, T.getD 12 undef, T.getD 13 undef, T.getD 14 undef, T.getD 15 undef, T.getD 16 undef, T.getD 17 undef, T.getD 18 undef, T.getD 19 undef, T.getD 20 undef, T.getD 21 undef, T.getD 22 undef, T.getD 23 undef, T.getD 24 undef, T.getD 25 undef, T.getD 26 undef, T.getD 27 undef, T.getD 28 undef, T.getD 29 undef, T.getD 30 undef, T.getD 31 undef, T.getD 32 undef, T.getD 33 undef, T.getD 34 undef, T.getD 35 undef, T.getD 36 undef, T.getD 37 undef, T.getD 38 undef, T.getD 39 undef, T.getD 40 undef, T.getD 41 undef, T.getD 42 undef, T.getD 43 undef, T.getD 44 undef, T.getD 45 undef, T.getD 46 undef, T.getD 47 undef, T.getD 48 undef, T.getD 49 undef, T.getD 50 undef, T.getD 51 undef, T.getD 52 undef, T.getD 53 undef, T.getD 54 undef, T.getD 55 undef, T.getD 56 undef, T.getD 57 undef, T.getD 58 undef, T.getD 59 undef, T.getD 60 undef, T.getD 61 undef, T.getD 62 undef, T.getD 63 undef, T.getD 64 undef, T.getD 65 undef, T.getD 66 undef, T.getD 67 undef, T.getD 68 undef, T.getD 69 undef, T.getD 70 undef, T.getD 71 undef, T.getD 72 undef, T.getD 73 undef, T.getD 74 undef, T.getD 75 undef, T.getD 76 undef, T.getD 77 undef, T.getD 78 undef, T.getD 79 undef, T.getD 80 undef, T.getD 81 undef, T.getD 82 undef, T.getD 83 undef, T.getD 84 undef, T.getD 85 undef, T.getD 86 undef, T.getD 87 undef, T.getD 88 undef, T.getD 89 undef, T.getD 90 undef, T.getD 91 undef, T.getD 92 undef, T.getD 93 undef, T.getD 94 undef, T.getD 95 undef, T.getD 96 undef, T.getD 97 undef, T.getD 98 undef, T.getD 99 undef, T.getD 100 undef, T.getD 101 undef, T.getD 102 undef, T.getD 103 undef, T.getD 104 undef, T.getD 105 undef, T.getD 106 undef, T.getD 107 undef, T.getD 108 undef, T.getD 109 undef, T.getD 110 undef, T.getD 111 undef, T.getD 112 undef, T.getD 113 undef, T.getD 114 undef, T.getD 115 undef, T.getD 116 undef, T.getD 117 undef, T.getD 118 undef, T.getD 119 undef, T.getD 120 undef] := by
  have e : T = ((List.range 121).map (fun i => T.getD i undef)).toArray := by
    apply Array.ext
    · simp [hz]
    · intro i h1 h2; simp [Array.getD, h1]
  exact e.trans (by kernel_rfl)
def FrO (R Db Mb Sb Ib Bx : Nat) (S : ByteArray) (a : Act) : Prop := ∃ f : Nat → Value, a = { tmps := #[f 0, f 1, f 2, f 3, f 4, f 5, .pointer (some ⟨R, 0, none⟩), f 7, .pointer (some ⟨Db, 0, none⟩), f 9, .pointer (some ⟨Mb, 0, none⟩), .pointer (some ⟨Sb, 0, none⟩), .pointer (some ⟨Ib, 0, none⟩), .pointer (some ⟨Bx, 0, none⟩), .string S, f 15, f 16, f 17, f 18, f 19, f 20, f 21, f 22, f 23, f 24, f 25, f 26, f 27, f 28, f 29, f 30, f 31, f 32, f 33, f 34, f 35, f 36, f 37, f 38, f 39, f 40, f 41, f 42, f 43, f 44, f 45, f 46, f 47, f 48, f 49, f 50, f 51, f 52, f 53, f 54, f 55, f 56, f 57, f 58, f 59, f 60, f 61, f 62, f 63, f 64, f 65, f 66, f 67, f 68, f 69, f 70, f 71, f 72, f 73, f 74, f 75, f 76, f 77, f 78, f 79, f 80, f 81, f 82, f 83, f 84, f 85, f 86, f 87, f 88, f 89, f 90, f 91, f 92, f 93, f 94, f 95, f 96, f 97, f 98, f 99, f 100, f 101, f 102, f 103, f 104, f 105, f 106, f 107, f 108, f 109, f 110, f 111, f 112, f 113, f 114, f 115, f 116, f 117, f 118, f 119, f 120], defers := [] }
theorem FrO.mk (R Db Mb Sb Ib Bx : Nat) (S : ByteArray) {a : Act} (hd : a.defers = []) (hz : a.tmps.size = 121) (h6 : a.tmps[6]? = some (.pointer (some ⟨R, 0, none⟩))) (h8 : a.tmps[8]? = some (.pointer (some ⟨Db, 0, none⟩))) (h10 : a.tmps[10]? = some (.pointer (some ⟨Mb, 0, none⟩))) (h11 : a.tmps[11]? = some (.pointer (some ⟨Sb, 0, none⟩))) (h12 : a.tmps[12]? = some (.pointer (some ⟨Ib, 0, none⟩))) (h13 : a.tmps[13]? = some (.pointer (some ⟨Bx, 0, none⟩))) (h14 : a.tmps[14]? = some (.string S)) : FrO R Db Mb Sb Ib Bx S a := by
  refine ⟨fun i => a.tmps.getD i undef, ?_⟩
  have e : a.tmps = #[a.tmps.getD 0 undef, a.tmps.getD 1 undef, a.tmps.getD 2 undef, a.tmps.getD 3 undef, a.tmps.getD 4 undef, a.tmps.getD 5 undef, a.tmps.getD 6 undef, a.tmps.getD 7 undef, a.tmps.getD 8 undef, a.tmps.getD 9 undef, a.tmps.getD 10 undef, a.tmps.getD 11 undef, a.tmps.getD 12 undef, a.tmps.getD 13 undef, a.tmps.getD 14 undef, a.tmps.getD 15 undef, a.tmps.getD 16 undef, a.tmps.getD 17 undef, a.tmps.getD 18 undef, a.tmps.getD 19 undef, a.tmps.getD 20 undef, a.tmps.getD 21 undef, a.tmps.getD 22 undef, a.tmps.getD 23 undef, a.tmps.getD 24 undef, a.tmps.getD 25 undef, a.tmps.getD 26 undef, a.tmps.getD 27 undef, a.tmps.getD 28 undef, a.tmps.getD 29 undef, a.tmps.getD 30 undef, a.tmps.getD 31 undef, a.tmps.getD 32 undef, a.tmps.getD 33 undef, a.tmps.getD 34 undef, a.tmps.getD 35 undef, a.tmps.getD 36 undef, a.tmps.getD 37 undef, a.tmps.getD 38 undef, a.tmps.getD 39 undef, a.tmps.getD 40 undef, a.tmps.getD 41 undef, a.tmps.getD 42 undef, a.tmps.getD 43 undef, a.tmps.getD 44 undef, a.tmps.getD 45 undef, a.tmps.getD 46 undef, a.tmps.getD 47 undef, a.tmps.getD 48 undef, a.tmps.getD 49 undef, a.tmps.getD 50 undef, a.tmps.getD 51 undef, a.tmps.getD 52 undef, a.tmps.getD 53 undef, a.tmps.getD 54 undef, a.tmps.getD 55 undef, a.tmps.getD 56 undef, a.tmps.getD 57 undef, a.tmps.getD 58 undef, a.tmps.getD 59 undef, a.tmps.getD 60 undef, a.tmps.getD 61 undef, a.tmps.getD 62 undef, a.tmps.getD 63 undef, a.tmps.getD 64 undef, a.tmps.getD 65 undef, a.tmps.getD 66 undef, a.tmps.getD 67 undef, a.tmps.getD 68 undef, a.tmps.getD 69 undef, a.tmps.getD 70 undef, a.tmps.getD 71 undef, a.tmps.getD 72 undef, a.tmps.getD 73 undef, a.tmps.getD 74 undef, a.tmps.getD 75 undef, a.tmps.getD 76 undef, a.tmps.getD 77 undef, a.tmps.getD 78 undef, a.tmps.getD 79 undef, a.tmps.getD 80 undef, a.tmps.getD 81 undef, a.tmps.getD 82 undef, a.tmps.getD 83 undef, a.tmps.getD 84 undef, a.tmps.getD 85 undef, a.tmps.getD 86 undef, a.tmps.getD 87 undef, a.tmps.getD 88 undef, a.tmps.getD 89 undef, a.tmps.getD 90 undef, a.tmps.getD 91 undef, a.tmps.getD 92 undef, a.tmps.getD 93 undef, a.tmps.getD 94 undef, a.tmps.getD 95 undef, a.tmps.getD 96 undef, a.tmps.getD 97 undef, a.tmps.getD 98 undef, a.tmps.getD 99 undef, a.tmps.getD 100 undef, a.tmps.getD 101 undef, a.tmps.getD 102 undef, a.tmps.getD 103 undef, a.tmps.getD 104 undef, a.tmps.getD 105 undef, a.tmps.getD 106 undef, a.tmps.getD 107 undef, a.tmps.getD 108 undef, a.tmps.getD 109 undef, a.tmps.getD 110 undef, a.tmps.getD 111 undef, a.tmps.getD 112 undef, a.tmps.getD 113 undef, a.tmps.getD 114 undef, a.tmps.getD 115 undef, a.tmps.getD 116 undef, a.tmps.getD 117 undef, a.tmps.getD 118 undef, a.tmps.getD 119 undef, a.tmps.getD 120 undef] := tmps_lit a.tmps hz
  have g6 : a.tmps.getD 6 undef = .pointer (some ⟨R, 0, none⟩) := by rw [Array.getD_eq_getD_getElem?, h6]; rfl
  have g8 : a.tmps.getD 8 undef = .pointer (some ⟨Db, 0, none⟩) := by rw [Array.getD_eq_getD_getElem?, h8]; rfl
  have g10 : a.tmps.getD 10 undef = .pointer (some ⟨Mb, 0, none⟩) := by rw [Array.getD_eq_getD_getElem?, h10]; rfl
  have g11 : a.tmps.getD 11 undef = .pointer (some ⟨Sb, 0, none⟩) := by rw [Array.getD_eq_getD_getElem?, h11]; rfl
  have g12 : a.tmps.getD 12 undef = .pointer (some ⟨Ib, 0, none⟩) := by rw [Array.getD_eq_getD_getElem?, h12]; rfl
  have g13 : a.tmps.getD 13 undef = .pointer (some ⟨Bx, 0, none⟩) := by rw [Array.getD_eq_getD_getElem?, h13]; rfl
  have g14 : a.tmps.getD 14 undef = .string S := by rw [Array.getD_eq_getD_getElem?, h14]; rfl
  cases a with | mk T D =>
  simp only at hd hz e g6 g8 g10 g11 g12 g13 g14 ⊢
  rw [hd, ← g6, ← g8, ← g10, ← g11, ← g12, ← g13, ← g14]
  exact congrArg (fun t => ({ tmps := t, defers := [] } : Act)) e
def FrI (Ib Bx : Nat) (y : Int) (a : Act) : Prop := ∃ f : Nat → Value, a = { tmps := #[f 0, f 1, f 2, f 3, f 4, f 5, f 6, f 7, f 8, f 9, f 10, f 11, .pointer (some ⟨Ib, 0, none⟩), .pointer (some ⟨Bx, 0, none⟩), f 14, f 15, f 16, .int .i64 y, f 18, f 19, f 20, f 21, f 22, f 23, f 24, f 25, f 26, f 27, f 28, f 29, f 30, f 31, f 32, f 33, f 34, f 35, f 36, f 37, f 38, f 39, f 40, f 41, f 42, f 43, f 44, f 45, f 46, f 47, f 48, f 49, f 50, f 51, f 52, f 53, f 54, f 55, f 56, f 57, f 58, f 59, f 60, f 61, f 62, f 63, f 64, f 65, f 66, f 67, f 68, f 69, f 70, f 71, f 72, f 73, f 74, f 75, f 76, f 77, f 78, f 79, f 80, f 81, f 82, f 83, f 84, f 85, f 86, f 87, f 88, f 89, f 90, f 91, f 92, f 93, f 94, f 95, f 96, f 97, f 98, f 99, f 100, f 101, f 102, f 103, f 104, f 105, f 106, f 107, f 108, f 109, f 110, f 111, f 112, f 113, f 114, f 115, f 116, f 117, f 118, f 119, f 120], defers := [] }
theorem FrI.mk (Ib Bx : Nat) (y : Int) {a : Act} (hd : a.defers = []) (hz : a.tmps.size = 121) (h12 : a.tmps[12]? = some (.pointer (some ⟨Ib, 0, none⟩))) (h13 : a.tmps[13]? = some (.pointer (some ⟨Bx, 0, none⟩))) (h17 : a.tmps[17]? = some (.int .i64 y)) : FrI Ib Bx y a := by
  refine ⟨fun i => a.tmps.getD i undef, ?_⟩
  have e : a.tmps = #[a.tmps.getD 0 undef, a.tmps.getD 1 undef, a.tmps.getD 2 undef, a.tmps.getD 3 undef, a.tmps.getD 4 undef, a.tmps.getD 5 undef, a.tmps.getD 6 undef, a.tmps.getD 7 undef, a.tmps.getD 8 undef, a.tmps.getD 9 undef, a.tmps.getD 10 undef, a.tmps.getD 11 undef, a.tmps.getD 12 undef, a.tmps.getD 13 undef, a.tmps.getD 14 undef, a.tmps.getD 15 undef, a.tmps.getD 16 undef, a.tmps.getD 17 undef, a.tmps.getD 18 undef, a.tmps.getD 19 undef, a.tmps.getD 20 undef, a.tmps.getD 21 undef, a.tmps.getD 22 undef, a.tmps.getD 23 undef, a.tmps.getD 24 undef, a.tmps.getD 25 undef, a.tmps.getD 26 undef, a.tmps.getD 27 undef, a.tmps.getD 28 undef, a.tmps.getD 29 undef, a.tmps.getD 30 undef, a.tmps.getD 31 undef, a.tmps.getD 32 undef, a.tmps.getD 33 undef, a.tmps.getD 34 undef, a.tmps.getD 35 undef, a.tmps.getD 36 undef, a.tmps.getD 37 undef, a.tmps.getD 38 undef, a.tmps.getD 39 undef, a.tmps.getD 40 undef, a.tmps.getD 41 undef, a.tmps.getD 42 undef, a.tmps.getD 43 undef, a.tmps.getD 44 undef, a.tmps.getD 45 undef, a.tmps.getD 46 undef, a.tmps.getD 47 undef, a.tmps.getD 48 undef, a.tmps.getD 49 undef, a.tmps.getD 50 undef, a.tmps.getD 51 undef, a.tmps.getD 52 undef, a.tmps.getD 53 undef, a.tmps.getD 54 undef, a.tmps.getD 55 undef, a.tmps.getD 56 undef, a.tmps.getD 57 undef, a.tmps.getD 58 undef, a.tmps.getD 59 undef, a.tmps.getD 60 undef, a.tmps.getD 61 undef, a.tmps.getD 62 undef, a.tmps.getD 63 undef, a.tmps.getD 64 undef, a.tmps.getD 65 undef, a.tmps.getD 66 undef, a.tmps.getD 67 undef, a.tmps.getD 68 undef, a.tmps.getD 69 undef, a.tmps.getD 70 undef, a.tmps.getD 71 undef, a.tmps.getD 72 undef, a.tmps.getD 73 undef, a.tmps.getD 74 undef, a.tmps.getD 75 undef, a.tmps.getD 76 undef, a.tmps.getD 77 undef, a.tmps.getD 78 undef, a.tmps.getD 79 undef, a.tmps.getD 80 undef, a.tmps.getD 81 undef, a.tmps.getD 82 undef, a.tmps.getD 83 undef, a.tmps.getD 84 undef, a.tmps.getD 85 undef, a.tmps.getD 86 undef, a.tmps.getD 87 undef, a.tmps.getD 88 undef, a.tmps.getD 89 undef, a.tmps.getD 90 undef, a.tmps.getD 91 undef, a.tmps.getD 92 undef, a.tmps.getD 93 undef, a.tmps.getD 94 undef, a.tmps.getD 95 undef, a.tmps.getD 96 undef, a.tmps.getD 97 undef, a.tmps.getD 98 undef, a.tmps.getD 99 undef, a.tmps.getD 100 undef, a.tmps.getD 101 undef, a.tmps.getD 102 undef, a.tmps.getD 103 undef, a.tmps.getD 104 undef, a.tmps.getD 105 undef, a.tmps.getD 106 undef, a.tmps.getD 107 undef, a.tmps.getD 108 undef, a.tmps.getD 109 undef, a.tmps.getD 110 undef, a.tmps.getD 111 undef, a.tmps.getD 112 undef, a.tmps.getD 113 undef, a.tmps.getD 114 undef, a.tmps.getD 115 undef, a.tmps.getD 116 undef, a.tmps.getD 117 undef, a.tmps.getD 118 undef, a.tmps.getD 119 undef, a.tmps.getD 120 undef] := tmps_lit a.tmps hz
  have g12 : a.tmps.getD 12 undef = .pointer (some ⟨Ib, 0, none⟩) := by rw [Array.getD_eq_getD_getElem?, h12]; rfl
  have g13 : a.tmps.getD 13 undef = .pointer (some ⟨Bx, 0, none⟩) := by rw [Array.getD_eq_getD_getElem?, h13]; rfl
  have g17 : a.tmps.getD 17 undef = .int .i64 y := by rw [Array.getD_eq_getD_getElem?, h17]; rfl
  cases a with | mk T D =>
  simp only at hd hz e g12 g13 g17 ⊢
  rw [hd, ← g12, ← g13, ← g17]
  exact congrArg (fun t => ({ tmps := t, defers := [] } : Act)) e

def tri (p : Nat) : Nat := p * (p + 1) / 2
theorem tri_succ (p : Nat) : tri (p + 1) = tri p + (p + 1) := by
  unfold tri
  have : (p + 1) * (p + 1 + 1) = p * (p + 1) + 2 * (p + 1) := by
    rw [Nat.mul_comm p (p + 1), Nat.mul_comm 2 (p + 1), ← Nat.mul_add]
    
  omega
theorem tri_le {p : Nat} (h : p ≤ 10) : tri p ≤ 55 := by
  unfold tri
  have : p * (p + 1) ≤ 10 * (10 + 1) := Nat.mul_le_mul h (by omega)
  omega
theorem wrap_sum (a b : Nat) (ha : a ≤ 1000) (hb : b ≤ 1000) : wrap64 ((a : Int) + (b : Int) + 1) = (a : Int) + (b : Int) + 1 := by unfold wrap64; omega
theorem tri_wrap : (j : Nat) → j ≤ 10 → wrap64 ((wrap64 ((j : Int) * ((j : Int) + 1))).tdiv 2) = (tri j : Int)
  | 0, _ => by kernel_rfl
  | 1, _ => by kernel_rfl
  | 2, _ => by kernel_rfl
  | 3, _ => by kernel_rfl
  | 4, _ => by kernel_rfl
  | 5, _ => by kernel_rfl
  | 6, _ => by kernel_rfl
  | 7, _ => by kernel_rfl
  | 8, _ => by kernel_rfl
  | 9, _ => by kernel_rfl
  | 10, _ => by kernel_rfl
  | j + 11, h => absurd h (by omega)
theorem Ord.le {d : Dk} {l : List (Sec d)} (h : Ord l) : l.length ≤ d.ss.length := by
  rcases Nat.eq_zero_or_pos l.length with h0 | h0
  · omega
  · have e := congrArg (·[l.length - 1]?) h
    simp only [List.getElem?_map, List.getElem?_range (show l.length - 1 < l.length by omega)] at e
    rw [List.getElem?_eq_getElem (show l.length - 1 < l.length by omega)] at e
    have h2 := (l[l.length - 1]'(by omega)).2
    simp only [Option.map_some, Option.some.injEq] at e
    omega
theorem dk_grown {W W' : World} {row : Option Nat} {g b cap : Nat} {d : Dk} (h : DkAt W g b cap d) (hg : W.grownBy W' row) (hr : ∀ r, row = some r → ∃ o : Obj, W.heap[r]? = some o ∧ o.isCells = false) : DkAt W' g b cap d := by
  refine h.same (hg.block g h.lt.1 fun e => ?_) (hg.block b h.lt.2 fun e => ?_)
  · obtain ⟨o, ho, hc⟩ := hr g e.symm
    rw [show W.heap[g]? = _ from h.head] at ho
    cases ho; cases hc
  · obtain ⟨cur, h1, _⟩ := h.secs
    obtain ⟨o, ho, hc⟩ := hr b e.symm
    rw [show W.heap[b]? = _ from h1] at ho
    cases ho; cases hc
section
variable {w W W' : World} {R Db Mb Sb Ib G B cp : Nat} {d : Dk} {M : Nat} {s t : Int}
theorem bx_grown {X : Nat} {ty : TypeId} {v : Value} {row : Option Nat} (h : Boxed W X ty v) (hg : W.grownBy W' row) (hr : ∀ r, row = some r → ∃ o : Obj, W.heap[r]? = some o ∧ o.isCells = false) : Boxed W' X ty v :=
  boxed_own X ty (fun (_ : Unit) => v) () W W' row h hg hr
theorem WI.grown {N : Nat} (hN : w.heap.size ≤ N) {row : Option Nat} (h : WI w W R Db Mb Sb Ib G B cp d M s t) (hg : W.grownBy W' row) (hr : ∀ r, row = some r → N ≤ r ∧ ∃ o : Obj, W.heap[r]? = some o ∧ o.isCells = false) : WI w W' R Db Mb Sb Ib G B cp d M s t := by
  have hr' := fun r e => (hr r e).2
  exact ⟨bx_grown h.r hg hr', bx_grown h.db hg hr', bx_grown h.mb hg hr', bx_grown h.sb hg hr', bx_grown h.ib hg hr', dk_grown h.dk hg hr', h.bel.grown hg h.bel.size (fun r e => Nat.le_trans hN (hr r e).1)⟩
theorem WI.next (h : WI w W R Db Mb Sb Ib G B cp d M s t) (hb : Below W.heap.size W W') : WI w W' R Db Mb Sb Ib G B cp d M s t :=
  ⟨bx_next h.r hb, bx_next h.db hb, bx_next h.mb hb, bx_next h.sb hb, bx_next h.ib hb, h.dk.next hb, h.bel.trans (hb.mono h.bel.size)⟩
theorem WI.setS (h : WI w W R Db Mb Sb Ib G B cp d M s t) (hn : Sb ≠ R ∧ Sb ≠ Db ∧ Sb ≠ Mb ∧ Sb ≠ Ib ∧ Sb ≠ G ∧ Sb ≠ B) (hw : w.heap.size ≤ Sb) (s' : Int) : WI w (W.setCell ⟨Sb, 0, none⟩ (.int .i64 s')) R Db Mb Sb Ib G B cp d M s' t := by
  obtain ⟨n1, n2, n3, n4, n5, n6⟩ := hn
  exact ⟨h.r.other (Ne.symm n1) _, h.db.other (Ne.symm n2) _, h.mb.other (Ne.symm n3) _, h.sb.set _, h.ib.other (Ne.symm n4) _, h.dk.same (heap_setCell_other W _ G _ (Ne.symm n5)) (heap_setCell_other W _ B _ (Ne.symm n6)), h.bel.setCell (p := ⟨Sb, 0, none⟩) hw _⟩
theorem WI.setI (h : WI w W R Db Mb Sb Ib G B cp d M s t) (hn : Ib ≠ R ∧ Ib ≠ Db ∧ Ib ≠ Mb ∧ Ib ≠ Sb ∧ Ib ≠ G ∧ Ib ≠ B) (hw : w.heap.size ≤ Ib) (t' : Int) : WI w (W.setCell ⟨Ib, 0, none⟩ (.int .i64 t')) R Db Mb Sb Ib G B cp d M s t' := by
  obtain ⟨n1, n2, n3, n4, n5, n6⟩ := hn
  exact ⟨h.r.other (Ne.symm n1) _, h.db.other (Ne.symm n2) _, h.mb.other (Ne.symm n3) _, h.sb.other (Ne.symm n4) _, h.ib.set _, h.dk.same (heap_setCell_other W _ G _ (Ne.symm n5)) (heap_setCell_other W _ B _ (Ne.symm n6)), h.bel.setCell (p := ⟨Ib, 0, none⟩) hw _⟩
end
theorem Kc.grown {n₀ N0 : Nat} {A W W' : World} (h : Kc n₀ N0 A W) {row : Option Nat} (hg : W.grownBy W' row) (hr : ∀ r, row = some r → ∃ o : Obj, W.heap[r]? = some o ∧ o.isCells = false) : Kc n₀ N0 A W' := by
  refine h.trans ⟨hg.os, hg.tape, hg.output, hg.size, fun k cs t fr hk _ => ?_⟩
  refine (hg.block k (Array.getElem?_eq_some_iff.1 hk).1 fun e => ?_).trans hk
  obtain ⟨o, ho, hc⟩ := hr k e.symm
  rw [hk] at ho
  cases ho; cases hc
end Go.Proofs.Ytfndmphmlbfjlaa
