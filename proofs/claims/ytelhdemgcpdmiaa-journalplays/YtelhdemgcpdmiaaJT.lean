/- THE WALK of the law's text: some text of at most 100 bytes. -/
import Derived.Test.YtelhdemgcpdmiaaJA
import Derived.Test.YtelhdemgcpdmiaaWthn
namespace Go.Proofs.Ytelhdemgcpdmiaa
open Go.RowKit

theorem conv_rowE {w : World} (g n : Nat) (l : List UInt8) (h : Rw w g 5 (byteRow l)) (hl : l.length = n) (T : ByteArray) (hT : T = ⟨l.toArray⟩) :
    (convert 55 9 (.slice (some ⟨g, 0, none⟩) n n)).run Try.prog w = .ok (.string T) w := by subst hT; exact conv_row g n l h hl
/-- While the text is made. -/
structure TxAt (w wr : World) (Q g n : Nat) (q : Array Value) (l : List UInt8) : Prop where
  box : Rw wr Q 38 q
  row : Rw wr g 5 (byteRow l)
  len : l.length = n
  bel : Below w.heap.size w wr
theorem u8_le6 (b : UInt8) : (b.toNat : Int) ≤ 255 := by have := b.toNat_lt; omega
theorem u8_of (x : Int) (h0 : 0 ≤ x) (h1 : x < 256) : ∃ b : UInt8, (b.toNat : Int) = x := ⟨UInt8.ofNat x.toNat, by rw [UInt8.toNat_ofNat']; omega⟩
set_option maxHeartbeats 1000000 in
theorem text_any (K N P Z : Int) (c : UInt8) (w : World) :
    Calls Try.prog 19 #[.agg #[.int .i64 K, .int .i64 N, .int .i64 P, .int .i64 Z, .int .u8 (c.toNat : Int)]] w fun e w' => ∃ s : ByteArray, e = .returned (.string s) ∧ s.size ≤ 100 ∧ Below w.heap.size w w' := by
  obtain ⟨n, hn, _, hn2⟩ := wthn_nat Z 0 100 (by omega) (by omega)
  have pn := within_to Z 0 100 n (by omega) (by omega) (by omega) hn
  have hmk := mkN n (by omega)
  have hcb := u8_le6 c
  have hq := Rw.fresh w 38 #[.int .i64 K, .int .i64 N, .int .i64 P, .int .i64 Z, .int .u8 (c.toNat : Int)]
  have hb := (Below.refl w.heap.size w).alloc (Nat.le_refl _) (.cells #[.int .i64 K, .int .i64 N, .int .i64 P, .int .i64 Z, .int .u8 (c.toNat : Int)] 38)
  have hz1 : (w.alloc (.cells #[.int .i64 K, .int .i64 N, .int .i64 P, .int .i64 Z, .int .u8 (c.toNat : Int)] 38)).heap.size = w.heap.size + 1 := by simp
  have hs0 : TxAt w ((w.alloc (.cells #[.int .i64 K, .int .i64 N, .int .i64 P, .int .i64 Z, .int .u8 (c.toNat : Int)] 38)).alloc (.cells (zrow n) 5)) w.heap.size (w.heap.size + 1) n #[.int .i64 K, .int .i64 N, .int .i64 P, .int .i64 Z, .int .u8 (c.toNat : Int)] (List.replicate n 0) :=
    ⟨hq.alloc _, by rw [← hz1]; exact Rw.fresh _ _ _, by simp, hb.alloc hb.size _⟩
  have c3 := hq.at 3
  clear hn hq hb
  go_enter Try.func19, Try.ntmps19
  go_wp2_with (go_at_call 17; (with_reducible refine (pn _).mono ?_); rintro e v ⟨rfl, hv⟩; subst hv)
  go_loopg [11] (n + 1) (fun g a wr => ∃ (j : Nat) (l : List UInt8), a = .int .i64 (j : Int) ∧ j ≤ n ∧ g = n + 1 - j ∧ TxAt w wr w.heap.size (w.heap.size + 1) n #[.int .i64 K, .int .i64 N, .int .i64 P, .int .i64 Z, .int .u8 (c.toNat : Int)] l)
  case atStart => exact ⟨0, _, rfl, by omega, by omega, hs0⟩
  case round =>
    obtain ⟨j, l, rfl, hj, hg, hT⟩ := hrel
    clear hs0 hmk pn c3
    by_cases hlt : j < n
    · have d1 : decide ((j : Int) < (n : Int)) = true := by simp; omega
      have c4 := hT.box.at 4
      have hjl : j < l.length := by rw [hT.len]; exact hlt
      have r1 := (hT.row.at j).trans (byteRow_at l j hjl)
      have r2 := hT.row.free j
      have hlti : (j : Int) < (n : Int) := by omega
      go_wp2_with fail
      go_roundg (n + 1 - (j + 1))
      case measure => omega
      case rel =>
        obtain ⟨b, hb⟩ := u8_of (((c.toNat : Int) + (j : Int) / 7) % 256) (by omega) (by omega)
        refine ⟨j + 1, l.set j b, by go_num, by omega, rfl, hT.box.other (p := ⟨w.heap.size + 1, j, none⟩) (by show w.heap.size ≠ w.heap.size + 1; omega) _, ?_, by rw [List.length_set]; exact hT.len, hT.bel.setCell (p := ⟨w.heap.size + 1, j, none⟩) (Nat.le_succ _) _⟩
        rw [← hb, ← byteRow_set]
        exact hT.row.put j _
    · obtain rfl : j = n := by omega
      have d1 : decide ((j : Int) < (j : Int)) = false := by simp
      obtain ⟨T, hTe⟩ : ∃ T : ByteArray, T = ⟨l.toArray⟩ := ⟨_, rfl⟩
      have hcv := conv_rowE (w.heap.size + 1) j l hT.row hT.len T hTe
      have hTz : T.size = j := by rw [hTe]; simpa [ByteArray.size] using hT.len
      clear hTe
      go_wp2_with fail
      go_ret
      exact ⟨T, rfl, by omega, hT.bel⟩
end Go.Proofs.Ytelhdemgcpdmiaa
