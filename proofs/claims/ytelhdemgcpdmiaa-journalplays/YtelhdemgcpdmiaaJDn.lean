/- THE WALK of JournalDown. -/
import Derived.Test.YtelhdemgcpdmiaaJF
import Derived.Test.YtelhdemgcpdmiaaJT
import Derived.Test.YtelhdemgcpdmiaaJP
namespace Go.Proofs.Ytelhdemgcpdmiaa
open Go.RowKit

section
variable {w0 W : World} {G B cap jg : Nat} {d : Dk} {v : Value} {ts : List (List UInt8)}
theorem jo_full (h : JO w0 W G B cap jg d v ts false) (ho : Holds d.ss ts) (s : ByteArray) (hs : s.size ≤ 1099511627776) (hl : d.ss.length < (flat ts).length + (pieces s.data.toList).length) :
    Calls Try.prog 11 #[.pointer (some ⟨jg, 0, none⟩), .string s] W fun r W' => r = .returned (.int .i64 6) ∧ JO w0 W' G B cap jg d v ts false ∧ Below W.heap.size W W' :=
  (commit_full W w0.heap.size jg G B cap d v ts (flat ts).length s hs ho.le h.dk h.jn hl).mono fun _ _ ⟨h1, h2⟩ => ⟨h1, h.next h2, h2⟩
theorem jo_torn (h : JO w0 W G B cap jg d v ts true) (s : ByteArray) :
    Calls Try.prog 11 #[.pointer (some ⟨jg, 0, none⟩), .string s] W fun r W' => r = .returned (.int .i64 9) ∧ W = W' :=
  commit_torn W w0.heap.size jg G v ts (flat ts).length s h.jn
/-- Two journals on one disk, the second one opened later: what is done by the second leaves the first. -/
theorem jn_apart {W W' : World} {base jg G G' B jo e : Nat} {v vo : Value} {ts : List (List UInt8)} {t : Bool} (h : JnAt W base jg G v ts e t) (hd : ¬ JS jg v G' ∧ ¬ JS jg v B) (h1 : ∀ k, JS jg v k → k < jo) (h2 : ∀ k q, JS jg v k → vo.ownBlock = some q → k < q) (hb : But (JB G' B jo vo) W W') : JnAt W' base jg G v ts e t := by
  have hn : ∀ k, JS jg v k → ¬ JB G' B jo vo k := fun k hk hB => by
    rcases hB with (rfl | rfl) | rfl | hB
    · exact hd.1 hk
    · exact hd.2 hk
    · exact absurd (h1 _ hk) (Nat.lt_irrefl _)
    · exact absurd (h2 k k hk hB) (Nat.lt_irrefl _)
  exact h.butS hb (hn _ (.inl rfl)) (fun k hk => hn _ (.inr hk))
end
def al : List UInt8 := [97]
section
variable {w W : World} {G B jg : Nat} {d : Dk} {v : Value}
theorem flat_al : (flat [al]).length = 1 := flat_one (s := ⟨#[97]⟩) (by decide)
theorem c_a (h : JO w W G B 6 jg (newDk 6) v [] false) :
    Calls Try.prog 11 #[.pointer (some ⟨jg, 0, none⟩), .string ⟨#[97]⟩] W fun r W' => r = .returned (.int .i64 0) ∧ ∃ d' v', JO w W' G B 6 jg d' v' [al] false ∧ Holds d'.ss [al] ∧ d'.down = false ∧ d'.ss.length = 6 :=
  (jo_commit h (Holds.new 6) ⟨#[97]⟩ 1 (short_len (by decide)) (by decide) (by simp) rfl (by simp [flat, newDk]) (fun h => by cases h)).mono fun r W' ⟨h1, d', v', h2, h3, h4, h5, _⟩ =>
    ⟨h1, d', v', h2, h3, by rw [h4]; rfl, by rw [h5]; simp [newDk]⟩
theorem c_b (K : Nat) (hK : K ≤ 31) (h : JO w W G B 6 jg { d with armed := true, left := 0, keep := K } v [al] false) (ho : Holds d.ss [al]) (hd : d.down = false) (hn : d.ss.length = 6) :
    Calls Try.prog 11 #[.pointer (some ⟨jg, 0, none⟩), .string ⟨#[98]⟩] W fun r W' => r = .returned (.int .i64 9) ∧ ∃ d', JO w W' G B 6 jg d' v [al] true ∧ Holds d'.ss [al] ∧ d'.armed = false ∧ d'.ss.length = 6 := by
  have hf := flat_al
  refine (jo_tear h ho ⟨#[98]⟩ 1 (short_len (by decide)) (by decide) (by simp) hd (by rw [hf]; show 1 + 1 ≤ d.ss.length; omega) rfl (by show 0 < 1; omega)).mono fun r W' ⟨h1, d', h2, h3, h4, h5, _⟩ => ⟨h1, d', h2, ?_, by rw [h4], by rw [h5]; exact hn⟩
  rw [if_neg (by rintro ⟨_, h⟩; change K = 32 at h; omega)] at h3
  exact h3
theorem l_al {t : Bool} (h : JnAt W w.heap.size jg G v [al] 1 t) : Calls Try.prog 14 #[.pointer (some ⟨jg, 0, none⟩)] W fun r w' => r = .returned (.int .i64 1) ∧ W = w' := len_any W _ jg G v _ _ _ h
theorem JO.al {t : Bool} {cap : Nat} (h : JO w W G B cap jg d v [al] t) : JnAt W w.heap.size jg G v [Proofs.Ytelhdemgcpdmiaa.al] 1 t := by have := h.jn; rw [flat_al] at this; exact this
end
theorem zeros_full : (⟨(List.replicate 300 (0 : UInt8)).toArray⟩ : ByteArray).size = 300 ∧ (pieces (List.replicate 300 (0 : UInt8))).length = 10 := by
  constructor
  · exact List.length_replicate
  · rw [pieces_len, List.length_replicate]; omega
set_option maxRecDepth 100000 in
set_option maxHeartbeats 2000000 in
theorem jdown_any (n p : Int) (c : UInt8) (w : World) :
    Calls Try.prog 7 #[.int .i64 n, .int .i64 p, .int .u8 (c.toNat : Int)] w fun e w' => e = .returned (.bool true) ∧ Below w.heap.size w w' := by
  have p0 := new_any 6 6 rfl w
  have pT := fun v => text_any 0 0 0 n c v
  have pR := fun v => jruns_any v
  obtain ⟨K, hK, _, hK2⟩ := wthn_nat p 0 31 (by omega) (by omega)
  have pn := within_to p 0 31 K (by omega) (by omega) (by omega) hK
  obtain ⟨G, hG⟩ : ∃ G, w.heap.size + 1 = G := ⟨_, rfl⟩
  obtain ⟨B, hB⟩ : ∃ B, w.heap.size = B := ⟨_, rfl⟩
  rw [hG] at p0
  have g1 : w.heap.size ≤ G := by omega
  have g2 : w.heap.size ≤ B := by omega
  have p0' : Calls Try.prog 9 #[.int .i64 6] w fun e w' => e = .returned (.pointer (some ⟨G, 0, none⟩)) ∧ DkAt w' G B 6 (newDk 6) ∧ Below w.heap.size w w' := by rw [← hB]; exact p0
  have hnew : Holds (newDk 6).ss [] := Holds.new 6
  clear p0 hG hB hK
  go_enter Try.func7, Try.ntmps7
  go_upto_region 5 with (first
    | (go_at_call 9; (with_reducible refine p0'.mono ?_); rintro e w1 ⟨rfl, hA0, hb0⟩)
    | (go_at_call 10; (with_reducible refine (jo_open hA0 hnew hb0 g1 g2).mono ?_); rintro e w2 ⟨jg, v, rfl, hJ0, _, _, _⟩))
  clear hA0 hb0 p0'
  go_upto_region 6 with (go_at_call 19; (with_reducible refine (pT _).mono ?_); rintro e w3 ⟨s, rfl, hs, hb3⟩)
  have hJ3 := hJ0.next hb3
  clear hJ0 hb3 pT
  obtain ⟨Z, hZ⟩ : ∃ Z, Z = zrow 300 := ⟨_, rfl⟩
  have hmk : (Instr.makeSlice 55 (.int .i64 300) (.int .i64 300)).run Try.prog w3 = .ok (.slice (some ⟨w3.heap.size, 0, none⟩) 300 300) (w3.alloc (.cells Z 5)) := by rw [hZ]; exact mkN 300 (by omega) w3
  obtain ⟨L, hL⟩ : ∃ L : ByteArray, L = ⟨(List.replicate 300 (0 : UInt8)).toArray⟩ := ⟨_, rfl⟩
  have hcv : (convert 55 9 (.slice (some ⟨w3.heap.size, 0, none⟩) 300 300)).run Try.prog (w3.alloc (.cells Z 5)) = .ok (.string L) (w3.alloc (.cells Z 5)) := by
    rw [hZ]; exact conv_rowE w3.heap.size 300 _ (Rw.fresh w3 _ (byteRow (List.replicate 300 (0 : UInt8)))) List.length_replicate L hL
  have hJ4 := hJ3.next ((Below.refl w3.heap.size w3).alloc (Nat.le_refl _) (.cells Z 5))
  have hLz : L.size = 300 := by rw [hL]; exact zeros_full.1
  have hLp : (pieces L.data.toList).length = 10 := by rw [hL]; exact zeros_full.2
  clear hL hJ3 hZ
  go_upto_region 7 with fail
  have pF := jo_full hJ4 hnew L (by omega) (by rw [hLp]; simp [flat, newDk])
  clear hmk hcv hLz hLp hJ4
  go_upto_region 9 with (first
    | (go_at_call 11; (with_reducible refine pF.mono ?_); rintro e w5 ⟨rfl, hJ5, _⟩)
    | (go_at_call 11; (with_reducible refine (c_a hJ5).mono ?_); rintro e w6 ⟨rfl, d6, v6, hJ6, ho6, hd6, hn6⟩)
    | (go_at_call 14; (with_reducible refine (l_al hJ6.al).mono ?_); rintro e x ⟨rfl, hx⟩; subst hx))
  have pA := arm_any w6 G B 6 d6 0 (K : Int) 0 K rfl (by omega) (by omega) hJ6.dk
  go_upto_region 10 with (first
    | (go_at_call 17; (with_reducible refine (pn _).mono ?_); rintro e x ⟨rfl, hx⟩; subst hx)
    | (go_at_call 12; (with_reducible refine pA.mono ?_); rintro e w7 ⟨rfl, hA7, hb7⟩))
  have hJ7 := hJ6.disk hA7 hb7
  clear pA hJ6 hA7 hb7 pF hJ5
  go_upto_region 11 with (go_at_call 11; (with_reducible refine (c_b K (by omega) hJ7 ho6 hd6 hn6).mono ?_); rintro e w8 ⟨rfl, d8, hJ8, ho8, ha8, hn8⟩)
  clear hJ7 ho6 hd6 hn6
  go_upto_region 12 with (go_at_call 11; (with_reducible refine (jo_torn hJ8 _).mono ?_); rintro e x ⟨rfl, hx⟩; subst hx)
  have pV := revive_any w8 G B 6 d8 hJ8.dk
  go_upto_region 13 with (go_at_call 13; (with_reducible refine pV.mono ?_); rintro e w9 ⟨rfl, hA9, hb9⟩)
  have hJ9 := hJ8.disk hA9 hb9
  clear pV hJ8 hA9 hb9
  go_upto_region 14 with (go_at_call 11; (with_reducible refine (jo_torn hJ9 _).mono ?_); rintro e x ⟨rfl, hx⟩; subst hx)
  obtain ⟨d9, hd9⟩ : ∃ d9 : Dk, d9 = { d8 with down := false } := ⟨_, rfl⟩
  rw [← hd9] at hJ9
  have hn9 : d9.ss.length = 6 := by rw [hd9]; exact hn8
  have ho9 : Holds d9.ss [al] := by rw [hd9]; exact ho8
  have ha9 : d9.armed = false := by rw [hd9]; exact ha8
  have hw9 : d9.down = false := by rw [hd9]
  clear hd9 hn8 ho8 ha8
  have pO := jo_open hJ9.dk ho9 hJ9.bel g1 g2
  go_upto_region 17 with (first
    | (go_at_call 10; (with_reducible refine pO.mono ?_); rintro e wA ⟨jo, vo, rfl, hO, hbA, hjo, hvo⟩)
    | (go_at_call 14; (with_reducible refine (l_al hO.al).mono ?_); rintro e x ⟨rfl, hx⟩; subst hx))
  have hlt := hJ9.jn.lt
  have hapD := hJ9.jn.apartD hJ9.dk
  have hJA := hJ9.al.next hbA
  clear pO hJ9
  have hf := flat_al
  obtain ⟨q, hq⟩ : ∃ q, q = (pieces s.data.toList).length := ⟨_, rfl⟩
  by_cases h5 : q ≤ 5
  · have pC := jo_commit hO ho9 s q hq (by omega) (by simp) hw9 (by rw [hf]; omega) (fun e => by rw [ha9] at e; cases e)
    have t5 : decide ((q : Int) ≤ 5) = true := by simp; omega
    clear hO ho9
    go_upto_region 18 with (go_at_call 11; (with_reducible refine pC.mono ?_); rintro e wB ⟨rfl, dB, vB, hOB, _, _, _, hbB, _⟩)
    have hJB := jn_apart hJA hapD (fun k hk => Nat.lt_of_lt_of_le (hlt k hk) hjo) (fun k r hk hr => Nat.lt_of_lt_of_le (hlt k hk) (hvo r hr)) hbB
    have hbel := hOB.bel
    have pP := pieces_any s (by omega) wB
    rw [← hq] at pP
    clear hbB hOB hJA pC hq
    go_wp2_with (first
      | (go_at_call 16; (with_reducible refine pP.mono ?_); rintro e wC ⟨gp, cp, rfl, _, _, hbC⟩)
      | (go_at_call 14; (with_reducible refine (l_al (hJB.next hbC)).mono ?_); rintro e x ⟨rfl, hx⟩; subst hx)
      | (go_at_call 3; (with_reducible refine (pR _).mono ?_); rintro e wD ⟨rfl, hbD⟩))
    go_ret
    exact ⟨rfl, (hbel.trans (hbC.mono hbel.size)).trans (hbD.mono (Nat.le_trans hbel.size hbC.size))⟩
  · have pC := jo_full hO ho9 s (by omega) (by rw [hf, ← hq]; omega)
    have t5 : decide ((q : Int) ≤ 5) = false := by simp; omega
    clear hO ho9
    go_upto_region 18 with (go_at_call 11; (with_reducible refine pC.mono ?_); rintro e wB ⟨rfl, hOB, hbB⟩)
    have hJB := hJA.next hbB
    have hbel := hOB.bel
    have pP := pieces_any s (by omega) wB
    rw [← hq] at pP
    clear hbB hOB hJA pC hq
    go_wp2_with (first
      | (go_at_call 16; (with_reducible refine pP.mono ?_); rintro e wC ⟨gp, cp, rfl, _, _, hbC⟩)
      | (go_at_call 14; (with_reducible refine (l_al (hJB.next hbC)).mono ?_); rintro e x ⟨rfl, hx⟩; subst hx)
      | (go_at_call 3; (with_reducible refine (pR _).mono ?_); rintro e wD ⟨rfl, hbD⟩))
    go_ret
    exact ⟨rfl, (hbel.trans (hbC.mono hbel.size)).trans (hbD.mono (Nat.le_trans hbel.size hbC.size))⟩
theorem jdown_law (n p x : Int) (hx : (Lit.int .u8 x).wf = true) (w : World) :
    Calls Try.prog 7 #[.int .i64 n, .int .i64 p, .int .u8 x] w fun e w' => e = .returned (.bool true) ∧ Below w.heap.size w w' := by
  obtain ⟨c, rfl⟩ := byte_of x hx
  exact jdown_any n p c w
end Go.Proofs.Ytelhdemgcpdmiaa
