/- THE WALK of ammonitelaw7.StoreRuns. -/
import Derived.Test.YtlofjfeimhjdlaaGreatDoorSo7
import Derived.Test.YtlofjfeimhjdlaaGreatDoorWa7
namespace Go.Proofs.YtlofjfeimhjdlaaGreatDoor
open Go.RowKit
set_option maxRecDepth 100000

theorem doT_rows (st : List Rr) {rs : List Rr} (h : ∀ r ∈ rs, r.Ok) : doT st (rtext rs) = turns st rs := by unfold doT; rw [rread_rtext rs h]
/-- Rows that were just laid. -/
theorem isR_new (w : World) (rs : List Rr) (n : Nat) (hn : rs.length = n) : IsR (w.alloc (.cells (rowsC rs).toArray 52)) (.slice (some ⟨w.heap.size, 0, none⟩) n n) rs := by
  subst hn
  refine .inr ⟨w.heap.size, 0, rs.length, rfl, by simp, fun j u hu => ?_⟩
  rw [Nat.zero_add, (Rw.fresh w 52 (rowsC rs).toArray).at]
  simpa using hu
def rA1 : Rr := ⟨[97], [49], false⟩
def rB2 : Rr := ⟨[98], [50], false⟩
def rAg : Rr := ⟨[97], [], true⟩
theorem ev_t1 : rtext [rA1] = [49, 32, 49, 32, 97, 49] := by
  simp [rtext, rt, rA1, Lib.decDigits_one]
theorem ev_t2 : rtext [rA1, rB2] = [49, 32, 49, 32, 97, 49, 49, 32, 49, 32, 98, 50] := by
  simp [rtext, rt, rA1, rB2, Lib.decDigits_one]
theorem ev_t3 : rtext [rAg] = [49, 32, 45, 97] := by
  simp [rtext, rt, rAg, Lib.decDigits_one]
theorem ev_s1 : turns [] [rA1, rB2] = [rA1, rB2] := by decide +kernel
theorem ev_s2 : turns [rA1, rB2] [rAg] = [rB2] := by decide +kernel
theorem ok_1 : ∀ r ∈ [rA1, rB2], r.Ok := by
  intro r hr
  simp at hr
  rcases hr with rfl | rfl <;> exact ⟨by decide, by decide, by decide, fun h => by cases h⟩
theorem ok_2 : ∀ r ∈ [rAg], r.Ok := by
  intro r hr
  simp at hr
  subst hr
  exact ⟨by decide, by decide, by decide, fun _ => rfl⟩
/-- A disk that is up, and of which no write will be torn. -/
structure Fresh (d : Dk) (n : Nat) : Prop where
  down : d.down = false
  arm : d.armed = false
  len : d.ss.length = n
section
variable {w0 W : World} {G B cap jg sg : Nat} {d : Dk} {v x y : Value} {ts : List (List UInt8)} {st rs : List Rr}
/-- A commit that goes, of a disk of which no write will be torn. -/
theorem so_go (N : Nat) (h : SO w0 W G B cap jg sg d v x ts st false) (ho : Holds d.ss ts) (hF : Fresh d N) (hP : Pow w0) (hst : Srt st) (hsl : st.length ≤ 90000000000) (hL : (rtext rs).length ≤ 1000000000000) (hok : ∀ r ∈ rs, r.Ok) (hy : IsR W y rs) (hl : (flat ts).length + (pieces (rtext rs)).length ≤ N) :
    Calls Tryz.prog 15 #[.pointer (some ⟨sg, 0, none⟩), y] W fun r W' => r = .returned (.int .i64 0) ∧ ∃ d' v' x', SO w0 W' G B cap jg sg d' v' x' (ts ++ [rtext rs]) (turns st rs) false ∧ Holds d'.ss (ts ++ [rtext rs]) ∧ Fresh d' N ∧ W.heap.size ≤ W'.heap.size :=
  (so_commit h ho hP hst hsl hL hok hy _ rfl hF.down (by rw [hF.len]; exact hl) (fun e => by rw [hF.arm] at e; cases e)).mono fun r W' ⟨h1, d', v', x', h2, h3, h4, h5, h6, _, _⟩ => by
    refine ⟨h1, d', v', x', h2, h3, ⟨?_, ?_, by rw [h5, hF.len]⟩, h6.size⟩
    · rw [h4]; exact hF.down
    · rw [h4]; exact hF.arm
end
theorem sruns_any (w : World) (hP : Pow w) : Calls Tryz.prog 23 #[] w fun e w' => e = .returned (.bool true) ∧ Below w.heap.size w w' := by
  have p0 := new_any 20 20 rfl w
  obtain ⟨G, hG⟩ : ∃ G, w.heap.size + 1 = G := ⟨_, rfl⟩
  obtain ⟨B, hB⟩ : ∃ B, w.heap.size = B := ⟨_, rfl⟩
  rw [hG] at p0
  have g1 : w.heap.size ≤ G := by omega
  have g2 : w.heap.size ≤ B := by omega
  have p0' : Calls Tryz.prog 4 #[.int .i64 20] w fun e w' => e = .returned (.pointer (some ⟨G, 0, none⟩)) ∧ DkAt w' G B 20 (newDk 20) ∧ Below w.heap.size w w' := by rw [← hB]; exact p0
  have hnew : Holds (newDk 20).ss [] := Holds.new 20
  have f0 : Fresh (newDk 20) 20 := ⟨rfl, rfl, by simp [newDk]⟩
  clear p0 hG hB
  go_enter Tryz.func23, Tryz.ntmps23
  go_upto_region 5 with (first
    | (go_at_call 4; (with_reducible refine p0'.mono ?_); rintro e w1 ⟨rfl, hA0, hb0⟩)
    | (go_at_call 6; (with_reducible refine (so_open hA0 hnew hb0 g1 g2).mono ?_); rintro e w2 ⟨jg, v, sg, x, rfl, hS0, _, _, _, _, _⟩))
  clear hA0 hb0 p0'
  have hS0 : SO w w2 G B 20 jg sg (newDk 20) v x [] [] false := hS0
  have fl1 : (flat [rtext [rA1, rB2]]).length = 1 := by simp [flat, pieces_short (s := rtext [rA1, rB2]) (by rw [ev_t2]; decide)]
  have pl1 : (pieces (rtext [rA1, rB2])).length = 1 := by rw [pieces_short (by rw [ev_t2]; decide)]; rfl
  have pl2 : (pieces (rtext [rAg])).length = 1 := by rw [pieces_short (by rw [ev_t3]; decide)]; rfl
  have fl2 : (flat [rtext [rA1, rB2], rtext [rAg]]).length ≤ 2 := by simp [flat, pl1, pl2]
  have c1 : Calls Tryz.prog 15 #[.pointer (some ⟨sg, 0, none⟩), .slice (some ⟨w2.heap.size, 0, none⟩) 2 2] (w2.alloc (.cells #[.string ⟨#[97]⟩, .string ⟨#[49]⟩, .bool false, .string ⟨#[98]⟩, .string ⟨#[50]⟩, .bool false] 52)) _ :=
    so_go 20 (hS0.next ((Below.refl _ w2).alloc (Nat.le_refl _) _)) hnew f0 hP Srt.nil (by simp) (by rw [ev_t2]; decide) ok_1 (isR_new w2 [rA1, rB2] 2 rfl) (by rw [pl1]; decide)
  rw [ev_s1] at c1
  clear hnew f0 hS0
  go_upto_region 6 with (go_at_call 15; (with_reducible refine c1.mono ?_); rintro e w3 ⟨rfl, d1, v1, x1, hS1, ho1, f1, _⟩)
  have c2 : Calls Tryz.prog 15 #[.pointer (some ⟨sg, 0, none⟩), .slice (some ⟨w3.heap.size, 0, none⟩) 1 1] (w3.alloc (.cells #[.string ⟨#[97]⟩, .string ⟨#[]⟩, .bool true] 52)) _ :=
    so_go 20 (hS1.next ((Below.refl _ w3).alloc (Nat.le_refl _) _)) ho1 f1 hP ((Srt.nil.turns _ ok_1)) (by decide) (by rw [ev_t3]; decide) ok_2 (isR_new w3 [rAg] 1 rfl) (by rw [pl2]; show (flat [rtext [rA1, rB2]]).length + 1 ≤ 20; omega)
  rw [ev_s2] at c2
  clear f1 c1
  go_upto_region 7 with (go_at_call 15; (with_reducible refine c2.mono ?_); rintro e w4 ⟨rfl, d2, v2, x2, hS2, ho2, f2, _⟩)
  have hrp : replay ([] ++ [rtext [rA1, rB2]] ++ [rtext [rAg]]) = [rB2] := by
    rw [replay_snoc, List.nil_append, show replay [rtext [rA1, rB2]] = doT [] (rtext [rA1, rB2]) from rfl, doT_rows _ ok_1, ev_s1, doT_rows _ ok_2, ev_s2]
  have pO := so_open hS2.jo.dk ho2 hS2.jo.bel g1 g2
  rw [hrp] at pO
  have q2 : ∀ V, Below w4.heap.size w4 V → Calls Tryz.prog 21 #[.pointer (some ⟨sg, 0, none⟩)] V fun e w' => e = .returned (.int .i64 1) ∧ Below V.heap.size V w' := fun V hV => slen_any _ sg jg x2 [rB2] V (hS2.sn.next hV)
  have bel4 := hS2.jo.bel
  clear c2 f2 hS1 ho1 hrp hS2 ho2
  go_upto_region 10 with (go_at_call 6; (with_reducible refine pO.mono ?_); rintro e w5 ⟨jo, vo, so, xo, rfl, hS5, hb5, _, _, _, _⟩)
  have q5 : ∀ V, Below w5.heap.size w5 V → Calls Tryz.prog 21 #[.pointer (some ⟨so, 0, none⟩)] V fun e w' => e = .returned (.int .i64 1) ∧ Below V.heap.size V w' := fun V hV => slen_any _ so jo xo [rB2] V (hS5.sn.next hV)
  have pG : Calls Tryz.prog 20 #[.pointer (some ⟨so, 0, none⟩), .string ⟨#[98]⟩] w5 fun e w' => e = .returned (.tuple #[.string ⟨#[50]⟩, .bool true]) ∧ Below w5.heap.size w5 w' := by
    have := get_any _ so jo xo [rB2] ⟨#[98]⟩ (List.pairwise_singleton _ _) (by intro r hr; simp at hr; subst hr; decide) (by decide) w5 hS5.sn
    have e : getK [rB2] (⟨#[98]⟩ : ByteArray).data.toList = some [50] := by decide +kernel
    rw [e] at this
    exact this
  have pT : ∀ V, Below w.heap.size w V → Calls Tryz.prog 16 #[.slice (some ⟨V.heap.size, 0, none⟩) 1 1] (V.alloc (.cells #[.string ⟨#[97]⟩, .string ⟨#[49]⟩, .bool false] 52)) fun e w' => e = .returned (.string ⟨#[49, 32, 49, 32, 97, 49]⟩) ∧ Below V.heap.size V w' := fun V hV => by
    have := text_any _ [rA1] _ (hP.on (hV.alloc hV.size (.cells (rowsC [rA1]).toArray 52))) (by rw [ev_t1]; decide) (by intro r hr; simp at hr; subst hr; decide) (isR_new V [rA1] 1 rfl)
    rw [ev_t1] at this
    refine this.mono fun e w' ⟨h1, h2⟩ => ⟨h1, bstep ((Below.refl _ V).alloc (Nat.le_refl _) _) h2⟩
  have bel5 := bel4.trans (hb5.mono bel4.size)
  clear hS5 pO
  go_wp2_with (first
    | (go_at_call 20; (with_reducible refine pG.mono ?_); rintro e w6 ⟨rfl, hb6⟩)
    | (go_at_call 21; (with_reducible refine (q2 _ (bstep hb5 hb6)).mono ?_); rintro e w7 ⟨rfl, hb7⟩)
    | (go_at_call 21; (with_reducible refine (q5 _ (bstep hb6 hb7)).mono ?_); rintro e w8 ⟨rfl, hb8⟩)
    | (go_at_call 16; (with_reducible refine (pT _ (bstep (bstep (bstep bel5 hb6) hb7) hb8)).mono ?_); rintro e w9 ⟨rfl, hb9⟩))
  go_ret
  exact ⟨rfl, bstep (bstep (bstep (bstep bel5 hb6) hb7) hb8) hb9⟩
end Go.Proofs.YtlofjfeimhjdlaaGreatDoor
