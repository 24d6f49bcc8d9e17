/- THE WALK of store.readRow. -/
import Derived.Test.YtlofjfeimhjdlaaDoorRs7
import Derived.Test.YtlofjfeimhjdlaaDoorSl7
import Derived.Deep.RegionHeld
namespace Go.Proofs.YtlofjfeimhjdlaaDoor
open Go.RowKit
set_option maxRecDepth 100000

def zrr : Rr := ⟨[], [], false⟩
def rd1V : Option (Rr × List UInt8) → Value
  | none => .tuple #[rval zrr, .string ⟨#[]⟩, .bool false]
  | some (r, t) => .tuple #[rval r, .string (bA t), .bool true]
theorem rd1_a {s : List UInt8} (h : rdSz s = none) : rd1 s = none := by unfold rd1; rw [h]
theorem rd1_b {s t : List UInt8} {n : Nat} (h : rdSz s = some (n, t)) (hn : ¬ (1 ≤ n ∧ n ≤ 60)) : rd1 s = none := by unfold rd1; rw [h]; simp only; rw [if_pos (by omega)]
theorem rd1_c {s t : List UInt8} {n : Nat} (h : rdSz s = some (n, t)) (hn : 1 ≤ n ∧ n ≤ 60) (h45 : t[0]? = some 45) : rd1 s = if (t.drop 1).length < n then none else some (⟨(t.drop 1).take n, [], true⟩, (t.drop 1).drop n) := by
  unfold rd1; rw [h]; simp only; rw [if_neg (by omega), if_pos h45]
theorem rd1_d {s t : List UInt8} {n : Nat} (h : rdSz s = some (n, t)) (hn : 1 ≤ n ∧ n ≤ 60) (h45 : ¬ t[0]? = some 45) (h2 : rdSz t = none) : rd1 s = none := by
  unfold rd1; rw [h]; simp only; rw [if_neg (by omega), if_neg h45, h2]
theorem rd1_e {s t u : List UInt8} {n m : Nat} (h : rdSz s = some (n, t)) (hn : 1 ≤ n ∧ n ≤ 60) (h45 : ¬ t[0]? = some 45) (h2 : rdSz t = some (m, u)) : rd1 s = if u.length < n + m then none else some (⟨u.take n, (u.drop n).take m, false⟩, u.drop (n + m)) := by
  unfold rd1; rw [h]; simp only; rw [if_neg (by omega), if_neg h45, h2]
/-- The box of the row that is read. -/
theorem box_zero (w : World) : ∃ Q W0, w.heap.size = Q ∧ w.alloc (.cells #[.string ⟨#[]⟩, .string ⟨#[]⟩, .bool false] 29) = W0 ∧ Lw W0 Q (rcells zrr) ∧ Below w.heap.size w W0 :=
  ⟨_, _, rfl, rfl, Rw.fresh w _ _, (Below.refl w.heap.size w).alloc (Nat.le_refl _) _⟩
theorem Lw.put3 {w : World} {Q : Nat} {r : Rr} (h : Lw w Q (rcells r)) (r' : Rr) : Lw (((w.setCell ⟨Q, 0, none⟩ (.string (bA r'.k))).setCell ⟨Q, 1, none⟩ (.string (bA r'.v))).setCell ⟨Q, 2, none⟩ (.bool r'.g)) Q (rcells r') := by
  have := ((Rw.put h 0 (.string (bA r'.k))).put 1 (.string (bA r'.v))).put 2 (.bool r'.g)
  simpa [rcells] using this
theorem Lw.putg {w : World} {Q : Nat} {r : Rr} (h : Lw w Q (rcells r)) (b : Bool) : Lw (w.setCell ⟨Q, 2, none⟩ (.bool b)) Q (rcells { r with g := b }) := by
  have := Rw.put h 2 (.bool b)
  simpa [rcells] using this
theorem Lw.putKV {w : World} {Q : Nat} {r : Rr} (h : Lw w Q (rcells r)) (K V : ByteArray) : Rw ((w.setCell ⟨Q, 0, none⟩ (.string K)).setCell ⟨Q, 1, none⟩ (.string V)) Q 29 #[.string K, .string V, .bool r.g] := by
  have := (Rw.put h 0 (.string K)).put 1 (.string V)
  simpa [rcells] using this
theorem put3_below {w v : World} {Q : Nat} (h : Below w.heap.size w v) (hQ : w.heap.size = Q) (a b c : Value) : Below w.heap.size w (((v.setCell ⟨Q, 0, none⟩ a).setCell ⟨Q, 1, none⟩ b).setCell ⟨Q, 2, none⟩ c) :=
  ((h.setCell (p := ⟨Q, 0, none⟩) (by show _ ≤ Q; omega) a).setCell (p := ⟨Q, 1, none⟩) (by show _ ≤ Q; omega) b).setCell (p := ⟨Q, 2, none⟩) (by show _ ≤ Q; omega) c
section
variable (s : ByteArray) (hs : s.size ≤ 1099511627776) (w : World)
include hs
set_option maxHeartbeats 1000000 in
theorem rrow_a (h : rdSz s.data.toList = none) : Calls Tryd.prog 34 #[.string s] w fun e w' => e = .returned (.tuple #[rval zrr, .string ⟨#[]⟩, .bool false]) ∧ Below w.heap.size w w' := by
  obtain ⟨Q, W0, hQ, hW0, hR, hB0⟩ := box_zero w
  have p1 := fun v => rdsz_any s (by unfold maxLen; omega) v
  rw [h] at p1
  simp only [szV] at p1
  have cR := fun (v : World) (hb : Below W0.heap.size W0 v) => (show Lw v Q (rcells zrr) from hR.below hb hR.size)
  clear h hs
  go_enter Tryd.func34, Tryd.ntmps34
  go_wp2_with (go_at_call 54; (with_reducible refine (p1 _).mono ?_); rintro e w1 ⟨rfl, hb1⟩; have d0 := (cR _ hb1).key; have d1 := (cR _ hb1).val; have d2 := (cR _ hb1).gon; have f0 := (cR _ hb1).free 0; have f1 := (cR _ hb1).free 1; have f2 := (cR _ hb1).free 2)
  have hF : Lw (((w1.setCell ⟨Q, 0, none⟩ (.string ⟨#[]⟩)).setCell ⟨Q, 1, none⟩ (.string ⟨#[]⟩)).setCell ⟨Q, 2, none⟩ (.bool false)) Q (rcells zrr) := (cR _ hb1).put3 zrr
  have hB := put3_below (bstep hB0 hb1) hQ (.string ⟨#[]⟩) (.string ⟨#[]⟩) (.bool false)
  generalize World.setCell _ _ _ = W' at hF hB ⊢
  have q0 := hF.key
  have q1 := hF.val
  have q2 := hF.gon
  unfold rval
  generalize bA zrr.k = zk at q0 ⊢
  generalize bA zrr.v = zv at q1 ⊢
  generalize zrr.g = zg at q2 ⊢
  refine bodyPost_ret (v := .tuple #[.agg #[.string zk, .string zv, .bool zg], .string ⟨#[]⟩, .bool false]) (by simp [results, Tryd.results34, go_sem, q0, q1, q2]) rfl ⟨rfl, hB⟩
set_option maxHeartbeats 1000000 in
theorem rrow_b (t : List UInt8) (n : Nat) (h : rdSz s.data.toList = some (n, t)) (hn : ¬ (1 ≤ n ∧ n ≤ 60)) : Calls Tryd.prog 34 #[.string s] w fun e w' => e = .returned (.tuple #[rval zrr, .string ⟨#[]⟩, .bool false]) ∧ Below w.heap.size w w' := by
  obtain ⟨Q, W0, hQ, hW0, hR, hB0⟩ := box_zero w
  have p1 := fun v => rdsz_any s (by unfold maxLen; omega) v
  rw [h] at p1
  simp only [szV] at p1
  have cR := fun (v : World) (hb : Below W0.heap.size W0 v) => (show Lw v Q (rcells zrr) from hR.below hb hR.size)
  have pf : ∀ v, Calls Tryd.prog 27 #[.int .i64 (n : Int)] v fun e w' => e = .returned (.bool false) ∧ v = w' := fun v => by
    have := sfits_any (n : Int) v
    rw [decide_eq_false (by omega)] at this
    exact this
  clear h hs hn
  go_enter Tryd.func34, Tryd.ntmps34
  go_wp2_with (first
    | (go_at_call 54; (with_reducible refine (p1 _).mono ?_); rintro e w1 ⟨rfl, hb1⟩; have d0 := (cR _ hb1).key; have d1 := (cR _ hb1).val; have d2 := (cR _ hb1).gon; have f0 := (cR _ hb1).free 0; have f1 := (cR _ hb1).free 1; have f2 := (cR _ hb1).free 2)
    | (go_at_call 27; (with_reducible refine (pf _).mono ?_); rintro e w2 ⟨rfl, hw⟩; subst hw))
  have hF : Lw (((w1.setCell ⟨Q, 0, none⟩ (.string ⟨#[]⟩)).setCell ⟨Q, 1, none⟩ (.string ⟨#[]⟩)).setCell ⟨Q, 2, none⟩ (.bool false)) Q (rcells zrr) := (cR _ hb1).put3 zrr
  have hB := put3_below (bstep hB0 hb1) hQ (.string ⟨#[]⟩) (.string ⟨#[]⟩) (.bool false)
  generalize World.setCell _ _ _ = W' at hF hB ⊢
  have q0 := hF.key
  have q1 := hF.val
  have q2 := hF.gon
  unfold rval
  generalize bA zrr.k = zk at q0 ⊢
  generalize bA zrr.v = zv at q1 ⊢
  generalize zrr.g = zg at q2 ⊢
  refine bodyPost_ret (v := .tuple #[.agg #[.string zk, .string zv, .bool zg], .string ⟨#[]⟩, .bool false]) (by simp [results, Tryd.results34, go_sem, q0, q1, q2]) rfl ⟨rfl, hB⟩
set_option maxHeartbeats 1000000 in
theorem rrow_c (t : List UInt8) (n : Nat) (h : rdSz s.data.toList = some (n, t)) (hn : 1 ≤ n ∧ n ≤ 60) (h45 : t[0]? = some 45) (hl : (t.drop 1).length < n) : Calls Tryd.prog 34 #[.string s] w fun e w' => e = .returned (.tuple #[rval zrr, .string ⟨#[]⟩, .bool false]) ∧ Below w.heap.size w w' := by
  obtain ⟨Q, W0, hQ, hW0, hR, hB0⟩ := box_zero w
  have p1 := fun v => rdsz_any s (by unfold maxLen; omega) v
  rw [h] at p1
  simp only [szV] at p1
  have cR := fun (v : World) (hb : Below W0.heap.size W0 v) => (show Lw v Q (rcells zrr) from hR.below hb hR.size)
  have pf : ∀ v, Calls Tryd.prog 27 #[.int .i64 (n : Int)] v fun e w' => e = .returned (.bool true) ∧ v = w' := fun v => by
    have := sfits_any (n : Int) v
    rw [decide_eq_true (by omega)] at this
    exact this
  have hle := rdSz_len h
  have hsl : s.data.toList.length = s.size := Array.length_toList
  obtain ⟨T, hT⟩ : ∃ T, T = bA t := ⟨_, rfl⟩
  have hTl : T.data.toList = t := by rw [hT]; rfl
  have hTz : T.size ≤ 1099511627776 := by rw [hT, bA_size]; omega
  rw [← hT] at p1
  have pc := fun v => cutp_yes T (by unfold maxLen; omega) (by rw [hTl]; exact h45) v
  obtain ⟨U, hU⟩ : ∃ U, U = T.extract 1 T.size := ⟨_, rfl⟩
  have hUl : U.data.toList = t.drop 1 := by rw [hU, ext_drop, hTl]
  have hUz : U.size < n := by have h2 : U.data.toList.length = U.size := Array.length_toList; rw [← h2, hUl]; exact hl
  rw [← hU] at pc
  have hn60 := hn.2
  have hgt : (U.size : Int) < (n : Int) := by omega
  clear h hs hT hTl hTz hU hUl hle hsl h45 hl hn
  go_enter Tryd.func34, Tryd.ntmps34
  go_wp2_with (first
    | (go_at_call 54; (with_reducible refine (p1 _).mono ?_); rintro e w1 ⟨rfl, hb1⟩; have d0 := (cR _ hb1).key; have d1 := (cR _ hb1).val; have d2 := (cR _ hb1).gon; have f0 := (cR _ hb1).free 0; have f1 := (cR _ hb1).free 1; have f2 := (cR _ hb1).free 2)
    | (go_at_call 27; (with_reducible refine (pf _).mono ?_); rintro e w2 ⟨rfl, hw⟩; subst hw)
    | (go_at_call 55; (with_reducible refine (pc _).mono ?_); rintro e w2 ⟨rfl, hw⟩; subst hw))
  have hF : Lw ((((w1.setCell ⟨Q, 2, none⟩ (.bool true)).setCell ⟨Q, 0, none⟩ (.string ⟨#[]⟩)).setCell ⟨Q, 1, none⟩ (.string ⟨#[]⟩)).setCell ⟨Q, 2, none⟩ (.bool false)) Q (rcells zrr) := ((cR _ hb1).putg true).put3 zrr
  have hB := put3_below ((bstep hB0 hb1).setCell (p := ⟨Q, 2, none⟩) (by show _ ≤ Q; omega) (.bool true)) hQ (.string ⟨#[]⟩) (.string ⟨#[]⟩) (.bool false)
  generalize World.setCell _ _ _ = W' at hF hB ⊢
  have q0 := hF.key
  have q1 := hF.val
  have q2 := hF.gon
  unfold rval
  generalize bA zrr.k = zk at q0 ⊢
  generalize bA zrr.v = zv at q1 ⊢
  generalize zrr.g = zg at q2 ⊢
  refine bodyPost_ret (v := .tuple #[.agg #[.string zk, .string zv, .bool zg], .string ⟨#[]⟩, .bool false]) (by simp [results, Tryd.results34, go_sem, q0, q1, q2]) rfl ⟨rfl, hB⟩
set_option maxHeartbeats 1000000 in
theorem rrow_d (t : List UInt8) (n : Nat) (h : rdSz s.data.toList = some (n, t)) (hn : 1 ≤ n ∧ n ≤ 60) (h45 : ¬ t[0]? = some 45) (h2 : rdSz t = none) : Calls Tryd.prog 34 #[.string s] w fun e w' => e = .returned (.tuple #[rval zrr, .string ⟨#[]⟩, .bool false]) ∧ Below w.heap.size w w' := by
  obtain ⟨Q, W0, hQ, hW0, hR, hB0⟩ := box_zero w
  have p1 := fun v => rdsz_any s (by unfold maxLen; omega) v
  rw [h] at p1
  simp only [szV] at p1
  have cR := fun (v : World) (hb : Below W0.heap.size W0 v) => (show Lw v Q (rcells zrr) from hR.below hb hR.size)
  have pf : ∀ v, Calls Tryd.prog 27 #[.int .i64 (n : Int)] v fun e w' => e = .returned (.bool true) ∧ v = w' := fun v => by
    have := sfits_any (n : Int) v
    rw [decide_eq_true (by omega)] at this
    exact this
  have hle := rdSz_len h
  have hsl : s.data.toList.length = s.size := Array.length_toList
  obtain ⟨T, hT⟩ : ∃ T, T = bA t := ⟨_, rfl⟩
  have hTl : T.data.toList = t := by rw [hT]; rfl
  have hTz : T.size ≤ 1099511627776 := by rw [hT, bA_size]; omega
  rw [← hT] at p1
  have pc := fun v => cutp_no T (by rw [hTl]; exact h45) v
  have p2 := fun v => rdsz_any T (by unfold maxLen; omega) v
  rw [hTl, h2] at p2
  simp only [szV] at p2
  have hn60 := hn.2
  clear h hs hT hTl hTz hle hsl h45 hn h2
  go_enter Tryd.func34, Tryd.ntmps34
  go_wp2_with (first
    | (go_at_call 54; (with_reducible refine (p1 _).mono ?_); rintro e w1 ⟨rfl, hb1⟩; have d0 := (cR _ hb1).key; have d1 := (cR _ hb1).val; have d2 := (cR _ hb1).gon; have f0 := (cR _ hb1).free 0; have f1 := (cR _ hb1).free 1; have f2 := (cR _ hb1).free 2)
    | (go_at_call 54; (with_reducible refine (p2 _).mono ?_); rintro e w3 ⟨rfl, hb3⟩; have hL3 : Lw w3 Q (rcells { zrr with g := false }) := Rw.below ((cR _ hb1).putg false) hb3 (Rw.size ((cR _ hb1).putg false)); have e0 := hL3.key; have e1 := hL3.val; have e2 := hL3.gon; have g0 := Rw.free hL3 0; have g1 := Rw.free hL3 1; have g2 := Rw.free hL3 2)
    | (go_at_call 27; (with_reducible refine (pf _).mono ?_); rintro e w2 ⟨rfl, hw⟩; subst hw)
    | (go_at_call 55; (with_reducible refine (pc _).mono ?_); rintro e w2 ⟨rfl, hw⟩; subst hw))
  have hF : Lw (((w3.setCell ⟨Q, 0, none⟩ (.string ⟨#[]⟩)).setCell ⟨Q, 1, none⟩ (.string ⟨#[]⟩)).setCell ⟨Q, 2, none⟩ (.bool false)) Q (rcells zrr) := hL3.put3 zrr
  have hB := put3_below (bstep ((bstep hB0 hb1).setCell (p := ⟨Q, 2, none⟩) (by show _ ≤ Q; omega) (.bool false)) hb3) hQ (.string ⟨#[]⟩) (.string ⟨#[]⟩) (.bool false)
  generalize World.setCell _ _ _ = W' at hF hB ⊢
  have q0 := hF.key
  have q1 := hF.val
  have q2 := hF.gon
  unfold rval
  generalize bA zrr.k = zk at q0 ⊢
  generalize bA zrr.v = zv at q1 ⊢
  generalize zrr.g = zg at q2 ⊢
  refine bodyPost_ret (v := .tuple #[.agg #[.string zk, .string zv, .bool zg], .string ⟨#[]⟩, .bool false]) (by simp [results, Tryd.results34, go_sem, q0, q1, q2]) rfl ⟨rfl, hB⟩
set_option maxHeartbeats 1000000 in
theorem rrow_e (t u : List UInt8) (n m : Nat) (h : rdSz s.data.toList = some (n, t)) (hn : 1 ≤ n ∧ n ≤ 60) (h45 : ¬ t[0]? = some 45) (h2 : rdSz t = some (m, u)) (hl : u.length < n + m) : Calls Tryd.prog 34 #[.string s] w fun e w' => e = .returned (.tuple #[rval zrr, .string ⟨#[]⟩, .bool false]) ∧ Below w.heap.size w w' := by
  obtain ⟨Q, W0, hQ, hW0, hR, hB0⟩ := box_zero w
  have p1 := fun v => rdsz_any s (by unfold maxLen; omega) v
  rw [h] at p1
  simp only [szV] at p1
  have cR := fun (v : World) (hb : Below W0.heap.size W0 v) => (show Lw v Q (rcells zrr) from hR.below hb hR.size)
  have pf : ∀ v, Calls Tryd.prog 27 #[.int .i64 (n : Int)] v fun e w' => e = .returned (.bool true) ∧ v = w' := fun v => by
    have := sfits_any (n : Int) v
    rw [decide_eq_true (by omega)] at this
    exact this
  have hle := rdSz_len h
  have hsl : s.data.toList.length = s.size := Array.length_toList
  obtain ⟨T, hT⟩ : ∃ T, T = bA t := ⟨_, rfl⟩
  have hTl : T.data.toList = t := by rw [hT]; rfl
  have hTz : T.size ≤ 1099511627776 := by rw [hT, bA_size]; omega
  rw [← hT] at p1
  have pc := fun v => cutp_no T (by rw [hTl]; exact h45) v
  have p2 := fun v => rdsz_any T (by unfold maxLen; omega) v
  rw [hTl, h2] at p2
  simp only [szV] at p2
  have hn60 := hn.2
  have hle2 := rdSz_len h2
  obtain ⟨U, hU⟩ : ∃ U, U = bA u := ⟨_, rfl⟩
  have hUl : U.data.toList = u := by rw [hU]; rfl
  have hUz : U.size = u.length := by rw [hU, bA_size]
  have hUb : U.size ≤ 1099511627776 := by rw [hUz]; have h3 : T.data.toList.length = T.size := Array.length_toList; rw [hTl] at h3; omega
  rw [← hU] at p2
  have hm := hle2.2
  have hgt : (U.size : Int) < (n : Int) + (m : Int) := by omega
  clear h hs hT hTl hTz hle hsl h45 hn h2 hU hUl hUz hle2 hl
  go_enter Tryd.func34, Tryd.ntmps34
  go_wp2_with (first
    | (go_at_call 54; (with_reducible refine (p1 _).mono ?_); rintro e w1 ⟨rfl, hb1⟩; have d0 := (cR _ hb1).key; have d1 := (cR _ hb1).val; have d2 := (cR _ hb1).gon; have f0 := (cR _ hb1).free 0; have f1 := (cR _ hb1).free 1; have f2 := (cR _ hb1).free 2)
    | (go_at_call 54; (with_reducible refine (p2 _).mono ?_); rintro e w3 ⟨rfl, hb3⟩; have hL3 : Lw w3 Q (rcells { zrr with g := false }) := Rw.below ((cR _ hb1).putg false) hb3 (Rw.size ((cR _ hb1).putg false)); have e0 := hL3.key; have e1 := hL3.val; have e2 := hL3.gon; have g0 := Rw.free hL3 0; have g1 := Rw.free hL3 1; have g2 := Rw.free hL3 2)
    | (go_at_call 27; (with_reducible refine (pf _).mono ?_); rintro e w2 ⟨rfl, hw⟩; subst hw)
    | (go_at_call 55; (with_reducible refine (pc _).mono ?_); rintro e w2 ⟨rfl, hw⟩; subst hw))
  have hF : Lw (((w3.setCell ⟨Q, 0, none⟩ (.string ⟨#[]⟩)).setCell ⟨Q, 1, none⟩ (.string ⟨#[]⟩)).setCell ⟨Q, 2, none⟩ (.bool false)) Q (rcells zrr) := hL3.put3 zrr
  have hB := put3_below (bstep ((bstep hB0 hb1).setCell (p := ⟨Q, 2, none⟩) (by show _ ≤ Q; omega) (.bool false)) hb3) hQ (.string ⟨#[]⟩) (.string ⟨#[]⟩) (.bool false)
  generalize World.setCell _ _ _ = W' at hF hB ⊢
  have q0 := hF.key
  have q1 := hF.val
  have q2 := hF.gon
  unfold rval
  generalize bA zrr.k = zk at q0 ⊢
  generalize bA zrr.v = zv at q1 ⊢
  generalize zrr.g = zg at q2 ⊢
  refine bodyPost_ret (v := .tuple #[.agg #[.string zk, .string zv, .bool zg], .string ⟨#[]⟩, .bool false]) (by simp [results, Tryd.results34, go_sem, q0, q1, q2]) rfl ⟨rfl, hB⟩
set_option maxHeartbeats 1000000 in
theorem rrow_f (t u : List UInt8) (n m : Nat) (h : rdSz s.data.toList = some (n, t)) (hn : 1 ≤ n ∧ n ≤ 60) (h45 : ¬ t[0]? = some 45) (h2 : rdSz t = some (m, u)) (hl : n + m ≤ u.length) : Calls Tryd.prog 34 #[.string s] w fun e w' => e = .returned (.tuple #[rval ⟨u.take n, (u.drop n).take m, false⟩, .string (bA (u.drop (n + m))), .bool true]) ∧ Below w.heap.size w w' := by
  obtain ⟨Q, W0, hQ, hW0, hR, hB0⟩ := box_zero w
  have p1 := fun v => rdsz_any s (by unfold maxLen; omega) v
  rw [h] at p1
  simp only [szV] at p1
  have cR := fun (v : World) (hb : Below W0.heap.size W0 v) => (show Lw v Q (rcells zrr) from hR.below hb hR.size)
  have pf : ∀ v, Calls Tryd.prog 27 #[.int .i64 (n : Int)] v fun e w' => e = .returned (.bool true) ∧ v = w' := fun v => by
    have := sfits_any (n : Int) v
    rw [decide_eq_true (by omega)] at this
    exact this
  have hle := rdSz_len h
  have hsl : s.data.toList.length = s.size := Array.length_toList
  obtain ⟨T, hT⟩ : ∃ T, T = bA t := ⟨_, rfl⟩
  have hTl : T.data.toList = t := by rw [hT]; rfl
  have hTz : T.size ≤ 1099511627776 := by rw [hT, bA_size]; omega
  rw [← hT] at p1
  have pc := fun v => cutp_no T (by rw [hTl]; exact h45) v
  have p2 := fun v => rdsz_any T (by unfold maxLen; omega) v
  rw [hTl, h2] at p2
  simp only [szV] at p2
  have hn60 := hn.2
  have hle2 := rdSz_len h2
  obtain ⟨U, hU⟩ : ∃ U, U = bA u := ⟨_, rfl⟩
  have hUl : U.data.toList = u := by rw [hU]; rfl
  have hUz : U.size = u.length := by rw [hU, bA_size]
  have hUb : U.size ≤ 1099511627776 := by rw [hUz]; have h3 : T.data.toList.length = T.size := Array.length_toList; rw [hTl] at h3; omega
  rw [← hU] at p2
  have hm := hle2.2
  have hgt : ¬ (U.size : Int) < (n : Int) + (m : Int) := by omega
  have hnm : n + m ≤ U.size := by omega
  obtain ⟨K, hK⟩ : ∃ K, U.extract 0 n = K := ⟨_, rfl⟩
  obtain ⟨V, hV⟩ : ∃ V, U.extract n (n + m) = V := ⟨_, rfl⟩
  obtain ⟨R, hR'⟩ : ∃ R, U.extract (n + m) U.size = R := ⟨_, rfl⟩
  have hKb : K = bA (u.take n) := ba_of (by rw [← hK, ext_take, hUl])
  have hVb : V = bA ((u.drop n).take m) := ba_of (by rw [← hV, ext_mid, hUl, Nat.add_sub_cancel_left])
  have hRb : R = bA (u.drop (n + m)) := ba_of (by rw [← hR', ext_drop, hUl])
  have hKz : K.size ≤ 1099511627776 := by rw [hKb, bA_size, List.length_take]; omega
  have hVz : V.size ≤ 1099511627776 := by rw [hVb, bA_size, List.length_take, List.length_drop]; omega
  have pK := fun v => sclone_any K hKz v
  have pV := fun v => sclone_any V hVz v
  have HK := Lib.hid (And.intro hKb (And.intro hVb hRb))
  have n1 : (n : Int) ≤ (U.size : Int) := by omega
  have n2 : (n : Int) ≤ (n : Int) + (m : Int) := by omega
  have n3 : (0 : Int) ≤ (n : Int) + (m : Int) := by omega
  have n4 : ((n : Int) + (m : Int)).toNat = n + m := by omega
  have n5 : n ≤ U.size := by omega
  clear hKb hVb hRb
  clear h hs hT hTl hTz hle hsl h45 hn h2 hU hUl hUz hle2 hl hKz hVz
  go_enter Tryd.func34, Tryd.ntmps34
  go_upto_region 13 with (first
    | (go_at_call 54; (with_reducible refine (p1 _).mono ?_); rintro e w1 ⟨rfl, hb1⟩; have d0 := (cR _ hb1).key; have d1 := (cR _ hb1).val; have d2 := (cR _ hb1).gon; have f0 := (cR _ hb1).free 0; have f1 := (cR _ hb1).free 1; have f2 := (cR _ hb1).free 2)
    | (go_at_call 54; (with_reducible refine (p2 _).mono ?_); rintro e w3 ⟨rfl, hb3⟩; have hL3 : Lw w3 Q (rcells { zrr with g := false }) := Rw.below ((cR _ hb1).putg false) hb3 (Rw.size ((cR _ hb1).putg false)); have e0 := hL3.key; have e1 := hL3.val; have e2 := hL3.gon; have g0 := Rw.free hL3 0; have g1 := Rw.free hL3 1; have g2 := Rw.free hL3 2)
    | (go_at_call 27; (with_reducible refine (pf _).mono ?_); rintro e w2 ⟨rfl, hw⟩; subst hw)
    | (go_at_call 55; (with_reducible refine (pc _).mono ?_); rintro e w2 ⟨rfl, hw⟩; subst hw))
  have hmx : Tryd.prog.follows .mixedOrders = true := by kernel_rfl
  have cL := fun (v : World) (hb : Below w3.heap.size w3 v) => (show Lw v Q (rcells { zrr with g := false }) from Rw.below hL3 hb (Rw.size hL3))
  go_region_with (first
    | (go_at_call 30; (with_reducible refine (pK _).mono ?_); rintro e wk ⟨rfl, hbk⟩; have hz : Below w3.heap.size w3 wk := (by first | exact bstep (Below.refl _ w3).drew hbk | exact bstep (bstep (Below.refl _ w3).drew hbv) hbk); have k0 := (cL _ hz).key; have k1 := (cL _ hz).val; have k2 := (cL _ hz).gon; have fk0 := Rw.free (cL _ hz) 0; have fk1 := Rw.free (cL _ hz) 1)
    | (go_at_call 30; (with_reducible refine (pV _).mono ?_); rintro e wv ⟨rfl, hbv⟩; have hz : Below w3.heap.size w3 wv := (by first | exact bstep (Below.refl _ w3).drew hbv | exact bstep (bstep (Below.refl _ w3).drew hbk) hbv); have k0 := (cL _ hz).key; have k1 := (cL _ hz).val; have k2 := (cL _ hz).gon; have fk0 := Rw.free (cL _ hz) 0; have fk1 := Rw.free (cL _ hz) 1))
  all_goals
    have hlast := cL _ hz
    have h5 := hlast.putKV K V
    have hBB := bstep (bstep ((bstep hB0 hb1).setCell (p := ⟨Q, 2, none⟩) (by show _ ≤ Q; omega) (.bool false)) hb3) hz
    have hb5 := (hBB.setCell (p := ⟨Q, 0, none⟩) (by show _ ≤ Q; omega) (.string K)).setCell (p := ⟨Q, 1, none⟩) (by show _ ≤ Q; omega) (.string V)
    generalize World.setCell (World.setCell _ _ _) _ _ = W5 at h5 hb5 ⊢
    have x0 := h5.at 0
    have x1 := h5.at 1
    have x2 := h5.at 2
    have y0 := h5.free 0
    have y1 := h5.free 1
    have y2 := h5.free 2
    go_upto_region 14 with fail
    go_region
    all_goals
      go_wp2
      have h6 := (Lw.put3 (r := ⟨u.take n, (u.drop n).take m, false⟩) (by obtain ⟨e1, e2, _⟩ := HK.out; rw [e1, e2] at h5; exact h5) ⟨K.data.toList, V.data.toList, false⟩).drew
      have hb6 := (put3_below hb5 hQ (.string K) (.string V) (.bool false)).drew
      rw [hQ] at hb6
      replace h6 : Rw ((((W5.setCell ⟨Q, 0, none⟩ (.string K)).setCell ⟨Q, 1, none⟩ (.string V)).setCell ⟨Q, 2, none⟩ (.bool false)).drew) Q 29 #[.string K, .string V, .bool false] := h6
      generalize World.drew _ = W' at h6 hb6 ⊢
      have q0 : W'.cell? ⟨Q, 0, none⟩ = some (.string K) := h6.at 0
      have q1 : W'.cell? ⟨Q, 1, none⟩ = some (.string V) := h6.at 1
      have q2 : W'.cell? ⟨Q, 2, none⟩ = some (.bool false) := h6.at 2
      obtain ⟨e1, e2, e3⟩ := HK.out
      refine bodyPost_ret (v := .tuple #[.agg #[.string K, .string V, .bool false], .string R, .bool true]) (by simp [results, Tryd.results34, go_sem, q0, q1, q2]) rfl ⟨?_, hb6⟩
      rw [e1, e2, e3]
      rfl
set_option maxHeartbeats 1000000 in
theorem rrow_g (t : List UInt8) (n : Nat) (h : rdSz s.data.toList = some (n, t)) (hn : 1 ≤ n ∧ n ≤ 60) (h45 : t[0]? = some 45) (hl : n ≤ (t.drop 1).length) : Calls Tryd.prog 34 #[.string s] w fun e w' => e = .returned (.tuple #[rval ⟨(t.drop 1).take n, [], true⟩, .string (bA ((t.drop 1).drop n)), .bool true]) ∧ Below w.heap.size w w' := by
  obtain ⟨Q, W0, hQ, hW0, hR, hB0⟩ := box_zero w
  have p1 := fun v => rdsz_any s (by unfold maxLen; omega) v
  rw [h] at p1
  simp only [szV] at p1
  have cR := fun (v : World) (hb : Below W0.heap.size W0 v) => (show Lw v Q (rcells zrr) from hR.below hb hR.size)
  have pf : ∀ v, Calls Tryd.prog 27 #[.int .i64 (n : Int)] v fun e w' => e = .returned (.bool true) ∧ v = w' := fun v => by
    have := sfits_any (n : Int) v
    rw [decide_eq_true (by omega)] at this
    exact this
  have hle := rdSz_len h
  have hsl : s.data.toList.length = s.size := Array.length_toList
  obtain ⟨T, hT⟩ : ∃ T, T = bA t := ⟨_, rfl⟩
  have hTl : T.data.toList = t := by rw [hT]; rfl
  have hTz : T.size ≤ 1099511627776 := by rw [hT, bA_size]; omega
  rw [← hT] at p1
  have pc := fun v => cutp_yes T (by unfold maxLen; omega) (by rw [hTl]; exact h45) v
  obtain ⟨U, hU⟩ : ∃ U, U = T.extract 1 T.size := ⟨_, rfl⟩
  have hUl : U.data.toList = t.drop 1 := by rw [hU, ext_drop, hTl]
  have hUs : U.data.toList.length = U.size := Array.length_toList
  have hUz : n ≤ U.size := by rw [← hUs, hUl]; exact hl
  have hUb : U.size ≤ 1099511627776 := by
    have h3 : T.data.toList.length = T.size := Array.length_toList
    rw [hTl] at h3
    rw [← hUs, hUl, List.length_drop]; omega
  rw [← hU] at pc
  have hn60 := hn.2
  obtain ⟨K, hK⟩ : ∃ K, U.extract 0 n = K := ⟨_, rfl⟩
  obtain ⟨R, hR'⟩ : ∃ R, U.extract n U.size = R := ⟨_, rfl⟩
  have hKb : K = bA ((t.drop 1).take n) := ba_of (by rw [← hK, ext_take, hUl])
  have hVb : ByteArray.empty = bA [] := rfl
  have hRb : R = bA ((t.drop 1).drop n) := ba_of (by rw [← hR', ext_drop, hUl])
  have hKz : K.size ≤ 1099511627776 := by rw [hKb, bA_size, List.length_take]; omega
  have hVz : ByteArray.empty.size ≤ 1099511627776 := by show (0 : Nat) ≤ _; omega
  have pK := fun v => sclone_any K hKz v
  have pV := fun v => sclone_any ByteArray.empty hVz v
  have HK := Lib.hid (And.intro hKb (And.intro hVb hRb))
  have n1 : (n : Int) ≤ (U.size : Int) := by omega
  have n5 : ¬ (U.size : Int) < (n : Int) := by omega
  clear h hs hT hTl hTz hle hsl h45 hn hU hUl hl hKz hVz hKb hVb hRb hUs
  go_enter Tryd.func34, Tryd.ntmps34
  go_upto_region 13 with (first
    | (go_at_call 54; (with_reducible refine (p1 _).mono ?_); rintro e w1 ⟨rfl, hb1⟩; have d0 := (cR _ hb1).key; have d1 := (cR _ hb1).val; have d2 := (cR _ hb1).gon; have f0 := (cR _ hb1).free 0; have f1 := (cR _ hb1).free 1; have f2 := (cR _ hb1).free 2)
    | (go_at_call 27; (with_reducible refine (pf _).mono ?_); rintro e w2 ⟨rfl, hw⟩; subst hw)
    | (go_at_call 55; (with_reducible refine (pc _).mono ?_); rintro e w2 ⟨rfl, hw⟩; subst hw))
  have hL3 := (cR _ hb1).putg true
  have hB3 := (bstep hB0 hb1).setCell (p := ⟨Q, 2, none⟩) (by show _ ≤ Q; omega) (.bool true)
  generalize World.setCell _ _ _ = w3 at hL3 hB3 ⊢
  have hmx : Tryd.prog.follows .mixedOrders = true := by kernel_rfl
  have cL := fun (v : World) (hb : Below w3.heap.size w3 v) => (show Lw v Q (rcells { zrr with g := true }) from Rw.below hL3 hb (Rw.size hL3))
  go_region_with (first
    | (go_at_call 30; (with_reducible refine (pK _).mono ?_); rintro e wk ⟨rfl, hbk⟩; have hz : Below w3.heap.size w3 wk := (by first | exact bstep (Below.refl _ w3).drew hbk | exact bstep (bstep (Below.refl _ w3).drew hbv) hbk); have k0 := (cL _ hz).key; have k1 := (cL _ hz).val; have k2 := (cL _ hz).gon; have fk0 := Rw.free (cL _ hz) 0; have fk1 := Rw.free (cL _ hz) 1)
    | (go_at_call 30; (with_reducible refine (pV _).mono ?_); rintro e wv ⟨rfl, hbv⟩; have hz : Below w3.heap.size w3 wv := (by first | exact bstep (Below.refl _ w3).drew hbv | exact bstep (bstep (Below.refl _ w3).drew hbk) hbv); have k0 := (cL _ hz).key; have k1 := (cL _ hz).val; have k2 := (cL _ hz).gon; have fk0 := Rw.free (cL _ hz) 0; have fk1 := Rw.free (cL _ hz) 1))
  all_goals
    have hlast := cL _ hz
    have h5 := hlast.putKV K ByteArray.empty
    have hBB := bstep hB3 hz
    have hb5 := (hBB.setCell (p := ⟨Q, 0, none⟩) (by show _ ≤ Q; omega) (.string K)).setCell (p := ⟨Q, 1, none⟩) (by show _ ≤ Q; omega) (.string ByteArray.empty)
    generalize World.setCell (World.setCell _ _ _) _ _ = W5 at h5 hb5 ⊢
    have x0 := h5.at 0
    have x1 := h5.at 1
    have x2 := h5.at 2
    have y0 := h5.free 0
    have y1 := h5.free 1
    have y2 := h5.free 2
    go_upto_region 14 with fail
    go_region
    all_goals
      go_wp2
      have h6 := (Lw.put3 (r := ⟨(t.drop 1).take n, [], true⟩) (by obtain ⟨e1, e2, _⟩ := HK.out; rw [e1, e2] at h5; exact h5) ⟨K.data.toList, [], true⟩).drew
      have hb6 := (put3_below hb5 hQ (.string K) (.string ByteArray.empty) (.bool true)).drew
      rw [hQ] at hb6
      replace h6 : Rw ((((W5.setCell ⟨Q, 0, none⟩ (.string K)).setCell ⟨Q, 1, none⟩ (.string ByteArray.empty)).setCell ⟨Q, 2, none⟩ (.bool true)).drew) Q 29 #[.string K, .string ByteArray.empty, .bool true] := h6
      generalize World.drew _ = W' at h6 hb6 ⊢
      have q0 : W'.cell? ⟨Q, 0, none⟩ = some (.string K) := h6.at 0
      have q1 : W'.cell? ⟨Q, 1, none⟩ = some (.string ByteArray.empty) := h6.at 1
      have q2 : W'.cell? ⟨Q, 2, none⟩ = some (.bool true) := h6.at 2
      obtain ⟨e1, e2, e3⟩ := HK.out
      refine bodyPost_ret (v := .tuple #[.agg #[.string K, .string ByteArray.empty, .bool true], .string R, .bool true]) (by simp [results, Tryd.results34, go_sem, q0, q1, q2]) rfl ⟨?_, hb6⟩
      rw [e1, e2, e3, List.drop_drop, List.drop_one, Nat.add_comm 1 n]
      rfl
/-- readRow: the first row of a text. -/
theorem rrow_any : Calls Tryd.prog 34 #[.string s] w fun e w' => e = .returned (rd1V (rd1 s.data.toList)) ∧ Below w.heap.size w w' := by
  cases h : rdSz s.data.toList with
  | none => rw [rd1_a h]; exact rrow_a s hs w h
  | some p =>
    obtain ⟨n, t⟩ := p
    by_cases hn : 1 ≤ n ∧ n ≤ 60
    · by_cases h45 : t[0]? = some 45
      · rw [rd1_c h hn h45]
        by_cases hl : (t.drop 1).length < n
        · rw [if_pos hl]; exact rrow_c s hs w t n h hn h45 hl
        · rw [if_neg hl]; exact rrow_g s hs w t n h hn h45 (by omega)
      · cases h2 : rdSz t with
        | none => rw [rd1_d h hn h45 h2]; exact rrow_d s hs w t n h hn h45 h2
        | some p =>
          obtain ⟨m, u⟩ := p
          rw [rd1_e h hn h45 h2]
          by_cases hl : u.length < n + m
          · rw [if_pos hl]; exact rrow_e s hs w t u n m h hn h45 h2 hl
          · rw [if_neg hl]; exact rrow_f s hs w t u n m h hn h45 h2 (by omega)
    · rw [rd1_b h hn]; exact rrow_b s hs w t n h hn
end
end Go.Proofs.YtlofjfeimhjdlaaDoor
