/- THE WALK of ammonitelaw7.StoreKeys. -/
import Derived.Test.YtlofjfeimhjdlaaDoorKk7
import Derived.Test.YtlofjfeimhjdlaaDoorSR7
import Derived.Test.YtlofjfeimhjdlaaDoorLr7
import Derived.Deep.RegionHeld
namespace Go.Proofs.YtlofjfeimhjdlaaDoor
open Go.RowKit Go.Shelf Go.Maps
attribute [local go_sem] Oper.semAt_some

/-- Texts that came in. -/
def TextsAt (w : World) (a : Option Addr) (len : Nat) : Prop := ∀ i, i < len → ∃ (x : Addr) (s : ByteArray), a = some x ∧ x.block < w.heap.size ∧ s.size ≤ maxLen ∧ w.cell? (x.add i) = some (.string s)
theorem texts_at {w W : World} {a : Option Addr} {len : Nat} (h : TextsAt w a len) (hb : Below w.heap.size w W) (i : Nat) (hi : i < len) : ∃ (x : Addr) (s : ByteArray), a = some x ∧ x.block < W.heap.size ∧ s.size ≤ maxLen ∧ W.cell? (x.add i) = some (.string s) := by
  obtain ⟨x, s, rfl, h1, h2, h3⟩ := h i hi
  exact ⟨x, s, rfl, Nat.lt_of_lt_of_le h1 hb.size, h2, (hb.cell (p := x.add i) (by rw [add_block]; exact h1)).trans h3⟩
/-- While keys are met: the store on its disk, the map, the boxes of the answer and of the map. -/
structure KI (w W : World) (Rb Mb Mm G B jg sg j : Nat) (d : Dk) (v x : Value) (ts : List (List UInt8)) (st : List Rr) (D : DataW Unit) (n : Nat) : Prop where
  so : SO w W G B 400 jg sg d v x ts st false
  ho : Holds d.ss ts
  fr : Fresh d 400
  sr : Srt st
  vs : ∀ r ∈ st, r.v.length ≤ 5
  fl : (flat ts).length ≤ 8 * j
  sl : st.length ≤ j
  rb : Rw W Rb 4 #[.bool false]
  mb : Rw W Mb 47 #[.map (some Mm)]
  mo : MapT W 4 Mm n D
  mn : n ≤ j
  kd : KeysOf D st
  g1 : w.heap.size ≤ Rb
  g2 : w.heap.size ≤ Mb
  g3 : w.heap.size ≤ Mm
section
variable {w W W' : World} {Rb Mb Mm G B jg sg j : Nat} {d d' : Dk} {v v' x x' : Value} {ts : List (List UInt8)} {st : List Rr} {D : DataW Unit} {n : Nat}
theorem KI.next (h : KI w W Rb Mb Mm G B jg sg j d v x ts st D n) (hb : Below W.heap.size W W') : KI w W' Rb Mb Mm G B jg sg j d v x ts st D n :=
  ⟨h.so.next hb, h.ho, h.fr, h.sr, h.vs, h.fl, h.sl, h.rb.below hb h.rb.size, h.mb.below hb h.mb.size, h.mo.next hb, h.mn, h.kd, h.g1, h.g2, h.g3⟩
theorem KI.more (h : KI w W Rb Mb Mm G B jg sg j d v x ts st D n) {j' : Nat} (hj : j ≤ j') : KI w W Rb Mb Mm G B jg sg j' d v x ts st D n :=
  ⟨h.so, h.ho, h.fr, h.sr, h.vs, by have := h.fl; omega, by have := h.sl; omega, h.rb, h.mb, h.mo, by have := h.mn; omega, h.kd, h.g1, h.g2, h.g3⟩
theorem sb_not {t : Bool} {cap : Nat} {g : Nat} {ty : TypeId} {cs : Array Value} (h : SO w W G B cap jg sg d v x ts st t) (hr : Rw W g ty cs) (h1 : ty ≠ 60) (h2 : ty ≠ 90) (h3 : ty ≠ 92) (h4 : ty ≠ 9) (h5 : ty ≠ 64) (h6 : ty ≠ 29) : ¬ SB G B jg v sg x g := fun hk => by
  obtain ⟨cs', ty', hr', ht⟩ := h.cells g hk
  refine hr.ne hr' (fun e => ?_) rfl
  subst e
  rcases ht with e | e | e | e | e | e
  · exact h1 e
  · exact h2 e
  · exact h3 e
  · exact h4 e
  · exact h5 e
  · exact h6 e
theorem KI.but {S : Nat → Prop} (h : KI w W Rb Mb Mm G B jg sg j d v x ts st D n) (hb : But S W W') (hn : ∀ q, SB G B jg v sg x q → ¬ S q) (hs : ∀ q, S q → w.heap.size ≤ q) (h1 : ¬ S Rb) (h2 : ¬ S Mb) (h3 : ¬ S Mm) : KI w W' Rb Mb Mm G B jg sg j d v x ts st D n :=
  ⟨h.so.but hb hn hs, h.ho, h.fr, h.sr, h.vs, h.fl, h.sl, h.rb.butS hb h1, h.mb.butS hb h2, h.mo.butS hb h3, h.mn, h.kd, h.g1, h.g2, h.g3⟩
theorem KI.grown {N : Nat} (hN : w.heap.size ≤ N) (hM : Mm < N) {row : Option Nat} (h : KI w W Rb Mb Mm G B jg sg j d v x ts st D n) (hg : W.grownBy W' row) (hr : ∀ r, row = some r → N ≤ r ∧ ∃ o : Obj, W.heap[r]? = some o ∧ o.isCells = false) : KI w W' Rb Mb Mm G B jg sg j d v x ts st D n := by
  have hr' := fun r e => (hr r e).2
  exact ⟨h.so.grown hN hg hr, h.ho, h.fr, h.sr, h.vs, h.fl, h.sl, rw_grown h.rb hg hr', rw_grown h.mb hg hr', h.mo.kept hg (fun e => by have := (hr Mm e.symm).1; omega), h.mn, h.kd, h.g1, h.g2, h.g3⟩
/-- While keys are walked: the boxes of the bound, of how many came, of the last one. -/
structure NI (w W : World) (Rb Mb Mm Cb G B jg sg j : Nat) (d : Dk) (v x : Value) (ts : List (List UInt8)) (st : List Rr) (D : DataW Unit) (n : Nat) (c m : Int) (lk : List UInt8) : Prop where
  ki : KI w W Rb Mb Mm G B jg sg j d v x ts st D n
  cb : Rw W Cb 3 #[.int .i64 c]
  nb : Rw W (Cb + 1) 3 #[.int .i64 m]
  lb : Rw W (Cb + 1 + 1) 9 #[.string (bA lk)]
  sb : ∀ q, SB G B jg v sg x q → q < Cb
  rl : Rb < Cb
  ml : Mb < Cb
  mm : Mm < Cb
  wl : w.heap.size ≤ Cb
section
variable {Cb : Nat} {c m : Int} {lk : List UInt8}
theorem NI.next (h : NI w W Rb Mb Mm Cb G B jg sg j d v x ts st D n c m lk) (hb : Below W.heap.size W W') : NI w W' Rb Mb Mm Cb G B jg sg j d v x ts st D n c m lk :=
  ⟨h.ki.next hb, h.cb.below hb h.cb.size, h.nb.below hb h.nb.size, h.lb.below hb h.lb.size, h.sb, h.rl, h.ml, h.mm, h.wl⟩
theorem NI.grown {N : Nat} (hN : Cb + 1 + 1 ≤ N) {row : Option Nat} (h : NI w W Rb Mb Mm Cb G B jg sg j d v x ts st D n c m lk) (hg : W.grownBy W' row) (hr : ∀ r, row = some r → N ≤ r ∧ ∃ o : Obj, W.heap[r]? = some o ∧ o.isCells = false) : NI w W' Rb Mb Mm Cb G B jg sg j d v x ts st D n c m lk := by
  have hr' := fun r e => (hr r e).2
  exact ⟨h.ki.grown (by have := h.wl; omega) (by have := h.mm; omega) hg hr, rw_grown h.cb hg hr', rw_grown h.nb hg hr', rw_grown h.lb hg hr', h.sb, h.rl, h.ml, h.mm, h.wl⟩
/-- One more came. -/
theorem NI.step (h : NI w W Rb Mb Mm Cb G B jg sg j d v x ts st D n c m lk) (m' : Int) (lk' : List UInt8) : NI w ((W.setCell ⟨Cb + 1, 0, none⟩ (.int .i64 m')).setCell ⟨Cb + 1 + 1, 0, none⟩ (.string (bA lk'))) Rb Mb Mm Cb G B jg sg j d v x ts st D n c m' lk' := by
  have hb : But (fun q => q = Cb + 1 ∨ q = Cb + 1 + 1) W ((W.setCell ⟨Cb + 1, 0, none⟩ (.int .i64 m')).setCell ⟨Cb + 1 + 1, 0, none⟩ (.string (bA lk'))) := ((But.refl _ W).setCell (p := ⟨Cb + 1, 0, none⟩) (.inl rfl) _).setCell (p := ⟨Cb + 1 + 1, 0, none⟩) (.inr rfl) _
  have e1 := h.rl
  have e2 := h.ml
  have e3 := h.mm
  have e4 := h.wl
  refine ⟨h.ki.but hb (fun q hq hS => ?_) (fun q hS => ?_) (by omega) (by omega) (by omega), h.cb.butS hb (by omega), ?_, ?_, h.sb, h.rl, h.ml, h.mm, h.wl⟩
  · have := h.sb q hq
    omega
  · omega
  · exact Rw.other (by simpa using h.nb.put 0 (.int .i64 m')) (show Cb + 1 ≠ Cb + 1 + 1 by omega) _
  · simpa using (h.lb.other (p := ⟨Cb + 1, 0, none⟩) (show Cb + 1 + 1 ≠ Cb + 1 by omega) (.int .i64 m')).put 0 (.string (bA lk'))
theorem NI.kf (h : NI w W Rb Mb Mm Cb G B jg sg j d v x ts st D n c m lk) (m' : Int) (lk' : List UInt8) : KF (Cb + 3 + 1) W ((W.setCell ⟨Cb + 1, 0, none⟩ (.int .i64 m')).setCell ⟨Cb + 1 + 1, 0, none⟩ (.string (bA lk'))) := by
  have h1 : Rw (W.setCell ⟨Cb + 1, 0, none⟩ (.int .i64 m')) (Cb + 1 + 1) 9 #[.string (bA lk)] := h.lb.other (p := ⟨Cb + 1, 0, none⟩) (show Cb + 1 + 1 ≠ Cb + 1 by omega) _
  refine ⟨((KT.refl _ W).set h.nb (by decide) _).set h1 (by decide) _, ((KT.refl _ W).set h.nb (by decide) _).set h1 (by decide) _, fun o ho _ => ?_⟩
  rw [heap_setCell_other _ _ _ _ (show Cb + 3 + 1 ≠ Cb + 1 + 1 by omega), heap_setCell_other _ _ _ _ (show Cb + 3 + 1 ≠ Cb + 1 by omega)]
  exact ho
theorem NI.kr (h : NI w W Rb Mb Mm Cb G B jg sg j d v x ts st D n c m lk) (b : Bool) : KF (Cb + 3 + 1) W (W.setCell ⟨Rb, 0, none⟩ (.bool b)) := by
  have e := h.rl
  refine ⟨(KT.refl _ W).set h.ki.rb (by decide) _, (KT.refl _ W).set h.ki.rb (by decide) _, fun o ho _ => ?_⟩
  rw [heap_setCell_other _ _ _ _ (show Cb + 3 + 1 ≠ Rb by omega)]
  exact ho
end
/-- A key that may be was committed; the map knows it not yet. -/
theorem KI.commit (h : KI w W Rb Mb Mm G B jg sg j d v x ts st D n) {k : List UInt8} (hk : 1 ≤ k.length ∧ k.length ≤ 60) (hS : SO w W' G B 400 jg sg d' v' x' (ts ++ [rtext [kf k, kl k]]) (turns st [kf k, kl k]) false) (ho : Holds d'.ss (ts ++ [rtext [kf k, kl k]])) (hf : Fresh d' 400) (hb : But (SB G B jg v sg x) W W')
    {w2 : World} (hm : MapT w2 4 Mm (n + 1) (D.put (.string k) (.lit (.bool true)))) (hg : W'.grownBy w2 (some Mm)) :
    KI w w2 Rb Mb Mm G B jg sg (j + 1) d' v' x' (ts ++ [rtext [kf k, kl k]]) (turns st [kf k, kl k]) (D.put (.string k) (.lit (.bool true))) (n + 1) := by
  have hb2 : But (fun q => q = Mm) W' w2 := But.of_grown hg (fun q e => by cases e; rfl)
  have hm' : MapT W' 4 Mm n D := h.mo.butS hb (h.mo.notSB h.so)
  have hrb := h.rb.butS hb (sb_not h.so h.rb (by decide) (by decide) (by decide) (by decide) (by decide) (by decide))
  have hmb := h.mb.butS hb (sb_not h.so h.mb (by decide) (by decide) (by decide) (by decide) (by decide) (by decide))
  refine ⟨hS.but hb2 (fun q hq e => hm'.notSB hS (by cases e; exact hq)) (fun q e => by cases e; exact h.g3), ho, hf, srt_kk h.sr hk, fun r hr => ?_, ?_, ?_, hrb.butS hb2 (fun e => hm'.cells hrb e.symm), hmb.butS hb2 (fun e => hm'.cells hmb e.symm), hm, by have := h.mn; omega, h.kd.kk (h.mo.tidy skeyed7) h.sr hk, h.g1, h.g2, h.g3⟩
  · rcases (mem_kk h.sr hk r).1 hr with ⟨h1, _⟩ | rfl
    · exact h.vs r h1
    · show (4 : Nat) ≤ 5; omega
  · rw [flat_snoc, List.length_append]
    have := pieces_kk hk.2
    have := h.fl
    omega
  · rw [len_kk h.sr hk]
    have := h.sl
    split <;> omega
end
theorem bA_back (x : ByteArray) : bA x.data.toList = x := by cases x; rfl
def NoPanic (Q : Exit → Act → World → Prop) : Exit → Act → World → Prop
  | .panic _, _, _ => False
  | e, a, w => Q e a w
theorem wp_noPanic {P : Program} {c : Code} {Q : Exit → Act → World → Prop} {a : Act} {w : World} (h : c.wp P (NoPanic Q) a w) : c.wp P Q a w := wp_mono h (fun e a w h => by cases e <;> first | exact h | exact h.elim)
set_option maxRecDepth 100000 in
set_option maxHeartbeats 4000000 in
theorem skeys_any (a : Option Addr) (len cap : Nat) (cut : Int) (w : World) (hP : Pow w) (hr : TextsAt w a len) :
    Calls Tryd.prog 5 #[.slice a len cap, .int .i64 cut] w fun e w' => e = .returned (.bool true) ∧ Below w.heap.size w w' := by
  obtain ⟨c, hc, hc1, hc2⟩ := wthn_nat cut 1 9 (by omega) (by omega)
  have pc := within_to cut 1 9 c (by omega) (by omega) (by omega) hc
  clear hc
  have p0 := new_any 400 400 rfl
  have hnew : Holds (newDk 400).ss [] := Holds.new 400
  have f0 : Fresh (newDk 400) 400 := ⟨rfl, rfl, by simp [newDk]⟩
  refine (callsIn_wide (n := 12)).1 ?_
  refine callsIn_of_wp_marks Tryd.func5 rfl trivial ?_ rfl
  simp only [Tryd.ntmps5, List.size_toArray, List.length_cons, List.length_nil, Nat.reduceAdd, Nat.reduceSub, Array.replicate_succ, Array.replicate_zero, List.push_toArray, List.append_toArray, List.nil_append, List.cons_append]
  refine wpIn_wide.2 ?_
  have b0 := (Below.refl w.heap.size w).alloc (Nat.le_refl _) (.cells #[.bool false] 4)
  have r0 := Rw.fresh w 4 #[.bool false]
  obtain ⟨Rb, hRb⟩ : ∃ Rb, w.heap.size = Rb := ⟨_, rfl⟩
  obtain ⟨W0, hW0⟩ : ∃ W0, w.alloc (.cells #[.bool false] 4) = W0 := ⟨_, rfl⟩
  have p0' := p0 W0
  obtain ⟨G, hG⟩ : ∃ G, W0.heap.size + 1 = G := ⟨_, rfl⟩
  obtain ⟨B, hB⟩ : ∃ B, W0.heap.size = B := ⟨_, rfl⟩
  rw [hW0] at b0 r0
  rw [hRb] at r0
  rw [hG, hB] at p0'
  have g1 : w.heap.size ≤ G := by have := b0.size; omega
  have g2 : w.heap.size ≤ B := by have := b0.size; omega
  have hb1 := b0.size
  go_upto_region 1 with fail
  clear hW0 p0
  go_upto_region 5 with (first
    | (go_at_call 7; (with_reducible refine p0'.mono ?_); rintro e w1 ⟨rfl, hA0, hb0⟩)
    | (go_at_call 8; (with_reducible refine (so_open (w0 := w) hA0 hnew (b0.trans (hb0.mono g2)) g1 g2).mono ?_); rintro e w2 ⟨jg, v, sg, x, rfl, hS0, hbO, _, _, _, _⟩))
  have gW := hS0.jo.bel.size
  have hrb := (r0.below hb0 (by have := r0.size; omega)).below hbO (Nat.lt_of_lt_of_le r0.size (by rw [hB]; exact Nat.le_trans (by omega) hb0.size))
  obtain ⟨Mm, hMm⟩ : ∃ Mm, w2.heap.size = Mm := ⟨_, rfl⟩
  obtain ⟨W1, hW1⟩ : ∃ W1, (w2.alloc (.map #[] 0)).alloc (.cells #[.map (some Mm)] 47) = W1 := ⟨_, rfl⟩
  have hbW : Below w2.heap.size w2 W1 := by rw [← hW1]; exact ((Below.refl _ w2).alloc (Nat.le_refl _) _).alloc (by simp) _
  have hmo : MapT W1 4 Mm 0 (.map []) := by rw [← hW1]; rw [← hMm]; exact (World.ownsMap_made w2 _ _ _).alloc _
  have hmb : Rw W1 (Mm + 1) 47 #[.map (some Mm)] := by
    have := Rw.fresh (w2.alloc (.map #[] 0)) 47 #[.map (some Mm)]
    rw [World.size_alloc, hW1, hMm] at this
    exact this
  have hK0 : KI w W1 Rb (Mm + 1) Mm G B jg sg 0 (newDk 400) v x [] [] (.map []) 0 :=
    ⟨hS0.next hbW, hnew, f0, Srt.nil, (fun r hr => by cases hr), Nat.le_refl _, Nat.le_refl _, hrb.below hbW hrb.size, hmb, hmo, Nat.le_refl _, KeysOf.nil, by omega, by omega, by omega⟩
  have hmm := @run_makeMap Tryd.prog
  go_upto_region 6 with fail
  clear hmm hrb gW hW1 hMm hbW hmo hmb hS0 hbO hA0 hb0 p0' b0 r0 hb1 hRb hG hB hnew f0
  go_upto_block 0 with fail
  go_wp2_with fail
  go_loopg [8] 9 (fun g y wr => ∃ (j : Nat) (d : Dk) (v x : Value) (ts : List (List UInt8)) (st : List Rr) (D : DataW Unit) (n : Nat), y = .int .i64 (j : Int) ∧ j ≤ 8 ∧ g = 9 - j ∧ KI w wr Rb (Mm + 1) Mm G B jg sg j d v x ts st D n)
  case atStart => exact ⟨0, _, _, _, _, _, _, _, rfl, by omega, by omega, hK0⟩
  case round =>
    clear hK0
    obtain ⟨j, d, v, x, ts, st, D, n, rfl, hj, hg, hK⟩ := hrel
    by_cases hin : j < len ∧ j < 8
    · --BEGIN a
      have d1 : decide ((j : Int) < (len : Int)) = true := by simp; omega
      have d2 : decide ((j : Int) < 8) = true := by simp; omega
      obtain ⟨xa, s, rfl, hxb, hsz, hcs⟩ := texts_at hr hK.so.jo.bel j hin.1
      have hjl := hin.1
      have hj8 := hin.2
      obtain ⟨r, hrr⟩ : ∃ r : Nat, r = min s.size 62 := ⟨_, rfl⟩
      have l4 : (r : Int) ≤ (s.size : Int) := by omega
      have l5 : (0 : Int) ≤ (r : Int) := by omega
      have m1 : min (s.size : Int) 62 = (r : Int) := by omega
      have hr62 : r ≤ 62 := by omega
      clear hrr hin
      go_upto_region 9 with fail
      refine wp_noPanic ?_
      go_region_held (fun v => v.cell? (xa.add j) = some (.string s)) (first | assumption | exact hcs | skip) (fail)
      unfold NoPanic
      obtain ⟨k, hk⟩ : ∃ k : List UInt8, bA k = s.extract 0 r := ⟨(s.extract 0 r).data.toList, bA_back _⟩
      have hkz : k.length = r := by
        have := congrArg ByteArray.size hk
        rw [bA_size, ByteArray.size_extract] at this
        omega
      rw [← hk]
      have hK9 : KI w wr.drew Rb (Mm + 1) Mm G B jg sg j d v x ts st D n := hK.next (Below.refl _ _).drew
      clear hk l4 l5 m1 hcs hK hxb hsz
      generalize wr.drew = wz at hK9 ⊢
      have hz : ((bA k).size : Int) = (k.length : Int) := rfl
      have hl8 : st.length ≤ 8 := Nat.le_trans hK9.sl hj
      have hts8 : (flat ts).length ≤ 64 := Nat.le_trans hK9.fl (by omega)
      obtain ⟨wq, hwq⟩ : ∃ wq, wz.alloc (.cells #[.string (bA k), .string ⟨#[102, 105, 114, 115, 116]⟩, .bool false, .string (bA k), .string ⟨#[108, 97, 115, 116]⟩, .bool false] 29) = wq := ⟨_, rfl⟩
      have hbq : Below wz.heap.size wz wq := by rw [← hwq]; exact (Below.refl _ wz).alloc (Nat.le_refl _) _
      have hIs : IsR wq (.slice (some ⟨wz.heap.size, 0, none⟩) 2 2) [kf k, kl k] := by rw [← hwq]; exact isR_new wz [kf k, kl k] 2 rfl
      have hKq := hK9.next hbq
      by_cases hk : 1 ≤ k.length ∧ k.length ≤ 60
      · have pC := so_commit hKq.so hKq.ho hP hKq.sr (by omega) (by have := rtext_kk hk.2; omega) (kk_ok hk) hIs _ rfl hKq.fr.down (by rw [hKq.fr.len]; have := pieces_kk hk.2; omega) (fun e => by rw [hKq.fr.arm] at e; cases e)
        have t1 : decide (1 ≤ (k.length : Int)) = true := decide_eq_true (by omega)
        have t2 : decide ((k.length : Int) ≤ 60) = true := decide_eq_true (by omega)
        have mc := @KI.commit w wq
        obtain ⟨st', hst'⟩ : ∃ st', st' = turns st [kf k, kl k] := ⟨_, rfl⟩
        obtain ⟨ts', hts'⟩ : ∃ ts', ts' = ts ++ [rtext [kf k, kl k]] := ⟨_, rfl⟩
        have key : ∀ d' v' x' wy, SO w wy G B 400 jg sg d' v' x' ts' st' false → Holds d'.ss ts' → Fresh d' 400 → But (SB G B jg v sg x) wq wy → MapT wy 4 Mm n D ∧ wy.cell? ⟨Mm + 1, 0, none⟩ = some (.map (some Mm)) ∧
            ∀ w4, MapT w4 4 Mm (n + 1) (D.put (.string k) (.lit (.bool true))) → wy.grownBy w4 (some Mm) → KI w w4 Rb (Mm + 1) Mm G B jg sg (j + 1) d' v' x' ts' st' (D.put (.string k) (.lit (.bool true))) (n + 1) ∧
              Calls Tryd.prog 10 #[.pointer (some ⟨sg, 0, none⟩), .string (bA k)] w4 fun e w' => e = .returned (.tuple #[.string ⟨#[108, 97, 115, 116]⟩, .bool true]) ∧ Below w4.heap.size w4 w' := fun d' v' x' wy h1 h2 h3 h4 => by
          subst hst' hts'
          refine ⟨hKq.mo.butS h4 (hKq.mo.notSB hKq.so), (hKq.mb.butS h4 (sb_not hKq.so hKq.mb (by decide) (by decide) (by decide) (by decide) (by decide) (by decide))).at 0, fun w4 h5 h6 => ?_⟩
          have hK4 := hKq.commit hk h1 h2 h3 h4 h5 h6
          refine ⟨hK4, ?_⟩
          have := get_any _ sg jg x' _ (bA k) hK4.sr.up (fun r hr => by have := hK4.vs r hr; omega) (by have := hK4.sl; omega) w4 hK4.so.sn
          have e : getK (turns st [kf k, kl k]) (bA k).data.toList = some [108, 97, 115, 116] := by
            have e1 : (bA k).data.toList = k := by simp [bA]
            rw [e1]; exact get_kk hKq.sr hk
          rw [e] at this
          exact this
        rw [← hst', ← hts'] at pC
        have hnm : n < maxLen := by have := hKq.mn; unfold maxLen; omega
        have hky := skey7 k (by omega)
        have hF := hKq.fr
        clear hst' hts' hKq hK9 hIs mc hr hbq hkz
        go_upto_region 14 with (go_at_call 9; (with_reducible refine pC.mono ?_); rintro e wy ⟨rfl, d', v', x', hS', ho', hd', hn', hb', _, _⟩; obtain ⟨hmy, cM, key2⟩ := key d' v' x' wy hS' ho' ⟨by rw [hd']; exact hF.down, by rw [hd']; exact hF.arm, by rw [hn', hF.len]⟩ hb')
        clear pC hS' ho' hd' hn' hb' key t1 t2 hF hP hwq
        go_wp2_with (first
          | (at_mapUpdate; refine wpList_mapUpdate_own _ rfl _ _ _ 47 rfl 9 4 skeyed7 Tryd.underlying47 _ Mm n D rfl hmy hnm _ _ _ rfl rfl hky _ [] (plainElem_bool Tryd.underlying4 true) ?_; intro w4 hown4 hgrow4; obtain ⟨hK4, pG⟩ := key2 w4 hown4 hgrow4)
          | (go_at_call 10; (with_reducible refine pG.mono ?_); rintro e w5 ⟨rfl, hb5⟩))
        go_roundg (9 - (j + 1))
        case measure => omega
        case rel => exact ⟨j + 1, d', v', x', ts', st', _, n + 1, by go_num, by omega, rfl, hK4.next hb5⟩
      · have pC := commit_form sg (.slice (some ⟨wz.heap.size, 0, none⟩) 2 2) [kf k, kl k] 0 (kf k) rfl hk (fun i q hi _ => by omega) (by show 2 ≤ 1000000000000; omega) wq hIs
        have pG : ∀ w4, Below wq.heap.size wq w4 → Calls Tryd.prog 10 #[.pointer (some ⟨sg, 0, none⟩), .string (bA k)] w4 fun e w' => e = .returned (.tuple #[.string ⟨#[]⟩, .bool false]) ∧ Below w4.heap.size w4 w' := fun w4 h4 => by
          have hK4 := hKq.next h4
          have := get_any _ sg jg x _ (bA k) hK4.sr.up (fun r hr => by have := hK4.vs r hr; omega) (by have := hK4.sl; omega) w4 hK4.so.sn
          have e : getK st (bA k).data.toList = none := by
            have e1 : (bA k).data.toList = k := by simp [bA]
            rw [e1]; exact get_bad hKq.sr hk
          rw [e] at this
          exact this
        have t12 : decide (1 ≤ (k.length : Int)) = false ∨ (decide (1 ≤ (k.length : Int)) = true ∧ decide ((k.length : Int) ≤ 60) = false) := by
          by_cases h1 : 1 ≤ k.length
          · exact .inr ⟨decide_eq_true (by omega), decide_eq_false (by omega)⟩
          · exact .inl (decide_eq_false (by omega))
        clear hK9 hIs hr hbq hkz hk
        rcases t12 with t1 | ⟨t1, t2⟩
        all_goals
          go_wp2_with (first
            | (go_at_call 9; (with_reducible refine pC.mono ?_); rintro e wy ⟨rfl, hby⟩)
            | (go_at_call 10; (with_reducible refine (pG _ hby).mono ?_); rintro e w5 ⟨rfl, hb5⟩))
          go_roundg (9 - (j + 1))
          case measure => omega
          case rel => exact ⟨j + 1, d, v, x, ts, st, _, n, by go_num, by omega, rfl, ((hKq.next hby).next hb5).more (by omega)⟩
      --END a
    · have d12 : (decide ((j : Int) < (len : Int)) = false ∧ ¬ j < len) ∨ (decide ((j : Int) < (len : Int)) = true ∧ j < len ∧ decide ((j : Int) < 8) = false) := by
        by_cases h0 : j < len
        · exact .inr ⟨by simp; omega, h0, by simp; omega⟩
        · exact .inl ⟨by simp; omega, h0⟩
      clear hin hr
      go_upto_region 7 with fail
      go_cut [34] from 27 to 34 (fun b wx => b = .bool false ∧ wx = wr)
      case first =>
        rcases d12 with ⟨d1, d1n⟩ | ⟨d1, d1n, d2⟩
        all_goals
          go_wp2_with fail
          go_meet
          case rel => exact ⟨rfl, rfl⟩
      case rest =>
        obtain ⟨rfl, hwc⟩ := hcut
        have hwc := hwc.symm
        subst hwc
        clear d12
        obtain ⟨Cb, hCb⟩ : ∃ Cb, wr.heap.size = Cb := ⟨_, rfl⟩
        obtain ⟨W3, hW3⟩ : ∃ W3, ((wr.alloc (.cells #[.int .i64 (c : Int)] 3)).alloc (.cells #[.int .i64 0] 3)).alloc (.cells #[.string ⟨#[]⟩] 9) = W3 := ⟨_, rfl⟩
        have hs3 : W3.heap.size = Cb + 3 := by rw [← hW3, ← hCb]; simp
        have hb3 : Below wr.heap.size wr W3 := by rw [← hW3]; exact (((Below.refl _ wr).alloc (Nat.le_refl _) _).alloc (by simp) _).alloc (by simp; omega) _
        have hNI : NI w W3 Rb (Mm + 1) Mm Cb G B jg sg j d v x ts st D n (c : Int) 0 [] := by
          refine ⟨hK.next hb3, ?_, ?_, ?_, fun q hq => ?_, by rw [← hCb]; exact hK.rb.size, by rw [← hCb]; exact hK.mb.size, by rw [← hCb]; exact hK.mo.lt, by rw [← hCb]; exact hK.so.jo.bel.size⟩
          · rw [← hW3, ← hCb]; exact ((Rw.fresh wr _ _).alloc _).alloc _
          · have := (Rw.fresh (wr.alloc (.cells #[.int .i64 (c : Int)] 3)) 3 #[.int .i64 0]).alloc (.cells #[.string ⟨#[]⟩] 9)
            rw [hW3, World.size_alloc, hCb] at this
            exact this
          · have := Rw.fresh ((wr.alloc (.cells #[.int .i64 (c : Int)] 3)).alloc (.cells #[.int .i64 0] 3)) 9 #[.string ⟨#[]⟩]
            rw [hW3, World.size_alloc, World.size_alloc, hCb] at this
            exact this
          · obtain ⟨cs, ty, hrw, _⟩ := hK.so.cells q hq
            rw [← hCb]; exact hrw.size
        clear hb3 hK
        have cN := hNI.nb.at 0
        have fN := hNI.nb.free 0
        have cL := hNI.lb.at 0
        have fL := hNI.lb.free 0
        go_upto_region 20 with (go_at_call 16; (with_reducible refine (pc _).mono ?_); rintro e x ⟨rfl, hx⟩; subst hx)
        have hN4 : NI w ((W3.setCell ⟨Cb + 1, 0, none⟩ (.int .i64 0)).setCell ⟨Cb + 1 + 1, 0, none⟩ (.string ⟨#[]⟩)) Rb (Mm + 1) Mm Cb G B jg sg j d v x ts st D n (c : Int) 0 [] := hNI.step 0 []
        have hs4 : ((W3.setCell ⟨Cb + 1, 0, none⟩ (.int .i64 0)).setCell ⟨Cb + 1 + 1, 0, none⟩ (.string ⟨#[]⟩)).heap.size = Cb + 3 := by simp [World.setCell, hs3]
        generalize (W3.setCell ⟨Cb + 1, 0, none⟩ (.int .i64 0)).setCell ⟨Cb + 1 + 1, 0, none⟩ (.string ⟨#[]⟩) = W4 at hN4 hs4 ⊢
        have pA := sall_any sg W4
        rw [hs4] at pA
        clear hNI hs3 hW3 hCb cN fN cL fL
        go_upto_block 2 with (go_at_call 18; (with_reducible refine pA.mono ?_); rintro e W5 ⟨rfl, hA1, hA2, hb5⟩)
        have hN5 := hN4.next (by rw [hs4]; exact hb5)
        have hs5 : Cb + 5 ≤ W5.heap.size := by have := hA2.lt; omega
        have hsz : ∀ r ∈ st, r.k.length ≤ 1099511627776 ∧ r.v.length ≤ 1099511627776 := fun r hr => by
          have h1 := hN5.ki.vs r hr
          have h2 := (hN5.ki.sr.ok r hr).2.k2
          omega
        have hl8 : st.length ≤ 8 := Nat.le_trans hN5.ki.sl hj
        have hT : st = st.drop (pos st (⟨#[]⟩ : ByteArray).data.toList) := by
          show st = st.drop (pos st [])
          rw [pos_nil]; rfl
        have pS := from_seq (12 - 1) (by omega) (Cb + 3) (Cb + 3 + 1) w.heap.size sg jg x st ⟨#[]⟩ hN5.ki.sr.up hsz (by omega) st hT W5 hA1.cell hA2 hN5.ki.so.sn
        have hse : (sel st (⟨#[]⟩ : ByteArray).data.toList).length = st.length := by
          show (sel st []).length = _
          rw [sel_nil]
        rw [hse] at pS
        clear hN4 hs4 pA hb5 hA1 hA2 hsz hT hse
        refine (wpIn_wide (n := 12)).1 ?_
        gi_wp2
        refine wpIn_rangeO rfl (by omega) (gf := 57) (lb := #[.pointer (some ⟨Cb + 3, 0, none⟩), .pointer (some ⟨Cb + 3 + 1, 0, none⟩)]) rfl trivial (enters_of Tryd.func57 (by kernel_rfl) rfl)
          pS (fun h k => h.trans k) (fun V l o o' hl h hc hw => KF.put (w := W5) V l o o' hl h hc hw) (Below.refl _ _) (fun _ => rfl)
          (fun pre V => pre.length < c ∧ NI w V Rb (Mm + 1) Mm Cb G B jg sg j d v x ts st D n (c : Int) (pre.length : Int) (lastK st pre))
          (fun cd pre V => OrdR pre → cd = .exit 2 ∧ pre.length = c ∧ NI w V Rb (Mm + 1) Mm Cb G B jg sg j d v x ts st D n (c : Int) (c : Int) (lastK st pre))
          (fun pre X Y row hs hg hr => ⟨hs.1, hs.2.grown (by omega) hg hr⟩)
          (fun cd pre X Y row hs hg hr ho => ⟨(hs ho).1, (hs ho).2.1, (hs ho).2.2.grown (by omega) hg hr⟩)
          ⟨by simp; omega, hN5⟩
          (fun y t => ((t.setIfInBounds 99 (.string (bA (rwAt st y.1).k))).setIfInBounds 100 (.string (bA (rwAt st y.1).v))).setIfInBounds 16 (.string (bA (rwAt st y.1).k)))
          ?assign ?body ?done ?stop
        case assign =>
          intro l y V K hK
          simp only [encF]
          simp only [List.setIfInBounds_toArray, List.set_cons_succ, List.set_cons_zero] at hK
          gi_wp2
          exact hK
        case body =>
          rintro l pre y V ⟨hlc, hNx⟩ hplt
          simp only [List.setIfInBounds_toArray, List.set_cons_succ, List.set_cons_zero]
          have hym : rwAt st y.1 ∈ st := List.mem_of_getElem? (rwAt_get y.2)
          have hKl := (hNx.ki.sr.ok _ hym).2.k2
          obtain ⟨b, hb1, hb2⟩ := hNx.ki.mo.bool (rwAt st y.1).k (by omega) (zeroB7 V)
          have hbt : b = true := by
            have := hNx.ki.kd.b _ ((hNx.ki.kd.h _).2 ⟨_, hym, rfl⟩)
            rw [hb2] at this
            simpa using this
          subst hbt
          have HO : Hid (OrdR (pre ++ [y]) → pre.length ≠ 0 → Lt (lastK st pre) (rwAt st y.1).k) := Lib.hid (fun ho hp => lastK_up hNx.ki.sr ho (fun e => hp (by rw [e]; rfl)))
          have hstep := hNx.step ((pre.length : Int) + 1) (rwAt st y.1).k
          rw [← lastK_snoc st pre y] at hstep
          rw [lastK_snoc] at hstep
          have HL : Hid (lastK st (pre ++ [y]) = (rwAt st y.1).k) := Lib.hid (lastK_snoc st pre y)
          have hlen : (pre ++ [y]).length = pre.length + 1 := by simp
          have HN : Hid ((pre ++ [y]).length = pre.length + 1) := Lib.hid hlen
          have cM := hNx.ki.mb.at 0
          have cN := hNx.nb.at 0
          have fN := hNx.nb.free 0
          have cC := hNx.cb.at 0
          have cL := hNx.lb.at 0
          have fL := hNx.lb.free 0
          have cR := hNx.ki.rb.at 0
          have fR := hNx.ki.rb.free 0
          have hkf : KF (Cb + 3 + 1) V ((V.setCell ⟨Cb + 1, 0, none⟩ (.int .i64 ((pre.length : Int) + 1))).setCell ⟨Cb + 1 + 1, 0, none⟩ (.string (bA (rwAt st y.1).k))) := hNx.kf _ _
          have hkr : KF (Cb + 3 + 1) V (V.setCell ⟨Rb, 0, none⟩ (.bool false)) := hNx.kr _
          generalize (rwAt st y.1).k = K at *
          generalize lastK st pre = L at *
          have cN2 := hstep.nb.at 0
          have cC2 := hstep.cb.at 0
          have HE : Hid (pre.length + 1 = c → NI w ((V.setCell ⟨Cb + 1, 0, none⟩ (.int .i64 ((pre.length : Int) + 1))).setCell ⟨Cb + 1 + 1, 0, none⟩ (.string (bA K))) Rb (Mm + 1) Mm Cb G B jg sg j d v x ts st D n (c : Int) (c : Int) K) := Lib.hid (fun e => by have e2 : (pre.length : Int) + 1 = (c : Int) := (by omega); rw [e2] at hstep; rw [e2]; exact hstep)
          have HS : Hid (NI w ((V.setCell ⟨Cb + 1, 0, none⟩ (.int .i64 ((pre.length : Int) + 1))).setCell ⟨Cb + 1 + 1, 0, none⟩ (.string (bA K))) Rb (Mm + 1) Mm Cb G B jg sg j d v x ts st D n (c : Int) (((pre ++ [y]).length : Nat) : Int) K) := Lib.hid (by rw [hlen, Int.natCast_add]; exact hstep)
          have t3 : decide ((c : Int) ≤ (pre.length : Int)) = false := decide_eq_false (by omega)
          have hko : KeepsFrom W5.heap.size V ((V.setCell ⟨Cb + 1, 0, none⟩ (.int .i64 ((pre.length : Int) + 1))).setCell ⟨Cb + 1 + 1, 0, none⟩ (.string (bA K))) := ((KeepsOthers.setCell _ _ _).trans (KeepsOthers.setCell _ _ _)).from _
          clear hstep hNx hlen hb2 hym pS hN5
          have hpp : (decide (0 < (pre.length : Int)) = false ∧ ¬ 0 < pre.length) ∨ (pre.length ≠ 0 ∧ decide (0 < (pre.length : Int)) = true ∧ 0 < pre.length ∧ ((Op.bytesLess (bA K).toList (bA L).toList = false ∧ ((bA K).toList == (bA L).toList) = false ∧ ¬ (bA K).toList = (bA L).toList) ∨ (¬ Lt L K ∧ (Op.bytesLess (bA K).toList (bA L).toList = true ∨ (Op.bytesLess (bA K).toList (bA L).toList = false ∧ ((bA K).toList == (bA L).toList) = true ∧ (bA K).toList = (bA L).toList))))) := by
            by_cases h0 : pre.length = 0
            · exact .inl ⟨decide_eq_false (by omega), by omega⟩
            · refine .inr ⟨h0, decide_eq_true (by omega), by omega, ?_⟩
              rw [Lib.toList_data, Lib.toList_data]
              show (Op.bytesLess K L = false ∧ (K == L) = false ∧ ¬ K = L) ∨ (¬ Lt L K ∧ (Op.bytesLess K L = true ∨ (Op.bytesLess K L = false ∧ (K == L) = true ∧ K = L)))
              rw [less_lt]
              by_cases hl : Lt L K
              · have hne : K ≠ L := fun e => Lt.irr K (by rw [e] at hl; exact absurd hl (Lt.irr _))
                exact .inl ⟨decide_eq_false (fun h => Lt.asym hl h), by simpa using hne, hne⟩
              · refine .inr ⟨hl, ?_⟩
                by_cases hl2 : Lt K L
                · exact .inl (decide_eq_true hl2)
                · have e : K = L := Lt.tri hl2 hl
                  exact .inr ⟨decide_eq_false hl2, by simpa using e, e⟩
          have hcc : (((pre.length : Int) + 1 == (c : Int)) = true ∧ pre.length + 1 = c) ∨ (((pre.length : Int) + 1 == (c : Int)) = false ∧ pre.length + 1 ≠ c) := by
            by_cases e : pre.length + 1 = c
            · exact .inl ⟨by simp; omega, e⟩
            · exact .inr ⟨by rw [beq_eq_false_iff_ne]; omega, e⟩
          have HC := Lib.hid hcc
          clear hcc
          have fin1 : pre.length + 1 = c → OrdR (pre ++ [y]) → (pre ++ [y]).length = c ∧ NI w ((V.setCell ⟨Cb + 1, 0, none⟩ (.int .i64 ((pre.length : Int) + 1))).setCell ⟨Cb + 1 + 1, 0, none⟩ (.string (bA K))) Rb (Mm + 1) Mm Cb G B jg sg j d v x ts st D n (c : Int) (c : Int) (lastK st (pre ++ [y])) := fun e _ => ⟨by rw [HN.out]; exact e, by rw [HL.out]; exact HE.out e⟩
          have fin2 : pre.length + 1 ≠ c → (pre ++ [y]).length < c ∧ NI w ((V.setCell ⟨Cb + 1, 0, none⟩ (.int .i64 ((pre.length : Int) + 1))).setCell ⟨Cb + 1 + 1, 0, none⟩ (.string (bA K))) Rb (Mm + 1) Mm Cb G B jg sg j d v x ts st D n (c : Int) (((pre ++ [y]).length : Nat) : Int) (lastK st (pre ++ [y])) := fun e => ⟨by rw [HN.out]; omega, by rw [HL.out]; exact HS.out⟩
          have HF := Lib.hid (And.intro fin1 fin2)
          clear fin1 fin2 HE HS
          rcases hpp with ⟨t1, t1'⟩ | ⟨h0, t1, t1', ⟨t2, t4, t5⟩ | ⟨hn, t2⟩⟩
          · rcases HC.out with ⟨q1, e⟩ | ⟨q1, e⟩
            · gi_wp2
              first | exact ⟨⟨hko, fun ho => ⟨rfl, HF.out.1 e ho⟩⟩, hkf⟩ | exact ⟨hko, fun ho => ⟨rfl, HF.out.1 e ho⟩⟩
            · gi_wp2
              first | exact ⟨⟨hko, hkf, HF.out.2 e⟩, hkf⟩ | exact ⟨hko, hkf, HF.out.2 e⟩ | exact ⟨hko, HF.out.2 e⟩
          · rcases HC.out with ⟨q1, e⟩ | ⟨q1, e⟩
            · gi_wp2
              first | exact ⟨⟨hko, fun ho => ⟨rfl, HF.out.1 e ho⟩⟩, hkf⟩ | exact ⟨hko, fun ho => ⟨rfl, HF.out.1 e ho⟩⟩
            · gi_wp2
              first | exact ⟨⟨hko, hkf, HF.out.2 e⟩, hkf⟩ | exact ⟨hko, hkf, HF.out.2 e⟩ | exact ⟨hko, HF.out.2 e⟩
          · rcases t2 with t2 | ⟨t2, t4, t5⟩
            all_goals
              gi_wp2
              first | exact ⟨⟨(KeepsOthers.setCell _ _ _).from _, fun ho => absurd (HO.out ho h0) hn⟩, hkr⟩ | exact ⟨(KeepsOthers.setCell _ _ _).from _, fun ho => absurd (HO.out ho h0) hn⟩
        case' done =>
          rintro D' ys V hD ⟨hOy, hly⟩ ⟨hlc, hNz⟩ hKd
          rw [hly] at hlc hNz
          obtain ⟨m, hm⟩ : ∃ m : Nat, m = st.length := ⟨_, rfl⟩
          rw [← hm] at hNz
          have hmc : min (c : Int) (st.length : Int) = (m : Int) := by omega
          clear hm
          go_wp2
        case' stop =>
          rintro D' cd pre V hD hp h hKd
          obtain ⟨rfl, hlc, hNz⟩ := h hp
          obtain ⟨m, hm⟩ : ∃ m : Nat, m = c := ⟨_, rfl⟩
          have hle := hp.le
          have hmc : min (c : Int) (st.length : Int) = (m : Int) := by omega
          have hNz : NI w V Rb (Mm + 1) Mm Cb G B jg sg j d v x ts st D n (c : Int) (m : Int) (lastK st pre) := by rw [hm]; exact hNz
          clear hm h
          gi_wp2
        all_goals
          clear pS hN5 pc hg g1 g2
          have hL8 : st.length ≤ 8 := Nat.le_trans hNz.ki.sl hj
          have hF8 : (flat ts).length ≤ 64 := Nat.le_trans hNz.ki.fl (by omega)
          obtain ⟨L, hL⟩ : ∃ L, st.length = L := ⟨_, rfl⟩
          have hP3 : ∀ v', But (SB G B jg v sg x) V v' → v'.cell? ⟨Cb + 1, 0, none⟩ = some (.int .i64 (m : Int)) ∧ v'.cell? ⟨Cb, 0, none⟩ = some (.int .i64 (c : Int)) ∧ v'.cell? ⟨Mm + 1, 0, none⟩ = some (.map (some Mm)) ∧ (Builtin.len_ #[47] 3 #[.map (some Mm)]).run Tryd.prog v' = .ok (.int .i64 (L : Int)) v' := fun v' hb => by
            refine ⟨(hNz.nb.butS hb (fun hq => by have := hNz.sb _ hq; omega)).at 0, (hNz.cb.butS hb (fun hq => by have := hNz.sb _ hq; omega)).at 0, (hNz.ki.mb.butS hb (sb_not hNz.ki.so hNz.ki.mb (by decide) (by decide) (by decide) (by decide) (by decide) (by decide))).at 0, ?_⟩
            have := (hNz.ki.mo.butS hb (hNz.ki.mo.notSB hNz.ki.so)).len Tryd.underlying47 3
            rw [hNz.ki.kd.n, hL] at this
            exact this
          have hP6 : ∀ v', But (SB G B jg v sg x) V v' → (v'.setCell ⟨Rb, 0, none⟩ (.bool true)).cell? ⟨Cb + 1, 0, none⟩ = some (.int .i64 (m : Int)) ∧ (v'.setCell ⟨Rb, 0, none⟩ (.bool true)).cell? ⟨Cb, 0, none⟩ = some (.int .i64 (c : Int)) ∧ (v'.setCell ⟨Rb, 0, none⟩ (.bool true)).cell? ⟨Mm + 1, 0, none⟩ = some (.map (some Mm)) ∧
              (Builtin.len_ #[47] 3 #[.map (some Mm)]).run Tryd.prog (v'.setCell ⟨Rb, 0, none⟩ (.bool true)) = .ok (.int .i64 (L : Int)) (v'.setCell ⟨Rb, 0, none⟩ (.bool true)) := fun v' hb => by
            have r1 := hNz.ki.rb.butS hb (sb_not hNz.ki.so hNz.ki.rb (by decide) (by decide) (by decide) (by decide) (by decide) (by decide))
            have r2 := hNz.ki.mb.butS hb (sb_not hNz.ki.so hNz.ki.mb (by decide) (by decide) (by decide) (by decide) (by decide) (by decide))
            have mo := hNz.ki.mo.butS hb (hNz.ki.mo.notSB hNz.ki.so)
            have rl := hNz.rl
            refine ⟨((hNz.nb.butS hb (fun hq => by have := hNz.sb _ hq; omega)).other (p := ⟨Rb, 0, none⟩) (by show Cb + 1 ≠ Rb; omega) _).at 0, ((hNz.cb.butS hb (fun hq => by have := hNz.sb _ hq; omega)).other (p := ⟨Rb, 0, none⟩) (by show Cb ≠ Rb; omega) _).at 0, (r2.other (p := ⟨Rb, 0, none⟩) (r2.ne r1 (by decide)) _).at 0, ?_⟩
            have := (mo.setCell (a := ⟨Rb, 0, none⟩) (mo.cells r1) (.bool true)).len Tryd.underlying47 3
            rw [hNz.ki.kd.n, hL] at this
            exact this
          have pL : ∀ v', Below V.heap.size V v' → Calls Tryd.prog 11 #[.pointer (some ⟨sg, 0, none⟩)] v' fun e w' => e = .returned (.int .i64 (L : Int)) ∧ Below V.heap.size V w' := fun v' hv => by
            have := slen_any w.heap.size sg jg x st v' ((hNz.next hv).ki.so.sn)
            rw [hL] at this
            exact this.mono fun e w' ⟨h1, h2⟩ => ⟨h1, bstep hv h2⟩
          have pF : ∀ v', Below V.heap.size V v' → Calls Tryd.prog 9 #[.pointer (some ⟨sg, 0, none⟩), .slice (some ⟨v'.heap.size, 0, none⟩) 1 1] (v'.alloc (.cells #[.string ⟨#[]⟩, .string ⟨#[]⟩, .bool false] 29)) fun e w' => e = .returned (.int .i64 1) ∧ Below V.heap.size V w' := fun v' hv =>
            (commit_form sg (.slice (some ⟨v'.heap.size, 0, none⟩) 1 1) [⟨[], [], false⟩] 0 ⟨[], [], false⟩ rfl (by simp) (fun i q hi _ => by omega) (by show 1 ≤ 1000000000000; omega) _ (isR_new v' [⟨[], [], false⟩] 1 rfl)).mono fun e w' ⟨h1, h2⟩ => ⟨h1, bstep (hv.alloc hv.size _) h2⟩
          have pN : ∀ v', Below V.heap.size V v' → Calls Tryd.prog 9 #[.pointer (some ⟨sg, 0, none⟩), .slice none 0 0] v' fun e w' => e = .returned (.int .i64 0) ∧ But (SB G B jg v sg x) V w' := fun v' hv => by
            have hN' := hNz.next hv
            exact (so_commit hN'.ki.so hN'.ki.ho hP hN'.ki.sr (by omega) (by simp [rtext]) (fun r hr => by cases hr) (.inl ⟨rfl, rfl⟩) 1 (by simp [rtext, pieces_len]) hN'.ki.fr.down (by rw [hN'.ki.fr.len]; omega) (fun e => by rw [hN'.ki.fr.arm] at e; cases e)).mono fun e w' ⟨h1, d', v2, x2, h2, h3, h4, h5, h6, h7, h8⟩ => ⟨h1, (But.of_below _ hv).trans h6⟩
          have pR : ∀ v', But (SB G B jg v sg x) V v' → Calls Tryd.prog 3 #[] v' fun e w' => e = .returned (.bool true) ∧ But (SB G B jg v sg x) V w' := fun v' hv =>
            (sruns_any v' (hP.on (hNz.ki.so.jo.bel.trans (hv.below hNz.ki.so.jo.bel.size (fun q hq => hNz.ki.so.ge q hq))))).mono fun e w' ⟨h1, h2⟩ => ⟨h1, hv.next h2⟩
          have e1 : Below V.heap.size V V.drew := (Below.refl _ V).drew
          have k1 := hP3 V.drew (But.of_below _ e1)
          have m1 : min (c : Int) (L : Int) = (m : Int) := by rw [← hL]; exact hmc
          have fR : ∀ v', But (SB G B jg v sg x) V v' → v'.frozen? ⟨Rb, 0, none⟩ = false ∧ v'.cell? ⟨Rb, 0, none⟩ = some (.bool false) := fun v' hb => by
            have := hNz.ki.rb.butS hb (sb_not hNz.ki.so hNz.ki.rb (by decide) (by decide) (by decide) (by decide) (by decide) (by decide))
            exact ⟨this.free 0, this.at 0⟩
          clear hL hmc
          go_upto_region 26 with fail
          refine wp_noPanic ?_
          go_region_held (fun v' => v'.cell? ⟨Cb + 1, 0, none⟩ = some (.int .i64 (m : Int)) ∧ v'.cell? ⟨Cb, 0, none⟩ = some (.int .i64 (c : Int)) ∧ v'.cell? ⟨Mm + 1, 0, none⟩ = some (.map (some Mm)) ∧ (Builtin.len_ #[47] 3 #[.map (some Mm)]).run Tryd.prog v' = .ok (.int .i64 (L : Int)) v')
            (first | assumption | exact hP3 _ (But.of_below _ (e2.alloc e2.size _)) | skip) (first
              | (go_at_call 11; (with_reducible refine (pL _ e1).mono ?_); rintro e v2 ⟨rfl, e2⟩; have k2 := hP3 _ (But.of_below _ e2))
              | (go_at_call 9; (with_reducible refine (pF _ e2).mono ?_); rintro e v3 ⟨rfl, e3⟩; have k3 := hP3 _ (But.of_below _ e3))
              | (go_at_call 9; (with_reducible refine (pN _ e3).mono ?_); rintro e v4 ⟨rfl, e4⟩; have k4 := hP3 _ e4)
              | (go_at_call 3; (with_reducible refine (pR _ e4).mono ?_); rintro e v5 ⟨rfl, e5⟩; have k5 := hP3 _ e5; have k6 := hP6 _ e5; obtain ⟨fR5, cR5⟩ := fR _ e5))
          all_goals
            unfold NoPanic
            go_wp2
            have rb5 := hNz.ki.rb.butS e5 (sb_not hNz.ki.so hNz.ki.rb (by decide) (by decide) (by decide) (by decide) (by decide) (by decide))
            have hrl := hNz.rl
            have g1 := hNz.ki.g1
            have hK4 : (v5.setCell ⟨Rb, 0, none⟩ (.bool true)).heap[D']? = some (.deferred (some [])) :=
              (heap_setCell_other v5 ⟨Rb, 0, none⟩ D' _ (by show D' ≠ Rb; omega)).trans ((e5.block D' (Array.getElem?_eq_some_iff.1 hKd).1 (fun hq => by have := hNz.sb _ hq; omega)).trans hKd)
            have hbw : Below w.heap.size w v5 := hNz.ki.so.jo.bel.trans (e5.below hNz.ki.so.jo.bel.size (fun q hq => hNz.ki.so.ge q hq))
            have hc5 := cell_kept (((rb5.put 0 (.bool true)).at 0).trans rfl) (grownBy_putObj' _ D' (.deferred none)) (fun r e => by cases e; exact ⟨_, hK4, rfl⟩)
            refine ⟨by simp, .inl ⟨_, _, rfl, run_takeDeferred hK4, ?_⟩⟩
            refine ⟨.bool true, ?_, rfl, (hbw.setCell (p := ⟨Rb, 0, none⟩) g1 _).trans (belowK_b (w := w) (Nat.le_refl _) _ D' _ _ (by have := hNz.wl; omega) hK4 rfl rfl)⟩
            simp [results, Tryd.f5, go_sem, hc5]
end Go.Proofs.YtlofjfeimhjdlaaDoor
