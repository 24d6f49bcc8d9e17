/- THE WALK of JournalTorn. -/
import Derived.Test.YtelhdemgcpdmiaaJM
namespace Go.Proofs.Ytelhdemgcpdmiaa
open Go.RowKit Go.Shelf
attribute [local go_sem] Oper.semAt_some

/-- A disk, and the row of the texts that are wanted of it, in its box. -/
structure TI (w W : World) (Rb Wb G B k : Nat) (d : Dk) (wv : Value) (us : List (List UInt8)) : Prop where
  dk : DkAt W G B k d
  bel : Below w.heap.size w W
  rb : Rw W Rb 4 #[.bool false]
  wb : Rw W Wb 30 #[wv]
  own : W.ownsRow w.heap.size 9 1 wv us.length (us.map str)
  g1 : w.heap.size ≤ Rb
  g2 : w.heap.size ≤ Wb
  g3 : w.heap.size ≤ G
  g4 : w.heap.size ≤ B
section
variable {w W W' : World} {Rb Wb G B k jg : Nat} {d d' : Dk} {v wv : Value} {ts us : List (List UInt8)}
theorem TI.of_mi (h : MI w W Rb Wb G B k jg d v wv ts us) : TI w W Rb Wb G B k d wv us := ⟨h.jo.dk, h.jo.bel, h.rb, h.wb, h.own, h.g1, h.g2, h.jo.g1, h.jo.g2⟩
theorem TI.but {S : Nat → Prop} (h : TI w W Rb Wb G B k d wv us) (hb : But S W W') (hd : DkAt W' G B k d') (hS : ∀ q, S q → w.heap.size ≤ q) (n1 : ¬ S Rb) (n2 : ¬ S Wb) (n3 : ∀ q, wv.ownBlock = some q → ¬ S q) : TI w W' Rb Wb G B k d' wv us :=
  ⟨hd, h.bel.trans (hb.below h.bel.size hS), h.rb.butS hb n1, h.wb.butS hb n2, own_but h.own hb n3, h.g1, h.g2, h.g3, h.g4⟩
theorem TI.next (h : TI w W Rb Wb G B k d wv us) (hb : Below W.heap.size W W') : TI w W' Rb Wb G B k d wv us :=
  h.but (S := fun _ => False) (But.of_below _ hb) (h.dk.next hb) (fun _ h => h.elim) (fun h => h) (fun h => h) (fun _ _ h => h)
theorem TI.disk (h : TI w W Rb Wb G B k d wv us) (hd : DkAt W' G B k d') (hb : But2 G B W W') : TI w W' Rb Wb G B k d' wv us := by
  obtain ⟨cur, hc⟩ := h.dk.secs.rw
  refine h.but (S := fun q => q = G ∨ q = B) (But.of_but2 hb (.inl rfl) (.inr rfl)) hd (fun q hq => ?_) (fun hq => ?_) (fun hq => ?_) (fun q hw hq => ?_)
  · rcases hq with rfl | rfl; exact h.g3; exact h.g4
  · rcases hq with e | e; exact h.rb.ne h.dk.head (by decide) e; exact h.rb.ne hc (by decide) e
  · rcases hq with e | e; exact h.wb.ne h.dk.head (by decide) e; exact h.wb.ne hc (by decide) e
  · rcases hq with e | e; exact own_ne h.own h.dk.head (by decide) q hw e; exact own_ne h.own hc (by decide) q hw e
theorem TI.commit (h : TI w W Rb Wb G B k d wv us) (hj : JO w W G B k jg d v ts false) (hd : DkAt W' G B k d') (hb : But (JB G B jg v) W W') (ap : ∀ q, wv.ownBlock = some q → v.ownBlock ≠ some q) : TI w W' Rb Wb G B k d' wv us := by
  obtain ⟨cur, hc⟩ := h.dk.secs.rw
  refine h.but hb hd hj.ge (jb_not hj h.rb (by decide) (by decide) (by decide) (by decide)) (jb_not hj h.wb (by decide) (by decide) (by decide) (by decide)) (fun q hq hk => ?_)
  rcases hk with (e | e) | e | hk
  · exact own_ne h.own h.dk.head (by decide) _ hq e
  · exact own_ne h.own hc (by decide) _ hq e
  · exact own_ne h.own hj.jn.head (by decide) _ hq e
  · exact ap q hq hk
/-- A text is put behind those that are wanted. -/
theorem TI.app (h : TI w W Rb Wb G B k d wv us) (s : ByteArray) {w' : World} {x : Value} (hown : w'.ownsRow w.heap.size 9 1 x (us.length + 1) (us.map str ++ [.string s])) (hgr : (W.alloc (.cells #[.string s] 9)).grownBy w' wv.ownBlock) :
    Rw w' Wb 30 #[wv] ∧ TI w (w'.setCell ⟨Wb, 0, none⟩ x) Rb Wb G B k d x (us ++ [s.data.toList]) := by
  have hb1 : But (fun q => wv.ownBlock = some q) W w' := ((But.refl _ W).alloc _).trans (But.of_grown hgr (fun q hq => hq))
  have nb : ∀ {g : Nat} {t : TypeId} {cs : Array Value}, Rw W g t cs → t ≠ 9 → wv.ownBlock ≠ some g := fun {g t cs} hr ht hq => own_ne h.own hr ht _ hq rfl
  have hwb := h.wb.butS hb1 (nb h.wb (by decide))
  have hb2 : But (fun q => wv.ownBlock = some q ∨ q = Wb) W (w'.setCell ⟨Wb, 0, none⟩ x) := (hb1.mono (fun q _ hq => .inl hq)).setCell (p := ⟨Wb, 0, none⟩) (.inr rfl) x
  have hxw : ∀ q, x.ownBlock = some q → q ≠ Wb := fun q hq => own_ne hown hwb (by decide) q hq
  obtain ⟨cur, hc⟩ := h.dk.secs.rw
  have nn : ∀ {g : Nat} {t : TypeId} {cs : Array Value}, Rw W g t cs → t ≠ 9 → t ≠ 30 → ¬ (wv.ownBlock = some g ∨ g = Wb) := fun {g t cs} hr h1 h2 hS => by
    rcases hS with e | e; exact nb hr h1 e; exact hr.ne h.wb h2 e
  refine ⟨hwb, h.dk.butS hb2 (nn h.dk.head (by decide) (by decide)) (nn hc (by decide) (by decide)), h.bel.trans (hb2.below h.bel.size (fun q hq => by rcases hq with hq | rfl; exact (h.own.lt q hq).1; exact h.g2)), h.rb.butS hb2 (nn h.rb (by decide) (by decide)), by simpa using hwb.put 0 x, ?_, h.g1, h.g2, h.g3, h.g4⟩
  rw [app_map, List.length_append]
  exact own_but (S := fun q => q = Wb) hown ((But.refl (fun q => q = Wb) w').setCell (p := ⟨Wb, 0, none⟩) rfl x) hxw
end
/-- While they are committed. -/
def TL (w wr : World) (Rb Wb G B jg j : Nat) (ts : List (List UInt8)) : Prop :=
  ∃ (d : Dk) (v wv : Value), ts.length ≤ j ∧ (flat ts).length ≤ 4 * j ∧ (∀ s ∈ ts, s.length ≤ 100) ∧ MI w wr Rb Wb G B 200 jg d v wv ts ts
theorem tx_size {ts : List (List UInt8)} (h : ∀ s ∈ ts, s.length ≤ 100) (q : Nat) : (txStr ts q).size ≤ 100 := by
  show (ts.getD q []).length ≤ 100
  rw [List.getD_eq_getElem?_getD]
  cases hq : ts[q]? with
  | none => simp
  | some t => simpa using h t (List.mem_of_getElem? hq)
theorem mem_app {ts : List (List UInt8)} (h : ∀ s ∈ ts, s.length ≤ 100) (s : ByteArray) (hs : s.size ≤ 100) : ∀ t ∈ ts ++ [s.data.toList], t.length ≤ 100 := fun t ht => by
  rcases List.mem_append.1 ht with h1 | h1
  · exact h t h1
  · rw [List.mem_singleton] at h1; rw [h1, Array.length_toList]; exact hs
/-- While the journal is walked: the boxes of the answer, of what is wanted, of a number. -/
structure RT (w W : World) (Rb Wb Ib : Nat) (m : Int) (wv : Value) (ts : List (List UInt8)) : Prop where
  rb : Rw W Rb 4 #[.bool false]
  wb : Rw W Wb 30 #[wv]
  own : W.ownsRow w.heap.size 9 1 wv ts.length (ts.map str)
  ib : Rw W Ib 3 #[.int .i64 m]
  bel : Below w.heap.size w W
section
variable {w W W' : World} {Rb Wb Ib : Nat} {m : Int} {wv : Value} {ts : List (List UInt8)}
theorem RT.grown {N : Nat} (hN : w.heap.size ≤ N) {row : Option Nat} (h : RT w W Rb Wb Ib m wv ts) (hg : W.grownBy W' row) (hr : ∀ r, row = some r → N ≤ r ∧ ∃ o : Obj, W.heap[r]? = some o ∧ o.isCells = false) : RT w W' Rb Wb Ib m wv ts := by
  have hr' := fun r e => (hr r e).2
  exact ⟨rw_grown h.rb hg hr', rw_grown h.wb hg hr', own_grown h.own hg hr', rw_grown h.ib hg hr', h.bel.grown hg h.bel.size (fun r e => Nat.le_trans hN (hr r e).1)⟩
theorem RT.next (h : RT w W Rb Wb Ib m wv ts) (hb : Below W.heap.size W W') : RT w W' Rb Wb Ib m wv ts :=
  ⟨h.rb.below hb h.rb.size, h.wb.below hb h.wb.size, own_next h.own hb, h.ib.below hb h.ib.size, h.bel.trans (hb.mono h.bel.size)⟩
theorem RT.set (h : RT w W Rb Wb Ib m wv ts) (hI : w.heap.size ≤ Ib) (m' : Int) : RT w (W.setCell ⟨Ib, 0, none⟩ (.int .i64 m')) Rb Wb Ib m' wv ts := by
  have hb : But (fun q => q = Ib) W (W.setCell ⟨Ib, 0, none⟩ (.int .i64 m')) := (But.refl (fun q => q = Ib) W).setCell (p := ⟨Ib, 0, none⟩) rfl _
  exact ⟨h.rb.butS hb (h.rb.ne h.ib (by decide)), h.wb.butS hb (h.wb.ne h.ib (by decide)), own_but h.own hb (own_ne h.own h.ib (by decide)), by simpa using h.ib.put 0 (.int .i64 m'), h.bel.setCell (p := ⟨Ib, 0, none⟩) hI _⟩
end
theorem two (wr : World) (jg : Nat) : ∃ Ib Bn W, wr.heap.size = Ib ∧ Ib + 1 = Bn ∧ (wr.alloc (.cells #[.int .i64 0] 3)).alloc (.cells #[.pointer (some ⟨jg, 0, none⟩)] 24) = W ∧
    Hid (Rw W Ib 3 #[.int .i64 0] ∧ Rw W Bn 24 #[.pointer (some ⟨jg, 0, none⟩)]) ∧ Below wr.heap.size wr W := by
  refine ⟨_, _, _, rfl, rfl, rfl, Lib.hid ⟨(Rw.fresh wr _ _).alloc _, ?_⟩, ((Below.refl _ wr).alloc (Nat.le_refl _) _).alloc (by simp) _⟩
  have := Rw.fresh (wr.alloc (.cells #[.int .i64 0] 3)) 24 #[.pointer (some ⟨jg, 0, none⟩)]
  simpa using this
set_option maxRecDepth 100000 in
set_option maxHeartbeats 4000000 in
theorem jtorn_any (a : Option Addr) (len cap : Nat) (wri kee : Int) (w : World) (hr : IsAsks w a len) :
    Calls Try.prog 5 #[.slice a len cap, .int .i64 wri, .int .i64 kee] w fun e w' => e = .returned (.bool true) ∧ Below w.heap.size w w' := by
  obtain ⟨x, hx, hx1, hx2⟩ := wthn_nat wri 0 5 (by omega) (by omega)
  have px := within_to wri 0 5 x (by omega) (by omega) (by omega) hx
  clear hx
  obtain ⟨p, hp, hp1, hp2⟩ := wthn_nat kee 0 32 (by omega) (by omega)
  have pp := within_to kee 0 32 p (by omega) (by omega) (by omega) hp
  clear hp
  have p0 := new_any 200 200 (by omega)
  have hnew : Holds (newDk 200).ss [] := Holds.new 200
  refine (callsIn_wide (n := 12)).1 ?_
  refine callsIn_of_wp_marks Try.func5 rfl trivial ?_ rfl
  simp only [Try.ntmps5, List.size_toArray, List.length_cons, List.length_nil, Nat.reduceAdd, Nat.reduceSub, Array.replicate_succ, Array.replicate_zero, List.push_toArray, List.append_toArray, List.nil_append, List.cons_append]
  refine wpIn_wide.2 ?_
  have b0 := (Below.refl w.heap.size w).alloc (Nat.le_refl _) (.cells #[.bool false] 4)
  have r0 := Rw.fresh w 4 #[.bool false]
  obtain ⟨Rb, hRb⟩ : ∃ Rb, w.heap.size = Rb := ⟨_, rfl⟩
  obtain ⟨W0, hW0⟩ : ∃ W0, w.alloc (.cells #[.bool false] 4) = W0 := ⟨_, rfl⟩
  have p0' := p0 W0
  obtain ⟨G, hG⟩ : ∃ G, W0.heap.size + 1 = G := ⟨_, rfl⟩
  obtain ⟨B, hB⟩ : ∃ B, W0.heap.size = B := ⟨_, rfl⟩
  rw [hW0] at b0 r0
  rw [hRb] at r0
  rw [hG, hB] at p0'
  have g1 : w.heap.size ≤ G := by have := b0.size; omega
  have g2 : w.heap.size ≤ B := by have := b0.size; omega
  have hb1 := b0.size
  go_upto_region 1 with fail
  clear hW0 p0
  go_upto_region 5 with (first
    | (go_at_call 9; (with_reducible refine p0'.mono ?_); rintro e w1 ⟨rfl, hA0, hb0⟩)
    | (go_at_call 10; (with_reducible refine (jo_open (w0 := w) hA0 hnew (b0.trans (hb0.mono g2)) g1 g2).mono ?_); rintro e w2 ⟨jg, v, rfl, hJ0, hbO, _, _⟩))
  have hMb := Rw.fresh w2 30 #[.slice none 0 0]
  have hbW := (Below.refl w2.heap.size w2).alloc (Nat.le_refl _) (.cells #[.slice none 0 0] 30)
  have hrb := (r0.below hb0 (by have := r0.size; omega)).below hbO (Nat.lt_of_lt_of_le r0.size (by rw [hB]; exact Nat.le_trans (by omega) hb0.size))
  have gW := hJ0.bel.size
  obtain ⟨Wb, hWb⟩ : ∃ Wb, w2.heap.size = Wb := ⟨_, rfl⟩
  obtain ⟨W1, hW1⟩ : ∃ W1, w2.alloc (.cells #[.slice none 0 0] 30) = W1 := ⟨_, rfl⟩
  rw [hW1] at hMb hbW
  rw [hWb] at hMb
  have hM0 : MI w W1 Rb Wb G B 200 jg (newDk 200) v (.slice none 0 0) [] [] :=
    ⟨hJ0.next hbW, hnew, rfl, rfl, by simp [newDk], hrb.below hbW hrb.size, hMb, World.ownsRow_nil _ _ _ _, fun q hq => (by cases hq), by omega, by omega⟩
  clear hMb hbW hrb hA0 hb0 hbO hnew p0' b0 r0 hb1 gW hJ0
  go_upto_region 6 with fail
  clear hW1 hWb hRb hG hB
  go_upto_block 0 with fail
  have hL0 : TL w W1 Rb Wb G B jg 0 [] := ⟨_, _, _, Nat.le_refl _, Nat.zero_le _, fun s hs => (by cases hs), hM0⟩
  clear hM0
  go_cut [10, 11] from 31 to 53 (fun _ _ wx => ∃ ts, TL w wx Rb Wb G B jg 6 ts)
  case first =>
    go_wp2_with fail
    go_loopg [10] 7 (fun g y wr => ∃ (j : Nat) (ts : List (List UInt8)), y = .int .i64 (j : Int) ∧ j ≤ 6 ∧ g = 7 - j ∧ TL w wr Rb Wb G B jg j ts)
    case atStart => exact ⟨0, [], rfl, by omega, by omega, hL0⟩
    case round =>
      obtain ⟨j, ts, rfl, hj, hg, d, v, wv, htl, hfl, hsz, hM⟩ := hrel
      clear hL0
      by_cases hin : j < len ∧ j < 6
      · have d1 : decide ((j : Int) < (len : Int)) = true := by simp; omega
        have d2 : decide ((j : Int) < 6) = true := by simp; omega
        obtain ⟨x, K, N, P, Z, ch, rfl, hx0, c0, c1, c2, c3, c4⟩ := ask_at hr hM.jo.bel j hin.1
        have pT := text_any K N P Z ch wr
        have hj6 := hin.2
        have hjl := hin.1
        clear hin hr
        go_upto_region 10 with (go_at_call 19; (with_reducible refine pT.mono ?_); rintro e w3 ⟨s, rfl, hs, hb3⟩)
        have hM3 := hM.next hb3
        obtain ⟨q, hq⟩ : ∃ q, q = (pieces s.data.toList).length := ⟨_, rfl⟩
        have hq4 : q ≤ 4 := by rw [hq, pieces_len, Array.length_toList]; show max 1 ((s.size + 29) / 30) ≤ 4; omega
        clear pT hM hb3 c0 c1 c2 c3 c4
        have pC := jo_commit hM3.jo hM3.ho s q hq (by omega) (by omega) hM3.dn (by rw [hM3.n]; omega) (fun e => by rw [hM3.ar] at e; cases e)
        go_upto_region 12 with (go_at_call 11; (with_reducible refine pC.mono ?_); rintro e w5 ⟨rfl, d5, v5, hJ5, ho5, hd5, hn5, hb5, hg5⟩)
        have hM5 := hM3.commit hJ5 ho5 hd5 hn5 hb5 hg5
        clear pC hM3 hJ5 ho5 hd5 hn5 hb5 hg5
        obtain ⟨i0, hi, hz0, hz1, hz2⟩ := info_parts strinfo
        have hml : ts.length + 1 ≤ maxLen := by unfold maxLen; omega
        have cW := hM5.wb.at 0
        have cW' := (hM5.wb.alloc (.cells #[.string s] 9)).at 0
        have hsz5 := hM5.jo.bel.size
        go_upto_region 8 with (at_builtin; refine wpList_append_own_at _ rfl _ _ 30 rfl w.heap.size 9 i0 _ 1 16 Try.underlying30 hi hz0 hz1 hz2 rfl (by omega) wv ts.length _ rfl (hM5.own.alloc _) ⟨w5.heap.size, 0, none⟩ 1 1 [.string s] rfl rfl (one_new _ _ _) (one_str s) hml (by omega) (by simp; omega) ?_; intro y w6 ho hgr hnil hat; obtain ⟨g', cap', rfl⟩ := own_form ho (by omega); obtain ⟨hwb', hM6⟩ := hM5.app s ho hgr hat; have y0 := hwb'.at 0; have f0 := hwb'.free 0)
        generalize w6.setCell ⟨Wb, 0, none⟩ (.slice (some ⟨g', 0, none⟩) (ts.length + 1) cap') = W6 at hM6 ⊢
        have HR : Hid ((flat (ts ++ [s.data.toList])).length ≤ 4 * (j + 1) ∧ (∀ t ∈ ts ++ [s.data.toList], t.length ≤ 100) ∧ (ts ++ [s.data.toList]).length ≤ j + 1) :=
          Lib.hid ⟨by rw [flat_snoc, List.length_append, ← hq]; omega, mem_app hsz s hs, by rw [List.length_append, List.length_singleton]; omega⟩
        clear hM5 hwb' y0 f0 ho hgr hat hnil hi hz0 hz1 hz2 cW cW' hsz
        go_wp2_with fail
        go_roundg (7 - (j + 1))
        case measure => omega
        case rel => exact ⟨j + 1, ts ++ [s.data.toList], by go_num, by omega, rfl, d5, v5, _, HR.out.2.2, HR.out.1, HR.out.2.1, hM6⟩
      · have hT : TL w wr Rb Wb G B jg 6 ts := ⟨d, v, wv, by omega, by omega, hsz, hM⟩
        clear hM hsz htl hfl
        by_cases h0 : j < len
        · have d1 : decide ((j : Int) < (len : Int)) = true := by simp; omega
          have d2 : decide ((j : Int) < 6) = false := by simp; omega
          go_wp2_with fail
          go_meet
          exact ⟨ts, hT⟩
        · have d1 : decide ((j : Int) < (len : Int)) = false := by simp; omega
          go_wp2_with fail
          go_meet
          exact ⟨ts, hT⟩
  case rest =>
    obtain ⟨ts, d, v, wv, htl, hfl, hsz, hM⟩ := hcut
    clear hL0 hr
    go_upto_region 13 with fail
    go_cut [12] from 31 to 31 (fun m wx => ∃ L : ByteArray, m = .string L ∧ L.size = 80 ∧ 3 = (pieces L.data.toList).length ∧ wx = wc)
    case first =>
      go_wp2_with fail
      go_meet
      exact ⟨_, rfl, rfl, by rw [pieces_len]; rfl, rfl⟩
    case rest =>
      obtain ⟨L, hm, hLs, hL3, hw⟩ := hcut
      subst hm; subst hw
      have pP := pieces_any L (by omega) wc
      rw [← hL3] at pP
      have HL3 := Lib.hid hL3
      clear hL3
      go_upto_region 15 with (go_at_call 16; (with_reducible refine pP.mono ?_); rintro e w4 ⟨gp, cp, rfl, _, _, hb4⟩)
      have hM4 := hM.next hb4
      clear hM hb4 pP
      go_upto_region 16 with (first
        | (go_at_call 17; (with_reducible refine (px _).mono ?_); rintro e x ⟨rfl, hx⟩; subst hx)
        | (go_at_call 17; (with_reducible refine (pp _).mono ?_); rintro e x ⟨rfl, hx⟩; subst hx))
      have pa := arm_any w4 G B 200 d (x : Int) (p : Int) x p (by omega) (by omega) (by omega) hM4.jo.dk
      go_upto_region 17 with (go_at_call 12; (with_reducible refine pa.mono ?_); rintro e w5 ⟨rfl, hA5, hb5⟩)
      have hJ5 := hM4.jo.disk hA5 hb5
      have hT5 := (TI.of_mi hM4).disk hA5 hb5
      have ho5 := hM4.ho
      have hdn := hM4.dn
      have hn := hM4.n
      have hap := hM4.ap
      clear hM4 pa hA5 hb5 px pp
      obtain ⟨us, hus⟩ : ∃ us, us = if (¬ x < 3 ∨ (x = 2 ∧ p = 32)) then ts ++ [L.data.toList] else ts := ⟨_, rfl⟩
      have HUS := Lib.hid hus
      clear hus
      go_cut [16] from 65 to 67 (fun m wx => ∃ (X : Int) (d' : Dk), m = .int .i64 X ∧ (X = 9 ↔ x < 3) ∧ TI w wx Rb Wb G B 200 d' wv ts ∧ Holds d'.ss us ∧ d'.ss.length = 200)
      case first =>
        by_cases hx3 : x < 3
        · have pC := jo_tear hJ5 ho5 L 3 HL3.out (by omega) (by omega) hdn (by show _ + 3 ≤ d.ss.length; omega) rfl (by show x < 3; exact hx3)
          go_wp2_with (go_at_call 11; (with_reducible refine pC.mono ?_); rintro e w6 ⟨rfl, d6, hJ6, ho6, hd6, hn6, hb6⟩)
          have ho6' : Holds d6.ss us := by
            rw [HUS.out]
            have e : (if (x + 1 = 3 ∧ p = 32) then ts ++ [L.data.toList] else ts) = if (¬ x < 3 ∨ (x = 2 ∧ p = 32)) then ts ++ [L.data.toList] else ts := by
              by_cases h : x = 2 ∧ p = 32
              · rw [if_pos (by omega), if_pos (by omega)]
              · rw [if_neg (by omega), if_neg (by omega)]
            exact e ▸ ho6
          go_meet
          exact ⟨9, d6, rfl, ⟨fun _ => hx3, fun _ => rfl⟩, hT5.commit hJ5 hJ6.dk hb6 hap, ho6', hn6.trans hn⟩
        · have pC := jo_commit hJ5 ho5 L 3 HL3.out (by omega) (by omega) hdn (by show _ + 3 ≤ d.ss.length; omega) (fun _ => by show 3 ≤ x; omega)
          go_wp2_with (go_at_call 11; (with_reducible refine pC.mono ?_); rintro e w6 ⟨rfl, d6, v6, hJ6, ho6, hd6, hn6, hb6, hg6⟩)
          go_meet
          exact ⟨0, d6, rfl, ⟨fun h => (by cases h), fun h => absurd h hx3⟩, hT5.commit hJ5 hJ6.dk hb6 hap, by rw [HUS.out, if_pos (.inl hx3)]; exact ho6, hn6.trans hn⟩
      case rest =>
        obtain ⟨X, d', hm, hX9, hT, ho, hn'⟩ := hcut
        subst hm
        clear hJ5 hT5 ho5 hdn hn hap
        have HU : Hid (us.length ≤ 7 ∧ (flat us).length ≤ 30 ∧ (∀ s ∈ us, s.length ≤ 100)) := by
          rw [HUS.out]
          split
          · exact Lib.hid ⟨by rw [List.length_append, List.length_singleton]; omega, by rw [flat_snoc, List.length_append, ← HL3.out]; omega, mem_app hsz L (by omega)⟩
          · exact Lib.hid ⟨by omega, by omega, hsz⟩
        obtain ⟨tn, htn⟩ : ∃ tn : Bool, tn = decide (x < 3) := ⟨_, rfl⟩
        obtain ⟨bb, hbb⟩ : ∃ bb : Bool, bb = decide (¬ x < 3 ∨ (x = 2 ∧ p = 32)) := ⟨_, rfl⟩
        have HX9 := Lib.hid hX9
        have HTN := Lib.hid htn
        have HBB := Lib.hid hbb
        clear hsz hfl hX9 htn hbb
        go_upto_region 18 with fail
        go_cut [17] from 68 to 70 (fun m wx => m = .bool tn ∧ wx = wc)
        case first =>
          go_wp2_with fail
          go_meet
          exact ⟨by rw [HTN.out]; congr 1; exact decide_eq_decide.2 (by omega), rfl⟩
        case rest =>
          obtain ⟨hm, hw⟩ := hcut
          subst hm; subst hw
          go_upto_region 19 with fail
          go_cut [74] from 71 to 73 (fun m wx => m = .bool false ∧ wx = wc)
          case first =>
            have hX : (X == 9) = tn := by
              rw [HTN.out]
              by_cases h : x < 3
              · rw [decide_eq_true h, HX9.out.2 h]; rfl
              · rw [decide_eq_false h, beq_eq_false_iff_ne]; exact fun e => h (HX9.out.1 e)
            clear HTN
            cases tn
            all_goals
              go_wp2_with fail
              go_meet
              exact ⟨rfl, rfl⟩
          case rest =>
            obtain ⟨hm, hw⟩ := hcut
            subst hm; subst hw
            go_upto_region 21 with fail
            go_cut [86] from 75 to 85 (fun m wx => m = .bool bb ∧ wx = wc)
            case first =>
              cases tn
              · have hx3 : ¬ x < 3 := fun h => (by have e := HTN.out; rw [decide_eq_true h] at e; cases e)
                have hb : Hid (bb = true) := Lib.hid (by rw [HBB.out]; exact decide_eq_true (.inl hx3))
                go_wp2_with fail
                go_meet
                exact ⟨by rw [hb.out], rfl⟩
              · have hx3 : x < 3 := of_decide_eq_true HTN.out.symm
                by_cases h2 : x = 2
                · have q1 : ((x : Int) == 2) = true := by simp; omega
                  by_cases h32 : p = 32
                  · have q2 : ((p : Int) == 32) = true := by simp; omega
                    have hb : Hid (bb = true) := Lib.hid (by rw [HBB.out]; exact decide_eq_true (.inr ⟨h2, h32⟩))
                    go_wp2_with fail
                    go_meet
                    exact ⟨by rw [hb.out], rfl⟩
                  · have q2 : ((p : Int) == 32) = false := by rw [beq_eq_false_iff_ne]; omega
                    have hb : Hid (bb = false) := Lib.hid (by rw [HBB.out]; exact decide_eq_false (by omega))
                    go_wp2_with fail
                    go_meet
                    exact ⟨by rw [hb.out], rfl⟩
                · have q1 : ((x : Int) == 2) = false := by rw [beq_eq_false_iff_ne]; omega
                  have hb : Hid (bb = false) := Lib.hid (by rw [HBB.out]; exact decide_eq_false (by omega))
                  go_wp2_with fail
                  go_meet
                  exact ⟨by rw [hb.out], rfl⟩
            case rest =>
              obtain ⟨hm, hw⟩ := hcut
              subst hm; subst hw
              go_upto_if 86 with fail
              go_cut [] from 87 to 90 (fun wx => ∃ wv', TI w wx Rb Wb G B 200 d' wv' us)
              case first =>
                cases bb
                · have hne : ¬ (¬ x < 3 ∨ (x = 2 ∧ p = 32)) := of_decide_eq_false HBB.out.symm
                  have e : Hid (us = ts) := Lib.hid (by rw [HUS.out, if_neg hne])
                  go_wp2_with fail
                  go_meet
                  exact ⟨wv, by rw [e.out]; exact hT⟩
                · have e : Hid (us = ts ++ [L.data.toList]) := Lib.hid (by rw [HUS.out, if_pos (of_decide_eq_true HBB.out.symm)])
                  obtain ⟨i0, hi, hz0, hz1, hz2⟩ := info_parts strinfo
                  have hml : ts.length + 1 ≤ maxLen := by unfold maxLen; omega
                  have cW := hT.wb.at 0
                  have cW' := (hT.wb.alloc (.cells #[.string L] 9)).at 0
                  have hszc := hT.bel.size
                  go_wp2_with (at_builtin; refine wpList_append_own_at _ rfl _ _ 30 rfl w.heap.size 9 i0 _ 1 16 Try.underlying30 hi hz0 hz1 hz2 rfl (by omega) wv ts.length _ rfl (hT.own.alloc _) ⟨wc.heap.size, 0, none⟩ 1 1 [.string L] rfl rfl (one_new _ _ _) (one_str L) hml (by omega) (by simp; omega) ?_; intro y w6 ho6 hgr hnil hat; obtain ⟨g', cap', rfl⟩ := own_form ho6 (by omega); obtain ⟨hwb', hM6⟩ := hT.app L ho6 hgr; have y0 := hwb'.at 0; have f0 := hwb'.free 0)
                  go_meet
                  exact ⟨_, by rw [e.out]; exact hM6⟩
              case rest =>
                obtain ⟨wv', hT'⟩ := hcut
                clear hT HUS HTN HBB HX9 htl HL3 hLs
                obtain ⟨hU7, hUf, hUs⟩ := HU.out
                have pv := revive_any wc G B 200 d' hT'.dk
                go_upto_region 24 with (go_at_call 13; (with_reducible refine pv.mono ?_); rintro e wv ⟨rfl, hDv, hBv⟩)
                have hTv := hT'.disk hDv hBv
                clear hT' pv hDv hBv
                have pa := arm_any wv G B 200 _ 1000 0 1000 0 (by omega) (by omega) (by omega) hTv.dk
                go_upto_region 25 with (go_at_call 12; (with_reducible refine pa.mono ?_); rintro e wa ⟨rfl, hDa, hBa⟩)
                have hTa := hTv.disk hDa hBa
                clear hTv pa hDa hBa
                have pO := jo_open hTa.dk ho hTa.bel hTa.g3 hTa.g4
                go_upto_region 26 with (go_at_call 10; (with_reducible refine pO.mono ?_); rintro e wo ⟨jo, vo, rfl, hO, hbO, hjo, hvo⟩)
                have hTo := hTa.next hbO
                have hap : ∀ q, wv'.ownBlock = some q → vo.ownBlock ≠ some q := fun q hq e => by
                  have e1 := (hTa.own.lt q hq).2
                  have e2 := hvo q e
                  omega
                have pC := jo_commit hO ho ⟨#[110, 101, 119]⟩ 1 (short_len (by decide)) (by decide) (by omega) rfl (by show _ + 1 ≤ d'.ss.length; omega) (fun _ => by show 1 ≤ 1000; omega)
                clear pO hTa hbO hjo hvo
                go_upto_region 28 with (go_at_call 11; (with_reducible refine pC.mono ?_); rintro e wn ⟨rfl, dn, vn, hJn, hon, hdn, hnn, hbn, hgn⟩)
                have hTn := hTo.commit hO hJn.dk hbn hap
                clear pC hTo hO hJn hbn hap hgn hdn
                obtain ⟨i0, hi, hz0, hz1, hz2⟩ := info_parts strinfo
                have hml : us.length + 1 ≤ maxLen := by unfold maxLen; omega
                have cW := hTn.wb.at 0
                have cW' := (hTn.wb.alloc (.cells #[.string ⟨#[110, 101, 119]⟩] 9)).at 0
                have hszc := hTn.bel.size
                go_upto_region 29 with (at_builtin; refine wpList_append_own_at _ rfl _ _ 30 rfl w.heap.size 9 i0 _ 1 16 Try.underlying30 hi hz0 hz1 hz2 rfl (by omega) wv' us.length _ rfl (hTn.own.alloc _) ⟨wn.heap.size, 0, none⟩ 1 1 [.string ⟨#[110, 101, 119]⟩] rfl rfl (one_new _ _ _) (one_str ⟨#[110, 101, 119]⟩) hml (by omega) (by simp; omega) ?_; intro y w6 ho6 hgr hnil hat; obtain ⟨g', cap', rfl⟩ := own_form ho6 (by omega); obtain ⟨hwb', hM6⟩ := hTn.app ⟨#[110, 101, 119]⟩ ho6 hgr; have y0 := hwb'.at 0; have f0 := hwb'.free 0)
                generalize w6.setCell ⟨Wb, 0, none⟩ (.slice (some ⟨g', 0, none⟩) (us.length + 1) cap') = W6 at hM6 ⊢
                have hol : (us ++ [[110, 101, 119]]).length = us.length + 1 := by rw [List.length_append, List.length_singleton]
                have HZ : Hid (∀ t ∈ us ++ [[110, 101, 119]], t.length ≤ 100) := Lib.hid (mem_app hUs ⟨#[110, 101, 119]⟩ (by decide))
                have hM6' : TI w W6 Rb Wb G B 200 dn (.slice (some ⟨g', 0, none⟩) (us.length + 1) cap') (us ++ [[110, 101, 119]]) := hM6
                have hon' : Holds dn.ss (us ++ [[110, 101, 119]]) := hon
                clear hM6 hon hTn hwb' y0 f0 ho6 hgr hat hnil hi hz0 hz1 hz2 cW cW' hml hszc
                obtain ⟨ws, hws⟩ : ∃ ws, ws = us ++ [[110, 101, 119]] := ⟨_, rfl⟩
                rw [← hws] at hM6' hon' HZ hol
                clear hws
                rw [← hol] at hM6' ⊢
                have hl8 : ws.length ≤ 8 := by omega
                have hl1 : 0 < ws.length := by omega
                clear hol ho hn' HU hU7 hUf hUs
                have pQ := jo_open hM6'.dk hon' hM6'.bel hM6'.g3 hM6'.g4
                go_upto_region 30 with (go_at_call 10; (with_reducible refine pQ.mono ?_); rintro e wq ⟨jq, vq, rfl, hQ, hbQ, _, _⟩)
                have hTq := (hM6'.next hbQ).next (Below.refl _ _).drew
                have hQd := hQ.next (Below.refl _ _).drew
                have cL := len_any _ _ jq G vq _ _ _ hQd.jn
                have cW7 := hTq.wb.at 0
                clear hM6' hQ hbQ pQ hon'
                refine wp_region_still_lit (by kernel_rfl) (by kernel_rfl) ?_
                iterate 4 still_step
                still_call (cL.mono fun _ _ h => ⟨h.1, h.2.symm⟩)
                iterate 4 still_step
                refine wpStill_nil ?_
                change Exit.then _ _ _ _ (World.drew _)
                clear cL cW7
                generalize World.drew _ = wz at hTq hQd ⊢
                have pA := jall_any jq
                have pR := jruns_any
                have hszj : ∀ q, (txStr ws q).size ≤ 1099511627776 := fun q => Nat.le_trans (tx_size HZ.out q) (by omega)
                go_upto_block 1 with (go_at_call 23; (with_reducible refine (pA _).mono ?_); rintro e x ⟨rfl, hx⟩; subst hx)
                obtain ⟨Ib, Bn, W, hIb, hBn, hW, HC, HI⟩ := two wz jq
                rw [hW, hIb, hBn]
                obtain ⟨h2, h3⟩ := HC.out
                have hRT : RT w W Rb Wb Ib 0 (.slice (some ⟨g', 0, none⟩) ws.length cap') ws := ⟨hTq.rb.below HI hTq.rb.size, hTq.wb.below HI hTq.wb.size, own_next hTq.own HI, h2, hTq.bel.trans (HI.mono hTq.bel.size)⟩
                have hJW := hQd.jn.next HI
                have HL : Hid (w.heap.size ≤ Rb ∧ w.heap.size ≤ Ib ∧ Rb < Ib ∧ Ib < Bn ∧ Bn < W.heap.size ∧ w.heap.size ≤ W.heap.size) := Lib.hid (by have e1 := hTq.g1; have e2 := hTq.rb.size; have e3 := h3.size; have e4 := hTq.bel.size; omega)
                have hcB := (h3.at 0).trans rfl
                have hltB := h3.size
                have hwW : w.heap.size ≤ W.heap.size := HL.out.2.2.2.2.2
                clear HC hTq hQd hW hIb hBn h2 h3 HI HZ pA g1 g2
                refine (wpIn_wide (n := 12)).1 ?_
                gi_wp2
                refine wpIn_rangeFunc_upd rfl (by omega) (gf := 33) (lb := #[.pointer (some ⟨Bn, 0, none⟩)]) rfl trivial (enters_of Try.func33 (by kernel_rfl) rfl)
                  (jall_stops (12 - 1) (by omega) Bn jq w.heap.size G (flat ws).length false vq ws (by omega) hszj W hcB hltB hJW) (fun h k => h.trans k) (fun V l o o' hl h hc hw => KT.put (w := W) V l o o' hl h hc hw) (Below.refl _ _) (fun _ => rfl)
                  (fun pre V => RT w V Rb Wb Ib (pre.length : Int) (.slice (some ⟨g', 0, none⟩) ws.length cap') ws)
                  (fun cd pre V => OrdT pre → False)
                  (fun pre X Y row hs hg hr => hs.grown hwW hg hr)
                  (fun cd pre X Y row hs hg hr ho => hs ho)
                  hRT
                  (fun x t => (t.setIfInBounds 120 (.string (txStr ws x.1))).setIfInBounds 21 (.string (txStr ws x.1)))
                  ?assign ?body ?done ?stop
                case assign =>
                  intro l x V K hK
                  simp only [encT]
                  simp only [List.setIfInBounds_toArray, List.set_cons_succ, List.set_cons_zero] at hK
                  gi_wp2
                  exact hK
                case body =>
                  rintro l pre x V hRx hplt
                  obtain ⟨L0, L1, L2, L3, L4, L5⟩ := HL.out
                  simp only [List.setIfInBounds_toArray, List.set_cons_succ, List.set_cons_zero]
                  have cWx := hRx.wb.at 0
                  have cIx := hRx.ib.at 0
                  have fIx := hRx.ib.free 0
                  have cRx := hRx.rb.at 0
                  have fRx := hRx.rb.free 0
                  have cT := own_cellS hRx.own pre.length hplt
                  have HX : Hid (OrdT (pre ++ [x]) → txStr ws x.1 = txStr ws pre.length) := Lib.hid (fun ho => by rw [ho.front.2])
                  obtain ⟨A, hA⟩ : ∃ A, txStr ws x.1 = A := ⟨_, rfl⟩
                  obtain ⟨A', hA'⟩ : ∃ A', txStr ws pre.length = A' := ⟨_, rfl⟩
                  rw [hA'] at cT HX
                  rw [hA] at HX ⊢
                  clear hA hA'
                  have hlen : (pre ++ [x]).length = pre.length + 1 := by simp
                  have hIx : RT w (V.setCell ⟨Ib, 0, none⟩ (.int .i64 ((pre.length : Int) + 1))) Rb Wb Ib ((pre.length : Int) + 1) (.slice (some ⟨g', 0, none⟩) ws.length cap') ws := hRx.set (by omega) _
                  have hKx : KT 9 V (V.setCell ⟨Ib, 0, none⟩ (.int .i64 ((pre.length : Int) + 1))) := (KT.refl _ V).set hRx.ib (by decide) _
                  have hIn : RT w (V.setCell ⟨Ib, 0, none⟩ (.int .i64 ((pre.length : Int) + 1))) Rb Wb Ib (((pre ++ [x]).length : Nat) : Int) (.slice (some ⟨g', 0, none⟩) ws.length cap') ws := by rw [hlen, Int.natCast_add]; exact hIx
                  have HK := Lib.hid (And.intro hIn hKx)
                  have n1 : (pre.length : Int) < (ws.length : Int) := by omega
                  clear hIx hKx hIn hlen hRT hJW hcB hltB
                  by_cases hAA : A = A'
                  · subst hAA
                    gi_wp2
                    exact ⟨(KeepsOthers.setCell _ _ _).from _, HK.out.2, HK.out.1⟩
                  · gi_wp2
                    all_goals first
                      | exact ⟨(KeepsOthers.setCell _ _ _).from _, HK.out.2, HK.out.1⟩
                      | exact ⟨(KeepsOthers.setCell _ _ _).from _, fun ho => absurd (HX.out ho) hAA⟩
                case done =>
                  rintro D ys V hD ⟨hOy, hly⟩ hRz hK
                  obtain ⟨L0, L1, L2, L3, L4, L5⟩ := HL.out
                  rw [hly] at hRz
                  have cW := hRz.wb.at 0
                  have cI := hRz.ib.at 0
                  go_wp2_with (go_at_call 3; (with_reducible refine (pR _).mono ?_); rintro e V3 ⟨rfl, hb3⟩; have hR3 := hRz.next hb3; have cR3 := hR3.rb.at 0; have fR3 := hR3.rb.free 0)
                  have hDW := (Array.getElem?_eq_some_iff.1 hK).1
                  have hK4 : (V3.setCell ⟨Rb, 0, none⟩ (.bool true)).heap[D]? = some (.deferred (some [])) :=
                    (heap_setCell_other V3 ⟨Rb, 0, none⟩ D _ (by show D ≠ Rb; omega)).trans ((hb3.block D hDW).trans hK)
                  refine ⟨by simp, .inl ⟨_, _, rfl, run_takeDeferred hK4, ?_⟩⟩
                  have hc5 := cell_kept (((hR3.rb.put 0 (.bool true)).at 0).trans rfl) (grownBy_putObj' _ D (.deferred none)) (fun r e => by cases e; exact ⟨_, hK4, rfl⟩)
                  refine ⟨.bool true, ?_, rfl, (hR3.bel.setCell (p := ⟨Rb, 0, none⟩) (by omega) _).trans (belowK_b (w := w) (Nat.le_refl _) _ D _ _ (by omega) hK4 rfl rfl)⟩
                  simp [results, Try.f5, go_sem, hc5]
                case stop =>
                  rintro D cd pre V hD hp h hK
                  exact (h hp).elim
theorem jtorn_law (a : Option Addr) (len cap : Nat) (m n : Int) (w : World) (hr : IsAsks w a len) :
    Calls Try.prog 5 #[.slice a len cap, .int .i64 m, .int .i64 n] w fun e w' => e = .returned (.bool true) ∧ Below w.heap.size w w' := jtorn_any a len cap m n w hr
end Go.Proofs.Ytelhdemgcpdmiaa
