/- THE WALKS of blob.along and of the function that it hands back: the bases of a name. -/
import Derived.Test.YtoddhdionhemjaaGreatDoorBk8
import Derived.Test.YtoddhdionhemjaaGreatDoorWf8
namespace Go.Proofs.YtoddhdionhemjaaGreatDoor
open Go.RowKit Go.Shelf
attribute [local go_sem] Oper.semAt_some
set_option maxRecDepth 100000

/-- The blocks of a store in memory. -/
def SnB (sg : Nat) (x : Value) (k : Nat) : Prop := k = sg ∨ x.ownBlock = some k
theorem SnAt.kx {E : Nat → Prop} {Bx : Nat} {A B : World} {base sg jg : Nat} {x : Value} {st : List Rr} (h : SnAt A base sg jg x st) (k : KX E Bx A B) (hE : ∀ j, SnB sg x j → ¬ E j) (hQ : ∀ j, SnB sg x j → ¬ OwB Bx A j) : SnAt B base sg jg x st := by
  refine ⟨k.keep sg _ (hE sg (.inl rfl)) (hQ sg (.inl rfl)) h.head rfl, ?_⟩
  rcases h.row.shape with ⟨rfl, rfl⟩ | ⟨g, cap, rfl⟩
  · exact World.ownsRow_nil _ _ _ _
  · exact OwnR.kx h.row k (hE g (.inr rfl)) (hQ g (.inr rfl))
/-- What is yielded. -/
def encE {L : List (List UInt8 × En)} (y : Sub L) : Array Value := #[.string (bA y.1.1), enA y.1.2]
theorem box_en (w : World) (e : En) : ∃ Q W0, w.heap.size = Q ∧ w.alloc (.cells #[.string (bA e.letter), .string (bA e.base), .string (bA e.text)] 88) = W0 ∧ Rw W0 Q 88 #[.string (bA e.letter), .string (bA e.base), .string (bA e.text)] ∧ Below w.heap.size w W0 :=
  ⟨_, _, rfl, rfl, Rw.fresh w _ _, (Below.refl w.heap.size w).alloc (Nat.le_refl _) _⟩
theorem balong_any (sg : Nat) (n : ByteArray) (w : World) :
    Calls Tryz.prog 42 #[.pointer (some ⟨sg, 0, none⟩), .string n] w fun e w' => e = .returned (.func (.func 73) #[] #[.pointer (some ⟨w.heap.size + 1, 0, none⟩), .pointer (some ⟨w.heap.size, 0, none⟩)]) ∧
      Boxed w' w.heap.size 24 (.pointer (some ⟨sg, 0, none⟩)) ∧ Boxed w' (w.heap.size + 1) 9 (.string n) ∧ Below w.heap.size w w' := by
  have hmf : ∀ (fn : Fn) (first cap : Array Value) (w : World), (Instr.makeFunc fn first cap).run Tryz.prog w = .ok (.func fn first cap) w := fun _ _ _ _ => rfl
  go_enter Tryz.func42, Tryz.ntmps42
  go_wp2
  go_ret
  refine ⟨by simp, ?_, ?_, ((Below.refl _ w).alloc (Nat.le_refl _) _).alloc (by simp) _⟩
  · exact (Rw.fresh w 24 #[.pointer (some ⟨sg, 0, none⟩)]).alloc _
  · have := Rw.fresh (w.alloc (.cells #[.pointer (some ⟨sg, 0, none⟩)] 24)) 9 #[.string n]
    rw [World.size_alloc] at this
    exact this
theorem valOf_name {st : List Rr} {n : List UInt8} (h : say st n ≠ none) : Ha.isL n = true := by
  cases hi : Ha.isL n with
  | true => rfl
  | false => exfalso; apply h; unfold say valOf; rw [hi, if_neg (by decide)]; rfl
theorem isL_40 {n : List UInt8} (h : Ha.isL n = true) : n.length = 40 := by
  unfold Ha.isL at h
  simp at h
  exact h.1
theorem rdE_len {v : List UInt8} {e : En} (h : rdE v = some e) : e.base.length ≤ 40 ∧ e.text.length ≤ v.length := by
  unfold rdE at h
  split at h
  · cases h; exact ⟨by simp [En.base], by simp [En.text]⟩
  · split at h
    · cases h; exact ⟨by simp [En.base]; omega, by simp [En.text]⟩
    · cases h
theorem say_len {st : List Rr} (hok : RdOk st) {n : List UInt8} {e : En} (h : say st n = some e) : e.base.length ≤ 40 ∧ e.text.length ≤ 100000 := by
  have h1 := rdE_len (show rdE _ = some e from h)
  have h2 := hok.value n
  exact ⟨h1.1, by omega⟩
set_option maxHeartbeats 2000000 in
theorem along_in (E : Nat → Prop) (Bx : Nat) (n : Nat) (hn : 1 ≤ n) (l Nb Sb base sg jg : Nat) (x : Value) (st : List Rr) (hok : RdOk st) (nme : List UInt8) (hnl : nme.length ≤ 1000000) (L : List (List UInt8 × En)) (hL : L = along st 4 nme) (J Jx : List (Sub L) → World → Prop)
    (hY : ∀ pre (y : Sub L) W1, J pre W1 → pre.length < 4 → YieldAt Fence.wide (n - 1) Tryz.prog l (encE y) W1 fun e W' =>
      (e = .returned (.bool true) ∧ J (pre ++ [y]) W' ∧ KX E Bx W1 W') ∨ (e = .returned (.bool false) ∧ Jx (pre ++ [y]) W'))
    (W : World) (hSb : Boxed W Sb 24 (.pointer (some ⟨sg, 0, none⟩))) (hNb : Boxed W Nb 9 (.string (bA nme))) (hD : SnAt W base sg jg x st) (hx : Bx < W.heap.size) (hQ : Qt Bx (fun k => k = Sb ∨ SnB sg x k) W) (hE : ∀ k, k = Sb ∨ SnB sg x k ∨ W.heap.size ≤ k → ¬ E k) (hJ : AbidesFrom W.heap.size J) (h0 : J [] W) :
    CallsIn Fence.wide n Tryz.prog 73 #[.func (.yield l) #[] #[], .pointer (some ⟨Nb, 0, none⟩), .pointer (some ⟨Sb, 0, none⟩)] W fun e W' => (∃ v, e = .returned v) ∧
      ((∃ xs, AllS8 L xs ∧ J xs W') ∨ (∃ pre, PartS8 L pre ∧ Jx pre W')) := by
  have hgrow : ∀ {V V' : World} {pre : List (Sub L)}, J pre V → Below V.heap.size V V' → J pre V' := fun {V V' pre} hj hb => hJ pre V V' none hj ⟨hb.os, hb.tape, hb.output, hb.size, fun k hk _ => hb.block k hk⟩ (fun r e => by cases e)
  have cN := hNb.cell
  have HE := Lib.hid hE
  clear hE hNb
  refine callsIn_of_wp Tryz.func73 rfl trivial ?_ rfl
  simp only [Tryz.ntmps73, List.size_toArray, List.length_cons, List.length_nil, Nat.reduceAdd, Nat.reduceSub, Array.replicate_succ, Array.replicate_zero, List.push_toArray, List.append_toArray, List.nil_append, List.cons_append]
  gi_wp2
  gi_loopw [4, 10] (fun a i wr => ∃ (k : Nat) (pre : List (Sub L)) (m : List UInt8), k ≤ 4 ∧ i = .int .i64 k ∧ a = .string (bA m) ∧ m.length ≤ 1000000 ∧ pre.map (·.1) ++ along st (4 - k) m = L ∧ pre.length = k ∧ J pre wr ∧ Boxed wr Sb 24 (.pointer (some ⟨sg, 0, none⟩)) ∧ SnAt wr base sg jg x st ∧ W.heap.size ≤ wr.heap.size ∧ Qt Bx (fun k => k = Sb ∨ SnB sg x k) wr)
    (fun _ i _ => 4 - (intOf i).toNat)
  case atStart => exact ⟨0, [], nme, Nat.zero_le _, rfl, rfl, hnl, by rw [hL]; rfl, rfl, h0, hSb, hD, Nat.le_refl _, hQ⟩
  case round =>
    obtain ⟨k, pre, m, hk, rfl, rfl, hm, hpre, hpl, hJs, hSr, hDr, hszr, hQr⟩ := hrel
    by_cases hlt : k < 4
    · have t1 : decide ((k : Int) < 4) = true := by simp; omega
      have hpre' : pre.map (·.1) ++ along st ((3 - k) + 1) m = L := by rw [show 3 - k + 1 = 4 - k by omega]; exact hpre
      rw [along] at hpre'
      have cS := hSr.cell
      have hxr : Bx < wr.heap.size := by omega
      have p1 := value_any hok hDr m hm
      have hv := hok.value m
      have p2 := fun V => bread_any ((valOf st m).getD []) hv V
      rw [show rdE ((valOf st m).getD []) = say st m from rfl] at p2
      cases hs : say st m with
      | none =>
        rw [hs] at hpre' p2
        simp only [List.append_nil] at hpre'
        generalize bA m = s at p1 ⊢
        generalize bA ((valOf st m).getD []) = vv at p1 p2 ⊢
        generalize (valOf st m).isSome = bb at p1
        simp only [enV, Option.isSome] at p2
        gi_wp2_with (refine ⟨trivial, ?_⟩; first
          | (gi_at_call 39; refine (callsIn_wide.2 p1).mono ?_; rintro e W1 ⟨rfl, hb1⟩)
          | (gi_at_call 41; refine (callsIn_wide.2 (p2 _)).mono ?_; rintro e W2 ⟨rfl, hb2⟩))
        refine ⟨(fun f h => (by cases h)), ?_⟩
        gi_wp2
        refine bodyPost_ret (results_none rfl _ _ _) rfl ?_
        have hb := bstep (bstep hb1 hb2) ((Below.refl _ W2).alloc (Nat.le_refl _) (.cells #[.string (bA []), .string (bA []), .string (bA [])] 88))
        exact ⟨⟨_, rfl⟩, .inl ⟨pre, hpre', hgrow hJs hb⟩⟩
      | some e =>
        obtain ⟨hle, hlt2⟩ := say_len hok hs
        rw [hs] at hpre' p2
        simp only [] at hpre'
        have hmem : (m, e) ∈ L := by rw [← hpre']; simp
        have hyY := fun W1 hj => hY pre ⟨(m, e), hmem⟩ W1 hj (by omega)
        have hnext : (pre ++ [(⟨(m, e), hmem⟩ : Sub L)]).map (fun z => z.1) ++ along st (4 - (k + 1)) e.base = L := by
          rw [List.map_append, List.append_assoc, show 4 - (k + 1) = 3 - k by omega]
          exact hpre'
        simp only [encE, enA] at hyY
        simp only [enV, enA, Option.isSome] at p2
        have hEq : ∀ (P : Value), P = .string (bA e.base) → ∃ b, P = .string (bA b) ∧ b = e.base := fun P h => ⟨_, h, rfl⟩
        have HN := Lib.hid hnext
        generalize hys : (⟨(m, e), hmem⟩ : Sub L) = y at hyY HN
        have e1 : m = y.1.1 := by rw [← hys]
        clear hnext hpre' hpre hEq
        have hpart : PartS8 L (pre ++ [y]) := ⟨_, HN.out⟩
        clear hys hmem
        generalize bA m = s at p1 hyY ⊢
        generalize bA ((valOf st m).getD []) = vv at p1 p2 ⊢
        generalize (valOf st m).isSome = bb at p1
        have bx := fun V => box_en V e
        generalize hbb : bA e.base = bs at p2 hyY bx
        generalize bA e.letter = lt at p2 hyY bx
        generalize bA e.text = tx at p2 hyY bx
        have hEQ : ∀ k, k = Sb ∨ SnB sg x k → ¬ E k := fun k hk => HE.out k (by rcases hk with h | h; exact .inl h; exact .inr (.inl h))
        gi_wp2_with (refine ⟨trivial, ?_⟩; first
          | (gi_at_call 39; refine (callsIn_wide.2 p1).mono ?_; rintro e W1 ⟨rfl, hb1⟩)
          | (gi_at_call 41; refine (callsIn_wide.2 (p2 _)).mono ?_; rintro e W2 ⟨rfl, hb2⟩; obtain ⟨Q, W0, hQ0, hW0, hR0, hB0⟩ := bx W2; obtain ⟨fn, tmps, assign, body, hy, hR⟩ := hyY W0 (hgrow hJs (bstep (bstep hb1 hb2) hB0)); have d0 := hR0.at 0; have d1 := hR0.at 1; have d2 := hR0.at 2))
        have hb12 := bstep hb1 hb2
        have hQ2 := hQr.below hb12 hxr
        have hx2 : Bx < W2.heap.size := Nat.lt_of_lt_of_le hxr hb12.size
        have hQQ : Qt Bx (fun k => k = Q) W0 := hQ2.fresh hB0 hx2 (fun k hk => by subst hk; exact ⟨by omega, hR0.size⟩)
        have hQ0r := hQ2.below hB0 hx2
        have hb120 := bstep hb12 hB0
        have hSr0 := bx_next hSr hb120
        have hDr0 := hDr.next hb120
        have hEq : ¬ E Q := HE.out Q (.inr (.inr (by have := hb12.size; omega)))
        have hsz0 := hb120.size
        clear d0 d1 d2 hSr hDr hb1 hb2 hb12 hQr hQ2 hW0 hB0 hJs cS cN hy
        refine hR.mono ?_
        rintro e' W3 (⟨rfl, hJ3, hk3⟩ | ⟨rfl, hJx3⟩)
        · have hR3 : Rw W3 Q 88 _ := hk3.keep Q _ hEq (hQQ.no Q rfl) hR0 rfl
          have d1 : W3.cell? ⟨Q, 1, none⟩ = some (.string bs) := hR3.at 1
          have hSr3 : Boxed W3 Sb 24 (.pointer (some ⟨sg, 0, none⟩)) := hk3.keep Sb _ (hEQ _ (.inl rfl)) (hQ0r.no Sb (.inl rfl)) hSr0 rfl
          have hDr3 := hDr0.kx hk3 (fun j hj => hEQ j (.inr hj)) (fun j hj => hQ0r.no j (.inr hj))
          have hQ3 := hQ0r.kx hk3
          have hsz3 := hk3.size
          clear hR3 hR hEQ
          gi_wp2
          go_roundw
          case rel => exact ⟨k + 1, _, e.base, by omega, by go_num, by rw [hbb], by omega, HN.out, by simp [hpl], hJ3, hSr3, hDr3, by omega, hQ3⟩
          case measure => simp [intOf]; omega
        · gi_wp2
          refine bodyPost_ret (results_none rfl _ _ _) rfl ?_
          exact ⟨⟨_, rfl⟩, .inr ⟨_, hpart, hJx3⟩⟩
    · obtain rfl : k = 4 := by omega
      have t1 : decide (((4 : Nat) : Int) < 4) = false := by simp
      gi_wp2
      go_end0
      exact ⟨⟨_, rfl⟩, .inl ⟨pre, by unfold AllS8; simpa [along] using hpre, hJs⟩⟩
/-- s.along(name) hands back a function that stops. -/
theorem along_stops (E : Nat → Prop) (Bx : Nat) (n : Nat) (hn : 1 ≤ n) (Nb Sb base sg jg : Nat) (x : Value) (st : List Rr) (hok : RdOk st) (nme : List UInt8) (hnl : nme.length ≤ 1000000) (L : List (List UInt8 × En)) (hL : L = along st 4 nme) (w : World)
    (hSb : Boxed w Sb 24 (.pointer (some ⟨sg, 0, none⟩))) (hNb : Boxed w Nb 9 (.string (bA nme))) (hD : SnAt w base sg jg x st) (hx : Bx < w.heap.size) (hQ : Qt Bx (fun k => k = Sb ∨ SnB sg x k) w) (hE : ∀ k, k = Sb ∨ SnB sg x k ∨ w.heap.size ≤ k → ¬ E k) :
    SeqStopsK Fence.wide n Tryz.prog 73 #[.pointer (some ⟨Nb, 0, none⟩), .pointer (some ⟨Sb, 0, none⟩)] (encE (L := L)) (KX E Bx) (AllS8 L) (PartS8 L) 4 w := fun l J Jx W hW hJ _ hY h0 =>
  along_in E Bx n hn l Nb Sb base sg jg x st hok nme hnl L hL J Jx hY W (bx_next hSb hW) (bx_next hNb hW) (hD.next hW) (Nat.lt_of_lt_of_le hx hW.size) (hQ.below hW hx)
    (fun k hk => hE k (by rcases hk with h | h | h; exact .inl h; exact .inr (.inl h); exact .inr (.inr (Nat.le_trans hW.size h)))) hJ h0
/-- A world whose box is no row. -/
theorem Qt.none {Bx : Nat} {S : Nat → Prop} {W : World} (h : ∀ k, S k → k < W.heap.size) (hb : ∀ k, ¬ OwB Bx W k) : Qt Bx S W := ⟨h, fun k _ => hb k, fun k hk => absurd hk (hb k)⟩
theorem OwB.no_str {Bx : Nat} {W : World} {t : TypeId} {v : Value} (h : Boxed W Bx t v) (hv : ∀ g o m l c, v ≠ .slice (some ⟨g, o, m⟩) l c) (k : Nat) : ¬ OwB Bx W k := fun ⟨_, _, _, _, e⟩ => by
  rw [h.cell] at e
  exact hv _ _ _ _ _ (Option.some.inj e)
theorem SnB.lt {W : World} {base sg jg : Nat} {x : Value} {st : List Rr} (h : SnAt W base sg jg x st) : ∀ k, SnB sg x k → k < W.heap.size := fun k hk => by
  rcases hk with rfl | hk
  · exact h.head.size
  · exact (h.row.lt k hk).2
/-- What a call hands back that has cells for its results, one of a kind. -/
theorem res_one {P : Program} {fn : Func} {p : Tmp} {ty : TypeId} (h : fn.results = #[.cell p ty]) (tmps : Array Value) (w : World) (g : Nat) (v : Value)
    (hp : tmps.getD p undef = .pointer (some ⟨g, 0, none⟩)) (hl : (loadVar ty ⟨g, 0, none⟩).run P w = .ok v w) : (results fn tmps).run P w = .ok v w := by
  have hp' : tmps[p]?.getD undef = .pointer (some ⟨g, 0, none⟩) := by simpa using hp
  simp [results, h, hp', asAddr, hl]
end Go.Proofs.YtoddhdionhemjaaGreatDoor
