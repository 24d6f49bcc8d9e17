/- WHAT THE WALK OF StorePlays CARRIES: the program's disk and store, the reference's disk, the marks of the loops that are over; a commit, what it makes of the disk said outright. -/
import Derived.Test.YtlofjfeimhjdlaaGreatDoorRPy7
import Derived.Test.YtlofjfeimhjdlaaGreatDoorRRt7
import Derived.Test.YtlofjfeimhjdlaaGreatDoorRC7
import Derived.Test.YtlofjfeimhjdlaaGreatDoorWa7
import Derived.Test.YtlofjfeimhjdlaaGreatDoorLr7
namespace Go.Proofs.YtlofjfeimhjdlaaGreatDoor
open Go.RowKit Go.Shelf
set_option maxRecDepth 100000

/-- The marks that ranges over functions have left: blocks that hold no call. -/
structure Marks (w W : World) (Ds : List Nat) : Prop where
  nd : Ds.Nodup
  ge : ∀ D ∈ Ds, w.heap.size ≤ D
  on : ∀ D ∈ Ds, W.heap[D]? = some (.deferred (some []))
def mrk (D : Nat) : Deferred := { target := .collected D, args := #[] }
section
variable {w W W' : World} {Ds : List Nat}
theorem Marks.lt (h : Marks w W Ds) : ∀ D ∈ Ds, D < W.heap.size := fun D hD => (Array.getElem?_eq_some_iff.1 (h.on D hD)).1
theorem Marks.but {S : Nat → Prop} (h : Marks w W Ds) (hb : But S W W') (hc : ∀ k, S k → ∃ cs t, Rw W k t cs) : Marks w W' Ds :=
  ⟨h.nd, h.ge, fun D hD => (hb.block D (h.lt D hD) (fun hS => by
    obtain ⟨cs, t, hr⟩ := hc D hS
    have e := h.on D hD
    rw [show W.heap[D]? = _ from hr] at e
    cases e)).trans (h.on D hD)⟩
theorem Marks.next (h : Marks w W Ds) (hb : Below W.heap.size W W') : Marks w W' Ds := ⟨h.nd, h.ge, fun D hD => (hb.block D (h.lt D hD)).trans (h.on D hD)⟩
theorem Marks.cons (h : Marks w W Ds) (D : Nat) (hn : ∀ D' ∈ Ds, D' < D) (hge : w.heap.size ≤ D) (hD : W.heap[D]? = some (.deferred (some []))) : Marks w W (D :: Ds) :=
  ⟨List.nodup_cons.2 ⟨fun hm => Nat.lt_irrefl _ (hn D hm), h.nd⟩, fun D' hD' => by rcases List.mem_cons.1 hD' with rfl | h1; exact hge; exact h.ge _ h1, fun D' hD' => by rcases List.mem_cons.1 hD' with rfl | h1; exact hD; exact h.on _ h1⟩
/-- Out of a function with its marks. -/
theorem leaves_marks {F : Fence} {n : Nat} {P : Program} {fn : Func} {tmps : Array Value} {R : Ending → World → Prop} {w : World} {Φ : World → Prop}
    (hΦ : ∀ W D, w.heap.size ≤ D → W.heap[D]? = some (.deferred (some [])) → Φ W → Φ (W.putObj D (.deferred none))) (hend : ∀ W, Φ W → LeavesInM F n P fn tmps R [] .returning W) :
    ∀ (Ds : List Nat) (W : World), Marks w W Ds → Φ W → LeavesInM F n P fn tmps R (Ds.map mrk) .returning W
  | [], W, _, h => hend W h
  | D :: Ds, W, hM, h => by
    have hD := hM.on D (by simp)
    refine ⟨by simp, .inl ⟨D, W.putObj D (.deferred none), rfl, run_takeDeferred hD, leaves_marks hΦ hend Ds _ ⟨(List.nodup_cons.1 hM.nd).2, fun D' h' => hM.ge D' (by simp [h']), fun D' h' => ?_⟩ (hΦ W D (hM.ge D (by simp)) hD h)⟩⟩
    have hne : D' ≠ D := fun e => (List.nodup_cons.1 hM.nd).1 (e ▸ h')
    exact ((grownBy_putObj' W D (.deferred none)).block D' (hM.lt D' (by simp [h'])) (fun e => hne (Option.some.inj e))).trans (hM.on D' (by simp [h']))
end
def NoPanic (Q : Exit → Act → World → Prop) : Exit → Act → World → Prop
  | .panic _, _, _ => False
  | e, a, w => Q e a w
theorem wp_noPanic {P : Program} {c : Code} {Q : Exit → Act → World → Prop} {a : Act} {w : World} (h : c.wp P (NoPanic Q) a w) : c.wp P Q a w := wp_mono h (fun e a w h => by cases e <;> first | exact h | exact h.elim)
/-- The reference's disk, the answer's box, the marks. -/
structure PX (w W : World) (Rb GO bo co : Nat) (o : Dk) (Ds : List Nat) : Prop where
  rf : RfAt W GO bo co o
  rb : Rw W Rb 4 #[.bool false]
  ms : Marks w W Ds
  bel : Below w.heap.size w W
  g1 : w.heap.size ≤ Rb
  g3 : w.heap.size ≤ GO
  g4 : w.heap.size ≤ bo
section
variable {w W W' : World} {Rb GO bo co G B cap jg sg : Nat} {o o' d d' : Dk} {Ds : List Nat} {v v' x x' : Value} {ts ts' : List (List UInt8)} {st : List Rr} {t : Bool}
theorem PX.next (h : PX w W Rb GO bo co o Ds) (hb : Below W.heap.size W W') : PX w W' Rb GO bo co o Ds :=
  ⟨h.rf.next hb, h.rb.below hb h.rb.size, h.ms.next hb, h.bel.trans (hb.mono h.bel.size), h.g1, h.g3, h.g4⟩
theorem PX.but {S : Nat → Prop} (h : PX w W Rb GO bo co o Ds) (hb : But S W W') (hS : ∀ q, S q → w.heap.size ≤ q) (hc : ∀ q, S q → ∃ cs t, Rw W q t cs ∧ t ≠ 4 ∧ t ≠ 36) (hbo : ¬ S bo) : PX w W' Rb GO bo co o Ds := by
  obtain ⟨K, hK, hR⟩ := h.rf.head
  have n1 : ¬ S GO := fun hq => by obtain ⟨cs, t, hr, _, hn⟩ := hc _ hq; exact hR.ne hr (Ne.symm hn) rfl
  exact ⟨h.rf.same (hb.block GO h.rf.lt.1 n1) (hb.block bo h.rf.lt.2 hbo), h.rb.butS hb (fun hq => by obtain ⟨cs, t, hr, hn, _⟩ := hc _ hq; exact h.rb.ne hr (Ne.symm hn) rfl), h.ms.but hb (fun q hq => by obtain ⟨cs, t, hr, _⟩ := hc q hq; exact ⟨cs, t, hr⟩), h.bel.trans (hb.below h.bel.size hS), h.g1, h.g3, h.g4⟩
/-- The reference's disk alone is turned. -/
theorem PX.turn (h : PX w W Rb GO bo co o Ds) {b' c' : Nat} (hr : RfAt W' GO b' c' o') (hbb : b' = bo ∨ W.heap.size ≤ b') (hb : But2 GO GO W W') : PX w W' Rb GO b' c' o' Ds := by
  obtain ⟨K, hK, hR⟩ := h.rf.head
  have hB : But (fun q => q = GO) W W' := But.of_but2 hb rfl rfl
  exact ⟨hr, h.rb.butS hB (h.rb.ne hR (by decide)), h.ms.but hB (fun q hq => by subst hq; exact ⟨_, _, hR⟩), h.bel.trans (hB.below h.bel.size (fun q hq => by subst hq; exact h.g3)), h.g1, h.g3, by
    rcases hbb with rfl | h1
    · exact h.g4
    · exact Nat.le_trans h.bel.size h1⟩
theorem sb_types (hs : SO w W G B cap jg sg d v x ts st t) : ∀ q, SB G B jg v sg x q → ∃ cs ty, Rw W q ty cs ∧ ty ≠ 4 ∧ ty ≠ 36 := fun q hq => by
  obtain ⟨cs, ty, hr, ht⟩ := hs.cells q hq
  exact ⟨cs, ty, hr, by rcases ht with rfl | rfl | rfl | rfl | rfl | rfl <;> decide, by rcases ht with rfl | rfl | rfl | rfl | rfl | rfl <;> decide⟩
/-- The strings of the reference's disk are none of the store's blocks. -/
theorem bo_not (hs : SO w W G B cap jg sg d v x ts st t) (hr : RfAt W GO bo co o) (ap : v.ownBlock ≠ some bo) : ¬ SB G B jg v sg x bo := fun hq => by
  obtain ⟨cur, hc⟩ := hs.jo.dk.secs.rw
  obtain ⟨cs, hS, _⟩ := hr.strs
  rcases hq with ((e | e) | (e | hq)) | (e | hq)
  · exact hS.ne hs.jo.dk.head (by decide) e
  · exact hS.ne hc (by decide) e
  · exact hS.ne hs.jo.jn.head (by decide) e
  · exact ap hq
  · exact hS.ne hs.sn.head (by decide) e
  · exact own_ne hs.sn.row hS (by decide) _ hq rfl
/-- What is done by the store leaves the reference. -/
theorem PX.str (h : PX w W Rb GO bo co o Ds) (hs : SO w W G B cap jg sg d v x ts st t) (ap : v.ownBlock ≠ some bo) (hb : But (SB G B jg v sg x) W W') : PX w W' Rb GO bo co o Ds :=
  h.but hb hs.ge (sb_types hs) (bo_not hs h.rf ap)
theorem PX.dsk (h : PX w W Rb GO bo co o Ds) (hs : SO w W G B cap jg sg d v x ts st t) (hb : But2 G B W W') : PX w W' Rb GO bo co o Ds := by
  obtain ⟨cur, hc⟩ := hs.jo.dk.secs.rw
  obtain ⟨cs, hS, _⟩ := h.rf.strs
  refine h.but (S := fun q => q = G ∨ q = B) (But.of_but2 hb (.inl rfl) (.inr rfl)) (fun q hq => ?_) (fun q hq => ?_) (fun hq => ?_)
  · rcases hq with rfl | rfl
    · exact hs.ge _ (.inl (.inl (.inl rfl)))
    · exact hs.ge _ (.inl (.inl (.inr rfl)))
  · rcases hq with rfl | rfl
    · exact ⟨_, _, hs.jo.dk.head, by decide, by decide⟩
    · exact ⟨_, _, hc, by decide, by decide⟩
  · rcases hq with e | e
    · exact hS.ne hs.jo.dk.head (by decide) e
    · exact hS.ne hc (by decide) e
/-- What is done to the reference's disk leaves the store. -/
theorem SO.turn (hs : SO w W G B cap jg sg d v x ts st t) (h : PX w W Rb GO bo co o Ds) (hb : But2 GO GO W W') : SO w W' G B cap jg sg d v x ts st t := by
  obtain ⟨K, hK, hR⟩ := h.rf.head
  refine hs.but (S := fun q => q = GO) (But.of_but2 hb rfl rfl) (fun q hq e => ?_) (fun q hq => by subst hq; exact h.g3)
  subst e
  obtain ⟨cs, t, hr, _, hn⟩ := sb_types hs _ hq
  exact hr.ne hR hn rfl
end
/-- At the head of a round: both disks are one, they are up; the store has what they hold. -/
structure PI (w W : World) (Rb G B GO bo co jg sg : Nat) (d : Dk) (v x : Value) (ts : List (List UInt8)) (Ds : List Nat) : Prop where
  px : PX w W Rb GO bo co d Ds
  so : SO w W G B 60 jg sg d v x ts (replay ts) false
  ho : Holds d.ss ts
  dn : d.down = false
  n : d.ss.length = 60
  ap : v.ownBlock ≠ some bo
  kg : ∀ r ∈ replay ts, r.k ∈ keys5
section
variable {w W W' : World} {Rb GO bo co G B jg sg : Nat} {d : Dk} {Ds : List Nat} {v x : Value} {ts : List (List UInt8)}
theorem PI.next (h : PI w W Rb G B GO bo co jg sg d v x ts Ds) (hb : Below W.heap.size W W') : PI w W' Rb G B GO bo co jg sg d v x ts Ds :=
  ⟨h.px.next hb, h.so.next hb, h.ho, h.dn, h.n, h.ap, h.kg⟩
/-- A box of a number is set. -/
theorem PI.num (h : PI w W Rb G B GO bo co jg sg d v x ts Ds) {Ib : Nat} {u : Value} (hi : Rw W Ib 3 #[u]) (hI : w.heap.size ≤ Ib) (hb : But (fun q => q = Ib) W W') : PI w W' Rb G B GO bo co jg sg d v x ts Ds := by
  have hS : ∀ q, q = Ib → w.heap.size ≤ q := fun q hq => by subst hq; exact hI
  obtain ⟨cs, hs, _⟩ := h.px.rf.strs
  refine ⟨h.px.but hb hS (fun q hq => by subst hq; exact ⟨_, _, hi, by decide, by decide⟩) (hs.ne hi (by decide)), h.so.but hb (fun q hq e => ?_) hS, h.ho, h.dn, h.n, h.ap, h.kg⟩
  subst e
  obtain ⟨cs', ty, hr, ht⟩ := h.so.cells _ hq
  exact hi.ne hr (by rcases ht with rfl | rfl | rfl | rfl | rfl | rfl <;> decide) rfl
theorem PI.mark (h : PI w W Rb G B GO bo co jg sg d v x ts Ds) (D : Nat) (hn : ∀ D' ∈ Ds, D' < D) (hge : w.heap.size ≤ D) (hD : W.heap[D]? = some (.deferred (some []))) : PI w W Rb G B GO bo co jg sg d v x ts (D :: Ds) :=
  ⟨⟨h.px.rf, h.px.rb, h.px.ms.cons D hn hge hD, h.px.bel, h.px.g1, h.px.g3, h.px.g4⟩, h.so, h.ho, h.dn, h.n, h.ap, h.kg⟩
end
theorem slen_q (base sg jg : Nat) (x : Value) (st : List Rr) (w : World) (h : SnAt w base sg jg x st) :
    Calls Tryz.prog 21 #[.pointer (some ⟨sg, 0, none⟩)] w fun e w' => e = .returned (.int .i64 (st.length : Int)) ∧ w' = w := by
  have c1 := h.head.at 1
  rcases h.row.shape with ⟨rfl, rfl⟩ | ⟨g, cap, rfl⟩
  all_goals
    go_enter Tryz.func21, Tryz.ntmps21
    go_wp2
    go_ret
    exact ⟨rfl, rfl⟩
theorem sjrn_q (base sg jg : Nat) (x : Value) (st : List Rr) (w : World) (h : SnAt w base sg jg x st) :
    Calls Tryz.prog 22 #[.pointer (some ⟨sg, 0, none⟩)] w fun e w' => e = .returned (.pointer (some ⟨jg, 0, none⟩)) ∧ w' = w := by
  have c0 := h.head.at 0
  go_enter Tryz.func22, Tryz.ntmps22
  go_wp2
  go_ret
  exact ⟨rfl, rfl⟩
theorem doT_rows' (st : List Rr) {rs : List Rr} (h : ∀ r ∈ rs, r.Ok) : doT st (rtext rs) = turns st rs := by unfold doT; rw [rread_rtext rs h]
section
variable {w0 W : World} {G B cap jg sg : Nat} {d : Dk} {v x y : Value} {ts : List (List UInt8)} {st rs : List Rr}
/-- A commit that goes, what it makes of the disk said outright. -/
theorem ps_commit (h : SO w0 W G B cap jg sg d v x ts st false) (ho : Holds d.ss ts) (hP : Pow w0) (hst : Srt st) (hsl : st.length ≤ 90000000000) (hL : (rtext rs).length ≤ 1000000000000) (hok : ∀ r ∈ rs, r.Ok) (hy : IsR W y rs) (n : Nat) (hn : n = (pieces (rtext rs)).length) (hd : d.down = false) (hl : (flat ts).length + n ≤ d.ss.length) (ha : d.armed = true → n ≤ d.left) :
    Calls Tryz.prog 15 #[.pointer (some ⟨sg, 0, none⟩), y] W fun r W' => r = .returned (.int .i64 0) ∧ ∃ v' x', SO w0 W' G B cap jg sg (wrs d (flat ts).length (pieces (rtext rs))).2 v' x' (ts ++ [rtext rs]) (turns st rs) false ∧ But (SB G B jg v sg x) W W' ∧ Gone W v v' ∧ Gone W x x' := by
  have hn2 := h.jo.dk.ok.n2
  have hts : ts.length ≤ 1099511627776 := by have := texts_le ts; have := ho.le; omega
  have hdo := doT_rows' st hok
  obtain ⟨d', hd'⟩ : ∃ d', (wrs d (flat ts).length (pieces (rtext rs))).2 = d' := ⟨_, rfl⟩
  rw [hd']
  have core := commit_core sg jg x y w0.heap.size st rs W (hP.on h.jo.bel) hL hok hy h.sn
    (fun V => ∃ v', SO w0 V G B cap jg sg d' v' x (ts ++ [rtext rs]) st false ∧ But (SB G B jg v sg x) W V ∧ Gone W v v')
    (fun W' => ∃ v' x', SO w0 W' G B cap jg sg d' v' x' (ts ++ [rtext rs]) (turns st rs) false ∧ But (SB G B jg v sg x) W W' ∧ Gone W v v' ∧ Gone W x x')
    (fun _ _ => False) ?_ ?_
  · exact core.mono fun r W' hr => by
      rcases hr with hr | ⟨c, _, hf⟩
      · exact hr
      · exact hf.elim
  · intro V hV
    have hSV := h.next hV
    refine (commit_go V w0.heap.size jg G B cap d v ts (flat ts).length (bA (rtext rs)) n hn (by show (rtext rs).length ≤ _; omega) hSV.jo.bel.size hts hSV.jo.dk hSV.jo.jn hl).mono fun r V' ⟨h1, h2, h3⟩ => ?_
    obtain ⟨a1, a2, a3, a4⟩ := ho.commit (rtext rs) hd (by rw [← hn]; exact hl) (by rw [← hn]; exact ha)
    have e0 : (bA (rtext rs)).data.toList = rtext rs := rfl
    rw [e0, hd'] at h1
    rw [e0] at h3
    subst hn
    rcases h3 with ⟨b1, rfl, v', b2, b3⟩ | ⟨b1, _⟩
    · refine .inl ⟨rfl, v', ⟨⟨h1, ?_, hSV.jo.bel.trans (h2.below hSV.jo.bel.size hSV.jo.ge), h.jo.g1, h.jo.g2, h.jo.g3⟩, h.sn.butS ((But.of_below _ hV).trans h2) ?_ ?_, h.g4⟩, (But.of_below _ hV).trans (h2.mono fun k _ hk => .inl hk), b3.mono hV.size⟩
      · rw [flat_snoc, List.length_append]
        exact b2
      · exact fun hk => hSV.js _ hk (.inl rfl)
      · exact fun k hk hS => hSV.js _ hS (.inr hk)
    · rw [a1] at b1; cases b1
  · rintro V ⟨v', hS, h6, h7⟩
    refine (do_any w0.heap.size sg jg x st (bA (rtext rs)) V hS.jo.bel.size (by show (rtext rs).length ≤ _; exact hL) hsl hst hS.sn).mono fun r W' ⟨a1, y', a2, a3, a4⟩ => ⟨a1, v', y', ⟨hS.jo.but a3 hS.js (fun k hk => hS.ge k (.inr hk)), by rw [← hdo]; exact a2, h.g4⟩, h6.trans (a3.mono fun k _ hk => .inr hk), h7, a4.mono h6.size⟩
theorem ps_tear (h : SO w0 W G B cap jg sg d v x ts st false) (ho : Holds d.ss ts) (hP : Pow w0) (hL : (rtext rs).length ≤ 1000000000000) (hok : ∀ r ∈ rs, r.Ok) (hy : IsR W y rs) (n : Nat) (hn : n = (pieces (rtext rs)).length) (hd : d.down = false) (hl : (flat ts).length + n ≤ d.ss.length) (ha : d.armed = true) (hlt : d.left < n) :
    Calls Tryz.prog 15 #[.pointer (some ⟨sg, 0, none⟩), y] W fun r W' => r = .returned (.int .i64 9) ∧ SO w0 W' G B cap jg sg (wrs d (flat ts).length (pieces (rtext rs))).2 v x ts st true ∧ But (SB G B jg v sg x) W W' := by
  have hn2 := h.jo.dk.ok.n2
  have hts : ts.length ≤ 1099511627776 := by have := texts_le ts; have := ho.le; omega
  obtain ⟨d', hd'⟩ : ∃ d', (wrs d (flat ts).length (pieces (rtext rs))).2 = d' := ⟨_, rfl⟩
  rw [hd']
  have core := commit_core sg jg x y w0.heap.size st rs W (hP.on h.jo.bel) hL hok hy h.sn (fun _ => False) (fun _ => False)
    (fun c V => c = 9 ∧ SO w0 V G B cap jg sg d' v x ts st true ∧ But (SB G B jg v sg x) W V) ?_ ?_
  · exact core.mono fun r W' hr => by
      rcases hr with ⟨_, hf⟩ | ⟨c, h1, rfl, h2⟩
      · exact hf.elim
      · exact ⟨h1, h2⟩
  · intro V hV
    have hSV := h.next hV
    refine (commit_go V w0.heap.size jg G B cap d v ts (flat ts).length (bA (rtext rs)) n hn (by show (rtext rs).length ≤ _; omega) hSV.jo.bel.size hts hSV.jo.dk hSV.jo.jn hl).mono fun r V' ⟨h1, h2, h3⟩ => ?_
    have e0 : (bA (rtext rs)).data.toList = rtext rs := rfl
    rw [e0, hd'] at h1
    rw [e0] at h3
    obtain ⟨a1, a2, a3, a4⟩ := ho.tear h.jo.dk.ok (rtext rs) hd (by rw [← hn]; exact hl) ha (by rw [← hn]; exact hlt)
    rcases h3 with ⟨b1, _⟩ | ⟨b1, rfl, b2⟩
    · rw [a1] at b1; cases b1
    · refine .inr ⟨9, rfl, by decide, rfl, ⟨⟨h1, b2, hSV.jo.bel.trans (h2.below hSV.jo.bel.size hSV.jo.ge), h.jo.g1, h.jo.g2, h.jo.g3⟩, h.sn.butS ((But.of_below _ hV).trans h2) ?_ ?_, h.g4⟩, (But.of_below _ hV).trans (h2.mono fun k _ hk => .inl hk)⟩
      · exact fun hk => hSV.js _ hk (.inl rfl)
      · exact fun k hk hS => hSV.js _ hS (.inr hk)
  · exact fun V hf => hf.elim
end
theorem rt_small {r : Rr} (h : Good r) : (rt r).length ≤ 98 := by
  obtain ⟨h1, h2, h3⟩ := h.small
  have d1 : (Lib.decDigits r.k.length).length ≤ 20 := by rw [Lib.decDigits_length]; exact Lib.nDigits_le20 _ (by omega)
  have d2 : (Lib.decDigits r.v.length).length ≤ 20 := by rw [Lib.decDigits_length]; exact Lib.nDigits_le20 _ (by omega)
  unfold rt
  split
  · simp only [List.length_append, List.length_cons]; omega
  · simp only [List.length_append, List.length_cons]; omega
theorem rtext_small : ∀ {rs : List Rr}, (∀ r ∈ rs, Good r) → (rtext rs).length ≤ rs.length * 98
  | [], _ => by simp [rtext]
  | r :: rs, h => by
    have h1 := rt_small (h r (by simp))
    have h2 := rtext_small (rs := rs) (fun q hq => h q (by simp [hq]))
    rw [rtext, List.length_append, List.length_cons]
    omega
theorem RfAt.arm {w : World} {g b cap : Nat} {d : Dk} (h : RfAt w g b cap d) (L K : Nat) (hK : K ≤ 32) (hL : L ≤ 9223372036854775807) :
    RfAt ((w.setCell ⟨g, 1, none⟩ (.int .i64 (L : Int))).setCell ⟨g, 2, none⟩ (.int .i64 (K : Int))) g b cap { d with armed := true, left := L, keep := K } := by
  obtain ⟨K0, h0, h1⟩ := h.head
  refine ⟨⟨K, fun _ => rfl, ?_⟩, (h.strs.same (heap_setCell_other w ⟨g, 1, none⟩ b _ (Ne.symm h.ne))).same (heap_setCell_other _ ⟨g, 2, none⟩ b _ (Ne.symm h.ne)), h.ne, ⟨h.ok.n1, h.ok.n2, h.ok.z, hK, hL⟩, h.cap1⟩
  have := (h1.put 1 (.int .i64 (L : Int))).put 2 (.int .i64 (K : Int))
  simpa [Dk.lft] using this
theorem RfAt.revive {w : World} {g b cap : Nat} {d : Dk} (h : RfAt w g b cap d) : RfAt (w.setCell ⟨g, 3, none⟩ (.bool false)) g b cap { d with down := false } := by
  obtain ⟨K0, h0, h1⟩ := h.head
  refine ⟨⟨K0, h0, ?_⟩, h.strs.same (heap_setCell_other w ⟨g, 3, none⟩ b _ (Ne.symm h.ne)), h.ne, ⟨h.ok.n1, h.ok.n2, h.ok.z, h.ok.k, h.ok.l⟩, h.cap1⟩
  have := h1.put 3 (.bool false)
  simpa [Dk.lft] using this
end Go.Proofs.YtlofjfeimhjdlaaGreatDoor
