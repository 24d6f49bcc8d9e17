/- WHAT THE WALK OF StoreWhole CARRIES: the last row; a commit on an armed disk; what a fill leaves. -/
import Derived.Test.YtlofjfeimhjdlaaDoorOf7
import Derived.Test.YtlofjfeimhjdlaaDoorSR7
import Derived.Test.YtlofjfeimhjdlaaDoorLr7
namespace Go.Proofs.YtlofjfeimhjdlaaDoor
open Go.RowKit Go.Maps
set_option maxRecDepth 100000

theorem But.grown {S : Nat → Prop} {W V V' : World} (h : But S W V) {row : Option Nat} (hg : V.grownBy V' row) (hr : ∀ r, row = some r → W.heap.size ≤ r) : But S W V' :=
  ⟨hg.os.trans h.os, hg.tape.trans h.tape, hg.output.trans h.output, Nat.le_trans h.size hg.size, fun k hk hn => (hg.block k (Nat.lt_of_lt_of_le hk h.size) (fun e => by have := hr k e.symm; omega)).trans (h.block k hk hn)⟩
theorem But.map {W V V' : World} {Mm : Nat} (h : But (fun k => k = Mm) W V) (hg : V.grownBy V' (some Mm)) : But (fun k => k = Mm) W V' := h.trans (But.of_grown hg (fun k e => by cases e; rfl))
/-- A loop's mark. -/
def Mark (W : World) (D : Nat) : Prop := W.heap[D]? = some (.deferred (some []))
theorem Mark.lt {W : World} {D : Nat} (h : Mark W D) : D < W.heap.size := (Array.getElem?_eq_some_iff.1 h).1
theorem Mark.butS {S : Nat → Prop} {W V : World} {D : Nat} (h : Mark W D) (hb : But S W V) (hn : ¬ S D) : Mark V D := (hb.block D h.lt hn).trans h
theorem Mark.next {W V : World} {D : Nat} (h : Mark W D) (hb : Below W.heap.size W V) : Mark V D := (hb.block D h.lt).trans h
theorem Mark.cells {W : World} {D g : Nat} {t : TypeId} {cs : Array Value} (h : Mark W D) (hr : Rw W g t cs) : D ≠ g := fun e => by
  unfold Mark at h
  rw [e, show W.heap[g]? = _ from hr] at h
  cases h
theorem Mark.notSB {w0 W : World} {D : Nat} {G B cap jg sg : Nat} {d : Dk} {u x : Value} {ts : List (List UInt8)} {st : List Rr} {t : Bool} (h : Mark W D) (hS : SO w0 W G B cap jg sg d u x ts st t) : ¬ SB G B jg u sg x D := fun hk => by
  obtain ⟨cs, ty, hr, _⟩ := hS.cells D hk
  exact h.cells hr rfl
theorem Mark.notMap {W : World} {D b n : Nat} {e : TypeId} {M : DataW Unit} (h : Mark W D) (hm : MapT W e b n M) : D ≠ b := fun e0 => by
  obtain ⟨es, c, e1, _⟩ := hm
  unfold Mark at h
  rw [e0, e1] at h
  cases h
theorem Mark.put {W : World} {D E : Nat} (h : Mark W D) (hn : D ≠ E) (o : Obj) : Mark (W.putObj E o) D := (World.putObj_heap_other hn).trans h
/-- The row of the last commit. -/
def rN : Rr := ⟨[110, 101, 119], [97, 32, 118, 97, 108, 117, 101, 32, 111, 102, 32, 116, 104, 101, 32, 108, 97, 115, 116, 32, 99, 111, 109, 109, 105, 116, 44, 32, 116, 104, 97, 116, 32, 109, 97, 107, 101, 115, 32, 105, 116, 32, 108, 111, 110, 103, 101, 114, 32, 116, 104, 97, 110, 32, 97, 32, 115, 101, 99, 116, 111, 114], false⟩
theorem rN_ok : rN.Ok := ⟨by decide, by decide, by decide, fun h => by cases h⟩
theorem rt_small {r : Rr} (h : Good r) : (rt r).length ≤ 98 := by
  obtain ⟨h1, h2, h3⟩ := h.small
  have d1 : (Lib.decDigits r.k.length).length ≤ 20 := by rw [Lib.decDigits_length]; exact Lib.nDigits_le20 _ (by omega)
  have d2 : (Lib.decDigits r.v.length).length ≤ 20 := by rw [Lib.decDigits_length]; exact Lib.nDigits_le20 _ (by omega)
  unfold rt
  split
  · simp only [List.length_append, List.length_cons]; omega
  · simp only [List.length_append, List.length_cons]; omega
theorem rtext_small : ∀ {rs : List Rr}, (∀ r ∈ rs, Good r) → (rtext rs).length ≤ rs.length * 98
  | [], _ => by simp [rtext]
  | r :: rs, h => by
    have h1 := rt_small (h r (by simp))
    have h2 := rtext_small (rs := rs) (fun q hq => h q (by simp [hq]))
    rw [rtext, List.length_append, List.length_cons]
    omega
theorem rN_small : (rtext [rN]).length ≤ 110 := by
  have d1 : (Lib.decDigits rN.k.length).length ≤ 20 := by rw [Lib.decDigits_length]; exact Lib.nDigits_le20 _ (by decide)
  have d2 : (Lib.decDigits rN.v.length).length ≤ 20 := by rw [Lib.decDigits_length]; exact Lib.nDigits_le20 _ (by decide)
  have e1 : rN.k.length = 3 := rfl
  have e2 : rN.v.length = 62 := rfl
  have e3 : rN.g = false := rfl
  simp only [rtext, rt, List.length_append, List.length_cons, List.length_nil, e3, Bool.false_eq_true, if_false]
  omega
theorem more_small {rs : List Rr} (h4 : rs.length ≤ 4) (h : ∀ r ∈ rs, Good r) : (rtext (rs ++ [rN])).length ≤ 502 := by
  have h1 := rtext_small h
  have h2 := rN_small
  rw [rtext_app, List.length_append]
  omega
theorem more_ok {rs : List Rr} (h : ∀ r ∈ rs, Good r) : ∀ r ∈ rs ++ [rN], r.Ok := fun r hr => by
  rcases List.mem_append.1 hr with h1 | h1
  · exact (h r h1).ok
  · rw [List.mem_singleton.1 h1]; exact rN_ok
theorem vs_turns {st : List Rr} (hs : Srt st) {M : Nat} (h : ∀ r ∈ st, r.v.length ≤ M) {rs : List Rr} (hok : ∀ r ∈ rs, r.Ok) (h2 : ∀ r ∈ rs, r.v.length ≤ M) : ∀ r ∈ turns st rs, r.v.length ≤ M := by
  induction rs generalizing st with
  | nil => exact h
  | cons a rs ih =>
    refine ih (hs.turn (hok a (by simp))) (fun r hr => ?_) (fun r hr => hok r (by simp [hr])) (fun r hr => h2 r (by simp [hr]))
    rcases (mem_turn hs a r).1 hr with ⟨h3, _⟩ | ⟨_, rfl⟩
    · exact h r h3
    · exact h2 _ (by simp)
section
variable {w0 W : World} {G B cap jg sg : Nat} {d : Dk} {v x y : Value} {ts : List (List UInt8)} {st rs : List Rr}
/-- A commit on a disk that is armed: it goes, or it is torn. -/
theorem so_last (h : SO w0 W G B cap jg sg d v x ts st false) (ho : Holds d.ss ts) (hrp : replay ts = st) (hP : Pow w0) (hst : Srt st) (hsl : st.length ≤ 90000000000) (hL : (rtext rs).length ≤ 1000000000000) (hok : ∀ r ∈ rs, r.Ok) (hy : IsR W y rs) (hd : d.down = false) (ha : d.armed = true) (hl : (flat ts).length + (pieces (rtext rs)).length ≤ d.ss.length) :
    Calls Tryd.prog 9 #[.pointer (some ⟨sg, 0, none⟩), y] W fun r W' => ∃ c : Int, r = .returned (.int .i64 c) ∧ ∃ d' v' x' tJ ts' stS t', SO w0 W' G B cap jg sg d' v' x' tJ stS t' ∧ Holds d'.ss ts' ∧ But (SB G B jg v sg x) W W' ∧
      ((c = 0 ∧ replay ts' = turns st rs ∧ stS = turns st rs) ∨ (c = 9 ∧ stS = st ∧ (replay ts' = turns st rs ∨ replay ts' = st))) := by
  have hr2 : replay (ts ++ [rtext rs]) = turns st rs := by rw [replay_snoc, hrp, doT_rows _ hok]
  by_cases hlt : d.left < (pieces (rtext rs)).length
  · refine (so_tear h ho hP hL hok hy _ rfl hd hl ha hlt).mono fun r W' ⟨h1, d', h2, h3, h4, h5, h6⟩ => ⟨9, h1, d', v, x, ts, _, st, true, h2, h3, h6, .inr ⟨rfl, rfl, ?_⟩⟩
    split
    · exact .inl hr2
    · exact .inr hrp
  · exact (so_commit h ho hP hst hsl hL hok hy _ rfl hd hl (fun _ => by omega)).mono fun r W' ⟨h1, d', v', x', h2, h3, h4, h5, h6, _, _⟩ => ⟨0, h1, d', v', x', _, _, _, false, h2, h3, h6, .inl ⟨rfl, hr2, rfl⟩⟩
theorem Holds.dn {d : Dk} {ts : List (List UInt8)} (h : Holds d.ss ts) (b : Bool) : Holds ({ d with down := b } : Dk).ss ts := h
end
theorem app_new {base : Nat} {x : Value} {D : List Rr} {w : World} (h : OwnR w base x D) (hbase : base ≤ w.heap.size) (hl : D.length ≤ 1099511627776) :
    ∃ g m c w', (∀ ty, (Builtin.append_ #[38, 38] ty #[x, .slice (some ⟨w.heap.size, 0, none⟩) 1 1]).run Tryd.prog (w.alloc (.cells #[.string ⟨#[110, 101, 119]⟩, .string ⟨#[97, 32, 118, 97, 108, 117, 101, 32, 111, 102, 32, 116, 104, 101, 32, 108, 97, 115, 116, 32, 99, 111, 109, 109, 105, 116, 44, 32, 116, 104, 97, 116, 32, 109, 97, 107, 101, 115, 32, 105, 116, 32, 108, 111, 110, 103, 101, 114, 32, 116, 104, 97, 110, 32, 97, 32, 115, 101, 99, 116, 111, 114]⟩, .bool false] 29)) = .ok (.slice (some ⟨g, 0, none⟩) m c) w') ∧
      OwnR w' base (.slice (some ⟨g, 0, none⟩) m c) (D ++ [rN]) ∧ But (fun k => x.ownBlock = some k) w w' := by
  obtain ⟨y, w', h1, ⟨g, m, c, rfl⟩, h3, h4, _⟩ := app_row rN w h hbase hl
  exact ⟨g, m, c, w', h1, h3, h4⟩
set_option maxHeartbeats 1000000 in
theorem copy_any (w : World) (g b cap : Nat) (d : Dk) (h : DkAt w g b cap d) :
    Calls Tryd.prog 19 #[.pointer (some ⟨g, 0, none⟩)] w fun e w' =>
      ∃ g' b' cp, e = .returned (.pointer (some ⟨g', 0, none⟩)) ∧ w.heap.size ≤ g' ∧ w.heap.size ≤ b' ∧ DkAt w' g' b' cp d ∧ Below w.heap.size w w' := by
  have c0 := h.head.at 0
  have c1 := h.head.at 1
  have c2 := h.head.at 2
  have c3 := h.head.at 3
  have c4 := h.head.at 4
  go_enter Tryd.func19, Tryd.ntmps19
  go_upto_region 2 with fail
  have hA := h.next ((Below.refl _ w).alloc (Nat.le_refl _) (.cells #[.slice (some ⟨b, 0, none⟩) d.ss.length cap, .bool d.down, .bool d.armed, .int .i64 (d.left : Int), .int .i64 (d.keep : Int)] 60))
  have hb := (Below.refl w.heap.size w).alloc (Nat.le_refl _) (.cells #[.slice (some ⟨b, 0, none⟩) d.ss.length cap, .bool d.down, .bool d.armed, .int .i64 (d.left : Int), .int .i64 (d.keep : Int)] 60)
  have hN := Rw.fresh w 60 #[.slice (some ⟨b, 0, none⟩) d.ss.length cap, .bool d.down, .bool d.armed, .int .i64 (d.left : Int), .int .i64 (d.keep : Int)]
  generalize w.alloc (.cells #[.slice (some ⟨b, 0, none⟩) d.ss.length cap, .bool d.down, .bool d.armed, .int .i64 (d.left : Int), .int .i64 (d.keep : Int)] 60) = w1 at hA hb hN ⊢
  have e0 := hA.head.at 0
  have q := clone_any w1 b cap d.ss h.ok.n1 h.ok.n2 hA.secs
  have hNl := hN.size
  clear c0 c1 c2 c3 c4
  go_wp2_with (go_at_call 37; (with_reducible refine q.mono ?_); rintro e w2 ⟨g', cp, rfl, hg', hcp, hS2, hb2⟩; have hN2 := hN.below hb2 hNl; have n0 := hN2.at 0; have f0 := hN2.free 0)
  go_ret
  refine ⟨w.heap.size, g', cp, rfl, Nat.le_refl _, by omega, ⟨hN2.put 0 _, hS2.same (heap_setCell_other w2 _ g' _ (by simp; omega)), by omega, h.ok, hcp⟩, (hb.trans (hb2.mono (by omega))).setCell (p := ⟨w.heap.size, 0, none⟩) (Nat.le_refl _) _⟩
end Go.Proofs.YtlofjfeimhjdlaaDoor
