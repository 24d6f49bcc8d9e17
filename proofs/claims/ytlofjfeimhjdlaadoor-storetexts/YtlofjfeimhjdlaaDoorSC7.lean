/- store.Commit OF A STORE ON ITS DISK: it goes; there is no room; it is torn; the journal was torn before. -/
import Derived.Test.YtlofjfeimhjdlaaDoorCm8
namespace Go.Proofs.YtlofjfeimhjdlaaDoor
open Go.RowKit
set_option maxRecDepth 100000

theorem Gone.mono {W V : World} {x y : Value} (h : Gone V x y) (hs : W.heap.size ≤ V.heap.size) : Gone W x y := by
  rcases h with h | h
  · exact .inl h
  · exact .inr fun k hk => Nat.le_trans hs (h k hk)
section
variable {w0 W : World} {G B cap jg sg : Nat} {d : Dk} {v x y : Value} {ts : List (List UInt8)} {st rs : List Rr}
theorem so_commit (h : SO w0 W G B cap jg sg d v x ts st false) (ho : Holds d.ss ts) (hP : Pow w0) (hst : Srt st) (hsl : st.length ≤ 90000000000) (hL : (rtext rs).length ≤ 1000000000000) (hok : ∀ r ∈ rs, r.Ok) (hy : IsR W y rs) (n : Nat) (hn : n = (pieces (rtext rs)).length) (hd : d.down = false) (hl : (flat ts).length + n ≤ d.ss.length) (ha : d.armed = true → n ≤ d.left) :
    Calls Tryd.prog 9 #[.pointer (some ⟨sg, 0, none⟩), y] W fun r W' => r = .returned (.int .i64 0) ∧ ∃ d' v' x', SO w0 W' G B cap jg sg d' v' x' (ts ++ [rtext rs]) (turns st rs) false ∧ Holds d'.ss (ts ++ [rtext rs]) ∧
      d' = { d with ss := d'.ss, left := if d.armed = true then d.left - n else d.left } ∧ d'.ss.length = d.ss.length ∧ But (SB G B jg v sg x) W W' ∧ Gone W v v' ∧ Gone W x x' := by
  have hn2 := h.jo.dk.ok.n2
  have hts : ts.length ≤ 1099511627776 := by have := texts_le ts; have := ho.le; omega
  have hdo : doT st (rtext rs) = turns st rs := by unfold doT; rw [rread_rtext rs hok]
  have core := commit_core sg jg x y w0.heap.size st rs W (hP.on h.jo.bel) hL hok hy h.sn
    (fun V => ∃ d' v', SO w0 V G B cap jg sg d' v' x (ts ++ [rtext rs]) st false ∧ Holds d'.ss (ts ++ [rtext rs]) ∧ d' = { d with ss := d'.ss, left := if d.armed = true then d.left - n else d.left } ∧ d'.ss.length = d.ss.length ∧ But (SB G B jg v sg x) W V ∧ Gone W v v')
    (fun W' => ∃ d' v' x', SO w0 W' G B cap jg sg d' v' x' (ts ++ [rtext rs]) (turns st rs) false ∧ Holds d'.ss (ts ++ [rtext rs]) ∧ d' = { d with ss := d'.ss, left := if d.armed = true then d.left - n else d.left } ∧ d'.ss.length = d.ss.length ∧ But (SB G B jg v sg x) W W' ∧ Gone W v v' ∧ Gone W x x')
    (fun _ _ => False) ?_ ?_
  · exact core.mono fun r W' hr => by
      rcases hr with hr | ⟨c, _, hf⟩
      · exact hr
      · exact hf.elim
  · intro V hV
    have hSV := h.next hV
    refine (jo_commit hSV.jo ho (bA (rtext rs)) n hn (by show (rtext rs).length ≤ _; omega) hts hd hl ha).mono fun r V' ⟨h1, d', v', h2, h3, h4, h5, h6, h7⟩ => .inl ⟨h1, d', v', ⟨h2, h.sn.butS ((But.of_below _ hV).trans h6) ?_ ?_, h.g4⟩, h3, h4, h5, (But.of_below _ hV).trans (h6.mono fun k _ hk => .inl hk), h7.mono hV.size⟩
    · exact fun hk => hSV.js _ hk (.inl rfl)
    · exact fun k hk hS => hSV.js _ hS (.inr hk)
  · rintro V ⟨d', v', hS, h3, h4, h5, h6, h7⟩
    refine (do_any w0.heap.size sg jg x st (bA (rtext rs)) V hS.jo.bel.size (by show (rtext rs).length ≤ _; exact hL) hsl hst hS.sn).mono fun r W' ⟨a1, y', a2, a3, a4⟩ => ⟨a1, d', v', y', ⟨hS.jo.but a3 hS.js (fun k hk => hS.ge k (.inr hk)), by rw [← hdo]; exact a2, h.g4⟩, h3, h4, h5, h6.trans (a3.mono fun k _ hk => .inr hk), h7, a4.mono h6.size⟩
theorem so_full (h : SO w0 W G B cap jg sg d v x ts st false) (ho : Holds d.ss ts) (hP : Pow w0) (hL : (rtext rs).length ≤ 1000000000000) (hok : ∀ r ∈ rs, r.Ok) (hy : IsR W y rs) (hl : d.ss.length < (flat ts).length + (pieces (rtext rs)).length) :
    Calls Tryd.prog 9 #[.pointer (some ⟨sg, 0, none⟩), y] W fun r W' => r = .returned (.int .i64 6) ∧ SO w0 W' G B cap jg sg d v x ts st false ∧ Below W.heap.size W W' := by
  have core := commit_core sg jg x y w0.heap.size st rs W (hP.on h.jo.bel) hL hok hy h.sn (fun _ => False) (fun _ => False) (fun c V => c = 6 ∧ Below W.heap.size W V) ?_ ?_
  · exact core.mono fun r W' hr => by
      rcases hr with ⟨_, hf⟩ | ⟨c, h1, rfl, h2⟩
      · exact hf.elim
      · exact ⟨h1, h.next h2, h2⟩
  · intro V hV
    have hSV := h.next hV
    exact (commit_full V w0.heap.size jg G B cap d v ts (flat ts).length (bA (rtext rs)) (by show (rtext rs).length ≤ _; omega) ho.le hSV.jo.dk hSV.jo.jn hl).mono fun r V' ⟨h1, h2⟩ => .inr ⟨6, h1, by decide, rfl, bstep hV h2⟩
  · exact fun V hf => hf.elim
theorem so_tear (h : SO w0 W G B cap jg sg d v x ts st false) (ho : Holds d.ss ts) (hP : Pow w0) (hL : (rtext rs).length ≤ 1000000000000) (hok : ∀ r ∈ rs, r.Ok) (hy : IsR W y rs) (n : Nat) (hn : n = (pieces (rtext rs)).length) (hd : d.down = false) (hl : (flat ts).length + n ≤ d.ss.length) (ha : d.armed = true) (hlt : d.left < n) :
    Calls Tryd.prog 9 #[.pointer (some ⟨sg, 0, none⟩), y] W fun r W' => r = .returned (.int .i64 9) ∧ ∃ d', SO w0 W' G B cap jg sg d' v x ts st true ∧ Holds d'.ss (if d.left + 1 = n ∧ d.keep = 32 then ts ++ [rtext rs] else ts) ∧
      d' = { d with ss := d'.ss, left := 0, down := true, armed := false } ∧ d'.ss.length = d.ss.length ∧ But (SB G B jg v sg x) W W' := by
  have hn2 := h.jo.dk.ok.n2
  have hts : ts.length ≤ 1099511627776 := by have := texts_le ts; have := ho.le; omega
  have core := commit_core sg jg x y w0.heap.size st rs W (hP.on h.jo.bel) hL hok hy h.sn (fun _ => False) (fun _ => False)
    (fun c V => c = 9 ∧ ∃ d', SO w0 V G B cap jg sg d' v x ts st true ∧ Holds d'.ss (if d.left + 1 = n ∧ d.keep = 32 then ts ++ [rtext rs] else ts) ∧ d' = { d with ss := d'.ss, left := 0, down := true, armed := false } ∧ d'.ss.length = d.ss.length ∧ But (SB G B jg v sg x) W V) ?_ ?_
  · exact core.mono fun r W' hr => by
      rcases hr with ⟨_, hf⟩ | ⟨c, h1, rfl, h2⟩
      · exact hf.elim
      · exact ⟨h1, h2⟩
  · intro V hV
    have hSV := h.next hV
    refine (jo_tear hSV.jo ho (bA (rtext rs)) n hn (by show (rtext rs).length ≤ _; omega) hts hd hl ha hlt).mono fun r V' ⟨h1, d', h2, h3, h4, h5, h6⟩ => .inr ⟨9, h1, by decide, rfl, d', ⟨h2, h.sn.butS ((But.of_below _ hV).trans h6) ?_ ?_, h.g4⟩, h3, h4, h5, (But.of_below _ hV).trans (h6.mono fun k _ hk => .inl hk)⟩
    · exact fun hk => hSV.js _ hk (.inl rfl)
    · exact fun k hk hS => hSV.js _ hS (.inr hk)
  · exact fun V hf => hf.elim
/-- The disk alone is turned. -/
theorem SO.disk {W' : World} {t : Bool} (h : SO w0 W G B cap jg sg d v x ts st t) {d' : Dk} (hd : DkAt W' G B cap d') (hb : But2 G B W W') : SO w0 W' G B cap jg sg d' v x ts st t := by
  have hB : But (fun k => k = G ∨ k = B) W W' := But.of_but2 hb (.inl rfl) (.inr rfl)
  refine ⟨h.jo.disk hd hb, h.sn.butS hB (fun e => ?_) (fun k hk e => ?_), h.g4⟩
  · exact h.js sg (.inl e) (.inl rfl)
  · exact h.js k (.inl e) (.inr hk)
end
end Go.Proofs.YtlofjfeimhjdlaaDoor
