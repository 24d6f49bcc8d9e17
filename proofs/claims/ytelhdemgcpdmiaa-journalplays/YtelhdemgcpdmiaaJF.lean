/- A JOURNAL ON ITS DISK, in good order: Open, Commit as they change it; the walk of JournalRuns. -/
import Derived.Test.YtelhdemgcpdmiaaJE
namespace Go.Proofs.Ytelhdemgcpdmiaa
open Go.RowKit

theorem own_mono {w : World} {base base' sz n : Nat} {e : TypeId} {v : Value} {xs : List Value} (h : w.ownsRow base e sz v n xs) (hb : base' ≤ base) : w.ownsRow base' e sz v n xs := by
  refine ⟨h.1, ?_⟩
  rcases h.2 with h0 | ⟨g, cap, cur, a1, a2, a3⟩
  · exact .inl h0
  · exact .inr ⟨g, cap, cur, a1, Nat.le_trans hb a2, a3⟩
theorem JnAt.base {w : World} {base base' jg G e : Nat} {v : Value} {ts : List (List UInt8)} {t : Bool} (h : JnAt w base jg G v ts e t) (hb : base' ≤ base) : JnAt w base' jg G v ts e t := ⟨h.head, own_mono h.row hb⟩
/-- The blocks of a journal and its disk. -/
def JB (G B jg : Nat) (v : Value) (k : Nat) : Prop := (k = G ∨ k = B) ∨ JS jg v k
/-- The disk d and the journal on it, whose transactions are ts; what was there ahead of w0's end lies as it lay. -/
structure JO (w0 W : World) (G B cap jg : Nat) (d : Dk) (v : Value) (ts : List (List UInt8)) (t : Bool) : Prop where
  dk : DkAt W G B cap d
  jn : JnAt W w0.heap.size jg G v ts (flat ts).length t
  bel : Below w0.heap.size w0 W
  g1 : w0.heap.size ≤ G
  g2 : w0.heap.size ≤ B
  g3 : w0.heap.size ≤ jg
section
variable {w0 W W' : World} {G B cap jg : Nat} {d : Dk} {v : Value} {ts : List (List UInt8)} {t : Bool}
theorem JO.ge (h : JO w0 W G B cap jg d v ts t) : ∀ k, JB G B jg v k → w0.heap.size ≤ k := fun k hk => by
  rcases hk with (rfl | rfl) | rfl | hk
  · exact h.g1
  · exact h.g2
  · exact h.g3
  · exact (h.jn.row.lt k hk).1
theorem JO.but {S : Nat → Prop} (h : JO w0 W G B cap jg d v ts t) (hb : But S W W') (hn : ∀ k, JB G B jg v k → ¬ S k) (hs : ∀ k, S k → w0.heap.size ≤ k) : JO w0 W' G B cap jg d v ts t :=
  ⟨h.dk.butS hb (hn _ (.inl (.inl rfl))) (hn _ (.inl (.inr rfl))), h.jn.butS hb (hn _ (.inr (.inl rfl))) (fun _ hk => hn _ (.inr (.inr hk))), h.bel.trans (hb.below h.bel.size hs), h.g1, h.g2, h.g3⟩
theorem JO.next (h : JO w0 W G B cap jg d v ts t) (hb : Below W.heap.size W W') : JO w0 W' G B cap jg d v ts t := ⟨h.dk.next hb, h.jn.next hb, h.bel.trans (hb.mono h.bel.size), h.g1, h.g2, h.g3⟩
/-- The disk alone is turned. -/
theorem JO.disk (h : JO w0 W G B cap jg d v ts t) {d' : Dk} (hd : DkAt W' G B cap d') (hb : But2 G B W W') : JO w0 W' G B cap jg d' v ts t := by
  have hap := h.jn.apartD h.dk
  have hB : But (fun k => k = G ∨ k = B) W W' := But.of_but2 hb (.inl rfl) (.inr rfl)
  exact ⟨hd, h.jn.butS hB (fun e => by rcases e with e | e; exact hap.1 (.inl e.symm); exact hap.2 (.inl e.symm)) (fun k hk e => by rcases e with rfl | rfl; exact hap.1 (.inr hk); exact hap.2 (.inr hk)), h.bel.trans (hB.below h.bel.size (fun _ hk => by rcases hk with rfl | rfl; exact h.g1; exact h.g2)), h.g1, h.g2, h.g3⟩
theorem jo_open (hd : DkAt W G B cap d) (ho : Holds d.ss ts) (hb : Below w0.heap.size w0 W) (g1 : w0.heap.size ≤ G) (g2 : w0.heap.size ≤ B) :
    Calls Try.prog 10 #[.pointer (some ⟨G, 0, none⟩)] W fun e W' => ∃ jg v, e = .returned (.pointer (some ⟨jg, 0, none⟩)) ∧ JO w0 W' G B cap jg d v ts false ∧ Below W.heap.size W W' ∧ W.heap.size ≤ jg ∧ (∀ k, v.ownBlock = some k → W.heap.size ≤ k) :=
  (open_any G B cap d W hd).mono fun e W' ⟨jg, v, h1, h2, h3, h4⟩ => by
    rw [ho.scan_eq] at h3
    exact ⟨jg, v, h1, ⟨hd.next h4, h3.base hb.size, hb.trans (h4.mono hb.size), g1, g2, Nat.le_trans hb.size h2⟩, h4, h2, fun k hk => (h3.row.lt k hk).1⟩
theorem jo_commit (h : JO w0 W G B cap jg d v ts false) (ho : Holds d.ss ts) (s : ByteArray) (n : Nat) (hn : n = (pieces s.data.toList).length) (hs : s.size ≤ 1099511627776) (hts : ts.length ≤ 1099511627776) (hd : d.down = false) (hl : (flat ts).length + n ≤ d.ss.length) (ha : d.armed = true → n ≤ d.left) :
    Calls Try.prog 11 #[.pointer (some ⟨jg, 0, none⟩), .string s] W fun r W' => r = .returned (.int .i64 0) ∧ ∃ d' v', JO w0 W' G B cap jg d' v' (ts ++ [s.data.toList]) false ∧ Holds d'.ss (ts ++ [s.data.toList]) ∧
      d' = { d with ss := d'.ss, left := if d.armed = true then d.left - n else d.left } ∧ d'.ss.length = d.ss.length ∧ But (JB G B jg v) W W' ∧ Gone W v v' := by
  refine (commit_go W w0.heap.size jg G B cap d v ts (flat ts).length s n hn hs h.bel.size hts h.dk h.jn hl).mono fun r W' ⟨h1, h2, h3⟩ => ?_
  subst hn
  obtain ⟨a1, a2, a3, a4⟩ := ho.commit s.data.toList hd hl ha
  rcases h3 with ⟨b1, rfl, v', b2, b3⟩ | ⟨b1, _⟩
  · refine ⟨rfl, _, v', ⟨h1, ?_, h.bel.trans (h2.below h.bel.size h.ge), h.g1, h.g2, h.g3⟩, a2, a4, a3, h2, b3⟩
    rw [flat_snoc, List.length_append]
    exact b2
  · rw [a1] at b1; cases b1
theorem jo_tear (h : JO w0 W G B cap jg d v ts false) (ho : Holds d.ss ts) (s : ByteArray) (n : Nat) (hn : n = (pieces s.data.toList).length) (hs : s.size ≤ 1099511627776) (hts : ts.length ≤ 1099511627776) (hd : d.down = false) (hl : (flat ts).length + n ≤ d.ss.length) (ha : d.armed = true) (hlt : d.left < n) :
    Calls Try.prog 11 #[.pointer (some ⟨jg, 0, none⟩), .string s] W fun r W' => r = .returned (.int .i64 9) ∧ ∃ d', JO w0 W' G B cap jg d' v ts true ∧ Holds d'.ss (if d.left + 1 = n ∧ d.keep = 32 then ts ++ [s.data.toList] else ts) ∧
      d' = { d with ss := d'.ss, left := 0, down := true, armed := false } ∧ d'.ss.length = d.ss.length ∧ But (JB G B jg v) W W' := by
  refine (commit_go W w0.heap.size jg G B cap d v ts (flat ts).length s n hn hs h.bel.size hts h.dk h.jn hl).mono fun r W' ⟨h1, h2, h3⟩ => ?_
  subst hn
  obtain ⟨a1, a2, a3, a4⟩ := ho.tear h.dk.ok s.data.toList hd hl ha hlt
  rcases h3 with ⟨b1, _⟩ | ⟨b1, rfl, b2⟩
  · rw [a1] at b1; cases b1
  · exact ⟨rfl, _, ⟨h1, b2, h.bel.trans (h2.below h.bel.size h.ge), h.g1, h.g2, h.g3⟩, a2, a4, a3, h2⟩
end
def helloB : ByteArray := ⟨#[104, 101, 108, 108, 111]⟩
def againB : ByteArray := ⟨#[97, 103, 97, 105, 110]⟩
theorem short_len {s : ByteArray} (h : s.size ≤ 30) : 1 = (pieces s.data.toList).length := by rw [pieces_short (by rw [Array.length_toList]; exact h)]; rfl
theorem flat_one {s : ByteArray} (h : s.size ≤ 30) : (flat [s.data.toList]).length = 1 := by
  have e : flat [s.data.toList] = pieces s.data.toList := by simp [flat]
  rw [e, ← short_len h]
theorem pieces_one (s : ByteArray) (hs : s.size ≤ 30) (v : World) :
    Calls Try.prog 16 #[.string s] v fun e w' => ∃ g cap, e = .returned (.slice (some ⟨g, 0, none⟩) 1 cap) ∧ Below v.heap.size v w' :=
  (pieces_any s (by omega) v).mono fun e w' ⟨g, cap, h1, _, _, h4⟩ => ⟨g, cap, by rw [h1, ← short_len hs], h4⟩
def hl : List UInt8 := [104, 101, 108, 108, 111]
section
variable {w W : World} {G B jg : Nat} {d : Dk} {v : Value}
theorem c_hello (h : JO w W G B 9 jg (newDk 9) v [] false) :
    Calls Try.prog 11 #[.pointer (some ⟨jg, 0, none⟩), .string ⟨#[104, 101, 108, 108, 111]⟩] W fun r W' => r = .returned (.int .i64 0) ∧ ∃ d' v', JO w W' G B 9 jg d' v' [hl] false ∧ Holds d'.ss [hl] ∧ d'.down = false ∧ d'.ss.length = 9 :=
  (jo_commit h (Holds.new 9) helloB 1 (short_len (by decide)) (by decide) (by simp) rfl (by simp [flat, newDk]) (fun h => by cases h)).mono fun r W' ⟨h1, d', v', h2, h3, h4, h5, _⟩ =>
    ⟨h1, d', v', h2, h3, by rw [h4]; rfl, by rw [h5]; simp [newDk]⟩
theorem c_again (h : JO w W G B 9 jg { d with armed := true, left := 0, keep := 31 } v [hl] false) (ho : Holds d.ss [hl]) (hd : d.down = false) (hn : d.ss.length = 9) :
    Calls Try.prog 11 #[.pointer (some ⟨jg, 0, none⟩), .string ⟨#[97, 103, 97, 105, 110]⟩] W fun r W' => r = .returned (.int .i64 9) ∧ ∃ d', JO w W' G B 9 jg d' v [hl] true ∧ Holds d'.ss [hl] := by
  have hf : (flat [hl]).length = 1 := flat_one (s := helloB) (by decide)
  refine (jo_tear h ho againB 1 (short_len (by decide)) (by decide) (by simp) hd (by rw [hf]; show 1 + 1 ≤ d.ss.length; omega) rfl (by show 0 < 1; omega)).mono fun r W' ⟨h1, d', h2, h3, _⟩ => ⟨h1, d', h2, ?_⟩
  rw [if_neg (by rintro ⟨_, h⟩; cases h)] at h3
  exact h3
theorem l_one {t : Bool} {cap : Nat} (h : JO w W G B cap jg d v [hl] t) : Calls Try.prog 14 #[.pointer (some ⟨jg, 0, none⟩)] W fun r w' => r = .returned (.int .i64 1) ∧ W = w' := len_any W _ jg G v _ _ _ h.jn
theorem e_one {t : Bool} {cap : Nat} (h : JO w W G B cap jg d v [hl] t) : Calls Try.prog 15 #[.pointer (some ⟨jg, 0, none⟩)] W fun r w' => r = .returned (.int .i64 1) ∧ W = w' := by
  have hf : (flat [hl]).length = 1 := flat_one (s := helloB) (by decide)
  have := end_any W _ jg G v _ _ _ h.jn
  rw [hf] at this
  exact this
end
set_option maxRecDepth 100000 in
set_option maxHeartbeats 1000000 in
theorem jruns_any (w : World) : Calls Try.prog 3 #[] w fun e w' => e = .returned (.bool true) ∧ Below w.heap.size w w' := by
  have p0 := new_any 9 9 rfl w
  have q1 : ∀ W, Calls Try.prog 16 #[.string ⟨#[104, 101, 108, 108, 111]⟩] W fun e w' => ∃ g cap, e = .returned (.slice (some ⟨g, 0, none⟩) 1 cap) ∧ Below W.heap.size W w' := fun W => pieces_one helloB (by decide) W
  have q2 : ∀ W, Calls Try.prog 16 #[.string ⟨#[]⟩] W fun e w' => ∃ g cap, e = .returned (.slice (some ⟨g, 0, none⟩) 1 cap) ∧ Below W.heap.size W w' := fun W => pieces_one ⟨#[]⟩ (by decide) W
  obtain ⟨G, hG⟩ : ∃ G, w.heap.size + 1 = G := ⟨_, rfl⟩
  obtain ⟨B, hB⟩ : ∃ B, w.heap.size = B := ⟨_, rfl⟩
  rw [hG] at p0
  have g1 : w.heap.size ≤ G := by omega
  have g2 : w.heap.size ≤ B := by omega
  have p0' : Calls Try.prog 9 #[.int .i64 9] w fun e w' => e = .returned (.pointer (some ⟨G, 0, none⟩)) ∧ DkAt w' G B 9 (newDk 9) ∧ Below w.heap.size w w' := by rw [← hB]; exact p0
  have hnew : Holds (newDk 9).ss [] := Holds.new 9
  clear p0 hG hB
  go_enter Try.func3, Try.ntmps3
  go_upto_region 5 with (first
    | (go_at_call 9; (with_reducible refine p0'.mono ?_); rintro e w1 ⟨rfl, hA0, hb0⟩)
    | (go_at_call 10; (with_reducible refine (jo_open hA0 hnew hb0 g1 g2).mono ?_); rintro e w2 ⟨jg, v, rfl, hJ0, _, _, _⟩))
  clear hA0 hb0 p0' hnew
  go_upto_region 6 with (go_at_call 11; (with_reducible refine (c_hello hJ0).mono ?_); rintro e w3 ⟨rfl, d1, v1, hJ1, ho1, hd1, hn1⟩)
  clear hJ0
  have pA := arm_any w3 G B 9 d1 0 31 0 31 rfl rfl (by omega) hJ1.dk
  go_upto_region 7 with (go_at_call 12; (with_reducible refine pA.mono ?_); rintro e w4 ⟨rfl, hA4, hb4⟩)
  have hJ4 := hJ1.disk hA4 hb4
  clear pA hJ1 hA4 hb4
  go_upto_region 8 with (go_at_call 11; (with_reducible refine (c_again hJ4 ho1 hd1 hn1).mono ?_); rintro e w5 ⟨rfl, d5, hJ5, ho5⟩)
  clear hJ4 ho1 hd1 hn1
  have pR := revive_any w5 G B 9 d5 hJ5.dk
  go_upto_region 9 with (go_at_call 13; (with_reducible refine pR.mono ?_); rintro e w6 ⟨rfl, hA6, hb6⟩)
  have hJ6 := hJ5.disk hA6 hb6
  clear pR hJ5 hA6 hb6
  have pO := jo_open hJ6.dk ho5 hJ6.bel g1 g2
  go_upto_region 10 with (go_at_call 10; (with_reducible refine pO.mono ?_); rintro e w7 ⟨jo, vo, rfl, hJ7, _, _, _⟩)
  have pl := l_one hJ7
  have pe := e_one hJ7
  have hb7 := hJ7.bel
  clear hJ6 hJ7 pO
  go_wp2_with (first
    | (go_at_call 14; (with_reducible refine pl.mono ?_); rintro e v ⟨rfl, hv⟩; subst hv)
    | (go_at_call 15; (with_reducible refine pe.mono ?_); rintro e v ⟨rfl, hv⟩; subst hv)
    | (go_at_call 16; (with_reducible refine (q1 _).mono ?_); rintro e w8 ⟨g8, c8, rfl, hb8⟩)
    | (go_at_call 16; (with_reducible refine (q2 _).mono ?_); rintro e w9 ⟨g9, c9, rfl, hb9⟩))
  go_ret
  exact ⟨rfl, (hb7.trans (hb8.mono hb7.size)).trans (hb9.mono (Nat.le_trans hb7.size hb8.size))⟩
end Go.Proofs.Ytelhdemgcpdmiaa
