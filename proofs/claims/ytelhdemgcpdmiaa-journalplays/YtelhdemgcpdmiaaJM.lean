/- WHAT THE WALKS OF JournalMany, JournalTorn, JournalPlays SHARE: asks that came in, the row of texts that is wanted, a range over j.All(). -/
import Derived.Test.YtelhdemgcpdmiaaJG
import Derived.Test.YtelhdemgcpdmiaaJDn
namespace Go.Proofs.Ytelhdemgcpdmiaa
open Go.RowKit Go.Shelf
attribute [local go_sem] Oper.semAt_some

/-- The asks that came in: each four numbers and a byte. -/
def IsAsks (w : World) (a : Option Addr) (len : Nat) : Prop :=
  ∀ i, i < len → ∃ (x : Addr) (K N P Z : Int) (c : UInt8), a = some x ∧ x.block < w.heap.size ∧ w.cell? (x.add (i * 5)) = some (.int .i64 K) ∧ w.cell? ⟨(x.add (i * 5)).block, (x.add (i * 5)).off + 1, none⟩ = some (.int .i64 N) ∧ w.cell? ⟨(x.add (i * 5)).block, (x.add (i * 5)).off + 2, none⟩ = some (.int .i64 P) ∧ w.cell? ⟨(x.add (i * 5)).block, (x.add (i * 5)).off + 3, none⟩ = some (.int .i64 Z) ∧ w.cell? ⟨(x.add (i * 5)).block, (x.add (i * 5)).off + 4, none⟩ = some (.int .u8 (c.toNat : Int))
theorem blk_add (x : Addr) (i : Nat) : (x.add i).block = x.block := by unfold Addr.add; split <;> rfl
/-- An ask in a later world. -/
theorem ask_at {w W : World} {a : Option Addr} {len : Nat} (h : IsAsks w a len) (hb : Below w.heap.size w W) (i : Nat) (hi : i < len) :
    ∃ (x : Addr) (K N P Z : Int) (c : UInt8), a = some x ∧ x.block < W.heap.size ∧ W.cell? (x.add (i * 5)) = some (.int .i64 K) ∧ W.cell? ⟨(x.add (i * 5)).block, (x.add (i * 5)).off + 1, none⟩ = some (.int .i64 N) ∧ W.cell? ⟨(x.add (i * 5)).block, (x.add (i * 5)).off + 2, none⟩ = some (.int .i64 P) ∧ W.cell? ⟨(x.add (i * 5)).block, (x.add (i * 5)).off + 3, none⟩ = some (.int .i64 Z) ∧ W.cell? ⟨(x.add (i * 5)).block, (x.add (i * 5)).off + 4, none⟩ = some (.int .u8 (c.toNat : Int)) := by
  obtain ⟨x, K, N, P, Z, c, rfl, hxb, e0, e1, e2, e3, e4⟩ := h i hi
  have hblk : (x.add (i * 5)).block < w.heap.size := by rw [blk_add]; exact hxb
  exact ⟨x, K, N, P, Z, c, rfl, Nat.lt_of_lt_of_le hxb hb.size, (hb.cell (p := x.add (i * 5)) hblk).trans e0, (hb.cell (p := ⟨(x.add (i * 5)).block, (x.add (i * 5)).off + 1, none⟩) hblk).trans e1, (hb.cell (p := ⟨(x.add (i * 5)).block, (x.add (i * 5)).off + 2, none⟩) hblk).trans e2, (hb.cell (p := ⟨(x.add (i * 5)).block, (x.add (i * 5)).off + 3, none⟩) hblk).trans e3, (hb.cell (p := ⟨(x.add (i * 5)).block, (x.add (i * 5)).off + 4, none⟩) hblk).trans e4⟩
/-- The range over a function, the round's frame said by what is put into the frame ahead of it. -/
theorem wpIn_rangeFunc_upd {F : Fence} {n : Nat} {P : Program} {α : Type} {g : Operand} {ps : Array Tmp} {assign body : Code} {Q : Exit → Act → World → Prop} {a : Act} {w : World}
    (hro : F.round = none) (h1 : 1 ≤ n) {gf : Nat} {lb : Array Value} (hg : a.eval g = .func (.func gf) #[] lb) (hFg : F.fn gf) (eg : ∀ args w, (callFunc gf args).run P w = .ok (.enter gf args) w)
    {encs : α → Array Value} {Kp : World → World → Prop} {S Sp : List α → Prop} {N : Nat} {w0 : World} (hseq : SeqStopsK F (n - 1) P gf lb encs Kp S Sp N w0)
    (hKt : ∀ {A B C : World}, Kp A B → Kp B C → Kp A C) (hKb : ∀ (W : World) (l : Nat) (o o' : Obj), w.heap.size ≤ l → W.heap[l]? = some o → o.isCells = false → o.isWalk = false → Kp W (W.putObj l o')) (hb0 : Below w0.heap.size w0 w) (hps : ∀ x, (encs x).size = ps.size)
    (I : List α → World → Prop) (Ix : Code → List α → World → Prop) (hI : OwnFrom w.heap.size I) (hIx : ∀ c, OwnFrom w.heap.size (Ix c)) (h0 : I [] w) (upd : α → Array Value → Array Value)
    (hassign : ∀ (l : Nat) (x : α) (W : World) (K : Act → World → Prop), K { tmps := upd x a.tmps, defers := [] } W →
      assign.wpIn (F.inRound l) (n - 1 - 1) P (Exit.then K (fun _ _ _ => False)) { tmps := (ps.zip (encs x)).foldl (fun t (p, v) => t.setIfInBounds p v) a.tmps, defers := [] } W)
    (hbody : ∀ (l : Nat) (pre : List α) (x : α) (W : World), I pre W → pre.length < N → body.wpIn (F.inRound l) (n - 1 - 1) P (ownPostG w.heap.size Kp I Ix (pre ++ [x]) W) { tmps := upd x a.tmps, defers := [] } W)
    (hdone : ∀ (D : Nat) (xs : List α) (W : World), w.heap.size ≤ D → S xs → I xs W → W.heap[D]? = some (.deferred (some [])) → Q .normal { a with defers := { target := .collected D, args := #[] } :: a.defers } W)
    (hstop : ∀ (D : Nat) (c : Code) (pre : List α) (W : World), w.heap.size ≤ D → Sp pre → Ix c pre W → W.heap[D]? = some (.deferred (some [])) → c.wpIn F n P Q { a with defers := { target := .collected D, args := #[] } :: a.defers } W) :
    (Code.rangeFunc g ps assign body).wpIn F n P Q a w :=
  wpIn_rangeFunc_ownG hro h1 hg hFg eg hseq hKt hKb hb0 hps I Ix hI hIx h0 (fun x => { tmps := upd x a.tmps, defers := [] }) hassign hbody hdone hstop
/-- A row of texts of one's own is nil or lies somewhere. -/
theorem own_shape {w : World} {base n : Nat} {x : Value} {xs : List Value} (h : w.ownsRow base 9 1 x n xs) : (x = .slice none 0 0 ∧ n = 0) ∨ ∃ g cap, x = .slice (some ⟨g, 0, none⟩) n cap := by
  rcases h.2 with h0 | ⟨g, cap, cur, a1, _⟩
  · exact .inl h0
  · exact .inr ⟨g, cap, a1⟩
/-- A journal, and the row of the texts that are wanted of it, in its box. -/
structure MI (w W : World) (Rb Wb G B k jg : Nat) (d : Dk) (v wv : Value) (ts us : List (List UInt8)) : Prop where
  jo : JO w W G B k jg d v ts false
  ho : Holds d.ss ts
  dn : d.down = false
  ar : d.armed = false
  n : d.ss.length = k
  rb : Rw W Rb 4 #[.bool false]
  wb : Rw W Wb 30 #[wv]
  own : W.ownsRow w.heap.size 9 1 wv us.length (us.map str)
  ap : ∀ q, wv.ownBlock = some q → v.ownBlock ≠ some q
  g1 : w.heap.size ≤ Rb
  g2 : w.heap.size ≤ Wb
section
variable {w W W' : World} {Rb Wb G B k jg : Nat} {d d' : Dk} {v v' wv : Value} {ts ts' us : List (List UInt8)}
theorem MI.next (h : MI w W Rb Wb G B k jg d v wv ts us) (hb : Below W.heap.size W W') : MI w W' Rb Wb G B k jg d v wv ts us :=
  ⟨h.jo.next hb, h.ho, h.dn, h.ar, h.n, h.rb.below hb h.rb.size, h.wb.below hb h.wb.size, own_next h.own hb, h.ap, h.g1, h.g2⟩
/-- No block of the journal or its disk is a box, or the wanted row's. -/
theorem jb_not {g : Nat} {t : TypeId} {cs : Array Value} (h : JO w W G B k jg d v ts false) (hr : Rw W g t cs) (h1 : t ≠ 59) (h2 : t ≠ 71) (h3 : t ≠ 61) (h4 : t ≠ 9) : ¬ JB G B jg v g := fun hk => by
  obtain ⟨cur, hc⟩ := h.dk.secs.rw
  rcases hk with (rfl | rfl) | rfl | hk
  · exact hr.ne h.dk.head h1 rfl
  · exact hr.ne hc h2 rfl
  · exact hr.ne h.jn.head h3 rfl
  · exact own_ne h.jn.row hr h4 _ hk rfl
/-- The wanted row is none of them either. -/
theorem MI.wnot (h : MI w W Rb Wb G B k jg d v wv ts us) (q : Nat) (hq : wv.ownBlock = some q) : ¬ JB G B jg v q := fun hk => by
  obtain ⟨cur, hc⟩ := h.jo.dk.secs.rw
  rcases hk with (rfl | rfl) | rfl | hk
  · exact own_ne h.own h.jo.dk.head (by decide) _ hq rfl
  · exact own_ne h.own hc (by decide) _ hq rfl
  · exact own_ne h.own h.jo.jn.head (by decide) _ hq rfl
  · exact h.ap q hq hk
/-- A commit that goes. -/
theorem MI.commit (h : MI w W Rb Wb G B k jg d v wv ts us) (hJ : JO w W' G B k jg d' v' ts' false) (ho : Holds d'.ss ts') {L : Nat} (hd : d' = { d with ss := d'.ss, left := L }) (hn : d'.ss.length = d.ss.length) (hb : But (JB G B jg v) W W') (hg : Gone W v v') :
    MI w W' Rb Wb G B k jg d' v' wv ts' us :=
  ⟨hJ, ho, by rw [hd]; exact h.dn, by rw [hd]; exact h.ar, hn.trans h.n, h.rb.butS hb (jb_not h.jo h.rb (by decide) (by decide) (by decide) (by decide)), h.wb.butS hb (jb_not h.jo h.wb (by decide) (by decide) (by decide) (by decide)), own_but h.own hb h.wnot, fun q hq => by
    rcases hg with e | e
    · rw [e]; exact h.ap q hq
    · intro e2
      have h1 := e q e2
      have h2 := (h.own.lt q hq).2
      omega, h.g1, h.g2⟩
theorem app_map (us : List (List UInt8)) (s : ByteArray) : (us ++ [s.data.toList]).map str = us.map str ++ [.string s] := by rw [List.map_append]; rfl
/-- A text is put behind those that are wanted. -/
theorem MI.app (h : MI w W Rb Wb G B k jg d v wv ts us) (s : ByteArray) {w' : World} {x : Value} (hown : w'.ownsRow w.heap.size 9 1 x (us.length + 1) (us.map str ++ [.string s])) (hgr : (W.alloc (.cells #[.string s] 9)).grownBy w' wv.ownBlock)
    (hat : x.ownBlock = wv.ownBlock ∨ x.ownBlock = some (W.alloc (.cells #[.string s] 9)).heap.size) :
    Rw w' Wb 30 #[wv] ∧ MI w (w'.setCell ⟨Wb, 0, none⟩ x) Rb Wb G B k jg d v x ts (us ++ [s.data.toList]) := by
  have hb1 : But (fun q => wv.ownBlock = some q) W w' := ((But.refl _ W).alloc _).trans (But.of_grown hgr (fun q hq => hq))
  have nb : ∀ {g : Nat} {t : TypeId} {cs : Array Value}, Rw W g t cs → t ≠ 9 → wv.ownBlock ≠ some g := fun {g t cs} hr ht hq => own_ne h.own hr ht _ hq rfl
  have hwb := h.wb.butS hb1 (nb h.wb (by decide))
  have hb2 : But (fun q => wv.ownBlock = some q ∨ q = Wb) W (w'.setCell ⟨Wb, 0, none⟩ x) := (hb1.mono (fun q _ hq => .inl hq)).setCell (p := ⟨Wb, 0, none⟩) (.inr rfl) x
  have hjb : ∀ q, JB G B jg v q → ¬ (wv.ownBlock = some q ∨ q = Wb) := fun q hq hS => by
    rcases hS with hS | rfl
    · exact h.wnot q hS hq
    · exact jb_not h.jo h.wb (by decide) (by decide) (by decide) (by decide) hq
  have hxw : ∀ q, x.ownBlock = some q → q ≠ Wb := fun q hq => own_ne hown hwb (by decide) q hq
  refine ⟨hwb, h.jo.but hb2 hjb (fun q hq => by rcases hq with hq | rfl; exact (h.own.lt q hq).1; exact h.g2), h.ho, h.dn, h.ar, h.n, h.rb.butS hb2 (fun hS => by rcases hS with hS | hS; exact nb h.rb (by decide) hS; exact h.rb.ne h.wb (by decide) hS), by simpa using hwb.put 0 x, ?_, fun q hq => ?_, h.g1, h.g2⟩
  · rw [app_map, List.length_append]
    exact own_but (S := fun q => q = Wb) hown ((But.refl (fun q => q = Wb) w').setCell (p := ⟨Wb, 0, none⟩) rfl x) hxw
  · rcases hat with e | e
    · rw [e] at hq; exact h.ap q hq
    · intro e2
      have h1 := (h.jo.jn.row.lt q e2).2
      rw [hq] at e
      cases e
      simp at h1
      omega
end
end Go.Proofs.Ytelhdemgcpdmiaa
