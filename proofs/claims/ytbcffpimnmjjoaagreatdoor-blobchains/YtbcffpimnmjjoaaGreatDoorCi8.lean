/- A STORE of texts that grow, with two rows of texts beside it: what a put and two appends keep. -/
import Derived.Test.YtbcffpimnmjjoaaGreatDoorCn8
import Derived.Test.YtbcffpimnmjjoaaGreatDoorCt8
namespace Go.Proofs.YtbcffpimnmjjoaaGreatDoor
open Go.RowKit Go.Shelf
set_option maxRecDepth 100000

def nmsG (c : UInt8) (j : Nat) : List (List UInt8) := (List.range j).map fun i => nmG c (i + 1)
def txsG (c : UInt8) (j : Nat) : List (List UInt8) := (List.range j).map fun i => Ha.grow c (i + 1)
theorem nmsG_len (c : UInt8) (j : Nat) : (nmsG c j).length = j := by simp [nmsG]
theorem txsG_len (c : UInt8) (j : Nat) : (txsG c j).length = j := by simp [txsG]
theorem nmsG_snoc (c : UInt8) (j : Nat) : nmsG c (j + 1) = nmsG c j ++ [nmG c (j + 1)] := by simp [nmsG, List.range_succ]
theorem txsG_snoc (c : UInt8) (j : Nat) : txsG c (j + 1) = txsG c j ++ [Ha.grow c (j + 1)] := by simp [txsG, List.range_succ]
theorem blk_of {W : World} {base : Nat} {v : Value} {ds : List (List UInt8)} (h : OwnT W base v ds) {k : Nat} (hk : v.ownBlock = some k) : base ≤ k ∧ k < W.heap.size := by
  rcases h.2 with ⟨h0, _⟩ | ⟨g, cap, cur, a1, a2, a3, _⟩
  · rw [h0] at hk; cases hk
  · rw [a1] at hk; cases hk; exact ⟨a2, Rw.size a3⟩
structure CI (w wr : World) (sg : Nat) (c : UInt8) (j : Nat) (nv tv : Value) (st : List Rr) (used : Nat) (S : Nat → Prop) : Prop where
  bs : BS w wr 1500 sg st used S
  us : used ≤ 6 * j
  ok : RdOk st
  sl : st.length ≤ j
  bl : Bl st (fN c j)
  dp : 1 ≤ j → depth st (nmG c j) = (((j - 1) % 4 : Nat) : Int)
  nr : OwnT wr w.heap.size nv (nmsG c j)
  tr : OwnT wr w.heap.size tv (txsG c j)
  ns : ∀ g, nv.ownBlock = some g → ¬ S g
  ts : ∀ g, tv.ownBlock = some g → ¬ S g
  nt : ∀ g, nv.ownBlock = some g → tv.ownBlock ≠ some g
section
variable {w wr W : World} {sg : Nat} {c : UInt8} {j : Nat} {nv tv nv' tv' : Value} {st st' : List Rr} {used used' : Nat} {S S' : Nat → Prop}
theorem CI.next (h : CI w wr sg c j nv tv st used S) (hb : Below wr.heap.size wr W) : CI w W sg c j nv tv st used S :=
  ⟨h.bs.next hb, h.us, h.ok, h.sl, h.bl, h.dp, own_next h.nr hb, own_next h.tr hb, h.ns, h.ts, h.nt⟩
/-- A row was committed; both rows of texts stand as they were. -/
structure CP (w W : World) (sg : Nat) (c : UInt8) (j : Nat) (nv tv : Value) (st' : List Rr) (used' : Nat) (S' : Nat → Prop) : Prop where
  bs : BS w W 1500 sg st' used' S'
  us : used' ≤ 6 * (j + 1)
  ok : RdOk st'
  sl : st'.length ≤ j + 1
  bl : Bl st' (fN c (j + 1))
  dp : depth st' (nmG c (j + 1)) = ((j % 4 : Nat) : Int)
  nr : OwnT W w.heap.size nv (nmsG c j)
  tr : OwnT W w.heap.size tv (txsG c j)
  ns : ∀ g, nv.ownBlock = some g → ¬ S' g
  ts : ∀ g, tv.ownBlock = some g → ¬ S' g
  nt : ∀ g, nv.ownBlock = some g → tv.ownBlock ≠ some g
theorem CI.put (h : CI w wr sg c j nv tv st used S) (hj : j < 9) (o : Option (List UInt8)) (ho : ChOk st (nmG c (j + 1)) (Ha.grow c (j + 1)) (lastG c j) o)
    (hB : BS w W 1500 sg (turn st (rowOf (nmG c (j + 1)) (Ha.grow c (j + 1)) (lastG c j) o)) (used + 6) S') (hbut : But S wr W) (hS : ∀ k, S' k → S k ∨ wr.heap.size ≤ k) :
    CP w W sg c j nv tv (turn st (rowOf (nmG c (j + 1)) (Ha.grow c (j + 1)) (lastG c j) o)) (used + 6) S' := by
  obtain ⟨h1, h2, h3⟩ := chain_put h.ok.srt h.bl hj h.dp o ho
  have hk : (rowOf (nmG c (j + 1)) (Ha.grow c (j + 1)) (lastG c j) o).Ok := by
    have hl : (nmG c (j + 1)).length = 40 := Ha.sumL_len _
    cases o with
    | none => exact ⟨by simp [rowOf, bk], by simp [rowOf, bk]; omega, by omega, fun e => by cases e⟩
    | some d => exact ⟨by simp [rowOf, bk], by simp [rowOf, bk]; omega, by omega, fun e => by cases e⟩
  have hsl := h.sl
  have hus := h.us
  exact ⟨hB, by omega, h.ok.turn hk (by omega) (by omega), by have := turn_len st (rowOf (nmG c (j + 1)) (Ha.grow c (j + 1)) (lastG c j) o); omega, h2, h3, own_but h.nr hbut (fun k hk => h.ns k hk), own_but h.tr hbut (fun k hk => h.ts k hk),
    fun g hg hs => by
      rcases hS g hs with h4 | h4
      · exact h.ns g hg h4
      · have := (blk_of h.nr hg).2; omega,
    fun g hg hs => by
      rcases hS g hs with h4 | h4
      · exact h.ts g hg h4
      · have := (blk_of h.tr hg).2; omega, h.nt⟩
theorem CP.next (h : CP w wr sg c j nv tv st' used' S') (hb : Below wr.heap.size wr W) : CP w W sg c j nv tv st' used' S' :=
  ⟨h.bs.next hb, h.us, h.ok, h.sl, h.bl, h.dp, own_next h.nr hb, own_next h.tr hb, h.ns, h.ts, h.nt⟩
/-- The name is appended. -/
theorem CP.name (h : CP w wr sg c j nv tv st' used' S') {W1 W2 : World} (hb : Below wr.heap.size wr W1) (hg : W1.grownBy W2 nv.ownBlock) (hat : nv'.ownBlock = nv.ownBlock ∨ nv'.ownBlock = some W1.heap.size) :
    BS w W2 1500 sg st' used' S' ∧ OwnT W2 w.heap.size tv (txsG c j) ∧ (∀ g, nv'.ownBlock = some g → ¬ S' g) ∧ (∀ g, nv'.ownBlock = some g → tv.ownBlock ≠ some g) ∧ (∀ g, tv.ownBlock = some g → g < W2.heap.size) := by
  have hbut : But (fun k => nv.ownBlock = some k) W1 W2 := But.of_grown hg (fun k hk => hk)
  have hz := hb.size
  have hbl : ∀ k, nv.ownBlock = some k → w.heap.size ≤ k := fun k hk => (blk_of h.nr hk).1
  have hlt := h.bs.lt
  refine ⟨(h.bs.next hb).but hbut (fun k hs hk => h.ns k hk hs) hbl, own_but (own_next h.tr hb) hbut (fun k hk hn => h.nt k hn hk), fun g hg' hs => ?_, fun g hg' ht => ?_, fun g hg' => ?_⟩
  · rcases hat with e | e
    · exact h.ns g (e.symm.trans hg') hs
    · have := hlt g hs
      rw [e] at hg'
      cases hg'
      omega
  · rcases hat with e | e
    · exact h.nt g (e.symm.trans hg') ht
    · have := (blk_of h.tr ht).2
      rw [e] at hg'
      cases hg'
      omega
  · have := (blk_of h.tr hg').2
    have := hg.size
    omega
/-- The text is appended, too. -/
theorem CP.text (h : CP w wr sg c j nv tv st' used' S') {W2 W3 W4 : World} (h1 : BS w W2 1500 sg st' used' S') (ho : OwnT W2 w.heap.size nv' (nmsG c (j + 1))) (h2 : OwnT W2 w.heap.size tv (txsG c j)) (h3 : ∀ g, nv'.ownBlock = some g → ¬ S' g) (h4 : ∀ g, nv'.ownBlock = some g → tv.ownBlock ≠ some g)
    (hb : Below W2.heap.size W2 W3) (hg : W3.grownBy W4 tv.ownBlock) (ho2 : OwnT W4 w.heap.size tv' (txsG c (j + 1))) (hat : tv'.ownBlock = tv.ownBlock ∨ tv'.ownBlock = some W3.heap.size) : CI w W4 sg c (j + 1) nv' tv' st' used' S' := by
  have hbut : But (fun k => tv.ownBlock = some k) W3 W4 := But.of_grown hg (fun k hk => hk)
  have hz := hb.size
  have hlt := h1.lt
  refine ⟨(h1.next hb).but hbut (fun k hs hk => h.ts k hk hs) (fun k hk => (blk_of h2 hk).1), h.us, h.ok, h.sl, h.bl, fun _ => h.dp, own_but (own_next ho hb) hbut (fun k hk hn => h4 k hk hn), ho2, h3, fun g hg' hs => ?_, fun g hg' ht => ?_⟩
  · rcases hat with e | e
    · exact h.ts g (e.symm.trans hg') hs
    · have := hlt g hs
      rw [e] at hg'
      cases hg'
      omega
  · rcases hat with e | e
    · exact h4 g hg' (e.symm.trans ht)
    · have := (blk_of ho hg').2
      rw [e] at ht
      cases ht
      omega
end
end Go.Proofs.YtbcffpimnmjjoaaGreatDoor
