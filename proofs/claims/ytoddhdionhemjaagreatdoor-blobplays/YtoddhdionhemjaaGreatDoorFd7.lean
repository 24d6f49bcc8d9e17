/- THE WALKS of find's comparison, of slices.BinarySearchFunc over rows, of store.find.
   THE WALKS of slices.BinarySearchFunc over rows, of store.find. -/
import Derived.Test.YtoddhdionhemjaaGreatDoorJn7
import Derived.Test.YtoddhdionhemjaaGreatDoorRl7
import Derived.Test.YtoddhdionhemjaaGreatDoorShelf
namespace Go.Proofs.YtoddhdionhemjaaGreatDoor
open Go.RowKit
set_option maxRecDepth 100000

theorem bstep {w v x : World} (h : Below w.heap.size w v) (h2 : Below v.heap.size v x) : Below w.heap.size w x := h.trans (h2.mono h.size)
def bA (l : List UInt8) : ByteArray := ⟨l.toArray⟩
theorem bA_l (l : List UInt8) : (bA l).data.toList = l := rfl
theorem bA_size (l : List UInt8) : (bA l).size = l.length := rfl
def rval (r : Rr) : Value := .agg #[.string (bA r.k), .string (bA r.v), .bool r.g]
def rcells (r : Rr) : List Value := [.string (bA r.k), .string (bA r.v), .bool r.g]
def rowsC (st : List Rr) : List Value := st.flatMap rcells
theorem rowsC_len (st : List Rr) : (rowsC st).length = st.length * 3 := by
  induction st with
  | nil => rfl
  | cons r st ih => rw [rowsC, List.flatMap_cons, List.length_append, List.length_cons]; show 3 + (rowsC st).length = _; omega
theorem rowsC_app (a b : List Rr) : rowsC (a ++ b) = rowsC a ++ rowsC b := by simp [rowsC]
theorem rowsC_at : ∀ (st : List Rr) (i : Nat) (r : Rr), st[i]? = some r → (rowsC st)[i * 3]? = some (.string (bA r.k)) ∧ (rowsC st)[i * 3 + 1]? = some (.string (bA r.v)) ∧ (rowsC st)[i * 3 + 2]? = some (.bool r.g)
  | [], i, r, h => by simp at h
  | x :: st, 0, r, h => by simp at h; subst h; exact ⟨rfl, rfl, rfl⟩
  | x :: st, i + 1, r, h => by
    have ih := rowsC_at st i r (by simpa using h)
    have e : rowsC (x :: st) = rcells x ++ rowsC st := rfl
    have hl : (rcells x).length = 3 := rfl
    rw [e, List.getElem?_append_right (by omega), List.getElem?_append_right (by omega), List.getElem?_append_right (by omega), hl, show (i + 1) * 3 - 3 = i * 3 by omega, show (i + 1) * 3 + 1 - 3 = i * 3 + 1 by omega, show (i + 1) * 3 + 2 - 3 = i * 3 + 2 by omega]
    exact ih
/-- A row of rows of one's own: three cells each. -/
abbrev OwnR (w : World) (base : Nat) (v : Value) (st : List Rr) : Prop := w.ownsRow base 30 3 v st.length (rowsC st)
theorem OwnR.at {w : World} {base g n cap : Nat} {st : List Rr} (h : OwnR w base (.slice (some ⟨g, 0, none⟩) n cap) st) {i : Nat} {r : Rr} (hi : st[i]? = some r) :
    w.cell? ⟨g, i * 3, none⟩ = some (.string (bA r.k)) ∧ w.cell? ⟨g, i * 3 + 1, none⟩ = some (.string (bA r.v)) ∧ w.cell? ⟨g, i * 3 + 2, none⟩ = some (.bool r.g) := by
  obtain ⟨rfl, cur, hc⟩ := Rw.own h
  obtain ⟨h1, h2, h3⟩ := rowsC_at st i r hi
  have hlt := (List.getElem?_eq_some_iff.1 hi).1
  exact ⟨(h.cellAt _ (by omega)).trans h1, (h.cellAt _ (by omega)).trans h2, (h.cellAt _ (by omega)).trans h3⟩
theorem OwnR.next {w v : World} {base : Nat} {x : Value} {st : List Rr} (h : OwnR w base x st) (hb : Below w.heap.size w v) : OwnR v base x st := own_but (S := fun _ => False) h (But.of_below _ hb) (fun _ _ h => h)
theorem OwnR.drew {w : World} {base : Nat} {x : Value} {st : List Rr} (h : OwnR w base x st) : OwnR w.drew base x st := h.next (Below.refl _ w).drew
theorem OwnR.shape {w : World} {base : Nat} {x : Value} {st : List Rr} (h : OwnR w base x st) : (x = .slice none 0 0 ∧ st = []) ∨ ∃ g cap, x = .slice (some ⟨g, 0, none⟩) st.length cap := by
  rcases h.2 with ⟨h1, h2⟩ | ⟨g, cap, cur, a1, _⟩
  · exact .inl ⟨h1, List.eq_nil_of_length_eq_zero h2⟩
  · exact .inr ⟨g, cap, a1⟩
theorem cmpf_any (k v q : ByteArray) (g : Bool) (c : Int) (hc : c = Lib.compareBytes k.data.toList q.data.toList) (w : World) :
    Calls Tryz.prog 67 #[.agg #[.string k, .string v, .bool g], .string q] w fun e w' => e = .returned (.int .i64 c) ∧ Below w.heap.size w w' := by
  have p := fun W => Tryz.strings_Compare k q W
  rw [← hc] at p
  clear hc
  have c0 := (Rw.fresh w 30 #[.string k, .string v, .bool g]).at 0
  go_enter Tryz.func67, Tryz.ntmps67
  go_wp2_with (go_at_call 68; (with_reducible refine (p _).mono ?_); rintro e w1 ⟨rfl, hw⟩; subst hw)
  go_ret
  exact ⟨rfl, (Below.refl _ w).alloc (Nat.le_refl _) _⟩
end Go.Proofs.YtoddhdionhemjaaGreatDoor
namespace Go.Proofs.YtoddhdionhemjaaGreatDoor
open Go.RowKit
set_option maxRecDepth 100000

theorem half_nat (a b : Nat) : ((a : Int) + (b : Int)) / 2 ^ 1 = ((a + b) / 2 : Nat) := by omega
set_option maxHeartbeats 1000000 in
theorem bsf_any (base : Nat) (x : Value) (st : List Rr) (q : ByteArray) (hs : st.Pairwise (fun a b => Lt a.k b.k)) (hl : st.length ≤ 1099511627776) (w : World) (h : OwnR w base x st) (P : Nat) (F : Bool) (hP : P = pos st q.data.toList) (hF : F = hasK st q.data.toList) :
    Calls Tryz.prog 66 #[x, .string q, .func (.func 67) #[] #[]] w fun e w' => e = .returned (.tuple #[.int .i64 (P : Int), .bool F]) ∧ Below w.heap.size w w' := by
  have hPl : P ≤ st.length := by rw [hP]; exact pos_le _ _
  have HP := Lib.hid hP
  have HF := Lib.hid hF
  clear hP hF
  rcases h.shape with ⟨rfl, rfl⟩ | ⟨g, cap, rfl⟩
  · obtain rfl : P = 0 := by simpa using hPl
    obtain rfl : F = false := by rw [HF.out]; rfl
    go_enter Tryz.func66, Tryz.ntmps66
    go_wp2
    go_loopw [9, 10] (fun i j wr => i = .int .i64 0 ∧ j = .int .i64 0 ∧ wr = w) (fun _ _ _ => 0)
    case atStart => exact ⟨rfl, rfl, rfl⟩
    case round =>
      obtain ⟨rfl, rfl, rfl⟩ := hrel
      go_wp2
      go_ret2
      exact ⟨rfl, Below.refl _ _⟩
  · obtain ⟨n, hn⟩ : ∃ n, n = st.length := ⟨_, rfl⟩
    rw [← hn] at hPl hl ⊢
    have HN := Lib.hid hn
    have h : OwnR w base (.slice (some ⟨g, 0, none⟩) n cap) st := by rw [hn]; exact h
    clear hn
    go_enter Tryz.func66, Tryz.ntmps66
    go_wp2
    go_loopg [9, 10] (n + 1) (fun G a b wr => ∃ i j : Nat, a = .int .i64 (i : Int) ∧ b = .int .i64 (j : Int) ∧ i ≤ P ∧ P ≤ j ∧ j ≤ n ∧ G = j - i + 1 ∧ Below w.heap.size w wr)
    case atStart => exact ⟨0, n, rfl, rfl, Nat.zero_le _, hPl, Nat.le_refl _, rfl, Below.refl _ _⟩
    case round =>
      obtain ⟨i, j, rfl, rfl, hi, hj, hjn, hG, hb⟩ := hrel
      have hr := h.next hb
      by_cases hlt : i < j
      · have t1 : decide ((i : Int) < (j : Int)) = true := by simp; omega
        have hml : (i + j) / 2 < j := by omega
        have hmi : i ≤ (i + j) / 2 := by omega
        have hmn : (i + j) / 2 < st.length := by have := HN.out; omega
        obtain ⟨r, hrr⟩ : ∃ r, st[(i + j) / 2]? = some r := ⟨_, List.getElem?_eq_getElem hmn⟩
        obtain ⟨c0, c1, c2⟩ := hr.at hrr
        obtain ⟨c, hc⟩ : ∃ c, c = Lib.compareBytes r.k q.data.toList := ⟨_, rfl⟩
        have hpos := pos_iff hs q.data.toList hrr
        rw [← HP.out] at hpos
        unfold Lt at hpos
        rw [← hc] at hpos
        have pc := fun W => cmpf_any (bA r.k) (bA r.v) q r.g c hc W
        clear hc hrr
        by_cases h0 : c < 0
        · have t2 : decide (c < 0) = true := by simpa using h0
          have hlo := hpos.1 h0
          clear hpos
          go_wp2_with (go_at_call 67; (with_reducible refine (pc _).mono ?_); rintro e w1 ⟨rfl, hb1⟩)
          go_roundg (j - ((i + j) / 2 + 1) + 1)
          case measure => omega
          case rel => exact ⟨(i + j) / 2 + 1, j, by go_num, rfl, by omega, hj, hjn, rfl, bstep hb hb1⟩
        · have t2 : decide (c < 0) = false := by simpa using h0
          have hlo : ¬ (i + j) / 2 < P := fun hh => h0 (hpos.2 hh)
          clear hpos
          go_wp2_with (go_at_call 67; (with_reducible refine (pc _).mono ?_); rintro e w1 ⟨rfl, hb1⟩)
          go_roundg ((i + j) / 2 - i + 1)
          case measure => omega
          case rel => exact ⟨i, (i + j) / 2, rfl, by go_num, hi, by omega, by omega, rfl, bstep hb hb1⟩
      · obtain rfl : i = P := by omega
        obtain rfl : j = i := by omega
        have t1 : decide ((j : Int) < (j : Int)) = false := by simp
        by_cases hjl : j < n
        · have t3 : decide ((j : Int) < (n : Int)) = true := by simp; omega
          obtain ⟨r, hrr⟩ : ∃ r, st[j]? = some r := ⟨_, List.getElem?_eq_getElem (by have := HN.out; omega)⟩
          obtain ⟨c0, c1, c2⟩ := hr.at hrr
          obtain ⟨c, hc⟩ : ∃ c, c = Lib.compareBytes r.k q.data.toList := ⟨_, rfl⟩
          have hF : F = (c == 0) := by
            rw [HF.out]
            unfold hasK
            rw [← HP.out, hrr, hc]
            show decide (r.k = q.data.toList) = _
            by_cases he : r.k = q.data.toList
            · rw [he, cmp_self]; simp
            · have : Lib.compareBytes r.k q.data.toList ≠ 0 := fun h => he (cmp_zero h)
              rw [decide_eq_false he, beq_eq_false_iff_ne.2 this]
          have pc := fun W => cmpf_any (bA r.k) (bA r.v) q r.g c hc W
          clear hc hrr
          subst hF
          go_wp2_with (go_at_call 67; (with_reducible refine (pc _).mono ?_); rintro e w1 ⟨rfl, hb1⟩)
          go_ret2
          exact ⟨rfl, bstep hb hb1⟩
        · have t3 : decide ((j : Int) < (n : Int)) = false := by simp; omega
          have hF : F = false := by
            rw [HF.out]
            unfold hasK
            rw [← HP.out, List.getElem?_eq_none (by have := HN.out; omega)]
            rfl
          subst hF
          go_wp2
          go_ret2
          exact ⟨rfl, hb⟩
theorem Srt.pair {st : List Rr} (h : Srt st) : st.Pairwise (fun a b => Lt a.k b.k) := h.up
/-- A store in memory: its journal's block, its rows. -/
structure SnAt (w : World) (base sg jg : Nat) (x : Value) (st : List Rr) : Prop where
  head : Rw w sg 70 #[.pointer (some ⟨jg, 0, none⟩), x]
  row : OwnR w base x st
theorem find_any (base sg jg : Nat) (x : Value) (st : List Rr) (q : ByteArray) (hs : st.Pairwise (fun a b => Lt a.k b.k)) (hl : st.length ≤ 1099511627776) (w : World) (h : SnAt w base sg jg x st) :
    Calls Tryz.prog 37 #[.pointer (some ⟨sg, 0, none⟩), .string q] w fun e w' => e = .returned (.tuple #[.int .i64 (pos st q.data.toList : Int), .bool (hasK st q.data.toList)]) ∧ Below w.heap.size w w' := by
  have p := bsf_any base x st q hs hl w h.row _ _ rfl rfl
  have c1 := h.head.at 1
  generalize pos st q.data.toList = P at p ⊢
  generalize hasK st q.data.toList = F at p ⊢
  rcases h.row.shape with ⟨rfl, _⟩ | ⟨g, cap, rfl⟩
  all_goals
    go_enter Tryz.func37, Tryz.ntmps37
    go_wp2_with (go_at_call 66; (with_reducible refine p.mono ?_); rintro e w1 ⟨rfl, hb1⟩)
    go_ret2
    exact ⟨rfl, hb1⟩
end Go.Proofs.YtoddhdionhemjaaGreatDoor
