/- PLAIN: a store with one name's row and one row that is none: what may be, what may not. -/
import Derived.Test.YtbcffpimnmjjoaaGreatDoorBs8
namespace Go.Proofs.YtbcffpimnmjjoaaGreatDoor
open Go.RowKit Go.Shelf
set_option maxRecDepth 100000

theorem bA_back (s : ByteArray) : bA s.data.toList = s := by cases s; simp [bA]
def noB : List UInt8 := [110, 111, 32, 98, 108, 111, 98]
def two (x v : List UInt8) : List Rr := [⟨bk x, v, false⟩, ⟨[99], noB, false⟩]
theorem two_ok {x v : List UInt8} (hx : x.length = 40) (hv : v.length ≤ 999) : ∀ r ∈ two x v, r.Ok := fun r hr => by
  simp only [two, List.mem_cons, List.not_mem_nil, or_false] at hr
  rcases hr with rfl | rfl
  · exact ⟨by simp [bk], by simp [bk]; omega, by show v.length ≤ _; omega, fun h => by cases h⟩
  · exact ⟨by simp, by simp, by simp [noB], fun h => by cases h⟩
theorem two_rd {x v : List UInt8} (hx : x.length = 40) (hv : v.length ≤ 999) : RdOk (turns [] (two x v)) :=
  RdOk.nil.turns _ (fun r hr => ⟨two_ok hx hv r hr, by
    simp only [two, List.mem_cons, List.not_mem_nil, or_false] at hr
    rcases hr with rfl | rfl
    · show v.length ≤ _; omega
    · simp [noB]⟩) (by simp [two])
theorem two_get {x v : List UInt8} (hx : x.length = 40) (hv : v.length ≤ 999) (k : List UInt8) : getK (turns [] (two x v)) k = if k = [99] then some noB else if k = bk x then some v else none := by
  have h := two_ok hx hv
  have h1 := h ⟨bk x, v, false⟩ (by simp [two])
  have h2 := h ⟨[99], noB, false⟩ (by simp [two])
  show getK (turn (turn [] ⟨bk x, v, false⟩) ⟨[99], noB, false⟩) k = _
  rw [getK_turn (Srt.nil.turn h1) h2]
  by_cases e : k = [99]
  · rw [if_pos e, if_pos e]; rfl
  · rw [if_neg e, if_neg e, getK_turn Srt.nil h1]
    by_cases e2 : k = bk x
    · rw [if_pos e2, if_pos e2]; rfl
    · rw [if_neg e2, if_neg e2]; rfl
theorem two_val {x v : List UInt8} (hx : Ha.isL x = true) (hv : v.length ≤ 999) (m : List UInt8) : say (turns [] (two x v)) m = if m = x then rdE v else none := by
  have hl := isL_len40 hx
  by_cases hm : Ha.isL m = true
  · have hne : bk m ≠ [99] := fun e => by
      have := congrArg List.length e
      simp [bk, isL_len40 hm] at this
    by_cases e : m = x
    · subst e
      rw [if_pos rfl]
      exact say_of hm (by rw [two_get hl hv, if_neg hne, if_pos rfl])
    · rw [if_neg e]
      exact say_no (by rw [two_get hl hv, if_neg hne, if_neg (fun h => e (bk_inj h))])
  · have hm : Ha.isL m = false := by simpa using hm
    rw [say_not hm, if_neg (fun e => by rw [e, hx] at hm; cases hm)]
theorem two_no {x v o : List UInt8} (hx : x.length = 40) (ho : Ha.isL o = true) (hv : v.length ≤ 999) (h : o ≠ x) : valOf (turns [] (two x v)) o = none := by
  unfold valOf
  rw [if_pos ho, two_get hx hv, if_neg (fun e => by have := congrArg List.length e; simp [bk, isL_len40 ho] at this), if_neg (fun e => h (bk_inj e))]
theorem two_rows {x v : List UInt8} (hx : Ha.isL x = true) (hv : v.length ≤ 999) : rowsN (turns [] (two x v)) = [⟨bk x, v, false⟩] := by
  have hl := isL_len40 hx
  have e : turns [] (two x v) = two x v := by
    show turn (turn [] ⟨bk x, v, false⟩) ⟨[99], noB, false⟩ = _
    rw [show turn [] ⟨bk x, v, false⟩ = [⟨bk x, v, false⟩] from rfl]
    rfl
  have hs := (two_rd hl hv).srt
  unfold rowsN
  rw [sel_filter hs, e]
  unfold two
  rw [List.filter_cons, if_pos (show begins [98] ⟨bk x, v, false⟩ = true by rw [begins_iff]; exact ⟨x, rfl⟩), List.filter_cons, if_pos (show nm ⟨bk x, v, false⟩ = true from hx), List.filter_cons, if_neg (show ¬ begins [98] ⟨[99], noB, false⟩ = true by decide), List.filter_nil, List.filter_nil]
theorem two_good {x t : List UInt8} (hx : Ha.isL x = true) (hs : Ha.sumL t = x) (hv : t.length + 1 ≤ 999) : content (turns [] (two x (102 :: t))) x = some t ∧ checkB (turns [] (two x (102 :: t))) = true := by
  have hsx := two_val hx (v := 102 :: t) (by simpa using hv) x
  rw [if_pos rfl, rdE_w] at hsx
  have hc : content (turns [] (two x (102 :: t))) x = some t := by
    show cont _ 4 x = _
    rw [cont, hsx]
  have hd : depth (turns [] (two x (102 :: t))) x = 0 := by
    unfold depth
    rw [if_neg (by rw [hsx]; simp), dep, hsx]
    rfl
  refine ⟨hc, ?_⟩
  unfold checkB
  rw [two_rows hx (by simpa using hv)]
  unfold okR
  simp only [List.all_cons, List.all_nil, Bool.and_true]
  rw [show List.drop 1 (bk x) = x from rfl, hc]
  simp only []
  rw [hs, hd]
  simp
theorem two_bad {x v : List UInt8} (hx : Ha.isL x = true) (hv : v.length ≤ 999) (h : rdE v = none ∨ ∃ b d, rdE v = some (.d b d)) : content (turns [] (two x v)) x = none ∧ checkB (turns [] (two x v)) = false := by
  have hsx := two_val hx hv x
  rw [if_pos rfl] at hsx
  have hc : content (turns [] (two x v)) x = none := by
    refine cont_none 4 x (fun y hy => ?_)
    have hall : ∀ (k : Nat) (m : List UInt8), ∀ y ∈ along (turns [] (two x v)) k m, isD y.2 = true := fun k => by
      induction k with
      | zero => intro m y hy; cases hy
      | succ k ih =>
        intro m y hy
        rw [along] at hy
        have hm := two_val hx hv m
        cases he : say (turns [] (two x v)) m with
        | none => rw [he] at hy; cases hy
        | some e =>
          rw [he] at hy
          rcases List.mem_cons.1 hy with rfl | hy
          · rw [he] at hm
            split at hm
            · rcases h with h | ⟨b, d, h⟩
              · rw [h] at hm; cases hm
              · rw [h] at hm; cases hm; rfl
            · cases hm
          · exact ih _ y hy
    exact hall 4 x y hy
  refine ⟨hc, ?_⟩
  unfold checkB
  rw [two_rows hx hv]
  unfold okR
  simp only [List.all_cons, List.all_nil, Bool.and_true]
  rw [show List.drop 1 (bk x) = x from rfl, hc]
/-- The six values: the one that may be; those that may not. -/
def Sv (t v : List UInt8) (g : Bool) : Prop := v.length ≤ 300 ∧ ((g = true ∧ v = 102 :: t) ∨ (g = false ∧ v ≠ 102 :: t ∧ (rdE v = none ∨ ∃ b d, rdE v = some (.d b d))))
theorem sv_good {t : List UInt8} (ht : t.length ≤ 250) : Sv t (102 :: t) true := ⟨by simp; omega, .inl ⟨rfl, rfl⟩⟩
theorem sv_nil (t : List UInt8) : Sv t [] false := ⟨by simp, .inr ⟨rfl, by simp, .inl (by decide)⟩⟩
theorem sv_q {t : List UInt8} (ht : t.length ≤ 250) : Sv t (113 :: t) false := ⟨by simp; omega, .inr ⟨rfl, by simp, .inl (by unfold rdE; rw [if_neg (by simp), if_neg (by simp)])⟩⟩
theorem sv_d (t : List UInt8) {b : List UInt8} (hb : b.length = 40) : Sv t (100 :: (b ++ [48, 10, 48, 59])) false := ⟨by simp; omega, .inr ⟨rfl, by simp, .inr ⟨b, _, rdE_d _ hb⟩⟩⟩
theorem sv_d0 (t : List UInt8) : Sv t [100, 48] false := ⟨by simp, .inr ⟨rfl, by simp, .inl (by decide)⟩⟩
end Go.Proofs.YtbcffpimnmjjoaaGreatDoor
