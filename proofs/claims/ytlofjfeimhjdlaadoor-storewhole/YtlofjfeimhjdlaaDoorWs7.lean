/- MAPS OF ROWS: what a map of texts holds of rows; THE WALK of ammonitelaw7.same; of disk.Copy. -/
import Derived.Test.YtlofjfeimhjdlaaDoorMp7
import Derived.Deep.LoopGhost
import Derived.Sort.MapsRangeIn
namespace Go.Proofs.YtlofjfeimhjdlaaDoor
open Go.RowKit Go.Maps
open Go.WideMaps (keyOf_string_mk)
set_option maxRecDepth 100000

/-- A map holds just these rows. -/
structure RowsOf (D : DataW Unit) (st : List Rr) : Prop where
  h : ∀ l, has D (.string l) = true ↔ ∃ r ∈ st, r.k = l
  v : ∀ r ∈ st, ∀ z, D.atKey (.string r.k) z = .lit (.string r.v)
  n : size D = st.length
theorem RowsOf.nil : RowsOf (.map []) [] := ⟨fun l => by simp [has], (fun r h => by cases h), rfl⟩
theorem RowsOf.put {D : DataW Unit} {st : List Rr} (hs : Srt st) {i : Nat} (h : RowsOf D (st.take i)) (ht : Tidy D) {r : Rr} (hr : st[i]? = some r) : RowsOf (D.put (.string r.k) (.lit (.string r.v))) (st.take (i + 1)) := by
  have hil := (List.getElem?_eq_some_iff.1 hr)
  have he : st.take (i + 1) = st.take i ++ [r] := by rw [List.take_add_one, hr]; rfl
  have hne : ∀ q ∈ st.take i, q.k ≠ r.k := fun q hq e => by
    obtain ⟨j, hj, ej⟩ := List.mem_iff_getElem.1 hq
    rw [List.length_take] at hj
    rw [List.getElem_take] at ej
    have := List.pairwise_iff_getElem.1 hs.up j i (by omega) hil.1 (by omega)
    rw [ej, hil.2, e] at this
    exact Lt.irr _ this
  have hno : has D (.string r.k) = false := by
    cases hh : has D (.string r.k) with
    | false => rfl
    | true => obtain ⟨q, hq, e⟩ := (h.h _).1 hh; exact absurd e (hne q hq)
  rw [he]
  refine ⟨fun l => ?_, fun q hq z => ?_, ?_⟩
  · by_cases e : l = r.k
    · subst e
      rw [has_put_same ht.isMap (keyLit7 _)]
      exact ⟨fun _ => ⟨r, by simp, rfl⟩, fun _ => rfl⟩
    · have hnl : Lit.string l ≠ .string r.k := fun h => e (by injection h)
      rw [has_put_other hnl, h.h]
      constructor
      · rintro ⟨q, hq, rfl⟩
        exact ⟨q, by simp [hq], rfl⟩
      · rintro ⟨q, hq, rfl⟩
        rcases List.mem_append.1 hq with h1 | h1
        · exact ⟨q, h1, rfl⟩
        · rw [List.mem_singleton.1 h1] at e; exact absurd rfl e
  · rcases List.mem_append.1 hq with h1 | h1
    · have hnl : Lit.string q.k ≠ .string r.k := fun e => hne q h1 (by injection e)
      rw [atKey_put_other hnl]
      exact h.v q h1 z
    · rw [List.mem_singleton.1 h1]
      exact atKey_put_same ht.isMap (keyLit7 _) _ _
  · rw [size_put ht, h.n, hno, List.length_append]
    simp
/-- Two rows of sorted rows, as many, the one among the other: they are one. -/
theorem up_ext : ∀ (b a : List Rr), a.Pairwise (fun x y => Lt x.k y.k) → b.Pairwise (fun x y => Lt x.k y.k) → (∀ r ∈ a, r ∈ b) → a.length ≤ b.length ∧ (a.length = b.length → a = b)
  | [], [], _, _, _ => ⟨Nat.le_refl _, fun _ => rfl⟩
  | [], x :: a, _, _, h => by have := h x (by simp); simp at this
  | y :: b, [], _, _, _ => ⟨Nat.zero_le _, fun e => by simp at e⟩
  | y :: b, x :: a, ha, hb, h => by
    obtain ⟨a1, a2⟩ := List.pairwise_cons.1 ha
    obtain ⟨b1, b2⟩ := List.pairwise_cons.1 hb
    by_cases e : x = y
    · subst e
      have ih := up_ext b a a2 b2 (fun r hr => by
        rcases List.mem_cons.1 (h r (by simp [hr])) with rfl | h1
        · exact absurd (a1 r hr) (Lt.irr _)
        · exact h1)
      exact ⟨by simpa using ih.1, fun e => by rw [ih.2 (by simpa using e)]⟩
    · have hx : x ∈ b := by
        rcases List.mem_cons.1 (h x (by simp)) with h1 | h1
        · exact absurd h1 e
        · exact h1
      have ih := up_ext b (x :: a) ha b2 (fun r hr => by
        rcases List.mem_cons.1 (h r hr) with rfl | h1
        · rcases List.mem_cons.1 hr with h2 | h2
          · exact absurd h2.symm e
          · exact absurd (a1 r h2) (Lt.asym (b1 x hx))
        · exact h1)
      refine ⟨by have := ih.1; simp at this ⊢; omega, fun e2 => ?_⟩
      have := ih.1
      simp at this e2
      omega
theorem srt_ext {a b : List Rr} (ha : Srt a) (hb : Srt b) (hl : a.length = b.length) (hs : ∀ r ∈ a, r ∈ b) : a = b := (up_ext b a ha.up hb.up hs).2 hl
theorem bA_back (x : ByteArray) : bA x.data.toList = x := by cases x; rfl
theorem left_key {D : DataW Unit} {st : List Rr} (h : RowsOf D st) {s : ByteArray} {y : DataW Unit} (hat : ∀ zd, D.atKey (.string s.data.toList) zd = y) : ∃ r ∈ st, bA r.k = s ∧ y = .lit (.string r.v) := by
  obtain ⟨r, hr, e⟩ := (h.h _).1 (has_true_of_atKey hat)
  have h1 := h.v r hr .nil
  rw [e, hat] at h1
  exact ⟨r, hr, by rw [e]; cases s; rfl, h1⟩
set_option maxHeartbeats 1000000 in
/-- same: are two maps of rows the same? -/
theorem msame_any (b1 b2 n1 n2 : Nat) (D1 D2 : DataW Unit) (s1 s2 : List Rr) (h1 : Srt s1) (h2 : Srt s2) (w : World) (m1 : MapT w 9 b1 n1 D1) (m2 : MapT w 9 b2 n2 D2) (r1 : RowsOf D1 s1) (r2 : RowsOf D2 s2) :
    Calls Tryd.prog 22 #[.map (some b1), .map (some b2)] w fun e w' => e = .returned (.bool (decide (s1 = s2))) ∧ Below w.heap.size w w' := by
  obtain ⟨L1, hL1⟩ : ∃ L1, s1.length = L1 := ⟨_, rfl⟩
  obtain ⟨L2, hL2⟩ : ∃ L2, s2.length = L2 := ⟨_, rfl⟩
  have q1 : (Builtin.len_ #[52] 3 #[.map (some b1)]).run Tryd.prog w = .ok (.int .i64 (L1 : Int)) w := by
    have := m1.len Tryd.underlying52 3
    rw [r1.n, hL1] at this
    exact this
  have q2 : (Builtin.len_ #[52] 3 #[.map (some b2)]).run Tryd.prog w = .ok (.int .i64 (L2 : Int)) w := by
    have := m2.len Tryd.underlying52 3
    rw [r2.n, hL2] at this
    exact this
  by_cases hl : L1 = L2
  · have t1 : ((L1 : Int) != (L2 : Int)) = false := by simp [hl]
    have hll : s1.length = s2.length := by omega
    clear hL1 hL2 hl
    go_enter Tryd.func22, Tryd.ntmps22
    go_wp2_with (at_range; refine wpList_range_own _ rfl _ 52 rfl 9 9 skeyed7 Tryd.underlying52 _ b1 n1 _ rfl m1 ?_; intro w0 hrg0 hg0 hs0)
    go_frame
    have hr0 : w.heap.size < w0.heap.size := by omega
    go_loopg [5] (size D1 + 1) (fun G _ wr => ∃ (left : Lit → Bool) (cnt : Nat), wr.ranges Tryd.prog 9 (plainElem Tryd.prog 9) b1 w.heap.size n1 D1 left cnt ∧ G = cnt + 1 ∧ Below w.heap.size w wr ∧ MapT wr 9 b2 n2 D2 ∧ ∀ r ∈ s1, left (.string r.k) = false → r ∈ s2)
    case atStart => exact ⟨_, _, hrg0, rfl, (Below.refl _ w).grown hg0 (Nat.le_refl _) (fun r e => by cases e), m2.kept hg0 (fun e => by cases e), fun r hr hf => by rw [(r1.h r.k).2 ⟨r, hr, rfl⟩] at hf; cases hf⟩
    case round =>
      obtain ⟨left, cnt, hrg, hG, hb, hm2, hdone⟩ := hrel
      clear hrg0 hg0 hs0 q1 q2 t1
      go_wp2_with (at_next; refine wpList_next_ranges _ rfl _ rfl 9 skeyed7 (plainElem Tryd.prog 9) Value.string Value.string (fun key kl hkey => Maps.keyOf_string_inv Tryd.underlying9 hkey) (fun v y hv => by obtain ⟨c, rfl, _⟩ := plainElem_string_inv Tryd.underlying9 hv; exact ⟨c, rfl⟩) b1 w.heap.size n1 _ _ _ rfl hrg ?_ ?_)
      · intro _ hl0
        have he := srt_ext h1 h2 hll (fun r hr => hdone r hr (hl0 _))
        go_wp2
        go_ret
        exact ⟨by rw [decide_eq_true he]; rfl, hb⟩
      · intro x c kl y ps w1 cnt1 hkey hlk hv hat hrg1 hlt hg1 hs1 hen
        have hb1 : Below w.heap.size w w1 := hb.grown hg1 hb.size (fun r e => by cases e; exact Nat.le_refl _)
        have hm3 : MapT w1 9 b2 n2 D2 := hm2.kept hg1 (fun e => by cases e; exact absurd m2.lt (Nat.lt_irrefl _))
        obtain ⟨hxs, rfl⟩ : x.size ≤ maxLen ∧ kl = .string x.data.toList := by
          simp [keyOf, Tryd.underlying9, mapKey] at hkey
          exact ⟨hkey.1, hkey.2.symm⟩
        obtain ⟨r, hr, hrk, rfl⟩ := left_key r1 hat
        obtain ⟨c', e1, e2, _⟩ := plainElem_string_inv Tryd.underlying9 hv
        simp only [Value.string.injEq] at e1
        subst e1
        simp only [Prod.mk.injEq, DataW.lit.injEq, Lit.string.injEq] at e2
        have hrv : bA r.v = c := by rw [e2.1]; exact bA_back c
        subst hrk
        have ek : (bA r.k).data.toList = r.k := by simp [bA]
        rw [ek] at hlk hat hrg1
        obtain ⟨u, pu, hrun, hu⟩ := hm3.look_ok skeyed7 Tryd.underlying52 (zeroS7 w1) (plainElem_string Tryd.underlying9 (s := ⟨#[]⟩) (Nat.zero_le _)) hkey
        rw [ek] at hrun hu
        obtain ⟨s, rfl, e3, _⟩ := plainElem_string_inv Tryd.underlying9 hu
        simp only [Prod.mk.injEq] at e3
        cases hh : has D2 (.string r.k) with
        | false =>
          rw [hh] at hrun
          have hne : s1 ≠ s2 := fun e => by
            rw [(r2.h r.k).2 ⟨r, by rw [← e]; exact hr, rfl⟩] at hh
            cases hh
          clear hrg hrg1 hdone hat hkey hv hu e3
          go_wp2
          go_ret
          exact ⟨by rw [decide_eq_false hne]; rfl, hb1⟩
        | true =>
          rw [hh] at hrun
          obtain ⟨q, hq, hqk⟩ := (r2.h r.k).1 hh
          have hs : bA q.v = s := by
            have h5 := r2.v q hq (.lit (.string (⟨#[]⟩ : ByteArray).data.toList))
            rw [hqk] at h5
            rw [h5] at e3
            simp only [DataW.lit.injEq, Lit.string.injEq] at e3
            rw [e3.1]; exact bA_back s
          subst hs
          by_cases hvv : q.v = r.v
          · have hqr : q = r := Rr.ext hqk hvv (by rw [(h2.ok q hq).1, (h1.ok r hr).1])
            subst hrv
            have t2 : ((bA q.v).toList == (bA r.v).toList) = true := by rw [hvv]; simp
            clear hrg hat hkey hv hu e3 e2
            go_wp2
            go_roundg (cnt1 + 1)
            case measure => omega
            case rel =>
              refine ⟨_, cnt1, hrg1, rfl, hb1, hm3, fun p hp hpf => ?_⟩
              by_cases e : p.k = r.k
              · rw [h1.one hp hr e, ← hqr]; exact hq
              · refine hdone p hp ?_
                have hk : (Lit.string p.k).sameKey (.string r.k) = false := sameKey_ne (fun h => e (by injection h))
                rw [hk] at hpf
                simpa using hpf
          · have hne : s1 ≠ s2 := fun e => by
              have h6 : r ∈ s2 := by rw [← e]; exact hr
              exact hvv (by rw [h2.one hq h6 hqk])
            subst hrv
            have t2 : ((bA q.v).toList == (bA r.v).toList) = false := by
              rw [Lib.toList_data, Lib.toList_data]
              show (q.v == r.v) = false
              simpa using hvv
            clear hrg hat hkey hv hu e3 e2 hdone hrg1
            go_wp2
            go_ret
            exact ⟨by rw [decide_eq_false hne]; rfl, hb1⟩
  · have t1 : ((L1 : Int) != (L2 : Int)) = true := by simp; omega
    have hne : s1 ≠ s2 := fun e => hl (by rw [← hL1, ← hL2, e])
    rw [decide_eq_false hne]
    go_enter Tryd.func22, Tryd.ntmps22
    go_wp2
    go_ret
    exact ⟨rfl, Below.refl _ _⟩
end Go.Proofs.YtlofjfeimhjdlaaDoor
