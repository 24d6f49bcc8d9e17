/- PLAIN: what a put and a drop do to contents by name. -/
import Derived.Test.YtoddhdionhemjaaGreatDoorBp8
namespace Go.Proofs.YtoddhdionhemjaaGreatDoor
open Go.RowKit

theorem getK_iff {st : List Rr} (h : Srt st) (k v : List UInt8) : getK st k = some v ↔ ∃ r ∈ st, r.k = k ∧ r.v = v := by
  constructor
  · intro hk
    unfold getK at hk
    split at hk
    · rename_i hh
      obtain ⟨r, hr, e⟩ := hasK_row hh
      rw [hr] at hk
      exact ⟨r, List.mem_of_getElem? hr, e, by simpa using hk⟩
    · cases hk
  · rintro ⟨r, hr, rfl, rfl⟩
    exact getK_mem h hr
theorem getK_turn {st : List Rr} (h : Srt st) {r : Rr} (hr : r.Ok) (k : List UInt8) : getK (turn st r) k = if k = r.k then (if r.g = true then none else some r.v) else getK st k := by
  have h' := h.turn hr
  by_cases e : k = r.k
  · rw [if_pos e]
    by_cases hg : r.g = true
    · rw [if_pos hg]
      refine getK_none h' (fun x hx => ?_)
      rcases (mem_turn h r x).1 hx with ⟨_, h2⟩ | ⟨h1, _⟩
      · rw [e]; exact h2
      · rw [hg] at h1; cases h1
    · rw [if_neg hg, e]
      exact (getK_iff h' _ _).2 ⟨r, (mem_turn h r r).2 (.inr ⟨by simpa using hg, rfl⟩), rfl, rfl⟩
  · rw [if_neg e]
    cases hv : getK st k with
    | none =>
      refine getK_none h' (fun x hx => ?_)
      rcases (mem_turn h r x).1 hx with ⟨h1, _⟩ | ⟨_, h2⟩
      · intro hxk
        have := (getK_iff h k x.v).2 ⟨x, h1, hxk, rfl⟩
        rw [hv] at this; cases this
      · rw [h2]; exact fun e2 => e e2.symm
    | some v =>
      obtain ⟨x, hx, hk, hxv⟩ := (getK_iff h k v).1 hv
      exact (getK_iff h' k v).2 ⟨x, (mem_turn h r x).2 (.inl ⟨hx, by rw [hk]; exact e⟩), hk, hxv⟩
/-- Rows that say of each key the one thing. -/
theorem getK_turns {val : List UInt8 → List UInt8} : ∀ (ws : List Rr) (st : List Rr), Srt st → (∀ r ∈ ws, r.Ok) → (∀ r ∈ ws, r.g = false ∧ r.v = val r.k) → ∀ k, getK (turns st ws) k = if k ∈ ws.map (·.k) then some (val k) else getK st k
  | [], st, _, _, _, k => by simp [turns]
  | r :: ws, st, h, ho, hw, k => by
    have hr := ho r (List.mem_cons_self ..)
    have ih := getK_turns ws (turn st r) (h.turn hr) (fun x hx => ho x (List.mem_cons_of_mem _ hx)) (fun x hx => hw x (List.mem_cons_of_mem _ hx)) k
    rw [show turns st (r :: ws) = turns (turn st r) ws from rfl, ih]
    have h2 := hw r (List.mem_cons_self ..)
    by_cases hk : k ∈ ws.map (·.k)
    · rw [if_pos hk, if_pos (by rw [List.map_cons]; exact List.mem_cons_of_mem _ hk)]
    · rw [if_neg hk, getK_turn h hr, if_neg (by rw [h2.1]; decide : ¬ r.g = true)]
      by_cases e : k = r.k
      · rw [if_pos e, if_pos (by rw [e]; simp), h2.2, e]
      · rw [if_neg e, if_neg (by rw [List.map_cons, List.mem_cons]; exact fun h => h.elim e hk)]
/-! ### How far a content reaches -/
theorem cont_mono {st : List Rr} : ∀ (k : Nat) (n t : List UInt8), cont st k n = some t → cont st (k + 1) n = some t
  | 0, _, _, h => by cases h
  | k + 1, n, t, h => by
    rw [cont] at h ⊢
    cases hs : say st n with
    | none => rw [hs] at h; cases h
    | some e =>
      rw [hs] at h
      cases e with
      | w q => exact h
      | d b d =>
        simp only [Option.bind_eq_some_iff] at h
        obtain ⟨q, hq, hd⟩ := h
        show (cont st (k + 1) b).bind _ = some t
        rw [cont_mono k b q hq]
        exact hd
theorem cont_le {st : List Rr} {k j : Nat} (h : k ≤ j) {n t : List UInt8} (hc : cont st k n = some t) : cont st j n = some t := by
  induction j with
  | zero =>
    obtain rfl : k = 0 := by omega
    exact hc
  | succ j ih =>
    rcases Nat.lt_or_ge k (j + 1) with h2 | h2
    · exact cont_mono j n t (ih (by omega))
    · obtain rfl : k = j + 1 := by omega
      exact hc
theorem cont_inj {st : List Rr} {k j : Nat} {n t s : List UInt8} (h1 : cont st k n = some t) (h2 : cont st j n = some s) : t = s := by
  rcases Nat.le_total k j with h | h
  · have := cont_le h h1; rw [h2] at this; exact (Option.some.inj this).symm
  · have := cont_le h h2; rw [h1] at this; exact Option.some.inj this
/-- A chain that ends early. -/
theorem cont_short {st : List Rr} : ∀ (k j : Nat) (n t : List UInt8), cont st k n = some t → dep st k n < j → cont st j n = some t ∧ dep st j n = dep st k n
  | 0, _, _, _, h, _ => by cases h
  | k + 1, 0, _, _, _, h => by omega
  | k + 1, j + 1, n, t, h, hd => by
    rw [cont] at h
    rw [dep] at hd
    rw [cont, dep, dep]
    cases hs : say st n with
    | none => rw [hs] at h; cases h
    | some e =>
      rw [hs] at h hd
      cases e with
      | w q => exact ⟨h, rfl⟩
      | d b d =>
        simp only [Option.bind_eq_some_iff] at h
        obtain ⟨q, hq, hd2⟩ := h
        simp only [] at hd
        obtain ⟨e1, e2⟩ := cont_short k j b q hq (by omega)
        refine ⟨?_, ?_⟩
        · show (cont st j b).bind _ = some t
          rw [e1]; exact hd2
        · show dep st j b + 1 = dep st k b + 1
          rw [e2]
theorem dep_le {st : List Rr} : ∀ (k : Nat) (n : List UInt8), dep st k n ≤ k
  | 0, _ => Nat.le_refl _
  | k + 1, n => by
    rw [dep]
    cases say st n with
    | none => exact Nat.zero_le _
    | some e =>
      cases e with
      | w q => exact Nat.zero_le _
      | d b d =>
        show dep st k b + 1 ≤ k + 1
        have := dep_le (st := st) k b
        omega
/-- Where a content is, the chain has less than k deltas. -/
theorem dep_lt {st : List Rr} : ∀ (k : Nat) (n t : List UInt8), cont st k n = some t → dep st k n < k
  | 0, _, _, h => by cases h
  | k + 1, n, t, h => by
    rw [cont] at h
    rw [dep]
    cases hs : say st n with
    | none => rw [hs] at h; cases h
    | some e =>
      rw [hs] at h
      cases e with
      | w q => show 0 < k + 1; omega
      | d b d =>
        simp only [Option.bind_eq_some_iff] at h
        obtain ⟨q, hq, _⟩ := h
        show dep st k b + 1 < k + 1
        have := dep_lt k b q hq
        omega
theorem say_some {st : List Rr} {n t : List UInt8} {k : Nat} (h : cont st k n = some t) : say st n ≠ none := fun e => by
  cases k with
  | zero => cases h
  | succ k => rw [cont, e] at h; cases h
/-- Names other than one say the same; that one said nothing. -/
theorem cont_ext {st st' : List Rr} {n : List UInt8} (hs : ∀ m, m ≠ n → say st' m = say st m) (hn : say st n = none) : ∀ (k : Nat) (m t : List UInt8), cont st k m = some t → cont st' k m = some t ∧ dep st' k m = dep st k m
  | 0, _, _, h => by cases h
  | k + 1, m, t, h => by
    have hm : m ≠ n := fun e => say_some h (by rw [e]; exact hn)
    rw [cont] at h ⊢
    rw [dep, dep, hs m hm]
    cases he : say st m with
    | none => rw [he] at h; cases h
    | some e =>
      rw [he] at h
      cases e with
      | w q => exact ⟨h, rfl⟩
      | d b d =>
        simp only [Option.bind_eq_some_iff] at h
        obtain ⟨q, hq, hd⟩ := h
        obtain ⟨e1, e2⟩ := cont_ext hs hn k b q hq
        refine ⟨?_, by show dep st' k b + 1 = dep st k b + 1; rw [e2]⟩
        show (cont st' k b).bind _ = some t
        rw [e1]; exact hd
/-! ### A put -/
theorem isL_len40 {n : List UInt8} (h : Ha.isL n = true) : n.length = 40 := by
  unfold Ha.isL at h
  simp at h
  exact h.1
theorem rdE_w (c : List UInt8) : rdE (102 :: c) = some (.w c) := by unfold rdE; rw [if_pos (show (102 :: c).take 1 = [102] from rfl)]; rfl
theorem rdE_d {b : List UInt8} (d : List UInt8) (h : b.length = 40) : rdE (100 :: (b ++ d)) = some (.d b d) := by
  unfold rdE
  rw [if_neg (by simp), if_pos ⟨rfl, by simp; omega⟩]
  have e1 : ((100 :: (b ++ d)).drop 1).take 40 = b := by
    show (b ++ d).take 40 = b
    rw [← h, List.take_left]
  have e2 : (100 :: (b ++ d)).drop 41 = d := by
    show (b ++ d).drop 40 = d
    rw [← h, List.drop_left]
  rw [e1, e2]
theorem say_of {st : List Rr} {n v : List UInt8} (hi : Ha.isL n = true) (h : getK st (bk n) = some v) : say st n = rdE v := by
  unfold say valOf
  rw [if_pos hi, h]
  rfl
theorem say_no {st : List Rr} {n : List UInt8} (h : getK st (bk n) = none) : say st n = none := by
  unfold say valOf
  rw [h]
  split <;> exact rdE_nil
theorem say_not {st : List Rr} {n : List UInt8} (hi : Ha.isL n = false) : say st n = none := by
  unfold say valOf
  rw [hi, if_neg (by decide)]
  exact rdE_nil
theorem bk_inj {a b : List UInt8} (h : bk a = bk b) : a = b := (List.cons.inj h).2
/-- A store in good order: what names have (f), each its content, and a depth as it may be. -/
structure Bl (st : List Rr) (f : List UInt8 → Option (List UInt8)) : Prop where
  key : ∀ n, Ha.isL n = true → ((getK st (bk n)).isSome = (f n).isSome)
  isl : ∀ n t, f n = some t → Ha.isL n = true
  fc : ∀ n t, f n = some t → content st n = some t
  fd : ∀ n t, f n = some t → dep st 4 n ≤ 3
theorem Bl.no {st : List Rr} {f : List UInt8 → Option (List UInt8)} (h : Bl st f) {n : List UInt8} (hf : f n = none) : say st n = none := by
  cases hi : Ha.isL n with
  | false => exact say_not hi
  | true =>
    have := h.key n hi
    rw [hf] at this
    refine say_no ?_
    cases hg : getK st (bk n) with
    | none => rfl
    | some v => rw [hg] at this; cases this
theorem Bl.conE {st : List Rr} {f : List UInt8 → Option (List UInt8)} (h : Bl st f) (n : List UInt8) : content st n = f n := by
  cases hf : f n with
  | none =>
    have := h.no hf
    show cont st 4 n = none
    rw [cont, this]
  | some t => exact h.fc n t hf
theorem Bl.depE {st : List Rr} {f : List UInt8 → Option (List UInt8)} (h : Bl st f) (n : List UInt8) : depth st n = if (f n).isSome then (dep st 4 n : Int) else -1 := by
  unfold depth
  cases hf : f n with
  | none => rw [if_pos (h.no hf)]; rfl
  | some t => rw [if_neg (say_some (h.fc n t hf))]; rfl
def upd (f : List UInt8 → Option (List UInt8)) (n : List UInt8) (o : Option (List UInt8)) : List UInt8 → Option (List UInt8) := fun m => if m = n then o else f m
theorem Bl.put {st : List Rr} {f : List UInt8 → Option (List UInt8)} (hs : Srt st) (h : Bl st f) {n c v : List UInt8} (hi : Ha.isL n = true) (hf : f n = none) (hv : v.length ≤ 1073741824)
    (hc : (v = 102 :: c) ∨ ∃ b d s, v = 100 :: (b ++ d) ∧ content st b = some s ∧ depth st b < 3 ∧ De.apply s d = some c) :
    Bl (turn st ⟨bk n, v, false⟩) (upd f n (some c)) ∧ (v = 102 :: c → depth (turn st ⟨bk n, v, false⟩) n = 0) ∧ ∀ b d, v = 100 :: (b ++ d) → b.length = 40 → (content st b).isSome → depth st b < 3 → depth (turn st ⟨bk n, v, false⟩) n = depth st b + 1 := by
  have hk : (⟨bk n, v, false⟩ : Rr).Ok := ⟨by simp [bk], by have := isL_len40 hi; simp [bk]; omega, hv, fun e => by cases e⟩
  have hg := getK_turn hs hk
  simp only [Bool.false_eq_true, if_false] at hg
  have hgn : getK (turn st ⟨bk n, v, false⟩) (bk n) = some v := by rw [hg, if_pos rfl]
  have hgo : ∀ m, m ≠ n → getK (turn st ⟨bk n, v, false⟩) (bk m) = getK st (bk m) := fun m hm => by rw [hg, if_neg (fun e => hm (bk_inj e))]
  have hso : ∀ m, m ≠ n → say (turn st ⟨bk n, v, false⟩) m = say st m := fun m hm => by unfold say valOf; rw [hgo m hm]
  have hsn : say st n = none := h.no hf
  have hsay := say_of hi hgn
  have hext := cont_ext hso hsn
  generalize turn st ⟨bk n, v, false⟩ = st' at *
  -- its own content and depth
  have own : content st' n = some c ∧ dep st' 4 n ≤ 3 := by
    rcases hc with rfl | ⟨b, d, s, rfl, h1, h2, h3⟩
    · rw [rdE_w] at hsay
      constructor
      · show cont st' 4 n = some c; rw [cont, hsay]
      · rw [Go.Proofs.YtoddhdionhemjaaGreatDoor.dep, hsay]; exact Nat.zero_le _
    · have hib : Ha.isL b = true := by
        cases hib : Ha.isL b with
        | true => rfl
        | false => exact absurd (say_not hib) (say_some h1)
      rw [rdE_d d (isL_len40 hib)] at hsay
      have hd : dep st 4 b < 3 := by
        unfold depth at h2
        rw [if_neg (say_some h1)] at h2
        omega
      obtain ⟨e1, e2⟩ := cont_short 4 3 b s h1 hd
      obtain ⟨e3, e4⟩ := hext 3 b s e1
      constructor
      · show cont st' 4 n = some c
        rw [cont, hsay]
        show (cont st' 3 b).bind _ = some c
        rw [e3]; exact h3
      · rw [Go.Proofs.YtoddhdionhemjaaGreatDoor.dep, hsay]
        show dep st' 3 b + 1 ≤ 3
        rw [e4, e2]; omega
  refine ⟨⟨fun m hm => ?_, fun m t hm => ?_, fun m t hm => ?_, fun m t hm => ?_⟩, fun hv' => ?_, fun b d hv' hb h1 h2 => ?_⟩
  · by_cases e : m = n
    · rw [e, hgn]; unfold upd; rw [if_pos rfl]; rfl
    · rw [hgo m e, h.key m hm]; unfold upd; rw [if_neg e]
  · by_cases e : m = n
    · rw [e]; exact hi
    · unfold upd at hm; rw [if_neg e] at hm; exact h.isl m t hm
  · by_cases e : m = n
    · unfold upd at hm; rw [if_pos e] at hm; rw [e, ← hm]; exact own.1
    · unfold upd at hm; rw [if_neg e] at hm; exact (hext 4 m t (h.fc m t hm)).1
  · by_cases e : m = n
    · rw [e]; exact own.2
    · unfold upd at hm; rw [if_neg e] at hm; rw [(hext 4 m t (h.fc m t hm)).2]; exact h.fd m t hm
  · rw [hv', rdE_w] at hsay
    unfold depth
    rw [if_neg (by rw [hsay]; simp), Go.Proofs.YtoddhdionhemjaaGreatDoor.dep, hsay]
    rfl
  · rw [hv', rdE_d d hb] at hsay
    obtain ⟨s, hs1⟩ := Option.isSome_iff_exists.1 h1
    have hd : dep st 4 b < 3 := by
      unfold depth at h2
      rw [if_neg (say_some hs1)] at h2
      omega
    obtain ⟨e1, e2⟩ := cont_short 4 3 b s hs1 hd
    obtain ⟨e3, e4⟩ := hext 3 b s e1
    unfold depth
    rw [if_neg (by rw [hsay]; simp), if_neg (say_some hs1), Go.Proofs.YtoddhdionhemjaaGreatDoor.dep, hsay]
    show ((dep st' 3 b + 1 : Nat) : Int) = _
    rw [e4, e2]
    omega
/-! ### A drop -/
theorem mem_rowsN' {st : List Rr} (hs : Srt st) {r : Rr} {m : List UInt8} (hr : r ∈ st) (hk : r.k = bk m) (hi : Ha.isL m = true) : r ∈ rowsN st := by
  unfold rowsN
  rw [List.mem_filter, sel_filter hs, List.mem_filter]
  refine ⟨⟨hr, ?_⟩, ?_⟩
  · rw [begins_iff, hk]; exact ⟨m, rfl⟩
  · unfold nm; rw [hk]; exact hi
theorem rowsN_mem {st : List Rr} (hs : Srt st) {r : Rr} (h : r ∈ rowsN st) : r ∈ st ∧ Ha.isL (r.k.drop 1) = true ∧ r.k = bk (r.k.drop 1) := by
  unfold rowsN at h
  rw [List.mem_filter, sel_filter hs, List.mem_filter] at h
  obtain ⟨t, ht⟩ := (begins_iff [98] r).1 h.1.2
  refine ⟨h.1.1, h.2, ?_⟩
  rw [← ht]
  rfl
/-- What is put in the place of those that stood on a name. -/
def wsL (st : List Rr) (n : List UInt8) : List Rr := (rowsN st).filterMap (dropR st n)
def valW (st : List Rr) (k : List UInt8) : List UInt8 := 102 :: (content st (k.drop 1)).getD []
theorem wsL_mem {st : List Rr} {n : List UInt8} {w : Rr} (h : w ∈ wsL st n) : ∃ r ∈ rowsN st, ∃ e c, rdE r.v = some e ∧ e.base = n ∧ content st (r.k.drop 1) = some c ∧ w = ⟨bk (r.k.drop 1), 102 :: c, false⟩ := by
  obtain ⟨r, hr, hw⟩ := List.mem_filterMap.1 h
  unfold dropR at hw
  cases he : rdE r.v with
  | none => rw [he] at hw; cases hw
  | some e =>
    rw [he] at hw
    simp only [] at hw
    split at hw
    · rename_i hb
      rw [Option.map_eq_some_iff] at hw
      obtain ⟨c, hc, rfl⟩ := hw
      exact ⟨r, hr, e, c, he, hb, hc, rfl⟩
    · cases hw
theorem wsL_val {st : List Rr} {n : List UInt8} : ∀ w ∈ wsL st n, w.g = false ∧ w.v = valW st w.k := fun w hw => by
  obtain ⟨r, _, e, c, _, _, hc, rfl⟩ := wsL_mem hw
  refine ⟨rfl, ?_⟩
  show 102 :: c = 102 :: (content st (List.drop 1 (r.k.drop 1 |> bk))).getD []
  rw [show List.drop 1 (bk (r.k.drop 1)) = r.k.drop 1 from rfl, hc]
  rfl
theorem wsL_key {st : List Rr} (hs : Srt st) {n m : List UInt8} : bk m ∈ (wsL st n).map (·.k) ↔ ∃ v e c, Ha.isL m = true ∧ getK st (bk m) = some v ∧ rdE v = some e ∧ e.base = n ∧ content st m = some c := by
  constructor
  · intro h
    obtain ⟨w, hw, hk⟩ := List.mem_map.1 h
    obtain ⟨r, hr, e, c, he, hb, hc, rfl⟩ := wsL_mem hw
    obtain ⟨h1, h2, h3⟩ := rowsN_mem hs hr
    have hm : r.k.drop 1 = m := bk_inj hk
    rw [hm] at h2 h3 hc
    exact ⟨r.v, e, c, h2, (getK_iff hs _ _).2 ⟨r, h1, h3, rfl⟩, he, hb, hc⟩
  · rintro ⟨v, e, c, hi, hg, he, hb, hc⟩
    obtain ⟨r, hr, hk, rfl⟩ := (getK_iff hs _ _).1 hg
    have hd : r.k.drop 1 = m := by rw [hk]; rfl
    refine List.mem_map.2 ⟨⟨bk m, 102 :: c, false⟩, List.mem_filterMap.2 ⟨r, mem_rowsN' hs hr hk hi, ?_⟩, rfl⟩
    unfold dropR
    rw [he, hd]
    simp only []
    rw [if_pos hb, hc]
    rfl
theorem dropL_is {st : List Rr} {n : List UInt8} (h : valOf st n ≠ none) : dropL st n = wsL st n ++ [⟨bk n, [], true⟩] := by unfold dropL wsL; rw [if_neg h]
theorem wsL_ok {st : List Rr} (hs : Srt st) (hl : ∀ m c, content st m = some c → c.length ≤ 1000000) {n : List UInt8} (hi : Ha.isL n = true) : ∀ r ∈ wsL st n ++ [(⟨bk n, [], true⟩ : Rr)], r.Ok := fun r hr => by
  rcases List.mem_append.1 hr with h | h
  · obtain ⟨q, hq, e, c, _, _, hc, rfl⟩ := wsL_mem h
    obtain ⟨h1, h2, h3⟩ := rowsN_mem hs hq
    have h4 := isL_len40 h2
    exact ⟨by simp [bk], by show (q.k.drop 1).length + 1 ≤ 60; omega, by have := hl _ _ hc; show c.length + 1 ≤ _; omega, fun e => by cases e⟩
  · rw [List.mem_singleton.1 h]
    have h4 := isL_len40 hi
    exact ⟨by simp [bk], by show n.length + 1 ≤ 60; omega, by simp, fun _ => rfl⟩
theorem turns_snoc (st : List Rr) (ws : List Rr) (r : Rr) : turns st (ws ++ [r]) = turn (turns st ws) r := by unfold turns; rw [List.foldl_append]; rfl
theorem Bl.drop {st : List Rr} {f : List UInt8 → Option (List UInt8)} (hs : Srt st) (h : Bl st f) (hl : ∀ m c, content st m = some c → c.length ≤ 1000000) {n : List UInt8} (hi : Ha.isL n = true) :
    Bl (turns st (wsL st n ++ [⟨bk n, [], true⟩])) (upd f n none) := by
  have hok := wsL_ok hs hl hi (n := n)
  have hokw : ∀ r ∈ wsL st n, r.Ok := fun r hr => hok r (List.mem_append_left _ hr)
  have hgr : (⟨bk n, [], true⟩ : Rr).Ok := hok _ (List.mem_append_right _ (List.mem_singleton.2 rfl))
  have hg1 := getK_turns (wsL st n) st hs hokw wsL_val
  have hs1 := hs.turns (wsL st n) hokw
  have hg2 := getK_turn hs1 hgr
  simp only [if_true] at hg2
  rw [turns_snoc]
  have hgo : ∀ m, m ≠ n → getK (turn (turns st (wsL st n)) ⟨bk n, [], true⟩) (bk m) = if bk m ∈ (wsL st n).map (·.k) then some (valW st (bk m)) else getK st (bk m) := fun m hm => by
    rw [hg2, if_neg (fun e => hm (bk_inj e)), hg1]
  have hgn : getK (turn (turns st (wsL st n)) ⟨bk n, [], true⟩) (bk n) = none := by rw [hg2, if_pos rfl]
  generalize turn (turns st (wsL st n)) ⟨bk n, [], true⟩ = st' at *
  -- what a name says behind it
  have hsay : ∀ m, m ≠ n → (say st' m = say st m ∧ ∀ d, say st m = some (.d n d) → content st m = none) ∨ ∃ c, content st m = some c ∧ say st' m = some (.w c) := fun m hm => by
    have hg := hgo m hm
    by_cases hk : bk m ∈ (wsL st n).map (·.k)
    · obtain ⟨v, e, c, hi', _, _, _, hc⟩ := (wsL_key hs).1 hk
      rw [if_pos hk] at hg
      refine .inr ⟨c, hc, ?_⟩
      rw [say_of hi' hg]
      show rdE (102 :: (content st (List.drop 1 (bk m))).getD []) = _
      rw [show List.drop 1 (bk m) = m from rfl, hc]
      exact rdE_w c
    · rw [if_neg hk] at hg
      refine .inl ⟨by unfold say valOf; rw [hg], fun d hd => ?_⟩
      cases hc : content st m with
      | none => rfl
      | some c =>
        exfalso
        apply hk
        have hi' : Ha.isL m = true := by
          cases hi' : Ha.isL m with
          | true => rfl
          | false => rw [say_not hi'] at hd; cases hd
        cases hgm : getK st (bk m) with
        | none => rw [say_no hgm] at hd; cases hd
        | some v =>
          rw [say_of hi' hgm] at hd
          exact (wsL_key hs).2 ⟨v, .d n d, c, hi', hgm, hd, rfl, hc⟩
  have ext : ∀ (k : Nat) (m t : List UInt8), k ≤ 4 → m ≠ n → cont st k m = some t → cont st' k m = some t ∧ dep st' k m ≤ dep st k m := by
    intro k
    induction k with
    | zero => intro m t _ _ h; cases h
    | succ k ih =>
      intro m t hk hm hc
      have hcm : content st m = some t := cont_le hk hc
      rcases hsay m hm with ⟨h1, h2⟩ | ⟨c, h1, h2⟩
      · rw [cont] at hc ⊢
        rw [dep, dep, h1]
        cases he : say st m with
        | none => rw [he] at hc; cases hc
        | some e =>
          rw [he] at hc
          cases e with
          | w q => exact ⟨hc, Nat.le_refl _⟩
          | d b d =>
            simp only [Option.bind_eq_some_iff] at hc
            obtain ⟨q, hq, hd⟩ := hc
            have hbn : b ≠ n := fun e => by
              have := h2 d (by rw [he, e])
              rw [hcm] at this; cases this
            obtain ⟨e1, e2⟩ := ih b q (by omega) hbn hq
            refine ⟨?_, by show dep st' k b + 1 ≤ dep st k b + 1; omega⟩
            show (cont st' k b).bind _ = some t
            rw [e1]; exact hd
      · rw [hcm] at h1
        cases h1
        rw [cont, dep, h2]
        exact ⟨rfl, Nat.zero_le _⟩
  refine ⟨fun m hm => ?_, fun m t hm => ?_, fun m t hm => ?_, fun m t hm => ?_⟩
  · by_cases e : m = n
    · rw [e, hgn]; unfold upd; rw [if_pos rfl]
    · unfold upd
      rw [if_neg e, ← h.key m hm, hgo m e]
      split
      · rename_i hk
        obtain ⟨v, _, _, _, hg, _⟩ := (wsL_key hs).1 hk
        rw [hg]
        rfl
      · rfl
  · unfold upd at hm
    split at hm
    · cases hm
    · exact h.isl m t hm
  · unfold upd at hm
    split at hm
    · cases hm
    · rename_i e
      exact (ext 4 m t (Nat.le_refl _) e (h.fc m t hm)).1
  · unfold upd at hm
    split at hm
    · cases hm
    · rename_i e
      have := (ext 4 m t (Nat.le_refl _) e (h.fc m t hm)).2
      have := h.fd m t hm
      omega
/-- P8.3: Check. -/
theorem Bl.check {st : List Rr} {f : List UInt8 → Option (List UInt8)} (hs : Srt st) (h : Bl st f) (hsum : ∀ n t, f n = some t → Ha.sumL t = n) : checkB st = true := by
  unfold checkB
  rw [List.all_eq_true]
  intro r hr
  obtain ⟨h1, h2, h3⟩ := rowsN_mem hs hr
  have hk := h.key _ h2
  rw [← h3, (getK_iff hs r.k r.v).2 ⟨r, h1, rfl, rfl⟩] at hk
  obtain ⟨t, ht⟩ := Option.isSome_iff_exists.1 hk.symm
  unfold okR
  rw [h.conE, ht]
  simp only []
  rw [hsum _ t ht, h.depE, ht]
  have h5 := h.fd _ t ht
  generalize dep st 4 (r.k.drop 1) = d at h5
  simp
  omega
theorem Bl.nil : Bl [] (fun _ => none) := ⟨fun n _ => rfl, fun _ _ h => (by cases h), fun _ _ h => (by cases h), fun _ _ h => (by cases h)⟩
end Go.Proofs.YtoddhdionhemjaaGreatDoor
