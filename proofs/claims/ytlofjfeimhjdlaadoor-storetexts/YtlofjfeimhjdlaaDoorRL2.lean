/- WHAT A STORE HOLDS, as plain data: rows by rising keys; turned by rows; found; those whose keys begin so. Nothing of the program. -/
import Derived.Test.YtlofjfeimhjdlaaDoorRL
namespace Go.Proofs.YtlofjfeimhjdlaaDoor

/-- How many rows stand ahead of a key. -/
def pos (st : List Rr) (k : List UInt8) : Nat := (st.takeWhile (fun x => decide (Lt x.k k))).length
/-- Is there a row of that key? -/
def hasK (st : List Rr) (k : List UInt8) : Bool := (st[pos st k]?).any (fun x => decide (x.k = k))
/-- A row is done. -/
def turn (st : List Rr) (r : Rr) : List Rr := st.take (pos st r.k) ++ ((if r.g = true then [] else [r]) ++ st.drop (if hasK st r.k = true then pos st r.k + 1 else pos st r.k))
def turns (st : List Rr) (rs : List Rr) : List Rr := rs.foldl turn st
/-- A text is done: what is no rows' text is nothing. -/
def doT (st : List Rr) (t : List UInt8) : List Rr := match rread t with
  | some rs => turns st rs
  | none => st
def replay (ts : List (List UInt8)) : List Rr := ts.foldl doT []
/-- Rows by rising keys, none of them gone. -/
structure Srt (st : List Rr) : Prop where
  up : st.Pairwise (fun a b => Lt a.k b.k)
  ok : ∀ x ∈ st, x.g = false ∧ x.Ok
theorem pos_le (st : List Rr) (k : List UInt8) : pos st k ≤ st.length := by
  unfold pos
  exact (List.takeWhile_sublist _).length_le
theorem pos_take (st : List Rr) (k : List UInt8) : st.take (pos st k) = st.takeWhile (fun x => decide (Lt x.k k)) := (List.prefix_iff_eq_take.1 (List.takeWhile_prefix _)).symm
theorem pos_drop (st : List Rr) (k : List UInt8) : st.drop (pos st k) = st.dropWhile (fun x => decide (Lt x.k k)) := by
  have h : st = st.takeWhile (fun x => decide (Lt x.k k)) ++ st.dropWhile (fun x => decide (Lt x.k k)) := (List.takeWhile_append_dropWhile (p := fun x : Rr => decide (Lt x.k k)) (l := st)).symm
  unfold pos
  generalize st.takeWhile (fun x => decide (Lt x.k k)) = a at h ⊢
  generalize st.dropWhile (fun x => decide (Lt x.k k)) = b at h ⊢
  rw [h, List.drop_left]
theorem pos_lo (st : List Rr) (k : List UInt8) : ∀ x ∈ st.take (pos st k), Lt x.k k := fun x hx => by
  rw [pos_take] at hx
  have := List.all_takeWhile (p := fun x : Rr => decide (Lt x.k k)) (l := st)
  simpa using List.all_eq_true.1 this x hx
theorem pos_hi {st : List Rr} (h : st.Pairwise (fun a b => Lt a.k b.k)) (k : List UInt8) : ∀ x ∈ st.drop (pos st k), ¬ Lt x.k k := fun x hx => by
  rw [pos_drop] at hx
  have hs : (st.dropWhile (fun x => decide (Lt x.k k))).Pairwise (fun a b => Lt a.k b.k) := h.sublist (List.dropWhile_sublist _)
  cases hd : st.dropWhile (fun x => decide (Lt x.k k)) with
  | nil => rw [hd] at hx; cases hx
  | cons y r =>
    have hy : ¬ Lt y.k k := by
      have := List.head?_dropWhile_not (p := fun x : Rr => decide (Lt x.k k)) (l := st)
      rw [hd] at this
      simpa using this
    rw [hd] at hx hs
    rcases List.mem_cons.1 hx with rfl | hx
    · exact hy
    · intro hl
      exact hy (((List.pairwise_cons.1 hs).1 x hx).trans hl)
/-- A row stands ahead of the key just if its place is ahead of the key's. -/
theorem pos_iff {st : List Rr} (h : st.Pairwise (fun a b => Lt a.k b.k)) (k : List UInt8) {i : Nat} {x : Rr} (hi : st[i]? = some x) : Lt x.k k ↔ i < pos st k := by
  constructor
  · intro hl
    by_cases hlt : i < pos st k
    · exact hlt
    · refine absurd hl (pos_hi h k x (List.mem_of_getElem? (i := i - pos st k) ?_))
      rw [List.getElem?_drop, show pos st k + (i - pos st k) = i by omega]; exact hi
  · intro hlt
    refine pos_lo st k x (List.mem_of_getElem? (i := i) ?_)
    rw [List.getElem?_take, if_pos hlt]; exact hi
theorem hasK_row {st : List Rr} {k : List UInt8} (h : hasK st k = true) : ∃ x, st[pos st k]? = some x ∧ x.k = k := by
  unfold hasK at h
  cases h0 : st[pos st k]? with
  | none => rw [h0] at h; cases h
  | some x => rw [h0] at h; exact ⟨x, rfl, by simpa using h⟩
theorem hasK_no {st : List Rr} {k : List UInt8} (h : hasK st k = false) {x : Rr} (hx : st[pos st k]? = some x) : x.k ≠ k := by
  unfold hasK at h
  rw [hx] at h
  simpa using h
theorem hasK_mem {st : List Rr} (h : st.Pairwise (fun a b => Lt a.k b.k)) (k : List UInt8) : hasK st k = true ↔ ∃ x ∈ st, x.k = k := by
  constructor
  · intro h1
    obtain ⟨x, h2, h3⟩ := hasK_row h1
    exact ⟨x, List.mem_of_getElem? h2, h3⟩
  · rintro ⟨x, hx, rfl⟩
    obtain ⟨i, hi, e⟩ := List.mem_iff_getElem.1 hx
    have hx' : st[i]? = some x := by rw [List.getElem?_eq_getElem hi, e]
    have h1 : ¬ i < pos st x.k := fun hl => Lt.irr x.k ((pos_iff h x.k hx').2 hl)
    have h2 : ¬ pos st x.k < i := fun hl => by
      have hp : pos st x.k < st.length := by omega
      have h4 := List.pairwise_iff_getElem.1 h _ _ hp hi hl
      rw [e] at h4
      exact Nat.lt_irrefl _ ((pos_iff h x.k (List.getElem?_eq_getElem hp)).1 h4)
    have h3 : pos st x.k = i := by omega
    unfold hasK
    rw [h3, hx']
    simp
/-- What is behind, of what is done. -/
theorem tail_hi {st : List Rr} (h : Srt st) (k : List UInt8) : ∀ x ∈ st.drop (if hasK st k = true then pos st k + 1 else pos st k), Lt k x.k := fun x hx => by
  obtain ⟨i, hi, e⟩ := List.mem_iff_getElem.1 hx
  have hg : st[(if hasK st k = true then pos st k + 1 else pos st k) + i]? = some x := by rw [← List.getElem?_drop, List.getElem?_eq_getElem hi, e]
  by_cases hh : hasK st k = true
  · rw [if_pos hh] at hg
    obtain ⟨y, hy, rfl⟩ := hasK_row hh
    obtain ⟨h1, e1⟩ := List.getElem?_eq_some_iff.1 hy
    obtain ⟨h2, e2⟩ := List.getElem?_eq_some_iff.1 hg
    have h3 := List.pairwise_iff_getElem.1 h.up _ _ h1 h2 (by omega)
    rw [e1, e2] at h3
    exact h3
  · rw [if_neg hh] at hg
    have h1 : ¬ Lt x.k k := fun hl => by have := (pos_iff h.up k hg).1 hl; omega
    have h2 : x.k ≠ k := fun e2 => hh ((hasK_mem h.up k).2 ⟨x, List.mem_of_getElem? hg, e2⟩)
    by_cases h3 : Lt k x.k
    · exact h3
    · exact absurd (Lt.tri h1 h3) h2
theorem Srt.nil : Srt [] := ⟨List.Pairwise.nil, fun x hx => by cases hx⟩
theorem Srt.turn {st : List Rr} (h : Srt st) {r : Rr} (hr : r.Ok) : Srt (turn st r) := by
  have hlo := pos_lo st r.k
  have hhi := tail_hi h r.k
  refine ⟨List.pairwise_append.2 ⟨h.up.sublist (List.take_sublist _ _), List.pairwise_append.2 ⟨?_, h.up.sublist (List.drop_sublist _ _), fun a ha b hb => ?_⟩, fun a ha b hb => ?_⟩, fun x hx => ?_⟩
  · split
    · exact List.Pairwise.nil
    · exact List.pairwise_singleton _ _
  · split at ha
    · cases ha
    · rw [List.mem_singleton.1 ha]; exact hhi b hb
  · rcases List.mem_append.1 hb with hb | hb
    · split at hb
      · cases hb
      · rw [List.mem_singleton.1 hb]; exact hlo a ha
    · exact (hlo a ha).trans (hhi b hb)
  · rcases List.mem_append.1 hx with hx | hx
    · exact h.ok x (List.mem_of_mem_take hx)
    · rcases List.mem_append.1 hx with hx | hx
      · split at hx
        · cases hx
        · rename_i hg
          rw [List.mem_singleton.1 hx]; exact ⟨by simpa using hg, hr⟩
      · exact h.ok x (List.mem_of_mem_drop hx)
theorem Srt.turns {st : List Rr} (h : Srt st) : ∀ (rs : List Rr), (∀ r ∈ rs, r.Ok) → Srt (turns st rs) := fun rs => by
  induction rs generalizing st with
  | nil => intro _; exact h
  | cons r rs ih => intro hr; exact ih (h.turn (hr r (by simp))) (fun x hx => hr x (by simp [hx]))
theorem Srt.doT {st : List Rr} (h : Srt st) (t : List UInt8) : Srt (doT st t) := by
  unfold Go.Proofs.YtlofjfeimhjdlaaDoor.doT
  split
  · rename_i rs hr; exact h.turns rs (rread_is hr).2
  · exact h
theorem replay_snoc (ts : List (List UInt8)) (t : List UInt8) : replay (ts ++ [t]) = doT (replay ts) t := by simp [replay]
theorem replay_srt (ts : List (List UInt8)) : Srt (replay ts) := by
  unfold replay
  suffices ∀ (ts : List (List UInt8)) st, Srt st → Srt (ts.foldl doT st) from this ts [] Srt.nil
  intro ts
  induction ts with
  | nil => intro st h; exact h
  | cons t ts ih => intro st h; exact ih _ (h.doT t)
theorem turn_len (st : List Rr) (r : Rr) : (turn st r).length ≤ st.length + 1 := by
  unfold turn
  have := pos_le st r.k
  simp only [List.length_append, List.length_take, List.length_drop]
  have h2 : (if r.g = true then ([] : List Rr) else [r]).length ≤ 1 := by split <;> simp
  have h3 : pos st r.k ≤ (if hasK st r.k = true then pos st r.k + 1 else pos st r.k) := by split <;> omega
  omega
theorem turns_len : ∀ (rs st : List Rr), (turns st rs).length ≤ st.length + rs.length
  | [], st => Nat.le_refl _
  | r :: rs, st => by
    have h1 := turns_len rs (turn st r)
    have h2 := turn_len st r
    show (turns (turn st r) rs).length ≤ _
    simp only [List.length_cons]; omega
theorem rt_len (r : Rr) : 1 ≤ (rt r).length := by unfold rt; simp only [List.length_append, List.length_cons]; omega
theorem rtext_len : ∀ rs : List Rr, rs.length ≤ (rtext rs).length
  | [] => Nat.le_refl _
  | r :: rs => by rw [rtext, List.length_append, List.length_cons]; have := rt_len r; have := rtext_len rs; omega
theorem doT_len (st : List Rr) (t : List UInt8) : (doT st t).length ≤ st.length + t.length := by
  unfold doT
  split
  · rename_i rs h
    have h1 := turns_len rs st
    have h2 := rtext_len rs
    rw [(rread_is h).1] at h2
    omega
  · omega
/-- Which rows there are when one is done. -/
theorem mem_turn {st : List Rr} (h : Srt st) (r x : Rr) : x ∈ turn st r ↔ (x ∈ st ∧ x.k ≠ r.k) ∨ (r.g = false ∧ x = r) := by
  have hlo := pos_lo st r.k
  have hhi := tail_hi h r.k
  have hsplit : ∀ x ∈ st, x.k ≠ r.k → x ∈ st.take (pos st r.k) ∨ x ∈ st.drop (if hasK st r.k = true then pos st r.k + 1 else pos st r.k) := fun x hx hk => by
    obtain ⟨i, hi, e⟩ := List.mem_iff_getElem.1 hx
    have hg : st[i]? = some x := by rw [List.getElem?_eq_getElem hi, e]
    by_cases h1 : i < pos st r.k
    · exact .inl (List.mem_of_getElem? (i := i) (by rw [List.getElem?_take, if_pos h1]; exact hg))
    · refine .inr ?_
      by_cases hh : hasK st r.k = true
      · rw [if_pos hh]
        obtain ⟨y, hy, hyk⟩ := hasK_row hh
        have hne : i ≠ pos st r.k := fun e2 => by rw [e2, hy] at hg; cases hg; exact hk hyk
        exact List.mem_of_getElem? (i := i - (pos st r.k + 1)) (by rw [List.getElem?_drop, show pos st r.k + 1 + (i - (pos st r.k + 1)) = i by omega]; exact hg)
      · rw [if_neg hh]
        exact List.mem_of_getElem? (i := i - pos st r.k) (by rw [List.getElem?_drop, show pos st r.k + (i - pos st r.k) = i by omega]; exact hg)
  unfold turn
  rw [List.mem_append, List.mem_append]
  constructor
  · rintro (hx | hx | hx)
    · exact .inl ⟨List.mem_of_mem_take hx, fun e => Lt.irr r.k (e ▸ hlo x hx)⟩
    · split at hx
      · cases hx
      · rename_i hg; exact .inr ⟨by simpa using hg, List.mem_singleton.1 hx⟩
    · exact .inl ⟨List.mem_of_mem_drop hx, fun e => Lt.irr r.k (e ▸ hhi x hx)⟩
  · rintro (⟨hx, hk⟩ | ⟨hg, rfl⟩)
    · rcases hsplit x hx hk with h1 | h1
      · exact .inl h1
      · exact .inr (.inr h1)
    · exact .inr (.inl (by rw [if_neg (by simp [hg])]; simp))
/-- Two rows of one key are one. -/
theorem Srt.one {st : List Rr} (h : Srt st) {x y : Rr} (hx : x ∈ st) (hy : y ∈ st) (e : x.k = y.k) : x = y := by
  obtain ⟨i, hi, ei⟩ := List.mem_iff_getElem.1 hx
  obtain ⟨j, hj, ej⟩ := List.mem_iff_getElem.1 hy
  rcases Nat.lt_trichotomy i j with hl | rfl | hl
  · have := List.pairwise_iff_getElem.1 h.up _ _ hi hj hl
    rw [ei, ej, e] at this
    exact absurd this (Lt.irr _)
  · rw [← ei, ← ej]
  · have := List.pairwise_iff_getElem.1 h.up _ _ hj hi hl
    rw [ei, ej, e] at this
    exact absurd this (Lt.irr _)
/-- What a key has. -/
def getK (st : List Rr) (k : List UInt8) : Option (List UInt8) := if hasK st k = true then (st[pos st k]?).map (·.v) else none
theorem getK_mem {st : List Rr} (h : Srt st) {x : Rr} (hx : x ∈ st) : getK st x.k = some x.v := by
  have hh := (hasK_mem h.up x.k).2 ⟨x, hx, rfl⟩
  unfold getK
  rw [if_pos hh]
  obtain ⟨y, hy, e⟩ := hasK_row hh
  rw [hy, h.one (List.mem_of_getElem? hy) hx e]
  rfl
theorem getK_none {st : List Rr} (h : Srt st) {k : List UInt8} (hk : ∀ x ∈ st, x.k ≠ k) : getK st k = none := by
  unfold getK
  rw [if_neg]
  intro hh
  obtain ⟨x, hx, e⟩ := (hasK_mem h.up k).1 hh
  exact hk x hx e
/-- Those whose keys begin so. -/
def begins (p : List UInt8) (r : Rr) : Bool := decide (r.k.take p.length = p)
theorem begins_iff (p : List UInt8) (r : Rr) : begins p r = true ↔ p <+: r.k := by
  unfold begins
  rw [decide_eq_true_iff, List.prefix_iff_eq_take]
  exact eq_comm
def sel (st : List Rr) (p : List UInt8) : List Rr := (st.drop (pos st p)).takeWhile (begins p)
theorem sel_len (st : List Rr) (p : List UInt8) : (sel st p).length ≤ st.length - pos st p := by
  have := (List.takeWhile_sublist (begins p) (l := st.drop (pos st p))).length_le
  rw [List.length_drop] at this
  exact this
theorem pos_nil (st : List Rr) : pos st [] = 0 := by
  unfold pos
  cases st with
  | nil => rfl
  | cons x st =>
    have : ¬ Lt x.k [] := by unfold Lt; cases x.k <;> simp [Lib.compareBytes]
    rw [List.takeWhile_cons_of_neg (by simpa using this)]
    rfl
theorem sel_nil (st : List Rr) : sel st [] = st := by
  unfold sel
  rw [pos_nil, List.drop_zero]
  have : ∀ x : Rr, begins [] x = true := fun x => by simp [begins]
  induction st with
  | nil => rfl
  | cons x st ih => rw [List.takeWhile_cons_of_pos (this x), ih]
/-- They are all that begin so. -/
theorem sel_filter {st : List Rr} (h : Srt st) (p : List UInt8) : sel st p = st.filter (begins p) := by
  have h1 : ∀ x ∈ st.take (pos st p), begins p x = false := fun x hx => by
    by_cases hb : begins p x = true
    · obtain ⟨t, ht⟩ := (begins_iff p x).1 hb
      have := pos_lo st p x hx
      rw [← ht] at this
      exact absurd this (not_lt_prefix p t)
    · simpa using hb
  have h2 : st.filter (begins p) = (st.drop (pos st p)).filter (begins p) := by
    conv => lhs; rw [← List.take_append_drop (pos st p) st]
    rw [List.filter_append, List.filter_eq_nil_iff.2 (fun x hx => by rw [h1 x hx]; decide), List.nil_append]
  rw [h2]
  unfold sel
  have hup : (st.drop (pos st p)).Pairwise (fun a b => Lt a.k b.k) := h.up.sublist (List.drop_sublist _ _)
  have hhi := pos_hi h.up p
  generalize st.drop (pos st p) = l at hup hhi
  induction l with
  | nil => rfl
  | cons x l ih =>
    by_cases hb : begins p x = true
    · rw [List.takeWhile_cons_of_pos hb, List.filter_cons_of_pos hb, ih (List.pairwise_cons.1 hup).2 (fun y hy => hhi y (by simp [hy]))]
    · rw [List.takeWhile_cons_of_neg hb, List.filter_cons_of_neg hb]
      symm
      rw [List.filter_eq_nil_iff]
      intro y hy hby
      obtain ⟨t, ht⟩ := (begins_iff p y).1 hby
      have h3 := (List.pairwise_cons.1 hup).1 y hy
      rw [← ht] at h3
      exact hb ((begins_iff p x).2 (prefix_mid p x.k t (hhi x (by simp)) h3))
end Go.Proofs.YtlofjfeimhjdlaaDoor
