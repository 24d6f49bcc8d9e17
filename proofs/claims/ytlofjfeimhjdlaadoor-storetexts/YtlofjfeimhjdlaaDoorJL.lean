/- PLAIN: the pieces of a text, what the sectors of a disk say, what is written, torn or not. Nothing of the program. -/
import Derived.Test.YtlofjfeimhjdlaaDoorDkW6
namespace Go.Proofs.YtlofjfeimhjdlaaDoor

def pc (s : List UInt8) (m : UInt8) : List UInt8 := UInt8.ofNat s.length :: (s ++ (List.replicate (30 - s.length) 0 ++ [m]))
theorem pc_len {s : List UInt8} (h : s.length ≤ 30) (m : UInt8) : (pc s m).length = 32 := by simp [pc]; omega
theorem pc_0 (s : List UInt8) (m : UInt8) : (pc s m).getD 0 0 = UInt8.ofNat s.length := rfl
theorem pc_31 {s : List UInt8} (h : s.length ≤ 30) (m : UInt8) : (pc s m).getD 31 0 = m := by
  simp only [pc, List.getD_cons_succ]
  rw [List.getD_eq_getElem?_getD, List.getElem?_append_right (by omega), List.getElem?_append_right (by simp)]
  simp only [List.length_replicate]
  rw [show 30 - s.length - (30 - s.length) = 0 by omega]
  rfl
theorem pc_t (s : List UInt8) (m : UInt8) : ((pc s m).drop 1).take s.length = s := by simp [pc]
def pieces (s : List UInt8) : List (List UInt8) := if s.length ≤ 30 then [pc s 2] else pc (s.take 30) 1 :: pieces (s.drop 30)
termination_by s.length
decreasing_by simp; omega
theorem pieces_short {s : List UInt8} (h : s.length ≤ 30) : pieces s = [pc s 2] := by rw [pieces, if_pos h]
theorem pieces_long {s : List UInt8} (h : ¬ s.length ≤ 30) : pieces s = pc (s.take 30) 1 :: pieces (s.drop 30) := by rw [pieces, if_neg h]
theorem pieces_ind {C : List UInt8 → Prop} (h1 : ∀ s, s.length ≤ 30 → C s) (h2 : ∀ s, ¬ s.length ≤ 30 → C (s.drop 30) → C s) : ∀ (n : Nat) (s : List UInt8), s.length ≤ n → C s
  | 0, s, h => h1 s (by omega)
  | n + 1, s, h => by
    by_cases hs : s.length ≤ 30
    · exact h1 s hs
    · exact h2 s hs (pieces_ind h1 h2 n _ (by simp; omega))
theorem pieces_len (s : List UInt8) : (pieces s).length = max 1 ((s.length + 29) / 30) := by
  refine pieces_ind (C := fun s => (pieces s).length = max 1 ((s.length + 29) / 30)) (fun s h => ?_) (fun s h ih => ?_) _ s (Nat.le_refl _)
  · rw [pieces_short h]; simp; omega
  · rw [pieces_long h]; simp only [List.length_cons, ih, List.length_drop]; omega
theorem pieces_pos (s : List UInt8) : 1 ≤ (pieces s).length := by rw [pieces_len]; omega
/-- Every piece but the last: full, its mark 1; the last one: its mark 2. -/
theorem pieces_at (s : List UInt8) : ∀ (i : Nat) (p : List UInt8), (pieces s)[i]? = some p → p.length = 32 ∧ (p.getD 0 0).toNat ≤ 30 ∧ (i + 1 < (pieces s).length → p.getD 31 0 = 1 ∧ (p.getD 0 0).toNat = 30) ∧ (i + 1 = (pieces s).length → p.getD 31 0 = 2) := by
  have o30 : ∀ n, n ≤ 30 → (UInt8.ofNat n).toNat = n := fun n hn => by rw [UInt8.toNat_ofNat']; omega
  refine pieces_ind (C := fun s => ∀ (i : Nat) (p : List UInt8), (pieces s)[i]? = some p → p.length = 32 ∧ (p.getD 0 0).toNat ≤ 30 ∧ (i + 1 < (pieces s).length → p.getD 31 0 = 1 ∧ (p.getD 0 0).toNat = 30) ∧ (i + 1 = (pieces s).length → p.getD 31 0 = 2)) (fun s h => ?_) (fun s h ih => ?_) _ s (Nat.le_refl _)
  · rw [pieces_short h]
    intro i p hp
    match i, hp with
    | 0, hp =>
      cases hp
      exact ⟨pc_len h 2, by rw [pc_0, o30 _ h]; exact h, (fun h => by simp at h), fun _ => pc_31 h 2⟩
  · have hl : (s.take 30).length = 30 := by simp; omega
    rw [pieces_long h]
    intro i p hp
    match i, hp with
    | 0, hp =>
      cases hp
      refine ⟨pc_len (by omega) 1, by rw [pc_0, hl]; decide, fun _ => ⟨pc_31 (by omega) 1, by rw [pc_0, hl]; rfl⟩, fun he => ?_⟩
      have := pieces_pos (s.drop 30)
      rw [List.length_cons] at he; omega
    | i + 1, hp =>
      obtain ⟨a, b, c, e⟩ := ih i p hp
      exact ⟨a, b, fun hi => c (by simp at hi; omega), fun hi => e (by simp at hi; omega)⟩
/-- What a reader of sectors knows: what it has read of a text; the texts, and where the last one ended. -/
def scanA : List (List UInt8) → Nat → List UInt8 → List (List UInt8) × Nat → List (List UInt8) × Nat
  | [], _, _, r => r
  | s :: ss, i, t, r =>
    if 30 < (s.getD 0 0).toNat then r
    else if s.getD 31 0 = 1 then scanA ss (i + 1) (t ++ (s.drop 1).take (s.getD 0 0).toNat) r
    else if s.getD 31 0 = 2 then scanA ss (i + 1) [] (r.1 ++ [t ++ (s.drop 1).take (s.getD 0 0).toNat], i + 1)
    else r
def scan (ss : List (List UInt8)) : List (List UInt8) × Nat := scanA ss 0 [] ([], 0)
theorem scanA_big {s : List UInt8} {ss i t r} (h : 30 < (s.getD 0 0).toNat) : scanA (s :: ss) i t r = r := by rw [scanA, if_pos h]
theorem scanA_1 {s : List UInt8} {ss i t r} (h : ¬ 30 < (s.getD 0 0).toNat) (h1 : s.getD 31 0 = 1) : scanA (s :: ss) i t r = scanA ss (i + 1) (t ++ (s.drop 1).take (s.getD 0 0).toNat) r := by rw [scanA, if_neg h, if_pos h1]
theorem scanA_2 {s : List UInt8} {ss i t r} (h : ¬ 30 < (s.getD 0 0).toNat) (h2 : s.getD 31 0 = 2) : scanA (s :: ss) i t r = scanA ss (i + 1) [] (r.1 ++ [t ++ (s.drop 1).take (s.getD 0 0).toNat], i + 1) := by
  rw [scanA, if_neg h, if_neg (by rw [h2]; decide), if_pos h2]
theorem scanA_no {s : List UInt8} {ss i t r} (h1 : s.getD 31 0 ≠ 1) (h2 : s.getD 31 0 ≠ 2) : scanA (s :: ss) i t r = r := by
  rw [scanA, if_neg h1, if_neg h2]; split <;> rfl
theorem scanA_pieces (s : List UInt8) : ∀ (rest : List (List UInt8)) (i : Nat) (t : List UInt8) (r : List (List UInt8) × Nat),
    scanA (pieces s ++ rest) i t r = scanA rest (i + (pieces s).length) [] (r.1 ++ [t ++ s], i + (pieces s).length) := by
  have o30 : ∀ n, n ≤ 30 → (UInt8.ofNat n).toNat = n := fun n hn => by rw [UInt8.toNat_ofNat']; omega
  refine pieces_ind (C := fun s => ∀ (rest : List (List UInt8)) (i : Nat) (t : List UInt8) (r : List (List UInt8) × Nat),
    scanA (pieces s ++ rest) i t r = scanA rest (i + (pieces s).length) [] (r.1 ++ [t ++ s], i + (pieces s).length)) (fun s h => ?_) (fun s h ih => ?_) _ s (Nat.le_refl _)
  · intro rest i t r
    rw [pieces_short h]
    show scanA (pc s 2 :: rest) i t r = _
    rw [scanA_2 (by rw [pc_0, o30 _ h]; omega) (pc_31 h 2), pc_0, o30 _ h, pc_t]
    rfl
  · intro rest i t r
    have hl : (s.take 30).length = 30 := by simp; omega
    rw [pieces_long h]
    show scanA (pc (s.take 30) 1 :: (pieces (s.drop 30) ++ rest)) i t r = _
    have e := pc_t (s.take 30) 1
    rw [hl] at e
    rw [scanA_1 (by rw [pc_0, hl]; decide) (pc_31 (by omega) 1), ih, pc_0, hl]
    rw [show (UInt8.ofNat 30).toNat = 30 from rfl, e, List.append_assoc, List.take_append_drop, List.length_cons, show i + 1 + (pieces (s.drop 30)).length = i + ((pieces (s.drop 30)).length + 1) by omega]
theorem scanA_none : ∀ (rest : List (List UInt8)) (i : Nat) (t : List UInt8) (r : List (List UInt8) × Nat), (∀ s ∈ rest, s.getD 31 0 ≠ 2) → scanA rest i t r = r
  | [], _, _, _, _ => rfl
  | s :: rest, i, t, r, h => by
    have h2 := h s (by simp)
    by_cases hb : 30 < (s.getD 0 0).toNat
    · exact scanA_big hb
    · by_cases h1 : s.getD 31 0 = 1
      · rw [scanA_1 hb h1]; exact scanA_none rest _ _ _ fun x hx => h x (by simp [hx])
      · exact scanA_no h1 h2
def flat (ts : List (List UInt8)) : List (List UInt8) := ts.flatMap pieces
theorem flat_snoc (ts : List (List UInt8)) (s : List UInt8) : flat (ts ++ [s]) = flat ts ++ pieces s := by simp [flat]
theorem scanA_flat : ∀ (ts : List (List UInt8)) (rest : List (List UInt8)) (i : Nat) (R : List (List UInt8)), scanA (flat ts ++ rest) i [] (R, i) = scanA rest (i + (flat ts).length) [] (R ++ ts, i + (flat ts).length)
  | [], rest, i, R => by simp [flat]
  | s :: ts, rest, i, R => by
    have e : flat (s :: ts) = pieces s ++ flat ts := rfl
    rw [e, List.append_assoc, scanA_pieces, List.nil_append, scanA_flat ts, List.length_append, List.append_assoc, Nat.add_assoc]
    rfl
/-- The sectors are these texts', and behind them none ends a text. -/
def Holds (ss ts : List (List UInt8)) : Prop := ∃ rest, ss = flat ts ++ rest ∧ ∀ s ∈ rest, s.getD 31 0 ≠ 2
theorem Holds.scan_eq {ss ts : List (List UInt8)} (h : Holds ss ts) : scan ss = (ts, (flat ts).length) := by
  obtain ⟨rest, rfl, h2⟩ := h
  show scanA _ 0 [] ([], 0) = _
  rw [scanA_flat, scanA_none _ _ _ _ h2]
  simp
theorem Holds.le {ss ts : List (List UInt8)} (h : Holds ss ts) : (flat ts).length ≤ ss.length := by
  obtain ⟨rest, rfl, h2⟩ := h
  simp
theorem Holds.new (n : Nat) : Holds (List.replicate n (List.replicate 32 0)) [] := ⟨_, rfl, fun s hs => by rw [List.eq_of_mem_replicate hs]; decide⟩
/-- Sectors written one behind the other, up to the first write that fails. -/
def wrs : Dk → Nat → List (List UInt8) → Bool × Dk
  | d, _, [] => (true, d)
  | d, i, p :: ps => if (d.wr i p).1 = true then wrs (d.wr i p).2 (i + 1) ps else (false, (d.wr i p).2)
theorem full_id {p : List UInt8} (h : p.length = 32) : full p = p := by simp [full, h]
def upto (d : Dk) (ss : List (List UInt8)) (l : Nat) : Dk := { d with ss := ss, left := l }
theorem wr_good (d : Dk) (A R : List (List UInt8)) (r p : List UInt8) (hd : d.down = false) (hs : d.ss = A ++ r :: R) (hp : p.length = 32) (h : ¬ (d.armed = true ∧ d.left = 0)) :
    d.wr A.length p = (true, upto d ((A ++ [p]) ++ R) (if d.armed = true then d.left - 1 else d.left)) := by
  have hm : d.may A.length p := ⟨hd, by omega, by rw [hs]; simp; omega, by omega⟩
  unfold Dk.wr
  rw [if_pos hm, if_neg h, full_id hp]
  unfold Dk.put upto
  rw [hs]
  simp
theorem wr_bad (d : Dk) (A R : List (List UInt8)) (r p : List UInt8) (hd : d.down = false) (hs : d.ss = A ++ r :: R) (hp : p.length = 32) (h : d.armed = true ∧ d.left = 0) :
    d.wr A.length p = (false, { d with ss := A ++ (torn d.keep p r :: R), down := true, armed := false }) := by
  have hm : d.may A.length p := ⟨hd, by omega, by rw [hs]; simp; omega, by omega⟩
  unfold Dk.wr
  rw [if_pos hm, if_pos h, full_id hp]
  unfold Dk.put Dk.get
  rw [hs]
  simp [List.getD_eq_getElem?_getD]
theorem wrs_down (d : Dk) (i : Nat) (p : List UInt8) (ps : List (List UInt8)) (h : d.down = true) : wrs d i (p :: ps) = (false, d) := by
  have : d.wr i p = (false, d) := by unfold Dk.wr; rw [if_neg (fun hm => by have := hm.1; rw [h] at this; cases this)]
  rw [wrs, this]; rfl
/-- All goes well. -/
theorem wrs_good : ∀ (ps : List (List UInt8)) (d : Dk) (A R : List (List UInt8)), d.down = false → d.ss = A ++ R → ps.length ≤ R.length → (∀ p ∈ ps, p.length = 32) → (d.armed = true → ps.length ≤ d.left) →
    wrs d A.length ps = (true, upto d (A ++ (ps ++ R.drop ps.length)) (if d.armed = true then d.left - ps.length else d.left))
  | [], d, A, R, _, hs, _, _, _ => by
    rw [wrs]
    cases d
    simp [upto] at hs ⊢
    exact hs
  | p :: ps, d, A, [], _, _, h, _, _ => by simp at h
  | p :: ps, d, A, r :: R, hd, hs, hl, hz, ha => by
    have hg := wr_good d A R r p hd hs (hz p (by simp)) (fun h => by have := ha h.1; simp at this; omega)
    rw [wrs, hg, if_pos rfl]
    have ih := wrs_good ps (upto d ((A ++ [p]) ++ R) (if d.armed = true then d.left - 1 else d.left)) (A ++ [p]) R hd rfl (by simpa using hl) (fun x hx => hz x (by simp [hx])) (fun h => by
      have h' : d.armed = true := h
      have := ha h'
      show ps.length ≤ (if d.armed = true then d.left - 1 else d.left)
      rw [if_pos h']; simp at this; omega)
    rw [List.length_append, List.length_singleton] at ih
    rw [ih]
    unfold upto
    simp only [List.drop_succ_cons, List.length_cons, Prod.mk.injEq, Dk.mk.injEq, true_and, and_true]
    refine ⟨by simp, ?_⟩
    split <;> omega
/-- One is torn. -/
theorem wrs_bad : ∀ (ps : List (List UInt8)) (d : Dk) (A R : List (List UInt8)), d.down = false → d.ss = A ++ R → ps.length ≤ R.length → (∀ p ∈ ps, p.length = 32) → d.armed = true → d.left < ps.length →
    ∃ p r, ps[d.left]? = some p ∧ R[d.left]? = some r ∧ wrs d A.length ps = (false, { d with ss := A ++ (ps.take d.left ++ torn d.keep p r :: R.drop (d.left + 1)), left := 0, down := true, armed := false })
  | [], d, A, R, _, _, _, _, _, h => by simp at h
  | p :: ps, d, A, [], _, _, h, _, _, _ => by simp at h
  | p :: ps, d, A, r :: R, hd, hs, hl, hz, ha, hlt => by
    by_cases h0 : d.left = 0
    · refine ⟨p, r, by rw [h0]; rfl, by rw [h0]; rfl, ?_⟩
      have hb := wr_bad d A R r p hd hs (hz p (by simp)) ⟨ha, h0⟩
      rw [wrs, hb, if_neg (by simp), h0]
      simp
    · have hg := wr_good d A R r p hd hs (hz p (by simp)) (fun h => h0 h.2)
      rw [if_pos ha] at hg
      obtain ⟨p', r', h1, h2, h3⟩ := wrs_bad ps (upto d ((A ++ [p]) ++ R) (d.left - 1)) (A ++ [p]) R hd rfl (by simpa using hl) (fun x hx => hz x (by simp [hx])) ha (by show d.left - 1 < _; simp at hlt; omega)
      have h1' : ps[d.left - 1]? = some p' := h1
      have h2' : R[d.left - 1]? = some r' := h2
      obtain ⟨L, hL⟩ : ∃ L, d.left = L + 1 := ⟨d.left - 1, by omega⟩
      rw [hL] at h1' h2'
      refine ⟨p', r', by rw [hL]; exact h1', by rw [hL]; exact h2', ?_⟩
      rw [wrs, hg, if_pos rfl]
      rw [List.length_append, List.length_singleton] at h3
      rw [h3]
      unfold upto
      simp only [hL, Nat.add_sub_cancel]
      simp
/-- The last byte of what is torn. -/
theorem torn_31 (k : Nat) (hk : k ≤ 32) (p r : List UInt8) (hp : p.length = 32) : (torn k p r).getD 31 0 = if k = 32 then p.getD 31 0 else r.getD 31 0 := by
  unfold torn
  simp only [List.getD_eq_getElem?_getD]
  split
  · rename_i h; subst h
    rw [List.getElem?_append_left (by simp; omega), List.getElem?_take, if_pos (by omega)]
  · rw [List.getElem?_append_right (by simp; omega), List.getElem?_drop]
    congr 2
    simp; omega
theorem torn_all (p r : List UInt8) (hp : p.length = 32) (hr : r.length = 32) : torn 32 p r = p := by
  unfold torn; rw [List.take_of_length_le (by omega), List.drop_of_length_le (by omega), List.append_nil]
section
variable {d : Dk} {ts : List (List UInt8)}
theorem pieces_z (s : List UInt8) : ∀ p ∈ pieces s, p.length = 32 := fun p hp => by
  obtain ⟨i, hi, rfl⟩ := List.mem_iff_getElem.1 hp
  exact (pieces_at s i _ (List.getElem?_eq_getElem hi)).1
theorem take_marks (s : List UInt8) (k : Nat) (hk : k < (pieces s).length) : ∀ p ∈ (pieces s).take k, p.getD 31 0 ≠ 2 := fun p hp => by
  obtain ⟨i, hi, rfl⟩ := List.mem_iff_getElem.1 hp
  have hi' : i < k := by simp at hi; omega
  rw [List.getElem_take]
  rw [((pieces_at s i _ (List.getElem?_eq_getElem (by omega))).2.2.1 (by omega)).1]
  decide
/-- A text committed where all goes well. -/
theorem Holds.commit (h : Holds d.ss ts) (s : List UInt8) (hd : d.down = false) (hl : (flat ts).length + (pieces s).length ≤ d.ss.length) (ha : d.armed = true → (pieces s).length ≤ d.left) :
    (wrs d (flat ts).length (pieces s)).1 = true ∧ Holds (wrs d (flat ts).length (pieces s)).2.ss (ts ++ [s]) ∧ (wrs d (flat ts).length (pieces s)).2.ss.length = d.ss.length ∧
      (wrs d (flat ts).length (pieces s)).2 = { d with ss := (wrs d (flat ts).length (pieces s)).2.ss, left := if d.armed = true then d.left - (pieces s).length else d.left } := by
  obtain ⟨rest, hs, h2⟩ := h
  have hl' : (pieces s).length ≤ rest.length := by rw [hs] at hl; simp at hl; omega
  have e := wrs_good (pieces s) d (flat ts) rest hd hs hl' (pieces_z s) ha
  rw [e]
  refine ⟨rfl, ⟨rest.drop (pieces s).length, ?_, fun x hx => h2 x (List.mem_of_mem_drop hx)⟩, ?_, rfl⟩
  · show flat ts ++ _ = _
    rw [flat_snoc, List.append_assoc]
  · show (flat ts ++ (pieces s ++ rest.drop (pieces s).length)).length = _
    rw [hs]; simp; omega
/-- A text committed and torn. -/
theorem Holds.tear (hok : d.Ok) (h : Holds d.ss ts) (s : List UInt8) (hd : d.down = false) (hl : (flat ts).length + (pieces s).length ≤ d.ss.length) (ha : d.armed = true) (hlt : d.left < (pieces s).length) :
    (wrs d (flat ts).length (pieces s)).1 = false ∧ Holds (wrs d (flat ts).length (pieces s)).2.ss (if d.left + 1 = (pieces s).length ∧ d.keep = 32 then ts ++ [s] else ts) ∧ (wrs d (flat ts).length (pieces s)).2.ss.length = d.ss.length ∧
      (wrs d (flat ts).length (pieces s)).2 = { d with ss := (wrs d (flat ts).length (pieces s)).2.ss, left := 0, down := true, armed := false } := by
  have hk := hok.k
  obtain ⟨rest, hs, h2⟩ := h
  have hl' : (pieces s).length ≤ rest.length := by rw [hs] at hl; simp at hl; omega
  obtain ⟨p, r, hp, hr, e⟩ := wrs_bad (pieces s) d (flat ts) rest hd hs hl' (pieces_z s) ha hlt
  rw [e]
  have hpl := (pieces_at s _ p hp).1
  have hrl : r.length = 32 := hok.z ((flat ts).length + d.left) r (by rw [hs, List.getElem?_append_right (by omega)]; rw [← hr]; congr 1; omega)
  have hrm : r.getD 31 0 ≠ 2 := h2 r (List.mem_of_getElem? hr)
  refine ⟨rfl, ?_, ?_, rfl⟩
  · show Holds (flat ts ++ ((pieces s).take d.left ++ torn d.keep p r :: rest.drop (d.left + 1))) _
    split
    · rename_i hc
      rw [hc.2, torn_all p r hpl hrl]
      refine ⟨rest.drop (d.left + 1), ?_, fun x hx => h2 x (List.mem_of_mem_drop hx)⟩
      rw [flat_snoc, List.append_assoc]
      congr 1
      have e2 : pieces s = (pieces s).take d.left ++ [p] := by
        have e3 := (List.take_append_drop d.left (pieces s)).symm
        rw [List.drop_eq_getElem_cons hlt, List.drop_of_length_le (by omega)] at e3
        rw [List.getElem?_eq_getElem hlt] at hp
        rw [← Option.some.inj hp]
        exact e3
      conv => rhs; rw [e2]
      simp
    · rename_i hc
      refine ⟨_, rfl, fun x hx => ?_⟩
      simp only [List.mem_append, List.mem_cons] at hx
      rcases hx with hx | rfl | hx
      · exact take_marks s d.left hlt x hx
      · rw [torn_31 _ hk p r hpl]
        split
        · rename_i h32
          have hne : d.left + 1 ≠ (pieces s).length := fun h => hc ⟨h, h32⟩
          rw [((pieces_at s _ p hp).2.2.1 (by omega)).1]
          decide
        · exact hrm
      · exact h2 x (List.mem_of_mem_drop hx)
  · show (flat ts ++ ((pieces s).take d.left ++ torn d.keep p r :: rest.drop (d.left + 1))).length = _
    rw [hs]; simp; omega
/-- Whatever comes of it: the state stays right, as many sectors, they hold texts. -/
theorem wrs_ok : ∀ (ps : List (List UInt8)) (d : Dk) (i : Nat), d.Ok → (wrs d i ps).2.Ok ∧ (wrs d i ps).2.ss.length = d.ss.length
  | [], d, i, h => ⟨h, rfl⟩
  | p :: ps, d, i, h => by
    have hw : (d.wr i p).2.Ok ∧ (d.wr i p).2.ss.length = d.ss.length := by
      unfold Dk.wr
      split
      · rename_i hm
        have hz : (d.get i).length = 32 := (h.get (by have := hm.2.2.1; omega)).2
        split
        · have := h.put i (torn d.keep (full p) (d.get i)) (torn_len _ _ _ h.k (full_len _ hm.2.2.2) hz)
          exact ⟨⟨this.n1, this.n2, this.z, this.k, this.l⟩, by simp [Dk.put]⟩
        · have := h.put i (full p) (full_len _ hm.2.2.2)
          refine ⟨⟨this.n1, this.n2, this.z, this.k, ?_⟩, by simp [Dk.put]⟩
          show (if d.armed = true then d.left - 1 else d.left) ≤ _
          have := h.l
          split <;> omega
      · exact ⟨h, rfl⟩
    rw [wrs]
    split
    · have ih := wrs_ok ps (d.wr i p).2 (i + 1) hw.1
      exact ⟨ih.1, ih.2.trans hw.2⟩
    · exact hw
end
end Go.Proofs.YtlofjfeimhjdlaaDoor
