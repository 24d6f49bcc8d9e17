/- PLAIN: the pieces of a text, what the sectors of a disk say, what is written, torn or not. Nothing of the program.
   TEXTS as values; rows of texts.
   THE WALKS of strings.Clone, journal.piece, journal.count.
   THE WALKS of journal.piece and journal.Pieces.
   A JOURNAL in memory; the walks of its add, Len, End, Disk.
   THE WALK of journal.Commit. -/
import Derived.Deep.AppendLies
import Derived.Deep.RegionLaw
import Derived.Lib.UnsafeStr
import Derived.Laws.MakeOwn
import Derived.Maps.AppendAt
import Derived.Test.YtoddhdionhemjaaGreatDoorDs7
namespace Go.Proofs.YtoddhdionhemjaaGreatDoor

def pc (s : List UInt8) (m : UInt8) : List UInt8 := UInt8.ofNat s.length :: (s ++ (List.replicate (30 - s.length) 0 ++ [m]))
theorem pc_len {s : List UInt8} (h : s.length ≤ 30) (m : UInt8) : (pc s m).length = 32 := by simp [pc]; omega
theorem pc_0 (s : List UInt8) (m : UInt8) : (pc s m).getD 0 0 = UInt8.ofNat s.length := rfl
theorem pc_31 {s : List UInt8} (h : s.length ≤ 30) (m : UInt8) : (pc s m).getD 31 0 = m := by
  simp only [pc, List.getD_cons_succ]
  rw [List.getD_eq_getElem?_getD, List.getElem?_append_right (by omega), List.getElem?_append_right (by simp)]
  simp only [List.length_replicate]
  rw [show 30 - s.length - (30 - s.length) = 0 by omega]
  rfl
theorem pc_t (s : List UInt8) (m : UInt8) : ((pc s m).drop 1).take s.length = s := by simp [pc]
def pieces (s : List UInt8) : List (List UInt8) := if s.length ≤ 30 then [pc s 2] else pc (s.take 30) 1 :: pieces (s.drop 30)
termination_by s.length
decreasing_by simp; omega
theorem pieces_short {s : List UInt8} (h : s.length ≤ 30) : pieces s = [pc s 2] := by rw [pieces, if_pos h]
theorem pieces_long {s : List UInt8} (h : ¬ s.length ≤ 30) : pieces s = pc (s.take 30) 1 :: pieces (s.drop 30) := by rw [pieces, if_neg h]
theorem pieces_ind {C : List UInt8 → Prop} (h1 : ∀ s, s.length ≤ 30 → C s) (h2 : ∀ s, ¬ s.length ≤ 30 → C (s.drop 30) → C s) : ∀ (n : Nat) (s : List UInt8), s.length ≤ n → C s
  | 0, s, h => h1 s (by omega)
  | n + 1, s, h => by
    by_cases hs : s.length ≤ 30
    · exact h1 s hs
    · exact h2 s hs (pieces_ind h1 h2 n _ (by simp; omega))
theorem pieces_len (s : List UInt8) : (pieces s).length = max 1 ((s.length + 29) / 30) := by
  refine pieces_ind (C := fun s => (pieces s).length = max 1 ((s.length + 29) / 30)) (fun s h => ?_) (fun s h ih => ?_) _ s (Nat.le_refl _)
  · rw [pieces_short h]; simp; omega
  · rw [pieces_long h]; simp only [List.length_cons, ih, List.length_drop]; omega
theorem pieces_pos (s : List UInt8) : 1 ≤ (pieces s).length := by rw [pieces_len]; omega
/-- Every piece but the last: full, its mark 1; the last one: its mark 2. -/
theorem pieces_at (s : List UInt8) : ∀ (i : Nat) (p : List UInt8), (pieces s)[i]? = some p → p.length = 32 ∧ (p.getD 0 0).toNat ≤ 30 ∧ (i + 1 < (pieces s).length → p.getD 31 0 = 1 ∧ (p.getD 0 0).toNat = 30) ∧ (i + 1 = (pieces s).length → p.getD 31 0 = 2) := by
  have o30 : ∀ n, n ≤ 30 → (UInt8.ofNat n).toNat = n := fun n hn => by rw [UInt8.toNat_ofNat']; omega
  refine pieces_ind (C := fun s => ∀ (i : Nat) (p : List UInt8), (pieces s)[i]? = some p → p.length = 32 ∧ (p.getD 0 0).toNat ≤ 30 ∧ (i + 1 < (pieces s).length → p.getD 31 0 = 1 ∧ (p.getD 0 0).toNat = 30) ∧ (i + 1 = (pieces s).length → p.getD 31 0 = 2)) (fun s h => ?_) (fun s h ih => ?_) _ s (Nat.le_refl _)
  · rw [pieces_short h]
    intro i p hp
    match i, hp with
    | 0, hp =>
      cases hp
      exact ⟨pc_len h 2, by rw [pc_0, o30 _ h]; exact h, (fun h => by simp at h), fun _ => pc_31 h 2⟩
  · have hl : (s.take 30).length = 30 := by simp; omega
    rw [pieces_long h]
    intro i p hp
    match i, hp with
    | 0, hp =>
      cases hp
      refine ⟨pc_len (by omega) 1, by rw [pc_0, hl]; decide, fun _ => ⟨pc_31 (by omega) 1, by rw [pc_0, hl]; rfl⟩, fun he => ?_⟩
      have := pieces_pos (s.drop 30)
      rw [List.length_cons] at he; omega
    | i + 1, hp =>
      obtain ⟨a, b, c, e⟩ := ih i p hp
      exact ⟨a, b, fun hi => c (by simp at hi; omega), fun hi => e (by simp at hi; omega)⟩
/-- What a reader of sectors knows: what it has read of a text; the texts, and where the last one ended. -/
def scanA : List (List UInt8) → Nat → List UInt8 → List (List UInt8) × Nat → List (List UInt8) × Nat
  | [], _, _, r => r
  | s :: ss, i, t, r =>
    if 30 < (s.getD 0 0).toNat then r
    else if s.getD 31 0 = 1 then scanA ss (i + 1) (t ++ (s.drop 1).take (s.getD 0 0).toNat) r
    else if s.getD 31 0 = 2 then scanA ss (i + 1) [] (r.1 ++ [t ++ (s.drop 1).take (s.getD 0 0).toNat], i + 1)
    else r
def scan (ss : List (List UInt8)) : List (List UInt8) × Nat := scanA ss 0 [] ([], 0)
theorem scanA_big {s : List UInt8} {ss i t r} (h : 30 < (s.getD 0 0).toNat) : scanA (s :: ss) i t r = r := by rw [scanA, if_pos h]
theorem scanA_1 {s : List UInt8} {ss i t r} (h : ¬ 30 < (s.getD 0 0).toNat) (h1 : s.getD 31 0 = 1) : scanA (s :: ss) i t r = scanA ss (i + 1) (t ++ (s.drop 1).take (s.getD 0 0).toNat) r := by rw [scanA, if_neg h, if_pos h1]
theorem scanA_2 {s : List UInt8} {ss i t r} (h : ¬ 30 < (s.getD 0 0).toNat) (h2 : s.getD 31 0 = 2) : scanA (s :: ss) i t r = scanA ss (i + 1) [] (r.1 ++ [t ++ (s.drop 1).take (s.getD 0 0).toNat], i + 1) := by
  rw [scanA, if_neg h, if_neg (by rw [h2]; decide), if_pos h2]
theorem scanA_no {s : List UInt8} {ss i t r} (h1 : s.getD 31 0 ≠ 1) (h2 : s.getD 31 0 ≠ 2) : scanA (s :: ss) i t r = r := by
  rw [scanA, if_neg h1, if_neg h2]; split <;> rfl
theorem scanA_pieces (s : List UInt8) : ∀ (rest : List (List UInt8)) (i : Nat) (t : List UInt8) (r : List (List UInt8) × Nat),
    scanA (pieces s ++ rest) i t r = scanA rest (i + (pieces s).length) [] (r.1 ++ [t ++ s], i + (pieces s).length) := by
  have o30 : ∀ n, n ≤ 30 → (UInt8.ofNat n).toNat = n := fun n hn => by rw [UInt8.toNat_ofNat']; omega
  refine pieces_ind (C := fun s => ∀ (rest : List (List UInt8)) (i : Nat) (t : List UInt8) (r : List (List UInt8) × Nat),
    scanA (pieces s ++ rest) i t r = scanA rest (i + (pieces s).length) [] (r.1 ++ [t ++ s], i + (pieces s).length)) (fun s h => ?_) (fun s h ih => ?_) _ s (Nat.le_refl _)
  · intro rest i t r
    rw [pieces_short h]
    show scanA (pc s 2 :: rest) i t r = _
    rw [scanA_2 (by rw [pc_0, o30 _ h]; omega) (pc_31 h 2), pc_0, o30 _ h, pc_t]
    rfl
  · intro rest i t r
    have hl : (s.take 30).length = 30 := by simp; omega
    rw [pieces_long h]
    show scanA (pc (s.take 30) 1 :: (pieces (s.drop 30) ++ rest)) i t r = _
    have e := pc_t (s.take 30) 1
    rw [hl] at e
    rw [scanA_1 (by rw [pc_0, hl]; decide) (pc_31 (by omega) 1), ih, pc_0, hl]
    rw [show (UInt8.ofNat 30).toNat = 30 from rfl, e, List.append_assoc, List.take_append_drop, List.length_cons, show i + 1 + (pieces (s.drop 30)).length = i + ((pieces (s.drop 30)).length + 1) by omega]
theorem scanA_none : ∀ (rest : List (List UInt8)) (i : Nat) (t : List UInt8) (r : List (List UInt8) × Nat), (∀ s ∈ rest, s.getD 31 0 ≠ 2) → scanA rest i t r = r
  | [], _, _, _, _ => rfl
  | s :: rest, i, t, r, h => by
    have h2 := h s (by simp)
    by_cases hb : 30 < (s.getD 0 0).toNat
    · exact scanA_big hb
    · by_cases h1 : s.getD 31 0 = 1
      · rw [scanA_1 hb h1]; exact scanA_none rest _ _ _ fun x hx => h x (by simp [hx])
      · exact scanA_no h1 h2
def flat (ts : List (List UInt8)) : List (List UInt8) := ts.flatMap pieces
theorem flat_snoc (ts : List (List UInt8)) (s : List UInt8) : flat (ts ++ [s]) = flat ts ++ pieces s := by simp [flat]
theorem scanA_flat : ∀ (ts : List (List UInt8)) (rest : List (List UInt8)) (i : Nat) (R : List (List UInt8)), scanA (flat ts ++ rest) i [] (R, i) = scanA rest (i + (flat ts).length) [] (R ++ ts, i + (flat ts).length)
  | [], rest, i, R => by simp [flat]
  | s :: ts, rest, i, R => by
    have e : flat (s :: ts) = pieces s ++ flat ts := rfl
    rw [e, List.append_assoc, scanA_pieces, List.nil_append, scanA_flat ts, List.length_append, List.append_assoc, Nat.add_assoc]
    rfl
/-- The sectors are these texts', and behind them none ends a text. -/
def Holds (ss ts : List (List UInt8)) : Prop := ∃ rest, ss = flat ts ++ rest ∧ ∀ s ∈ rest, s.getD 31 0 ≠ 2
theorem Holds.scan_eq {ss ts : List (List UInt8)} (h : Holds ss ts) : scan ss = (ts, (flat ts).length) := by
  obtain ⟨rest, rfl, h2⟩ := h
  show scanA _ 0 [] ([], 0) = _
  rw [scanA_flat, scanA_none _ _ _ _ h2]
  simp
theorem Holds.le {ss ts : List (List UInt8)} (h : Holds ss ts) : (flat ts).length ≤ ss.length := by
  obtain ⟨rest, rfl, h2⟩ := h
  simp
theorem Holds.new (n : Nat) : Holds (List.replicate n (List.replicate 32 0)) [] := ⟨_, rfl, fun s hs => by rw [List.eq_of_mem_replicate hs]; decide⟩
/-- Sectors written one behind the other, up to the first write that fails. -/
def wrs : Dk → Nat → List (List UInt8) → Bool × Dk
  | d, _, [] => (true, d)
  | d, i, p :: ps => if (d.wr i p).1 = true then wrs (d.wr i p).2 (i + 1) ps else (false, (d.wr i p).2)
theorem full_id {p : List UInt8} (h : p.length = 32) : full p = p := by simp [full, h]
def upto (d : Dk) (ss : List (List UInt8)) (l : Nat) : Dk := { d with ss := ss, left := l }
theorem wr_good (d : Dk) (A R : List (List UInt8)) (r p : List UInt8) (hd : d.down = false) (hs : d.ss = A ++ r :: R) (hp : p.length = 32) (h : ¬ (d.armed = true ∧ d.left = 0)) :
    d.wr A.length p = (true, upto d ((A ++ [p]) ++ R) (if d.armed = true then d.left - 1 else d.left)) := by
  have hm : d.may A.length p := ⟨hd, by omega, by rw [hs]; simp; omega, by omega⟩
  unfold Dk.wr
  rw [if_pos hm, if_neg h, full_id hp]
  unfold Dk.put upto
  rw [hs]
  simp
theorem wr_bad (d : Dk) (A R : List (List UInt8)) (r p : List UInt8) (hd : d.down = false) (hs : d.ss = A ++ r :: R) (hp : p.length = 32) (h : d.armed = true ∧ d.left = 0) :
    d.wr A.length p = (false, { d with ss := A ++ (torn d.keep p r :: R), down := true, armed := false }) := by
  have hm : d.may A.length p := ⟨hd, by omega, by rw [hs]; simp; omega, by omega⟩
  unfold Dk.wr
  rw [if_pos hm, if_pos h, full_id hp]
  unfold Dk.put Dk.get
  rw [hs]
  simp [List.getD_eq_getElem?_getD]
theorem wrs_down (d : Dk) (i : Nat) (p : List UInt8) (ps : List (List UInt8)) (h : d.down = true) : wrs d i (p :: ps) = (false, d) := by
  have : d.wr i p = (false, d) := by unfold Dk.wr; rw [if_neg (fun hm => by have := hm.1; rw [h] at this; cases this)]
  rw [wrs, this]; rfl
/-- All goes well. -/
theorem wrs_good : ∀ (ps : List (List UInt8)) (d : Dk) (A R : List (List UInt8)), d.down = false → d.ss = A ++ R → ps.length ≤ R.length → (∀ p ∈ ps, p.length = 32) → (d.armed = true → ps.length ≤ d.left) →
    wrs d A.length ps = (true, upto d (A ++ (ps ++ R.drop ps.length)) (if d.armed = true then d.left - ps.length else d.left))
  | [], d, A, R, _, hs, _, _, _ => by
    rw [wrs]
    cases d
    simp [upto] at hs ⊢
    exact hs
  | p :: ps, d, A, [], _, _, h, _, _ => by simp at h
  | p :: ps, d, A, r :: R, hd, hs, hl, hz, ha => by
    have hg := wr_good d A R r p hd hs (hz p (by simp)) (fun h => by have := ha h.1; simp at this; omega)
    rw [wrs, hg, if_pos rfl]
    have ih := wrs_good ps (upto d ((A ++ [p]) ++ R) (if d.armed = true then d.left - 1 else d.left)) (A ++ [p]) R hd rfl (by simpa using hl) (fun x hx => hz x (by simp [hx])) (fun h => by
      have h' : d.armed = true := h
      have := ha h'
      show ps.length ≤ (if d.armed = true then d.left - 1 else d.left)
      rw [if_pos h']; simp at this; omega)
    rw [List.length_append, List.length_singleton] at ih
    rw [ih]
    unfold upto
    simp only [List.drop_succ_cons, List.length_cons, Prod.mk.injEq, Dk.mk.injEq, true_and, and_true]
    refine ⟨by simp, ?_⟩
    split <;> omega
/-- One is torn. -/
theorem wrs_bad : ∀ (ps : List (List UInt8)) (d : Dk) (A R : List (List UInt8)), d.down = false → d.ss = A ++ R → ps.length ≤ R.length → (∀ p ∈ ps, p.length = 32) → d.armed = true → d.left < ps.length →
    ∃ p r, ps[d.left]? = some p ∧ R[d.left]? = some r ∧ wrs d A.length ps = (false, { d with ss := A ++ (ps.take d.left ++ torn d.keep p r :: R.drop (d.left + 1)), left := 0, down := true, armed := false })
  | [], d, A, R, _, _, _, _, _, h => by simp at h
  | p :: ps, d, A, [], _, _, h, _, _, _ => by simp at h
  | p :: ps, d, A, r :: R, hd, hs, hl, hz, ha, hlt => by
    by_cases h0 : d.left = 0
    · refine ⟨p, r, by rw [h0]; rfl, by rw [h0]; rfl, ?_⟩
      have hb := wr_bad d A R r p hd hs (hz p (by simp)) ⟨ha, h0⟩
      rw [wrs, hb, if_neg (by simp), h0]
      simp
    · have hg := wr_good d A R r p hd hs (hz p (by simp)) (fun h => h0 h.2)
      rw [if_pos ha] at hg
      obtain ⟨p', r', h1, h2, h3⟩ := wrs_bad ps (upto d ((A ++ [p]) ++ R) (d.left - 1)) (A ++ [p]) R hd rfl (by simpa using hl) (fun x hx => hz x (by simp [hx])) ha (by show d.left - 1 < _; simp at hlt; omega)
      have h1' : ps[d.left - 1]? = some p' := h1
      have h2' : R[d.left - 1]? = some r' := h2
      obtain ⟨L, hL⟩ : ∃ L, d.left = L + 1 := ⟨d.left - 1, by omega⟩
      rw [hL] at h1' h2'
      refine ⟨p', r', by rw [hL]; exact h1', by rw [hL]; exact h2', ?_⟩
      rw [wrs, hg, if_pos rfl]
      rw [List.length_append, List.length_singleton] at h3
      rw [h3]
      unfold upto
      simp only [hL, Nat.add_sub_cancel]
      simp
/-- The last byte of what is torn. -/
theorem torn_31 (k : Nat) (hk : k ≤ 32) (p r : List UInt8) (hp : p.length = 32) : (torn k p r).getD 31 0 = if k = 32 then p.getD 31 0 else r.getD 31 0 := by
  unfold torn
  simp only [List.getD_eq_getElem?_getD]
  split
  · rename_i h; subst h
    rw [List.getElem?_append_left (by simp; omega), List.getElem?_take, if_pos (by omega)]
  · rw [List.getElem?_append_right (by simp; omega), List.getElem?_drop]
    congr 2
    simp; omega
theorem torn_all (p r : List UInt8) (hp : p.length = 32) (hr : r.length = 32) : torn 32 p r = p := by
  unfold torn; rw [List.take_of_length_le (by omega), List.drop_of_length_le (by omega), List.append_nil]
section
variable {d : Dk} {ts : List (List UInt8)}
theorem pieces_z (s : List UInt8) : ∀ p ∈ pieces s, p.length = 32 := fun p hp => by
  obtain ⟨i, hi, rfl⟩ := List.mem_iff_getElem.1 hp
  exact (pieces_at s i _ (List.getElem?_eq_getElem hi)).1
theorem take_marks (s : List UInt8) (k : Nat) (hk : k < (pieces s).length) : ∀ p ∈ (pieces s).take k, p.getD 31 0 ≠ 2 := fun p hp => by
  obtain ⟨i, hi, rfl⟩ := List.mem_iff_getElem.1 hp
  have hi' : i < k := by simp at hi; omega
  rw [List.getElem_take]
  rw [((pieces_at s i _ (List.getElem?_eq_getElem (by omega))).2.2.1 (by omega)).1]
  decide
/-- A text committed where all goes well. -/
theorem Holds.commit (h : Holds d.ss ts) (s : List UInt8) (hd : d.down = false) (hl : (flat ts).length + (pieces s).length ≤ d.ss.length) (ha : d.armed = true → (pieces s).length ≤ d.left) :
    (wrs d (flat ts).length (pieces s)).1 = true ∧ Holds (wrs d (flat ts).length (pieces s)).2.ss (ts ++ [s]) ∧ (wrs d (flat ts).length (pieces s)).2.ss.length = d.ss.length ∧
      (wrs d (flat ts).length (pieces s)).2 = { d with ss := (wrs d (flat ts).length (pieces s)).2.ss, left := if d.armed = true then d.left - (pieces s).length else d.left } := by
  obtain ⟨rest, hs, h2⟩ := h
  have hl' : (pieces s).length ≤ rest.length := by rw [hs] at hl; simp at hl; omega
  have e := wrs_good (pieces s) d (flat ts) rest hd hs hl' (pieces_z s) ha
  rw [e]
  refine ⟨rfl, ⟨rest.drop (pieces s).length, ?_, fun x hx => h2 x (List.mem_of_mem_drop hx)⟩, ?_, rfl⟩
  · show flat ts ++ _ = _
    rw [flat_snoc, List.append_assoc]
  · show (flat ts ++ (pieces s ++ rest.drop (pieces s).length)).length = _
    rw [hs]; simp; omega
/-- A text committed and torn. -/
theorem Holds.tear (hok : d.Ok) (h : Holds d.ss ts) (s : List UInt8) (hd : d.down = false) (hl : (flat ts).length + (pieces s).length ≤ d.ss.length) (ha : d.armed = true) (hlt : d.left < (pieces s).length) :
    (wrs d (flat ts).length (pieces s)).1 = false ∧ Holds (wrs d (flat ts).length (pieces s)).2.ss (if d.left + 1 = (pieces s).length ∧ d.keep = 32 then ts ++ [s] else ts) ∧ (wrs d (flat ts).length (pieces s)).2.ss.length = d.ss.length ∧
      (wrs d (flat ts).length (pieces s)).2 = { d with ss := (wrs d (flat ts).length (pieces s)).2.ss, left := 0, down := true, armed := false } := by
  have hk := hok.k
  obtain ⟨rest, hs, h2⟩ := h
  have hl' : (pieces s).length ≤ rest.length := by rw [hs] at hl; simp at hl; omega
  obtain ⟨p, r, hp, hr, e⟩ := wrs_bad (pieces s) d (flat ts) rest hd hs hl' (pieces_z s) ha hlt
  rw [e]
  have hpl := (pieces_at s _ p hp).1
  have hrl : r.length = 32 := hok.z ((flat ts).length + d.left) r (by rw [hs, List.getElem?_append_right (by omega)]; rw [← hr]; congr 1; omega)
  have hrm : r.getD 31 0 ≠ 2 := h2 r (List.mem_of_getElem? hr)
  refine ⟨rfl, ?_, ?_, rfl⟩
  · show Holds (flat ts ++ ((pieces s).take d.left ++ torn d.keep p r :: rest.drop (d.left + 1))) _
    split
    · rename_i hc
      rw [hc.2, torn_all p r hpl hrl]
      refine ⟨rest.drop (d.left + 1), ?_, fun x hx => h2 x (List.mem_of_mem_drop hx)⟩
      rw [flat_snoc, List.append_assoc]
      congr 1
      have e2 : pieces s = (pieces s).take d.left ++ [p] := by
        have e3 := (List.take_append_drop d.left (pieces s)).symm
        rw [List.drop_eq_getElem_cons hlt, List.drop_of_length_le (by omega)] at e3
        rw [List.getElem?_eq_getElem hlt] at hp
        rw [← Option.some.inj hp]
        exact e3
      conv => rhs; rw [e2]
      simp
    · rename_i hc
      refine ⟨_, rfl, fun x hx => ?_⟩
      simp only [List.mem_append, List.mem_cons] at hx
      rcases hx with hx | rfl | hx
      · exact take_marks s d.left hlt x hx
      · rw [torn_31 _ hk p r hpl]
        split
        · rename_i h32
          have hne : d.left + 1 ≠ (pieces s).length := fun h => hc ⟨h, h32⟩
          rw [((pieces_at s _ p hp).2.2.1 (by omega)).1]
          decide
        · exact hrm
      · exact h2 x (List.mem_of_mem_drop hx)
  · show (flat ts ++ ((pieces s).take d.left ++ torn d.keep p r :: rest.drop (d.left + 1))).length = _
    rw [hs]; simp; omega
/-- Whatever comes of it: the state stays right, as many sectors, they hold texts. -/
theorem wrs_ok : ∀ (ps : List (List UInt8)) (d : Dk) (i : Nat), d.Ok → (wrs d i ps).2.Ok ∧ (wrs d i ps).2.ss.length = d.ss.length
  | [], d, i, h => ⟨h, rfl⟩
  | p :: ps, d, i, h => by
    have hw : (d.wr i p).2.Ok ∧ (d.wr i p).2.ss.length = d.ss.length := by
      unfold Dk.wr
      split
      · rename_i hm
        have hz : (d.get i).length = 32 := (h.get (by have := hm.2.2.1; omega)).2
        split
        · have := h.put i (torn d.keep (full p) (d.get i)) (torn_len _ _ _ h.k (full_len _ hm.2.2.2) hz)
          exact ⟨⟨this.n1, this.n2, this.z, this.k, this.l⟩, by simp [Dk.put]⟩
        · have := h.put i (full p) (full_len _ hm.2.2.2)
          refine ⟨⟨this.n1, this.n2, this.z, this.k, ?_⟩, by simp [Dk.put]⟩
          show (if d.armed = true then d.left - 1 else d.left) ≤ _
          have := h.l
          split <;> omega
      · exact ⟨h, rfl⟩
    rw [wrs]
    split
    · have ih := wrs_ok ps (d.wr i p).2 (i + 1) hw.1
      exact ⟨ih.1, ih.2.trans hw.2⟩
    · exact hw
end
end Go.Proofs.YtoddhdionhemjaaGreatDoor
namespace Go.Proofs.YtoddhdionhemjaaGreatDoor
open Go.RowKit

def str (s : List UInt8) : Value := .string ⟨s.toArray⟩
/-- Strings lie in block b. -/
def Strs (w : World) (b : Nat) (ss : List (List UInt8)) : Prop :=
  ∃ cur, Rw w b 9 cur ∧ ∀ (i : Nat) (s : List UInt8), ss[i]? = some s → cur[i]? = some (str s)
theorem Strs.lt {w : World} {b : Nat} {ss : List (List UInt8)} (h : Strs w b ss) : b < w.heap.size := by obtain ⟨cur, h1, _⟩ := h; exact h1.size
theorem Strs.same {w v : World} {b : Nat} {ss : List (List UInt8)} (h : Strs w b ss) (e : v.heap[b]? = w.heap[b]?) : Strs v b ss := by obtain ⟨cur, h1, h2⟩ := h; exact ⟨cur, e.trans h1, h2⟩
theorem strinfo : (Tryz.prog.info? 9).map (fun i => (i.zero, i.size, i.bytes)) = some (some (.string ⟨#[]⟩), 1, 16) := by kernel_rfl
theorem own_put {w : World} {base sz n : Nat} {e : TypeId} {v : Value} {xs : List Value} (h : w.ownsRow base e sz v n xs) {p : Addr} (hp : p.block < base) (u : Value) : (w.setCell p u).ownsRow base e sz v n xs := by
  refine ⟨h.1, ?_⟩
  rcases h.2 with h0 | ⟨g, cap, cur, a1, a2, a3, a4⟩
  · exact .inl h0
  · exact .inr ⟨g, cap, cur, a1, a2, (heap_setCell_other w p g u (by omega)).trans a3, a4⟩
end Go.Proofs.YtoddhdionhemjaaGreatDoor
namespace Go.Proofs.YtoddhdionhemjaaGreatDoor
open Go.RowKit

def zrow (n : Nat) : Array Value := byteRow (List.replicate n 0)
theorem ba_empty (s : ByteArray) (h : s.size = 0) : s = ⟨#[]⟩ := by
  apply ByteArray.ext
  exact Array.eq_empty_of_size_eq_zero h
theorem mkN (n : Nat) (hn : n ≤ 1099511627776) (w : World) : (Instr.makeSlice 60 (.int .i64 (n : Int)) (.int .i64 (n : Int))).run Tryz.prog w = .ok (.slice (some ⟨w.heap.size, 0, none⟩) n n) (w.alloc (.cells (zrow n) 5)) := by
  obtain ⟨i0, hi, hz0, hz1, hz2⟩ := info_parts u8info
  have h := run_make (P := Tryz.prog) w 60 5 i0 (.int .u8 0) Tryz.underlying60 hi hz0 .i64 .i64 (n : Int) (n : Int) (by omega) (by omega) (by rw [hz2]; omega) (by omega)
  have e : madeCells (Value.int .u8 0).cells ((n : Int).toNat * i0.size) = zrow n := by
    rw [hz1]
    apply Array.ext
    · simp [madeCells, zrow, byteRow, Lib.byteCells]
    · intro i h1 h2
      simp [madeCells, zrow, byteRow, Lib.byteCells, Value.cells, Nat.mod_one]
  rw [e] at h
  simpa using h
theorem copy_all (s : ByteArray) (w : World) :
    (Builtin.copy_ #[60, 9] 3 #[.slice (some ⟨w.heap.size, 0, none⟩) s.size s.size, .string s]).run Tryz.prog (w.alloc (.cells (zrow s.size) 5)) =
      .ok (goInt s.size) (w.alloc (.cells (byteRow s.data.toList) 5)) := by
  have := Go.Lib.run_copy_row_string (P := Tryz.prog) (w.alloc (.cells (zrow s.size) 5)) 60 9 3 5 w.heap.size 0 s.size s.size s _ _ Tryz.underlying60 (by kernel_rfl) (Rw.fresh w _ _) (Nat.le_refl _) (by simp [zrow, byteRow, Lib.byteCells])
  rw [this, World.setRow_alloc_new]
  simp [zrow, byteRow, Lib.byteCells]
theorem below_fr {B : Nat} {a w : World} (h : Below B a w) (g : Nat) (hg : B ≤ g) (n : Nat) : Below B a (w.freeze ⟨g, 0, none⟩ n) := Lib.below_freeze h (p := ⟨g, 0, none⟩) hg n
set_option maxHeartbeats 1000000 in
theorem sclone_any (s : ByteArray) (hs : s.size ≤ 1099511627776) (w : World) :
    Calls Tryz.prog 38 #[.string s] w fun e w' => e = .returned (.string s) ∧ Below w.heap.size w w' := by
  by_cases h0 : s.size = 0
  · obtain rfl := ba_empty s h0
    go_enter Tryz.func38, Tryz.ntmps38
    go_wp2
    go_ret
    exact ⟨rfl, Below.refl _ _⟩
  · have hmk := mkN s.size hs
    have hcp := copy_all s w
    have hat := Rw.fresh w 5 (byteRow s.data.toList)
    have hne : s.data.toList ≠ [] := fun e => h0 (by simpa using congrArg List.length e)
    have hus := Lib.run_unsafeString_row (P := Tryz.prog) _ 145 3 9 5 Tryz.underlying145 (by kernel_rfl) w.heap.size s.size (by unfold World.shape?; rw [hat]; simp [byteRow, Lib.byteCells]) s.data.toList hne (by simp) (by simp; omega)
      (fun j x hx => by rw [Addr.add_mid, Nat.zero_add, hat.at j]; simp [byteRow, Lib.byteCells, hx])
    have hl : s.data.toList.length = s.size := by simp
    rw [hl] at hus
    clear hl hne
    have hb := below_fr ((Below.refl _ w).alloc (Nat.le_refl _) (.cells (byteRow s.data.toList) 5)) w.heap.size (Nat.le_refl _) s.size
    have h1 : ((s.size : Int) == 0) = false := by rw [beq_eq_false_iff_ne]; omega
    have h2 : (0 : Int) < (s.size : Int) := by omega
    clear h0 hat
    go_enter Tryz.func38, Tryz.ntmps38
    go_wp2
    go_ret
    exact ⟨rfl, hb⟩
theorem count_any (s : ByteArray) (n : Nat) (hn : n = (pieces s.data.toList).length) (hs : s.size ≤ 1099511627776) (w : World) :
    Calls Tryz.prog 60 #[.string s] w fun e w' => e = .returned (.int .i64 (n : Int)) ∧ w = w' := by
  have hl : s.data.toList.length = s.size := Array.length_toList
  rw [pieces_len, hl] at hn
  have e1 : ((s.size : Int) + 30 - 1).tdiv 30 = (((s.size + 29) / 30 : Nat) : Int) := by
    rw [Int.tdiv_eq_ediv_of_nonneg (by omega)]; omega
  have hq : (((s.size + 29) / 30 : Nat) : Int) ≤ 1099511627776 := by omega
  go_enter Tryz.func60, Tryz.ntmps60
  go_wp2
  all_goals
    go_ret
    refine ⟨ret_int ?_, rfl⟩
    subst hn
    omega
end Go.Proofs.YtoddhdionhemjaaGreatDoor
namespace Go.Proofs.YtoddhdionhemjaaGreatDoor
open Go.RowKit
set_option maxRecDepth 100000

/-- The sector that is being made: how many, then what was copied. -/
def half (s : List UInt8) : List UInt8 := UInt8.ofNat s.length :: (s ++ List.replicate (31 - s.length) 0)
theorem half_len {s : List UInt8} (h : s.length ≤ 30) : (half s).length = 32 := by simp [half]; omega
theorem half_set {s : List UInt8} (h : s.length ≤ 30) (m : UInt8) : (half s).set 31 m = pc s m := by
  unfold half pc
  rw [List.set_cons_succ, List.set_append_right _ _ h]
  rw [show 31 - s.length = (30 - s.length) + 1 by omega, List.replicate_succ', List.set_append_right _ _ (by simp)]
  simp
theorem copy_1 (s : ByteArray) (hs : s.size ≤ 30) (w : World) (g : Nat) (hr : Rw w g 138 (byteRow (UInt8.ofNat s.size :: List.replicate 31 0))) :
    (Builtin.copy_ #[60, 9] 3 #[.slice (some ⟨g, 1, none⟩) 31 31, .string s]).run Tryz.prog w =
      .ok (goInt s.size) (w.setRow g (byteRow (half s.data.toList))) := by
  have hl : s.data.toList.length = s.size := Array.length_toList
  have := Go.Lib.run_copy_row_string (P := Tryz.prog) w 60 9 3 5 g 1 31 31 s _ _ Tryz.underlying60 (by kernel_rfl) hr (by omega) (by simp [byteRow, Lib.byteCells]; omega)
  rw [this]
  congr 2
  apply Array.ext'
  have e : Lib.byteCells (UInt8.ofNat s.size :: List.replicate 31 0) = .int .u8 ((UInt8.ofNat s.size).toNat : Int) :: List.replicate 31 (.int .u8 0) := by unfold Lib.byteCells; rw [List.map_cons, List.map_replicate]; rfl
  have e2 : Lib.byteCells (half s.data.toList) = .int .u8 ((UInt8.ofNat s.size).toNat : Int) :: (Lib.byteCells s.data.toList ++ List.replicate (31 - s.size) (.int .u8 0)) := by
    unfold Lib.byteCells half; rw [List.map_cons, List.map_append, List.map_replicate, hl]; rfl
  rw [byteRow_list, byteRow_list, e, e2, show 1 + s.size = s.size + 1 by omega, List.drop_succ_cons, List.drop_replicate]
  rfl
theorem setRow_is (w : World) (g : Nat) (t : TypeId) (cs cs' : Array Value) (h : Rw w g t cs) : Rw (w.setRow g cs') g t cs' := setRow_heap w g cs cs' t _ h
theorem below_setRow {B g : Nat} {a w : World} (h : Below B a w) (hg : B ≤ g) (cs : Array Value) : Below B a (w.setRow g cs) :=
  h.trans ⟨rfl, rfl, rfl, by simp, fun k hk => setRow_other w g k _ (by omega)⟩
theorem Rw.cellAt0 {w : World} {g : Nat} {t : TypeId} {l : List UInt8} (h : Rw w g t (byteRow l)) (i : Nat) (hi : i < l.length) : w.cell? ⟨g, i, none⟩ = some (.int .u8 ((l[i]'hi).toNat : Int)) := (h.at i).trans (byteRow_at l i hi)
theorem conv_blk6 {w : World} {g : Nat} {t : TypeId} {l : List UInt8} (h : Rw w g t (byteRow l)) (hl : l.length = 32) :
    (convert 60 9 (.slice (some ⟨g, 0, none⟩) 32 32)).run Tryz.prog w = .ok (.string ⟨l.toArray⟩) w := by
  have := run_convert_bytes_back w _ _ _ ⟨g, 0, none⟩ 32 l Tryz.underlying60 Tryz.underlying5 Tryz.underlying9 (fun j hj => by
    rw [Addr.add_mid, Nat.zero_add, h.at]; exact byteRow_at l j hj)
  rw [hl] at this
  exact this
set_option maxHeartbeats 1000000 in
theorem piece_any (s : ByteArray) (hs : s.size ≤ 30) (m : UInt8) (P : ByteArray) (hP : P = ⟨(pc s.data.toList m).toArray⟩) (w : World) :
    Calls Tryz.prog 87 #[.string s, .int .u8 (m.toNat : Int)] w fun e w' => e = .returned (.string P) ∧ Below w.heap.size w w' := by
  have hl : s.data.toList.length = s.size := Array.length_toList
  have hz := Rw.fresh w 138 (byteRow (List.replicate 32 0))
  have hb := (Below.refl w.heap.size w).alloc (Nat.le_refl _) (.cells (byteRow (List.replicate 32 0)) 138)
  simp only [zrow_lit] at hz hb
  go_enter Tryz.func87, Tryz.ntmps87
  go_upto_region 2 with fail
  generalize w.alloc (.cells #[.int .u8 0, .int .u8 0, .int .u8 0, .int .u8 0, .int .u8 0, .int .u8 0, .int .u8 0, .int .u8 0, .int .u8 0, .int .u8 0, .int .u8 0, .int .u8 0, .int .u8 0, .int .u8 0, .int .u8 0, .int .u8 0, .int .u8 0, .int .u8 0, .int .u8 0, .int .u8 0, .int .u8 0, .int .u8 0, .int .u8 0, .int .u8 0, .int .u8 0, .int .u8 0, .int .u8 0, .int .u8 0, .int .u8 0, .int .u8 0, .int .u8 0, .int .u8 0] 138) = w1 at hz hb ⊢
  rw [← zrow_lit] at hz
  have e8 : ((UInt8.ofNat s.size).toNat : Int) = (s.size : Int) := by rw [UInt8.toNat_ofNat']; omega
  have c0 := (hz.cellAt0 0 (by simp))
  have f0 := hz.free 0
  have h1 := hz.put 0 (.int .u8 (s.size : Int))
  rw [← e8, byteRow_set, show (List.replicate 32 (0 : UInt8)).set 0 (UInt8.ofNat s.size) = UInt8.ofNat s.size :: List.replicate 31 0 from rfl] at h1
  have hb1 := hb.setCell (p := ⟨w.heap.size, 0, none⟩) (Nat.le_refl _) (.int .u8 (s.size : Int))
  rw [e8] at h1
  have hsz : (s.size : Int) ≤ 30 := by omega
  go_upto_region 3 with fail
  generalize w1.setCell ⟨w.heap.size, 0, none⟩ (.int .u8 (s.size : Int)) = w2 at h1 hb1 ⊢
  have hcp := copy_1 s hs w2 w.heap.size h1
  have h2 := setRow_is w2 w.heap.size _ _ (byteRow (half s.data.toList)) h1
  have hb2 := below_setRow hb1 (Nat.le_refl _) (byteRow (half s.data.toList))
  go_upto_region 4 with fail
  generalize w2.setRow w.heap.size (byteRow (half s.data.toList)) = w3 at h2 hb2 ⊢
  have hhl : (half s.data.toList).length = 32 := half_len (by omega)
  have c31 := h2.cellAt0 31 (by omega)
  have f31 := h2.free 31
  have h3 := h2.put 31 (.int .u8 (m.toNat : Int))
  rw [byteRow_set, half_set (by omega)] at h3
  have hb3 := hb2.setCell (p := ⟨w.heap.size, 31, none⟩) (Nat.le_refl _) (.int .u8 (m.toNat : Int))
  go_upto_region 5 with fail
  generalize w3.setCell ⟨w.heap.size, 31, none⟩ (.int .u8 (m.toNat : Int)) = w4 at h3 hb3 ⊢
  have hcv := conv_blk6 h3 (pc_len (by omega) m)
  rw [← hP] at hcv
  go_wp2_with fail
  go_ret
  exact ⟨by rw [hP]; rfl, hb3⟩
theorem mkS (n : Nat) (hn : n ≤ 1099511627776) (w : World) : (Instr.makeSlice 42 (.int .i64 0) (.int .i64 (n : Int))).run Tryz.prog w = .ok (.slice (some ⟨w.heap.size, 0, none⟩) 0 n) (w.alloc (.cells (madeCells #[.string ⟨#[]⟩] n) 9)) := by
  obtain ⟨i0, hi, hz0, hz1, hz2⟩ := info_parts strinfo
  have h := run_make (P := Tryz.prog) w 42 9 i0 _ Tryz.underlying42 hi hz0 .i64 .i64 0 (n : Int) (by omega) (by omega) (by rw [hz2]; omega) (by omega)
  rw [h, hz1]
  simp [Value.cells]
theorem own_mkS (n : Nat) (hn : n ≤ 1099511627776) (w : World) : (w.alloc (.cells (madeCells #[.string ⟨#[]⟩] n) 9)).ownsRow w.heap.size 9 1 (.slice (some ⟨w.heap.size, 0, none⟩) 0 n) 0 [] :=
  ⟨rfl, .inr ⟨w.heap.size, n, _, rfl, Nat.le_refl _, Rw.fresh w _ _, Nat.zero_le _, by unfold maxLen; omega, by simp [size_madeCells], rfl⟩⟩
/-- A row of strings that the call owns, none of them missing. -/
theorem strs_own {w : World} {base n : Nat} {v : Value} {ss : List (List UInt8)} (h : w.ownsRow base 9 1 v n (ss.map str)) (h1 : 1 ≤ ss.length) : ∃ g cap, v = .slice (some ⟨g, 0, none⟩) ss.length cap ∧ base ≤ g ∧ ss.length ≤ cap ∧ Strs w g ss := by
  have hn : ss.length = n := by simpa using h.1
  subst hn
  rcases h.2 with ⟨_, h0⟩ | ⟨g, cap, cur, a1, a2, a3, a4, a5, a6, a7⟩
  · omega
  · refine ⟨g, cap, a1, a2, a4, cur, a3, fun i s hs => ?_⟩
    have hil := (List.getElem?_eq_some_iff.1 hs).1
    have e := congrArg (·[i]?) a7
    simp only [Nat.mul_one, List.getElem?_take, if_pos hil, List.getElem?_map, hs, Option.map_some] at e
    rw [Array.getElem?_toList] at e
    exact e
theorem one_new (w : World) (t : TypeId) (u : Value) : ∀ (q : Nat) (x : Value), [u][q]? = some x → (w.alloc (.cells #[u] t)).cell? ((⟨w.heap.size, 0, none⟩ : Addr).add q) = some x := fun q x hq => by
  match q, hq with
  | 0, hq => cases hq; simp [Addr.add]
theorem one_str (S : ByteArray) : ∀ u ∈ [Value.string S], u.oneCell' = true := by intro u hu; simp at hu; subst hu; rfl
theorem own_next {w v : World} {base sz n : Nat} {e : TypeId} {x : Value} {xs : List Value} (h : w.ownsRow base e sz x n xs) (hb : Below w.heap.size w v) : v.ownsRow base e sz x n xs := by
  refine ⟨h.1, ?_⟩
  rcases h.2 with h0 | ⟨g, cap, cur, a1, a2, a3, a4⟩
  · exact .inl h0
  · exact .inr ⟨g, cap, cur, a1, a2, (hb.block g (Array.getElem?_eq_some_iff.1 a3).1).trans a3, a4⟩
/-- While Pieces goes on: these are made, of the text that is left the others. -/
structure PcAt (w wr : World) (v : Value) (l : List UInt8) (ps : List (List UInt8)) (S : ByteArray) : Prop where
  eq : pieces l = ps ++ pieces S.data.toList
  row : wr.ownsRow w.heap.size 9 1 v ps.length (ps.map str)
  bel : Below w.heap.size w wr
set_option maxHeartbeats 2000000 in
theorem pieces_any (s : ByteArray) (hs : s.size ≤ 1099511627776) (w : World) :
    Calls Tryz.prog 62 #[.string s] w fun e w' => ∃ g cap, e = .returned (.slice (some ⟨g, 0, none⟩) (pieces s.data.toList).length cap) ∧ w.heap.size ≤ g ∧ Strs w' g (pieces s.data.toList) ∧ Below w.heap.size w w' := by
  obtain ⟨n, hn⟩ : ∃ n, n = (pieces s.data.toList).length := ⟨_, rfl⟩
  have pcn := fun v => count_any s n hn hs v
  have hl : s.data.toList.length = s.size := Array.length_toList
  have hnb : n ≤ 1099511627776 := by rw [hn, pieces_len, hl]; omega
  have hmk := mkS n hnb
  obtain ⟨i0, hi, hz0, hz1, hz2⟩ := info_parts strinfo
  have hs0 : PcAt w (w.alloc (.cells (madeCells #[.string ⟨#[]⟩] n) 9)) (.slice (some ⟨w.heap.size, 0, none⟩) 0 n) s.data.toList [] s := ⟨rfl, own_mkS n hnb w, (Below.refl _ w).alloc (Nat.le_refl _) _⟩
  have hnl : (pieces s.data.toList).length ≤ 1099511627776 := hn ▸ hnb
  clear hn
  go_enter Tryz.func62, Tryz.ntmps62
  go_wp2_with (go_at_call 60; (with_reducible refine (pcn _).mono ?_); rintro e v ⟨rfl, hv⟩; subst hv)
  go_loopg [0, 3] s.size (fun g a b wr => ∃ (S : ByteArray) (ps : List (List UInt8)), a = .string S ∧ g = S.size ∧ PcAt w wr b s.data.toList ps S)
  case atStart => exact ⟨s, [], rfl, rfl, hs0⟩
  case round =>
    obtain ⟨S, ps, rfl, rfl, hP⟩ := hrel
    clear hs0 hmk pcn
    have hSl : S.data.toList.length = S.size := Array.length_toList
    have hpl : ps.length + (pieces S.data.toList).length ≤ 1099511627776 := by have := congrArg List.length hP.eq; simp at this; omega
    have hpp := pieces_pos S.data.toList
    have hml : ps.length + 1 ≤ maxLen := by unfold maxLen; omega
    by_cases hlt : 30 < S.size
    · have d1 : decide ((30 : Int) < (S.size : Int)) = true := by simp; omega
      have d1' : (30 : Int) ≤ (S.size : Int) := by omega
      have d1n : 30 ≤ S.size := by omega
      obtain ⟨A, hA⟩ : ∃ A : ByteArray, S.extract 0 30 = A := ⟨_, rfl⟩
      obtain ⟨R, hR⟩ : ∃ R : ByteArray, S.extract 30 S.size = R := ⟨_, rfl⟩
      have hAz : A.size = 30 := by rw [← hA, ByteArray.size_extract]; omega
      have hRz : R.size = S.size - 30 := by rw [← hR, ByteArray.size_extract]; omega
      have hAl : A.data.toList = S.data.toList.take 30 := by rw [← hA]; simp [ByteArray.data_extract, List.extract_eq_take_drop]
      have hRl : R.data.toList = S.data.toList.drop 30 := by
        rw [← hR]; simp [ByteArray.data_extract, List.extract_eq_take_drop]
        rw [List.take_of_length_le (by simp)]
      obtain ⟨Q, hQ⟩ : ∃ Q : ByteArray, Q = ⟨(pc A.data.toList 1).toArray⟩ := ⟨_, rfl⟩
      have pq : ∀ v, Calls Tryz.prog 87 #[.string A, .int .u8 1] v fun e w' => e = .returned (.string Q) ∧ Below v.heap.size v w' := fun v => piece_any A (by omega) 1 Q hQ v
      have eQ : Value.string Q = str (pc (S.data.toList.take 30) 1) := by rw [hQ, hAl]; rfl
      have hnext : pieces s.data.toList = (ps ++ [pc (S.data.toList.take 30) 1]) ++ pieces R.data.toList := by
        rw [hP.eq, pieces_long (by omega), hRl]; simp
      have HQ := Lib.hid (And.intro eQ hnext)
      have HZ := Lib.hid hRz
      clear hQ hAl hRl eQ hnext hAz hRz
      go_wp2_with (first
        | (go_at_call 87; (with_reducible refine (pq _).mono ?_); rintro e w1 ⟨rfl, hb1⟩)
        | (at_builtin; refine wpList_append_own _ rfl _ _ 42 rfl w.heap.size 9 i0 _ 1 16 Tryz.underlying42 hi hz0 hz1 hz2 rfl (by omega) _ ps.length _ rfl ((own_next hP.row hb1).alloc _) ⟨w1.heap.size, 0, none⟩ 1 1 [.string Q] rfl rfl (one_new _ _ _) (one_str Q) hml (by omega) (by have := hb1.size; have := hP.bel.size; simp; omega) ?_; intro v' w' ho hgr hnil))
      go_roundg R.size
      case measure => have := HZ.out; omega
      case rel =>
        refine ⟨R, ps ++ [pc (S.data.toList.take 30) 1], rfl, rfl, HQ.out.2, ?_, ?_⟩
        · rw [List.length_append, List.map_append, List.map_singleton, ← HQ.out.1]
          exact ho
        · exact ((hP.bel.trans (hb1.mono hP.bel.size)).alloc (Nat.le_trans hP.bel.size hb1.size) _).grown hgr (by have := hb1.size; have := hP.bel.size; simp; omega) (fun k hk => (hP.row.lt k hk).1)
    · have d1 : decide ((30 : Int) < (S.size : Int)) = false := by simp; omega
      obtain ⟨Q, hQ⟩ : ∃ Q : ByteArray, Q = ⟨(pc S.data.toList 2).toArray⟩ := ⟨_, rfl⟩
      have pq : ∀ v, Calls Tryz.prog 87 #[.string S, .int .u8 2] v fun e w' => e = .returned (.string Q) ∧ Below v.heap.size v w' := fun v => piece_any S (by omega) 2 Q hQ v
      have eQ : Value.string Q = str (pc S.data.toList 2) := by rw [hQ]; rfl
      have hfin : pieces s.data.toList = ps ++ [pc S.data.toList 2] := by rw [hP.eq, pieces_short (by omega)]
      have HQ := Lib.hid (And.intro eQ hfin)
      clear hQ eQ hfin
      go_wp2_with (first
        | (go_at_call 87; (with_reducible refine (pq _).mono ?_); rintro e w1 ⟨rfl, hb1⟩)
        | (at_builtin; refine wpList_append_own _ rfl _ _ 42 rfl w.heap.size 9 i0 _ 1 16 Tryz.underlying42 hi hz0 hz1 hz2 rfl (by omega) _ ps.length _ rfl ((own_next hP.row hb1).alloc _) ⟨w1.heap.size, 0, none⟩ 1 1 [.string Q] rfl rfl (one_new _ _ _) (one_str Q) hml (by omega) (by have := hb1.size; have := hP.bel.size; simp; omega) ?_; intro v' w' ho hgr hnil))
      go_ret
      rw [HQ.out.2]
      have hB := ((hP.bel.trans (hb1.mono hP.bel.size)).alloc (Nat.le_trans hP.bel.size hb1.size) (.cells #[.string Q] 9)).grown hgr (by have := hb1.size; have := hP.bel.size; simp; omega) (fun k hk => (hP.row.lt k hk).1)
      have ho' : w'.ownsRow w.heap.size 9 1 v' (ps.length + 1) ((ps ++ [pc S.data.toList 2]).map str) := by rw [List.map_append, List.map_singleton, ← HQ.out.1]; exact ho
      obtain ⟨g, cap, e1, h1, _, h3⟩ := strs_own ho' (by simp)
      exact ⟨g, cap, by rw [← e1]; rfl, h1, h3, hB⟩
end Go.Proofs.YtoddhdionhemjaaGreatDoor
namespace Go.Proofs.YtoddhdionhemjaaGreatDoor
open Go.RowKit
set_option maxRecDepth 100000

/-- Nothing that was there has turned but the blocks of S. -/
structure But (S : Nat → Prop) (w w' : World) : Prop where
  os : w'.os = w.os
  tape : w'.tape = w.tape
  output : w'.output = w.output
  size : w.heap.size ≤ w'.heap.size
  block : ∀ k, k < w.heap.size → ¬ S k → w'.heap[k]? = w.heap[k]?
section
variable {S T : Nat → Prop} {w v x : World}
theorem But.refl (S : Nat → Prop) (w : World) : But S w w := ⟨rfl, rfl, rfl, Nat.le_refl _, fun _ _ _ => rfl⟩
theorem But.trans (h : But S w v) (k : But S v x) : But S w x :=
  ⟨k.os.trans h.os, k.tape.trans h.tape, k.output.trans h.output, Nat.le_trans h.size k.size, fun i hi hn => (k.block i (Nat.lt_of_lt_of_le hi h.size) hn).trans (h.block i hi hn)⟩
theorem But.mono (h : But S w v) (hs : ∀ k, k < w.heap.size → S k → T k) : But T w v := ⟨h.os, h.tape, h.output, h.size, fun k hk hn => h.block k hk (fun hS => hn (hs k hk hS))⟩
theorem But.of_below (S : Nat → Prop) (h : Below w.heap.size w v) : But S w v := ⟨h.os, h.tape, h.output, h.size, fun k hk _ => h.block k hk⟩
theorem But.of_but2 {g b : Nat} (h : But2 g b w v) (h1 : S g) (h2 : S b) : But S w v := ⟨h.os, h.tape, h.output, h.size, fun k hk hn => h.block k hk (fun e => hn (e ▸ h1)) (fun e => hn (e ▸ h2))⟩
theorem But.of_grown {row : Option Nat} (h : w.grownBy v row) (hr : ∀ k, row = some k → S k) : But S w v := ⟨h.os, h.tape, h.output, h.size, fun k hk hn => h.block k hk (fun e => hn (hr k e.symm))⟩
theorem But.setCell (h : But S w v) {p : Addr} (hp : S p.block) (u : Value) : But S w (v.setCell p u) :=
  h.trans ⟨rfl, rfl, rfl, by simp [World.setCell], fun k _ hn => heap_setCell_other v p k u (fun e => hn (e ▸ hp))⟩
theorem But.alloc (h : But S w v) (o : Obj) : But S w (v.alloc o) := h.trans (But.of_below S ((Below.refl _ v).alloc (Nat.le_refl _) o))
theorem But.drew (h : But S w v) : But S w v.drew := h.trans ⟨rfl, rfl, rfl, Nat.le_refl _, fun _ _ _ => rfl⟩
theorem But.next (h : But S w v) (hb : Below v.heap.size v x) : But S w x := h.trans (But.of_below S hb)
/-- What lies below all of S lies as it lay. -/
theorem But.below {B : Nat} (h : But S w v) (hB : B ≤ w.heap.size) (hs : ∀ k, S k → B ≤ k) : Below B w v :=
  ⟨h.os, h.tape, h.output, h.size, fun k hk => h.block k (by omega) (fun hS => by have := hs k hS; omega)⟩
theorem Rw.butS {t : TypeId} {cs : Array Value} {k : Nat} (hr : Rw w k t cs) (h : But S w v) (hn : ¬ S k) : Rw v k t cs := (h.block k hr.size hn).trans hr
theorem DkAt.butS {g b cap : Nat} {d : Dk} (hd : DkAt w g b cap d) (h : But S w v) (h1 : ¬ S g) (h2 : ¬ S b) : DkAt v g b cap d := hd.same (h.block g hd.lt.1 h1) (h.block b hd.lt.2 h2)
theorem own_but {base sz n : Nat} {e : TypeId} {y : Value} {xs : List Value} (ho : w.ownsRow base e sz y n xs) (h : But S w v) (hn : ∀ k, y.ownBlock = some k → ¬ S k) : v.ownsRow base e sz y n xs := by
  refine ⟨ho.1, ?_⟩
  rcases ho.2 with h0 | ⟨g, cap, cur, rfl, a2, a3, a4⟩
  · exact .inl h0
  · exact .inr ⟨g, cap, cur, rfl, a2, (h.block g (Array.getElem?_eq_some_iff.1 a3).1 (hn g rfl)).trans a3, a4⟩
/-- Blocks of two types are two. -/
theorem Rw.ne {g g' : Nat} {t t' : TypeId} {cs cs' : Array Value} (h : Rw w g t cs) (h' : Rw w g' t' cs') (hn : t ≠ t') : g ≠ g' := fun e => by
  subst e
  have e2 := h.symm.trans h'
  simp only [Option.some.injEq, Obj.cells.injEq] at e2
  exact hn e2.2.1
theorem own_ne {base sz n g : Nat} {e t : TypeId} {y : Value} {xs : List Value} {cs : Array Value} (ho : w.ownsRow base e sz y n xs) (h : Rw w g t cs) (hn : t ≠ e) : ∀ k, y.ownBlock = some k → k ≠ g := fun k hk => by
  rcases ho.2 with ⟨rfl, _⟩ | ⟨g', cap, cur, rfl, a2, a3, a4⟩
  · cases hk
  · cases hk
    exact fun e => h.ne (show Rw w g' _ cur from a3) hn e.symm
theorem Secs.rw {b : Nat} {ss : List (List UInt8)} (h : Secs w b ss) : ∃ cur, Rw w b 139 cur := by obtain ⟨cur, h1, _⟩ := h; exact ⟨cur, h1⟩
end
/-- A journal lies in block jg; its texts are a row of its own. -/
structure JnAt (w : World) (base jg G : Nat) (v : Value) (ts : List (List UInt8)) (e : Nat) (t : Bool) : Prop where
  head : Rw w jg 99 #[.pointer (some ⟨G, 0, none⟩), v, .int .i64 (e : Int), .bool t]
  row : w.ownsRow base 9 1 v ts.length (ts.map str)
/-- The blocks of a journal. -/
def JS (jg : Nat) (v : Value) (k : Nat) : Prop := k = jg ∨ v.ownBlock = some k
section
variable {w w' : World} {base jg G : Nat} {v : Value} {ts : List (List UInt8)} {e : Nat} {t : Bool}
theorem JnAt.butS {S : Nat → Prop} (h : JnAt w base jg G v ts e t) (hb : But S w w') (h1 : ¬ S jg) (h2 : ∀ k, v.ownBlock = some k → ¬ S k) : JnAt w' base jg G v ts e t := ⟨h.head.butS hb h1, own_but h.row hb h2⟩
theorem JnAt.next (h : JnAt w base jg G v ts e t) (hb : Below w.heap.size w w') : JnAt w' base jg G v ts e t := h.butS (S := fun _ => False) (But.of_below _ hb) (fun h => h) (fun _ _ h => h)
theorem JnAt.drew (h : JnAt w base jg G v ts e t) : JnAt w.drew base jg G v ts e t := h.next (Below.refl _ w).drew
theorem JnAt.ne (h : JnAt w base jg G v ts e t) : ∀ k, v.ownBlock = some k → k ≠ jg := own_ne h.row h.head (by decide)
theorem JnAt.lt (h : JnAt w base jg G v ts e t) : ∀ k, JS jg v k → k < w.heap.size := fun k hk => by
  rcases hk with rfl | hk
  · exact h.head.size
  · exact (h.row.lt k hk).2
/-- It lies apart from a block of another type. -/
theorem JnAt.apart (h : JnAt w base jg G v ts e t) {g : Nat} {y : TypeId} {cs : Array Value} (hr : Rw w g y cs) (h1 : y ≠ 99) (h2 : y ≠ 9) : ¬ JS jg v g := fun hk => by
  rcases hk with rfl | hk
  · exact hr.ne h.head h1 rfl
  · exact own_ne h.row hr h2 g hk rfl
theorem JnAt.apartD (h : JnAt w base jg G v ts e t) {g b cap : Nat} {d : Dk} (hd : DkAt w g b cap d) : ¬ JS jg v g ∧ ¬ JS jg v b := by
  obtain ⟨cur, hc⟩ := hd.secs.rw
  exact ⟨h.apart hd.head (by decide) (by decide), h.apart hc (by decide) (by decide)⟩
end
section
variable (w : World) (base jg G : Nat) (v : Value) (ts : List (List UInt8)) (e : Nat) (t : Bool)
theorem Rw.own {w : World} {base sz n g cap m : Nat} {e : TypeId} {xs : List Value} (h : w.ownsRow base e sz (.slice (some ⟨g, 0, none⟩) m cap) n xs) : ∃ (_ : m = n) (cur : Array Value), Rw w g e cur := by
  rcases h.2 with ⟨h0, _⟩ | ⟨g', cap', cur, a1, a2, a3, _⟩
  · cases h0
  · cases a1
    exact ⟨rfl, cur, a3⟩
theorem own_form {w : World} {base sz n : Nat} {e : TypeId} {x : Value} {xs : List Value} (h : w.ownsRow base e sz x n xs) (hn : 0 < n) : ∃ g cap, x = .slice (some ⟨g, 0, none⟩) n cap := by
  rcases h.2 with ⟨_, h0⟩ | ⟨g, cap, cur, a1, _⟩
  · omega
  · exact ⟨g, cap, a1⟩
/-- Where a row that was appended to may lie. -/
def Gone (w : World) (v v' : Value) : Prop := v'.ownBlock = v.ownBlock ∨ ∀ k, v'.ownBlock = some k → w.heap.size ≤ k
set_option maxHeartbeats 1000000 in
theorem add_any (s : ByteArray) (E : Nat) (hb : base ≤ w.heap.size) (hts : ts.length ≤ 1099511627776) (h : JnAt w base jg G v ts e t) :
    Calls Tryz.prog 49 #[.pointer (some ⟨jg, 0, none⟩), .string s, .int .i64 (E : Int)] w fun r w' =>
      r = .returned (.tuple #[]) ∧ ∃ v', JnAt w' base jg G v' (ts ++ [s.data.toList]) E t ∧ But (JS jg v) w w' ∧ Gone w v v' := by
  have c1 := h.head.at 1
  have d1 := (h.head.alloc (.cells #[.string s] 9)).at 1
  obtain ⟨i0, hi, hz0, hz1, hz2⟩ := info_parts strinfo
  have hml : ts.length + 1 ≤ maxLen := by unfold maxLen; omega
  have hH := h.head.alloc (.cells #[.string s] 9)
  have hne := h.ne
  go_enter Tryz.func49, Tryz.ntmps49
  go_wp2_with (at_builtin; refine wpList_append_own_at _ rfl _ _ 42 rfl base 9 i0 _ 1 16 Tryz.underlying42 hi hz0 hz1 hz2 rfl (by omega) v ts.length _ rfl (h.row.alloc _) ⟨w.heap.size, 0, none⟩ 1 1 [.string s] rfl rfl (one_new _ _ _) (one_str s) hml (by omega) (by simp; omega) ?_; intro v' w' ho hgr hnil hat; obtain ⟨g', cap', rfl⟩ := own_form ho (by omega); have hR := (hgr.block jg hH.size (fun e => absurd rfl (hne jg e.symm))).trans hH; have r1 := Rw.at hR 1; have r2 := Rw.at hR 2; have g1 := Rw.free hR 1; have g2 := Rw.free hR 2)
  go_end0
  have hb1 : But (JS jg v) (w.alloc (.cells #[.string s] 9)) w' := But.of_grown hgr (fun k hk => .inr hk)
  have hg' : g' ≠ jg := fun e => by
    subst e
    obtain ⟨_, _, hc⟩ := Rw.own ho
    exact Rw.ne (show Rw w' g' _ _ from hR) hc (by decide) rfl
  refine ⟨rfl, _, ⟨(Rw.put hR 1 _).put 2 _, ?_⟩, ((((But.refl _ w).alloc _).trans hb1).setCell (p := ⟨jg, 1, none⟩) (.inl rfl) _).setCell (p := ⟨jg, 2, none⟩) (.inl rfl) _, ?_⟩
  · have e1 : (ts ++ [s.data.toList]).map str = ts.map str ++ [.string s] := by rw [List.map_append]; rfl
    rw [e1, List.length_append]
    have hx : ∀ (W : World) (q : Nat) (u : Value), W.ownsRow base 9 1 (.slice (some ⟨g', 0, none⟩) (ts.length + 1) cap') (ts.length + 1) (ts.map str ++ [.string s]) → (W.setCell ⟨jg, q, none⟩ u).ownsRow base 9 1 (.slice (some ⟨g', 0, none⟩) (ts.length + 1) cap') (ts.length + 1) (ts.map str ++ [.string s]) := fun W q u hW =>
      own_but (S := fun k => k = jg) hW ((But.refl (fun k => k = jg) W).setCell (p := ⟨jg, q, none⟩) rfl u) (fun k hk => by cases hk; exact hg')
    exact hx _ _ _ (hx _ _ _ ho)
  · rcases hat with h1 | h1
    · exact .inl h1
    · exact .inr fun k hk => by rw [h1] at hk; cases hk; simp
end
end Go.Proofs.YtoddhdionhemjaaGreatDoor
namespace Go.Proofs.YtoddhdionhemjaaGreatDoor
open Go.RowKit
set_option maxRecDepth 100000

section
variable (w : World) (base jg G B cap : Nat) (d : Dk) (v : Value) (ts : List (List UInt8)) (e : Nat)
theorem commit_torn (s : ByteArray) (h : JnAt w base jg G v ts e true) :
    Calls Tryz.prog 33 #[.pointer (some ⟨jg, 0, none⟩), .string s] w fun r w' => r = .returned (.int .i64 9) ∧ w = w' := by
  have c3 := h.head.at 3
  go_enter Tryz.func33, Tryz.ntmps33
  go_wp2_with fail
  go_ret
  exact ⟨rfl, rfl⟩
set_option maxHeartbeats 1000000 in
theorem commit_full (s : ByteArray) (hs : s.size ≤ 1099511627776) (he : e ≤ d.ss.length) (hD : DkAt w G B cap d) (h : JnAt w base jg G v ts e false) (hf : d.ss.length < e + (pieces s.data.toList).length) :
    Calls Tryz.prog 33 #[.pointer (some ⟨jg, 0, none⟩), .string s] w fun r w' => r = .returned (.int .i64 6) ∧ Below w.heap.size w w' := by
  obtain ⟨n, hn⟩ : ∃ n, n = (pieces s.data.toList).length := ⟨_, rfl⟩
  have pcn := fun v => count_any s n hn hs v
  rw [← hn] at hf
  have hn2 := hD.ok.n2
  have c3 := h.head.at 3
  have c0 := h.head.at 0
  have c2 := h.head.at 2
  have pS := sectors_any _ G B cap d hD.drew
  obtain ⟨f, hf2⟩ : ∃ f : Nat, f = d.ss.length - e := ⟨_, rfl⟩
  have hw : IntKind.i64.wrap ((d.ss.length : Int) - (e : Int)) = (f : Int) := (IntWalk.i64_in _ (by omega)).trans (by omega)
  have d1 : decide ((f : Int) < (n : Int)) = true := by simp; omega
  have d1n : f < n := by omega
  clear hn hf2 hf
  go_enter Tryz.func33, Tryz.ntmps33
  go_upto_region 4 with (go_at_call 60; (with_reducible refine (pcn _).mono ?_); rintro e v ⟨rfl, hv⟩; subst hv)
  refine wp_region_still_lit (by kernel_rfl) (by kernel_rfl) ?_
  iterate 5 still_step
  still_call (pS.mono fun _ _ h => ⟨h.1, h.2.symm⟩)
  iterate 6 still_step
  refine wpStill_nil ?_
  change Exit.then _ _ _ _ w.drew
  go_wp2_with fail
  go_ret
  exact ⟨rfl, (Below.refl _ w).drew⟩
theorem wr_len6 (d : Dk) (i : Int) (s : List UInt8) : (d.wr i s).2.ss.length = d.ss.length := by
  unfold Dk.wr
  split
  · split
    · simp [Dk.put]
    · simp [Dk.put]
  · rfl
/-- While Commit writes: k pieces are written. -/
structure CmAt (wr : World) (gp k : Nat) (dk : Dk) (ps : List (List UInt8)) : Prop where
  hd : DkAt wr G B cap dk
  eq : wrs d e ps = wrs dk (e + k) (ps.drop k)
  n : dk.ss.length = d.ss.length
  jn : JnAt wr base jg G v ts e false
  strs : Strs wr gp ps
  ge : w.heap.size ≤ gp
  but : But (fun k => k = G ∨ k = B) w wr
theorem Strs.but {w v : World} {S : Nat → Prop} {b : Nat} {ss : List (List UInt8)} (h : Strs w b ss) (hb : But S w v) (hn : ¬ S b) : Strs v b ss := h.same (hb.block b h.lt hn)
set_option maxHeartbeats 2000000 in
theorem commit_go (s : ByteArray) (n : Nat) (hn : n = (pieces s.data.toList).length) (hs : s.size ≤ 1099511627776) (hb : base ≤ w.heap.size) (hts : ts.length ≤ 1099511627776) (hD : DkAt w G B cap d) (h : JnAt w base jg G v ts e false) (hf : e + n ≤ d.ss.length) :
    Calls Tryz.prog 33 #[.pointer (some ⟨jg, 0, none⟩), .string s] w fun r w' =>
      DkAt w' G B cap (wrs d e (pieces s.data.toList)).2 ∧ But (fun k => (k = G ∨ k = B) ∨ JS jg v k) w w' ∧
      (((wrs d e (pieces s.data.toList)).1 = true ∧ r = .returned (.int .i64 0) ∧ ∃ v', JnAt w' base jg G v' (ts ++ [s.data.toList]) (e + n) false ∧ Gone w v v') ∨
       ((wrs d e (pieces s.data.toList)).1 = false ∧ r = .returned (.int .i64 9) ∧ JnAt w' base jg G v ts e true)) := by
  have pcn := fun v => count_any s n hn hs v
  have pP := fun v => pieces_any s hs v
  obtain ⟨ps, hps⟩ : ∃ ps, ps = pieces s.data.toList := ⟨_, rfl⟩
  rw [← hps] at hn pP ⊢
  have hz : ∀ p ∈ ps, p.length = 32 := by rw [hps]; exact pieces_z _
  rw [← hn] at pP
  have hn2 := hD.ok.n2
  have c3 := h.head.at 3
  have c0 := h.head.at 0
  have c2 := h.head.at 2
  have pS := sectors_any _ G B cap d hD.drew
  obtain ⟨f, hf2⟩ : ∃ f : Nat, f = d.ss.length - e := ⟨_, rfl⟩
  have hw : IntKind.i64.wrap ((d.ss.length : Int) - (e : Int)) = (f : Int) := (IntWalk.i64_in _ (by omega)).trans (by omega)
  have d1 : decide ((f : Int) < (n : Int)) = false := by simp; omega
  have d1n : ¬ f < n := by omega
  have d1m : n ≤ f := by omega
  have HN := Lib.hid hn
  clear hn hf2 hps
  go_enter Tryz.func33, Tryz.ntmps33
  go_upto_region 4 with (go_at_call 60; (with_reducible refine (pcn _).mono ?_); rintro e v ⟨rfl, hv⟩; subst hv)
  refine wp_region_still_lit (by kernel_rfl) (by kernel_rfl) ?_
  iterate 5 still_step
  still_call (pS.mono fun _ _ h => ⟨h.1, h.2.symm⟩)
  iterate 6 still_step
  refine wpStill_nil ?_
  change Exit.then _ _ _ _ w.drew
  go_wp2_with (go_at_call 62; (with_reducible refine (pP _).mono ?_); rintro e w1 ⟨gp, cp, rfl, hgp, hS1, hb1⟩)
  have hbw : Below w.heap.size w w1 := (Below.refl _ w).drew.trans hb1
  have hC0 : CmAt w base jg G B cap d v ts e w1 gp 0 d ps := ⟨hD.next hbw, by rw [Nat.add_zero]; rfl, rfl, h.next hbw, hS1, hgp, But.of_below _ hbw⟩
  clear c0 c2 c3 pS pcn pP hw d1 d1n d1m hbw hb1 hgp hS1
  go_loopg [29] (n + 1) (fun g a wr => ∃ (k : Nat) (dk : Dk), a = .int .i64 (k : Int) ∧ k ≤ n ∧ g = n + 1 - k ∧ CmAt w base jg G B cap d v ts e wr gp k dk ps)
  case atStart => exact ⟨0, d, rfl, Nat.zero_le _, by omega, hC0⟩
  case round =>
    obtain ⟨k, dk, rfl, hk, hg, hC⟩ := hrel
    clear hC0
    have hap := hC.jn.apartD hC.hd
    have c0 := hC.jn.head.at 0
    have c2 := hC.jn.head.at 2
    by_cases hlt : k < n
    · have t1 : decide ((k : Int) < (n : Int)) = true := by simp; omega
      have hkl : k < ps.length := by have := HN.out; omega
      obtain ⟨cs, hcs, hcs2⟩ := hC.strs
      obtain ⟨P, hP⟩ : ∃ P : ByteArray, P = ⟨(ps[k]).toArray⟩ := ⟨_, rfl⟩
      have hci : wr.cell? ⟨gp, k, none⟩ = some (.string P) := by rw [hcs.at, hcs2 k _ (List.getElem?_eq_getElem hkl), hP]; rfl
      have hPl : P.data.toList = ps[k] := by rw [hP]
      have hw : IntKind.i64.wrap ((e : Int) + (k : Int)) = (e : Int) + (k : Int) := IntWalk.i64_in _ (by omega)
      have pw := write_any wr.drew G B cap dk ((e : Int) + (k : Int)) P hC.hd.drew
      rw [hPl] at pw
      obtain ⟨r, hr⟩ : ∃ r, r = dk.wr ((e : Int) + (k : Int)) ps[k] := ⟨_, rfl⟩
      rw [← hr] at pw
      have hdrop : ps.drop k = ps[k] :: ps.drop (k + 1) := List.drop_eq_getElem_cons hkl
      have hstep : wrs d e ps = if r.1 = true then wrs r.2 (e + (k + 1)) (ps.drop (k + 1)) else (false, r.2) := by rw [hC.eq, hdrop, wrs, show ((e + k : Nat) : Int) = (e : Int) + (k : Int) from rfl, ← hr]; rfl
      have hrn : r.2.ss.length = d.ss.length := by rw [hr, wr_len6, hC.n]
      have HST := Lib.hid (And.intro hstep hrn)
      clear hstep hrn hr hdrop hPl hP hcs2 hcs
      go_upto_region 9 with fail
      refine wp_region_still_tail 11 (by kernel_rfl) (by kernel_rfl) ?_
      simp only [List.take_succ_cons, List.take_zero, List.drop_succ_cons, List.drop_zero]
      iterate 11 still_step
      refine wpStill_nil ?_
      change wpList _ _ _ _ _ wr.drew
      by_cases hrt : r.1 = true
      · rw [hrt] at pw
        go_wp2_with (go_at_call 63; (with_reducible refine pw.mono ?_); rintro r' w2 ⟨rfl, hD2, hB2⟩)
        go_roundg (n + 1 - (k + 1))
        case measure => omega
        case rel =>
          have hbut := hC.but.drew.trans (But.of_but2 hB2 (.inl rfl) (.inr rfl))
          have hb2 : But (fun k => k = G ∨ k = B) wr w2 := (But.refl _ wr).drew.trans (But.of_but2 hB2 (.inl rfl) (.inr rfl))
          have hgpn : ¬ (gp = G ∨ gp = B) := fun hh => by have := hD.lt; have := hC.ge; omega
          exact ⟨k + 1, r.2, by go_num, by omega, rfl, hD2, by have := HST.out.1; rw [if_pos hrt] at this; exact this, HST.out.2, hC.jn.butS hb2 (fun hh => by rcases hh with hh | hh; exact hap.1 (.inl hh.symm); exact hap.2 (.inl hh.symm)) (fun q hq hh => by rcases hh with rfl | rfl; exact hap.1 (.inr hq); exact hap.2 (.inr hq)), hC.strs.but hb2 hgpn, hC.ge, hbut⟩
      · have hrf : r.1 = false := by simpa using hrt
        rw [hrf] at pw
        have hj : ∀ w2, But2 G B wr.drew w2 → JnAt w2 base jg G v ts e false := fun w2 hB2 =>
          hC.jn.butS ((But.refl (fun k => k = G ∨ k = B) wr).drew.trans (But.of_but2 hB2 (.inl rfl) (.inr rfl))) (fun hh => by rcases hh with hh | hh; exact hap.1 (.inl hh.symm); exact hap.2 (.inl hh.symm)) (fun q hq hh => by rcases hh with rfl | rfl; exact hap.1 (.inr hq); exact hap.2 (.inr hq))
        go_wp2_with (go_at_call 63; (with_reducible refine pw.mono ?_); rintro r' w2 ⟨rfl, hD2, hB2⟩; have hj2 := hj _ hB2; have q3 := hj2.head.at 3; have f3 := hj2.head.free 3)
        go_ret
        have e1 : wrs d e ps = (false, r.2) := by have := HST.out.1; rwa [if_neg hrt] at this
        have hap2 := hj2.apartD hD2
        have hbut := (hC.but.drew.trans (But.of_but2 hB2 (.inl rfl) (.inr rfl))).mono (T := fun k => (k = G ∨ k = B) ∨ JS jg v k) (fun _ _ h => .inl h)
        rw [e1]
        refine ⟨hD2.same (heap_setCell_other w2 ⟨jg, 3, none⟩ G _ (fun hh => hap2.1 (.inl hh))) (heap_setCell_other w2 ⟨jg, 3, none⟩ B _ (fun hh => hap2.2 (.inl hh))), hbut.setCell (p := ⟨jg, 3, none⟩) (.inr (.inl rfl)) _, .inr ⟨rfl, rfl, hj2.head.put 3 _, ?_⟩⟩
        exact own_but (S := fun k => k = jg) hj2.row ((But.refl (fun k => k = jg) w2).setCell (p := ⟨jg, 3, none⟩) rfl _) (fun q hq => hj2.ne q hq)
    · obtain rfl : k = n := by omega
      have t1 : decide ((k : Int) < (k : Int)) = false := by simp
      have pC := fun v => sclone_any s hs v
      have hw : IntKind.i64.wrap ((e : Int) + (k : Int)) = (e : Int) + (k : Int) := IntWalk.i64_in _ (by omega)
      have pA : ∀ (u : World) (hu : Below wr.heap.size wr u), Calls Tryz.prog 49 #[.pointer (some ⟨jg, 0, none⟩), .string s, .int .i64 ((e : Int) + (k : Int))] u fun r w' =>
        r = .returned (.tuple #[]) ∧ ∃ v', JnAt w' base jg G v' (ts ++ [s.data.toList]) (e + k) false ∧ But (JS jg v) u w' ∧ Gone u v v' := fun (u : World) (hu : Below wr.heap.size wr u) => add_any u base jg G v ts e false s (e + k) (Nat.le_trans hb (Nat.le_trans hC.but.size hu.size)) hts (hC.jn.next hu)
      go_upto_region 13 with fail
      go_region_with (first
        | (go_at_call 38; (with_reducible refine (pC _).mono ?_); rintro r' w2 ⟨rfl, hb2⟩; have hbx : Below wr.heap.size wr w2 := (Below.refl _ wr).drew.trans hb2; have q2 := (hC.jn.next hbx).head.at 2)
        | (go_at_call 49; (with_reducible refine (pA _ hbx).mono ?_); rintro r' w3 ⟨rfl, v', hJ3, hB3, hg3⟩))
      all_goals
        go_wp2_with fail
        go_ret
        have e1 : wrs d e ps = (true, dk) := by
          rw [hC.eq, List.drop_of_length_le (by have := HN.out; omega)]; rfl
        rw [e1]
        have hap2 := (hC.jn.next hbx).apartD (hC.hd.next hbx)
        exact ⟨(hC.hd.next hbx).butS hB3 hap2.1 hap2.2, ((hC.but.next hbx).mono (T := fun k => (k = G ∨ k = B) ∨ JS jg v k) (fun _ _ h => .inl h)).trans (hB3.mono (fun _ _ h => .inr h)), .inl ⟨rfl, rfl, v', hJ3, by
          rcases hg3 with hg3 | hg3
          · exact .inl hg3
          · exact .inr fun q hq => Nat.le_trans (Nat.le_trans hC.but.size hbx.size) (hg3 q hq)⟩⟩
end
end Go.Proofs.YtoddhdionhemjaaGreatDoor
