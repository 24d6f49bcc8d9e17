/- SHA-1 OF 256 TEXTS AT ONCE: words, the schedule, rounds, a block. PLAIN: nothing of the program. -/
import Derived.Test.YtbcffpimnmjjoaaGreatDoorSv8
namespace Go.Proofs.YtbcffpimnmjjoaaGreatDoor.Ha
open Go.RowKit
set_option maxRecDepth 100000

/-- A text of which some bytes are the lane's number. -/
def sb (i : Nat) (l : List (Option UInt8)) : List UInt8 := l.map fun o => o.getD (UInt8.ofNat i)
def vbt (l : List (Option UInt8)) (j : Nat) : Nat := match l.getD j (some 0) with
  | none => lanesC
  | some b => ones * b.toNat
theorem bt_sb (i : Nat) (l : List (Option UInt8)) (j : Nat) : bt (sb i l) j = (((l.getD j (some 0)).getD (UInt8.ofNat i)).toNat : Int) := by
  unfold bt sb
  rw [List.getD_eq_getElem?_getD, List.getElem?_map, List.getD_eq_getElem?_getD]
  cases l[j]? <;> rfl
theorem RI.bt (l : List (Option UInt8)) (j : Nat) : RI (vbt l j) (fun i => Ha.bt (sb i l) j) := by
  have e : (fun i => Ha.bt (sb i l) j) = fun i => (((l.getD j (some 0)).getD (UInt8.ofNat i)).toNat : Int) := funext fun i => bt_sb i l j
  rw [e]
  unfold vbt
  cases l.getD j (some 0) with
  | none =>
    have := RI.lanes
    simpa using this
  | some b => exact RI.const b.toNat (Nat.lt_trans b.toNat_lt (by decide))
def vword (l : List (Option UInt8)) (i : Nat) : Nat := (((vbt l (4 * i) * 16777216) ||| (vbt l (4 * i + 1) * 65536)) ||| (vbt l (4 * i + 2) * 256)) ||| vbt l (4 * i + 3)
theorem RI.word (l : List (Option UInt8)) (j : Nat) : RI (vword l j) (fun i => Ha.word (sb i l) j) := by
  have h0 := fun i => bt_le (sb i l) (4 * j)
  have h1 := fun i => bt_le (sb i l) (4 * j + 1)
  have h2 := fun i => bt_le (sb i l) (4 * j + 2)
  exact ((((RI.bt l (4 * j)).mul 16777216 (fun i => by have := h0 i; omega)).or ((RI.bt l (4 * j + 1)).mul 65536 (fun i => by have := h1 i; omega))).or ((RI.bt l (4 * j + 2)).mul 256 (fun i => by have := h2 i; omega))).or (RI.bt l (4 * j + 3))
/-- It is reckoned first. -/
def fz {α : Type} (x : Nat) (f : Nat → α) : α := match x with
  | 0 => f 0
  | n + 1 => f (Nat.succ n)
theorem fz_eq {α : Type} (x : Nat) (f : Nat → α) : fz x f = f x := by cases x <;> rfl
/-- Words, the last one first. -/
structure RL (L : List Nat) (n : Nat) (y : Nat → List Int) : Prop where
  len : L.length = n
  ln : ∀ i, (y i).length = n
  at_ : ∀ j, j < n → RI (L.getD j 0) (fun i => (y i).getD (n - 1 - j) 0)
theorem RL.cons {L : List Nat} {n : Nat} {y : Nat → List Int} {w : Nat} {v : Nat → Int} (h : RL L n y) (hw : RI w v) : RL (w :: L) (n + 1) (fun i => y i ++ [v i]) := by
  refine ⟨by rw [List.length_cons, h.len], fun i => by rw [List.length_append, h.ln]; rfl, fun j hj => ?_⟩
  cases j with
  | zero =>
    have e : (fun i => (y i ++ [v i]).getD (n + 1 - 1 - 0) 0) = v := funext fun i => by
      rw [List.getD_eq_getElem?_getD, List.getElem?_append_right (by rw [h.ln]; omega), h.ln, show n + 1 - 1 - 0 - n = 0 by omega]; rfl
    rw [e]
    exact hw
  | succ j =>
    have e : (fun i => (y i ++ [v i]).getD (n + 1 - 1 - (j + 1)) 0) = fun i => (y i).getD (n - 1 - j) 0 := funext fun i => by
      rw [List.getD_eq_getElem?_getD, List.getElem?_append_left (by rw [h.ln]; omega), show n + 1 - 1 - (j + 1) = n - 1 - j by omega, List.getD_eq_getElem?_getD]
    rw [e]
    exact h.at_ j (by omega)
def vw0 (l : List (Option UInt8)) : Nat → List Nat
  | 0 => []
  | n + 1 => vword l n :: vw0 l n
theorem RL.w0 (l : List (Option UInt8)) : ∀ n, n ≤ 16 → RL (vw0 l n) n (fun i => wl (sb i l) n)
  | 0, _ => ⟨rfl, fun _ => rfl, fun j h => absurd h (by omega)⟩
  | n + 1, h => by
    have h1 := (RL.w0 l n (by omega)).cons (RI.word l n)
    have e : (fun i => wl (sb i l) (n + 1)) = fun i => wl (sb i l) n ++ [Ha.word (sb i l) n] := funext fun i => by
      show wl (sb i l) n ++ [wnext (sb i l) n (wl (sb i l) n)] = _
      unfold wnext
      rw [if_pos (by omega)]
    rw [e]
    exact h1
def vsch : Nat → List Nat → List Nat
  | 0, L => L
  | n + 1, L => fz (vrot 2 (((L.getD 2 0 ^^^ L.getD 7 0) ^^^ L.getD 13 0) ^^^ L.getD 15 0)) fun w => vsch n (w :: L)
theorem RL.sch (l : List (Option UInt8)) : ∀ (n m : Nat) (L : List Nat), 16 ≤ m → RL L m (fun i => wl (sb i l) m) → RL (vsch n L) (m + n) (fun i => wl (sb i l) (m + n))
  | 0, _, _, _, h => h
  | n + 1, m, L, hm, h => by
    rw [vsch, fz_eq]
    have hw : RI (vrot 2 (((L.getD 2 0 ^^^ L.getD 7 0) ^^^ L.getD 13 0) ^^^ L.getD 15 0)) (fun i => wnext (sb i l) m (wl (sb i l) m)) := by
      have e : (fun i => wnext (sb i l) m (wl (sb i l) m)) = fun i => Ha.rot1 (xor4 (wl (sb i l) m) m) := funext fun i => by
        unfold wnext; rw [if_neg (by omega)]
      rw [e]
      have a := h.at_ 2 (by omega)
      have b := h.at_ 7 (by omega)
      have c := h.at_ 13 (by omega)
      have d := h.at_ 15 (by omega)
      rw [show m - 1 - 2 = m - 3 by omega] at a
      rw [show m - 1 - 7 = m - 8 by omega] at b
      rw [show m - 1 - 13 = m - 14 by omega] at c
      rw [show m - 1 - 15 = m - 16 by omega] at d
      exact (((a.xor b).xor c).xor d).rot1
    have h1 := RL.sch l n (m + 1) _ (by omega) (h.cons hw)
    rw [show m + (n + 1) = m + 1 + n by omega]
    exact h1
def vwords (l : List (Option UInt8)) : List Nat := (vsch 64 (vw0 l 16)).reverse
theorem RI.words (l : List (Option UInt8)) (t : Nat) (ht : t < 80) : RI ((vwords l).getD t 0) (fun i => (wl (sb i l) 80).getD t 0) := by
  have h := RL.sch l 64 16 (vw0 l 16) (Nat.le_refl _) (RL.w0 l 16 (Nat.le_refl _))
  have h1 := h.at_ (79 - t) (by omega)
  rw [show 16 + 64 - 1 - (79 - t) = t by omega] at h1
  have e : (vwords l).getD t 0 = (vsch 64 (vw0 l 16)).getD (79 - t) 0 := by
    unfold vwords
    have := h.len
    rw [List.getD_eq_getElem?_getD, List.getElem?_reverse (by omega), this, List.getD_eq_getElem?_getD]
  rw [e]
  exact h1
theorem vwords_len (l : List (Option UInt8)) : (vwords l).length = 80 := by
  have h := RL.sch l 64 16 (vw0 l 16) (Nat.le_refl _) (RL.w0 l 16 (Nat.le_refl _))
  unfold vwords
  rw [List.length_reverse, h.len]
/-! ### Rounds -/
structure RS (a b c d e : Nat) (s : Nat → St) : Prop where
  a : RI a (fun i => (s i).a)
  b : RI b (fun i => (s i).b)
  c : RI c (fun i => (s i).c)
  d : RI d (fun i => (s i).d)
  e : RI e (fun i => (s i).e)
/-- A function on lanes does what f does. -/
def DoesF (F : Nat → Nat → Nat → Nat) (f : Int → Int → Int → Int) : Prop := ∀ (B C D : Nat) (b c d : Nat → Int), RI B b → RI C c → RI D d → RI (F B C D) (fun i => f (b i) (c i) (d i))
def vch (B C D : Nat) : Nat := (B &&& C) ||| ((mk32 ^^^ B) &&& D)
def vpar (B C D : Nat) : Nat := (B ^^^ C) ^^^ D
def vmaj (B C D : Nat) : Nat := ((B &&& C) ||| (B &&& D)) ||| (C &&& D)
theorem does_ch : DoesF vch fch := fun _ _ _ _ _ _ hb hc hd => (hb.and hc).or ((RI.mask.xor hb).and hd)
theorem does_par : DoesF vpar fpar := fun _ _ _ _ _ _ hb hc hd => (hb.xor hc).xor hd
theorem does_maj : DoesF vmaj fmaj := fun _ _ _ _ _ _ hb hc hd => ((hb.and hc).or (hb.and hd)).or (hc.and hd)
def vseg {α : Type} (F : Nat → Nat → Nat → Nat) (k : Nat) : List Nat → Nat → Nat → Nat → Nat → Nat → (Nat → Nat → Nat → Nat → Nat → α) → α
  | [], a, b, c, d, e, r => r a b c d e
  | w :: W, a, b, c, d, e, r => fz (vadd (vadd (vadd (vadd (vrot 32 a) (F b c d)) e) k) w) fun a' => fz (vrot 1073741824 b) fun b' => vseg F k W a' a b' c d r
theorem seg_does {α : Type} {F : Nat → Nat → Nat → Nat} {f : Int → Int → Int → Int} (hF : DoesF F f) {k : Nat} {kk : Int} (hk : RI k (fun _ => kk)) (ws : Nat → List Int) (s0 : Nat → St) (r : Nat → Nat → Nat → Nat → Nat → α) :
    ∀ (W : List Nat) (t : Nat) (a b c d e : Nat), (∀ q, t ≤ q → q < t + W.length → fF q = f ∧ fK q = kk) → (∀ j, j < W.length → RI (W.getD j 0) (fun i => (ws i).getD (t + j) 0)) → RS a b c d e (fun i => rnds (ws i) t (s0 i)) →
      ∃ a' b' c' d' e', vseg F k W a b c d e r = r a' b' c' d' e' ∧ RS a' b' c' d' e' (fun i => rnds (ws i) (t + W.length) (s0 i))
  | [], t, a, b, c, d, e, _, _, h => ⟨a, b, c, d, e, rfl, h⟩
  | w :: W, t, a, b, c, d, e, hq, hW, h => by
    rw [vseg, fz_eq, fz_eq]
    obtain ⟨q1, q2⟩ := hq t (Nat.le_refl _) (by rw [List.length_cons]; omega)
    have hw := hW 0 (by rw [List.length_cons]; omega)
    have h1 : RS (vadd (vadd (vadd (vadd (vrot 32 a) (F b c d)) e) k) w) a (vrot 1073741824 b) c d (fun i => rnds (ws i) (t + 1) (s0 i)) := by
      have ea : (fun i => (rnds (ws i) (t + 1) (s0 i)).a) = fun i => ((((Ha.rot5 (rnds (ws i) t (s0 i)).a + f (rnds (ws i) t (s0 i)).b (rnds (ws i) t (s0 i)).c (rnds (ws i) t (s0 i)).d) % 4294967296 + (rnds (ws i) t (s0 i)).e) % 4294967296 + kk) % 4294967296 + (ws i).getD (t + 0) 0) % 4294967296 := funext fun i => by
        show nxt (fF t _ _ _) (fK t) ((ws i).getD t 0) _ = _
        rw [q1, q2]
        rfl
      refine ⟨?_, h.a, h.b.rot30, h.c, h.d⟩
      rw [ea]
      exact ((((h.a.rot5).add (hF _ _ _ _ _ _ h.b h.c h.d)).add h.e).add hk).add hw
    obtain ⟨a', b', c', d', e', e1, e2⟩ := seg_does hF hk ws s0 r W (t + 1) _ _ _ _ _ (fun q g1 g2 => hq q (by omega) (by rw [List.length_cons]; omega)) (fun j hj => by
      have := hW (j + 1) (by rw [List.length_cons]; omega)
      rw [show t + (j + 1) = t + 1 + j by omega] at this
      exact this) h1
    refine ⟨a', b', c', d', e', e1, ?_⟩
    rw [List.length_cons, show t + (W.length + 1) = t + 1 + W.length by omega]
    exact e2
/-- A block is taken in. -/
def vmix {α : Type} (l : List (Option UInt8)) (a b c d e : Nat) (r : Nat → Nat → Nat → Nat → Nat → α) : α :=
  vseg vch (ones * 1518500249) ((vwords l).take 20) a b c d e fun a1 b1 c1 d1 e1 =>
  vseg vpar (ones * 1859775393) (((vwords l).drop 20).take 20) a1 b1 c1 d1 e1 fun a2 b2 c2 d2 e2 =>
  vseg vmaj (ones * 2400959708) (((vwords l).drop 40).take 20) a2 b2 c2 d2 e2 fun a3 b3 c3 d3 e3 =>
  vseg vpar (ones * 3395469782) ((vwords l).drop 60) a3 b3 c3 d3 e3 fun a4 b4 c4 d4 e4 =>
  fz (vadd a a4) fun a5 => fz (vadd b b4) fun b5 => fz (vadd c c4) fun c5 => fz (vadd d d4) fun d5 => fz (vadd e e4) fun e5 => r a5 b5 c5 d5 e5
theorem getD_part (L : List Nat) (p n j : Nat) (hj : j < ((L.drop p).take n).length) : ((L.drop p).take n).getD j 0 = L.getD (p + j) 0 := by
  rw [List.length_take, List.length_drop] at hj
  rw [List.getD_eq_getElem?_getD, List.getElem?_take_of_lt (by omega), List.getElem?_drop, List.getD_eq_getElem?_getD]
theorem mix_does {α : Type} (l : List (Option UInt8)) (s : Nat → St) (a b c d e : Nat) (r : Nat → Nat → Nat → Nat → Nat → α) (h : RS a b c d e s) :
    ∃ a' b' c' d' e', vmix l a b c d e r = r a' b' c' d' e' ∧ RS a' b' c' d' e' (fun i => mixS (s i) (sb i l)) := by
  have hl := vwords_len l
  have hw := RI.words l
  have part : ∀ p n, p + n ≤ 80 → ((vwords l).drop p |>.take n).length = n ∧ ∀ j, j < (((vwords l).drop p).take n).length → RI ((((vwords l).drop p).take n).getD j 0) (fun i => (wl (sb i l) 80).getD (p + j) 0) := fun p n hp => by
    have hz : (((vwords l).drop p).take n).length = n := by rw [List.length_take, List.length_drop]; omega
    refine ⟨hz, fun j hj => ?_⟩
    rw [getD_part _ _ _ _ hj]
    exact hw _ (by omega)
  have p0 := part 0 20 (by omega)
  have p1 := part 20 20 (by omega)
  have p2 := part 40 20 (by omega)
  have p3 := part 60 20 (by omega)
  rw [List.drop_zero] at p0
  rw [show ((vwords l).drop 60).take 20 = (vwords l).drop 60 from List.take_of_length_le (by rw [List.length_drop]; omega)] at p3
  have hF : ∀ q, fF q = (if q < 20 then fch else if q < 40 then fpar else if q < 60 then fmaj else fpar) := fun q => by
    funext b c d
    unfold fF
    split
    · rfl
    · split
      · rfl
      · split <;> rfl
  have hK : ∀ q, fK q = (if q < 20 then 1518500249 else if q < 40 then 1859775393 else if q < 60 then 2400959708 else 3395469782) := fun q => rfl
  unfold vmix
  obtain ⟨a1, b1, c1, d1, e1, g1, h1⟩ := seg_does does_ch (RI.const 1518500249 (by decide)) (fun i => wl (sb i l) 80) s _ ((vwords l).take 20) 0 a b c d e (fun q _ g => by rw [p0.1] at g; rw [hF, hK, if_pos (by omega), if_pos (by omega)]; exact ⟨rfl, rfl⟩) p0.2 h
  rw [g1]
  rw [p0.1] at h1
  obtain ⟨a2, b2, c2, d2, e2, g2, h2⟩ := seg_does does_par (RI.const 1859775393 (by decide)) (fun i => wl (sb i l) 80) s _ (((vwords l).drop 20).take 20) 20 a1 b1 c1 d1 e1 (fun q g0 g => by rw [p1.1] at g; rw [hF, hK, if_neg (by omega), if_pos (by omega), if_neg (by omega), if_pos (by omega)]; exact ⟨rfl, rfl⟩) p1.2 h1
  rw [g2]
  rw [p1.1] at h2
  obtain ⟨a3, b3, c3, d3, e3, g3, h3⟩ := seg_does does_maj (RI.const 2400959708 (by decide)) (fun i => wl (sb i l) 80) s _ (((vwords l).drop 40).take 20) 40 a2 b2 c2 d2 e2 (fun q g0 g => by rw [p2.1] at g; rw [hF, hK, if_neg (by omega), if_neg (by omega), if_pos (by omega), if_neg (by omega), if_neg (by omega), if_pos (by omega)]; exact ⟨rfl, rfl⟩) p2.2 h2
  rw [g3]
  rw [p2.1] at h3
  obtain ⟨a4, b4, c4, d4, e4, g4, h4⟩ := seg_does does_par (RI.const 3395469782 (by decide)) (fun i => wl (sb i l) 80) s _ ((vwords l).drop 60) 60 a3 b3 c3 d3 e3 (fun q g0 g => by rw [p3.1] at g; rw [hF, hK, if_neg (by omega), if_neg (by omega), if_neg (by omega), if_neg (by omega), if_neg (by omega), if_neg (by omega)]; exact ⟨rfl, rfl⟩) p3.2 h3
  rw [g4]
  rw [p3.1] at h4
  rw [fz_eq, fz_eq, fz_eq, fz_eq, fz_eq]
  exact ⟨_, _, _, _, _, rfl, h.a.add h4.a, h.b.add h4.b, h.c.add h4.c, h.d.add h4.d, h.e.add h4.e⟩
theorem RS.start : RS (ones * 1732584193) (ones * 4023233417) (ones * 2562383102) (ones * 271733878) (ones * 3285377520) (fun _ => st0) :=
  ⟨RI.const _ (by decide), RI.const _ (by decide), RI.const _ (by decide), RI.const _ (by decide), RI.const _ (by decide)⟩
end Go.Proofs.YtbcffpimnmjjoaaGreatDoor.Ha
