/- PLAIN: the books of BlobPlays: what puts and drops do to the rows, and to a map of what is held. -/
import Derived.Test.YtoddhdionhemjaaGreatDoorBs8
import Derived.Test.YtoddhdionhemjaaGreatDoorRh8
import Derived.Maps.Ext
import Derived.Maps.OwnSet
namespace Go.Proofs.YtoddhdionhemjaaGreatDoor
open Go.RowKit Go.Maps
set_option maxRecDepth 100000

/-! ### A map of what is held -/
structure HeldOf (D : DataW Unit) (f : List UInt8 → Option (List UInt8)) (n : Nat) : Prop where
  h : ∀ l, has D (.string l) = (f l).isSome
  v : ∀ l t, f l = some t → ∀ z, D.atKey (.string l) z = .lit (.string t)
  n : size D = n
theorem HeldOf.nil : HeldOf (.map []) (fun _ => none) 0 := ⟨fun _ => rfl, fun _ _ h => (by cases h), rfl⟩
theorem HeldOf.put {D : DataW Unit} {f : List UInt8 → Option (List UInt8)} {n : Nat} (h : HeldOf D f n) (ht : Tidy D) {x : List UInt8} (t : List UInt8) (hx : f x = none) : HeldOf (D.put (.string x) (.lit (.string t))) (upd f x (some t)) (n + 1) := by
  refine ⟨fun l => ?_, fun l t' hl z => ?_, ?_⟩
  · unfold upd
    by_cases e : l = x
    · rw [if_pos e, e, has_put_same ht.isMap (show WideAt.IsKeyLit (.string x) from trivial)]; rfl
    · rw [if_neg e, has_put_other (fun h => e (by injection h)), h.h]
  · unfold upd at hl
    by_cases e : l = x
    · rw [if_pos e] at hl
      cases hl
      rw [e]
      exact atKey_put_same ht.isMap (show WideAt.IsKeyLit (.string x) from trivial) _ _
    · rw [if_neg e] at hl
      rw [atKey_put_other (fun h => e (by injection h))]
      exact h.v l t' hl z
  · rw [size_put ht, h.h, hx, h.n]; rfl
theorem HeldOf.del {D : DataW Unit} {f : List UInt8 → Option (List UInt8)} {n : Nat} (h : HeldOf D f (n + 1)) (ht : Tidy D) {x : List UInt8} (hx : f x ≠ none) : HeldOf (D.del (.string x)) (upd f x none) n := by
  refine ⟨fun l => ?_, fun l t' hl z => ?_, ?_⟩
  · unfold upd
    by_cases e : l = x
    · rw [if_pos e, e, has_del_same]; rfl
    · rw [if_neg e, has_del_other (fun h => e (by injection h)), h.h]
  · unfold upd at hl
    by_cases e : l = x
    · rw [if_pos e] at hl; cases hl
    · rw [if_neg e] at hl
      rw [atKey_del_other (fun h => e (by injection h))]
      exact h.v l t' hl z
  · have h1 := size_del (k := .string x) ht
    have h2 : has D (.string x) = true := by rw [h.h]; cases hf : f x with
      | none => exact absurd hf hx
      | some _ => rfl
    rw [h2, h.n] at h1
    simp at h1
    omega
theorem HeldOf.same {D : DataW Unit} {f : List UInt8 → Option (List UInt8)} {n : Nat} (h : HeldOf D f n) {x : List UInt8} (hx : f x = none) : D.del (.string x) = D := del_of_not_has (by rw [h.h, hx]; rfl)
/-! ### Keys -/
theorem ne_le : ∀ (a b : List (List UInt8)), a.Pairwise (· ≠ ·) → (∀ k ∈ a, k ∈ b) → a.length ≤ b.length
  | [], b, _, _ => Nat.zero_le _
  | x :: a, b, hp, h => by
    obtain ⟨h1, h2⟩ := List.pairwise_cons.1 hp
    have hx := h x (List.mem_cons_self ..)
    have := ne_le a (b.erase x) h2 (fun k hk => (List.mem_erase_of_ne (fun e => h1 k hk e.symm)).2 (h k (List.mem_cons_of_mem _ hk)))
    rw [List.length_erase_of_mem hx] at this
    have hb : 0 < b.length := List.length_pos_of_mem hx
    rw [List.length_cons]
    omega
theorem keys_ne {st : List Rr} (h : Srt st) : (st.map (·.k)).Pairwise (· ≠ ·) := by
  rw [List.pairwise_map]
  exact h.up.imp fun {a b} hl e => by rw [e] at hl; exact Lt.irr _ hl
theorem mem_turns : ∀ (rs st : List Rr), Srt st → (∀ r ∈ rs, r.Ok) → ∀ x ∈ turns st rs, x ∈ st ∨ (x ∈ rs ∧ x.g = false)
  | [], st, _, _, x, h => .inl h
  | r :: rs, st, hs, ho, x, h => by
    have h0 := ho r (List.mem_cons_self ..)
    rcases mem_turns rs (turn st r) (hs.turn h0) (fun y hy => ho y (List.mem_cons_of_mem _ hy)) x h with h1 | ⟨h1, h2⟩
    · rcases (mem_turn hs r x).1 h1 with ⟨h3, _⟩ | ⟨h3, rfl⟩
      · exact .inl h3
      · exact .inr ⟨List.mem_cons_self .., h3⟩
    · exact .inr ⟨List.mem_cons_of_mem _ h1, h2⟩
/-! ### The books -/
structure PW (st : List Rr) (f : List UInt8 → Option (List UInt8)) (p : Nat) : Prop where
  ok : RdOk st
  bl : Bl st f
  nd : ∀ r ∈ st, ∃ n, r.k = bk n ∧ Ha.isL n = true
  sy : ∀ r ∈ st, rdE r.v ≠ none
  vl : ∀ r ∈ st, r.v.length ≤ 251
  sm : ∀ n t, f n = some t → Ha.sumL t = n ∧ t.length ≤ 250
  sl : st.length ≤ p
theorem PW.nil : PW [] (fun _ => none) 0 := ⟨RdOk.nil, Bl.nil, fun _ h => (by cases h), fun _ h => (by cases h), fun _ h => (by cases h), fun _ _ h => (by cases h), Nat.le_refl _⟩
section
variable {st : List Rr} {f : List UInt8 → Option (List UInt8)} {p : Nat}
theorem PW.nmd (h : PW st f p) : Nmd st := fun n v hg => by
  obtain ⟨r, hr, hk, _⟩ := (getK_iff h.ok.srt _ _).1 hg
  obtain ⟨m, hm, hi⟩ := h.nd r hr
  rw [bk_inj (hk.symm.trans hm)]; exact hi
theorem PW.says (h : PW st f p) : ∀ n v, getK st (bk n) = some v → rdE v ≠ none := fun n v hg => by
  obtain ⟨r, hr, _, hv⟩ := (getK_iff h.ok.srt _ _).1 hg
  rw [← hv]; exact h.sy r hr
theorem PW.rows (h : PW st f p) : rowsN st = st := by
  unfold rowsN
  have e1 : st.filter (begins [98]) = st := List.filter_eq_self.2 (fun r hr => by
    obtain ⟨m, hm, hi⟩ := h.nd r hr
    rw [begins_iff, hm]; exact ⟨m, rfl⟩)
  have e2 : st.filter nm = st := List.filter_eq_self.2 (fun r hr => by
    obtain ⟨m, hm, hi⟩ := h.nd r hr
    unfold nm; rw [hm]; exact hi)
  rw [sel_filter h.ok.srt, e1, e2]
theorem PW.key (h : PW st f p) (k : List UInt8) : k ∈ st.map (·.k) ↔ ∃ m, k = bk m ∧ f m ≠ none := by
  constructor
  · intro hk
    obtain ⟨r, hr, rfl⟩ := List.mem_map.1 hk
    obtain ⟨m, hm, hi⟩ := h.nd r hr
    refine ⟨m, hm, fun e => ?_⟩
    have := h.bl.key m hi
    rw [← hm, (getK_iff h.ok.srt _ _).2 ⟨r, hr, rfl, rfl⟩, e] at this
    cases this
  · rintro ⟨m, rfl, hf⟩
    obtain ⟨t, ht⟩ := Option.ne_none_iff_exists'.1 hf
    have hi := h.bl.isl m t ht
    have := h.bl.key m hi
    rw [ht] at this
    obtain ⟨v, hv⟩ := Option.isSome_iff_exists.1 this
    obtain ⟨r, hr, hk, _⟩ := (getK_iff h.ok.srt _ _).1 hv
    exact List.mem_map.2 ⟨r, hr, hk⟩
theorem PW.of (h : PW st f p) {r : Rr} (hr : r ∈ st) : ∃ n t, r.k = bk n ∧ r.k.drop 1 = n ∧ Ha.isL n = true ∧ f n = some t ∧ content st n = some t := by
  obtain ⟨m, hm, hf⟩ := (h.key r.k).1 (List.mem_map.2 ⟨r, hr, rfl⟩)
  obtain ⟨t, ht⟩ := Option.ne_none_iff_exists'.1 hf
  exact ⟨m, t, hm, by rw [hm]; rfl, h.bl.isl m t ht, ht, h.bl.fc m t ht⟩
theorem PW.con (h : PW st f p) {m t : List UInt8} (hc : content st m = some t) : t.length ≤ 250 := by
  rw [h.bl.conE] at hc
  exact (h.sm m t hc).2
theorem PW.cle (h : PW st f p) : ∀ j m t, j ≤ 4 → cont st j m = some t → t.length ≤ 1000000 := fun j m t hj hc => by
  have := h.con (show content st m = some t from cont_le hj hc)
  omega
theorem PW.val (h : PW st f p) {x : List UInt8} (hx : Ha.isL x = true) : valOf st x ≠ none ↔ f x ≠ none := by
  have := h.bl.key x hx
  unfold valOf
  rw [if_pos hx]
  cases hg : getK st (bk x) <;> cases hf : f x <;> simp_all
/-- A put. -/
theorem PW.put (h : PW st f p) {x t b : List UInt8} (hx : x = Ha.sumL t) (ht : t.length ≤ 250) (hf : f x = none) (o : Option (List UInt8)) (ho : ChOk st x t b o) (hp : p ≤ 100) :
    PW (turn st (rowOf x t b o)) (upd f x (some t)) (p + 1) ∧ (turn st (rowOf x t b o)).length = st.length + 1 ∧ (rowOf x t b o).v.length ≤ 251 ∧ (rowOf x t b o).k = bk x ∧ (rowOf x t b o).Ok := by
  have hi : Ha.isL x = true := by rw [hx]; exact Ha.sumL_is _
  have h40 := isL_len40 hi
  have hk : (rowOf x t b o).k = bk x ∧ (rowOf x t b o).g = false := by cases o <;> exact ⟨rfl, rfl⟩
  have hv : (rowOf x t b o).v.length ≤ 251 ∧ rdE (rowOf x t b o).v ≠ none := by
    cases o with
    | none => exact ⟨by show t.length + 1 ≤ _; omega, by rw [show (rowOf x t b none).v = 102 :: t from rfl, rdE_w]; simp⟩
    | some d =>
      obtain ⟨s, h1, h2, h3, h4, h5⟩ := ho
      have hib : Ha.isL b = true := by
        cases hib : Ha.isL b with
        | true => rfl
        | false => exact absurd (say_not hib) (say_some h1)
      have hb := isL_len40 hib
      exact ⟨by show (100 :: (b ++ d)).length ≤ _; simp; omega, by rw [show (rowOf x t b (some d)).v = 100 :: (b ++ d) from rfl, rdE_d d hb]; simp⟩
  have hok : (rowOf x t b o).Ok := ⟨by rw [hk.1]; simp [bk], by rw [hk.1]; simp [bk]; omega, by omega, fun e => by rw [hk.2] at e; cases e⟩
  have hB : Bl (turn st (rowOf x t b o)) (upd f x (some t)) := by
    cases o with
    | none => exact (Bl.put h.ok.srt h.bl hi hf (c := t) (v := 102 :: t) (by have := hv.1; simp; omega) (.inl rfl)).1
    | some d =>
      obtain ⟨s, h1, h2, h3, h4, h5⟩ := ho
      have := hv.1
      exact (Bl.put h.ok.srt h.bl hi hf (c := t) (v := 100 :: (b ++ d)) (by have e : (rowOf x t b (some d)).v = 100 :: (b ++ d) := rfl; rw [← e]; omega) (.inr ⟨_, d, s, rfl, h1, h2, h4⟩)).1
  have hsl := h.sl
  have hlen := turn_len st (rowOf x t b o)
  have hmem := mem_turn h.ok.srt (rowOf x t b o)
  have hpw : PW (turn st (rowOf x t b o)) (upd f x (some t)) (p + 1) := by
    refine ⟨h.ok.turn hok (by omega) (by omega), hB, fun r hr => ?_, fun r hr => ?_, fun r hr => ?_, fun n u hn => ?_, by omega⟩
    · rcases (hmem r).1 hr with ⟨h1, _⟩ | ⟨_, rfl⟩
      · exact h.nd r h1
      · exact ⟨x, hk.1, hi⟩
    · rcases (hmem r).1 hr with ⟨h1, _⟩ | ⟨_, rfl⟩
      · exact h.sy r h1
      · exact hv.2
    · rcases (hmem r).1 hr with ⟨h1, _⟩ | ⟨_, rfl⟩
      · exact h.vl r h1
      · exact hv.1
    · unfold upd at hn
      split at hn
      · rename_i e; cases hn; exact ⟨by rw [e, hx], ht⟩
      · exact h.sm n u hn
  refine ⟨hpw, ?_, hv.1, hk.1, hok⟩
  have h1 := ne_le (bk x :: st.map (·.k)) ((turn st (rowOf x t b o)).map (·.k)) (List.pairwise_cons.2 ⟨fun k hk e => by
    subst e
    obtain ⟨m, hm, hfm⟩ := (h.key _).1 hk
    rw [← bk_inj hm] at hfm
    exact hfm hf, keys_ne h.ok.srt⟩) (fun k hk => by
      rw [hpw.key]
      rcases List.mem_cons.1 hk with rfl | hk
      · exact ⟨x, rfl, by unfold upd; rw [if_pos rfl]; simp⟩
      · obtain ⟨m, rfl, hfm⟩ := (h.key _).1 hk
        refine ⟨m, rfl, ?_⟩
        unfold upd
        split
        · simp
        · exact hfm)
  rw [List.length_cons, List.length_map, List.length_map] at h1
  omega
/-- A drop of what is there. -/
theorem PW.drop (h : PW st f p) {x : List UInt8} (hf : f x ≠ none) (hp : p ≤ 100) :
    PW (turns st (wsL st x ++ [⟨bk x, [], true⟩])) (upd f x none) p ∧ (turns st (wsL st x ++ [⟨bk x, [], true⟩])).length + 1 = st.length ∧ (∀ r ∈ wsL st x ++ [(⟨bk x, [], true⟩ : Rr)], r.Ok) ∧ (rtext (wsL st x ++ [(⟨bk x, [], true⟩ : Rr)])).length ≤ 300 * p + 60 := by
  obtain ⟨t, ht⟩ := Option.ne_none_iff_exists'.1 hf
  have hi := h.bl.isl x t ht
  have h40 := isL_len40 hi
  have hcl : ∀ m c, content st m = some c → c.length ≤ 1000000 := fun m c hc => by have := h.con hc; omega
  have hB := Bl.drop h.ok.srt h.bl hcl (n := x) hi
  have hok := wsL_ok h.ok.srt hcl (n := x) hi
  have hsl := h.sl
  have hw : ∀ r ∈ wsL st x, ∃ m c, r.k = bk m ∧ Ha.isL m = true ∧ r.v = 102 :: c ∧ c.length ≤ 250 := fun r hr => by
    obtain ⟨q, hq, e, c, _, _, hc, rfl⟩ := wsL_mem hr
    exact ⟨_, c, rfl, (rowsN_mem h.ok.srt hq).2.1, rfl, h.con hc⟩
  have hwl : (wsL st x).length ≤ p := by
    have h1 : (wsL st x).length ≤ (rowsN st).length := List.length_filterMap_le _ _
    rw [h.rows] at h1
    omega
  have hsrt := h.ok.srt.turns (wsL st x ++ [⟨bk x, [], true⟩]) hok
  have hmem : ∀ r ∈ turns st (wsL st x ++ [⟨bk x, [], true⟩]), r ∈ st ∨ r ∈ wsL st x := fun r hr => by
    rcases mem_turns _ st h.ok.srt hok r hr with h1 | ⟨h1, h2⟩
    · exact .inl h1
    · rcases List.mem_append.1 h1 with h1 | h1
      · exact .inr h1
      · rw [List.mem_singleton.1 h1] at h2; cases h2
  -- keys
  have key : ∀ k, k ∈ (turns st (wsL st x ++ [⟨bk x, [], true⟩])).map (·.k) ↔ ∃ m, k = bk m ∧ upd f x none m ≠ none := fun k => by
    constructor
    · intro hk
      obtain ⟨r, hr, rfl⟩ := List.mem_map.1 hk
      have hnd : ∃ m, r.k = bk m ∧ Ha.isL m = true := by
        rcases hmem r hr with h1 | h1
        · exact h.nd r h1
        · obtain ⟨m, c, h2, h3, _⟩ := hw r h1; exact ⟨m, h2, h3⟩
      obtain ⟨m, hm, him⟩ := hnd
      refine ⟨m, hm, fun e => ?_⟩
      have := hB.key m him
      rw [← hm, (getK_iff hsrt _ _).2 ⟨r, hr, rfl, rfl⟩, e] at this
      cases this
    · rintro ⟨m, rfl, hfm⟩
      obtain ⟨u, hu⟩ := Option.ne_none_iff_exists'.1 hfm
      have him := hB.isl m u hu
      have := hB.key m him
      rw [hu] at this
      obtain ⟨v, hv⟩ := Option.isSome_iff_exists.1 this
      obtain ⟨r, hr, hk, _⟩ := (getK_iff hsrt _ _).1 hv
      exact List.mem_map.2 ⟨r, hr, hk⟩
  have hlen : (turns st (wsL st x ++ [⟨bk x, [], true⟩])).length + 1 = st.length := by
    have h1 := ne_le (bk x :: (turns st (wsL st x ++ [⟨bk x, [], true⟩])).map (·.k)) (st.map (·.k)) (List.pairwise_cons.2 ⟨fun k hk e => by
      subst e
      obtain ⟨m, hm, hfm⟩ := (key _).1 hk
      rw [← bk_inj hm] at hfm
      exact hfm (by unfold upd; rw [if_pos rfl]), keys_ne hsrt⟩) (fun k hk => by
        rw [h.key]
        rcases List.mem_cons.1 hk with rfl | hk
        · exact ⟨x, rfl, hf⟩
        · obtain ⟨m, rfl, hfm⟩ := (key _).1 hk
          refine ⟨m, rfl, ?_⟩
          unfold upd at hfm
          split at hfm
          · exact absurd rfl hfm
          · exact hfm)
    have h2 := ne_le (st.map (·.k)) (bk x :: (turns st (wsL st x ++ [⟨bk x, [], true⟩])).map (·.k)) (keys_ne h.ok.srt) (fun k hk => by
      obtain ⟨m, rfl, hfm⟩ := (h.key _).1 hk
      by_cases e : m = x
      · rw [e]; exact List.mem_cons_self ..
      · refine List.mem_cons_of_mem _ ((key _).2 ⟨m, rfl, ?_⟩)
        unfold upd; rw [if_neg e]; exact hfm)
    rw [List.length_cons, List.length_map, List.length_map] at h1 h2
    omega
  have hvl : ∀ r ∈ wsL st x ++ [(⟨bk x, [], true⟩ : Rr)], r.v.length ≤ 251 := fun r hr => by
    rcases List.mem_append.1 hr with h1 | h1
    · obtain ⟨m, c, _, _, e, h2⟩ := hw r h1
      rw [e, List.length_cons]; omega
    · rw [List.mem_singleton.1 h1]; simp
  refine ⟨⟨h.ok.turns _ (fun r hr => ⟨hok r hr, by have := hvl r hr; omega⟩) (by rw [List.length_append, List.length_singleton]; omega), hB, fun r hr => ?_, fun r hr => ?_, fun r hr => ?_, fun n u hn => ?_, by omega⟩, hlen, hok, ?_⟩
  · rcases hmem r hr with h1 | h1
    · exact h.nd r h1
    · obtain ⟨m, c, h2, h3, _⟩ := hw r h1; exact ⟨m, h2, h3⟩
  · rcases hmem r hr with h1 | h1
    · exact h.sy r h1
    · obtain ⟨m, c, _, _, e, _⟩ := hw r h1; rw [e, rdE_w]; simp
  · rcases hmem r hr with h1 | h1
    · exact h.vl r h1
    · exact hvl r (List.mem_append_left _ h1)
  · unfold upd at hn
    split at hn
    · cases hn
    · exact h.sm n u hn
  · have h1 : (rtext (wsL st x)).length ≤ (wsL st x).length * 300 := rtext_le 300 _ (fun r hr => by
      obtain ⟨m, c, e1, e2, e3, e4⟩ := hw r hr
      have hk : r.k.length = 41 := by rw [e1, bk, List.length_cons, isL_len40 e2]
      have hv : r.v.length ≤ 251 := by rw [e3, List.length_cons]; omega
      have := rt_le r (by omega) (by omega)
      omega)
    have h2 := rt_le ⟨bk x, [], true⟩ (by simp [bk]; omega) (by simp)
    have h3 := Nat.mul_le_mul_right 300 hwl
    rw [rtext_app, List.length_append]
    simp [rtext, bk] at h2 ⊢
    omega
end
/-- How much room there is. -/
theorem room8 : ∀ p d : Nat, p + d ≤ 16 → 10 * p + d * (10 * p + 2) ≤ 1400 := by
  have : ∀ p, p < 17 → ∀ d, d < 17 → p + d ≤ 16 → 10 * p + d * (10 * p + 2) ≤ 1400 := by decide
  intro p d h
  exact this p (by omega) d (by omega) h
theorem room_put {p d u : Nat} (h : u ≤ 10 * p + d * (10 * p + 2)) : u + 10 ≤ 10 * (p + 1) + d * (10 * (p + 1) + 2) := by
  have : d * (10 * p + 2) ≤ d * (10 * (p + 1) + 2) := Nat.mul_le_mul_left d (by omega)
  omega
theorem room_drop {p d u n : Nat} (h : u ≤ 10 * p + d * (10 * p + 2)) (hn : n ≤ 10 * p + 2) : u + n ≤ 10 * p + (d + 1) * (10 * p + 2) := by
  rw [Nat.add_mul, Nat.one_mul]
  omega
end Go.Proofs.YtoddhdionhemjaaGreatDoor
