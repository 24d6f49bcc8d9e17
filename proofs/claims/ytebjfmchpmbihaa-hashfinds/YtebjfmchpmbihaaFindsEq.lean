/- PLAIN: what hash.Prefix finds among names of forty bytes, as the law HashFinds asks it. -/
import Derived.Test.YtebjfmchpmbihaaPre
namespace Go.Proofs.Ytebjfmchpmbihaa
open Go.RowKit

/-- Each of them is x, or does not begin as x does. -/
def oneB (x : ByteArray) (c : Nat) (l : List ByteArray) : Bool := l.all fun y => y.toList == x.toList || !((y.extract 0 c).toList == (x.extract 0 c).toList)
theorem oneB_snoc (x : ByteArray) (c : Nat) (ns : List ByteArray) (j : Nat) (h : j < ns.length) :
    oneB x c (ns.take (j + 1)) = (oneB x c (ns.take j) && (ns[j].toList == x.toList || !((ns[j].extract 0 c).toList == (x.extract 0 c).toList))) := by
  unfold oneB
  rw [List.take_succ_eq_append_getElem h, List.all_append]
  simp
theorem toList_inj {a b : ByteArray} (h : a.toList = b.toList) : a = b := by
  apply ByteArray.ext
  apply Array.ext'
  rwa [ByteArray.toList_eq, ByteArray.toList_eq] at h
theorem hasP_iff (y x : ByteArray) (c : Nat) (hx : x.size = 40) (hy : y.size = 40) (hc : c ≤ 40) : hasP y (x.extract 0 c) = ((y.extract 0 c).toList == (x.extract 0 c).toList) := by
  have e : (x.extract 0 c).size = c := by simp; omega
  unfold hasP
  rw [e, hy]
  simp [hc]
theorem prefF_miss (p : ByteArray) : ∀ (ns : List ByteArray) (acc : Option ByteArray), (∀ n ∈ ns, hasP n p = false) → prefF p ns acc = acc
  | [], _, _ => rfl
  | n :: r, acc, h => by
    unfold prefF
    rw [if_neg (by rw [h n (List.mem_cons_self ..)]; simp)]
    exact prefF_miss p r acc fun y hy => h y (List.mem_cons_of_mem _ hy)
theorem prefF_same (p x : ByteArray) : ∀ (ns : List ByteArray), (∀ n ∈ ns, hasP n p = true → n = x) → prefF p ns (some x) = some x
  | [], _ => rfl
  | n :: r, h => by
    have ih := prefF_same p x r fun y hy => h y (List.mem_cons_of_mem _ hy)
    unfold prefF
    by_cases hh : hasP n p = true
    · have e := h n (List.mem_cons_self ..) hh
      subst e
      rw [if_pos hh]
      simp [ih]
    · rw [if_neg hh]; exact ih
theorem prefF_one (p x : ByteArray) : ∀ (ns : List ByteArray), x ∈ ns → hasP x p = true → (∀ n ∈ ns, hasP n p = true → n = x) → prefF p ns none = some x
  | [], hx, _, _ => by simp at hx
  | n :: r, hx, hp, h => by
    unfold prefF
    by_cases hh : hasP n p = true
    · have e := h n (List.mem_cons_self ..) hh
      subst e
      rw [if_pos hh]
      exact prefF_same p _ r fun y hy => h y (List.mem_cons_of_mem _ hy)
    · rw [if_neg hh]
      rcases List.mem_cons.1 hx with e | hr
      · subst e; exact absurd hp hh
      · exact prefF_one p x r hr hp fun y hy => h y (List.mem_cons_of_mem _ hy)
theorem prefF_clash (p : ByteArray) : ∀ (ns : List ByteArray) (f y : ByteArray), y ∈ ns → hasP y p = true → y ≠ f → prefF p ns (some f) = none
  | [], _, _, hy, _, _ => by simp at hy
  | n :: r, f, y, hy, hp, hne => by
    unfold prefF
    by_cases hh : hasP n p = true
    · rw [if_pos hh]
      by_cases e : n = f
      · subst e
        simp only [beq_self_eq_true, if_true]
        rcases List.mem_cons.1 hy with e | hr
        · exact absurd e hne
        · exact prefF_clash p r n y hr hp hne
      · have : (n.toList == f.toList) = false := by
          rw [beq_eq_false_iff_ne]
          exact fun h => e (toList_inj h)
        simp [this]
    · rw [if_neg hh]
      rcases List.mem_cons.1 hy with e | hr
      · subst e; exact absurd hp hh
      · exact prefF_clash p r f y hr hp hne
theorem prefF_two (p : ByteArray) : ∀ (ns : List ByteArray) (x y : ByteArray), x ∈ ns → y ∈ ns → hasP x p = true → hasP y p = true → x ≠ y → prefF p ns none = none
  | [], _, _, hx, _, _, _, _ => by simp at hx
  | n :: r, x, y, hx, hy, hpx, hpy, hne => by
    unfold prefF
    by_cases hh : hasP n p = true
    · rw [if_pos hh]
      show prefF p r (some n) = none
      by_cases e : n = x
      · subst e
        rcases List.mem_cons.1 hy with e | hr
        · exact absurd e.symm hne
        · exact prefF_clash p r _ y hr hpy (fun h => hne h.symm)
      · rcases List.mem_cons.1 hx with e' | hr
        · exact absurd e'.symm e
        · exact prefF_clash p r _ x hr hpx (fun h => e h.symm)
    · rw [if_neg hh]
      rcases List.mem_cons.1 hx with e | hrx
      · subst e; exact absurd hpx hh
      · rcases List.mem_cons.1 hy with e | hry
        · subst e; exact absurd hpy hh
        · exact prefF_two p r x y hrx hry hpx hpy hne
theorem finds_eq (ns : List ByteArray) (x : ByteArray) (c : Nat) (hx : x ∈ ns) (h40 : ∀ y ∈ ns, y.size = 40) (hc : c ≤ 40) :
    prefF (x.extract 0 c) (ns ++ ns) none = if oneB x c ns = true then some x else none := by
  have hxz := h40 x hx
  have hself : hasP x (x.extract 0 c) = true := by rw [hasP_iff x x c hxz hxz hc]; simp
  by_cases h : oneB x c ns = true
  · rw [if_pos h]
    refine prefF_one _ x _ (List.mem_append_left _ hx) hself (fun n hn hp => ?_)
    have hn' : n ∈ ns := by rcases List.mem_append.1 hn with h | h <;> exact h
    unfold oneB at h
    rw [List.all_eq_true] at h
    have := h n hn'
    rw [hasP_iff n x c hxz (h40 n hn') hc] at hp
    rw [hp] at this
    simp only [Bool.not_true, Bool.or_false] at this
    exact toList_inj (eq_of_beq this)
  · rw [if_neg h]
    have hf : oneB x c ns = false := by simpa using h
    unfold oneB at hf
    rw [List.all_eq_false] at hf
    obtain ⟨y, hy, hyf⟩ := hf
    simp only [Bool.or_eq_true, Bool.not_eq_true', not_or, Bool.not_eq_true, Bool.not_eq_false] at hyf
    refine prefF_two _ _ x y (List.mem_append_left _ hx) (List.mem_append_left _ hy) hself ?_ ?_
    · rw [hasP_iff y x c hxz (h40 y hy) hc]; exact hyf.2
    · intro e
      subst e
      simp at hyf
theorem finds_more (ns : List ByteArray) (x : ByteArray) (hx : x.size = 40) (h40 : ∀ y ∈ ns, y.size = 40) : prefF (x ++ ⟨#[48]⟩) ns none = none := by
  refine prefF_miss _ ns none (fun n hn => ?_)
  have e : (x ++ ⟨#[48]⟩ : ByteArray).size = 41 := by simp [hx]; rfl
  unfold hasP
  rw [e, h40 n hn]
  simp
theorem pfx_to (ns : List ByteArray) (n : Nat) (hn : ns.length = n) (ao : Option Addr) (cap : Nat) (p : ByteArray) (w : World) (hns : ∀ x ∈ ns, x.size ≤ 1099511627776) (hlen : n ≤ 1099511627776) (hc : Names w ao ns) (got : ByteArray) (ok : Bool)
    (h1 : p.size < 4 → got = ⟨#[]⟩ ∧ ok = false) (h2 : 4 ≤ p.size → got = baOf (prefF p ns none) ∧ ok = (prefF p ns none).isSome) :
    Calls Try.prog 13 #[.slice ao n cap, .string p] w fun e w' => e = .returned (.tuple #[.string got, .bool ok]) ∧ Below w.heap.size w w' := by
  by_cases h : p.size < 4
  · obtain ⟨rfl, rfl⟩ := h1 h
    exact (prefix_short _ p h w).mono fun _ _ hh => ⟨hh.1, by rw [← hh.2]; exact Below.refl _ _⟩
  · obtain ⟨rfl, rfl⟩ := h2 (by omega)
    exact prefix_any ns n hn ao cap p w (by omega) hns hlen hc
theorem finds_pick (ns : List ByteArray) (x : ByteArray) (c : Nat) (hx : x ∈ ns) (h40 : ∀ y ∈ ns, y.size = 40) (hc : c ≤ 40) :
    ∃ (got : ByteArray) (ok o1 : Bool), oneB x c ns = o1 ∧ Hid ((x.extract 0 c).size < 4 → got = ⟨#[]⟩ ∧ ok = false) ∧ Hid (4 ≤ (x.extract 0 c).size → got = baOf (prefF (x.extract 0 c) (ns ++ ns) none) ∧ ok = (prefF (x.extract 0 c) (ns ++ ns) none).isSome) ∧
      ((ok = true ∧ o1 = true ∧ 4 ≤ c ∧ x = got) ∨ (ok = false ∧ o1 = false ∧ got = ⟨#[]⟩) ∨ (ok = false ∧ o1 = true ∧ decide ((4 : Int) ≤ (c : Int)) = false ∧ got = ⟨#[]⟩)) := by
  have hxz := h40 x hx
  have e : (x.extract 0 c).size = c := by simp; omega
  have hf := finds_eq ns x c hx h40 hc
  rw [e]
  by_cases h : oneB x c ns = true
  · rw [if_pos h] at hf
    by_cases h4 : 4 ≤ c
    · exact ⟨x, true, true, h, fun hl => by omega, fun _ => by rw [hf]; exact ⟨rfl, rfl⟩, .inl ⟨rfl, rfl, h4, rfl⟩⟩
    · exact ⟨⟨#[]⟩, false, true, h, fun _ => ⟨rfl, rfl⟩, fun hl => by omega, .inr (.inr ⟨rfl, rfl, by simp; omega, rfl⟩)⟩
  · rw [if_neg h] at hf
    exact ⟨⟨#[]⟩, false, false, by simpa using h, fun _ => ⟨rfl, rfl⟩, fun _ => by rw [hf]; exact ⟨rfl, rfl⟩, .inr (.inl ⟨rfl, rfl, rfl⟩)⟩
end Go.Proofs.Ytebjfmchpmbihaa
