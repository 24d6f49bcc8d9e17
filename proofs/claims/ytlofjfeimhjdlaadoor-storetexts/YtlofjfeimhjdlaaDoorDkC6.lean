/- THE WALK of slices.Clone over sectors. -/
import Derived.Test.YtlofjfeimhjdlaaDoorDkW6
import Derived.Laws.Cover3
namespace Go.Proofs.YtlofjfeimhjdlaaDoor
open Go.RowKit
set_option maxRecDepth 100000

theorem nil_no (b n cap : Nat) (w : World) : (binOp .eql 58 (.slice (some ⟨b, 0, none⟩) n cap) (.slice none 0 0)).run Tryd.prog w = .ok (.bool false) w := by
  simp [binOp, go_sem, run_equal_slice_nil w 58 _ _ _ _ Tryd.underlying58]
set_option maxHeartbeats 1000000 in
theorem clone_any (w : World) (b cap : Nat) (ss : List (List UInt8)) (h1 : 1 ≤ ss.length) (h2 : ss.length ≤ 2000) (h : Secs w b ss) :
    Calls Tryd.prog 37 #[.slice (some ⟨b, 0, none⟩) ss.length cap] w fun e w' =>
      ∃ g cp, e = .returned (.slice (some ⟨g, 0, none⟩) ss.length cp) ∧ w.heap.size ≤ g ∧ ss.length ≤ cp ∧ Secs w' g ss ∧ Below w.heap.size w w' := by
  obtain ⟨cur, hr, hz, hc⟩ := h
  have hlt := hr.size
  have hat : ∀ k, k < ss.length * 32 → ∃ x : UInt8, cur[k]? = some (.int .u8 (x.toNat : Int)) := fun k hk => by
    have hi : ss[k / 32]? = some (ss[k / 32]'(by omega)) := List.getElem?_eq_getElem _
    obtain ⟨hl, hx⟩ := hc _ _ hi
    have := hx (k % 32) _ (List.getElem?_eq_getElem (by omega))
    exact ⟨_, by rw [← this]; congr 1; omega⟩
  obtain ⟨news, hn⟩ : ∃ news, news = cur.toList.take (ss.length * 32) := ⟨_, rfl⟩
  have hnl : news.length = ss.length * 32 := by rw [hn]; simp; omega
  have hng : ∀ k, k < ss.length * 32 → news[k]? = cur[k]? := fun k hk => by rw [hn, List.getElem?_take, if_pos hk]; simp
  have hone : ∀ u ∈ news, u.oneCell' = true := by
    intro u hu
    obtain ⟨k, hk, rfl⟩ := List.mem_iff_getElem.1 hu
    obtain ⟨x, hx⟩ := hat k (by omega)
    have := hng k (by omega)
    rw [List.getElem?_eq_getElem hk, hx] at this
    rw [Option.some.inj this]; rfl
  have hr' := hr.alloc (.cells #[] 90)
  have hnews : ∀ j u, news[j]? = some u → (w.alloc (.cells #[] 90)).cell? ((⟨b, 0, none⟩ : Addr).add j) = some u := fun j u hu => by
    have hj := (List.getElem?_eq_some_iff.1 hu).1
    rw [Addr.add_mid, Nat.zero_add, hr'.at, ← hng j (by omega), hu]
  obtain ⟨i0, hi, hz0, hz1, hz2⟩ := info_parts secinfo
  have hown : (w.alloc (.cells #[] 90)).ownsRow w.heap.size 90 32 (.slice (some ⟨w.heap.size, 0, none⟩) 0 0) 0 [] :=
    ⟨rfl, .inr ⟨w.heap.size, 0, #[], rfl, Nat.le_refl _, Rw.fresh w _ _, Nat.le_refl _, Nat.zero_le _, rfl, rfl⟩⟩
  have hb0 := (Below.refl w.heap.size w).alloc (Nat.le_refl _) (.cells #[] 90)
  have hsz : w.heap.size ≤ (w.alloc (.cells #[] 90)).heap.size := hb0.size
  have hnn := nil_no b ss.length cap
  have hml : 0 + ss.length ≤ maxLen := by unfold maxLen; omega
  go_enter Tryd.func37, Tryd.ntmps37
  go_wp2_with (at_builtin; refine wpList_append_own _ rfl _ _ 58 rfl w.heap.size 90 i0 _ 32 32 Tryd.underlying58 hi hz0 hz1 hz2 (by simp [Value.cells]) (by omega) _ 0 [] rfl hown ⟨b, 0, none⟩ ss.length cap news rfl hnl hnews hone hml (by omega) hsz ?_; intro v' w' ho hgr hnil)
  go_ret
  rw [Nat.zero_add, List.nil_append] at ho
  rcases ho.2 with ⟨_, h0⟩ | ⟨g, cp, cur', h3, h4, h5, h6, _, h7, h8⟩
  · omega
  · subst h3
    refine ⟨g, cp, rfl, h4, h6, ⟨cur', h5, by omega, fun i s hs => ?_⟩, hb0.grown hgr hsz (fun k hk => ?_)⟩
    · obtain ⟨hl, hx⟩ := hc i s hs
      refine ⟨hl, fun j x hj => ?_⟩
      have hjl := (List.getElem?_eq_some_iff.1 hj).1
      have hil := (List.getElem?_eq_some_iff.1 hs).1
      rw [← hx j x hj, ← hng (i * 32 + j) (by omega), ← h8, List.getElem?_take, if_pos (by omega)]
      simp
    · cases hk; exact Nat.le_refl _
end Go.Proofs.YtlofjfeimhjdlaaDoor
