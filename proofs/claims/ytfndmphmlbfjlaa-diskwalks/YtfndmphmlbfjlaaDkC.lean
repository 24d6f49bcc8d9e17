/- THE WALKS of slices.Clone over sectors and of disk.Copy. -/
import Derived.Test.YtfndmphmlbfjlaaDkW
import Derived.Laws.Cover3
namespace Go.Proofs.Ytfndmphmlbfjlaa
open Go.RowKit

theorem nil_no (b n cap : Nat) (w : World) : (binOp .eql 47 (.slice (some ⟨b, 0, none⟩) n cap) (.slice none 0 0)).run Try.prog w = .ok (.bool false) w := by
  simp [binOp, go_sem, run_equal_slice_nil w 47 _ _ _ _ Try.underlying47]
set_option maxHeartbeats 1000000 in
theorem clone_any (w : World) (b cap : Nat) (ss : List (List UInt8)) (h1 : 1 ≤ ss.length) (h2 : ss.length ≤ 2000) (h : Secs w b ss) :
    Calls Try.prog 21 #[.slice (some ⟨b, 0, none⟩) ss.length cap] w fun e w' =>
      ∃ g cp, e = .returned (.slice (some ⟨g, 0, none⟩) ss.length cp) ∧ w.heap.size ≤ g ∧ ss.length ≤ cp ∧ Secs w' g ss ∧ Below w.heap.size w w' := by
  obtain ⟨cur, hr, hz, hc⟩ := h
  have hlt := hr.size
  have hat : ∀ k, k < ss.length * 32 → ∃ x : UInt8, cur[k]? = some (.int .u8 (x.toNat : Int)) := fun k hk => by
    have hi : ss[k / 32]? = some (ss[k / 32]'(by omega)) := List.getElem?_eq_getElem _
    obtain ⟨hl, hx⟩ := hc _ _ hi
    have := hx (k % 32) _ (List.getElem?_eq_getElem (by omega))
    exact ⟨_, by rw [← this]; congr 1; omega⟩
  obtain ⟨news, hn⟩ : ∃ news, news = cur.toList.take (ss.length * 32) := ⟨_, rfl⟩
  have hnl : news.length = ss.length * 32 := by rw [hn]; simp; omega
  have hng : ∀ k, k < ss.length * 32 → news[k]? = cur[k]? := fun k hk => by rw [hn, List.getElem?_take, if_pos hk]; simp
  have hone : ∀ u ∈ news, u.oneCell' = true := by
    intro u hu
    obtain ⟨k, hk, rfl⟩ := List.mem_iff_getElem.1 hu
    obtain ⟨x, hx⟩ := hat k (by omega)
    have := hng k (by omega)
    rw [List.getElem?_eq_getElem hk, hx] at this
    rw [Option.some.inj this]; rfl
  have hr' := hr.alloc (.cells #[] 52)
  have hnews : ∀ j u, news[j]? = some u → (w.alloc (.cells #[] 52)).cell? ((⟨b, 0, none⟩ : Addr).add j) = some u := fun j u hu => by
    have hj := (List.getElem?_eq_some_iff.1 hu).1
    rw [Addr.add_mid, Nat.zero_add, hr'.at, ← hng j (by omega), hu]
  obtain ⟨i0, hi, hz0, hz1, hz2⟩ := info_parts secinfo
  have hown : (w.alloc (.cells #[] 52)).ownsRow w.heap.size 52 32 (.slice (some ⟨w.heap.size, 0, none⟩) 0 0) 0 [] :=
    ⟨rfl, .inr ⟨w.heap.size, 0, #[], rfl, Nat.le_refl _, Rw.fresh w _ _, Nat.le_refl _, Nat.zero_le _, rfl, rfl⟩⟩
  have hb0 := (Below.refl w.heap.size w).alloc (Nat.le_refl _) (.cells #[] 52)
  have hsz : w.heap.size ≤ (w.alloc (.cells #[] 52)).heap.size := hb0.size
  have hnn := nil_no b ss.length cap
  have hml : 0 + ss.length ≤ maxLen := by unfold maxLen; omega
  go_enter Try.func21, Try.ntmps21
  go_wp2_with (at_builtin; refine wpList_append_own _ rfl _ _ 47 rfl w.heap.size 52 i0 _ 32 32 Try.underlying47 hi hz0 hz1 hz2 (by simp [Value.cells]) (by omega) _ 0 [] rfl hown ⟨b, 0, none⟩ ss.length cap news rfl hnl hnews hone hml (by omega) hsz ?_; intro v' w' ho hgr hnil)
  go_ret
  rw [Nat.zero_add, List.nil_append] at ho
  rcases ho.2 with ⟨_, h0⟩ | ⟨g, cp, cur', h3, h4, h5, h6, _, h7, h8⟩
  · omega
  · subst h3
    refine ⟨g, cp, rfl, h4, h6, ⟨cur', h5, by omega, fun i s hs => ?_⟩, hb0.grown hgr hsz (fun k hk => ?_)⟩
    · obtain ⟨hl, hx⟩ := hc i s hs
      refine ⟨hl, fun j x hj => ?_⟩
      have hjl := (List.getElem?_eq_some_iff.1 hj).1
      have hil := (List.getElem?_eq_some_iff.1 hs).1
      rw [← hx j x hj, ← hng (i * 32 + j) (by omega), ← h8, List.getElem?_take, if_pos (by omega)]
      simp
    · cases hk; exact Nat.le_refl _
set_option maxHeartbeats 1000000 in
theorem copy_any (w : World) (g b cap : Nat) (d : Dk) (h : DkAt w g b cap d) :
    Calls Try.prog 15 #[.pointer (some ⟨g, 0, none⟩)] w fun e w' =>
      ∃ g' b' cp, e = .returned (.pointer (some ⟨g', 0, none⟩)) ∧ w.heap.size ≤ g' ∧ w.heap.size ≤ b' ∧ DkAt w' g' b' cp d ∧ Below w.heap.size w w' := by
  have c0 := h.head.at 0
  have c1 := h.head.at 1
  have c2 := h.head.at 2
  have c3 := h.head.at 3
  have c4 := h.head.at 4
  go_enter Try.func15, Try.ntmps15
  go_upto_region 2 with fail
  have hA := h.next ((Below.refl _ w).alloc (Nat.le_refl _) (.cells #[.slice (some ⟨b, 0, none⟩) d.ss.length cap, .bool d.down, .bool d.armed, .int .i64 (d.left : Int), .int .i64 (d.keep : Int)] 49))
  have hb := (Below.refl w.heap.size w).alloc (Nat.le_refl _) (.cells #[.slice (some ⟨b, 0, none⟩) d.ss.length cap, .bool d.down, .bool d.armed, .int .i64 (d.left : Int), .int .i64 (d.keep : Int)] 49)
  have hN := Rw.fresh w 49 #[.slice (some ⟨b, 0, none⟩) d.ss.length cap, .bool d.down, .bool d.armed, .int .i64 (d.left : Int), .int .i64 (d.keep : Int)]
  generalize w.alloc (.cells #[.slice (some ⟨b, 0, none⟩) d.ss.length cap, .bool d.down, .bool d.armed, .int .i64 (d.left : Int), .int .i64 (d.keep : Int)] 49) = w1 at hA hb hN ⊢
  have e0 := hA.head.at 0
  have q := clone_any w1 b cap d.ss h.ok.n1 h.ok.n2 hA.secs
  have hNl := hN.size
  clear c0 c1 c2 c3 c4
  go_wp2_with (go_at_call 21; (with_reducible refine q.mono ?_); rintro e w2 ⟨g', cp, rfl, hg', hcp, hS2, hb2⟩; have hN2 := hN.below hb2 hNl; have n0 := hN2.at 0; have f0 := hN2.free 0)
  go_ret
  refine ⟨w.heap.size, g', cp, rfl, Nat.le_refl _, by omega, ⟨hN2.put 0 _, hS2.same (heap_setCell_other w2 _ g' _ (by simp; omega)), by omega, h.ok, hcp⟩, (hb.trans (hb2.mono (by omega))).setCell (p := ⟨w.heap.size, 0, none⟩) (Nat.le_refl _) _⟩
end Go.Proofs.Ytfndmphmlbfjlaa
