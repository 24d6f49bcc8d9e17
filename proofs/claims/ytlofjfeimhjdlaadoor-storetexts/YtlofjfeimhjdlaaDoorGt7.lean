/- THE WALKS of store.Get, Len, From, All, behind. -/
import Derived.Test.YtlofjfeimhjdlaaDoorSC7
namespace Go.Proofs.YtlofjfeimhjdlaaDoor
open Go.RowKit Go.Shelf
set_option maxRecDepth 100000

theorem slen_any (base sg jg : Nat) (x : Value) (st : List Rr) (w : World) (h : SnAt w base sg jg x st) :
    Calls Tryd.prog 11 #[.pointer (some ⟨sg, 0, none⟩)] w fun e w' => e = .returned (.int .i64 (st.length : Int)) ∧ Below w.heap.size w w' := by
  have c1 := h.head.at 1
  rcases h.row.shape with ⟨rfl, rfl⟩ | ⟨g, cap, rfl⟩
  all_goals
    go_enter Tryd.func11, Tryd.ntmps11
    go_wp2
    go_ret
    exact ⟨rfl, Below.refl _ _⟩
theorem get_any (base sg jg : Nat) (x : Value) (st : List Rr) (q : ByteArray) (hs : st.Pairwise (fun a b => Lt a.k b.k)) (hv : ∀ r ∈ st, r.v.length ≤ 1099511627776) (hl : st.length ≤ 1099511627776) (w : World) (h : SnAt w base sg jg x st) :
    Calls Tryd.prog 10 #[.pointer (some ⟨sg, 0, none⟩), .string q] w fun e w' => e = .returned (.tuple #[.string (bA ((getK st q.data.toList).getD [])), .bool (getK st q.data.toList).isSome]) ∧ Below w.heap.size w w' := by
  have pf := find_any base sg jg x st q hs hl w h
  have c1 := h.head.at 1
  cases hh : hasK st q.data.toList with
  | false =>
    have eg : getK st q.data.toList = none := by unfold getK; rw [hh]; rfl
    rw [eg]
    rw [hh] at pf
    generalize pos st q.data.toList = P at pf
    go_enter Tryd.func10, Tryd.ntmps10
    go_wp2_with (go_at_call 29; (with_reducible refine pf.mono ?_); rintro e w1 ⟨rfl, hb1⟩)
    go_ret2
    exact ⟨rfl, hb1⟩
  | true =>
    obtain ⟨r, hr, hk⟩ := hasK_row hh
    have eg : getK st q.data.toList = some r.v := by unfold getK; rw [hh, hr]; rfl
    rw [eg]
    rw [hh] at pf
    have hpl := (List.getElem?_eq_some_iff.1 hr).1
    have hrv := hv r (List.mem_of_getElem? hr)
    generalize pos st q.data.toList = P at pf hr hpl
    rcases h.row.shape with ⟨rfl, rfl⟩ | ⟨g, cap, rfl⟩
    · cases hpl
    · have hrow := h.row
      have key : ∀ w1, Below w.heap.size w w1 → w1.cell? ⟨sg, 1, none⟩ = some (.slice (some ⟨g, 0, none⟩) st.length cap) ∧ w1.cell? ⟨g, P * 3 + 1, none⟩ = some (.string (bA r.v)) := fun w1 hb => ⟨(h.next hb).head.at 1, ((OwnR.next hrow hb).at hr).2.1⟩
      have pS := fun W => sclone_any (bA r.v) hrv W
      obtain ⟨n, hn⟩ : ∃ n, n = st.length := ⟨_, rfl⟩
      rw [← hn] at key hpl hl
      clear hn hr hrow h hrv hv hs eg hk hh
      go_enter Tryd.func10, Tryd.ntmps10
      go_wp2_with (first | (go_at_call 29; (with_reducible refine pf.mono ?_); rintro e w1 ⟨rfl, hb1⟩; obtain ⟨d1, d2⟩ := key _ hb1) | (go_at_call 30; (with_reducible refine (pS _).mono ?_); rintro e w2 ⟨rfl, hb2⟩))
      go_ret2
      exact ⟨rfl, bstep hb1 hb2⟩
theorem behind_any (sg : Nat) (q : ByteArray) (w : World) :
    Calls Tryd.prog 58 #[.pointer (some ⟨sg, 0, none⟩), .string q] w fun e w' => e = .returned (.func (.func 72) #[] #[.pointer (some ⟨w.heap.size, 0, none⟩), .pointer (some ⟨w.heap.size + 1, 0, none⟩)]) ∧
      Boxed w' w.heap.size 24 (.pointer (some ⟨sg, 0, none⟩)) ∧ Boxed w' (w.heap.size + 1) 9 (.string q) ∧ Below w.heap.size w w' := by
  have hmf : ∀ (fn : Fn) (first cap : Array Value) (w : World), (Instr.makeFunc fn first cap).run Tryd.prog w = .ok (.func fn first cap) w := fun _ _ _ _ => rfl
  go_enter Tryd.func58, Tryd.ntmps58
  go_wp2
  go_ret
  refine ⟨by simp, ?_, ?_, ((Below.refl _ w).alloc (Nat.le_refl _) _).alloc (by simp) _⟩
  · exact (Rw.fresh w 24 #[.pointer (some ⟨sg, 0, none⟩)]).alloc _
  · have := Rw.fresh (w.alloc (.cells #[.pointer (some ⟨sg, 0, none⟩)] 24)) 9 #[.string q]
    rw [World.size_alloc] at this
    exact this
theorem from_any (sg : Nat) (q : ByteArray) (hq : q.size ≤ 1099511627776) (w : World) :
    Calls Tryd.prog 36 #[.pointer (some ⟨sg, 0, none⟩), .string q] w fun e w' => e = .returned (.func (.func 57) #[] #[.pointer (some ⟨w.heap.size, 0, none⟩), .pointer (some ⟨w.heap.size + 1, 0, none⟩)]) ∧
      Boxed w' w.heap.size 24 (.pointer (some ⟨sg, 0, none⟩)) ∧ Boxed w' (w.heap.size + 1) 9 (.string q) ∧ Below w.heap.size w w' := by
  have hmf : ∀ (fn : Fn) (first cap : Array Value) (w : World), (Instr.makeFunc fn first cap).run Tryd.prog w = .ok (.func fn first cap) w := fun _ _ _ _ => rfl
  obtain ⟨A, hA⟩ : ∃ A, A = w.heap.size := ⟨_, rfl⟩
  obtain ⟨w2, hw2⟩ : ∃ w2, (w.alloc (.cells #[.pointer (some ⟨sg, 0, none⟩)] 24)).alloc (.cells #[.string q] 9) = w2 := ⟨_, rfl⟩
  have hB2 : Below w.heap.size w w2 := by rw [← hw2]; exact ((Below.refl _ w).alloc (Nat.le_refl _) _).alloc (by simp) _
  have hR1 : Rw w2 A 24 #[.pointer (some ⟨sg, 0, none⟩)] := by rw [← hw2, hA]; exact (Rw.fresh w 24 #[.pointer (some ⟨sg, 0, none⟩)]).alloc _
  have hR2 : Rw w2 (A + 1) 9 #[.string q] := by
    have := Rw.fresh (w.alloc (.cells #[.pointer (some ⟨sg, 0, none⟩)] 24)) 9 #[.string q]
    rw [World.size_alloc, hw2, ← hA] at this
    exact this
  have pS := sclone_any q hq w2
  have c2 : w2.cell? ⟨A + 1, 0, none⟩ = some (.string q) := hR2.at 0
  rw [← hA] at hB2 ⊢
  go_enter Tryd.func36, Tryd.ntmps36
  go_upto_region 1 with fail
  rw [← hA]
  have hkey : ∀ w3, Below w2.heap.size w2 w3 → Boxed (w3.setCell ⟨A + 1, 0, none⟩ (.string q)) A 24 (.pointer (some ⟨sg, 0, none⟩)) ∧ Boxed (w3.setCell ⟨A + 1, 0, none⟩ (.string q)) (A + 1) 9 (.string q) ∧ Below A w (w3.setCell ⟨A + 1, 0, none⟩ (.string q)) ∧ w3.cell? ⟨A + 1, 0, none⟩ = some (.string q) ∧ w3.frozen? ⟨A + 1, 0, none⟩ = false := fun w3 hb => by
    have a1 := hR1.below hb hR1.size
    have a2 := hR2.below hb hR2.size
    refine ⟨Rw.other a1 (show A ≠ A + 1 by omega) _, ?_, Below.setCell (p := ⟨A + 1, 0, none⟩) (u := .string q) (hp := by show A ≤ A + 1; omega) (hB2.trans (hb.mono (by rw [← hw2, hA]; simp; omega))), a2.at 0, a2.free 0⟩
    exact Rw.put a2 0 (.string q)
  clear hw2 hB2 hR1 hR2
  have HA := Lib.hid hA
  clear hA
  go_wp2_with (go_at_call 30; (with_reducible refine pS.mono ?_); rintro e w3 ⟨rfl, hb3⟩; obtain ⟨k1, k2, k3, k4, k5⟩ := hkey _ hb3)
  go_ret
  exact ⟨rfl, k1, k2, k3⟩
theorem sall_any (sg : Nat) (w : World) :
    Calls Tryd.prog 18 #[.pointer (some ⟨sg, 0, none⟩)] w fun e w' => e = .returned (.func (.func 57) #[] #[.pointer (some ⟨w.heap.size, 0, none⟩), .pointer (some ⟨w.heap.size + 1, 0, none⟩)]) ∧
      Boxed w' w.heap.size 24 (.pointer (some ⟨sg, 0, none⟩)) ∧ Boxed w' (w.heap.size + 1) 9 (.string ⟨#[]⟩) ∧ Below w.heap.size w w' := by
  have pf := from_any sg ⟨#[]⟩ (Nat.zero_le _) w
  go_enter Tryd.func18, Tryd.ntmps18
  go_wp2_with (go_at_call 36; (with_reducible refine pf.mono ?_); rintro e w3 ⟨rfl, k1, k2, k3⟩)
  go_ret
  exact ⟨rfl, k1, k2, k3⟩
end Go.Proofs.YtlofjfeimhjdlaaDoor
