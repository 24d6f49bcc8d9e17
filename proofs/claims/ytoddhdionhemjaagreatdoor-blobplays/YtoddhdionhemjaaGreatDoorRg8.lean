/- THE WALK of the reference's Get: what rows say of a key. -/
import Derived.Test.YtoddhdionhemjaaGreatDoorPm8
import Derived.Test.YtoddhdionhemjaaGreatDoorRw8
namespace Go.Proofs.YtoddhdionhemjaaGreatDoor
open Go.RowKit Go.Shelf
set_option maxRecDepth 100000

def gV : Option (List UInt8) → Value
  | none => .tuple #[.string ⟨#[]⟩, .bool false]
  | some v => .tuple #[.string (bA v), .bool true]
set_option maxHeartbeats 2000000 in
theorem rget_any {W : World} {base : Nat} (x : Value) (st : List Rr) (hs : Srt st) (hl : st.length ≤ 1000000) (h : OwnR W base x st) (key : List UInt8) :
    Calls Tryz.prog 45 #[x, .string (bA key)] W fun e W' => e = .returned (gV (getK st key)) ∧ Below W.heap.size W W' := by
  have hsh := h.shape
  have h0 : ∃ a m c, x = .slice a m c ∧ m = st.length := by
    rcases hsh with ⟨rfl, rfl⟩ | ⟨g, cap, rfl⟩
    · exact ⟨_, _, _, rfl, rfl⟩
    · exact ⟨_, _, _, rfl, rfl⟩
  obtain ⟨a, m, cp, rfl, rfl⟩ := h0
  have hat : ∀ V, Below W.heap.size W V → ∀ (i : Nat) (r : Rr), st[i]? = some r → ∃ g, a = some ⟨g, 0, none⟩ ∧ V.cell? ⟨g, i * 3, none⟩ = some (.string (bA r.k)) ∧ V.cell? ⟨g, i * 3 + 1, none⟩ = some (.string (bA r.v)) ∧ V.cell? ⟨g, i * 3 + 2, none⟩ = some (.bool r.g) := fun V hV i r hr => by
    rcases hsh with ⟨e, rfl⟩ | ⟨g, cap, e⟩
    · cases hr
    · cases e
      exact ⟨g, rfl, OwnR.at (h.next hV) hr⟩
  clear hsh
  obtain ⟨kk, hkk⟩ : ∃ kk, kk = bA key := ⟨_, rfl⟩
  rw [← hkk]
  have HK := Lib.hid hkk
  clear hkk
  go_enter Tryz.func45, Tryz.ntmps45
  go_wp2_with fail
  go_loopg [10] (st.length + 1) (fun q cn V => ∃ i : Nat, cn = .int .i64 (i : Int) ∧ i ≤ st.length ∧ q = st.length + 1 - i ∧ Below W.heap.size W V ∧ ∀ (n : Nat) (r : Rr), n < i → st[n]? = some r → r.k ≠ key)
  case atStart => exact ⟨0, rfl, Nat.zero_le _, rfl, Below.refl _ _, fun n r hn _ => by omega⟩
  case round =>
    obtain ⟨i, rfl, hi, rfl, hbV, hno⟩ := hrel
    by_cases hlt : i < st.length
    · have d1 : decide ((i : Int) < (st.length : Int)) = true := by simp; omega
      obtain ⟨r, hr⟩ : ∃ r, st[i]? = some r := ⟨_, List.getElem?_eq_getElem hlt⟩
      obtain ⟨g, rfl, k0, k1, k2⟩ := hat _ hbV i r hr
      have l1 : (i : Int) < (st.length : Int) := by omega
      obtain ⟨kb, hkb⟩ : ∃ kb, bA r.k = kb := ⟨_, rfl⟩
      obtain ⟨vb, hvb⟩ : ∃ vb, bA r.v = vb := ⟨_, rfl⟩
      rw [hkb] at k0
      rw [hvb] at k1
      obtain ⟨rg, hrg⟩ : ∃ rg, r.g = rg := ⟨_, rfl⟩
      rw [hrg] at k2
      have HR := Lib.hid (And.intro hkb hvb)
      have HN := Lib.hid hno
      clear hat hkb hvb hrg hno
      obtain ⟨Q, hQ⟩ : ∃ Q, wr.heap.size = Q := ⟨_, rfl⟩
      obtain ⟨W1, hW1⟩ : ∃ W1, wr.alloc (.cells #[.string kb, .string vb, .bool rg] 30) = W1 := ⟨_, rfl⟩
      have hR1 : Rw W1 Q 30 #[.string kb, .string vb, .bool rg] := by rw [← hW1, ← hQ]; exact Rw.fresh wr _ _
      have hB1 : Below wr.heap.size wr W1 := by rw [← hW1]; exact (Below.refl _ wr).alloc (Nat.le_refl _) _
      have e0 := hR1.at 0
      have e1 := hR1.at 1
      have HW := Lib.hid (And.intro hW1 hQ)
      clear hW1 hQ hR1
      go_upto_region 4 with fail
      rw [HW.out.2, HW.out.1]
      by_cases hk : r.k = key
      · have t1 : (kb.toList == kk.toList) = true := by rw [← HR.out.1, hk, HK.out]; simp
        have hg : getK st key = some r.v := (getK_iff hs key r.v).2 ⟨r, List.mem_of_getElem? hr, hk, rfl⟩
        have HG := Lib.hid hg
        clear hg hk
        go_wp2_with fail
        refine bodyPost_ret (results_tmp2 rfl _ _ _) rfl ?_
        exact ⟨by rw [HG.out, ← HR.out.2]; rfl, bstep hbV hB1⟩
      · have t1 : (kb.toList == kk.toList) = false := by rw [← HR.out.1, HK.out, beq_eq_false_iff_ne, Lib.toList_data, Lib.toList_data]; exact hk
        have HG := Lib.hid hk
        clear hk
        go_wp2_with fail
        go_roundg (st.length + 1 - (i + 1))
        case measure => omega
        case rel =>
          refine ⟨i + 1, by go_num, by omega, rfl, bstep hbV hB1, fun q r' hq hr' => ?_⟩
          by_cases e : q = i
          · rw [e, hr] at hr'
            cases hr'
            exact HG.out
          · exact HN.out q r' (by omega) hr'
    · obtain rfl : i = st.length := by omega
      have d1 : decide ((st.length : Int) < (st.length : Int)) = false := by simp
      have hg : getK st key = none := getK_none hs (fun r hr => by
        obtain ⟨q, hq⟩ := List.getElem?_of_mem hr
        exact hno q r (List.getElem?_eq_some_iff.1 hq).1 hq)
      have HG := Lib.hid hg
      clear hg hno hat
      go_wp2_with fail
      refine bodyPost_ret (results_tmp2 rfl _ _ _) rfl ?_
      exact ⟨by rw [HG.out]; rfl, hbV⟩
end Go.Proofs.YtoddhdionhemjaaGreatDoor
