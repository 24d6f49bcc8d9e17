/- THE WALK of the law HashLong. -/
import Derived.Test.YtebjfmchpmbihaaTells
import Derived.Deep.RegionHeldLaw
import Derived.Deep.DrawnRows
namespace Go.Proofs.Ytebjfmchpmbihaa
open Go.RowKit
attribute [local go_sem ↓] Go.wp_at_zero Go.wp_at_succ

/-- The bytes c, c + 1, .., k of them. -/
def runB (b : UInt8) : Nat → List UInt8
  | 0 => []
  | k + 1 => runB b k ++ [UInt8.ofNat (b.toNat + k)]
theorem runB_len (b : UInt8) : ∀ k, (runB b k).length = k
  | 0 => rfl
  | k + 1 => by simp [runB, runB_len b k]

theorem Own.convAny {w0 w : World} {v : Value} {l : List UInt8} (h : Own w0 w v l) : (convert 26 9 v).run Try.prog w = .ok (.string ⟨l.toArray⟩) w := by
  rcases h.1.2 with ⟨hv, h0⟩ | ⟨g, cap, cur, rfl, _⟩
  · obtain rfl : l = [] := List.eq_nil_of_length_eq_zero h0
    subst hv
    exact run_convert_bytes_nil w _ _ Try.underlying26 Try.underlying5 0 0 _ Try.underlying9
  · exact run_convert_bytes_back w _ _ _ ⟨g, 0, none⟩ _ l Try.underlying26 Try.underlying5 Try.underlying9 (fun j hj => by rw [Addr.add_mid, Nat.zero_add]; exact h.cell j hj)
theorem Own.alloc {w0 w : World} {v : Value} {l : List UInt8} (h : Own w0 w v l) (o : Obj) : Own w0 (w.alloc o) v l := ⟨h.1.alloc o, h.2.alloc h.2.size o⟩
theorem Own.below {w0 w w1 : World} {v : Value} {l : List UInt8} (h : Own w0 w v l) (hb : Below w.heap.size w w1) : Own w0 w1 v l := by
  refine ⟨⟨h.1.1, ?_⟩, h.2.trans (hb.mono h.2.size)⟩
  rcases h.1.2 with hn | ⟨g, cap, cur, h1, h2, h3, h4⟩
  · exact .inl hn
  · exact .inr ⟨g, cap, cur, h1, h2, (hb.block g (Array.getElem?_eq_some_iff.1 h3).1).trans h3, h4⟩
/-- 'append([]byte{}, v...)'. -/
theorem run_appV (w0 w : World) (v : Value) (l : List UInt8) (h : Own w0 w v l) (hlen : l.length ≤ 1099511627776) :
    ∃ v' w', (Builtin.append_ #[26, 26] 26 #[.slice (some ⟨w.heap.size, 0, none⟩) 0 0, v]).run Try.prog (w.alloc (.cells #[] 5)) = .ok v' w' ∧ Own w0 w' v' l ∧ Own w0 w' v l := by
  obtain ⟨i0, hi, hz0, hz1, hz2⟩ := info_parts u8info
  have hA := h.alloc (.cells #[] 5)
  have hE : (w.alloc (.cells #[] 5)).ownsRow w0.heap.size 5 1 (.slice (some ⟨w.heap.size, 0, none⟩) 0 0) 0 [] := World.ownsRow_made w #[] 0 h.2.size (by unfold maxLen; omega) rfl
  rcases h.1.2 with ⟨hv, h0⟩ | ⟨g, cap, cur, hv, hbg, hg, _⟩
  · obtain rfl : l = [] := List.eq_nil_of_length_eq_zero h0
    subst hv
    refine ⟨_, _, ?_, ⟨hE, hA.2⟩, hA⟩
    simp [Builtin.append_, run_underlying Try.underlying26, sizeOf, typeInfo, hi, Builtin.lenOf, Builtin.firstCells, storeCells]
  · have hlt : g < w.heap.size := (Array.getElem?_eq_some_iff.1 hg).1
    subst hv
    obtain ⟨v', w', hr, h1, h2, _⟩ := run_append_own (P := Try.prog) (w.alloc (.cells #[] 5)) w0.heap.size 26 26 5 i0 _ 1 1 Try.underlying26 hi hz0 hz1 hz2 rfl (by omega) _ 0 [] hE ⟨g, 0, none⟩ l.length cap (Lib.byteCells l) (by simp [Lib.byteCells])
      (fun j u hj => by
        have hjl : j < l.length := by
          have := (List.getElem?_eq_some_iff.1 hj).1
          simpa [Lib.byteCells] using this
        rw [Addr.add_mid, Nat.zero_add, hA.cell j hjl]
        simp [Lib.byteCells, List.getElem?_eq_getElem hjl] at hj
        rw [← hj]) (fun u hu => by
        simp only [Lib.byteCells, List.mem_map] at hu
        obtain ⟨x, _, rfl⟩ := hu
        rfl) (by unfold maxLen; omega) (by omega) (by simp; have := h.2.size; omega)
    have hbb : Below w0.heap.size w0 w' := hA.2.grown h2 (by simp; have := h.2.size; omega) (fun k hk => by simp [Value.ownBlock] at hk; have := h.2.size; omega)
    refine ⟨v', w', hr, ⟨by simpa using h1, hbb⟩, ⟨hA.1.kept h2 (.inr (by simp [Value.ownBlock]; omega)), hbb⟩⟩
theorem sum_two (s t : ByteArray) (hs : s.size ≤ 1099511627776) (h : t = ⟨(sumL s.data.toList).toArray⟩) (w0 w : World) (v : Value) (l : List UInt8) (ho : Own w0 w v l) :
    Calls Try.prog 8 #[.string s] w fun e w' => e = .returned (.string t) ∧ Own w0 w' v l := (sum_to s t hs h w).mono fun _ _ hh => ⟨hh.1, ho.below hh.2⟩
theorem rsum_two (s t : ByteArray) (hs : s.size ≤ 1099511627) (h : t = ⟨(sumL s.data.toList).toArray⟩) (w0 w : World) (v : Value) (l : List UInt8) (ho : Own w0 w v l) :
    Calls Try.prog 10 #[.string s] w fun e w' => e = .returned (.string t) ∧ Own w0 w' v l := (rsum_to s t hs h w).mono fun _ _ hh => ⟨hh.1, ho.below hh.2⟩

theorem Own.convX {w0 w : World} {v : Value} {l : List UInt8} {X : ByteArray} (h : Own w0 w v l) (hX : X = ⟨l.toArray⟩) : (convert 26 9 v).run Try.prog w = .ok (.string X) w := by
  rw [hX]; exact h.convAny
theorem step_run {ops : Array Oper} {o : Oper} {a : Act} {w w' : World} {K : Act → World → Prop} {Q : Exit → Act → World → Prop} {E : Prop} (s x : Operand) (v1 v2 v' : Value) (hwt : Region.wanted o (yielded ops a.tmps) = true)
    (ho : o.op = .call { callee := .builtin .append, args := #[s, x], argTypes := #[26, 26] }) (hty : o.type = 26) (hs : a.eval s = v1) (hx : a.eval x = v2)
    (hr : (Builtin.append_ #[26, 26] 26 #[v1, v2]).run Try.prog w = .ok v' w') (h : K (a.put o.dst v') w') :
    if Region.wanted o (yielded ops a.tmps) = true then Oper.wp Try.prog o a w K Q else E := by
  rw [if_pos hwt]
  unfold Oper.wp execOp
  simp only [ho, resolve, invoke, builtin, Sem.run_bind, Sem.run_pure, Result.andThen_ok, List.map_toArray, List.map_cons, List.map_nil, hs, hx, hty, hr]
  exact h
set_option maxHeartbeats 1000000 in
theorem long_any (n c : Int) (hc : (Lit.int .u8 c).wf = true) (w : World) :
    Calls Try.prog 5 #[.int .i64 n, .int .u8 c] w fun e w' => e = .returned (.bool true) ∧ Below w.heap.size w w' := by
  obtain ⟨k, hi, _, hi2⟩ := wthn_nat n 0 200 (by omega) (by omega)
  have HI := Lib.hid hi
  clear hi
  obtain ⟨b, rfl⟩ : ∃ b : UInt8, c = (b.toNat : Int) := by
    simp [Lit.wf, IntKind.min, IntKind.max, IntKind.signed, IntKind.bits] at hc
    refine ⟨UInt8.ofNat c.toNat, ?_⟩
    rw [UInt8.toNat_ofNat']
    omega
  clear hc
  go_enter Try.func5, Try.ntmps5
  go_wp2_with (go_at_call 12; refine (within_to n 0 200 k (by omega) (by omega) (by omega) HI.out _).mono ?_; rintro e w3 ⟨rfl, rfl⟩)
  go_loopw [6, 11] (fun v i wr => ∃ j : Nat, j ≤ k ∧ i = .int .i64 j ∧ Own w wr v (runB b j)) (fun _ i _ => k - (intOf i).toNat)
  case atStart => exact ⟨0, by omega, rfl, ⟨World.ownsRow_nil _ _ _ _, Below.refl _ _⟩⟩
  case round =>
    obtain ⟨j, hj, rfl, hat⟩ := hrel
    by_cases hlt : j < k
    · go_wp2_with (at_builtin; refine wpList_app1 w wr rfl (.tmp 14) (.tmp 19) rfl _ _ (by rfl) hat (UInt8.ofNat (b.toNat + j)) _ ?hb (by rfl) (by rw [runB_len]; omega) ?_; rotate_right; intro v' w' hat')
      · go_roundw
        case rel => exact ⟨j + 1, by omega, by go_num, hat'⟩
        case measure => simp [intOf]; omega
      case hb => rw [UInt8.toNat_ofNat']; omega
    · obtain rfl : j = k := by omega
      go_wp2
      obtain ⟨X, hX⟩ : ∃ X : ByteArray, X = ⟨(runB b j).toArray⟩ := ⟨_, rfl⟩
      have hXs : X.size ≤ 200 := by
        rw [hX]
        show (runB b j).toArray.size ≤ 200
        rw [List.size_toArray, runB_len]
        omega
      obtain ⟨N, HN, hz, HL⟩ := sum_named X.data.toList
      have HX := Lib.hid hX
      clear hX
      have h0 := hat.drew
      have hc0 := h0.convX HX.out
      clear hat
      go_region_held_law (fun w' => (convert 26 9 u6).run Try.prog w' = .ok (.string X) w') (first | assumption | skip) (first
        | (go_simp; go_at_call 8; refine (sum_two X N (by omega) HN.out w _ u6 (runB b j) (by assumption)).mono ?_; rintro e w1 ⟨rfl, ho1⟩; have hc1 := ho1.convX HX.out)
        | (go_simp; go_at_call 10; refine (rsum_two X N (by omega) HN.out w _ u6 (runB b j) (by assumption)).mono ?_; rintro e w2 ⟨rfl, ho2⟩; have hc2 := ho2.convX HX.out; have hc2a := (ho2.alloc (.cells #[] 5)).convX HX.out; obtain ⟨v3, w3, hr3, ho3, ho3'⟩ := run_appV w w2 u6 (runB b j) ho2 (by rw [runB_len]; omega); have hc3 := ho3'.convX HX.out; have hc3v := ho3.convX HX.out)
        | (refine step_run (.tmp 30) (.tmp 31) _ _ v3 (by rfl) (by rfl) (by rfl) (by rfl) (by rfl) hr3 ?_)
        | (go_simp; go_at_call 3; refine (runs_any _).mono ?_; rintro e w5 ⟨rfl, hb5⟩; have ho5 : Own w w5 u6 (runB b j) := Own.below (by assumption) hb5; have hc5 := ho5.convX HX.out))
      all_goals
        go_wp2
        go_ret
        exact ⟨rfl, ho5.2⟩
end Go.Proofs.Ytebjfmchpmbihaa
