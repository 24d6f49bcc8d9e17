/- THE WALKS of blob.key, wholeRow, value, read. -/
import Derived.Test.YtoddhdionhemjaaGreatDoorBp8
import Derived.Test.YtoddhdionhemjaaGreatDoorWa7
namespace Go.Proofs.YtoddhdionhemjaaGreatDoor
open Go.RowKit Go.Shelf
set_option maxRecDepth 100000

theorem bA_cons (c : UInt8) (n : List UInt8) : (⟨#[c]⟩ ++ bA n : ByteArray) = bA (c :: n) := by
  unfold bA; apply ByteArray.ext; simp
theorem key_any (n : List UInt8) (hn : n.length ≤ 1000000) (w : World) :
    Calls Tryz.prog 35 #[.string (bA n)] w fun e w' => e = .returned (.string (bA (bk n))) ∧ w = w' := by
  have hs : (bA n).size ≤ 1000000 := hn
  have he := bA_cons 98 n
  generalize bA n = s at hs he ⊢
  go_enter Tryz.func35, Tryz.ntmps35
  go_wp2
  go_ret
  exact ⟨rfl, rfl⟩
/-- What may be read: rows by rising keys, of moderate size. -/
structure RdOk (st : List Rr) : Prop where
  srt : Srt st
  val : ∀ r ∈ st, r.v.length ≤ 100000
  len : st.length ≤ 100000
theorem getK_some {st : List Rr} {k v : List UInt8} (h : getK st k = some v) : ∃ r ∈ st, r.k = k ∧ r.v = v := by
  unfold getK at h
  split at h
  · rename_i hh
    obtain ⟨r, hr, hk⟩ := hasK_row hh
    rw [hr] at h
    exact ⟨r, List.mem_of_getElem? hr, hk, by simpa using h⟩
  · cases h
theorem RdOk.get {st : List Rr} (h : RdOk st) (k : List UInt8) : ((getK st k).getD []).length ≤ 100000 := by
  cases hg : getK st k with
  | none => simp
  | some v =>
    obtain ⟨r, hr, _, rfl⟩ := getK_some hg
    exact h.val r hr
theorem RdOk.value {st : List Rr} (h : RdOk st) (n : List UInt8) : ((valOf st n).getD []).length ≤ 100000 := by
  unfold valOf
  split
  · exact h.get _
  · simp
theorem value_any {W : World} {base sg jg : Nat} {x : Value} {st : List Rr} (hok : RdOk st) (h : SnAt W base sg jg x st) (n : List UInt8) (hn : n.length ≤ 1000000) :
    Calls Tryz.prog 39 #[.pointer (some ⟨sg, 0, none⟩), .string (bA n)] W fun e W' => e = .returned (.tuple #[.string (bA ((valOf st n).getD [])), .bool (valOf st n).isSome]) ∧ Below W.heap.size W W' := by
  have p1 := Ha.is_any (bA n) (by show n.length ≤ _; unfold maxLen; omega) W
  have p2 := key_any n hn W
  have p3 := get_any base sg jg x st (bA (bk n)) hok.srt.up (fun r hr => Nat.le_trans (hok.val r hr) (by omega)) (Nat.le_trans hok.len (by omega)) W h
  have hv : valOf st n = if Ha.isL n = true then getK st (bk n) else none := rfl
  have e1 : (bA n).data.toList = n := rfl
  have e2 : (bA (bk n)).data.toList = bk n := rfl
  rw [e1] at p1
  rw [e2] at p3
  cases hi : Ha.isL n with
  | false =>
    rw [hi, if_neg (by decide)] at hv
    rw [hv]
    rw [hi] at p1
    generalize bA n = s at p1 p2 ⊢
    clear hv hi e1 e2 p2 p3
    go_enter Tryz.func39, Tryz.ntmps39
    go_wp2_with (go_at_call 70; (with_reducible refine p1.mono ?_); rintro e w1 ⟨rfl, rfl⟩)
    go_ret2
    exact ⟨rfl, Below.refl _ _⟩
  | true =>
    rw [hi, if_pos rfl] at hv
    rw [hv]
    rw [hi] at p1
    generalize bA n = s at p1 p2 ⊢
    generalize bA (bk n) = k at p2 p3
    generalize bA ((getK st (bk n)).getD []) = a at p3 ⊢
    generalize (getK st (bk n)).isSome = b at p3 ⊢
    clear hv hi e1 e2
    go_enter Tryz.func39, Tryz.ntmps39
    go_wp2_with (first
      | (go_at_call 70; (with_reducible refine p1.mono ?_); rintro e w1 ⟨rfl, rfl⟩)
      | (go_at_call 35; (with_reducible refine p2.mono ?_); rintro e w1 ⟨rfl, rfl⟩)
      | (go_at_call 13; (with_reducible refine p3.mono ?_); rintro e w2 ⟨rfl, hb⟩))
    go_ret2
    exact ⟨rfl, hb⟩
/-- What a value says, as the program has it. -/
def enA (e : En) : Value := .agg #[.string (bA e.letter), .string (bA e.base), .string (bA e.text)]
def enV : Option En → Value
  | none => .agg #[.string (bA []), .string (bA []), .string (bA [])]
  | some e => enA e
theorem bA_drop (v : List UInt8) (i : Nat) : (bA v).extract i (bA v).size = bA (v.drop i) := by
  unfold bA; apply ByteArray.ext; apply Array.ext'; simp [ByteArray.size, ByteArray.data_extract, List.take_of_length_le]
theorem bA_mid (v : List UInt8) (i j : Nat) : (bA v).extract i j = bA ((v.drop i).take (j - i)) := by
  unfold bA; apply ByteArray.ext; apply Array.ext'; simp [ByteArray.data_extract]
theorem wholeRow_any (n c : List UInt8) (hn : n.length ≤ 1000000) (hc : c.length ≤ 1000000) (w : World) :
    Calls Tryz.prog 36 #[.string (bA n), .string (bA c)] w fun e w' => e = .returned (rval ⟨bk n, 102 :: c, false⟩) ∧ Below w.heap.size w w' := by
  have p := fun W => key_any n hn W
  have he := bA_cons 102 c
  have hc : (bA c).size ≤ 1000000 := hc
  unfold rval
  show Calls _ _ _ _ fun e w' => e = .returned (.agg #[.string (bA (bk n)), .string (bA (102 :: c)), .bool false]) ∧ _
  generalize bA n = s at p ⊢
  generalize bA c = t at he hc ⊢
  generalize bA (bk n) = k at p ⊢
  go_enter Tryz.func36, Tryz.ntmps36
  go_wp2_with (go_at_call 35; (with_reducible refine (p _).mono ?_); rintro e w1 ⟨rfl, rfl⟩)
  exact bodyPost_ret (results_cell_row rfl _ _ w.heap.size 30 _ (0, 0) _ rfl (World.alloc_heap_new w _) Tryz.underlying30 rfl (by kernel_rfl)) rfl ⟨rfl, (Below.refl _ w).alloc (Nat.le_refl _) _⟩
/-- What a call hands back that has named cells for its results. -/
theorem res_row_tmp {P : Program} {fn : Func} {p u : Tmp} {ty : TypeId} (h : fn.results = #[.cell p ty, .tmp u]) (tmps : Array Value) (w : World) (g : Nat) (t : TypeId) (cs : Array Value) (fr : Nat × Nat) (d : TypeDesc)
    (hp : tmps.getD p undef = .pointer (some ⟨g, 0, none⟩)) (hg : w.heap[g]? = some (.cells cs t fr))
    (hu : P.underlying ty = some d) (hd : (match d with | .struct _ | .array _ _ => true | _ => false) = true) (hi : (P.info? ty).map (·.size) = some cs.size) :
    (results fn tmps).run P w = .ok (.tuple #[.agg cs, tmps.getD u undef]) w := by
  rw [results_cell_tmp h, hp]
  simp [asAddr, run_loadVar_row w g t ty cs fr d hg hu hd hi]
theorem beg_cons (c : UInt8) (v : List UInt8) : begB v [c] = decide (v.take 1 = [c]) := rfl
theorem bread_any (v : List UInt8) (hv : v.length ≤ 100000) (w : World) :
    Calls Tryz.prog 41 #[.string (bA v)] w fun e w' => e = .returned (.tuple #[enV (rdE v), .bool (rdE v).isSome]) ∧ Below w.heap.size w w' := by
  have hz : (bA v).size = v.length := rfl
  have d1 : (bA v).extract 1 v.length = bA (v.drop 1) := bA_drop v 1
  have d2 : (bA v).extract 41 v.length = bA (v.drop 41) := bA_drop v 41
  have d3 : (bA v).extract 1 41 = bA ((v.drop 1).take 40) := bA_mid v 1 41
  by_cases h1 : v.take 1 = [102]
  · have hl : 1 ≤ v.length := by cases v with | nil => simp at h1 | cons _ _ => simp
    have p1 := hasPrefix_any (bA v) ⟨#[102]⟩ true (by show true = decide (v.take 1 = [102]); rw [h1]; rfl)
    have e : rdE v = some (.w (v.drop 1)) := by unfold rdE; rw [if_pos h1]
    rw [e]
    show Calls _ _ _ _ fun e w' => e = .returned (.tuple #[.agg #[.string ⟨#[102]⟩, .string ⟨#[]⟩, .string (bA (v.drop 1))], .bool true]) ∧ _
    generalize bA (v.drop 1) = t at d1 ⊢
    generalize bA v = s at p1 hz d1 ⊢
    clear d2 d3 e h1
    go_enter Tryz.func41, Tryz.ntmps41
    go_wp2_with (go_at_call 72; (with_reducible refine (p1 _).mono ?_); rintro e w1 ⟨rfl, rfl⟩)
    exact bodyPost_ret (res_row_tmp rfl _ _ w.heap.size 88 _ (0, 0) _ rfl (World.alloc_heap_new w _) Tryz.underlying88 rfl (by kernel_rfl)) rfl ⟨rfl, (Below.refl _ w).alloc (Nat.le_refl _) _⟩
  · by_cases h2 : v.take 1 = [100]
    · by_cases h3 : 41 ≤ v.length
      · have p1 := hasPrefix_any (bA v) ⟨#[102]⟩ false (by show false = decide (v.take 1 = [102]); simp [h1])
        have p2 := hasPrefix_any (bA v) ⟨#[100]⟩ true (by show true = decide (v.take 1 = [100]); rw [h2]; rfl)
        have e : rdE v = some (.d ((v.drop 1).take 40) (v.drop 41)) := by unfold rdE; rw [if_neg h1, if_pos ⟨h2, h3⟩]
        rw [e]
        show Calls _ _ _ _ fun e w' => e = .returned (.tuple #[.agg #[.string ⟨#[100]⟩, .string (bA ((v.drop 1).take 40)), .string (bA (v.drop 41))], .bool true]) ∧ _
        generalize bA (v.drop 41) = t at d2 ⊢
        generalize bA ((v.drop 1).take 40) = b at d3 ⊢
        generalize bA v = s at p1 p2 hz d2 d3 ⊢
        clear d1 e h1 h2
        go_enter Tryz.func41, Tryz.ntmps41
        go_wp2_with (first | (go_at_call 72; (with_reducible refine (p1 _).mono ?_); rintro e w1 ⟨rfl, rfl⟩) | (go_at_call 72; (with_reducible refine (p2 _).mono ?_); rintro e w1 ⟨rfl, rfl⟩))
        go_region
        all_goals
          go_wp2
          exact bodyPost_ret (res_row_tmp rfl _ _ w.heap.size 88 _ (0, 0) _ rfl (World.alloc_heap_new w _) Tryz.underlying88 rfl (by kernel_rfl)) rfl ⟨rfl, ((Below.refl _ w).alloc (Nat.le_refl _) _).drew⟩
      · have t3 : decide ((41 : Int) ≤ (v.length : Int)) = false := by simp; omega
        have p1 := hasPrefix_any (bA v) ⟨#[102]⟩ false (by show false = decide (v.take 1 = [102]); simp [h1])
        have p2 := hasPrefix_any (bA v) ⟨#[100]⟩ true (by show true = decide (v.take 1 = [100]); rw [h2]; rfl)
        have e : rdE v = none := by unfold rdE; rw [if_neg h1, if_neg (fun h => h3 h.2)]
        rw [e]
        show Calls _ _ _ _ fun e w' => e = .returned (.tuple #[.agg #[.string ⟨#[]⟩, .string ⟨#[]⟩, .string ⟨#[]⟩], .bool false]) ∧ _
        generalize bA v = s at p1 p2 hz ⊢
        clear d1 d2 d3 e h1 h2
        go_enter Tryz.func41, Tryz.ntmps41
        go_wp2_with (first | (go_at_call 72; (with_reducible refine (p1 _).mono ?_); rintro e w1 ⟨rfl, rfl⟩) | (go_at_call 72; (with_reducible refine (p2 _).mono ?_); rintro e w1 ⟨rfl, rfl⟩))
        exact bodyPost_ret (res_row_tmp rfl _ _ w.heap.size 88 _ (0, 0) _ rfl (World.alloc_heap_new w _) Tryz.underlying88 rfl (by kernel_rfl)) rfl ⟨rfl, (Below.refl _ w).alloc (Nat.le_refl _) _⟩
    · have p1 := hasPrefix_any (bA v) ⟨#[102]⟩ false (by show false = decide (v.take 1 = [102]); simp [h1])
      have p2 := hasPrefix_any (bA v) ⟨#[100]⟩ false (by show false = decide (v.take 1 = [100]); simp [h2])
      have e : rdE v = none := by unfold rdE; rw [if_neg h1, if_neg (fun h => h2 h.1)]
      rw [e]
      show Calls _ _ _ _ fun e w' => e = .returned (.tuple #[.agg #[.string ⟨#[]⟩, .string ⟨#[]⟩, .string ⟨#[]⟩], .bool false]) ∧ _
      generalize bA v = s at p1 p2 hz ⊢
      clear d1 d2 d3 e h1 h2
      go_enter Tryz.func41, Tryz.ntmps41
      go_wp2_with (first | (go_at_call 72; (with_reducible refine (p1 _).mono ?_); rintro e w1 ⟨rfl, rfl⟩) | (go_at_call 72; (with_reducible refine (p2 _).mono ?_); rintro e w1 ⟨rfl, rfl⟩))
      exact bodyPost_ret (res_row_tmp rfl _ _ w.heap.size 88 _ (0, 0) _ rfl (World.alloc_heap_new w _) Tryz.underlying88 rfl (by kernel_rfl)) rfl ⟨rfl, (Below.refl _ w).alloc (Nat.le_refl _) _⟩
end Go.Proofs.YtoddhdionhemjaaGreatDoor
