/- THE WALK of store.Text. -/
import Derived.Test.YtlofjfeimhjdlaaDoorBd7
import Derived.Lib.ItoaLen
namespace Go.Proofs.YtlofjfeimhjdlaaDoor
open Go.RowKit
set_option maxRecDepth 100000

/-- Rows that are handed over: nil, or cells somewhere. -/
def IsR (w : World) (y : Value) (rs : List Rr) : Prop :=
  (y = .slice none 0 0 ∧ rs = []) ∨ ∃ g o c, y = .slice (some ⟨g, o, none⟩) rs.length c ∧ g < w.heap.size ∧ ∀ j u, (rowsC rs)[j]? = some u → w.cell? ⟨g, o + j, none⟩ = some u
theorem IsR.next {w v : World} {y : Value} {rs : List Rr} (h : IsR w y rs) (hb : Below w.heap.size w v) : IsR v y rs := by
  rcases h with h | ⟨g, o, c, h1, h2, h3⟩
  · exact .inl h
  · exact .inr ⟨g, o, c, h1, Nat.lt_of_lt_of_le h2 hb.size, fun j u hu => (hb.cell (p := ⟨g, o + j, none⟩) h2).trans (h3 j u hu)⟩
theorem OwnR.isR {w : World} {base : Nat} {y : Value} {rs : List Rr} (h : OwnR w base y rs) : IsR w y rs := by
  rcases h.shape with h1 | ⟨g, c, rfl⟩
  · exact .inl h1
  · obtain ⟨_, _, _, _, rest, hL, _⟩ := h.lw
    exact .inr ⟨g, 0, c, rfl, hL.size, fun j u hu => by rw [Nat.zero_add, hL.at, List.getElem?_append_left (List.getElem?_eq_some_iff.1 hu).1]; exact hu⟩
theorem IsR.at {w : World} {g o : Nat} {rs : List Rr} (h : ∀ j u, (rowsC rs)[j]? = some u → w.cell? ⟨g, o + j, none⟩ = some u) {i : Nat} {r : Rr} (hi : rs[i]? = some r) :
    w.cell? ⟨g, o + i * 3, none⟩ = some (.string (bA r.k)) ∧ w.cell? ⟨g, o + i * 3 + 1, none⟩ = some (.string (bA r.v)) ∧ w.cell? ⟨g, o + i * 3 + 2, none⟩ = some (.bool r.g) := by
  obtain ⟨h1, h2, h3⟩ := rowsC_at rs i r hi
  exact ⟨h _ _ h1, h _ _ h2, h _ _ h3⟩
theorem rtext_take {rs : List Rr} {i : Nat} {r : Rr} (h : rs[i]? = some r) : rtext (rs.take (i + 1)) = rtext (rs.take i) ++ rt r := by
  obtain ⟨hi, rfl⟩ := List.getElem?_eq_some_iff.1 h
  rw [List.take_succ_eq_append_getElem hi, rtext_app]
  simp [rtext]
theorem rtext_mem : ∀ {rs : List Rr} {r : Rr}, r ∈ rs → (rt r).length ≤ (rtext rs).length
  | _ :: _, _, .head _ => by rw [rtext, List.length_append]; omega
  | _ :: _, _, .tail _ h => by rw [rtext, List.length_append]; have := rtext_mem h; omega
theorem rtext_take_len (rs : List Rr) (i : Nat) : (rtext (rs.take i)).length ≤ (rtext rs).length := by
  have h : rtext rs = rtext (rs.take i) ++ rtext (rs.drop i) := by rw [← rtext_app, List.take_append_drop]
  rw [h, List.length_append]; omega
theorem dec_name (n : Nat) : ∃ d : ByteArray, d = ⟨(Lib.decDigits n).toArray⟩ := ⟨_, rfl⟩
theorem app_list (a b : ByteArray) : (a ++ b).data.toList = a.data.toList ++ b.data.toList := by simp
theorem app_size (a b : ByteArray) : (a ++ b).size = a.size + b.size := by simp
set_option maxHeartbeats 4000000 in
theorem text_any (y : Value) (rs : List Rr) (w : World) (hP : Pow w) (hL : (rtext rs).length ≤ 1000000000000) (hok : ∀ r ∈ rs, r.k.length ≤ 1073741824 ∧ r.v.length ≤ 1073741824) (h : IsR w y rs) :
    Calls Tryd.prog 12 #[y] w fun e w' => e = .returned (.string (bA (rtext rs))) ∧ Below w.heap.size w w' := by
  have hB0 := (Below.refl w.heap.size w).alloc (Nat.le_refl _) (.cells #[.pointer none, .slice none 0 0] 76)
  have hb0 := bd_new w
  obtain ⟨b, hb⟩ : ∃ b, w.heap.size = b := ⟨_, rfl⟩
  obtain ⟨W0, hW0⟩ : ∃ W0, w.alloc (.cells #[.pointer none, .slice none 0 0] 76) = W0 := ⟨_, rfl⟩
  rw [hb, hW0] at hb0
  rw [hW0, hb] at hB0
  rcases h with ⟨rfl, rfl⟩ | ⟨g, o, c, rfl, hg, hcs⟩
  · have ps := bstr_any b b _ _ _ W0 (by rw [← hb]; exact hB0.size) hb0
    go_enter Tryd.func12, Tryd.ntmps12
    go_wp2
    go_loopw [8] (fun i wr => i = .int .i64 0 ∧ wr = W0) (fun _ _ => 0)
    case atStart => exact ⟨rfl, rfl⟩
    case round =>
      obtain ⟨rfl, rfl⟩ := hrel
      go_wp2_with (go_at_call 33; (with_reducible refine ps.mono ?_); rintro e w1 ⟨rfl, hb1⟩)
      go_ret
      rw [hb]
      exact ⟨rfl, hB0.trans hb1⟩
  · obtain ⟨n, hn⟩ : ∃ n, n = rs.length := ⟨_, rfl⟩
    rw [← hn]
    have hnl : n ≤ 1000000000000 := by rw [hn]; exact Nat.le_trans (rtext_len rs) hL
    have HN := Lib.hid hn
    clear hn
    go_enter Tryd.func12, Tryd.ntmps12
    go_wp2
    go_loopg [8] (n + 1) (fun G a wr => ∃ (i : Nat) (p v : Value), a = .int .i64 (i : Int) ∧ i ≤ n ∧ G = n + 1 - i ∧ BdAt wr b b p v (rtext (rs.take i)) ∧ Below b w wr)
    case atStart => exact ⟨0, _, _, rfl, Nat.zero_le _, by omega, hb0, hB0⟩
    case round =>
      obtain ⟨i, p, v, rfl, hi, hG, hbd, hbw⟩ := hrel
      clear hb0 hB0
      by_cases hlt : i < n
      · have t1 : decide ((i : Int) < (n : Int)) = true := by simp; omega
        obtain ⟨r, hrr⟩ : ∃ r, rs[i]? = some r := ⟨_, List.getElem?_eq_getElem (by have := HN.out; omega)⟩
        have hmem := List.mem_of_getElem? hrr
        obtain ⟨hk1, hv1⟩ := hok r hmem
        obtain ⟨c0, c1, c2⟩ := IsR.at (w := wr) (g := g) (o := o) (fun j u hu => (hbw.cell (p := ⟨g, o + j, none⟩) (by show g < b; omega)).trans (hcs j u hu)) hrr
        obtain ⟨Q, W1, hQ, hW1, hR1, hB1⟩ := box_row wr r
        have hB1w : Below b w W1 := hbw.trans (hB1.mono (by rw [← hb]; exact (hb ▸ hbw).size))
        have hPv : ∀ v, Below b w v → Pow v := fun v hv => hP.on (by rw [hb]; exact hv)
        obtain ⟨dk, hdk⟩ := dec_name r.k.length
        obtain ⟨dv, hdv⟩ := dec_name r.v.length
        have hdkz : dk.size ≤ 20 := by rw [hdk]; show (Lib.decDigits _).length ≤ 20; rw [Lib.decDigits_length]; exact Lib.nDigits_le20 _ (by omega)
        have hdvz : dv.size ≤ 20 := by rw [hdv]; show (Lib.decDigits _).length ≤ 20; rw [Lib.decDigits_length]; exact Lib.nDigits_le20 _ (by omega)
        have pdk : ∀ v, Below b w v → Calls Tryd.prog 32 #[.int .i64 ((bA r.k).size : Int)] v fun e w' => e = .returned (.string dk) ∧ Below v.heap.size v w' := fun v hv => dec_to _ r.k.length dk rfl hdk hk1 v (hPv v hv)
        have pdv : ∀ v, Below b w v → Calls Tryd.prog 32 #[.int .i64 ((bA r.v).size : Int)] v fun e w' => e = .returned (.string dv) ∧ Below v.heap.size v w' := fun v hv => dec_to _ r.v.length dv rfl hdv hv1 v (hPv v hv)
        have hlt1 := rtext_take_len rs i
        have hkz : (bA r.k).size ≤ 1073741824 := hk1
        have hvz : (bA r.v).size ≤ 1073741824 := hv1
        have k1 : ¬ 9223372036854775807 < dk.size + 1 := by omega
        have k2 : ¬ 9223372036854775807 < dv.size + 1 := by omega
        have k3 : ¬ 9223372036854775807 < 1 + (bA r.k).size := by omega
        have hbQ : Q ≠ b := fun e => by have := hbd.head.size; omega
        have d0 := hR1.key
        have pw : ∀ (v : World) (p' v' : Value) (l : List UInt8) (S : ByteArray), Below b w v → BdAt v b b p' v' l → l.length + S.size ≤ 100000000000000 → Calls Tryd.prog 31 #[.pointer (some ⟨b, 0, none⟩), .string S] v fun e w' => e = .returned (.tuple #[.int .i64 (S.size : Int), .nilIface]) ∧ ∃ v'', BdAt w' b b (.pointer (some ⟨b, 0, none⟩)) v'' (l ++ S.data.toList) ∧ Below b v w' ∧ Ok8 b v w' := fun v p' v' l S hv hd hl => ws_any b b p' v' l S v (by rw [← hb]; exact (hb ▸ hv).size) hl hd
        have hQ1 : ∀ v, Ok8 b W1 v → Lw v Q (rcells r) := fun v hv => hv.rw hR1 hbQ (by decide)
        obtain ⟨lt, hlt'⟩ : ∃ lt, lt = rtext (rs.take i) := ⟨_, rfl⟩
        rw [← hlt'] at hbd hlt1
        have HT := Lib.hid (show rtext (rs.take (i + 1)) = lt ++ rt r by rw [rtext_take hrr, hlt'])
        have HD := Lib.hid (And.intro hdk hdv)
        have hbd1 := hbd.next hB1
        clear hrr hmem hok hdk hdv hlt'
        have e8 : ∀ (l : List UInt8) (S : ByteArray), (l ++ S.data.toList).length = l.length + S.size := fun l S => by rw [List.length_append, Array.length_toList]; rfl
        have e9 : (dk ++ ⟨#[32]⟩ : ByteArray).size = dk.size + 1 := app_size _ _
        have e10 : (dv ++ ⟨#[32]⟩ : ByteArray).size = dv.size + 1 := app_size _ _
        have e11 : (⟨#[45]⟩ ++ bA r.k : ByteArray).size = 1 + (bA r.k).size := app_size _ _
        have z1 : lt.length + (dk ++ ⟨#[32]⟩ : ByteArray).size ≤ 100000000000000 := by rw [e9]; omega
        have z2 : (lt ++ (dk ++ ⟨#[32]⟩ : ByteArray).data.toList).length + (⟨#[45]⟩ ++ bA r.k : ByteArray).size ≤ 100000000000000 := by rw [e8, e9, e11]; omega
        have z3 : (lt ++ (dk ++ ⟨#[32]⟩ : ByteArray).data.toList).length + (dv ++ ⟨#[32]⟩ : ByteArray).size ≤ 100000000000000 := by rw [e8, e9, e10]; omega
        have z4 : (lt ++ (dk ++ ⟨#[32]⟩ : ByteArray).data.toList ++ (dv ++ ⟨#[32]⟩ : ByteArray).data.toList).length + (bA r.k).size ≤ 100000000000000 := by rw [e8, e8, e9, e10]; omega
        have z5 : (lt ++ (dk ++ ⟨#[32]⟩ : ByteArray).data.toList ++ (dv ++ ⟨#[32]⟩ : ByteArray).data.toList ++ (bA r.k).data.toList).length + (bA r.v).size ≤ 100000000000000 := by rw [e8, e8, e8, e9, e10]; omega
        clear e8 e9 e10 e11
        have hsz1 : ∀ v, Below b w v → b ≤ v.heap.size := fun v hv => by rw [← hb]; exact (hb ▸ hv).size
        cases hgb : r.g with
        | true =>
          rw [hgb] at hW1 c2
          have e1 : rt r = (dk ++ ⟨#[32]⟩ : ByteArray).data.toList ++ (⟨#[45]⟩ ++ bA r.k : ByteArray).data.toList := by
            unfold rt
            rw [if_pos hgb, app_list, app_list, HD.out.1, List.append_assoc]
            rfl
          have HE := Lib.hid e1
          clear e1 hlt1
          go_upto_region 6 with (first
            | (go_at_call 32; (with_reducible refine (pdk _ hB1w).mono ?_); rintro e w2 ⟨rfl, hb2⟩; have hB2w := hB1w.trans (hb2.mono (hsz1 _ hB1w)))
            | (go_at_call 31; (with_reducible refine (pw _ _ _ _ _ hB2w (hbd1.next hb2) z1).mono ?_); rintro e w3 ⟨rfl, v3, hbd3, hb3, ho3⟩))
          have hQ3 := hQ1 _ ((Ok8.of_below b hb2).trans ho3)
          have d2 := hQ3.gon
          rw [hgb] at d2
          have d1 := hQ3.key
          have hB3w := hB2w.trans hb3
          go_wp2_with (go_at_call 31; (with_reducible refine (pw _ _ _ _ _ hB3w hbd3 z2).mono ?_); rintro e w4 ⟨rfl, v4, hbd4, hb4, ho4⟩)
          go_roundg (n + 1 - (i + 1))
          case measure => omega
          case rel => exact ⟨i + 1, _, v4, by go_num, by omega, rfl, by rw [HT.out, HE.out, ← List.append_assoc]; exact hbd4, hB3w.trans hb4⟩
        | false =>
          rw [hgb] at hW1 c2
          have e1 : rt r = (dk ++ ⟨#[32]⟩ : ByteArray).data.toList ++ ((dv ++ ⟨#[32]⟩ : ByteArray).data.toList ++ ((bA r.k).data.toList ++ (bA r.v).data.toList)) := by
            unfold rt
            rw [if_neg (by rw [hgb]; decide), app_list, app_list, HD.out.1, HD.out.2, List.append_assoc, List.append_assoc]
            rfl
          have HE := Lib.hid e1
          have HW := Lib.hid (And.intro hQ hW1)
          clear e1 hlt1 hQ hW1
          go_upto_region 5 with fail
          rw [HW.out.1, HW.out.2]
          go_upto_region 6 with (first
            | (go_at_call 32; (with_reducible refine (pdk _ hB1w).mono ?_); rintro e w2 ⟨rfl, hb2⟩; have hB2w := hB1w.trans (hb2.mono (hsz1 _ hB1w)))
            | (go_at_call 31; (with_reducible refine (pw _ _ _ _ _ hB2w (hbd1.next hb2) z1).mono ?_); rintro e w3 ⟨rfl, v3, hbd3, hb3, ho3⟩))
          have ho13 := (Ok8.of_below b hb2).trans ho3
          have hQ3 := hQ1 _ ho13
          have d2 := hQ3.gon
          rw [hgb] at d2
          have d1 := hQ3.val
          have hB3w := hB2w.trans hb3
          go_upto_region 9 with (first
            | (go_at_call 32; (with_reducible refine (pdv _ hB3w).mono ?_); rintro e w4 ⟨rfl, hb4⟩; have hB4w := hB3w.trans (hb4.mono (hsz1 _ hB3w)))
            | (go_at_call 31; (with_reducible refine (pw _ _ _ _ _ hB4w (hbd3.next hb4) z3).mono ?_); rintro e w5 ⟨rfl, v5, hbd5, hb5, ho5⟩))
          have ho15 := (ho13.trans (Ok8.of_below b hb4)).trans ho5
          have d3 := (hQ1 _ ho15).key
          have hB5w := hB4w.trans hb5
          go_upto_region 10 with (go_at_call 31; (with_reducible refine (pw _ _ _ _ _ hB5w hbd5 z4).mono ?_); rintro e w6 ⟨rfl, v6, hbd6, hb6, ho6⟩)
          have d4 := (hQ1 _ (ho15.trans ho6)).val
          have hB6w := hB5w.trans hb6
          go_wp2_with (go_at_call 31; (with_reducible refine (pw _ _ _ _ _ hB6w hbd6 z5).mono ?_); rintro e w7 ⟨rfl, v7, hbd7, hb7, ho7⟩)
          go_roundg (n + 1 - (i + 1))
          case measure => omega
          case rel => exact ⟨i + 1, _, v7, by go_num, by omega, rfl, by rw [HT.out, HE.out, ← List.append_assoc, ← List.append_assoc, ← List.append_assoc]; exact hbd7, hB6w.trans hb7⟩
      · obtain rfl : i = n := by omega
        have t1 : decide ((i : Int) < (i : Int)) = false := by simp
        have e1 : rs.take i = rs := by rw [HN.out, List.take_length]
        rw [e1] at hbd
        have ps := bstr_any b b _ _ _ wr (by rw [← hb]; exact (hb ▸ hbw).size) hbd
        go_wp2_with (go_at_call 33; (with_reducible refine ps.mono ?_); rintro e w1 ⟨rfl, hb1⟩)
        go_ret
        rw [hb]
        exact ⟨rfl, hbw.trans hb1⟩
end Go.Proofs.YtlofjfeimhjdlaaDoor
