/- THE WALKS of the reference's dec and ReadRows. -/
import Derived.Test.YtlofjfeimhjdlaaGreatDoorRDec7
import Derived.Test.YtlofjfeimhjdlaaGreatDoorRd7
namespace Go.Proofs.YtlofjfeimhjdlaaGreatDoor
open Go.RowKit
set_option maxRecDepth 100000

/-- What the reference's dec says. -/
def decV (sz : Nat) : Option (Nat × List UInt8) → Value
  | none => .tuple #[.int .i64 0, .int .i64 (-1)]
  | some (n, t) => .tuple #[.int .i64 (n : Int), .int .i64 ((sz - t.length : Nat) : Int)]
theorem rdSz_split {a b : List UInt8} (h : ∀ c ∈ a, c ≠ 32) : rdSz (a ++ 32 :: b) = (rdDec a).map (fun n => (n, b)) := by
  unfold rdSz
  rw [idx32_app a b h, if_neg (by omega)]
  have e1 : (a ++ 32 :: b).take ((a.length : Int)).toNat = a := by simp
  have e2 : (a ++ 32 :: b).drop (((a.length : Int)).toNat + 1) = b := by simp [List.drop_append]
  rw [e1, e2]
  cases rdDec a <;> rfl
theorem rdSz_no {a : List UInt8} (h : ∀ c ∈ a, c ≠ 32) : rdSz a = none := by
  have hi : Lib.indexByte a 32 < 0 := by
    by_cases h0 : 0 ≤ Lib.indexByte a 32
    · obtain ⟨o, ho⟩ : ∃ o : Nat, Lib.indexByte a 32 = o := ⟨(Lib.indexByte a 32).toNat, by omega⟩
      exact absurd rfl (h 32 (List.mem_of_getElem? (Lib.indexByte_some ho).1))
    · omega
  unfold rdSz
  rw [if_pos hi]
theorem ext_piece (s : ByteArray) (a k : Nat) : (s.extract a k).data.toList = (s.data.toList.drop a).take (k - a) := by simp
set_option maxHeartbeats 1000000 in
theorem rdec_any (s : ByteArray) (a : Nat) (ha : a ≤ s.size) (hs : s.size ≤ 1099511627776) (w : World) :
    Calls Tryz.prog 54 #[.string s, .int .i64 (a : Int)] w fun e w' => e = .returned (decV s.size (rdSz (s.data.toList.drop a))) ∧ w = w' := by
  have hsl : s.data.toList.length = s.size := Array.length_toList
  obtain ⟨O, hO⟩ : ∃ O, O = rdSz (s.data.toList.drop a) := ⟨_, rfl⟩
  rw [← hO]
  have HO := Lib.hid hO
  clear hO
  go_enter Tryz.func54, Tryz.ntmps54
  go_wp2
  go_loopg [6] (s.size + 1 - a) (fun G i wr => ∃ k : Nat, i = .int .i64 (k : Int) ∧ a ≤ k ∧ k ≤ s.size ∧ G = s.size + 1 - k ∧ Hid (∀ c ∈ (s.data.toList.drop a).take (k - a), c ≠ 32) ∧ wr = w)
  case atStart => exact ⟨a, rfl, Nat.le_refl _, ha, rfl, Lib.hid (by simp), rfl⟩
  case round =>
    obtain ⟨k, rfl, hak, hks, hG, HA, rfl⟩ := hrel
    by_cases hlt : k < s.size
    · have t1 : decide ((k : Int) < (s.size : Int)) = true := by simp; omega
      have hki : (k : Int) < (s.size : Int) := by omega
      have hdrop : (s.data.toList.drop a).drop (k - a) = s[k] :: s.data.toList.drop (k + 1) := by
        rw [List.drop_drop, show a + (k - a) = k by omega, List.drop_eq_getElem_cons (by omega)]; rfl
      by_cases hc : s[k].toNat = 32
      · have t2 : ((s[k].toNat : Int) != 32) = false := by rw [hc]; rfl
        have t3 : decide ((s.size : Int) ≤ (k : Int)) = false := by simp; omega
        have e32 : s[k] = 32 := UInt8.toNat_inj.1 hc
        obtain ⟨o, ho⟩ : ∃ o, o = rdDec (s.extract a k).data.toList := ⟨_, rfl⟩
        have pR := fun v => rreadDec_any (s.extract a k) (by unfold maxLen; rw [ByteArray.size_extract]; omega) v
        rw [← ho] at pR
        rw [e32] at hdrop
        have hOo : O = o.map (fun n => (n, s.data.toList.drop (k + 1))) := by
          rw [HO.out, ← List.take_append_drop (k - a) (s.data.toList.drop a), hdrop, rdSz_split HA.out, ho, ext_piece]
        have HOo := Lib.hid (And.intro hOo hsl)
        have hki0 : (a : Int) ≤ (k : Int) := by omega
        clear hdrop ho hOo e32 hsl
        cases o with
        | none =>
          simp only [rrdDV] at pR
          go_wp2_with (go_at_call 72; (with_reducible refine (pR _).mono ?_); rintro e w1 ⟨rfl, hw⟩; subst hw)
          go_ret2
          exact ⟨by rw [HOo.out.1]; rfl, rfl⟩
        | some n =>
          simp only [rrdDV] at pR
          have t4 : decide ((n : Int) < 0) = false := by simp
          go_wp2_with (go_at_call 72; (with_reducible refine (pR _).mono ?_); rintro e w1 ⟨rfl, hw⟩; subst hw)
          go_ret2
          refine ⟨?_, rfl⟩
          rw [HOo.out.1]
          unfold decV
          have e : s.size - (s.data.toList.drop (k + 1)).length = k + 1 := by rw [List.length_drop, HOo.out.2]; omega
          simp only [Option.map_some, e]
          rfl
      · have t2 : ((s[k].toNat : Int) != 32) = true := by rw [bne_iff_ne]; omega
        have HA2 : Hid (∀ c ∈ (s.data.toList.drop a).take (k + 1 - a), c ≠ 32) := Lib.hid fun c hcm => by
          rw [show k + 1 - a = (k - a) + 1 by omega, List.take_add_one, ← List.head?_drop, hdrop] at hcm
          rcases List.mem_append.1 hcm with h | h
          · exact HA.out c h
          · simp at h
            rw [h]
            intro e
            exact hc (by rw [e]; rfl)
        clear hdrop
        go_wp2
        go_roundg (s.size + 1 - (k + 1))
        case measure => omega
        case rel => exact ⟨k + 1, by go_num, by omega, by omega, rfl, HA2, rfl⟩
    · have t1 : decide ((k : Int) < (s.size : Int)) = false := by simp; omega
      obtain rfl : k = s.size := by omega
      obtain rfl : O = none := by
        rw [HO.out]
        refine rdSz_no fun c hcm => HA.out c ?_
        rw [List.take_of_length_le (by rw [List.length_drop]; omega)]
        exact hcm
      have t2 : decide ((s.size : Int) ≤ (s.size : Int)) = true := by simp
      go_wp2
      go_ret2
      exact ⟨rfl, rfl⟩
theorem rdSz_suf {l t : List UInt8} {n : Nat} (h : rdSz l = some (n, t)) : t <:+ l := by
  unfold rdSz at h
  split at h
  · cases h
  · split at h
    · cases h
    · cases h; exact List.drop_suffix _ _
theorem suf_drop {l t : List UInt8} {k : Nat} (h : t <:+ l.drop k) : t = l.drop (l.length - t.length) := List.suffix_iff_eq_drop.1 (h.trans (List.drop_suffix _ _))
theorem ext_len (s : ByteArray) (a n : Nat) : s.extract a (a + n) = bA ((s.data.toList.drop a).take n) := by
  unfold bA
  cases h : s.extract a (a + n) with
  | mk d =>
    have : d.toList = (s.data.toList.drop a).take n := by
      have := ext_piece s a (a + n)
      rw [h, show a + n - a = n by omega] at this
      exact this
    rw [← this]
theorem decV_lt {sz : Nat} {l t : List UInt8} {n : Nat} (h : rdSz l = some (n, t)) (hl : l.length ≤ sz) : sz - t.length ≤ sz ∧ t.length < sz := by have := (rdSz_len h).1; omega
set_option maxHeartbeats 4000000 in
theorem rrows_any (s : ByteArray) (hs : s.size ≤ 1099511627776) (w : World) :
    Calls Tryz.prog 34 #[.string s] w (readPost w (rread s.data.toList)) := by
  have hsl : s.data.toList.length = s.size := Array.length_toList
  obtain ⟨o, ho⟩ : ∃ o, o = rread s.data.toList := ⟨_, rfl⟩
  rw [← ho]
  have HO := Lib.hid (And.intro ho hsl)
  clear ho hsl
  go_enter Tryz.func34, Tryz.ntmps34
  go_wp2
  go_loopg [4, 5] (s.size + 1) (fun G b a wr => ∃ (k : Nat) (D : List Rr), a = .int .i64 (k : Int) ∧ k ≤ s.size ∧ D.length ≤ k ∧ G = s.size + 1 - k ∧ OwnR wr w.heap.size b D ∧ Hid (o = (rread (s.data.toList.drop k)).map (D ++ ·)) ∧ Below w.heap.size w wr)
  case atStart =>
    refine ⟨0, [], rfl, Nat.zero_le _, Nat.le_refl _, rfl, World.ownsRow_nil _ _ _ _, Lib.hid ?_, Below.refl _ _⟩
    rw [HO.out.1, List.drop_zero]
    cases rread s.data.toList <;> rfl
  case round =>
    obtain ⟨k, D, rfl, hks, hDk, hG, hD, HS, hb⟩ := hrel
    by_cases hlt : k < s.size
    · have t1 : decide ((k : Int) < (s.size : Int)) = true := by simp; omega
      have hne : s.data.toList.drop k ≠ [] := fun e => by have := congrArg List.length e; rw [List.length_drop, HO.out.2] at this; simp at this; omega
      have hno : rd1 (s.data.toList.drop k) = none → ∀ v, Below w.heap.size w v → readPost w o (.returned (.tuple #[.slice none 0 0, .bool false])) v := fun h v hv => by
        rw [HS.out, rread_none hne h]; exact ⟨rfl, hv⟩
      have hyes : ∀ r t j, rd1 (s.data.toList.drop k) = some (r, t) → t = s.data.toList.drop j → o = (rread (s.data.toList.drop j)).map ((D ++ [r]) ++ ·) := fun r t j h e => by
        rw [HS.out, rread_cons h, e]
        cases rread (s.data.toList.drop j) with
        | none => rfl
        | some rs => simp
      have pd := fun v => rdec_any s k hks hs v
      have hD1 : D.length ≤ 1099511627776 := by omega
      cases h1 : rdSz (s.data.toList.drop k) with
      | none =>
        rw [h1] at pd
        have HR := Lib.hid (hno (rd1_a h1))
        simp only [decV] at pd
        clear hno hyes h1 hne
        go_wp2_with (go_at_call 54; (with_reducible refine (pd _).mono ?_); rintro e w1 ⟨rfl, hw⟩; subst hw)
        go_ret2
        exact HR.out _ hb
      | some p =>
        obtain ⟨n, t⟩ := p
        rw [h1] at pd
        obtain ⟨j, hj⟩ : ∃ j, j = s.size - t.length := ⟨_, rfl⟩
        simp only [decV, ← hj] at pd
        have hsuf := rdSz_suf h1
        have htd := suf_drop hsuf
        rw [HO.out.2, ← hj] at htd
        have htl : t.length ≤ s.size := by have := hsuf.length_le; rw [List.length_drop, HO.out.2] at this; omega
        have hlt2 := (rdSz_len h1).1
        rw [List.length_drop, HO.out.2] at hlt2
        have hkj : k < j := by omega
        have hjs : j ≤ s.size := by omega
        have hn30 := (rdSz_len h1).2
        have t0 : decide ((j : Int) < 0) = false := by simp
        by_cases hA : s.size ≤ j ∨ n < 1 ∨ 60 < n
        · have hbad : rd1 (s.data.toList.drop k) = none := by
            by_cases hn : 1 ≤ n ∧ n ≤ 60
            · have ht0 : t = [] := List.eq_nil_of_length_eq_zero (by omega)
              exact rd1_d h1 hn (by rw [ht0]; simp) (by rw [ht0]; exact rdSz_no (fun c hc => by cases hc))
            · exact rd1_b h1 hn
          have HR := Lib.hid (hno hbad)
          clear hno hyes h1 hne hsuf htd hbad hj htl hlt2
          by_cases a1 : s.size ≤ j
          · have t2 : decide ((s.size : Int) ≤ (j : Int)) = true := by simp; omega
            go_wp2_with (go_at_call 54; (with_reducible refine (pd _).mono ?_); rintro e w1 ⟨rfl, hw⟩; subst hw)
            go_ret2
            exact HR.out _ hb
          · have t2 : decide ((s.size : Int) ≤ (j : Int)) = false := by simp; omega
            by_cases a2 : n < 1
            · have t3 : decide ((n : Int) < 1) = true := by simp; omega
              go_wp2_with (go_at_call 54; (with_reducible refine (pd _).mono ?_); rintro e w1 ⟨rfl, hw⟩; subst hw)
              go_ret2
              exact HR.out _ hb
            · have t3 : decide ((n : Int) < 1) = false := by simp; omega
              have t4 : decide (60 < (n : Int)) = true := by simp; omega
              go_wp2_with (go_at_call 54; (with_reducible refine (pd _).mono ?_); rintro e w1 ⟨rfl, hw⟩; subst hw)
              go_ret2
              exact HR.out _ hb
        · have hn : 1 ≤ n ∧ n ≤ 60 := by omega
          have hjl : j < s.size := by omega
          have hji : (j : Int) < (s.size : Int) := by omega
          have t2 : decide ((s.size : Int) ≤ (j : Int)) = false := by simp; omega
          have t3 : decide ((n : Int) < 1) = false := by simp; omega
          have t4 : decide (60 < (n : Int)) = false := by simp; omega
          have ht0 : t[0]? = some s[j] := by rw [htd, List.getElem?_drop, Nat.add_zero, List.getElem?_eq_getElem (by rw [HO.out.2]; exact hjl)]; rfl
          by_cases h45 : s[j].toNat = 45
          · have t5 : ((s[j].toNat : Int) == 45) = true := by rw [h45]; rfl
            have h45' : t[0]? = some 45 := by rw [ht0, show s[j] = 45 from UInt8.toNat_inj.1 h45]
            have hrd := rd1_c h1 hn h45'
            have hdl : (t.drop 1).length = s.size - j - 1 := by rw [List.length_drop]; omega
            by_cases hsh : (t.drop 1).length < n
            · rw [if_pos hsh] at hrd
              have t6 : decide ((s.size : Int) - (j : Int) - 1 < (n : Int)) = true := by simp; omega
              have HR := Lib.hid (hno hrd)
              clear hno hyes h1 hne hsuf htd hj htl hlt2 hrd h45 h45' ht0 hA
              go_wp2_with (go_at_call 54; (with_reducible refine (pd _).mono ?_); rintro e w1 ⟨rfl, hw⟩; subst hw)
              go_ret2
              exact HR.out _ hb
            · rw [if_neg hsh] at hrd
              have t6 : decide ((s.size : Int) - (j : Int) - 1 < (n : Int)) = false := by simp; omega
              have hnext := hyes _ _ (j + 1 + n) hrd (by rw [htd, List.drop_drop, List.drop_drop]; congr 1; omega)
              have hlen : j + 1 + n ≤ s.size := by omega
              have ek : s.extract (j + 1) (j + 1 + n) = bA ((t.drop 1).take n) := by rw [ext_len, htd, List.drop_drop]
              obtain ⟨y, w', hrun, ⟨gy, my, cy, rfl⟩, hO, hbut, _⟩ := app_row ⟨(t.drop 1).take n, [], true⟩ wr hD hb.size hD1
              simp only [← ek] at hrun
              have hrun2 : ∀ ty, (Builtin.append_ #[37, 37] ty #[u4, .slice (some ⟨wr.heap.size, 0, none⟩) 1 1]).run Tryz.prog (wr.alloc (.cells #[.string (s.extract (j + 1) (j + 1 + n)), .string ⟨#[]⟩, .bool true] 52)) = .ok (.slice (some ⟨gy, 0, none⟩) my cy) w' := hrun
              have hb2 : Below w.heap.size w w' := hb.trans (hbut.below hb.size (fun k hk => (hD.lt k hk).1))
              have HX := Lib.hid hnext
              clear hrun hno hyes h1 hne hsuf htd hj htl hlt2 hrd h45 h45' ht0 hA ek hnext
              go_wp2_with (first
                | (go_at_call 54; (with_reducible refine (pd _).mono ?_); rintro e w1 ⟨rfl, hw⟩; subst hw)
                | (at_builtin; refine wpList_appE rfl _ _ 37 37 rfl _ _ rfl rfl (hrun2 _) ?_))
              go_roundg (s.size + 1 - (j + 1 + n))
              case measure => omega
              case rel => exact ⟨j + 1 + n, _, by go_num, hlen, by rw [List.length_append, List.length_singleton]; omega, rfl, hO, Lib.hid HX.out, hb2⟩
          · have t5 : ((s[j].toNat : Int) == 45) = false := by rw [beq_eq_false_iff_ne]; omega
            have h45' : ¬ t[0]? = some 45 := by rw [ht0]; intro e; exact h45 (by rw [Option.some.inj e]; rfl)
            have pd2 := fun v => rdec_any s j hjs hs v
            rw [← htd] at pd2
            cases h2 : rdSz t with
            | none =>
              rw [h2] at pd2
              simp only [decV] at pd2
              have HR := Lib.hid (hno (rd1_d h1 hn h45' h2))
              clear hno hyes h1 h2 hne hsuf htd hj htl hlt2 h45 h45' ht0 hA
              go_wp2_with (go_at_call 54; (with_reducible first | refine (pd _).mono ?_ | refine (pd2 _).mono ?_); rintro e w1 ⟨rfl, hw⟩; subst hw)
              go_ret2
              exact HR.out _ hb
            | some p =>
              obtain ⟨m, u⟩ := p
              rw [h2] at pd2
              obtain ⟨q, hq⟩ : ∃ q, q = s.size - u.length := ⟨_, rfl⟩
              simp only [decV, ← hq] at pd2
              have hud := suf_drop (show u <:+ s.data.toList.drop j by rw [← htd]; exact rdSz_suf h2)
              rw [HO.out.2, ← hq] at hud
              have hul := (rdSz_len h2).1
              have hm30 := (rdSz_len h2).2
              have hqj : j < q := by omega
              have hqs : q ≤ s.size := by omega
              have hue : u.length = s.size - q := by omega
              have hrd := rd1_e h1 hn h45' h2
              have u0 : decide ((q : Int) < 0) = false := by simp
              by_cases hsh : u.length < n + m
              · rw [if_pos hsh] at hrd
                have HR := Lib.hid (hno hrd)
                by_cases v1 : s.size - q < n
                · have t6 : decide ((s.size : Int) - (q : Int) < (n : Int)) = true := by simp; omega
                  clear hno hyes h1 h2 hne hsuf htd hj htl hlt2 h45 h45' ht0 hA hrd hud hq hul hue
                  go_wp2_with (go_at_call 54; (with_reducible first | refine (pd _).mono ?_ | refine (pd2 _).mono ?_); rintro e w1 ⟨rfl, hw⟩; subst hw)
                  go_ret2
                  exact HR.out _ hb
                · have t6 : decide ((s.size : Int) - (q : Int) < (n : Int)) = false := by simp; omega
                  have t7 : decide ((s.size : Int) - (q : Int) - (n : Int) < (m : Int)) = true := by simp; omega
                  clear hno hyes h1 h2 hne hsuf htd hj htl hlt2 h45 h45' ht0 hA hrd hud hq hul hue
                  go_wp2_with (go_at_call 54; (with_reducible first | refine (pd _).mono ?_ | refine (pd2 _).mono ?_); rintro e w1 ⟨rfl, hw⟩; subst hw)
                  go_ret2
                  exact HR.out _ hb
              · rw [if_neg hsh] at hrd
                have t6 : decide ((s.size : Int) - (q : Int) < (n : Int)) = false := by simp; omega
                have t7 : decide ((s.size : Int) - (q : Int) - (n : Int) < (m : Int)) = false := by simp; omega
                have hlen : q + n + m ≤ s.size := by omega
                have hnext := hyes _ _ (q + n + m) hrd (by rw [hud, List.drop_drop]; congr 1; omega)
                have ek : s.extract q (q + n) = bA (u.take n) := by rw [ext_len, hud]
                have ev : s.extract (q + n) (q + n + m) = bA ((u.drop n).take m) := by rw [ext_len, hud, List.drop_drop]
                obtain ⟨y, w', hrun, ⟨gy, my, cy, rfl⟩, hO, hbut, _⟩ := app_row ⟨u.take n, (u.drop n).take m, false⟩ wr.drew hD.drew hb.drew.size hD1
                simp only [← ek, ← ev] at hrun
                have hrun2 : ∀ ty, (Builtin.append_ #[37, 37] ty #[u4, .slice (some ⟨wr.heap.size, 0, none⟩) 1 1]).run Tryz.prog ((wr.alloc (.cells #[.string (s.extract q (q + n)), .string (s.extract (q + n) (q + n + m)), .bool false] 52)).drew) = .ok (.slice (some ⟨gy, 0, none⟩) my cy) w' := hrun
                have hb2 : Below w.heap.size w w' := hb.drew.trans (hbut.below hb.drew.size (fun k hk => (hD.drew.lt k hk).1))
                have HX := Lib.hid hnext
                have hmx : Tryz.prog.follows .mixedOrders = true := by kernel_rfl
                have z1 : IntKind.i64.wrap ((q : Int) + (n : Int)) = (q : Int) + (n : Int) := IntWalk.i64_in _ (by omega)
                have z2 : IntKind.i64.wrap ((q : Int) + (n : Int) + (m : Int)) = (q : Int) + (n : Int) + (m : Int) := IntWalk.i64_in _ (by omega)
                have z3 : (q : Int) + (n : Int) ≤ (s.size : Int) := by omega
                have z4 : (q : Int) + (n : Int) + (m : Int) ≤ (s.size : Int) := by omega
                have z5 : (0 : Int) ≤ (q : Int) + (n : Int) := by omega
                have z6 : ((q : Int) + (n : Int)).toNat = q + n := by omega
                have z7 : (q : Int) ≤ (q : Int) + (n : Int) := by omega
                have z8 : (0 : Int) ≤ (q : Int) + (n : Int) + (m : Int) := by omega
                have z9 : ((q : Int) + (n : Int) + (m : Int)).toNat = q + n + m := by omega
                have z10 : (q : Int) + (n : Int) ≤ (q : Int) + (n : Int) + (m : Int) := by omega
                clear hrun hno hyes h1 h2 hne hsuf htd hj htl hlt2 h45 h45' ht0 hA hrd hud hq hul hue ek ev hnext
                go_wp2_with (go_at_call 54; (with_reducible first | refine (pd _).mono ?_ | refine (pd2 _).mono ?_); rintro e w1 ⟨rfl, hw⟩; subst hw)
                go_region_law (refine step_appE rfl (.tmp 89) (.tmp 107) 37 37 rfl u4 _ (by go_simp) (by go_simp) (hrun2 _) ?_)
                all_goals
                  clear z1 z2
                  go_wp2
                  go_roundg (s.size + 1 - (q + n + m))
                  case measure => omega
                  case rel => exact ⟨q + n + m, _, by go_num, hlen, by rw [List.length_append, List.length_singleton]; omega, rfl, hO, Lib.hid HX.out, hb2⟩
    · have t1 : decide ((k : Int) < (s.size : Int)) = false := by simp; omega
      obtain rfl : k = s.size := by omega
      have ho : o = some D := by
        rw [HS.out, List.drop_of_length_le (by have := HO.out.2; omega)]; show (some []).map (D ++ ·) = _; simp
      have HR : Hid (∀ b, OwnR wr w.heap.size b D → readPost w o (.returned (.tuple #[b, .bool true])) wr) := Lib.hid fun b h => by rw [ho]; exact ⟨⟨b, rfl, h⟩, hb⟩
      clear ho HS HO
      rcases hD.shape with ⟨rfl, -⟩ | ⟨g, cap, rfl⟩
      all_goals
        go_wp2
        go_ret2
        exact HR.out _ hD
end Go.Proofs.YtlofjfeimhjdlaaGreatDoor
