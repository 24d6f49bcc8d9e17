/- THE WALKS of the reference's digit, Read.
   THE WALK of the reference's Apply. -/
import Derived.Test.YtoddhdionhemjaaGreatDoorDa8
namespace Go.Proofs.YtoddhdionhemjaaGreatDoor.De
open Go.RowKit
set_option maxRecDepth 100000

/-- No digit ahead of place k is c. -/
def noneBefore (c : UInt8) (k : Nat) : Prop := ∀ j, j < k → dgt j ≠ c
theorem dval_of {c : UInt8} {k : Nat} (hk : k < 64) (h : dgt k = c) : dval c = (k : Int) := by
  rw [← h, dval_dgt, Nat.mod_eq_of_lt hk]
theorem dval_no {c : UInt8} (h : noneBefore c 64) : dval c = -1 := by
  obtain ⟨h0, h1⟩ := dval_bd c
  rcases Int.lt_or_le (dval c) 0 with hn | hn
  · omega
  · exact absurd (dgt_dval c hn) (h _ (by omega))
theorem dgs_size {k : Nat} (h : k < 64) : k < (⟨digs.toArray⟩ : ByteArray).size := h
theorem dval_hit {c : UInt8} {k : Nat} (hk : k < 64) (h2 : k < (⟨digs.toArray⟩ : ByteArray).size) (h : ((((⟨digs.toArray⟩ : ByteArray)[k]'h2).toNat : Int) == (c.toNat : Int)) = true) : dval c = (k : Int) := by
  rw [dgs_int k hk] at h
  refine dval_of hk ?_
  rw [← UInt8.toNat_inj]
  have := eq_of_beq h
  omega
theorem dval_miss {c : UInt8} {k : Nat} (hk : k < 64) (h2 : k < (⟨digs.toArray⟩ : ByteArray).size) (h : ((((⟨digs.toArray⟩ : ByteArray)[k]'h2).toNat : Int) == (c.toNat : Int)) = false) (hn : noneBefore c k) : noneBefore c (k + 1) := by
  rw [dgs_int k hk] at h
  intro j hj e
  rcases Nat.lt_or_ge j k with h3 | h3
  · exact hn j h3 e
  · obtain rfl : j = k := by omega
    rw [e] at h
    simp at h
theorem rdigit_any (c : UInt8) (w : World) :
    Calls Tryz.prog 117 #[.int .u8 (c.toNat : Int)] w fun e w' => e = .returned (.int .i64 (dval c)) ∧ w = w' := by
  go_enter Tryz.func117, Tryz.ntmps117
  go_wp2
  go_loop [4] (fun a => ∃ k : Nat, a = .int .i64 (k : Int) ∧ k ≤ 64 ∧ Hid (noneBefore c k)) (fun a => 64 - (intOf a).toNat)
  case atStart => exact ⟨0, rfl, by omega, Lib.hid (fun j hj => by omega)⟩
  case round =>
    obtain ⟨k, rfl, hk, HN⟩ := hrel
    by_cases hlt : k < 64
    · go_wp2
      · rename_i _ hx _
        go_ret
        exact ⟨ret_int (dval_hit hlt (dgs_size hlt) hx).symm, rfl⟩
      · rename_i _ hx
        exact ⟨⟨k + 1, by go_num, by omega, Lib.hid (dval_miss hlt (dgs_size hlt) hx HN.out)⟩, by simp [intOf]; omega⟩
    · go_wp2
      go_ret
      obtain rfl : k = 64 := by omega
      exact ⟨ret_int (dval_no HN.out).symm, rfl⟩
theorem rdigit_to (c : UInt8) (v : Int) (h : v = dval c) (w : World) :
    Calls Tryz.prog 117 #[.int .u8 (c.toNat : Int)] w fun e w' => e = .returned (.int .i64 v) ∧ w = w' := by
  rw [h]; exact rdigit_any c w

def rrdV : Option (Nat × Nat) → Value
  | none => .tuple #[.int .i64 0, .int .i64 (-1)]
  | some (n, x) => .tuple #[.int .i64 n, .int .i64 x]
theorem fin_zero {s : ByteArray} {i n k : Nat} (h : some (n, k - i) = rdL (s.data.toList.drop i) 0 0) (hk : k = i) : rd s.data.toList i = none := rd_zero h hk
theorem at_i {s : ByteArray} {i : Nat} (hi : i < s.size) : s.data.toList[i]? = some s[i] := by
  rw [List.getElem?_eq_getElem (by simpa using hi)]; rfl
theorem fin_pad {s : ByteArray} {i n k : Nat} (h : some (n, k - i) = rdL (s.data.toList.drop i) 0 0) (hi : i < s.size) (h1 : i + 1 < k) (h2 : s[i].toNat = 48) : rd s.data.toList i = none := by
  rw [rd_end h.symm, if_pos]
  exact Or.inr ⟨by omega, by rw [at_i hi, show s[i] = 48 from UInt8.toNat_inj.1 h2]⟩
theorem fin_got {s : ByteArray} {i n k : Nat} (h : some (n, k - i) = rdL (s.data.toList.drop i) 0 0) (hi : i < s.size) (h1 : i < k) (h2 : i + 1 < k → s[i].toNat ≠ 48) : rd s.data.toList i = some (n, k) := by
  rw [rd_end h.symm, if_neg, show i + (k - i) = k by omega]
  rintro (h0 | ⟨h3, h4⟩)
  · omega
  · rw [at_i hi] at h4
    refine h2 (by omega) ?_
    rw [Option.some.inj h4]; rfl
theorem rread_in (s : ByteArray) (i : Nat) (hi : i < s.size) (hs : s.size ≤ maxLen) (w : World) :
    Calls Tryz.prog 104 #[.string s, .int .i64 i] w fun e w' => e = .returned (rrdV (rd s.data.toList i)) ∧ w = w' := by
  unfold maxLen at hs
  go_enter Tryz.func104, Tryz.ntmps104
  go_wp2
  go_loop [6, 7] (fun a b => ∃ n k : Nat, a = .int .i64 n ∧ b = .int .i64 k ∧ i ≤ k ∧ k ≤ s.size ∧ n ≤ 1073741824 ∧ Hid (rdL (s.data.toList.drop k) n (k - i) = rdL (s.data.toList.drop i) 0 0)) (fun _ b => s.size - (intOf b).toNat)
  case atStart => exact ⟨0, i, rfl, rfl, by omega, by omega, by omega, Lib.hid (by simp)⟩
  case round =>
    obtain ⟨n, k, rfl, rfl, hik, hks, hn, HR⟩ := hrel
    by_cases hlt : k < s.size
    · obtain ⟨hd0, hd1⟩ := dval_bd s[k]
      have hdrop : s.data.toList.drop k = s[k] :: s.data.toList.drop (k + 1) := by
        rw [List.drop_eq_getElem_cons (by simpa using hlt)]; rfl
      by_cases hneg : dval s[k] < 0
      · have hR := HR.out
        rw [hdrop, rdL_none _ _ _ _ hneg] at hR
        obtain ⟨v, hv⟩ : ∃ v : Int, v = dval s[k] := ⟨_, rfl⟩
        have hv0 : v < 0 := by omega
        have HV := Lib.hid hv
        have HR2 := Lib.hid hR
        clear hv hR hneg hd0 hd1 hdrop HR
        by_cases hki : k = i
        · have t1 : ((k : Int) == (i : Int)) = true := by simp; omega
          have HF := Lib.hid (fin_zero HR2.out hki)
          clear hki
          clear HR2
          go_wp2_with (go_at_call 117; refine (rdigit_to _ v HV.out _).mono ?_; rintro e w' ⟨rfl, rfl⟩)
          go_ret2
          exact ⟨by rw [HF.out]; rfl, rfl⟩
        · have t1 : ((k : Int) == (i : Int)) = false := by simp; omega
          have hik2 : i < k := by omega
          clear hki
          by_cases h1 : i + 1 < k
          · by_cases h48 : s[i].toNat = 48
            · have t3 : ((s[i].toNat : Int) == 48) = true := by simp; omega
              have HF := Lib.hid (fin_pad HR2.out hi h1 h48)
              clear h48
              clear HR2
              go_wp2_with (go_at_call 117; refine (rdigit_to _ v HV.out _).mono ?_; rintro e w' ⟨rfl, rfl⟩)
              go_ret2
              exact ⟨by rw [HF.out]; rfl, rfl⟩
            · have t3 : ((s[i].toNat : Int) == 48) = false := by simp; omega
              have HF := Lib.hid (fin_got HR2.out hi hik2 (fun _ => h48))
              clear h48
              clear HR2
              go_wp2_with (go_at_call 117; refine (rdigit_to _ v HV.out _).mono ?_; rintro e w' ⟨rfl, rfl⟩)
              go_ret2
              exact ⟨by rw [HF.out]; rfl, rfl⟩
          · have HF := Lib.hid (fin_got HR2.out hi hik2 (fun h => absurd h h1))
            clear HR2
            go_wp2_with (go_at_call 117; refine (rdigit_to _ v HV.out _).mono ?_; rintro e w' ⟨rfl, rfl⟩)
            go_ret2
            exact ⟨by rw [HF.out]; rfl, rfl⟩
      · obtain ⟨v, hv⟩ : ∃ v : Nat, (v : Int) = dval s[k] := ⟨(dval s[k]).toNat, by omega⟩
        have hv1 : v < 64 := by omega
        have hvn : (dval s[k]).toNat = v := by omega
        have HV := Lib.hid hv
        have hR := HR.out
        rw [hdrop] at hR
        by_cases hbig : 1073741824 < n * 64 + v
        · rw [rdL_big _ _ _ _ (by omega) (by rw [hvn]; omega)] at hR
          have HF := Lib.hid (rd_big hR.symm)
          clear hv hR hneg hd0 hd1 hdrop HR hvn
          go_wp2_with (go_at_call 117; refine (rdigit_to _ v HV.out _).mono ?_; rintro e w' ⟨rfl, rfl⟩)
          go_ret2
          exact ⟨by rw [HF.out]; rfl, rfl⟩
        · rw [rdL_step _ _ _ _ (by omega) (by rw [hvn]; omega), hvn, show k - i + 1 = k + 1 - i by omega] at hR
          have HR2 := Lib.hid hR
          clear hv hR hneg hd0 hd1 hdrop HR hvn
          go_wp2_with (go_at_call 117; refine (rdigit_to _ v HV.out _).mono ?_; rintro e w' ⟨rfl, rfl⟩)
          go_round
          case rel => exact ⟨n * 64 + v, k + 1, by go_num, by go_num, by omega, by omega, by omega, HR2⟩
          case measure => simp [intOf]; omega
    · have hR := HR.out
      rw [List.drop_eq_nil_of_le (by simp; omega), rdL] at hR
      have HR2 := Lib.hid hR
      clear hR HR
      by_cases hki : k = i
      · have t1 : ((k : Int) == (i : Int)) = true := by simp; omega
        have HF := Lib.hid (fin_zero HR2.out hki)
        clear hki
        clear HR2
        go_wp2
        go_ret2
        exact ⟨by rw [HF.out]; rfl, rfl⟩
      · have t1 : ((k : Int) == (i : Int)) = false := by simp; omega
        have hik2 : i < k := by omega
        clear hki
        by_cases h1 : i + 1 < k
        · by_cases h48 : s[i].toNat = 48
          · have t3 : ((s[i].toNat : Int) == 48) = true := by simp; omega
            have HF := Lib.hid (fin_pad HR2.out hi h1 h48)
            clear h48
            clear HR2
            go_wp2
            go_ret2
            exact ⟨by rw [HF.out]; rfl, rfl⟩
          · have t3 : ((s[i].toNat : Int) == 48) = false := by simp; omega
            have HF := Lib.hid (fin_got HR2.out hi hik2 (fun _ => h48))
            clear h48
            clear HR2
            go_wp2
            go_ret2
            exact ⟨by rw [HF.out]; rfl, rfl⟩
        · have HF := Lib.hid (fin_got HR2.out hi hik2 (fun h => absurd h h1))
          clear HR2
          go_wp2
          go_ret2
          exact ⟨by rw [HF.out]; rfl, rfl⟩
end Go.Proofs.YtoddhdionhemjaaGreatDoor.De
namespace Go.Proofs.YtoddhdionhemjaaGreatDoor.De
open Go.RowKit
set_option maxRecDepth 100000

theorem rread_out (s : ByteArray) (i : Nat) (hi : s.size ≤ i) (w : World) :
    Calls Tryz.prog 104 #[.string s, .int .i64 i] w fun e w' => e = .returned (rrdV none) ∧ w = w' := by
  go_enter Tryz.func104, Tryz.ntmps104
  go_wp2
  go_loop [6, 7] (fun a b => a = .int .i64 0 ∧ b = .int .i64 i) (fun _ _ => 0)
  case atStart => exact ⟨rfl, rfl⟩
  case round =>
    obtain ⟨rfl, rfl⟩ := hrel
    have t0 : ((i : Int) == (i : Int)) = true := by simp
    go_wp2
    go_ret2
    exact ⟨rfl, rfl⟩
theorem rd_past {l : List UInt8} {i : Nat} (h : l.length ≤ i) : rd l i = none := by
  cases e : rd l i with
  | none => rfl
  | some x => have := rd_bd e; omega
theorem rread_none (s : ByteArray) (m : Int) (i : Nat) (hm : m = i) (hs : s.size < maxLen) (hi : i ≤ s.size) (h : rd s.data.toList i = none) (w : World) :
    Calls Tryz.prog 104 #[.string s, .int .i64 m] w fun e w' => e = .returned (.tuple #[.int .i64 0, .int .i64 (-1)]) ∧ w = w' := by
  rw [hm]
  by_cases hlt : i < s.size
  · have := rread_in s i hlt (by omega) w
    rw [h] at this
    exact this
  · exact rread_out s i (by omega) w
theorem rread_some (s : ByteArray) (m : Int) (i n k : Nat) (hm : m = i) (hs : s.size < maxLen) (h : rd s.data.toList i = some (n, k)) (w : World) :
    Calls Tryz.prog 104 #[.string s, .int .i64 m] w fun e w' => e = .returned (.tuple #[.int .i64 n, .int .i64 k]) ∧ w = w' := by
  rw [hm]
  have hb := rd_bd h
  have := rread_in s i (by simp at hb; omega) (by omega) w
  rw [h] at this
  exact this
theorem rcheck_to (s : ByteArray) (c : Nat) (hs : s.size ≤ 1099511627776) (hc : c = chk s.data.toList) (w : World) :
    Calls Tryz.prog 105 #[.string s] w fun e w' => e = .returned (.int .i64 (c : Int)) ∧ w = w' := by
  rw [hc]; exact rcheck_any s hs w

set_option maxRecDepth 100000 in
set_option maxHeartbeats 1000000 in
theorem rapply_go (src d : ByteArray) (size k0 : Nat) (hs : src.size ≤ 1099511627776) (hd' : d.size ≤ 1099511627776) (hsz : size ≤ 300) (hk0 : hd d.data.toList = some (size, k0)) (R : Option (List UInt8))
    (hR : ap src.data.toList size (d.size + 1) (d.data.toList.drop k0) [] = R) (w : World) :
    Calls Tryz.prog 78 #[.string src, .string d] w fun e w' => e = .returned (apV R) ∧ w = w' := by
  have hd2 : d.size < maxLen := by unfold maxLen; omega
  unfold hd at hk0
  cases hr0 : rd d.data.toList 0 with
  | none => rw [hr0] at hk0; cases hk0
  | some x =>
  obtain ⟨n0, j0⟩ := x
  rw [hr0] at hk0
  simp only [] at hk0
  split at hk0
  · rename_i h10
    simp at hk0
    obtain ⟨rfl, rfl⟩ := hk0
    have hj0 : j0 < d.size := by simpa using (List.getElem?_eq_some_iff.1 h10).1
    rw [at_q d j0 hj0] at h10
    have t0 : ((d[j0].toNat : Int) != 10) = false := eq_u8 (b := 10) (Option.some.inj h10)
    have p0 := rread_some d 0 0 n0 j0 rfl hd2 hr0
    have HR := Lib.hid hR
    have d1 : decide ((j0 : Int) < 0) = false := by simp
    have d2 : decide (d.size ≤ j0) = false := by simpa using hj0
    have d3 : decide (300 < (n0 : Int)) = false := by simp; omega
    clear hR hr0 h10
    go_enter Tryz.func78, Tryz.ntmps78
    go_wp2_with (go_at_call 104; (with_reducible refine (p0 _).mono ?_); rintro e w1 ⟨rfl, rfl⟩)
    go_loop [7, 8] (fun a b => ∃ (k : Nat) (o : ByteArray), a = .int .i64 (k : Int) ∧ b = .string o ∧ k ≤ d.size ∧ o.size ≤ n0 ∧ Hid (∃ f, d.size - k < f ∧ ap src.data.toList n0 f (d.data.toList.drop k) o.data.toList = R)) (fun a _ => d.size - (intOf a).toNat)
    case atStart => exact ⟨j0 + 1, ⟨#[]⟩, by go_num, rfl, by omega, by show 0 ≤ _; omega, Lib.hid ⟨_, by omega, HR.out⟩⟩
    case round =>
      obtain ⟨k, o, rfl, rfl, hk, hl, HA⟩ := hrel
      clear HR p0 t0 d1 d2 d3
      have hol : o.data.toList.length = o.size := by simp
      cases hr : rd d.data.toList k with
      | none =>
        obtain ⟨f, hf, hap⟩ := HA.out
        obtain ⟨f, rfl⟩ : ∃ f', f = f' + 1 := ⟨f - 1, by omega⟩
        rw [ap_none (rd_drop_none hr)] at hap
        subst hap
        have p1 := rread_none d k k rfl hd2 hk hr
        clear HA hr hol
        go_wp2_with (go_at_call 104; (with_reducible refine (p1 _).mono ?_); rintro e w1 ⟨rfl, rfl⟩)
        go_ret2
        exact ⟨rfl, rfl⟩
      | some x =>
        obtain ⟨n, i⟩ := x
        have hbd := rd_bd hr
        obtain ⟨hr1, hr2⟩ := rd_drop_some hr
        have p1 := rread_some d k k n i rfl hd2 hr
        have hi : i ≤ d.size := by simpa using hbd.2.1
        have hn : n ≤ 1073741824 := hbd.2.2
        have hki : k < i := hbd.1
        clear hr hbd
        by_cases hlt : i < d.size
        · have d1 : decide ((i : Int) < 0) = false := by simp
          have d2 : decide (d.size ≤ i) = false := by simpa using hlt
          rw [drop_at d i hlt] at hr2
          by_cases h59 : d[i] = 59
          · have t2 : ((d[i].toNat : Int) == 59) = true := by rw [h59]; rfl
            obtain ⟨f, hf, hap⟩ := HA.out
            obtain ⟨f, rfl⟩ : ∃ f', f = f' + 1 := ⟨f - 1, by omega⟩
            rw [h59] at hr2
            rw [ap_last hr1 hr2] at hap
            by_cases hlast : i + 1 = d.size
            · have t3 : ((i : Int) + 1 == (d.size : Int)) = true := by simp; omega
              have hq : d.data.toList.drop (i + 1) = [] := List.drop_eq_nil_of_le (by simp; omega)
              obtain ⟨c, hc⟩ : ∃ c, c = chk o.data.toList := ⟨_, rfl⟩
              have p2 := rcheck_to o c (by omega) hc
              by_cases h1 : o.size = n0
              · have t4 : ((o.size : Int) == (n0 : Int)) = true := by simp; omega
                by_cases h2 : n = c
                · have t5 : ((n : Int) == (c : Int)) = true := by simp; omega
                  rw [if_pos ⟨hq, by omega, by omega⟩] at hap
                  subst hap
                  clear HA hq hlast h59 hr1 hr2 hc h1 h2 hol
                  go_wp2_with (first
                    | (go_at_call 104; (with_reducible refine (p1 _).mono ?_); rintro e w1 ⟨rfl, rfl⟩)
                    | (go_at_call 105; (with_reducible refine (p2 _).mono ?_); rintro e w1 ⟨rfl, rfl⟩))
                  go_ret2
                  exact ⟨rfl, rfl⟩
                · have t5 : ((n : Int) == (c : Int)) = false := by simp; omega
                  rw [if_neg (fun h => h2 (by omega))] at hap
                  subst hap
                  clear HA hq hlast h59 hr1 hr2 hc h1 h2 hol
                  go_wp2_with (first
                    | (go_at_call 104; (with_reducible refine (p1 _).mono ?_); rintro e w1 ⟨rfl, rfl⟩)
                    | (go_at_call 105; (with_reducible refine (p2 _).mono ?_); rintro e w1 ⟨rfl, rfl⟩))
                  go_ret2
                  exact ⟨rfl, rfl⟩
              · have t4 : ((o.size : Int) == (n0 : Int)) = false := by simp; omega
                rw [if_neg (fun h => h1 (by omega))] at hap
                subst hap
                clear HA hq hlast h59 hr1 hr2 hc h1 p2 hol
                go_wp2_with (first
                  | (go_at_call 104; (with_reducible refine (p1 _).mono ?_); rintro e w1 ⟨rfl, rfl⟩))
                go_ret2
                exact ⟨rfl, rfl⟩
            · have t3 : ((i : Int) + 1 == (d.size : Int)) = false := by simp; omega
              have hq : d.data.toList.drop (i + 1) ≠ [] := by
                intro h
                have := congrArg List.length h
                simp at this
                omega
              rw [if_neg (fun h => hq h.1)] at hap
              subst hap
              clear HA hq hlast h59 hr1 hr2 hol
              go_wp2_with (first
                | (go_at_call 104; (with_reducible refine (p1 _).mono ?_); rintro e w1 ⟨rfl, rfl⟩))
              go_ret2
              exact ⟨rfl, rfl⟩
          · have t2 : ((d[i].toNat : Int) == 59) = false := by
              have := ne_u8 (b := 59) h59
              simpa [bne] using this
            have hcm := cmd_pos src.data.toList d.data.toList n i d[i] (by simpa using hlt)
            obtain ⟨f, hf, hap⟩ := HA.out
            obtain ⟨f, rfl⟩ : ∃ f', f = f' + 1 := ⟨f - 1, by omega⟩
            clear HA
            by_cases h58 : d[i] = 58
            · have t6 : ((d[i].toNat : Int) == 58) = true := by rw [h58]; rfl
              have hcP : cmdP src.data.toList d.data.toList n i d[i] = if n ≠ 0 ∧ i + 1 + n ≤ d.data.toList.length then some ((d.data.toList.drop (i + 1)).take n, i + 1 + n) else none := by
                unfold cmdP; rw [h58, if_neg (by decide), if_pos rfl]
              rw [hcP] at hcm
              by_cases h0 : n < 1
              · rw [if_neg (fun h => h.1 (by omega))] at hcm
                rw [ap_bad hr1 hr2 h59 hcm] at hap
                subst hap
                clear hcm h59 hr1 hr2 hol hcP h58
                go_wp2_with (go_at_call 104; (with_reducible refine (p1 _).mono ?_); rintro e w1 ⟨rfl, rfl⟩)
                go_ret2
                exact ⟨rfl, rfl⟩
              · by_cases hbig : n0 < o.size + n
                · have t7 : decide ((n0 : Int) - (o.size : Int) < (n : Int)) = true := by simp; omega
                  have hRn : R = none := by
                    by_cases hin : i + 1 + n ≤ d.data.toList.length
                    · rw [if_pos ⟨by omega, hin⟩] at hcm
                      rw [ap_more hr1 hr2 h59 hcm, if_pos (by simp at hin ⊢; omega)] at hap
                      exact hap.symm
                    · rw [if_neg (fun h => hin h.2)] at hcm
                      rw [ap_bad hr1 hr2 h59 hcm] at hap
                      exact hap.symm
                  subst hRn
                  clear hcm h59 hr1 hr2 hol hcP h58 hap hbig
                  go_wp2_with (go_at_call 104; (with_reducible refine (p1 _).mono ?_); rintro e w1 ⟨rfl, rfl⟩)
                  go_ret2
                  exact ⟨rfl, rfl⟩
                · have t7 : decide ((n0 : Int) - (o.size : Int) < (n : Int)) = false := by simp; omega
                  by_cases hin : i + 1 + n ≤ d.size
                  · have t8 : decide ((d.size : Int) - (i : Int) - 1 < (n : Int)) = false := by simp; omega
                    rw [if_pos ⟨by omega, by simpa using hin⟩] at hcm
                    rw [ap_more hr1 hr2 h59 hcm, if_neg (by simp; omega)] at hap
                    have hx := ext_eq d (i + 1) n
                    have hxs : (d.extract (i + 1) (i + 1 + n)).size = n := by rw [ByteArray.size_extract]; omega
                    have HN := Lib.hid (And.intro (show d.size - (i + 1 + n) < f by omega) (And.intro hap (And.intro hx hxs)))
                    clear hcm h59 hr1 hr2 hol hcP h58 hap hx hxs hf
                    go_wp2_with (go_at_call 104; (with_reducible refine (p1 _).mono ?_); rintro e w1 ⟨rfl, rfl⟩)
                    go_round
                    case rel =>
                      refine ⟨i + 1 + n, o ++ d.extract (i + 1) (i + 1 + n), by go_num, rfl, by omega, ?_, Lib.hid ⟨f, HN.out.1, ?_⟩⟩
                      · rw [ByteArray.size_append, HN.out.2.2.2]; omega
                      · rw [← HN.out.2.1, HN.out.2.2.1]; simp
                    case measure => simp [intOf]; omega
                  · have t8 : decide ((d.size : Int) - (i : Int) - 1 < (n : Int)) = true := by simp; omega
                    rw [if_neg (fun h => hin (by simpa using h.2))] at hcm
                    rw [ap_bad hr1 hr2 h59 hcm] at hap
                    subst hap
                    clear hcm h59 hr1 hr2 hol hcP h58
                    go_wp2_with (go_at_call 104; (with_reducible refine (p1 _).mono ?_); rintro e w1 ⟨rfl, rfl⟩)
                    go_ret2
                    exact ⟨rfl, rfl⟩
            · have t6 : ((d[i].toNat : Int) == 58) = false := by
                have := ne_u8 (b := 58) h58
                simpa [bne] using this
              by_cases h64 : d[i] = 64
              · have t7 : ((d[i].toNat : Int) == 64) = true := by rw [h64]; rfl
                cases ha : rd d.data.toList (i + 1) with
                | none =>
                  have hcP : cmdP src.data.toList d.data.toList n i d[i] = none := by
                    unfold cmdP; rw [h64, if_pos rfl, ha]
                  rw [hcP] at hcm
                  rw [ap_bad hr1 hr2 h59 hcm] at hap
                  subst hap
                  have p2 := rread_none d ((i : Int) + 1) (i + 1) (by omega) hd2 hlt ha
                  clear hcm h59 hr1 hr2 hol hcP h58 h64 ha
                  go_wp2_with (first
                    | (go_at_call 104; (with_reducible refine (p1 _).mono ?_); rintro e w1 ⟨rfl, rfl⟩)
                    | (go_at_call 104; (with_reducible refine (p2 _).mono ?_); rintro e w1 ⟨rfl, rfl⟩))
                  go_ret2
                  exact ⟨rfl, rfl⟩
                | some x =>
                  obtain ⟨a, j⟩ := x
                  have hab := rd_bd ha
                  have p2 := rread_some d ((i : Int) + 1) (i + 1) a j (by omega) hd2 ha
                  have hj : j ≤ d.size := by simpa using hab.2.1
                  have hij : i + 1 < j := hab.1
                  have haa : a ≤ 1073741824 := hab.2.2
                  have d4 : decide ((j : Int) < 0) = false := by simp
                  have hcP : cmdP src.data.toList d.data.toList n i d[i] = if d.data.toList[j]? = some 44 ∧ n ≠ 0 ∧ a + n ≤ src.data.toList.length then some ((src.data.toList.drop a).take n, j + 1) else none := by
                    unfold cmdP; rw [h64, if_pos rfl, ha]
                  rw [hcP] at hcm
                  clear hcP ha hab h64
                  by_cases hjl : j < d.size
                  · have d5 : decide (d.size ≤ j) = false := by simpa using hjl
                    rw [at_q d j hjl] at hcm
                    by_cases h44 : d[j] = 44
                    · have t8 : ((d[j].toNat : Int) != 44) = false := eq_u8 (b := 44) h44
                      by_cases h0 : n < 1
                      · have d6 : decide ((n : Int) < 1) = true := by simp; omega
                        rw [if_neg (fun h => h.2.1 (by omega))] at hcm
                        rw [ap_bad hr1 hr2 h59 hcm] at hap
                        subst hap
                        clear hcm h59 hr1 hr2 hol h58 h44
                        go_wp2_with (first
                          | (go_at_call 104; (with_reducible refine (p1 _).mono ?_); rintro e w1 ⟨rfl, rfl⟩)
                          | (go_at_call 104; (with_reducible refine (p2 _).mono ?_); rintro e w1 ⟨rfl, rfl⟩))
                        go_ret2
                        exact ⟨rfl, rfl⟩
                      · have d6 : decide ((n : Int) < 1) = false := by simp; omega
                        by_cases hbig : n0 < o.size + n
                        · have d7 : decide ((n0 : Int) - (o.size : Int) < (n : Int)) = true := by simp; omega
                          have hRn : R = none := by
                            by_cases hin : a + n ≤ src.data.toList.length
                            · rw [if_pos ⟨by rw [h44], by omega, hin⟩] at hcm
                              rw [ap_more hr1 hr2 h59 hcm, if_pos (by simp at hin ⊢; omega)] at hap
                              exact hap.symm
                            · rw [if_neg (fun h => hin h.2.2)] at hcm
                              rw [ap_bad hr1 hr2 h59 hcm] at hap
                              exact hap.symm
                          subst hRn
                          clear hcm h59 hr1 hr2 hol h58 h44 hap hbig
                          go_wp2_with (first
                            | (go_at_call 104; (with_reducible refine (p1 _).mono ?_); rintro e w1 ⟨rfl, rfl⟩)
                            | (go_at_call 104; (with_reducible refine (p2 _).mono ?_); rintro e w1 ⟨rfl, rfl⟩))
                          go_ret2
                          exact ⟨rfl, rfl⟩
                        · have d7 : decide ((n0 : Int) - (o.size : Int) < (n : Int)) = false := by simp; omega
                          by_cases hin : a + n ≤ src.size
                          · have d8 : decide ((src.size : Int) < (a : Int)) = false := by simp; omega
                            have d9 : decide ((src.size : Int) - (a : Int) < (n : Int)) = false := by simp; omega
                            rw [if_pos ⟨by rw [h44], by omega, by simpa using hin⟩] at hcm
                            rw [ap_more hr1 hr2 h59 hcm, if_neg (by simp; omega)] at hap
                            have hx := ext_eq src a n
                            have hxs : (src.extract a (a + n)).size = n := by rw [ByteArray.size_extract]; omega
                            have HN := Lib.hid (And.intro (show d.size - (j + 1) < f by omega) (And.intro hap (And.intro hx hxs)))
                            clear hcm h59 hr1 hr2 hol h58 h44 hap hx hxs hf
                            go_wp2_with (first
                              | (go_at_call 104; (with_reducible refine (p1 _).mono ?_); rintro e w1 ⟨rfl, rfl⟩)
                              | (go_at_call 104; (with_reducible refine (p2 _).mono ?_); rintro e w1 ⟨rfl, rfl⟩))
                            go_round
                            case rel =>
                              refine ⟨j + 1, o ++ src.extract a (a + n), by go_num, rfl, by omega, ?_, Lib.hid ⟨f, HN.out.1, ?_⟩⟩
                              · rw [ByteArray.size_append, HN.out.2.2.2]; omega
                              · rw [← HN.out.2.1, HN.out.2.2.1]; simp
                            case measure => simp [intOf]; omega
                          · rw [if_neg (fun h => hin (by simpa using h.2.2))] at hcm
                            rw [ap_bad hr1 hr2 h59 hcm] at hap
                            subst hap
                            by_cases hin2 : src.size < a
                            · have d8 : decide ((src.size : Int) < (a : Int)) = true := by simp; omega
                              clear hcm h59 hr1 hr2 hol h58 h44
                              go_wp2_with (first
                                | (go_at_call 104; (with_reducible refine (p1 _).mono ?_); rintro e w1 ⟨rfl, rfl⟩)
                                | (go_at_call 104; (with_reducible refine (p2 _).mono ?_); rintro e w1 ⟨rfl, rfl⟩))
                              go_ret2
                              exact ⟨rfl, rfl⟩
                            · have d8 : decide ((src.size : Int) < (a : Int)) = false := by simp; omega
                              have d9 : decide ((src.size : Int) - (a : Int) < (n : Int)) = true := by simp; omega
                              clear hcm h59 hr1 hr2 hol h58 h44
                              go_wp2_with (first
                                | (go_at_call 104; (with_reducible refine (p1 _).mono ?_); rintro e w1 ⟨rfl, rfl⟩)
                                | (go_at_call 104; (with_reducible refine (p2 _).mono ?_); rintro e w1 ⟨rfl, rfl⟩))
                              go_ret2
                              exact ⟨rfl, rfl⟩
                    · have t8 : ((d[j].toNat : Int) != 44) = true := ne_u8 (b := 44) h44
                      rw [if_neg (fun h => h44 (Option.some.inj h.1))] at hcm
                      rw [ap_bad hr1 hr2 h59 hcm] at hap
                      subst hap
                      clear hcm h59 hr1 hr2 hol h58 h44
                      go_wp2_with (first
                        | (go_at_call 104; (with_reducible refine (p1 _).mono ?_); rintro e w1 ⟨rfl, rfl⟩)
                        | (go_at_call 104; (with_reducible refine (p2 _).mono ?_); rintro e w1 ⟨rfl, rfl⟩))
                      go_ret2
                      exact ⟨rfl, rfl⟩
                  · have d5 : decide (d.size ≤ j) = true := by simpa using hjl
                    rw [if_neg (fun h => hjl (by simpa using (List.getElem?_eq_some_iff.1 h.1).1))] at hcm
                    rw [ap_bad hr1 hr2 h59 hcm] at hap
                    subst hap
                    clear hcm h59 hr1 hr2 hol h58
                    go_wp2_with (first
                      | (go_at_call 104; (with_reducible refine (p1 _).mono ?_); rintro e w1 ⟨rfl, rfl⟩)
                      | (go_at_call 104; (with_reducible refine (p2 _).mono ?_); rintro e w1 ⟨rfl, rfl⟩))
                    go_ret2
                    exact ⟨rfl, rfl⟩
              · have t7 : ((d[i].toNat : Int) == 64) = false := by
                  have := ne_u8 (b := 64) h64
                  simpa [bne] using this
                have hcP : cmdP src.data.toList d.data.toList n i d[i] = none := by
                  unfold cmdP; rw [if_neg h64, if_neg h58]
                rw [hcP] at hcm
                rw [ap_bad hr1 hr2 h59 hcm] at hap
                subst hap
                clear hcm h59 hr1 hr2 hol hcP h58 h64
                go_wp2_with (go_at_call 104; (with_reducible refine (p1 _).mono ?_); rintro e w1 ⟨rfl, rfl⟩)
                go_ret2
                exact ⟨rfl, rfl⟩
        · have d1 : decide ((i : Int) < 0) = false := by simp
          have d2 : decide (d.size ≤ i) = true := by simpa using hlt
          obtain ⟨f, hf, hap⟩ := HA.out
          obtain ⟨f, rfl⟩ : ∃ f', f = f' + 1 := ⟨f - 1, by omega⟩
          rw [ap_end hr1 (by rw [hr2]; exact List.drop_eq_nil_of_le (by simp; omega))] at hap
          subst hap
          clear HA hr1 hr2 hol
          go_wp2_with (go_at_call 104; (with_reducible refine (p1 _).mono ?_); rintro e w1 ⟨rfl, rfl⟩)
          go_ret2
          exact ⟨rfl, rfl⟩
  · cases hk0
set_option maxRecDepth 100000 in
theorem rapply_any (src d : ByteArray) (hs : src.size ≤ 1099511627776) (hd' : d.size ≤ 1099511627776) (w : World) :
    Calls Tryz.prog 78 #[.string src, .string d] w fun e w' => e = .returned (apV (apply src.data.toList d.data.toList)) ∧ w = w' := by
  have hd2 : d.size < maxLen := by unfold maxLen; omega
  cases h : hd d.data.toList with
  | some x =>
    obtain ⟨n, k⟩ := x
    by_cases hn : n ≤ 300
    · have e : apply src.data.toList d.data.toList = ap src.data.toList n (d.size + 1) (d.data.toList.drop k) [] := by unfold apply; rw [h]; simp only []; rw [if_pos hn]; rfl
      exact rapply_go src d n k hs hd' hn h _ e.symm w
    · have e : apply src.data.toList d.data.toList = none := by unfold apply; rw [h]; simp only []; rw [if_neg hn]
      rw [e]
      unfold hd at h
      cases hr0 : rd d.data.toList 0 with
      | none => rw [hr0] at h; cases h
      | some x =>
        obtain ⟨n0, j0⟩ := x
        rw [hr0] at h
        simp only [] at h
        split at h
        · rename_i h10
          simp at h
          obtain ⟨rfl, rfl⟩ := h
          have hb := (rd_bd hr0).2.2
          have hj0 : j0 < d.size := by simpa using (List.getElem?_eq_some_iff.1 h10).1
          rw [at_q d j0 hj0] at h10
          have t0 : ((d[j0].toNat : Int) != 10) = false := eq_u8 (b := 10) (Option.some.inj h10)
          have p0 := rread_some d 0 0 n0 j0 rfl hd2 hr0
          have d1 : decide ((j0 : Int) < 0) = false := by simp
          have d2 : decide (d.size ≤ j0) = false := by simpa using hj0
          have d3 : decide (300 < (n0 : Int)) = true := by simp; omega
          clear hr0 h10 e
          go_enter Tryz.func78, Tryz.ntmps78
          go_wp2_with (go_at_call 104; (with_reducible refine (p0 _).mono ?_); rintro e w1 ⟨rfl, rfl⟩)
          go_ret2
          exact ⟨rfl, rfl⟩
        · cases h
  | none =>
    have e : apply src.data.toList d.data.toList = none := by unfold apply; rw [h]
    rw [e]
    unfold hd at h
    cases hr0 : rd d.data.toList 0 with
    | none =>
      have p0 := rread_none d 0 0 rfl hd2 (by omega) hr0
      clear hr0 h e
      go_enter Tryz.func78, Tryz.ntmps78
      go_wp2_with (go_at_call 104; (with_reducible refine (p0 _).mono ?_); rintro e w1 ⟨rfl, rfl⟩)
      go_ret2
      exact ⟨rfl, rfl⟩
    | some x =>
      obtain ⟨n0, j0⟩ := x
      rw [hr0] at h
      simp only [] at h
      have p0 := rread_some d 0 0 n0 j0 rfl hd2 hr0
      have d1 : decide ((j0 : Int) < 0) = false := by simp
      by_cases hj0 : j0 < d.size
      · have d2 : decide (d.size ≤ j0) = false := by simpa using hj0
        rw [at_q d j0 hj0] at h
        have t0 : ((d[j0].toNat : Int) != 10) = true := ne_u8 (b := 10) (fun e => by rw [e] at h; simp at h)
        clear hr0 h e
        go_enter Tryz.func78, Tryz.ntmps78
        go_wp2_with (go_at_call 104; (with_reducible refine (p0 _).mono ?_); rintro e w1 ⟨rfl, rfl⟩)
        go_ret2
        exact ⟨rfl, rfl⟩
      · have d2 : decide (d.size ≤ j0) = true := by simpa using hj0
        clear hr0 h e
        go_enter Tryz.func78, Tryz.ntmps78
        go_wp2_with (go_at_call 104; (with_reducible refine (p0 _).mono ?_); rintro e w1 ⟨rfl, rfl⟩)
        go_ret2
        exact ⟨rfl, rfl⟩
end Go.Proofs.YtoddhdionhemjaaGreatDoor.De
