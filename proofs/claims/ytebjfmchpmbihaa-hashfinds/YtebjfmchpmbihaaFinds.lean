/- THE WALK of the law HashFinds. -/
import Derived.Test.YtebjfmchpmbihaaLong
import Derived.Test.YtebjfmchpmbihaaFindsEq
namespace Go.Proofs.Ytebjfmchpmbihaa
open Go.RowKit

theorem strinfo : (Try.prog.info? 9).map (fun i => (i.zero, i.size, i.bytes)) = some (some (.string ⟨#[]⟩), 1, 16) := by kernel_rfl
/-- v is a row of the call's own that holds these texts. -/
def OwnS (w0 w : World) (v : Value) (ns : List ByteArray) : Prop := w.ownsRow w0.heap.size 9 1 v ns.length (ns.map Value.string) ∧ Below w0.heap.size w0 w
theorem OwnS.below {w0 w w1 : World} {v : Value} {ns : List ByteArray} (h : OwnS w0 w v ns) (hb : Below w.heap.size w w1) : OwnS w0 w1 v ns := by
  refine ⟨⟨h.1.1, ?_⟩, h.2.trans (hb.mono h.2.size)⟩
  rcases h.1.2 with hn | ⟨g, cap, cur, h1, h2, h3, h4⟩
  · exact .inl hn
  · exact .inr ⟨g, cap, cur, h1, h2, (hb.block g (Array.getElem?_eq_some_iff.1 h3).1).trans h3, h4⟩
theorem OwnS.alloc {w0 w : World} {v : Value} {ns : List ByteArray} (h : OwnS w0 w v ns) (o : Obj) : OwnS w0 (w.alloc o) v ns := ⟨h.1.alloc o, h.2.alloc h.2.size o⟩
theorem OwnS.form {w0 w : World} {v : Value} {ns : List ByteArray} (h : OwnS w0 w v ns) (hl : ns ≠ []) : ∃ g cap, v = .slice (some ⟨g, 0, none⟩) ns.length cap ∧ ns.length ≤ cap ∧ w0.heap.size ≤ g := by
  rcases h.1.2 with ⟨_, h0⟩ | ⟨g, cap, cur, h1, h2, _, h4, _⟩
  · exact absurd (List.eq_nil_of_length_eq_zero h0) hl
  · exact ⟨g, cap, h1, h4, h2⟩
theorem wpList_app1s {ops : Array Oper} {rest : List Oper} {o : Oper} {a : Act} {Q : Exit → Act → World → Prop} (w0 w : World) (hgd : o.guard = none) (s x : Operand)
    (ho : o.op = .call { callee := .builtin .append, args := #[s, x], argTypes := #[30, 30] })
    (v : Value) (ns : List ByteArray) (hs : a.eval s = v) (hown : OwnS w0 w v ns) (b : ByteArray)
    (hx : a.eval x = .slice (some ⟨w.heap.size, 0, none⟩) 1 1) (hlen : ns.length ≤ 1000000)
    (h : ∀ v' w', OwnS w0 w' v' (ns ++ [b]) → wpList Try.prog ops Q rest (a.put o.dst v') w') :
    wpList Try.prog ops Q (o :: rest) a (w.alloc (.cells #[.string b] 9)) := by
  obtain ⟨i0, hi, hz0, hz1, hz2⟩ := info_parts strinfo
  have hsz := hown.2.size
  refine wpList_append_own _ hgd s x _ ho w0.heap.size 9 i0 _ 1 16 Try.underlying30 hi hz0 hz1 hz2 rfl (by omega) v ns.length _ hs (hown.1.alloc _) ⟨w.heap.size, 0, none⟩ 1 1 [.string b] hx rfl ?_ ?_ (by unfold maxLen; omega) (by omega) (by simp; omega) ?_
  · intro j u hj
    match j, hj with
    | 0, hj => simp at hj; subst hj; exact (Rw.fresh w 9 #[.string b]).at 0
  · intro u hu; simp at hu; subst hu; rfl
  · intro v' w' h1 h2 _
    refine h v' w' ⟨?_, ?_⟩
    · simpa using h1
    · have hA : Below w0.heap.size w0 (w.alloc (.cells #[.string b] 9)) := hown.2.alloc hsz _
      exact hA.grown h2 (by simp; omega) (fun k hk => (hown.1.lt k hk).1)
theorem conv_n (W : World) (n : Int) (h0 : 0 ≤ n) (h1 : n ≤ 255) : (convert 26 9 (.slice (some ⟨W.heap.size, 0, none⟩) 1 1)).run Try.prog (W.alloc (.cells #[.int .u8 n] 5)) = .ok (.string ⟨#[UInt8.ofNat n.toNat]⟩) (W.alloc (.cells #[.int .u8 n] 5)) := by
  have e : n = ((UInt8.ofNat n.toNat).toNat : Int) := by rw [UInt8.toNat_ofNat']; omega
  have := conv_one W (UInt8.ofNat n.toNat)
  rw [← e] at this
  exact this
/-- Some text of forty bytes. -/
def Some40 (w : World) (e : Ending) (w' : World) : Prop := ∃ h : ByteArray, e = .returned (.string h) ∧ h.size = 40 ∧ Below w.heap.size w w'
theorem rsum_40 (s : ByteArray) (hs : s.size ≤ 1099511627) (w : World) : Calls Try.prog 10 #[.string s] w (Some40 w) :=
  (rsum_any s hs w).mono fun e w' h => by
    obtain ⟨t, HT, hz, _⟩ := sum_named s.data.toList
    exact ⟨t, by rw [h.1, HT.out], hz, h.2⟩
theorem one_size (b : UInt8) : (⟨#[b]⟩ : ByteArray).size ≤ 1099511627 := by show 1 ≤ _; omega
theorem OwnS.cell {w0 w : World} {g cap : Nat} {ns : List ByteArray} (h : OwnS w0 w (.slice (some ⟨g, 0, none⟩) ns.length cap) ns) (j : Nat) (hj : j < ns.length) : w.cell? ⟨g, j, none⟩ = some (.string (ns[j]'hj)) := by
  rw [h.1.cellAt j (by omega)]
  simp [List.getElem?_eq_getElem hj]
theorem OwnS.names {w0 w : World} {v : Value} {ns : List ByteArray} (h : OwnS w0 w v ns) : ∃ ao cap, v = .slice ao ns.length cap ∧ Names w ao ns := by
  rcases h.1.2 with ⟨hv, h0⟩ | ⟨g, cap, cur, hv, _⟩
  · obtain rfl : ns = [] := List.eq_nil_of_length_eq_zero h0
    exact ⟨none, 0, hv, fun i hi => absurd hi (by simp)⟩
  · subst hv
    exact ⟨_, cap, rfl, fun i hi => ⟨g, 0, rfl, by rw [Nat.zero_add]; exact h.cell i hi⟩⟩
theorem OwnS.names2 {w0 w : World} {v : Value} {ns : List ByteArray} (h : OwnS w0 w v ns) : ∃ ao cap n, v = .slice ao n cap ∧ Hid (ns.length = n) ∧ Hid (Names w ao ns) := by
  obtain ⟨ao, cap, hv, hn⟩ := h.names
  exact ⟨ao, cap, _, hv, rfl, hn⟩
theorem OwnS.lt {w0 w : World} {g cap n : Nat} {ns : List ByteArray} (h : OwnS w0 w (.slice (some ⟨g, 0, none⟩) n cap) ns) : g < w.heap.size := (h.1.lt g rfl).2
theorem OwnS.namesAt {w0 w : World} {g cap k : Nat} {ns : List ByteArray} (h : OwnS w0 w (.slice (some ⟨g, 0, none⟩) k cap) ns) (hk : ns.length = k) : Names w (some ⟨g, 0, none⟩) ns := by
  subst hk
  exact fun i hi => ⟨g, 0, rfl, by rw [Nat.zero_add]; exact h.cell i hi⟩
theorem ownS_empty (w0 w : World) (h : Below w0.heap.size w0 w) : OwnS w0 (w.alloc (.cells #[] 9)) (.slice (some ⟨w.heap.size, 0, none⟩) 0 0) [] :=
  ⟨World.ownsRow_made w #[] 0 h.size (by unfold maxLen; omega) rfl, h.alloc h.size _⟩
/-- 'append(d, names...)': d another row of the call's own. -/
theorem wpList_appS {ops : Array Oper} {rest : List Oper} {o : Oper} {a : Act} {Q : Exit → Act → World → Prop} (w0 w : World) (hgd : o.guard = none) (s x : Operand)
    (ho : o.op = .call { callee := .builtin .append, args := #[s, x], argTypes := #[30, 30] })
    (d : Value) (ds ns : List ByteArray) (g cap k : Nat) (hk : ns.length = k) (hs : a.eval s = d) (hd : OwnS w0 w d ds) (hx : a.eval x = .slice (some ⟨g, 0, none⟩) k cap) (hsrc : OwnS w0 w (.slice (some ⟨g, 0, none⟩) k cap) ns)
    (hne : d.ownBlock ≠ some g) (hlen : ds.length + k ≤ 1000000)
    (h : ∀ v' w', OwnS w0 w' v' (ds ++ ns) → OwnS w0 w' (.slice (some ⟨g, 0, none⟩) k cap) ns → v'.ownBlock ≠ some g → wpList Try.prog ops Q rest (a.put o.dst v') w') :
    wpList Try.prog ops Q (o :: rest) a w := by
  subst hk
  obtain ⟨i0, hi, hz0, hz1, hz2⟩ := info_parts strinfo
  refine wpList_append_own_at _ hgd s x _ ho w0.heap.size 9 i0 _ 1 16 Try.underlying30 hi hz0 hz1 hz2 rfl (by omega) d ds.length _ hs hd.1 ⟨g, 0, none⟩ ns.length cap (ns.map Value.string) hx (by simp) ?_ ?_ (by unfold maxLen; omega) (by omega) hd.2.size ?_
  · intro j u hj
    have hjl : j < ns.length := by
      have := (List.getElem?_eq_some_iff.1 hj).1
      simpa using this
    rw [Addr.add_mid, Nat.zero_add, hsrc.cell j hjl]
    simp [List.getElem?_eq_getElem hjl] at hj
    rw [← hj]
  · intro u hu
    obtain ⟨y, _, rfl⟩ := List.mem_map.1 hu
    rfl
  · intro v' w' h1 h2 _ h4
    have hbb : Below w0.heap.size w0 w' := hd.2.grown h2 hd.2.size (fun k hk => (hd.1.lt k hk).1)
    refine h v' w' ⟨by simpa using h1, hbb⟩ ⟨hsrc.1.kept h2 (.inr (fun e => hne e.symm)), hbb⟩ ?_
    rcases h4 with e | e
    · rw [e]; exact hne
    · rw [e]
      intro e2
      have := hsrc.lt
      injection e2 with e2
      omega
def IsRow0 (w : World) (a : Option Addr) (len : Nat) (z : Nat → Int) : Prop := ∀ i, i < len → ∃ x, a = some x ∧ w.cell? (x.add i) = some (.int .i64 (z i))

set_option maxRecDepth 100000 in
set_option maxHeartbeats 2000000 in
theorem finds_any (a0 : Option Addr) (len0 cap0 : Nat) (z : Nat → Int) (hl0 : len0 ≤ maxLen) (at_ cut : Int) (w : World) (hrow : IsRow0 w a0 len0 z) :
    Calls Try.prog 6 #[.slice a0 len0 cap0, .int .i64 at_, .int .i64 cut] w fun e w' => e = .returned (.bool true) ∧ Below w.heap.size w w' := by
  unfold maxLen at hl0
  obtain ⟨m, hm1, hm2, hm3⟩ : ∃ m, m ≤ len0 ∧ m ≤ 12 ∧ (m = len0 ∨ m = 12) := ⟨min len0 12, by omega, by omega, by omega⟩
  go_enter Try.func6, Try.ntmps6
  go_wp2
  go_loopw [7, 8] (fun v i wr => ∃ (k : Nat) (ns : List ByteArray), k ≤ m ∧ i = .int .i64 k ∧ ns.length = k ∧ (∀ x ∈ ns, x.size = 40) ∧ OwnS w wr v ns) (fun _ i _ => m - (intOf i).toNat)
  case atStart => exact ⟨0, [], by omega, rfl, rfl, fun _ h => absurd h (by simp), World.ownsRow_nil _ _ _ _, Below.refl _ _⟩
  case round =>
    obtain ⟨k, ns, hk, rfl, hnk, h40, hat⟩ := hrel
    have HNK := Lib.hid hnk
    have H40 := Lib.hid h40
    clear hnk h40
    by_cases hlt : k < m
    · obtain ⟨x, rfl, hcell⟩ := hrow k (by omega)
      have hcr : wr.cell? (x.add k) = some (.int .i64 (z k)) := by
        rw [hat.2.cell (p := x.add k) (block_lt_of_cell hcell)]; exact hcell
      clear hcell
      have hcv := conv_n wr (bits BinOp.and IntKind.i64 (z k) 7 % 256) (by omega) (by omega)
      have hd12 : decide ((k : Int) < 12) = true := by simpa using (by omega : (k : Int) < 12)
      go_wp2_with (first
        | (go_at_call 10; refine (rsum_40 _ (one_size _) _).mono ?_; rintro e w1 ⟨nm, rfl, hz, hb1⟩; have HZ := Lib.hid hz; clear hz; have hat1 := (hat.alloc (.cells #[.int .u8 (bits BinOp.and IntKind.i64 (z k) 7 % 256)] 5)).below hb1)
        | (at_builtin; refine wpList_app1s w w1 rfl (.tmp 31) (.tmp 41) rfl _ _ (by rfl) hat1 nm (by rfl) (by rw [HNK.out]; omega) ?_; intro v' w' hat'))
      go_roundw
      case rel =>
        refine ⟨k + 1, ns ++ [nm], by omega, by go_num, by rw [List.length_append, HNK.out]; rfl, fun y hy => ?_, hat'⟩
        rcases List.mem_append.1 hy with h | h
        · exact H40.out y h
        · rw [List.mem_singleton.1 h]; exact HZ.out
      case measure => simp [intOf]; omega
    · obtain rfl : k = m := by omega
      clear hlt hk
      rcases (show len0 ≤ k ∨ (k < len0 ∧ 12 ≤ k) by omega) with hx | ⟨hx, hx2⟩
      all_goals
        by_cases hz : k = 0
        · try (exfalso; omega)
          all_goals
            subst hz
            obtain rfl : ns = [] := List.eq_nil_of_length_eq_zero HNK.out
            obtain ⟨ao, cp, rfl, hnm⟩ := hat.names
            have hpre := pfx_to [] 0 rfl ao cp ⟨#[97, 98, 99, 100]⟩ wr (fun _ h => absurd h (by simp)) (by omega) hnm ⟨#[]⟩ false (fun _ => ⟨rfl, rfl⟩) (fun _ => ⟨rfl, rfl⟩)
            have HP := Lib.hid hpre
            clear hpre
            go_wp2_with (first
              | (go_at_call 13; refine (HP.out).mono ?_; rintro e w3 ⟨rfl, hb3⟩)
              | (go_at_call 3; refine (runs_any _).mono ?_; rintro e w5 ⟨rfl, hb5⟩))
            go_ret
            have hb6 := (hat.below hb3).2
            exact ⟨rfl, hb6.trans (hb5.mono hb6.size)⟩
        · obtain ⟨g, cap, hv, hlc, hgb⟩ := hat.form (by intro h; rw [h] at HNK; exact hz HNK.out.symm)
          rw [HNK.out] at hv hlc
          subst hv
          have hk1 : 1 ≤ k := by omega
          clear hz
          obtain ⟨q, hq, _, hq2⟩ := wthn_nat at_ 0 ((k : Int) - 1) (by omega) (by omega)
          obtain ⟨c, hcc, _, hc2⟩ := wthn_nat cut 0 40 (by omega) (by omega)
          have HQ := Lib.hid hq
          have HC := Lib.hid hcc
          clear hq hcc
          have hql : q < ns.length := by rw [HNK.out]; omega
          obtain ⟨x, hxe⟩ : ∃ x, x = ns[q] := ⟨_, rfl⟩
          have hxm : x ∈ ns := by rw [hxe]; exact List.getElem_mem hql
          have hxz : x.size = 40 := H40.out x hxm
          have hatn : OwnS w wr (.slice (some ⟨g, 0, none⟩) ns.length cap) ns := by rw [HNK.out]; exact hat
          have hcx : wr.cell? ⟨g, q, none⟩ = some (.string x) := by rw [hxe]; exact hatn.cell q hql
          have HXM := Lib.hid hxm
          clear hxe hxm
          have hd12 : 12 ≤ k → decide ((k : Int) < 12) = false := fun h => by simp; omega
          try have hdd := hd12 (by omega)
          clear hd12
          have hk0 : ((k : Int) == 0) = false := by rw [beq_eq_false_iff_ne]; omega
          have hqk : (q : Int) < (k : Int) := by omega
          have hck : (c : Int) ≤ 40 := by omega
          go_wp2_with (first
            | (go_at_call 12; (with_reducible refine (within_to at_ 0 ((k : Int) - 1) q (by omega) (by omega) (by omega) HQ.out _).mono ?_); rintro e w3 ⟨rfl, rfl⟩)
            | (go_at_call 12; (with_reducible refine (within_to cut 0 40 c (by omega) (by omega) (by omega) HC.out _).mono ?_); rintro e w3 ⟨rfl, rfl⟩))
          clear hcx hqk hk0
          go_loop [14, 16, 71] (fun o y i => ∃ j : Nat, j ≤ k ∧ i = .int .i64 j ∧ o = .bool (oneB x c (ns.take j))) (fun _ _ i => k - (intOf i).toNat)
          case atStart => exact ⟨0, by omega, rfl, rfl⟩
          case round =>
            obtain ⟨j, hj, rfl, rfl⟩ := hrel
            by_cases hlt : j < k
            · have hjl : j < ns.length := by rw [HNK.out]; exact hlt
              have hsn := oneB_snoc x c ns j hjl
              obtain ⟨y, hye⟩ : ∃ y, y = ns[j] := ⟨_, rfl⟩
              have hcy : wr.cell? ⟨g, j, none⟩ = some (.string y) := by rw [hye]; exact hatn.cell j hjl
              have hyz : y.size = 40 := by rw [hye]; exact H40.out _ (List.getElem_mem hjl)
              rw [← hye] at hsn
              obtain ⟨o1, ho1⟩ : ∃ o1, oneB x c (ns.take j) = o1 := ⟨_, rfl⟩
              rw [ho1] at hsn ⊢
              have HSN := Lib.hid hsn
              clear hsn hye ho1
              rcases o1 with _ | _
              · go_wp2
                go_round
                case rel => exact ⟨j + 1, by omega, by go_num, by rw [HSN.out]; rfl⟩
                case measure => simp [intOf]; omega
              · by_cases e1 : (y.toList == x.toList) = true
                · go_wp2
                  go_round
                  case rel => exact ⟨j + 1, by omega, by go_num, by rw [HSN.out, e1]; rfl⟩
                  case measure => simp [intOf]; omega
                · have e1f : (y.toList == x.toList) = false := by simpa using e1
                  clear e1
                  obtain ⟨e2, he2⟩ : ∃ e2, ((y.extract 0 c).toList == (x.extract 0 c).toList) = e2 := ⟨_, rfl⟩
                  have HSN2 : Hid (oneB x c (ns.take (j + 1)) = !e2) := by
                    have := HSN.out
                    rw [e1f, he2] at this
                    exact this
                  clear HSN
                  rcases e2 with _ | _
                  all_goals
                    go_wp2
                    go_round
                    case rel => exact ⟨j + 1, by omega, by go_num, by rw [HSN2.out]; rfl⟩
                    case measure => simp [intOf]; omega
            · obtain rfl : j = k := by omega
              rw [List.take_of_length_le (by rw [HNK.out]; exact Nat.le_refl _)]
              obtain ⟨got, ok, o1, ho1, HP1, HP2, hT⟩ := finds_pick ns x c HXM.out H40.out (by omega)
              rw [ho1]
              clear ho1
              have hne1 : x.toList ≠ [] := by
                intro h
                rw [ByteArray.toList_eq] at h
                have := congrArg List.length h
                simp [hxz] at this
              have hne2 : (([] : List UInt8) == x.toList) = false := by rw [beq_eq_false_iff_ne]; exact fun h => hne1 h.symm
              have hne3 : (x.toList == ([] : List UInt8)) = false := by rw [beq_eq_false_iff_ne]; exact hne1
              have HNE := Lib.hid hne1
              clear hne1
              have h40b : Hid (∀ y ∈ ns ++ ns, y.size ≤ 1099511627776) := fun y hy => by
                have : y ∈ ns := by rcases List.mem_append.1 hy with h | h <;> exact h
                rw [H40.out y this]; omega
              have h40c : Hid (∀ y ∈ ns, y.size ≤ 1099511627776) := fun y hy => by rw [H40.out y hy]; omega
              have hmore := finds_more ns x hxz H40.out
              have HMORE := Lib.hid hmore
              have hsz41 : Hid ((x ++ ⟨#[48]⟩ : ByteArray).size = 41) := by
                show _ = _
                simp [hxz]; rfl
              have hglt := hat.lt
              clear hmore hatn
              rcases hT with ⟨rfl, rfl, h4, rfl⟩ | ⟨rfl, rfl, rfl⟩ | ⟨rfl, rfl, h4, rfl⟩
              all_goals
                go_wp2_with (first
                  | (at_builtin; refine wpList_appS w (wr.alloc (.cells #[] 9)) rfl (.tmp 90) (.tmp 91) rfl _ [] ns g cap j HNK.out (by rfl) (ownS_empty w wr hat.2) (by rfl) (hat.alloc _) (by intro h; injection h with h; exact absurd h (by show wr.heap.size ≠ g; omega)) (by simp; omega) ?_; intro v1 w1 hd1 hs1 hn1)
                  | (at_builtin; refine wpList_appS w w1 rfl (.tmp 92) (.tmp 93) rfl _ ([] ++ ns) ns g cap j HNK.out (by rfl) hd1 (by rfl) hs1 hn1 (by rw [List.nil_append, HNK.out]; omega) ?_; intro v2 w2 hd2 hs2 hn2; rw [List.nil_append] at hd2; obtain ⟨ao2, cp2, n2, hv2, HN2, HNM2⟩ := hd2.names2; subst hv2; have HS2 := Lib.hid hs2; clear hd1 hs1 hn1 hd2 hn2 hs2)
                  | (go_at_call 13; (with_reducible refine (pfx_to (ns ++ ns) n2 HN2.out ao2 cp2 (x.extract 0 c) w2 h40b.out (by rw [← HN2.out, List.length_append, HNK.out]; omega) HNM2.out _ _ HP1.out HP2.out).mono ?_); rintro e w3 ⟨rfl, hb3⟩; have HS3 := Lib.hid (HS2.out.below hb3); clear hb3)
                  | (go_at_call 13; (with_reducible refine (pfx_to ns j HNK.out (some ⟨g, 0, none⟩) cap (x ++ ⟨#[48]⟩) w3 h40c.out (by omega) (HS3.out.namesAt HNK.out) ⟨#[]⟩ false (fun _ => ⟨rfl, rfl⟩) (fun _ => by rw [HMORE.out]; exact ⟨rfl, rfl⟩)).mono ?_); rintro e w4 ⟨rfl, hb4⟩; have HS4 := Lib.hid (HS3.out.below hb4); clear hb4)
                  | (go_at_call 3; refine (runs_any _).mono ?_; rintro e w5 ⟨rfl, hb5⟩))
                go_ret
                exact ⟨rfl, HS4.out.2.trans (hb5.mono HS4.out.2.size)⟩
end Go.Proofs.Ytebjfmchpmbihaa
