/- THE WALK of delta.Apply. -/
import Derived.Test.YtblkblnlcogfiaaDCmd
import Derived.Lib.AppendStr
import Derived.Laws.MakeOwn
namespace Go.Proofs.Ytblkblnlcogfiaa
open Go.RowKit

theorem below_step {w v x : World} (h : Below w.heap.size w v) (h2 : Below v.heap.size v x) : Below w.heap.size w x := h.trans (h2.mono h.size)
theorem Own.conv_any {w0 w : World} {v : Value} {l : List UInt8} (h : Own w0 w v l) (hv : v ≠ .slice none 0 0) : (convert 35 9 v).run Try.prog w = .ok (.string ⟨l.toArray⟩) w := by
  rcases h.1.2 with ⟨h0, _⟩ | ⟨g, cap, cur, rfl, h2, _, h4, _⟩
  · exact absurd h0 hv
  · exact run_convert_bytes_back w _ _ _ ⟨g, 0, none⟩ _ l Try.underlying35 Try.underlying5 Try.underlying9 (fun j hj => by rw [Addr.add_mid, Nat.zero_add]; exact h.cell j hj)
theorem Own.len {w0 w : World} {v : Value} {l : List UInt8} (h : Own w0 w v l) (hv : v ≠ .slice none 0 0) : ∃ g cap, v = .slice (some ⟨g, 0, none⟩) l.length cap := by
  rcases h.1.2 with ⟨h0, _⟩ | ⟨g, cap, cur, h1, _⟩
  · exact absurd h0 hv
  · exact ⟨g, cap, h1⟩
/-- 'append(v, s...)': a string's bytes more. -/
theorem wpList_appS {ops : Array Oper} {rest : List Oper} {o : Oper} {a : Act} {Q : Exit → Act → World → Prop} (w0 w : World) (hgd : o.guard = none) (s x : Operand)
    (ho : o.op = .call { callee := .builtin .append, args := #[s, x], argTypes := #[35, 9] })
    (v : Value) (l : List UInt8) (hs : a.eval s = v) (hown : Own w0 w v l) (b : ByteArray) (hx : a.eval x = .string b) (hlen : l.length + b.size ≤ 1099511627776)
    (h : ∀ v' w', Own w0 w' v' (l ++ b.data.toList) → (v' = .slice none 0 0 ↔ v = .slice none 0 0 ∧ b.size = 0) → wpList Try.prog ops Q rest (a.put o.dst v') w') :
    wpList Try.prog ops Q (o :: rest) a w := by
  obtain ⟨i0, hi, hz0, hz1, hz2⟩ := info_parts u8info
  refine Lib.wpList_append_own_string (P := Try.prog) (w := w) hgd s x _ _ ho w0.heap.size 5 i0 Try.underlying35 Try.underlying9 hi hz0 hz1 hz2 v l.length _ hs hown.1 b hx (by unfold maxLen; omega) (by omega) hown.2.size ?_
  intro v' w' h1 h2 h3
  refine h v' w' ⟨?_, ?_⟩ h3
  · have e : Lib.byteCells (l ++ b.data.toList) = Lib.byteCells l ++ Lib.strCells b := by simp [Lib.byteCells, Lib.strCells]
    rw [e]
    simpa using h1
  · exact hown.2.grown h2 hown.2.size (fun k hk => (hown.1.lt k hk).1)

def apV : Option (List UInt8) → Value
  | none => .tuple #[.string ByteArray.empty, .bool false]
  | some t => .tuple #[.string ⟨t.toArray⟩, .bool true]
theorem ap_none {src r : List UInt8} {size f : Nat} {out : List UInt8} (h : rd r 0 = none) : ap src size (f + 1) r out = none := by
  rw [ap, h]
theorem ap_end {src r : List UInt8} {size f n k : Nat} {out : List UInt8} (h : rd r 0 = some (n, k)) (h2 : r.drop k = []) : ap src size (f + 1) r out = none := by
  rw [ap, h]; simp only []; rw [h2]
theorem ap_last {src r q : List UInt8} {size f n k : Nat} {out : List UInt8} (h : rd r 0 = some (n, k)) (h2 : r.drop k = 59 :: q) : ap src size (f + 1) r out = if q = [] ∧ out.length = size ∧ chk out = n then some out else none := by
  rw [ap, h]; simp only []; rw [h2]; simp only []; rw [if_pos trivial]
theorem ap_bad {src r q : List UInt8} {c : UInt8} {size f n k : Nat} {out : List UInt8} (h : rd r 0 = some (n, k)) (h2 : r.drop k = c :: q) (hc : c ≠ 59) (h3 : cmd src n c q = none) : ap src size (f + 1) r out = none := by
  rw [ap, h]; simp only []; rw [h2]; simp only []; rw [if_neg hc, h3]
theorem ap_more {src r q p q' : List UInt8} {c : UInt8} {size f n k : Nat} {out : List UInt8} (h : rd r 0 = some (n, k)) (h2 : r.drop k = c :: q) (hc : c ≠ 59) (h3 : cmd src n c q = some (p, q')) : ap src size (f + 1) r out = if size < out.length + p.length then none else ap src size f q' (out ++ p) := by
  rw [ap, h]; simp only []; rw [h2]; simp only []; rw [if_neg hc, h3]
theorem drop_at (s : ByteArray) (i : Nat) (h : i < s.size) : s.data.toList.drop i = s[i] :: s.data.toList.drop (i + 1) := by
  rw [List.drop_eq_getElem_cons (by simpa using h)]; rfl
theorem cmdP_bd {src l p : List UInt8} {n i j : Nat} {c : UInt8} (h : cmdP src l n i c = some (p, j)) : i < j ∧ j ≤ l.length ∧ p.length = n := by
  unfold cmdP at h
  split at h
  · split at h
    · cases h
    · rename_i a b e
      have hb := rd_bd e
      split at h
      · rename_i h3
        simp at h
        obtain ⟨rfl, rfl⟩ := h
        have := (List.getElem?_eq_some_iff.1 h3.1).1
        exact ⟨by omega, by omega, by simp; omega⟩
      · cases h
  · split at h
    · split at h
      · simp at h
        obtain ⟨rfl, rfl⟩ := h
        exact ⟨by omega, by omega, by simp; omega⟩
      · cases h
    · cases h

theorem apply_go (src d : ByteArray) (size k0 : Nat) (hs : src.size ≤ maxLen) (hd' : d.size ≤ 9223372035000000000) (hsz : size ≤ 300) (hk0 : hd d.data.toList = some (size, k0)) (hk1 : k0 ≤ d.size) (R : Option (List UInt8))
    (hR : ap src.data.toList size (d.size + 1) (d.data.toList.drop k0) [] = R) (w : World) :
    Calls Try.prog 10 #[.string src, .string d] w fun e w' => e = .returned (apV R) ∧ Below w.heap.size w w' := by
  have hd2 : d.size ≤ maxLen := by unfold maxLen; omega
  have p0 := head_some d hd2 size k0 hk0
  obtain ⟨i0, hi, hz0, hz1, hz2⟩ := info_parts u8info
  obtain ⟨wm, hmk, hown0, hgr⟩ := run_makeSlice_owned (P := Try.prog) w w.heap.size 35 5 i0 _ 1 Try.underlying35 hi hz0 hz1 .i64 .i64 size (by omega) (by rw [hz2]; omega) (by unfold maxLen; omega) (Nat.le_refl _)
  have hown1 : Own w wm (.slice (some ⟨w.heap.size, 0, none⟩) 0 size) [] := ⟨hown0, (Below.refl _ w).grown hgr (Nat.le_refl _) (fun k hk => by simp at hk)⟩
  have HR := Lib.hid hR
  clear hR hi hz0 hz1 hz2 hown0 hgr hk0
  go_enter Try.func10, Try.ntmps10
  go_wp2_with (go_at_call 20; (with_reducible refine (p0 _).mono ?_); rintro e w1 ⟨rfl, rfl⟩)
  go_loopw [7, 9] (fun a b wr => ∃ (k : Nat) (l : List UInt8), a = .int .i64 (k : Int) ∧ k ≤ d.size ∧ l.length ≤ size ∧ Own w wr b l ∧ b ≠ .slice none 0 0 ∧ Hid (∃ f, d.size - k < f ∧ ap src.data.toList size f (d.data.toList.drop k) l = R)) (fun a _ _ => d.size - (intOf a).toNat)
  case atStart => exact ⟨k0, [], rfl, hk1, by simp, hown1, by simp, Lib.hid ⟨_, by omega, HR.out⟩⟩
  case round =>
    obtain ⟨k, l, rfl, hk, hl, hown, hne, HA⟩ := hrel
    clear hown1 HR hmk p0
    obtain ⟨g, cap, rfl⟩ := hown.len hne
    have hl2 : l.length ≤ maxLen := by unfold maxLen; omega
    obtain ⟨m, hm⟩ : ∃ m, m = l.length := ⟨_, rfl⟩
    rw [← hm] at hown hne hl hl2 ⊢
    cases hr : rd d.data.toList k with
    | none =>
      obtain ⟨f, hf, hap⟩ := HA.out
      obtain ⟨f, rfl⟩ : ∃ f', f = f' + 1 := ⟨f - 1, by omega⟩
      rw [ap_none (rd_drop_none hr)] at hap
      subst hap
      have p1 := read_none d k k rfl hd2 hr
      have hb := hown.2
      clear HA hr hm
      go_wp2_with (go_at_call 21; (with_reducible refine (p1 _).mono ?_); rintro e w1 ⟨rfl, rfl⟩)
      go_ret2
      exact ⟨rfl, hb⟩
    | some x =>
      obtain ⟨n, i⟩ := x
      have hbd := rd_bd hr
      obtain ⟨hr1, hr2⟩ := rd_drop_some hr
      have p1 := read_some d k k n i rfl hd2 hr
      have hi : i ≤ d.size := by simpa using hbd.2.1
      have hn : n ≤ 1073741824 := hbd.2.2
      have hki : k < i := hbd.1
      clear hr hbd
      by_cases hlt : i < d.size
      · have t1 : ((i : Int) == (d.size : Int)) = false := by simp; omega
        rw [drop_at d i hlt] at hr2
        by_cases h59 : d[i] = 59
        · have t2 : ((d[i].toNat : Int) == 59) = true := by rw [h59]; rfl
          obtain ⟨tb, htb⟩ : ∃ tb : ByteArray, tb = ⟨l.toArray⟩ := ⟨_, rfl⟩
          have hcv := hown.conv_any hne
          rw [← htb] at hcv
          have hts : tb.size ≤ maxLen := by rw [htb]; show l.length ≤ _; omega
          have htl : tb.data.toList = l := by rw [htb]
          obtain ⟨f, hf, hap⟩ := HA.out
          obtain ⟨f, rfl⟩ : ∃ f', f = f' + 1 := ⟨f - 1, by omega⟩
          rw [h59] at hr2
          rw [ap_last hr1 hr2] at hap
          have hb := hown.2
          by_cases hlast : i + 1 = d.size
          · have t3 : ((i : Int) + 1 == (d.size : Int)) = true := by simp; omega
            have p2 := whole_any tb size n true hts
            rw [htl] at p2
            have hq : d.data.toList.drop (i + 1) = [] := List.drop_eq_nil_of_le (by simp; omega)
            by_cases hok : l.length = size ∧ chk l = n
            · have e : whole l size n true = true := by unfold whole; simp [hok.1, hok.2]
              rw [if_pos ⟨hq, hok⟩] at hap
              subst hap
              rw [e, if_pos rfl] at p2
              have HT := Lib.hid htb
              clear HA e hok hq hlast htb htl h59 hr1 hr2 hm
              go_wp2_with (first
                | (go_at_call 21; (with_reducible refine (p1 _).mono ?_); rintro e w1 ⟨rfl, rfl⟩)
                | (go_at_call 22; (with_reducible refine (p2 _).mono ?_); rintro e w1 ⟨rfl, rfl⟩))
              go_ret2
              exact ⟨by rw [HT.out]; rfl, hb⟩
            · have e : whole l size n true = false := by unfold whole; simpa using hok
              rw [if_neg (fun h => hok h.2)] at hap
              subst hap
              rw [e, if_neg (by decide)] at p2
              clear HA e hok hq hlast htb htl h59 hr1 hr2 hm
              go_wp2_with (first
                | (go_at_call 21; (with_reducible refine (p1 _).mono ?_); rintro e w1 ⟨rfl, rfl⟩)
                | (go_at_call 22; (with_reducible refine (p2 _).mono ?_); rintro e w1 ⟨rfl, rfl⟩))
              go_ret2
              exact ⟨rfl, hb⟩
          · have t3 : ((i : Int) + 1 == (d.size : Int)) = false := by simp; omega
            have p2 := whole_any tb size n false hts
            rw [htl] at p2
            have hq : d.data.toList.drop (i + 1) ≠ [] := by
              intro h
              have := congrArg List.length h
              simp at this
              omega
            rw [if_neg (fun h => hq h.1)] at hap
            subst hap
            have e : whole l size n false = false := rfl
            rw [e, if_neg (by decide)] at p2
            clear HA e hq hlast htb htl h59 hr1 hr2 hm
            go_wp2_with (first
              | (go_at_call 21; (with_reducible refine (p1 _).mono ?_); rintro e w1 ⟨rfl, rfl⟩)
              | (go_at_call 22; (with_reducible refine (p2 _).mono ?_); rintro e w1 ⟨rfl, rfl⟩))
            go_ret2
            exact ⟨rfl, hb⟩
        · have t2 : ((d[i].toNat : Int) == 59) = false := by
            have := ne_u8 (b := 59) h59
            simpa [bne] using this
          have hcm := cmd_pos src.data.toList d.data.toList n i d[i] (by simpa using hlt)
          have hb := hown.2
          cases hc : cmdP src.data.toList d.data.toList n i d[i] with
          | none =>
            have p2 := fun w => (command_both src d n i hs hd' hn hlt w).2 hc
            rw [hc] at hcm
            obtain ⟨f, hf, hap⟩ := HA.out
            obtain ⟨f, rfl⟩ : ∃ f', f = f' + 1 := ⟨f - 1, by omega⟩
            rw [ap_bad hr1 hr2 h59 hcm] at hap
            subst hap
            clear HA hc hcm h59 hr1 hr2 hm
            go_wp2_with (first
              | (go_at_call 21; (with_reducible refine (p1 _).mono ?_); rintro e w1 ⟨rfl, rfl⟩)
              | (go_at_call 23; (with_reducible refine (p2 _).mono ?_); rintro e w1 ⟨⟨y, rfl⟩, rfl⟩))
            go_ret2
            exact ⟨rfl, hb⟩
          | some x =>
            obtain ⟨p, j⟩ := x
            obtain ⟨pb, hpb⟩ : ∃ pb : ByteArray, pb = ⟨p.toArray⟩ := ⟨_, rfl⟩
            have p2 := fun w => (command_both src d n i hs hd' hn hlt w).1 p j hc
            rw [← hpb] at p2
            have hcb := cmdP_bd hc
            have hps : pb.size = p.length := by rw [hpb]; rfl
            have hpl : pb.data.toList = p := by rw [hpb]
            have hj : j ≤ d.size := by simpa using hcb.2.1
            have hij : i < j := hcb.1
            have hp1 : pb.size ≤ 1073741824 := by omega
            rw [hc] at hcm
            obtain ⟨f, hf, hap⟩ := HA.out
            obtain ⟨f, rfl⟩ : ∃ f', f = f' + 1 := ⟨f - 1, by omega⟩
            rw [ap_more hr1 hr2 h59 hcm] at hap
            by_cases hbig : size < l.length + p.length
            · rw [if_pos hbig] at hap
              subst hap
              have t4 : decide ((size : Int) - (m : Int) < (pb.size : Int)) = true := by simp; omega
              clear HA hc hcm h59 hr1 hr2 hpb hcb hps hpl hm
              go_wp2_with (first
                | (go_at_call 21; (with_reducible refine (p1 _).mono ?_); rintro e w1 ⟨rfl, rfl⟩)
                | (go_at_call 23; (with_reducible refine (p2 _).mono ?_); rintro e w1 ⟨rfl, rfl⟩))
              go_ret2
              exact ⟨rfl, hb⟩
            · rw [if_neg hbig] at hap
              have t4 : decide ((size : Int) - (m : Int) < (pb.size : Int)) = false := by simp; omega
              have hsum : l.length + pb.size ≤ size := by omega
              have hd4 : d.size - j < f := by omega
              have HN := Lib.hid (And.intro hd4 hap)
              have HP := Lib.hid hpl
              have HM := Lib.hid hm
              clear HA hc hcm h59 hr1 hr2 hpb hcb hps hpl hm hap hf hd4
              go_wp2_with (first
                | (go_at_call 21; (with_reducible refine (p1 _).mono ?_); rintro e w1 ⟨rfl, rfl⟩)
                | (go_at_call 23; (with_reducible refine (p2 _).mono ?_); rintro e w1 ⟨rfl, rfl⟩)
                | (at_builtin; (refine wpList_appS w wr rfl (.tmp 80) (.tmp 81) rfl _ l (by rfl) hown pb (by rfl) (by omega) ?_; intro v' w' hown' hne')))
              go_roundw
              case rel =>
                refine ⟨j, l ++ p, rfl, hj, ?_, ?_, ?_, Lib.hid ⟨f, HN.out.1, HN.out.2⟩⟩
                · rw [← HP.out]; simpa using hsum
                · rw [← HP.out]; exact hown'
                · intro e
                  exact hne (hne'.1 e).1
              case measure => simp [intOf]; omega
      · have t1 : ((i : Int) == (d.size : Int)) = true := by simp; omega
        obtain ⟨f, hf, hap⟩ := HA.out
        obtain ⟨f, rfl⟩ : ∃ f', f = f' + 1 := ⟨f - 1, by omega⟩
        rw [ap_end hr1 (by rw [hr2]; exact List.drop_eq_nil_of_le (by simp; omega))] at hap
        subst hap
        have hb := hown.2
        clear HA hr1 hr2 hm
        go_wp2_with (go_at_call 21; (with_reducible refine (p1 _).mono ?_); rintro e w1 ⟨rfl, rfl⟩)
        go_ret2
        exact ⟨rfl, hb⟩
theorem hd_bd {d : List UInt8} {n k : Nat} (h : hd d = some (n, k)) : k ≤ d.length ∧ n ≤ 1073741824 := by
  unfold hd at h
  split at h
  · cases h
  · rename_i a b e
    have := rd_bd e
    split at h
    · rename_i h2
      have := (List.getElem?_eq_some_iff.1 h2).1
      simp at h
      omega
    · cases h
theorem apply_any (src d : ByteArray) (hs : src.size ≤ maxLen) (hd' : d.size ≤ 9223372035000000000) (w : World) :
    Calls Try.prog 10 #[.string src, .string d] w fun e w' => e = .returned (apV (apply src.data.toList d.data.toList)) ∧ Below w.heap.size w w' := by
  have hd2 : d.size ≤ maxLen := by unfold maxLen; omega
  cases h : hd d.data.toList with
  | none =>
    have e : apply src.data.toList d.data.toList = none := by unfold apply; rw [h]
    rw [e]
    have p0 := head_none d hd2 h
    clear e h
    go_enter Try.func10, Try.ntmps10
    go_wp2_with (go_at_call 20; (with_reducible refine (p0 _).mono ?_); rintro e w1 ⟨rfl, rfl⟩)
    go_ret2
    exact ⟨rfl, Below.refl _ _⟩
  | some x =>
    obtain ⟨n, k⟩ := x
    have hb := hd_bd h
    by_cases hn : n ≤ 300
    · have e : apply src.data.toList d.data.toList = ap src.data.toList n (d.size + 1) (d.data.toList.drop k) [] := by unfold apply; rw [h]; simp only []; rw [if_pos hn]; rfl
      exact apply_go src d n k hs hd' hn h (by simpa using hb.1) _ e.symm w
    · have e : apply src.data.toList d.data.toList = none := by unfold apply; rw [h]; simp only []; rw [if_neg hn]
      rw [e]
      have p0 := head_some d hd2 n k h
      have hn2 : n ≤ 1073741824 := hb.2
      clear e h hb
      go_enter Try.func10, Try.ntmps10
      go_wp2_with (go_at_call 20; (with_reducible refine (p0 _).mono ?_); rintro e w1 ⟨rfl, rfl⟩)
      go_ret2
      exact ⟨rfl, Below.refl _ _⟩
end Go.Proofs.Ytblkblnlcogfiaa
