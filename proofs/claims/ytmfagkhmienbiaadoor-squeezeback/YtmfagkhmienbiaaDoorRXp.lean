/- THE WALK of the reference's Expand. -/
import Derived.Test.YtmfagkhmienbiaaDoorRDec4
import Derived.Deep.LoopGhost
import Derived.Deep.DeepCutAuto
namespace Go.Proofs.YtmfagkhmienbiaaDoor
open Go.RowKit

def RX (s : List UInt8) (m : Int) (w : World) (e : Ending) (w' : World) : Prop := (∃ (t : ByteArray) (ok : Bool), e = .returned (.tuple #[.string t, .bool ok]) ∧ Hid (xpand s m = if ok then some t.data.toList else none)) ∧ Below w.heap.size w w'
theorem rx_no {s : List UInt8} {m : Int} {w w' : World} {t : ByteArray} (h : xpand s m = none) (hb : Below w.heap.size w w') : RX s m w (.returned (.tuple #[.string t, .bool false])) w' := ⟨⟨t, false, rfl, h⟩, hb⟩
theorem rx_yes {s : List UInt8} {m : Int} {w w' : World} {t : ByteArray} (h : xpand s m = some t.data.toList) (hb : Below w.heap.size w w') : RX s m w (.returned (.tuple #[.string t, .bool true])) w' := ⟨⟨t, true, rfl, h⟩, hb⟩
theorem idx_none : ∀ l : List UInt8, (∀ c ∈ l, c ≠ 59) → Lib.indexByte l 59 < 0
  | [], _ => by simp [Lib.indexByte]
  | c :: l, h => by
    have ih := idx_none l (fun d hd => h d (by simp [hd]))
    have hc : (c == 59) = false := by simpa using h c (by simp)
    rw [Lib.indexByte, hc]
    simp
    split <;> omega
theorem idx_at (l : List UInt8) (k : Nat) (hk : k < l.length) (h : ∀ c ∈ l.take k, c ≠ 59) (h2 : l[k] = 59) : Lib.indexByte l 59 = (k : Int) := by
  have e : l = l.take k ++ 59 :: l.drop (k + 1) := by
    rw [← h2, ← List.drop_eq_getElem_cons hk, List.take_append_drop]
  have := idx_app (l.take k) (l.drop (k + 1)) h
  rw [← e] at this
  rw [this]
  simp
  omega
set_option maxRecDepth 100000 in
set_option maxHeartbeats 1000000 in
theorem rexpand_any (s : ByteArray) (hs : s.size ≤ 1000000) (m : Int) (w : World) :
    Calls Tryd.prog 12 #[.string s, .int .i64 m] w (RX s.data.toList m w) := by
  have hsl : s.data.toList.length = s.size := Array.length_toList
  go_enter Tryd.func12, Tryd.ntmps12
  go_wp2_with fail
  go_loopg [6] (s.size + 1) (fun g a wr => ∃ k : Nat, a = .int .i64 (k : Int) ∧ k ≤ s.size ∧ g = s.size + 1 - k ∧ wr = w ∧ Hid (∀ c ∈ s.data.toList.take k, c ≠ 59))
  case atStart => exact ⟨0, rfl, by omega, by omega, rfl, Lib.hid fun c hc => by simp at hc⟩
  case round =>
    obtain ⟨k, rfl, hk, hg, hw, HN⟩ := hrel
    have hw := hw.symm
    subst hw
    by_cases hlt : k < s.size
    · by_cases h59 : s[k] = 59
      · have hix := idx_at s.data.toList k (by omega) HN.out h59
        have d1 : decide ((k : Int) < (s.size : Int)) = true := by simp; omega
        have d2 : ((s[k].toNat : Int) != 59) = false := by rw [h59]; rfl
        have d3 : decide ((s.size : Int) ≤ (k : Int)) = false := by simp; omega
        obtain ⟨hd, hhd⟩ : ∃ hd, hd = s.extract 0 k := ⟨_, rfl⟩
        have hdl : hd.data.toList = s.data.toList.take k := by rw [hhd, ext_head]
        have hdz : hd.size ≤ maxLen := by rw [hhd, ext_size _ _ _ hk]; unfold maxLen; omega
        have rr := rreadDec_any hd hdz
        rw [hdl] at rr
        have hhd2 : s.extract 0 k = hd := hhd.symm
        clear hdl hhd h59 hdz HN
        cases hrd : rdDec (s.data.toList.take k) with
        | none =>
          rw [hrd] at rr
          unfold rrdDV at rr
          have HX := Lib.hid (xpand_bad (m := m) hix hrd)
          clear hrd hix
          go_wp2_with (go_at_call 23; (with_reducible refine (rr _).mono ?_); rintro e w1 ⟨rfl, rfl⟩)
          go_ret2
          exact rx_no HX.out (Below.refl _ _)
        | some n =>
          rw [hrd] at rr
          unfold rrdDV at rr
          simp only [] at rr
          have hn := rdDec_le hrd
          have d4 : decide ((n : Int) < 0) = false := by simp
          by_cases hm : m < (n : Int)
          · have d5 : decide (m < (n : Int)) = true := by simpa using hm
            have HX := Lib.hid (xpand_big hix hrd hm)
            clear hrd hix
            go_wp2_with (go_at_call 23; (with_reducible refine (rr _).mono ?_); rintro e w1 ⟨rfl, rfl⟩)
            go_ret2
            exact rx_no HX.out (Below.refl _ _)
          · have d5 : decide (m < (n : Int)) = false := by simpa using hm
            have hx := xpand_go hix hrd hm
            rw [pcs_px _ _ _ _ (by simp)] at hx
            have HX := Lib.hid hx
            clear hrd hix hx hm
            go_wp2_with (go_at_call 23; (with_reducible refine (rr _).mono ?_); rintro e w1 ⟨rfl, rfl⟩)
            clear rr hhd2
            go_loopg [6, 8] (s.size - k) (fun g a b wr => ∃ (p : Nat) (O : ByteArray), a = .int .i64 (p : Int) ∧ b = .string O ∧ p ≤ s.size ∧ O.size ≤ n ∧ g = s.size + 1 - p ∧ Below w.heap.size w wr ∧ Hid (px n (s.data.toList.drop p) O.data.toList = px n (s.data.toList.drop (k + 1)) []))
            case atStart => exact ⟨k + 1, ⟨#[]⟩, by go_num, rfl, by omega, by show 0 ≤ n; omega, by omega, Below.refl _ _, Lib.hid rfl⟩
            case round =>
              obtain ⟨p, O, rfl, rfl, hp, hO, hg2, hb, HE⟩ := hrel
              have hOl : O.data.toList.length = O.size := Array.length_toList
              clear d1 d2 d3 d4 d5
              by_cases hpl : p < s.size
              · have hdr := drop_at s p hpl
                obtain ⟨c, hc⟩ : ∃ c : UInt8, s[p] = c := ⟨_, rfl⟩
                rw [hc] at hdr
                have hc8 := c.toNat_lt
                obtain ⟨r, hr⟩ : ∃ r, r = s.data.toList.drop (p + 1) := ⟨_, rfl⟩
                have hrl : r.length = s.size - (p + 1) := by rw [hr, List.length_drop, hsl]
                have hE := HE.out
                rw [hdr, ← hr] at hE
                have d1 : decide ((p : Int) < (s.size : Int)) = true := by simp; omega
                by_cases h128 : c.toNat < 128
                · have d2 : decide ((c.toNat : Int) < 128) = true := by simp; omega
                  clear hdr
                  by_cases hno : s.size - (p + 1) < c.toNat + 1 ∨ n - O.size < c.toNat + 1
                  · have HX2 := Lib.hid (HX.out.trans (hE.symm.trans (px_no (piece_plain_no h128 (by omega)))))
                    by_cases hn1 : s.size - (p + 1) < c.toNat + 1
                    · have d3 : decide ((s.size : Int) - ((p : Int) + 1) < (c.toNat : Int) + 1) = true := by simp; omega
                      clear hE HE hno
                      go_wp2_with fail
                      go_ret2
                      exact rx_no HX2.out hb
                    · have d3 : decide ((s.size : Int) - ((p : Int) + 1) < (c.toNat : Int) + 1) = false := by simp; omega
                      have d4 : decide ((n : Int) - (O.size : Int) < (c.toNat : Int) + 1) = true := by simp; omega
                      clear hE HE hno
                      go_wp2_with fail
                      go_ret2
                      exact rx_no HX2.out hb
                  · have d3 : decide ((s.size : Int) - ((p : Int) + 1) < (c.toNat : Int) + 1) = false := by simp; omega
                    have d4 : decide ((n : Int) - (O.size : Int) < (c.toNat : Int) + 1) = false := by simp; omega
                    have hst := px_step (piece_plain (room := n - O.data.toList.length) (out := O.data.toList) h128 (by omega) (by omega : c.toNat + 1 ≤ r.length))
                    obtain ⟨q, hq⟩ : ∃ q : Nat, q = p + 1 + c.toNat + 1 := ⟨_, rfl⟩
                    have hq1 : (p : Int) + 1 + (c.toNat : Int) + 1 = (q : Int) := by omega
                    have hq2 : q ≤ s.size := by omega
                    have e1 : (O ++ s.extract (p + 1) q : ByteArray).data.toList = O.data.toList ++ r.take (c.toNat + 1) := by
                      have : (O ++ s.extract (p + 1) q : ByteArray).data.toList = O.data.toList ++ (s.extract (p + 1) q).data.toList := by simp
                      rw [this, ext_mid, ← hr, show q - (p + 1) = c.toNat + 1 by omega]
                    have e2 : s.data.toList.drop q = r.drop (c.toNat + 1) := by rw [hr, List.drop_drop, show p + 1 + (c.toNat + 1) = q by omega]
                    have HN : Hid (px n (s.data.toList.drop q) (O ++ s.extract (p + 1) q : ByteArray).data.toList = px n (s.data.toList.drop (k + 1)) []) := Lib.hid (by rw [e1, e2, ← hst]; exact hE)
                    have HZ : Hid ((O ++ s.extract (p + 1) q : ByteArray).size = O.size + c.toNat + 1) := Lib.hid (by rw [ByteArray.size_append, ext_size _ _ _ hq2]; omega)
                    have l1 : (p : Int) + 1 ≤ (q : Int) := by omega
                    have l2 : (q : Int) ≤ (s.size : Int) := by omega
                    have f1 : ¬ 9223372036854775807 < O.size + (q - (p + 1)) := by omega
                    have hq3 : p + 1 + c.toNat + 1 ≤ q := by omega
                    have hq4 : O.size + c.toNat + 1 ≤ n := by omega
                    clear hE HE hno hst hq e1 e2 hr hrl
                    go_wp2_with fail
                    go_roundg (s.size + 1 - q)
                    case measure => omega
                    case rel => exact ⟨q, _, by go_num, rfl, hq2, by rw [HZ.out]; omega, rfl, hb, HN⟩
                · have d2 : decide ((c.toNat : Int) < 128) = false := by simp; omega
                  clear hdr
                  by_cases h2 : s.size - (p + 1) < 2
                  · have d3 : decide ((s.size : Int) - ((p : Int) + 1) < 2) = true := by simp; omega
                    have HX2 := Lib.hid (HX.out.trans (hE.symm.trans (px_no (piece_copy_short (by omega) (by omega)))))
                    clear hE HE
                    go_wp2_with fail
                    go_ret2
                    exact rx_no HX2.out hb
                  · have d3 : decide ((s.size : Int) - ((p : Int) + 1) < 2) = false := by simp; omega
                    have hp1 : p + 1 < s.size := by omega
                    have hp2 : p + 1 + 1 < s.size := by omega
                    have ha := drop_at s (p + 1) hp1
                    have hb2 := drop_at s (p + 1 + 1) hp2
                    obtain ⟨x, hx⟩ : ∃ x : UInt8, s[p + 1] = x := ⟨_, rfl⟩
                    obtain ⟨y, hy⟩ : ∃ y : UInt8, s[p + 1 + 1] = y := ⟨_, rfl⟩
                    rw [hx] at ha
                    rw [hy] at hb2
                    rw [← hr, hb2] at ha
                    obtain ⟨F, hF⟩ : ∃ F : Nat, F = x.toNat * 256 + y.toNat := ⟨_, rfl⟩
                    obtain ⟨nn, hnn⟩ : ∃ nn : Nat, nn = c.toNat - 125 := ⟨_, rfl⟩
                    have e0 := or256 x.toNat y.toNat x.toNat_lt y.toNat_lt
                    rw [← hF] at e0
                    have u1 := x.toNat_lt
                    have u2 := y.toNat_lt
                    have hFb : F < 65536 := by omega
                    have i0 : (0 : Int) ≤ (p : Int) + 1 := by omega
                    have i1 : (p : Int) + 1 < (s.size : Int) := by omega
                    have i2 : (0 : Int) ≤ (p : Int) + 1 + 1 := by omega
                    have i3 : (p : Int) + 1 + 1 < (s.size : Int) := by omega
                    have n1 : ((p : Int) + 1).toNat = p + 1 := by omega
                    have n2 : ((p : Int) + 1 + 1).toNat = p + 1 + 1 := by omega
                    have q0 : IntKind.i64.wrap (x.toNat : Int) = (x.toNat : Int) := wraps63 _ (by omega) (by omega)
                    have q1 : IntKind.i64.wrap (y.toNat : Int) = (y.toNat : Int) := wraps63 _ (by omega) (by omega)
                    have q2 : IntKind.i64.wrap ((x.toNat : Int) * 256) = (x.toNat : Int) * 256 := wraps63 _ (by omega) (by omega)
                    have q3 : IntKind.i64.wrap ((c.toNat : Int) - 128) = (c.toNat : Int) - 128 := wraps63 _ (by omega) (by omega)
                    have q4 : IntKind.i64.wrap ((c.toNat : Int) - 128 + 3) = (c.toNat : Int) - 128 + 3 := wraps63 _ (by omega) (by omega)
                    have q5 : IntKind.i64.wrap ((p : Int) + 1 + 1) = (p : Int) + 1 + 1 := wraps63 _ (by omega) (by omega)
                    have r0 : (c.toNat : Int) - 128 + 3 = (nn : Int) := by omega
                    have r1 : IntKind.i64.wrap (nn : Int) = (nn : Int) := wraps63 _ (by omega) (by omega)
                    have hnb : nn ≤ 130 := by omega
                    have hc128 : 128 ≤ c.toNat := by omega
                    by_cases hno : F < 1 ∨ O.size < F ∨ n - O.size < nn
                    · have HX2 := Lib.hid (HX.out.trans (hE.symm.trans (px_no (by rw [ha]; exact piece_copy_no hc128 (by omega)))))
                      clear hE HE ha hb2 hr hF hnn hrl u1 u2
                      go_wp2_with fail
                      go_quiet (fail)
                      clear q0 q1 q2 q3 q4 q5 e0 r0 r1
                      by_cases t1 : F < 1
                      · have d4 : decide ((F : Int) < 1) = true := by simp; omega
                        go_wp2_with fail
                        go_ret2
                        exact rx_no HX2.out (drewN_below hb _)
                      · have d4 : decide ((F : Int) < 1) = false := by simp; omega
                        by_cases t2 : O.size < F
                        · have d5 : decide (O.size < F) = true := by simp; omega
                          go_wp2_with fail
                          go_ret2
                          exact rx_no HX2.out (drewN_below hb _)
                        · have d5 : decide (O.size < F) = false := by simp; omega
                          have d6 : decide ((n : Int) - (O.size : Int) < (nn : Int)) = true := by simp; omega
                          clear hno
                          go_wp2_with fail
                          go_ret2
                          exact rx_no HX2.out (drewN_below hb _)
                    · have d4 : decide ((F : Int) < 1) = false := by simp; omega
                      have d5 : decide (O.size < F) = false := by simp; omega
                      have d6 : decide ((n : Int) - (O.size : Int) < (nn : Int)) = false := by simp; omega
                      have hst := px_step (size := n) (piece_copy (room := n - O.data.toList.length) (c := c) (h := x) (l := y) (q := s.data.toList.drop (p + 1 + 1 + 1)) (out := O.data.toList) hc128 (by omega) (by omega) (by omega))
                      rw [← hF, ← hnn] at hst
                      have HN : Hid (px n (s.data.toList.drop (p + 1 + 2)) (cpy F nn O.data.toList) = px n (s.data.toList.drop (k + 1)) []) := Lib.hid (by rw [← hE, ha, hst])
                      have hF1 : 1 ≤ F := by omega
                      have hF2 : F ≤ O.size := by omega
                      have hF3 : O.size + nn ≤ n := by omega
                      clear hE HE ha hb2 hr hF hnn hrl u1 u2 hst hno
                      go_wp2_with fail
                      go_quiet (fail)
                      clear q0 q1 q2 q3 q4 q5 e0 r0 r1
                      go_wp2_with fail
                      have hb3 := drewN_below hb nq
                      generalize wr.drewN nq = wq at hb3 ⊢
                      go_loopg [8, 120] (nn + 1) (fun g o i wx => ∃ (Q : ByteArray) (j : Nat), o = .string Q ∧ i = .int .i64 (j : Int) ∧ j ≤ nn ∧ g = nn + 1 - j ∧ Below w.heap.size w wx ∧ O.size + j = Q.size ∧ Hid (Q.data.toList = cpy F j O.data.toList))
                      case atStart => exact ⟨O, 0, rfl, rfl, by omega, by omega, hb3, rfl, Lib.hid rfl⟩
                      case round =>
                        obtain ⟨Q, j, rfl, rfl, hj, hg3, hb4, hQ, HQ⟩ := hrel
                        clear d1 d2 d3 d4 d5 d6
                        by_cases hjl : j < nn
                        · obtain ⟨t, ht⟩ : ∃ t : Nat, t = Q.size - F := ⟨_, rfl⟩
                          have e1 : (Q.size : Int) - (F : Int) = (t : Int) := by omega
                          have e2 : t < Q.size := by omega
                          have e3 : t + 1 ≤ Q.size := by omega
                          have HN2 : Hid ((Q ++ Q.extract t (t + 1)).data.toList = cpy F (j + 1) O.data.toList) := Lib.hid (by
                            have e : (Q ++ Q.extract t (t + 1)).data.toList = Q.data.toList ++ (Q.extract t (t + 1)).data.toList := by simp
                            rw [e, ext_one Q t e2, cpy_next, ← HQ.out, ht]
                            simp)
                          have hz : O.size + (j + 1) = (Q ++ Q.extract t (t + 1)).size := by rw [ByteArray.size_append, ext_size _ _ _ e3]; omega
                          have HZ := Lib.hid hz
                          clear ht HQ hz
                          go_wp2_with fail
                          go_roundg (nn + 1 - (j + 1))
                          case measure => omega
                          case rel => exact ⟨_, j + 1, rfl, by go_num, by omega, rfl, hb4, HZ.out, HN2⟩
                        · obtain rfl : j = nn := by omega
                          have HN3 : Hid (px n (s.data.toList.drop (p + 1 + 2)) Q.data.toList = px n (s.data.toList.drop (k + 1)) []) := Lib.hid (by rw [HQ.out]; exact HN.out)
                          go_wp2_with fail
                          go_roundg (s.size + 1 - (p + 1 + 2))
                          case measure => omega
                          case rel => exact ⟨p + 1 + 2, Q, by go_num, rfl, by omega, by omega, rfl, hb4, HN3⟩
              · obtain rfl : p = s.size := by omega
                have d1 : decide ((s.size : Int) < (s.size : Int)) = false := by simp
                have hE := HE.out
                rw [List.drop_of_length_le (by omega), px_nil, hOl] at hE
                by_cases hz : O.size = n
                · rw [if_pos hz] at hE
                  have HX2 := Lib.hid (HX.out.trans hE.symm)
                  have d2 : ((O.size : Int) == (n : Int)) = true := by simp; omega
                  clear hE HE hz
                  go_wp2_with fail
                  go_ret2
                  exact rx_yes HX2.out hb
                · rw [if_neg hz] at hE
                  have HX2 := Lib.hid (HX.out.trans hE.symm)
                  have d2 : ((O.size : Int) == (n : Int)) = false := by simp; omega
                  clear hE HE hz
                  go_wp2_with fail
                  go_ret2
                  exact rx_no HX2.out hb
      · have d1 : decide ((k : Int) < (s.size : Int)) = true := by simp; omega
        have d2 : ((s[k].toNat : Int) != 59) = true := by
          rw [bne_iff_ne]
          intro e
          exact h59 (UInt8.toNat_inj.1 (Int.ofNat_inj.1 e))
        have HN2 : Hid (∀ c ∈ s.data.toList.take (k + 1), c ≠ 59) := Lib.hid fun c hc => by
          rw [List.take_add_one, List.getElem?_eq_getElem (by omega)] at hc
          rcases List.mem_append.1 hc with h | h
          · exact HN.out c h
          · simp at h
            rw [h]
            exact h59
        clear h59
        go_wp2_with fail
        go_roundg (s.size + 1 - (k + 1))
        case measure => omega
        case rel => exact ⟨k + 1, by go_num, by omega, rfl, rfl, HN2⟩
    · obtain rfl : k = s.size := by omega
      have d1 : decide ((s.size : Int) < (s.size : Int)) = false := by simp
      have hix := idx_none s.data.toList (by have := HN.out; rwa [List.take_of_length_le (by omega)] at this)
      have HX := Lib.hid (xpand_none (m := m) hix)
      clear hix
      go_wp2_with fail
      go_ret2
      exact rx_no HX.out (Below.refl _ _)
end Go.Proofs.YtmfagkhmienbiaaDoor
