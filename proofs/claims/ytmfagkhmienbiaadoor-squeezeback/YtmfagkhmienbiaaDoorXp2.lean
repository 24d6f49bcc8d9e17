/- THE WALKS of squeeze.addPiece and squeeze.Expand. -/
import Derived.Test.YtmfagkhmienbiaaDoorXp
namespace Go.Proofs.YtmfagkhmienbiaaDoor
open Go.RowKit

theorem conv_nil (w : World) : (convert 30 9 (.slice none 0 0)).run Tryd.prog w = .ok (.string ByteArray.empty) w := by
  rw [run_convert_bytes_string w _ _ _ none 0 0 Tryd.underlying30 Tryd.underlying5 Tryd.underlying9]
  rfl
theorem Own.conv_all {w0 w : World} {v : Value} {l : List UInt8} (h : Own w0 w v l) : (convert 30 9 v).run Tryd.prog w = .ok (.string ⟨l.toArray⟩) w := by
  by_cases hl : l = []
  · rcases h.1.2 with ⟨h0, _⟩ | ⟨g, cap, cur, h1, _⟩
    · rw [h0, hl]; exact conv_nil w
    · exact h.conv_any (by rw [h1]; simp)
  · exact h.conv hl
/-- One piece, of what stands behind its first byte. -/
def Pieced (w0 w : World) (R : Option (List UInt8 × List UInt8)) (e : Ending) (w' : World) : Prop :=
  match R with
  | none => e = .returned noPiece ∧ Below w.heap.size w w'
  | some (o, q) => ∃ v' q', e = .returned (.tuple #[v', .string q', .bool true]) ∧ q'.data.toList = q ∧ Own w0 w' v' o
set_option maxRecDepth 100000 in
set_option maxHeartbeats 1000000 in
theorem addPiece_any (w0 w : World) (v : Value) (l : List UInt8) (hown : Own w0 w v l) (r : ByteArray) (room : Nat) (h0 : 0 < r.size) (hl : l.length ≤ 1099511627000) :
    Calls Tryd.prog 22 #[v, .string r, .int .i64 (room : Int)] w (Pieced w0 w (piece room r[0] (r.data.toList.drop 1) l)) := by
  obtain ⟨t, ht⟩ : ∃ t, t = r.extract 1 r.size := ⟨_, rfl⟩
  have hts : t.size = r.size - 1 := by rw [ht]; exact ext_size r 1 _ (Nat.le_refl _)
  have htl : t.data.toList = r.data.toList.drop 1 := by rw [ht]; exact ext_tail r 1
  have htn : t.data.toList.length = t.size := Array.length_toList
  have u0 : r[0].toNat < 256 := r[0].toNat_lt
  have q0 : IntKind.i64.wrap (r[0].toNat : Int) = (r[0].toNat : Int) := wraps63 _ (by omega) (by omega)
  have i1 : 1 ≤ r.size := by omega
  rw [← htl]
  by_cases hc : r[0].toNat < 128
  · have c0 : decide (r[0].toNat < 128) = true := by simpa using hc
    have c1 : decide ((r[0].toNat : Int) < 128) = true := by rw [decide_eq_true_iff]; omega
    have n1 : ((r[0].toNat + 1 : Nat) : Int) = (r[0].toNat : Int) + 1 := by omega
    by_cases hp : r[0].toNat + 1 ≤ room ∧ r[0].toNat + 1 ≤ t.size
    · rw [piece_plain hc hp.1 (by omega)]
      have p := fun w (ho : Own w0 w v l) => addPlain_yes w0 w v l t (r[0].toNat + 1) room ho (by omega) hp.1 hp.2 (by omega)
      rw [n1] at p
      have hx : (t.extract (r[0].toNat + 1) t.size).data.toList = t.data.toList.drop (r[0].toNat + 1) := ext_tail _ _
      generalize t.extract (r[0].toNat + 1) t.size = q' at hx p
      have HX := Lib.hid hx
      clear hx
      clear htl hts htn hp n1
      unfold Pieced
      try unfold noPiece at *
      subst ht
      go_enter Tryd.func22, Tryd.ntmps22
      go_wp2
      go_quiet (fail)
      go_wp2_with (go_at_call 29; (with_reducible refine (p _ (hown.drewN _)).mono ?_); rintro e w1 ⟨v', rfl, hown', hne⟩)
      go_ret3
      exact ⟨v', _, rfl, HX.out, hown'⟩
    · rw [piece_plain_no hc (by omega)]
      have p := addPlain_no v t (r[0].toNat + 1) room (by omega)
      rw [n1] at p
      clear htl hts htn hp n1
      unfold Pieced
      try unfold noPiece at *
      subst ht
      go_enter Tryd.func22, Tryd.ntmps22
      go_wp2
      go_quiet (fail)
      go_wp2_with (go_at_call 29; (with_reducible refine (p _).mono ?_); rintro e w1 ⟨rfl, rfl⟩)
      go_ret3
      exact ⟨rfl, drewN_below (Below.refl _ _) _⟩
  · have n1 : ((r[0].toNat - 125 : Nat) : Int) = (r[0].toNat : Int) - 125 := by omega
    have c0 : decide (r[0].toNat < 128) = false := by simpa using (by omega : 128 ≤ r[0].toNat)
    have c1 : decide ((r[0].toNat : Int) < 128) = false := by rw [decide_eq_false_iff_not]; omega
    by_cases hs : room < r[0].toNat - 125 ∨ t.size < 2
    · have e : piece room r[0] t.data.toList l = none := by
        by_cases h2 : t.size < 2
        · exact piece_copy_short (by omega) (by omega)
        · match hq : t.data.toList with
          | [] => rw [hq] at htn; simp at htn; omega
          | [_] => rw [hq] at htn; simp at htn; omega
          | _ :: _ :: _ => exact piece_copy_no (by omega) (by omega)
      rw [e]
      have p := addCopy_short v t (r[0].toNat - 125) room hs
      rw [n1] at p
      clear htl hts htn hs n1 e hc
      unfold Pieced
      try unfold noPiece at *
      subst ht
      go_enter Tryd.func22, Tryd.ntmps22
      go_wp2
      go_quiet (fail)
      go_wp2_with (go_at_call 30; (with_reducible refine (p _).mono ?_); rintro e w1 ⟨rfl, rfl⟩)
      go_ret3
      exact ⟨rfl, drewN_below (Below.refl _ _) _⟩
    · have h2 : 2 ≤ t.size := by omega
      obtain ⟨back, hb⟩ : ∃ back, back = t[0].toNat * 256 + t[1].toNat := ⟨_, rfl⟩
      have hq : t.data.toList = t[0] :: t[1] :: t.data.toList.drop 2 := by
        have a := drop_at t 0 (by omega)
        have b := drop_at t 1 (by omega)
        simp only [List.drop_zero] at a
        rw [b] at a
        exact a
      by_cases hp : 0 < back ∧ back ≤ l.length
      · have e : piece room r[0] t.data.toList l = some (cpy back (r[0].toNat - 125) l, t.data.toList.drop 2) := by
          rw [hq, hb]
          exact piece_copy (by omega) (by omega) (by omega) (by omega)
        rw [e]
        have p := fun w (ho : Own w0 w v l) => addCopy_yes w0 w v l ho t (r[0].toNat - 125) room back (by omega) h2 (by omega) (by omega) hb hp.1 hp.2
        rw [n1] at p
        have hx : (t.extract 2 t.size).data.toList = t.data.toList.drop 2 := ext_tail _ _
        generalize t.extract 2 t.size = q' at hx p
        have HX := Lib.hid hx
        clear hx
        clear htl hts htn hs n1 e hc hq hb hp
        unfold Pieced
        try unfold noPiece at *
        subst ht
        go_enter Tryd.func22, Tryd.ntmps22
        go_wp2
        go_quiet (fail)
        go_wp2_with (go_at_call 30; (with_reducible refine (p _ (hown.drewN _)).mono ?_); rintro e w1 ⟨v', rfl, hown', hne⟩)
        go_ret3
        exact ⟨v', _, rfl, HX.out, hown'⟩
      · have e : piece room r[0] t.data.toList l = none := by
          rw [hq]
          exact piece_copy_no (by omega) (by omega)
        rw [e]
        have p := fun w (ho : Own w0 w v l) => addCopy_no w0 w v l ho t (r[0].toNat - 125) room back (by omega) h2 hb (by omega)
        rw [n1] at p
        clear htl hts htn hs n1 e hc hq hb hp
        unfold Pieced
        try unfold noPiece at *
        subst ht
        go_enter Tryd.func22, Tryd.ntmps22
        go_wp2
        go_quiet (fail)
        go_wp2_with (go_at_call 30; (with_reducible refine (p _ (hown.drewN _)).mono ?_); rintro e w1 ⟨rfl, hb1⟩)
        go_ret3
        exact ⟨rfl, (drewN_below (Below.refl _ _) _).trans hb1⟩
def xpV : Option (List UInt8) → Value
  | none => .tuple #[.string ByteArray.empty, .bool false]
  | some t => .tuple #[.string ⟨t.toArray⟩, .bool true]
set_option maxRecDepth 100000 in
set_option maxHeartbeats 1000000 in
theorem expand_go (s : ByteArray) (m : Int) (i size : Nat) (hs : s.size ≤ 1099511627000) (hi : Lib.indexByte s.data.toList 59 = i) (hsz : rdDec (s.data.toList.take i) = some size) (hm : ¬ m < size) (hz : size ≤ 1073741824) (R : Option (List UInt8))
    (hR : pcs size s.size (s.data.toList.drop (i + 1)) [] = R) (w : World) :
    Calls Tryd.prog 11 #[.string s, .int .i64 m] w fun e w' => e = .returned (xpV R) ∧ Below w.heap.size w w' := by
  have hs2 : s.size ≤ maxLen := by unfold maxLen; omega
  have hlt : i < s.size := by
    have := indexByte_le s.data.toList 59
    rw [hi] at this
    simpa using this
  have p1 := cut_yes s i hi.symm hs2
  obtain ⟨hd, hhd⟩ : ∃ hd, hd = s.extract 0 i := ⟨_, rfl⟩
  obtain ⟨tl, htl⟩ : ∃ tl, tl = s.extract (i + 1) s.size := ⟨_, rfl⟩
  have hhs : hd.size ≤ maxLen := by rw [hhd, ext_size s 0 i (by omega)]; unfold maxLen; omega
  have hts : tl.size ≤ s.size := by rw [htl, ext_size s _ _ (Nat.le_refl _)]; omega
  have hdl : hd.data.toList = s.data.toList.take i := by rw [hhd, ext_head]
  have htt : tl.data.toList = s.data.toList.drop (i + 1) := by rw [htl, ext_tail]
  have p2 := readDec_any hd hhs
  rw [hdl, hsz] at p2
  rw [← hhd, ← htl] at p1
  rw [← htt] at hR
  have HR := Lib.hid hR
  have t0 : decide (m < (size : Int)) = false := by rw [decide_eq_false_iff_not]; exact hm
  clear hR hhd htl hdl htt hhs hi hsz hm hlt hs2
  unfold rdDV at p2
  have hown0 : ∀ x, Below w.heap.size w x → Own w x (.slice none 0 0) [] := fun x hx => ⟨World.ownsRow_nil _ _ _ _, hx⟩
  go_enter Tryd.func11, Tryd.ntmps11
  go_wp2_with (first
    | (go_at_call 20; (with_reducible refine (p1 _).mono ?_); rintro e w1 ⟨rfl, hb1⟩)
    | (go_at_call 21; (with_reducible refine (p2 _).mono ?_); rintro e w2 ⟨rfl, rfl⟩))
  have hown1 := hown0 _ hb1
  clear hown0 p1 p2 hb1
  go_loopg [7, 10, 11] tl.size (fun g a b c wr => ∃ (rr : ByteArray) (l : List UInt8), a = .string rr ∧ b = .bool true ∧ Own w wr c l ∧ l.length ≤ size ∧ rr.size = g ∧ Hid (∃ f, rr.size ≤ f ∧ pcs size f rr.data.toList l = R))
  case atStart => exact ⟨tl, [], rfl, rfl, hown1, by simp, rfl, Lib.hid ⟨_, hts, HR.out⟩⟩
  case round =>
    obtain ⟨rr, l, rfl, rfl, hown, hll, hg, HF⟩ := hrel
    clear hown1 HR
    obtain ⟨ad, cap, rfl⟩ := hown.lenN
    obtain ⟨M, hM⟩ : ∃ M, M = l.length := ⟨_, rfl⟩
    rw [← hM] at hown hll ⊢
    by_cases h0 : 0 < rr.size
    · obtain ⟨room, hroom⟩ : ∃ room, room = size - M := ⟨_, rfl⟩
      have hri : (size : Int) - (M : Int) = (room : Int) := by omega
      have p3 := addPiece_any w wr _ l hown rr room h0 (by omega)
      have tne := nonempty h0
      have hcons := drop_at rr 0 h0
      rw [List.drop_zero] at hcons
      cases hp : piece room rr[0] (rr.data.toList.drop 1) l with
      | none =>
        rw [hp] at p3
        unfold Pieced noPiece at p3
        have hb := hown.2
        obtain ⟨f, hf, hpcs⟩ := HF.out
        obtain ⟨f, rfl⟩ : ∃ f', f = f' + 1 := ⟨f - 1, by omega⟩
        rw [hcons, pcs_no (by rw [← hM, ← hroom]; exact hp)] at hpcs
        subst hpcs
        clear HF hp hcons hM hroom hf hg
        go_wp2_with (go_at_call 22; (with_reducible refine p3.mono ?_); rintro e w3 ⟨rfl, hb3⟩)
        go_ret2
        exact ⟨rfl, below_step hb hb3⟩
      | some x =>
        obtain ⟨o, q⟩ := x
        rw [hp] at p3
        unfold Pieced at p3
        have hpb := piece_bd hp
        obtain ⟨f, hf, hpcs⟩ := HF.out
        obtain ⟨f, rfl⟩ : ∃ f', f = f' + 1 := ⟨f - 1, by omega⟩
        rw [hcons, pcs_step (by rw [← hM, ← hroom]; exact hp)] at hpcs
        have hql : q.length ≤ rr.size - 1 := by simpa using hpb.1
        have HN := Lib.hid (And.intro hpcs (And.intro hql (And.intro hf (And.intro hg (show o.length ≤ size by omega)))))
        clear HF hp hcons hM hroom hf hpcs hpb hql hg
        go_wp2_with (go_at_call 22; (with_reducible refine p3.mono ?_); rintro e w3 ⟨v', q', rfl, hq', hown'⟩)
        go_roundg q'.size
        case measure =>
          have := HN.out
          have e : q'.data.toList.length = q'.size := Array.length_toList
          rw [hq'] at e
          omega
        case rel =>
          have hn := HN.out
          have e : q'.data.toList.length = q'.size := Array.length_toList
          refine ⟨q', o, rfl, rfl, hown', hn.2.2.2.2, rfl, Lib.hid ⟨f, ?_, ?_⟩⟩
          · rw [hq'] at e; omega
          · rw [hq']; exact hn.1
    · obtain rfl : rr = ByteArray.empty := empty_of (by omega)
      obtain ⟨f, hf, hpcs⟩ := HF.out
      have e0 : ByteArray.empty.data.toList = [] := rfl
      rw [e0, pcs_nil, ← hM] at hpcs
      have hcv := hown.conv_all
      have hb := hown.2
      by_cases hq : M = size
      · rw [if_pos hq] at hpcs
        subst hpcs
        have t1 : ((M : Int) != (size : Int)) = false := by simp; omega
        clear HF h0 hf hM hq
        go_wp2
        go_ret2
        exact ⟨rfl, hb⟩
      · rw [if_neg hq] at hpcs
        subst hpcs
        have t1 : ((M : Int) != (size : Int)) = true := by simp; omega
        clear HF h0 hf hM hq
        go_wp2
        go_ret2
        exact ⟨rfl, hb⟩
end Go.Proofs.YtmfagkhmienbiaaDoor
