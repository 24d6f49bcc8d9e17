/- THE WALK of squeeze.Press. -/
import Derived.Test.YtmfagkhmienbiaaDoorPpl
import Derived.Test.YtmfagkhmienbiaaDoorDc4
import Derived.Lib.ItoaLen
namespace Go.Proofs.YtmfagkhmienbiaaDoor
open Go.RowKit Go.Maps

theorem conv_s (s : ByteArray) (w : World) : (convert 9 30 (.string s)).run Tryd.prog w = .ok (.slice (some ⟨w.heap.size, 0, none⟩) s.size (grownCap w s.size 0 5)) (Lib.bytesWorld w 5 s) :=
  Lib.run_convert_string_bytes w _ _ _ s Tryd.underlying9 Tryd.underlying30 Tryd.underlying5
def PressOk (s p : List UInt8) : Prop :=
  (∀ m : Int, xpand p m = if m < s.length then none else some s) ∧ p.length ≤ (Lib.decDigits s.length).length + 1 + (s.length + s.length / 128 + 1) ∧ (Mono s → 100 ≤ s.length → p.length ≤ (Lib.decDigits s.length).length + 1 + (5 + s.length / 130 * 3))
theorem iinfo : (Tryd.prog.info? 3).map (fun i => (i.zero, i.size, i.bytes)) = some (some (.int .i64 0), 1, 8) := by kernel_rfl
def zints (n : Nat) : Array Value := madeCells #[.int .i64 0] n
theorem zints_size (n : Nat) : (zints n).size = n := by
  have : (zints n).toList.length = n := by unfold zints; rw [toList_madeCells_one]; simp
  simpa using this
theorem mkints (n : Nat) (hn : n ≤ 60000) (w : World) : (Instr.makeSlice 22 (.int .i64 (n : Int)) (.int .i64 (n : Int))).run Tryd.prog w = .ok (.slice (some ⟨w.heap.size, 0, none⟩) n n) (w.alloc (.cells (zints n) 3)) := by
  obtain ⟨i0, hi, hz0, hz1, hz2⟩ := info_parts iinfo
  have h := run_make (P := Tryd.prog) w 22 3 i0 _ Tryd.underlying22 hi hz0 .i64 .i64 n n (by omega) (by omega) (by rw [hz2]; omega) (by omega)
  rw [h, hz1]
  simp [zints, Value.cells]
theorem OwnM.tur {B : Nat} {w w' : World} {v : Value} {l s : List UInt8} {b1 b2 k : Nat} (h : OwnM B w v l) (hk : Kn s b1 b2 k w) (t : Tur b1 b2 w w') : OwnM B w' v l := h.kept fun g hg => by
  obtain ⟨_, h1, cs, fr, h2⟩ := h.lt g hg
  obtain ⟨D, n, row, ⟨es, c, e1, _⟩, _, a3, _⟩ := hk
  refine t.block g h1 (fun e => ?_) (fun e => ?_)
  · rw [e, e1] at h2; cases h2
  · unfold Rw at a3
    rw [e, a3] at h2
    simp at h2
theorem Kn.fr {B : Nat} {w w' : World} {s : List UInt8} {b1 b2 k : Nat} (hk : Kn s b1 b2 k w) (f : Fr B w w') : Kn s b1 b2 k w' := by
  have hl := hk.lt
  obtain ⟨D, n, row, ⟨es, c, e1, e2⟩, a2, a3, a4⟩ := hk
  have h1 := f.block b1 hl.1 (Or.inr fun cs fr => by rw [e1]; simp)
  have h2 := f.block b2 hl.2.1 (Or.inr fun cs fr => by unfold Rw at a3; rw [a3]; simp)
  exact ⟨D, n, row, ⟨es, c, h1.trans e1, e2⟩, a2, h2.trans a3, a4⟩
theorem Rw.fr {B g : Nat} {w w' : World} {t : TypeId} {cs : Array Value} (h : Rw w g t cs) (ht : t ≠ 5) (f : Fr B w w') : Rw w' g t cs := (f.block g h.size (Or.inr fun cs' fr e => by unfold Rw at h; rw [h] at e; simp at e; exact ht e.2.1)).trans h
theorem Rw.tur {b1 b2 g : Nat} {w w' : World} {t : TypeId} {cs : Array Value} (h : Rw w g t cs) (h1 : g ≠ b1) (h2 : g ≠ b2) (f : Tur b1 b2 w w') : Rw w' g t cs := (f.block g h.size h1 h2).trans h
theorem Tur.below {b1 b2 B : Nat} {w w' : World} (t : Tur b1 b2 w w') (h1 : B ≤ b1) (h2 : B ≤ b2) (hB : B ≤ w.heap.size) : Below B w w' := ⟨t.os, t.tape, t.output, t.size, fun k hk => t.block k (by omega) (by omega) (by omega)⟩
theorem kn_start (s : List UInt8) (b1 b2 : Nat) (w : World) (n : Nat) (h : MapOwn w b1 0 (.map [])) (hr : Rw w b2 3 (zints n)) (hn : n = s.length) : Kn s b1 b2 0 w :=
  ⟨.map [], 0, _, h, Nat.le_refl _, hr, knd_start s, by rw [zints_size]; exact hn, fun j hj => absurd hj (by omega)⟩
set_option maxRecDepth 100000 in
set_option maxHeartbeats 1000000 in
theorem press_any (S : ByteArray) (hS : S.size ≤ 60000) (w : World) (hP : Pow w) :
    Calls Tryd.prog 8 #[.string S] w fun e w' => ∃ p : ByteArray, e = .returned (.string p) ∧ Hid (PressOk S.data.toList p.data.toList) ∧ Below w.heap.size w w' := by
  have hSl : S.data.toList.length = S.size := Array.length_toList
  obtain ⟨dd, hdd⟩ : ∃ d : ByteArray, d = ⟨(Lib.decDigits S.size).toArray⟩ := ⟨_, rfl⟩
  have hdz : dd.size ≤ 20 := by
    have e : dd.size = (Lib.decDigits S.size).length := by rw [hdd]; rfl
    rw [e, Lib.decDigits_length]
    exact Lib.nDigits_le20 _ (by omega)
  have hdl : dd.data.toList = Lib.decDigits S.size := by rw [hdd]
  have g1 := dec_to (S.size : Int) S.size dd rfl hdd (by omega)
  have d1 : decide (60000 < (S.size : Int)) = false := by simp; omega
  have HD := Lib.hid hdl
  have hmm := @run_makeMap Tryd.prog
  have hms := mkints S.size hS
  have cv := conv_s dd
  clear hdd hdl
  go_enter Tryd.func8, Tryd.ntmps8
  go_upto_region 4 with (first
    | (go_at_call 14; (with_reducible refine (g1 _ hP).mono ?_); rintro e w1 ⟨rfl, hb1⟩; obtain ⟨o0, hb2⟩ := ownM_start w1 dd w.heap.size hb1.size (by omega))
    | (at_builtin; refine wpList_appM _ rfl _ _ rfl rfl _ dd.data.toList rfl (o0.step ((Below.refl _ _).alloc (Nat.le_refl _) _)) [59] 1 1 _ _ rfl rfl (Rw.fresh _ _ #[.int .u8 59]) rfl (by have := hb1.size; have := hb2.size; simp; omega) (by simp; omega) ?_; intro v1 w2 o1 f1))
  have hB2 : Below w.heap.size w w2 := (((below_step hb1 hb2).alloc (by have := hb1.size; have := hb2.size; omega) _)).trans (f1.below (by have := hb1.size; have := hb2.size; simp; omega))
  clear f1 o0 hb1 hb2 cv g1
  go_upto_region 5 with fail
  have hbb : w.heap.size ≤ w2.heap.size := hB2.size
  have x1 : Below w2.heap.size w2 (w2.alloc (.map #[] 0)) := (Below.refl _ _).alloc (Nat.le_refl _) _
  have x2 : Below w2.heap.size w2 ((w2.alloc (.map #[] 0)).alloc (.cells (zints S.size) 3)) := x1.alloc (by simp) _
  have x3 : Below w2.heap.size w2 (((w2.alloc (.map #[] 0)).alloc (.cells (zints S.size) 3)).alloc (.cells #[.map (some w2.heap.size), .slice (some ⟨w2.heap.size + 1, 0, none⟩) S.size S.size] 42)) := x2.alloc (by simp; omega) _
  have y1 : Rw (((w2.alloc (.map #[] 0)).alloc (.cells (zints S.size) 3)).alloc (.cells #[.map (some w2.heap.size), .slice (some ⟨w2.heap.size + 1, 0, none⟩) S.size S.size] 42)) (w2.heap.size + 1) 3 (zints S.size) := by
    have := (Rw.fresh (w2.alloc (.map #[] 0)) 3 (zints S.size)).alloc (.cells #[.map (some w2.heap.size), .slice (some ⟨w2.heap.size + 1, 0, none⟩) S.size S.size] 42)
    simpa using this
  have y2 : Rw (((w2.alloc (.map #[] 0)).alloc (.cells (zints S.size) 3)).alloc (.cells #[.map (some w2.heap.size), .slice (some ⟨w2.heap.size + 1, 0, none⟩) S.size S.size] 42)) (w2.heap.size + 1 + 1) 42 #[.map (some w2.heap.size), .slice (some ⟨w2.heap.size + 1, 0, none⟩) S.size S.size] := by
    have := Rw.fresh ((w2.alloc (.map #[] 0)).alloc (.cells (zints S.size) 3)) 42 #[.map (some w2.heap.size), .slice (some ⟨w2.heap.size + 1, 0, none⟩) S.size S.size]
    simpa using this
  have y3 : MapOwn (((w2.alloc (.map #[] 0)).alloc (.cells (zints S.size) 3)).alloc (.cells #[.map (some w2.heap.size), .slice (some ⟨w2.heap.size + 1, 0, none⟩) S.size S.size] 42)) w2.heap.size 0 (.map []) := by
    have h0 : MapOwn (w2.alloc (.map #[] 0)) w2.heap.size 0 (.map []) := World.ownsMap_made w2 _ _ _
    exact (h0.below ((Below.refl _ _).alloc (Nat.le_refl _) (.cells (zints S.size) 3)) (by simp)).below ((Below.refl _ _).alloc (Nat.le_refl _) _) (by simp; omega)
  have hk5 := kn_start S.data.toList w2.heap.size (w2.heap.size + 1) _ S.size y3 y1 hSl.symm
  have o5 := o1.step x3
  have hB5 := below_step hB2 x3
  generalize ((w2.alloc (.map #[] 0)).alloc (.cells (zints S.size) 3)).alloc (.cells #[.map (some w2.heap.size), .slice (some ⟨w2.heap.size + 1, 0, none⟩) S.size S.size] 42) = w5 at y2 hk5 o5 hB5 ⊢
  clear x1 x2 x3 y1 y3 hmm hms o1 hB2
  generalize w2.heap.size = b1 at y2 hk5 hbb ⊢
  go_wp2_with fail
  go_loopg [3, 5, 6] (S.size + 1) (fun g a b c wr => ∃ (v : Value) (C : List UInt8) (j k : Nat), a = v ∧ b = .int .i64 (j : Int) ∧ c = .int .i64 (k : Int) ∧ j ≤ k ∧ k ≤ S.size ∧ g = S.size + 1 - k ∧ OwnM w.heap.size wr v (dd.data.toList ++ [59] ++ C) ∧ Kn S.data.toList b1 (b1 + 1) k wr ∧ Rw wr (b1 + 1 + 1) 42 #[.map (some b1), .slice (some ⟨b1 + 1, 0, none⟩) S.size S.size] ∧ Below w.heap.size w wr ∧ Hid (St S.data.toList k j C) ∧ Hid (Mono S.data.toList → 100 ≤ S.size → Mn S.size k j C.length))
  case atStart => exact ⟨v1, [], 0, 0, rfl, rfl, rfl, by omega, by omega, by omega, by rw [List.append_nil]; exact o5, hk5, y2, hB5, Lib.hid (St.start _), Lib.hid fun _ _ => Mn.start _⟩
  case round =>
    obtain ⟨v, C, j, k, rfl, rfl, rfl, hjk, hk, hg, ho, hkn, hr, hb, HS, HM⟩ := hrel
    clear y2 hk5 o5 hB5
    have hCl : C.length ≤ 61000 := by
      have := HS.out.2.2.2
      omega
    have c0 : wr.cell? ⟨b1 + 1 + 1, 0, none⟩ = some (.map (some b1)) := hr.at 0
    have c1 : wr.cell? ⟨b1 + 1 + 1, 1, none⟩ = some (.slice (some ⟨b1 + 1, 0, none⟩) S.size S.size) := hr.at 1
    by_cases hlt : k < S.size
    · have lg := longest_any S hS b1 (b1 + 1) k hk wr hkn
      go_upto_region 9 with (go_at_call 16; (with_reducible refine lg.mono ?_); rintro e w3 ⟨back, z, rfl, HL, hb3⟩)
      have ho3 := ho.step hb3
      have hkn3 := hkn.step hb3
      have hr3 := hr.below hb3 hr.size
      have hbw3 := below_step hb hb3
      clear lg ho hkn hr hb hb3 c0 c1
      have hl0 := HL.out
      obtain ⟨⟨hz1, hz2, hz3, _⟩, _⟩ := hl0
      rw [hSl] at hz2
      obtain ⟨jk, hjk2⟩ : ∃ jk : Bool, decide (j < k) = jk := ⟨_, rfl⟩
      obtain ⟨sb, hsb⟩ : ∃ sb : Bool, (if jk then decide (3 < z) else decide (3 ≤ z)) = sb := ⟨_, rfl⟩
      have sv := saves_any z jk
      rw [hsb] at sv
      have c0 : w3.cell? ⟨b1 + 1 + 1, 0, none⟩ = some (.map (some b1)) := hr3.at 0
      have c1 : w3.cell? ⟨b1 + 1 + 1, 1, none⟩ = some (.slice (some ⟨b1 + 1, 0, none⟩) S.size S.size) := hr3.at 1
      have hkl := hkn3.lt
      cases sb
      · have HV : Hid ((j < k → z ≤ 3) ∧ (¬ j < k → z < 3)) := Lib.hid (by
          constructor
          · intro h
            have : jk = true := by rw [← hjk2]; simp; omega
            rw [this] at hsb
            simpa using hsb
          · intro h
            have : jk = false := by rw [← hjk2]; simp; omega
            rw [this] at hsb
            simpa using hsb)
        have ad : Calls Tryd.prog 18 #[plc b1 (b1 + 1) S.size, .string S, .int .i64 (k : Int), .int .i64 1] w3 fun e w' => e = .returned (.tuple #[]) ∧ Kn S.data.toList b1 (b1 + 1) (k + 1) w' ∧ Tur b1 (b1 + 1) w3 w' := add_any S hS b1 (b1 + 1) k 1 (by omega) (by omega) w3 hkn3
        clear hsb
        go_wp2_with (first
          | (go_at_call 17; (with_reducible refine (sv _).mono ?_); rintro e w4 ⟨rfl, rfl⟩)
          | (go_at_call 18; (with_reducible refine ad.mono ?_); rintro e w5 ⟨rfl, hkn5, ht5⟩))
        go_roundg (S.size + 1 - (k + 1))
        case measure => omega
        case rel =>
          refine ⟨_, C, j, k + 1, rfl, rfl, by go_num, by omega, by omega, rfl, ho3.tur hkn3 ht5, hkn5, hr3.tur (by omega) (by omega) ht5, hbw3.trans (ht5.below hbb (by omega) hbw3.size), Lib.hid (HS.out.skip (by omega)), Lib.hid fun h1 h2 => ?_⟩
          refine (HM.out h1 h2).skip h2 hlt (fun h3 h4 => ?_) HV.out
          have := HL.out.2 h1 h3 (by omega)
          rw [hSl] at this
          exact this
      · have HV : Hid ((j < k → 4 ≤ z) ∧ 3 ≤ z) := Lib.hid (by
          by_cases h : j < k
          · have : jk = true := by rw [← hjk2]; simp; omega
            rw [this] at hsb
            simp at hsb
            exact ⟨fun _ => hsb, by omega⟩
          · have : jk = false := by rw [← hjk2]; simp; omega
            rw [this] at hsb
            simp at hsb
            exact ⟨fun h2 => absurd h2 h, hsb⟩)
        have hz4 := hz3 (by have := HV.out.2; omega)
        have hz5 := HV.out.2
        obtain ⟨t, ht⟩ : ∃ t, t = S.extract j k := ⟨_, rfl⟩
        have htz : t.size = k - j := by rw [ht, ext_size _ _ _ hk]
        have htl : t.data.toList = (S.data.toList.drop j).take (k - j) := by rw [ht, ext_mid]
        have HT := Lib.hid htl
        have ht2 : S.extract j k = t := ht.symm
        have pp := putPlain_any w.heap.size u3 _ t (by omega) (by simp; omega) w3 hbw3.size ho3
        obtain ⟨x1, hx1⟩ : ∃ x : UInt8, x = UInt8.ofNat (z + 125) := ⟨_, rfl⟩
        obtain ⟨x2, hx2⟩ : ∃ x : UInt8, x = UInt8.ofNat (back / 256) := ⟨_, rfl⟩
        obtain ⟨x3, hx3⟩ : ∃ x : UInt8, x = UInt8.ofNat (back % 256) := ⟨_, rfl⟩
        have q1 : x1.toNat = z + 125 := by rw [hx1, UInt8.toNat_ofNat']; omega
        have q2 : x2.toNat = back / 256 := by rw [hx2, UInt8.toNat_ofNat']; omega
        have q3 : x3.toNat = back % 256 := by rw [hx3, UInt8.toNat_ofNat']; omega
        have hcp : cpB back z = [x1, x2, x3] := by rw [hx1, hx2, hx3]; rfl
        have HC := Lib.hid hcp
        have r1 : (z : Int) + 125 = (x1.toNat : Int) := by omega
        have r2 : (back : Int) / 256 = (x2.toNat : Int) := by omega
        have r3 : (back : Int) % 256 = (x3.toNat : Int) := by omega
        have b1' : (x1.toNat : Int) < 256 := by omega
        have b2' : (x2.toNat : Int) < 256 := by omega
        have b3' : (x3.toNat : Int) < 256 := by omega
        clear hsb ht htl hx1 hx2 hx3 q1 q2 q3 hcp
        go_upto_region 13 with (first
          | (go_at_call 17; (with_reducible refine (sv _).mono ?_); rintro e w4 ⟨rfl, rfl⟩)
          | (go_at_call 19; (with_reducible refine pp.mono ?_); rintro e w5 ⟨v5, rfl, o5, f5⟩))
        have hkn5 := hkn3.fr f5
        have hr5 := hr3.fr (by decide) f5
        have hbw5 := hbw3.trans (f5.below hbw3.size)
        have hpl : (pl t.data.toList).length ≤ 70000 := by rw [pl_len, show t.data.toList.length = t.size from Array.length_toList]; omega
        clear sv pp f5 hkn3 hr3 ho3 c0 c1 hbw3
        have hA : Below w5.heap.size w5 (w5.alloc (.cells #[.int .u8 (x1.toNat : Int), .int .u8 (x2.toNat : Int), .int .u8 (x3.toNat : Int)] 5)) := (Below.refl _ _).alloc (Nat.le_refl _) _
        have rA : Rw (w5.alloc (.cells #[.int .u8 (x1.toNat : Int), .int .u8 (x2.toNat : Int), .int .u8 (x3.toNat : Int)] 5)) w5.heap.size 5 #[.int .u8 (x1.toNat : Int), .int .u8 (x2.toNat : Int), .int .u8 (x3.toNat : Int)] := Rw.fresh _ _ _
        have oA := o5.step hA
        have kA := hkn5.step hA
        have sA := hr5.below hA hr5.size
        have bA := below_step hbw5 hA
        clear o5 hkn5 hr5 hbw5
        go_upto_region 14 with (at_builtin; refine wpList_appM _ rfl _ _ rfl rfl _ _ rfl oA [x1, x2, x3] 3 3 w5.heap.size _ rfl rfl rA rfl bA.size (by simp; omega) ?_; intro v6 w6 o6 f6)
        have kn6 := kA.fr f6
        have r6 := sA.fr (by decide) f6
        have b6 := bA.trans (f6.below bA.size)
        clear hA rA oA kA sA bA f6 r1 r2 r3 b1' b2' b3'
        have c0 : w6.cell? ⟨b1 + 1 + 1, 0, none⟩ = some (.map (some b1)) := r6.at 0
        have c1 : w6.cell? ⟨b1 + 1 + 1, 1, none⟩ = some (.slice (some ⟨b1 + 1, 0, none⟩) S.size S.size) := r6.at 1
        have ad := add_any S hS b1 (b1 + 1) k z (by omega) (by omega) w6 kn6
        have hl6 := kn6.lt
        go_wp2_with (go_at_call 18; (with_reducible refine ad.mono ?_); rintro e w7 ⟨rfl, kn7, t7⟩)
        go_roundg (S.size + 1 - (k + z))
        case measure => omega
        case rel =>
          have e7 : dd.data.toList ++ [59] ++ C ++ pl t.data.toList ++ [x1, x2, x3] = dd.data.toList ++ [59] ++ (C ++ pl ((S.data.toList.drop j).take (k - j)) ++ cpB back z) := by
            rw [HC.out, HT.out]; simp
          refine ⟨_, C ++ pl ((S.data.toList.drop j).take (k - j)) ++ cpB back z, k + z, k + z, rfl, by go_num, by go_num, by omega, by omega, rfl, by rw [← e7]; exact o6.tur kn6 t7, kn7, r6.tur (by omega) (by omega) t7, b6.trans (t7.below hbb (by omega) b6.size), Lib.hid (HS.out.copy HL.out.1 HV.out.2 HV.out.1 (by omega)), Lib.hid fun h1 h2 => ?_⟩
          have hm := (HM.out h1 h2).copy (z := z) h2 (by omega) (fun h0 => absurd hz4.2 (by omega)) (fun h3 h4 => by
            have := HL.out.2 h1 h3 (by omega)
            rw [hSl] at this
            exact this) HV.out.2
          have e8 : (C ++ pl ((S.data.toList.drop j).take (k - j)) ++ cpB back z).length = C.length + (k - j + (k - j + 127) / 128) + 3 := by
            rw [List.length_append, List.length_append, pl_len, mid_len _ _ _ (by omega)]
            rfl
          rw [e8]
          exact hm
    · obtain rfl : k = S.size := by omega
      obtain ⟨t, ht⟩ : ∃ t, t = S.extract j S.size := ⟨_, rfl⟩
      have htz : t.size = S.size - j := by rw [ht, ext_size _ _ _ (Nat.le_refl _)]
      have htl : t.data.toList = S.data.toList.drop j := by rw [ht, ext_tail]
      have HT := Lib.hid htl
      have ht2 : S.extract j S.size = t := ht.symm
      have pp := putPlain_any w.heap.size u3 _ t (by omega) (by simp; omega) wr hb.size ho
      clear ht htl
      clear hkn hr c0 c1
      go_wp2_with (go_at_call 19; (with_reducible refine pp.mono ?_); rintro e w9 ⟨v9, rfl, o9, f9⟩; have cvx := o9.conv)
      go_ret
      refine ⟨_, rfl, Lib.hid ?_, hb.trans (f9.below hb.size)⟩
      have hst : St S.data.toList S.data.toList.length j C := by rw [hSl]; exact HS.out
      obtain ⟨q1, q2⟩ := hst.last (by omega)
      have e9 : (⟨(dd.data.toList ++ 59 :: (C ++ pl t.data.toList)).toArray⟩ : ByteArray).data.toList = Lib.decDigits S.data.toList.length ++ 59 :: (C ++ pl (S.data.toList.drop j)) := by
        rw [HT.out, HD.out, hSl]
      rw [e9]
      refine ⟨q1, ?_, fun h1 h2 => ?_⟩
      · rw [List.length_append, List.length_cons]
        omega
      · have := (HM.out h1 (by omega)).last (by omega)
        rw [List.length_append, List.length_cons, List.length_append, pl_len, List.length_drop, hSl]
        omega
end Go.Proofs.YtmfagkhmienbiaaDoor
