/- THE WALK of journal.Commit. -/
import Derived.Test.YtlofjfeimhjdlaaDoorJC7
namespace Go.Proofs.YtlofjfeimhjdlaaDoor
open Go.RowKit
set_option maxRecDepth 100000

section
variable (w : World) (base jg G B cap : Nat) (d : Dk) (v : Value) (ts : List (List UInt8)) (e : Nat)
theorem commit_torn (s : ByteArray) (h : JnAt w base jg G v ts e true) :
    Calls Tryd.prog 28 #[.pointer (some ⟨jg, 0, none⟩), .string s] w fun r w' => r = .returned (.int .i64 9) ∧ w = w' := by
  have c3 := h.head.at 3
  go_enter Tryd.func28, Tryd.ntmps28
  go_wp2_with fail
  go_ret
  exact ⟨rfl, rfl⟩
set_option maxHeartbeats 1000000 in
theorem commit_full (s : ByteArray) (hs : s.size ≤ 1099511627776) (he : e ≤ d.ss.length) (hD : DkAt w G B cap d) (h : JnAt w base jg G v ts e false) (hf : d.ss.length < e + (pieces s.data.toList).length) :
    Calls Tryd.prog 28 #[.pointer (some ⟨jg, 0, none⟩), .string s] w fun r w' => r = .returned (.int .i64 6) ∧ Below w.heap.size w w' := by
  obtain ⟨n, hn⟩ : ∃ n, n = (pieces s.data.toList).length := ⟨_, rfl⟩
  have pcn := fun v => count_any s n hn hs v
  rw [← hn] at hf
  have hn2 := hD.ok.n2
  have c3 := h.head.at 3
  have c0 := h.head.at 0
  have c2 := h.head.at 2
  have pS := sectors_any _ G B cap d hD.drew
  obtain ⟨f, hf2⟩ : ∃ f : Nat, f = d.ss.length - e := ⟨_, rfl⟩
  have hw : IntKind.i64.wrap ((d.ss.length : Int) - (e : Int)) = (f : Int) := (IntWalk.i64_in _ (by omega)).trans (by omega)
  have d1 : decide ((f : Int) < (n : Int)) = true := by simp; omega
  have d1n : f < n := by omega
  clear hn hf2 hf
  go_enter Tryd.func28, Tryd.ntmps28
  go_upto_region 4 with (go_at_call 43; (with_reducible refine (pcn _).mono ?_); rintro e v ⟨rfl, hv⟩; subst hv)
  refine wp_region_still_lit (by kernel_rfl) (by kernel_rfl) ?_
  iterate 5 still_step
  still_call (pS.mono fun _ _ h => ⟨h.1, h.2.symm⟩)
  iterate 6 still_step
  refine wpStill_nil ?_
  change Exit.then _ _ _ _ w.drew
  go_wp2_with fail
  go_ret
  exact ⟨rfl, (Below.refl _ w).drew⟩
theorem wr_len6 (d : Dk) (i : Int) (s : List UInt8) : (d.wr i s).2.ss.length = d.ss.length := by
  unfold Dk.wr
  split
  · split
    · simp [Dk.put]
    · simp [Dk.put]
  · rfl
/-- While Commit writes: k pieces are written. -/
structure CmAt (wr : World) (gp k : Nat) (dk : Dk) (ps : List (List UInt8)) : Prop where
  hd : DkAt wr G B cap dk
  eq : wrs d e ps = wrs dk (e + k) (ps.drop k)
  n : dk.ss.length = d.ss.length
  jn : JnAt wr base jg G v ts e false
  strs : Strs wr gp ps
  ge : w.heap.size ≤ gp
  but : But (fun k => k = G ∨ k = B) w wr
theorem Strs.but {w v : World} {S : Nat → Prop} {b : Nat} {ss : List (List UInt8)} (h : Strs w b ss) (hb : But S w v) (hn : ¬ S b) : Strs v b ss := h.same (hb.block b h.lt hn)
set_option maxHeartbeats 2000000 in
theorem commit_go (s : ByteArray) (n : Nat) (hn : n = (pieces s.data.toList).length) (hs : s.size ≤ 1099511627776) (hb : base ≤ w.heap.size) (hts : ts.length ≤ 1099511627776) (hD : DkAt w G B cap d) (h : JnAt w base jg G v ts e false) (hf : e + n ≤ d.ss.length) :
    Calls Tryd.prog 28 #[.pointer (some ⟨jg, 0, none⟩), .string s] w fun r w' =>
      DkAt w' G B cap (wrs d e (pieces s.data.toList)).2 ∧ But (fun k => (k = G ∨ k = B) ∨ JS jg v k) w w' ∧
      (((wrs d e (pieces s.data.toList)).1 = true ∧ r = .returned (.int .i64 0) ∧ ∃ v', JnAt w' base jg G v' (ts ++ [s.data.toList]) (e + n) false ∧ Gone w v v') ∨
       ((wrs d e (pieces s.data.toList)).1 = false ∧ r = .returned (.int .i64 9) ∧ JnAt w' base jg G v ts e true)) := by
  have pcn := fun v => count_any s n hn hs v
  have pP := fun v => pieces_any s hs v
  obtain ⟨ps, hps⟩ : ∃ ps, ps = pieces s.data.toList := ⟨_, rfl⟩
  rw [← hps] at hn pP ⊢
  have hz : ∀ p ∈ ps, p.length = 32 := by rw [hps]; exact pieces_z _
  rw [← hn] at pP
  have hn2 := hD.ok.n2
  have c3 := h.head.at 3
  have c0 := h.head.at 0
  have c2 := h.head.at 2
  have pS := sectors_any _ G B cap d hD.drew
  obtain ⟨f, hf2⟩ : ∃ f : Nat, f = d.ss.length - e := ⟨_, rfl⟩
  have hw : IntKind.i64.wrap ((d.ss.length : Int) - (e : Int)) = (f : Int) := (IntWalk.i64_in _ (by omega)).trans (by omega)
  have d1 : decide ((f : Int) < (n : Int)) = false := by simp; omega
  have d1n : ¬ f < n := by omega
  have d1m : n ≤ f := by omega
  have HN := Lib.hid hn
  clear hn hf2 hps
  go_enter Tryd.func28, Tryd.ntmps28
  go_upto_region 4 with (go_at_call 43; (with_reducible refine (pcn _).mono ?_); rintro e v ⟨rfl, hv⟩; subst hv)
  refine wp_region_still_lit (by kernel_rfl) (by kernel_rfl) ?_
  iterate 5 still_step
  still_call (pS.mono fun _ _ h => ⟨h.1, h.2.symm⟩)
  iterate 6 still_step
  refine wpStill_nil ?_
  change Exit.then _ _ _ _ w.drew
  go_wp2_with (go_at_call 45; (with_reducible refine (pP _).mono ?_); rintro e w1 ⟨gp, cp, rfl, hgp, hS1, hb1⟩)
  have hbw : Below w.heap.size w w1 := (Below.refl _ w).drew.trans hb1
  have hC0 : CmAt w base jg G B cap d v ts e w1 gp 0 d ps := ⟨hD.next hbw, by rw [Nat.add_zero]; rfl, rfl, h.next hbw, hS1, hgp, But.of_below _ hbw⟩
  clear c0 c2 c3 pS pcn pP hw d1 d1n d1m hbw hb1 hgp hS1
  go_loopg [29] (n + 1) (fun g a wr => ∃ (k : Nat) (dk : Dk), a = .int .i64 (k : Int) ∧ k ≤ n ∧ g = n + 1 - k ∧ CmAt w base jg G B cap d v ts e wr gp k dk ps)
  case atStart => exact ⟨0, d, rfl, Nat.zero_le _, by omega, hC0⟩
  case round =>
    obtain ⟨k, dk, rfl, hk, hg, hC⟩ := hrel
    clear hC0
    have hap := hC.jn.apartD hC.hd
    have c0 := hC.jn.head.at 0
    have c2 := hC.jn.head.at 2
    by_cases hlt : k < n
    · have t1 : decide ((k : Int) < (n : Int)) = true := by simp; omega
      have hkl : k < ps.length := by have := HN.out; omega
      obtain ⟨cs, hcs, hcs2⟩ := hC.strs
      obtain ⟨P, hP⟩ : ∃ P : ByteArray, P = ⟨(ps[k]).toArray⟩ := ⟨_, rfl⟩
      have hci : wr.cell? ⟨gp, k, none⟩ = some (.string P) := by rw [hcs.at, hcs2 k _ (List.getElem?_eq_getElem hkl), hP]; rfl
      have hPl : P.data.toList = ps[k] := by rw [hP]
      have hw : IntKind.i64.wrap ((e : Int) + (k : Int)) = (e : Int) + (k : Int) := IntWalk.i64_in _ (by omega)
      have pw := write_any wr.drew G B cap dk ((e : Int) + (k : Int)) P hC.hd.drew
      rw [hPl] at pw
      obtain ⟨r, hr⟩ : ∃ r, r = dk.wr ((e : Int) + (k : Int)) ps[k] := ⟨_, rfl⟩
      rw [← hr] at pw
      have hdrop : ps.drop k = ps[k] :: ps.drop (k + 1) := List.drop_eq_getElem_cons hkl
      have hstep : wrs d e ps = if r.1 = true then wrs r.2 (e + (k + 1)) (ps.drop (k + 1)) else (false, r.2) := by rw [hC.eq, hdrop, wrs, show ((e + k : Nat) : Int) = (e : Int) + (k : Int) from rfl, ← hr]; rfl
      have hrn : r.2.ss.length = d.ss.length := by rw [hr, wr_len6, hC.n]
      have HST := Lib.hid (And.intro hstep hrn)
      clear hstep hrn hr hdrop hPl hP hcs2 hcs
      go_upto_region 9 with fail
      refine wp_region_still_tail 11 (by kernel_rfl) (by kernel_rfl) ?_
      simp only [List.take_succ_cons, List.take_zero, List.drop_succ_cons, List.drop_zero]
      iterate 11 still_step
      refine wpStill_nil ?_
      change wpList _ _ _ _ _ wr.drew
      by_cases hrt : r.1 = true
      · rw [hrt] at pw
        go_wp2_with (go_at_call 46; (with_reducible refine pw.mono ?_); rintro r' w2 ⟨rfl, hD2, hB2⟩)
        go_roundg (n + 1 - (k + 1))
        case measure => omega
        case rel =>
          have hbut := hC.but.drew.trans (But.of_but2 hB2 (.inl rfl) (.inr rfl))
          have hb2 : But (fun k => k = G ∨ k = B) wr w2 := (But.refl _ wr).drew.trans (But.of_but2 hB2 (.inl rfl) (.inr rfl))
          have hgpn : ¬ (gp = G ∨ gp = B) := fun hh => by have := hD.lt; have := hC.ge; omega
          exact ⟨k + 1, r.2, by go_num, by omega, rfl, hD2, by have := HST.out.1; rw [if_pos hrt] at this; exact this, HST.out.2, hC.jn.butS hb2 (fun hh => by rcases hh with hh | hh; exact hap.1 (.inl hh.symm); exact hap.2 (.inl hh.symm)) (fun q hq hh => by rcases hh with rfl | rfl; exact hap.1 (.inr hq); exact hap.2 (.inr hq)), hC.strs.but hb2 hgpn, hC.ge, hbut⟩
      · have hrf : r.1 = false := by simpa using hrt
        rw [hrf] at pw
        have hj : ∀ w2, But2 G B wr.drew w2 → JnAt w2 base jg G v ts e false := fun w2 hB2 =>
          hC.jn.butS ((But.refl (fun k => k = G ∨ k = B) wr).drew.trans (But.of_but2 hB2 (.inl rfl) (.inr rfl))) (fun hh => by rcases hh with hh | hh; exact hap.1 (.inl hh.symm); exact hap.2 (.inl hh.symm)) (fun q hq hh => by rcases hh with rfl | rfl; exact hap.1 (.inr hq); exact hap.2 (.inr hq))
        go_wp2_with (go_at_call 46; (with_reducible refine pw.mono ?_); rintro r' w2 ⟨rfl, hD2, hB2⟩; have hj2 := hj _ hB2; have q3 := hj2.head.at 3; have f3 := hj2.head.free 3)
        go_ret
        have e1 : wrs d e ps = (false, r.2) := by have := HST.out.1; rwa [if_neg hrt] at this
        have hap2 := hj2.apartD hD2
        have hbut := (hC.but.drew.trans (But.of_but2 hB2 (.inl rfl) (.inr rfl))).mono (T := fun k => (k = G ∨ k = B) ∨ JS jg v k) (fun _ _ h => .inl h)
        rw [e1]
        refine ⟨hD2.same (heap_setCell_other w2 ⟨jg, 3, none⟩ G _ (fun hh => hap2.1 (.inl hh))) (heap_setCell_other w2 ⟨jg, 3, none⟩ B _ (fun hh => hap2.2 (.inl hh))), hbut.setCell (p := ⟨jg, 3, none⟩) (.inr (.inl rfl)) _, .inr ⟨rfl, rfl, hj2.head.put 3 _, ?_⟩⟩
        exact own_but (S := fun k => k = jg) hj2.row ((But.refl (fun k => k = jg) w2).setCell (p := ⟨jg, 3, none⟩) rfl _) (fun q hq => hj2.ne q hq)
    · obtain rfl : k = n := by omega
      have t1 : decide ((k : Int) < (k : Int)) = false := by simp
      have pC := fun v => sclone_any s hs v
      have hw : IntKind.i64.wrap ((e : Int) + (k : Int)) = (e : Int) + (k : Int) := IntWalk.i64_in _ (by omega)
      have pA : ∀ (u : World) (hu : Below wr.heap.size wr u), Calls Tryd.prog 39 #[.pointer (some ⟨jg, 0, none⟩), .string s, .int .i64 ((e : Int) + (k : Int))] u fun r w' =>
        r = .returned (.tuple #[]) ∧ ∃ v', JnAt w' base jg G v' (ts ++ [s.data.toList]) (e + k) false ∧ But (JS jg v) u w' ∧ Gone u v v' := fun (u : World) (hu : Below wr.heap.size wr u) => add_any u base jg G v ts e false s (e + k) (Nat.le_trans hb (Nat.le_trans hC.but.size hu.size)) hts (hC.jn.next hu)
      go_upto_region 13 with fail
      go_region_with (first
        | (go_at_call 30; (with_reducible refine (pC _).mono ?_); rintro r' w2 ⟨rfl, hb2⟩; have hbx : Below wr.heap.size wr w2 := (Below.refl _ wr).drew.trans hb2; have q2 := (hC.jn.next hbx).head.at 2)
        | (go_at_call 39; (with_reducible refine (pA _ hbx).mono ?_); rintro r' w3 ⟨rfl, v', hJ3, hB3, hg3⟩))
      all_goals
        go_wp2_with fail
        go_ret
        have e1 : wrs d e ps = (true, dk) := by
          rw [hC.eq, List.drop_of_length_le (by have := HN.out; omega)]; rfl
        rw [e1]
        have hap2 := (hC.jn.next hbx).apartD (hC.hd.next hbx)
        exact ⟨(hC.hd.next hbx).butS hB3 hap2.1 hap2.2, ((hC.but.next hbx).mono (T := fun k => (k = G ∨ k = B) ∨ JS jg v k) (fun _ _ h => .inl h)).trans (hB3.mono (fun _ _ h => .inr h)), .inl ⟨rfl, rfl, v', hJ3, by
          rcases hg3 with hg3 | hg3
          · exact .inl hg3
          · exact .inr fun q hq => Nat.le_trans (Nat.le_trans hC.but.size hbx.size) (hg3 q hq)⟩⟩
end
end Go.Proofs.YtlofjfeimhjdlaaDoor
