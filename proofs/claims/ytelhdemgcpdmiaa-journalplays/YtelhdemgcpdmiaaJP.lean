/- THE WALK of JournalPieces. -/
import Derived.Test.YtelhdemgcpdmiaaJF
import Derived.Test.YtelhdemgcpdmiaaJT
namespace Go.Proofs.Ytelhdemgcpdmiaa
open Go.RowKit

/-- What the pieces say, one behind the other. -/
def said (ps : List (List UInt8)) : List UInt8 := ps.flatMap fun p => (p.drop 1).take (p.getD 0 0).toNat
theorem said_snoc (ps : List (List UInt8)) (p : List UInt8) : said (ps ++ [p]) = said ps ++ (p.drop 1).take (p.getD 0 0).toNat := by simp [said]
theorem said_pieces (s : List UInt8) : said (pieces s) = s := by
  have o30 : ∀ n, n ≤ 30 → (UInt8.ofNat n).toNat = n := fun n hn => by rw [UInt8.toNat_ofNat']; omega
  refine pieces_ind (C := fun s => said (pieces s) = s) (fun s h => ?_) (fun s h ih => ?_) _ s (Nat.le_refl _)
  · rw [pieces_short h]
    show ((pc s 2).drop 1).take ((pc s 2).getD 0 0).toNat ++ [] = s
    rw [pc_0, o30 _ h, pc_t, List.append_nil]
  · have hl : (s.take 30).length = 30 := by simp; omega
    rw [pieces_long h]
    show ((pc (s.take 30) 1).drop 1).take ((pc (s.take 30) 1).getD 0 0).toNat ++ said (pieces (s.drop 30)) = s
    have e := pc_t (s.take 30) 1
    rw [hl] at e
    rw [ih, pc_0, hl, show (UInt8.ofNat 30).toNat = 30 from rfl, e, List.take_append_drop]
theorem said_len : ∀ (ps : List (List UInt8)), (∀ p ∈ ps, (p.getD 0 0).toNat ≤ 30) → (said ps).length ≤ 30 * ps.length
  | [], _ => by simp [said]
  | p :: ps, h => by
    have := said_len ps fun x hx => h x (by simp [hx])
    have h2 := h p (by simp)
    have e : said (p :: ps) = (p.drop 1).take (p.getD 0 0).toNat ++ said ps := rfl
    rw [e, List.length_append, List.length_take, List.length_cons]
    omega
set_option maxRecDepth 100000 in
set_option maxHeartbeats 2000000 in
theorem jpieces_any (n : Int) (c : UInt8) (w : World) :
    Calls Try.prog 6 #[.int .i64 n, .int .u8 (c.toNat : Int)] w fun e w' => e = .returned (.bool true) ∧ Below w.heap.size w w' := by
  have pT := fun v => text_any 0 0 0 n c v
  have pR := fun v => jruns_any v
  go_enter Try.func6, Try.ntmps6
  go_upto_region 2 with (go_at_call 19; (with_reducible refine (pT _).mono ?_); rintro e w1 ⟨s, rfl, hs, hb1⟩)
  obtain ⟨ps, hps⟩ : ∃ ps, ps = pieces s.data.toList := ⟨_, rfl⟩
  obtain ⟨m, hm⟩ : ∃ m, m = ps.length := ⟨_, rfl⟩
  have pP := pieces_any s (by omega) w1
  have hat := pieces_at s.data.toList
  have hsaid := said_pieces s.data.toList
  have hlen := pieces_len s.data.toList
  have hsl : s.data.toList.length = s.size := Array.length_toList
  rw [hsl] at hlen
  rw [← hps] at pP hat hsaid hlen
  rw [← hm] at pP hat hlen
  have HA := Lib.hid (And.intro hat (And.intro hsaid (And.intro hlen hm)))
  have hm4 : m ≤ 4 := by omega
  have hm1 : 1 ≤ m := by omega
  clear hat hsaid hlen hm pT hps hsl
  go_wp2_with (go_at_call 16; (with_reducible refine pP.mono ?_); rintro e w2 ⟨gp, cp, rfl, hgp, hS, hb2⟩)
  have hB : Below w.heap.size w w2 := hb1.trans (hb2.mono hb1.size)
  clear pP hb1 hb2 hgp
  go_loopg [7, 18] (m + 1) (fun g a b wr => ∃ (j : Nat) (S : ByteArray), b = .int .i64 (j : Int) ∧ a = .string S ∧ j ≤ m ∧ g = m + 1 - j ∧ Hid (S.data.toList = said (ps.take j)) ∧ S.size ≤ 30 * j ∧ wr = w2)
  case atStart => exact ⟨0, ⟨#[]⟩, rfl, rfl, by omega, by omega, Lib.hid rfl, Nat.le_refl _, rfl⟩
  case round =>
    obtain ⟨j, S, rfl, rfl, hj, hg, HS, hSz, rfl⟩ := hrel
    by_cases hlt : j < m
    · have d1 : decide ((j : Int) < (m : Int)) = true := by simp; omega
      have hjl : j < ps.length := by have := HA.out.2.2.2; omega
      obtain ⟨cs, hcs, hcs2⟩ := hS
      obtain ⟨q, hq⟩ : ∃ q, ps[j] = q := ⟨_, rfl⟩
      obtain ⟨P, hP⟩ : ∃ P : ByteArray, P = ⟨q.toArray⟩ := ⟨_, rfl⟩
      have hget : ps[j]? = some q := by rw [List.getElem?_eq_getElem hjl, hq]
      have hci : wr.cell? ⟨gp, j, none⟩ = some (.string P) := by rw [hcs.at, hcs2 j _ hget, hP]; rfl
      obtain ⟨a1, a2, a3, a4⟩ := HA.out.1 j q hget
      have hPl : P.data.toList = q := by rw [hP]
      have hPz : P.size = 32 := by rw [hP]; simpa [ByteArray.size] using a1
      obtain ⟨N, hN⟩ : ∃ N, (q.getD 0 0).toNat = N := ⟨_, rfl⟩
      obtain ⟨M, hM⟩ : ∃ M, (q.getD 31 0).toNat = M := ⟨_, rfl⟩
      have e0 : (P[0]'(by omega)).toNat = N := by rw [sec_at hPl, hN]
      have e31 : (P[31]'(by omega)).toNat = M := by rw [sec_at hPl, hM]
      have hN30 : N ≤ 30 := hN ▸ a2
      obtain ⟨R, hR⟩ : ∃ R : ByteArray, P.extract 1 (1 + N) = R := ⟨_, rfl⟩
      have hRl : R.data.toList = (q.drop 1).take N := by rw [← hR, ← hPl]; exact ext_list P N
      have hRz : R.size = N := by rw [← hR, ByteArray.size_extract]; omega
      have hno : ¬ 9223372036854775807 < S.size + R.size := by omega
      have htk : ps.take (j + 1) = ps.take j ++ [q] := by rw [List.take_succ_eq_append_getElem hjl, hq]
      have hnew : (S ++ R).data.toList = said (ps.take (j + 1)) := by
        rw [htk, said_snoc, ← HS.out, hN, ← hRl]; simp
      obtain ⟨S', hS'⟩ : ∃ S' : ByteArray, S ++ R = S' := ⟨_, rfl⟩
      have hS'z : S'.size ≤ 30 * (j + 1) := by rw [← hS', ByteArray.size_append]; omega
      rw [hS'] at hnew
      have HN := Lib.hid hnew
      have hj1 : (j : Int) < (m : Int) := by omega
      clear hnew htk hcs2 hcs hget hq hP hPl hRl
      by_cases hl : j + 1 = m
      · have m2 : M = 2 := by rw [← hM, a4 hl]; rfl
        subst m2
        have t1 : ((j : Int) == (m : Int) - 1) = true := by simp; omega
        have t2 : decide ((j : Int) < (m : Int) - 1) = false := by simp; omega
        go_wp2_with fail
        go_roundg (m + 1 - (j + 1))
        case measure => omega
        case rel => exact ⟨j + 1, S', by go_num, rfl, by omega, rfl, HN, hS'z, rfl⟩
      · obtain ⟨b1, b2⟩ := a3 (by omega)
        have m2 : M = 1 := by rw [← hM, b1]; rfl
        have n30 : N = 30 := by rw [← hN]; exact b2
        subst m2
        subst n30
        have t1 : ((j : Int) == (m : Int) - 1) = false := by rw [beq_eq_false_iff_ne]; omega
        have t2 : decide ((j : Int) < (m : Int) - 1) = true := by simp; omega
        clear b1 b2 hN hM
        go_wp2_with fail
        go_roundg (m + 1 - (j + 1))
        case measure => omega
        case rel => exact ⟨j + 1, S', by go_num, rfl, by omega, rfl, HN, hS'z, rfl⟩
    · obtain rfl : j = m := by omega
      have d1 : decide ((j : Int) < (j : Int)) = false := by simp
      have hSs : S = s := by
        have h1 := HS.out
        rw [List.take_of_length_le (by have := HA.out.2.2.2; omega), HA.out.2.1] at h1
        exact ByteArray.ext (Array.toList_inj.1 h1)
      subst hSs
      have hq : ((S.size : Int) + 32 - 3).tdiv 30 = (((S.size + 29) / 30 : Nat) : Int) := by rw [Int.tdiv_eq_ediv_of_nonneg (by omega)]; omega
      obtain ⟨z, hz⟩ : ∃ z : Nat, z = (S.size + 29) / 30 := ⟨_, rfl⟩
      rw [← hz] at hq
      have hjz : j = max 1 z := by rw [hz]; exact HA.out.2.2.1
      clear HA hz hSz HS
      have hmx : max (z : Int) 1 = (j : Int) := by omega
      clear hjz hlt hg hm1 hj
      go_wp2_with (go_at_call 3; (with_reducible refine (pR _).mono ?_); rintro e w3 ⟨rfl, hb3⟩)
      all_goals first
        | (go_ret; exact ⟨rfl, hB.trans (hb3.mono hB.size)⟩)
        | (exfalso; simp only [bne_iff_ne, beq_eq_false_iff_ne, ne_eq] at *; omega)
theorem byte_of (c : Int) (h : (Lit.int .u8 c).wf = true) : ∃ b : UInt8, (b.toNat : Int) = c := by
  have h2 : 0 ≤ c ∧ c ≤ 255 := by simpa [Lit.wf, IntKind.min, IntKind.max, IntKind.signed, IntKind.bits] using h
  exact ⟨UInt8.ofNat c.toNat, by rw [UInt8.toNat_ofNat']; omega⟩
theorem jpieces_law (n x : Int) (hx : (Lit.int .u8 x).wf = true) (w : World) :
    Calls Try.prog 6 #[.int .i64 n, .int .u8 x] w fun e w' => e = .returned (.bool true) ∧ Below w.heap.size w w' := by
  obtain ⟨c, rfl⟩ := byte_of x hx
  exact jpieces_any n c w
end Go.Proofs.Ytelhdemgcpdmiaa
