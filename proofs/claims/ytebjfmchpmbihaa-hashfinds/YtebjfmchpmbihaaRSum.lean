/- THE WALK of the reference's Sum. -/
import Derived.Test.YtebjfmchpmbihaaRBlk
import Derived.Test.YtebjfmchpmbihaaRows2
import Derived.Test.YtebjfmchpmbihaaParts
import Derived.Test.YtebjfmchpmbihaaShaEq
namespace Go.Proofs.Ytebjfmchpmbihaa
open Go.RowKit

theorem conv_s (s : ByteArray) (w : World) : (convert 9 26 (.string s)).run Try.prog w = .ok (.slice (some ⟨w.heap.size, 0, none⟩) s.size (grownCap w s.size 0 5)) (Lib.bytesWorld w 5 s) :=
  Lib.run_convert_string_bytes w _ _ _ s Try.underlying9 Try.underlying26 Try.underlying5
def lenOf : Value → Nat
  | .slice _ n _ => n
  | _ => 0
theorem rx5_0 (s : St) (w : World) : (Instr.index 36 (.agg #[.int .u32 s.a, .int .u32 s.b, .int .u32 s.c, .int .u32 s.d, .int .u32 s.e]) (.int .i64 ((0 : Nat) : Int))).run Try.prog w = .ok (.int .u32 s.a) w := by kernel_rfl
theorem rx5_1 (s : St) (w : World) : (Instr.index 36 (.agg #[.int .u32 s.a, .int .u32 s.b, .int .u32 s.c, .int .u32 s.d, .int .u32 s.e]) (.int .i64 ((1 : Nat) : Int))).run Try.prog w = .ok (.int .u32 s.b) w := by kernel_rfl
theorem rx5_2 (s : St) (w : World) : (Instr.index 36 (.agg #[.int .u32 s.a, .int .u32 s.b, .int .u32 s.c, .int .u32 s.d, .int .u32 s.e]) (.int .i64 ((2 : Nat) : Int))).run Try.prog w = .ok (.int .u32 s.c) w := by kernel_rfl
theorem rx5_3 (s : St) (w : World) : (Instr.index 36 (.agg #[.int .u32 s.a, .int .u32 s.b, .int .u32 s.c, .int .u32 s.d, .int .u32 s.e]) (.int .i64 ((3 : Nat) : Int))).run Try.prog w = .ok (.int .u32 s.d) w := by kernel_rfl
theorem rx5_4 (s : St) (w : World) : (Instr.index 36 (.agg #[.int .u32 s.a, .int .u32 s.b, .int .u32 s.c, .int .u32 s.d, .int .u32 s.e]) (.int .i64 ((4 : Nat) : Int))).run Try.prog w = .ok (.int .u32 s.e) w := by kernel_rfl
theorem rx5 (s : St) (k : Nat) (hk : k < 5) (w : World) : (Instr.index 36 (.agg #[.int .u32 s.a, .int .u32 s.b, .int .u32 s.c, .int .u32 s.d, .int .u32 s.e]) (.int .i64 (k : Int))).run Try.prog w = .ok (.int .u32 (s.nth k)) w := by
  have h : k = 0 ∨ k = 1 ∨ k = 2 ∨ k = 3 ∨ k = 4 := by omega
  rcases h with rfl | rfl | rfl | rfl | rfl
  · exact rx5_0 s w
  · exact rx5_1 s w
  · exact rx5_2 s w
  · exact rx5_3 s w
  · exact rx5_4 s w
theorem hexD_b (x : Int) (j : Nat) (h : (bits .and .u32 (x / 2 ^ (28 - 4 * j)) 15).toNat < (⟨#[48, 49, 50, 51, 52, 53, 54, 55, 56, 57, 97, 98, 99, 100, 101, 102]⟩ : ByteArray).size) :
    (⟨#[48, 49, 50, 51, 52, 53, 54, 55, 56, 57, 97, 98, 99, 100, 101, 102]⟩ : ByteArray)[(bits .and .u32 (x / 2 ^ (28 - 4 * j)) 15).toNat]'h = hexD x j := by
  unfold hexD
  rw [List.getD_eq_getElem?_getD, List.getElem?_eq_getElem (show (bits .and .u32 (x / 2 ^ (28 - 4 * j)) 15).toNat < hexT.length from h)]
  rfl
theorem ba_snoc (o : ByteArray) (L : List UInt8) (d : UInt8) (h : o.data.toList = L) : (o ++ ⟨#[d]⟩ : ByteArray).data.toList = L ++ [d] := by
  simp [h]
/-- What holds while blocks are taken in: the state's box, the message's bytes. -/
def RefAt (w wr : World) (st : St) (g : Nat) (M : List UInt8) : Prop := Below w.heap.size w wr ∧ Rw wr w.heap.size 36 st.cells ∧ BytesAt wr g 0 M ∧ g ≠ w.heap.size
theorem ref_start {w wr : World} {g cap : Nat} {M : List UInt8} (h : OwnG (w.alloc (.cells st0.cells 36)) wr g cap M) : RefAt w wr st0 g M := by
  have hb := h.2.2.2.2
  have hg := h.1
  rw [World.size_alloc] at hb hg
  exact ⟨((Below.refl _ _).alloc (Nat.le_refl _) _).trans (hb.mono (by omega)), (Rw.fresh w _ _).below hb (by omega), fun j hj => by rw [Nat.zero_add]; exact h.cell j hj, by omega⟩
theorem RefAt.drew {w wr : World} {st : St} {g : Nat} {M : List UInt8} (h : RefAt w wr st g M) : RefAt w wr.drew st g M := ⟨h.1.drew, h.2.1, h.2.2.1, h.2.2.2⟩
theorem RefAt.below {w wr w1 : World} {st : St} {g : Nat} {M : List UInt8} (h : RefAt w wr st g M) (hb : Below wr.heap.size wr w1) : RefAt w w1 st g M :=
  ⟨h.1.trans (hb.mono h.1.size), h.2.1.below hb h.2.1.size, h.2.2.1.below hb, h.2.2.2⟩
theorem RefAt.put {w wr w1 : World} {st st1 : St} {g : Nat} {M : List UInt8} (h : RefAt w wr st g M) (hr : Rw w1 w.heap.size 36 st1.cells) (hk : ∀ k, k ≠ w.heap.size → w1.heap[k]? = wr.heap[k]?) (hb : ∀ B c, B ≤ w.heap.size → Below B c wr → Below B c w1) : RefAt w w1 st1 g M :=
  ⟨hb _ _ (Nat.le_refl _) h.1, hr, fun j hj => (World.cell?_of_block (a := ⟨g, 0 + j, none⟩) (hk g h.2.2.2)).trans (h.2.2.1 j hj), h.2.2.2⟩
theorem BytesAt.cut {w : World} {g : Nat} {M : List UInt8} (h : BytesAt w g 0 M) (c : Nat) (hc : 64 * c + 64 ≤ M.length) : BytesAt w g (64 * c) ((M.drop (64 * c)).take 64) := fun j hj => by
  have hj2 : j < 64 := by simp at hj; omega
  have := h (64 * c + j) (by omega)
  rw [Nat.zero_add] at this
  rw [this]
  congr 2
  unfold bt
  simp [hj2]
theorem cut_len {M : List UInt8} (c : Nat) (hc : 64 * c + 64 ≤ M.length) : ((M.drop (64 * c)).take 64).length = 64 := by simp; omega
theorem blk_to (st st1 : St) (l : List UInt8) (hl : l.length = 64) (h : st1 = mixS st l) (g o c : Nat) (w : World) (hcb : BytesAt w g o l) :
    Calls Try.prog 18 #[st.val, .slice (some ⟨g, o, none⟩) 64 c] w fun e w' => e = .returned st1.val ∧ Below w.heap.size w w' := by rw [h]; exact blk_any st l hl g o c w hcb

set_option maxHeartbeats 1000000 in
theorem rsum_any (s : ByteArray) (hs : s.size ≤ 1099511627) (w : World) :
    Calls Try.prog 10 #[.string s] w fun e w' => e = .returned (.string ⟨(sumL s.data.toList).toArray⟩) ∧ Below w.heap.size w w' := by
  have hcv := conv_s s (w.alloc (.cells st0.cells 36))
  have hown := OwnG.start (w.alloc (.cells st0.cells 36)) (w.alloc (.cells st0.cells 36)) s (Below.refl _ _) (by omega)
  simp only [World.size_alloc] at hcv hown
  generalize Lib.bytesWorld (w.alloc (.cells st0.cells 36)) 5 s = W at hcv hown
  generalize grownCap (w.alloc (.cells st0.cells 36)) s.size 0 5 = cap0 at hcv hown
  have hcv2 : (convert 9 26 (.string s)).run Try.prog (w.alloc (.cells #[Value.int IntKind.u32 1732584193, Value.int IntKind.u32 4023233417, Value.int IntKind.u32 2562383102, Value.int IntKind.u32 271733878, Value.int IntKind.u32 3285377520] 36)) = .ok (.slice (some ⟨w.heap.size + 1, 0, none⟩) s.size cap0) W := hcv
  clear hcv
  have hsl : s.data.toList.length = s.size := by simp
  have HSL := Lib.hid hsl
  clear hsl
  obtain ⟨zc, hzc⟩ : ∃ zc, zc = zcount s.size := ⟨_, rfl⟩
  have hz1 : zc < 64 := by rw [hzc]; unfold zcount; omega
  have hz2 : ∀ k, k < zc → (s.size + 1 + k) % 64 ≠ 56 := by intro k hk; rw [hzc] at hk; unfold zcount at hk; omega
  have hz3 : (s.size + 1 + zc) % 64 = 56 := by rw [hzc]; unfold zcount; omega
  have HZ2 := Lib.hid hz2
  have HZ3 := Lib.hid hz3
  have HZC := Lib.hid hzc
  clear hz2 hz3 hzc
  go_enter Try.func10, Try.ntmps10
  go_wp2_with (at_builtin; refine wpList_app1g (w.alloc (.cells st0.cells 36)) W rfl (.tmp 13) (.tmp 14) rfl rfl (w.heap.size + 1) cap0 s.data.toList s.size HSL.out (by rfl) hown 128 128 (by rfl) (by rfl) (by omega) ?_; intro g1 cap1 w1 hown1)
  clear hcv2 hown
  go_loopw [4] (fun v wr => ∃ k n g cap : Nat, k ≤ zc ∧ n = s.size + 1 + k ∧ v = .slice (some ⟨g, 0, none⟩) n cap ∧ OwnG (w.alloc (.cells st0.cells 36)) wr g cap (msgZ s.data.toList k)) (fun v _ => zc + s.size + 1 - lenOf v)
  case atStart => exact ⟨0, s.size + 1, g1, cap1, by omega, by omega, rfl, by simpa [msgZ] using hown1⟩
  case round =>
    clear hown1
    obtain ⟨k, n, g, cap, hk, hn, rfl, hat⟩ := hrel
    have hnk : n ≤ s.size + 1 + k := by omega
    have hnk2 : s.size + 1 + k ≤ n := by omega
    have HN := Lib.hid hn
    clear hn
    by_cases hlt : k < zc
    · have ht : ((n : Int) % 64 != 56) = true := by
        have := HZ2.out k hlt
        rw [bne_iff_ne]; rw [HN.out]; omega
      go_wp2_with (at_builtin; refine wpList_app1g (w.alloc (.cells st0.cells 36)) wr rfl (.tmp 20) (.tmp 21) rfl rfl g cap (msgZ s.data.toList k) n (by rw [msgZ_len, HSL.out, HN.out]) (by rfl) hat 0 0 (by rfl) (by rfl) (by omega) ?_; intro g2 cap2 w2 hown2)
      rw [msgZ_succ] at hown2
      go_roundw
      case rel => exact ⟨k + 1, n + 1, g2, cap2, by omega, by omega, rfl, hown2⟩
      case measure => simp [lenOf]; omega
    · obtain rfl : k = zc := by omega
      have ht : ((n : Int) % 64 != 56) = false := by
        have := HZ3.out
        rw [bne_eq_false_iff_eq, HN.out]; omega
      go_wp2
      go_loopw [4, 5] (fun v i wr => ∃ j m g cap : Nat, j ≤ 8 ∧ m = n + j ∧ i = .int .i64 (7 - (j : Int)) ∧ v = .slice (some ⟨g, 0, none⟩) m cap ∧ OwnG (w.alloc (.cells st0.cells 36)) wr g cap (msgZ s.data.toList k ++ lensK s.size j)) (fun _ i _ => (intOf i + 1).toNat)
      case atStart => exact ⟨0, n, g, cap, by omega, by omega, rfl, rfl, by simpa [lensK] using hat⟩
      case round =>
        clear hat hlt hk ht
        obtain ⟨j, m, g, cap, hj, hm, rfl, rfl, hat⟩ := hrel
        have hm1 : m ≤ n + j := by omega
        have hm2 : n + j ≤ m := by omega
        have HM := Lib.hid hm
        clear hm
        by_cases hlt : j < 8
        · have n0 : (8 * (7 - (j : Int))).toNat = 8 * (7 - j) := by omega
          go_wp2_with (at_builtin; refine wpList_app1g (w.alloc (.cells st0.cells 36)) wr rfl (.tmp 27) (.tmp 37) rfl rfl g cap (msgZ s.data.toList k ++ lensK s.size j) m (by rw [List.length_append, lensK_len, msgZ_len, HSL.out, HM.out, HN.out]) (by rfl) hat (lenB s.size (7 - j)) _ ?hb (by rfl) (by omega) ?_; rotate_right; intro g2 cap2 w2 hown2)
          · have hown3 : OwnG (w.alloc (.cells st0.cells 36)) w2 g2 cap2 (msgZ s.data.toList k ++ lensK s.size (j + 1)) := by simpa [lensK] using hown2
            go_roundw
            case rel => exact ⟨j + 1, m + 1, g2, cap2, by omega, by omega, by go_num, rfl, hown3⟩
            case measure => simp [intOf]; omega
          case hb => rw [Int.mul_comm]; exact lenB_int _ _
        · have hge : 8 ≤ j := by omega
          have e8 : j = 8 := by omega
          obtain ⟨M, hM⟩ : ∃ M, M = msgZ s.data.toList k ++ lensK s.size 8 := ⟨_, rfl⟩
          rw [e8, ← hM] at hat
          have hML : M.length = m := by rw [hM, List.length_append, lensK_len, msgZ_len, HSL.out, HM.out, HN.out, e8]
          obtain ⟨nb, hnb⟩ : ∃ nb, m = 64 * nb := ⟨m / 64, by have := HZ3.out; have := HM.out; have := HN.out; omega⟩
          have hd7 : decide ((0 : Int) ≤ 7 - (j : Int)) = false := by simp; omega
          have hd8 : decide ((j : Int) ≤ 7) = false := by simp; omega
          have HNBE : Hid (s.data.toList.length + 1 + k + 8 = 64 * nb) := by
            have := HM.out; have := HN.out; have := HSL.out
            show _ = _
            omega
          clear e8
          have HMM := Lib.hid hM
          have HML := Lib.hid hML
          have hnb1 : m ≤ 64 * nb := by omega
          have hnb2 : 64 * nb ≤ m := by omega
          have HNB := Lib.hid hnb
          clear hM hML hnb
          have hrat := ref_start hat
          have hcap := hat.2.2.1
          rw [HML.out] at hcap
          clear hat hlt
          go_wp2
          go_loopw [6] (fun i wr => ∃ c : Nat, c ≤ nb ∧ i = .int .i64 (64 * (c : Int)) ∧ RefAt w wr (foldB c M st0) g M) (fun i _ => 64 * nb - (intOf i).toNat)
          case atStart => exact ⟨0, by omega, rfl, hrat⟩
          case round =>
            clear hrat
            obtain ⟨c, hc, rfl, hat⟩ := hrel
            obtain ⟨st, hst⟩ : ∃ st, st = foldB c M st0 := ⟨_, rfl⟩
            rw [← hst] at hat
            have HS := Lib.hid hst
            clear hst
            have c0 : wr.cell? ⟨w.heap.size, 0, none⟩ = some (.int .u32 st.a) := hat.2.1.at 0
            have c1 : wr.cell? ⟨w.heap.size, 1, none⟩ = some (.int .u32 st.b) := hat.2.1.at 1
            have c2 : wr.cell? ⟨w.heap.size, 2, none⟩ = some (.int .u32 st.c) := hat.2.1.at 2
            have c3 : wr.cell? ⟨w.heap.size, 3, none⟩ = some (.int .u32 st.d) := hat.2.1.at 3
            have c4 : wr.cell? ⟨w.heap.size, 4, none⟩ = some (.int .u32 st.e) := hat.2.1.at 4
            by_cases hlt : c < nb
            · have q0 : IntKind.i64.wrap (64 * (c : Int) + 64) = 64 * (c : Int) + 64 := IntWalk.i64_in _ (by omega)
              have n0 : (64 * (c : Int)).toNat = 64 * c := by omega
              have n1 : (64 * (c : Int) + 64).toNat = 64 * c + 64 := by omega
              have l0 : (0 : Int) ≤ 64 * (c : Int) := by omega
              have l1 : (64 * (c : Int)) ≤ 64 * (c : Int) + 64 := by omega
              have l2 : (64 * (c : Int) + 64) ≤ (cap : Int) := by omega
              have l3 : ¬ cap = 64 * c := by omega
              have HQ := Lib.hid q0
              clear q0
              go_wp2
              have q0 := HQ.out
              refine wp_region_still_tail 6 (by kernel_rfl) (by kernel_rfl) ?_
              simp only [List.take_succ_cons, List.take_zero, List.drop_succ_cons, List.drop_zero]
              repeat still_step
              refine wpStill_nil ?_
              change wpList _ _ _ _ _ wr.drew
              clear c0 c1 c2 c3 c4
              have hcut := (hat.drew.2.2.1).cut c (by rw [HML.out]; omega)
              have hcl := cut_len (M := M) c (by rw [HML.out]; omega)
              obtain ⟨st1, hst1⟩ : ∃ st1, st1 = mixS st ((M.drop (64 * c)).take 64) := ⟨_, rfl⟩
              have H1 := Lib.hid hst1
              have H2 := Lib.hid hcl
              have H3 := Lib.hid hcut
              clear hst1 hcl hcut
              go_wp2_with (first
                | (go_at_call 18; refine (blk_to st st1 _ H2.out H1.out _ _ _ _ H3.out).mono ?_; rintro e w3 ⟨rfl, hb3⟩; have hat3 := hat.drew.below hb3; clear hb3)
                | (refine wpList_store_whole rfl 36 (.tmp 3) (.tmp 51) rfl rfl w.heap.size st1.cells (by rfl) (by rfl) hat3.2.1 (by rfl) (by kernel_rfl) (five_one _ _ _ _ _) ?_; intro w4 hw4 hk4 _ hb4))
              go_roundw
              case rel =>
                refine ⟨c + 1, by omega, by go_num, ?_⟩
                rw [show foldB (c + 1) M st0 = st1 by rw [H1.out, HS.out]; rfl]
                exact hat3.put hw4 hk4 hb4
              case measure => simp [intOf]; omega
            · obtain rfl : c = nb := by omega
              have hbw := hat.1
              clear hat
              go_wp2
              clear c0 c1 c2 c3 c4
              go_loopw [7, 9, 10, 53] (fun v x sh i wr => ∃ (q : Nat) (o : ByteArray), q ≤ 5 ∧ i = .int .i64 q ∧ v = .string o ∧ o.data.toList = hexL st q ∧ Below w.heap.size w wr) (fun _ _ _ i _ => 5 - (intOf i).toNat)
              case atStart => exact ⟨0, ⟨#[]⟩, by omega, rfl, rfl, rfl, hbw⟩
              case round =>
                clear hbw hlt
                obtain ⟨q, o, hq, rfl, rfl, ho, hbw⟩ := hrel
                by_cases hlt : q < 5
                · have hix := rx5 st q hlt
                  have hd5 : decide ((q : Int) < 5) = true := by simpa using (by omega : (q : Int) < 5)
                  have HO := Lib.hid ho
                  clear ho
                  go_wp2
                  go_loopw [7, 10] (fun v sh wr => ∃ (j : Nat) (o : ByteArray), j ≤ 8 ∧ sh = .int .i64 (28 - 4 * (j : Int)) ∧ v = .string o ∧ o.data.toList = hexL st q ++ hexW (st.nth q) j ∧ Below w.heap.size w wr) (fun _ sh _ => (intOf sh + 4).toNat)
                  case atStart => exact ⟨0, o, by omega, rfl, rfl, by simpa [hexW] using HO.out, hbw⟩
                  case round =>
                    clear HO hix hbw
                    obtain ⟨j, o, hj, rfl, rfl, ho, hbw⟩ := hrel
                    by_cases hjl : j < 8
                    · obtain ⟨d0, d1⟩ := and15 (st.nth q / 2 ^ (28 - 4 * j))
                      have hcvb := fun (b : UInt8) => conv_one wr b
                      have hosz : o.size = 8 * q + j := by
                        have := congrArg List.length ho
                        rw [List.length_append, hexL_length, hexW_length] at this
                        simpa using this
                      have hosl : o.size ≤ 40 := by omega
                      have HO := Lib.hid ho
                      clear ho hosz
                      go_wp2
                      go_roundw
                      case rel => exact ⟨j + 1, _, by omega, by go_num, rfl, by rw [ba_snoc _ _ _ HO.out, hexD_b]; simp [hexW], hbw.alloc hbw.size _⟩
                      case measure => simp [intOf]; omega
                    · obtain rfl : j = 8 := by omega
                      have HO := Lib.hid ho
                      clear ho
                      go_wp2
                      go_roundw
                      case rel => exact ⟨q + 1, o, by omega, by go_num, rfl, HO.out, hbw⟩
                      case measure => simp [intOf]; omega
                · obtain rfl : q = 5 := by omega
                  have HO := Lib.hid ho
                  clear ho
                  go_wp2
                  go_ret
                  refine ⟨?_, hbw⟩
                  show Ending.returned (.string o) = _
                  have e1 : hexL st 5 = sumL s.data.toList := by
                    unfold sumL
                    rw [HS.out, HMM.out, ← HSL.out, ref_eq s.data.toList k c (by rw [HSL.out]; exact HZC.out) HNBE.out]
                  rw [← e1, ← HO.out]
end Go.Proofs.Ytebjfmchpmbihaa
