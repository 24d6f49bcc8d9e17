/- THE WALK of (hash.state).mix: one block taken in. -/
import Derived.Test.YtebjfmchpmbihaaSched
namespace Go.Proofs.Ytebjfmchpmbihaa
open Go.RowKit

def St.cells (s : St) : Array Value := #[.int .u32 s.a, .int .u32 s.b, .int .u32 s.c, .int .u32 s.d, .int .u32 s.e]
/-- What holds all through mix: the state's cells, the result's, the words. -/
def MixAt (st : St) (s : List UInt8) (w wr : World) (g : Nat) : Prop :=
  Below w.heap.size w wr ∧ Rw wr w.heap.size 37 st.cells ∧ (∃ cs : Array Value, cs.size = 5 ∧ Rw wr (w.heap.size + 1) 37 cs) ∧ Rw wr g 46 (wa s 80)
theorem MixAt.drew {st : St} {s : List UInt8} {w wr : World} {g : Nat} (h : MixAt st s w wr g) : MixAt st s w wr.drew g := ⟨h.1.drew, h.2.1, h.2.2.1, h.2.2.2⟩
theorem MixAt.got {st : St} {s : List UInt8} {w wr : World} {g k : Nat} (h : MixAt st s w wr g) (hk : k < 80) : wr.cell? ⟨g, k, none⟩ = some (.int .u32 ((wl s 80).getD k 0)) := by
  rw [h.2.2.2.at k]; exact wa_get s 80 k hk
theorem mix_start {st : St} {s : List UInt8} {w w1 w2 : World} {z : Array Value} {O : Obj} (hz : z.size = 5)
    (hb : Below ((w.alloc (.cells st.cells 37)).alloc (.cells z 37)).heap.size ((w.alloc (.cells st.cells 37)).alloc (.cells z 37)) w1)
    (hw : Rw w2 w1.heap.size 46 (wa s 80)) (hk : ∀ k, k ≠ w1.heap.size → w2.heap[k]? = (w1.alloc O).heap[k]?)
    (hbw : ∀ B c, B ≤ w1.heap.size → Below B c (w1.alloc O) → Below B c w2) : MixAt st s w w2 w1.heap.size := by
  have hs := hb.size
  simp only [World.size_alloc] at hb hs
  have e0 := ((Rw.fresh w 37 st.cells).alloc (.cells z 37)).below hb (by omega)
  have e1 := Rw.fresh (w.alloc (.cells st.cells 37)) 37 z
  rw [World.size_alloc] at e1
  have e1 := e1.below hb (by omega)
  refine ⟨hbw _ _ (by omega) ?_, (hk _ (by omega)).trans (e0.alloc O), ⟨z, hz, (hk _ (by omega)).trans (e1.alloc O)⟩, hw⟩
  exact ((((Below.refl _ _).alloc (Nat.le_refl _) _).alloc (by simp) _).trans (hb.mono (by omega))).alloc (by omega) _

theorem five_one (a b c d e : Int) : (#[Value.int .u32 a, .int .u32 b, .int .u32 c, .int .u32 d, .int .u32 e]).all (·.oneCell') = true := by simp [Value.oneCell']
theorem wrap_u32 (n : Int) : IntKind.u32.wrap n = n % 4294967296 := rfl
set_option maxHeartbeats 1000000 in
theorem mix_any (st : St) (s : ByteArray) (hs : s.size = 64) (w : World) :
    Calls Try.prog 14 #[st.val, .string s] w fun e w' => e = .returned (mixS st s.data.toList).val ∧ Below w.heap.size w w' := by
  have hz := zero80
  unfold St.val
  go_enter Try.func14, Try.ntmps14
  go_wp2_with (first
    | (go_at_call 21; refine (sched_any s hs _).mono ?_; rintro e w1 ⟨rfl, hb1⟩; have hr1 := Rw.fresh w1 46 (wa [] 0))
    | (refine wpList_store_whole rfl 46 (.tmp 5) (.tmp 16) rfl rfl w1.heap.size (wa s.data.toList 80) rfl rfl hr1 (by rw [wa_size _ _ (Nat.le_refl _), wa_size _ _ (Nat.zero_le _)]) (by rw [wa_size _ _ (Nat.le_refl _)]; exact wa_info) (wa_one _ _) ?_; intro w2 hw2 hk2 _ hbw))
  have hat : MixAt st s.data.toList w w2 w1.heap.size := mix_start rfl hb1 hw2 hk2 hbw
  clear hw2 hk2 hbw hb1 hr1
  generalize w1.heap.size = g at hat ⊢
  have c0 : w2.cell? ⟨w.heap.size, 0, none⟩ = some (.int .u32 st.a) := hat.2.1.at 0
  have c1 : w2.cell? ⟨w.heap.size, 1, none⟩ = some (.int .u32 st.b) := hat.2.1.at 1
  have c2 : w2.cell? ⟨w.heap.size, 2, none⟩ = some (.int .u32 st.c) := hat.2.1.at 2
  have c3 : w2.cell? ⟨w.heap.size, 3, none⟩ = some (.int .u32 st.d) := hat.2.1.at 3
  have c4 : w2.cell? ⟨w.heap.size, 4, none⟩ = some (.int .u32 st.e) := hat.2.1.at 4
  refine wp_region_still_lit (by kernel_rfl) (by kernel_rfl) ?_
  repeat still_step
  refine wpStill_nil ?_
  go_wp2
  change Code.wp _ _ _ _ w2.drew
  clear c0 c1 c2 c3 c4
  have hat := hat.drew
  generalize w2.drew = w3 at hat ⊢
  go_loopw [6, 7, 8, 9, 10, 27] (fun a b c d e i wr => ∃ k : Nat, k ≤ 80 ∧ i = .int .i64 k ∧ a = .int .u32 (rnds (wl s.data.toList 80) k st).a ∧ b = .int .u32 (rnds (wl s.data.toList 80) k st).b ∧ c = .int .u32 (rnds (wl s.data.toList 80) k st).c ∧ d = .int .u32 (rnds (wl s.data.toList 80) k st).d ∧ e = .int .u32 (rnds (wl s.data.toList 80) k st).e ∧ MixAt st s.data.toList w wr g) (fun _ _ _ _ _ i _ => 80 - (intOf i).toNat)
  case atStart => exact ⟨0, by omega, rfl, rfl, rfl, rfl, rfl, rfl, hat⟩
  case round =>
    clear hat
    obtain ⟨k, hk, rfl, rfl, rfl, rfl, rfl, rfl, hat⟩ := hrel
    by_cases hlt : k < 80
    · have hr : ∃ r, r = rnds (wl s.data.toList 80) k st := ⟨_, rfl⟩
      obtain ⟨r, hr⟩ := hr
      rw [← hr]
      have HR := Lib.hid hr
      clear hr
      go_wp2_with (go_at_call 22; refine (step_any k _ _ _ _).mono ?_; rintro e w' ⟨rfl, rfl⟩)
      have cw := hat.got hlt
      have g4 : (k : Int) < 80 := by omega
      refine wp_region_still_lit (by kernel_rfl) (by kernel_rfl) ?_
      repeat still_step
      still_call ((rotl5 _ _).mono fun _ _ h => ⟨h.1, h.2.symm⟩)
      repeat still_step
      refine wpStill_nil ?_
      clear cw g4
      go_wp2_with (go_at_call 23; refine (rotl30 _ _).mono ?_; rintro e w' ⟨rfl, rfl⟩)
      go_roundw
      case rel =>
        refine ⟨k + 1, by omega, by go_num, ?_, ?_, ?_, ?_, ?_, hat.drew⟩
        · rw [show rnds (wl s.data.toList 80) (k + 1) st = rnd (wl s.data.toList 80) k r by rw [HR.out]; rfl]
          simp only [rnd, nxt, wrap_u32, List.getD_eq_getElem?_getD]
        all_goals (rw [show rnds (wl s.data.toList 80) (k + 1) st = rnd (wl s.data.toList 80) k r by rw [HR.out]; rfl]; rfl)
      case measure => simp [intOf]; omega
    · obtain rfl : k = 80 := by omega
      have c0 : wr.cell? ⟨w.heap.size, 0, none⟩ = some (.int .u32 st.a) := hat.2.1.at 0
      have c1 : wr.cell? ⟨w.heap.size, 1, none⟩ = some (.int .u32 st.b) := hat.2.1.at 1
      have c2 : wr.cell? ⟨w.heap.size, 2, none⟩ = some (.int .u32 st.c) := hat.2.1.at 2
      have c3 : wr.cell? ⟨w.heap.size, 3, none⟩ = some (.int .u32 st.d) := hat.2.1.at 3
      have c4 : wr.cell? ⟨w.heap.size, 4, none⟩ = some (.int .u32 st.e) := hat.2.1.at 4
      obtain ⟨hb, _, ⟨cs, hcs, h4⟩, _⟩ := hat
      go_wp2_with (refine wpList_store_whole rfl 37 (.tmp 4) (.tmp 77) rfl rfl (w.heap.size + 1) _ rfl rfl h4 ?hz ?hi ?ho ?_; rotate_right; intro w4 hw4 _ _ hbw)
      · exact bodyPost_ret (results_cell_row rfl _ w4 (w.heap.size + 1) 37 _ (0, 0) _ rfl hw4 Try.underlying37 rfl (by kernel_rfl)) rfl ⟨rfl, hbw _ _ (by omega) hb⟩
      case hz => rw [hcs]; rfl
      case hi => kernel_rfl
      case ho => exact five_one _ _ _ _ _
end Go.Proofs.Ytebjfmchpmbihaa
