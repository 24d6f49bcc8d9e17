/- THE WALK of store.do. -/
import Derived.Test.YtlofjfeimhjdlaaDoorRead7
namespace Go.Proofs.YtlofjfeimhjdlaaDoor
open Go.RowKit
set_option maxRecDepth 100000

theorem turns_take {st rs : List Rr} {i : Nat} {r : Rr} (h : rs[i]? = some r) : turns st (rs.take (i + 1)) = turn (turns st (rs.take i)) r := by
  obtain ⟨hi, rfl⟩ := List.getElem?_eq_some_iff.1 h
  rw [List.take_succ_eq_append_getElem hi]
  unfold turns
  rw [List.foldl_append]
  rfl
/-- What has come of a text that was done. -/
abbrev DoAt (w : World) (base sg jg : Nat) (x : Value) (st : List Rr) (e : Ending) (w' : World) : Prop :=
  e = .returned (.tuple #[]) ∧ ∃ y, SnAt w' base sg jg y st ∧ But (SS sg x) w w' ∧ Gone w x y
/-- While rows are done. -/
structure DoI (w wr : World) (base sg jg : Nat) (x y X : Value) (st rs : List Rr) (i : Nat) : Prop where
  sn : SnAt wr base sg jg y (turns st (rs.take i))
  but : But (fun k => SS sg x k ∨ w.heap.size ≤ k) w wr
  row : OwnR wr w.heap.size X rs
  gone : Gone w x y
  ne : ∀ k, X.ownBlock = some k → ¬ SS sg y k
set_option maxHeartbeats 2000000 in
theorem do_any (base sg jg : Nat) (x : Value) (st : List Rr) (s : ByteArray) (w : World) (hbase : base ≤ w.heap.size) (hs : s.size ≤ 1000000000000) (hl : st.length ≤ 90000000000) (hst : Srt st) (h : SnAt w base sg jg x st) :
    Calls Tryd.prog 26 #[.pointer (some ⟨sg, 0, none⟩), .string s] w (DoAt w base sg jg x (doT st s.data.toList)) := by
  have pr := read_any s (by omega) w
  have hsl : s.data.toList.length = s.size := Array.length_toList
  unfold readPost at pr
  cases hr : rread s.data.toList with
  | none =>
    rw [hr] at pr
    have e : doT st s.data.toList = st := by unfold doT; rw [hr]
    rw [e]
    simp only at pr
    clear e hr hsl
    go_enter Tryd.func26, Tryd.ntmps26
    go_wp2_with (go_at_call 14; (with_reducible refine pr.mono ?_); rintro e w1 ⟨rfl, hb1⟩)
    go_loopw [15] (fun i wr => i = .int .i64 0 ∧ wr = w1) (fun _ _ => 0)
    case atStart => exact ⟨rfl, rfl⟩
    case round =>
      obtain ⟨rfl, rfl⟩ := hrel
      go_wp2
      go_end0
      exact ⟨rfl, x, h.next hb1, But.of_below _ hb1, .inl rfl⟩
  | some rs =>
    rw [hr] at pr
    have e : doT st s.data.toList = turns st rs := by unfold doT; rw [hr]
    rw [e]
    obtain ⟨hrt, hok⟩ := rread_is hr
    have hrl : rs.length ≤ s.size := by rw [← hsl, ← hrt]; exact rtext_len rs
    simp only at pr
    have hx0 := h.lt
    clear e hr hsl hrt
    go_enter Tryd.func26, Tryd.ntmps26
    go_wp2_with (go_at_call 14; (with_reducible refine pr.mono ?_); rintro e w1 ⟨⟨X, rfl, hX⟩, hb1⟩; rcases hX.shape with ⟨rfl, hnil⟩ | ⟨gX, cX, rfl⟩)
    · obtain rfl := hnil
      go_loopw [15] (fun i wr => i = .int .i64 0 ∧ wr = w1) (fun _ _ => 0)
      case atStart => exact ⟨rfl, rfl⟩
      case round =>
        obtain ⟨rfl, rfl⟩ := hrel
        go_wp2
        go_end0
        exact ⟨rfl, x, h.next hb1, But.of_below _ hb1, .inl rfl⟩
    · obtain ⟨n, hn⟩ : ∃ n, n = rs.length := ⟨_, rfl⟩
      rw [← hn] at hX hrl ⊢
      have HN := Lib.hid hn
      have hI0 : DoI w w1 base sg jg x x (.slice (some ⟨gX, 0, none⟩) n cX) st rs 0 := by
        refine ⟨h.next hb1, But.of_below _ hb1, hX, .inl rfl, fun k hk hS => ?_⟩
        have h1 := (hX.lt k hk).1
        have h2 := hx0 k hS
        omega
      have hsz := hb1.size
      clear hn pr hX h
      go_loopg [15] (n + 1) (fun G a wr => ∃ (i : Nat) (y : Value), a = .int .i64 (i : Int) ∧ i ≤ n ∧ G = n + 1 - i ∧ DoI w wr base sg jg x y (.slice (some ⟨gX, 0, none⟩) n cX) st rs i)
      case atStart => exact ⟨0, x, rfl, Nat.zero_le _, by omega, hI0⟩
      case round =>
        obtain ⟨i, y, rfl, hi, hG, hI⟩ := hrel
        clear hI0
        by_cases hlt : i < n
        · have t1 : decide ((i : Int) < (n : Int)) = true := by simp; omega
          obtain ⟨r, hrr⟩ : ∃ r, rs[i]? = some r := ⟨_, List.getElem?_eq_getElem (by have := HN.out; omega)⟩
          obtain ⟨c0, c1, c2⟩ := hI.row.at hrr
          obtain ⟨Q, W0, hQ, hW0, hR0, hB0⟩ := box_row wr r
          have d0 := hR0.key
          have d1 := hR0.val
          have d2 := hR0.gon
          have hsrt : Srt (turns st (rs.take i)) := hst.turns _ (fun q hq => hok q (List.mem_of_mem_take hq))
          have hlen : (turns st (rs.take i)).length ≤ 1099511627775 := by
            have := turns_len (rs.take i) st
            rw [List.length_take] at this
            omega
          have hbs : base ≤ W0.heap.size := Nat.le_trans hbase (Nat.le_trans hI.but.size hB0.size)
          have pp := put_any base sg jg y (turns st (rs.take i)) r W0 hbs hsrt.up hlen (hI.sn.next hB0)
          rw [← turns_take hrr] at pp
          unfold rval at pp
          have HT := Lib.hid hrr
          clear hrr
          go_wp2_with (go_at_call 42; (with_reducible refine pp.mono ?_); rintro e w2 ⟨rfl, z, hS2, hB2, hg2⟩)
          go_roundg (n + 1 - (i + 1))
          case measure => omega
          case rel =>
            have hys : ∀ k, y.ownBlock = some k → x.ownBlock = some k ∨ w.heap.size ≤ k := fun k hk => by
              rcases hI.gone with e | e
              · exact .inl (e ▸ hk)
              · exact .inr (e k hk)
            have hwW : w.heap.size ≤ W0.heap.size := Nat.le_trans hI.but.size hB0.size
            refine ⟨i + 1, z, by go_num, by omega, rfl, hS2, (hI.but.trans (But.of_below _ hB0)).trans (hB2.mono fun k _ hk => ?_), own_but (S := SS sg y) (OwnR.next hI.row hB0) hB2 (fun k hk => hI.ne k hk), ?_, fun k hk hS => ?_⟩
            · rcases hk with rfl | hk
              · exact .inl (.inl rfl)
              · rcases hys k hk with h1 | h1
                · exact .inl (.inr h1)
                · exact .inr h1
            · rcases hg2 with e | e
              · rw [Gone, e]; exact hI.gone
              · exact .inr fun k hk => Nat.le_trans hwW (e k hk)
            · rcases hS with rfl | hS
              · exact hI.ne k hk (.inl rfl)
              · rcases hg2 with e | e
                · exact hI.ne k hk (.inr (e ▸ hS))
                · have h1 := e k hS
                  have h2 := (hI.row.lt k hk).2
                  have h3 := hB0.size
                  omega
        · obtain rfl : i = n := by omega
          have t1 : decide ((i : Int) < (i : Int)) = false := by simp
          have e1 : rs.take i = rs := by rw [HN.out, List.take_length]
          have hsn := hI.sn
          rw [e1] at hsn
          go_wp2
          go_end0
          exact ⟨rfl, y, hsn, hI.but.mono (fun k hk hS => by
            rcases hS with hS | hS
            · exact hS
            · omega), hI.gone⟩
end Go.Proofs.YtlofjfeimhjdlaaDoor
