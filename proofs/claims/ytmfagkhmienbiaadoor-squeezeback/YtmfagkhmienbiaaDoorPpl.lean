/- THE WALKS of squeeze.putPlain and squeeze.saves. -/
import Derived.Test.YtmfagkhmienbiaaDoorMrk
import Derived.Test.YtmfagkhmienbiaaDoorLgst4
namespace Go.Proofs.YtmfagkhmienbiaaDoor
open Go.RowKit

theorem saves_any (z : Nat) (b : Bool) (w : World) : Calls Tryd.prog 17 #[.int .i64 (z : Int), .bool b] w fun e w' => e = .returned (.bool (if b then decide (3 < z) else decide (3 ≤ z))) ∧ w = w' := by
  cases b
  · have d1 : decide (3 ≤ (z : Int)) = decide (3 ≤ z) := by by_cases h : 3 ≤ z <;> simp [h] <;> omega
    go_enter Tryd.func17, Tryd.ntmps17
    go_wp2
    go_ret
    exact ⟨by simp, rfl⟩
  · have d1 : decide (3 < (z : Int)) = decide (3 < z) := by by_cases h : 3 < z <;> simp [h] <;> omega
    go_enter Tryd.func17, Tryd.ntmps17
    go_wp2
    go_ret
    exact ⟨by simp, rfl⟩
/-- 'append(v, bytes)' of bytes that lie in memory, at the operation. -/
theorem wpList_appM {ops : Array Oper} {rest : List Oper} {o : Oper} {a : Act} {Q : Exit → Act → World → Prop} {B : Nat} (w : World) (hgd : o.guard = none) (s x : Operand)
    (ho : o.op = .call { callee := .builtin .append, args := #[s, x], argTypes := #[30, 30] }) (hty : o.type = 30)
    (v : Value) (l : List UInt8) (hs : a.eval s = v) (hown : OwnM B w v l) (bs : List UInt8) (m c g : Nat) (cs : Array Value) (hm : bs.length = m) (hx : a.eval x = .slice (some ⟨g, 0, none⟩) m c) (hcs : Rw w g 5 cs) (hbs : cs = byteRow bs)
    (hB : B ≤ w.heap.size) (hlen : l.length + bs.length ≤ 1099511627776)
    (h : ∀ v' w', OwnM B w' v' (l ++ bs) → Fr B w w' → wpList Tryd.prog ops Q rest (a.put o.dst v') w') :
    wpList Tryd.prog ops Q (o :: rest) a w := by
  subst hm hbs
  obtain ⟨v', w', hr, h1, h2⟩ := run_appM hown bs ⟨g, 0, none⟩ c (fun j u hj => by
    rw [Addr.add_mid, Nat.zero_add, hcs.at j]
    simpa [byteRow] using hj) hB hlen
  refine wpList_plain hgd fun K hK => ?_
  unfold Oper.wp execOp
  simp only [ho, resolve, invoke, builtin, Sem.run_bind, Sem.run_pure, Result.andThen_ok, List.map_toArray, List.map_cons, List.map_nil, hs, hx, hty, hr]
  exact hK _ _ (h v' w' h1 (Fr.grown hown h2))
theorem wpList_appMS {ops : Array Oper} {rest : List Oper} {o : Oper} {a : Act} {Q : Exit → Act → World → Prop} {B : Nat} (w : World) (hgd : o.guard = none) (s x : Operand)
    (ho : o.op = .call { callee := .builtin .append, args := #[s, x], argTypes := #[30, 9] }) (hty : o.type = 30)
    (v : Value) (l : List UInt8) (hs : a.eval s = v) (hown : OwnM B w v l) (b : ByteArray) (hx : a.eval x = .string b)
    (hB : B ≤ w.heap.size) (hlen : l.length + b.size ≤ 1099511627776)
    (h : ∀ v' w', OwnM B w' v' (l ++ b.data.toList) → Fr B w w' → wpList Tryd.prog ops Q rest (a.put o.dst v') w') :
    wpList Tryd.prog ops Q (o :: rest) a w := by
  obtain ⟨v', w', hr, h1, h2⟩ := run_appMS hown b hB hlen
  refine wpList_plain hgd fun K hK => ?_
  unfold Oper.wp execOp
  simp only [ho, resolve, invoke, builtin, Sem.run_bind, Sem.run_pure, Result.andThen_ok, List.map_toArray, List.map_cons, List.map_nil, hs, hx, hty, hr]
  exact hK _ _ (h v' w' h1 (Fr.grown hown h2))
theorem pl_ext {s : ByteArray} (h : 0 < s.size) (n : Nat) (hn : n = min s.size 128) (x : UInt8) (hx : x.toNat = n - 1) : pl s.data.toList = [x] ++ (s.extract 0 n).data.toList ++ pl (s.extract n s.size).data.toList := by
  have hl : s.data.toList.length = s.size := Array.length_toList
  rw [pl_step (fun e => by rw [e] at hl; simp at hl; omega), ext_head, ext_tail, hl]
  have e1 : UInt8.ofNat (min s.size 128 - 1) = x := by
    apply UInt8.toNat_inj.1
    rw [UInt8.toNat_ofNat']; omega
  rw [e1]
  by_cases h1 : s.size ≤ 128
  · rw [List.take_of_length_le (by omega), List.take_of_length_le (by omega), List.drop_of_length_le (by omega), List.drop_of_length_le (by omega)]
    simp
  · rw [show n = 128 by omega]
    simp
set_option maxRecDepth 100000 in
set_option maxHeartbeats 1000000 in
theorem putPlain_any (B : Nat) (v0 : Value) (l0 : List UInt8) (s : ByteArray) (hs : s.size ≤ 60000) (hl : l0.length ≤ 200000) (w : World) (hB : B ≤ w.heap.size) (hown : OwnM B w v0 l0) :
    Calls Tryd.prog 19 #[v0, .string s] w fun e w' => ∃ v', e = .returned v' ∧ OwnM B w' v' (l0 ++ pl s.data.toList) ∧ Fr B w w' := by
  have hbig : (pl s.data.toList).length ≤ 70000 := by rw [pl_len, show s.data.toList.length = s.size from Array.length_toList]; omega
  have HB := Lib.hid hbig
  clear hbig
  go_enter Tryd.func19, Tryd.ntmps19
  go_wp2_with fail
  go_loopg [0, 1] (s.size + 1) (fun g a b wr => ∃ (v : Value) (l : List UInt8) (t : ByteArray), a = v ∧ b = .string t ∧ t.size ≤ s.size ∧ g = t.size + 1 ∧ OwnM B wr v l ∧ Fr B w wr ∧ Hid (l ++ pl t.data.toList = l0 ++ pl s.data.toList))
  case atStart => exact ⟨v0, l0, s, rfl, rfl, by omega, rfl, hown, Fr.refl _ _, Lib.hid rfl⟩
  case round =>
    obtain ⟨v, l, t, rfl, rfl, ht, hg, hwn, hfr, HE⟩ := hrel
    have hll : l.length ≤ 300000 := by
      have := congrArg List.length HE.out
      simp only [List.length_append] at this
      have := HB.out
      omega
    by_cases h0 : t.size = 0
    · have e0 : t = ByteArray.empty := ByteArray.ext (Array.eq_empty_of_size_eq_zero h0)
      subst e0
      have hE := HE.out
      rw [show (ByteArray.empty.data.toList : List UInt8) = [] from rfl, pl_nil, List.append_nil] at hE
      have HE2 := Lib.hid hE
      clear hE HE h0
      go_wp2_with fail
      go_ret
      exact ⟨_, rfl, by rw [← HE2.out]; exact hwn, hfr⟩
    · have t0 : t.toList.isEmpty = false := by
        rw [Lib.toList_data]
        cases h : t.data.toList with
        | nil => exact absurd (by have := congrArg List.length h; simpa using this) h0
        | cons _ _ => rfl
      obtain ⟨n, hn⟩ : ∃ n : Nat, n = min t.size 128 := ⟨_, rfl⟩
      have n1 : 1 ≤ n := by omega
      have n2 : n ≤ 128 := by omega
      have n3 : n ≤ t.size := by omega
      obtain ⟨x, hx⟩ : ∃ x : UInt8, x.toNat = n - 1 := ⟨UInt8.ofNat (n - 1), by rw [UInt8.toNat_ofNat']; omega⟩
      have hpl := pl_ext (by omega) n hn x hx
      have HN := Lib.hid (And.intro hn hpl)
      go_upto_region 2 with fail
      go_cut [5] (fun m wx => m = .int .i64 (n : Int) ∧ wx = wr)
      case first =>
        clear hpl
        go_wp2_with fail
        all_goals
          go_meet
          case rel => exact ⟨congrArg _ (by omega), rfl⟩
      case rest =>
        obtain ⟨rfl, hwx⟩ := hcut
        have hwx := hwx.symm
        subst hwx
        have e1 : (n : Int) - 1 = (x.toNat : Int) := by omega
        have b1 : (x.toNat : Int) < 256 := by omega
        have hA : Below wr.heap.size wr (wr.alloc (.cells #[.int .u8 (x.toNat : Int)] 5)) := (Below.refl _ _).alloc (Nat.le_refl _) _
        have r1 : Rw (wr.alloc (.cells #[.int .u8 (x.toNat : Int)] 5)) wr.heap.size 5 #[.int .u8 (x.toNat : Int)] := Rw.fresh _ _ _
        have hBr : B ≤ (wr.alloc (.cells #[.int .u8 (x.toNat : Int)] 5)).heap.size := by have := hfr.size; simp; omega
        have o1 := hwn.step hA
        obtain ⟨y, hy⟩ : ∃ y, y = t.extract 0 n := ⟨_, rfl⟩
        have hyz : y.size = n := by rw [hy, ext_size _ _ _ n3]; omega
        obtain ⟨r, hr⟩ : ∃ r, r = t.extract n t.size := ⟨_, rfl⟩
        have hrz : r.size = t.size - n := by rw [hr, ext_size _ _ _ (Nat.le_refl _)]
        have hE := HE.out
        rw [hpl, ← hy, ← hr] at hE
        have HE2 : Hid (l ++ [x] ++ y.data.toList ++ pl r.data.toList = l0 ++ pl s.data.toList) := Lib.hid (by rw [← hE]; simp)
        have hy2 : t.extract 0 n = y := hy.symm
        have hr2 : t.extract n t.size = r := hr.symm
        clear hpl hn HN hE hx hy hr HE
        go_wp2_with (first
          | (at_builtin; refine wpList_appM _ rfl _ _ rfl rfl _ l rfl o1 [x] 1 1 wr.heap.size _ rfl rfl r1 rfl hBr (by simp; omega) ?_; intro v1 w1 o2 f1)
          | (at_builtin; refine wpList_appMS _ rfl _ _ rfl rfl _ (l ++ [x]) rfl o2 y rfl (by have := f1.size; omega) (by simp; omega) ?_; intro v2 w2 o3 f2))
        go_roundg (r.size + 1)
        case measure => omega
        case rel => exact ⟨v2, _, r, rfl, rfl, by omega, rfl, o3, ((hfr.trans (Fr.of_below hA)).trans f1).trans f2, HE2⟩
end Go.Proofs.YtmfagkhmienbiaaDoor
