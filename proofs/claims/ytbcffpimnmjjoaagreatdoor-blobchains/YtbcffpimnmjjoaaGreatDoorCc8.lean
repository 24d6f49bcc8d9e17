/- THE WALK of ammonitelaw8.BlobChains. -/
import Derived.Test.YtbcffpimnmjjoaaGreatDoorCi8
import Derived.Test.YtbcffpimnmjjoaaGreatDoorCk8
import Derived.Test.YtbcffpimnmjjoaaGreatDoorBr8
import Derived.Test.YtbcffpimnmjjoaaGreatDoorPs8
import Derived.Test.YtbcffpimnmjjoaaGreatDoorWthn
import Derived.Maps.AppendAt
namespace Go.Proofs.YtbcffpimnmjjoaaGreatDoor
open Go.RowKit Go.Shelf
set_option maxRecDepth 100000

set_option maxHeartbeats 4000000 in
theorem bchains_any (n : Int) (c : UInt8) (w : World) (hP : Pow w) (hX : MxL w) :
    Calls Tryz.prog 6 #[.int .i64 n, .int .u8 (c.toNat : Int)] w fun e w' => e = .returned (.bool true) ∧ Below w.heap.size w w' := by
  obtain ⟨k, hk, hk1, hk9⟩ := wthn_nat n 1 9 (by omega) (by omega)
  have pW := within_to n 1 9 k (by omega) (by omega) (by omega) hk
  clear hk
  have p0 := new_any 1500 1500 rfl w
  have hnew : Holds (newDk 1500).ss [] := Holds.new 1500
  have f0 : Fresh (newDk 1500) 1500 := ⟨rfl, rfl, by simp [newDk]⟩
  obtain ⟨G, hG⟩ : ∃ G, w.heap.size + 1 = G := ⟨_, rfl⟩
  obtain ⟨B, hB⟩ : ∃ B, w.heap.size = B := ⟨_, rfl⟩
  rw [hG] at p0
  have g1 : w.heap.size ≤ G := by omega
  have g2 : w.heap.size ≤ B := by omega
  have p0' : Calls Tryz.prog 8 #[.int .i64 1500] w fun e w' => e = .returned (.pointer (some ⟨G, 0, none⟩)) ∧ DkAt w' G B 1500 (newDk 1500) ∧ Below w.heap.size w w' := by rw [← hB]; exact p0
  clear p0 hG hB
  go_enter Tryz.func6, Tryz.ntmps6
  go_upto_region 5 with (first
    | (go_at_call 8; (with_reducible refine p0'.mono ?_); rintro e w1 ⟨rfl, hA0, hb0⟩)
    | (go_at_call 9; (with_reducible refine (so_open hA0 hnew hb0 g1 g2).mono ?_); rintro e w2 ⟨jg, v, sg, x, rfl, hS0, _, _, _, _, _⟩))
  have hBS : BS w w2 1500 sg [] 0 (SB G B jg v sg x) := ⟨G, B, 1500, jg, _, v, x, [], hS0, hnew, f0, Nat.le_refl _, rfl⟩
  generalize SB G B jg v sg x = S at hBS
  clear hS0 hA0 hb0 p0' hnew f0
  have hCI : CI w w2 sg c 0 (.slice none 0 0) (.slice none 0 0) [] 0 S := ⟨hBS, Nat.le_refl _, RdOk.nil, Nat.le_refl _, Bl.nil, fun h => by omega, World.ownsRow_nil _ _ _ _, World.ownsRow_nil _ _ _ _, fun _ h => (by cases h), fun _ h => (by cases h), fun _ h => (by cases h)⟩
  clear hBS
  go_cut [7] (fun m wx => m = .string (bA (Ha.grow c 0)) ∧ wx = w2)
  case first =>
    go_wp2_with fail
    go_meet
    case rel => exact ⟨rfl, rfl⟩
  case rest =>
    obtain ⟨rfl, hwc⟩ := hcut
    subst hwc
    generalize hg0 : bA (Ha.grow c 0) = X0
    go_wp2_with (go_at_call 18; (with_reducible refine (pW _).mono ?_); rintro e w9 ⟨rfl, hw9⟩; subst hw9)
    subst hg0
    go_loopg [7, 9, 10, 11, 31] 10 (fun g t la nv tv cn wr => ∃ (j : Nat) (st : List Rr) (used : Nat) (S : Nat → Prop), t = .string (bA (Ha.grow c j)) ∧ la = .string (bA (lastG c j)) ∧ cn = .int .i64 (j : Int) ∧ j ≤ k ∧ g = 10 - j ∧ CI w wr sg c j nv tv st used S)
    case atStart => exact ⟨0, _, _, _, rfl, rfl, rfl, by omega, rfl, hCI⟩
    case round =>
      clear hCI
      obtain ⟨j, st, used, S, rfl, rfl, rfl, hj, rfl, hC⟩ := hrel
      by_cases hlt : j < k
      · have d1 : decide ((j : Int) < (k : Int)) = true := by simp; omega
        have hj9 : j < 9 := by omega
        have hcn : ((UInt8.ofNat (97 + j)).toNat : Int) = 97 + (j : Int) := by rw [UInt8.toNat_ofNat']; omega
        obtain ⟨gb, hgb⟩ : ∃ gb : ByteArray, gb = ⟨#[c, UInt8.ofNat (97 + j)]⟩ := ⟨_, rfl⟩
        have hcv : (convert 60 9 (.slice (some ⟨wr.heap.size, 0, none⟩) 2 2)).run Tryz.prog (wr.alloc (.cells #[.int .u8 (c.toNat : Int), .int .u8 (97 + (j : Int))] 5)) = .ok (.string gb) (wr.alloc (.cells #[.int .u8 (c.toNat : Int), .int .u8 (97 + (j : Int))] 5)) := by
          rw [← hcn, hgb]
          exact conv_row wr.heap.size 2 [c, UInt8.ofNat (97 + j)] (Rw.fresh wr _ _) rfl
        have hb1 : Below wr.heap.size wr (wr.alloc (.cells #[.int .u8 (c.toNat : Int), .int .u8 (97 + (j : Int))] 5)) := (Below.refl _ wr).alloc (Nat.le_refl _) _
        have hgl := grow_len c j
        have hgz : (bA (Ha.grow c j)).size ≤ 200 := by show (Ha.grow c j).length ≤ _; omega
        have hgr : bA (Ha.grow c j) ++ gb = bA (Ha.grow c (j + 1)) := by rw [hgb]; exact bA_app (Ha.grow c j) [c, UInt8.ofNat (97 + j)]
        have hbz : gb.size = 2 := by rw [hgb]; rfl
        clear hgb
        have hcn2 : IntKind.u8.wrap (97 + (j : Int)) = 97 + (j : Int) := by simp [IntKind.wrap, IntKind.bits, IntKind.signed]; omega
        clear hcn
        generalize hgt : bA (Ha.grow c j) = gt at hgz hgr ⊢
        obtain ⟨gn, hgn⟩ : ∃ gn, bA (Ha.grow c (j + 1)) = gn := ⟨_, rfl⟩
        obtain ⟨xn, hxn⟩ : ∃ xn, bA (nmG c (j + 1)) = xn := ⟨_, rfl⟩
        obtain ⟨la, hla⟩ : ∃ la, bA (lastG c j) = la := ⟨_, rfl⟩
        rw [hgn] at hgr
        rw [hla]
        have hgl1 := grow_len c (j + 1)
        have pS : ∀ V, Calls Tryz.prog 10 #[.string gn] V fun e w' => e = .returned (.string xn) ∧ Below V.heap.size V w' := fun V => by
          rw [← hgn, ← hxn]
          exact Ha.sum_any (bA (Ha.grow c (j + 1))) (by show (Ha.grow c (j + 1)).length ≤ _; omega) V
        have hlz : (lastG c j).length ≤ 40 := by unfold lastG; split; exact Nat.zero_le _; rw [show (nmG c j).length = 40 from Ha.sumL_len _]; exact Nat.le_refl _
        have hnz : (nmG c (j + 1)).length = 40 := Ha.sumL_len _
        have pR : ∀ V, Below wr.heap.size wr V → Calls Tryz.prog 12 #[.pointer (some ⟨sg, 0, none⟩), .string xn, .string gn, .string la] V fun e W' => ∃ (r : Rr) (o : Option (List UInt8)), e = .returned (.agg #[.string (bA r.k), .string (bA r.v), .bool r.g]) ∧ Hid (r = rowOf (nmG c (j + 1)) (Ha.grow c (j + 1)) (lastG c j) o ∧ ChOk st (nmG c (j + 1)) (Ha.grow c (j + 1)) (lastG c j) o) ∧ Below V.heap.size V W' := fun V hV => by
          obtain ⟨jg, y, hsn⟩ := (hC.bs.next hV).sn
          rw [← hgn, ← hxn, ← hla]
          refine (row_any hC.ok hsn (hX.on ((hC.bs.next hV).bel)) _ _ _ (by omega) (by omega) (by omega) (fun s h => by
            rw [hC.bl.conE] at h
            obtain ⟨i, h1, _, rfl⟩ := fN_some j h
            rw [grow_len]; omega)).mono ?_
          rintro e W' ⟨o, rfl, ho, hbb⟩
          exact ⟨_, o, rfl, Lib.hid ⟨rfl, ho⟩, hbb⟩
        have pC : ∀ V, Below wr.heap.size wr V → ∀ (r : Rr) (o : Option (List UInt8)), Hid (r = rowOf (nmG c (j + 1)) (Ha.grow c (j + 1)) (lastG c j) o ∧ ChOk st (nmG c (j + 1)) (Ha.grow c (j + 1)) (lastG c j) o) → Calls Tryz.prog 11 #[.pointer (some ⟨sg, 0, none⟩), .slice (some ⟨V.heap.size, 0, none⟩) 1 1] (V.alloc (.cells #[.string (bA r.k), .string (bA r.v), .bool r.g] 30)) fun e W' => e = .returned (.int .i64 0) ∧ ∃ st' S', CP w W' sg c j u10 u11 st' (used + 6) S' := fun V hV r o hr => by
          obtain ⟨rfl, ho⟩ := hr.out
          have hp := chain_put hC.ok.srt hC.bl hj9 hC.dp o ho
          have hus := hC.us
          have hrk : (rowOf (nmG c (j + 1)) (Ha.grow c (j + 1)) (lastG c j) o).k = bk (nmG c (j + 1)) := by cases o <;> rfl
          have hrg : (rowOf (nmG c (j + 1)) (Ha.grow c (j + 1)) (lastG c j) o).g = false := by cases o <;> rfl
          refine (commit_row (hC.bs.next hV) hP hC.ok _ ⟨by rw [hrk]; simp [bk], by rw [hrk]; simp [bk]; omega, by omega, fun h => by rw [hrg] at h; cases h⟩ (by omega) 6 (by omega) (by rw [hrk]; simp [bk]; omega) (by omega)).mono ?_
          rintro e W' ⟨rfl, S', h1, h2, h3⟩
          exact ⟨rfl, _, S', (hC.next hV).put hj9 o ho h1 h2 h3⟩
        have hgz' := hgz
        clear hgl hgl1 hlz hnz
        go_upto_region 16 with (first
          | (go_at_call 10; (with_reducible refine (pS _).mono ?_); rintro e w3 ⟨rfl, hb3⟩; have hb13 := bstep hb1 hb3)
          | (go_at_call 12; (with_reducible refine (pR _ hb13).mono ?_); rintro e w4 ⟨r, o, rfl, hr, hb4⟩; have hb14 := bstep hb13 hb4)
          | (go_at_call 11; (with_reducible refine (pC _ hb14 r o hr).mono ?_); rintro e w5 ⟨rfl, st', S', hCP⟩))
        obtain ⟨i0, hi, hz0, hz1, hz2⟩ := info_parts strinfo
        have hml : j + 1 ≤ maxLen := by unfold maxLen; omega
        have hby : (j + 1) * 16 ≤ 140737488355328 := by omega
        have o1 : w5.ownsRow w.heap.size 9 1 u10 j ((nmsG c j).map str) := by have := hCP.nr; unfold OwnT at this; rw [nmsG_len] at this; exact this
        have hwz := hCP.bs.bel.size
        have next1 : ∀ (nv' : Value) (w6 : World), w6.ownsRow w.heap.size 9 1 nv' (j + 1) ((nmsG c j).map str ++ [.string xn]) → (w5.alloc (.cells #[.string xn] 9)).grownBy w6 u10.ownBlock → (nv'.ownBlock = u10.ownBlock ∨ nv'.ownBlock = some (w5.alloc (.cells #[.string xn] 9)).heap.size) →
            w6.ownsRow w.heap.size 9 1 u11 j ((txsG c j).map str) ∧ w.heap.size ≤ (w6.alloc (.cells #[.string gn] 9)).heap.size ∧ ∀ (tv' : Value) (w7 : World), w7.ownsRow w.heap.size 9 1 tv' (j + 1) ((txsG c j).map str ++ [.string gn]) → (w6.alloc (.cells #[.string gn] 9)).grownBy w7 u11.ownBlock → (tv'.ownBlock = u11.ownBlock ∨ tv'.ownBlock = some (w6.alloc (.cells #[.string gn] 9)).heap.size) → CI w w7 sg c (j + 1) nv' tv' st' (used + 6) S' := fun nv' w6 a1 a2 a3 => by
          have a1' : OwnT w6 w.heap.size nv' (nmsG c (j + 1)) := by
            unfold OwnT
            rw [nmsG_len, nmsG_snoc, List.map_append]
            show w6.ownsRow _ _ 1 nv' (j + 1) (_ ++ [.string (bA (nmG c (j + 1)))])
            rw [hxn]; exact a1
          obtain ⟨b1, b2, b3, b4, _⟩ := hCP.name ((Below.refl _ w5).alloc (Nat.le_refl _) _) a2 a3
          have b2' := b2
          unfold OwnT at b2'
          rw [txsG_len] at b2'
          refine ⟨b2', by have := b1.bel.size; simp; omega, fun tv' w7 c1 c2 c3 => ?_⟩
          refine hCP.text b1 a1' b2 b3 b4 ((Below.refl _ w6).alloc (Nat.le_refl _) _) c2 ?_ c3
          unfold OwnT
          rw [txsG_len, txsG_snoc, List.map_append]
          show w7.ownsRow _ _ 1 tv' (j + 1) (_ ++ [.string (bA (Ha.grow c (j + 1)))])
          rw [hgn]; exact c1
        clear pS pR pC hcv hgr hcn2
        go_upto_region 17 with (first
          | (at_builtin; refine wpList_append_own_at _ rfl _ _ 42 rfl w.heap.size 9 i0 _ 1 16 Tryz.underlying42 hi hz0 hz1 hz2 rfl (by omega) u10 j _ rfl (o1.alloc _) ⟨w5.heap.size, 0, none⟩ 1 1 [.string xn] rfl rfl (one_new _ _ _) (one_str xn) hml hby (by simp; omega) ?_; intro nv' w6 ho6 hg6 _ ha6; obtain ⟨o2, hz6, next2⟩ := next1 nv' w6 ho6 hg6 ha6)
          | (at_builtin; refine wpList_append_own_at _ rfl _ _ 42 rfl w.heap.size 9 i0 _ 1 16 Tryz.underlying42 hi hz0 hz1 hz2 rfl (by omega) u11 j _ rfl (o2.alloc _) ⟨w6.heap.size, 0, none⟩ 1 1 [.string gn] rfl rfl (one_new _ _ _) (one_str gn) hml hby hz6 ?_; intro tv' w7 ho7 hg7 _ ha7; have hC7 := next2 tv' w7 ho7 hg7 ha7))
        clear next1 next2 o1 o2 hCP ho6 hg6 ha6 ho7 hg7 ha7
        have pDp : Calls Tryz.prog 17 #[.pointer (some ⟨sg, 0, none⟩), .string xn] w7 fun e W' => e = .returned (.int .i64 ((j : Int) % 4)) ∧ Below w7.heap.size w7 W' := by
          obtain ⟨jg, y, hsn⟩ := hC7.bs.sn
          have := depth_any hC7.ok hsn (nmG c (j + 1)) (by rw [show (nmG c (j + 1)).length = 40 from Ha.sumL_len _]; omega)
          rw [hC7.dp (by omega), hxn, show (((j + 1 - 1) % 4 : Nat) : Int) = (j : Int) % 4 by omega] at this
          exact this
        have hzx : lastG c (j + 1) = nmG c (j + 1) := rfl
        clear hi hz0 hz1 hz2 hml hby hC hgt hla
        go_wp2_with (go_at_call 17; (with_reducible refine pDp.mono ?_); rintro e w8 ⟨rfl, hb8⟩)
        go_roundg (10 - (j + 1))
        case measure => omega
        case rel => exact ⟨j + 1, st', used + 6, S', by rw [hgn], by rw [hzx, hxn], by go_num, by omega, rfl, hC7.next hb8⟩
      · obtain rfl : j = k := by omega
        have d1 : decide ((j : Int) < (j : Int)) = false := by simp
        clear hj hlt pW
        obtain ⟨g, cap, hu⟩ := own_form hC.nr (by rw [nmsG_len]; omega)
        rw [nmsG_len] at hu
        subst hu
        obtain ⟨g2', cap2, hu2⟩ := own_form hC.tr (by rw [txsG_len]; omega)
        rw [txsG_len] at hu2
        subst hu2
        have hj1 : 1 ≤ j := by omega
        have hj9 : j ≤ 9 := by omega
        have c0 : wr.cell? ⟨g, 0, none⟩ = some (.string (bA (nmG c 1))) := by
          have := OwnT.at hC.nr (i := 0) (by rw [nmsG_len]; omega)
          rw [this]
          unfold nmsG
          rw [List.getD_eq_getElem?_getD, List.getElem?_map, List.getElem?_range (by omega)]
          rfl
        clear hk1 hk9
        obtain ⟨nm, hnm⟩ : ∃ nm, nm = nmG c 1 := ⟨_, rfl⟩
        have hi : Ha.isL nm = true := by rw [hnm]; exact Ha.sumL_is _
        have hn40 : nm.length = 40 := isL_len40 hi
        have hf1 : fN c j nm = some (Ha.grow c 1) := by rw [hnm]; exact fN_at j 0 (by omega) hj9
        have hok := hC.ok
        have hbl := hC.bl
        have hva : valOf st nm ≠ none := by
          unfold valOf
          rw [if_pos hi]
          intro e
          have := hbl.key nm hi
          rw [e, hf1] at this
          cases this
        have hcl : ∀ m t, content st m = some t → t.length ≤ 128 := fun m t h => by
          rw [hbl.conE] at h
          obtain ⟨q, h1, _, rfl⟩ := fN_some j h
          rw [grow_len]; omega
        have hcl2 : ∀ m t, content st m = some t → t.length ≤ 1000000 := fun m t h => by have := hcl m t h; omega
        have hwok := wsL_ok hok.srt hcl2 (n := nm) hi
        have hB3 := Bl.drop hok.srt hbl hcl2 (n := nm) hi
        have hDL := dropL_is hva
        have hsl := hC.sl
        have hwl : (wsL st nm).length ≤ 9 := by
          have h1 : (wsL st nm).length ≤ (rowsN st).length := List.length_filterMap_le _ _
          have h2 : (rowsN st).length ≤ (sel st [98]).length := List.length_filter_le _ _
          have h3 := sel_len st [98]
          omega
        have hrl : ∀ r ∈ wsL st nm ++ [(⟨bk nm, [], true⟩ : Rr)], (rt r).length ≤ 180 ∧ r.v.length ≤ 129 := fun r hr => by
          have hvl : r.v.length ≤ 129 ∧ r.k.length ≤ 41 := by
            rcases List.mem_append.1 hr with h | h
            · obtain ⟨q, hq, e, cq, _, _, hc, rfl⟩ := wsL_mem h
              have h4 := isL_len40 (rowsN_mem hok.srt hq).2.1
              have h5 := hcl _ _ hc
              exact ⟨by show cq.length + 1 ≤ _; omega, by show (q.k.drop 1).length + 1 ≤ _; omega⟩
            · rw [List.mem_singleton.1 h]; exact ⟨by simp, by simp [bk]; omega⟩
          have := rt_le r (by omega) (by omega)
          omega
        have hrt : (rtext (wsL st nm ++ [(⟨bk nm, [], true⟩ : Rr)])).length ≤ 1800 := by
          have h1 := rtext_le 180 _ (fun r hr => (hrl r hr).1)
          have h2 : (wsL st nm ++ [(⟨bk nm, [], true⟩ : Rr)]).length ≤ 10 := by rw [List.length_append, List.length_singleton]; omega
          have h3 := Nat.mul_le_mul_right 180 h2
          omega
        have hus := hC.us
        have pD : Calls Tryz.prog 14 #[.pointer (some ⟨sg, 0, none⟩), .string (bA nm)] wr fun e W' => ∃ y, e = .returned y ∧ IsR W' y (wsL st nm ++ [⟨bk nm, [], true⟩]) ∧ (y = .slice none 0 0 ∨ ∃ g n c, y = .slice (some ⟨g, 0, none⟩) n c) ∧ Below wr.heap.size wr W' := by
          obtain ⟨jg, x, hsn⟩ := hC.bs.sn
          refine (drop_any hok hsn nm (by omega) hva).mono ?_
          rintro e W' ⟨y, rfl, ho, hbb⟩
          rw [hDL] at ho
          refine ⟨y, rfl, ho.isR, ?_, hbb⟩
          rcases ho.shape with ⟨h, _⟩ | ⟨g, c, h⟩
          · exact .inl h
          · exact .inr ⟨g, _, c, h⟩
        obtain ⟨st3, hst3⟩ : ∃ st3, st3 = turns st (wsL st nm ++ [⟨bk nm, [], true⟩]) := ⟨_, rfl⟩
        have hok3 : RdOk st3 := by rw [hst3]; exact hok.turns _ (fun r hr => ⟨hwok r hr, by have := (hrl r hr).2; omega⟩) (by rw [List.length_append, List.length_singleton]; omega)
        rw [← hst3] at hB3
        have pC3 : ∀ V y, Below wr.heap.size wr V → IsR V y (wsL st nm ++ [⟨bk nm, [], true⟩]) → Calls Tryz.prog 11 #[.pointer (some ⟨sg, 0, none⟩), y] V fun e W' => e = .returned (.int .i64 0) ∧ ∃ S', BS w W' 1500 sg st3 (used + 60) S' ∧ OwnT W' w.heap.size (.slice (some ⟨g, 0, none⟩) j cap) (nmsG c j) ∧ OwnT W' w.heap.size (.slice (some ⟨g2', 0, none⟩) j cap2) (txsG c j) := fun V y hV hy => by
          rw [hst3]
          refine (bs_commit (hC.bs.next hV) hP hok.srt (by have := hok.len; omega) (by omega) hwok hy 60 (pieces_le _ 60 (by omega) (by omega)) (by omega)).mono ?_
          rintro e W' ⟨rfl, S', h1, h2, _⟩
          exact ⟨rfl, S', h1, own_but (own_next hC.nr hV) h2 (fun k hk => hC.ns k hk), own_but (own_next hC.tr hV) h2 (fun k hk => hC.ts k hk)⟩
        have hcon : ∀ i, i < j → content st3 (nmG c (i + 1)) = if i = 0 then none else some (Ha.grow c (i + 1)) := fun i hij => by
          rw [hB3.conE]
          unfold upd
          by_cases h0 : i = 0
          · rw [h0, if_pos hnm.symm, if_pos rfl]
          · rw [if_neg (by rw [hnm]; exact nm_ne (by omega) (by omega) h0), if_neg h0]
            exact fN_at j i hij hj9
        have hck : checkB st3 = true := Bl.check hok3.srt hB3 (fun m t h => by
          unfold upd at h
          split at h
          · cases h
          · obtain ⟨q, _, rfl, rfl⟩ := fN_some j h
            rfl)
        have HC := Lib.hid hcon
        rw [← hnm] at c0
        have HB := Lib.hid (And.intro hok3 hck)
        clear hcon hck hok3 hB3 hst3 hDL hwok hrl hrt hwl hcl hcl2 hva hbl hok hf1 hi hn40 hnm hC hus hsl
        generalize bA nm = nb at c0 pD
        go_upto_region 23 with (first
          | (go_at_call 14; (with_reducible refine pD.mono ?_); rintro e w10 ⟨y, rfl, hy, hsh, hb10⟩; rcases hsh with rfl | ⟨gy, ny, cy, rfl⟩)
          | (go_at_call 11; (with_reducible refine (pC3 _ _ hb10 hy).mono ?_); rintro e w11 ⟨rfl, S3, hB11, hN11, hT11⟩))
        all_goals
          clear pD pC3
          have hbw := hB11.bel
          have pCk : ∀ V, Below w11.heap.size w11 V → Calls Tryz.prog 16 #[.pointer (some ⟨sg, 0, none⟩)] V fun e W' => e = .returned (.bool true) ∧ Below V.heap.size V W' := fun V hV => by
            obtain ⟨jg, x, hsn⟩ := (hB11.next hV).sn
            have := check_any8 HB.out.1 hsn
            rw [HB.out.2] at this
            exact this
          have pBR : ∀ V', Below w11.heap.size w11 V' → Calls Tryz.prog 3 #[] V' fun e w' => e = .returned (.bool true) ∧ Below V'.heap.size V' w' := fun V' hV => by
            have hb' := hbw.trans (hV.mono hbw.size)
            exact bruns_any V' (hP.on hb') (hX.on hb')
          clear c0 hb10 hy d1
          go_wp2_with fail
          go_loopg [80] 10 (fun q cn V => ∃ i : Nat, cn = .int .i64 (i : Int) ∧ i ≤ j ∧ q = 10 - i ∧ Below w11.heap.size w11 V)
          case atStart => exact ⟨0, rfl, by omega, rfl, Below.refl _ _⟩
          case round =>
            obtain ⟨V, hVw⟩ : ∃ V, V = wr := ⟨_, rfl⟩
            subst hVw
            obtain ⟨i, rfl, hi, rfl, hbV⟩ := hrel
            by_cases hlt : i < j
            · have d1 : decide ((i : Int) < (j : Int)) = true := by simp; omega
              have cN : V.cell? ⟨g, i, none⟩ = some (.string (bA (nmG c (i + 1)))) := by
                have := OwnT.at (own_next hN11 hbV) (i := i) (by rw [nmsG_len]; omega)
                rw [this]
                unfold nmsG
                rw [List.getD_eq_getElem?_getD, List.getElem?_map, List.getElem?_range (by omega)]
                rfl
              have cT : V.cell? ⟨g2', i, none⟩ = some (.string (bA (Ha.grow c (i + 1)))) := by
                have := OwnT.at (own_next hT11 hbV) (i := i) (by rw [txsG_len]; omega)
                rw [this]
                unfold txsG
                rw [List.getD_eq_getElem?_getD, List.getElem?_map, List.getElem?_range (by omega)]
                rfl
              have l1 : (i : Int) < (j : Int) := by omega
              have pCt : Calls Tryz.prog 15 #[.pointer (some ⟨sg, 0, none⟩), .string (bA (nmG c (i + 1)))] V fun e W' => e = .returned (De.apV (if i = 0 then none else some (Ha.grow c (i + 1)))) ∧ Below V.heap.size V W' := by
                obtain ⟨jg, x, hsn⟩ := (hB11.next hbV).sn
                have := content_any HB.out.1 hsn (nmG c (i + 1)) (by rw [show (nmG c (i + 1)).length = 40 from Ha.sumL_len _]; omega)
                rw [HC.out i hlt] at this
                exact this
              generalize bA (nmG c (i + 1)) = nb' at cN pCt
              clear pCk pBR hi hN11 hT11 hB11
              by_cases h0 : i = 0
              · subst h0
                rw [if_pos rfl] at pCt
                have pCt : Calls Tryz.prog 15 #[.pointer (some ⟨sg, 0, none⟩), .string nb'] V fun e W' => e = .returned (.tuple #[.string ⟨#[]⟩, .bool false]) ∧ Below V.heap.size V W' := pCt
                generalize bA (Ha.grow c (0 + 1)) = tb' at cT
                go_wp2_with (go_at_call 15; (with_reducible refine pCt.mono ?_); rintro e w12 ⟨rfl, hb12⟩; have cT2 := (hb12.cell (p := ⟨g2', 0, none⟩) (World.block_lt_of_cell? V _ cT)).trans cT)
                go_roundg (10 - (0 + 1))
                case measure => omega
                case rel => exact ⟨1, by go_num, by omega, rfl, bstep hbV hb12⟩
              · rw [if_neg h0] at pCt
                have pCt : Calls Tryz.prog 15 #[.pointer (some ⟨sg, 0, none⟩), .string nb'] V fun e W' => e = .returned (.tuple #[.string (bA (Ha.grow c (i + 1))), .bool true]) ∧ Below V.heap.size V W' := pCt
                have d2 : decide ((0 : Int) < (i : Int)) = true := by simp; omega
                generalize bA (Ha.grow c (i + 1)) = tb' at cT pCt
                go_wp2_with (go_at_call 15; (with_reducible refine pCt.mono ?_); rintro e w12 ⟨rfl, hb12⟩; have cT2 := (hb12.cell (p := ⟨g2', i, none⟩) (World.block_lt_of_cell? V _ cT)).trans cT)
                go_roundg (10 - (i + 1))
                case measure => omega
                case rel => exact ⟨i + 1, by go_num, by omega, rfl, bstep hbV hb12⟩
            · obtain rfl : i = j := by omega
              have d1 : decide ((i : Int) < (i : Int)) = false := by simp
              clear hlt hi hN11 hT11 hB11
              go_wp2_with (first
                | (go_at_call 16; (with_reducible refine (pCk _ hbV).mono ?_); rintro e w13 ⟨rfl, hb13⟩)
                | (go_at_call 3; (with_reducible refine (pBR _ (bstep hbV hb13)).mono ?_); rintro e w14 ⟨rfl, hb14⟩))
              go_ret
              exact ⟨rfl, hbw.trans ((bstep (bstep hbV hb13) hb14).mono hbw.size)⟩
theorem byte_of (c : Int) (h : (Lit.int .u8 c).wf = true) : ∃ b : UInt8, (b.toNat : Int) = c := by
  have h2 : 0 ≤ c ∧ c ≤ 255 := by simpa [Lit.wf, IntKind.min, IntKind.max, IntKind.signed, IntKind.bits] using h
  exact ⟨UInt8.ofNat c.toNat, by rw [UInt8.toNat_ofNat']; omega⟩
theorem bchains_law (n x : Int) (hx : (Lit.int .u8 x).wf = true) (w : World) (hP : Pow w) (hX : MxL w) :
    Calls Tryz.prog 6 #[.int .i64 n, .int .u8 x] w fun e w' => e = .returned (.bool true) ∧ Below w.heap.size w w' := by
  obtain ⟨c, rfl⟩ := byte_of x hx
  exact bchains_any n c w hP hX
end Go.Proofs.YtbcffpimnmjjoaaGreatDoor
