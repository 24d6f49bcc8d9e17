/- THE WALK of journal.Open: a range over the disk's sectors. -/
import Derived.Test.YtlofjfeimhjdlaaDoorJD7
import Derived.Test.YtlofjfeimhjdlaaDoorDkJ6
import Derived.Lib.AppendStr
namespace Go.Proofs.YtlofjfeimhjdlaaDoor
open Go.RowKit Go.Shelf
set_option maxRecDepth 100000
attribute [local go_sem] Oper.semAt_some

/-- A scope out of which no goto leads, at the wide fence. -/
theorem wpIn_scope_wide {n : Nat} {P : Program} {c : Code} {Q : Exit → Act → World → Prop} {a : Act} {w : World} (h : c.wpIn Fence.wide n P (Exit.noGoto Q) a w) : (Code.scope c).wpIn Fence.wide n P Q a w :=
  wpIn_wide.2 (wp_scope_straight ((wpIn_wide (n := n)).1 h))
section
variable {F : Fence} {n : Nat} {P : Program} {md : Region.Mode} {ops : Array Oper} {Q : Exit → Act → World → Prop}
theorem upon_round (l : Nat) {o : Oper} {a : Act} {K : Act → World → Prop} {r : Result Next} (h : o.uponIn F n P a K Q r) : o.uponIn (F.inRound l) n P a K Q r := by
  cases r with
  | ok x w => cases x <;> exact h
  | halt x w => cases x <;> exact h
def noDefer (ops : Array Oper) : Bool := ops.toList.all fun o => match o.op with | .defer _ => false | _ => true
theorem nd_spec {ops : Array Oper} (h : noDefer ops = true) {o : Oper} (hm : o ∈ ops.toList) (c : Call) : o.op ≠ .defer c := fun e => by
  have := List.all_eq_true.1 h o hm
  rw [e] at this
  cases this
/-- A region with no defer statement goes in a round as it goes outside of one. -/
theorem anyIn_round (l : Nat) (hro : F.round = none) (hnd : noDefer ops = true) : ∀ (fuel : Nat) (listed : Array Bool) (a : Act) (w : World), wpAnyIn F n P md ops Q fuel listed a w → wpAnyIn (F.inRound l) n P md ops Q fuel listed a w
  | 0, _, _, _, h => h
  | fuel + 1, listed, a, w, h => by
    refine ⟨h.1, fun i hi => ?_⟩
    have h2 := h.2 i hi
    unfold wpOpIn at h2 ⊢
    cases ho : ops[i]? with
    | none => simp only [ho] at h2 ⊢; exact anyIn_round l hro hnd fuel _ _ _ h2
    | some o =>
      simp only [ho] at h2 ⊢
      have hm : o ∈ ops.toList := by
        obtain ⟨h3, h4⟩ := Array.getElem?_eq_some_iff.1 ho
        rw [← h4]; simp
      split
      · rename_i hw
        rw [if_pos hw] at h2
        refine ⟨h2.1, ?_⟩
        rw [Oper.semAt_eq _ _ _ (nd_spec hnd hm)]
        have h3 := h2.2
        rw [Oper.semAt_eq _ _ _ (nd_spec hnd hm)] at h3
        refine upon_round l ?_
        revert h3
        generalize (execOp a.eval o).run P w = r
        intro h3
        cases r with
        | ok x w' =>
          cases x <;> first
            | exact anyIn_round l hro hnd fuel _ _ _ h3
            | exact ⟨h3.1, h3.2.mono fun e w'' he => by cases e <;> first | exact anyIn_round l hro hnd fuel _ _ _ he | exact he⟩
            | exact ⟨h3.1, h3.2.mono fun e w'' he => anyIn_round l hro hnd fuel _ _ _ he⟩
            | exact h3
        | halt x w' => cases x <;> exact h3
      · rename_i hw
        rw [if_neg hw] at h2
        exact ⟨h2.1, anyIn_round l hro hnd fuel _ _ _ h2.2⟩
/-- An append, as one step of a region that draws, inside a fence. -/
theorem stepIn_append {o : Oper} {a : Act} {w w' : World} {K : Act → World → Prop} {E : Prop} {v' : Value} (hgd : o.guard = none) (s x : Operand) (t u : TypeId) (ho : o.op = .call { callee := .builtin .append, args := #[s, x], argTypes := #[t, u] })
    (v y : Value) (hs : a.eval s = v) (hx : a.eval x = y) (hr : (Builtin.append_ #[t, u] o.type #[v, y]).run P w = .ok v' w') (h : K (a.put o.dst v') w') :
    if Region.wanted o (yielded ops a.tmps) = true then Oper.wpIn F n P o a w K Q else E := by
  have hw : Region.wanted o (yielded ops a.tmps) = true := by simp [Region.wanted, hgd]
  rw [if_pos hw]
  refine ⟨fun f hf => ?_, ?_⟩
  · simp [Oper.about, ho, resolve, Target.leads] at hf
  · rw [Oper.semAt_eq _ _ _ (by rw [ho]; intro c hc; cases hc)]
    unfold execOp
    simp only [ho, resolve, invoke, builtin, Sem.run_bind, Sem.run_pure, Result.andThen_ok, List.map_toArray, List.map_cons, List.map_nil, hs, hx, hr]
    exact h
end
/-- What lies while Open reads: the box of j, the box of the text, the text so far, the journal so far. -/
structure OI (w W : World) (jg Jb Tb G : Nat) (tv v : Value) (t : List UInt8) (r : List (List UInt8) × Nat) : Prop where
  jb : Boxed W Jb 61 (.pointer (some ⟨jg, 0, none⟩))
  tb : Boxed W Tb 44 tv
  tx : W.ownsRow w.heap.size 5 1 tv t.length (Lib.byteCells t)
  jn : JnAt W w.heap.size jg G v r.1 r.2 false
  bel : Below w.heap.size w W
theorem OI.grown {w W W' : World} {N jg Jb Tb G : Nat} {tv v : Value} {t : List UInt8} {r : List (List UInt8) × Nat} (hN : w.heap.size ≤ N) {row : Option Nat} (h : OI w W jg Jb Tb G tv v t r) (hg : W.grownBy W' row) (hr : ∀ r, row = some r → N ≤ r ∧ ∃ o : Obj, W.heap[r]? = some o ∧ o.isCells = false) : OI w W' jg Jb Tb G tv v t r := by
  have hr' := fun r e => (hr r e).2
  exact ⟨bx_grown h.jb hg hr', bx_grown h.tb hg hr', own_grown h.tx hg hr', ⟨rw_grown h.jn.head hg hr', own_grown h.jn.row hg hr'⟩, h.bel.grown hg h.bel.size (fun r e => Nat.le_trans hN (hr r e).1)⟩
theorem oi_set {w w' : World} {jg Jb Tb G n : Nat} {tv v v' : Value} {t : List UInt8} {r : List (List UInt8) × Nat} (hjb : Boxed w' Jb 61 (.pointer (some ⟨jg, 0, none⟩))) (htb : Boxed w' Tb 44 tv)
    (hrow : w'.ownsRow w.heap.size 5 1 v' n (Lib.byteCells t)) (hjn : JnAt w' w.heap.size jg G v r.1 r.2 false) (hbel : Below w.heap.size w w') (hT : w.heap.size ≤ Tb) (hn : Jb ≠ Tb) : OI w (w'.setCell ⟨Tb, 0, none⟩ v') jg Jb Tb G v' v t r := by
  have hl : t.length = n := by have := hrow.1; simpa [Lib.byteCells] using this
  subst hl
  have hb : But (fun k => k = Tb) w' (w'.setCell ⟨Tb, 0, none⟩ v') := (But.refl (fun k => k = Tb) w').setCell (p := ⟨Tb, 0, none⟩) rfl _
  have htr : Rw w' Tb 44 #[tv] := htb
  have hap := hjn.apart htr (by decide) (by decide)
  refine ⟨hjb.other hn _, htb.set _, own_but hrow hb (fun k hk e => own_ne hrow htr (by decide) k hk e), hjn.butS hb (fun e => hap (.inl e.symm)) (fun k hk e => hap (.inr (e ▸ hk))), hbel.setCell (p := ⟨Tb, 0, none⟩) hT _⟩
theorem u8_is {b : UInt8} {M : Nat} (h : b.toNat = M) (c : UInt8) (hc : M = c.toNat) : b = c := UInt8.toNat_inj.1 (h.trans hc)
theorem But.keeps {S : Nat → Prop} {W W' : World} (hb : But S W W') (hc : ∀ k, S k → ∃ cs t, Rw W k t cs) : KeepsOthers W W' :=
  ⟨hb.size, fun k o hk ho => (hb.block k (Array.getElem?_eq_some_iff.1 hk).1 (fun hS => by
    obtain ⟨cs, t, hr⟩ := hc k hS
    rw [show W.heap[k]? = _ from hr] at hk
    cases hk; cases ho)).trans hk⟩
theorem But.kt {S : Nat → Prop} {W W' : World} {ty : TypeId} (hb : But S W W') (hc : ∀ k, S k → ∃ cs t, Rw W k t cs ∧ t ≠ ty) : KT ty W W' :=
  ⟨hb.size, fun k cs fr hk => (hb.block k (Array.getElem?_eq_some_iff.1 hk).1 (fun hS => by
    obtain ⟨cs', t, hr, hn⟩ := hc k hS
    rw [show W.heap[k]? = _ from hr] at hk
    simp only [Option.some.injEq, Obj.cells.injEq] at hk
    exact hn hk.2.1)).trans hk⟩
theorem own_rw {w : World} {base sz n : Nat} {e : TypeId} {v : Value} {xs : List Value} (h : w.ownsRow base e sz v n xs) : ∀ k, v.ownBlock = some k → ∃ cur, Rw w k e cur := fun k hk => by
  rcases h.2 with ⟨rfl, _⟩ | ⟨g, cap, cur, rfl, _, a3, _⟩
  · cases hk
  · cases hk; exact ⟨cur, a3⟩
theorem JnAt.blocks {W : World} {base jg G e : Nat} {v : Value} {ts : List (List UInt8)} {b : Bool} (h : JnAt W base jg G v ts e b) : ∀ k, JS jg v k → ∃ cs t, Rw W k t cs ∧ (t = 92 ∨ t = 9) := fun k hk => by
  rcases hk with rfl | hk
  · exact ⟨_, _, h.head, .inl rfl⟩
  · obtain ⟨cur, hr⟩ := own_rw h.row k hk
    exact ⟨_, _, hr, .inr rfl⟩
theorem sec_size {d : Dk} (h : d.Ok) (x : Sec d) : (secStr d x.1).size = 32 := by simpa [secStr, ByteArray.size] using (h.get x.2).2
theorem sec_list (d : Dk) (i : Nat) : (secStr d i).data.toList = d.get i := by simp [secStr]
theorem sec_at {S : ByteArray} {q : List UInt8} (h : S.data.toList = q) {i : Nat} (hi : i < S.size) : S[i] = q.getD i 0 := by
  subst h
  rw [List.getD_eq_getElem?_getD, List.getElem?_eq_getElem (show i < S.data.toList.length by rw [Array.length_toList]; exact hi)]
  rfl
theorem u8_le (b : UInt8) : b.toNat ≤ 255 := by have := b.toNat_lt; omega
theorem ext_list (S : ByteArray) (N : Nat) : (S.extract 1 (1 + N)).data.toList = (S.data.toList.drop 1).take N := by simp [ByteArray.data_extract, List.extract_eq_take_drop]
theorem got_drop {d : Dk} {pre : List (Sec d)} {x : Sec d} {q : List UInt8} (ho : Ord (pre ++ [x])) (hq : d.get x.1 = q) : Ord pre ∧ d.ss.drop pre.length = q :: d.ss.drop (pre.length + 1) ∧ x.1 = pre.length := by
  obtain ⟨o1, o2⟩ := ho.front
  have hx := x.2
  refine ⟨o1, ?_, o2⟩
  rw [List.drop_eq_getElem_cons (show pre.length < d.ss.length by omega), ← hq, o2, Dk.get, List.getD_eq_getElem?_getD, List.getElem?_eq_getElem (by omega)]
  rfl
theorem conv_nil (w : World) : (convert 44 9 (.slice none 0 0)).run Tryd.prog w = .ok (.string ⟨#[]⟩) w := by kernel_rfl
theorem conv_own {w : World} {base : Nat} {v : Value} {l : List UInt8} {n : Nat} (h : w.ownsRow base 5 1 v n (Lib.byteCells l)) (T : ByteArray) (hT : T = ⟨l.toArray⟩) : (convert 44 9 v).run Tryd.prog w = .ok (.string T) w := by
  have hn : l.length = n := by have := h.1; simpa [Lib.byteCells] using this
  subst hn hT
  rcases h.2 with ⟨rfl, h0⟩ | ⟨g, cap, cur, rfl, _, a3, _, _, _, a7⟩
  · have hl : l = [] := List.eq_nil_of_length_eq_zero h0
    subst hl
    exact conv_nil w
  · refine run_convert_bytes_back w _ _ _ ⟨g, 0, none⟩ _ l Tryd.underlying44 Tryd.underlying5 Tryd.underlying9 (fun j hj => ?_)
    rw [Addr.add_mid, Nat.zero_add, Rw.at (show Rw w g _ cur from a3)]
    have e := congrArg (·[j]?) a7
    simp only [Nat.mul_one, List.getElem?_take, if_pos hj, byteCells_get, List.getElem?_eq_getElem hj, Option.map_some] at e
    rw [Array.getElem?_toList] at e
    exact e
theorem w64_0 (N : Nat) (h : N ≤ 255) : wrap64 (N : Int) = (N : Int) := by unfold wrap64; omega
theorem w64_1 (N : Nat) (h : N ≤ 255) : wrap64 (1 + (N : Int)) = 1 + (N : Int) := by unfold wrap64; omega
theorem byteCells_app (a b : List UInt8) : Lib.byteCells (a ++ b) = Lib.byteCells a ++ Lib.byteCells b := by simp [Lib.byteCells]
/-- How far the reading has come. -/
def Got (d : Dk) (pre : List (Sec d)) (t : List UInt8) (r : List (List UInt8) × Nat) : Prop :=
  (Ord pre → scan d.ss = scanA (d.ss.drop pre.length) pre.length t r) ∧ t.length ≤ 30 * pre.length ∧ r.1.length ≤ pre.length ∧ r.2 ≤ 2000
set_option maxHeartbeats 2000000 in
theorem open_any (G B cap : Nat) (d : Dk) (w : World) (hD : DkAt w G B cap d) :
    Calls Tryd.prog 24 #[.pointer (some ⟨G, 0, none⟩)] w fun e w' => ∃ jg v, e = .returned (.pointer (some ⟨jg, 0, none⟩)) ∧ w.heap.size ≤ jg ∧ JnAt w' w.heap.size jg G v (scan d.ss).1 (scan d.ss).2 false ∧ Below w.heap.size w w' := by
  refine (callsIn_wide (n := 12)).1 ?_
  refine callsIn_of_wp_marks Tryd.func24 rfl trivial ?_ rfl
  simp only [Tryd.ntmps24, List.size_toArray, List.length_cons, List.length_nil, Nat.reduceAdd, Nat.reduceSub, Array.replicate_succ, Array.replicate_zero, List.push_toArray, List.append_toArray, List.nil_append, List.cons_append]
  gi_wp2
  refine wpIn_scope_wide ?_
  gi_wp2
  refine wpIn_label ?_
  gi_wp2_with (refine ⟨trivial, ?_⟩; gi_at_call 38; refine (callsIn_wide.2 (all_any G _)).mono ?_; rintro e v ⟨rfl, hv⟩; subst hv)
  have hz0 : ((((w.alloc (.cells #[.pointer (some ⟨G, 0, none⟩), .slice none 0 0, .int .i64 0, .bool false] 92)).alloc (.cells #[.pointer (some ⟨w.heap.size, 0, none⟩)] 61)).alloc (.cells #[.slice none 0 0] 44)).alloc (.cells #[.pointer (some ⟨G, 0, none⟩)] 22)).heap.size = w.heap.size + 1 + 1 + 1 + 1 := by simp
  have b1 := Boxed.new (w.alloc (.cells #[.pointer (some ⟨G, 0, none⟩), .slice none 0 0, .int .i64 0, .bool false] 92)) 61 (.pointer (some ⟨w.heap.size, 0, none⟩))
  have b2 := Boxed.new ((w.alloc (.cells #[.pointer (some ⟨G, 0, none⟩), .slice none 0 0, .int .i64 0, .bool false] 92)).alloc (.cells #[.pointer (some ⟨w.heap.size, 0, none⟩)] 61)) 44 (.slice none 0 0)
  have bN := Boxed.new (((w.alloc (.cells #[.pointer (some ⟨G, 0, none⟩), .slice none 0 0, .int .i64 0, .bool false] 92)).alloc (.cells #[.pointer (some ⟨w.heap.size, 0, none⟩)] 61)).alloc (.cells #[.slice none 0 0] 44)) 22 (.pointer (some ⟨G, 0, none⟩))
  have hj := (((Rw.fresh w 92 #[.pointer (some ⟨G, 0, none⟩), .slice none 0 0, .int .i64 0, .bool false]).alloc (.cells #[.pointer (some ⟨w.heap.size, 0, none⟩)] 61)).alloc (.cells #[.slice none 0 0] 44)).alloc (.cells #[.pointer (some ⟨G, 0, none⟩)] 22)
  have hbe := ((((Below.refl w.heap.size w).alloc (Nat.le_refl _) (.cells #[.pointer (some ⟨G, 0, none⟩), .slice none 0 0, .int .i64 0, .bool false] 92)).alloc (by simp) (.cells #[.pointer (some ⟨w.heap.size, 0, none⟩)] 61)).alloc (by simp; omega) (.cells #[.slice none 0 0] 44)).alloc (by simp; omega) (.cells #[.pointer (some ⟨G, 0, none⟩)] 22)
  have b1' := (b1.alloc (.cells #[.slice none 0 0] 44)).alloc (.cells #[.pointer (some ⟨G, 0, none⟩)] 22)
  have b2' := b2.alloc (.cells #[.pointer (some ⟨G, 0, none⟩)] 22)
  simp only [World.size_alloc] at b1' b2' bN
  clear b1 b2
  obtain ⟨W0, hW0⟩ : ∃ W0, (((w.alloc (.cells #[.pointer (some ⟨G, 0, none⟩), .slice none 0 0, .int .i64 0, .bool false] 92)).alloc (.cells #[.pointer (some ⟨w.heap.size, 0, none⟩)] 61)).alloc (.cells #[.slice none 0 0] 44)).alloc (.cells #[.pointer (some ⟨G, 0, none⟩)] 22) = W0 := ⟨_, rfl⟩
  rw [hW0] at hz0 b1' b2' bN hj hbe ⊢
  clear hW0
  obtain ⟨jg, hjg⟩ : ∃ jg, w.heap.size = jg := ⟨_, rfl⟩
  obtain ⟨Jb, hJb⟩ : ∃ Jb, jg + 1 = Jb := ⟨_, rfl⟩
  obtain ⟨Tb, hTb⟩ : ∃ Tb, Jb + 1 = Tb := ⟨_, rfl⟩
  obtain ⟨Bn, hBn⟩ : ∃ Bn, Tb + 1 = Bn := ⟨_, rfl⟩
  rw [hjg, hJb, hTb, hBn] at hz0 bN ⊢
  rw [hjg] at hj
  rw [hjg, hJb] at b1'
  rw [hjg, hJb, hTb] at b2'
  have hI0 : OI w W0 jg Jb Tb G (.slice none 0 0) (.slice none 0 0) [] ([], 0) := ⟨b1', b2', World.ownsRow_nil _ _ _ _, ⟨hj, World.ownsRow_nil _ _ _ _⟩, hbe⟩
  have HL := Lib.hid (show w.heap.size ≤ jg ∧ jg < Jb ∧ Jb < Tb ∧ Tb < W0.heap.size by omega)
  have hD0 := hD.next hbe
  have hn2 := hD.ok.n2
  clear b1' b2' hj hjg hJb hTb hBn hz0
  refine wpIn_rangeFunc_ownG rfl (by omega) (gf := 60) (lb := #[.pointer (some ⟨Bn, 0, none⟩)]) rfl trivial (enters_of Tryd.func60 (by kernel_rfl) rfl)
    (all_stops (12 - 1) (by omega) Bn G B cap d W0 bN.cell bN.lt hD0) (fun h k => h.trans k) (fun W l o o' hl h hc hw => KT.put (w := W0) W l o o' hl h hc hw) (Below.refl _ _) (fun _ => rfl)
    (fun pre W => ∃ t r tv v, Got d pre t r ∧ OI w W jg Jb Tb G tv v t r)
    (fun cd pre W => cd = .exit 0 ∧ ∃ r tv v t, (Ord pre → scan d.ss = r) ∧ OI w W jg Jb Tb G tv v t r)
    (fun pre X Y row hs hg hr => by obtain ⟨t, r, tv, v, h1, h2⟩ := hs; exact ⟨t, r, tv, v, h1, h2.grown hbe.size hg hr⟩)
    (fun cd pre X Y row hs hg hr => by obtain ⟨h0, r, tv, v, t, h1, h2⟩ := hs; exact ⟨h0, r, tv, v, t, h1, h2.grown hbe.size hg hr⟩)
    ⟨[], ([], 0), _, _, ⟨fun _ => rfl, by simp, by simp, by simp⟩, hI0⟩
    (fun x => { tmps := #[.pointer (some ⟨G, 0, none⟩), undef, .pointer none, .pointer (some ⟨Jb, 0, none⟩), .pointer (some ⟨Tb, 0, none⟩), .int .i64 (x.1 : Int), .string (secStr d x.1), undef, .pointer (some ⟨G, 0, none⟩), .agg #[.pointer (some ⟨G, 0, none⟩), .slice none 0 0, .int .i64 0, .bool false], .pointer (some ⟨jg, 0, none⟩), .pointer (some ⟨G, 0, none⟩), .func (.func 60) #[] #[.pointer (some ⟨Bn, 0, none⟩)], .int .i64 (x.1 : Int), .string (secStr d x.1), undef, undef, undef, undef, undef, undef, undef, undef, undef, undef, undef, undef, undef, undef, undef, undef, undef, undef, undef, undef, undef, undef, undef, undef, undef, undef, undef, undef, undef], defers := [] })
    ?assign ?body ?done ?stop
  case assign =>
    intro l x W K hK
    simp only [encS]
    gi_wp2
    exact hK
  case body =>
    rintro l pre x W ⟨t, r, tv, v, hG, hO⟩ hplt
    obtain ⟨L1, L2, L3, L4⟩ := HL.out
    obtain ⟨S, hS⟩ : ∃ S, secStr d x.1 = S := ⟨_, rfl⟩
    have hz : S.size = 32 := hS ▸ sec_size hD.ok x
    have hSl : S.data.toList = d.get x.1 := hS ▸ sec_list d x.1
    rw [hS]
    obtain ⟨q, hq⟩ : ∃ q, d.get x.1 = q := ⟨_, rfl⟩
    rw [hq] at hSl
    have hql : q.length = 32 := by rw [← hq]; exact (hD.ok.get x.2).2
    obtain ⟨N, hN⟩ : ∃ N, (q.getD 0 0).toNat = N := ⟨_, rfl⟩
    obtain ⟨M, hM⟩ : ∃ M, (q.getD 31 0).toNat = M := ⟨_, rfl⟩
    have e0 : (S[0]'(by omega)).toNat = N := by rw [sec_at hSl, hN]
    have e31 : (S[31]'(by omega)).toNat = M := by rw [sec_at hSl, hM]
    have hNb : N ≤ 255 := hN ▸ u8_le _
    have hdr : Ord (pre ++ [x]) → Ord pre ∧ d.ss.drop pre.length = q :: d.ss.drop (pre.length + 1) ∧ x.1 = pre.length := fun ho => got_drop ho hq
    have hlen1 : (pre ++ [x]).length = pre.length + 1 := by simp
    have HD := Lib.hid (And.intro hdr hlen1)
    have HN := Lib.hid (And.intro hN hM)
    clear hN hM hq hS hdr hlen1
    by_cases hbig : 30 < N
    · have dA : (30 : Int) < (N : Int) := by omega
      gi_wp2
      exact ⟨KeepsFrom.refl _ _, rfl, r, tv, v, t, fun ho => by
        obtain ⟨o1, o2, o3⟩ := HD.out.1 ho
        rw [hG.1 o1, o2, scanA_big (by rw [HN.out.1]; exact hbig)], hO⟩
    · have dA : (N : Int) ≤ 30 := by omega
      obtain ⟨P, hP⟩ : ∃ P : ByteArray, S.extract 1 (1 + N) = P := ⟨_, rfl⟩
      have hPl : P.data.toList = (q.drop 1).take N := by rw [← hP, ← hSl]; exact ext_list S N
      have hPz : P.size = N := by rw [← hP, ByteArray.size_extract]; omega
      obtain ⟨i0, hi, hz0, hz1, hz2⟩ := info_parts u8info
      obtain ⟨v', w', hrun, hown, hgr, hnil⟩ := Lib.run_append_own_string (P := Tryd.prog) W.drew w.heap.size 44 9 44 5 i0 Tryd.underlying44 Tryd.underlying9 hi hz0 hz1 hz2 tv t.length _ hO.tx.drew P (by unfold maxLen; have := hG.2.1; omega) (by have := hG.2.1; omega) hO.bel.size
      have hcells : Lib.byteCells t ++ Lib.strCells P = Lib.byteCells (t ++ (q.drop 1).take N) := by rw [byteCells_app, ← hPl]; rfl
      have hlen : t.length + P.size = (t ++ (q.drop 1).take N).length := by rw [List.length_append, ← hPl]; rfl
      rw [hcells, hlen] at hown
      have HP := Lib.hid (And.intro hPl hPz)
      have HG := Lib.hid hG
      have cT := hO.tb.cell
      have cJ := hO.jb.cell
      have ntb : ∀ k, tv.ownBlock = some k → k ≠ Tb := own_ne hO.tx (show Rw W Tb _ _ from hO.tb) (by decide)
      have njb : ∀ k, tv.ownBlock = some k → k ≠ Jb := own_ne hO.tx (show Rw W Jb _ _ from hO.jb) (by decide)
      have hbx : But (fun k => tv.ownBlock = some k) W w' := (But.refl _ W).drew.trans (But.of_grown hgr (fun _ h => h))
      have hjn' : JnAt w' w.heap.size jg G v r.1 r.2 false := hO.jn.butS hbx (fun hk => own_ne hO.tx hO.jn.head (by decide) jg hk rfl) (fun k hk hk2 => by
        obtain ⟨c1, h1⟩ := own_rw hO.jn.row k hk
        exact own_ne hO.tx h1 (by decide) k hk2 rfl)
      have htb' : Boxed w' Tb 44 tv := Rw.butS (show Rw W Tb _ _ from hO.tb) hbx (fun hk => ntb Tb hk rfl)
      have hjb' : Boxed w' Jb 61 (.pointer (some ⟨jg, 0, none⟩)) := Rw.butS (show Rw W Jb _ _ from hO.jb) hbx (fun hk => njb Jb hk rfl)
      have hbel' : Below w.heap.size w w' := hO.bel.trans (hbx.below hO.bel.size (fun k hk => (hO.tx.lt k hk).1))
      have hkp' : KeepsOthers W w' := hbx.keeps (fun k hk => by obtain ⟨c, h1⟩ := own_rw hO.tx k hk; exact ⟨c, _, h1⟩)
      have hkt' : KT 90 W w' := hbx.kt (fun k hk => by obtain ⟨c, h1⟩ := own_rw hO.tx k hk; exact ⟨c, _, h1, by decide⟩)
      have HI := Lib.hid (And.intro hown (And.intro hjn' (And.intro hbel' (And.intro hkp' hkt'))))
      have cT' := htb'.cell
      have fT' := htb'.frozen
      have cJ' := hjb'.cell
      have hmx : Tryd.prog.follows .mixedOrders = true := by kernel_rfl
      have q1 : IntKind.i64.wrap (1 + (N : Int)) = 1 + (N : Int) := IntWalk.i64_in _ (by omega)
      have q2 : (1 : Int) ≤ 1 + (N : Int) := by omega
      have q3 : (1 : Int) + (N : Int) ≤ 32 := by omega
      have q4 : (0 : Int) ≤ 1 + (N : Int) := by omega
      have q5 : (1 + (N : Int)).toNat = 1 + N := by omega
      clear hgr hbx hnil hown hjn' hbel' hkp' hkt' hcells hlen hPl hPz hG hi hz0 hz1 hz2 hI0 bN
      by_cases h1 : M = 1
      · have m1 : ((M : Int) == 1) = true := by rw [h1]; rfl
        have hform : v' = .slice none 0 0 ∨ ∃ g n c, v' = .slice (some ⟨g, 0, none⟩) n c := by
          rcases HI.out.1.2 with ⟨h, _⟩ | ⟨g, c, _, h, _⟩
          · exact .inl h
          · exact .inr ⟨g, _, c, h⟩
        rcases hform with rfl | ⟨g', n', c', rfl⟩
        all_goals
          gi_wp2
          refine wpIn_region_any hmx (anyIn_round l rfl (by kernel_rfl) _ _ _ _ ?_)
          change wpAnyIn _ _ _ _ _ _ _ _ _ (World.drew _)
          refine wpAnyIn_take (i := 1) (v := ?_) rfl rfl (by kernel_rfl) (by kernel_rfl) (by kernel_rfl) (fun _ _ _ h => h) ⟨Or.inl ⟨by rfl, ?_⟩, fun _ => rfl⟩ ?_
          rotate_left
          · (intro w; go_simp) <;> (try with_reducible rfl)
          refine wpAnyIn_take (i := 2) (v := ?_) rfl rfl (by kernel_rfl) (by kernel_rfl) (by kernel_rfl) (fun _ _ _ h => h) ⟨Or.inl ⟨by rfl, ?_⟩, fun _ => rfl⟩ ?_
          rotate_left
          · (intro w; go_simp) <;> (try with_reducible rfl)
          refine wpAnyIn_take (i := 3) (v := ?_) rfl rfl (by kernel_rfl) (by kernel_rfl) (by kernel_rfl) (fun _ _ _ h => h) ⟨Or.inl ⟨by rfl, ?_⟩, fun _ => rfl⟩ ?_
          rotate_left
          · (intro w; go_simp) <;> (try with_reducible rfl)
          refine wpAnyIn_take (i := 4) (v := ?_) rfl rfl (by kernel_rfl) (by kernel_rfl) (by kernel_rfl) (fun _ _ _ h => h) ⟨Or.inl ⟨by rfl, ?_⟩, fun _ => rfl⟩ ?_
          rotate_left
          · (intro w; go_simp) <;> (try with_reducible rfl)
          refine wpAnyIn_ready (rs := [0]) (by kernel_rfl) (by simp) ?_
          refine AllReadyIn.cons rfl (fun K hK => ?_) AllReadyIn.nil
          go_simp
          refine hK _ _ ?_
          clear hK K
          refine wpAnyIn_ready (rs := [5]) (by kernel_rfl) (by simp) ?_
          refine AllReadyIn.cons rfl (fun K hK => ?_) AllReadyIn.nil
          refine stepIn_append rfl (.tmp 24) (.tmp 28) 44 9 rfl tv (.string P) rfl rfl hrun ?_
          refine hK _ _ ?_
          clear hK K
          refine wpAnyIn_ready (rs := [6]) (by kernel_rfl) (by simp) ?_
          refine AllReadyIn.cons rfl (fun K hK => ?_) AllReadyIn.nil
          go_simp
          refine hK _ _ ?_
          clear hK K
          refine wpAnyIn_done (by kernel_rfl) ?_ _
          gi_wp2
          refine ⟨(HI.out.2.2.2.1.trans (KeepsOthers.setCell _ _ _)).from _, HI.out.2.2.2.2.set (show Rw w' Tb _ _ from htb') (by decide) _, t ++ (q.drop 1).take N, r, _, v, ⟨fun ho => ?_, ?_, ?_, HG.out.2.2.2⟩, oi_set hjb' htb' HI.out.1 HI.out.2.1 HI.out.2.2.1 (by omega) (by omega)⟩
          · obtain ⟨o1, o2, o3⟩ := HD.out.1 ho
            rw [HG.out.1 o1, o2, HD.out.2, scanA_1 (by rw [HN.out.1]; omega) (u8_is HN.out.2 1 h1), HN.out.1]
          · rw [HD.out.2, List.length_append, ← HP.out.1]
            have e1 : P.data.toList.length = P.size := Array.length_toList
            have e2 := HP.out.2
            have e3 := HG.out.2.1
            omega
          · rw [HD.out.2]
            have e3 := HG.out.2.2.1
            omega
      · have m1 : ((M : Int) == 1) = false := by rw [beq_eq_false_iff_ne]; omega
        by_cases h2 : M = 2
        · have m2 : ((M : Int) == 2) = true := by rw [h2]; rfl
          have hxb : x.1 ≤ 2000 := Nat.le_of_lt (Nat.lt_of_lt_of_le x.2 hn2)
          obtain ⟨T, hT⟩ : ∃ T : ByteArray, T = ⟨(t ++ (q.drop 1).take N).toArray⟩ := ⟨_, rfl⟩
          have hconv := conv_own HI.out.1 T hT
          have hTl : T.data.toList = t ++ (q.drop 1).take N := by rw [hT]
          have q6 : IntKind.i64.wrap ((x.1 : Int) + 1) = (x.1 : Int) + 1 := IntWalk.i64_in _ (by omega)
          have pA : Calls Tryd.prog 39 #[.pointer (some ⟨jg, 0, none⟩), .string T, .int .i64 ((x.1 : Int) + 1)] w' fun r' w3 =>
              r' = .returned (.tuple #[]) ∧ ∃ v3, JnAt w3 w.heap.size jg G v3 (r.1 ++ [t ++ (q.drop 1).take N]) (x.1 + 1) false ∧ But (JS jg v) w' w3 ∧ Gone w' v v3 := by
            rw [← hTl]
            exact add_any w' w.heap.size jg G v r.1 r.2 false T (x.1 + 1) HI.out.2.2.1.size (by have := HG.out.2.2.1; omega) HI.out.2.1
          have hap1 := HI.out.2.1.apart (show Rw w' Tb _ _ from htb') (by decide) (by decide)
          have hap2 := HI.out.2.1.apart (show Rw w' Jb _ _ from hjb') (by decide) (by decide)
          have hblk := HI.out.2.1.blocks
          have fin : ∀ (w3 : World) (v3 : Value), JnAt w3 w.heap.size jg G v3 (r.1 ++ [t ++ (q.drop 1).take N]) (x.1 + 1) false → But (JS jg v) w' w3 → Boxed w3 Tb 44 tv ∧
              Hid (KeepsFrom W0.heap.size W (w3.setCell ⟨Tb, 0, none⟩ (.slice none 0 0)) ∧ KT 90 W (w3.setCell ⟨Tb, 0, none⟩ (.slice none 0 0)) ∧ ∃ t r tv v, Got d (pre ++ [x]) t r ∧ OI w (w3.setCell ⟨Tb, 0, none⟩ (.slice none 0 0)) jg Jb Tb G tv v t r) := fun w3 v3 hJ3 hB3 => by
            have htb3 : Boxed w3 Tb 44 tv := Rw.butS (show Rw w' Tb _ _ from htb') hB3 hap1
            have hjb3 : Boxed w3 Jb 61 (.pointer (some ⟨jg, 0, none⟩)) := Rw.butS (show Rw w' Jb _ _ from hjb') hB3 hap2
            have hbel3 : Below w.heap.size w w3 := HI.out.2.2.1.trans (hB3.below HI.out.2.2.1.size (fun k hk => by
              rcases hk with rfl | hk
              · exact L1
              · exact (HI.out.2.1.row.lt k hk).1))
            refine ⟨htb3, Lib.hid ⟨((HI.out.2.2.2.1.trans (hB3.keeps fun k hk => by obtain ⟨cs, t, h, _⟩ := hblk k hk; exact ⟨cs, t, h⟩)).trans (KeepsOthers.setCell _ _ _)).from _, (HI.out.2.2.2.2.trans (hB3.kt fun k hk => by
              obtain ⟨cs, t, h, ht⟩ := hblk k hk
              exact ⟨cs, t, h, by rcases ht with rfl | rfl <;> decide⟩)).set (show Rw w3 Tb _ _ from htb3) (by decide) _, [], (r.1 ++ [t ++ (q.drop 1).take N], x.1 + 1), _, v3, ⟨fun ho => ?_, by simp, ?_, by show x.1 + 1 ≤ 2000; have := x.2; omega⟩, oi_set (t := []) hjb3 htb3 (World.ownsRow_nil _ _ _ _) hJ3 hbel3 (by omega) (by omega)⟩⟩
            · obtain ⟨o1, o2, o3⟩ := HD.out.1 ho
              rw [HG.out.1 o1, o2, HD.out.2, scanA_2 (by rw [HN.out.1]; omega) (u8_is HN.out.2 2 h2), HN.out.1, o3]
            · rw [HD.out.2]
              show (r.1 ++ [_]).length ≤ _
              rw [List.length_append, List.length_singleton]
              have e3 := HG.out.2.2.1
              omega
          clear hT hTl hap1 hap2 hblk cT' fT' htb' hjb'
          gi_wp2
          refine wpIn_region_any hmx (anyIn_round l rfl (by kernel_rfl) _ _ _ _ ?_)
          change wpAnyIn _ _ _ _ _ _ _ _ _ (World.drew _)
          refine wpAnyIn_take (i := 2) (v := ?_) rfl rfl (by kernel_rfl) (by kernel_rfl) (by kernel_rfl) (fun _ _ _ h => h) ⟨Or.inl ⟨by rfl, ?_⟩, fun _ => rfl⟩ ?_
          rotate_left
          · (intro w; go_simp) <;> (try with_reducible rfl)
          refine wpAnyIn_take (i := 3) (v := ?_) rfl rfl (by kernel_rfl) (by kernel_rfl) (by kernel_rfl) (fun _ _ _ h => h) ⟨Or.inl ⟨by rfl, ?_⟩, fun _ => rfl⟩ ?_
          rotate_left
          · (intro w; go_simp) <;> (try with_reducible rfl)
          refine wpAnyIn_take (i := 4) (v := ?_) rfl rfl (by kernel_rfl) (by kernel_rfl) (by kernel_rfl) (fun _ _ _ h => h) ⟨Or.inl ⟨by rfl, ?_⟩, fun _ => rfl⟩ ?_
          rotate_left
          · (intro w; go_simp) <;> (try with_reducible rfl)
          refine wpAnyIn_take (i := 5) (v := ?_) rfl rfl (by kernel_rfl) (by kernel_rfl) (by kernel_rfl) (fun _ _ _ h => h) ⟨Or.inl ⟨by rfl, ?_⟩, fun _ => rfl⟩ ?_
          rotate_left
          · (intro w; go_simp) <;> (try with_reducible rfl)
          refine wpAnyIn_take (i := 8) (v := ?_) rfl rfl (by kernel_rfl) (by kernel_rfl) (by kernel_rfl) (fun _ _ _ h => h) ⟨Or.inl ⟨by rfl, ?_⟩, fun _ => rfl⟩ ?_
          rotate_left
          · (intro w; go_simp) <;> (try with_reducible rfl)
          refine wpAnyIn_take (i := 9) (v := ?_) rfl rfl (by kernel_rfl) (by kernel_rfl) (by kernel_rfl) (fun _ _ _ h => h) ⟨Or.inl ⟨by rfl, ?_⟩, fun _ => rfl⟩ ?_
          rotate_left
          · (intro w; go_simp) <;> (try with_reducible rfl)
          refine wpAnyIn_ready (rs := [0, 1]) (by kernel_rfl) (by simp) ?_
          refine AllReadyIn.cons rfl (fun K hK => ?_) (AllReadyIn.cons rfl (fun K hK => ?_) AllReadyIn.nil)
          · go_simp
            refine hK _ _ ?_
            clear hK K
            refine wpAnyIn_ready (rs := [1]) (by kernel_rfl) (by simp) ?_
            refine AllReadyIn.cons rfl (fun K hK => ?_) AllReadyIn.nil
            go_simp
            refine hK _ _ ?_
            clear hK K
            refine wpAnyIn_ready (rs := [6]) (by kernel_rfl) (by simp) ?_
            refine AllReadyIn.cons rfl (fun K hK => ?_) AllReadyIn.nil
            refine stepIn_append rfl (.tmp 33) (.tmp 37) 44 9 rfl tv (.string P) rfl rfl hrun ?_
            refine hK _ _ ?_
            clear hK K
            refine wpAnyIn_ready (rs := [7]) (by kernel_rfl) (by simp) ?_
            refine AllReadyIn.cons rfl (fun K hK => ?_) AllReadyIn.nil
            go_simp
            refine hK _ _ ?_
            clear hK K
            refine wpAnyIn_ready (rs := [10]) (by kernel_rfl) (by simp) ?_
            refine AllReadyIn.cons rfl (fun K hK => ?_) AllReadyIn.nil
            go_simp
            gi_wp2_with (refine ⟨trivial, ?_⟩; gi_at_call 39; refine (callsIn_wide.2 pA).mono ?_; rintro e w3 ⟨rfl, v3, hJ3, hB3, hg3⟩; obtain ⟨htb3, HF3⟩ := fin w3 v3 hJ3 hB3; have cT3 := htb3.cell; have fT3 := htb3.frozen)
            refine wpAnyIn_done (by kernel_rfl) ?_ _
            gi_wp2
            exact HF3.out
          · go_simp
            refine hK _ _ ?_
            clear hK K
            refine wpAnyIn_ready (rs := [0, 6]) (by kernel_rfl) (by simp) ?_
            refine AllReadyIn.cons rfl (fun K hK => ?_) (AllReadyIn.cons rfl (fun K hK => ?_) AllReadyIn.nil)
            · go_simp
              refine hK _ _ ?_
              clear hK K
              refine wpAnyIn_ready (rs := [6]) (by kernel_rfl) (by simp) ?_
              refine AllReadyIn.cons rfl (fun K hK => ?_) AllReadyIn.nil
              refine stepIn_append rfl (.tmp 33) (.tmp 37) 44 9 rfl tv (.string P) rfl rfl hrun ?_
              refine hK _ _ ?_
              clear hK K
              refine wpAnyIn_ready (rs := [7]) (by kernel_rfl) (by simp) ?_
              refine AllReadyIn.cons rfl (fun K hK => ?_) AllReadyIn.nil
              go_simp
              refine hK _ _ ?_
              clear hK K
              refine wpAnyIn_ready (rs := [10]) (by kernel_rfl) (by simp) ?_
              refine AllReadyIn.cons rfl (fun K hK => ?_) AllReadyIn.nil
              go_simp
              gi_wp2_with (refine ⟨trivial, ?_⟩; gi_at_call 39; refine (callsIn_wide.2 pA).mono ?_; rintro e w3 ⟨rfl, v3, hJ3, hB3, hg3⟩; obtain ⟨htb3, HF3⟩ := fin w3 v3 hJ3 hB3; have cT3 := htb3.cell; have fT3 := htb3.frozen)
              refine wpAnyIn_done (by kernel_rfl) ?_ _
              gi_wp2
              exact HF3.out
            · refine stepIn_append rfl (.tmp 33) (.tmp 37) 44 9 rfl tv (.string P) rfl rfl hrun ?_
              refine hK _ _ ?_
              clear hK K
              refine wpAnyIn_ready (rs := [0, 7]) (by kernel_rfl) (by simp) ?_
              refine AllReadyIn.cons rfl (fun K hK => ?_) (AllReadyIn.cons rfl (fun K hK => ?_) AllReadyIn.nil)
              · go_simp
                refine hK _ _ ?_
                clear hK K
                refine wpAnyIn_ready (rs := [7]) (by kernel_rfl) (by simp) ?_
                refine AllReadyIn.cons rfl (fun K hK => ?_) AllReadyIn.nil
                go_simp
                refine hK _ _ ?_
                clear hK K
                refine wpAnyIn_ready (rs := [10]) (by kernel_rfl) (by simp) ?_
                refine AllReadyIn.cons rfl (fun K hK => ?_) AllReadyIn.nil
                go_simp
                gi_wp2_with (refine ⟨trivial, ?_⟩; gi_at_call 39; refine (callsIn_wide.2 pA).mono ?_; rintro e w3 ⟨rfl, v3, hJ3, hB3, hg3⟩; obtain ⟨htb3, HF3⟩ := fin w3 v3 hJ3 hB3; have cT3 := htb3.cell; have fT3 := htb3.frozen)
                refine wpAnyIn_done (by kernel_rfl) ?_ _
                gi_wp2
                exact HF3.out
              · go_simp
                refine hK _ _ ?_
                clear hK K
                refine wpAnyIn_ready (rs := [0]) (by kernel_rfl) (by simp) ?_
                refine AllReadyIn.cons rfl (fun K hK => ?_) AllReadyIn.nil
                go_simp
                refine hK _ _ ?_
                clear hK K
                refine wpAnyIn_ready (rs := [10]) (by kernel_rfl) (by simp) ?_
                refine AllReadyIn.cons rfl (fun K hK => ?_) AllReadyIn.nil
                go_simp
                gi_wp2_with (refine ⟨trivial, ?_⟩; gi_at_call 39; refine (callsIn_wide.2 pA).mono ?_; rintro e w3 ⟨rfl, v3, hJ3, hB3, hg3⟩; obtain ⟨htb3, HF3⟩ := fin w3 v3 hJ3 hB3; have cT3 := htb3.cell; have fT3 := htb3.frozen)
                refine wpAnyIn_done (by kernel_rfl) ?_ _
                gi_wp2
                exact HF3.out
        · have m2 : ((M : Int) == 2) = false := by rw [beq_eq_false_iff_ne]; omega
          gi_wp2
          exact ⟨KeepsFrom.refl _ _, rfl, r, tv, v, t, fun ho => by
            obtain ⟨o1, o2, o3⟩ := HD.out.1 ho
            rw [HG.out.1 o1, o2, scanA_no (fun e => h1 (by rw [← HN.out.2, e]; rfl)) (fun e => h2 (by rw [← HN.out.2, e]; rfl))], hO⟩
  case done =>
    rintro D ys W hD ⟨hOy, hly⟩ ⟨t, r, tv, v, hG, hO⟩ hK
    have cJ := hO.jb.cell
    gi_wp2
    refine ⟨by simp, .inl ⟨_, _, rfl, run_takeDeferred hK, ?_⟩⟩
    have h2 := (hO.grown (W' := W.putObj D (.deferred none)) (row := some D) hbe.size (grownBy_putObj' _ D _) (fun r e => by cases e; exact ⟨hD, _, hK, rfl⟩))
    have e1 : scan d.ss = r := by rw [hG.1 hOy, List.drop_of_length_le (by omega)]; rfl
    obtain ⟨L1, L2, L3, L4⟩ := HL.out
    refine ⟨_, results_tmp rfl _ _ _, jg, v, rfl, L1, ?_, h2.bel⟩
    rw [e1]
    exact h2.jn
  case stop =>
    rintro D cd pre W hD hp ⟨rfl, r, tv, v, t, hG, hO⟩ hK
    have cJ := hO.jb.cell
    gi_wp2
    refine ⟨by simp, .inl ⟨_, _, rfl, run_takeDeferred hK, ?_⟩⟩
    have h2 := (hO.grown (W' := W.putObj D (.deferred none)) (row := some D) hbe.size (grownBy_putObj' _ D _) (fun r e => by cases e; exact ⟨hD, _, hK, rfl⟩))
    obtain ⟨L1, L2, L3, L4⟩ := HL.out
    refine ⟨_, results_tmp rfl _ _ _, jg, v, rfl, L1, ?_, h2.bel⟩
    rw [hG hp]
    exact h2.jn
end Go.Proofs.YtlofjfeimhjdlaaDoor
