/- DiskTears: what is known of the disk, and its calls by contracts. -/
import Derived.Test.YtfndmphmlbfjlaaDRn
import Derived.Test.YtfndmphmlbfjlaaWthn
namespace Go.Proofs.Ytfndmphmlbfjlaa
open Go.RowKit

/-- What DiskTears knows of its disk: three sectors, down?, armed?, what is left, what is kept, what sector 1 holds. -/
structure T3 (d : Dk) (dn ar : Bool) (L K : Nat) (x : List UInt8) : Prop where
  n : d.ss.length = 3
  hdn : d.down = dn
  har : d.armed = ar
  lf : ar = true → d.left = L
  kp : ar = true → d.keep = K
  hx : d.get 1 = x
theorem put_get (d : Dk) (i j : Nat) (s : List UInt8) (hi : i < d.ss.length) : (d.put i s).get j = if i = j then s else d.get j := by
  unfold Dk.put Dk.get
  simp only [List.getD, List.getElem?_set]
  split
  · rename_i h; subst h; rfl
  · rfl
theorem T3.done {d : Dk} {ar : Bool} {L K : Nat} {x : List UInt8} (h : T3 d false ar L K x) (i : Nat) (hi : i < 3) (t : List UInt8) : T3 (d.done i t) false ar (L - 1) K (if i = 1 then t else x) := by
  refine ⟨by simpa [Dk.done, Dk.put] using h.n, h.hdn, h.har, fun ha => ?_, h.kp, ?_⟩
  · show (if d.armed = true then d.left - 1 else d.left) = L - 1
    rw [h.har, if_pos ha, h.lf ha]
  · show (d.put i t).get 1 = _
    rw [put_get d i 1 t (by rw [h.n]; exact hi), h.hx]
section
variable {v : World} {G B cap : Nat} {d : Dk} {ar : Bool} {L K : Nat} {x : List UInt8}
theorem tw_good (ht : T3 d false ar L K x) (hl : ¬ (ar = true ∧ L = 0)) (i : Int) (k : Nat) (hik : (k : Int) = i) (hk : k < 3) (s : ByteArray) (hs : s.size ≤ 32) (x' : List UInt8) (hx : x' = if k = 1 then full s.data.toList else x) (h : DkAt v G B cap d) :
    Calls Try.prog 9 #[.pointer (some ⟨G, 0, none⟩), .int .i64 i, .string s] v fun e v' => e = .returned (.bool true) ∧ (∃ d', DkAt v' G B cap d' ∧ T3 d' false ar (L - 1) K x') ∧ But2 G B v v' := by
  subst hik
  have hl2 : s.data.toList.length = s.size := Array.length_toList
  refine (write_ok v G B cap d k s ⟨ht.hdn, by omega, by rw [ht.n]; omega, by omega⟩ (fun ⟨h1, h2⟩ => hl ?_) h).mono fun e v' ⟨h1, h2, h3⟩ => ⟨h1, ⟨_, h2, ?_⟩, h3⟩
  · have : ar = true := ht.har ▸ h1
    exact ⟨this, (ht.lf this) ▸ h2⟩
  · rw [hx]; exact ht.done k hk _
theorem tw_no {dn : Bool} (ht : T3 d dn ar L K x) (i : Int) (s : ByteArray) (hn : dn = true ∨ i = 3) (h : DkAt v G B cap d) :
    Calls Try.prog 9 #[.pointer (some ⟨G, 0, none⟩), .int .i64 i, .string s] v fun e v' => e = .returned (.bool false) ∧ v = v' :=
  write_no v G B cap d i s (fun hm => by
    rcases hn with h1 | h1
    · have := hm.1; rw [ht.hdn, h1] at this; cases this
    · have := hm.2.2.1; rw [ht.n, h1] at this; simp at this) h
theorem tw_torn (ht : T3 d false true 0 K x) (s : ByteArray) (hs : s.size ≤ 32) (h : DkAt v G B cap d) :
    Calls Try.prog 9 #[.pointer (some ⟨G, 0, none⟩), .int .i64 1, .string s] v fun e v' => e = .returned (.bool false) ∧ (∃ d', DkAt v' G B cap d' ∧ T3 d' true false 0 0 (torn K (full s.data.toList) x)) ∧ But2 G B v v' := by
  have hl2 : s.data.toList.length = s.size := Array.length_toList
  refine (write_torn v G B cap d 1 s ⟨ht.hdn, by omega, by rw [ht.n]; omega, by omega⟩ ht.har (ht.lf rfl) h).mono fun e v' ⟨h1, h2, h3⟩ => ⟨h1, ⟨_, h2, ?_⟩, h3⟩
  refine ⟨by simpa [Dk.tear, Dk.put] using ht.n, rfl, rfl, (fun h => by cases h), (fun h => by cases h), ?_⟩
  show (d.put 1 _).get 1 = _
  rw [put_get d 1 1 _ (by rw [ht.n]; omega), if_pos rfl, ht.kp rfl, ht.hx]
theorem tw_down {dn : Bool} (ht : T3 d dn ar L K x) (h : DkAt v G B cap d) : Calls Try.prog 11 #[.pointer (some ⟨G, 0, none⟩)] v fun e v' => e = .returned (.bool dn) ∧ v = v' := by
  have := down_any v G B cap d h
  rw [ht.hdn] at this
  exact this
theorem tw_read {dn : Bool} (ht : T3 d dn ar L K x) (S : ByteArray) (hS : S = ⟨x.toArray⟩) (h : DkAt v G B cap d) :
    Calls Try.prog 10 #[.pointer (some ⟨G, 0, none⟩), .int .i64 1] v fun e v' => e = .returned (.tuple #[.string S, .bool true]) ∧ v = v' := by
  have := read_yes v G B cap d 1 (by rw [ht.n]; omega) h
  rw [ht.hx, ← hS] at this
  exact this
theorem tw_arm (ht : T3 d false ar L K x) (m k : Int) (L' K' : Nat) (hL : (L' : Int) = max m 0) (hK : (K' : Int) = min (max k 0) 32) (hm : m ≤ 9223372036854775807) (h : DkAt v G B cap d) :
    Calls Try.prog 8 #[.pointer (some ⟨G, 0, none⟩), .int .i64 m, .int .i64 k] v fun e v' => e = .returned (.tuple #[]) ∧ (∃ d', DkAt v' G B cap d' ∧ T3 d' false true L' K' x) ∧ But2 G B v v' :=
  (arm_any v G B cap d m k L' K' hL hK hm h).mono fun _ _ ⟨h1, h2, h3⟩ => ⟨h1, ⟨_, h2, ht.n, ht.hdn, rfl, fun _ => rfl, fun _ => rfl, ht.hx⟩, h3⟩
theorem tw_revive {dn : Bool} (ht : T3 d dn ar L K x) (h : DkAt v G B cap d) :
    Calls Try.prog 16 #[.pointer (some ⟨G, 0, none⟩)] v fun e v' => e = .returned (.tuple #[]) ∧ (∃ d', DkAt v' G B cap d' ∧ T3 d' false ar L K x) ∧ But2 G B v v' :=
  (revive_any v G B cap d h).mono fun _ _ ⟨h1, h2, h3⟩ => ⟨h1, ⟨_, h2, ht.n, rfl, ht.har, ht.lf, ht.kp, ht.hx⟩, h3⟩
end
theorem t3_new : T3 (newDk 3) false false 0 0 (List.replicate 32 0) := ⟨rfl, rfl, rfl, (fun h => by cases h), (fun h => by cases h), rfl⟩
theorem byte_of (c : Int) (h : (Lit.int .u8 c).wf = true) : ∃ b : UInt8, (b.toNat : Int) = c := by
  have h2 : 0 ≤ c ∧ c ≤ 255 := by simpa [Lit.wf, IntKind.min, IntKind.max, IntKind.signed, IntKind.bits] using h
  exact ⟨UInt8.ofNat c.toNat, by rw [UInt8.toNat_ofNat']; omega⟩
end Go.Proofs.Ytfndmphmlbfjlaa
