/- Numbers put behind bytes by package wire: what each call leaves, for every argument (bytes of at most 2^45). No other conditions. -/
import Derived.Test.YtcebbpdclgejdaaChecked
import Derived.Test.YtcebbpdclgejdaaMem
import Derived.Test.YtcebbpdclgejdaaPlain
import Derived.WalkKit
import Derived.WalkMore
import Derived.WalkSpells
import Derived.WalkLawsBesides
import Derived.Outline
set_option linter.unusedVariables false
namespace Go.Proofs.Ytcebbpdclgejdaa
open Go.RowKit

theorem info5 : (Try.prog.info? 5).map (fun i => (i.zero, i.size, i.bytes)) = some (some (.int .u8 0), 1, 1) := by kernel_rfl
theorem u8_table : ∃ i, U8 Try.prog 29 5 i := by
  obtain ⟨i, hi, hz, h1, h2⟩ := info_parts info5
  exact ⟨i, Try.underlying29, hi, hz, h1, h2⟩

theorem width_any (n : Int) (w : World) : Calls Try.prog 38 #[.int .i64 n] w fun e w' => e = .returned (.int .i64 (wid n : Nat)) ∧ w = w' := by
  by_cases h8 : n = 8
  · subst h8
    go_enter Try.func38, Try.ntmps38
    go_wp2
    go_ret
    exact ⟨rfl, rfl⟩
  by_cases h4 : n = 4
  · subst h4
    go_enter Try.func38, Try.ntmps38
    go_wp2
    go_ret
    exact ⟨rfl, rfl⟩
  by_cases h2 : n = 2
  · subst h2
    go_enter Try.func38, Try.ntmps38
    go_wp2
    go_ret
    exact ⟨rfl, rfl⟩
  by_cases h1 : n = 1
  · subst h1
    go_enter Try.func38, Try.ntmps38
    go_wp2
    go_ret
    exact ⟨rfl, rfl⟩
  have e8 : (n == 8) = false := by simp [h8]
  have e4 : (n == 4) = false := by simp [h4]
  have e2 : (n == 2) = false := by simp [h2]
  have e1 : (n == 1) = false := by simp [h1]
  have hw : wid n = 0 := by simp [wid, h8, h4, h2, h1]
  rw [hw]
  clear h8 h4 h2 h1 hw
  go_enter Try.func38, Try.ntmps38
  go_wp2
  go_ret
  exact ⟨rfl, rfl⟩

theorem room_any (A : Option Addr) (c : Nat) (l : List UInt8) (more : Nat) (w : World) (hA : Hol w A l) (hb : l.length + more ≤ 70368744177664) :
    Calls Try.prog 36 #[.slice A l.length c, .int .i64 more] w fun e w' => ∃ v, e = .returned v ∧ w'.ownsRow w.heap.size 5 1 v l.length (bc l) ∧ Below w.heap.size w w' := by
  obtain ⟨i, U⟩ := u8_table
  go_enter Try.func36, Try.ntmps36
  go_wp2_with (first
    | (refine wpList_make_own _ rfl _ _ 29 rfl w.heap.size 5 i (.int .u8 0) 1 U.ht U.hi U.hz U.h1 .i64 .i64 _ (l.length + more) rfl rfl (by omega) (by rw [U.h2]; omega) (by unfold maxLen; omega) (Nat.le_refl _) ?_
       intro w1 hown1 hg1)
    | (at_builtin
       refine wpList_app _ rfl _ _ _ rfl 5 i U w.heap.size _ 0 [] rfl hown1 A l.length c l rfl rfl (hA.below (below_of_grown hg1)) (by omega) hg1.size ?_
       intro v2 w2 hown2 hg2 hat2))
  go_ret
  refine ⟨v2, rfl, by simpa using hown2, (below_of_grown hg1).grown hg2 hg1.size (fun k hk => (hown1.lt k hk).1)⟩

/-- One byte in a new block of its own. -/
theorem hol_one (w : World) (e : TypeId) (x : UInt8) (z : Int) (hz : z = (x.toNat : Int)) : Hol (w.alloc (.cells #[.int .u8 z] e)) (some ⟨w.heap.size, 0, none⟩) [x] := by
  subst hz
  refine .inr ⟨w.heap.size, 0, rfl, fun j y hy => ?_⟩
  match j, hy with
  | 0, hy =>
    simp at hy
    subst hy
    simp

theorem byte_shr (x k : Nat) : (x : Int) / 2 ^ (8 * k) % 256 = ((UInt8.ofNat (x / 256 ^ k)).toNat : Int) := by
  have e : (UInt8.ofNat (x / 256 ^ k)).toNat = x / 256 ^ k % 256 := UInt8.toNat_ofNat' ..
  have e2 : (2 : Int) ^ (8 * k) = ((256 ^ k : Nat) : Int) := by
    rw [Int.pow_mul]
    simp
  rw [e, e2]
  omega

set_option maxHeartbeats 400000 in
theorem number_any (B : Nat) (v : Value) (n : Nat) (l : List UInt8) (size : Nat) (x : Nat) (w : World) (hown : w.ownsRow B 5 1 v n (bc l)) (hs : size ≤ 8) (hx : x < 18446744073709551616)
    (hn : n ≤ 70368744177664) (hB : B ≤ w.heap.size) :
    Calls Try.prog 40 #[v, .int .i64 size, .int .u64 x] w fun e w' => ∃ v', e = .returned v' ∧ w'.ownsRow B 5 1 v' (n + size) (bc (l ++ leb x size)) ∧ Below B w w' := by
  obtain ⟨i, U⟩ := u8_table
  go_enter Try.func40, Try.ntmps40
  go_wp2
  go_loopw [0, 9] (fun s i wr => ∃ k : Nat, k ≤ size ∧ i = .int .i64 k ∧ wr.ownsRow B 5 1 s (n + k) (bc (l ++ leb x k)) ∧ Below B w wr) (fun _ i _ => size - (intOf i).toNat)
  case atStart => exact ⟨0, Nat.zero_le _, rfl, by simpa [leb] using hown, Below.refl _ _⟩
  case round =>
    obtain ⟨k, hk, rfl, hown1, hb1⟩ := hrel
    by_cases hlt : k < size
    · go_wp2_with (at_builtin; refine wpList_app _ rfl _ _ _ rfl 5 i U B _ (n + k) _ rfl (hown1.alloc _) (some ⟨wr.heap.size, 0, none⟩) 1 1 [UInt8.ofNat (x / 256 ^ k)] rfl rfl (hol_one _ _ _ _ ?hz) (by omega) (by have := hb1.size; simp; omega) ?_)
      case hz => exact byte_shr x k
      intro v2 w2 hown2 hg2 hat2
      have hb2 : Below B w w2 := (hb1.alloc (by have := hb1.size; omega) _).grown hg2 (by have := hb1.size; simp; omega) (fun k hk => (hown1.lt k hk).1)
      have hown3 : w2.ownsRow B 5 1 v2 (n + (k + 1)) (bc (l ++ leb x (k + 1))) := by
        rw [leb_succ, ← List.append_assoc, bc_app]
        exact hown2
      clear hown2 hg2 hat2 hown1 hb1
      go_wp2
      go_roundw
      case rel => exact ⟨k + 1, by omega, by go_num, hown3, hb2⟩
      case measure => simp [intOf]; omega
    · go_wp2
      go_ret
      have hks : k = size := by omega
      subst hks
      exact ⟨_, rfl, hown1, hb1⟩

theorem put_arg (v : Value) (size : Int) (x : Nat) (w : World) (h : wid size = 0) :
    Calls Try.prog 35 #[v, .int .i64 size, .int .u64 x] w fun e w' => e = .returned (.tuple #[.slice none 0 0, .int .i64 201]) ∧ w = w' := by
  go_enter Try.func35, Try.ntmps35
  go_wp2_with (go_at_call 38; refine (width_any _ _).mono ?_; rintro e w' ⟨rfl, rfl⟩; rw [h])
  go_ret2
  exact ⟨rfl, rfl⟩

theorem put_long (v : Value) (size : Int) (x : Nat) (w : World) (h : wid size ≠ 0) (hx : x / 2 ^ wid size ≠ 0) (h64 : wid size < 64) :
    Calls Try.prog 35 #[v, .int .i64 size, .int .u64 x] w fun e w' => e = .returned (.tuple #[.slice none 0 0, .int .i64 202]) ∧ w = w' := by
  go_enter Try.func35, Try.ntmps35
  have hx2 : ((x : Int) / 2 ^ wid size != 0) = true := by
    rw [bne_iff_ne]
    intro e
    apply hx
    have : ((x / 2 ^ wid size : Nat) : Int) = 0 := by rw [← e]; simp
    omega
  have hw0 : ((wid size : Int) == 0) = false := by simp; omega
  clear hx h
  go_wp2_with (go_at_call 38; refine (width_any _ _).mono ?_; rintro e w' ⟨rfl, rfl⟩)
  go_ret2
  exact ⟨rfl, rfl⟩
def putR (l : List UInt8) (size : Int) (x : Nat) : List UInt8 × Int :=
  if wid size = 0 then ([], 201) else if x / 256 ^ size.toNat ≠ 0 then ([], 202) else (l ++ leb x size.toNat, 0)
/-- Bytes and an error, the bytes the call's own. -/
def BytesPost (w : World) (r : List UInt8 × Int) (e : Ending) (w' : World) : Prop :=
  ∃ v, e = .returned (.tuple #[v, .int .i64 r.2]) ∧ w'.ownsRow w.heap.size 5 1 v r.1.length (bc r.1) ∧ Below w.heap.size w w'
theorem wid_pow (size : Int) (h : wid size ≠ 0) : (2 : Nat) ^ wid size = 256 ^ size.toNat := by
  have h1 := wid_eq h
  have h2 := wid_pos h
  have e : wid size = 8 * size.toNat := by omega
  rw [e, Nat.pow_mul]

theorem put_any (A : Option Addr) (c : Nat) (l : List UInt8) (size : Int) (x : Nat) (w : World) (hA : Hol w A l) (hx : x < 18446744073709551616) (hl : l.length ≤ 35184372088832) :
    Calls Try.prog 35 #[.slice A l.length c, .int .i64 size, .int .u64 x] w (BytesPost w (putR l size x)) := by
  by_cases h : wid size = 0
  · have hr : putR l size x = ([], 201) := by unfold putR; rw [if_pos h]
    rw [hr]
    exact (put_arg _ size x w h).mono fun e w' ⟨he, hw⟩ => ⟨_, he, World.ownsRow_nil _ _ _ _, by rw [hw]; exact Below.refl _ _⟩
  by_cases hx2 : x / 256 ^ size.toNat ≠ 0
  · have hr : putR l size x = ([], 202) := by unfold putR; rw [if_neg h, if_pos hx2]
    rw [hr]
    refine (put_long _ size x w h (by rw [wid_pow size h]; exact hx2) ?_).mono fun e w' ⟨he, hw⟩ => ⟨_, he, World.ownsRow_nil _ _ _ _, by rw [hw]; exact Below.refl _ _⟩
    have hp := wid_pos h
    have he := wid_eq h
    rcases (by omega : size = 8 ∨ size < 8) with h8 | h8
    · exfalso
      apply hx2
      rw [h8]
      exact Nat.div_eq_of_lt (by simpa using hx)
    · omega
  · have hr : putR l size x = (l ++ leb x size.toNat, 0) := by unfold putR; rw [if_neg h, if_neg hx2]
    rw [hr]
    have hp := wid_pos h
    have he := wid_eq h
    have hx3 : ((x : Int) / 2 ^ wid size != 0) = false := by
      rw [bne_eq_false_iff_eq]
      have e1 : (2 : Int) ^ wid size = ((256 ^ size.toNat : Nat) : Int) := by rw [← wid_pow size h, Int.natCast_pow]; rfl
      rw [e1]
      have : x / 256 ^ size.toNat = 0 := by simpa using hx2
      rw [← Int.natCast_ediv, this]
      rfl
    have hw0 : ((wid size : Int) == 0) = false := by simp; omega
    have hw1 : wid size ≤ 64 := wid_le size
    obtain ⟨k, rfl⟩ := Int.eq_ofNat_of_zero_le (by omega : 0 ≤ size)
    rw [Int.toNat_natCast]
    have hk : k ≤ 8 := by omega
    clear hx2 h hr hp he
    go_enter Try.func35, Try.ntmps35
    go_wp2_with (first
      | (go_at_call 38; refine (width_any _ _).mono ?_; rintro e w' ⟨rfl, rfl⟩)
      | (go_at_call 36; refine (room_any A c l k w hA (by omega)).mono ?_; rintro e w1 ⟨v, rfl, hown1, hb1⟩)
      | (go_at_call 40; refine (number_any w.heap.size v l.length l k x w1 hown1 hk hx (by omega) hb1.size).mono ?_; rintro e w2 ⟨v2, rfl, hown2, hb2⟩))
    go_ret2
    refine ⟨v2, rfl, ?_, hb1.trans hb2⟩
    have : (l ++ leb x k).length = l.length + k := by rw [List.length_append, leb_len]
    rw [this]
    exact hown2

end Go.Proofs.Ytcebbpdclgejdaa
