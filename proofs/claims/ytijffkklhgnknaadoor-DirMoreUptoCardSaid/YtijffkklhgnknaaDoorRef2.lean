/- The reference's functions on bytes, the rest: for every argument (bytes of at most 2^45). No other conditions. -/
import Derived.Test.YtijffkklhgnknaaDoorRef
set_option linter.unusedVariables false
namespace Go.Proofs.YtijffkklhgnknaaDoor
open Go.RowKit

theorem rput_any (A : Option Addr) (c : Nat) (l : List UInt8) (size : Int) (x : Nat) (w : World) (hA : Hol w A l) (hx : x < 18446744073709551616) (hl : l.length ≤ 35184372088832) :
    Calls Tryd.prog 49 #[.slice A l.length c, .int .i64 size, .int .u64 x] w (BytesPost w (putR l size x)) := by
  by_cases h : wid size = 0
  · have hr : putR l size x = ([], 201) := by unfold putR; rw [if_pos h]
    rw [hr]
    exact (rput_arg _ size x w h).mono fun e w' ⟨he, hw⟩ => ⟨_, he, World.ownsRow_nil _ _ _ _, by rw [hw]; exact Below.refl _ _⟩
  have hp := wid_pos h
  obtain ⟨k, rfl⟩ := Int.eq_ofNat_of_zero_le (by omega : 0 ≤ size)
  have hr : putR l (k : Int) x = (if x / 256 ^ k ≠ 0 then ([], 202) else (l ++ leb x k, 0)) := by unfold putR; rw [if_neg h, Int.toNat_natCast]
  rw [hr]
  refine rput_go A c l k x w hA hx hl (by omega) (by omega) ?_
  have hk : k = 1 ∨ k = 2 ∨ k = 4 ∨ k = 8 := by
    unfold wid at h
    repeat' split at h
    all_goals omega
  rcases hk with rfl | rfl | rfl | rfl
  · exact .inl rfl
  · exact .inr (.inl ⟨rfl, rfl⟩)
  · exact .inr (.inr (.inl ⟨rfl, rfl, rfl⟩))
  · exact .inr (.inr (.inr ⟨rfl, rfl, rfl, rfl⟩))

theorem put2_of (l : List UInt8) (n : Nat) : putR l 2 n = if 65535 < n then ([], 202) else (l ++ leb n 2, 0) := by
  unfold putR
  rw [if_neg (by decide)]
  by_cases h : 65535 < n
  · rw [if_pos h, if_pos]
    intro e
    have : n / 65536 = 0 := e
    omega
  · rw [if_neg h, if_neg]
    · rfl
    · intro e
      apply e
      show n / 65536 = 0
      omega

theorem rtxt_any (A : Option Addr) (c : Nat) (l : List UInt8) (s : ByteArray) (w : World) (hA : Hol w A l) (hl : l.length ≤ 35184372088832) (hs : s.size ≤ 9223372036854775807) :
    Calls Tryd.prog 50 #[.slice A l.length c, .string s] w (BytesPost w (txtR l s.data.toList)) := by
  have hsz : s.data.toList.length = s.size := by rw [Array.length_toList]; rfl
  have cP := rput_any A c l 2 s.size w hA (by omega) hl
  rw [put2_of] at cP
  by_cases h : 65535 < s.size
  · have hr : txtR l s.data.toList = ([], 202) := by unfold txtR; rw [hsz, if_pos h]
    rw [hr]
    rw [if_pos h] at cP
    clear hr hsz h
    have CP := Lib.hid cP
    clear cP
    go_enter Tryd.func50, Tryd.ntmps50
    go_wp2_with (go_at_call 49; refine CP.out.mono ?_; rintro e w1 ⟨v, rfl, hown1, hb1⟩)
    go_ret2
    exact ⟨_, rfl, World.ownsRow_nil _ _ _ _, hb1⟩
  · have hr : txtR l s.data.toList = (l ++ leb s.size 2 ++ s.data.toList, 0) := by unfold txtR; rw [hsz, if_neg h]
    rw [hr]
    rw [if_neg h] at cP
    obtain ⟨i, U⟩ := u8_table
    have HS := Lib.hid hsz
    have hz2 : s.size ≤ 65535 := by omega
    clear hr hsz h
    have CP := Lib.hid cP
    clear cP
    have hlen : (l ++ leb s.size 2).length = l.length + 2 := by rw [List.length_append, leb_len]
    have HL := Lib.hid hlen
    clear hlen
    go_enter Tryd.func50, Tryd.ntmps50
    go_wp2_with (first
      | (go_at_call 49; refine CP.out.mono ?_; rintro e w1 ⟨v, rfl, hown1, hb1⟩)
      | (at_builtin; refine Lib.wpList_append_own_string _ rfl _ _ 33 9 rfl w.heap.size 5 i U.ht Tryd.underlying9 U.hi U.hz U.h1 U.h2 v _ _ rfl hown1 s rfl (by show (l ++ leb s.size 2).length + s.size ≤ maxLen; rw [HL.out]; unfold maxLen; omega) (by show (l ++ leb s.size 2).length + s.size ≤ 140737488355328; rw [HL.out]; omega) hb1.size ?_; intro v3 w3 hown3 hg3 _))
    go_ret2
    refine ⟨v3, rfl, ?_, hb1.grown hg3 hb1.size (fun k hk => (hown1.lt k hk).1)⟩
    show w3.ownsRow _ _ _ _ (l ++ leb s.size 2 ++ s.data.toList).length (bc (l ++ leb s.size 2 ++ s.data.toList))
    rw [List.length_append, HS.out, bc_app]
    exact hown3

theorem hol_drewN {w : World} {A : Option Addr} {l : List UInt8} (h : Hol w A l) : ∀ q, Hol (w.drewN q) A l
  | 0 => h
  | q + 1 => hol_drewN (w := w.drew) h q

set_option maxHeartbeats 400000 in
theorem bytes_any (A B : Option Addr) (c d : Nat) (a b : List UInt8) (w : World) (hA : Hol w A a) (hB : Hol w B b) (ha : a.length ≤ 9223372036854775807) (hb : b.length ≤ 9223372036854775807) :
    Calls Tryd.prog 28 #[.slice A a.length c, .slice B b.length d] w fun e w' => e = .returned (.bool (decide (a = b))) ∧ Below w.heap.size w w' := by
  by_cases hl : a.length = b.length
  · generalize hR : decide (a = b) = R
    have HR := Lib.hid hR
    clear hR
    have hn : ((a.length : Int) != (b.length : Int)) = false := by rw [bne_eq_false_iff_eq]; omega
    generalize hbn : b.length = n at *
    have HL := Lib.hid hl
    have HB := Lib.hid hbn
    clear hl hbn
    have hn2 : (a.length : Int) ≤ (n : Int) := by have := HL.out; omega
    have hn3 : a.length ≤ n := by have := HL.out; omega
    go_enter Tryd.func28, Tryd.ntmps28
    go_wp2
    go_loopw [5] (fun i wr => ∃ k : Nat, k ≤ a.length ∧ i = .int .i64 k ∧ Hid (a.take k = b.take k) ∧ ∃ q, wr = w.drewN q) (fun i _ => a.length - (intOf i).toNat)
    case atStart => exact ⟨0, Nat.zero_le _, rfl, Lib.hid (by simp), 0, rfl⟩
    case round =>
      obtain ⟨k, hk, rfl, htk, q, rfl⟩ := hrel
      by_cases hlt : k < a.length
      · have hltb : k < b.length := by have := HL.out; have := HB.out; omega
        obtain ⟨g, o, rfl, _, hc1⟩ := hA.at_ hlt
        obtain ⟨g2, o2, rfl, _, hc2⟩ := hB.at_ hltb
        obtain ⟨x, hx⟩ : ∃ x, a[k] = x := ⟨_, rfl⟩
        obtain ⟨y, hy⟩ : ∃ y, b[k] = y := ⟨_, rfl⟩
        rw [hx] at hc1
        rw [hy] at hc2
        have HX := Lib.hid hx
        have HY := Lib.hid hy
        clear hx hy
        have hkz : (k : Int) < (a.length : Int) := by omega
        have hkz2 : (k : Int) < (n : Int) := by omega
        by_cases hxy : x = y
        · subst hxy
          have htk2 : Hid (a.take (k + 1) = b.take (k + 1)) := by
            refine Lib.hid ?_
            rw [List.take_succ_eq_append_getElem hlt, List.take_succ_eq_append_getElem hltb, htk.out, HX.out, HY.out]
          go_wp2_with fail
          go_quiet (fail)
          go_wp2
          go_roundw
          case rel =>
            exact ⟨k + 1, by omega, by go_num, htk2, _, rfl⟩
          case measure => simp [intOf]; omega
        · have hR : R = false := by
            rw [← HR.out]
            apply decide_eq_false
            intro e
            apply hxy
            subst e
            rw [← HX.out, ← HY.out]
          subst hR
          have hne : ((x.toNat : Int) != (y.toNat : Int)) = true := by
            rw [bne_iff_ne]
            intro e
            exact hxy (UInt8.toNat_inj.1 (by omega))
          clear hxy
          go_wp2_with fail
          go_quiet (fail)
          go_wp2
          go_ret
          exact ⟨rfl, below_drewN (below_drewN (Below.refl _ _) _) _⟩
      · have hR : R = true := by
          rw [← HR.out]
          apply decide_eq_true
          have := htk.out
          rw [List.take_of_length_le (by omega), List.take_of_length_le (by have := HL.out; have := HB.out; omega)] at this
          exact this
        subst hR
        go_wp2
        go_ret
        exact ⟨rfl, below_drewN (Below.refl _ _) _⟩
  · have hR : decide (a = b) = false := by
      apply decide_eq_false
      intro e
      exact hl (by rw [e])
    rw [hR]
    have hn : ((a.length : Int) != (b.length : Int)) = true := by rw [bne_iff_ne]; omega
    clear hl hR
    go_enter Tryd.func28, Tryd.ntmps28
    go_wp2
    go_ret
    exact ⟨rfl, Below.refl _ _⟩

theorem num_drop (l : List UInt8) (j : Nat) (h : j < l.length) : num (l.drop j) = (l[j]).toNat + 256 * num (l.drop (j + 1)) := by
  rw [List.drop_eq_getElem_cons h]
  rfl

set_option maxHeartbeats 400000 in
theorem rnum_any (A : Option Addr) (c : Nat) (l : List UInt8) (w : World) (hA : Hol w A l) (hl : l.length ≤ 8) :
    Calls Tryd.prog 32 #[.slice A l.length c, .int .i64 l.length] w fun e w' => e = .returned (.int .u64 (num l : Nat)) ∧ w = w' := by
  go_enter Tryd.func32, Tryd.ntmps32
  go_wp2
  go_loop [5, 6] (fun v i => ∃ j : Nat, j ≤ l.length ∧ i = .int .i64 ((j : Int) - 1) ∧ v = .int .u64 (num (l.drop j) : Nat)) (fun _ i => (intOf i + 1).toNat)
  case atStart => exact ⟨l.length, Nat.le_refl _, rfl, by rw [List.drop_length]; rfl⟩
  case round =>
    obtain ⟨j, hj, rfl, rfl⟩ := hrel
    by_cases h0 : 0 < j
    · obtain ⟨k, rfl⟩ : ∃ k, j = k + 1 := ⟨j - 1, by omega⟩
      have hlt : k < l.length := by omega
      obtain ⟨g, o, rfl, _, hc⟩ := hA.at_ hlt
      have hnd := num_drop l k hlt
      have hbd := num_lt (l.drop k)
      have hpw : 256 ^ (l.drop k).length ≤ 256 ^ 8 := Nat.pow_le_pow_right (by decide) (by rw [List.length_drop]; omega)
      have hb2 : num (l.drop k) < 18446744073709551616 := Nat.lt_of_lt_of_le hbd hpw
      clear hbd hpw
      obtain ⟨x, hx⟩ : ∃ x, l[k] = x := ⟨_, rfl⟩
      rw [hx] at hc hnd
      have hX : x.toNat < 256 := x.toNat_lt
      generalize num (l.drop (k + 1)) = N at hnd ⊢
      have hb3 : x.toNat + 256 * N < 18446744073709551616 := by omega
      have HND := Lib.hid hnd
      have HX := Lib.hid hx
      clear hnd hx hb2
      have hk1 : ((k + 1 : Nat) : Int) - 1 = (k : Int) := by omega
      rw [hk1]
      clear hk1
      have hkz : (k : Int) < (l.length : Int) := by omega
      go_wp2
      go_round
      case rel =>
        exact ⟨k, by omega, rfl, by rw [HND.out]; exact congrArg (Value.int .u64) (by omega)⟩
      case measure => simp [intOf]
    · obtain rfl : j = 0 := by omega
      rw [List.drop_zero]
      have e0 : ((0 : Nat) : Int) - 1 = -1 := rfl
      rw [e0]
      clear e0
      go_wp2
      go_ret
      exact ⟨rfl, rfl⟩
end Go.Proofs.YtijffkklhgnknaaDoor
