/- The walk of the law PathWays. No conditions. -/
import Derived.Test.YtpkmbgbglefcfaaPk
import Derived.Test.YtpkmbgbglefcfaaPe
set_option linter.unusedVariables false
namespace Go.Proofs.Ytpkmbgbglefcfaa
open Go.RowKit

theorem wayL_len (d s : Int) : (wayL d s).length ≤ 4 := by
  rcases way_cases d s with ⟨n, m, rfl, rfl, h1, h4, hm⟩ | h
  · rw [wayL_in h1 h4 hm, wy_len]
    exact h4
  · rw [wayL_out h]
    exact Nat.zero_le _
/-- The comparison of a way with the reference's. -/
theorem ints_same (A B : Option Addr) (c d : Nat) (l : List Int) (w : World) (hA : HolI w A l) (hB : HolI w B l) (hl : l.length ≤ 1000000) :
    Calls Try.prog 17 #[.slice A l.length c, .slice B l.length d] w fun e w' => e = .returned (.bool true) ∧ Below w.heap.size w w' :=
  (ints_any A B c d l l w hA hB (by omega) (by omega)).mono (by
    rintro e w' ⟨rfl, q, rfl⟩
    exact ⟨by rw [decide_eq_true rfl], below_drewN (Below.refl _ _) _⟩)
theorem ints_other (A B : Option Addr) (c d : Nat) (a b : List Int) (r : Bool) (w : World) (hA : HolI w A a) (hB : HolI w B b) (hl : a.length ≤ 1000000) (hl2 : b.length ≤ 1000000) (hr : decide (a = b) = r) :
    Calls Try.prog 17 #[.slice A a.length c, .slice B b.length d] w fun e w' => e = .returned (.bool r) ∧ Below w.heap.size w w' :=
  (ints_any A B c d a b w hA hB (by omega) (by omega)).mono (by
    rintro e w' ⟨rfl, q, rfl⟩
    exact ⟨by rw [hr], below_drewN (Below.refl _ _) _⟩)
set_option maxRecDepth 20000 in
set_option maxHeartbeats 1000000 in
theorem ways_none (d a b : Int) (x y : List Int) (w : World) (hx : wayL d a = x) (hy : wayL d b = y) (h0 : x.length = 0 ∨ y.length = 0) : Calls Try.prog 4 #[.int .i64 d, .int .i64 a, .int .i64 b] w fun e w' => e = .returned (.bool true) ∧ Below w.heap.size w w' := by
  have hxl : x.length ≤ 4 := by rw [← hx]; exact wayL_len _ _
  have hyl : y.length ≤ 4 := by rw [← hy]; exact wayL_len _ _
  have HX := Lib.hid hx
  have HY := Lib.hid hy
  clear hx hy
  by_cases hx0 : x.length = 0
  · have hd0 : ((x.length : Int) == 0) = true := by simp [List.eq_nil_of_length_eq_zero hx0]
    clear h0 hx0
    go_enter Try.func4, Try.ntmps4
    go_wp2_with (first
      | (go_at_call 9; refine (awake_any _).mono ?_; rintro e w1 ⟨rfl, hB1⟩; have HB1 := Lib.hid hB1; clear hB1)
      | (go_at_call_of 16 (Value.int IntKind.i64 a); refine (way_any d a _).mono ?_; rintro e w2 ⟨A2, c2, rfl, hO2, hB2⟩
         rw [HX.out] at hO2
         rw [HX.out]
         have HO2 := Lib.hid hO2
         have HB2 := Lib.hid (below_nxt hB2 HB1.out)
         clear hO2 hB2)
      | (go_at_call_of 16 (Value.int IntKind.i64 b); refine (way_any d b _).mono ?_; rintro e w3 ⟨A3, c3, rfl, hO3, hB3⟩
         rw [HY.out] at hO3
         rw [HY.out]
         have HO2 := Lib.hid (HO2.out.kept hB3)
         have HO3 := Lib.hid hO3
         have HB3 := Lib.hid (below_nxt hB3 HB2.out)
         clear hO3 hB3)
      | (go_at_call_of 18 (Value.int IntKind.i64 a); refine (rway_any d a _).mono ?_; rintro e w4 ⟨A4, c4, rfl, hO4, hB4⟩
         rw [HX.out] at hO4
         rw [HX.out]
         have HO2 := Lib.hid (HO2.out.kept hB4)
         have HO3 := Lib.hid (HO3.out.kept hB4)
         have HO4 := Lib.hid hO4
         have HB4 := Lib.hid (below_nxt hB4 HB3.out)
         clear hO4 hB4)
      | (go_at_call_of 17 (Value.slice A4 x.length c4); refine (ints_same A2 A4 c2 c4 x w4 HO2.out.hol HO4.out.hol (by omega)).mono ?_; rintro e w5 ⟨rfl, hB5⟩
         have HO2 := Lib.hid (HO2.out.kept hB5)
         have HO3 := Lib.hid (HO3.out.kept hB5)
         have HB5 := Lib.hid (below_nxt hB5 HB4.out)
         clear hB5)
      | (go_at_call_of 18 (Value.int IntKind.i64 b); refine (rway_any d b _).mono ?_; rintro e w6 ⟨A6, c6, rfl, hO6, hB6⟩
         rw [HY.out] at hO6
         rw [HY.out]
         have HO2 := Lib.hid (HO2.out.kept hB6)
         have HO3 := Lib.hid (HO3.out.kept hB6)
         have HO6 := Lib.hid hO6
         have HB6 := Lib.hid (below_nxt hB6 HB5.out)
         clear hO6 hB6)
      | (go_at_call_of 17 (Value.slice A6 y.length c6); refine (ints_same A3 A6 c3 c6 y w6 HO3.out.hol HO6.out.hol (by omega)).mono ?_; rintro e w7 ⟨rfl, hB7⟩
         have HO2 := Lib.hid (HO2.out.kept hB7)
         have HO3 := Lib.hid (HO3.out.kept hB7)
         have HB7 := Lib.hid (below_nxt hB7 HB6.out)
         clear hB7))
    go_ret
    exact ⟨rfl, HB7.out⟩
  · have hd0 : ((x.length : Int) == 0) = false := by simp; intro h; exact hx0 (by rw [h]; rfl)
    have hd1 : ((y.length : Int) == 0) = true := by
      rcases h0 with h | h
      · exact absurd h hx0
      · simp [List.eq_nil_of_length_eq_zero h]
    clear h0 hx0
    go_enter Try.func4, Try.ntmps4
    go_wp2_with (first
      | (go_at_call 9; refine (awake_any _).mono ?_; rintro e w1 ⟨rfl, hB1⟩; have HB1 := Lib.hid hB1; clear hB1)
      | (go_at_call_of 16 (Value.int IntKind.i64 a); refine (way_any d a _).mono ?_; rintro e w2 ⟨A2, c2, rfl, hO2, hB2⟩
         rw [HX.out] at hO2
         rw [HX.out]
         have HO2 := Lib.hid hO2
         have HB2 := Lib.hid (below_nxt hB2 HB1.out)
         clear hO2 hB2)
      | (go_at_call_of 16 (Value.int IntKind.i64 b); refine (way_any d b _).mono ?_; rintro e w3 ⟨A3, c3, rfl, hO3, hB3⟩
         rw [HY.out] at hO3
         rw [HY.out]
         have HO2 := Lib.hid (HO2.out.kept hB3)
         have HO3 := Lib.hid hO3
         have HB3 := Lib.hid (below_nxt hB3 HB2.out)
         clear hO3 hB3)
      | (go_at_call_of 18 (Value.int IntKind.i64 a); refine (rway_any d a _).mono ?_; rintro e w4 ⟨A4, c4, rfl, hO4, hB4⟩
         rw [HX.out] at hO4
         rw [HX.out]
         have HO2 := Lib.hid (HO2.out.kept hB4)
         have HO3 := Lib.hid (HO3.out.kept hB4)
         have HO4 := Lib.hid hO4
         have HB4 := Lib.hid (below_nxt hB4 HB3.out)
         clear hO4 hB4)
      | (go_at_call_of 17 (Value.slice A4 x.length c4); refine (ints_same A2 A4 c2 c4 x w4 HO2.out.hol HO4.out.hol (by omega)).mono ?_; rintro e w5 ⟨rfl, hB5⟩
         have HO2 := Lib.hid (HO2.out.kept hB5)
         have HO3 := Lib.hid (HO3.out.kept hB5)
         have HB5 := Lib.hid (below_nxt hB5 HB4.out)
         clear hB5)
      | (go_at_call_of 18 (Value.int IntKind.i64 b); refine (rway_any d b _).mono ?_; rintro e w6 ⟨A6, c6, rfl, hO6, hB6⟩
         rw [HY.out] at hO6
         rw [HY.out]
         have HO2 := Lib.hid (HO2.out.kept hB6)
         have HO3 := Lib.hid (HO3.out.kept hB6)
         have HO6 := Lib.hid hO6
         have HB6 := Lib.hid (below_nxt hB6 HB5.out)
         clear hO6 hB6)
      | (go_at_call_of 17 (Value.slice A6 y.length c6); refine (ints_same A3 A6 c3 c6 y w6 HO3.out.hol HO6.out.hol (by omega)).mono ?_; rintro e w7 ⟨rfl, hB7⟩
         have HO2 := Lib.hid (HO2.out.kept hB7)
         have HO3 := Lib.hid (HO3.out.kept hB7)
         have HB7 := Lib.hid (below_nxt hB7 HB6.out)
         clear hB7))
    go_ret
    exact ⟨rfl, HB7.out⟩
set_option maxRecDepth 20000 in
set_option maxHeartbeats 1000000 in
theorem ways_in (n m1 m2 : Nat) (x y : List Int) (d a b : Int) (hd : d = n) (ha : a = m1) (hb : b = m2) (w : World) (h1 : 1 ≤ n) (h4 : n ≤ 4) (hm1 : m1 < pw n) (hm2 : m2 < pw n) (hx0 : x = wy n m1 n) (hy0 : y = wy n m2 n) :
    Calls Try.prog 4 #[.int .i64 d, .int .i64 a, .int .i64 b] w fun e w' => e = .returned (.bool true) ∧ Below w.heap.size w w' := by
  have HX : Hid (wayL d a = x) := Lib.hid (by rw [hd, ha, hx0, wayL_in h1 h4 hm1])
  have HY : Hid (wayL d b = y) := Lib.hid (by rw [hd, hb, hy0, wayL_in h1 h4 hm2])
  have hxn : x.length = n := by rw [hx0, wy_len]
  have hyn : y.length = n := by rw [hy0, wy_len]
  have hxl : x.length ≤ 4 := by omega
  have hyl : y.length ≤ 4 := by omega
  have hd0 : ((x.length : Int) == 0) = false := by
    rw [beq_eq_false_iff_ne]
    omega
  have hd1 : ((y.length : Int) == 0) = false := by
    rw [beq_eq_false_iff_ne]
    omega
  have HXN := Lib.hid hxn
  have HX0 := Lib.hid hx0
  have HA := Lib.hid ha
  have HSTEP : Hid (∀ k, k < n → ∃ q s r : Nat, x[k]? = some (q : Int) ∧ s = m1 / pw (n - k) ∧ r = m1 / pw (n - (k + 1)) ∧ 4 * s + q = r ∧ r ≤ 256) := Lib.hid (by
    intro k hk
    refine ⟨_, _, _, by rw [hx0]; exact wy_get hk, rfl, rfl, wy_down hm1 k hk, ?_⟩
    have := pw_le h4
    exact Nat.le_trans (Nat.div_le_self _ _) (by omega))
  have HTOP : Hid (m1 / pw n = 0) := Lib.hid (wy_top hm1)
  have HBOT : Hid (m1 / pw (n - n) = m1) := Lib.hid (by rw [Nat.sub_self, pw_zero, Nat.div_one])
  obtain ⟨r, hr⟩ : ∃ r, decide (x = y) = r := ⟨_, rfl⟩
  have HR := Lib.hid hr
  have hab : (a == b) = r := by
    rw [← hr, ha, hb, hx0, hy0]
    by_cases e : m1 = m2
    · subst e
      simp
    · have e1 : ((m1 : Int) == (m2 : Int)) = false := by rw [beq_eq_false_iff_ne]; omega
      rw [e1]
      symm
      apply decide_eq_false
      exact fun h => e (wy_inj hm1 hm2 h)
  clear hx0 hy0 hxn hyn hd ha hb hr
  go_enter Try.func4, Try.ntmps4
  go_wp2_with (first
    | (go_at_call 9; refine (awake_any _).mono ?_; rintro e w1 ⟨rfl, hB1⟩; have HB1 := Lib.hid hB1; clear hB1)
    | (go_at_call_of 16 (Value.int IntKind.i64 a); refine (way_any d a _).mono ?_; rintro e w2 ⟨A2, c2, rfl, hO2, hB2⟩
       rw [HX.out] at hO2
       rw [HX.out]
       have HO2 := Lib.hid hO2
       have HB2 := Lib.hid (below_nxt hB2 HB1.out)
       clear hO2 hB2)
    | (go_at_call_of 16 (Value.int IntKind.i64 b); refine (way_any d b _).mono ?_; rintro e w3 ⟨A3, c3, rfl, hO3, hB3⟩
       rw [HY.out] at hO3
       rw [HY.out]
       have HO2 := Lib.hid (HO2.out.kept hB3)
       have HO3 := Lib.hid hO3
       have HB3 := Lib.hid (below_nxt hB3 HB2.out)
       clear hO3 hB3)
    | (go_at_call_of 18 (Value.int IntKind.i64 a); refine (rway_any d a _).mono ?_; rintro e w4 ⟨A4, c4, rfl, hO4, hB4⟩
       rw [HX.out] at hO4
       rw [HX.out]
       have HO2 := Lib.hid (HO2.out.kept hB4)
       have HO3 := Lib.hid (HO3.out.kept hB4)
       have HO4 := Lib.hid hO4
       have HB4 := Lib.hid (below_nxt hB4 HB3.out)
       clear hO4 hB4)
    | (go_at_call_of 17 (Value.slice A4 x.length c4); refine (ints_same A2 A4 c2 c4 x w4 HO2.out.hol HO4.out.hol (by omega)).mono ?_; rintro e w5 ⟨rfl, hB5⟩
       have HO2 := Lib.hid (HO2.out.kept hB5)
       have HO3 := Lib.hid (HO3.out.kept hB5)
       have HB5 := Lib.hid (below_nxt hB5 HB4.out)
       clear hB5)
    | (go_at_call_of 18 (Value.int IntKind.i64 b); refine (rway_any d b _).mono ?_; rintro e w6 ⟨A6, c6, rfl, hO6, hB6⟩
       rw [HY.out] at hO6
       rw [HY.out]
       have HO2 := Lib.hid (HO2.out.kept hB6)
       have HO3 := Lib.hid (HO3.out.kept hB6)
       have HO6 := Lib.hid hO6
       have HB6 := Lib.hid (below_nxt hB6 HB5.out)
       clear hO6 hB6)
    | (go_at_call_of 17 (Value.slice A6 y.length c6); refine (ints_same A3 A6 c3 c6 y w6 HO3.out.hol HO6.out.hol (by omega)).mono ?_; rintro e w7 ⟨rfl, hB7⟩
       have HO2 := Lib.hid (HO2.out.kept hB7)
       have HO3 := Lib.hid (HO3.out.kept hB7)
       have HB7 := Lib.hid (below_nxt hB7 HB6.out)
       clear hB7))
  go_loopw [9, 10] (fun t i wr => ∃ k s : Nat, k ≤ x.length ∧ i = .int .i64 k ∧ t = .int .i64 (s : Int) ∧ Hid (s = m1 / pw (n - k)) ∧ wr = w7) (fun _ i _ => x.length - (intOf i).toNat)
  case atStart => exact ⟨0, 0, Nat.zero_le _, rfl, rfl, Lib.hid (by rw [Nat.sub_zero, HTOP.out]), rfl⟩
  case round =>
    obtain ⟨k, s, hk, rfl, rfl, HS, rfl⟩ := hrel
    by_cases hlt : k < x.length
    · obtain ⟨q, s', r', hq, hs', hr', hst, hr256⟩ := HSTEP.out k (by have := HXN.out; omega)
      obtain rfl : s = s' := by rw [HS.out, hs']
      have HR' := Lib.hid hr'
      obtain ⟨g, o, rfl, hg, hc⟩ := HO2.out.hol.at_ hlt
      have hxq : x[k] = (q : Int) := by
        rw [List.getElem?_eq_getElem hlt] at hq
        injection hq
      rw [hxq] at hc
      have hs0 : (0 : Int) ≤ (s : Int) := by omega
      have hs1 : (s : Int) ≤ 256 := by omega
      have hq0 : (0 : Int) ≤ (q : Int) := by omega
      have hq1 : (q : Int) ≤ 256 := by omega
      have HE := Lib.hid (p := 4 * (s : Int) + (q : Int) = (r' : Int)) (by omega)
      clear hq hs' hr' hst hxq
      go_wp2
      go_roundw
      case rel => exact ⟨k + 1, r', by omega, by go_num, by rw [← HE.out], HR', by first | rfl | trivial⟩
      case measure => simp [intOf]; omega
    · obtain rfl : k = x.length := by omega
      have hsa : (s : Int) = a := by
        have h1 := HS.out
        rw [HXN.out, HBOT.out] at h1
        rw [HA.out, h1]
      have hsa' : ((s : Int) == a) = true := by rw [hsa]; simp
      clear hsa
      go_wp2_with (first
        | (go_at_call 17; refine (ints_other A2 A3 c2 c3 x y r _ HO2.out.hol HO3.out.hol (by omega) (by omega) HR.out).mono ?_; rintro e w8 ⟨rfl, hB8⟩
           have HB8 := Lib.hid (below_nxt hB8 HB7.out)
           clear hB8))
      go_ret
      exact ⟨by simp, HB8.out⟩
theorem ways_any (d a b : Int) (w : World) : Calls Try.prog 4 #[.int .i64 d, .int .i64 a, .int .i64 b] w fun e w' => e = .returned (.bool true) ∧ Below w.heap.size w w' := by
  rcases way_cases d a with ⟨n, m1, e1, e2, h1, h4, hm1⟩ | h
  · rcases way_cases d b with ⟨n', m2, e3, e4, h1', h4', hm2⟩ | h'
    · obtain rfl : n = n' := by omega
      exact ways_in n m1 m2 _ _ d a b e1 e2 e4 w h1 h4 hm1 hm2 rfl rfl
    · exact ways_none d a b _ [] w rfl (wayL_out h') (.inr rfl)
  · exact ways_none d a b [] _ w (wayL_out h) rfl (.inl rfl)
end Go.Proofs.Ytpkmbgbglefcfaa
