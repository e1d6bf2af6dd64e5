/- The walk of the law PathUnion. Conditions: those named. -/
import Derived.Test.YtpkmbgbglefcfaaPk
import Derived.Test.YtpkmbgbglefcfaaPe
import Derived.Test.YtpkmbgbglefcfaaPb
import Derived.Test.YtpkmbgbglefcfaaPux
import Derived.Test.YtpkmbgbglefcfaaPan
set_option linter.unusedVariables false
namespace Go.Proofs.Ytpkmbgbglefcfaa
open Go.RowKit

def bi (b : Bool) (v : Int) : Int := if b then v else 0
set_option maxRecDepth 20000 in
set_option maxHeartbeats 2000000 in
theorem union_in (u n : Nat) (A B : Option Addr) (c d : Nat) (a b : List Int) (w : World) (hA : HolI w A a) (hN : NilI A a) (hB : HolI w B b) (hM : NilI B b) (ha : a.length ≤ 100) (hb : b.length ≤ 100) (hni : 1 + (u : Int) % 4 = (n : Int)) (h1 : 1 ≤ n) (h4 : n ≤ 4) :
    Calls Try.prog 7 #[.int .u8 (u : Int), .slice A a.length c, .slice B b.length d] w fun e w' => e = .returned (.bool true) ∧ Below w.heap.size w w' := by
  obtain ⟨x, hx⟩ : ∃ x, aboveL (n : Int) a = x := ⟨_, rfl⟩
  obtain ⟨y, hy⟩ : ∃ y, aboveL (n : Int) b = y := ⟨_, rfl⟩
  obtain ⟨z, hz⟩ : ∃ z, aboveL (n : Int) (a ++ b) = z := ⟨_, rfl⟩
  have HX := Lib.hid hx
  have HY := Lib.hid hy
  have HZ := Lib.hid hz
  have hxl : x.length ≤ 400 := by rw [← hx]; have := aboveL_len (n : Int) a; omega
  have hyl : y.length ≤ 400 := by rw [← hy]; have := aboveL_len (n : Int) b; omega
  have hzl : z.length ≤ 800 := by rw [← hz]; have := aboveL_len (n : Int) (a ++ b); rw [List.length_append] at this; omega
  rw [aboveL_in h1 h4] at hx hy hz
  have HIN : Hid (∀ s, s ∈ z → s ∈ x ∨ s ∈ y) := Lib.hid (fun s hs => by rw [← hz] at hs; rw [← hx, ← hy]; exact abv_app.1 hs)
  have HCX : Hid (cnt z x = x.length) := Lib.hid (by unfold cnt; rw [← hz, ← hx, abv_part (fun s hs => abv_app.2 (.inl hs))])
  have HCY : Hid (cnt z y = y.length) := Lib.hid (by unfold cnt; rw [← hz, ← hy, abv_part (fun s hs => abv_app.2 (.inr hs))])
  clear hx hy hz
  have HA := Lib.hid hA
  have HB := Lib.hid hB
  have HNA := Lib.hid hN
  have HNB := Lib.hid hM
  have hga : ¬ (100 : Int) < (a.length : Int) := by omega
  have hgb : ¬ (100 : Int) < (b.length : Int) := by omega
  clear hA hB hN hM
  go_enter Try.func7, Try.ntmps7
  go_wp2_with (first
    | (go_at_call 9; refine (awake_any _).mono ?_; rintro e w1 ⟨rfl, hB1⟩
       have HA1 := Lib.hid (HA.out.below hB1)
       have HB1 := Lib.hid (HB.out.below hB1)
       have HW1 := Lib.hid hB1
       clear hB1)
    | (go_at_call_of 19 (Value.slice A a.length c); refine (above_any (n : Int) A c a _ HA1.out (by omega)).mono ?_; rintro e w2 ⟨A2, c2, rfl, hO2, hB2⟩
       rw [HX.out] at hO2
       rw [HX.out]
       have HX2 := Lib.hid hO2.hol
       have HA2 := Lib.hid (HA1.out.below hB2)
       have HB2 := Lib.hid (HB1.out.below hB2)
       have HW2 := Lib.hid (below_nxt hB2 HW1.out)
       clear hO2 hB2)
    | (go_at_call_of 19 (Value.slice B b.length d); refine (above_any (n : Int) B d b _ HB2.out (by omega)).mono ?_; rintro e w3 ⟨A3, c3, rfl, hO3, hB3⟩
       rw [HY.out] at hO3
       rw [HY.out]
       have HX3 := Lib.hid (HX2.out.below hB3)
       have HY3 := Lib.hid hO3.hol
       have HA3 := Lib.hid (HA2.out.below hB3)
       have HB3 := Lib.hid (HB2.out.below hB3)
       have HW3 := Lib.hid (below_nxt hB3 HW2.out)
       clear hO3 hB3)
    | (at_builtin; (refine wp_join rfl (.tmp 37) (.tmp 38) rfl rec_int w3.heap.size (.slice (some ⟨w3.heap.size, 0, none⟩) 0 0) 0 [] rfl (void_own w3 3 1 _ (Nat.le_refl _)) A a.length c (ic a) rfl (by rw [ic_len, Nat.mul_one]) ((HA3.out.below (below_al w3 _)).src HNA.out) (ic_one _) (by omega) (below_al w3 _).size ?_)
       intro v4 w4 hr4 hg4 hat4
       rw [List.nil_append, Nat.zero_add] at hr4
       obtain ⟨A4, c4, rfl⟩ := own_sl hr4
       have hB4 : Below w3.heap.size w3 w4 := (below_al w3 _).grown hg4 (below_al w3 (.cells #[] 3)).size (fun q hq => by have h0 : some w3.heap.size = some q := hq; injection h0 with h0; omega)
       have HO4 : Hid (OwnI w3.heap.size w4 A4 a.length c4 a) := Lib.hid hr4
       have HX4 := Lib.hid (HX3.out.below hB4)
       have HY4 := Lib.hid (HY3.out.below hB4)
       have HB4 := Lib.hid (HB3.out.below hB4)
       have HV4 := Lib.hid hB4
       have HW4 := Lib.hid (below_nxt hB4 HW3.out)
       clear hr4 hg4 hat4 hB4)
    | (at_builtin; (refine wp_join rfl (.tmp 39) (.tmp 40) rfl rec_int w3.heap.size (.slice A4 a.length c4) a.length (ic a) rfl HO4.out B b.length d (ic b) rfl (by rw [ic_len, Nat.mul_one]) (HB4.out.src HNB.out) (ic_one _) (by omega) HV4.out.size ?_)
       intro v5 w5 hr5 hg5 hat5
       obtain ⟨A5, c5, rfl⟩ := own_sl hr5
       have hB5 : Below w3.heap.size w3 w5 := HV4.out.grown hg5 HV4.out.size (fun q hq => (HO4.out.lt q hq).1)
       have HO5 : Hid (OwnI w3.heap.size w5 A5 (a ++ b).length c5 (a ++ b)) := Lib.hid (by unfold OwnI; rw [ic_app, List.length_append]; exact hr5)
       have HX5 := Lib.hid (HX3.out.below hB5)
       have HY5 := Lib.hid (HY3.out.below hB5)
       have HW5 := Lib.hid (below_nxt hB5 HW3.out)
       clear hr5 hg5 hat5 hB5)
    | (go_at_call_of 19 (Value.slice A5 (a.length + b.length) c5); have hcall := above_any (n : Int) A5 c5 (a ++ b) w5 HO5.out.hol (by rw [List.length_append]; omega); rw [List.length_append] at hcall; refine hcall.mono ?_; clear hcall; rintro e w6 ⟨A6, c6, rfl, hO6, hB6⟩
       rw [HZ.out] at hO6
       rw [HZ.out]
       have HX6 := Lib.hid (HX5.out.below hB6)
       have HY6 := Lib.hid (HY5.out.below hB6)
       have HZ6 := Lib.hid hO6.hol
       have HW6 := Lib.hid (below_nxt hB6 HW5.out)
       clear hO6 hB6))
  have hzz : (z.length : Int) ≤ 800 := by omega
  go_loopw [11, 12] (fun m i wr => ∃ k : Nat, k ≤ z.length ∧ i = .int .i64 k ∧ (∃ t : Nat, m = .int .i64 (t : Int) ∧ Hid (t = cnt (z.take k) x + cnt (z.take k) y)) ∧ ∃ q, wr = w6.drewN q) (fun _ i _ => z.length - (intOf i).toNat)
  case atStart => exact ⟨0, Nat.zero_le _, rfl, ⟨0, rfl, Lib.hid (by rw [List.take_zero]; rfl)⟩, 0, rfl⟩
  case round =>
    obtain ⟨k, hk, rfl, ⟨t, rfl, HT⟩, q, rfl⟩ := hrel
    by_cases hlt : k < z.length
    · obtain ⟨⟨s1, s2⟩, hs⟩ : ∃ s, z[k] = s := ⟨_, rfl⟩
      have hsz : z[k]? = some (s1, s2) := by rw [List.getElem?_eq_getElem hlt, hs]
      obtain ⟨gz, rfl, hgz, hz1, hz2⟩ := HZ6.out.at_ hsz
      have hts := List.take_succ_eq_append_getElem hlt
      rw [hs] at hts
      have HIS : Hid ((s1, s2) ∈ x ∨ (s1, s2) ∈ y) := Lib.hid (HIN.out _ (by rw [← hs]; exact List.getElem_mem hlt))
      have htb : t ≤ 1600 := by
        rw [HT.out]
        have e1 := cnt_le (z.take k) x
        have e2 := cnt_le (z.take k) y
        have e3 := List.length_take_le k z
        omega
      have HT2 : Hid (∀ b1 b2 : Bool, decide ((s1, s2) ∈ x) = b1 → decide ((s1, s2) ∈ y) = b2 → t + (if b1 then 1 else 0) + (if b2 then 1 else 0) = cnt (z.take (k + 1)) x + cnt (z.take (k + 1)) y) := Lib.hid (by
        intro b1 b2 e1 e2
        rw [hts, cnt_snoc, cnt_snoc, HT.out]
        have f1 : (if (s1, s2) ∈ x then 1 else 0) = (if b1 then 1 else 0) := by
          subst e1
          by_cases h : (s1, s2) ∈ x <;> simp [h]
        have f2 : (if (s1, s2) ∈ y then 1 else 0) = (if b2 then 1 else 0) := by
          subst e2
          by_cases h : (s1, s2) ∈ y <;> simp [h]
        rw [f1, f2]
        omega)
      have hG := spot_guard
      clear hs hsz hts
      go_wp2
      go_loopw [13, 14] (fun v i wr => ∃ j : Nat, j ≤ x.length ∧ i = .int .i64 j ∧ v = .int .i64 (bi (decide ((s1, s2) ∈ x.take j)) 1) ∧ ∃ q, wr = w6.drewN q) (fun _ i _ => x.length - (intOf i).toNat)
      case atStart => exact ⟨0, Nat.zero_le _, rfl, by simp [bi], q, rfl⟩
      case round =>
        obtain ⟨j, hj, rfl, rfl, q, rfl⟩ := hrel
        by_cases hjl : j < x.length
        · obtain ⟨⟨x1, x2⟩, hxe⟩ : ∃ s, x[j] = s := ⟨_, rfl⟩
          have hxz : x[j]? = some (x1, x2) := by rw [List.getElem?_eq_getElem hjl, hxe]
          obtain ⟨gx, rfl, hgx, hx1, hx2⟩ := HX6.out.at_ hxz
          have hms := mem_take_snoc (s := (s1, s2)) hxz
          obtain ⟨e0, he0⟩ : ∃ e0, decide ((s1, s2) ∈ x.take j) = e0 := ⟨_, rfl⟩
          rw [he0] at hms ⊢
          clear hxe hxz he0
          by_cases hxs : (x1, x2) = (s1, s2)
          · have HN : Hid (decide ((s1, s2) ∈ x.take (j + 1)) = true) := Lib.hid (by rw [hms, decide_eq_true hxs, Bool.or_true])
            have hE := eq_spot x1 x2 s1 s2 true (by simp only [Prod.mk.injEq] at hxs; rw [hxs.1, hxs.2]; simp)
            clear hms hxs
            cases e0
            · have hor : bits .or .i64 0 1 = 1 := by decide
              rw [show bi false 1 = 0 from rfl]
              go_wp2_with fail
              go_quiet (fail)
              go_wp2
              go_roundw
              case rel => exact ⟨j + 1, by omega, by go_num, by rw [HN.out]; rfl, _, rfl⟩
              case measure => simp [intOf]; omega
            · have hor : bits .or .i64 1 1 = 1 := by decide
              rw [show bi true 1 = 1 from rfl]
              go_wp2_with fail
              go_quiet (fail)
              go_wp2
              go_roundw
              case rel => exact ⟨j + 1, by omega, by go_num, by rw [HN.out]; rfl, _, rfl⟩
              case measure => simp [intOf]; omega
          · have HN : Hid (decide ((s1, s2) ∈ x.take (j + 1)) = e0) := Lib.hid (by rw [hms, decide_eq_false hxs, Bool.or_false])
            have hE := eq_spot x1 x2 s1 s2 false (by
              cases h : (x1 == s1 && x2 == s2)
              · rfl
              · simp at h
                exact absurd (by rw [h.1, h.2]) hxs)
            clear hms hxs
            go_wp2_with fail
            go_quiet (fail)
            go_wp2
            go_roundw
            case rel => exact ⟨j + 1, by omega, by go_num, by rw [HN.out], _, rfl⟩
            case measure => simp [intOf]; omega
        · obtain rfl : j = x.length := by omega
          rw [List.take_length]
          obtain ⟨e1, he1⟩ : ∃ e1, decide ((s1, s2) ∈ x) = e1 := ⟨_, rfl⟩
          rw [he1]
          have HE1 := Lib.hid he1
          clear he1
          obtain ⟨v1, hv1⟩ : ∃ v1, bi e1 1 = v1 := ⟨_, rfl⟩
          have HV1 : Hid ((e1 = false ∧ v1 = 0) ∨ (e1 = true ∧ v1 = 1)) := Lib.hid (by cases e1 <;> simp [bi] at hv1 <;> simp [hv1])
          rw [hv1]
          clear hv1
          go_wp2
          go_loopw [13, 15] (fun v i wr => ∃ j : Nat, j ≤ y.length ∧ i = .int .i64 j ∧ v = .int .i64 (v1 + bi (decide ((s1, s2) ∈ y.take j)) 2) ∧ ∃ q, wr = w6.drewN q) (fun _ i _ => y.length - (intOf i).toNat)
          case atStart => exact ⟨0, Nat.zero_le _, rfl, by simp [bi], q, rfl⟩
          case round =>
            obtain ⟨j, hj, rfl, rfl, q, rfl⟩ := hrel
            by_cases hjl : j < y.length
            · obtain ⟨⟨x1, x2⟩, hxe⟩ : ∃ s, y[j] = s := ⟨_, rfl⟩
              have hxz : y[j]? = some (x1, x2) := by rw [List.getElem?_eq_getElem hjl, hxe]
              obtain ⟨gx, rfl, hgx, hx1, hx2⟩ := HY6.out.at_ hxz
              have hms := mem_take_snoc (s := (s1, s2)) hxz
              obtain ⟨e0, he0⟩ : ∃ e0, decide ((s1, s2) ∈ y.take j) = e0 := ⟨_, rfl⟩
              rw [he0] at hms ⊢
              clear hxe hxz he0
              by_cases hxs : (x1, x2) = (s1, s2)
              · have HN : Hid (decide ((s1, s2) ∈ y.take (j + 1)) = true) := Lib.hid (by rw [hms, decide_eq_true hxs, Bool.or_true])
                have hE := eq_spot x1 x2 s1 s2 true (by simp only [Prod.mk.injEq] at hxs; rw [hxs.1, hxs.2]; simp)
                clear hms hxs
                obtain ⟨v0, hv0⟩ : ∃ v0, v1 + bi e0 2 = v0 := ⟨_, rfl⟩
                have hor : bits .or .i64 v0 2 = v1 + 2 := by
                  rcases HV1.out with ⟨_, e⟩ | ⟨_, e⟩ <;> cases e0 <;> subst e <;> subst hv0 <;> decide
                rw [hv0]
                have hv2 : (0 : Int) ≤ v0 ∧ v0 ≤ 3 := by
                  rcases HV1.out with ⟨_, e⟩ | ⟨_, e⟩ <;> cases e0 <;> subst e <;> subst hv0 <;> decide
                obtain ⟨hv2, hv3⟩ := hv2
                clear hv0
                go_wp2_with fail
                go_quiet (fail)
                go_wp2
                go_roundw
                case rel => exact ⟨j + 1, by omega, by go_num, by rw [HN.out]; first | rfl | (rw [hor]; rfl), _, rfl⟩
                case measure => simp [intOf]; omega
              · have HN : Hid (decide ((s1, s2) ∈ y.take (j + 1)) = e0) := Lib.hid (by rw [hms, decide_eq_false hxs, Bool.or_false])
                have hE := eq_spot x1 x2 s1 s2 false (by
                  cases h : (x1 == s1 && x2 == s2)
                  · rfl
                  · simp at h
                    exact absurd (by rw [h.1, h.2]) hxs)
                clear hms hxs
                go_wp2_with fail
                go_quiet (fail)
                go_wp2
                go_roundw
                case rel => exact ⟨j + 1, by omega, by go_num, by rw [HN.out], _, rfl⟩
                case measure => simp [intOf]; omega
            · obtain rfl : j = y.length := by omega
              rw [List.take_length]
              obtain ⟨e2, he2⟩ : ∃ e2, decide ((s1, s2) ∈ y) = e2 := ⟨_, rfl⟩
              rw [he2]
              have HK := Lib.hid (HT2.out e1 e2 HE1.out he2)
              have HOR : Hid (e1 = true ∨ e2 = true) := Lib.hid (by
                rcases HIS.out with h | h
                · left; rw [← HE1.out]; exact decide_eq_true h
                · right; rw [← he2]; exact decide_eq_true h)
              clear he2 HT HT2
              rcases HV1.out with ⟨rfl, rfl⟩ | ⟨rfl, rfl⟩
              · cases e2
                · have := HOR.out
                  simp at this
                · rw [show (0 : Int) + bi true 2 = 2 from rfl]
                  have hand : bits .and .i64 2 1 = 0 := by decide
                  go_wp2
                  go_roundw
                  case rel => exact ⟨k + 1, by omega, by go_num, ⟨t + 1, by go_num, Lib.hid (by rw [← HK.out]; simp)⟩, _, rfl⟩
                  case measure => simp [intOf]; omega
              · cases e2
                · rw [show (1 : Int) + bi false 2 = 1 from rfl]
                  have hand : bits .and .i64 1 1 = 1 := by decide
                  go_wp2
                  go_roundw
                  case rel => exact ⟨k + 1, by omega, by go_num, ⟨t + 1, by go_num, Lib.hid (by rw [← HK.out]; simp)⟩, _, rfl⟩
                  case measure => simp [intOf]; omega
                · rw [show (1 : Int) + bi true 2 = 3 from rfl]
                  have hand : bits .and .i64 3 1 = 1 := by decide
                  go_wp2
                  go_roundw
                  case rel => exact ⟨k + 1, by omega, by go_num, ⟨t + 1 + 1, by go_num, Lib.hid (by rw [← HK.out]; simp)⟩, _, rfl⟩
                  case measure => simp [intOf]; omega
    · obtain rfl : k = z.length := by omega
      have htx : t = x.length + y.length := by rw [HT.out, List.take_length, HCX.out, HCY.out]
      have hteq : ((t : Int) == (x.length : Int) + (y.length : Int)) = true := by rw [beq_iff_eq]; omega
      clear htx
      go_wp2
      go_ret
      exact ⟨by simp, below_drewN HW6.out _⟩
set_option maxRecDepth 20000 in
set_option maxHeartbeats 1000000 in
theorem union_any (u : Nat) (hu : u < 256) (A B : Option Addr) (c d : Nat) (a b : List Int) (w : World) (hA : HolI w A a) (hN : NilI A a) (hB : HolI w B b) (hM : NilI B b) (ha : a.length ≤ 9223372036854775807) (hb : b.length ≤ 9223372036854775807) :
    Calls Try.prog 7 #[.int .u8 (u : Int), .slice A a.length c, .slice B b.length d] w fun e w' => e = .returned (.bool true) ∧ Below w.heap.size w w' := by
  by_cases h1 : a.length ≤ 100
  · by_cases h2 : b.length ≤ 100
    · exact union_in u (1 + u % 4) A B c d a b w hA hN hB hM h1 h2 (by omega) (by omega) (by omega)
    · have hga : ¬ (100 : Int) < (a.length : Int) := by omega
      have hgb : (100 : Int) < (b.length : Int) := by omega
      clear hA hB hN hM h1 h2
      go_enter Try.func7, Try.ntmps7
      go_wp2_with (first
        | (go_at_call 9; refine (awake_any _).mono ?_; rintro e w1 ⟨rfl, hB1⟩; have HB1 := Lib.hid hB1; clear hB1))
      go_ret
      exact ⟨rfl, HB1.out⟩
  · have hga : (100 : Int) < (a.length : Int) := by omega
    clear hA hB hN hM h1
    go_enter Try.func7, Try.ntmps7
    go_wp2_with (first
      | (go_at_call 9; refine (awake_any _).mono ?_; rintro e w1 ⟨rfl, hB1⟩; have HB1 := Lib.hid hB1; clear hB1))
    go_ret
    exact ⟨rfl, HB1.out⟩
end Go.Proofs.Ytpkmbgbglefcfaa
