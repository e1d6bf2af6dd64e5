/- The law VeilMasks, walked: for every bytes, nonce and length it returns true. Conditions: those on how the arguments lie. -/
import Derived.Test.YtecojmafnonkiaaCalls
import Derived.Test.YtecojmafnonkiaaNewV
import Derived.Test.YtecojmafnonkiaaRKey
set_option linter.unusedVariables false
namespace Go.Proofs.Ytecojmafnonkiaa
open Go.RowKit

theorem key_call (A : Option Addr) (c : Nat) (l : List UInt8) (hl : l.length = 32) (e s n : Nat) (he : e < 4294967296) (hs : s < 4294967296) (hn : n ≤ 4096) (w : World) (hA : Hol w A l) :
    Calls Try.prog 12 #[.slice A l.length c, .int .u32 (e : Int), .int .u32 (s : Int), .int .i64 (n : Int)] w fun x w' => ∃ A' c', x = .returned (.slice A' n c') ∧ Hid (Hol w' A' (lst n (mk (kx (byl l)) e s))) ∧ Below w.heap.size w w' := by
  refine (rkey_any A c l hl e s n he hs (Nat.le_trans hn (by omega)) w hA).mono ?_
  rintro x w' ⟨v, rfl, hown, hbel⟩
  rw [lst_bc] at hown
  obtain ⟨_, A', c', rfl, _, _, h3⟩ := own_form hown
  exact ⟨A', c', by rw [lst_len], h3, hbel⟩

set_option maxRecDepth 20000 in
set_option maxHeartbeats 2000000 in
theorem masks_any (A : Option Addr) (c : Nat) (l : List UInt8) (e s : Nat) (he : e < 4294967296) (hs : s < 4294967296) (z : Int) (w : World) (hA : Hol w A l) :
    Calls Try.prog 3 #[.slice A l.length c, .agg #[.int .u32 (e : Int), .int .u32 (s : Int)], .int .i64 z] w fun x w' => x = .returned (.bool true) ∧ Below w.heap.size w w' := by
  have HE := Lib.hid he
  have HS := Lib.hid hs
  have H0 := Lib.hid hA
  clear he hs hA
  by_cases hbig : (65536 : Int) < (l.length : Int)
  · go_enter Try.func3, Try.ntmps3
    go_wp2_with (first
      | (refine step_box rfl 4 rfl 25 _ rfl [Value.int .u32 (e : Int), .int .u32 (s : Int)] rfl ?_; intro g3 w3 hr3 hg3 hb3 hs3)
      | (go_at_call 8; refine (awake_any _).mono ?_; rintro x w1 ⟨rfl, hb1⟩))
    go_ret
    exact ⟨rfl, hb3.trans (hb1.mono hb3.size)⟩
  by_cases hl : l.length = 32
  · have hl' : (l.length : Int) = 32 := by omega
    have HL := Lib.hid hl
    clear hl hbig
    by_cases hz : z < 0 ∨ 4096 < z
    · have HZ := Lib.hid hz
      have hzz : (decide (z < 0) || decide (4096 < z)) = true := by simp; exact hz
      clear hz
      go_enter Try.func3, Try.ntmps3
      go_wp2_with (first
        | (refine step_box rfl 4 rfl 25 _ rfl [Value.int .u32 (e : Int), .int .u32 (s : Int)] rfl ?_; intro g3 w3 hr3 hg3 hb3 hs3)
        | (go_at_call 8; refine (awake_any _).mono ?_; rintro x w1 ⟨rfl, hb1⟩)
        | (go_at_call 9; refine (vnew_any A c l HL.out _ (H0.out.below (below_next hb1 hb3))).mono ?_; rintro x w2 ⟨g2, rfl, hM2, hb2⟩
           have hr2 := (hr3.kept hb1).kept hb2
           have c0 := hr2.cell 0
           have c1 := hr2.cell 1
           simp at c0 c1)
        | (go_at_call 10; refine (mask_far _ e s z HZ.out _).mono ?_; rintro x w4 ⟨rfl, rfl⟩))
      all_goals
        go_ret
        exact ⟨rfl, below_next hb2 (below_next hb1 hb3)⟩
    · obtain ⟨n, rfl⟩ := Int.eq_ofNat_of_zero_le (by omega : 0 ≤ z)
      have z0 : ¬ (n : Int) < 0 := by omega
      have z1 : ¬ (4096 : Int) < (n : Int) := by omega
      have HN := Lib.hid (p := n ≤ 4096) (by omega)
      clear hz
      go_enter Try.func3, Try.ntmps3
      go_wp2_with (first
        | (refine step_box rfl 4 rfl 25 _ rfl [Value.int .u32 (e : Int), .int .u32 (s : Int)] rfl ?_; intro g3 w3 hr3 hg3 hb3 hs3)
        | (go_at_call 8; refine (awake_any _).mono ?_; rintro x w1 ⟨rfl, hb1⟩)
        | (go_at_call 9; refine (vnew_any A c l HL.out _ (H0.out.below (below_next hb1 hb3))).mono ?_; rintro x w2 ⟨g2, rfl, hM2, hb2⟩
           have hr2 := (hr3.kept hb1).kept hb2
           have c0 := hr2.cell 0
           have c1 := hr2.cell 1
           simp at c0 c1)
        | (go_at_call 10; refine (mask_any g2 _ e s n HE.out HS.out HN.out _ hM2).mono ?_; rintro x w4 ⟨g4, rfl, hr4, hg4, hb4⟩
           have hr24 := hr2.kept hb4
           have d0 := hr24.cell 0
           have d1 := hr24.cell 1
           simp at d0 d1)
        | (go_at_call 12; refine (key_call A c l HL.out e s n HE.out HS.out HN.out _ (H0.out.below (below_next hb4 (below_next hb2 (below_next hb1 hb3))))).mono ?_; rintro x w5 ⟨A5, c5, rfl, hH5, hb5⟩)
        | (go_at_call 11; refine (bytes_call (some ⟨g4, 0, none⟩) A5 n c5 n n _ _ (lst_len _ _).symm (lst_len _ _).symm _ (hr4.kept hb5).hol hH5.out (by rw [lst_len]; exact Nat.le_trans HN.out (by omega)) (by rw [lst_len]; exact Nat.le_trans HN.out (by omega))).mono ?_; rintro x w6 ⟨rfl, hb6⟩))
      go_ret
      exact ⟨by simp, below_next hb6 (below_next hb5 (below_next hb4 (below_next hb2 (below_next hb1 hb3))))⟩
  · have hl' : ¬ (l.length : Int) = 32 := by omega
    have HL := Lib.hid hl
    clear hl
    go_enter Try.func3, Try.ntmps3
    go_wp2_with (first
      | (refine step_box rfl 4 rfl 25 _ rfl [Value.int .u32 (e : Int), .int .u32 (s : Int)] rfl ?_; intro g3 w3 hr3 hg3 hb3 hs3)
      | (go_at_call 8; refine (awake_any _).mono ?_; rintro x w1 ⟨rfl, hb1⟩)
      | (go_at_call 9; refine (vnew_bad A l.length c HL.out _).mono ?_; rintro x w2 ⟨rfl, hb2⟩))
    go_ret
    exact ⟨rfl, below_next hb2 (below_next hb1 hb3)⟩
end Go.Proofs.Ytecojmafnonkiaa
