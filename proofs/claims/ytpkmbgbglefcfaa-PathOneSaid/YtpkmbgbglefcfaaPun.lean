/- The walk of the law PathOne. Conditions: those named. -/
import Derived.Test.YtpkmbgbglefcfaaPk
import Derived.Test.YtpkmbgbglefcfaaPb
set_option linter.unusedVariables false
namespace Go.Proofs.Ytpkmbgbglefcfaa
open Go.RowKit

theorem ordL_one (x : Int) : ordL [x] = [x] := by simp [ordL, Lib.compact, Lib.compactUpTo, Lib.keeps]
theorem pl_one {S s : Nat} (h : s < S) : ∀ k, pl S [(s : Int)] k = [((s / pw k : Nat) : Int)]
  | 0 => by
    have e : (decide (0 ≤ (s : Int)) && decide ((s : Int) < (S : Int))) = true := by simp; omega
    simp [pl, thr, pw_zero, e]
    omega
  | k + 1 => by
    rw [show pl S [(s : Int)] (k + 1) = ordL ((pl S [(s : Int)] k).map (· / 4)) from rfl, pl_one h k, List.map_cons, List.map_nil, ordL_one, pw_succ, ← Nat.div_div_eq_div_mul]
    rfl
/-- The nodes above one slot. -/
def oneL (n s r : Nat) : List (Int × Int) := (List.range r).map fun p => (((n - 1 - p : Nat) : Int), ((s / pw (p + 1) : Nat) : Int))
theorem abv_one {n s : Nat} (h : s < pw n) : ∀ r, abv n [(s : Int)] r = oneL n s r
  | 0 => rfl
  | r + 1 => by
    rw [abv_succ, abv_one h r, pl_one h]
    unfold oneL
    rw [List.range_succ, List.map_append]
    rfl
theorem oneL_len (n s r : Nat) : (oneL n s r).length = r := by simp [oneL]
theorem oneL_get {n s r p : Nat} (h : p < r) : (oneL n s r)[p]? = some (((n - 1 - p : Nat) : Int), ((s / pw (p + 1) : Nat) : Int)) := by simp [oneL, h]
set_option maxRecDepth 20000 in
set_option maxHeartbeats 2000000 in
theorem one_any (u v : Nat) (hu : u < 256) (hv : v < 256) (w : World) : Calls Try.prog 6 #[.int .u8 (u : Int), .int .u8 (v : Int)] w fun e w' => e = .returned (.bool true) ∧ Below w.heap.size w w' := by
  obtain ⟨n, hn⟩ : ∃ n, 1 + u % 4 = n := ⟨_, rfl⟩
  have h1 : 1 ≤ n := by omega
  have h4 : n ≤ 4 := by omega
  have hni : 1 + (u : Int) % 4 = (n : Int) := by omega
  obtain ⟨s, hs⟩ : ∃ s, v % pw n = s := ⟨_, rfl⟩
  have hp := pw_pos n
  have hsl : s < pw n := by rw [← hs]; exact Nat.mod_lt _ (by omega)
  have hsi : (v : Int) % (pw n : Int) = (s : Int) := by rw [← hs]; rfl
  have hp0 : (0 : Int) ≤ (pw n : Int) := by omega
  have hp1 : (1 : Int) ≤ (pw n : Int) := by omega
  have HS := Lib.hid (sl_of h1 h4)
  have hsx : s ≤ 256 := by have := pw_le h4; omega
  obtain ⟨L, hL⟩ : ∃ L, oneL n s n = L := ⟨_, rfl⟩
  have HAB : Hid (aboveL (n : Int) [(s : Int)] = L) := Lib.hid (by rw [aboveL_in h1 h4, abv_one hsl, hL])
  have HLL : Hid (L.length = n) := Lib.hid (by rw [← hL, oneL_len])
  obtain ⟨r, hr⟩ : ∃ r, n - 1 = r := ⟨_, rfl⟩
  have hri : (n : Int) - 1 = (r : Int) := by omega
  have hrn : r < n := by omega
  have HE : Hid (L[r]? = some ((0 : Int), (0 : Int))) := Lib.hid (by
    rw [← hL, oneL_get hrn]
    have e1 : n - 1 - r = 0 := by omega
    have e2 : s / pw (r + 1) = 0 := by rw [show r + 1 = n by omega]; exact Nat.div_eq_of_lt hsl
    rw [e1, e2]
    rfl)
  have HB0 : Hid (L[0]? = some ((r : Int), (s : Int) / 4)) := Lib.hid (by
    rw [← hL, oneL_get (by omega), show n - 1 - 0 = r by omega]
    rfl)
  have HSTEP : Hid (∀ k, k < r → ∃ a b c : Nat, L[k]? = some ((a : Int), (b : Int)) ∧ L[k + 1]? = some ((c : Int), (b : Int) / 4) ∧ c + 1 = a ∧ a ≤ 4 ∧ b ≤ 256) := Lib.hid (by
    intro k hk
    refine ⟨n - 1 - k, s / pw (k + 1), n - 1 - (k + 1), by rw [← hL]; exact oneL_get (by omega), ?_, by omega, by omega, Nat.le_trans (Nat.div_le_self _ _) hsx⟩
    rw [← hL, oneL_get (by omega), pw_succ (k + 1), ← Nat.div_div_eq_div_mul]
    rfl)
  have hs0 : (0 : Int) ≤ (s : Int) := by omega
  have hs1 : (s : Int) ≤ 256 := by omega
  clear hn hs hr hL hsl
  go_enter Try.func6, Try.ntmps6
  go_wp2_with (first
    | (go_at_call 9; refine (awake_any _).mono ?_; rintro e w1 ⟨rfl, hB1⟩; have HB1 := Lib.hid hB1; clear hB1)
    | (go_at_call 12; refine (rslots_any _ _).mono ?_; rintro e w' ⟨rfl, rfl⟩; rw [HS.out])
    | (go_at_call 19; refine (above_any (n : Int) (some ⟨w1.heap.size, 0, none⟩) 1 [(s : Int)] _ (.inr ⟨_, 0, rfl, fun j z hz => by
         match j, hz with
         | 0, hz =>
           simp at hz
           subst hz
           simp⟩) (by simp)).mono ?_; rintro e w2 ⟨A, c, rfl, hO2, hB2⟩
       rw [HAB.out, HLL.out] at hO2
       rw [HAB.out, HLL.out]
       obtain ⟨g, rfl, hg, hc1, hc2⟩ := hO2.hol.at_ HE.out
       obtain ⟨g', e', hg', hc3, hc4⟩ := hO2.hol.at_ HB0.out
       injection e' with e'
       injection e' with e'
       subst e'
       have hc5 : w2.cell? ⟨g, 1, none⟩ = some (.int .i64 ((s : Int) / 4)) := hc4
       have HO2 := Lib.hid hO2.hol
       have HB2 := Lib.hid (below_nxt (below_nxt hB2 (below_al _ _)) HB1.out)
       clear hO2 hB2 hc3 hc4 hg hg'))
  go_loopw [8] (fun i wr => ∃ k : Nat, 1 ≤ k ∧ k ≤ n ∧ i = .int .i64 k ∧ ∃ q, wr = w2.drewN q) (fun i _ => n - (intOf i).toNat)
  case atStart => exact ⟨1, Nat.le_refl _, h1, rfl, 0, rfl⟩
  case round =>
    obtain ⟨k, hk1, hk, rfl, q, rfl⟩ := hrel
    by_cases hlt : k < n
    · obtain ⟨j, hj⟩ : ∃ j, k - 1 = j := ⟨_, rfl⟩
      have hji : (k : Int) - 1 = (j : Int) := by omega
      obtain ⟨a, b, d, hx, hy, hda, ha4, hb⟩ := HSTEP.out j (by omega)
      rw [show j + 1 = k by omega] at hy
      obtain ⟨g1, e1, hg1, hx1, hx2⟩ := HO2.out.at_ hx
      obtain ⟨g2, e2, hg2, hy1, hy2⟩ := HO2.out.at_ hy
      injection e1 with e1
      injection e1 with e1
      injection e2 with e2
      injection e2 with e2
      subst e1 e2
      have hwj : IntKind.i64.wrap ((k : Int) - 1) = (j : Int) := by rw [IntKind.wrap_i64]; omega
      have hwa : IntKind.i64.wrap ((a : Int) - 1) = (a : Int) - 1 := by rw [IntKind.wrap_i64]; omega
      have hwb : IntKind.i64.wrap ((b : Int) / 4) = (b : Int) / 4 := by rw [IntKind.wrap_i64]; omega
      have hn1 : ((d : Int) != (a : Int) - 1) = false := by rw [bne_eq_false_iff_eq]; omega
      have hn2 : ((b : Int) / 4 != (b : Int) / 4) = false := by rw [bne_eq_false_iff_eq]
      have ha0 : (0 : Int) ≤ (a : Int) := by omega
      have hb0 : (0 : Int) ≤ (b : Int) := by omega
      have hb1 : (b : Int) ≤ 256 := by omega
      have hjk : j < n := by omega
      clear hx hy hj hc1 hc2 hc5
      go_wp2_with fail
      go_quiet (fail)
      go_wp2
      go_roundw
      case rel => exact ⟨k + 1, by omega, by omega, by go_num, _, rfl⟩
      case measure => simp [intOf]; omega
    · obtain rfl : k = n := by omega
      go_wp2
      go_ret
      exact ⟨rfl, below_drewN HB2.out _⟩
end Go.Proofs.Ytpkmbgbglefcfaa
