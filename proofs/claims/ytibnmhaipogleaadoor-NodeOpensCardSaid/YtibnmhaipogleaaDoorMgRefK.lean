/- The reference's constants. No conditions. -/
import Derived.Test.YtibnmhaipogleaaDoorRot
import Derived.Test.YtibnmhaipogleaaDoorRows2
import Derived.Test.YtibnmhaipogleaaDoorMgZeros
import Derived.Deep.AppendLies
import Derived.Test.YtibnmhaipogleaaDoorBlock
import Derived.Test.YtibnmhaipogleaaDoorSum
import Derived.Test.YtibnmhaipogleaaDoorMgRPutN
import Derived.Test.YtibnmhaipogleaaDoorDig
set_option linter.unusedVariables false
namespace Go.Proofs.YtibnmhaipogleaaDoor
open Go.RowKit

set_option maxRecDepth 20000 in
set_option maxHeartbeats 1000000 in
theorem k_any (w : World) : Calls Tryd.prog 53 #[] w fun e w' => ∃ g, e = .returned (.slice (some ⟨g, 0, none⟩) 64 64) ∧ Row w' g 22 (arr 64 kk) ∧ w.heap.size ≤ g ∧ Below w.heap.size w w' := by
  go_enter Tryd.func53, Tryd.ntmps53
  go_wp2
  go_ret
  refine ⟨w.heap.size, rfl, ?_, Nat.le_refl _, (Below.refl _ _).alloc (Nat.le_refl _) _⟩
  have key : ∀ C : Array Value, C = (arr 64 kk).toArray → Row (w.alloc (.cells C 22)) w.heap.size 22 (arr 64 kk) := by
    rintro C rfl
    exact Row.made _ _ _
  exact key _ (by kernel_rfl)
end Go.Proofs.YtibnmhaipogleaaDoor
/- The reference's padded message: for all bytes up to 2^49. No conditions. -/
set_option linter.unusedVariables false
namespace Go.Proofs.YtibnmhaipogleaaDoor
open Go.RowKit

theorem lenv_own {w : World} {base : Nat} {e : TypeId} {size n : Nat} {v : Value} {xs : List Value} (h : w.ownsRow base e size v n xs) : (match v with | .slice _ m _ => m | _ => 0) = n := by
  rcases h.2 with ⟨rfl, rfl⟩ | ⟨g, cap, cur, rfl, _⟩ <;> rfl
def lnv : Value → Nat
  | .slice _ n _ => n
  | _ => 0
theorem lnv_own {w : World} {base : Nat} {e : TypeId} {size n : Nat} {v : Value} {xs : List Value} (h : w.ownsRow base e size v n xs) : lnv v = n := by
  rcases h.2 with ⟨rfl, rfl⟩ | ⟨g, cap, cur, rfl, _⟩ <;> rfl

/-- The number that is left behind i bytes, and the byte that goes next. -/
def lft (x i : Nat) : Nat := x * 256 ^ i % 18446744073709551616
theorem lft_zero (x : Nat) (h : x < 18446744073709551616) : lft x 0 = x := by
  unfold lft
  rw [Nat.pow_zero, Nat.mul_one, Nat.mod_eq_of_lt h]
theorem lft_lt (x i : Nat) : lft x i < 18446744073709551616 := Nat.mod_lt _ (by decide)
theorem lft_succ (x i : Nat) : lft x i * 256 % 18446744073709551616 = lft x (i + 1) := by
  unfold lft
  rw [Nat.mod_mul_mod, Nat.pow_succ, Nat.mul_assoc]
theorem lft_byte (x i : Nat) (h : i < 8) : lft x i / 72057594037927936 % 256 = x / 256 ^ (7 - i) % 256 := by
  unfold lft
  have h8 : i = 0 ∨ i = 1 ∨ i = 2 ∨ i = 3 ∨ i = 4 ∨ i = 5 ∨ i = 6 ∨ i = 7 := by omega
  rcases h8 with rfl | rfl | rfl | rfl | rfl | rfl | rfl | rfl
  all_goals
    simp only [Nat.reducePow, Nat.reduceSub, Nat.mul_one, Nat.div_one]
    omega

set_option maxHeartbeats 400000 in
theorem padded_any (A : Option Addr) (c : Nat) (l : List UInt8) (w : World) (hA : Hol w A l) (hlen : l.length ≤ 70368744177664) :
    Calls Tryd.prog 54 #[.slice A l.length c] w fun e w' => ∃ v, e = .returned v ∧ w'.ownsRow w.heap.size 5 1 v (l.length + (9 + zer l.length)) (bc (l ++ padB l.length)) ∧ Below w.heap.size w w' := by
  obtain ⟨i, UT⟩ := pd_table
  obtain ⟨L, hL⟩ : ∃ L, L = l.length := ⟨_, rfl⟩
  rw [← hL] at hlen ⊢
  obtain ⟨z, hz⟩ : ∃ z, z = zer L := ⟨_, rfl⟩
  rw [← hz]
  have hz64 : z < 64 := hz ▸ zer_lt L
  have hzE : (L + 1 + z) % 64 = 56 := by rw [hz]; unfold zer; omega
  have hzN : ∀ k, k < z → (L + 1 + k) % 64 ≠ 56 := by intro k hk; rw [hz] at hk; unfold zer at hk; omega
  have HL := Lib.hid hL
  have HZ := Lib.hid hz
  have HE := Lib.hid hzE
  have HN := Lib.hid hzN
  have HA := Lib.hid hA
  clear hL hz hzE hzN hA
  have hown0 := Lib.hid (p := (w.alloc (.cells #[] 5)).ownsRow w.heap.size 5 1 (.slice (some ⟨w.heap.size, 0, none⟩) 0 0) 0 []) (World.ownsRow_made w #[] 0 (Nat.le_refl _) (by decide) rfl)
  go_enter Tryd.func54, Tryd.ntmps54
  go_wp2_with (first
    | (at_builtin; refine wpList_app _ rfl (.tmp 6) (.tmp 7) 29 rfl 5 i UT w.heap.size (.slice (some ⟨w.heap.size, 0, none⟩) 0 0) 0 [] rfl hown0.out A L c l rfl HL.out (HA.out.below ((Below.refl _ _).alloc (Nat.le_refl _) _)) (by omega) (by simp) ?_; intro v1 w1 hown1 hg1 hat1)
    | (at_builtin; refine wpList_app _ rfl (.tmp 9) (.tmp 10) 29 rfl 5 i UT w.heap.size v1 (0 + L) ([] ++ bc l) rfl (hown1.alloc _) (some ⟨w1.heap.size, 0, none⟩) 1 1 [128] rfl rfl (pd_one _ _ _ _ rfl) (by omega) (by have := hg1.size; simp at this ⊢; omega) ?_; intro v2 w2 hown2 hg2 hat2))
  have hba : Below w.heap.size w (w.alloc (.cells #[] 5)) := (Below.refl _ _).alloc (Nat.le_refl _) _
  have hb1 : Below w.heap.size w w1 := hba.grown hg1 hba.size (fun k hk => by simp [Value.ownBlock] at hk; omega)
  have hb2 : Below w.heap.size w w2 := (hb1.alloc hb1.size _).grown hg2 (by have := hb1.size; simp; omega) (fun k hk => (hown1.lt k hk).1)
  have hown3 : w2.ownsRow w.heap.size 5 1 v2 (L + 1) (bc (l ++ [128])) := by
    rw [bc_app]
    simpa using hown2
  clear hown1 hg1 hat1 hown2 hg2 hat2 hba hb1
  go_loopw [3] (fun v wr => ∃ k : Nat, k ≤ z ∧ wr.ownsRow w.heap.size 5 1 v (L + 1 + k) (bc (l ++ [128] ++ List.replicate k 0)) ∧ Below w.heap.size w wr) (fun v _ => L + 1 + z - lnv v)
  case atStart => exact ⟨0, by omega, by simpa using hown3, hb2⟩
  case round =>
    obtain ⟨k, hk, hown, hbel⟩ := hrel
    clear hown3 hb2
    obtain ⟨M, hM⟩ : ∃ M, M = L + 1 + k := ⟨_, rfl⟩
    rw [← hM] at hown
    obtain ⟨X, hX⟩ : ∃ X, X = l ++ [128] ++ List.replicate k 0 := ⟨_, rfl⟩
    rw [← hX] at hown
    obtain ⟨g, cap, rfl, _, _⟩ := hown.form (by omega)
    have hM50 : M ≤ 70368744177729 := by omega
    have HX := Lib.hid hX
    clear hX
    by_cases hlt : k < z
    · have hne := HN.out k hlt
      rw [← hM] at hne
      have hneI : ((M : Int) % 64 != 56) = true := by simp; omega
      have HM := Lib.hid hM
      clear hM hne
      go_wp2_with (at_builtin; refine wpList_app _ rfl (.tmp 16) (.tmp 17) 29 rfl 5 i UT w.heap.size _ M (bc X) rfl (hown.alloc _) (some ⟨wr.heap.size, 0, none⟩) 1 1 [0] rfl rfl (pd_one _ _ _ _ rfl) (by omega) (by have := hbel.size; simp; omega) ?_; intro v3 w3 hown3 hg3 hat3)
      have hb3 : Below w.heap.size w w3 := (hbel.alloc hbel.size _).grown hg3 (by have := hbel.size; simp; omega) (fun k hk => (hown.lt k hk).1)
      have hnext : w3.ownsRow w.heap.size 5 1 v3 (L + 1 + (k + 1)) (bc (l ++ [128] ++ List.replicate (k + 1) 0)) := by
        have e : l ++ [128] ++ List.replicate (k + 1) 0 = X ++ [0] := by rw [HX.out, List.replicate_succ', List.append_assoc _ (List.replicate k 0)]
        rw [e, bc_app, show L + 1 + (k + 1) = M + 1 by have := HM.out; omega]
        exact hown3
      have hl3 := lnv_own hown3
      have hM' := HM.out
      clear hown3 hg3 hat3 hown hbel
      have HN3 := Lib.hid hnext
      have HB3 := Lib.hid hb3
      clear hnext hb3
      go_wp2
      go_roundw
      case rel => exact ⟨k + 1, by omega, HN3.out, HB3.out⟩
      case measure => (rw [show lnv v3 = M + 1 from hl3]; simp [lnv]; omega)
    · obtain rfl : k = z := by omega
      have hne := HE.out
      rw [← hM] at hne
      have hneI : ((M : Int) % 64 != 56) = false := by simp; omega
      have HM := Lib.hid hM
      clear hM hne
      go_wp2
      obtain ⟨wo, rfl⟩ : ∃ wo : World, wo = wr := ⟨_, rfl⟩
      go_loopw [3, 4, 5] (fun v nv iv wr => ∃ j : Nat, j ≤ 8 ∧ iv = .int .i64 j ∧ nv = .int .u64 (lft (8 * L) j) ∧ wr.ownsRow w.heap.size 5 1 v (M + j) (bc (X ++ bez (8 * L) j)) ∧ Below w.heap.size w wr) (fun _ _ i _ => 8 - (intOf i).toNat)
      case atStart => exact ⟨0, by omega, rfl, by rw [lft_zero _ (by omega)]; simp [Int.mul_comm], by simpa [bez] using hown, hbel⟩
      case round =>
        obtain ⟨j, hj, rfl, rfl, hown', hbel'⟩ := hrel
        clear hown hbel
        by_cases hlt8 : j < 8
        · obtain ⟨y, hy⟩ : ∃ y, y = lft (8 * L) j := ⟨_, rfl⟩
          have hb := lft_byte (8 * L) j hlt8
          have hs := lft_succ (8 * L) j
          have hyl := lft_lt (8 * L) j
          rw [← hy] at hb hs hyl ⊢
          obtain ⟨y2, hy2⟩ : ∃ y2, y2 = lft (8 * L) (j + 1) := ⟨_, rfl⟩
          rw [← hy2] at hs
          obtain ⟨bb, hbb⟩ : ∃ bb, bb = UInt8.ofNat (8 * L / 256 ^ (7 - j)) := ⟨_, rfl⟩
          have hz : (y : Int) / 72057594037927936 = (bb.toNat : Int) := by
            rw [hbb, u8_toNat, ← hb]
            omega
          have hsI : ((y : Int) * 256) % 18446744073709551616 = (y2 : Int) := by omega
          have hsW : IntKind.u64.wrap ((y : Int) * 256) = (y2 : Int) := by
            simp [IntKind.wrap, IntKind.bits, IntKind.signed]
            exact hsI
          obtain ⟨Y, hY⟩ : ∃ Y, Y = X ++ bez (8 * L) j := ⟨_, rfl⟩
          rw [← hY] at hown'
          have HY := Lib.hid hY
          have HY2 := Lib.hid hy2
          have HBB := Lib.hid hbb
          have HZ8 := Lib.hid hz
          clear hY hy hb hs hy2 hbb hz
          go_wp2_with (at_builtin; refine wpList_app _ rfl (.tmp 27) (.tmp 31) 29 rfl 5 i UT w.heap.size _ (M + j) (bc Y) rfl (hown'.alloc _) (some ⟨wr.heap.size, 0, none⟩) 1 1 [bb] rfl rfl (pd_one _ _ _ _ HZ8.out) (by omega) (by have := hbel'.size; simp; omega) ?_; intro v3 w3 hown3 hg3 hat3)
          have hb3 : Below w.heap.size w w3 := (hbel'.alloc hbel'.size _).grown hg3 (by have := hbel'.size; simp; omega) (fun k hk => (hown'.lt k hk).1)
          have hnext : w3.ownsRow w.heap.size 5 1 v3 (M + (j + 1)) (bc (X ++ bez (8 * L) (j + 1))) := by
            rw [bez_succ, ← List.append_assoc, ← HY.out, ← HBB.out, bc_app]
            exact hown3
          clear hown3 hg3 hat3 hown' hbel'
          have HN3 := Lib.hid hnext
          have HB3 := Lib.hid hb3
          clear hnext hb3
          go_wp2
          go_roundw
          case rel => exact ⟨j + 1, by omega, by go_num, by rw [HY2.out], HN3.out, HB3.out⟩
          case measure => simp [intOf]; omega
        · obtain rfl : j = 8 := by omega
          go_wp2
          go_ret
          refine ⟨_, rfl, ?_, hbel'⟩
          have e1 : L + (9 + k) = M + 8 := by have := HM.out; omega
          have e2 : l ++ padB L = X ++ bez (8 * L) 8 := by
            unfold padB
            rw [HX.out, ← HZ.out]
            simp only [List.append_assoc]
          rw [e1, e2]
          exact hown'
end Go.Proofs.YtibnmhaipogleaaDoor
/- The reference's digest: for all bytes up to 2^40. No conditions. -/
set_option linter.unusedVariables false
namespace Go.Proofs.YtibnmhaipogleaaDoor
open Go.RowKit

/-- A block of a message, as cells. -/
theorem blk_range {w : World} {g : Nat} {l : List UInt8} (h : ∀ j x, l[j]? = some x → w.cell? ⟨g, j, none⟩ = some (B x)) (i : Nat) (hi : 64 * i + 64 ≤ l.length) : w.rangeAt g (64 * i) (brr 64 (blk l i)) := by
  intro j v hv
  have hj : j < 64 := by
    have := (List.getElem?_eq_some_iff.1 hv).1
    rwa [brr_len] at this
  rw [brr_get _ hj] at hv
  injection hv with hv
  subst hv
  exact h _ _ (blk_get l i j (by omega))

/-- The first 4 k of a digest's bytes. -/
theorem dft_four (s : S8) (k : Nat) : upd (upd (upd (upd (dft s (4 * k)) (4 * k) (dig s (4 * k))) (4 * k + 1) (dig s (4 * k + 1))) (4 * k + 2) (dig s (4 * k + 2))) (4 * k + 3) (dig s (4 * k + 3)) = dft s (4 * (k + 1)) := by
  rw [dft_step, dft_step, dft_step, dft_step]
  rfl
theorem dig_at (s : S8) (k : Nat) : dig s (4 * k) = (shr (s.at k) 24).toUInt8 ∧ dig s (4 * k + 1) = (shr (s.at k) 16).toUInt8 ∧ dig s (4 * k + 2) = (shr (s.at k) 8).toUInt8 ∧ dig s (4 * k + 3) = (s.at k).toUInt8 := by
  unfold dig
  refine ⟨?_, ?_, ?_, ?_⟩
  · rw [show 4 * k / 4 = k by omega, show 4 * k % 4 = 0 by omega]
  · rw [show (4 * k + 1) / 4 = k by omega, show (4 * k + 1) % 4 = 1 by omega]
  · rw [show (4 * k + 2) / 4 = k by omega, show (4 * k + 2) % 4 = 2 by omega]
  · rw [show (4 * k + 3) / 4 = k by omega, show (4 * k + 3) % 4 = 3 by omega, show 8 * (3 - 3) = 0 by rfl, shr_zero]

theorem own_cap {w : World} {base : Nat} {e : TypeId} {size n g cap : Nat} {xs : List Value} (h : w.ownsRow base e size (.slice (some ⟨g, 0, none⟩) n cap) n xs) : n ≤ cap := by
  rcases h.2 with ⟨h', _⟩ | ⟨g', cap', cur, h', _, _, hnc, _⟩
  · simp at h'
  · simp only [Value.slice.injEq] at h'
    omega
theorem cut_block (W : World) (g N cap a : Nat) (h1 : a + 64 ≤ N) (h2 : N ≤ cap) : (Instr.slice 29 (.slice (some ⟨g, 0, none⟩) N cap) (some (.int .i64 a)) (some (.int .i64 ((a : Int) + 64))) none).run Tryd.prog W = .ok (.slice (some ⟨g, a, none⟩) 64 (cap - a)) W := by
  have hs : (sizeOf (Tryd.prog.elem 29)).run Tryd.prog W = .ok 1 W := by kernel_rfl
  have hne : ¬ (cap = a) := by omega
  rw [run_slice_lh (P := Tryd.prog) W 29 (some ⟨g, 0, none⟩) N cap (by kernel_rfl) .i64 .i64 (a : Int) ((a : Int) + 64) (by omega) (by omega) (by omega), hs]
  simp [Result.andThen, sliced, hne, Addr.add_mid]
  omega
theorem h0_row (w : World) : ∀ C : Array Value, C = (arr 8 h0.at).toArray → Row (w.alloc (.cells C 22)) w.heap.size 22 (arr 8 h0.at) := by
  rintro C rfl
  exact Row.made _ _ _

set_option maxRecDepth 20000 in
set_option maxHeartbeats 2000000 in
theorem ref_of_any (A : Option Addr) (c : Nat) (l : List UInt8) (w : World) (hA : Hol w A l) (hlen : l.length ≤ 1099511627776) :
    Calls Tryd.prog 38 #[.slice A l.length c] w fun e w' => e = .returned (.agg (brr 32 (shaF l)).toArray) ∧ Below w.heap.size w w' := by
  have i27 := Lib.hid (p := (Tryd.prog.info? 24).map (·.size) = some 32) (by kernel_rfl)
  have hz := Lib.hid zero_sum
  have HA := Lib.hid hA
  clear hA
  obtain ⟨LL, hLL⟩ : ∃ LL, LL = l ++ padB l.length := ⟨_, rfl⟩
  have hll : LL.length = l.length + (9 + zer l.length) := by rw [hLL, List.length_append, padB_len]
  have hl64 : LL.length % 64 = 0 := by rw [hll]; exact pad_whole _
  have hzl := zer_lt l.length
  have hlong : LL.length ≤ 1099511627776 + 72 := by omega
  obtain ⟨m, hm⟩ : ∃ m, LL.length = 64 * m := ⟨LL.length / 64, by omega⟩
  have hm0 : 0 < m := by omega
  have HLL := Lib.hid hLL
  have HLN := Lib.hid hll
  have HM := Lib.hid hm
  clear hLL hll hl64 hzl
  go_enter Tryd.func38, Tryd.ntmps38
  go_wp2_with (first
    | (refine step_alloc rfl 2 rfl 24 rfl _ hz ?_; intro g2 w2 hr2 hg2 hb2 hs2)
    | (go_at_call 53; refine (k_any _).mono ?_; rintro e w4 ⟨g4, rfl, hr4, hq4, hb4⟩))
  have hh := h0_row w2 _ (by kernel_rfl : (#[Value.int .u32 1779033703, Value.int .u32 3144134277, Value.int .u32 1013904242, Value.int .u32 2773480762, Value.int .u32 1359893119, Value.int .u32 2600822924, Value.int .u32 528734635, Value.int .u32 1541459225] : Array Value) = (arr 8 h0.at).toArray)
  have hh4 := (Row.kept hh hb4).all
  have hr2' : Row w4 g2 24 (brr 32 (fun _ => 0)) := (Row.alloc hr2 _).kept hb4
  have hb3 := hb2.alloc hb2.size (.cells #[Value.int .u32 1779033703, Value.int .u32 3144134277, Value.int .u32 1013904242, Value.int .u32 2773480762, Value.int .u32 1359893119, Value.int .u32 2600822924, Value.int .u32 528734635, Value.int .u32 1541459225] 22)
  have hb4' : Below w.heap.size w w4 := hb3.trans (hb4.mono hb3.size)
  have q2 : w.heap.size ≤ g2 := by rw [hg2.out]; exact Nat.le_refl _
  have hk4 := hr4.all
  generalize w2.heap.size = gh at hh4 ⊢
  clear hh hr2 hg2 hb2 hs2 hr4 hq4 hb4 hb3
  refine (padded_any A c l w4 (HA.out.below hb4') (by omega)).mono ?_
  rintro e w5 ⟨v, rfl, hown, hb5⟩
  rw [← HLN.out, ← HLL.out] at hown
  obtain ⟨N, hN⟩ : ∃ N, N = LL.length := ⟨_, rfl⟩
  rw [← hN] at hown hm hlong
  obtain ⟨gp, cap, rfl, hgp, _⟩ := hown.form (by omega)
  have hcap := own_cap hown
  have hp : ∀ j x, LL[j]? = some x → w5.cell? ⟨gp, j, none⟩ = some (B x) := fun j x hx => by
    have hj : j < N := by rw [hN]; exact (List.getElem?_eq_some_iff.1 hx).1
    rw [hown.cellAt j (by omega), get_bc hx]
    rfl
  have hb5' : Below w.heap.size w w5 := hb4'.trans (hb5.mono hb4'.size)
  have r2 : Row w5 g2 24 (brr 32 (fun _ => 0)) := hr2'.kept hb5
  have rk : w5.rangeAt g4 0 (arr 64 kk) := fun j v hv => (hb5.cell (World.block_lt_of_cell? w4 _ (hk4 j v hv))).trans (hk4 j v hv)
  have rh : w5.rangeAt gh 0 (arr 8 h0.at) := fun j v hv => (hb5.cell (World.block_lt_of_cell? w4 _ (hh4 j v hv))).trans (hh4 j v hv)
  have HN := Lib.hid hN
  have HP := Lib.hid hp
  have HMN := Lib.hid hm
  have HB5 := Lib.hid hb5'
  have R2 := Lib.hid r2
  have RK := Lib.hid rk
  have RH := Lib.hid rh
  clear hown hb5 hk4 hh4 hr2' hb4' hN hp hm hb5' r2 rk rh
  go_wp2
  go_loopw [3, 6] (fun hv iv wr => ∃ (k gh ch a : Nat), k ≤ m ∧ a = 64 * k ∧ iv = .int .i64 a ∧ hv = .slice (some ⟨gh, 0, none⟩) 8 ch ∧ wr.rangeAt gh 0 (arr 8 (eat h0 LL k).at) ∧ Below w5.heap.size w5 wr) (fun _ i _ => N - (intOf i).toNat)
  case atStart => exact ⟨0, gh, 8, 0, by omega, rfl, rfl, rfl, RH.out, Below.refl _ _⟩
  case round =>
    obtain ⟨k, g3, c3, a, hk, ha, rfl, rfl, hrg, hbl⟩ := hrel
    by_cases hlt : k < m
    · have haN : a + 64 ≤ N := by have := HMN.out; omega
      have hcut := fun W => cut_block W gp N cap a haN hcap
      have rk' : wr.rangeAt g4 0 (arr 64 kk) := fun j v hv => (hbl.cell (World.block_lt_of_cell? w5 _ (RK.out j v hv))).trans (RK.out j v hv)
      have rb' : wr.rangeAt gp a (brr 64 (blk LL k)) := by
        rw [ha]
        refine blk_range (fun j x hx => ?_) k (by have := HN.out; omega)
        exact (hbl.cell (World.block_lt_of_cell? w5 _ (HP.out j x hx))).trans (HP.out j x hx)
      have HA2 := Lib.hid ha
      have HR := Lib.hid hrg
      have HBL := Lib.hid hbl
      have RK2 := Lib.hid rk'
      have RB2 := Lib.hid rb'
      clear ha hrg hbl rk' rb' hk
      go_wp2_with (go_at_call 55; refine (block_any g3 gp g4 a c3 (cap - a) 64 (eat h0 LL k) (blk LL k) _ HR.out RB2.out RK2.out).mono ?_; rintro e w6 ⟨g6, c6, rfl, hr6, hq6, hb6⟩)
      have hb6' : Below w5.heap.size w5 w6 := HBL.out.trans (hb6.mono HBL.out.size)
      have HR6 := Lib.hid hr6
      have HB6 := Lib.hid hb6'
      clear hr6 hq6 hb6 hb6'
      go_wp2
      go_roundw
      case rel => exact ⟨k + 1, g6, c6, a + 64, by omega, by have := HA2.out; omega, by go_num, rfl, HR6.out, HB6.out⟩
      case measure => simp [intOf]; omega
    · obtain rfl : k = m := by omega
      have haN : a = N := by have := HMN.out; omega
      go_wp2_with (refine step_alloc rfl 7 rfl 24 rfl _ hz ?_; intro g7 w7 hr7 hg7 hb7 hs7)
      have hd : (64 : Int) = 64 := rfl
      have q7 : w5.heap.size ≤ g7 := by rw [hg7.out]; exact hbl.size
      have l2 := Row.lt R2.out
      have n27 : g2 ≠ g7 := by omega
      have hb7' : Below w5.heap.size w5 w7 := hbl.trans (hb7.mono hbl.size)
      have rh7 : w7.rangeAt g3 0 (arr 8 (eat h0 LL k).at) := fun j v hv => (hb7.cell (World.block_lt_of_cell? wr _ (hrg j v hv))).trans (hrg j v hv)
      have r27 : Row w7 g2 24 (brr 32 (fun _ => 0)) := R2.out.kept hb7'
      have n37 : g3 ≠ g7 := by
        have := World.block_lt_of_cell? wr _ (hrg 0 _ (arr_get (eat h0 LL k).at (by omega)))
        have e := hg7.out
        intro h
        simp at this
        omega
      obtain ⟨S, hS⟩ : ∃ S, S = eat h0 LL k := ⟨_, rfl⟩
      rw [← hS] at rh7
      have HS := Lib.hid hS
      clear hS hg7 hb7 hs7 hrg hbl hd
      go_loopw [8] (fun iv wr => ∃ k : Nat, k ≤ 8 ∧ iv = .int .i64 k ∧ wr.rangeAt g3 0 (arr 8 S.at) ∧ Row wr g2 24 (brr 32 (fun _ => 0)) ∧ Row wr g7 24 (brr 32 (dft S (4 * k))) ∧ Below w5.heap.size w5 wr) (fun i _ => 8 - (intOf i).toNat)
      case atStart => exact ⟨0, by omega, rfl, rh7, r27, by rw [Nat.mul_zero, dft_zero]; exact hr7, hb7'⟩
      case round =>
        obtain ⟨q, hq, rfl, xh, x2, x7, xb⟩ := hrel
        clear rh7 r27 hr7 hb7'
        by_cases hlt8 : q < 8
        · obtain ⟨d0, d1, d2, d3⟩ := dig_at S q
          have hs7 : ∀ j, j < 32 → ∃ y, wr.cell? ⟨g7, j, none⟩ = some (B y) := fun j hj => ⟨_, by rw [x7.cell, brr_get _ hj]⟩
          obtain ⟨y0, c0⟩ := hs7 (4 * q) (by omega)
          obtain ⟨y1, c1⟩ := hs7 (4 * q + 1) (by omega)
          obtain ⟨y2, c2⟩ := hs7 (4 * q + 2) (by omega)
          obtain ⟨y3, c3'⟩ := hs7 (4 * q + 3) (by omega)
          have ch : wr.cell? ⟨g3, q, none⟩ = some (U (S.at q)) := by
            have := xh q _ (arr_get S.at hlt8)
            rwa [Nat.zero_add] at this
          have f0 := x7.free (4 * q)
          have f1 := x7.free (4 * q + 1)
          have f2 := x7.free (4 * q + 2)
          have f3 := x7.free (4 * q + 3)
          have hqI : (q : Int) < 8 := by omega
          have fin := Lib.hid (p := ∀ W, W = (((wr.setCell ⟨g7, 4 * q, none⟩ (B (shr (S.at q) 24).toUInt8)).setCell ⟨g7, 4 * q + 1, none⟩ (B (shr (S.at q) 16).toUInt8)).setCell ⟨g7, 4 * q + 2, none⟩ (B (shr (S.at q) 8).toUInt8)).setCell ⟨g7, 4 * q + 3, none⟩ (B (S.at q).toUInt8) →
              W.rangeAt g3 0 (arr 8 S.at) ∧ Row W g2 24 (brr 32 (fun _ => 0)) ∧ Row W g7 24 (brr 32 (dft S (4 * (q + 1)))) ∧ Below w5.heap.size w5 W) (by
            rintro W rfl
            refine ⟨?_, (((x2.far n27 _).far n27 _).far n27 _).far n27 _, ?_, (((xb.setCell q7 _).setCell q7 _).setCell q7 _).setCell q7 _⟩
            · intro j v hv
              rw [World.cell?_setCell_other _ _ _ _ (by intro e; injection e with e; exact n37 e.symm), World.cell?_setCell_other _ _ _ _ (by intro e; injection e with e; exact n37 e.symm), World.cell?_setCell_other _ _ _ _ (by intro e; injection e with e; exact n37 e.symm), World.cell?_setCell_other _ _ _ _ (by intro e; injection e with e; exact n37 e.symm)]
              exact xh j v hv
            · rw [← dft_four, ← brr_set, ← brr_set, ← brr_set, ← brr_set, d0, d1, d2, d3]
              exact (((x7.put _ _).put _ _).put _ _).put _ _)
          clear hs7 d0 d1 d2 d3 xh x2 x7 xb
          go_wp2
          go_roundw
          case rel => exact ⟨q + 1, by omega, by go_num, fin.out _ rfl⟩
          case measure => simp [intOf]; omega
        · obtain rfl : q = 8 := by omega
          go_wp2_with (first
            | (refine step_load rfl 69 rfl 24 (.tmp 7) rfl g7 (by rfl) (brr 32 (dft S 32)) _ x7.all Tryd.underlying24 rfl (by rw [brr_len]; exact i27) ?_)
            | (refine step_store rfl 24 (.tmp 2) (.tmp 69) rfl g2 (by rfl) _ (brr 32 (fun _ => 0)) (brr 32 (dft S 32)) (by rfl) x2 (by rw [brr_len, brr_len]) (by rw [brr_len]; exact i27) (brr_one _ _) ?_; intro w8 hr8 hg8 hs8))
          refine bodyPost_ret (results_cell_row rfl _ _ g2 _ _ _ _ rfl hr8 Tryd.underlying24 rfl (by simpa [brr_len] using i27.out)) rfl ?_
          have e1 : dig S = shaF l := by
            unfold shaF
            rw [← HLL.out, HS.out, show LL.length / 64 = k by have := HM.out; omega]
          have hbw : Below w.heap.size w wr := HB5.out.trans (xb.mono HB5.out.size)
          exact ⟨by rw [dft_full, e1], hbw.grown hg8 hbw.size (fun j hj => by injection hj with hj; omega)⟩
end Go.Proofs.YtibnmhaipogleaaDoor
/- A hidden block's digest, by the reference: what the call leaves, for all bytes up to 2^40. No conditions. -/
set_option linter.unusedVariables false
set_option maxRecDepth 20000
namespace Go.Proofs.YtibnmhaipogleaaDoor
open Go.RowKit

theorem ref_of_call (A : Option Addr) (n c : Nat) (l : List UInt8) (hn : n = l.length) (w : World) (hA : Hol w A l) (hlen : l.length ≤ 1099511627776) :
    Calls Tryd.prog 38 #[.slice A n c] w fun e w' => e = .returned (.agg (brr 32 (shaF l)).toArray) ∧ Below w.heap.size w w' := by
  subst hn
  exact ref_of_any A c l w hA hlen
set_option maxHeartbeats 1000000 in
theorem rdigest_any (e s : Nat) (A : Option Addr) (n c : Nat) (l : List UInt8) (hn : n = l.length) (he : e < 4294967296) (hs : s < 4294967296) (w : World) (hA : Hol w A l) (hlen : l.length ≤ 549755813888) :
    Calls Tryd.prog 20 #[.int .u32 (e : Int), .int .u32 (s : Int), .slice A n c] w fun x w' => x = .returned (.agg (brr 32 (shaF (nonB e s ++ l))).toArray) ∧ Below w.heap.size w w' := by
  obtain ⟨i, U⟩ := u8_tab
  have i27 := Lib.hid (p := (Tryd.prog.info? 24).map (·.size) = some 32) (by kernel_rfl)
  have hz := Lib.hid zero_sum
  have we := wrap_u64n he
  have ws := wrap_u64n hs
  have HA := Lib.hid hA
  have HE := Lib.hid he
  have HS := Lib.hid hs
  have HN := Lib.hid hn
  have HL := Lib.hid hlen
  clear hA he hs hlen hn
  go_enter Tryd.func20, Tryd.ntmps20
  go_wp2_with (first
    | (refine step_alloc rfl 6 rfl 24 rfl _ hz ?_; intro g2 w2 hr2 hg2 hb2 hs2
       have HR2 := Lib.hid hr2
       have HB2 := Lib.hid hb2
       have Q2 := Lib.hid (p := w.heap.size ≤ g2) (by rw [hg2.out]; exact Nat.le_refl _)
       have L2 := Lib.hid (p := g2 < w2.heap.size) hr2.lt
       clear hr2 hb2 hg2 hs2)
    | (go_at_call_of 37 (Value.int IntKind.u64 (e : Int)); refine (rput4' none 0 0 [] e rfl _ .none_ HE.out (by simp)).mono ?_; rintro x3 w3 ⟨A3, c3, m3, rfl, hm3, hH3, hb3⟩
       have HR3 := Lib.hid (HR2.out.kept hb3.out)
       have HB3 := Lib.hid (HB2.out.trans (hb3.out.mono HB2.out.size))
       have S3 := Lib.hid (p := w2.heap.size ≤ w3.heap.size) hb3.out.size
       clear hb3)
    | (go_at_call_of 37 (Value.int IntKind.u64 (s : Int)); refine (rput4o A3 c3 m3 ([] ++ leb e 4) s (hm3.out.trans (by simp [leb_len])) _ hH3.out HS.out (by simp [leb_len])).mono ?_; rintro x4 w4 ⟨A4, m4, c4, rfl, hm4, ho4, hb4⟩
       have HR4 := Lib.hid (HR3.out.kept hb4.out)
       have HB4 := Lib.hid (HB3.out.trans (hb4.out.mono HB3.out.size))
       have HO4 := Lib.hid (World.ownsRow.mono ho4.out S3.out)
       have HL4 := Lib.hid (HA.out.below HB4.out)
       have S4 := Lib.hid (p := w2.heap.size ≤ w4.heap.size) (Nat.le_trans S3.out hb4.out.size)
       clear hb4 ho4)
    | (at_builtin; refine wpList_app _ rfl _ _ _ rfl 5 i U w2.heap.size _ m4 _ rfl HO4.out A n c l rfl HN.out HL4.out (by have := hm4.out; simp [leb_len] at this; have h1 := HL.out; have h2 := HN.out; omega) S4.out ?_; intro v5 w5 ho5 hg5 hat5; obtain ⟨A5, c5, rfl⟩ := own_sl ho5
       have HB5 := Lib.hid (p := Below w.heap.size w w5) (HB4.out.grown hg5 HB4.out.size (fun q hq => Nat.le_trans (Nat.le_trans Q2.out (Nat.le_of_lt L2.out)) (HO4.out.lt q hq).1))
       have HR5 := Lib.hid (p := Row w5 g2 24 (brr 32 (fun _ => 0))) (HR4.out.grown hg5 (fun e => by have := (HO4.out.lt g2 e.symm).1; have := L2.out; omega))
       rw [← bc_app] at ho5
       have HO5 := Lib.hid ho5
       have HH5 := Lib.hid (p := Hol w5 A5 (nonB e s ++ l)) (by have h9 := Hol.own ho5; have e9 : [] ++ leb e 4 ++ leb s 4 ++ l = nonB e s ++ l := (by simp [nonB]); rw [e9] at h9; exact h9)
       have HM5 := Lib.hid (p := m4 + n = (nonB e s ++ l).length) (by have h2 := hm4.out; rw [List.length_append, leb_len] at h2; rw [List.length_append, nonB_len, ← HN.out, h2]; rfl)
       clear hg5 hat5 ho5)
    | (go_at_call 38; refine (ref_of_call A5 _ c5 _ HM5.out _ HH5.out (by rw [List.length_append, nonB_len]; have := HL.out; omega)).mono ?_; rintro x6 w6 ⟨rfl, hb6⟩
       have HB6 := Lib.hid (HB5.out.trans (hb6.mono HB5.out.size))
       have HR6 := Lib.hid (HR5.out.kept hb6)
       clear hb6)
    | (refine step_store rfl 24 (.tmp 6) (.tmp 25) rfl g2 (by rfl) _ (brr 32 (fun _ => 0)) (brr 32 (shaF (nonB e s ++ l))) (by rfl) HR6.out (by rw [brr_len, brr_len]) (by rw [brr_len]; exact i27) (brr_one _ _) ?_; intro w8 hr8 hg8 hs8))
  refine bodyPost_ret (results_cell_row rfl _ _ g2 _ _ _ _ rfl hr8 Tryd.underlying24 rfl (by simpa [brr_len] using i27.out)) rfl ?_
  exact ⟨rfl, HB6.out.grown hg8 HB6.out.size (fun q hq => by injection hq with hq; subst hq; exact Q2.out)⟩
end Go.Proofs.YtibnmhaipogleaaDoor
