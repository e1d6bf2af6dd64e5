/- The reference's digest: for all bytes up to 2^40. No conditions. -/
import Derived.Test.YtibnmhaipogleaaDoorBlock
import Derived.Test.YtibnmhaipogleaaDoorMgRefK
import Derived.Test.YtibnmhaipogleaaDoorSum
set_option linter.unusedVariables false
namespace Go.Proofs.YtibnmhaipogleaaDoor
open Go.RowKit

/-- A block of a message, as cells. -/
theorem blk_range {w : World} {g : Nat} {l : List UInt8} (h : ∀ j x, l[j]? = some x → w.cell? ⟨g, j, none⟩ = some (B x)) (i : Nat) (hi : 64 * i + 64 ≤ l.length) : w.rangeAt g (64 * i) (brr 64 (blk l i)) := by
  intro j v hv
  have hj : j < 64 := by
    have := (List.getElem?_eq_some_iff.1 hv).1
    rwa [brr_len] at this
  rw [brr_get _ hj] at hv
  injection hv with hv
  subst hv
  exact h _ _ (blk_get l i j (by omega))

/-- The first 4 k of a digest's bytes. -/
theorem dft_four (s : S8) (k : Nat) : upd (upd (upd (upd (dft s (4 * k)) (4 * k) (dig s (4 * k))) (4 * k + 1) (dig s (4 * k + 1))) (4 * k + 2) (dig s (4 * k + 2))) (4 * k + 3) (dig s (4 * k + 3)) = dft s (4 * (k + 1)) := by
  rw [dft_step, dft_step, dft_step, dft_step]
  rfl
theorem dig_at (s : S8) (k : Nat) : dig s (4 * k) = (shr (s.at k) 24).toUInt8 ∧ dig s (4 * k + 1) = (shr (s.at k) 16).toUInt8 ∧ dig s (4 * k + 2) = (shr (s.at k) 8).toUInt8 ∧ dig s (4 * k + 3) = (s.at k).toUInt8 := by
  unfold dig
  refine ⟨?_, ?_, ?_, ?_⟩
  · rw [show 4 * k / 4 = k by omega, show 4 * k % 4 = 0 by omega]
  · rw [show (4 * k + 1) / 4 = k by omega, show (4 * k + 1) % 4 = 1 by omega]
  · rw [show (4 * k + 2) / 4 = k by omega, show (4 * k + 2) % 4 = 2 by omega]
  · rw [show (4 * k + 3) / 4 = k by omega, show (4 * k + 3) % 4 = 3 by omega, show 8 * (3 - 3) = 0 by rfl, shr_zero]

theorem own_cap {w : World} {base : Nat} {e : TypeId} {size n g cap : Nat} {xs : List Value} (h : w.ownsRow base e size (.slice (some ⟨g, 0, none⟩) n cap) n xs) : n ≤ cap := by
  rcases h.2 with ⟨h', _⟩ | ⟨g', cap', cur, h', _, _, hnc, _⟩
  · simp at h'
  · simp only [Value.slice.injEq] at h'
    omega
theorem cut_block (W : World) (g N cap a : Nat) (h1 : a + 64 ≤ N) (h2 : N ≤ cap) : (Instr.slice 29 (.slice (some ⟨g, 0, none⟩) N cap) (some (.int .i64 a)) (some (.int .i64 ((a : Int) + 64))) none).run Tryd.prog W = .ok (.slice (some ⟨g, a, none⟩) 64 (cap - a)) W := by
  have hs : (sizeOf (Tryd.prog.elem 29)).run Tryd.prog W = .ok 1 W := by kernel_rfl
  have hne : ¬ (cap = a) := by omega
  rw [run_slice_lh (P := Tryd.prog) W 29 (some ⟨g, 0, none⟩) N cap (by kernel_rfl) .i64 .i64 (a : Int) ((a : Int) + 64) (by omega) (by omega) (by omega), hs]
  simp [Result.andThen, sliced, hne, Addr.add_mid]
  omega
theorem h0_row (w : World) : ∀ C : Array Value, C = (arr 8 h0.at).toArray → Row (w.alloc (.cells C 22)) w.heap.size 22 (arr 8 h0.at) := by
  rintro C rfl
  exact Row.made _ _ _

set_option maxRecDepth 20000 in
set_option maxHeartbeats 2000000 in
theorem ref_of_any (A : Option Addr) (c : Nat) (l : List UInt8) (w : World) (hA : Hol w A l) (hlen : l.length ≤ 1099511627776) :
    Calls Tryd.prog 38 #[.slice A l.length c] w fun e w' => e = .returned (.agg (brr 32 (shaF l)).toArray) ∧ Below w.heap.size w w' := by
  have i27 := Lib.hid (p := (Tryd.prog.info? 24).map (·.size) = some 32) (by kernel_rfl)
  have hz := Lib.hid zero_sum
  have HA := Lib.hid hA
  clear hA
  obtain ⟨LL, hLL⟩ : ∃ LL, LL = l ++ padB l.length := ⟨_, rfl⟩
  have hll : LL.length = l.length + (9 + zer l.length) := by rw [hLL, List.length_append, padB_len]
  have hl64 : LL.length % 64 = 0 := by rw [hll]; exact pad_whole _
  have hzl := zer_lt l.length
  have hlong : LL.length ≤ 1099511627776 + 72 := by omega
  obtain ⟨m, hm⟩ : ∃ m, LL.length = 64 * m := ⟨LL.length / 64, by omega⟩
  have hm0 : 0 < m := by omega
  have HLL := Lib.hid hLL
  have HLN := Lib.hid hll
  have HM := Lib.hid hm
  clear hLL hll hl64 hzl
  go_enter Tryd.func38, Tryd.ntmps38
  go_wp2_with (first
    | (refine step_alloc rfl 2 rfl 24 rfl _ hz ?_; intro g2 w2 hr2 hg2 hb2 hs2)
    | (go_at_call 53; refine (k_any _).mono ?_; rintro e w4 ⟨g4, rfl, hr4, hq4, hb4⟩))
  have hh := h0_row w2 _ (by kernel_rfl : (#[Value.int .u32 1779033703, Value.int .u32 3144134277, Value.int .u32 1013904242, Value.int .u32 2773480762, Value.int .u32 1359893119, Value.int .u32 2600822924, Value.int .u32 528734635, Value.int .u32 1541459225] : Array Value) = (arr 8 h0.at).toArray)
  have hh4 := (Row.kept hh hb4).all
  have hr2' : Row w4 g2 24 (brr 32 (fun _ => 0)) := (Row.alloc hr2 _).kept hb4
  have hb3 := hb2.alloc hb2.size (.cells #[Value.int .u32 1779033703, Value.int .u32 3144134277, Value.int .u32 1013904242, Value.int .u32 2773480762, Value.int .u32 1359893119, Value.int .u32 2600822924, Value.int .u32 528734635, Value.int .u32 1541459225] 22)
  have hb4' : Below w.heap.size w w4 := hb3.trans (hb4.mono hb3.size)
  have q2 : w.heap.size ≤ g2 := by rw [hg2.out]; exact Nat.le_refl _
  have hk4 := hr4.all
  generalize w2.heap.size = gh at hh4 ⊢
  clear hh hr2 hg2 hb2 hs2 hr4 hq4 hb4 hb3
  refine (padded_any A c l w4 (HA.out.below hb4') (by omega)).mono ?_
  rintro e w5 ⟨v, rfl, hown, hb5⟩
  rw [← HLN.out, ← HLL.out] at hown
  obtain ⟨N, hN⟩ : ∃ N, N = LL.length := ⟨_, rfl⟩
  rw [← hN] at hown hm hlong
  obtain ⟨gp, cap, rfl, hgp, _⟩ := hown.form (by omega)
  have hcap := own_cap hown
  have hp : ∀ j x, LL[j]? = some x → w5.cell? ⟨gp, j, none⟩ = some (B x) := fun j x hx => by
    have hj : j < N := by rw [hN]; exact (List.getElem?_eq_some_iff.1 hx).1
    rw [hown.cellAt j (by omega), get_bc hx]
    rfl
  have hb5' : Below w.heap.size w w5 := hb4'.trans (hb5.mono hb4'.size)
  have r2 : Row w5 g2 24 (brr 32 (fun _ => 0)) := hr2'.kept hb5
  have rk : w5.rangeAt g4 0 (arr 64 kk) := fun j v hv => (hb5.cell (World.block_lt_of_cell? w4 _ (hk4 j v hv))).trans (hk4 j v hv)
  have rh : w5.rangeAt gh 0 (arr 8 h0.at) := fun j v hv => (hb5.cell (World.block_lt_of_cell? w4 _ (hh4 j v hv))).trans (hh4 j v hv)
  have HN := Lib.hid hN
  have HP := Lib.hid hp
  have HMN := Lib.hid hm
  have HB5 := Lib.hid hb5'
  have R2 := Lib.hid r2
  have RK := Lib.hid rk
  have RH := Lib.hid rh
  clear hown hb5 hk4 hh4 hr2' hb4' hN hp hm hb5' r2 rk rh
  go_wp2
  go_loopw [3, 6] (fun hv iv wr => ∃ (k gh ch a : Nat), k ≤ m ∧ a = 64 * k ∧ iv = .int .i64 a ∧ hv = .slice (some ⟨gh, 0, none⟩) 8 ch ∧ wr.rangeAt gh 0 (arr 8 (eat h0 LL k).at) ∧ Below w5.heap.size w5 wr) (fun _ i _ => N - (intOf i).toNat)
  case atStart => exact ⟨0, gh, 8, 0, by omega, rfl, rfl, rfl, RH.out, Below.refl _ _⟩
  case round =>
    obtain ⟨k, g3, c3, a, hk, ha, rfl, rfl, hrg, hbl⟩ := hrel
    by_cases hlt : k < m
    · have haN : a + 64 ≤ N := by have := HMN.out; omega
      have hcut := fun W => cut_block W gp N cap a haN hcap
      have rk' : wr.rangeAt g4 0 (arr 64 kk) := fun j v hv => (hbl.cell (World.block_lt_of_cell? w5 _ (RK.out j v hv))).trans (RK.out j v hv)
      have rb' : wr.rangeAt gp a (brr 64 (blk LL k)) := by
        rw [ha]
        refine blk_range (fun j x hx => ?_) k (by have := HN.out; omega)
        exact (hbl.cell (World.block_lt_of_cell? w5 _ (HP.out j x hx))).trans (HP.out j x hx)
      have HA2 := Lib.hid ha
      have HR := Lib.hid hrg
      have HBL := Lib.hid hbl
      have RK2 := Lib.hid rk'
      have RB2 := Lib.hid rb'
      clear ha hrg hbl rk' rb' hk
      go_wp2_with (go_at_call 55; refine (block_any g3 gp g4 a c3 (cap - a) 64 (eat h0 LL k) (blk LL k) _ HR.out RB2.out RK2.out).mono ?_; rintro e w6 ⟨g6, c6, rfl, hr6, hq6, hb6⟩)
      have hb6' : Below w5.heap.size w5 w6 := HBL.out.trans (hb6.mono HBL.out.size)
      have HR6 := Lib.hid hr6
      have HB6 := Lib.hid hb6'
      clear hr6 hq6 hb6 hb6'
      go_wp2
      go_roundw
      case rel => exact ⟨k + 1, g6, c6, a + 64, by omega, by have := HA2.out; omega, by go_num, rfl, HR6.out, HB6.out⟩
      case measure => simp [intOf]; omega
    · obtain rfl : k = m := by omega
      have haN : a = N := by have := HMN.out; omega
      go_wp2_with (refine step_alloc rfl 7 rfl 24 rfl _ hz ?_; intro g7 w7 hr7 hg7 hb7 hs7)
      have hd : (64 : Int) = 64 := rfl
      have q7 : w5.heap.size ≤ g7 := by rw [hg7.out]; exact hbl.size
      have l2 := Row.lt R2.out
      have n27 : g2 ≠ g7 := by omega
      have hb7' : Below w5.heap.size w5 w7 := hbl.trans (hb7.mono hbl.size)
      have rh7 : w7.rangeAt g3 0 (arr 8 (eat h0 LL k).at) := fun j v hv => (hb7.cell (World.block_lt_of_cell? wr _ (hrg j v hv))).trans (hrg j v hv)
      have r27 : Row w7 g2 24 (brr 32 (fun _ => 0)) := R2.out.kept hb7'
      have n37 : g3 ≠ g7 := by
        have := World.block_lt_of_cell? wr _ (hrg 0 _ (arr_get (eat h0 LL k).at (by omega)))
        have e := hg7.out
        intro h
        simp at this
        omega
      obtain ⟨S, hS⟩ : ∃ S, S = eat h0 LL k := ⟨_, rfl⟩
      rw [← hS] at rh7
      have HS := Lib.hid hS
      clear hS hg7 hb7 hs7 hrg hbl hd
      go_loopw [8] (fun iv wr => ∃ k : Nat, k ≤ 8 ∧ iv = .int .i64 k ∧ wr.rangeAt g3 0 (arr 8 S.at) ∧ Row wr g2 24 (brr 32 (fun _ => 0)) ∧ Row wr g7 24 (brr 32 (dft S (4 * k))) ∧ Below w5.heap.size w5 wr) (fun i _ => 8 - (intOf i).toNat)
      case atStart => exact ⟨0, by omega, rfl, rh7, r27, by rw [Nat.mul_zero, dft_zero]; exact hr7, hb7'⟩
      case round =>
        obtain ⟨q, hq, rfl, xh, x2, x7, xb⟩ := hrel
        clear rh7 r27 hr7 hb7'
        by_cases hlt8 : q < 8
        · obtain ⟨d0, d1, d2, d3⟩ := dig_at S q
          have hs7 : ∀ j, j < 32 → ∃ y, wr.cell? ⟨g7, j, none⟩ = some (B y) := fun j hj => ⟨_, by rw [x7.cell, brr_get _ hj]⟩
          obtain ⟨y0, c0⟩ := hs7 (4 * q) (by omega)
          obtain ⟨y1, c1⟩ := hs7 (4 * q + 1) (by omega)
          obtain ⟨y2, c2⟩ := hs7 (4 * q + 2) (by omega)
          obtain ⟨y3, c3'⟩ := hs7 (4 * q + 3) (by omega)
          have ch : wr.cell? ⟨g3, q, none⟩ = some (U (S.at q)) := by
            have := xh q _ (arr_get S.at hlt8)
            rwa [Nat.zero_add] at this
          have f0 := x7.free (4 * q)
          have f1 := x7.free (4 * q + 1)
          have f2 := x7.free (4 * q + 2)
          have f3 := x7.free (4 * q + 3)
          have hqI : (q : Int) < 8 := by omega
          have fin := Lib.hid (p := ∀ W, W = (((wr.setCell ⟨g7, 4 * q, none⟩ (B (shr (S.at q) 24).toUInt8)).setCell ⟨g7, 4 * q + 1, none⟩ (B (shr (S.at q) 16).toUInt8)).setCell ⟨g7, 4 * q + 2, none⟩ (B (shr (S.at q) 8).toUInt8)).setCell ⟨g7, 4 * q + 3, none⟩ (B (S.at q).toUInt8) →
              W.rangeAt g3 0 (arr 8 S.at) ∧ Row W g2 24 (brr 32 (fun _ => 0)) ∧ Row W g7 24 (brr 32 (dft S (4 * (q + 1)))) ∧ Below w5.heap.size w5 W) (by
            rintro W rfl
            refine ⟨?_, (((x2.far n27 _).far n27 _).far n27 _).far n27 _, ?_, (((xb.setCell q7 _).setCell q7 _).setCell q7 _).setCell q7 _⟩
            · intro j v hv
              rw [World.cell?_setCell_other _ _ _ _ (by intro e; injection e with e; exact n37 e.symm), World.cell?_setCell_other _ _ _ _ (by intro e; injection e with e; exact n37 e.symm), World.cell?_setCell_other _ _ _ _ (by intro e; injection e with e; exact n37 e.symm), World.cell?_setCell_other _ _ _ _ (by intro e; injection e with e; exact n37 e.symm)]
              exact xh j v hv
            · rw [← dft_four, ← brr_set, ← brr_set, ← brr_set, ← brr_set, d0, d1, d2, d3]
              exact (((x7.put _ _).put _ _).put _ _).put _ _)
          clear hs7 d0 d1 d2 d3 xh x2 x7 xb
          go_wp2
          go_roundw
          case rel => exact ⟨q + 1, by omega, by go_num, fin.out _ rfl⟩
          case measure => simp [intOf]; omega
        · obtain rfl : q = 8 := by omega
          go_wp2_with (first
            | (refine step_load rfl 69 rfl 24 (.tmp 7) rfl g7 (by rfl) (brr 32 (dft S 32)) _ x7.all Tryd.underlying24 rfl (by rw [brr_len]; exact i27) ?_)
            | (refine step_store rfl 24 (.tmp 2) (.tmp 69) rfl g2 (by rfl) _ (brr 32 (fun _ => 0)) (brr 32 (dft S 32)) (by rfl) x2 (by rw [brr_len, brr_len]) (by rw [brr_len]; exact i27) (brr_one _ _) ?_; intro w8 hr8 hg8 hs8))
          refine bodyPost_ret (results_cell_row rfl _ _ g2 _ _ _ _ rfl hr8 Tryd.underlying24 rfl (by simpa [brr_len] using i27.out)) rfl ?_
          have e1 : dig S = shaF l := by
            unfold shaF
            rw [← HLL.out, HS.out, show LL.length / 64 = k by have := HM.out; omega]
          have hbw : Below w.heap.size w wr := HB5.out.trans (xb.mono HB5.out.size)
          exact ⟨by rw [dft_full, e1], hbw.grown hg8 hbw.size (fun j hj => by injection hj with hj; omega)⟩
end Go.Proofs.YtibnmhaipogleaaDoor
