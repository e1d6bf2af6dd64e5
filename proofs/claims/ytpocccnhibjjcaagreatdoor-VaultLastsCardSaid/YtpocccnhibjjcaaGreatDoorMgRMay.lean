/- Whether a record may be, and a record as bytes, by the reference: what each call leaves. Conditions: those named. -/
import Derived.Test.YtpocccnhibjjcaaGreatDoorMgPNewD
import Derived.Test.YtpocccnhibjjcaaGreatDoorMgVm
import Derived.StillTailTactics
import Derived.Test.YtpocccnhibjjcaaGreatDoorMgCalls
import Derived.Deep.RegionHeld
import Derived.Test.YtpocccnhibjjcaaGreatDoorMgDig
import Derived.Test.YtpocccnhibjjcaaGreatDoorMgDisk
set_option linter.unusedVariables false
set_option maxRecDepth 20000
namespace Go.Proofs.YtpocccnhibjjcaaGreatDoor
open Go.RowKit

end Go.Proofs.YtpocccnhibjjcaaGreatDoor
/- Four records as a node's block, by package node: what the call leaves, for every four records. Conditions: their numbers fit. -/
set_option linter.unusedVariables false
set_option maxRecDepth 20000
namespace Go.Proofs.YtpocccnhibjjcaaGreatDoor
open Go.RowKit

theorem RecV.eqb_a {r q : RecV} (h : r.eqb q = true) : r.a = q.a := by
  simp [RecV.eqb] at h
  exact h.1
theorem RecV.may_in {r : RecV} (h : r.may = true) : ∃ k : Nat, r.a = (k : Int) ∧ k < 65536 := by
  unfold RecV.may at h
  rw [Bool.or_eq_true] at h
  rcases h with h | h
  · unfold RecV.leads at h
    simp at h
    exact ⟨r.a.toNat, by omega, by omega⟩
  · have := RecV.eqb_a h
    exact ⟨0, by rw [this]; rfl, by omega⟩
theorem run_cut_at (g k : Nat) (hk : k < 4) (w : World) : (Instr.sliceAt 35 (.slice (some ⟨g, 0, none⟩) 256 256) (some (.int .i64 ((42 * k : Nat) : Int))) none none).run Tryz.prog w = .ok (.slice (some ⟨g, 42 * k, none⟩) (256 - 42 * k) (256 - 42 * k)) w := by
  have hu : Tryz.prog.underlying 35 = some (.slice (Tryz.prog.elem 35)) := by kernel_rfl
  have hs : ∀ w, (sizeOf (Tryz.prog.elem 35)).run Tryz.prog w = .ok 1 w := fun w => size_of (by kernel_rfl) w
  rw [run_sliceAt_slice w _ _ _ _ _ hu, run_slice_l w _ _ _ _ hu .i64 _ (by omega) (by omega), hs]
  have h1 : ¬ 256 = 42 * k := by omega
  simp only [Result.andThen_ok, sliced, Int.toNat_natCast, Nat.mul_one, if_neg h1, Option.map_some, Addr.add_lit, Nat.zero_add]
def PackPost (R : Nat → RecV) (w : World) (e : Ending) (w' : World) : Prop :=
  ((∀ k, k < 4 → (R k).may = true) ∧ ∃ g, e = .returned (.tuple #[.slice (some ⟨g, 0, none⟩) 256 256, .int .i64 0]) ∧ Row w' g 5 (brr 256 (pk R)) ∧ w.heap.size ≤ g ∧ Below w.heap.size w w') ∨
  ((∃ k, k < 4 ∧ (R k).may = false) ∧ e = .returned (.tuple #[.slice none 0 0, .int .i64 201]) ∧ Below w.heap.size w w')
set_option maxHeartbeats 2000000 in
theorem pack_any (R : Nat → RecV) (hR : ∀ k, k < 4 → (R k).Ok) (w : World) : Calls Tryz.prog 110 #[.agg (recsC R).toArray] w (PackPost R w) := by
  obtain ⟨i, U⟩ := u8_tab
  have h8 := Lib.hid (p := (Tryz.prog.info? 5).map (·.size) = some 1) (by rw [U.hi]; simp [U.h1])
  have i140 := Lib.hid (p := (Tryz.prog.info? 132).map (·.size) = some (recsC R).length) (by rw [recsC_len]; exact info_recs)
  have i35 := Lib.hid (p := ∀ r : RecV, (Tryz.prog.info? 87).map (·.size) = some r.cs.length) (fun r => by rw [r.cs_len]; exact info_rec)
  have hz := Lib.hid zero_rec
  have HR := Lib.hid hR
  have HX := Lib.hid (p := ∀ k : Nat, k < 4 → ∀ W : World, (Instr.index 132 (.agg (recsC R).toArray) (.int .i64 (k : Int))).run Tryz.prog W = .ok (.agg (R k).cs.toArray) W) (fun k hk W => run_index_rec R k hk W)
  clear hR
  go_enter Tryz.func110, Tryz.ntmps110
  go_wp2_with (first
    | (refine step_box rfl 1 rfl 132 _ rfl (recsC R) rfl ?_; intro g1 w1 hr1 hg1 hb1 hs1)
    | (refine step_make rfl _ _ 35 5 i U rfl 256 rfl rfl (by omega) ?_; intro g2 w2 hr2 hg2 hb2 hs2)
    | (refine step_load rfl 8 rfl 132 (.tmp 1) rfl g1 rfl (recsC R) _ (hr1.kept hb2).all Tryz.underlying132 rfl i140.out ?_))
  have hb12 : Below w.heap.size w w2 := hb1.trans (hb2.mono hb1.size)
  have q2 := Lib.hid (p := w.heap.size ≤ g2) (by rw [hg2.out]; exact hb1.size)
  have hr2' : Row w2 g2 5 (brr 256 (upto (42 * 0) (pk R) fun _ => 0)) := by rw [Nat.mul_zero, upto_zero]; exact hr2
  clear hr1 hb1 hg1 hs1 hb2 hg2 hs2 hr2
  go_loopw [9] (fun x wr => ∃ k : Nat, k ≤ 4 ∧ x = .int .i64 (k : Int) ∧ Hid (∀ j, j < k → (R j).may = true) ∧ Hid (Row wr g2 5 (brr 256 (upto (42 * k) (pk R) fun _ => 0))) ∧ Hid (Below w.heap.size w wr)) (fun x _ => 4 - (intOf x).toNat)
  case atStart => exact ⟨0, by omega, rfl, fun j hj => by omega, hr2', hb12⟩
  case round =>
    clear hr2' hb12
    obtain ⟨k, hk, rfl, HM, HRow, HB⟩ := hrel
    by_cases h4 : k < 4
    · have hix := HX.out k h4
      have hki : (k : Int) < 4 := by omega
      by_cases hm : (R k).may = true
      · obtain ⟨m, hma, hm2⟩ := RecV.may_in hm
        have HMA := Lib.hid hma
        have HM2 := Lib.hid hm2
        have HM1 := Lib.hid hm
        clear hma hm2
        have e1 : IntKind.i64.wrap ((k : Int) * 42) = ((42 * k : Nat) : Int) := by rw [IntKind.wrap_i64]; omega
        have e2 : ((42 * k : Nat) : Int) ≤ 256 := by omega
        have e3 : (0 : Int) ≤ ((42 * k : Nat) : Int) := by omega
        go_wp2_with (first
          | (refine step_alloc rfl 6 rfl 87 rfl _ hz ?_; intro g6 w6 hr6 hg6 hb6 hs6)
          | (refine step_store rfl 87 (.tmp 6) (.tmp 12) rfl g6 (by rfl) _ rec0.cs (R k).cs (by rfl) hr6 (by rw [RecV.cs_len, RecV.cs_len]) (i35.out _) (RecV.cs_one _) ?_; intro w7 hr7 hg7 hs7)
          | (refine step_load rfl 13 rfl 87 (.tmp 6) rfl g6 rfl (R k).cs _ hr7.all Tryz.underlying87 rfl (i35.out _) ?_)
          | (go_at_call 141; refine (mayBe_any (R k) _).mono ?_; rintro e8 w8 ⟨rfl, hb8⟩; rw [HM1.out]))
        have hr8 := hr7.kept hb8
        have HB78 := Lib.hid (p := Below wr.heap.size wr w8) (((hb6.grown hg7 hb6.size (fun q hq => by injection hq with hq; subst hq; rw [hg6.out]; exact Nat.le_refl _))).trans (hb8.mono (by have := hb6.size; have := hs7.out; omega)))
        have HR8 := Lib.hid hr8
        have HG6 := Lib.hid (p := g2 < g6) (by rw [hg6.out]; exact HRow.out.lt)
        have hcut := run_cut_at g2 k h4
        clear hr7 hg7 hs7 hb8 hr6 hg6 hb6 hs6 hr8
        refine wp_region_held_drew (S := fun W => W.rangeAt g6 0 (R k).cs) (by kernel_rfl) (HR8.out.drew.all) (fun hHeld => ?_)
        refine wpAnyH_take (i := 0) (oi := ⟨some 16, .move (.tmp 4), _, _, _, none⟩) (v := .slice (some ⟨g2, 0, none⟩) 256 256) rfl (by kernel_rfl) (by kernel_rfl) (by kernel_rfl) (fun _ _ _ h => h) (.inl ⟨by rfl, fun w hSw => by go_simp⟩) (by assumption) ?_
        simp only [Act.put, List.setIfInBounds_toArray, List.set_cons_zero, List.set_cons_succ]
        refine wpAnyH_take (i := 1) (oi := ⟨some 17, .move (.tmp 5), _, _, _, none⟩) (v := .int .i64 (k : Int)) rfl (by kernel_rfl) (by kernel_rfl) (by kernel_rfl) (fun _ _ _ h => h) (.inl ⟨by rfl, fun w hSw => by go_simp⟩) (by assumption) ?_
        simp only [Act.put, List.setIfInBounds_toArray, List.set_cons_zero, List.set_cons_succ]
        refine wpAnyH_take (i := 2) (oi := ⟨some 18, .binOp .mul 3 (.tmp 17) (.const (.int .i64 42)) 3, _, _, _, none⟩) (v := .int .i64 ((42 * k : Nat) : Int)) rfl (by kernel_rfl) (by kernel_rfl) (by kernel_rfl) (fun _ _ _ h => h) (.inl ⟨by rfl, fun w hSw => by go_simp⟩) (by assumption) ?_
        simp only [Act.put, List.setIfInBounds_toArray, List.set_cons_zero, List.set_cons_succ]
        refine wpAnyH_take (i := 3) (oi := ⟨some 19, .slice 35 (.tmp 16) (some (.tmp 18)) none none, _, _, _, none⟩) (v := .slice (some ⟨g2, 42 * k, none⟩) (256 - 42 * k) (256 - 42 * k)) rfl (by kernel_rfl) (by kernel_rfl) (by kernel_rfl) (fun _ _ _ h => h) (.inl ⟨by rfl, fun w hSw => by have h9 := hcut w; unfold execOp; simp only [Sem.run_bind]; exact congrArg (fun r => Result.andThen r _) h9⟩) (by assumption) ?_
        simp only [Act.put, List.setIfInBounds_toArray, List.set_cons_zero, List.set_cons_succ]
        refine wpAnyH_take (i := 4) (oi := ⟨some 20, .load 87 (.tmp 6), _, _, _, none⟩) (v := .agg (R k).cs.toArray) rfl (by kernel_rfl) (by kernel_rfl) (by kernel_rfl) (fun _ _ _ h => h) (yieldsIf_load_mid (by rfl) 87 (.tmp 6) rfl g6 0 rfl (R k).cs _ (fun w hSw => hSw) Tryz.underlying87 rfl (i35.out _)) (by assumption) ?_
        simp only [Act.put, List.setIfInBounds_toArray, List.set_cons_zero, List.set_cons_succ]
        refine wpAnyH_ready (rs := [5]) (by kernel_rfl) (by simp) ?_
        refine AllReadyH.cons (o := ⟨some 21, .call ⟨.value (.func 142), #[.tmp 20], _⟩, _, _, _, none⟩) rfl (fun K hK => ?_) AllReadyH.nil
        go_simp
        refine (record_any (R k) m HMA.out HM2.out (HR.out k h4) _).mono ?_
        rintro x9 w9 ⟨A9, n9, c9, rfl, hn9, ho9, hb9⟩
        have HB9 := Lib.hid (p := Below w8.heap.size w8 w9) (below_next hb9.out (below_draw w8))
        have HL9 := Lib.hid (Hol.own ho9.out)
        have HRow9 := Lib.hid (HRow.out.kept (HB78.out.trans (HB9.out.mono HB78.out.size)))
        have HR9 := Lib.hid (HR8.out.kept HB9.out)
        clear ho9 hb9
        refine hK.out _ _ HR9.out.all (fun hH2 => ?_)
        clear hK K
        refine wpAnyH_ready (rs := [6]) (by kernel_rfl) (by simp) ?_
        refine AllReadyH.cons (o := ⟨some 22, .call ⟨.builtin .copy, #[.tmp 19, .tmp 21], #[35, 35]⟩, _, _, _, none⟩) rfl (fun K hK => ?_) AllReadyH.nil
        refine step_copy rfl (.tmp 19) (.tmp 21) _ _ rfl 5 U.ht h8.out g2 (42 * k) 256 (256 - 42 * k) (256 - 42 * k) _ _ rfl HRow9.out A9 n9 c9 (R k).b rfl hn9.out HL9.out (by have h1 : Nat.min n9 (256 - 42 * k) ≤ 256 - 42 * k := Nat.min_le_right _ _; omega) ?_
        intro w10 k10 hr10 hu10
        have HR10 := Lib.hid (HR9.out.grown hu10.out.1 (fun e => by injection e with e; have := HG6.out; omega))
        have hpk : brr 256 (ov (42 * k) ((R k).b.take (256 - 42 * k)) (upto (42 * k) (pk R) fun _ => 0)) = brr 256 (upto (42 * (k + 1)) (pk R) fun _ => 0) := brr_congr fun j _ => pk_step R k _ h4 (by omega) j
        rw [hpk] at hr10
        have HRow10 := Lib.hid hr10
        have HB10 := Lib.hid (p := Below w.heap.size w w10) ((HB.out.trans ((HB78.out.trans (HB9.out.mono HB78.out.size)).mono HB.out.size)).grown hu10.out.1 (Nat.le_trans HB.out.size (Nat.le_trans HB78.out.size HB9.out.size)) (fun q hq => by injection hq with hq; subst hq; exact q2.out))
        have HM10 := Lib.hid (p := ∀ j, j < k + 1 → (R j).may = true) (fun j hj => by
          by_cases e : j = k
          · rw [e]; exact HM1.out
          · exact HM.out j (by omega))
        clear hr10 hu10 hpk
        refine hK.out _ _ HR10.out.all (fun hH3 => ?_)
        clear hK K
        refine wpAnyH_done (by kernel_rfl) ?_ _
        go_wp2
        go_roundw
        case rel => exact ⟨k + 1, by omega, by go_num, HM10, HRow10, HB10⟩
        case measure => simp [intOf]; omega
      · have HM1 := Lib.hid (p := (R k).may = false) (by simpa using hm)
        clear hm
        go_wp2_with (first
          | (refine step_alloc rfl 6 rfl 87 rfl _ hz ?_; intro g6 w6 hr6 hg6 hb6 hs6)
          | (refine step_store rfl 87 (.tmp 6) (.tmp 12) rfl g6 (by rfl) _ rec0.cs (R k).cs (by rfl) hr6 (by rw [RecV.cs_len, RecV.cs_len]) (i35.out _) (RecV.cs_one _) ?_; intro w7 hr7 hg7 hs7)
          | (refine step_load rfl 13 rfl 87 (.tmp 6) rfl g6 rfl (R k).cs _ hr7.all Tryz.underlying87 rfl (i35.out _) ?_)
          | (go_at_call 141; refine (mayBe_any (R k) _).mono ?_; rintro e8 w8 ⟨rfl, hb8⟩; rw [HM1.out]))
        go_ret2
        refine .inr ⟨⟨k, h4, HM1.out⟩, rfl, ?_⟩
        have hb67 : Below wr.heap.size wr w7 := hb6.grown hg7 hb6.size (fun q hq => by injection hq with hq; subst hq; rw [hg6.out]; exact Nat.le_refl _)
        have s7 : wr.heap.size ≤ w7.heap.size := hb67.size
        exact HB.out.trans ((hb67.trans (hb8.mono s7)).mono HB.out.size)
    · obtain rfl : k = 4 := by omega
      have hpk : brr 256 (upto (42 * 4) (pk R) fun _ => 0) = brr 256 (pk R) := brr_congr fun j _ => pk_end R j
      rw [hpk] at HRow
      go_wp2
      go_ret2
      exact .inl ⟨HM.out, g2, rfl, HRow.out, q2.out, HB.out⟩
theorem pack_ok (R : Nat → RecV) (hR : ∀ k, k < 4 → (R k).Ok) (h : ∀ k, k < 4 → (R k).may = true) (w : World) : Calls Tryz.prog 110 #[.agg (recsC R).toArray] w fun e w' =>
    ∃ g, e = .returned (.tuple #[.slice (some ⟨g, 0, none⟩) 256 256, .int .i64 0]) ∧ Hid (Row w' g 5 (brr 256 (pk R))) ∧ Hid (w.heap.size ≤ g) ∧ Hid (Below w.heap.size w w') := by
  refine (pack_any R hR w).mono ?_
  rintro e w' (⟨_, g, rfl, hr, hq, hb⟩ | ⟨⟨k, hk, hm⟩, _⟩)
  · exact ⟨g, rfl, hr, hq, hb⟩
  · rw [h k hk] at hm
    cases hm
theorem pack_not (R : Nat → RecV) (hR : ∀ k, k < 4 → (R k).Ok) (k : Nat) (hk : k < 4) (h : (R k).may = false) (w : World) : Calls Tryz.prog 110 #[.agg (recsC R).toArray] w fun e w' =>
    e = .returned (.tuple #[.slice none 0 0, .int .i64 201]) ∧ Hid (Below w.heap.size w w') := by
  refine (pack_any R hR w).mono ?_
  rintro e w' (⟨hm, _⟩ | ⟨_, he, hb⟩)
  · rw [hm k hk] at h
    cases h
  · exact ⟨he, hb⟩
end Go.Proofs.YtpocccnhibjjcaaGreatDoor
/- Four records as a node's block, by the reference: what the call leaves, for every four records. Conditions: their numbers fit. -/
set_option linter.unusedVariables false
set_option maxRecDepth 20000
namespace Go.Proofs.YtpocccnhibjjcaaGreatDoor
open Go.RowKit

theorem lst_eq {n : Nat} {f : Nat → UInt8} {l : List UInt8} (hl : l.length = n) (h : ∀ j, j < n → f j = l.getD j 0) : lst n f = l := by
  apply List.ext_getElem?
  intro j
  by_cases hj : j < n
  · rw [lst_get f hj, h j hj, List.getD_eq_getElem?_getD, List.getElem?_eq_getElem (by omega)]
    rfl
  · rw [List.getElem?_eq_none (by rw [lst_len]; omega), List.getElem?_eq_none (by omega)]
end Go.Proofs.YtpocccnhibjjcaaGreatDoor
/- The record that is read by asking a cursor, by package node: what the call leaves. Conditions: its bytes are there. -/
set_option linter.unusedVariables false
set_option maxRecDepth 20000
namespace Go.Proofs.YtpocccnhibjjcaaGreatDoor
open Go.RowKit

def recOf (l : List UInt8) : RecV := ⟨(num (l.take 2) : Nat), num ((l.drop 2).take 4), num ((l.drop 6).take 4), fun i => l.getD (10 + i) 0⟩
theorem num_take_lt (l : List UInt8) (k : Nat) : num (l.take k) < 256 ^ k := by
  have h := num_lt (l.take k)
  have h2 : (l.take k).length ≤ k := by simp; omega
  exact Nat.lt_of_lt_of_le h (Nat.pow_le_pow_right (by decide) h2)
theorem recOf_ok (l : List UInt8) : (recOf l).Ok := ⟨num_take_lt (l.drop 2) 4, num_take_lt (l.drop 6) 4⟩
theorem nnx_in {n : Nat} {l : List UInt8} (bad : Bool) (hw : wid (n : Int) ≠ 0) (h : n ≤ l.length) : nnx (n : Int) l bad = (l.take n, l.drop n, bad) := by
  unfold nnx nxt
  rw [if_neg hw, if_neg (by omega), Int.toNat_natCast]
theorem nxt_in {n : Nat} {l : List UInt8} (bad : Bool) (h : n ≤ l.length) : nxt (n : Int) l bad = (l.take n, l.drop n, bad) := by
  unfold nxt
  rw [if_neg (by omega), Int.toNat_natCast]
theorem num2_at (g : Nat) (l : List UInt8) (bad : Bool) (w : World) (hc : Cur w g l bad) (h2 : 2 ≤ l.length) (hl : l.length ≤ 256) :
    Calls Tryz.prog 152 #[.pointer (some ⟨g, 0, none⟩), .int .i64 2] w fun e w' => e = .returned (.int .u64 (num (l.take 2) : Nat)) ∧ Hid (Cur w' g (l.drop 2) bad) ∧ Hid (w.grownBy w' (some g)) := by
  refine (num_any g l bad 2 w hc (by omega)).mono ?_
  rintro e w' ⟨h1, h2', h3⟩
  rw [show ((2 : Int)) = ((2 : Nat) : Int) from rfl, nnx_in bad (by decide) h2] at h1 h2'
  exact ⟨h1, h2', h3⟩
theorem num4_at (g : Nat) (l : List UInt8) (bad : Bool) (w : World) (hc : Cur w g l bad) (h2 : 4 ≤ l.length) (hl : l.length ≤ 256) :
    Calls Tryz.prog 152 #[.pointer (some ⟨g, 0, none⟩), .int .i64 4] w fun e w' => e = .returned (.int .u64 (num (l.take 4) : Nat)) ∧ Hid (Cur w' g (l.drop 4) bad) ∧ Hid (w.grownBy w' (some g)) := by
  refine (num_any g l bad 4 w hc (by omega)).mono ?_
  rintro e w' ⟨h1, h2', h3⟩
  rw [show ((4 : Int)) = ((4 : Nat) : Int) from rfl, nnx_in bad (by decide) h2] at h1 h2'
  exact ⟨h1, h2', h3⟩
theorem take32_at (g : Nat) (l : List UInt8) (bad : Bool) (w : World) (hc : Cur w g l bad) (h2 : 32 ≤ l.length) (hl : l.length ≤ 256) :
    Calls Tryz.prog 153 #[.pointer (some ⟨g, 0, none⟩), .int .i64 32] w fun e w' => ∃ A c, e = .returned (.slice A 32 c) ∧ Hid (Hol w' A (l.take 32)) ∧ Hid (∀ ad, A = some ad → w.heap.size ≤ ad.block) ∧ Hid (Cur w' g (l.drop 32) bad) ∧ Hid (w.grownBy w' (some g)) := by
  refine (take_any g l bad 32 w hc (by omega)).mono ?_
  rintro e w' ⟨v, h1, h2', h3, h4⟩
  rw [show ((32 : Int)) = ((32 : Nat) : Int) from rfl, nxt_in bad h2] at h2' h3
  have ho : w'.ownsRow w.heap.size 5 1 v 32 (bc (l.take 32)) := by
    have e32 : (l.take 32).length = 32 := by simp; omega
    have h5 : w'.ownsRow w.heap.size 5 1 v (l.take 32).length (bc (l.take 32)) := h2'
    rwa [e32] at h5
  obtain ⟨A, c, rfl⟩ := own_sl ho
  exact ⟨A, c, h1, Hol.own ho, fun ad hd => (ho.lt ad.block (by rw [hd]; rfl)).1, h3, h4⟩
structure NX (w0 w : World) (g g4 g5 : Nat) (r : RecV) (l : List UInt8) (bad : Bool) : Prop where
  r5 : Row w g5 87 r.cs
  r4 : Row w g4 87 rec0.cs
  cur : Cur w g l bad
  n : g < g4 ∧ g4 < g5
  q : w0.heap.size ≤ g4
  b : w0.grownBy w (some g)
theorem NX.turn {w0 w w' : World} {g g4 g5 : Nat} {r : RecV} {l l' : List UInt8} {bad : Bool} (h : NX w0 w g g4 g5 r l bad) (hc : Cur w' g l' bad) (hg : w.grownBy w' (some g)) : NX w0 w' g g4 g5 r l' bad :=
  ⟨h.r5.grown hg (fun e => by injection e with e; have := h.n; omega), h.r4.grown hg (fun e => by injection e with e; have := h.n; omega), hc, h.n, h.q, grown_trans h.b hg⟩
theorem NX.far {w0 w w' : World} {g g4 g5 : Nat} {r r' : RecV} {l : List UInt8} {bad : Bool} (h : NX w0 w g g4 g5 r l bad) (hr : Row w' g5 87 r'.cs) (hg : w.grownBy w' (some g5)) : NX w0 w' g g4 g5 r' l bad :=
  ⟨hr, h.r4.grown hg (fun e => by injection e with e; have := h.n; omega), h.cur.grown hg (fun e => by injection e with e; have := h.n; omega) (fun k hk cs e => by
    injection hk with hk
    subst hk
    have h5 := h.r5
    unfold Row at h5
    rw [h5] at e
    injection e with e
    injection e with _ e
    exact absurd e (by decide)), h.n, h.q, ⟨hg.os.trans h.b.os, hg.tape.trans h.b.tape, hg.output.trans h.b.output, Nat.le_trans h.b.size hg.size, fun k hk hne => (hg.block k (Nat.lt_of_lt_of_le hk h.b.size) (fun e => by injection e with e; have := h.n; have := h.q; omega)).trans (h.b.block k hk hne)⟩⟩
theorem NX.put {w0 w : World} {g g4 g5 : Nat} {r : RecV} {l : List UInt8} {bad : Bool} (h : NX w0 w g g4 g5 r l bad) (i : Nat) (v : Value) (r' : RecV) (e : r.cs.set i v = r'.cs) : NX w0 (w.setCell ⟨g5, i, none⟩ v) g g4 g5 r' l bad :=
  h.far (by rw [← e]; exact h.r5.put i v) (grown_set w ⟨g5, i, none⟩ v)
theorem NX.drew {w0 w : World} {g g4 g5 : Nat} {r : RecV} {l : List UInt8} {bad : Bool} (h : NX w0 w g g4 g5 r l bad) : NX w0 w.drew g g4 g5 r l bad :=
  h.turn (h.cur.below (below_draw w)) (grown_of_below (below_draw w))
theorem step_sum {P : Program} {w : World} {ops : Array Oper} {op : Oper} {a : Act} {Q : Exit → Act → World → Prop} {K : Act → World → Prop} {E : Prop} (hgd : op.guard = none) (d s : Operand) (dT sT : TypeId) (ho : op.op = .call { callee := .builtin .copy, args := #[d, s], argTypes := #[dT, sT] })
    (e : TypeId) (hu : P.underlying dT = some (.slice e)) (hs : (P.info? e).map (·.size) = some 1) (g : Nat) (t : TypeId) (r : RecV) (hd : a.eval d = .slice (some ⟨g, 3, none⟩) 32 32) (hr : _root_.Go.Proofs.YtpocccnhibjjcaaGreatDoor.Row w g t r.cs)
    (A : Option Addr) (c : Nat) (l : List UInt8) (hx : a.eval s = .slice A 32 c) (hl : l.length = 32) (hA : Hol w A l)
    (h : ∀ w' k, _root_.Go.Proofs.YtpocccnhibjjcaaGreatDoor.Row w' g t (RecV.cs ⟨r.a, r.e, r.s, fun i => l.getD i 0⟩) → w.grownBy w' (some g) → K (a.put op.dst (goInt k)) w') :
    if Region.wanted op (yielded ops a.tmps) = true then Oper.wp P op a w K Q else E := by
  have hw : Region.wanted op (yielded ops a.tmps) = true := by simp [Region.wanted, hgd]
  rw [if_pos hw]
  obtain ⟨ga, off, rfl, _, hcell⟩ := hA.some_ (by omega)
  have hrun := run_copy_row (P := P) w dT sT op.type e g 3 32 32 ⟨ga, off, none⟩ 32 c r.cs.toArray t (bc l) hu hs hr (by rw [bc_len, hl]; rfl) (fun j v hv => by
    obtain ⟨x, hx, rfl⟩ := bc_get hv
    rw [show (⟨ga, off, none⟩ : Addr).add j = ⟨ga, off + j, none⟩ by unfold Addr.add; split <;> simp_all]
    exact hcell j x hx) (by rw [bc_len, hl]; simp [RecV.cs_len]) (bc_one _)
  have e1 : r.cs.take 3 ++ bc l ++ r.cs.drop (3 + (bc l).length) = RecV.cs ⟨r.a, r.e, r.s, fun i => l.getD i 0⟩ := by
    have e2 : bc l = brr 32 (fun i => l.getD i 0) := by
      rw [lst_bc, lst_eq hl (fun j _ => rfl)]
    have e3 : r.cs.drop (3 + (bc l).length) = [] := List.drop_eq_nil_of_le (by rw [r.cs_len, bc_len, hl]; exact Nat.le_refl _)
    rw [e3, List.append_nil, e2]
    rfl
  have e4 : r.cs.toArray.toList = r.cs := rfl
  rw [e4, e1] at hrun
  unfold Oper.wp execOp
  simp only [ho, resolve, invoke, builtin, Sem.run_bind, Sem.run_pure, Result.andThen_ok, List.map_toArray, List.map_cons, List.map_nil, hd, hx, hrun]
  exact h _ _ (setRow_heap w g _ _ t _ hr) ⟨rfl, rfl, rfl, by simp, fun k hk hne => setRow_other w g k _ (fun e => hne (by rw [e]))⟩
end Go.Proofs.YtpocccnhibjjcaaGreatDoor
/- The record that is read by asking a cursor, by package node: the walk. Conditions: its bytes are there. -/
set_option linter.unusedVariables false
set_option maxRecDepth 20000
namespace Go.Proofs.YtpocccnhibjjcaaGreatDoor
open Go.RowKit

def NextRec (g : Nat) (l : List UInt8) (bad : Bool) (w : World) (e : Ending) (w' : World) : Prop :=
  e = .returned (.agg (recOf l).cs.toArray) ∧ Hid (Cur w' g (l.drop 42) bad) ∧ Hid (w.grownBy w' (some g))
set_option maxHeartbeats 2000000 in
theorem next_rec (g : Nat) (l : List UInt8) (bad : Bool) (w : World) (hc : Cur w g l bad) (h42 : 42 ≤ l.length) (hl : l.length ≤ 256) :
    Calls Tryz.prog 151 #[.func (.func 152) #[.pointer (some ⟨g, 0, none⟩)] #[], .func (.func 153) #[.pointer (some ⟨g, 0, none⟩)] #[]] w (NextRec g l bad w) := by
  obtain ⟨i, U⟩ := u8_tab
  have h8 := Lib.hid (p := (Tryz.prog.info? 5).map (·.size) = some 1) (by rw [U.hi]; simp [U.h1])
  have i35 := Lib.hid (p := ∀ r : RecV, (Tryz.prog.info? 87).map (·.size) = some r.cs.length) (fun r => by rw [r.cs_len]; exact info_rec)
  have hz := Lib.hid zero_rec
  have HC := Lib.hid hc
  have H42 := Lib.hid h42
  have HL := Lib.hid hl
  obtain ⟨a, ha⟩ : ∃ a, a = num (l.take 2) := ⟨_, rfl⟩
  obtain ⟨e, he⟩ : ∃ e, e = num ((l.drop 2).take 4) := ⟨_, rfl⟩
  obtain ⟨s, hs⟩ : ∃ s, s = num ((l.drop 6).take 4) := ⟨_, rfl⟩
  have ba : a < 65536 := by rw [ha]; exact num_take_lt l 2
  have be : e < 4294967296 := by rw [he]; exact num_take_lt (l.drop 2) 4
  have bs : s < 4294967296 := by rw [hs]; exact num_take_lt (l.drop 6) 4
  have wa : IntKind.i64.wrap (a : Int) = (a : Int) := by rw [IntKind.wrap_i64]; omega
  have we : IntKind.u32.wrap (e : Int) = (e : Int) := by rw [IntKind.wrap_u32']; omega
  have ws : IntKind.u32.wrap (s : Int) = (s : Int) := by rw [IntKind.wrap_u32']; omega
  have we' : (e : Int) % 4294967296 = (e : Int) := by omega
  have ws' : (s : Int) % 4294967296 = (s : Int) := by omega
  have HA := Lib.hid ha
  have HE := Lib.hid he
  have HS := Lib.hid hs
  clear hc h42 hl ha he hs ba be bs
  go_enter Tryz.func151, Tryz.ntmps151
  go_wp2_with (first
    | (refine step_alloc rfl 4 rfl 87 rfl _ hz ?_; intro g4 w1 hr1 hg1 hb1 hs1)
    | (refine step_alloc rfl 5 rfl 87 rfl _ hz ?_; intro g5 w2 hr2 hg2 hb2 hs2
       have N2 := Lib.hid (p := NX w w2 g g4 g5 rec0 l bad) ⟨hr2, hr1.kept hb2, HC.out.below (hb1.trans (hb2.mono hb1.size)), ⟨by have := HC.out.lt; have := hg1.out; omega, by have := hr1.lt; have := hg2.out; omega⟩, by rw [hg1.out]; exact Nat.le_refl _, grown_of_below (hb1.trans (hb2.mono hb1.size))⟩
       clear hr1 hg1 hb1 hs1 hr2 hg2 hb2 hs2)
    | (go_at_call_of 152 (Value.int IntKind.i64 2); refine (num2_at g l bad _ N2.out.cur (by have := H42.out; omega) HL.out).mono ?_; rintro x3 w3 ⟨rfl, hc3, hg3⟩; rw [← HA.out]
       have N3 := Lib.hid (N2.out.turn hc3.out hg3.out)
       have c30 : w3.cell? ⟨g5, 0, none⟩ = some (.int .i64 0) := by rw [N3.out.r5.cell]; rfl
       have f30 := N3.out.r5.free 0
       have N4 := Lib.hid (N3.out.put 0 (.int .i64 (a : Int)) ⟨(a : Int), 0, 0, fun _ => 0⟩ rfl)
       clear hc3 hg3))
  refine (num4_at g (l.drop 2) bad _ N4.out.cur (by have := H42.out; rw [List.length_drop]; omega) (by have := HL.out; rw [List.length_drop]; omega)).mono ?_
  rintro x5 w5 ⟨rfl, hc5, hg5⟩
  rw [← HE.out]
  have N5 := Lib.hid (N4.out.turn hc5.out hg5.out)
  have c51 : w5.cell? ⟨g5, 1, none⟩ = some (.int .u32 0) := by rw [N5.out.r5.cell]; rfl
  have f51 := N5.out.r5.free 1
  have N6 := Lib.hid (N5.out.put 1 (.int .u32 (e : Int)) ⟨(a : Int), e, 0, fun _ => 0⟩ rfl)
  clear hc5 hg5 c30 f30 N2 N3 N4
  go_wp2_with fail
  have e6 : (l.drop 2).drop 4 = l.drop 6 := by rw [List.drop_drop]
  rw [e6] at N6
  refine (num4_at g (l.drop 6) bad _ N6.out.cur (by have := H42.out; rw [List.length_drop]; omega) (by have := HL.out; rw [List.length_drop]; omega)).mono ?_
  rintro x7 w7 ⟨rfl, hc7, hg7⟩
  rw [← HS.out]
  have N7 := Lib.hid (N6.out.turn hc7.out hg7.out)
  have c72 : w7.cell? ⟨g5, 2, none⟩ = some (.int .u32 0) := by rw [N7.out.r5.cell]; rfl
  have f72 := N7.out.r5.free 2
  have N8 := Lib.hid (N7.out.put 2 (.int .u32 (s : Int)) ⟨(a : Int), e, s, fun _ => 0⟩ rfl)
  have e10 : (l.drop 6).drop 4 = l.drop 10 := by rw [List.drop_drop]
  rw [e10] at N8
  clear hc7 hg7 c51 f51 N5 N6 N7 e6 e10
  go_wp2_with fail
  generalize w7.setCell ⟨g5, 2, none⟩ (.int .u32 (s : Int)) = w8 at *
  refine wp_region_held_drew (S := fun _ => True) (by kernel_rfl) trivial (fun hHeld => ?_)
  refine wpAnyH_take (i := 0) (oi := ⟨some 18, .fieldAddr 87 (.tmp 5) 3, _, _, _, _⟩) (v := .pointer (some ⟨g5, 3, none⟩)) rfl (by kernel_rfl) (by kernel_rfl) (by kernel_rfl) (fun _ _ _ h => h) (.inl ⟨by rfl, fun w hSw => by go_simp⟩) (by assumption) ?_
  simp only [Act.put, List.setIfInBounds_toArray, List.set_cons_zero, List.set_cons_succ]
  refine wpAnyH_take (i := 1) (oi := ⟨some 19, .slice 85 (.tmp 18) none none none, _, _, _, _⟩) (v := .slice (some ⟨g5, 3, none⟩) 32 32) rfl (by kernel_rfl) (by kernel_rfl) (by kernel_rfl) (fun _ _ _ h => h) (.inl ⟨by rfl, fun w hSw => by go_simp⟩) (by assumption) ?_
  simp only [Act.put, List.setIfInBounds_toArray, List.set_cons_zero, List.set_cons_succ]
  refine wpAnyH_take (i := 2) (oi := ⟨some 20, .move (.tmp 1), _, _, _, _⟩) (v := .func (.func 153) #[.pointer (some ⟨g, 0, none⟩)] #[]) rfl (by kernel_rfl) (by kernel_rfl) (by kernel_rfl) (fun _ _ _ h => h) (.inl ⟨by rfl, fun w hSw => by go_simp⟩) (by assumption) ?_
  simp only [Act.put, List.setIfInBounds_toArray, List.set_cons_zero, List.set_cons_succ]
  refine wpAnyH_ready (rs := [3]) (by kernel_rfl) (by simp) ?_
  refine AllReadyH.cons (o := ⟨some 21, .call ⟨.value (.tmp 20), #[.const (.int .i64 32)], _⟩, _, _, _, _⟩) rfl (fun K hK => ?_) AllReadyH.nil
  go_simp
  refine (take32_at g (l.drop 10) bad _ N8.out.drew.cur (by have := H42.out; rw [List.length_drop]; omega) (by have := HL.out; rw [List.length_drop]; omega)).mono ?_
  rintro x9 w9 ⟨A9, c9, rfl, HH9, hq9, hc9, hg9⟩
  have e42 : (l.drop 10).drop 32 = l.drop 42 := by rw [List.drop_drop]
  rw [e42] at hc9
  have N9 := Lib.hid (N8.out.drew.turn hc9.out hg9.out)
  clear hc9 hg9 hq9 N8 e42 c72 f72
  refine hK.out _ _ trivial (fun hH2 => ?_)
  clear hK K
  refine wpAnyH_ready (rs := [4]) (by kernel_rfl) (by simp) ?_
  refine AllReadyH.cons (o := ⟨some 22, .call ⟨.builtin .copy, #[.tmp 19, .tmp 21], #[35, 35]⟩, _, _, _, _⟩) rfl (fun K hK => ?_) AllReadyH.nil
  refine step_sum rfl (.tmp 19) (.tmp 21) _ _ rfl 5 U.ht h8.out g5 _ ⟨(a : Int), e, s, fun _ => 0⟩ rfl N9.out.r5 A9 c9 ((l.drop 10).take 32) rfl (by have := H42.out; simp; omega) HH9.out ?_
  intro w10 k10 hr10 hg10
  have hrec : RecV.cs ⟨(a : Int), e, s, fun i => ((l.drop 10).take 32).getD i 0⟩ = (recOf l).cs := by
    unfold recOf RecV.cs
    rw [HA.out, HE.out, HS.out]
    congr 1
    refine brr_congr fun j hj => ?_
    simp only [List.getD_eq_getElem?_getD, List.getElem?_take, List.getElem?_drop]
    rw [if_pos hj]
  have N10 := Lib.hid (N9.out.far (r' := recOf l) (by rw [← hrec]; exact hr10) hg10)
  clear hr10 hg10 hrec N9
  refine hK.out _ _ trivial (fun hH3 => ?_)
  clear hK K
  refine wpAnyH_done (by kernel_rfl) ?_ _
  go_wp2_with (first
    | (refine step_load rfl 23 rfl 87 (.tmp 5) rfl g5 rfl (recOf l).cs _ N10.out.r5.all Tryz.underlying87 rfl (i35.out _) ?_)
    | (refine step_store rfl 87 (.tmp 4) (.tmp 23) rfl g4 (by rfl) _ rec0.cs (recOf l).cs (by rfl) N10.out.r4 (by rw [RecV.cs_len, RecV.cs_len]) (i35.out _) (RecV.cs_one _) ?_; intro w11 hr11 hg11 hs11))
  refine bodyPost_ret (results_cell_row rfl _ _ g4 _ _ _ _ rfl hr11 Tryz.underlying87 rfl (by simpa using i35.out (recOf l))) rfl ?_
  have hN := N10.out
  refine ⟨rfl, hN.cur.grown hg11 (fun e => by injection e with e; have := hN.n; omega) (fun k hk cs e => by
    injection hk with hk
    subst hk
    have h5 := hN.r4
    unfold Row at h5
    rw [h5] at e
    injection e with e
    injection e with _ e
    exact absurd e (by decide)), ?_⟩
  exact ⟨hg11.os.trans hN.b.os, hg11.tape.trans hN.b.tape, hg11.output.trans hN.b.output, Nat.le_trans hN.b.size hg11.size, fun k hk hne => (hg11.block k (Nat.lt_of_lt_of_le hk hN.b.size) (fun e => by injection e with e; have := hN.q; omega)).trans (hN.b.block k hk hne)⟩
end Go.Proofs.YtpocccnhibjjcaaGreatDoor
/- What the sixth stage's laws ask first: a node, a block and a record that answer as the document fixes. No conditions. -/
set_option linter.unusedVariables false
set_option maxRecDepth 20000
namespace Go.Proofs.YtpocccnhibjjcaaGreatDoor
open Go.RowKit

theorem rec0_ok : rec0.Ok := ⟨by decide, by decide⟩
theorem rec0_may : rec0.may = true := by unfold RecV.may; rw [RecV.eqb_refl]; simp
end Go.Proofs.YtpocccnhibjjcaaGreatDoor
/- Another record changes its own bytes of a node's block and no others: the walk. No conditions. -/
set_option linter.unusedVariables false
set_option maxRecDepth 20000
namespace Go.Proofs.YtpocccnhibjjcaaGreatDoor
open Go.RowKit

theorem row_setCells {g : Nat} {t : TypeId} : ∀ (xs : List Value) (o : Nat) (w : World) (cs : List Value), Row w g t cs → o + xs.length ≤ cs.length →
    Row (w.setCells g o xs) g t (cs.take o ++ (xs ++ cs.drop (o + xs.length))) ∧ w.grownBy (w.setCells g o xs) (some g)
  | [], o, w, cs, h, _ => by
    refine ⟨?_, rfl, rfl, rfl, Nat.le_refl _, fun _ _ _ => rfl⟩
    rw [List.length_nil, Nat.add_zero, List.nil_append, List.take_append_drop]
    exact h
  | v :: r, o, w, cs, h, hl => by
    have hl' : o + (r.length + 1) ≤ cs.length := by simpa using hl
    obtain ⟨h1, h2⟩ := row_setCells r (o + 1) (w.setCell ⟨g, o, none⟩ v) (cs.set o v) (h.put o v) (by rw [List.length_set]; omega)
    have e1 : (cs.set o v).take (o + 1) = cs.take o ++ [v] := by
      rw [List.take_add_one, List.getElem?_set_self (by omega), List.take_set_of_le (Nat.le_refl _)]
      rfl
    have e2 : (cs.set o v).drop (o + 1 + r.length) = cs.drop (o + (v :: r).length) := by
      rw [List.drop_set_of_lt (by omega), List.length_cons, Nat.add_comm r.length 1, ← Nat.add_assoc]
    rw [e1, e2] at h1
    refine ⟨?_, grown_trans (grown_set w ⟨g, o, none⟩ v) h2⟩
    rw [List.append_assoc] at h1
    exact h1
theorem step_store_mid {P : Program} {ops : Array Oper} {rest : List Oper} {o : Oper} {a : Act} {w : World} {Q : Exit → Act → World → Prop} (hgd : o.guard = none) (ty : TypeId) (x y : Operand) (ho : o.op = .store ty x y) (g k : Nat) (hx : a.eval x = .pointer (some ⟨g, k, none⟩)) (t : TypeId) (old cs : List Value) (hy : a.eval y = .agg cs.toArray)
    (hr : Row w g t old) (hl : k + cs.length ≤ old.length) (hi : (P.info? ty).map (·.size) = some cs.length) (h1 : ∀ v ∈ cs, v.oneCell' = true)
    (h : ∀ w', Row w' g t (old.take k ++ (cs ++ old.drop (k + cs.length))) → w.grownBy w' (some g) → wpList P ops Q rest (a.put o.dst undef) w') : wpList P ops Q (o :: rest) a w := by
  obtain ⟨h2, h3⟩ := row_setCells cs k w old hr hl
  exact wpList_store_mid hgd ty x y ho g k cs.toArray hx hy (by have h0 := hr.is_there k cs.length hl; simpa using h0) (by simpa using hi) (all_oneCell_toArray h1) (h _ h2 h3)
namespace nodePlaces

def put (R : Nat → RecV) (i : Nat) (r : RecV) : Nat → RecV := fun j => if j = i then r else R j
end nodePlaces
end Go.Proofs.YtpocccnhibjjcaaGreatDoor
/- Bytes compared by package bytes; four records of which some are read. Conditions: those named. -/
set_option linter.unusedVariables false
set_option maxRecDepth 20000
namespace Go.Proofs.YtpocccnhibjjcaaGreatDoor
open Go.RowKit

theorem string_beq (a b : List UInt8) : ((⟨a.toArray⟩ : ByteArray).toList == (⟨b.toArray⟩ : ByteArray).toList) = decide (a = b) := by
  rw [ByteArray.toList_eq, ByteArray.toList_eq, Bool.eq_iff_iff]
  simp
theorem bequal_any (A B : Option Addr) (n m c d : Nat) (a b : List UInt8) (hn : n = a.length) (hm : m = b.length) (w : World) (hA : Hol w A a) (hB : Hol w B b) :
    Calls Tryz.prog 154 #[.slice A n c, .slice B m d] w fun e w' => e = .returned (.bool (decide (a = b))) ∧ w' = w := by
  have h1 := run_to_string (P := Tryz.prog) w 35 9 5 A c n a hn Tryz.underlying35 Tryz.underlying5 Tryz.underlying9 hA
  have h2 := run_to_string (P := Tryz.prog) w 35 9 5 B d m b hm Tryz.underlying35 Tryz.underlying5 Tryz.underlying9 hB
  have hs := string_beq a b
  generalize (⟨a.toArray⟩ : ByteArray) = S at *
  generalize (⟨b.toArray⟩ : ByteArray) = T at *
  clear hA hB hn hm
  go_enter Tryz.func154, Tryz.ntmps154
  go_wp2
  go_ret
  exact ⟨by rw [← hs]; rfl, rfl⟩
theorem recsC_congr {R Q : Nat → RecV} (h : ∀ j, j < 4 → R j = Q j) : recsC R = recsC Q := by
  unfold recsC
  rw [h 0 (by omega), h 1 (by omega), h 2 (by omega), h 3 (by omega)]
def upR (R : Nat → RecV) (k : Nat) : Nat → RecV := fun j => if j < k then R j else rec0
theorem upR_zero (R : Nat → RecV) : recsC (upR R 0) = recsC fun _ => rec0 := recsC_congr fun j _ => by unfold upR; rw [if_neg (by omega)]
theorem upR_step (R : Nat → RecV) (k : Nat) : recsC (fun j => if j = k then R k else upR R k j) = recsC (upR R (k + 1)) := recsC_congr fun j _ => by
  unfold upR
  by_cases h : j = k
  · subst h
    rw [if_pos rfl, if_pos (by omega)]
  · rw [if_neg h]
    by_cases h2 : j < k
    · rw [if_pos h2, if_pos (by omega)]
    · rw [if_neg h2, if_neg (by omega)]
theorem upR_all (R : Nat → RecV) : recsC (upR R 4) = recsC R := recsC_congr fun j hj => by unfold upR; rw [if_pos hj]
def unR (l : List UInt8) (k : Nat) : RecV := recOf (l.drop (42 * k))
def unOk (l : List UInt8) : Bool := ((unR l 0).may && (unR l 1).may && (unR l 2).may && (unR l 3).may) && decide (lst 256 (pk (unR l)) = l)
theorem unR_ok (l : List UInt8) (k : Nat) : (unR l k).Ok := recOf_ok _
theorem unOk_may {l : List UInt8} (h : unOk l = true) (k : Nat) (hk : k < 4) : (unR l k).may = true := by
  unfold unOk at h
  simp only [Bool.and_eq_true] at h
  obtain ⟨⟨⟨⟨h0, h1⟩, h2⟩, h3⟩, _⟩ := h
  match k, hk with
  | 0, _ => exact h0
  | 1, _ => exact h1
  | 2, _ => exact h2
  | 3, _ => exact h3
theorem unOk_not {l : List UInt8} (h : ∀ k, k < 4 → (unR l k).may = true) : unOk l = decide (lst 256 (pk (unR l)) = l) := by
  unfold unOk
  rw [h 0 (by omega), h 1 (by omega), h 2 (by omega), h 3 (by omega)]
  rfl
theorem unOk_bad {l : List UInt8} {k : Nat} (hk : k < 4) (h : (unR l k).may = false) : unOk l = false := by
  cases h' : unOk l
  · rfl
  · rw [unOk_may h' k hk] at h
    cases h
end Go.Proofs.YtpocccnhibjjcaaGreatDoor
