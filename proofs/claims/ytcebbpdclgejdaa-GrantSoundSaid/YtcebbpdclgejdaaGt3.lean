/- The walk of GrantSound. Conditions: those named. -/
import Derived.Test.YtcebbpdclgejdaaGs2
import Derived.Deep.Cut
import Derived.OpenShut
set_option linter.unusedVariables false
set_option maxRecDepth 20000
namespace Go.Proofs.Ytcebbpdclgejdaa
open Go.RowKit

theorem u8_num {z : Int} (h : (Lit.int .u8 z).wf = true) : ∃ n : Nat, z = (n : Int) ∧ n < 256 := by
  have hb := bounds_u8 h
  exact ⟨z.toNat, by omega, by omega⟩
theorem dos_cell {W w : World} {A : Option Addr} {n c : Nat} {ds : List (Int × Int)} (h : InP W A n c ds) {k : Nat} (hk : k < n) : ∃ (ga oa : Nat) (d : Int × Int), A = some ⟨ga, oa, none⟩ ∧ W.cell? ⟨ga, oa + k * 2, none⟩ = some (.int .i64 d.1) ∧ W.cell? ⟨ga, oa + k * 2 + 1, none⟩ = some (.int .i64 d.2) := by
  obtain ⟨d, hd⟩ : ∃ d, ds[k]? = some d := ⟨_, List.getElem?_eq_getElem (by rw [← h.len_]; exact hk)⟩
  obtain ⟨g, o, e, h1, h2⟩ := h.at_ k d hd
  exact ⟨g, o, d, e, h1, h2⟩
/-- What Take leads to. -/
theorem take_two (x : Sup) (h : x.May) (z : Nat) : (∀ w, Calls Try.prog 14 #[.agg x.cs.toArray, .int .i64 (z : Int)] w fun e w' => e = .returned (.tuple #[.agg x.cs.toArray, .int .i64 0, .int .i64 28]) ∧ Below w.heap.size w w') ∨
    ∃ k, 1 ≤ k ∧ k < 256 ∧ k < z ∧ x.u k = false ∧ ∀ w, Calls Try.prog 14 #[.agg x.cs.toArray, .int .i64 (z : Int)] w fun e w' => e = .returned (.tuple #[.agg (x.setU k true).cs.toArray, .int .i64 (k : Int), .int .i64 0]) ∧ Below w.heap.size w w' := by
  rcases least_bad (fun j => (j : Int) < (z : Int) → x.u j = true) 256 with hn | ⟨k, hk, hkn, hkb⟩
  · exact .inl (fun w => take_no x z (fun j hj hjz => hn j hj hjz) w)
  · have hkz : (k : Int) < (z : Int) := Classical.byContradiction fun hc => hkn fun h2 => absurd h2 hc
    have hu : x.u k = false := by
      cases hu : x.u k
      · rfl
      · exact absurd (fun _ => hu) hkn
    refine .inr ⟨k, ?_, hk, by omega, hu, fun w => take_ok x z k hk hkz hu (fun j hj => hkb j hj (by omega)) w⟩
    have : k ≠ 0 := fun e => by rw [e, h.2.1] at hu; cases hu
    omega
theorem add_two (x : Sup) (h : x.May) (z : Nat) : (∃ e : Int, (e == 0) = false ∧ ∀ w, Calls Try.prog 15 #[.agg x.cs.toArray, .int .i64 (z : Int)] w fun e2 w' => e2 = .returned (.tuple #[.agg x.cs.toArray, .int .i64 0, .int .i64 e]) ∧ Below w.heap.size w w') ∨
    ∃ k s, k < 64 ∧ s < 256 ∧ s < z ∧ x.i (k + 1) = 0 ∧ x.u s = false ∧ ∀ w, Calls Try.prog 15 #[.agg x.cs.toArray, .int .i64 (z : Int)] w fun e w' => e = .returned (.tuple #[.agg ((x.setU s true).setI (k + 1) s).cs.toArray, .int .i64 ((k + 1 : Nat) : Int), .int .i64 0]) ∧ Below w.heap.size w w' := by
  rcases least_bad (fun j => x.i (j + 1) ≠ 0) 64 with hf | ⟨k, hk, hk0, hkb⟩
  · exact .inl ⟨23, rfl, fun w => add_full x z hf w⟩
  · have h0 : x.i (k + 1) = 0 := Classical.byContradiction hk0
    rcases least_bad (fun j => (j : Int) < (z : Int) → x.u j = true) 256 with hn | ⟨s, hs, hsn, hsb⟩
    · exact .inl ⟨28, rfl, fun w => add_nospace x z k hk h0 hkb (fun j hj hjz => hn j hj hjz) w⟩
    · have hsz : (s : Int) < (z : Int) := Classical.byContradiction fun hc => hsn fun h2 => absurd h2 hc
      have hu : x.u s = false := by
        cases hu : x.u s
        · rfl
        · exact absurd (fun _ => hu) hsn
      exact .inr ⟨k, s, hk, hs, by omega, h0, hu, fun w => add_ok x z k s hk h0 hkb hs hsz hu (fun j hj => hsb j hj (by omega)) w⟩
theorem remove_two (x : Sup) (h : x.May) (z : Int) : ∃ y : Sup, y.May ∧ y.s = x.s ∧ ∀ w, Calls Try.prog 16 #[.agg x.cs.toArray, .int .i64 z] w fun e w' => e = .returned (.agg y.cs.toArray) ∧ Below w.heap.size w w' := by
  by_cases hz : 1 ≤ z ∧ z ≤ 64
  · obtain ⟨k, rfl⟩ : ∃ k : Nat, z = (k : Int) := ⟨z.toNat, by omega⟩
    by_cases h0 : x.i k = 0
    · exact ⟨x, h, rfl, fun w => remove_none x k (by omega) h0 w⟩
    · have hm := may_less x h k (by omega) h0
      exact ⟨x.less k, hm.1, hm.2, fun w => remove_ok x k (by omega) h0 w⟩
  · exact ⟨x, h, rfl, fun w => remove_out x z hz w⟩
set_option maxHeartbeats 8000000 in
theorem gsoundW (A : Option Addr) (n c : Nat) (ds : List (Int × Int)) (m : Nat) (hm : m < 256) (w : World) (hds : InP w A n c ds) : Calls Try.prog 5 #[.slice A n c, .int .u8 (m : Int)] w fun e w' => e = .returned (.bool true) ∧ Below w.heap.size w w' := by
  have i1 := Lib.hid (fun x : Sup => info_cs x)
  have hz := Lib.hid zero_sup
  obtain ⟨z, hzz⟩ : ∃ z, m + 1 = z := ⟨_, rfl⟩
  have hmw : IntKind.i64.wrap (m : Int) = (m : Int) := by rw [IntKind.wrap_i64]; omega
  have hzw : IntKind.i64.wrap ((m : Int) + 1) = (z : Int) := by rw [IntKind.wrap_i64]; omega
  have HZM := Lib.hid (p := m + 1 = z ∧ m < 256) ⟨hzz, hm⟩
  have HDS := Lib.hid hds
  have hlen9 : (n : Int) ≤ 9223372036854775807 := by have h1 := hds.cap_; have h2 := hds.max_; unfold maxLen at h2; omega
  clear hzz hm hds
  go_enter Try.func5, Try.ntmps5
  go_wp2_with (first
    | (go_at_call 7; refine (gawake_any _).mono ?_; rintro e w1 ⟨rfl, hb1⟩; have HB1 := Lib.hid hb1; clear hb1)
    | (go_at_call 13; refine (gnew_any _).mono ?_; rintro e w2 ⟨rfl, hb2⟩; have HB2 := Lib.hid (below_nxt hb2 HB1.out); clear hb2)
    | (refine step_alloc rfl 5 rfl 27 rfl _ hz.out ?_; intro g5 w3 hr3 hg3 hb3 hs3
       have R3 := Lib.hid hr3
       have Q3 := Lib.hid (p := w.heap.size ≤ g5) (by rw [hg3.out]; exact HB2.out.size)
       have HB3 := Lib.hid (below_nxt hb3 HB2.out)
       clear hr3 hg3 hb3 hs3)
    | (refine step_store rfl 27 (.tmp 5) (.tmp 20) rfl g5 (by rfl) _ sup0.cs supN.cs (by rfl) R3.out (by simp only [Sup.cs_len]) (i1.out _) (Sup.cs_one _) ?_; intro w4 hr4 hg4 hs4
       have R4 := Lib.hid hr4
       have HB4 := Lib.hid (below_own HB3.out hg4 Q3.out)
       clear hr4 hg4 hs4))
  go_loopw [6] (fun y wr => ∃ (k : Nat) (x : Sup), Hid (k ≤ 300) ∧ y = .int .i64 (k : Int) ∧ Hid (Row wr g5 27 x.cs) ∧ Hid (x.May ∧ x.s = 1) ∧ Hid (Below w.heap.size w wr)) (fun y _ => 300 - (intOf y).toNat)
  case atStart => exact ⟨0, supN, Lib.hid (by omega), rfl, R4, Lib.hid ⟨may_N, rfl⟩, HB4⟩
  case round =>
    clear R4 HB4 R3 HB3 HB2 HB1
    obtain ⟨k, x, HK, rfl, HR, HX, HB⟩ := hrel
    have hkw : IntKind.i64.wrap ((k : Int) + 1) = (k : Int) + 1 := by rw [IntKind.wrap_i64]; have := HK.out; omega
    by_cases hlt : k < n ∧ k < 300
    · obtain ⟨ga, oa, ⟨kd, ka⟩, rfl, c0, c1⟩ := dos_cell (w := wr) HDS.out hlt.1
      have hga := World.block_lt_of_cell? w _ c0
      have c0r : wr.cell? ⟨ga, oa + k * 2, none⟩ = some (.int .i64 kd) := (HB.out.cell (p := ⟨ga, oa + k * 2, none⟩) hga).trans c0
      have c1r : wr.cell? ⟨ga, oa + k * 2 + 1, none⟩ = some (.int .i64 ka) := (HB.out.cell (p := ⟨ga, oa + k * 2 + 1, none⟩) hga).trans c1
      have hk1 : (k : Int) < (n : Int) := by omega
      have hk2 : (k : Int) < 300 := by omega
      have hk0 : (0 : Int) ≤ (k : Int) := by omega
      have d1 : decide (k < n) = true := decide_eq_true hlt.1
      have d2 : decide (k < 300) = true := decide_eq_true hlt.2
      have HKK := Lib.hid (p := k < 300) hlt.2
      clear c0 c1 hlt hga
      go_upto_region 8 with fail
      have hba : Below wr.heap.size wr (wr.alloc (.cells #[.int .i64 kd, .int .i64 ka] 41)) := (Below.refl _ _).alloc (Nat.le_refl _) _
      have HRa := Lib.hid (HR.out.kept hba)
      have HBa := Lib.hid (below_nxt hba HB.out)
      have ca0 : (wr.alloc (.cells #[.int .i64 kd, .int .i64 ka] 41)).cell? ⟨wr.heap.size, 0, none⟩ = some (.int .i64 kd) := by simp
      have ca1 : (wr.alloc (.cells #[.int .i64 kd, .int .i64 ka] 41)).cell? ⟨wr.heap.size, 1, none⟩ = some (.int .i64 ka) := by simp
      have HG7 := Lib.hid (p := wr.heap.size < (wr.alloc (.cells #[.int .i64 kd, .int .i64 ka] 41)).heap.size) (by simp)
      obtain ⟨wa, hwa⟩ : ∃ wa, wr.alloc (.cells #[.int .i64 kd, .int .i64 ka] 41) = wa := ⟨_, rfl⟩
      obtain ⟨g7, hg7⟩ : ∃ g7, wr.heap.size = g7 := ⟨_, rfl⟩
      rw [hwa] at HRa HBa ca0 ca1 HG7 ⊢
      rw [hg7] at ca0 ca1 HG7 ⊢
      clear hwa hba hg7 HR HB c0r c1r
      by_cases k0 : kd = 0
      · subst k0
        rcases take_two x HX.out.1 z with hT | ⟨s, hs1, hs2, hsz, hu, hT⟩
        · have HT := Lib.hid hT
          clear hT
          go_wp2_with (first
          | (refine step_load rfl 40 rfl 27 (.tmp 5) rfl g5 rfl x.cs _ HRa.out.all Try.underlying27 rfl (i1.out _) ?_)
          | (go_at_call 14; refine (HT.out _).mono ?_; rintro e w5 ⟨rfl, hb5⟩
             have R5 := Lib.hid (HRa.out.kept hb5)
             have HB5 := Lib.hid (below_nxt hb5 HBa.out)
             clear hb5)
          | (refine step_alloc rfl 8 rfl 27 rfl _ hz.out ?_; intro g8 w6 hr6 hg6 hb6 hs6
             have R6 := Lib.hid hr6
             have R56 := Lib.hid (R5.out.kept hb6)
             have Q8 := Lib.hid (p := w.heap.size ≤ g8 ∧ g5 < g8) (by rw [hg6.out]; exact ⟨HB5.out.size, R5.out.lt⟩)
             have HB6 := Lib.hid (below_nxt hb6 HB5.out)
             clear hr6 hg6 hb6 hs6)
          | (refine step_store rfl 27 (.tmp 8) (.tmp 45) rfl g8 (by rfl) _ sup0.cs (x).cs (by rfl) R6.out (by simp only [Sup.cs_len]) (i1.out _) (Sup.cs_one _) ?_; intro w8 hr8 hg8 hs8
             have R8 := Lib.hid hr8
             have R58 := Lib.hid (R56.out.grown hg8 (fun e => by injection e with e; have := Q8.out; omega))
             have HB8 := Lib.hid (below_own HB6.out hg8 Q8.out.1)
             clear hr8 hg8 hs8)
          | (refine step_load rfl 66 rfl 27 (.tmp 8) rfl g8 rfl x.cs _ R8.out.all Try.underlying27 rfl (i1.out _) ?_)
          | (refine step_store rfl 27 (.tmp 5) (.tmp 66) rfl g5 (by rfl) _ x.cs (x).cs (by rfl) R58.out (by simp only [Sup.cs_len]) (i1.out _) (Sup.cs_one _) ?_; intro w9 hr9 hg9 hs9
             have R9 := Lib.hid hr9
             have HB9 := Lib.hid (below_own HB8.out hg9 Q3.out)
             clear hr9 hg9 hs9))
          go_roundw
          case rel => exact ⟨k + 1, x, Lib.hid HKK.out, by go_num, R9, Lib.hid HX.out, HB9⟩
          case measure => have := HKK.out; simp [intOf]; omega
        · have HT := Lib.hid hT
          obtain ⟨y, hy⟩ : ∃ y, x.setU s true = y := ⟨_, rfl⟩
          have HY := Lib.hid (p := y.May ∧ y.s = 1) (by rw [← hy]; exact ⟨may_take x HX.out.1 s, HX.out.2⟩)
          rw [hy] at HT
          have hs1i : ¬ (s : Int) < 1 := by omega
          have hsm : ¬ (m : Int) < (s : Int) := by have := HZM.out; omega
          have hs0i : (0 : Int) ≤ (s : Int) := by omega
          have hs2i : (s : Int) < 256 := by omega
          have HU := Lib.hid (p := x.u s = false ∧ s < 256) ⟨hu, hs2⟩
          clear hT hy hs1 hs2 hsz hu
          go_wp2_with (first
          | (refine step_load rfl 40 rfl 27 (.tmp 5) rfl g5 rfl x.cs _ HRa.out.all Try.underlying27 rfl (i1.out _) ?_)
          | (go_at_call 14; refine (HT.out _).mono ?_; rintro e w5 ⟨rfl, hb5⟩
             have R5 := Lib.hid (HRa.out.kept hb5)
             have HB5 := Lib.hid (below_nxt hb5 HBa.out)
             clear hb5)
          | (refine step_alloc rfl 8 rfl 27 rfl _ hz.out ?_; intro g8 w6 hr6 hg6 hb6 hs6
             have R6 := Lib.hid hr6
             have R56 := Lib.hid (R5.out.kept hb6)
             have Q8 := Lib.hid (p := w.heap.size ≤ g8 ∧ g5 < g8) (by rw [hg6.out]; exact ⟨HB5.out.size, R5.out.lt⟩)
             have HB6 := Lib.hid (below_nxt hb6 HB5.out)
             clear hr6 hg6 hb6 hs6)
          | (refine step_store rfl 27 (.tmp 8) (.tmp 45) rfl g8 (by rfl) _ sup0.cs (y).cs (by rfl) R6.out (by simp only [Sup.cs_len]) (i1.out _) (Sup.cs_one _) ?_; intro w8 hr8 hg8 hs8
             have R8 := Lib.hid hr8
             have R58 := Lib.hid (R56.out.grown hg8 (fun e => by injection e with e; have := Q8.out; omega))
             have HB8 := Lib.hid (below_own HB6.out hg8 Q8.out.1)
             clear hr8 hg8 hs8
             have cu : w8.cell? ⟨g5, 1 + s, none⟩ = some (.bool false) := by rw [R58.out.cell, x.c_u HU.out.2, HU.out.1])
          | (refine step_load rfl 66 rfl 27 (.tmp 8) rfl g8 rfl y.cs _ R8.out.all Try.underlying27 rfl (i1.out _) ?_)
          | (refine step_store rfl 27 (.tmp 5) (.tmp 66) rfl g5 (by rfl) _ x.cs (y).cs (by rfl) R58.out (by simp only [Sup.cs_len]) (i1.out _) (Sup.cs_one _) ?_; intro w9 hr9 hg9 hs9
             have R9 := Lib.hid hr9
             have HB9 := Lib.hid (below_own HB8.out hg9 Q3.out)
             clear hr9 hg9 hs9))
          clear cu
          go_roundw
          case rel => exact ⟨k + 1, y, Lib.hid HKK.out, by go_num, R9, Lib.hid HY.out, HB9⟩
          case measure => have := HKK.out; simp [intOf]; omega
      · have hk0n : (kd == 0) = false := by simpa using k0
        by_cases k2 : kd = 2
        · subst k2
          rcases add_two x HX.out.1 z with ⟨e, he, hT⟩ | ⟨j, s, hj, hs2, hsz, hj0, hu, hT⟩
          · have HT := Lib.hid hT
            clear hT
            go_wp2_with (first
            | (refine step_load rfl 70 rfl 27 (.tmp 5) rfl g5 rfl x.cs _ HRa.out.all Try.underlying27 rfl (i1.out _) ?_)
            | (go_at_call 15; refine (HT.out _).mono ?_; rintro e w5 ⟨rfl, hb5⟩
               have R5 := Lib.hid (HRa.out.kept hb5)
               have HB5 := Lib.hid (below_nxt hb5 HBa.out)
               clear hb5)
            | (refine step_alloc rfl 11 rfl 27 rfl _ hz.out ?_; intro g8 w6 hr6 hg6 hb6 hs6
               have R6 := Lib.hid hr6
               have R56 := Lib.hid (R5.out.kept hb6)
               have Q8 := Lib.hid (p := w.heap.size ≤ g8 ∧ g5 < g8) (by rw [hg6.out]; exact ⟨HB5.out.size, R5.out.lt⟩)
               have HB6 := Lib.hid (below_nxt hb6 HB5.out)
               clear hr6 hg6 hb6 hs6)
            | (refine step_store rfl 27 (.tmp 11) (.tmp 75) rfl g8 (by rfl) _ sup0.cs (x).cs (by rfl) R6.out (by simp only [Sup.cs_len]) (i1.out _) (Sup.cs_one _) ?_; intro w8 hr8 hg8 hs8
               have R8 := Lib.hid hr8
               have R58 := Lib.hid (R56.out.grown hg8 (fun e => by injection e with e; have := Q8.out; omega))
               have HB8 := Lib.hid (below_own HB6.out hg8 Q8.out.1)
               clear hr8 hg8 hs8)
            | (refine step_load rfl 104 rfl 27 (.tmp 11) rfl g8 rfl x.cs _ R8.out.all Try.underlying27 rfl (i1.out _) ?_)
            | (refine step_store rfl 27 (.tmp 5) (.tmp 104) rfl g5 (by rfl) _ x.cs (x).cs (by rfl) R58.out (by simp only [Sup.cs_len]) (i1.out _) (Sup.cs_one _) ?_; intro w9 hr9 hg9 hs9
               have R9 := Lib.hid hr9
               have HB9 := Lib.hid (below_own HB8.out hg9 Q3.out)
               clear hr9 hg9 hs9))
            go_roundw
            case rel => exact ⟨k + 1, x, Lib.hid HKK.out, by go_num, R9, Lib.hid HX.out, HB9⟩
            case measure => have := HKK.out; simp [intOf]; omega
          · have HT := Lib.hid hT
            obtain ⟨y, hy⟩ : ∃ y, (x.setU s true).setI (j + 1) s = y := ⟨_, rfl⟩
            have HY := Lib.hid (p := y.May ∧ y.s = 1) (by rw [← hy]; exact ⟨may_add x HX.out.1 j s hj hj0 hs2 hu, HX.out.2⟩)
            have hyi : y.i (j + 1) = (s : Int) := by rw [← hy]; exact at1_same _ _ _
            rw [hy] at HT
            obtain ⟨p, hp⟩ : ∃ p, j + 1 = p := ⟨_, rfl⟩
            rw [hp] at HT hyi hj0
            have hp1 : ¬ (p : Int) < 1 := by omega
            have hp64 : ¬ (64 : Int) < (p : Int) := by omega
            have hp65 : (p : Int) < 65 := by omega
            have hp0 : (0 : Int) ≤ (p : Int) := by omega
            have hsm : ¬ (m : Int) < (s : Int) := by have := HZM.out; omega
            have HU := Lib.hid (p := x.i p = 0 ∧ y.i p = (s : Int) ∧ p < 65) ⟨hj0, hyi, by omega⟩
            clear hT hy hj hs2 hsz hj0 hu hyi hp
            go_wp2_with (first
            | (refine step_load rfl 70 rfl 27 (.tmp 5) rfl g5 rfl x.cs _ HRa.out.all Try.underlying27 rfl (i1.out _) ?_)
            | (go_at_call 15; refine (HT.out _).mono ?_; rintro e w5 ⟨rfl, hb5⟩
               have R5 := Lib.hid (HRa.out.kept hb5)
               have HB5 := Lib.hid (below_nxt hb5 HBa.out)
               clear hb5)
            | (refine step_alloc rfl 11 rfl 27 rfl _ hz.out ?_; intro g8 w6 hr6 hg6 hb6 hs6
               have R6 := Lib.hid hr6
               have R56 := Lib.hid (R5.out.kept hb6)
               have Q8 := Lib.hid (p := w.heap.size ≤ g8 ∧ g5 < g8) (by rw [hg6.out]; exact ⟨HB5.out.size, R5.out.lt⟩)
               have HB6 := Lib.hid (below_nxt hb6 HB5.out)
               clear hr6 hg6 hb6 hs6)
            | (refine step_store rfl 27 (.tmp 11) (.tmp 75) rfl g8 (by rfl) _ sup0.cs (y).cs (by rfl) R6.out (by simp only [Sup.cs_len]) (i1.out _) (Sup.cs_one _) ?_; intro w8 hr8 hg8 hs8
               have R8 := Lib.hid hr8
               have R58 := Lib.hid (R56.out.grown hg8 (fun e => by injection e with e; have := Q8.out; omega))
               have HB8 := Lib.hid (below_own HB6.out hg8 Q8.out.1)
               clear hr8 hg8 hs8
               have cu : w8.cell? ⟨g5, 257 + p, none⟩ = some (.int .i64 0) := by rw [R58.out.cell, x.c_i HU.out.2.2, HU.out.1]
               have cv : w8.cell? ⟨g8, 257 + p, none⟩ = some (.int .i64 (s : Int)) := by rw [R8.out.cell, y.c_i HU.out.2.2, HU.out.2.1])
            | (refine step_load rfl 104 rfl 27 (.tmp 11) rfl g8 rfl y.cs _ R8.out.all Try.underlying27 rfl (i1.out _) ?_)
            | (refine step_store rfl 27 (.tmp 5) (.tmp 104) rfl g5 (by rfl) _ x.cs (y).cs (by rfl) R58.out (by simp only [Sup.cs_len]) (i1.out _) (Sup.cs_one _) ?_; intro w9 hr9 hg9 hs9
               have R9 := Lib.hid hr9
               have HB9 := Lib.hid (below_own HB8.out hg9 Q3.out)
               clear hr9 hg9 hs9))
            clear cu cv
            go_roundw
            case rel => exact ⟨k + 1, y, Lib.hid HKK.out, by go_num, R9, Lib.hid HY.out, HB9⟩
            case measure => have := HKK.out; simp [intOf]; omega
        · have hk2n : (kd == 2) = false := by simpa using k2
          by_cases k3 : kd = 3
          · subst k3
            obtain ⟨y, hy1, hy2, hT⟩ := remove_two x HX.out.1 ka
            have HT := Lib.hid hT
            have HY := Lib.hid (p := y.May ∧ y.s = 1) ⟨hy1, by rw [hy2]; exact HX.out.2⟩
            clear hT hy1 hy2
            go_wp2_with (first
            | (refine step_load rfl 107 rfl 27 (.tmp 5) rfl g5 rfl x.cs _ HRa.out.all Try.underlying27 rfl (i1.out _) ?_)
            | (go_at_call 16; refine (HT.out _).mono ?_; rintro e w5 ⟨rfl, hb5⟩
               have R8 := Lib.hid (HRa.out.kept hb5)
               have HB8 := Lib.hid (below_nxt hb5 HBa.out)
               clear hb5)
            | (refine step_store rfl 27 (.tmp 5) (.tmp 110) rfl g5 (by rfl) _ x.cs (y).cs (by rfl) R8.out (by simp only [Sup.cs_len]) (i1.out _) (Sup.cs_one _) ?_; intro w9 hr9 hg9 hs9
               have R9 := Lib.hid hr9
               have HB9 := Lib.hid (below_own HB8.out hg9 Q3.out)
               clear hr9 hg9 hs9))
            go_roundw
            case rel => exact ⟨k + 1, y, Lib.hid HKK.out, by go_num, R9, Lib.hid HY.out, HB9⟩
            case measure => have := HKK.out; simp [intOf]; omega
          · have hk3n : (kd == 3) = false := by simpa using k3
            by_cases k4 : kd = 4
            · subst k4
              by_cases hN : 0 < ka ∧ ka ≤ 64
              · obtain ⟨p, rfl⟩ : ∃ p : Nat, ka = (p : Int) := ⟨ka.toNat, by omega⟩
                have hp0 : (0 : Int) < (p : Int) := hN.1
                have hp64 : (p : Int) ≤ 64 := hN.2
                have hp65 : (p : Int) < 65 := by omega
                have hp0' : (0 : Int) ≤ (p : Int) := by omega
                obtain ⟨v, hv⟩ : ∃ v, x.i p = v := ⟨_, rfl⟩
                obtain ⟨b, hb⟩ : ∃ b, (v != 0) = b := ⟨_, rfl⟩
                have cv : wa.cell? ⟨g5, 257 + p, none⟩ = some (.int .i64 v) := by rw [HRa.out.cell, x.c_i (by omega), hv]
                have cb : wa.cell? ⟨g5, 322 + p, none⟩ = some (.bool (x.o p)) := by rw [HRa.out.cell, x.c_o (by omega)]
                have fb := HRa.out.free (322 + p)
                obtain ⟨ob, hob⟩ : ∃ ob, x.o p = ob := ⟨_, rfl⟩
                rw [hob] at cb
                have HP := Lib.hid (p := p < 65) (by omega)
                have HY := Lib.hid (p := (x.setO p b).May ∧ (x.setO p b).s = 1) ⟨may_orp x HX.out.1 p b (by rw [hv, hb]), HX.out.2⟩
                have R9 := Lib.hid (p := Row (wa.setCell ⟨g5, 322 + p, none⟩ (.bool b)) g5 27 (x.setO p b).cs) (by rw [← x.set_o b HP.out]; exact HRa.out.put _ _)
                have HB9 := Lib.hid (HBa.out.setCell (p := ⟨g5, 322 + p, none⟩) Q3.out (.bool b))
                clear hN hv hob
                go_wp2
                go_region
                go_wp2
                clear hp0 hp64 hp65 hp0' hb cv cb fb
                go_roundw
                case rel => exact ⟨k + 1, x.setO p b, Lib.hid HKK.out, by go_num, Lib.hid R9.out.drew, HY, Lib.hid HB9.out.drew⟩
                case measure => have := HKK.out; simp [intOf]; omega
              · by_cases hN0 : 0 < ka
                · have hN64 : ¬ ka ≤ 64 := by omega
                  clear hN
                  go_wp2
                  go_roundw
                  case rel => exact ⟨k + 1, x, Lib.hid HKK.out, by go_num, HRa, Lib.hid HX.out, HBa⟩
                  case measure => have := HKK.out; simp [intOf]; omega
                · clear hN
                  go_wp2
                  go_roundw
                  case rel => exact ⟨k + 1, x, Lib.hid HKK.out, by go_num, HRa, Lib.hid HX.out, HBa⟩
                  case measure => have := HKK.out; simp [intOf]; omega
            · have hk4n : (kd == 4) = false := by simpa using k4
              go_wp2
              go_roundw
              case rel => exact ⟨k + 1, x, Lib.hid HKK.out, by go_num, HRa, Lib.hid HX.out, HBa⟩
              case measure => have := HKK.out; simp [intOf]; omega
    · have hend : ¬ (k < n ∧ k < 300) := hlt
      have HP := Lib.hid (fun w => gpack_ok x HX.out.1 (by rw [HX.out.2]; omega) w)
      have HGU := Lib.hid (fun (A : Option Addr) (cb : Nat) (w : World) (h : Hol w A (lst 256 x.pb)) => gunpack_ok A cb (lst 256 x.pb) (sok_pb x HX.out.1 (by rw [HX.out.2]; omega)) w h)
      rw [sr_pb x HX.out.1 (by rw [HX.out.2]; omega)] at HGU
      by_cases hkn : k < n
      · obtain rfl : k = 300 := by have := HK.out; omega
        have hk1 : ((300 : Nat) : Int) < (n : Int) := by omega
        have hk2 : ¬ ((300 : Nat) : Int) < 300 := by omega
        clear hlt hend hkn hkw
        go_wp2_with (first
          | (refine step_load rfl 132 rfl 27 (.tmp 5) rfl g5 rfl x.cs _ HR.out.all Try.underlying27 rfl (i1.out _) ?_)
          | (go_at_call 8; refine (HP.out _).mono ?_; rintro e w10 ⟨g10, c10, rfl, ho10, hb10⟩
             have R10 := Lib.hid (HR.out.kept hb10.out)
             have HH10 := Lib.hid (Hol.own ho10.out)
             have HB10 := Lib.hid (below_nxt hb10.out HB.out)
             clear ho10 hb10)
          | (go_at_call 11; refine (HGU.out _ _ _ HH10.out).mono ?_; rintro e w11 ⟨rfl, hb11⟩
             have R11 := Lib.hid (R10.out.kept hb11)
             have HB11 := Lib.hid (below_nxt hb11 HB10.out)
             clear hb11)
          | (refine step_alloc rfl 16 rfl 27 rfl _ hz.out ?_; intro g12 w12 hr12 hg12 hb12 hs12
             have R12 := Lib.hid hr12
             have R512 := Lib.hid (R11.out.kept hb12)
             have Q12 := Lib.hid (p := w.heap.size ≤ g12 ∧ g5 < g12) (by rw [hg12.out]; exact ⟨HB11.out.size, R11.out.lt⟩)
             have HB12 := Lib.hid (below_nxt hb12 HB11.out)
             clear hr12 hg12 hb12 hs12)
          | (refine step_store rfl 27 (.tmp 16) (.tmp 139) rfl g12 (by rfl) _ sup0.cs x.cs (by rfl) R12.out (by simp only [Sup.cs_len]) (i1.out _) (Sup.cs_one _) ?_; intro w13 hr13 hg13 hs13
             have R13 := Lib.hid hr13
             have R513 := Lib.hid (R512.out.grown hg13 (fun e => by injection e with e; have := Q12.out; omega))
             have HB13 := Lib.hid (below_own HB12.out hg13 Q12.out.1)
             clear hr13 hg13 hs13)
          | (refine step_load_g (by rfl) 148 rfl 27 (.tmp 5) rfl g5 rfl x.cs _ R513.out.all Try.underlying27 rfl (i1.out _) ?_)
          | (refine step_load_g (by rfl) 149 rfl 27 (.tmp 16) rfl g12 rfl x.cs _ R13.out.all Try.underlying27 rfl (i1.out _) ?_)
          | (refine step_eql (by rfl) 27 27 (.tmp 148) (.tmp 149) rfl x.cs.toArray x.cs.toArray (by rfl) (by rfl) sup_guard true (fun w => by rw [eq_sup 9997, Sup.eqb_refl]) ?_))
        go_ret
        exact ⟨rfl, HB13.out⟩
      · have hk1 : ¬ (k : Int) < (n : Int) := by omega
        clear hlt hend hkn hkw
        go_wp2_with (first
          | (refine step_load rfl 132 rfl 27 (.tmp 5) rfl g5 rfl x.cs _ HR.out.all Try.underlying27 rfl (i1.out _) ?_)
          | (go_at_call 8; refine (HP.out _).mono ?_; rintro e w10 ⟨g10, c10, rfl, ho10, hb10⟩
             have R10 := Lib.hid (HR.out.kept hb10.out)
             have HH10 := Lib.hid (Hol.own ho10.out)
             have HB10 := Lib.hid (below_nxt hb10.out HB.out)
             clear ho10 hb10)
          | (go_at_call 11; refine (HGU.out _ _ _ HH10.out).mono ?_; rintro e w11 ⟨rfl, hb11⟩
             have R11 := Lib.hid (R10.out.kept hb11)
             have HB11 := Lib.hid (below_nxt hb11 HB10.out)
             clear hb11)
          | (refine step_alloc rfl 16 rfl 27 rfl _ hz.out ?_; intro g12 w12 hr12 hg12 hb12 hs12
             have R12 := Lib.hid hr12
             have R512 := Lib.hid (R11.out.kept hb12)
             have Q12 := Lib.hid (p := w.heap.size ≤ g12 ∧ g5 < g12) (by rw [hg12.out]; exact ⟨HB11.out.size, R11.out.lt⟩)
             have HB12 := Lib.hid (below_nxt hb12 HB11.out)
             clear hr12 hg12 hb12 hs12)
          | (refine step_store rfl 27 (.tmp 16) (.tmp 139) rfl g12 (by rfl) _ sup0.cs x.cs (by rfl) R12.out (by simp only [Sup.cs_len]) (i1.out _) (Sup.cs_one _) ?_; intro w13 hr13 hg13 hs13
             have R13 := Lib.hid hr13
             have R513 := Lib.hid (R512.out.grown hg13 (fun e => by injection e with e; have := Q12.out; omega))
             have HB13 := Lib.hid (below_own HB12.out hg13 Q12.out.1)
             clear hr13 hg13 hs13)
          | (refine step_load_g (by rfl) 148 rfl 27 (.tmp 5) rfl g5 rfl x.cs _ R513.out.all Try.underlying27 rfl (i1.out _) ?_)
          | (refine step_load_g (by rfl) 149 rfl 27 (.tmp 16) rfl g12 rfl x.cs _ R13.out.all Try.underlying27 rfl (i1.out _) ?_)
          | (refine step_eql (by rfl) 27 27 (.tmp 148) (.tmp 149) rfl x.cs.toArray x.cs.toArray (by rfl) (by rfl) sup_guard true (fun w => by rw [eq_sup 9997, Sup.eqb_refl]) ?_))
        go_ret
        exact ⟨rfl, HB13.out⟩
end Go.Proofs.Ytcebbpdclgejdaa
