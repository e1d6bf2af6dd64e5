/- The reference's inode of a block. Conditions: those named. -/
import Derived.Test.YtfbfeplegdpemaaGreatMgJd
import Derived.Test.YtfbfeplegdpemaaGreatMgIg
import Derived.Deep.RegionHeld
set_option linter.unusedVariables false
set_option maxRecDepth 20000
namespace Go.Proofs.YtfbfeplegdpemaaGreat
open Go.RowKit

def rv (L : List UInt8) (j : Nat) : Value := .int .u64 ((rdn sz L j : Nat) : Int)
theorem OV.cellsOf {B : Nat} {w : World} {e : TypeId} {g n c : Nat} {f : Nat → Value} (h : OV B w e (some ⟨g, 0, none⟩) n c f) (hn : 0 < n) : ∀ j, j < n → w.cell? ⟨g, j, none⟩ = some (f j) := by
  obtain ⟨g', e', hc⟩ := h.cells hn
  injection e' with e'
  injection e' with e' _
  subst e'
  exact hc
set_option maxHeartbeats 4000000 in
theorem runpack_any (A0 : Option Addr) (n cb : Nat) (L : List UInt8) (hn : L.length = n) (hcap : n ≤ cb) (hlen : cb < 9223372036854775808) (w : World) (hA : Hol w A0 L) :
    Calls Tryz.prog 25 #[.slice A0 n cb] w fun e w' => e = .returned (iV L) ∧ Below w.heap.size w w' := by
  have i1 := Lib.hid (fun v => info_ncs v)
  have hz := Lib.hid zero_ino
  by_cases h256 : n = 256
  · subst h256
    obtain ⟨ga, oa, rfl⟩ : ∃ ga oa, A0 = some ⟨ga, oa, none⟩ := by
      rcases hA with rfl | ⟨g, off, rfl, _⟩
      · simp at hn
      · exact ⟨g, off, rfl⟩
    have HA := Lib.hid hA
    have HL := Lib.hid hn
    have HCB := Lib.hid (p := 256 ≤ cb ∧ cb < 9223372036854775808) ⟨hcap, hlen⟩
    have hup := Lib.hid (p := Tryz.prog.underlying 22 = some (.slice (Tryz.prog.elem 22))) (by kernel_rfl)
    have hsp := Lib.hid (p := (Tryz.prog.info? (Tryz.prog.elem 22)).map (·.size) = some 1) (by kernel_rfl)
    have hok : iOk L = (mayB (rd sz L) && decide (blk sz (rd sz L) 27 = L)) := by unfold iOk; rw [decide_eq_true hn, Bool.true_and]
    have HOK := Lib.hid hok
    clear hA hn hcap hlen hok
    go_enter Tryz.func25, Tryz.ntmps25
    go_wp2_with (first
      | (refine step_alloc rfl 2 rfl 44 rfl _ hz.out ?_; intro g2 w2 hr2 hg2 hb2 hs2
         have R2 := Lib.hid hr2
         have HB2 := Lib.hid hb2
         have Q2 := Lib.hid (p := w.heap.size ≤ g2) (by rw [hg2.out]; exact Nat.le_refl _)
         clear hr2 hb2 hg2 hs2)
      | (go_at_call 60; refine (rsizes_any _).mono ?_; rintro e w3 ⟨A4, c4, rfl, ho3, hb3⟩
         have R3 := Lib.hid (R2.out.kept hb3.out)
         have HS3 : Hid (OV w.heap.size w3 3 A4 27 c4 szv) := Lib.hid (own_low ho3.out HB2.out.size)
         have HB3 := Lib.hid (below_nxt hb3.out HB2.out)
         clear ho3 hb3))
    obtain ⟨g4, rfl, _⟩ := HS3.out.cells (by omega)
    go_loopw [5, 6, 7] (fun x y z wr => ∃ (k : Nat) (A : Option Addr) (c p : Nat), Hid (k ≤ 27) ∧ z = .int .i64 (k : Int) ∧ y = .int .i64 (p : Int) ∧ x = .slice A k c ∧ Hid (off sz k = p) ∧ Hid (OV w.heap.size wr 35 A k c (rv L)) ∧ Hid (OV w.heap.size wr 3 (some ⟨g4, 0, none⟩) 27 c4 szv) ∧ Hid (Row wr g2 44 (ncs ino0)) ∧ Hid (Below w.heap.size w wr)) (fun _ _ z _ => 27 - (intOf z).toNat)
    case atStart => exact ⟨0, none, 0, 0, Lib.hid (by omega), rfl, rfl, rfl, Lib.hid rfl, Lib.hid (by unfold OV; rw [fv_zero]; exact World.ownsRow_nil _ _ _ _), HS3, R3, HB3⟩
    case round =>
      clear HS3 R3 HB3 R2 HB2
      obtain ⟨k, A, c, p, HK, rfl, rfl, rfl, HPO, HO, HS, HR, HB⟩ := hrel
      have hkw : IntKind.i64.wrap ((k : Int) + 1) = (k : Int) + 1 := by rw [IntKind.wrap_i64]; have := HK.out; omega
      have HC4 : Hid (∀ W, OV w.heap.size W 3 (some ⟨g4, 0, none⟩) 27 c4 szv → k < 27 → W.cell? ⟨g4, k, none⟩ = some (szv k)) := Lib.hid (fun W h hk => h.cellsOf (by omega) k hk)
      by_cases hk : k < 27
      · have hki : (k : Int) < 27 := by omega
        have hk0 : (0 : Int) ≤ (k : Int) := by omega
        have HKL := Lib.hid hk
        obtain ⟨s, hs⟩ : ∃ s, sz k = s := ⟨_, rfl⟩
        have hsv : szv k = .int .i64 (s : Int) := by unfold szv; rw [hs]
        replace HC4 : Hid (∀ W, OV w.heap.size W 3 (some ⟨g4, 0, none⟩) 27 c4 szv → W.cell? ⟨g4, k, none⟩ = some (.int .i64 (s : Int))) := Lib.hid (fun W h => by rw [← hsv]; exact HC4.out W h HKL.out)
        have hps : p + s ≤ 69 := by
          have h1 := off_mono sz (show k + 1 ≤ 27 from hk)
          have h2 : off sz (k + 1) = off sz k + sz k := rfl
          have h3 := HPO.out
          have h4 : off sz 27 = 69 := rfl
          omega
        have hs8 : s ≤ 8 := by have := sz_ok k; rw [hs] at this; omega
        obtain ⟨m1, hm1⟩ : ∃ m1, 256 - p = m1 := ⟨_, rfl⟩
        obtain ⟨cc, hcc⟩ : ∃ cc, cb - p = cc := ⟨_, rfl⟩
        have HPC := Lib.hid (p := p ≤ 256 ∧ p < cb ∧ 256 - p = m1 ∧ cb - p = cc) ⟨by omega, by have := HCB.out; omega, hm1, hcc⟩
        have HPS := Lib.hid (p := p + s ≤ 256 ∧ s ≤ 8 ∧ 256 - p ≤ m1) ⟨by omega, hs8, by omega⟩
        obtain ⟨x, hx⟩ : ∃ x, rdn sz L k = x := ⟨_, rfl⟩
        have HX := Lib.hid (p := num ((L.drop p).take s) = x) (by rw [← hx, ← hs, ← HPO.out]; rfl)
        have HVX := Lib.hid (p := rv L k = .int .u64 (x : Int)) (by unfold rv; rw [hx])
        obtain ⟨p2, hp2⟩ : ∃ p2, p + s = p2 := ⟨_, rfl⟩
        have hp2w : IntKind.i64.wrap ((p : Int) + (s : Int)) = (p2 : Int) := by rw [IntKind.wrap_i64]; omega
        have hp2x : wrap64 (p2 : Int) = (p2 : Int) := by unfold wrap64; omega
        have HP2X := Lib.hid hp2x
        have HP2 := Lib.hid (p := off sz (k + 1) = p2) (by show off sz k + sz k = p2; rw [HPO.out, hs]; exact hp2)
        have hcs : wr.cell? ⟨g4, k, none⟩ = some (.int .i64 (s : Int)) := HC4.out _ HS.out
        clear hk hs hsv hps hs8 hm1 hcc hx hp2
        go_wp2
        refine wp_region_held_drew (S := fun W => W.cell? ⟨g4, k, none⟩ = some (.int .i64 (s : Int))) (by kernel_rfl) hcs (fun hHeld => ?_)
        refine wpAnyH_take (i := 0) (oi := ⟨some 23, .move (.tmp 5), _, _, _, _⟩) (v := .slice A k c) rfl (by kernel_rfl) (by kernel_rfl) (by kernel_rfl) (fun _ _ _ h => h) (.inl ⟨by rfl, fun w hSw => by go_simp⟩) (by assumption) ?_
        simp only [Act.put, List.setIfInBounds_toArray, List.set_cons_zero, List.set_cons_succ]
        refine wpAnyH_take (i := 1) (oi := ⟨some 24, .move (.tmp 0), _, _, _, _⟩) (v := .slice (some ⟨ga, oa, none⟩) 256 cb) rfl (by kernel_rfl) (by kernel_rfl) (by kernel_rfl) (fun _ _ _ h => h) (.inl ⟨by rfl, fun w hSw => by go_simp⟩) (by assumption) ?_
        simp only [Act.put, List.setIfInBounds_toArray, List.set_cons_zero, List.set_cons_succ]
        refine wpAnyH_take (i := 2) (oi := ⟨some 25, .move (.tmp 6), _, _, _, _⟩) (v := .int .i64 (p : Int)) rfl (by kernel_rfl) (by kernel_rfl) (by kernel_rfl) (fun _ _ _ h => h) (.inl ⟨by rfl, fun w hSw => by go_simp⟩) (by assumption) ?_
        simp only [Act.put, List.setIfInBounds_toArray, List.set_cons_zero, List.set_cons_succ]
        refine wpAnyH_take (i := 3) (oi := ⟨some 26, .slice 22 (.tmp 24) (some (.tmp 25)) none none, _, _, _, _⟩) (v := .slice (some ⟨ga, oa + p, none⟩) m1 cc) rfl (by kernel_rfl) (by kernel_rfl) (by kernel_rfl) (fun _ _ _ h => h) (.inl ⟨by rfl, fun w hSw => by exact run_cut_op (P := Tryz.prog) w _ 22 (.tmp 24) (.tmp 25) rfl ga oa 256 cb p m1 cc _ rfl rfl rfl HPC.out.1 HPC.out.2.1 HPC.out.2.2.1 HPC.out.2.2.2 hup.out hsp.out⟩) (by assumption) ?_
        simp only [Act.put, List.setIfInBounds_toArray, List.set_cons_zero, List.set_cons_succ]
        refine wpAnyH_take (i := 4) (oi := ⟨some 27, .move (.tmp 4), _, _, _, _⟩) (v := .slice (some ⟨g4, 0, none⟩) 27 c4) rfl (by kernel_rfl) (by kernel_rfl) (by kernel_rfl) (fun _ _ _ h => h) (.inl ⟨by rfl, fun w hSw => by go_simp⟩) (by assumption) ?_
        simp only [Act.put, List.setIfInBounds_toArray, List.set_cons_zero, List.set_cons_succ]
        refine wpAnyH_take (i := 5) (oi := ⟨some 28, .move (.tmp 7), _, _, _, _⟩) (v := .int .i64 (k : Int)) rfl (by kernel_rfl) (by kernel_rfl) (by kernel_rfl) (fun _ _ _ h => h) (.inl ⟨by rfl, fun w hSw => by go_simp⟩) (by assumption) ?_
        simp only [Act.put, List.setIfInBounds_toArray, List.set_cons_zero, List.set_cons_succ]
        refine wpAnyH_take (i := 6) (oi := ⟨some 29, .indexAddr 110 (.tmp 27) (.tmp 28), _, _, _, _⟩) (v := .pointer (some ⟨g4, k, none⟩)) rfl (by kernel_rfl) (by kernel_rfl) (by kernel_rfl) (fun _ _ _ h => h) (.inl ⟨by rfl, fun w hSw => by go_simp⟩) (by assumption) ?_
        simp only [Act.put, List.setIfInBounds_toArray, List.set_cons_zero, List.set_cons_succ]
        refine wpAnyH_take (i := 7) (oi := ⟨some 30, .load 3 (.tmp 29), _, _, _, _⟩) (v := .int .i64 (s : Int)) rfl (by kernel_rfl) (by kernel_rfl) (by kernel_rfl) (fun _ _ _ h => h) (.inl ⟨by rfl, fun w hSw => by have z := hSw; go_simp⟩) (by assumption) ?_
        simp only [Act.put, List.setIfInBounds_toArray, List.set_cons_zero, List.set_cons_succ]
        refine wpAnyH_ready (rs := [8]) (by kernel_rfl) (by simp) ?_
        refine AllReadyH.cons (o := ⟨some 31, .call ⟨.value (.func 61), #[.tmp 26, .tmp 30], _⟩, _, _, _, _⟩) rfl (fun K hK => ?_) AllReadyH.nil
        go_simp
        refine (irnum_cut ga oa m1 cc k s L HL.out p HPS.out.1 HPS.out.2.1 HPS.out.2.2 _ (HA.out.below (HB.out.drew))).mono ?_
        rintro e w1 ⟨rfl, rfl⟩
        rw [HX.out]
        refine hK.out _ _ hcs (fun _hH => ?_)
        clear hK K
        refine wpAnyH_ready (rs := [9]) (by kernel_rfl) (by simp) ?_
        refine AllReadyH.cons (o := ⟨some 32, .buildSlice 117 1 #[(0, .tmp 31)], _, _, _, _⟩) rfl (fun K hK => ?_) AllReadyH.nil
        refine k_bs1 (.tmp 31) rfl (x : Int) rfl ?_
        intro gs w2 hr2 hb2
        have HG2 := Lib.hid hr2
        have HO2 := Lib.hid (OV.kept HO.out (((Below.refl _ _).drew).trans hb2))
        have HS2 := Lib.hid (OV.kept HS.out (((Below.refl _ _).drew).trans hb2))
        have HR2 := Lib.hid (HR.out.drew.kept hb2)
        have HB2 := Lib.hid (below_nxt hb2 HB.out.drew)
        have hcs2 : w2.cell? ⟨g4, k, none⟩ = some (.int .i64 (s : Int)) := HC4.out _ HS2.out
        clear hr2 hb2
        refine hK.out _ _ hcs2 (fun _hH1 => ?_)
        clear hK K
        refine wpAnyH_ready (rs := [10]) (by kernel_rfl) (by simp) ?_
        refine AllReadyH.cons (o := ⟨some 33, .call ⟨.builtin .append, #[.tmp 23, .tmp 32], #[117, 117]⟩, _, _, _, _⟩) rfl (fun K hK => ?_) AllReadyH.nil
        refine k_join (.tmp 23) (.tmp 32) rfl rec_u64 w.heap.size (.slice A k c) k (fv k (rv L)) rfl HO2.out (some ⟨gs, 0, none⟩) 1 1 [.int .u64 (x : Int)] rfl rfl (row_src HG2.out) (by intro u hu; simp at hu; subst hu; rfl) (by have := HKL.out; omega) HB2.out.size ?_
        intro v3 w3 ho3 hg3
        obtain ⟨A3, c3, rfl, ho4, hb4⟩ := OV.more2 HB2.out HB2.out.size HO2.out HVX.out ho3 hg3
        have HS3 : Hid (OV w.heap.size w3 3 (some ⟨g4, 0, none⟩) 27 c4 szv) := Lib.hid (HS2.out.apart HO2.out (by decide) hg3)
        have HO3 := Lib.hid ho4
        have HB3 := Lib.hid hb4
        have HR3 := Lib.hid (HR2.out.grown hg3 (row_ne HR2.out HO2.out))
        have hcs3 : w3.cell? ⟨g4, k, none⟩ = some (.int .i64 (s : Int)) := HC4.out _ HS3.out
        clear ho3 hg3 ho4 hb4 hcs2
        refine hK.out _ _ hcs3 (fun _hH2 => ?_)
        clear hK K
        refine wpAnyH_take (i := 11) (oi := ⟨some 5, .assign (.tmp 33), _, _, _, _⟩) (v := .slice A3 (k + 1) c3) rfl (by kernel_rfl) (by kernel_rfl) (by kernel_rfl) (fun _ _ _ h => h) (.inl ⟨by rfl, fun w hSw => by go_simp⟩) (by assumption) ?_
        simp only [Act.put, List.setIfInBounds_toArray, List.set_cons_zero, List.set_cons_succ]
        refine wpAnyH_done (by kernel_rfl) ?_ _
        go_wp2
        go_roundw
        case rel => exact ⟨k + 1, A3, c3, p2, Lib.hid HKL.out, by go_num, (by first | rfl | exact congrArg (Value.int .i64) HP2X.out), rfl, HP2, HO3, HS3, HR3, HB3⟩
        case measure => have := HKL.out; simp [intOf]; omega
      · obtain rfl : k = 27 := by have := HK.out; omega
        obtain ⟨gv, rfl, _⟩ := HO.out.cells (by omega)
        have hki : ¬ ((27 : Nat) : Int) < 27 := by omega
        have HCV : Hid (∀ W, OV w.heap.size W 35 (some ⟨gv, 0, none⟩) 27 c (rv L) → ∀ j, j < 27 → W.cell? ⟨gv, j, none⟩ = some (rv L j)) := Lib.hid (fun W h => h.cellsOf (by omega))
        clear hk HC4
        obtain ⟨x0, hx0⟩ : ∃ x, rdn sz L 0 = x := ⟨_, rfl⟩
        have bx0 : x0 < 256 := by rw [← hx0]; exact rdn_lt sz L 0
        have wx0 : IntKind.i64.wrap (x0 : Int) = (x0 : Int) := by rw [IntKind.wrap_i64]; omega
        have HRX0 := Lib.hid (p := some (rv L 0) = some (Value.int .u64 (x0 : Int))) (by unfold rv; rw [hx0])
        obtain ⟨x1, hx1⟩ : ∃ x, rdn sz L 1 = x := ⟨_, rfl⟩
        have bx1 : x1 < 65536 := by rw [← hx1]; exact rdn_lt sz L 1
        have wx1 : IntKind.i64.wrap (x1 : Int) = (x1 : Int) := by rw [IntKind.wrap_i64]; omega
        have HRX1 := Lib.hid (p := some (rv L 1) = some (Value.int .u64 (x1 : Int))) (by unfold rv; rw [hx1])
        obtain ⟨x2, hx2⟩ : ∃ x, rdn sz L 2 = x := ⟨_, rfl⟩
        have bx2 : x2 < 4294967296 := by rw [← hx2]; exact rdn_lt sz L 2
        have wx2 : IntKind.u32.wrap (x2 : Int) = (x2 : Int) := by rw [wrap_32]; omega
        have mx2 : (x2 : Int) % 4294967296 = (x2 : Int) := by omega
        have HRX2 := Lib.hid (p := some (rv L 2) = some (Value.int .u64 (x2 : Int))) (by unfold rv; rw [hx2])
        obtain ⟨x3, hx3⟩ : ∃ x, rdn sz L 3 = x := ⟨_, rfl⟩
        have bx3 : x3 < 4294967296 := by rw [← hx3]; exact rdn_lt sz L 3
        have wx3 : IntKind.u32.wrap (x3 : Int) = (x3 : Int) := by rw [wrap_32]; omega
        have mx3 : (x3 : Int) % 4294967296 = (x3 : Int) := by omega
        have HRX3 := Lib.hid (p := some (rv L 3) = some (Value.int .u64 (x3 : Int))) (by unfold rv; rw [hx3])
        obtain ⟨x4, hx4⟩ : ∃ x, rdn sz L 4 = x := ⟨_, rfl⟩
        have bx4 : x4 < 65536 := by rw [← hx4]; exact rdn_lt sz L 4
        have wx4 : IntKind.i64.wrap (x4 : Int) = (x4 : Int) := by rw [IntKind.wrap_i64]; omega
        have HRX4 := Lib.hid (p := some (rv L 4) = some (Value.int .u64 (x4 : Int))) (by unfold rv; rw [hx4])
        obtain ⟨x5, hx5⟩ : ∃ x, rdn sz L 5 = x := ⟨_, rfl⟩
        have bx5 : x5 < 4294967296 := by rw [← hx5]; exact rdn_lt sz L 5
        have wx5 : IntKind.i64.wrap (x5 : Int) = (x5 : Int) := by rw [IntKind.wrap_i64]; omega
        have HRX5 := Lib.hid (p := some (rv L 5) = some (Value.int .u64 (x5 : Int))) (by unfold rv; rw [hx5])
        obtain ⟨x6, hx6⟩ : ∃ x, rdn sz L 6 = x := ⟨_, rfl⟩
        have HRX6 := Lib.hid (p := some (rv L 6) = some (Value.int .u64 (x6 : Int))) (by unfold rv; rw [hx6])
        obtain ⟨x7, hx7⟩ : ∃ x, rdn sz L 7 = x := ⟨_, rfl⟩
        have bx7 : x7 < 4294967296 := by rw [← hx7]; exact rdn_lt sz L 7
        have wx7 : IntKind.u32.wrap (x7 : Int) = (x7 : Int) := by rw [wrap_32]; omega
        have mx7 : (x7 : Int) % 4294967296 = (x7 : Int) := by omega
        have HRX7 := Lib.hid (p := some (rv L 7) = some (Value.int .u64 (x7 : Int))) (by unfold rv; rw [hx7])
        obtain ⟨x8, hx8⟩ : ∃ x, rdn sz L 8 = x := ⟨_, rfl⟩
        have bx8 : x8 < 65536 := by rw [← hx8]; exact rdn_lt sz L 8
        have wx8 : IntKind.i64.wrap (x8 : Int) = (x8 : Int) := by rw [IntKind.wrap_i64]; omega
        have HRX8 := Lib.hid (p := some (rv L 8) = some (Value.int .u64 (x8 : Int))) (by unfold rv; rw [hx8])
        obtain ⟨x9, hx9⟩ : ∃ x, rdn sz L 9 = x := ⟨_, rfl⟩
        have bx9 : x9 < 4294967296 := by rw [← hx9]; exact rdn_lt sz L 9
        have wx9 : IntKind.u32.wrap (x9 : Int) = (x9 : Int) := by rw [wrap_32]; omega
        have mx9 : (x9 : Int) % 4294967296 = (x9 : Int) := by omega
        have HRX9 := Lib.hid (p := some (rv L 9) = some (Value.int .u64 (x9 : Int))) (by unfold rv; rw [hx9])
        obtain ⟨x26, hx26⟩ : ∃ x, rdn sz L 26 = x := ⟨_, rfl⟩
        have bx26 : x26 < 65536 := by rw [← hx26]; exact rdn_lt sz L 26
        have wx26 : IntKind.i64.wrap (x26 : Int) = (x26 : Int) := by rw [IntKind.wrap_i64]; omega
        have HRX26 := Lib.hid (p := some (rv L 26) = some (Value.int .u64 (x26 : Int))) (by unfold rv; rw [hx26])
        have HBT := Lib.hid (us_built L (fun j => rd sz L j) (fun j _ => rfl))
        unfold rd at HBT
        rw [hx0, hx1, hx2, hx3, hx4, hx5, hx6, hx7, hx8, hx9, hx26] at HBT
        clear hx0 hx1 hx2 hx3 hx4 hx5 hx6 hx7 hx8 hx9 hx26 bx0 bx1 bx2 bx3 bx4 bx5 bx7 bx8 bx9 bx26
        go_wp2
        refine wp_region_held_drew (S := fun W => (∀ j, j < 27 → W.cell? ⟨gv, j, none⟩ = some (rv L j)) ∧ True) (by kernel_rfl) ⟨HCV.out _ (OV.kept HO.out ((Below.refl _ _).drew)), trivial⟩ (fun hHeld => ?_)
        refine wpAnyH_take (i := 0) (oi := ⟨some 40, .move (.tmp 5), _, _, _, _⟩) (v := .slice (some ⟨gv, 0, none⟩) 27 c) rfl (by kernel_rfl) (by kernel_rfl) (by kernel_rfl) (fun _ _ _ h => h) (.inl ⟨by rfl, fun w hSw => by go_simp⟩) (by assumption) ?_
        simp only [Act.put, List.setIfInBounds_toArray, List.set_cons_zero, List.set_cons_succ]
        refine wpAnyH_take (i := 1) (oi := ⟨some 41, .indexAddr 117 (.tmp 40) (.const (.int .i64 0)), _, _, _, _⟩) (v := .pointer (some ⟨gv, 0, none⟩)) rfl (by kernel_rfl) (by kernel_rfl) (by kernel_rfl) (fun _ _ _ h => h) (.inl ⟨by rfl, fun w hSw => by go_simp⟩) (by assumption) ?_
        simp only [Act.put, List.setIfInBounds_toArray, List.set_cons_zero, List.set_cons_succ]
        refine wpAnyH_take (i := 2) (oi := ⟨some 42, .load 35 (.tmp 41), _, _, _, _⟩) (v := .int .u64 (x0 : Int)) rfl (by kernel_rfl) (by kernel_rfl) (by kernel_rfl) (fun _ _ _ h => h) (.inl ⟨by rfl, fun w hSw => by have z := (hSw.1 0 (by omega)).trans HRX0.out; clear hSw; go_simp⟩) (by assumption) ?_
        simp only [Act.put, List.setIfInBounds_toArray, List.set_cons_zero, List.set_cons_succ]
        refine wpAnyH_take (i := 3) (oi := ⟨some 43, .convert 35 3 (.tmp 42), _, _, _, _⟩) (v := .int .i64 (x0 : Int)) rfl (by kernel_rfl) (by kernel_rfl) (by kernel_rfl) (fun _ _ _ h => h) (.inl ⟨by rfl, fun w hSw => by go_simp⟩) (by assumption) ?_
        simp only [Act.put, List.setIfInBounds_toArray, List.set_cons_zero, List.set_cons_succ]
        refine wpAnyH_take (i := 4) (oi := ⟨some 44, .move (.tmp 5), _, _, _, _⟩) (v := .slice (some ⟨gv, 0, none⟩) 27 c) rfl (by kernel_rfl) (by kernel_rfl) (by kernel_rfl) (fun _ _ _ h => h) (.inl ⟨by rfl, fun w hSw => by go_simp⟩) (by assumption) ?_
        simp only [Act.put, List.setIfInBounds_toArray, List.set_cons_zero, List.set_cons_succ]
        refine wpAnyH_take (i := 5) (oi := ⟨some 45, .indexAddr 117 (.tmp 44) (.const (.int .i64 1)), _, _, _, _⟩) (v := .pointer (some ⟨gv, 1, none⟩)) rfl (by kernel_rfl) (by kernel_rfl) (by kernel_rfl) (fun _ _ _ h => h) (.inl ⟨by rfl, fun w hSw => by go_simp⟩) (by assumption) ?_
        simp only [Act.put, List.setIfInBounds_toArray, List.set_cons_zero, List.set_cons_succ]
        refine wpAnyH_take (i := 6) (oi := ⟨some 46, .load 35 (.tmp 45), _, _, _, _⟩) (v := .int .u64 (x1 : Int)) rfl (by kernel_rfl) (by kernel_rfl) (by kernel_rfl) (fun _ _ _ h => h) (.inl ⟨by rfl, fun w hSw => by have z := (hSw.1 1 (by omega)).trans HRX1.out; clear hSw; go_simp⟩) (by assumption) ?_
        simp only [Act.put, List.setIfInBounds_toArray, List.set_cons_zero, List.set_cons_succ]
        refine wpAnyH_take (i := 7) (oi := ⟨some 47, .convert 35 3 (.tmp 46), _, _, _, _⟩) (v := .int .i64 (x1 : Int)) rfl (by kernel_rfl) (by kernel_rfl) (by kernel_rfl) (fun _ _ _ h => h) (.inl ⟨by rfl, fun w hSw => by go_simp⟩) (by assumption) ?_
        simp only [Act.put, List.setIfInBounds_toArray, List.set_cons_zero, List.set_cons_succ]
        refine wpAnyH_take (i := 8) (oi := ⟨some 48, .move (.tmp 5), _, _, _, _⟩) (v := .slice (some ⟨gv, 0, none⟩) 27 c) rfl (by kernel_rfl) (by kernel_rfl) (by kernel_rfl) (fun _ _ _ h => h) (.inl ⟨by rfl, fun w hSw => by go_simp⟩) (by assumption) ?_
        simp only [Act.put, List.setIfInBounds_toArray, List.set_cons_zero, List.set_cons_succ]
        refine wpAnyH_take (i := 9) (oi := ⟨some 49, .indexAddr 117 (.tmp 48) (.const (.int .i64 2)), _, _, _, _⟩) (v := .pointer (some ⟨gv, 2, none⟩)) rfl (by kernel_rfl) (by kernel_rfl) (by kernel_rfl) (fun _ _ _ h => h) (.inl ⟨by rfl, fun w hSw => by go_simp⟩) (by assumption) ?_
        simp only [Act.put, List.setIfInBounds_toArray, List.set_cons_zero, List.set_cons_succ]
        refine wpAnyH_take (i := 10) (oi := ⟨some 50, .load 35 (.tmp 49), _, _, _, _⟩) (v := .int .u64 (x2 : Int)) rfl (by kernel_rfl) (by kernel_rfl) (by kernel_rfl) (fun _ _ _ h => h) (.inl ⟨by rfl, fun w hSw => by have z := (hSw.1 2 (by omega)).trans HRX2.out; clear hSw; go_simp⟩) (by assumption) ?_
        simp only [Act.put, List.setIfInBounds_toArray, List.set_cons_zero, List.set_cons_succ]
        refine wpAnyH_take (i := 11) (oi := ⟨some 51, .convert 35 41 (.tmp 50), _, _, _, _⟩) (v := .int .u32 (x2 : Int)) rfl (by kernel_rfl) (by kernel_rfl) (by kernel_rfl) (fun _ _ _ h => h) (.inl ⟨by rfl, fun w hSw => by go_simp⟩) (by assumption) ?_
        simp only [Act.put, List.setIfInBounds_toArray, List.set_cons_zero, List.set_cons_succ]
        refine wpAnyH_take (i := 12) (oi := ⟨some 52, .move (.tmp 5), _, _, _, _⟩) (v := .slice (some ⟨gv, 0, none⟩) 27 c) rfl (by kernel_rfl) (by kernel_rfl) (by kernel_rfl) (fun _ _ _ h => h) (.inl ⟨by rfl, fun w hSw => by go_simp⟩) (by assumption) ?_
        simp only [Act.put, List.setIfInBounds_toArray, List.set_cons_zero, List.set_cons_succ]
        refine wpAnyH_take (i := 13) (oi := ⟨some 53, .indexAddr 117 (.tmp 52) (.const (.int .i64 3)), _, _, _, _⟩) (v := .pointer (some ⟨gv, 3, none⟩)) rfl (by kernel_rfl) (by kernel_rfl) (by kernel_rfl) (fun _ _ _ h => h) (.inl ⟨by rfl, fun w hSw => by go_simp⟩) (by assumption) ?_
        simp only [Act.put, List.setIfInBounds_toArray, List.set_cons_zero, List.set_cons_succ]
        refine wpAnyH_take (i := 14) (oi := ⟨some 54, .load 35 (.tmp 53), _, _, _, _⟩) (v := .int .u64 (x3 : Int)) rfl (by kernel_rfl) (by kernel_rfl) (by kernel_rfl) (fun _ _ _ h => h) (.inl ⟨by rfl, fun w hSw => by have z := (hSw.1 3 (by omega)).trans HRX3.out; clear hSw; go_simp⟩) (by assumption) ?_
        simp only [Act.put, List.setIfInBounds_toArray, List.set_cons_zero, List.set_cons_succ]
        refine wpAnyH_take (i := 15) (oi := ⟨some 55, .convert 35 41 (.tmp 54), _, _, _, _⟩) (v := .int .u32 (x3 : Int)) rfl (by kernel_rfl) (by kernel_rfl) (by kernel_rfl) (fun _ _ _ h => h) (.inl ⟨by rfl, fun w hSw => by go_simp⟩) (by assumption) ?_
        simp only [Act.put, List.setIfInBounds_toArray, List.set_cons_zero, List.set_cons_succ]
        refine wpAnyH_take (i := 16) (oi := ⟨some 56, .move (.tmp 5), _, _, _, _⟩) (v := .slice (some ⟨gv, 0, none⟩) 27 c) rfl (by kernel_rfl) (by kernel_rfl) (by kernel_rfl) (fun _ _ _ h => h) (.inl ⟨by rfl, fun w hSw => by go_simp⟩) (by assumption) ?_
        simp only [Act.put, List.setIfInBounds_toArray, List.set_cons_zero, List.set_cons_succ]
        refine wpAnyH_take (i := 17) (oi := ⟨some 57, .indexAddr 117 (.tmp 56) (.const (.int .i64 4)), _, _, _, _⟩) (v := .pointer (some ⟨gv, 4, none⟩)) rfl (by kernel_rfl) (by kernel_rfl) (by kernel_rfl) (fun _ _ _ h => h) (.inl ⟨by rfl, fun w hSw => by go_simp⟩) (by assumption) ?_
        simp only [Act.put, List.setIfInBounds_toArray, List.set_cons_zero, List.set_cons_succ]
        refine wpAnyH_take (i := 18) (oi := ⟨some 58, .load 35 (.tmp 57), _, _, _, _⟩) (v := .int .u64 (x4 : Int)) rfl (by kernel_rfl) (by kernel_rfl) (by kernel_rfl) (fun _ _ _ h => h) (.inl ⟨by rfl, fun w hSw => by have z := (hSw.1 4 (by omega)).trans HRX4.out; clear hSw; go_simp⟩) (by assumption) ?_
        simp only [Act.put, List.setIfInBounds_toArray, List.set_cons_zero, List.set_cons_succ]
        refine wpAnyH_take (i := 19) (oi := ⟨some 59, .convert 35 3 (.tmp 58), _, _, _, _⟩) (v := .int .i64 (x4 : Int)) rfl (by kernel_rfl) (by kernel_rfl) (by kernel_rfl) (fun _ _ _ h => h) (.inl ⟨by rfl, fun w hSw => by go_simp⟩) (by assumption) ?_
        simp only [Act.put, List.setIfInBounds_toArray, List.set_cons_zero, List.set_cons_succ]
        refine wpAnyH_take (i := 20) (oi := ⟨some 60, .move (.tmp 5), _, _, _, _⟩) (v := .slice (some ⟨gv, 0, none⟩) 27 c) rfl (by kernel_rfl) (by kernel_rfl) (by kernel_rfl) (fun _ _ _ h => h) (.inl ⟨by rfl, fun w hSw => by go_simp⟩) (by assumption) ?_
        simp only [Act.put, List.setIfInBounds_toArray, List.set_cons_zero, List.set_cons_succ]
        refine wpAnyH_take (i := 21) (oi := ⟨some 61, .indexAddr 117 (.tmp 60) (.const (.int .i64 5)), _, _, _, _⟩) (v := .pointer (some ⟨gv, 5, none⟩)) rfl (by kernel_rfl) (by kernel_rfl) (by kernel_rfl) (fun _ _ _ h => h) (.inl ⟨by rfl, fun w hSw => by go_simp⟩) (by assumption) ?_
        simp only [Act.put, List.setIfInBounds_toArray, List.set_cons_zero, List.set_cons_succ]
        refine wpAnyH_take (i := 22) (oi := ⟨some 62, .load 35 (.tmp 61), _, _, _, _⟩) (v := .int .u64 (x5 : Int)) rfl (by kernel_rfl) (by kernel_rfl) (by kernel_rfl) (fun _ _ _ h => h) (.inl ⟨by rfl, fun w hSw => by have z := (hSw.1 5 (by omega)).trans HRX5.out; clear hSw; go_simp⟩) (by assumption) ?_
        simp only [Act.put, List.setIfInBounds_toArray, List.set_cons_zero, List.set_cons_succ]
        refine wpAnyH_take (i := 23) (oi := ⟨some 63, .convert 35 3 (.tmp 62), _, _, _, _⟩) (v := .int .i64 (x5 : Int)) rfl (by kernel_rfl) (by kernel_rfl) (by kernel_rfl) (fun _ _ _ h => h) (.inl ⟨by rfl, fun w hSw => by go_simp⟩) (by assumption) ?_
        simp only [Act.put, List.setIfInBounds_toArray, List.set_cons_zero, List.set_cons_succ]
        refine wpAnyH_take (i := 24) (oi := ⟨some 64, .move (.tmp 5), _, _, _, _⟩) (v := .slice (some ⟨gv, 0, none⟩) 27 c) rfl (by kernel_rfl) (by kernel_rfl) (by kernel_rfl) (fun _ _ _ h => h) (.inl ⟨by rfl, fun w hSw => by go_simp⟩) (by assumption) ?_
        simp only [Act.put, List.setIfInBounds_toArray, List.set_cons_zero, List.set_cons_succ]
        refine wpAnyH_take (i := 25) (oi := ⟨some 65, .indexAddr 117 (.tmp 64) (.const (.int .i64 6)), _, _, _, _⟩) (v := .pointer (some ⟨gv, 6, none⟩)) rfl (by kernel_rfl) (by kernel_rfl) (by kernel_rfl) (fun _ _ _ h => h) (.inl ⟨by rfl, fun w hSw => by go_simp⟩) (by assumption) ?_
        simp only [Act.put, List.setIfInBounds_toArray, List.set_cons_zero, List.set_cons_succ]
        refine wpAnyH_take (i := 26) (oi := ⟨some 66, .load 35 (.tmp 65), _, _, _, _⟩) (v := .int .u64 (x6 : Int)) rfl (by kernel_rfl) (by kernel_rfl) (by kernel_rfl) (fun _ _ _ h => h) (.inl ⟨by rfl, fun w hSw => by have z := (hSw.1 6 (by omega)).trans HRX6.out; clear hSw; go_simp⟩) (by assumption) ?_
        simp only [Act.put, List.setIfInBounds_toArray, List.set_cons_zero, List.set_cons_succ]
        refine wpAnyH_take (i := 27) (oi := ⟨some 67, .move (.tmp 5), _, _, _, _⟩) (v := .slice (some ⟨gv, 0, none⟩) 27 c) rfl (by kernel_rfl) (by kernel_rfl) (by kernel_rfl) (fun _ _ _ h => h) (.inl ⟨by rfl, fun w hSw => by go_simp⟩) (by assumption) ?_
        simp only [Act.put, List.setIfInBounds_toArray, List.set_cons_zero, List.set_cons_succ]
        refine wpAnyH_take (i := 28) (oi := ⟨some 68, .indexAddr 117 (.tmp 67) (.const (.int .i64 7)), _, _, _, _⟩) (v := .pointer (some ⟨gv, 7, none⟩)) rfl (by kernel_rfl) (by kernel_rfl) (by kernel_rfl) (fun _ _ _ h => h) (.inl ⟨by rfl, fun w hSw => by go_simp⟩) (by assumption) ?_
        simp only [Act.put, List.setIfInBounds_toArray, List.set_cons_zero, List.set_cons_succ]
        refine wpAnyH_take (i := 29) (oi := ⟨some 69, .load 35 (.tmp 68), _, _, _, _⟩) (v := .int .u64 (x7 : Int)) rfl (by kernel_rfl) (by kernel_rfl) (by kernel_rfl) (fun _ _ _ h => h) (.inl ⟨by rfl, fun w hSw => by have z := (hSw.1 7 (by omega)).trans HRX7.out; clear hSw; go_simp⟩) (by assumption) ?_
        simp only [Act.put, List.setIfInBounds_toArray, List.set_cons_zero, List.set_cons_succ]
        refine wpAnyH_take (i := 30) (oi := ⟨some 70, .convert 35 41 (.tmp 69), _, _, _, _⟩) (v := .int .u32 (x7 : Int)) rfl (by kernel_rfl) (by kernel_rfl) (by kernel_rfl) (fun _ _ _ h => h) (.inl ⟨by rfl, fun w hSw => by go_simp⟩) (by assumption) ?_
        simp only [Act.put, List.setIfInBounds_toArray, List.set_cons_zero, List.set_cons_succ]
        refine wpAnyH_take (i := 31) (oi := ⟨some 71, .move (.tmp 5), _, _, _, _⟩) (v := .slice (some ⟨gv, 0, none⟩) 27 c) rfl (by kernel_rfl) (by kernel_rfl) (by kernel_rfl) (fun _ _ _ h => h) (.inl ⟨by rfl, fun w hSw => by go_simp⟩) (by assumption) ?_
        simp only [Act.put, List.setIfInBounds_toArray, List.set_cons_zero, List.set_cons_succ]
        refine wpAnyH_take (i := 32) (oi := ⟨some 72, .indexAddr 117 (.tmp 71) (.const (.int .i64 8)), _, _, _, _⟩) (v := .pointer (some ⟨gv, 8, none⟩)) rfl (by kernel_rfl) (by kernel_rfl) (by kernel_rfl) (fun _ _ _ h => h) (.inl ⟨by rfl, fun w hSw => by go_simp⟩) (by assumption) ?_
        simp only [Act.put, List.setIfInBounds_toArray, List.set_cons_zero, List.set_cons_succ]
        refine wpAnyH_take (i := 33) (oi := ⟨some 73, .load 35 (.tmp 72), _, _, _, _⟩) (v := .int .u64 (x8 : Int)) rfl (by kernel_rfl) (by kernel_rfl) (by kernel_rfl) (fun _ _ _ h => h) (.inl ⟨by rfl, fun w hSw => by have z := (hSw.1 8 (by omega)).trans HRX8.out; clear hSw; go_simp⟩) (by assumption) ?_
        simp only [Act.put, List.setIfInBounds_toArray, List.set_cons_zero, List.set_cons_succ]
        refine wpAnyH_take (i := 34) (oi := ⟨some 74, .convert 35 3 (.tmp 73), _, _, _, _⟩) (v := .int .i64 (x8 : Int)) rfl (by kernel_rfl) (by kernel_rfl) (by kernel_rfl) (fun _ _ _ h => h) (.inl ⟨by rfl, fun w hSw => by go_simp⟩) (by assumption) ?_
        simp only [Act.put, List.setIfInBounds_toArray, List.set_cons_zero, List.set_cons_succ]
        refine wpAnyH_take (i := 35) (oi := ⟨some 75, .move (.tmp 5), _, _, _, _⟩) (v := .slice (some ⟨gv, 0, none⟩) 27 c) rfl (by kernel_rfl) (by kernel_rfl) (by kernel_rfl) (fun _ _ _ h => h) (.inl ⟨by rfl, fun w hSw => by go_simp⟩) (by assumption) ?_
        simp only [Act.put, List.setIfInBounds_toArray, List.set_cons_zero, List.set_cons_succ]
        refine wpAnyH_take (i := 36) (oi := ⟨some 76, .indexAddr 117 (.tmp 75) (.const (.int .i64 9)), _, _, _, _⟩) (v := .pointer (some ⟨gv, 9, none⟩)) rfl (by kernel_rfl) (by kernel_rfl) (by kernel_rfl) (fun _ _ _ h => h) (.inl ⟨by rfl, fun w hSw => by go_simp⟩) (by assumption) ?_
        simp only [Act.put, List.setIfInBounds_toArray, List.set_cons_zero, List.set_cons_succ]
        refine wpAnyH_take (i := 37) (oi := ⟨some 77, .load 35 (.tmp 76), _, _, _, _⟩) (v := .int .u64 (x9 : Int)) rfl (by kernel_rfl) (by kernel_rfl) (by kernel_rfl) (fun _ _ _ h => h) (.inl ⟨by rfl, fun w hSw => by have z := (hSw.1 9 (by omega)).trans HRX9.out; clear hSw; go_simp⟩) (by assumption) ?_
        simp only [Act.put, List.setIfInBounds_toArray, List.set_cons_zero, List.set_cons_succ]
        refine wpAnyH_take (i := 38) (oi := ⟨some 78, .convert 35 41 (.tmp 77), _, _, _, _⟩) (v := .int .u32 (x9 : Int)) rfl (by kernel_rfl) (by kernel_rfl) (by kernel_rfl) (fun _ _ _ h => h) (.inl ⟨by rfl, fun w hSw => by go_simp⟩) (by assumption) ?_
        simp only [Act.put, List.setIfInBounds_toArray, List.set_cons_zero, List.set_cons_succ]
        refine wpAnyH_take (i := 39) (oi := ⟨some 79, .move (.tmp 5), _, _, _, _⟩) (v := .slice (some ⟨gv, 0, none⟩) 27 c) rfl (by kernel_rfl) (by kernel_rfl) (by kernel_rfl) (fun _ _ _ h => h) (.inl ⟨by rfl, fun w hSw => by go_simp⟩) (by assumption) ?_
        simp only [Act.put, List.setIfInBounds_toArray, List.set_cons_zero, List.set_cons_succ]
        refine wpAnyH_take (i := 40) (oi := ⟨some 80, .indexAddr 117 (.tmp 79) (.const (.int .i64 26)), _, _, _, _⟩) (v := .pointer (some ⟨gv, 26, none⟩)) rfl (by kernel_rfl) (by kernel_rfl) (by kernel_rfl) (fun _ _ _ h => h) (.inl ⟨by rfl, fun w hSw => by go_simp⟩) (by assumption) ?_
        simp only [Act.put, List.setIfInBounds_toArray, List.set_cons_zero, List.set_cons_succ]
        refine wpAnyH_take (i := 41) (oi := ⟨some 81, .load 35 (.tmp 80), _, _, _, _⟩) (v := .int .u64 (x26 : Int)) rfl (by kernel_rfl) (by kernel_rfl) (by kernel_rfl) (fun _ _ _ h => h) (.inl ⟨by rfl, fun w hSw => by have z := (hSw.1 26 (by omega)).trans HRX26.out; clear hSw; go_simp⟩) (by assumption) ?_
        simp only [Act.put, List.setIfInBounds_toArray, List.set_cons_zero, List.set_cons_succ]
        refine wpAnyH_take (i := 42) (oi := ⟨some 82, .convert 35 3 (.tmp 81), _, _, _, _⟩) (v := .int .i64 (x26 : Int)) rfl (by kernel_rfl) (by kernel_rfl) (by kernel_rfl) (fun _ _ _ h => h) (.inl ⟨by rfl, fun w hSw => by go_simp⟩) (by assumption) ?_
        simp only [Act.put, List.setIfInBounds_toArray, List.set_cons_zero, List.set_cons_succ]
        refine wpAnyH_take (i := 43) (oi := ⟨some 83, .build 44 #[(0, .tmp 43), (1, .tmp 47), (2, .tmp 51), (3, .tmp 55), (4, .tmp 59), (5, .tmp 63), (6, .tmp 66), (7, .tmp 70), (8, .tmp 74), (9, .tmp 78), (11, .tmp 82)], _, _, _, _⟩) (v := .agg (ncs (us L 0)).toArray) rfl (by kernel_rfl) (by kernel_rfl) (by kernel_rfl) (fun _ _ _ h => h) (.inl ⟨by rfl, fun w hSw => by exact irun_build_op (P := Tryz.prog) w _ 44 #[(0, .tmp 43), (1, .tmp 47), (2, .tmp 51), (3, .tmp 55), (4, .tmp 59), (5, .tmp 63), (6, .tmp 66), (7, .tmp 70), (8, .tmp 74), (9, .tmp 78), (11, .tmp 82)] rfl [(0, .int .i64 (x0 : Int)), (1, .int .i64 (x1 : Int)), (2, .int .u32 (x2 : Int)), (3, .int .u32 (x3 : Int)), (4, .int .i64 (x4 : Int)), (5, .int .i64 (x5 : Int)), (6, .int .u64 (x6 : Int)), (7, .int .u32 (x7 : Int)), (8, .int .i64 (x8 : Int)), (9, .int .u32 (x9 : Int)), (11, .int .i64 (x26 : Int))] (by simp [Act.eval]) _ HBT.out⟩) (by assumption) ?_
        simp only [Act.put, List.setIfInBounds_toArray, List.set_cons_zero, List.set_cons_succ]
        refine wpAnyH_ready (rs := [44]) (by kernel_rfl) (by simp) ?_
        refine AllReadyH.cons (o := ⟨some 8, .alloc 44, _, _, _, _⟩) rfl (fun K hK => ?_) AllReadyH.nil
        refine ist_alloc (by rfl) 44 rfl _ hz.out ?_
        intro g8 w8 hr8 hg8 hb8
        have R8 := Lib.hid hr8
        have HO8 := Lib.hid (OV.kept HO.out (((Below.refl _ _).drew).trans hb8))
        have HR8 := Lib.hid (HR.out.drew.kept hb8)
        have Q8 := Lib.hid (p := w.heap.size ≤ g8 ∧ g2 < g8) (by rw [hg8.out]; exact ⟨HB.out.drew.size, HR.out.drew.lt⟩)
        have HB8 := Lib.hid (below_nxt hb8 HB.out.drew)
        clear hr8 hg8 hb8
        refine hK.out _ _ ⟨HCV.out _ HO8.out, trivial⟩ (fun _hH => ?_)
        clear hK K
        refine wpAnyH_ready (rs := [45]) (by kernel_rfl) (by simp) ?_
        refine AllReadyH.cons (o := ⟨none, .store 44 (.tmp 8) (.tmp 83), _, _, _, _⟩) rfl (fun K hK => ?_) AllReadyH.nil
        refine ist_store (by rfl) 44 (.tmp 8) (.tmp 83) rfl g8 (by rfl) 44 _ (ncs (us L 0)) (by rfl) R8.out rfl (i1.out _) (ncs_one _) ?_
        intro w9 hr9 hg9
        have R9 := Lib.hid hr9
        have HO9 : Hid (OV w.heap.size w9 35 (some ⟨gv, 0, none⟩) 27 c (rv L)) := Lib.hid (HO8.out.far R8.out (by decide) hg9)
        have HR9 := Lib.hid (HR8.out.grown hg9 (fun e => by injection e with e; have := Q8.out; omega))
        have HB9 := Lib.hid (p := Below w.heap.size w w9) (HB8.out.grown hg9 HB8.out.size (fun q hq => by injection hq with hq; subst hq; exact Q8.out.1))
        clear hr9 hg9
        refine hK.out _ _ ⟨HCV.out _ HO9.out, trivial⟩ (fun _hH1 => ?_)
        clear hK K
        refine wpAnyH_done (by kernel_rfl) ?_ _
        clear wx0 wx1 wx2 wx3 wx4 wx5 wx7 wx8 wx9 wx26 mx2 mx3 mx7 mx9 HBT
        go_wp2
        go_loopw [9] (fun x wr => ∃ k : Nat, Hid (k ≤ 16) ∧ x = .int .i64 (k : Int) ∧ Hid (OV w.heap.size wr 35 (some ⟨gv, 0, none⟩) 27 c (rv L)) ∧ Hid (Row wr g8 44 (ncs (us L k))) ∧ Hid (Row wr g2 44 (ncs ino0)) ∧ Hid (Below w.heap.size w wr)) (fun x _ => 16 - (intOf x).toNat)
        case atStart => exact ⟨0, Lib.hid (by omega), rfl, HO9, R9, HR9, HB9⟩
        case round =>
          clear HO9 R9 HR9 HB9 HO HR HB HO8 R8 HR8 HB8
          obtain ⟨k, HK, rfl, HO, R9, HR, HB⟩ := hrel
          have hkw : IntKind.i64.wrap ((k : Int) + 1) = (k : Int) + 1 := by rw [IntKind.wrap_i64]; have := HK.out; omega
          by_cases hk : k < 16
          · have hki : (k : Int) < 16 := by omega
            have hk0 : (0 : Int) ≤ (k : Int) := by omega
            obtain ⟨p, hp⟩ : ∃ p, 10 + k = p := ⟨_, rfl⟩
            have hpw : IntKind.i64.wrap (10 + (k : Int)) = (p : Int) := by rw [IntKind.wrap_i64]; omega
            have hpe : 10 + (k : Int) = (p : Int) := by omega
            have hp0 : (0 : Int) ≤ (p : Int) := by omega
            have hpn : (p : Int) < 27 := by omega
            obtain ⟨x, hx⟩ : ∃ x, rdn sz L p = x := ⟨_, rfl⟩
            have bx : x < 65536 := by rw [← hx]; have h := rdn_lt sz L p; rw [← hp, sz_slot] at h; rw [← hp]; exact h
            have wx : IntKind.i64.wrap (x : Int) = (x : Int) := by rw [IntKind.wrap_i64]; omega
            have cx : wr.cell? ⟨gv, p, none⟩ = some (.int .u64 (x : Int)) := by rw [HCV.out _ HO.out p (by omega)]; unfold rv; rw [hx]
            have c8 : wr.cell? ⟨g8, 10 + k, none⟩ = some (.int .i64 (us L k (10 + k))) := by rw [R9.out.cell, ncs_slot _ (by omega)]
            have f8 := R9.out.free (10 + k)
            have R10 := Lib.hid (p := Row (wr.setCell ⟨g8, 10 + k, none⟩ (.int .i64 (x : Int))) g8 44 (ncs (us L (k + 1)))) (by rw [← us_step L k hk]; unfold rd; rw [hp, hx]; have := R9.out.put (10 + k) (.int .i64 (x : Int)); rwa [hp] at this)
            have HKL := Lib.hid hk
            clear hk hp hx bx
            go_wp2
            go_roundw
            case rel => exact ⟨k + 1, Lib.hid HKL.out, by go_num, Lib.hid (HO.out.far R9.out (by decide) (grown_set wr ⟨g8, 10 + k, none⟩ _)), R10, Lib.hid (HR.out.far (p := ⟨g8, 10 + k, none⟩) (show g2 ≠ g8 by have := Q8.out; omega) _), Lib.hid (HB.out.setCell (p := ⟨g8, 10 + k, none⟩) Q8.out.1 _)⟩
            case measure => have := HKL.out; simp [intOf]; omega
          · obtain rfl : k = 16 := by have := HK.out; omega
            rw [us_all] at R9
            have hki : ¬ ((16 : Nat) : Int) < 16 := by omega
            have hok := HOK.out
            clear hk
            cases hm : mayB (rd sz L)
            · rw [hm, Bool.false_and] at hok
              have HU := Lib.hid hok
              have HP := Lib.hid (fun w => irpack_not (rd sz L) (rd_wf L) hm w)
              clear hok hm
              go_wp2_with (first
                | (refine step_load rfl 98 rfl 44 (.tmp 8) rfl g8 rfl (ncs (rd sz L)) _ R9.out.all Tryz.underlying44 rfl (i1.out _) ?_)
                | (go_at_call 62; refine (HP.out _).mono ?_; rintro e8 w8 ⟨rfl, hb8⟩
                   have R10 := Lib.hid (R9.out.kept hb8)
                   have R28 := Lib.hid (HR.out.kept hb8)
                   have HB8 := Lib.hid (below_nxt hb8 HB.out)
                   clear hb8)
                | (refine step_build rfl 44 #[] rfl [] ?hv _ built_ino0 ?_; case hv => simp)
                | (refine step_store rfl 44 (.tmp 2) (.tmp 110) rfl g2 (by rfl) _ (ncs ino0) (ncs ino0) (by rfl) R28.out rfl (i1.out _) (ncs_one _) ?_; intro w9 hr9 hg9 hs9))
              refine bodyPost_ret (results_row_tmp rfl _ _ g2 _ _ _ _ rfl hr9 Tryz.underlying44 rfl (by simpa using i1.out ino0)) rfl ?_
              exact ⟨by rw [iV_bad HU.out]; rfl, HB8.out.grown hg9 HB8.out.size (fun q hq => by injection hq with hq; subst hq; exact Q2.out)⟩
            · rw [hm, Bool.true_and] at hok
              have HP := Lib.hid (fun w => irpack_ok (rd sz L) hm (rd_wf L) w)
              have HBL := blk_len sz (rd sz L) 27 (by decide)
              cases he : decide (blk sz (rd sz L) 27 = L)
              · rw [he] at hok
                have HU := Lib.hid hok
                have HBY : Hid (∀ A8 c8 w, Hol w A8 (blk sz (rd sz L) 27) → Hol w (some ⟨ga, oa, none⟩) L → Calls Tryz.prog 63 #[.slice A8 256 c8, .slice (some ⟨ga, oa, none⟩) 256 cb] w fun e w' => e = .returned (.bool false) ∧ Below w.heap.size w w') := Lib.hid (fun A8 c8 w h1 h2 => by
                  have h := rbytes_any A8 (some ⟨ga, oa, none⟩) c8 cb _ _ w h1 h2 (by omega) (by rw [HL.out]; omega)
                  rwa [he, HBL, HL.out] at h)
                clear hok hm he HBL
                go_wp2_with (first
                  | (refine step_load rfl 98 rfl 44 (.tmp 8) rfl g8 rfl (ncs (rd sz L)) _ R9.out.all Tryz.underlying44 rfl (i1.out _) ?_)
                  | (go_at_call 62; refine (HP.out _).mono ?_; rintro e8 w8 ⟨A8, c8, rfl, ho8, hb8⟩
                     have R10 := Lib.hid (R9.out.kept hb8.out)
                     have R28 := Lib.hid (HR.out.kept hb8.out)
                     have HB8 := Lib.hid (below_nxt hb8.out HB.out)
                     have HH8 := Lib.hid (Hol.own ho8.out)
                     clear hb8 ho8)
                  | (go_at_call 63; refine (HBY.out A8 c8 _ HH8.out (HA.out.below HB8.out)).mono ?_; rintro e9 w9 ⟨rfl, hb9⟩
                     have R11 := Lib.hid (R10.out.kept hb9)
                     have R29 := Lib.hid (R28.out.kept hb9)
                     have HB9 := Lib.hid (below_nxt hb9 HB8.out)
                     clear hb9)
                  | (refine step_build rfl 44 #[] rfl [] ?hv _ built_ino0 ?_; case hv => simp)
                  | (refine step_store rfl 44 (.tmp 2) (.tmp 110) rfl g2 (by rfl) _ (ncs ino0) (ncs ino0) (by rfl) R29.out rfl (i1.out _) (ncs_one _) ?_; intro w9 hr9 hg9 hs9))
                refine bodyPost_ret (results_row_tmp rfl _ _ g2 _ _ _ _ rfl hr9 Tryz.underlying44 rfl (by simpa using i1.out ino0)) rfl ?_
                exact ⟨by rw [iV_bad HU.out]; rfl, HB9.out.grown hg9 HB9.out.size (fun q hq => by injection hq with hq; subst hq; exact Q2.out)⟩
              · rw [he] at hok
                have HU := Lib.hid hok
                have HBY : Hid (∀ A8 c8 w, Hol w A8 (blk sz (rd sz L) 27) → Hol w (some ⟨ga, oa, none⟩) L → Calls Tryz.prog 63 #[.slice A8 256 c8, .slice (some ⟨ga, oa, none⟩) 256 cb] w fun e w' => e = .returned (.bool true) ∧ Below w.heap.size w w') := Lib.hid (fun A8 c8 w h1 h2 => by
                  have h := rbytes_any A8 (some ⟨ga, oa, none⟩) c8 cb _ _ w h1 h2 (by omega) (by rw [HL.out]; omega)
                  rwa [he, HBL, HL.out] at h)
                clear hok hm he HBL
                go_wp2_with (first
                  | (refine step_load rfl 98 rfl 44 (.tmp 8) rfl g8 rfl (ncs (rd sz L)) _ R9.out.all Tryz.underlying44 rfl (i1.out _) ?_)
                  | (go_at_call 62; refine (HP.out _).mono ?_; rintro e8 w8 ⟨A8, c8, rfl, ho8, hb8⟩
                     have R10 := Lib.hid (R9.out.kept hb8.out)
                     have R28 := Lib.hid (HR.out.kept hb8.out)
                     have HB8 := Lib.hid (below_nxt hb8.out HB.out)
                     have HH8 := Lib.hid (Hol.own ho8.out)
                     clear hb8 ho8)
                  | (go_at_call 63; refine (HBY.out A8 c8 _ HH8.out (HA.out.below HB8.out)).mono ?_; rintro e9 w9 ⟨rfl, hb9⟩
                     have R11 := Lib.hid (R10.out.kept hb9)
                     have R29 := Lib.hid (R28.out.kept hb9)
                     have HB9 := Lib.hid (below_nxt hb9 HB8.out)
                     clear hb9)
                  | (refine step_load rfl 111 rfl 44 (.tmp 8) rfl g8 rfl (ncs (rd sz L)) _ R11.out.all Tryz.underlying44 rfl (i1.out _) ?_)
                  | (refine step_store rfl 44 (.tmp 2) (.tmp 111) rfl g2 (by rfl) _ (ncs ino0) (ncs (rd sz L)) (by rfl) R29.out rfl (i1.out _) (ncs_one _) ?_; intro w9 hr9 hg9 hs9))
                refine bodyPost_ret (results_row_tmp rfl _ _ g2 _ _ _ _ rfl hr9 Tryz.underlying44 rfl (by simpa using i1.out (rd sz L))) rfl ?_
                exact ⟨by rw [iV_ok HU.out]; rfl, HB9.out.grown hg9 HB9.out.size (fun q hq => by injection hq with hq; subst hq; exact Q2.out)⟩
  · have HU := Lib.hid (p := iOk L = false) (by unfold iOk; rw [decide_eq_false (by omega), Bool.false_and])
    have hne : ((n : Int) != 256) = true := by simp; omega
    have hlen' : (n : Int) ≤ 9223372036854775807 := by omega
    clear hA hn hlen hcap h256
    go_enter Tryz.func25, Tryz.ntmps25
    go_wp2_with (first
      | (refine step_alloc rfl 2 rfl 44 rfl _ hz.out ?_; intro g2 w2 hr2 hg2 hb2 hs2
         have R2 := Lib.hid hr2
         have HB2 := Lib.hid hb2
         have Q2 := Lib.hid (p := w.heap.size ≤ g2) (by rw [hg2.out]; exact Nat.le_refl _)
         clear hr2 hb2 hg2 hs2)
      | (refine step_build rfl 44 #[] rfl [] ?hv _ built_ino0 ?_; case hv => simp)
      | (refine step_store rfl 44 (.tmp 2) (.tmp 15) rfl g2 (by rfl) _ (ncs ino0) (ncs ino0) (by rfl) R2.out rfl (i1.out _) (ncs_one _) ?_; intro w9 hr9 hg9 hs9))
    refine bodyPost_ret (results_row_tmp rfl _ _ g2 _ _ _ _ rfl hr9 Tryz.underlying44 rfl (by simpa using i1.out ino0)) rfl ?_
    exact ⟨by rw [iV_bad HU.out]; rfl, HB2.out.grown hg9 HB2.out.size (fun q hq => by injection hq with hq; subst hq; exact Q2.out)⟩
end Go.Proofs.YtfbfeplegdpemaaGreat
