/- Every script answers, step by step, what the document says: the walk. Condition: the library's table lies there. -/
import Derived.Test.YtkmnmmenjpkkpaaDoorSq2
import Derived.Deep.CutRange
import Derived.Deep.RegionHeld3
set_option linter.unusedVariables false
namespace Go.Proofs.YtkmnmmenjpkkpaaDoor.spacePlays
open Go.RowKit

theorem below_drwP (w : World) : Below w.heap.size w w.drew := (Below.refl _ _).drew
set_option maxRecDepth 20000 in
set_option maxHeartbeats 2000000 in
theorem walk_in (W : World) (N : Nat) (h1 : 1 ≤ N) (h2 : N ≤ 1024) (A : Option Addr) (len cap : Nat) (ds : List (Int × Int)) (hds : InP W A len cap ds) (hT : Tab W) :
    Calls Tryd.prog 3 #[.int .i64 (N : Int), .slice A len cap] W fun e w' => e = .returned (.bool true) ∧ Below W.heap.size W w' := by
  have H := Lib.hid (p := 1 ≤ N ∧ N ≤ 1024) ⟨h1, h2⟩
  have HT := Lib.hid hT
  have HDS := Lib.hid hds
  have hlen9 : (len : Int) ≤ 9223372036854775807 := by have h1 := hds.cap_; have h2 := hds.max_; unfold maxLen at h2; omega
  have e1 : decide ((N : Int) < 1) = false := decide_eq_false (by omega)
  have e2 : decide (1024 < (N : Int)) = false := decide_eq_false (by omega)
  have e3 : decide (N < 1) = false := decide_eq_false (by omega)
  have e4 : decide (1024 < N) = false := decide_eq_false (by omega)
  clear hT hds h1 h2
  go_enter Tryd.func3, Tryd.ntmps3
  go_wp2_with (first
    | (go_at_call 8; refine (awake_any _ HT.out).mono ?_; rintro e w1 ⟨rfl, hb1⟩; have HB1 := Lib.hid hb1; clear hb1)
    | (go_at_call 9; refine (own_new H.out.1 H.out.2 _ (HT.out.below HB1.out HT.out.lt)).mono ?_; rintro e w2 ⟨g, rfl, h2⟩; have H2 := Lib.hid (h2.base HB1.out); clear h2)
    | (go_at_call 10; refine (rnew_any N H.out.2 _).mono ?_; rintro e w3 ⟨r, h, rfl, hp3, hb3, hr3, hh3⟩
       have H3 : Hid (Two W w3 g r h N s0 s0) := Lib.hid ⟨H2.out.kept hb3, hp3, ⟨Nat.ne_of_lt (Nat.lt_of_lt_of_le H2.out.sp.lt hr3), Nat.ne_of_lt (Nat.lt_of_lt_of_le H2.out.sp.lt hh3), Nat.le_trans H2.out.below.size hr3, Nat.le_trans H2.out.below.size hh3⟩, HT.out.lt⟩
       clear hp3 hb3 hr3 hh3))
  clear H2 HB1
  go_loopw [8] (fun i wr => ∃ (k : Nat) (S : Nat → Nat), k ≤ 300 ∧ i = .int .i64 (k : Int) ∧ Hid (Two W wr g r h N S S)) (fun i _ => 300 - (intOf i).toNat)
  case atStart => exact ⟨0, s0, by omega, rfl, H3⟩
  case round =>
    clear H3
    obtain ⟨k, S, hk, rfl, HS⟩ := hrel
    by_cases hlt : k < len ∧ k < 300
    · obtain ⟨⟨kd, ka⟩, hd⟩ : ∃ d, ds[k]? = some d := ⟨_, List.getElem?_eq_getElem (by rw [← HDS.out.len_]; exact hlt.1)⟩
      obtain ⟨gs, os, rfl, c0, c1⟩ := HDS.out.at_ k _ hd
      have hgs := World.block_lt_of_cell? W _ c0
      have c0r : wr.cell? ⟨gs, os + k * 2, none⟩ = some (.int .i64 kd) := (HS.out.o.below.cell (p := ⟨gs, os + k * 2, none⟩) hgs).trans c0
      have c1r : wr.cell? ⟨gs, os + k * 2 + 1, none⟩ = some (.int .i64 ka) := (HS.out.o.below.cell (p := ⟨gs, os + k * 2 + 1, none⟩) hgs).trans c1
      have hk1 : (k : Int) < (len : Int) := by omega
      have hk2 : (k : Int) < 300 := by omega
      have hk0 := inn k
      have d1 : decide (k < len) = true := decide_eq_true hlt.1
      have d2 : decide (k < 300) = true := decide_eq_true hlt.2
      have HKK := Lib.hid (p := k < 300 ∧ k + 1 ≤ 300) ⟨hlt.2, hlt.2⟩
      clear c0 c1 hlt hd hk hgs
      go_upto_region 13 with fail
      have hba : Below wr.heap.size wr (wr.alloc (.cells #[.int .i64 kd, .int .i64 ka] 31)) := below_al wr _
      have HA := Lib.hid (HS.out.kept hba)
      have HD9 := Lib.hid (p := wr.heap.size ≠ g ∧ wr.heap.size ≠ r ∧ wr.heap.size ≠ h) ⟨fun e => Nat.lt_irrefl _ (e ▸ HS.out.o.sp.lt), fun e => Nat.lt_irrefl _ (e ▸ HS.out.p.top.lt), fun e => Nat.lt_irrefl _ (e ▸ HS.out.p.row.lt)⟩
      have c0a : (wr.alloc (.cells #[.int .i64 kd, .int .i64 ka] 31)).cell? ⟨wr.heap.size, 0, none⟩ = some (.int .i64 kd) := by simp
      have c1a : (wr.alloc (.cells #[.int .i64 kd, .int .i64 ka] 31)).cell? ⟨wr.heap.size, 1, none⟩ = some (.int .i64 ka) := by simp
      obtain ⟨wa, hwa⟩ : ∃ wa, wr.alloc (.cells #[.int .i64 kd, .int .i64 ka] 31) = wa := ⟨_, rfl⟩
      rw [hwa] at HA c0a c1a ⊢
      clear hwa hba HS c0r c1r
      by_cases k0 : kd = 0
      · subst k0
        obtain ⟨o, ho⟩ : ∃ o, ft N S = o := ⟨_, rfl⟩
        obtain ⟨x, hx⟩ : ∃ x, tkA o = x := ⟨_, rfl⟩
        obtain ⟨y, hy⟩ : ∃ y, tkE o = y := ⟨_, rfl⟩
        obtain ⟨T, hT⟩ : ∃ T, tkS S o = T := ⟨_, rfl⟩
        have nxx : (x != x) = false := by simp
        have nyy : (y != y) = false := by simp
        have HT1 : Hid (∀ w S1, Two W w g r h N S S1 → Calls Tryd.prog 11 #[.pointer (some ⟨g, 0, none⟩)] w fun e w' => e = .returned (.tuple #[.int .i64 x, .int .i64 y]) ∧ Two W w' g r h N T S1 ∧ w.grownBy w' (some g)) := Lib.hid (fun w S1 k => by have := two_take k; rw [ho, hx, hy, hT] at this; exact this)
        have HT2 : Hid (∀ w S2, Two W w g r h N S2 S → Calls Tryd.prog 12 #[.pointer (some ⟨r, 0, none⟩)] w fun e w' => e = .returned (.tuple #[.int .i64 x, .int .i64 y]) ∧ Two W w' g r h N S2 T ∧ w.grownBy w' (some h)) := Lib.hid (fun w S2 k => by have := two_rtake k; rw [ho, hx, hy, hT] at this; exact this)
        clear ho hx hy hT
        go_upto_region 30 with (first
          | (go_at_call 11
             refine (HT1.out _ _ HA.out).mono ?_
             rintro e w5 ⟨rfl, h5, g5⟩
             have H5 := Lib.hid h5
             have c5 : w5.cell? ⟨wr.heap.size, 1, none⟩ = some (.int .i64 ka) := cell_third g5 HD9.out.1 c1a
             clear h5 g5)
          | (go_at_call 12
             refine (HT2.out _ _ H5.out).mono ?_
             rintro e w6 ⟨rfl, h6, g6⟩
             have H6 := Lib.hid h6
             have c6 : w6.cell? ⟨wr.heap.size, 1, none⟩ = some (.int .i64 ka) := cell_third g6 HD9.out.2.2 c5
             clear h6 g6))
        have H9 : Hid (Two W w6 g r h N T T) := H6
        have c9 := c6
        obtain ⟨w9, hw9⟩ : ∃ w9, w6 = w9 := ⟨_, rfl⟩
        rw [hw9] at H9 c9 ⊢
        clear hw9 H6 H5 c5 c6 nyy
        obtain ⟨c, hc⟩ : ∃ c, nFree N T = c := ⟨_, rfl⟩
        obtain ⟨y, hy⟩ : ∃ y, stv N T ka = y := ⟨_, rfl⟩
        have HF1 : Hid (∀ q, Calls Tryd.prog 19 #[.pointer (some ⟨g, 0, none⟩)] (w9.drewN q) fun e w' => e = .returned (.int .i64 (c : Int)) ∧ w' = w9.drewN q) := Lib.hid (fun q => two_free (H9.out.drewN q) hc)
        have HF2 : Hid (∀ q, Calls Tryd.prog 20 #[.pointer (some ⟨r, 0, none⟩)] (w9.drewN q) fun e w' => e = .returned (.int .i64 (c : Int)) ∧ w' = w9.drewN q) := Lib.hid (fun q => two_rfree (H9.out.drewN q) hc)
        have HS1 : Hid (∀ q, Calls Tryd.prog 21 #[.pointer (some ⟨g, 0, none⟩), .int .i64 ka] (w9.drewN q) fun e w' => e = .returned (.int .i64 y) ∧ ∃ q', w' = (w9.drewN q).drewN q') := Lib.hid (fun q => two_state (H9.out.drewN q) hy)
        have HS2 : Hid (∀ q, Calls Tryd.prog 22 #[.pointer (some ⟨r, 0, none⟩), .int .i64 ka] (w9.drewN q) fun e w' => e = .returned (.int .i64 y) ∧ w' = w9.drewN q) := Lib.hid (fun q => two_rstate (H9.out.drewN q) hy)
        have ncc : ((c : Int) != (c : Int)) = false := by simp
        have nyy : (y != y) = false := by simp
        clear hc hy
        go_wp2_with fail
        go_quiet (first
          | (go_at_call 19; refine Calls.quiet_of_same (HF1.out _))
          | (go_at_call 20; refine Calls.quiet_of_same (HF2.out _))
          | (go_at_call 21; refine Calls.quiet_of (HS1.out _))
          | (go_at_call 22; refine Calls.quiet_of_same (HS2.out _)))
        have HZ := Lib.hid (H9.out.drewN nq)
        go_wp2
        go_roundw
        case rel => exact ⟨k + 1, T, HKK.out.2, by go_num, HZ⟩
        case measure => simp [intOf]; have := HKK.out; omega
      · have b0 : (kd == 0) = false := beq_false_of_ne k0
        by_cases k1 : kd = 1
        · subst k1
          obtain ⟨x, hx⟩ : ∃ x, mv N S ka 0 = x := ⟨_, rfl⟩
          obtain ⟨T, hT⟩ : ∃ T, chS N S ka 0 1 = T := ⟨_, rfl⟩
          have HX := Lib.hid hx
          have HTT := Lib.hid hT
          have nxx : (x != x) = false := by simp
          have HD := Lib.hid (HA.out.kept (below_drwP wa))
          have cD : wa.drew.cell? ⟨wr.heap.size, 1, none⟩ = some (.int .i64 ka) := c1a
          clear hx hT
          go_wp2_with fail
          go_region_held3 (fun w' => w'.cell? ⟨wr.heap.size, 1, none⟩ = some (.int .i64 ka))
            (first | (exact c6) | (exact c5) | go_keep)
            (first
              | (go_at_call 13
                 refine (two_mark HD.out ka HX.out HTT.out).mono ?_
                 rintro e w5 ⟨rfl, h5, g5⟩
                 have H5 := Lib.hid h5
                 have c5 : w5.cell? ⟨wr.heap.size, 1, none⟩ = some (.int .i64 ka) := cell_third g5 HD9.out.1 cD
                 clear h5 g5)
              | (go_at_call 14
                 refine (two_change H5.out ka HX.out HTT.out).mono ?_
                 rintro e w6 ⟨rfl, h6, g6⟩
                 have H6 := Lib.hid h6
                 have c6 : w6.cell? ⟨wr.heap.size, 1, none⟩ = some (.int .i64 ka) := cell_third g6 HD9.out.2.2 c5
                 clear h6 g6))
          have H9 : Hid (Two W w6 g r h N T T) := H6
          have c9 := c6
          obtain ⟨w9, hw9⟩ : ∃ w9, w6 = w9 := ⟨_, rfl⟩
          rw [hw9] at H9 c9 ⊢
          clear hw9 H6 H5 c5 c6 cD HD
          obtain ⟨c, hc⟩ : ∃ c, nFree N T = c := ⟨_, rfl⟩
          obtain ⟨y, hy⟩ : ∃ y, stv N T ka = y := ⟨_, rfl⟩
          have HF1 : Hid (∀ q, Calls Tryd.prog 19 #[.pointer (some ⟨g, 0, none⟩)] (w9.drewN q) fun e w' => e = .returned (.int .i64 (c : Int)) ∧ w' = w9.drewN q) := Lib.hid (fun q => two_free (H9.out.drewN q) hc)
          have HF2 : Hid (∀ q, Calls Tryd.prog 20 #[.pointer (some ⟨r, 0, none⟩)] (w9.drewN q) fun e w' => e = .returned (.int .i64 (c : Int)) ∧ w' = w9.drewN q) := Lib.hid (fun q => two_rfree (H9.out.drewN q) hc)
          have HS1 : Hid (∀ q, Calls Tryd.prog 21 #[.pointer (some ⟨g, 0, none⟩), .int .i64 ka] (w9.drewN q) fun e w' => e = .returned (.int .i64 y) ∧ ∃ q', w' = (w9.drewN q).drewN q') := Lib.hid (fun q => two_state (H9.out.drewN q) hy)
          have HS2 : Hid (∀ q, Calls Tryd.prog 22 #[.pointer (some ⟨r, 0, none⟩), .int .i64 ka] (w9.drewN q) fun e w' => e = .returned (.int .i64 y) ∧ w' = w9.drewN q) := Lib.hid (fun q => two_rstate (H9.out.drewN q) hy)
          have ncc : ((c : Int) != (c : Int)) = false := by simp
          have nyy : (y != y) = false := by simp
          clear hc hy
          go_wp2_with fail
          go_quiet (first
            | (go_at_call 19; refine Calls.quiet_of_same (HF1.out _))
            | (go_at_call 20; refine Calls.quiet_of_same (HF2.out _))
            | (go_at_call 21; refine Calls.quiet_of (HS1.out _))
            | (go_at_call 22; refine Calls.quiet_of_same (HS2.out _)))
          have HZ := Lib.hid (H9.out.drewN nq)
          go_wp2
          go_roundw
          case rel => exact ⟨k + 1, T, HKK.out.2, by go_num, HZ⟩
          case measure => simp [intOf]; have := HKK.out; omega
        · have b1 : (kd == 1) = false := beq_false_of_ne k1
          by_cases k2 : kd = 2
          · subst k2
            obtain ⟨x, hx⟩ : ∃ x, mv N S ka 1 = x := ⟨_, rfl⟩
            obtain ⟨T, hT⟩ : ∃ T, chS N S ka 1 2 = T := ⟨_, rfl⟩
            have HX := Lib.hid hx
            have HTT := Lib.hid hT
            have nxx : (x != x) = false := by simp
            have HD := Lib.hid (HA.out.kept (below_drwP wa))
            have cD : wa.drew.cell? ⟨wr.heap.size, 1, none⟩ = some (.int .i64 ka) := c1a
            clear hx hT
            go_wp2_with fail
            go_region_held3 (fun w' => w'.cell? ⟨wr.heap.size, 1, none⟩ = some (.int .i64 ka))
              (first | (exact c6) | (exact c5) | go_keep)
              (first
                | (go_at_call 15
                   refine (two_give HD.out ka HX.out HTT.out).mono ?_
                   rintro e w5 ⟨rfl, h5, g5⟩
                   have H5 := Lib.hid h5
                   have c5 : w5.cell? ⟨wr.heap.size, 1, none⟩ = some (.int .i64 ka) := cell_third g5 HD9.out.1 cD
                   clear h5 g5)
                | (go_at_call 14
                   refine (two_change H5.out ka HX.out HTT.out).mono ?_
                   rintro e w6 ⟨rfl, h6, g6⟩
                   have H6 := Lib.hid h6
                   have c6 : w6.cell? ⟨wr.heap.size, 1, none⟩ = some (.int .i64 ka) := cell_third g6 HD9.out.2.2 c5
                   clear h6 g6))
            have H9 : Hid (Two W w6 g r h N T T) := H6
            have c9 := c6
            obtain ⟨w9, hw9⟩ : ∃ w9, w6 = w9 := ⟨_, rfl⟩
            rw [hw9] at H9 c9 ⊢
            clear hw9 H6 H5 c5 c6 cD HD
            obtain ⟨c, hc⟩ : ∃ c, nFree N T = c := ⟨_, rfl⟩
            obtain ⟨y, hy⟩ : ∃ y, stv N T ka = y := ⟨_, rfl⟩
            have HF1 : Hid (∀ q, Calls Tryd.prog 19 #[.pointer (some ⟨g, 0, none⟩)] (w9.drewN q) fun e w' => e = .returned (.int .i64 (c : Int)) ∧ w' = w9.drewN q) := Lib.hid (fun q => two_free (H9.out.drewN q) hc)
            have HF2 : Hid (∀ q, Calls Tryd.prog 20 #[.pointer (some ⟨r, 0, none⟩)] (w9.drewN q) fun e w' => e = .returned (.int .i64 (c : Int)) ∧ w' = w9.drewN q) := Lib.hid (fun q => two_rfree (H9.out.drewN q) hc)
            have HS1 : Hid (∀ q, Calls Tryd.prog 21 #[.pointer (some ⟨g, 0, none⟩), .int .i64 ka] (w9.drewN q) fun e w' => e = .returned (.int .i64 y) ∧ ∃ q', w' = (w9.drewN q).drewN q') := Lib.hid (fun q => two_state (H9.out.drewN q) hy)
            have HS2 : Hid (∀ q, Calls Tryd.prog 22 #[.pointer (some ⟨r, 0, none⟩), .int .i64 ka] (w9.drewN q) fun e w' => e = .returned (.int .i64 y) ∧ w' = w9.drewN q) := Lib.hid (fun q => two_rstate (H9.out.drewN q) hy)
            have ncc : ((c : Int) != (c : Int)) = false := by simp
            have nyy : (y != y) = false := by simp
            clear hc hy
            go_wp2_with fail
            go_quiet (first
              | (go_at_call 19; refine Calls.quiet_of_same (HF1.out _))
              | (go_at_call 20; refine Calls.quiet_of_same (HF2.out _))
              | (go_at_call 21; refine Calls.quiet_of (HS1.out _))
              | (go_at_call 22; refine Calls.quiet_of_same (HS2.out _)))
            have HZ := Lib.hid (H9.out.drewN nq)
            go_wp2
            go_roundw
            case rel => exact ⟨k + 1, T, HKK.out.2, by go_num, HZ⟩
            case measure => simp [intOf]; have := HKK.out; omega
          · have b2 : (kd == 2) = false := beq_false_of_ne k2
            by_cases k3 : kd = 3
            · subst k3
              obtain ⟨x, hx⟩ : ∃ x, mv N S ka 1 = x := ⟨_, rfl⟩
              obtain ⟨T, hT⟩ : ∃ T, chS N S ka 1 0 = T := ⟨_, rfl⟩
              have HX := Lib.hid hx
              have HTT := Lib.hid hT
              have nxx : (x != x) = false := by simp
              have HD := Lib.hid (HA.out.kept (below_drwP wa))
              have cD : wa.drew.cell? ⟨wr.heap.size, 1, none⟩ = some (.int .i64 ka) := c1a
              clear hx hT
              go_wp2_with fail
              go_region_held3 (fun w' => w'.cell? ⟨wr.heap.size, 1, none⟩ = some (.int .i64 ka))
                (first | (exact c6) | (exact c5) | go_keep)
                (first
                  | (go_at_call 16
                     refine (two_undo HD.out ka HX.out HTT.out).mono ?_
                     rintro e w5 ⟨rfl, h5, g5⟩
                     have H5 := Lib.hid h5
                     have c5 : w5.cell? ⟨wr.heap.size, 1, none⟩ = some (.int .i64 ka) := cell_third g5 HD9.out.1 cD
                     clear h5 g5)
                  | (go_at_call 14
                     refine (two_change H5.out ka HX.out HTT.out).mono ?_
                     rintro e w6 ⟨rfl, h6, g6⟩
                     have H6 := Lib.hid h6
                     have c6 : w6.cell? ⟨wr.heap.size, 1, none⟩ = some (.int .i64 ka) := cell_third g6 HD9.out.2.2 c5
                     clear h6 g6))
              have H9 : Hid (Two W w6 g r h N T T) := H6
              have c9 := c6
              obtain ⟨w9, hw9⟩ : ∃ w9, w6 = w9 := ⟨_, rfl⟩
              rw [hw9] at H9 c9 ⊢
              clear hw9 H6 H5 c5 c6 cD HD
              obtain ⟨c, hc⟩ : ∃ c, nFree N T = c := ⟨_, rfl⟩
              obtain ⟨y, hy⟩ : ∃ y, stv N T ka = y := ⟨_, rfl⟩
              have HF1 : Hid (∀ q, Calls Tryd.prog 19 #[.pointer (some ⟨g, 0, none⟩)] (w9.drewN q) fun e w' => e = .returned (.int .i64 (c : Int)) ∧ w' = w9.drewN q) := Lib.hid (fun q => two_free (H9.out.drewN q) hc)
              have HF2 : Hid (∀ q, Calls Tryd.prog 20 #[.pointer (some ⟨r, 0, none⟩)] (w9.drewN q) fun e w' => e = .returned (.int .i64 (c : Int)) ∧ w' = w9.drewN q) := Lib.hid (fun q => two_rfree (H9.out.drewN q) hc)
              have HS1 : Hid (∀ q, Calls Tryd.prog 21 #[.pointer (some ⟨g, 0, none⟩), .int .i64 ka] (w9.drewN q) fun e w' => e = .returned (.int .i64 y) ∧ ∃ q', w' = (w9.drewN q).drewN q') := Lib.hid (fun q => two_state (H9.out.drewN q) hy)
              have HS2 : Hid (∀ q, Calls Tryd.prog 22 #[.pointer (some ⟨r, 0, none⟩), .int .i64 ka] (w9.drewN q) fun e w' => e = .returned (.int .i64 y) ∧ w' = w9.drewN q) := Lib.hid (fun q => two_rstate (H9.out.drewN q) hy)
              have ncc : ((c : Int) != (c : Int)) = false := by simp
              have nyy : (y != y) = false := by simp
              clear hc hy
              go_wp2_with fail
              go_quiet (first
                | (go_at_call 19; refine Calls.quiet_of_same (HF1.out _))
                | (go_at_call 20; refine Calls.quiet_of_same (HF2.out _))
                | (go_at_call 21; refine Calls.quiet_of (HS1.out _))
                | (go_at_call 22; refine Calls.quiet_of_same (HS2.out _)))
              have HZ := Lib.hid (H9.out.drewN nq)
              go_wp2
              go_roundw
              case rel => exact ⟨k + 1, T, HKK.out.2, by go_num, HZ⟩
              case measure => simp [intOf]; have := HKK.out; omega
            · have b3 : (kd == 3) = false := beq_false_of_ne k3
              clear k0 k1 k2 k3
              obtain ⟨x, hx⟩ : ∃ x, nBack N S = x := ⟨_, rfl⟩
              obtain ⟨T, hT⟩ : ∃ T, seS S = T := ⟨_, rfl⟩
              have nxx : ((x : Int) != (x : Int)) = false := by simp
              have HT1 : Hid (∀ w S1, Two W w g r h N S S1 → Calls Tryd.prog 17 #[.pointer (some ⟨g, 0, none⟩)] w fun e w' => e = .returned (.int .i64 (x : Int)) ∧ Two W w' g r h N T S1 ∧ w.grownBy w' (some g)) := Lib.hid (fun w S1 k => by have := two_settle k; rw [hx, hT] at this; exact this)
              have HT2 : Hid (∀ w S2, Two W w g r h N S2 S → Calls Tryd.prog 18 #[.pointer (some ⟨r, 0, none⟩)] w fun e w' => e = .returned (.int .i64 (x : Int)) ∧ Two W w' g r h N S2 T ∧ w.grownBy w' (some h)) := Lib.hid (fun w S2 k => by have := two_rsettle k; rw [hx, hT] at this; exact this)
              clear hx hT
              go_upto_region 30 with (first
                | (go_at_call 17
                   refine (HT1.out _ _ HA.out).mono ?_
                   rintro e w5 ⟨rfl, h5, g5⟩
                   have H5 := Lib.hid h5
                   have c5 : w5.cell? ⟨wr.heap.size, 1, none⟩ = some (.int .i64 ka) := cell_third g5 HD9.out.1 c1a
                   clear h5 g5)
                | (go_at_call 18
                   refine (HT2.out _ _ H5.out).mono ?_
                   rintro e w6 ⟨rfl, h6, g6⟩
                   have H6 := Lib.hid h6
                   have c6 : w6.cell? ⟨wr.heap.size, 1, none⟩ = some (.int .i64 ka) := cell_third g6 HD9.out.2.2 c5
                   clear h6 g6))
              have H9 : Hid (Two W w6 g r h N T T) := H6
              have c9 := c6
              obtain ⟨w9, hw9⟩ : ∃ w9, w6 = w9 := ⟨_, rfl⟩
              rw [hw9] at H9 c9 ⊢
              clear hw9 H6 H5 c5 c6
              obtain ⟨c, hc⟩ : ∃ c, nFree N T = c := ⟨_, rfl⟩
              obtain ⟨y, hy⟩ : ∃ y, stv N T ka = y := ⟨_, rfl⟩
              have HF1 : Hid (∀ q, Calls Tryd.prog 19 #[.pointer (some ⟨g, 0, none⟩)] (w9.drewN q) fun e w' => e = .returned (.int .i64 (c : Int)) ∧ w' = w9.drewN q) := Lib.hid (fun q => two_free (H9.out.drewN q) hc)
              have HF2 : Hid (∀ q, Calls Tryd.prog 20 #[.pointer (some ⟨r, 0, none⟩)] (w9.drewN q) fun e w' => e = .returned (.int .i64 (c : Int)) ∧ w' = w9.drewN q) := Lib.hid (fun q => two_rfree (H9.out.drewN q) hc)
              have HS1 : Hid (∀ q, Calls Tryd.prog 21 #[.pointer (some ⟨g, 0, none⟩), .int .i64 ka] (w9.drewN q) fun e w' => e = .returned (.int .i64 y) ∧ ∃ q', w' = (w9.drewN q).drewN q') := Lib.hid (fun q => two_state (H9.out.drewN q) hy)
              have HS2 : Hid (∀ q, Calls Tryd.prog 22 #[.pointer (some ⟨r, 0, none⟩), .int .i64 ka] (w9.drewN q) fun e w' => e = .returned (.int .i64 y) ∧ w' = w9.drewN q) := Lib.hid (fun q => two_rstate (H9.out.drewN q) hy)
              have ncc : ((c : Int) != (c : Int)) = false := by simp
              have nyy : (y != y) = false := by simp
              clear hc hy
              go_wp2_with fail
              go_quiet (first
                | (go_at_call 19; refine Calls.quiet_of_same (HF1.out _))
                | (go_at_call 20; refine Calls.quiet_of_same (HF2.out _))
                | (go_at_call 21; refine Calls.quiet_of (HS1.out _))
                | (go_at_call 22; refine Calls.quiet_of_same (HS2.out _)))
              have HZ := Lib.hid (H9.out.drewN nq)
              go_wp2
              go_roundw
              case rel => exact ⟨k + 1, T, HKK.out.2, by go_num, HZ⟩
              case measure => simp [intOf]; have := HKK.out; omega
    · have hx : decide (k < len) = false ∨ (decide (k < len) = true ∧ (k : Int) < (len : Int) ∧ ¬ (k : Int) < 300 ∧ decide (k < 300) = false ∧ decide ((k : Int) < 300) = false) := by
        by_cases e : k < len
        · exact .inr ⟨decide_eq_true e, by omega, by omega, decide_eq_false (by omega), decide_eq_false (by omega)⟩
        · exact .inl (decide_eq_false e)
      clear hlt hk
      rcases hx with hx | ⟨hx, hx2, hx3, hy, hy2⟩
      all_goals
        go_wp2
        go_loopw [14] (fun i wx => ∃ (m : Nat) (y : Int), m ≤ N + 2 ∧ i = .int .i64 y ∧ Hid (y = (m : Int) - 1) ∧ Hid (Two W wx g r h N S S)) (fun i _ => N + 2 - (intOf i + 1).toNat)
        case atStart => exact ⟨0, -1, by omega, rfl, Lib.hid (by omega), HS⟩
        case round =>
          clear HS
          obtain ⟨m, y, hm, rfl, hy1, HS⟩ := hrel
          by_cases hlt : m < N + 2
          · obtain ⟨t, ht⟩ : ∃ t, stv N S y = t := ⟨_, rfl⟩
            have ntt : (t != t) = false := by simp
            have HST := Lib.hid ht
            have hyN : y ≤ (N : Int) := by have := hy1.out; omega
            have dyN : decide (y ≤ (N : Int)) = true := decide_eq_true hyN
            obtain ⟨hw1, hw2⟩ := wrap_step hy1.out hlt H.out.2
            have HK := Lib.hid hlt
            clear ht hlt hm
            go_wp2_with (first
              | (go_at_call 21; refine (two_state HS.out HST.out).mono ?_; rintro e w4 ⟨rfl, q, hq⟩; have H4 : Hid (Two W w4 g r h N S S) := Lib.hid (by rw [hq]; exact HS.out.drewN q); clear hq)
              | (go_at_call 22; refine (two_rstate H4.out HST.out).mono ?_; rintro e w5 ⟨rfl, rfl⟩))
            go_roundw
            case rel => exact ⟨m + 1, _, HK.out, rfl, Lib.hid (by rw [hy1.out]; exact step_next m), H4⟩
            case measure => exact step_down hy1.out HK.out
          · have hyN : ¬ y ≤ (N : Int) := by have := hy1.out; omega
            have dyN : decide (y ≤ (N : Int)) = false := decide_eq_false hyN
            clear hlt hm
            go_wp2
            go_ret
            exact ⟨rfl, HS.out.o.below⟩
set_option maxHeartbeats 400000 in
theorem walk_out (W : World) (z : Int) (hz : z < 1 ∨ 1024 < z) (A : Option Addr) (len cap : Nat) (hT : Tab W) :
    Calls Tryd.prog 3 #[.int .i64 z, .slice A len cap] W fun e w' => e = .returned (.bool true) ∧ Below W.heap.size W w' := by
  have HT := Lib.hid hT
  have HZ := Lib.hid hz
  clear hT
  by_cases h1 : z < 1
  · have e1 : decide (z < 1) = true := decide_eq_true h1
    clear hz
    go_enter Tryd.func3, Tryd.ntmps3
    go_wp2_with (first
      | (go_at_call 8; refine (awake_any _ HT.out).mono ?_; rintro e w1 ⟨rfl, hb1⟩; have HB1 := Lib.hid hb1; clear hb1)
      | (go_at_call 9; refine (new_bad z HZ.out _).mono ?_; rintro e w2 ⟨rfl, rfl⟩))
    go_ret
    exact ⟨rfl, HB1.out⟩
  · have h2 : 1024 < z := by omega
    have e1 : decide (z < 1) = false := decide_eq_false h1
    have e2 : decide (1024 < z) = true := decide_eq_true h2
    clear hz
    go_enter Tryd.func3, Tryd.ntmps3
    go_wp2_with (first
      | (go_at_call 8; refine (awake_any _ HT.out).mono ?_; rintro e w1 ⟨rfl, hb1⟩; have HB1 := Lib.hid hb1; clear hb1)
      | (go_at_call 9; refine (new_bad z HZ.out _).mono ?_; rintro e w2 ⟨rfl, rfl⟩))
    go_ret
    exact ⟨rfl, HB1.out⟩
theorem walk (W : World) (z : Int) (hw : (Lit.int .i64 z).wf = true) (A : Option Addr) (len cap : Nat) (ds : List (Int × Int)) (hds : InP W A len cap ds) (hT : Tab W) :
    Calls Tryd.prog 3 #[.int .i64 z, .slice A len cap] W fun e w' => e = .returned (.bool true) ∧ Below W.heap.size W w' := by
  by_cases hz : z < 1 ∨ 1024 < z
  · exact walk_out W z hz A len cap hT
  · obtain ⟨N, rfl⟩ := Int.eq_ofNat_of_zero_le (by omega : 0 ≤ z)
    exact walk_in W N (by omega) (by omega) A len cap ds hds hT
end Go.Proofs.YtkmnmmenjpkkpaaDoor.spacePlays
