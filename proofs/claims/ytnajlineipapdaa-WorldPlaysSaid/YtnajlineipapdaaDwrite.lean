/- The reference's disk: Write. Conditions: the disk lies there. -/
import Derived.Test.YtnajlineipapdaaMgDisk
import Derived.Deep.RegionHeld3
import Derived.Deep.CutRange
import Derived.Maps.RangeWalk
set_option linter.unusedVariables false
namespace Go.Proofs.Ytnajlineipapdaa
open Go.RowKit

section
variable {b : Nat} {w : World} {g : Nat} {v1 v2 v3 v4 : Value} {ss : List BV} {rs al : List (Nat × BV)} {ts : List (Int × Int × BV)}
theorem dwrite_out (h : RDisk b w g v1 v2 v3 v4 ss rs al ts) (z : Int) (A : Option Addr) (n c : Nat) (hz : (z < 0 ∨ (ss.length : Int) ≤ z) ∨ n ≠ 256) :
    Calls Try.prog 19 #[.pointer (some ⟨g, 0, none⟩), .int .i64 z, .slice A n c] w fun e w' => e = .returned (.int .i64 201) ∧ w' = w := by
  have H := Lib.hid h
  clear h
  by_cases h1 : z < 0 ∨ (ss.length : Int) ≤ z
  · have HZ := Lib.hid h1
    clear hz h1
    go_enter Try.func19, Try.ntmps19
    go_wp2_with (go_at_call 42; refine (has_out H.out z HZ.out).mono ?_; rintro x w1 ⟨rfl, rfl⟩)
    go_ret
    exact ⟨rfl, rfl⟩
  · have hn : ((n : Int) == 256) = false := by
      rcases hz with hz | hz
      · exact absurd hz h1
      · exact beq_false_of_ne (by omega)
    have hn2 : ¬ (n : Int) = 256 := by
      rcases hz with hz | hz
      · exact absurd hz h1
      · omega
    obtain ⟨a, rfl⟩ := Int.eq_ofNat_of_zero_le (by omega : 0 ≤ z)
    have HA := Lib.hid (p := a < ss.length) (by omega)
    clear hz h1
    go_enter Try.func19, Try.ntmps19
    go_wp2_with (go_at_call 42; refine (has_in H.out a HA.out).mono ?_; rintro x w1 ⟨rfl, rfl⟩)
    go_ret
    exact ⟨rfl, rfl⟩
set_option maxRecDepth 20000 in
set_option maxHeartbeats 4000000 in
theorem dwrite_in (h : RDisk b w g v1 v2 v3 v4 ss rs al ts) (a : Nat) (ha : a < ss.length) (A : Option Addr) (c : Nat) (l : List UInt8) (hl : l.length = 256) (hA : Hol w A l) (hr : rs.length ≤ 1000000) (hal : al.length ≤ 1000000) (ht : ts.length ≤ 1000000) :
    Calls Try.prog 19 #[.pointer (some ⟨g, 0, none⟩), .int .i64 (a : Int), .slice A l.length c] w fun e w' => ∃ (x : BV) (u2 u3 u4 : Value), e = .returned (.int .i64 0) ∧ x.l = l ∧
      RDisk b w' g v1 u2 u3 u4 ss (rs ++ [(a, x)]) (al ++ [(a, x)]) (ts ++ [(2, (a : Int), x)]) ∧ Chg (foot g v1 v2 v3 v4) w w' ∧ (∀ k ∈ foot g v1 u2 u3 u4, k ∈ foot g v1 v2 v3 v4 ∨ w.heap.size ≤ k) ∧ ∀ q, (bvv x).ownBlock = some q → w.heap.size ≤ q := by
  obtain ⟨i, U⟩ := u8_tab
  have hz := Lib.hid (p := ∀ w : World, (zeroValue 81).run Try.prog w = .ok (.agg [Value.int .i64 0, .slice none 0 0].toArray) w) fun w => by kernel_rfl
  have i2 := Lib.hid (p := (Try.prog.info? 81).map (·.size) = some 2) (by kernel_rfl)
  obtain ⟨A2, k2, rfl⟩ := own_sl h.o2
  have H := Lib.hid h
  have HA := Lib.hid ha
  have HB := Lib.hid hA
  have HL := Lib.hid hl
  have hli : (l.length : Int) = 256 := by omega
  have HRL := Lib.hid hr
  have HAL := Lib.hid hal
  have HTL := Lib.hid ht
  clear h ha hA hl hr hal ht
  go_enter Try.func19, Try.ntmps19
  go_wp2_with (first
    | (go_at_call 42; refine (has_in H.out a HA.out).mono ?_; rintro x w1 ⟨rfl, hw1⟩; obtain rfl := hw1.symm)
    | (at_builtin; refine wpList_app _ rfl _ _ _ rfl 5 i U w.heap.size (.slice (some ⟨w.heap.size, 0, none⟩) 0 0) 0 [] rfl (void_own w _ 1 _ (Nat.le_refl _)) A l.length c l rfl rfl (HB.out.below ((Below.refl _ _).alloc (Nat.le_refl _) _)) (by have := HL.out; omega) (by simp) ?_
       intro v2' w2 hown2 hg2 hat2
       rw [List.nil_append, Nat.zero_add] at hown2
       obtain ⟨Ax, cx, rfl⟩ := own_sl hown2
       have hb2 : Below w.heap.size w w2 := ((Below.refl _ _).alloc (Nat.le_refl _) _).grown hg2 (by simp) (fun q hq => by have h0 : some w.heap.size = some q := hq; injection h0 with h0; omega)
       have HX2 := Lib.hid hown2
       have HXN := Lib.hid (p := ∀ q, (Value.slice Ax l.length cx).ownBlock = some q → w.heap.size ≤ q) (fun q hq => (hown2.lt q (by simpa using hq)).1)
       have HB2 := Lib.hid hb2
       clear hown2 hg2 hat2 hb2)
    | (refine step_alloc rfl 7 rfl 81 rfl _ hz ?_; intro g7 w3 hr3 hg3 hb3 hs3)
    | (refine step_store rfl 81 _ _ rfl g7 rfl _ _ (wcs (a, ⟨Ax, cx, l⟩)) rfl hr3 rfl i2 (wcs_one _) ?_; intro w4 hr4 hg4 hs4
       have hb24 : Below w2.heap.size w2 w4 := hb3.grown hg4 hb3.size (fun q hq => by injection hq with hq; rw [← hq, hg3.out]; exact Nat.le_refl _)
       have HG7 := Lib.hid (p := w.heap.size ≤ g7) (by rw [hg3.out]; exact HB2.out.size)
       have HB4 := Lib.hid (below_nxt hb24 HB2.out)
       have HX4 := Lib.hid (own_kept HX2.out hb24)
       clear hr3 hg3 hb3 hs3 hg4 hs4 hb24))
  obtain ⟨X, hX⟩ : ∃ X : BV, X = ⟨Ax, cx, l⟩ := ⟨_, rfl⟩
  have HX := Lib.hid hX
  have H4 := Lib.hid (H.out.kept HB4.out)
  have hg7 : ¬ g7 = g := by
    intro e0
    have h1 := hr4.heap
    have h2 := H4.out.cells.heap
    rw [e0, h2] at h1
    injection h1 with h1
    injection h1 with _ h1
    exact absurd h1 (by decide)
  have x0 : w4.cell? ⟨g7, 0, none⟩ = some (.int .i64 (a : Int)) := by rw [hr4.cell]; rfl
  have x1 : w4.cell? ⟨g7, 1, none⟩ = some (.slice Ax l.length cx) := by rw [hr4.cell]; rfl
  have c1 := H4.out.c1
  have c1a : ∀ o : Obj, (w4.alloc o).cell? ⟨g, 1, none⟩ = some (.slice A2 rs.length k2) := fun o => (World.cell?_alloc_past _ _ _ H4.out.cells.lt).trans c1
  have c1b : ∀ o o' : Obj, ((w4.alloc o).alloc o').cell? ⟨g, 1, none⟩ = some (.slice A2 rs.length k2) := fun o o' => (World.cell?_alloc_past _ _ _ (Nat.lt_of_lt_of_le H4.out.cells.lt (by simp))).trans (c1a o)
  have HBL := Lib.hid (p := b ≤ w4.heap.size) (by have := H4.out.lo; have := H4.out.cells.lt; omega)
  have HLT := Lib.hid (p := g7 < w4.heap.size) hr4.lt
  clear hX
  go_frame
  go_cut [7] from 22 to 33 (fun p wx => p = .pointer (some ⟨g7, 0, none⟩) ∧ ∃ A6 k6, RDisk b wx g v1 (.slice A6 (rs.length + 1) k6) v3 v4 ss (rs ++ [(a, ⟨Ax, cx, l⟩)]) al ts ∧ Row wx g7 81 (wcs (a, ⟨Ax, cx, l⟩)) ∧ Own8 b wx ⟨Ax, cx, l⟩ ∧ Chg (foot g v1 (.slice A2 rs.length k2) v3 v4) w wx ∧ (∀ q, (Value.slice A6 (rs.length + 1) k6).ownBlock = some q → w.heap.size ≤ q) ∧ w.heap.size ≤ wx.heap.size)
  case first =>
    have x0a : ∀ o : Obj, (w4.alloc o).cell? ⟨g7, 0, none⟩ = some (.int .i64 (a : Int)) := fun o => (World.cell?_alloc_past _ _ _ HLT.out).trans x0
    have x1a : ∀ o : Obj, (w4.alloc o).cell? ⟨g7, 1, none⟩ = some (.slice Ax l.length cx) := fun o => (World.cell?_alloc_past _ _ _ HLT.out).trans x1
    go_region_law (first
        | (refine step_join rfl _ _ rfl rec_wait b _ 0 [] rfl (by first | exact void_own w4.drew _ 2 b HBL.out | exact void_own1 w4 _ _ 2 b HBL.out | exact void_own2 w4 _ _ 2 b HBL.out) A2 rs.length k2 (rs.flatMap wcs) rfl (flat_len wcs_len rs)
             (by first | exact own_src (own_kept H4.out.o2 (below_a1 w4 _)) | exact own_src (own_kept H4.out.o2 (below_a2 w4 _ _))) (flat_one wcs_one rs) (by have := HRL.out; omega) (by first | exact Nat.le_trans HBL.out (below_a1 w4 _).size | exact Nat.le_trans HBL.out (below_a2 w4 _ _).size) ?_
           intro v5 w5 hr5 hg5 hat5
           rw [List.nil_append, Nat.zero_add] at hr5
           obtain ⟨A5, k5, rfl⟩ := own_sl hr5
           have hb45 : Below w4.heap.size w4 w5 := by
             first
               | exact below_then (below_a1 w4 _) hg5 (fun q hq => by have h0 : some w4.heap.size = some q := hq; injection h0 with h0; omega)
               | exact below_then (below_a2 w4 _ _) hg5 (fun q hq => by have h0 : some w4.heap.size = some q := hq; injection h0 with h0; omega)
               | exact below_then (below_a2 w4 _ _) hg5 (fun q hq => by have h0 : some (w4.heap.size + 1) = some q := hq; injection h0 with h0; omega)
           have y0 := (hb45.cell (p := ⟨g7, 0, none⟩) HLT.out).trans x0
           have y1 := (hb45.cell (p := ⟨g7, 1, none⟩) HLT.out).trans x1
           have HV5 := Lib.hid (p := ∀ q, (Value.slice A5 rs.length k5).ownBlock = some q → w4.heap.size ≤ q) (fun q hq => by
             rcases hat5 with e0 | e0
             · rw [hq] at e0
               first
                 | (have h0 : some q = some w4.heap.size := e0
                    injection h0 with h0
                    omega)
                 | (have h0 : some q = some (w4.heap.size + 1) := e0
                    injection h0 with h0
                    omega)
             · rw [hq] at e0
               injection e0 with e0
               rw [e0]
               first | exact (below_a1 w4 (.cells #[] 81)).size | exact Nat.le_trans (Nat.le_succ _) (Nat.le_trans (Nat.le_succ _) (Nat.le_of_eq (by simp))))
           have HR5 := Lib.hid hr5
           have HB45 := Lib.hid hb45
           have HG5 := Lib.hid hg5
           clear hr5 hg5 hat5 hb45)
        | (refine step_join rfl _ _ rfl rec_wait b (.slice A5 rs.length k5) rs.length (rs.flatMap wcs) rfl (by first | exact HR5.out | exact HR5.out.alloc _) _ 1 1 (wcs (a, ⟨Ax, cx, l⟩)) rfl rfl
             (by first
               | exact wait_src w5 _
               | exact row_src (Row.grown (row_made2 w4 _ _ _) HG5.out (ne_self_succ _))
               | exact row_src (Row.grown (row_made1 w4 _ _ _) HG5.out (ne_succ_self _)))
             (wcs_one _) (by have := HRL.out; omega) (by have := HBL.out; have := HB45.out.size; first | omega | (simp; omega)) ?_
           intro v6 w6 hr6 hg6 hat6
           obtain ⟨A6, k6, rfl⟩ := own_sl hr6
           have hb46 : Below w4.heap.size w4 w6 := by
             first
               | exact below_then HB45.out hg6 (fun q hq => HV5.out q hq)
               | exact below_then (HB45.out.alloc HB45.out.size _) hg6 (fun q hq => HV5.out q hq)
           have z0 := (hb46.cell (p := ⟨g7, 0, none⟩) HLT.out).trans x0
           have z1 := (hb46.cell (p := ⟨g7, 1, none⟩) HLT.out).trans x1
           have s0 : ∀ u : Value, (w6.setCell ⟨g, 1, none⟩ u).cell? ⟨g7, 0, none⟩ = some (.int .i64 (a : Int)) := fun u => (World.cell?_of_block (w := w6) (Below.heap_setCell w6 ⟨g, 1, none⟩ u g7 hg7)).trans z0
           have s1 : ∀ u : Value, (w6.setCell ⟨g, 1, none⟩ u).cell? ⟨g7, 1, none⟩ = some (.slice Ax l.length cx) := fun u => (World.cell?_of_block (w := w6) (Below.heap_setCell w6 ⟨g, 1, none⟩ u g7 hg7)).trans z1
           have HV6 := Lib.hid (p := ∀ q, (Value.slice A6 (rs.length + 1) k6).ownBlock = some q → w4.heap.size ≤ q) (fun q hq => by
             rcases hat6 with e0 | e0
             · exact HV5.out q (e0.symm.trans hq)
             · rw [hq] at e0
               injection e0 with e0
               have := HB45.out.size
               first | omega | (simp at e0; omega))
           have hR6 := H4.out.cells.kept hb46
           have d1 := hR6.cell 1
           have f1 := hR6.free 1
           simp at d1
           have HR6 := Lib.hid hr6
           have HB46 := Lib.hid hb46
           clear hr6 hg6 hat6 hb46 hR6)
        | fail)
    all_goals
      have hX6 : Own8 b w6 ⟨Ax, cx, l⟩ := Own8.lower (own_kept HX4.out HB46.out) (Nat.le_trans H.out.lo (Nat.le_of_lt H.out.cells.lt))
      have hsep : (Value.slice A6 (rs.length + 1) k6).ownBlock = none ∨ (Value.slice A6 (rs.length + 1) k6).ownBlock ≠ v3.ownBlock := by
        cases hv : (Value.slice A6 (rs.length + 1) k6).ownBlock with
        | none => exact .inl rfl
        | some q => exact .inr (fun e0 => by have h1 := HV6.out q hv; have h2 := (H4.out.o3.lt q e0.symm).2; omega)
      obtain ⟨hD, hC⟩ := RDisk.waits (v := .slice A6 (rs.length + 1) k6) (rs' := rs ++ [(a, ⟨Ax, cx, l⟩)]) (H4.out.kept HB46.out) (by rw [flat_snoc, List.length_append]; exact HR6.out) hsep (fun p hp => by
        rcases List.mem_append.1 hp with hp | hp
        · exact ((H4.out.kept HB46.out).m2 p hp)
        · simp at hp
          subst hp
          exact ⟨hX6, HL.out, HA.out⟩)
      have hg7r : Row (w6.setCell ⟨g, 1, none⟩ (.slice A6 (rs.length + 1) k6)) g7 81 (wcs (a, ⟨Ax, cx, l⟩)) := (hr4.kept HB46.out).far hg7 _
      have hX7 := hX6.put (o := 1) (H4.out.kept HB46.out).cells (by decide) (.slice A6 (rs.length + 1) k6)
      go_wp2_with fail
      go_meet
      case rel => exact ⟨rfl, A6, k6, hD, hg7r, hX7, (Chg.of (below_nxt HB46.out HB4.out)).trans hC (fun x hx => .inl hx), fun q hq => Nat.le_trans HB4.out.size (HV6.out q hq), Nat.le_trans (below_nxt HB46.out HB4.out).size hC.size⟩
  case rest =>
    obtain ⟨rfl, A6, k6, hD, hg7r, hX, hC, hV, hS⟩ := hcut
    obtain ⟨wr, hwr⟩ : ∃ wr : World, wr = wc := ⟨_, rfl⟩
    rw [← hwr] at hD hg7r hX hC hS ⊢
    clear hwr H4 hr4 HX4 HB4 hg7 x0 x1 c1 c1a c1b HBL HLT
    have x0 : wr.cell? ⟨g7, 0, none⟩ = some (.int .i64 (a : Int)) := by rw [hg7r.cell]; rfl
    have x1 : wr.cell? ⟨g7, 1, none⟩ = some (.slice Ax l.length cx) := by rw [hg7r.cell]; rfl
    have hg7 : ¬ g7 = g := by
      intro e0
      have h1 := hg7r.heap
      have h2 := hD.cells.heap
      rw [e0, h2] at h1
      injection h1 with h1
      injection h1 with _ h1
      exact absurd h1 (by decide)
    have c2 := hD.c2
    have c2a : ∀ o : Obj, (wr.alloc o).cell? ⟨g, 2, none⟩ = some v3 := fun o => (World.cell?_alloc_past _ _ _ hD.cells.lt).trans c2
    have HLT := Lib.hid (p := g7 < wr.heap.size) hg7r.lt
    have HD := Lib.hid hD
    have HR := Lib.hid hg7r
    have HXX := Lib.hid hX
    have HC := Lib.hid hC
    have HV := Lib.hid hV
    have HSZ := Lib.hid hS
    have HLO := Lib.hid (p := b ≤ wr.heap.size) (by have := hD.lo; have := hD.cells.lt; omega)
    clear hD hg7r hX hC hV hS
    go_wp2
    go_cut [7] from 34 to 43 (fun p wx => p = .pointer (some ⟨g7, 0, none⟩) ∧ ∃ u3, RDisk b wx g v1 (.slice A6 (rs.length + 1) k6) u3 v4 ss (rs ++ [(a, ⟨Ax, cx, l⟩)]) (al ++ [(a, ⟨Ax, cx, l⟩)]) ts ∧ Row wx g7 81 (wcs (a, ⟨Ax, cx, l⟩)) ∧ Own8 b wx ⟨Ax, cx, l⟩ ∧ Chg (foot g v1 (.slice A2 rs.length k2) v3 v4) w wx ∧ (∀ q, u3.ownBlock = some q → q ∈ foot g v1 (.slice A2 rs.length k2) v3 v4 ∨ w.heap.size ≤ q) ∧ w.heap.size ≤ wx.heap.size)
    case first =>
      go_region_law (first
          | (refine step_join rfl _ _ rfl rec_wait b v3 al.length (al.flatMap wcs) rfl (own_kept HD.out.o3 (below_a1 wr _)) (some ⟨wr.heap.size, 0, none⟩) 1 1 (wcs (a, ⟨Ax, cx, l⟩)) rfl rfl (wait_src wr.drew _) (wcs_one _) (by have := HAL.out; omega) (Nat.le_trans HLO.out (below_a1 wr (.cells (wcs (a, ⟨Ax, cx, l⟩)).toArray 81)).size) ?_
             intro v9 w9 hr9 hg9 hat9
             obtain ⟨A9, k9, rfl⟩ := own_sl hr9
             have hRA : Row (wr.drew.alloc (.cells (wcs (a, ⟨Ax, cx, l⟩)).toArray 81)) g 49 _ := HD.out.cells.kept (below_a1 wr _)
             have hR9 := Row.grown hRA hg9 (fun e0 => HD.out.ne.2.2.1 e0.symm)
             have hG9 := Row.grown (HR.out.kept (below_a1 wr (.cells (wcs (a, ⟨Ax, cx, l⟩)).toArray 81))) hg9 (fun e0 => by have h1 := (H.out.o3.lt g7 e0.symm).2; have h2 := HG7.out; omega)
             have d2 := hR9.cell 2
             have f2 := hR9.free 2
             simp at d2
             have z0 : w9.cell? ⟨g7, 0, none⟩ = some (.int .i64 (a : Int)) := by rw [hG9.cell]; rfl
             have z1 : w9.cell? ⟨g7, 1, none⟩ = some (.slice Ax l.length cx) := by rw [hG9.cell]; rfl
             have s0 : ∀ u : Value, (w9.setCell ⟨g, 2, none⟩ u).cell? ⟨g7, 0, none⟩ = some (.int .i64 (a : Int)) := fun u => (World.cell?_of_block (w := w9) (Below.heap_setCell w9 ⟨g, 2, none⟩ u g7 hg7)).trans z0
             have s1 : ∀ u : Value, (w9.setCell ⟨g, 2, none⟩ u).cell? ⟨g7, 1, none⟩ = some (.slice Ax l.length cx) := fun u => (World.cell?_of_block (w := w9) (Below.heap_setCell w9 ⟨g, 2, none⟩ u g7 hg7)).trans z1)
          | fail)
      all_goals
        have hBA := below_a1 wr (.cells (wcs (a, ⟨Ax, cx, l⟩)).toArray 81)
        obtain ⟨hD9, hC9⟩ := RDisk.wrote (HD.out.kept hBA) (a, ⟨Ax, cx, l⟩) (HXX.out.below hBA) HL.out HA.out hr9 hg9 hat9
        have hX9 : Own8 b (w9.setCell ⟨g, 2, none⟩ (.slice A9 (al.length + 1) k9)) ⟨Ax, cx, l⟩ := ((HXX.out.below hBA).grownBy hg9 (own_kept HD.out.o3 hBA) (by decide)).put hR9 (by decide) _
        have hG9' := hG9.far (p := ⟨g, 2, none⟩) hg7 (.slice A9 (al.length + 1) k9)
        have hC : Chg (foot g v1 (.slice A2 rs.length k2) v3 v4) w (w9.setCell ⟨g, 2, none⟩ (.slice A9 (al.length + 1) k9)) :=
          (HC.out.trans ((Chg.of (F := foot g v1 (.slice A6 (rs.length + 1) k6) v3 v4) hBA).trans hC9 (fun x hx => .inl hx)) (foot_all (.inl (foot_g _ _ _ _ _)) (fun q hq => .inl (foot_v1 hq)) (fun q hq => .inr (HV.out q hq)) (fun q hq => .inl (foot_v3 hq)) (fun q hq => .inl (foot_v4 hq))))
        have hV9 : ∀ q, (Value.slice A9 (al.length + 1) k9).ownBlock = some q → q ∈ foot g v1 (.slice A2 rs.length k2) v3 v4 ∨ w.heap.size ≤ q := fun q hq => by
          rcases hat9 with e0 | e0
          · exact .inl (foot_v3 (e0.symm.trans hq))
          · rw [hq] at e0
            injection e0 with e0
            rw [e0]
            exact .inr (Nat.le_trans HSZ.out hBA.size)
        go_wp2_with fail
        go_meet
        case rel => exact ⟨rfl, _, hD9, hG9', hX9, hC, hV9, Nat.le_trans HSZ.out (Nat.le_trans hBA.size hC9.size)⟩
    case rest =>
      obtain ⟨rfl, u3, hD, hg7r, hX, hC, hV3, hS⟩ := hcut
      obtain ⟨wq, hwq⟩ : ∃ wq : World, wq = wc := ⟨_, rfl⟩
      rw [← hwq] at hD hg7r hX hC hS ⊢
      clear hwq HD HR HXX HC HSZ HLO x0 x1 c2 c2a HLT hg7
      have x1 : wq.cell? ⟨g7, 1, none⟩ = some (.slice Ax l.length cx) := by rw [hg7r.cell]; rfl
      have x1a : ∀ o : Obj, (wq.alloc o).cell? ⟨g7, 1, none⟩ = some (.slice Ax l.length cx) := fun o => (World.cell?_alloc_past _ _ _ hg7r.lt).trans x1
      have c3 := hD.c3
      have c3a : ∀ o : Obj, (wq.alloc o).cell? ⟨g, 3, none⟩ = some v4 := fun o => (World.cell?_alloc_past _ _ _ hD.cells.lt).trans c3
      have HD := Lib.hid hD
      have HXX := Lib.hid hX
      have HC := Lib.hid hC
      have HV3 := Lib.hid hV3
      have HSZ := Lib.hid hS
      have HLO := Lib.hid (p := b ≤ wq.heap.size) (by have := hD.lo; have := hD.cells.lt; omega)
      clear hD hg7r hX hC hV3 hS
      go_wp2
      go_region_law (first
        | (refine step_join rfl _ _ rfl rec_touch b v4 ts.length (ts.flatMap tc) rfl (own_kept HD.out.o4 (below_a1 wq _)) (some ⟨wq.heap.size, 0, none⟩) 1 1 (tc (2, (a : Int), ⟨Ax, cx, l⟩)) rfl rfl (touch_src wq.drew _) (tc_one _) (by have := HTL.out; omega) (Nat.le_trans HLO.out (below_a1 wq (.cells (tc (2, (a : Int), ⟨Ax, cx, l⟩)).toArray 77)).size) ?_
           intro v9 w9 hr9 hg9 hat9
           obtain ⟨A9, k9, rfl⟩ := own_sl hr9
           have hRA : Row (wq.drew.alloc (.cells (tc (2, (a : Int), ⟨Ax, cx, l⟩)).toArray 77)) g 49 _ := HD.out.cells.kept (below_a1 wq _)
           have hR9 := Row.grown hRA hg9 (fun e0 => HD.out.ne.2.2.2 e0.symm)
           have d3 := hR9.cell 3
           have f3 := hR9.free 3
           simp at d3))
      all_goals
        have hBA := below_a1 wq (.cells (tc (2, (a : Int), ⟨Ax, cx, l⟩)).toArray 77)
        obtain ⟨hD9, hC9⟩ := RDisk.touch (HD.out.kept hBA) (2, (a : Int), ⟨Ax, cx, l⟩) (HXX.out.below hBA) hr9 hg9
        have hall : ∀ x ∈ foot g v1 (.slice A6 (rs.length + 1) k6) u3 v4, x ∈ foot g v1 (.slice A2 rs.length k2) v3 v4 ∨ w.heap.size ≤ x := foot_all (.inl (foot_g _ _ _ _ _)) (fun q hq => .inl (foot_v1 hq)) (fun q hq => .inr (HV.out q hq)) HV3.out (fun q hq => .inl (foot_v4 hq))
        have hCC := HC.out.trans ((Chg.of (F := foot g v1 (.slice A6 (rs.length + 1) k6) u3 v4) hBA).trans hC9 (fun x hx => .inl hx)) hall
        have hall9 : ∀ x ∈ foot g v1 (.slice A6 (rs.length + 1) k6) u3 (.slice A9 (ts.length + 1) k9), x ∈ foot g v1 (.slice A2 rs.length k2) v3 v4 ∨ w.heap.size ≤ x := foot_all (.inl (foot_g _ _ _ _ _)) (fun q hq => .inl (foot_v1 hq)) (fun q hq => .inr (HV.out q hq)) HV3.out (fun q hq => by
          rcases hat9 with e0 | e0
          · exact .inl (foot_v4 (e0.symm.trans hq))
          · rw [hq] at e0
            injection e0 with e0
            rw [e0]
            exact .inr (Nat.le_trans HSZ.out hBA.size))
        go_wp2
        go_ret
        exact ⟨⟨Ax, cx, l⟩, _, _, _, rfl, rfl, hD9, hCC, hall9, HXN.out⟩
end
end Go.Proofs.Ytnajlineipapdaa
