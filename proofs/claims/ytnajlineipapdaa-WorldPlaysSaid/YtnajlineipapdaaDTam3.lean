/- The reference's disk: a block forced (kind 3). Conditions: the disk lies there. -/
import Derived.Test.YtnajlineipapdaaDTam1
set_option linter.unusedVariables false
namespace Go.Proofs.Ytnajlineipapdaa
open Go.RowKit

section
variable {b : Nat} {w : World} {g : Nat} {v1 v2 v3 v4 : Value} {ss : List BV} {rs al : List (Nat × BV)} {ts : List (Int × Int × BV)}
set_option maxRecDepth 20000 in
set_option maxHeartbeats 8000000 in
theorem dtamper_old_a (h : RDisk b w g v1 v2 v3 v4 ss rs al ts) (hr : rs.length ≤ 1000000) (hal : al.length ≤ 1000000) (a : Nat) (ha : a < ss.length) (m : Nat) (A : Option Addr) (len c : Nat) (hf : m < (eld al a).length) :
    Calls Try.prog 25 #[.pointer (some ⟨g, 0, none⟩), .agg (tampC 3 (a : Int) (m : Int) A len c).toArray] w fun e w' => e = .returned (.int .i64 0) ∧ DForced b w w' g v1 v2 v3 v4 ss rs al ts a (oldL (eld al) a m) := by
  obtain ⟨A2, k2, rfl⟩ := own_sl h.o2
  obtain ⟨y, hy⟩ : ∃ y, ss[a]? = some y := ⟨_, List.getElem?_eq_getElem ha⟩
  obtain ⟨g1, k1, rfl, hg1, _, hc1⟩ := own_rec sc_len h.o1 hy (by omega)
  have HRL := Lib.hid hr
  have HA := Lib.hid ha
  have HY := Lib.hid hy
  obtain ⟨A3, k3, rfl⟩ := own_sl h.o3
  have H := Lib.hid h
  have HF := Lib.hid hf
  have HAL := Lib.hid hal
  have hlw : IntKind.i64.wrap ((al.length : Int) - 1) = (al.length : Int) - 1 := by rw [IntKind.wrap_i64]; omega
  have HG1 := Lib.hid (p := g1 < w.heap.size) (h.o1.lt g1 rfl).2
  have hm0 : ¬ (m : Int) < 0 := by omega
  have i2 := Lib.hid (p := (Try.prog.info? 81).map (·.size) = some 2) (by kernel_rfl)
  obtain ⟨i, U⟩ := u8_tab
  clear h hr ha hy hg1 hc1 hal hf
  go_enter Try.func25, Try.ntmps25
  go_wp2_with (first
    | (refine step_box rfl 3 rfl 35 _ rfl (tampC 3 (a : Int) (m : Int) A len c) rfl ?_; intro g5 w5 hr5 hg5 hb5 hs5
       have q0 := hr5.cell 0
       have q1 := hr5.cell 1
       have q2 := hr5.cell 2
       have q3 := hr5.cell 3
       simp [tampC] at q0 q1 q2 q3
       have HB5 := Lib.hid hb5
       have HR5 := Lib.hid hr5
       have HG5 := Lib.hid (p := g1 < g5) (by have h1 := HG1.out; rw [hg5.out]; exact h1)
       have H5 := Lib.hid (H.out.kept hb5)
       have c2 := H5.out.c2
       clear hr5 hg5 hb5 hs5)
    | (go_at_call 42; refine (has_in H5.out a HA.out).mono ?_; rintro e1 w1 ⟨rfl, hw1⟩; obtain rfl := hw1.symm))
  clear q3 c2 hlw
  go_loopw [9, 10, 11] (fun v z x wr => v = .slice none 0 0 ∧ ∃ j k : Nat, j ≤ al.length ∧ k ≤ m ∧ x = .int .i64 ((j : Int) - 1) ∧ z = .int .i64 (k : Int) ∧ Hid (k = (eld (al.drop j) a).length) ∧ Hid (Below w5.heap.size w5 wr)) (fun _ _ x _ => (intOf x + 1).toNat)
  case atStart => exact ⟨rfl, al.length, 0, Nat.le_refl _, Nat.zero_le _, by go_num, rfl, Lib.hid (by rw [List.drop_length]; rfl), Lib.hid (Below.refl _ _)⟩
  case round =>
    obtain ⟨rfl, j, k, hj, hkm, rfl, rfl, HK, HB⟩ := hrel
    have HD := Lib.hid (H5.out.kept HB.out)
    have c2 := HD.out.c2
    have r1 : wr.cell? ⟨g5, 1, none⟩ = some (.int .i64 (a : Int)) := (HB.out.cell (p := ⟨g5, 1, none⟩) HR5.out.lt).trans q1
    have r2 : wr.cell? ⟨g5, 2, none⟩ = some (.int .i64 (m : Int)) := (HB.out.cell (p := ⟨g5, 2, none⟩) HR5.out.lt).trans q2
    by_cases hj0 : j = 0
    · subst hj0
      have h1 := HK.out
      rw [List.drop_zero] at h1
      have h2 := HF.out
      exact absurd h1 (by omega)
    · obtain ⟨q, rfl⟩ : ∃ q, j = q + 1 := ⟨j - 1, by omega⟩
      have hx : (((q + 1 : Nat) : Int) - 1) = (q : Int) := by omega
      rw [hx]
      have hge : (0 : Int) ≤ (q : Int) := by omega
      have hlt : (q : Int) < (al.length : Int) := by omega
      have hqw : IntKind.i64.wrap ((q : Int) - 1) = (q : Int) - 1 := by rw [IntKind.wrap_i64]; have := HAL.out; omega
      have hkw : IntKind.i64.wrap ((k : Int) + 1) = (k : Int) + 1 := by rw [IntKind.wrap_i64]; have h1 := HK.out; have h2 := eld_le al (q + 1) a; have h3 := eld_few al a; have h4 := HAL.out; omega
      obtain ⟨p, hp⟩ : ∃ p, al[q]? = some p := ⟨_, List.getElem?_eq_getElem (by omega)⟩
      obtain ⟨g2, k2', e2, _, _, hc2⟩ := own_rec wcs_len HD.out.o3 hp (by omega)
      simp only [Value.slice.injEq] at e2
      obtain ⟨rfl, _, rfl⟩ := e2
      have p0 := hc2 0 _ rfl
      have p1 := hc2 1 _ rfl
      rw [Nat.add_zero] at p0
      unfold bvv at p1
      have HPK := Lib.hid hp
      have HJ := Lib.hid hj
      have HKM := Lib.hid hkm
      clear hp hc2 hj hj0 hkm hx
      by_cases hpa : p.1 = a
      · have hpe : ((p.1 : Int) != (a : Int)) = false := by rw [hpa]; simp
        have HPA := Lib.hid hpa
        by_cases hkn : k = m
        · have hke : ((k : Int) == (m : Int)) = true := by rw [hkn]; simp
          have HKN := Lib.hid hkn
          clear hpa hkn
          have HOLD := Lib.hid (p := oldL (eld al) a m = p.2.l) (by
            obtain ⟨h1, h2, h3⟩ := eld_found HPK.out HPA.out
            have h9 := HK.out
            rw [HKN.out] at h9
            unfold oldL
            rw [if_pos (by omega), h9, h3])
          have h8 := HD.out.m3 p (List.mem_of_getElem? HPK.out)
          have HX2 := Lib.hid (p := Own8 b wr.drew p.2 ∧ p.2.l.length = 256) ⟨h8.1.below (below_drw wr), h8.2.1⟩
          have HBb := Lib.hid (p := Below w5.heap.size w5 wr.drew) (below_nxt (below_drw wr) HB.out)
          clear h8
          go_wp2
          go_region
          go_wp2_with (refine step_make rfl _ _ 32 5 i U rfl 256 rfl rfl (by omega) ?_; intro g12 w12 hr12 hg12 hb12 hs12
                       have HR12 := Lib.hid hr12
                       have HG12 := Lib.hid hg12
                       have HB12 := Lib.hid hb12
                       clear hr12 hg12 hb12 hs12)
          clear r1 r2 c2 p0 p1 HD HB
          generalize wr.drew = wb at *
          generalize p.2 = X at *
          have HLL := Lib.hid (p := pad X.l = oldL (eld al) a m) (by rw [HOLD.out]; exact pad_of HX2.out.2)
          have HLH := Lib.hid (p := Hol wb X.A X.l) (HX2.out.1.hol)
          have HW5 := Lib.hid (p := Below w.heap.size w wb) (below_nxt HBb.out HB5.out)
          have HW55 := Lib.hid (p := Below w5.heap.size w5 wb) HBb.out
          have HLE := Lib.hid (p := X.l.length ≤ 256) (by have := HX2.out.2; omega)
          clear q0 q2
          go_loopw [13] (fun x wr => ∃ k : Nat, k ≤ X.l.length ∧ k ≤ 256 ∧ x = .int .i64 (k : Int) ∧ Hid (Row wr g12 5 (brr 256 (upto k (wh X.l) fun _ => 0))) ∧ Hid (Below wb.heap.size wb wr)) (fun x _ => 256 - (intOf x).toNat)
          case atStart => exact ⟨0, by omega, by omega, rfl, Lib.hid (by rw [upto_zero]; exact HR12.out), HB12⟩
          case round =>
            clear HR12 HB12
            obtain ⟨k, hk, hk2, rfl, HR, HB⟩ := hrel
            by_cases h1 : k < X.l.length
            · have h3 : k < X.l.length := by have := HLE.out; omega
              have h2 : k < 256 := by have := HLE.out; omega
              have h1i : (k : Int) < (X.l.length : Int) := by have := True.intro; omega
              have h2i : (k : Int) < 256 := by omega
              obtain ⟨ga, oa, hga, hgn, hc2⟩ := (HLH.out.below HB.out).at_ h3
              obtain ⟨yy, hyy⟩ : ∃ yy, X.l[k] = yy := ⟨_, rfl⟩
              rw [hyy] at hc2
              replace hc2 : wr.cell? ⟨ga, oa + k, none⟩ = some (B yy) := hc2
              have HYY : Hid (wh X.l k = yy) := Lib.hid (by unfold wh; rw [List.getD_eq_getElem?_getD, List.getElem?_eq_getElem h3, hyy]; rfl)
              have c1 : wr.cell? ⟨g12, k, none⟩ = some (B 0) := by rw [HR.out.cell, brr_get _ h2, upto_self]
              have f1 := HR.out.free k
              have HKL := Lib.hid h3
              have HKL2 := Lib.hid h2
              have HGA := Lib.hid hga
              rw [hga]
              clear hyy hga hk hk2 h1 h2 h3 hgn
              go_wp2
              go_roundw
              case rel => exact ⟨k + 1, HKL.out, HKL2.out, by go_num, Lib.hid (by rw [← upto_step, ← brr_set, HYY.out]; exact HR.out.put _ _), Lib.hid (HB.out.setCell (by rw [HG12.out]; exact Nat.le_refl _) _)⟩
              case measure => have := HKL2.out; simp [intOf]; omega
            · have hfin : brr 256 (upto k (wh X.l) fun _ => 0) = brr 256 (wh X.l) := brr_congr fun j hj => by
                by_cases h : j < k
                · exact upto_near _ _ h
                · rw [upto_far _ _ (by omega)]
                  unfold wh
                  rw [List.getD_eq_getElem?_getD, List.getElem?_eq_none (by have := HLE.out; omega)]
                  rfl
              rw [hfin] at HR
              have HRx := HR
              have HBx := HB
              have h1i : ¬ (k : Int) < (X.l.length : Int) := by have := True.intro; omega
              clear hfin hk hk2 h1 HR HB
              generalize wr = wc at *
              have HBwc := Lib.hid (p := Below w5.heap.size w5 wc) (below_nxt HBx.out HW55.out)
              have HD := Lib.hid (H5.out.kept HBwc.out)
              have c0 := HD.out.c0
              obtain ⟨g1', k1', e1, _, _, hc1⟩ := own_rec sc_len HD.out.o1 HY.out (by omega)
              simp only [Value.slice.injEq, Option.some.injEq, Addr.mk.injEq] at e1
              obtain ⟨⟨rfl, _, _⟩, _, _⟩ := e1
              have d0 := hc1 0 _ rfl
              rw [Nat.mul_one, Nat.add_zero] at d0
              unfold bvv at d0
              have f0 : wc.frozen? ⟨g1, a, none⟩ = false := HD.out.o1.frozenAt a
              have r1 : wc.cell? ⟨g5, 1, none⟩ = some (.int .i64 (a : Int)) := (HBwc.out.cell (p := ⟨g5, 1, none⟩) HR5.out.lt).trans q1
              have hi1 : (0 : Int) ≤ (a : Int) := by omega
              have hi2 : (a : Int) < (ss.length : Int) := by have := HA.out; omega
              clear hc1
              go_wp2
              go_still_tail 8, (by kernel_rfl)
              change wpList _ _ _ _ _ wc.drew
              have d0z : wc.drew.cell? ⟨g1, a, none⟩ = some (.slice y.A y.l.length y.c) := d0
              have f0z : wc.drew.frozen? ⟨g1, a, none⟩ = false := f0
              have hBb : b ≤ g12 := by rw [HG12.out]; have h1 := H5.out.lo; have h2 := H5.out.cells.lt; have h3 := HW55.out.size; omega
              have hs := (HD.out.kept (below_drw wc)).sync a ⟨some ⟨g12, 0, none⟩, 256, pad X.l⟩ HA.out ⟨own_fresh (HRx.out.kept (below_drw wc)) hBb, pad_len _⟩
              rw [show bvv ⟨some ⟨g12, 0, none⟩, 256, pad X.l⟩ = .slice (some ⟨g12, 0, none⟩) 256 256 by unfold bvv; rw [pad_len]] at hs
              obtain ⟨hs1, hs2⟩ := hs
              have r1z : (wc.drew.setCell ⟨g1, a, none⟩ (.slice (some ⟨g12, 0, none⟩) 256 256)).cell? ⟨g5, 1, none⟩ = some (.int .i64 (a : Int)) := by
                rw [World.cell?_setCell_other _ _ _ _ (fun e => by have h1 := congrArg Addr.block e; have h2 := HG5.out; simp at h1; omega)]
                exact r1
              have HS1 := Lib.hid hs1
              have HS2 := Lib.hid hs2
              have HZ5 := Lib.hid (p := g5 < (wc.drew.setCell ⟨g1, a, none⟩ (.slice (some ⟨g12, 0, none⟩) 256 256)).heap.size) (by have h1 := HR5.out.lt; have h2 := HBwc.out.size; simp; omega)
              have HSZ := Lib.hid (p := wc.heap.size ≤ (wc.drew.setCell ⟨g1, a, none⟩ (.slice (some ⟨g12, 0, none⟩) 256 256)).heap.size) (by simp)
              clear hs1 hs2 hBb c0 d0 f0 r1 HD
              have HBd := Lib.hid (p := Below w.heap.size w wc.drew) (below_nxt (below_drw wc) (below_nxt HBwc.out HB5.out))
              generalize wc.drew = wd at *
              go_wp2
              generalize wd.setCell ⟨g1, a, none⟩ (.slice (some ⟨g12, 0, none⟩) 256 256) = wz at *
              clear d0z f0z q1
              go_loopw [5, 14] (fun v x wr => ∃ k : Nat, k ≤ rs.length ∧ x = .int .i64 (k : Int) ∧ Hid (wr.ownsRow wz.heap.size 81 2 v (gone a (rs.take k)).length ((gone a (rs.take k)).flatMap wcs)) ∧ Hid (Below wz.heap.size wz wr)) (fun _ x _ => rs.length - (intOf x).toNat)
              case atStart => exact ⟨0, by omega, rfl, Lib.hid (World.ownsRow_nil _ _ _ _), Lib.hid (Below.refl _ _)⟩
              case round =>
                obtain ⟨k, hk, rfl, HO, HB⟩ := hrel
                obtain ⟨Av, kv, rfl⟩ := own_sl HO.out
                have hkw : IntKind.i64.wrap ((k : Int) + 1) = (k : Int) + 1 := by rw [IntKind.wrap_i64]; have := HRL.out; omega
                have HD := Lib.hid (HS1.out.kept HB.out)
                have c1 := HD.out.c1
                have f1 : wr.frozen? ⟨g, 1, none⟩ = false := HD.out.cells.free 1
                have r1 : wr.cell? ⟨g5, 1, none⟩ = some (.int .i64 (a : Int)) := (HB.out.cell (p := ⟨g5, 1, none⟩) HZ5.out).trans r1z
                by_cases hlt : k < rs.length
                · have hki : (k : Int) < (rs.length : Int) := by omega
                  have hk0 : (0 : Int) ≤ (k : Int) := by omega
                  obtain ⟨p, hp⟩ : ∃ p, rs[k]? = some p := ⟨_, List.getElem?_eq_getElem hlt⟩
                  have HPK := Lib.hid (p := rs.getD k (0, noBV) = p) (by rw [List.getD_eq_getElem?_getD, hp]; rfl)
                  have HKL := Lib.hid hlt
                  obtain ⟨g2, k2', e2, _, _, hc2⟩ := own_rec wcs_len HD.out.o2 hp (by omega)
                  simp only [Value.slice.injEq] at e2
                  obtain ⟨rfl, _, rfl⟩ := e2
                  have p0 := hc2 0 _ rfl
                  rw [Nat.add_zero] at p0
                  have HRG := Lib.hid (p := wr.rangeAt g2 (k * 2) [Value.int .i64 (p.1 : Int), Value.slice p.2.A p.2.l.length p.2.c]) (rec_range HD.out.o2 hp rfl)
                  obtain ⟨S, hS⟩ : ∃ S, S = gone a (rs.take k) := ⟨_, rfl⟩
                  rw [← hS] at HO ⊢
                  have HSS := Lib.hid hS
                  have HSL := Lib.hid (p := S.length ≤ 1000000) (by rw [hS]; exact Nat.le_trans (List.length_filter_le _ _) (by rw [List.length_take]; have := HRL.out; omega))
                  clear hp hk hlt hS hc2
                  by_cases hpa : p.1 = a
                  · have hpe : ((p.1 : Int) != (a : Int)) = false := by rw [hpa]; simp
                    have HPA := Lib.hid hpa
                    clear hpa
                    go_wp2
                    go_region
                    go_wp2
                    go_roundw
                    case rel => exact ⟨k + 1, HKL.out, by go_num, by rw [gone_take HKL.out, HPK.out, if_pos HPA.out, ← HSS.out]; exact Lib.hid (own_kept HO.out (below_drw wr)), Lib.hid (below_nxt (below_drw wr) HB.out)⟩
                    case measure => have := HKL.out; simp [intOf]; omega
                  · have hpe : ((p.1 : Int) != (a : Int)) = true := by simp; omega
                    have HPA := Lib.hid hpa
                    clear hpa
                    go_wp2
                    go_region
                    have HOd := Lib.hid (own_kept HO.out (below_drw wr))
                    have HRGd := Lib.hid (p := wr.drew.rangeAt g2 (k * 2) [Value.int .i64 (p.1 : Int), Value.slice p.2.A p.2.l.length p.2.c]) (fun j u hu => HRG.out j u hu)
                    have HBd := Lib.hid (p := Below wz.heap.size wz wr.drew) (below_nxt (below_drw wr) HB.out)
                    have c1d : wr.drew.cell? ⟨g, 1, none⟩ = _ := c1
                    clear c1 f1 r1 HO HRG HB HD
                    generalize wr.drew = wy at *
                    go_wp2_with (first
                      | (refine wpList_load_mid rfl 81 (.tmp 196) rfl g2 (k * 2) (by rfl) [Value.int .i64 (p.1 : Int), Value.slice p.2.A p.2.l.length p.2.c] _ HRGd.out Try.underlying81 rfl i2.out ?_)
                      | (at_builtin; go_loud (refine wp_join rfl _ _ rfl rec_wait wz.heap.size (.slice Av S.length kv) S.length (S.flatMap wcs) rfl (HOd.out.alloc _) (some ⟨wy.heap.size, 0, none⟩) 1 1 (wcs p) rfl rfl (wait_src wy p) (wcs_one _) (by have := HSL.out; omega) (Nat.le_trans HBd.out.size (below_al wy _).size) ?_)
                         intro v6 w6 hr6 hg6 hat6
                         have HR6 := Lib.hid hr6
                         have HB6 := Lib.hid (p := Below wz.heap.size wz w6) ((below_nxt (below_al wy _) HBd.out).grown hg6 (Nat.le_trans HBd.out.size (below_al wy _).size) (fun q hq => (HOd.out.lt q hq).1))
                         clear hr6 hg6 hat6))
                    go_roundw
                    case rel => exact ⟨k + 1, HKL.out, by go_num, by rw [gone_take HKL.out, HPK.out, if_neg HPA.out, ← HSS.out, List.length_append, List.flatMap_append]; exact Lib.hid (by simpa using HR6.out), HB6⟩
                    case measure => have := HKL.out; simp [intOf]; omega
                · obtain rfl : k = rs.length := by omega
                  rw [List.take_length] at HO ⊢
                  obtain ⟨N, hN⟩ : ∃ N, N = (gone a rs).length := ⟨_, rfl⟩
                  rw [← hN] at HO ⊢
                  obtain ⟨V, hV⟩ : ∃ V, V = Value.slice Av N kv := ⟨_, rfl⟩
                  rw [← hV] at HO
                  have HG := Lib.hid (p := ∀ q, V.ownBlock = some q → wz.heap.size ≤ q) (fun q hq => (HO.out.lt q hq).1)
                  have HBS := Lib.hid (p := b ≤ wz.heap.size) (by have := HS1.out.lo; have := HS1.out.cells.lt; omega)
                  obtain ⟨hw1, hw2⟩ := HD.out.waits (v := V) (rs' := gone a rs) (by rw [← hN]; exact own_lower HO.out HBS.out) (by
                    cases hv : V.ownBlock with
                    | none => exact .inl rfl
                    | some q =>
                      refine .inr (fun e => ?_)
                      have h1 := HG.out q hv
                      have h2 := (HS1.out.o3.lt q (by rw [← e])).2
                      omega) (fun p hp => HD.out.m2 p (gone_mem hp))
                  have HW1 := Lib.hid hw1
                  have HW2 := Lib.hid hw2
                  clear hw1 hw2 hk hlt HO hN
                  subst hV
                  go_wp2
                  go_ret
                  exact ⟨rfl, _, _, HLL, Lib.hid (pad_len _), HW1, Lib.hid ((((Chg.of HBd.out).trans HS2.out (fun x hx => .inl hx)).trans (Chg.of HB.out) (fun x hx => .inl hx)).trans HW2.out (fun x hx => .inl hx)), Lib.hid (fun q hq => Nat.le_trans HB5.out.size (Nat.le_trans HBwc.out.size (Nat.le_trans HSZ.out (HG.out q hq))))⟩
        · have hke : ((k : Int) == (m : Int)) = false := beq_false_of_ne (by omega)
          have HKN := Lib.hid (p := k + 1 ≤ m) (by have := HKM.out; omega)
          clear hpa hkn
          go_wp2
          go_region
          go_wp2
          go_roundw
          case rel => exact ⟨rfl, q, k + 1, by have := HJ.out; omega, HKN.out, by go_num, by go_num, Lib.hid (by rw [eld_step HPK.out, if_pos HPA.out, List.length_cons, HK.out]), Lib.hid (below_nxt (below_drw wr) HB.out)⟩
          case measure => (simp [intOf]; try omega)
      · have hpe : ((p.1 : Int) != (a : Int)) = true := by simp; omega
        have HPA := Lib.hid hpa
        clear hpa
        go_wp2
        go_region
        go_wp2
        go_roundw
        case rel => exact ⟨rfl, q, k, by have := HJ.out; omega, HKM.out, by go_num, rfl, Lib.hid (by rw [eld_step HPK.out, if_neg HPA.out, HK.out]), Lib.hid (below_nxt (below_drw wr) HB.out)⟩
        case measure => (simp [intOf]; try omega)
set_option maxRecDepth 20000 in
set_option maxHeartbeats 8000000 in
theorem dtamper_old_b (h : RDisk b w g v1 v2 v3 v4 ss rs al ts) (hr : rs.length ≤ 1000000) (hal : al.length ≤ 1000000) (a : Nat) (ha : a < ss.length) (m : Nat) (A : Option Addr) (len c : Nat) (hf : (eld al a).length ≤ m) :
    Calls Try.prog 25 #[.pointer (some ⟨g, 0, none⟩), .agg (tampC 3 (a : Int) (m : Int) A len c).toArray] w fun e w' => e = .returned (.int .i64 0) ∧ DForced b w w' g v1 v2 v3 v4 ss rs al ts a (oldL (eld al) a m) := by
  obtain ⟨A2, k2, rfl⟩ := own_sl h.o2
  obtain ⟨y, hy⟩ : ∃ y, ss[a]? = some y := ⟨_, List.getElem?_eq_getElem ha⟩
  obtain ⟨g1, k1, rfl, hg1, _, hc1⟩ := own_rec sc_len h.o1 hy (by omega)
  have HRL := Lib.hid hr
  have HA := Lib.hid ha
  have HY := Lib.hid hy
  obtain ⟨A3, k3, rfl⟩ := own_sl h.o3
  have H := Lib.hid h
  have HF := Lib.hid hf
  have HAL := Lib.hid hal
  have hlw : IntKind.i64.wrap ((al.length : Int) - 1) = (al.length : Int) - 1 := by rw [IntKind.wrap_i64]; omega
  have HG1 := Lib.hid (p := g1 < w.heap.size) (h.o1.lt g1 rfl).2
  have hm0 : ¬ (m : Int) < 0 := by omega
  have i2 := Lib.hid (p := (Try.prog.info? 81).map (·.size) = some 2) (by kernel_rfl)
  obtain ⟨i, U⟩ := u8_tab
  clear h hr ha hy hg1 hc1 hal hf
  go_enter Try.func25, Try.ntmps25
  go_wp2_with (first
    | (refine step_box rfl 3 rfl 35 _ rfl (tampC 3 (a : Int) (m : Int) A len c) rfl ?_; intro g5 w5 hr5 hg5 hb5 hs5
       have q0 := hr5.cell 0
       have q1 := hr5.cell 1
       have q2 := hr5.cell 2
       have q3 := hr5.cell 3
       simp [tampC] at q0 q1 q2 q3
       have HB5 := Lib.hid hb5
       have HR5 := Lib.hid hr5
       have HG5 := Lib.hid (p := g1 < g5) (by have h1 := HG1.out; rw [hg5.out]; exact h1)
       have H5 := Lib.hid (H.out.kept hb5)
       have c2 := H5.out.c2
       clear hr5 hg5 hb5 hs5)
    | (go_at_call 42; refine (has_in H5.out a HA.out).mono ?_; rintro e1 w1 ⟨rfl, hw1⟩; obtain rfl := hw1.symm))
  clear q3 c2 hlw
  go_loopw [9, 10, 11] (fun v z x wr => v = .slice none 0 0 ∧ ∃ j k : Nat, j ≤ al.length ∧ k ≤ m ∧ x = .int .i64 ((j : Int) - 1) ∧ z = .int .i64 (k : Int) ∧ Hid (k = (eld (al.drop j) a).length) ∧ Hid (Below w5.heap.size w5 wr)) (fun _ _ x _ => (intOf x + 1).toNat)
  case atStart => exact ⟨rfl, al.length, 0, Nat.le_refl _, Nat.zero_le _, by go_num, rfl, Lib.hid (by rw [List.drop_length]; rfl), Lib.hid (Below.refl _ _)⟩
  case round =>
    obtain ⟨rfl, j, k, hj, hkm, rfl, rfl, HK, HB⟩ := hrel
    have HD := Lib.hid (H5.out.kept HB.out)
    have c2 := HD.out.c2
    have r1 : wr.cell? ⟨g5, 1, none⟩ = some (.int .i64 (a : Int)) := (HB.out.cell (p := ⟨g5, 1, none⟩) HR5.out.lt).trans q1
    have r2 : wr.cell? ⟨g5, 2, none⟩ = some (.int .i64 (m : Int)) := (HB.out.cell (p := ⟨g5, 2, none⟩) HR5.out.lt).trans q2
    by_cases hj0 : j = 0
    · subst hj0
      have hneg : ¬ (0 : Int) ≤ ((0 : Nat) : Int) - 1 := by omega
      have hm1 : ((0 : Nat) : Int) - 1 = -1 := by omega
      rw [hm1]
      obtain ⟨E0, hE0⟩ : ∃ E0 : List UInt8, E0 = [] := ⟨_, rfl⟩
      have HE0 := Lib.hid hE0
      have HEL := Lib.hid (p := E0.length = 0) (by rw [hE0]; rfl)
      have HOLD := Lib.hid (p := oldL (eld al) a m = pad E0) (by unfold oldL; rw [if_neg (by have := HF.out; omega), hE0])
      have HBb := Lib.hid (p := Below w5.heap.size w5 wr) HB.out
      clear hE0 hneg hm1
      go_wp2_with (refine step_make rfl _ _ 32 5 i U rfl 256 rfl rfl (by omega) ?_; intro g12 w12 hr12 hg12 hb12 hs12
                   have HR12 := Lib.hid hr12
                   have HG12 := Lib.hid hg12
                   have HB12 := Lib.hid hb12
                   clear hr12 hg12 hb12 hs12)
      clear r1 r2 c2 HD HB
      generalize wr = wb at *
      have HLL := Lib.hid (p := pad E0 = oldL (eld al) a m) (HOLD.out.symm)
      have HLH := Lib.hid (p := Hol wb none E0) (.inl HE0.out)
      have HW5 := Lib.hid (p := Below w.heap.size w wb) (below_nxt HBb.out HB5.out)
      have HW55 := Lib.hid (p := Below w5.heap.size w5 wb) HBb.out
      have HLE := Lib.hid (p := E0.length ≤ 256) (by have := HEL.out; omega)
      clear q0 q2
      go_loopw [13] (fun x wr => ∃ k : Nat, k ≤ E0.length ∧ k ≤ 256 ∧ x = .int .i64 (k : Int) ∧ Hid (Row wr g12 5 (brr 256 (upto k (wh E0) fun _ => 0))) ∧ Hid (Below wb.heap.size wb wr)) (fun x _ => 256 - (intOf x).toNat)
      case atStart => exact ⟨0, by omega, by omega, rfl, Lib.hid (by rw [upto_zero]; exact HR12.out), HB12⟩
      case round =>
        clear HR12 HB12
        obtain ⟨k, hk, hk2, rfl, HR, HB⟩ := hrel
        by_cases h1 : k < E0.length
        · exact absurd h1 (by have := HEL.out; omega)
        · have hfin : brr 256 (upto k (wh E0) fun _ => 0) = brr 256 (wh E0) := brr_congr fun j hj => by
            by_cases h : j < k
            · exact upto_near _ _ h
            · rw [upto_far _ _ (by omega)]
              unfold wh
              rw [List.getD_eq_getElem?_getD, List.getElem?_eq_none (by have := HLE.out; omega)]
              rfl
          rw [hfin] at HR
          have HRx := HR
          have HBx := HB
          have h1i : ¬ (k : Int) < (0 : Int) := by have := HEL.out; omega
          clear hfin hk hk2 h1 HR HB
          generalize wr = wc at *
          have HBwc := Lib.hid (p := Below w5.heap.size w5 wc) (below_nxt HBx.out HW55.out)
          have HD := Lib.hid (H5.out.kept HBwc.out)
          have c0 := HD.out.c0
          obtain ⟨g1', k1', e1, _, _, hc1⟩ := own_rec sc_len HD.out.o1 HY.out (by omega)
          simp only [Value.slice.injEq, Option.some.injEq, Addr.mk.injEq] at e1
          obtain ⟨⟨rfl, _, _⟩, _, _⟩ := e1
          have d0 := hc1 0 _ rfl
          rw [Nat.mul_one, Nat.add_zero] at d0
          unfold bvv at d0
          have f0 : wc.frozen? ⟨g1, a, none⟩ = false := HD.out.o1.frozenAt a
          have r1 : wc.cell? ⟨g5, 1, none⟩ = some (.int .i64 (a : Int)) := (HBwc.out.cell (p := ⟨g5, 1, none⟩) HR5.out.lt).trans q1
          have hi1 : (0 : Int) ≤ (a : Int) := by omega
          have hi2 : (a : Int) < (ss.length : Int) := by have := HA.out; omega
          clear hc1
          go_wp2
          go_still_tail 8, (by kernel_rfl)
          change wpList _ _ _ _ _ wc.drew
          have d0z : wc.drew.cell? ⟨g1, a, none⟩ = some (.slice y.A y.l.length y.c) := d0
          have f0z : wc.drew.frozen? ⟨g1, a, none⟩ = false := f0
          have hBb : b ≤ g12 := by rw [HG12.out]; have h1 := H5.out.lo; have h2 := H5.out.cells.lt; have h3 := HW55.out.size; omega
          have hs := (HD.out.kept (below_drw wc)).sync a ⟨some ⟨g12, 0, none⟩, 256, pad E0⟩ HA.out ⟨own_fresh (HRx.out.kept (below_drw wc)) hBb, pad_len _⟩
          rw [show bvv ⟨some ⟨g12, 0, none⟩, 256, pad E0⟩ = .slice (some ⟨g12, 0, none⟩) 256 256 by unfold bvv; rw [pad_len]] at hs
          obtain ⟨hs1, hs2⟩ := hs
          have r1z : (wc.drew.setCell ⟨g1, a, none⟩ (.slice (some ⟨g12, 0, none⟩) 256 256)).cell? ⟨g5, 1, none⟩ = some (.int .i64 (a : Int)) := by
            rw [World.cell?_setCell_other _ _ _ _ (fun e => by have h1 := congrArg Addr.block e; have h2 := HG5.out; simp at h1; omega)]
            exact r1
          have HS1 := Lib.hid hs1
          have HS2 := Lib.hid hs2
          have HZ5 := Lib.hid (p := g5 < (wc.drew.setCell ⟨g1, a, none⟩ (.slice (some ⟨g12, 0, none⟩) 256 256)).heap.size) (by have h1 := HR5.out.lt; have h2 := HBwc.out.size; simp; omega)
          have HSZ := Lib.hid (p := wc.heap.size ≤ (wc.drew.setCell ⟨g1, a, none⟩ (.slice (some ⟨g12, 0, none⟩) 256 256)).heap.size) (by simp)
          clear hs1 hs2 hBb c0 d0 f0 r1 HD
          have HBd := Lib.hid (p := Below w.heap.size w wc.drew) (below_nxt (below_drw wc) (below_nxt HBwc.out HB5.out))
          generalize wc.drew = wd at *
          go_wp2
          generalize wd.setCell ⟨g1, a, none⟩ (.slice (some ⟨g12, 0, none⟩) 256 256) = wz at *
          clear d0z f0z q1
          go_loopw [5, 14] (fun v x wr => ∃ k : Nat, k ≤ rs.length ∧ x = .int .i64 (k : Int) ∧ Hid (wr.ownsRow wz.heap.size 81 2 v (gone a (rs.take k)).length ((gone a (rs.take k)).flatMap wcs)) ∧ Hid (Below wz.heap.size wz wr)) (fun _ x _ => rs.length - (intOf x).toNat)
          case atStart => exact ⟨0, by omega, rfl, Lib.hid (World.ownsRow_nil _ _ _ _), Lib.hid (Below.refl _ _)⟩
          case round =>
            obtain ⟨k, hk, rfl, HO, HB⟩ := hrel
            obtain ⟨Av, kv, rfl⟩ := own_sl HO.out
            have hkw : IntKind.i64.wrap ((k : Int) + 1) = (k : Int) + 1 := by rw [IntKind.wrap_i64]; have := HRL.out; omega
            have HD := Lib.hid (HS1.out.kept HB.out)
            have c1 := HD.out.c1
            have f1 : wr.frozen? ⟨g, 1, none⟩ = false := HD.out.cells.free 1
            have r1 : wr.cell? ⟨g5, 1, none⟩ = some (.int .i64 (a : Int)) := (HB.out.cell (p := ⟨g5, 1, none⟩) HZ5.out).trans r1z
            by_cases hlt : k < rs.length
            · have hki : (k : Int) < (rs.length : Int) := by omega
              have hk0 : (0 : Int) ≤ (k : Int) := by omega
              obtain ⟨p, hp⟩ : ∃ p, rs[k]? = some p := ⟨_, List.getElem?_eq_getElem hlt⟩
              have HPK := Lib.hid (p := rs.getD k (0, noBV) = p) (by rw [List.getD_eq_getElem?_getD, hp]; rfl)
              have HKL := Lib.hid hlt
              obtain ⟨g2, k2', e2, _, _, hc2⟩ := own_rec wcs_len HD.out.o2 hp (by omega)
              simp only [Value.slice.injEq] at e2
              obtain ⟨rfl, _, rfl⟩ := e2
              have p0 := hc2 0 _ rfl
              rw [Nat.add_zero] at p0
              have HRG := Lib.hid (p := wr.rangeAt g2 (k * 2) [Value.int .i64 (p.1 : Int), Value.slice p.2.A p.2.l.length p.2.c]) (rec_range HD.out.o2 hp rfl)
              obtain ⟨S, hS⟩ : ∃ S, S = gone a (rs.take k) := ⟨_, rfl⟩
              rw [← hS] at HO ⊢
              have HSS := Lib.hid hS
              have HSL := Lib.hid (p := S.length ≤ 1000000) (by rw [hS]; exact Nat.le_trans (List.length_filter_le _ _) (by rw [List.length_take]; have := HRL.out; omega))
              clear hp hk hlt hS hc2
              by_cases hpa : p.1 = a
              · have hpe : ((p.1 : Int) != (a : Int)) = false := by rw [hpa]; simp
                have HPA := Lib.hid hpa
                clear hpa
                go_wp2
                go_region
                go_wp2
                go_roundw
                case rel => exact ⟨k + 1, HKL.out, by go_num, by rw [gone_take HKL.out, HPK.out, if_pos HPA.out, ← HSS.out]; exact Lib.hid (own_kept HO.out (below_drw wr)), Lib.hid (below_nxt (below_drw wr) HB.out)⟩
                case measure => have := HKL.out; simp [intOf]; omega
              · have hpe : ((p.1 : Int) != (a : Int)) = true := by simp; omega
                have HPA := Lib.hid hpa
                clear hpa
                go_wp2
                go_region
                have HOd := Lib.hid (own_kept HO.out (below_drw wr))
                have HRGd := Lib.hid (p := wr.drew.rangeAt g2 (k * 2) [Value.int .i64 (p.1 : Int), Value.slice p.2.A p.2.l.length p.2.c]) (fun j u hu => HRG.out j u hu)
                have HBd := Lib.hid (p := Below wz.heap.size wz wr.drew) (below_nxt (below_drw wr) HB.out)
                have c1d : wr.drew.cell? ⟨g, 1, none⟩ = _ := c1
                clear c1 f1 r1 HO HRG HB HD
                generalize wr.drew = wy at *
                go_wp2_with (first
                  | (refine wpList_load_mid rfl 81 (.tmp 196) rfl g2 (k * 2) (by rfl) [Value.int .i64 (p.1 : Int), Value.slice p.2.A p.2.l.length p.2.c] _ HRGd.out Try.underlying81 rfl i2.out ?_)
                  | (at_builtin; go_loud (refine wp_join rfl _ _ rfl rec_wait wz.heap.size (.slice Av S.length kv) S.length (S.flatMap wcs) rfl (HOd.out.alloc _) (some ⟨wy.heap.size, 0, none⟩) 1 1 (wcs p) rfl rfl (wait_src wy p) (wcs_one _) (by have := HSL.out; omega) (Nat.le_trans HBd.out.size (below_al wy _).size) ?_)
                     intro v6 w6 hr6 hg6 hat6
                     have HR6 := Lib.hid hr6
                     have HB6 := Lib.hid (p := Below wz.heap.size wz w6) ((below_nxt (below_al wy _) HBd.out).grown hg6 (Nat.le_trans HBd.out.size (below_al wy _).size) (fun q hq => (HOd.out.lt q hq).1))
                     clear hr6 hg6 hat6))
                go_roundw
                case rel => exact ⟨k + 1, HKL.out, by go_num, by rw [gone_take HKL.out, HPK.out, if_neg HPA.out, ← HSS.out, List.length_append, List.flatMap_append]; exact Lib.hid (by simpa using HR6.out), HB6⟩
                case measure => have := HKL.out; simp [intOf]; omega
            · obtain rfl : k = rs.length := by omega
              rw [List.take_length] at HO ⊢
              obtain ⟨N, hN⟩ : ∃ N, N = (gone a rs).length := ⟨_, rfl⟩
              rw [← hN] at HO ⊢
              obtain ⟨V, hV⟩ : ∃ V, V = Value.slice Av N kv := ⟨_, rfl⟩
              rw [← hV] at HO
              have HG := Lib.hid (p := ∀ q, V.ownBlock = some q → wz.heap.size ≤ q) (fun q hq => (HO.out.lt q hq).1)
              have HBS := Lib.hid (p := b ≤ wz.heap.size) (by have := HS1.out.lo; have := HS1.out.cells.lt; omega)
              obtain ⟨hw1, hw2⟩ := HD.out.waits (v := V) (rs' := gone a rs) (by rw [← hN]; exact own_lower HO.out HBS.out) (by
                cases hv : V.ownBlock with
                | none => exact .inl rfl
                | some q =>
                  refine .inr (fun e => ?_)
                  have h1 := HG.out q hv
                  have h2 := (HS1.out.o3.lt q (by rw [← e])).2
                  omega) (fun p hp => HD.out.m2 p (gone_mem hp))
              have HW1 := Lib.hid hw1
              have HW2 := Lib.hid hw2
              clear hw1 hw2 hk hlt HO hN
              subst hV
              go_wp2
              go_ret
              exact ⟨rfl, _, _, HLL, Lib.hid (pad_len _), HW1, Lib.hid ((((Chg.of HBd.out).trans HS2.out (fun x hx => .inl hx)).trans (Chg.of HB.out) (fun x hx => .inl hx)).trans HW2.out (fun x hx => .inl hx)), Lib.hid (fun q hq => Nat.le_trans HB5.out.size (Nat.le_trans HBwc.out.size (Nat.le_trans HSZ.out (HG.out q hq))))⟩
    · obtain ⟨q, rfl⟩ : ∃ q, j = q + 1 := ⟨j - 1, by omega⟩
      have hx : (((q + 1 : Nat) : Int) - 1) = (q : Int) := by omega
      rw [hx]
      have hge : (0 : Int) ≤ (q : Int) := by omega
      have hlt : (q : Int) < (al.length : Int) := by omega
      have hqw : IntKind.i64.wrap ((q : Int) - 1) = (q : Int) - 1 := by rw [IntKind.wrap_i64]; have := HAL.out; omega
      have hkw : IntKind.i64.wrap ((k : Int) + 1) = (k : Int) + 1 := by rw [IntKind.wrap_i64]; have h1 := HK.out; have h2 := eld_le al (q + 1) a; have h3 := eld_few al a; have h4 := HAL.out; omega
      obtain ⟨p, hp⟩ : ∃ p, al[q]? = some p := ⟨_, List.getElem?_eq_getElem (by omega)⟩
      obtain ⟨g2, k2', e2, _, _, hc2⟩ := own_rec wcs_len HD.out.o3 hp (by omega)
      simp only [Value.slice.injEq] at e2
      obtain ⟨rfl, _, rfl⟩ := e2
      have p0 := hc2 0 _ rfl
      have p1 := hc2 1 _ rfl
      rw [Nat.add_zero] at p0
      unfold bvv at p1
      have HPK := Lib.hid hp
      have HJ := Lib.hid hj
      have HKM := Lib.hid hkm
      clear hp hc2 hj hj0 hkm hx
      by_cases hpa : p.1 = a
      · have hpe : ((p.1 : Int) != (a : Int)) = false := by rw [hpa]; simp
        have HPA := Lib.hid hpa
        by_cases hkn : k = m
        · have hke : ((k : Int) == (m : Int)) = true := by rw [hkn]; simp
          have HKN := Lib.hid hkn
          clear hpa hkn
          have h1 := eld_le al q a
          rw [eld_step HPK.out, if_pos HPA.out, List.length_cons] at h1
          have h2 := HK.out
          have h3 := HKN.out
          have h4 := HF.out
          exact absurd h1 (by omega)
        · have hke : ((k : Int) == (m : Int)) = false := beq_false_of_ne (by omega)
          have HKN := Lib.hid (p := k + 1 ≤ m) (by have := HKM.out; omega)
          clear hpa hkn
          go_wp2
          go_region
          go_wp2
          go_roundw
          case rel => exact ⟨rfl, q, k + 1, by have := HJ.out; omega, HKN.out, by go_num, by go_num, Lib.hid (by rw [eld_step HPK.out, if_pos HPA.out, List.length_cons, HK.out]), Lib.hid (below_nxt (below_drw wr) HB.out)⟩
          case measure => (simp [intOf]; try omega)
      · have hpe : ((p.1 : Int) != (a : Int)) = true := by simp; omega
        have HPA := Lib.hid hpa
        clear hpa
        go_wp2
        go_region
        go_wp2
        go_roundw
        case rel => exact ⟨rfl, q, k, by have := HJ.out; omega, HKM.out, by go_num, rfl, Lib.hid (by rw [eld_step HPK.out, if_neg HPA.out, HK.out]), Lib.hid (below_nxt (below_drw wr) HB.out)⟩
        case measure => (simp [intOf]; try omega)
theorem dtamper_old (h : RDisk b w g v1 v2 v3 v4 ss rs al ts) (hr : rs.length ≤ 1000000) (hal : al.length ≤ 1000000) (a : Nat) (ha : a < ss.length) (m : Nat) (A : Option Addr) (len c : Nat) :
    Calls Try.prog 25 #[.pointer (some ⟨g, 0, none⟩), .agg (tampC 3 (a : Int) (m : Int) A len c).toArray] w fun e w' => e = .returned (.int .i64 0) ∧ DForced b w w' g v1 v2 v3 v4 ss rs al ts a (oldL (eld al) a m) := by
  by_cases hf : m < (eld al a).length
  · exact dtamper_old_a h hr hal a ha m A len c hf
  · exact dtamper_old_b h hr hal a ha m A len c (by omega)
end
end Go.Proofs.Ytnajlineipapdaa
