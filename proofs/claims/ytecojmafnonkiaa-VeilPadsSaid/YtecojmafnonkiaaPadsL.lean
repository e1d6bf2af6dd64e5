/- The law VeilPads, walked: for every table, nonce and length it returns true. Conditions: those on how the arguments lie. -/
import Derived.Test.YtecojmafnonkiaaOwn
import Derived.Deep.RegionHeld3
set_option linter.unusedVariables false
namespace Go.Proofs.Ytecojmafnonkiaa
open Go.RowKit

set_option maxRecDepth 20000 in
set_option maxHeartbeats 4000000 in
theorem pads_any (A : Option Addr) (c e s : Nat) (ps : List PadV) (z : Int) (he : e < 4294967296) (hs : s < 4294967296) (w : World) (hP : InP w A ps.length c ps) :
    Calls Try.prog 4 #[.slice A ps.length c, .agg #[.int .u32 (e : Int), .int .u32 (s : Int)], .int .i64 z] w fun x w' => x = .returned (.bool true) ∧ Below w.heap.size w w' := by
  obtain ⟨i, U⟩ := u8_tab
  obtain ⟨ip, hip0, hzp0, h3p0, hbp0⟩ := info_parts info_pad
  have hip := Lib.hid hip0
  have hzp := Lib.hid hzp0
  have h3p := Lib.hid h3p0
  have hbp := Lib.hid hbp0
  clear hip0 hzp0 h3p0 hbp0
  have HE := Lib.hid he
  have HS := Lib.hid hs
  have HP := Lib.hid hP
  clear he hs hP
  go_enter Try.func4, Try.ntmps4
  go_wp2_with (first
    | (refine step_box rfl 4 rfl 25 _ rfl [Value.int .u32 (e : Int), .int .u32 (s : Int)] rfl ?_; intro g4 w4 hr4 hg4 hb4 hs4)
    | (go_at_call 8; refine (awake_any _).mono ?_; rintro x w1 ⟨rfl, hb1⟩
       have hr41 := hr4.kept hb1
       have HB1 := Lib.hid (below_next hb1 hb4)
       clear hr4 hg4 hb4 hb1 hs4))
  refine (few_any A c ps _ (HP.out.below HB1.out)).mono ?_
  rintro x wb ⟨b, rfl, rfl, hF⟩
  cases b with
  | false =>
    clear hF
    go_wp2
    go_ret
    exact ⟨rfl, HB1.out⟩
  | true =>
    have HF := Lib.hid (hF rfl)
    clear hF
    have HP1 := Lib.hid (HP.out.below HB1.out)
    go_wp2
    go_loopw [7, 8] (fun v x wr => ∃ k qs, k ≤ ps.length ∧ qs.length = k ∧ x = .int .i64 (k : Int) ∧ Hid (OwnT wb.heap.size wr v qs (ps.take k)) ∧ Below wb.heap.size wb wr) (fun _ x _ => ps.length - (intOf x).toNat)
    case atStart => exact ⟨0, [], by omega, rfl, rfl, Lib.hid (by rw [List.take_zero]; exact OwnT.start _ _), Below.refl _ _⟩
    case round =>
      obtain ⟨k, qs, hk, hqs, rfl, hO, hB⟩ := hrel
      have HB := Lib.hid hB
      have HKQ := Lib.hid hqs
      have hkw : IntKind.i64.wrap ((k : Int) + 1) = (k : Int) + 1 := by rw [IntKind.wrap_i64]; have := HF.out.1; omega
      by_cases hlt : k < ps.length
      · obtain ⟨p, hp⟩ : ∃ p, ps[k]? = some p := ⟨_, List.getElem?_eq_getElem hlt⟩
        obtain ⟨gp, op, rfl, h1b, h2b, h3b, h4b⟩ := HP1.out.at_ k p hp
        have hgb := World.block_lt_of_cell? wb _ h1b
        have h1 := (hB.cell (p := ⟨gp, op + k * 3, none⟩) hgb).trans h1b
        have h2 := (hB.cell (p := ⟨gp, op + k * 3 + 1, none⟩) hgb).trans h2b
        have h3 := (hB.cell (p := ⟨gp, op + k * 3 + 2, none⟩) hgb).trans h3b
        have HPK := Lib.hid hp
        have HGB := Lib.hid (p := gp < wb.heap.size) hgb
        have HGW := Lib.hid (p := gp < wr.heap.size) (Nat.lt_of_lt_of_le hgb hB.size)
        have H4 := Lib.hid (h4b.below hB)
        have HPL := Lib.hid (HF.out.2 k p hp)
        have hki : (k : Int) < (ps.length : Int) := by omega
        clear hp h1b h2b h3b h4b hgb hB hqs
        obtain ⟨v0, hv0⟩ : ∃ v0, v0 = u7 := ⟨_, rfl⟩
        rw [← hv0] at hO
        go_wp2
        rw [← hv0]
        clear hv0
        go_region_held3 (fun w' => w'.cell? ⟨gp, op + k * 3, none⟩ = some (.int .u32 (p.e : Int)) ∧ w'.cell? ⟨gp, op + k * 3 + 1, none⟩ = some (.int .u32 (p.s : Int)) ∧ w'.cell? ⟨gp, op + k * 3 + 2, none⟩ = some (.slice p.A p.l.length p.c))
          (first | (exact ⟨z1, z2, z3⟩) | (exact ⟨y1, y2, y3⟩) | go_keep)
          (first
            | (refine step_tail rfl _ _ 22 rfl 5 i U wr.heap.size (.slice (some ⟨wr.heap.size, 0, none⟩) 0 0) 0 [] rfl (empty_own wr.drew _) p.A p.l.length p.c p.l rfl rfl (H4.out.below ((below_draw _).alloc (Nat.le_refl _) _)) (by have := HPL.out; omega) ((below_draw wr).alloc (Nat.le_refl _) (.cells #[] 5)).size ?_
               intro v2 w2 hown2 hg2 hat2
               rw [List.nil_append, Nat.zero_add] at hown2
               obtain ⟨A2, c2, rfl⟩ := own_sl hown2
               have hb2 : Below wr.heap.size wr w2 := ((below_draw wr).alloc (Nat.le_refl _) _).grown hg2 ((below_draw wr).alloc (Nat.le_refl _) (.cells #[] 5)).size (fun q hq => by have h0 : some wr.heap.size = some q := hq; injection h0 with h0; omega)
               have y1 := (hb2.cell (p := ⟨gp, op + k * 3, none⟩) HGW.out).trans h1
               have y2 := (hb2.cell (p := ⟨gp, op + k * 3 + 1, none⟩) HGW.out).trans h2
               have y3 := (hb2.cell (p := ⟨gp, op + k * 3 + 2, none⟩) HGW.out).trans h3
               have HG2 := Lib.hid (p := gp < w2.heap.size) (Nat.lt_of_lt_of_le HGW.out hb2.size)
               have HO2 := Lib.hid (hO.out.kept hb2)
               have HB2 := Lib.hid hb2
               have HMN := Lib.hid hown2
               clear hown2 hg2 hat2 hb2)
            | (refine step_rec rfl _ _ 35 rfl 38 ip _ Try.underlying35 hip.out hzp.out h3p.out 32 hbp.out (by omega) rfl wb.heap.size v0 qs.length (pcs qs) rfl (HO2.out.row.alloc _) w2.heap.size (pc ⟨p.e, p.s, A2, c2, p.l⟩) rfl rfl (fun j u hu => ?cells) (pc_one _) (by have := HF.out.1; have := HKQ.out; omega) (by have := HB.out.size; have := HB2.out.size; simp; omega) ?_
               case cells =>
                 match j, hu with
                 | 0, hu => simp [pc] at hu; subst hu; simp
                 | 1, hu => simp [pc] at hu; subst hu; simp
                 | 2, hu => simp [pc] at hu; subst hu; simp
               intro v3 w3 hown3 hg3 hat3
               have HX3 := Lib.hid hown3
               have HG3 := Lib.hid hg3
               have z1 := hg3.cell ((World.cell?_alloc_past _ _ _ HG2.out).trans y1) (fun e0 => by have := (HO2.out.row.lt gp e0.symm).1; have := HGB.out; omega)
               have z2 := hg3.cell ((World.cell?_alloc_past _ _ _ HG2.out).trans y2) (fun e0 => by have := (HO2.out.row.lt gp e0.symm).1; have := HGB.out; omega)
               have z3 := hg3.cell ((World.cell?_alloc_past _ _ _ HG2.out).trans y3) (fun e0 => by have := (HO2.out.row.lt gp e0.symm).1; have := HGB.out; omega)
               clear hown3 hg3 hat3)
            | fail)
        all_goals
          have HO3 := Lib.hid (OwnT.more HO2.out HPK.out HMN.out HB.out.size _ HG3.out HX3.out)
          have HB3 := Lib.hid ((((HB.out.trans (HB2.out.mono HB.out.size)).alloc (Nat.le_trans HB.out.size HB2.out.size) _)).grown HG3.out (by have := HB.out.size; have := HB2.out.size; simp; omega) (fun q hq => (HO2.out.row.lt q hq).1))
          clear HX3 HG3 HO2 z1 z2 z3 y1 y2 y3 h1 h2 h3
          go_wp2
          go_roundw
          case rel => exact ⟨k + 1, _, by omega, by rw [List.length_append, HKQ.out]; rfl, by go_num, HO3, HB3.out⟩
          case measure => simp [intOf]; omega
      · obtain rfl : k = ps.length := by omega
        rw [List.take_length] at hO
        have hrow := hO.out.row
        rw [HKQ.out] at hrow
        obtain ⟨Ao, co, rfl⟩ := own_sl hrow
        clear hrow
        have HSM := Lib.hid (hO.out.small HF.out)
        have HQ2 := Lib.hid (p := ps.length ≤ 200) HF.out.1
        have HPA := Lib.hid (hO.out.pads HSM.out)
        have HOK := Lib.hid (hO.out.ok HP.out.ok)
        have HQP := Lib.hid (p := ps.length ≤ qs.length ∧ qs.length ≤ ps.length) ⟨Nat.le_of_eq HKQ.out.symm, Nat.le_of_eq HKQ.out⟩
        clear hk hkw hlt HKQ
        go_wp2_with (first
          | (go_at_call 14
             refine (ideal_n Ao co ps.length qs (Nat.le_antisymm HQP.out.1 HQP.out.2) HQ2.out _ HPA.out HOK.out).mono ?_
             rintro x w2 ⟨g9, rfl, hg9, hI9, hb9⟩))
        have HMU := Lib.hid (Mut.start hO.out hb9 HB.out)
        rw [hO.out.cut] at hI9
        have HI := Lib.hid hI9
        clear hI9 hb9 hg9 hO HPA HOK
        generalize wr.heap.size = Bz at HMU HI
        go_loopw [10] (fun x wm => ∃ n : Nat, n ≤ ps.length ∧ x = .int .i64 (n : Int) ∧ Hid (Mut Bz wb w2 wm Ao qs)) (fun x _ => ps.length - (intOf x).toNat)
        case atStart => exact ⟨0, by omega, rfl, HMU⟩
        case round =>
          obtain ⟨n, hn, rfl, hM⟩ := hrel
          have hnw : IntKind.i64.wrap ((n : Int) + 1) = (n : Int) + 1 := by rw [IntKind.wrap_i64]; have := HQ2.out; omega
          by_cases hlt : n < ps.length
          · obtain ⟨q, hq⟩ : ∃ q, qs[n]? = some q := ⟨_, List.getElem?_eq_getElem (by have := HQP.out.1; omega)⟩
            obtain ⟨go, rfl, hc⟩ := hM.out.cell hq
            have HQ := Lib.hid hq
            have HQL := Lib.hid (HSM.out n q hq)
            have hni : (n : Int) < (ps.length : Int) := by omega
            clear hq hc
            go_wp2
            go_loopw [11] (fun x wn => ∃ m : Nat, m ≤ q.l.length ∧ x = .int .i64 (m : Int) ∧ Hid (Mut Bz wb w2 wn (some ⟨go, 0, none⟩) qs)) (fun x _ => q.l.length - (intOf x).toNat)
            case atStart => exact ⟨0, by omega, rfl, hM⟩
            case round =>
              clear hM
              obtain ⟨m, hm, rfl, hM⟩ := hrel
              obtain ⟨go', e0, hc⟩ := hM.out.cell HQ.out
              injection e0 with e0
              injection e0 with e0 _
              subst e0
              have hmw : IntKind.i64.wrap ((m : Int) + 1) = (m : Int) + 1 := by rw [IntKind.wrap_i64]; have := HQL.out; omega
              by_cases hlm : m < q.l.length
              · obtain ⟨g5, u0, e5, c5, f5, hM5⟩ := hM.out.at_ HQ.out hlm (.int .u8 170)
                rw [e5] at hc
                have HM5 := Lib.hid hM5
                have hmi : (m : Int) < (q.l.length : Int) := by omega
                clear hM5 e5
                go_wp2
                go_roundw
                case rel => exact ⟨m + 1, by omega, by go_num, HM5⟩
                case measure => simp [intOf]; omega
              · have hmi : ¬ (m : Int) < (q.l.length : Int) := by omega
                go_wp2
                go_roundw
                case rel => exact ⟨n + 1, by omega, by go_num, hM⟩
                case measure => simp [intOf]; omega
          · obtain rfl : n = ps.length := by omega
            clear hlt hnw hn
            have hMA := (HI.out.kept hM.out.kept).mask
            have HBW := Lib.hid (below_next hM.out.below HB1.out)
            have hr4w := hr41.kept hM.out.below
            have c0 := hr4w.cell 0
            have c1 := hr4w.cell 1
            simp at c0 c1
            have HMA := Lib.hid hMA
            have HPW := Lib.hid ((HP.out.below HBW.out).pads (fun j p hp => Nat.le_trans (HF.out.2 j p hp) (by decide)))
            have HEQ := Lib.hid (p := ∀ n : Nat, n ≤ 4096 → lst n (pmask (cutL ps) e s) = lst n (pm ps e s)) (fun n hn => by
              have h1 := cutL_pm ps e s n hn
              rw [lst_bc, lst_bc] at h1
              exact bc_inj h1)
            clear hMA hM HI HMU HQP HSM
            by_cases hz : z < 0 ∨ 4096 < z
            · have HZ := Lib.hid hz
              have hzz : (decide (z < 0) || decide (4096 < z)) = true := by simp; exact hz
              clear hz
              go_wp2_with (first
                | (go_at_call_of 10 (Value.pointer (some ⟨g9, 0, none⟩)); refine (mask_far _ e s z HZ.out _).mono ?_; rintro x w5 ⟨rfl, rfl⟩)
                | (go_at_call_of 10 (Value.pointer none); refine (mask_far _ e s z HZ.out _).mono ?_; rintro x w6 ⟨rfl, rfl⟩))
              all_goals
                go_ret
                exact ⟨rfl, HBW.out⟩
            · obtain ⟨n, rfl⟩ := Int.eq_ofNat_of_zero_le (by omega : 0 ≤ z)
              have z0 : ¬ (n : Int) < 0 := by omega
              have z1 : ¬ (4096 : Int) < (n : Int) := by omega
              have HN := Lib.hid (p := n ≤ 4096) (by omega)
              have HN2 := Lib.hid (p := n ≤ 1099511627776) (by have := HN.out; omega)
              have hmk := fun w : World => run_make_b n HN.out w
              have HPS := Lib.hid (p := ps.length ≤ 1099511627776) (by have := HQ2.out; omega)
              clear hz
              go_wp2_with (first
                | (go_at_call_of 10 (Value.pointer (some ⟨g9, 0, none⟩)); refine (mask_any g9 _ e s n HE.out HS.out HN.out _ HMA.out).mono ?_; rintro x w5 ⟨g5, rfl, hr5, hg5, hb5⟩
                   have hr45 := hr4w.kept hb5
                   have d0 := hr45.cell 0
                   have d1 := hr45.cell 1
                   simp at d0 d1)
                | (go_at_call_of 10 (Value.pointer none); refine (mask_nil e s n HN.out _).mono ?_; rintro x w6 ⟨g6, rfl, hr6, hg6, hb6⟩
                   have hr46 := hr45.kept hb6
                   have k0 := hr46.cell 0
                   have k1 := hr46.cell 1
                   simp at k0 k1
                   have hb56 := below_next hb6 hb5)
                | (go_at_call 15; refine (rpads_any A c ps e s n HN2.out HPS.out _ (HPW.out.below hb56)).mono ?_; rintro x w7 ⟨g7, rfl, hr7, hg7, hb7⟩
                   have hb57 := below_next hb7 hb56
                   have hh5 := ((hr5.kept hb6).kept hb7).hol
                   have hh6 := (hr6.kept hb7).hol)
                | (go_at_call_of 11 (Value.slice (some ⟨g5, 0, none⟩) n n); refine (bytes_eq (some ⟨g5, 0, none⟩) (some ⟨g7, 0, none⟩) n n n n _ _ (HEQ.out n HN.out) (lst_len _ _).symm (lst_len _ _).symm _ hh5 hr7.hol (by rw [lst_len]; exact HN2.out)).mono ?_; rintro x w8 ⟨rfl, hb8⟩
                   have hb58 := below_next hb8 hb57
                   have hh8 := hh6.below hb8)
                | (go_at_call_of 11 (Value.slice (some ⟨g6, 0, none⟩) n n); refine (bytes_eq (some ⟨g6, 0, none⟩) (some ⟨w8.heap.size, 0, none⟩) n n n n _ _ rfl (lst_len _ _).symm (lst_len _ _).symm _ (hh8.below ((Below.refl _ _).alloc (Nat.le_refl _) _)) (Row.made w8 5 (brr n fun _ => 0)).hol (by rw [lst_len]; exact HN2.out)).mono ?_; rintro x w11 ⟨rfl, hb11⟩))
              go_ret
              exact ⟨rfl, below_next hb11 (below_next ((Below.refl _ _).alloc (Nat.le_refl _) _) (below_next hb58 HBW.out))⟩
end Go.Proofs.Ytecojmafnonkiaa
