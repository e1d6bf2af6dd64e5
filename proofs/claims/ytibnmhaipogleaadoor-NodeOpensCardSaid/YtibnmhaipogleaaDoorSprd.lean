/- The rounds' keys spread from a key, by the program: what the call leaves, for every key. Conditions: those named. -/
import Derived.Test.YtibnmhaipogleaaDoorMgBlendA
set_option linter.unusedVariables false
namespace Go.Proofs.YtibnmhaipogleaaDoor
open Go.RowKit

theorem pre_put {w : World} {g off n : Nat} {key : Nat → UInt8} {v : UInt8} (h : CipherAt w g (pre key n)) (e : off = 256 + n) (hv : v = kx key n) : CipherAt (w.setCell ⟨g, off, none⟩ (B v)) g (pre key (n + 1)) := by
  subst e
  subst hv
  have := h.put (256 + n) (B (kx key n))
  rw [cph_set, pre_step] at this
  exact this
theorem arr4_turned (f : Nat → UInt8) : (#[B (f 1), B (f 2), B (f 3), B (f 0)] : Array Value) = (brr 4 fun j => f ((j + 1) % 4)).toArray := by kernel_rfl
theorem word_range {w : World} {g : Nat} {K : Nat → UInt8} (h : CipherAt w g K) {i : Nat} (hi : i < 60) : w.rangeAt g (256 + i * 4) (brr 4 fun j => K (4 * i + j)) := fun j v hv => by
  rcases Nat.lt_or_ge j 4 with hj | hj
  · rw [brr_get _ hj] at hv
    injection hv with hv
    rw [h.cell, show 256 + i * 4 + j = 256 + (4 * i + j) by omega, cph_key _ (by omega), hv]
  · rw [brr_none _ hj] at hv
    cases hv

set_option maxRecDepth 20000 in
set_option maxHeartbeats 4000000 in
theorem aes_spread_any (g : Nat) (key : Nat → UInt8) (w : World) (hC : CipherAt w g (fun _ => 0)) :
    Calls Tryd.prog 61 #[.pointer (some ⟨g, 0, none⟩), .agg (brr 32 key).toArray] w fun e w' => e = .returned (.tuple #[]) ∧ CipherAt w' g (kx key) ∧ Upon g w w' := by
  have hz := Lib.hid (p := ∀ w : World, (zeroValue 107).run Tryd.prog w = .ok (.agg (brr 4 (fun _ => 0)).toArray) w) fun w => by kernel_rfl
  have i4 := Lib.hid (p := (Tryd.prog.info? 107).map (·.size) = some 4) (by kernel_rfl)
  have i32 := Lib.hid (p := (Tryd.prog.info? 23).map (·.size) = some 32) (by kernel_rfl)
  go_enter Tryd.func61, Tryd.ntmps61
  go_wp2_with (first
    | (refine calm_box rfl 3 rfl 23 _ rfl (brr 32 key) rfl ?_; intro g1 w1 hr1 hg1 hb1 hs1)
    | (refine step_load rfl 10 rfl 23 _ rfl _ rfl (brr 32 key) _ hr1.all Tryd.underlying23 rfl (by rw [brr_len]; exact i32) ?_))
  have hu := hb1.out.upon g
  have hgw : g < w.heap.size := hC.lt
  have hC' := hC.calm hb1.out
  clear hr1 hb1 hg1 hs1 hC
  rw [← pre_zero key] at hC'
  go_loopw [11] (fun i wr => ∃ n : Nat, n ≤ 32 ∧ i = .int .i64 n ∧ CipherAt wr g (pre key n) ∧ Upon g w wr) (fun i _ => 32 - (intOf i).toNat)
  case atStart => exact ⟨0, by omega, rfl, hC', hu⟩
  case round =>
    clear hC' hu
    obtain ⟨n, hn, rfl, hC, hu⟩ := hrel
    by_cases hlt : n < 32
    · have hix := fun w => run_index_brr (P := Tryd.prog) w 23 5 32 key n hlt Tryd.underlying23 Tryd.underlying5 (by kernel_rfl)
      have e0 : 256 + n / 4 * 4 + n % 4 = 256 + n := by omega
      have c1 : wr.cell? ⟨g, 256 + n / 4 * 4 + n % 4, none⟩ = some (B (pre key n n)) := by rw [e0, hC.cell, cph_key _ (by omega)]
      have f1 := hC.free (256 + n / 4 * 4 + n % 4)
      have HE := Lib.hid e0
      clear e0
      go_wp2
      go_roundw
      case rel => exact ⟨n + 1, by omega, by go_num, by rw [HE.out, ← pre_step, kx_lo key hlt]; have := hC.put (256 + n) (B (key n)); rwa [cph_set] at this, hu.put rfl _⟩
      case measure => simp [intOf]; omega
    · obtain rfl : n = 32 := by omega
      go_wp2
      obtain ⟨wo, rfl⟩ : ∃ wo : World, wo = wr := ⟨_, rfl⟩
      go_loopw [7, 6] (fun x c wr => ∃ i : Nat, 8 ≤ i ∧ i ≤ 60 ∧ x = .int .i64 i ∧ c = B (dpow 1 ((i + 7) / 8 - 1)) ∧ CipherAt wr g (pre key (4 * i)) ∧ Upon g w wr) (fun x _ _ => 60 - (intOf x).toNat)
      case atStart => exact ⟨8, by omega, by omega, rfl, rfl, hC, hu⟩
      case round =>
        clear hC hu
        obtain ⟨wa, rfl⟩ : ∃ wa : World, wa = wr := ⟨_, rfl⟩
        obtain ⟨i, h8, h60, rfl, rfl, hC, hu⟩ := hrel
        by_cases hlt : i < 60
        · obtain ⟨m, hm⟩ : ∃ m : Nat, m = i - 1 := ⟨_, rfl⟩
          have hm1 : (i : Int) - 1 = m := by omega
          have hm6 : m < 60 := by omega
          have HM := Lib.hid hm
          clear hm
          generalize hfac : dpow 1 ((i + 7) / 8 - 1) = fac
          have HFAC := Lib.hid hfac
          clear hfac
          obtain ⟨ft, hft⟩ : ∃ ft : Nat → UInt8, ft = fun j => pre key (4 * i) (4 * m + j) := ⟨_, rfl⟩
          have hrg := word_range hC hm6
          rw [← hft] at hrg
          have HFT := Lib.hid hft
          clear hft
          by_cases h0 : i % 8 = 0
          · have h0' : (i : Int) % 8 = 0 := by omega
            have HE4 := Lib.hid (arr4_turned ft)
            go_wp2_with (first
              | (refine wpList_load_mid rfl 107 (.tmp 35) rfl g (256 + m * 4) rfl (brr 4 ft) _ hrg Tryd.underlying107 rfl (by rw [brr_len]; exact i4) ?_)
              | (refine calm_alloc rfl 8 rfl 107 rfl _ hz ?_; intro g8 w8 hr8 hg8 hb8 hs8)
              | (refine calm_store rfl 107 (.tmp 8) (.tmp 36) rfl g8 rfl _ (brr 4 (fun _ => 0)) (brr 4 ft) rfl hr8 (by rw [brr_len, brr_len]) (by rw [brr_len]; exact i4) (brr_one _ _) ?_; intro w9 hr9 hc9 hs9 hg9; have t0 := hr9.cell 0; have t1 := hr9.cell 1; have t2 := hr9.cell 2; have t3 := hr9.cell 3; rw [brr_get _ (by omega)] at t0 t1 t2 t3; have qg8 := neq_new hg8 hC; have hC9 := (hC.calm hb8.out).upon hg9.out qg8)
              | (go_at_call 71; rw [HE4.out]; refine (boxed_any g _ (fun j => ft ((j + 1) % 4)) _ hC9).mono ?_; rintro e wb ⟨rfl, hcb⟩)
              | (refine calm_store rfl 107 (.tmp 8) (.tmp 51) rfl g8 rfl _ (brr 4 ft) (brr 4 fun j => sbox (ft ((j + 1) % 4))) rfl (hr9.calm hcb) (by rw [brr_len, brr_len]) (by rw [brr_len]; exact i4) (brr_one _ _) ?_; intro wc hrc hcc hsc hgc; have tc := hrc.cell 0; rw [brr_get _ (by omega)] at tc; have fc := hrc.free 0; have hCc := (hC9.calm hcb).upon hgc.out qg8)
              | (go_at_call 69; refine (double_any _ _).mono ?_; rintro e w' ⟨rfl, rfl⟩))
            have q8 : w.heap.size ≤ g8 := by rw [hg8.out]; exact hu.size
            have hu9 := (hu.after hb8.out).stored hg9.out q8
            have huc := (hu9.after hcb).stored hgc.out q8
            have hTz := hrc.put 0 (B (sbox (ft 1) ^^^ fac))
            rw [brr_set] at hTz
            have hkt : brr 4 (upd (fun j => sbox (ft ((j + 1) % 4))) 0 (sbox (ft 1) ^^^ fac)) = brr 4 (kt key i) := brr_congr fun j hj => by
              rw [HFT.out]
              unfold upd kt
              rw [if_pos h0]
              have hmi : 4 * m = 4 * i - 4 := by have := HM.out; omega
              by_cases hj0 : j = 0
              · subst hj0
                rw [if_pos rfl, if_pos rfl]
                show sbox (pre key (4 * i) (4 * m + 1)) ^^^ fac = _
                rw [pre_lt _ (by omega), hmi, ← HFAC.out]
                show _ = sbox (kx key (4 * i - 4 + 1)) ^^^ dpow 1 (i / 8 - 1)
                rw [show (i + 7) / 8 = i / 8 by omega]
              · rw [if_neg hj0, if_neg hj0]
                show sbox (pre key (4 * i) (4 * m + (j + 1) % 4)) = _
                rw [pre_lt _ (by omega), hmi]
                simp
            rw [hkt] at hTz
            have hCz := hCc.far (p := ⟨g8, 0, none⟩) qg8 (B (sbox (ft 1) ^^^ fac))
            have hUz := huc.far (p := ⟨g8, 0, none⟩) q8 (B (sbox (ft 1) ^^^ fac))
            clear hkt hCc huc hrc hcc hsc hgc tc fc hcb
            clear hrg hC hu hr8 hb8 hs8 hg9 hs9 hc9 hr9 hC9 hu9 t0 t1 t2 t3
            obtain ⟨n8, hn8⟩ : ∃ n8 : Nat, n8 = i - 8 := ⟨_, rfl⟩
            have hn81 : (i : Int) - 8 = n8 := by omega
            have hn86 : n8 < 60 := by omega
            have HN8 := Lib.hid hn8
            clear hn8
            go_loopw [64] (fun x wr => ∃ j : Nat, j ≤ 4 ∧ x = .int .i64 j ∧ CipherAt wr g (pre key (4 * i + j)) ∧ Row wr g8 107 (brr 4 (kt key i)) ∧ Upon g w wr) (fun x _ => 4 - (intOf x).toNat)
            case atStart => exact ⟨0, by omega, rfl, hCz, hTz, hUz⟩
            case round =>
              clear hCz hTz hUz
              obtain ⟨j, hj, rfl, hCz, hTz, hUz⟩ := hrel
              by_cases hj4 : j < 4
              · have e1 : n8 * 4 + j = 4 * i - 32 + j := by have := HN8.out; omega
                have cA : wr.cell? ⟨g, 256 + n8 * 4 + j, none⟩ = some (B (kx key (4 * i - 32 + j))) := by rw [show 256 + n8 * 4 + j = 256 + (4 * i - 32 + j) by omega, hCz.cell, cph_key _ (by omega), pre_lt _ (by omega)]
                have cB : wr.cell? ⟨g8, j, none⟩ = some (B (kt key i j)) := by rw [hTz.cell, brr_get _ (by omega)]
                have cC : wr.cell? ⟨g, 256 + i * 4 + j, none⟩ = some (B (pre key (4 * i + j) (4 * i + j))) := by rw [show 256 + i * 4 + j = 256 + (4 * i + j) by omega, hCz.cell, cph_key _ (by omega)]
                have fC := hCz.free (256 + i * 4 + j)
                clear e1
                have HX := Lib.hid (kx_kt key h8 hj4)
                go_wp2
                go_region
                go_wp2
                go_roundw
                case rel => exact ⟨j + 1, by omega, by go_num, pre_put (n := 4 * i + j) (by first | exact hCz.drewN _ | exact hCz.drew | exact hCz) (by omega) HX.out.symm, Row.far (by first | exact hTz.drewN _ | exact hTz.drew | exact hTz) (Ne.symm qg8) _, Upon.putAt (by first | exact hUz.drewN _ | exact hUz.drew | exact hUz) _⟩
                case measure => simp [intOf]; omega
              · obtain rfl : j = 4 := by omega
                go_wp2
                go_roundw
                case rel =>
                  repeat apply Exists.intro
                  apply And.intro ?ra ?rb
                  case rb => exact rfl
                  case ra => exact ⟨i + 1, by omega, by omega, by go_num, by rw [← HFAC.out, show (i + 1 + 7) / 8 - 1 = (i + 7) / 8 - 1 + 1 by omega]; rfl, hCz, hUz⟩
                case measure => simp [intOf]; omega
          · by_cases h4 : i % 8 = 4
            · have h4' : (i : Int) % 8 = 4 := by omega
              go_wp2_with (first
                | (refine wpList_load_mid rfl 107 (.tmp 35) rfl g (256 + m * 4) rfl (brr 4 ft) _ hrg Tryd.underlying107 rfl (by rw [brr_len]; exact i4) ?_)
                | (refine calm_alloc rfl 8 rfl 107 rfl _ hz ?_; intro g8 w8 hr8 hg8 hb8 hs8)
                | (refine calm_store rfl 107 (.tmp 8) (.tmp 36) rfl g8 rfl _ (brr 4 (fun _ => 0)) (brr 4 ft) rfl hr8 (by rw [brr_len, brr_len]) (by rw [brr_len]; exact i4) (brr_one _ _) ?_; intro w9 hr9 hc9 hs9 hg9; have t0 := hr9.cell 0; have t1 := hr9.cell 1; have t2 := hr9.cell 2; have t3 := hr9.cell 3; rw [brr_get _ (by omega)] at t0 t1 t2 t3; have qg8 := neq_new hg8 hC; have hC9 := (hC.calm hb8.out).upon hg9.out qg8)
                | (refine step_load rfl 62 rfl 107 (.tmp 8) rfl g8 rfl (brr 4 ft) _ hr9.all Tryd.underlying107 rfl (by rw [brr_len]; exact i4) ?_)
                | (go_at_call 71; refine (boxed_any g _ ft _ hC9).mono ?_; rintro e wb ⟨rfl, hcb⟩)
                | (refine calm_store rfl 107 (.tmp 8) (.tmp 63) rfl g8 rfl _ (brr 4 ft) (brr 4 fun j => sbox (ft j)) rfl (hr9.calm hcb) (by rw [brr_len, brr_len]) (by rw [brr_len]; exact i4) (brr_one _ _) ?_; intro wc hrc hcc hsc hgc; have hCc := (hC9.calm hcb).upon hgc.out qg8))
              have q8 : w.heap.size ≤ g8 := by rw [hg8.out]; exact hu.size
              have hu9 := (hu.after hb8.out).stored hg9.out q8
              have hUz := (hu9.after hcb).stored hgc.out q8
              have hkt : brr 4 (fun j => sbox (ft j)) = brr 4 (kt key i) := brr_congr fun j hj => by
                rw [HFT.out]
                unfold kt
                rw [if_neg (by omega), if_pos h4]
                have hmi : 4 * m = 4 * i - 4 := by have := HM.out; omega
                show sbox (pre key (4 * i) (4 * m + j)) = _
                rw [pre_lt _ (by omega), hmi]
              have hTz := hrc
              rw [hkt] at hTz
              have hCz := hCc
              clear hkt hCc hrc hcc hsc hgc hcb
              clear hrg hC hu hr8 hb8 hs8 hg9 hs9 hc9 hr9 hC9 hu9 t0 t1 t2 t3
              obtain ⟨n8, hn8⟩ : ∃ n8 : Nat, n8 = i - 8 := ⟨_, rfl⟩
              have hn81 : (i : Int) - 8 = n8 := by omega
              have hn86 : n8 < 60 := by omega
              have HN8 := Lib.hid hn8
              clear hn8
              go_loopw [64] (fun x wr => ∃ j : Nat, j ≤ 4 ∧ x = .int .i64 j ∧ CipherAt wr g (pre key (4 * i + j)) ∧ Row wr g8 107 (brr 4 (kt key i)) ∧ Upon g w wr) (fun x _ => 4 - (intOf x).toNat)
              case atStart => exact ⟨0, by omega, rfl, hCz, hTz, hUz⟩
              case round =>
                clear hCz hTz hUz
                obtain ⟨j, hj, rfl, hCz, hTz, hUz⟩ := hrel
                by_cases hj4 : j < 4
                · have e1 : n8 * 4 + j = 4 * i - 32 + j := by have := HN8.out; omega
                  have cA : wr.cell? ⟨g, 256 + n8 * 4 + j, none⟩ = some (B (kx key (4 * i - 32 + j))) := by rw [show 256 + n8 * 4 + j = 256 + (4 * i - 32 + j) by omega, hCz.cell, cph_key _ (by omega), pre_lt _ (by omega)]
                  have cB : wr.cell? ⟨g8, j, none⟩ = some (B (kt key i j)) := by rw [hTz.cell, brr_get _ (by omega)]
                  have cC : wr.cell? ⟨g, 256 + i * 4 + j, none⟩ = some (B (pre key (4 * i + j) (4 * i + j))) := by rw [show 256 + i * 4 + j = 256 + (4 * i + j) by omega, hCz.cell, cph_key _ (by omega)]
                  have fC := hCz.free (256 + i * 4 + j)
                  clear e1
                  have HX := Lib.hid (kx_kt key h8 hj4)
                  go_wp2
                  go_region
                  go_wp2
                  go_roundw
                  case rel => exact ⟨j + 1, by omega, by go_num, pre_put (n := 4 * i + j) (by first | exact hCz.drewN _ | exact hCz.drew | exact hCz) (by omega) HX.out.symm, Row.far (by first | exact hTz.drewN _ | exact hTz.drew | exact hTz) (Ne.symm qg8) _, Upon.putAt (by first | exact hUz.drewN _ | exact hUz.drew | exact hUz) _⟩
                  case measure => simp [intOf]; omega
                · obtain rfl : j = 4 := by omega
                  go_wp2
                  go_roundw
                  case rel =>
                    repeat apply Exists.intro
                    apply And.intro ?ra ?rb
                    case rb => exact rfl
                    case ra => exact ⟨i + 1, by omega, by omega, by go_num, by rw [← HFAC.out, show (i + 1 + 7) / 8 - 1 = (i + 7) / 8 - 1 by omega], hCz, hUz⟩
                  case measure => simp [intOf]; omega
            · have h0' : ¬ (i : Int) % 8 = 0 := by omega
              have h4' : ¬ (i : Int) % 8 = 4 := by omega
              go_wp2_with (first
                | (refine wpList_load_mid rfl 107 (.tmp 35) rfl g (256 + m * 4) rfl (brr 4 ft) _ hrg Tryd.underlying107 rfl (by rw [brr_len]; exact i4) ?_)
                | (refine calm_alloc rfl 8 rfl 107 rfl _ hz ?_; intro g8 w8 hr8 hg8 hb8 hs8)
                | (refine calm_store rfl 107 (.tmp 8) (.tmp 36) rfl g8 rfl _ (brr 4 (fun _ => 0)) (brr 4 ft) rfl hr8 (by rw [brr_len, brr_len]) (by rw [brr_len]; exact i4) (brr_one _ _) ?_; intro w9 hr9 hc9 hs9 hg9; have t0 := hr9.cell 0; have t1 := hr9.cell 1; have t2 := hr9.cell 2; have t3 := hr9.cell 3; rw [brr_get _ (by omega)] at t0 t1 t2 t3; have qg8 := neq_new hg8 hC; have hC9 := (hC.calm hb8.out).upon hg9.out qg8))
              have q8 : w.heap.size ≤ g8 := by rw [hg8.out]; exact hu.size
              have hu9 := (hu.after hb8.out).stored hg9.out q8
              have hUz := hu9
              have hkt : brr 4 ft = brr 4 (kt key i) := brr_congr fun j hj => by
                rw [HFT.out]
                unfold kt
                rw [if_neg (by omega), if_neg (by omega)]
                have hmi : 4 * m = 4 * i - 4 := by have := HM.out; omega
                show pre key (4 * i) (4 * m + j) = _
                rw [pre_lt _ (by omega), hmi]
              have hTz := hr9
              rw [hkt] at hTz
              have hCz := hC9
              clear hkt
              clear hrg hC hu hr8 hb8 hs8 hg9 hs9 hc9 hr9 hC9 hu9 t0 t1 t2 t3
              obtain ⟨n8, hn8⟩ : ∃ n8 : Nat, n8 = i - 8 := ⟨_, rfl⟩
              have hn81 : (i : Int) - 8 = n8 := by omega
              have hn86 : n8 < 60 := by omega
              have HN8 := Lib.hid hn8
              clear hn8
              go_loopw [64] (fun x wr => ∃ j : Nat, j ≤ 4 ∧ x = .int .i64 j ∧ CipherAt wr g (pre key (4 * i + j)) ∧ Row wr g8 107 (brr 4 (kt key i)) ∧ Upon g w wr) (fun x _ => 4 - (intOf x).toNat)
              case atStart => exact ⟨0, by omega, rfl, hCz, hTz, hUz⟩
              case round =>
                clear hCz hTz hUz
                obtain ⟨j, hj, rfl, hCz, hTz, hUz⟩ := hrel
                by_cases hj4 : j < 4
                · have e1 : n8 * 4 + j = 4 * i - 32 + j := by have := HN8.out; omega
                  have cA : wr.cell? ⟨g, 256 + n8 * 4 + j, none⟩ = some (B (kx key (4 * i - 32 + j))) := by rw [show 256 + n8 * 4 + j = 256 + (4 * i - 32 + j) by omega, hCz.cell, cph_key _ (by omega), pre_lt _ (by omega)]
                  have cB : wr.cell? ⟨g8, j, none⟩ = some (B (kt key i j)) := by rw [hTz.cell, brr_get _ (by omega)]
                  have cC : wr.cell? ⟨g, 256 + i * 4 + j, none⟩ = some (B (pre key (4 * i + j) (4 * i + j))) := by rw [show 256 + i * 4 + j = 256 + (4 * i + j) by omega, hCz.cell, cph_key _ (by omega)]
                  have fC := hCz.free (256 + i * 4 + j)
                  clear e1
                  have HX := Lib.hid (kx_kt key h8 hj4)
                  go_wp2
                  go_region
                  go_wp2
                  go_roundw
                  case rel => exact ⟨j + 1, by omega, by go_num, pre_put (n := 4 * i + j) (by first | exact hCz.drewN _ | exact hCz.drew | exact hCz) (by omega) HX.out.symm, Row.far (by first | exact hTz.drewN _ | exact hTz.drew | exact hTz) (Ne.symm qg8) _, Upon.putAt (by first | exact hUz.drewN _ | exact hUz.drew | exact hUz) _⟩
                  case measure => simp [intOf]; omega
                · obtain rfl : j = 4 := by omega
                  go_wp2
                  go_roundw
                  case rel =>
                    repeat apply Exists.intro
                    apply And.intro ?ra ?rb
                    case rb => exact rfl
                    case ra => exact ⟨i + 1, by omega, by omega, by go_num, by rw [← HFAC.out, show (i + 1 + 7) / 8 - 1 = (i + 7) / 8 - 1 by omega], hCz, hUz⟩
                  case measure => simp [intOf]; omega
        · obtain rfl : i = 60 := by omega
          have hfin : CipherAt wa g (kx key) := by
            unfold CipherAt at hC ⊢
            rwa [show cph (pre key (4 * 60)) = cph (kx key) from by unfold cph; rw [brr_congr fun j hj => pre_lt key hj]] at hC
          clear hC
          go_wp2
          go_end0
          exact ⟨rfl, hfin, hu⟩
end Go.Proofs.YtibnmhaipogleaaDoor
