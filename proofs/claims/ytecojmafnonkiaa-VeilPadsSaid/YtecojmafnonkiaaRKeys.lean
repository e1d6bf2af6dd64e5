/- The reference's rounds' keys: what the call leaves, for every key of 32 bytes. Conditions: those named. -/
import Derived.Test.YtecojmafnonkiaaApp
import Derived.Test.YtecojmafnonkiaaBlend
import Derived.Test.YtecojmafnonkiaaRBoxes
import Derived.Test.YtecojmafnonkiaaAesK
import Derived.Test.YtecojmafnonkiaaBoxes
import Derived.BigRegion
import Derived.BigQuiet
import Derived.Deep.Onto
import Derived.Deep.DeepCutAuto
set_option linter.unusedVariables false
namespace Go.Proofs.Ytecojmafnonkiaa
open Go.RowKit

theorem cut_mid (W : World) (g N cap a : Nat) (h1 : a + 4 = N) (h2 : N ≤ cap) : (Instr.slice 22 (.slice (some ⟨g, 0, none⟩) N cap) (some (.int .i64 a)) (some (.int .i64 N)) none).run Try.prog W = .ok (.slice (some ⟨g, a, none⟩) 4 (cap - a)) W := by
  have hs : (sizeOf (Try.prog.elem 22)).run Try.prog W = .ok 1 W := by kernel_rfl
  have hne : ¬ (cap = a) := by omega
  rw [run_slice_lh (P := Try.prog) W 22 (some ⟨g, 0, none⟩) N cap (by kernel_rfl) .i64 .i64 (a : Int) (N : Int) (by omega) (by omega) (by omega), hs]
  simp [Result.andThen, sliced, hne, Addr.add_mid]
  omega
def four (f : Nat → UInt8) : List UInt8 := [f 0, f 1, f 2, f 3]
theorem bc_four (f : Nat → UInt8) : bc (four f) = brr 4 f := by simp [bc, four, brr, bv, List.range_succ]
theorem hol_four {w : World} {g o : Nat} {f : Nat → UInt8} (h : ∀ j, j < 4 → w.cell? ⟨g, o + j, none⟩ = some (B (f j))) : Hol w (some ⟨g, o, none⟩) (four f) := by
  refine .inr ⟨g, o, rfl, fun j x hx => ?_⟩
  have hj : j < 4 := by
    rcases Nat.lt_or_ge j 4 with h | h
    · exact h
    · rw [List.getElem?_eq_none (by simpa [four] using h)] at hx
      cases hx
  have hj4 : j = 0 ∨ j = 1 ∨ j = 2 ∨ j = 3 := by omega
  have hh := h j hj
  rcases hj4 with rfl | rfl | rfl | rfl
  all_goals
    injection hx with hx
    subst hx
    exact hh
theorem cut_four (W : World) (g N cap a : Nat) (h1 : a + 4 ≤ N) (h2 : N ≤ cap) : (Instr.slice 22 (.slice (some ⟨g, 0, none⟩) N cap) (some (.int .i64 a)) (some (.int .i64 ((a : Int) + 4))) none).run Try.prog W = .ok (.slice (some ⟨g, a, none⟩) 4 (cap - a)) W := by
  have hs : (sizeOf (Try.prog.elem 22)).run Try.prog W = .ok 1 W := by kernel_rfl
  have hne : ¬ (cap = a) := by omega
  rw [run_slice_lh (P := Try.prog) W 22 (some ⟨g, 0, none⟩) N cap (by kernel_rfl) .i64 .i64 (a : Int) ((a : Int) + 4) (by omega) (by omega) (by omega), hs]
  simp [Result.andThen, sliced, hne, Addr.add_mid]
  omega

theorem made_four (w : World) (e : TypeId) (c0 c1 c2 c3 : UInt8) : ∀ q, q < 4 → (w.alloc (.cells #[B c0, B c1, B c2, B c3] e)).drew.cell? ⟨w.heap.size, q, none⟩ = some (B (if q = 0 then c0 else if q = 1 then c1 else if q = 2 then c2 else c3)) := fun q hq => by
  have hq4 : q = 0 ∨ q = 1 ∨ q = 2 ∨ q = 3 := by omega
  rcases hq4 with rfl | rfl | rfl | rfl <;> (show (w.alloc _).cell? _ = _; simp)
/-- Four bytes appended to a new empty row: where they lie, and what stays. -/
theorem four_made {w wa w8 : World} {e : TypeId} {g N cap : Nat} {ft : Nat → UInt8} {v8 : Value} {K : List Value} (hown : wa.ownsRow w.heap.size e 1 (.slice (some ⟨g, 0, none⟩) N cap) N K) (hbel : Below w.heap.size w wa)
    (h0 : ∀ W : World, (W.alloc (.cells #[] e)).ownsRow W.heap.size e 1 (.slice (some ⟨W.heap.size, 0, none⟩) 0 0) 0 [])
    (hown8 : w8.ownsRow wa.heap.size e 1 v8 (0 + 4) ([] ++ bc (four ft))) (hg8 : (wa.alloc (.cells #[] e)).grownBy w8 (Value.slice (some ⟨wa.heap.size, 0, none⟩) 0 0).ownBlock)
    (hat8 : v8.ownBlock = (Value.slice (some ⟨wa.heap.size, 0, none⟩) 0 0).ownBlock ∨ v8.ownBlock = some (wa.alloc (.cells #[] e)).heap.size) :
    ∃ g8 c8, v8 = .slice (some ⟨g8, 0, none⟩) 4 c8 ∧ 4 ≤ c8 ∧ g < g8 ∧ w8.ownsRow w.heap.size e 1 (.slice (some ⟨g8, 0, none⟩) 4 c8) 4 (brr 4 ft) ∧ w8.ownsRow w.heap.size e 1 (.slice (some ⟨g, 0, none⟩) N cap) N K ∧ Below w.heap.size w w8 := by
  have hgl := hown.lt g rfl
  have hb0 : Below w.heap.size w (wa.alloc (.cells #[] e)) := hbel.alloc hbel.size _
  have hb8 : Below w.heap.size w w8 := hb0.grown hg8 hb0.size (fun k hk => by simp [Value.ownBlock] at hk; have := hbel.size; omega)
  obtain ⟨g8, c8, rfl, _, _⟩ := hown8.form (by omega)
  have hcc : 4 ≤ c8 := by
    rcases hown8.2 with ⟨h', _⟩ | ⟨g', cap', cur, h', _, _, hnc, _⟩
    · simp at h'
    · simp only [Value.slice.injEq] at h'
      omega
  have hgg : g < g8 := by have := (hown8.lt g8 rfl).1; omega
  refine ⟨g8, c8, rfl, hcc, hgg, ?_, (hown.alloc _).kept hg8 (.inr ?_), hb8⟩
  · have := hown8.mono hbel.size
    rw [List.nil_append, bc_four, Nat.zero_add] at this
    exact this
  · simp [Value.ownBlock]
    omega

set_option maxRecDepth 20000 in
set_option maxHeartbeats 4000000 in
theorem rkeys_any (A : Option Addr) (c : Nat) (l : List UInt8) (hl : l.length = 32) (gb ob nb cb : Nat) (hnb : nb = 256) (w : World) (hA : Hol w A l) (hB : BoxAt w gb ob) :
    Calls Try.prog 24 #[.slice A l.length c, .slice (some ⟨gb, ob, none⟩) nb cb] w fun e w' => ∃ v, e = .returned v ∧ w'.ownsRow w.heap.size 5 1 v 240 (brr 240 (kx fun j => l.getD j 0)) ∧ Below w.heap.size w w' := by
  obtain ⟨i, U⟩ := u8_tab
  obtain ⟨key, hkey⟩ : ∃ key : Nat → UInt8, key = fun j => l.getD j 0 := ⟨_, rfl⟩
  rw [← hkey]
  have hbc : bc l = brr 32 (kx key) := by
    rw [hkey, brr_congr (fun j hj => kx_lo _ hj)]
    apply List.ext_getElem?
    intro j
    by_cases h : j < l.length
    · rw [brr_get _ (by omega), get_bc (List.getElem?_eq_getElem h), List.getD_eq_getElem?_getD, List.getElem?_eq_getElem h]
      rfl
    · rw [brr_none _ (by omega), List.getElem?_eq_none (by rw [bc_len]; omega)]
  have HBC := Lib.hid hbc
  have HL := Lib.hid hl
  have HA := Lib.hid hA
  have HBX := Lib.hid hB
  clear hkey hbc hl hA hB
  have hown0 : ∀ W : World, (W.alloc (.cells #[] 5)).ownsRow W.heap.size 5 1 (.slice (some ⟨W.heap.size, 0, none⟩) 0 0) 0 [] := fun W => World.ownsRow_made W #[] 0 (Nat.le_refl _) (by decide) rfl
  have HO := Lib.hid hown0
  clear hown0
  go_enter Try.func24, Try.ntmps24
  go_wp2_with (at_builtin; refine wpList_app _ rfl (.tmp 10) (.tmp 11) 22 rfl 5 i U w.heap.size (.slice (some ⟨w.heap.size, 0, none⟩) 0 0) 0 [] rfl (HO.out w) A l.length c l rfl rfl (HA.out.below ((Below.refl _ _).alloc (Nat.le_refl _) _)) (by have := HL.out; omega) (by simp) ?_; intro v1 w1 hown1 hg1 hat1)
  have hb0 : Below w.heap.size w (w.alloc (.cells #[] 5)) := (Below.refl _ _).alloc (Nat.le_refl _) _
  have hb1 : Below w.heap.size w w1 := hb0.grown hg1 hb0.size (fun k hk => by simp [Value.ownBlock] at hk; omega)
  have hown2 : w1.ownsRow w.heap.size 5 1 v1 32 (brr 32 (kx key)) := by
    rw [← HBC.out]
    have := hown1
    rw [HL.out] at this
    simpa using this
  have HB1 := Lib.hid hb1
  clear hown1 hg1 hat1 hb0 hb1
  go_loopw [7, 5, 6] (fun x v f wr => ∃ i : Nat, 8 ≤ i ∧ i ≤ 60 ∧ x = .int .i64 i ∧ f = B (dpow 1 ((i + 7) / 8 - 1)) ∧ wr.ownsRow w.heap.size 5 1 v (4 * i) (brr (4 * i) (kx key)) ∧ Below w.heap.size w wr) (fun x _ _ _ => 60 - (intOf x).toNat)
  case atStart => exact ⟨8, by omega, by omega, rfl, rfl, hown2, HB1.out⟩
  case round =>
    clear hown2 HB1
    obtain ⟨wa, rfl⟩ : ∃ wa : World, wa = wr := ⟨_, rfl⟩
    obtain ⟨k, h8, h60, rfl, rfl, hown, hbel⟩ := hrel
    by_cases hlt : k < 60
    · obtain ⟨N, hN⟩ : ∃ N : Nat, N = 4 * k := ⟨_, rfl⟩
      rw [← hN] at hown
      obtain ⟨a, ha⟩ : ∃ a : Nat, a = N - 4 := ⟨_, rfl⟩
      have hNi : (4 : Int) * k = N := by omega
      have hai : (N : Int) - 4 = a := by omega
      have haN : a + 4 = N := by omega
      obtain ⟨g, cap, rfl, _, _⟩ := hown.form (by omega)
      have hcap : N ≤ cap := by
        rcases hown.2 with ⟨h', _⟩ | ⟨g', cap', cur, h', _, _, hnc, _⟩
        · simp at h'
        · simp only [Value.slice.injEq] at h'
          omega
      obtain ⟨ft, hft⟩ : ∃ ft : Nat → UInt8, ft = fun j => kx key (a + j) := ⟨_, rfl⟩
      have hcells : ∀ j, j < N → wa.cell? ⟨g, j, none⟩ = some (B (kx key j)) := fun j hj => (own_range hown hj).2
      have hH4 : Hol wa (some ⟨g, a, none⟩) (four ft) := hol_four (fun j hj => by rw [hft]; exact hcells (a + j) (by omega))
      have hcut := fun W => cut_mid W g N cap a haN hcap
      generalize hfac : dpow 1 ((k + 7) / 8 - 1) = fac
      have HFAC := Lib.hid hfac
      have HFT := Lib.hid hft
      have HN := Lib.hid hN
      have Ha := Lib.hid ha
      have HC := Lib.hid hcells
      have HH4 := Lib.hid hH4
      have HOWN := Lib.hid hown
      have HBEL := Lib.hid hbel
      clear hfac hft hN ha hcells hH4 hown hbel haN
      go_upto_if 28 with (at_builtin; refine wpList_app _ rfl (.tmp 17) (.tmp 24) 22 rfl 5 i U wa.heap.size (.slice (some ⟨wa.heap.size, 0, none⟩) 0 0) 0 [] rfl (HO.out wa) (some ⟨g, a, none⟩) 4 (cap - a) (four ft) rfl rfl (HH4.out.below ((Below.refl _ _).alloc (Nat.le_refl _) _)) (by omega) (by simp) ?_; intro v8 w8 hown8 hg8 hat8)
      obtain ⟨g8, c8, rfl, hc8, hg8a, hownt, hownv, hbel8⟩ := four_made HOWN.out HBEL.out HO.out hown8 hg8 hat8
      have HB8 := Lib.hid hbel8
      have HT8 := Lib.hid hownt
      have HV8 := Lib.hid hownv
      have HX8 := Lib.hid (HBX.out.below hbel8 HBX.out.1)
      obtain ⟨fac2, hfac2⟩ : ∃ fac2, fac2 = if k % 8 = 0 then dbl fac else fac := ⟨_, rfl⟩
      obtain ⟨f2, hf2⟩ : ∃ f2 : Nat → UInt8, f2 = fun q => if k % 8 = 0 then kt key k q else ft q := ⟨_, rfl⟩
      have hka : a = 4 * k - 4 := by have := HN.out; have := Ha.out; omega
      have HFAC2 : Hid (fac2 = dpow 1 ((k + 1 + 7) / 8 - 1)) := by
        show _ = _
        rw [hfac2, ← HFAC.out]
        split
        · rw [show (k + 1 + 7) / 8 - 1 = (k + 7) / 8 - 1 + 1 by omega]; rfl
        · rw [show (k + 1 + 7) / 8 - 1 = (k + 7) / 8 - 1 by omega]
      have HF2 := Lib.hid hf2
      have HC2 := Lib.hid hfac2
      have HKA := Lib.hid hka
      clear hown8 hg8 hat8 hownt hownv hbel8 hf2 hfac2 hka
      go_cut [6, 8] (fun f t wx => ∃ gt ct, f = B fac2 ∧ t = .slice (some ⟨gt, 0, none⟩) 4 ct ∧ 4 ≤ ct ∧ g ≠ gt ∧ gt < wx.heap.size ∧ (∀ q, q < 4 → wx.cell? ⟨gt, q, none⟩ = some (B (f2 q))) ∧ wx.ownsRow w.heap.size 5 1 (.slice (some ⟨g, 0, none⟩) N cap) N (brr N (kx key)) ∧ Below w.heap.size w wx)
      case first =>
        by_cases h0 : k % 8 = 0
        · have hz0 : ((k : Int) % 8 == 0) = true := by rw [show (k : Int) % 8 = 0 by omega]; rfl
          have t0 : w8.cell? ⟨g8, 0, none⟩ = some (B (ft 0)) := (own_range HT8.out (by omega)).2
          have t1 : w8.cell? ⟨g8, 1, none⟩ = some (B (ft 1)) := (own_range HT8.out (by omega)).2
          have t2 : w8.cell? ⟨g8, 2, none⟩ = some (B (ft 2)) := (own_range HT8.out (by omega)).2
          have t3 : w8.cell? ⟨g8, 3, none⟩ = some (B (ft 3)) := (own_range HT8.out (by omega)).2
          have b0 := HX8.out.2 (ft 0)
          have b1 := HX8.out.2 (ft 1)
          have b2 := HX8.out.2 (ft 2)
          have b3 := HX8.out.2 (ft 3)
          go_wp2
          go_region
          clear t0 t1 t2 t3 b0 b1 b2 b3
          go_wp2_with (go_at_call 34; refine (times_any fac 2 _).mono ?_; rintro e w' ⟨rfl, rfl⟩)
          go_meet
          refine ⟨w8.heap.size, 4, ?_, rfl, by omega, ?_, ?_, ?_, (HV8.out.alloc _).drew, (HB8.out.alloc HB8.out.size _).drew⟩
          · rw [HC2.out, if_pos h0, times_two]
          · have := (HV8.out.lt g rfl).2
            omega
          · show w8.heap.size < (w8.alloc _).heap.size
            simp
          · intro q hq
            refine (made_four w8 _ _ _ _ _ q hq).trans ?_
            have hq4 : q = 0 ∨ q = 1 ∨ q = 2 ∨ q = 3 := by omega
            rw [HF2.out]
            simp only [if_pos h0]
            unfold kt
            rw [if_pos h0, ← HFAC.out, show (k + 7) / 8 = k / 8 by omega, HFT.out, HKA.out]
            rcases hq4 with rfl | rfl | rfl | rfl <;> simp
        · have hz0 : ((k : Int) % 8 == 0) = false := beq_false_of_ne (by omega)
          go_wp2
          go_meet
          refine ⟨g8, c8, by rw [HC2.out, if_neg h0], rfl, hc8, by omega, (HT8.out.lt g8 rfl).2, ?_, HV8.out, HB8.out⟩
          intro q hq
          rw [(own_range HT8.out hq).2, HF2.out]
          simp only [if_neg h0]
      case rest =>
        obtain ⟨gt8, ct8, rfl, rfl, hct, hgtn, hgtl, hTz, hVz, hBz⟩ := hcut
        have HT9 := Lib.hid hTz
        have HV9 := Lib.hid hVz
        have HB9 := Lib.hid hBz
        have HL9 := Lib.hid hgtl
        have HX9 := Lib.hid (HBX.out.below hBz HBX.out.1)
        clear hTz hVz hBz hgtl HT8 HV8 HB8 HX8
        go_upto_if 60 with fail
        go_cut [8] (fun t wx => ∃ gt ct, t = .slice (some ⟨gt, 0, none⟩) 4 ct ∧ 4 ≤ ct ∧ g ≠ gt ∧ gt < wx.heap.size ∧ (∀ q, q < 4 → wx.cell? ⟨gt, q, none⟩ = some (B (kt key k q))) ∧ wx.ownsRow w.heap.size 5 1 (.slice (some ⟨g, 0, none⟩) N cap) N (brr N (kx key)) ∧ Below w.heap.size w wx)
        case first =>
          obtain ⟨wy, rfl⟩ : ∃ wy : World, wy = wc := ⟨_, rfl⟩
          by_cases h4 : k % 8 = 4
          · have hz4 : ((k : Int) % 8 == 4) = true := by rw [show (k : Int) % 8 = 4 by omega]; rfl
            have t0 := HT9.out 0 (by omega)
            have t1 := HT9.out 1 (by omega)
            have t2 := HT9.out 2 (by omega)
            have t3 := HT9.out 3 (by omega)
            have b0 := HX9.out.2 (f2 0)
            have b1 := HX9.out.2 (f2 1)
            have b2 := HX9.out.2 (f2 2)
            have b3 := HX9.out.2 (f2 3)
            go_wp2
            go_region
            clear t0 t1 t2 t3 b0 b1 b2 b3
            go_wp2
            go_meet
            refine ⟨wy.heap.size, 4, rfl, by omega, ?_, ?_, ?_, (HV9.out.alloc _).drew, (HB9.out.alloc HB9.out.size _).drew⟩
            · have := (HV9.out.lt g rfl).2
              omega
            · show wy.heap.size < (wy.alloc _).heap.size
              simp
            · intro q hq
              refine (made_four wy _ _ _ _ _ q hq).trans ?_
              have hq4 : q = 0 ∨ q = 1 ∨ q = 2 ∨ q = 3 := by omega
              rw [HF2.out]
              simp only [if_neg (show ¬ k % 8 = 0 by omega)]
              unfold kt
              rw [if_neg (show ¬ k % 8 = 0 by omega), if_pos h4, HFT.out, HKA.out]
              rcases hq4 with rfl | rfl | rfl | rfl <;> simp
          · have hz4 : ((k : Int) % 8 == 4) = false := beq_false_of_ne (by omega)
            go_wp2
            go_meet
            refine ⟨gt8, ct8, rfl, hct, hgtn, HL9.out, ?_, HV9.out, HB9.out⟩
            intro q hq
            rw [HT9.out q hq, HF2.out]
            by_cases h0 : k % 8 = 0
            · simp only [if_pos h0]
            · simp only [if_neg h0]
              unfold kt
              rw [if_neg h0, if_neg h4, HFT.out, HKA.out]
        case rest =>
          clear hct hgtn HT9 HV9 HB9 HL9 HX9
          obtain ⟨gt, ct, rfl, hct, hgtn, hgtl, hTz, hVz, hBz⟩ := hcut
          have HTz := Lib.hid hTz
          have HVz := Lib.hid hVz
          have HBz := Lib.hid hBz
          have HLz := Lib.hid hgtl
          clear hTz hVz hBz hgtl
          go_wp2
          have hTz := HTz.out
          have hVz := HVz.out
          have hBz := HBz.out
          have hgtl := HLz.out
          clear HTz HVz HBz HLz
          go_loopw [9, 5] (fun x v wr => ∃ j : Nat, j ≤ 4 ∧ x = .int .i64 j ∧ wr.ownsRow w.heap.size 5 1 v (N + j) (brr (N + j) (kx key)) ∧ v.ownBlock ≠ some gt ∧ gt < wr.heap.size ∧ (∀ q, q < 4 → wr.cell? ⟨gt, q, none⟩ = some (B (kt key k q))) ∧ Below w.heap.size w wr) (fun x _ _ => 4 - (intOf x).toNat)
          case atStart => exact ⟨0, by omega, rfl, hVz, by simp [Value.ownBlock]; exact hgtn, hgtl, hTz, hBz⟩
          case round =>
            clear hVz hTz hBz hgtl
            obtain ⟨j, hj, rfl, hown, hne, hgl, hT, hbel⟩ := hrel
            by_cases hj4 : j < 4
            · obtain ⟨gv, cv, rfl, _, _⟩ := hown.form (by omega)
              have hcv : N + j ≤ cv := by
                rcases hown.2 with ⟨h', _⟩ | ⟨g', cap', cur, h', _, _, hnc, _⟩
                · simp at h'
                · simp only [Value.slice.injEq] at h'
                  omega
              have hN := HN.out
              obtain ⟨b, hb⟩ : ∃ b : Nat, b = N - 32 := ⟨_, rfl⟩
              have hbi : (N : Int) - 32 = b := by omega
              obtain ⟨m, hm⟩ : ∃ m : Nat, m = b + j := ⟨_, rfl⟩
              have hmN : m < N + j := by omega
              have hmi : (m : Int) < (N : Int) + j := by omega
              have hm0 : (0 : Int) ≤ m := by omega
              have hw1 : IntKind.i64.wrap (N : Int) = N := by rw [IntKind.wrap_i64]; omega
              have hw2 : IntKind.i64.wrap ((N : Int) - 32) = b := by rw [IntKind.wrap_i64]; omega
              have hwb : IntKind.i64.wrap (b : Int) = b := by rw [IntKind.wrap_i64]; omega
              have hw3 : IntKind.i64.wrap ((b : Int) + j) = m := by rw [IntKind.wrap_i64]; omega
              have cA : wr.cell? ⟨gv, m, none⟩ = some (B (kx key m)) := (own_range hown hmN).2
              have cB := hT j hj4
              have HX : Hid (kx key (N + j) = kx key m ^^^ kt key k j) := by
                have := kx_kt key h8 hj4
                show _ = _
                rw [hm, hb, hN]
                exact this
              have HOWNJ := Lib.hid hown
              have HBELJ := Lib.hid hbel
              have HNE := Lib.hid hne
              have HTJ := Lib.hid hT
              clear hown hbel hne hT hN hb hm hbi
              go_wp2
              have hown' : wr.drew.ownsRow w.heap.size 5 1 (.slice (some ⟨gv, 0, none⟩) (N + j) cv) (N + j) (brr (N + j) (kx key)) := HOWNJ.out.drew
              have hbel' : Below w.heap.size w wr.drew := HBELJ.out.drew
              have hsz : w.heap.size ≤ wr.heap.size := HBELJ.out.size
              go_region_law (refine step_one rfl (.tmp 90) (.tmp 104) 22 rfl 5 i U w.heap.size (.slice (some ⟨gv, 0, none⟩) (N + j) cv) (N + j) (kx key) (by rfl) (hown'.alloc _) wr.heap.size (by rfl) (by rw [HX.out]; exact made_byte wr.drew _ _) (by omega) (by simp; omega) ?_; intro v2 w2 hown2 hg2 hat2)
              all_goals
                have hb2 : Below w.heap.size w w2 := (hbel'.alloc hbel'.size _).grown hg2 (by simp; omega) (fun k hk => (hown'.lt k hk).1)
                have hne2 : v2.ownBlock ≠ some gt := by
                  rcases hat2 with h | h
                  · rw [h]
                    exact HNE.out
                  · rw [h]
                    intro e
                    injection e with e
                    simp at e
                    omega
                have hgl2 : gt < w2.heap.size := Nat.lt_of_lt_of_le (Nat.lt_of_lt_of_le hgl (by simp)) hg2.size
                have hT2 : ∀ q, q < 4 → w2.cell? ⟨gt, q, none⟩ = some (B (kt key k q)) := fun q hq => hg2.cell (by rw [World.cell?_of_block (w := wr) (Below.heap_alloc wr.drew _ gt hgl)]; exact HTJ.out q hq) (fun e => HNE.out e.symm)
                clear hg2 hat2 hown' hbel'
                go_wp2
                go_roundw
                case rel => exact ⟨j + 1, by omega, by go_num, hown2, hne2, hgl2, hT2, hb2⟩
                case measure => simp [intOf]; omega
            · obtain rfl : j = 4 := by omega
              go_wp2
              go_roundw
              case rel =>
                exact ⟨k + 1, by omega, by omega, by go_num, by rw [HFAC2.out], by rw [show 4 * (k + 1) = N + 4 by have := HN.out; omega]; exact hown, hbel⟩
              case measure => simp [intOf]; omega
    · obtain rfl : k = 60 := by omega
      go_wp2
      go_ret
      exact ⟨_, rfl, hown, hbel⟩
end Go.Proofs.Ytecojmafnonkiaa
