/- The law VeilTwice, walked: for every key and table, nonce and bytes it returns true. Conditions: those on how the arguments lie. -/
import Derived.Test.YtecojmafnonkiaaFew
import Derived.Test.YtecojmafnonkiaaBlk
set_option linter.unusedVariables false
namespace Go.Proofs.Ytecojmafnonkiaa
open Go.RowKit

set_option maxRecDepth 20000 in
set_option maxHeartbeats 4000000 in
theorem twice_any (f : Nat → UInt8) (A Ab : Option Addr) (c cb e s : Nat) (ps : List PadV) (l : List UInt8) (he : e < 4294967296) (hs : s < 4294967296) (w : World) (hP : InP w A ps.length c ps) (hA : Hol w Ab l) :
    Calls Try.prog 5 #[.agg (brr 32 f ++ [Value.slice A ps.length c]).toArray, .agg #[.int .u32 (e : Int), .int .u32 (s : Int)], .slice Ab l.length cb] w fun x w' => x = .returned (.bool true) ∧ Below w.heap.size w w' := by
  obtain ⟨i, U⟩ := u8_tab
  have hz := Lib.hid (p := ∀ w : World, (zeroValue 42).run Try.prog w = .ok (.agg (brr 32 (fun _ => 0)).toArray) w) fun w => by kernel_rfl
  have i32 := Lib.hid (p := (Try.prog.info? 42).map (·.size) = some 32) (by kernel_rfl)
  have HE := Lib.hid he
  have HS := Lib.hid hs
  have HP := Lib.hid hP
  have HA := Lib.hid hA
  clear he hs hP hA
  go_enter Try.func5, Try.ntmps5
  go_wp2_with (first
    | (refine step_box rfl 3 rfl 44 _ rfl (brr 32 f ++ [Value.slice A ps.length c]) rfl ?_; intro g3 w3 hr3 hg3 hb3 hs3)
    | (refine step_box rfl 4 rfl 25 _ rfl [Value.int .u32 (e : Int), .int .u32 (s : Int)] rfl ?_; intro g4 w4 hr4 hg4 hb4 hs4)
    | (go_at_call 8; refine (awake_any _).mono ?_; rintro x w1 ⟨rfl, hb1⟩
       have hr31 := (hr3.kept hb4).kept hb1
       have hr41 := hr4.kept hb1
       have HRG := Lib.hid (p := w1.rangeAt g3 0 (brr 32 f)) (fun j v hv => by
         rw [Nat.zero_add, hr31.cell, List.getElem?_append_left (by have := (List.getElem?_eq_some_iff.1 hv).1; exact this)]
         exact hv)
       have HB1 := Lib.hid (below_next hb1 (below_next hb4 hb3))
       clear hr3 hr4 hg3 hg4 hb3 hb4 hb1 hs3 hs4)
    | (refine wpList_load_mid rfl 42 _ rfl g3 0 rfl (brr 32 f) _ HRG.out Try.underlying42 rfl (by rw [brr_len]; exact i32) ?_)
    | (refine step_alloc rfl 7 rfl 42 rfl _ hz ?_; intro g5 w5 hr5 hg5 hb5 hs5)
    | (refine step_store rfl 42 _ _ rfl g5 rfl _ _ (brr 32 f) rfl hr5 (by rw [brr_len, brr_len]) (by rw [brr_len]; exact i32) (brr_one _ _) ?_; intro w6 hr6 hg6 hs6
       have hb16 : Below w1.heap.size w1 w6 := hb5.grown hg6 hb5.size (fun q hq => by injection hq with hq; rw [← hq, hg5.out]; exact Nat.le_refl _)
       have c32 : w6.cell? ⟨g3, 32, none⟩ = some (.slice A ps.length c) := by
         rw [(hr31.kept hb16).cell, List.getElem?_append_right (by rw [brr_len]; omega), brr_len]
         rfl
       have hr46 := hr41.kept hb16
       have HB6 := Lib.hid (below_next hb16 HB1.out)
       clear hb16 hg6 hb5 hg5 hr5 hs5 hs6 HRG hr31 hr41 HB1))
  refine (few_any A c ps _ (HP.out.below HB6.out)).mono ?_
  rintro x _ ⟨b, rfl, rfl, hF⟩
  cases b with
  | false =>
    clear hF
    go_wp2
    go_ret
    exact ⟨rfl, HB6.out⟩
  | true =>
    have HF := Lib.hid (hF rfl)
    clear hF
    by_cases hbig : (65536 : Int) < (l.length : Int)
    · go_wp2
      go_ret
      exact ⟨rfl, HB6.out⟩
    have HL6 := Lib.hid (p := l.length ≤ 65536) (by omega)
    obtain ⟨kl, hkl⟩ : ∃ kl, lst 32 f = kl := ⟨_, rfl⟩
    have HK6 := Lib.hid (p := Hol _ (some ⟨g5, 0, none⟩) kl) (by rw [← hkl]; exact hr6.hol)
    have HKL := Lib.hid (p := kl.length = 32) (by rw [← hkl]; exact lst_len _ _)
    clear hkl hr6
    go_wp2_with (first
      | (go_at_call 9; refine (vnew_call (some ⟨g5, 0, none⟩) 32 32 kl HKL.out.symm HKL.out _ HK6.out).mono ?_; rintro x w7 ⟨g7, rfl, hM7, hb7⟩)
      | (go_at_call 14
         refine (ideal_any A c ps (Nat.le_trans HF.out.1 (by omega)) _ ((HP.out.below (below_next hb7 HB6.out)).pads (fun j p hp => Nat.le_trans (HF.out.2 j p hp) (by omega))) HP.out.ok).mono ?_
         rintro x w8 ⟨g8, rfl, _, hI8, hb8⟩))
    have hba : Below w8.heap.size w8 (w8.alloc (.cells #[Value.pointer (some ⟨g7, 0, none⟩), Value.pointer (some ⟨g8, 0, none⟩)] 27)) := (Below.refl _ _).alloc (Nat.le_refl _) _
    have k0 : (w8.alloc (.cells #[Value.pointer (some ⟨g7, 0, none⟩), Value.pointer (some ⟨g8, 0, none⟩)] 27)).cell? ⟨w8.heap.size, 0, none⟩ = some (.pointer (some ⟨g7, 0, none⟩)) := by simp
    have k1 : (w8.alloc (.cells #[Value.pointer (some ⟨g7, 0, none⟩), Value.pointer (some ⟨g8, 0, none⟩)] 27)).cell? ⟨w8.heap.size, 1, none⟩ = some (.pointer (some ⟨g8, 0, none⟩)) := by simp
    have HM0 := Lib.hid ((hM7.below hb8).below hba)
    have HM1 := Lib.hid (hI8.mask.below hba)
    have hr40 := ((hr46.kept hb7).kept hb8).kept hba
    have c40 := hr40.cell 0
    have c41 := hr40.cell 1
    simp at c40 c41
    have HB0 := Lib.hid (below_next hba (below_next hb8 (below_next hb7 HB6.out)))
    have HA0 := Lib.hid (HA.out.below HB0.out)
    clear hba hr40 hr46 hb7 hb8 hM7 hI8 HB6 c32 HK6
    generalize (w8.alloc (.cells #[Value.pointer (some ⟨g7, 0, none⟩), Value.pointer (some ⟨g8, 0, none⟩)] 27)) = w0 at k0 k1 HM0 HM1 c40 c41 HB0 HA0 ⊢
    generalize w8.heap.size = ga at k0 k1 ⊢
    go_loopw [12] (fun x wr => ∃ n : Nat, n ≤ 2 ∧ x = .int .i64 (n : Int) ∧ Below w0.heap.size w0 wr) (fun x _ => 2 - (intOf x).toNat)
    case atStart => exact ⟨0, by omega, rfl, Below.refl _ _⟩
    case round =>
      obtain ⟨n, hn, rfl, hB⟩ := hrel
      have hnw : IntKind.i64.wrap ((n : Int) + 1) = (n : Int) + 1 := by rw [IntKind.wrap_i64]; omega
      by_cases hlt : n < 2
      · have hni : (n : Int) < 2 := by omega
        obtain ⟨gv, M, hMv, hcv⟩ : ∃ gv M, MaskAt wr gv M ∧ wr.cell? ⟨ga, n, none⟩ = some (.pointer (some ⟨gv, 0, none⟩)) := by
          match n, hlt with
          | 0, _ => exact ⟨g7, _, HM0.out.below hB, (hB.cell (p := ⟨ga, 0, none⟩) (World.block_lt_of_cell? _ _ k0)).trans k0⟩
          | 1, _ => exact ⟨g8, _, HM1.out.below hB, (hB.cell (p := ⟨ga, 1, none⟩) (World.block_lt_of_cell? _ _ k1)).trans k1⟩
        have HMV := Lib.hid hMv
        have HBR := Lib.hid hB
        have HAR := Lib.hid (HA0.out.below hB)
        have e40 := (hB.cell (p := ⟨g4, 0, none⟩) (World.block_lt_of_cell? _ _ c40)).trans c40
        have e41 := (hB.cell (p := ⟨g4, 1, none⟩) (World.block_lt_of_cell? _ _ c41)).trans c41
        clear hMv hB k0 k1
        by_cases hlong : (4096 : Int) < (l.length : Int)
        · have HLO := Lib.hid (p := 4096 < l.length) (by omega)
          go_wp2_with (first
            | (at_builtin; refine wpList_app _ rfl _ _ _ rfl 5 i U wr.heap.size (.slice (some ⟨wr.heap.size, 0, none⟩) 0 0) 0 [] rfl (empty_own wr _) Ab l.length cb l rfl rfl (HAR.out.below ((Below.refl _ _).alloc (Nat.le_refl _) _)) (by have := HL6.out; omega) (by simp) ?_
               intro v2 w2 hown2 hg2 hat2
               rw [List.nil_append] at hown2
               obtain ⟨_, Ao, co, rfl, hco, _, hHo⟩ := own_form hown2
               have hb2 : Below wr.heap.size wr w2 := ((Below.refl _ _).alloc (Nat.le_refl _) _).grown hg2 (by simp) (fun q hq => by simp [Value.ownBlock] at hq; omega)
               have HO := Lib.hid hHo
               have HBO := Lib.hid hb2
               have m40 := (hb2.cell (p := ⟨g4, 0, none⟩) (World.block_lt_of_cell? _ _ e40)).trans e40
               have m41 := (hb2.cell (p := ⟨g4, 1, none⟩) (World.block_lt_of_cell? _ _ e41)).trans e41
               clear hown2 hg2 hat2 hHo hb2 hco)
            | (go_at_call 16; refine (hide_far _ Ao co l e s HLO.out _).mono ?_; rintro x _ ⟨rfl, rfl⟩)
            | (go_at_call 11; refine (bytes_eq Ao Ab co cb l.length l.length l l rfl rfl rfl _ HO.out (HAR.out.below HBO.out) (Nat.le_trans HL6.out (by omega))).mono ?_; rintro x w3 ⟨rfl, hb3⟩))
          go_roundw
          case rel => exact ⟨n + 1, by omega, by go_num, below_next hb3 (below_next HBO.out HBR.out)⟩
          case measure => simp [intOf]; omega
        · have HSH := Lib.hid (p := l.length ≤ 4096) (by omega)
          obtain ⟨F, hF⟩ : ∃ F, M e s = F := ⟨_, rfl⟩
          obtain ⟨hl1, hhl1⟩ : ∃ hl1, lst l.length (hid F l) = hl1 := ⟨_, rfl⟩
          have E1 := Lib.hid (p := lst l.length (hid F hl1) = l) (by rw [← hhl1]; exact hid_hid F l)
          have E2 := Lib.hid (p := hl1 = lst l.length (xr l (lst 4096 F))) (by rw [← hhl1]; exact hid_xr F l HSH.out)
          have E3 := Lib.hid (p := l.length = hl1.length) (by rw [← hhl1, lst_len])
          have HHL := Lib.hid hhl1
          have HFF := Lib.hid hF
          clear hF hhl1
          go_wp2_with (first
            | (at_builtin; refine wpList_app _ rfl _ _ _ rfl 5 i U wr.heap.size (.slice (some ⟨wr.heap.size, 0, none⟩) 0 0) 0 [] rfl (empty_own wr _) Ab l.length cb l rfl rfl (HAR.out.below ((Below.refl _ _).alloc (Nat.le_refl _) _)) (by have := HL6.out; omega) (by simp) ?_
               intro v2 w2 hown2 hg2 hat2
               rw [List.nil_append] at hown2
               obtain ⟨_, Ao, co, rfl, hco, _, hHo⟩ := own_form hown2
               have hb2 : Below wr.heap.size wr w2 := ((Below.refl _ _).alloc (Nat.le_refl _) _).grown hg2 (by simp) (fun q hq => by simp [Value.ownBlock] at hq; omega)
               have HO := Lib.hid hHo
               have HBO := Lib.hid hb2
               have m40 := (hb2.cell (p := ⟨g4, 0, none⟩) (World.block_lt_of_cell? _ _ e40)).trans e40
               have m41 := (hb2.cell (p := ⟨g4, 1, none⟩) (World.block_lt_of_cell? _ _ e41)).trans e41
               clear hown2 hg2 hat2 hHo hb2 hco)
            | (go_at_call_of 16 (Value.slice Ao l.length co); refine (hide_call gv M Ao co l.length l rfl e s HE.out HS.out HSH.out _ (HMV.out.below HBO.out) HO.out).mono ?_; rintro x w3 ⟨gc, rfl, hr3, hg3, hb3⟩
               rw [HFF.out] at hr3
               have n40 := (hb3.cell (p := ⟨g4, 0, none⟩) (World.block_lt_of_cell? _ _ m40)).trans m40
               have n41 := (hb3.cell (p := ⟨g4, 1, none⟩) (World.block_lt_of_cell? _ _ m41)).trans m41)
            | (go_at_call_of 11 (Value.slice Ao l.length co); refine (bytes_eq Ao Ab co cb l.length l.length l l rfl rfl rfl _ (HO.out.below hb3) (HAR.out.below (below_next hb3 HBO.out)) (Nat.le_trans HL6.out (by omega))).mono ?_; rintro x w5 ⟨rfl, hb5⟩
               have hr5 := (hr3.kept hb5).hol
               rw [HHL.out] at hr5
               have hbr5 := below_next hb5 (below_next hb3 HBO.out)
               have o40 := (hb5.cell (p := ⟨g4, 0, none⟩) (World.block_lt_of_cell? _ _ n40)).trans n40
               have o41 := (hb5.cell (p := ⟨g4, 1, none⟩) (World.block_lt_of_cell? _ _ n41)).trans n41)
            | (go_at_call_of 16 (Value.slice (some ⟨gc, 0, none⟩) l.length l.length); refine (hide_call gv M (some ⟨gc, 0, none⟩) l.length l.length hl1 E3.out e s HE.out HS.out (by rw [← E3.out]; exact HSH.out) _ (HMV.out.below hbr5) hr5).mono ?_; rintro x w6 ⟨gd, rfl, hr6, hg6, hb6⟩
               rw [HFF.out] at hr6)
            | (go_at_call_of 11 (Value.slice (some ⟨gd, 0, none⟩) l.length l.length); refine (bytes_eq (some ⟨gd, 0, none⟩) Ab l.length cb l.length l.length _ l E1.out (lst_len _ _).symm rfl _ hr6.hol (HAR.out.below (below_next hb6 hbr5)) (by rw [lst_len]; exact Nat.le_trans HL6.out (by omega))).mono ?_; rintro x w7 ⟨rfl, hb7⟩
               have hbr7 := below_next hb7 (below_next hb6 hbr5)
               have p40 := (hbr7.cell (p := ⟨g4, 0, none⟩) (World.block_lt_of_cell? _ _ e40)).trans e40
               have p41 := (hbr7.cell (p := ⟨g4, 1, none⟩) (World.block_lt_of_cell? _ _ e41)).trans e41
               have hr7 := hr5.below (below_next hb7 hb6))
            | (go_at_call 10; refine (mask_any gv M e s 4096 HE.out HS.out (Nat.le_refl _) _ (HMV.out.below hbr7)).mono ?_; rintro x w8 ⟨gm, rfl, hr8, hg8, hb8⟩
               rw [HFF.out] at hr8)
            | (go_at_call 17; refine (xor_call Ab (some ⟨gm, 0, none⟩) cb 4096 l.length 4096 l (lst 4096 F) rfl (lst_len _ _).symm (by rw [lst_len]; exact HSH.out) (by rw [lst_len]; omega) _ (HAR.out.below (below_next hb8 hbr7)) hr8.hol).mono ?_; rintro x w9 ⟨Ax, cx, rfl, hHx, hcx, hb9⟩)
            | (go_at_call_of 11 (Value.slice Ax l.length cx); refine (bytes_eq (some ⟨gc, 0, none⟩) Ax l.length cx l.length l.length hl1 _ E2.out E3.out (lst_len _ _).symm _ ((hr7.below hb8).below hb9) hHx.out (by rw [← E3.out]; exact Nat.le_trans HL6.out (by omega))).mono ?_; rintro x w10 ⟨rfl, hb10⟩))
          go_roundw
          case rel => exact ⟨n + 1, by omega, by go_num, below_next hb10 (below_next hb9 (below_next hb8 (below_next hbr7 HBR.out)))⟩
          case measure => simp [intOf]; omega
      · obtain rfl : n = 2 := by omega
        go_wp2
        go_ret
        exact ⟨rfl, below_next hB HB0.out⟩
end Go.Proofs.Ytecojmafnonkiaa
