/- The law WorldPlays, walked. Conditions: those on how the arguments lie. -/
import Derived.Test.YtnajlineipapdaaDuo
import Derived.Test.YtnajlineipapdaaMgBin
import Derived.Test.YtnajlineipapdaaAwakeD
import Derived.Test.YtnajlineipapdaaPNewD
import Derived.Test.YtnajlineipapdaaDnewW
import Derived.Test.YtnajlineipapdaaKeepP
import Derived.Test.YtnajlineipapdaaApartW
import Derived.Deep.RegionWith
import Derived.BigGuard
set_option linter.unusedVariables false
namespace Go.Proofs.Ytnajlineipapdaa
open Go.RowKit

theorem do_tamp {w : World} {g : Nat} {d : DoV} (h : Row w g 37 (dc d)) : w.rangeAt g 5 (tampC d.tk d.ta d.tn d.TA d.tl.length d.tcap) := by
  intro j v hv
  rw [h.cell]
  match j, hv with
  | 0, hv => exact hv
  | 1, hv => exact hv
  | 2, hv => exact hv
  | 3, hv => exact hv
  | j + 4, hv => simp [tampC] at hv
section
variable {b1 b2 : Nat} {w : World} {gp gr : Nat} {S : List (List UInt8)} {R : List (Nat × List UInt8)} {EE : Nat → List (List UInt8)} {T : List (Int × Int × List UInt8)} {S' : List (List UInt8)} {R' : List (Nat × List UInt8)} {EE' : Nat → List (List UInt8)} {T' : List (Int × Int × List UInt8)} {m : Nat} {K : List Nat}
theorem Duo.void (h : Duo b1 b2 w gp gr S R EE T S' R' EE' T' m K) : Duo b1 b2 w gp gr S R EE T S' R' EE' T' m [] := by
  obtain ⟨F, G, h1, h2, h3⟩ := h
  exact ⟨F, G, .none_ h1.pb, .none_ h2.rb, h3⟩
theorem Duo.trace_l (h : Duo b1 b2 w gp gr S R EE T S' R' EE' T' m K) (ht : T.length ≤ 1000000) (hs : ∀ t ∈ T, t.2.2.length ≤ 256) :
    Calls Try.prog 28 #[.pointer (some ⟨gp, 0, none⟩)] w fun e w' => ∃ B n d xs, e = .returned (.slice B n d) ∧ Hid (n = xs.length ∧ xs.map tv = T) ∧ Hid (TrAt w' B xs) ∧ Hid (Below w.heap.size w w') := by
  obtain ⟨F, G, h1, h2, h3⟩ := h
  exact h1.pb.trace ht hs
theorem Duo.touched_l (h : Duo b1 b2 w gp gr S R EE T S' R' EE' T' m K) : Calls Try.prog 29 #[.pointer (some ⟨gp, 0, none⟩)] w fun e w' => e = .returned (.int .i64 (T.length : Int)) ∧ w' = w := by
  obtain ⟨F, G, h1, h2, h3⟩ := h
  exact h1.pb.touched
theorem Duo.trc_r (h : Duo b1 b2 w gp gr S R EE T S' R' EE' T' m K) (hs : ∀ t ∈ T', t.2.2.length ≤ 256) : ∃ A c xs, w.cell? ⟨gr, 3, none⟩ = some (.slice A xs.length c) ∧ xs.map tv = T' ∧ TrAt w A xs := by
  obtain ⟨F, G, h1, h2, h3⟩ := h
  exact h2.rb.trc hs
theorem Duo.now_r (h : Duo b1 b2 w gp gr S R EE T S' R' EE' T' m K) (a : Nat) (ha : a < S'.length) (hr : R'.length ≤ 1000000) :
    Calls Try.prog 30 #[.pointer (some ⟨gr, 0, none⟩), .int .i64 (a : Int)] w fun e w' => (∃ x : BV, e = .returned (bvv x) ∧ Hid (x.l = nowB S' R' a) ∧ Hid (Hol w x.A x.l)) ∧ w' = w := by
  obtain ⟨F, G, h1, h2, h3⟩ := h
  exact h2.rb.now a ha hr
end
theorem do_at {w : World} {g : Nat} {d : DoV} (h : Row w g 37 (dc d)) : w.cell? ⟨g, 1, none⟩ = some (.int .i64 d.a) := by rw [h.cell]; rfl
set_option maxRecDepth 20000 in
set_option maxHeartbeats 4000000 in
theorem plays_far (z : Int) (hz : z < 1 ∨ 1024 < z) (A1 : Option Addr) (c1 : Nat) (ds : List DoV) (hl1 : ds.length ≤ 9223372036854775807) (hS1 : ShortD ds) (w : World) (hD1 : InDo w A1 ds.length c1 ds) :
    Calls Try.prog 3 #[.int .i64 z, .slice A1 ds.length c1] w fun e w' => e = .returned (.bool true) ∧ Below w.heap.size w w' := by
  have HL1 := Lib.hid hl1
  have HS1 := Lib.hid hS1
  have HD1 := Lib.hid hD1
  have HZ := Lib.hid hz
  clear hl1 hS1 hD1
  go_enter Try.func3, Try.ntmps3
  go_wp2_with (go_at_call 8; refine (awake_any _).mono ?_; rintro e1 w1 ⟨rfl, hb1⟩; have HB1 := Lib.hid hb1; clear hb1)
  refine (fewd_any A1 c1 ds HL1.out HS1.out _ (HD1.out.below HB1.out)).mono ?_
  rintro e2 w2 ⟨b, rfl, hb2, hF1⟩
  have HB2 := Lib.hid (below_nxt hb2 HB1.out)
  clear hb2
  cases b with
  | false =>
    clear hF1
    go_wp2
    go_ret
    exact ⟨rfl, HB2.out⟩
  | true =>
  clear hF1
  by_cases h1 : z < 1
  · clear hz
    go_wp2_with (first
      | go_skip
      | go_big_skip
      | (go_at_call 10; refine (new_out z HZ.out _).mono ?_; rintro e4 w4 ⟨rfl, hw4⟩; obtain rfl := hw4.symm))
    go_ret
    exact ⟨rfl, HB2.out⟩
  · have h2 : (1024 : Int) < z := by omega
    clear hz
    go_wp2_with (first
      | go_skip
      | go_big_skip
      | (go_at_call 10; refine (new_out z HZ.out _).mono ?_; rintro e4 w4 ⟨rfl, hw4⟩; obtain rfl := hw4.symm))
    go_ret
    exact ⟨rfl, HB2.out⟩
set_option maxRecDepth 20000 in
set_option maxHeartbeats 8000000 in
theorem plays_in (n : Nat) (hn1 : 1 ≤ n) (hn2 : n ≤ 1024) (A1 : Option Addr) (c1 : Nat) (ds : List DoV) (hl1 : ds.length ≤ 9223372036854775807) (hS1 : ShortD ds) (w : World) (hD1 : InDo w A1 ds.length c1 ds) :
    Calls Try.prog 3 #[.int .i64 (n : Int), .slice A1 ds.length c1] w fun e w' => e = .returned (.bool true) ∧ Below w.heap.size w w' := by
  have HL1 := Lib.hid hl1
  have HS1 := Lib.hid hS1
  have HD1 := Lib.hid hD1
  have HN1 := Lib.hid hn1
  have HN2 := Lib.hid hn2
  have i1 : ¬ (n : Int) < 1 := by omega
  have i2 : ¬ (1024 : Int) < (n : Int) := by omega
  clear hl1 hS1 hD1 hn1 hn2
  go_enter Try.func3, Try.ntmps3
  go_wp2_with (go_at_call 8; refine (awake_any _).mono ?_; rintro e1 w1 ⟨rfl, hb1⟩; have HB1 := Lib.hid hb1; clear hb1)
  refine (fewd_any A1 c1 ds HL1.out HS1.out _ (HD1.out.below HB1.out)).mono ?_
  rintro e2 w2 ⟨b, rfl, hb2, hF1⟩
  have HB2 := Lib.hid (below_nxt hb2 HB1.out)
  clear hb2
  cases b with
  | false =>
    clear hF1
    go_wp2
    go_ret
    exact ⟨rfl, HB2.out⟩
  | true =>
  have HF1 := Lib.hid (hF1 rfl)
  clear hF1
  go_wp2_with (first
    | (go_at_call 10; refine (new_in n HN1.out HN2.out _).mono ?_; rintro e4 w4 ⟨g, F0, x0, rfl, hx0, hD4, hb4⟩
       have HD4 := Lib.hid hD4
       have HB4 := Lib.hid (below_nxt hb4 HB2.out)
       have HX0 := Lib.hid hx0
       clear hD4 hb4 hx0)
    | (go_at_call 11; refine (dnew_any n HN2.out _).mono ?_; rintro e5 w5 ⟨gr, v1, ssr, rfl, HSR, HR5, hb5⟩
       have HB5 := Lib.hid (below_nxt hb5.out HB4.out)
       have HD5 := Lib.hid (HD4.out.kept hb5.out)
       have HZ5 := Lib.hid hb5.out.size
       clear hb5)
    | (go_at_call 12; refine HD5.out.blocks.mono ?_; rintro e6 w6 ⟨rfl, hw6⟩; obtain rfl := hw6.symm; rw [List.length_replicate]))
  have HDU := Lib.hid (p := Duo w2.heap.size w4.heap.size w5 g gr (List.replicate n (pad [])) [] (fun _ => []) [] (List.replicate n (pad [])) [] (fun _ => []) [] 0 []) (by
    refine ⟨F0, _, .none_ ⟨_, _, _, _, HD5.out, by rw [List.map_replicate, HX0.out], rfl, fun a ha => rfl, rfl⟩, .none_ ⟨_, _, _, _, _, _, _, _, HR5.out, rfl, List.eq_replicate_iff.2 ⟨by rw [List.length_map]; exact HSR.out.1, fun y hy => ?_⟩, rfl, fun a ha => rfl, rfl, Nat.le_refl _⟩, fun k hk hf => ?_⟩
    · obtain ⟨x, hx, rfl⟩ := List.mem_map.1 hy
      exact HSR.out.2 x hx
    · have h1 := (HR5.out.fl k hk).1
      have h2 := (HD4.out.lt k hf).2
      omega)
  have HBS := Lib.hid (p := w.heap.size ≤ w2.heap.size) HB2.out.size
  have HBS4 := Lib.hid (p := w.heap.size ≤ w4.heap.size) HB4.out.size
  clear HD4 HD5 HR5 HSR HX0 HZ5 i1 i2
  go_loopw [8] (fun x wr => ∃ (k : Nat) (S : List (List UInt8)) (R : List (Nat × List UInt8)) (EE : Nat → List (List UInt8)) (T : List (Int × Int × List UInt8)), k ≤ ds.length ∧ k ≤ 120 ∧ x = .int .i64 (k : Int) ∧
    Hid (Duo w2.heap.size w4.heap.size wr g gr S R EE T S R EE T k []) ∧ Hid (S.length = n ∧ R.length ≤ k ∧ T.length ≤ k ∧ ∀ t ∈ T, t.2.2.length ≤ 256) ∧ Hid (Below w.heap.size w wr)) (fun x _ => 120 - (intOf x).toNat)
  case atStart => exact ⟨0, _, _, _, _, Nat.zero_le _, Nat.zero_le _, rfl, HDU, Lib.hid ⟨List.length_replicate, Nat.le_refl _, Nat.le_refl _, fun t ht => by cases ht⟩, HB5⟩
  case round =>
    clear HDU HB5 HB4
    obtain ⟨k, S, R, EE, T, hk, hk2, rfl, HD, HN, HB⟩ := hrel
    have hkw : IntKind.i64.wrap ((k : Int) + 1) = (k : Int) + 1 := by rw [IntKind.wrap_i64]; omega
    by_cases hgo : k < ds.length ∧ k < 120
    · have h1i : (k : Int) < (ds.length : Int) := by omega
      have h2i : (k : Int) < 120 := by omega
      have hk0 : (0 : Int) ≤ (k : Int) := by omega
      obtain ⟨d, hd⟩ : ∃ d, ds[k]? = some d := ⟨_, List.getElem?_eq_getElem hgo.1⟩
      obtain ⟨⟨gd, od, rfl, hc⟩, hda⟩ := (HD1.out.below HB.out).at_ k d hd
      have hrg : wr.rangeAt gd (od + k * 9) (dc d) := fun j v hv => hc j v hv
      have HRG := Lib.hid hrg
      have HDL := Lib.hid (HF1.out k d (by omega) hd)
      have HDK := Lib.hid hd
      have HDA := Lib.hid hda
      have HGO := Lib.hid hgo
      have hz := Lib.hid dz_zero
      obtain ⟨K, hK⟩ : ∃ K, d.k = K := ⟨_, rfl⟩
      obtain ⟨Z, hZ⟩ : ∃ Z, d.a = Z := ⟨_, rfl⟩
      clear hd hc hda hgo hk hk2 hrg
      by_cases k2 : K = 2
      · subst k2
        go_wp2_with (first
          | (refine wpList_load_mid rfl 37 _ rfl gd (od + k * 9) rfl (dc d) _ HRG.out Try.underlying37 rfl info_do ?_)
          | (refine step_alloc rfl 9 rfl 37 rfl dz hz.out ?_; intro g5 w5 hr5 hg5 hb5 hs5
             have HB5 := Lib.hid hb5
             have HG5 := Lib.hid hg5
             clear hg5 hb5 hs5)
          | (refine step_store rfl 37 _ _ rfl g5 rfl _ _ (dc d) rfl hr5 rfl info_do (dc_one d) ?_; intro w6 hr6 hg6 hs6
             have hb6 : Below wr.heap.size wr w6 := HB5.out.grown hg6 HB5.out.size (fun q hq => by injection hq with hq; rw [← hq, HG5.out]; exact Nat.le_refl _)
             have HD6 := Lib.hid (HD.out.kept hb6)
             have HB6 := Lib.hid (below_nxt hb6 HB.out)
             have HR6 := Lib.hid hr6
             have q0 := hr6.cell 0
             have q1 := hr6.cell 1
             have q2 := hr6.cell 2
             have q3 := hr6.cell 3
             have q4 := hr6.cell 4
             have q5 := hr6.cell 5
             have q6 := hr6.cell 6
             have q7 := hr6.cell 7
             have q8 := hr6.cell 8
             simp [dc] at q0 q1 q2 q3 q4 q5 q6 q7 q8
             rw [hK] at q0
             rw [hZ] at q1
             clear hr5 hr6 hg6 hs6 hb6)
          | (go_at_call 20; refine (HD6.out.barrier_l (by have h1 := HN.out.2.1; have h2 := HGO.out; omega) (by have h1 := HN.out.2.2.1; have h2 := HGO.out; omega)).mono ?_; rintro e8 w8 ⟨rfl, HD8, HC8⟩
             have HB8 := Lib.hid (p := Below w.heap.size w w8) (by
               obtain ⟨F8, hC8, _, hl8⟩ := HC8.out
               exact HB6.out.trans (hC8.below HB6.out.size (fun q hq => Nat.le_trans HBS.out (hl8 q hq)))))
          | (go_at_call 21; refine (HD8.out.barrier_r (by have h1 := HN.out.2.1; have h2 := HGO.out; omega) (by have h1 := HN.out.2.2.1; have h2 := HGO.out; omega)).mono ?_; rintro e9 wt ⟨rfl, HD9, HC9⟩
             have HBt := Lib.hid (p := Below w.heap.size w wt) (by
               obtain ⟨F9, hC9, _, hl9⟩ := HC9.out
               exact HB8.out.trans (hC9.below HB8.out.size (fun q hq => Nat.le_trans HBS4.out (hl9 q hq))))))
        have HDt := HD9
        have HNt := Lib.hid (p := (syncB (fun _ => true) R S R.length).length = n ∧ ([] : List (Nat × List UInt8)).length ≤ k + 1 ∧ (T ++ [((3 : Int), (0 : Int), ([] : List UInt8))]).length ≤ k + 1 ∧ ∀ t ∈ T ++ [((3 : Int), (0 : Int), ([] : List UInt8))], t.2.2.length ≤ 256) ⟨by rw [syncB_len]; exact HN.out.1, Nat.zero_le _, by rw [List.length_append]; have := HN.out.2.2.1; simp; omega, fun t ht => by
          rcases List.mem_append.1 ht with ht | ht
          · exact HN.out.2.2.2 t ht
          · simp at ht
            subst ht
            simp⟩
        clear HD8 HC8 HB8 HC9
        obtain ⟨Aw, cw, hrow⟩ := HDt.out.row
        have HDd := Lib.hid ((HDt.out.kept (below_drw wt)).most (Nat.le_succ k))
        go_wp2_with fail
        go_region_with (first
          | (go_at_call 26; refine HDd.out.waiting.mono ?_; rintro e19 w19 ⟨rfl, hw19⟩; obtain rfl := hw19.symm)
          | (go_at_call 26; refine HDt.out.waiting.mono ?_; rintro e19 w19 ⟨rfl, hw19⟩; obtain rfl := hw19.symm))
        all_goals
          go_wp2_with fail
          go_roundw
          case rel => exact ⟨k + 1, _, _, _, _, by have := HGO.out; omega, by have := HGO.out; omega, by go_num, HDd, HNt, Lib.hid (below_nxt (below_drw wt) HBt.out)⟩
          case measure => have := HGO.out; simp [intOf]; omega
      by_cases k3 : K = 3
      · subst k3
        go_wp2_with (first
          | (refine wpList_load_mid rfl 37 _ rfl gd (od + k * 9) rfl (dc d) _ HRG.out Try.underlying37 rfl info_do ?_)
          | (refine step_alloc rfl 9 rfl 37 rfl dz hz.out ?_; intro g5 w5 hr5 hg5 hb5 hs5
             have HB5 := Lib.hid hb5
             have HG5 := Lib.hid hg5
             clear hg5 hb5 hs5)
          | (refine step_store rfl 37 _ _ rfl g5 rfl _ _ (dc d) rfl hr5 rfl info_do (dc_one d) ?_; intro w6 hr6 hg6 hs6
             have hb6 : Below wr.heap.size wr w6 := HB5.out.grown hg6 HB5.out.size (fun q hq => by injection hq with hq; rw [← hq, HG5.out]; exact Nat.le_refl _)
             have HD6 := Lib.hid (HD.out.kept hb6)
             have HB6 := Lib.hid (below_nxt hb6 HB.out)
             have HR6 := Lib.hid hr6
             have q0 := hr6.cell 0
             have q1 := hr6.cell 1
             have q2 := hr6.cell 2
             have q3 := hr6.cell 3
             have q4 := hr6.cell 4
             have q5 := hr6.cell 5
             have q6 := hr6.cell 6
             have q7 := hr6.cell 7
             have q8 := hr6.cell 8
             simp [dc] at q0 q1 q2 q3 q4 q5 q6 q7 q8
             rw [hK] at q0
             rw [hZ] at q1
             clear hr5 hr6 hg6 hs6 hb6)
          | (go_at_call 22; refine (HD6.out.crash_l (by have h1 := HN.out.2.1; have h2 := HGO.out; omega) d.KA _ d.kc d.kl rfl ((HD1.out.below HB6.out).at_ k d HDK.out).2.k (fun g0 o e hne => by have h3 := holV_lt (HD1.out.at_ k d HDK.out).2.k g0 o e hne; have h5 := HBS.out; omega)).mono ?_; rintro e8 w8 ⟨rfl, HD8, HC8⟩
             have q4b : w8.cell? ⟨g5, 4, none⟩ = some (.slice d.KA d.kl.length d.kc) := by
               obtain ⟨F8, hC8, hb8, hl8⟩ := HC8.out
               have h := (do_kept HR6.out hC8 hb8).cell 4
               simpa [dc] using h
             have HB8 := Lib.hid (p := Below w.heap.size w w8) (by
               obtain ⟨F8, hC8, _, hl8⟩ := HC8.out
               exact HB6.out.trans (hC8.below HB6.out.size (fun q hq => Nat.le_trans HBS.out (hl8 q hq)))))
          | (go_at_call 23; refine (HD8.out.crash_r (by have h1 := HN.out.2.1; have h2 := HGO.out; omega) d.KA _ d.kc d.kl rfl ((HD1.out.below HB8.out).at_ k d HDK.out).2.k (fun g0 o e hne => by have h3 := holV_lt (HD1.out.at_ k d HDK.out).2.k g0 o e hne; have h5 := HBS4.out; omega)).mono ?_; rintro e9 wt ⟨rfl, HD9, HC9⟩
             have HBt := Lib.hid (p := Below w.heap.size w wt) (by
               obtain ⟨F9, hC9, _, hl9⟩ := HC9.out
               exact HB8.out.trans (hC9.below HB8.out.size (fun q hq => Nat.le_trans HBS4.out (hl9 q hq))))))
        have HDt := HD9
        have HNt := Lib.hid (p := (syncB (fun i => d.kl.getD i false) R S R.length).length = n ∧ ([] : List (Nat × List UInt8)).length ≤ k + 1 ∧ T.length ≤ k + 1 ∧ ∀ t ∈ T, t.2.2.length ≤ 256) ⟨by rw [syncB_len]; exact HN.out.1, Nat.zero_le _, by have := HN.out.2.2.1; omega, HN.out.2.2.2⟩
        clear HD8 HC8 HB8 HC9 q4b
        obtain ⟨Aw, cw, hrow⟩ := HDt.out.row
        have HDd := Lib.hid ((HDt.out.kept (below_drw wt)).most (Nat.le_succ k))
        go_wp2_with fail
        go_region_with (first
          | (go_at_call 26; refine HDd.out.waiting.mono ?_; rintro e19 w19 ⟨rfl, hw19⟩; obtain rfl := hw19.symm)
          | (go_at_call 26; refine HDt.out.waiting.mono ?_; rintro e19 w19 ⟨rfl, hw19⟩; obtain rfl := hw19.symm))
        all_goals
          go_wp2_with fail
          go_roundw
          case rel => exact ⟨k + 1, _, _, _, _, by have := HGO.out; omega, by have := HGO.out; omega, by go_num, HDd, HNt, Lib.hid (below_nxt (below_drw wt) HBt.out)⟩
          case measure => have := HGO.out; simp [intOf]; omega
      by_cases k0 : K = 0
      · subst k0
        by_cases hzo : Z < 0 ∨ (S.length : Int) ≤ Z
        · have HZO := Lib.hid hzo
          clear hzo
          go_wp2_with (first
            | (refine wpList_load_mid rfl 37 _ rfl gd (od + k * 9) rfl (dc d) _ HRG.out Try.underlying37 rfl info_do ?_)
            | (refine step_alloc rfl 9 rfl 37 rfl dz hz.out ?_; intro g5 w5 hr5 hg5 hb5 hs5
               have HB5 := Lib.hid hb5
               have HG5 := Lib.hid hg5
               clear hg5 hb5 hs5)
            | (refine step_store rfl 37 _ _ rfl g5 rfl _ _ (dc d) rfl hr5 rfl info_do (dc_one d) ?_; intro w6 hr6 hg6 hs6
               have hb6 : Below wr.heap.size wr w6 := HB5.out.grown hg6 HB5.out.size (fun q hq => by injection hq with hq; rw [← hq, HG5.out]; exact Nat.le_refl _)
               have HD6 := Lib.hid (HD.out.kept hb6)
               have HB6 := Lib.hid (below_nxt hb6 HB.out)
               have HR6 := Lib.hid hr6
               have q0 := hr6.cell 0
               have q1 := hr6.cell 1
               have q2 := hr6.cell 2
               have q3 := hr6.cell 3
               have q4 := hr6.cell 4
               have q5 := hr6.cell 5
               have q6 := hr6.cell 6
               have q7 := hr6.cell 7
               have q8 := hr6.cell 8
               simp [dc] at q0 q1 q2 q3 q4 q5 q6 q7 q8
               rw [hK] at q0
               rw [hZ] at q1
               clear hr5 hr6 hg6 hs6 hb6)
            | (go_at_call 13; refine (HD6.out.read_out_l Z HZO.out).mono ?_; rintro e8 w8 ⟨rfl, hw8⟩; obtain rfl := hw8.symm)
            | (go_at_call 14; refine (HD6.out.read_out_r Z HZO.out).mono ?_; rintro e8 w8 ⟨rfl, hw8⟩; obtain rfl := hw8.symm)
            | (go_at_call 15; refine (HD6.out.peek_out_l Z HZO.out).mono ?_; rintro e8 w8 ⟨rfl, hw8⟩; obtain rfl := hw8.symm)
            | (go_at_call 16; refine (rbytes_any none none 0 0 [] [] w6 (.inl rfl) (.inl rfl) (by simp) (by simp)).mono ?_; rintro e11 w11 ⟨rfl, hb11⟩; rw [decide_eq_true rfl]
               have HB11 := Lib.hid hb11
               clear hb11)
            | (go_at_call 16; refine (rbytes_any none none 0 0 [] [] w11 (.inl rfl) (.inl rfl) (by simp) (by simp)).mono ?_; rintro e12 wt ⟨rfl, hb12⟩; rw [decide_eq_true rfl]
               have HB12 := Lib.hid (below_nxt hb12 HB11.out)
               clear hb12))
          go_loopw [16] (fun x wr => x = .int .i64 0 ∧ wr = wt) (fun _ _ => 0)
          case atStart => exact ⟨rfl, rfl⟩
          case round =>
            obtain ⟨rfl, rfl⟩ := hrel
            have HDt := Lib.hid (HD6.out.kept HB12.out)
            have HBt := Lib.hid (p := Below w.heap.size w wr) (below_nxt HB12.out HB6.out)
            have HNt := Lib.hid (p := S.length = n ∧ R.length ≤ k + 1 ∧ T.length ≤ k + 1 ∧ ∀ t ∈ T, t.2.2.length ≤ 256) ⟨HN.out.1, by have := HN.out.2.1; omega, by have := HN.out.2.2.1; omega, HN.out.2.2.2⟩
            obtain ⟨Aw, cw, hrow⟩ := HDt.out.row
            have HDd := Lib.hid ((HDt.out.kept (below_drw wr)).most (Nat.le_succ k))
            go_wp2_with fail
            go_region_with (first
              | (go_at_call 26; refine HDd.out.waiting.mono ?_; rintro e19 w19 ⟨rfl, hw19⟩; obtain rfl := hw19.symm)
              | (go_at_call 26; refine HDt.out.waiting.mono ?_; rintro e19 w19 ⟨rfl, hw19⟩; obtain rfl := hw19.symm))
            all_goals
              go_wp2_with fail
              go_roundw
              case rel => exact ⟨k + 1, _, _, _, _, by have := HGO.out; omega, by have := HGO.out; omega, by go_num, HDd, HNt, Lib.hid (below_nxt (below_drw wr) HBt.out)⟩
              case measure => have := HGO.out; simp [intOf]; omega
        · have HZA : Hid (∃ a : Nat, Z = (a : Int) ∧ a < S.length) := Lib.hid ⟨Z.toNat, by omega, by omega⟩
          clear hzo
          go_wp2_with (first
            | (refine wpList_load_mid rfl 37 _ rfl gd (od + k * 9) rfl (dc d) _ HRG.out Try.underlying37 rfl info_do ?_)
            | (refine step_alloc rfl 9 rfl 37 rfl dz hz.out ?_; intro g5 w5 hr5 hg5 hb5 hs5
               have HB5 := Lib.hid hb5
               have HG5 := Lib.hid hg5
               clear hg5 hb5 hs5)
            | (refine step_store rfl 37 _ _ rfl g5 rfl _ _ (dc d) rfl hr5 rfl info_do (dc_one d) ?_; intro w6 hr6 hg6 hs6
               have hb6 : Below wr.heap.size wr w6 := HB5.out.grown hg6 HB5.out.size (fun q hq => by injection hq with hq; rw [← hq, HG5.out]; exact Nat.le_refl _)
               have HD6 := Lib.hid (HD.out.kept hb6)
               have HB6 := Lib.hid (below_nxt hb6 HB.out)
               have HR6 := Lib.hid hr6
               have q0 := hr6.cell 0
               have q1 := hr6.cell 1
               simp [dc] at q0 q1
               rw [hK] at q0
               rw [hZ] at q1
               clear hr5 hr6 hg6 hs6 hb6)
            | (go_at_call 13; fail))
          obtain ⟨a, hza, ha⟩ := HZA.out
          have HA := Lib.hid ha
          have HZE := Lib.hid hza
          have hread := HD6.out.read_l a ha (by have h1 := HN.out.2.1; have h2 := HGO.out; omega) (by have h1 := HN.out.2.2.1; have h2 := HGO.out; omega)
          have hreadr := fun (w8 : World) (K8 : List Nat) (h : Duo w2.heap.size w4.heap.size w8 g gr S R EE (T ++ [(1, (a : Int), nowB S R a)]) S R EE T k K8) => h.read_r a ha (by have h1 := HN.out.2.1; have h2 := HGO.out; omega) (by have h1 := HN.out.2.2.1; have h2 := HGO.out; omega)
          have hpeek := fun (w9 : World) (K8 : List Nat) (h : Duo w2.heap.size w4.heap.size w9 g gr S R EE (T ++ [(1, (a : Int), nowB S R a)]) S R EE (T ++ [(1, (a : Int), nowB S R a)]) k K8) => h.peek_l a ha (by have h1 := HN.out.2.1; have h2 := HGO.out; omega)
          rw [← hza] at hread hreadr hpeek
          have HRR := Lib.hid hreadr
          have HPP := Lib.hid hpeek
          have HNL := Lib.hid (HD6.out.now_len a ha)
          clear hza ha hK hreadr hpeek HZA
          refine hread.mono ?_
          clear hread
          rintro e8 w8 ⟨x8, rfl, HX8, HO8, HK8, HC8⟩
          have HR8 := Lib.hid (p := Row w8 g5 37 (dc d)) (by
            obtain ⟨F8, hC8, hb8, _⟩ := HC8.out
            exact do_kept HR6.out hC8 hb8)
          have q1b : w8.cell? ⟨g5, 1, none⟩ = some (.int .i64 Z) := by have h := HR8.out.cell 1; simpa [dc, hZ] using h
          have HB8 := Lib.hid (p := Below w.heap.size w w8) (by
            obtain ⟨F8, hC8, _, hl8⟩ := HC8.out
            exact HB6.out.trans (hC8.below HB6.out.size (fun q hq => Nat.le_trans HBS.out (hl8 q hq))))
          obtain ⟨K8, hk1, hk2, hd8⟩ := HK8.out
          have HKO := Lib.hid (p := (∀ q, (bvv x8).ownBlock = some q → q ∈ K8) ∧ ∀ k ∈ K8, (bvv x8).ownBlock = some k) ⟨hk1, hk2⟩
          have hd8' : Duo w2.heap.size w4.heap.size w8 g gr S R EE (T ++ [(1, Z, nowB S R a)]) S R EE T k K8 := hd8
          have HD8 := Lib.hid hd8'
          clear hk1 hk2 hd8 hd8' HK8
          go_wp2_with fail
          refine (HRR.out w8 K8 HD8.out).mono ?_
          rintro e9 w9 ⟨y9, rfl, HY9, HH9, HD9, HC9⟩
          have HO9 := Lib.hid (p := Own8 w6.heap.size w9 x8) (by
            obtain ⟨F9, hC9, hb9, _⟩ := HC9.out
            exact HO8.out.chg hC9 hb9.2)
          have q1c : w9.cell? ⟨g5, 1, none⟩ = some (.int .i64 Z) := by
            obtain ⟨F9, hC9, hb9, _⟩ := HC9.out
            have h := (do_kept HR8.out hC9 hb9).cell 1
            simpa [dc, hZ] using h
          have HB9 := Lib.hid (p := Below w.heap.size w w9) (by
            obtain ⟨F9, hC9, _, hl9⟩ := HC9.out
            exact HB8.out.trans (hC9.below HB8.out.size (fun q hq => Nat.le_trans HBS4.out (hl9 q hq))))
          clear q1b HRR hZ
          go_wp2_with fail
          refine (HPP.out w9 K8 HD9.out).mono ?_
          rintro e10 w10 ⟨⟨p10, rfl, HP10, HO10⟩, HB10⟩
          clear HPP q1c
          have hxl8 : x8.l.length = 256 := by rw [HX8.out]; exact HNL.out
          have hyl9 : y9.l.length = 256 := by rw [HY9.out]; exact HNL.out
          have hpl10 : p10.l.length = 256 := by rw [HP10.out]; exact HNL.out
          rw [hxl8, hyl9, hpl10]
          have hby1 := rbytes_any x8.A y9.A x8.c y9.c x8.l y9.l w10 (HO9.out.below HB10.out).hol (HH9.out.below HB10.out) (by rw [hxl8]; decide) (by rw [hyl9]; decide)
          have hby2 := fun (w11 : World) (hb : Below w10.heap.size w10 w11) => rbytes_any p10.A y9.A p10.c y9.c p10.l y9.l w11 (HO10.out.below hb).hol ((HH9.out.below HB10.out).below hb) (by rw [hpl10]; decide) (by rw [hyl9]; decide)
          rw [hxl8, hyl9, decide_eq_true (show x8.l = y9.l by rw [HX8.out, HY9.out])] at hby1
          rw [hpl10, hyl9, decide_eq_true (show p10.l = y9.l by rw [HP10.out, HY9.out])] at hby2
          have HX := Lib.hid hby1
          have HXX := Lib.hid hby2
          have HL8 := Lib.hid hxl8
          clear hby1 hby2 hyl9 hpl10 hxl8
          go_wp2_with fail
          refine HX.out.mono ?_
          rintro e11 w11 ⟨rfl, hb11⟩
          have HB11 := Lib.hid hb11
          clear hb11 HX
          go_wp2_with fail
          refine (HXX.out w11 HB11.out).mono ?_
          rintro e12 w12 ⟨rfl, hb12⟩
          have HB12 := Lib.hid (p := Below w9.heap.size w9 w12) (below_nxt hb12 (below_nxt HB11.out HB10.out))
          clear hb12 HXX
          have HO12 := Lib.hid (HO9.out.below HB12.out)
          have HD12 := Lib.hid (HD9.out.kept HB12.out)
          have HB0 := Lib.hid (p := Below w.heap.size w w12) (below_nxt HB12.out HB9.out)
          obtain ⟨g8, cap8, cs8, hx8, hr8, hc8⟩ : ∃ g8 cap8 cs8, bvv x8 = .slice (some ⟨g8, 0, none⟩) x8.l.length cap8 ∧ Row w12 g8 5 cs8 ∧ 256 ≤ cs8.length := by
            rcases HO12.out.2 with ⟨_, h0⟩ | ⟨g8, cap8, cur, h1, _, h3, h4, _, h6, _⟩
            · have := HL8.out
              omega
            · refine ⟨g8, cap8, cur.toList, h1, ?_, ?_⟩
              · unfold Row
                simpa using h3
              · have := HL8.out
                simp
                omega
          have hA8 : x8.A = some ⟨g8, 0, none⟩ ∧ x8.c = cap8 := by
            unfold bvv at hx8
            simp only [Value.slice.injEq] at hx8
            exact ⟨hx8.1, hx8.2.2⟩
          have HG8 := Lib.hid (p := (bvv x8).ownBlock = some g8) (by rw [hx8]; rfl)
          have HKK := Lib.hid (p := ∀ q, q ∈ K8 ↔ q = g8) (fun q => by
            have h1 : (bvv x8).ownBlock = some g8 := HG8.out
            constructor
            · intro h
              have h2 := HKO.out.2 q h
              rw [h1] at h2
              injection h2 with h2
              exact h2.symm
            · intro h
              subst h
              exact HKO.out.1 _ h1)
          have HR12 := Lib.hid (p := Row w12 g8 5 cs8 ∧ 256 ≤ cs8.length) ⟨hr8, hc8⟩
          rw [hA8.1]
          clear hx8 hr8 hc8 hA8 HKO HC8 HC9 HR8 HD8 HD9 HO9 HO8 HH9 HO10 HB10 HB11 HB12
          go_wp2_with fail
          go_loopw [16] (fun x wr => ∃ j : Nat, j ≤ 256 ∧ x = .int .i64 (j : Int) ∧ ∃ cs, Hid (Row wr g8 5 cs ∧ 256 ≤ cs.length) ∧ Hid (Chg K8 w12 wr)) (fun x _ => 256 - (intOf x).toNat)
          case atStart => exact ⟨0, by omega, rfl, cs8, HR12, Lib.hid (Chg.refl _ _)⟩
          case round =>
            obtain ⟨j, hj, rfl, cs, HR, HC⟩ := hrel
            by_cases hlt : j < 256
            · have hji : (j : Int) < 256 := by omega
              have hj0 : (0 : Int) ≤ (j : Int) := by omega
              have cj : wr.cell? ⟨g8, j, none⟩ = some (cs[j]'(by have := HR.out.2; omega)) := by rw [HR.out.1.cell, List.getElem?_eq_getElem]
              have fj := HR.out.1.free j
              have HJ := Lib.hid hlt
              go_wp2
              go_roundw
              case rel => exact ⟨j + 1, HJ.out, by go_num, _, Lib.hid ⟨HR.out.1.put j _, by rw [List.length_set]; exact HR.out.2⟩, Lib.hid (HC.out.setCell (.inl ((HKK.out g8).2 rfl)) _)⟩
              case measure => have := HJ.out; simp [intOf]; omega
            · have hji : ¬ (j : Int) < 256 := by omega
              have hji2 : (256 : Int) ≤ (j : Int) := by omega
              have HDt := Lib.hid (HD12.out.off HC.out (fun F G h1 h2 => by
                obtain ⟨n1, n2⟩ := bytes_apart HR12.out.1 h1 h2
                exact ⟨fun q hq => by rw [(HKK.out q).1 hq]; exact n1, fun q hq => by rw [(HKK.out q).1 hq]; exact n2⟩))
              have HBt := Lib.hid (p := Below w.heap.size w wr) (HB0.out.trans (HC.out.below HB0.out.size (fun q hq => by
                rw [(HKK.out q).1 hq]
                exact (Nat.le_trans HB6.out.size (HO12.out.lt g8 HG8.out).1))))
              have HNt := Lib.hid (p := S.length = n ∧ R.length ≤ k + 1 ∧ (T ++ [((1 : Int), Z, nowB S R a)]).length ≤ k + 1 ∧ ∀ t ∈ T ++ [((1 : Int), Z, nowB S R a)], t.2.2.length ≤ 256) ⟨HN.out.1, by have := HN.out.2.1; omega, by rw [List.length_append]; have := HN.out.2.2.1; simp; omega, fun t ht => by
                rcases List.mem_append.1 ht with ht | ht
                · exact HN.out.2.2.2 t ht
                · simp at ht
                  subst ht
                  exact Nat.le_of_eq HNL.out⟩
              clear HC HR hlt
              obtain ⟨Aw, cw, hrow⟩ := HDt.out.row
              have HDd := Lib.hid ((HDt.out.kept (below_drw wr)).most (Nat.le_succ k))
              go_wp2_with fail
              go_region_with (first
                | (go_at_call 26; refine HDd.out.waiting.mono ?_; rintro e19 w19 ⟨rfl, hw19⟩; obtain rfl := hw19.symm)
                | (go_at_call 26; refine HDt.out.waiting.mono ?_; rintro e19 w19 ⟨rfl, hw19⟩; obtain rfl := hw19.symm))
              all_goals
                go_wp2_with fail
                go_roundw
                case rel => exact ⟨k + 1, _, _, _, _, by have := HGO.out; omega, by have := HGO.out; omega, by go_num, HDd, HNt, Lib.hid (below_nxt (below_drw wr) HBt.out)⟩
                case measure => have := HGO.out; simp [intOf]; omega
      by_cases k1 : K = 1
      · subst k1
        obtain ⟨i8, U8T⟩ := u8_tab
        have HU8 := Lib.hid U8T
        clear U8T
        obtain ⟨L, hL⟩ : ∃ L, (dol d).length = L := ⟨_, rfl⟩
        have hLm : L ≤ 131072 := by rw [← hL]; unfold dol; split; exact HDL.out.1; rw [pad_len]; decide
        have HLD := Lib.hid hL
        clear hL
        have HZE := Lib.hid hZ
        have HKE := Lib.hid hK
        clear hZ hK
        go_wp2_with (first
          | (refine wpList_load_mid rfl 37 _ rfl gd (od + k * 9) rfl (dc d) _ HRG.out Try.underlying37 rfl info_do ?_)
          | (refine step_alloc rfl 9 rfl 37 rfl dz hz.out ?_; intro g5 w5 hr5 hg5 hb5 hs5
             have HB5 := Lib.hid hb5
             have HG5 := Lib.hid hg5
             clear hg5 hb5 hs5)
          | (refine step_store rfl 37 _ _ rfl g5 rfl _ _ (dc d) rfl hr5 rfl info_do (dc_one d) ?_; intro w6 hr6 hg6 hs6
             have hb6 : Below wr.heap.size wr w6 := HB5.out.grown hg6 HB5.out.size (fun q hq => by injection hq with hq; rw [← hq, HG5.out]; exact Nat.le_refl _)
             have HD6 := Lib.hid (HD.out.kept hb6)
             have HB6 := Lib.hid (below_nxt hb6 HB.out)
             have HR6 := Lib.hid hr6
             have q0 := hr6.cell 0
             have q1 := hr6.cell 1
             simp [dc] at q0 q1
             rw [HKE.out] at q0
             rw [HZE.out] at q1
             clear hr5 hr6 hg6 hs6 hb6)
          | (refine step_load rfl 138 rfl 37 (.tmp 9) rfl g5 rfl (dc d) _ (HR6.out.alloc _).all Try.underlying37 rfl info_do ?_)
          | (go_at_call 17; fail))
        refine (dobytes_any d _ (((HD1.out.below HB6.out).at_ k d HDK.out).2.b.below (below_al w6 _)) (by have := HDL.out.1; omega)).mono ?_
        rintro e7 w7 ⟨y7, rfl, HY7, HH7, HB7⟩
        have hy7 : y7.l.length = L := by rw [HY7.out, HLD.out]
        rw [hy7]
        have HL7 := Lib.hid hy7
        clear hy7
        have hLM := hLm
        go_wp2_with (first
          | (at_builtin; refine wpList_app _ rfl (.tmp 137) (.tmp 139) _ rfl 5 i8 HU8.out w6.heap.size (.slice (some ⟨w6.heap.size, 0, none⟩) 0 0) 0 [] rfl (own_kept (void_own w6 5 1 _ (Nat.le_refl _)) HB7.out) y7.A L y7.c y7.l rfl HL7.out.symm HH7.out (by omega) (Nat.le_trans (below_al w6 (.cells #[] 5)).size HB7.out.size) ?_
             intro v8 w8 hr8 hg8 hat8
             rw [Nat.zero_add, List.nil_append] at hr8
             have hob : ∃ g8, v8.ownBlock = some g8 := by
               rcases hat8 with h | h
               · exact ⟨_, h⟩
               · exact ⟨_, h⟩
             have HB8 := Lib.hid (p := Below w6.heap.size w6 w8) ((below_nxt HB7.out (below_al w6 _)).grown hg8 (Nat.le_trans (below_al w6 (.cells #[] 5)).size HB7.out.size) (fun q hq => by
               have h0 : some w6.heap.size = some q := hq
               injection h0 with h0
               omega))
             obtain ⟨A8, c8, rfl⟩ := own_sl hr8
             have HO8 := Lib.hid hr8
             have HG8 := Lib.hid hob
             clear hr8 hg8 hat8 hob))
        obtain ⟨g8, hg8⟩ := HG8.out
        have hA8 : A8 = some ⟨g8, 0, none⟩ := by
          rcases HO8.out.2 with ⟨h1, h2⟩ | ⟨g', cap', cur', h1, _⟩
          · rw [h1] at hg8
            cases hg8
          · simp only [Value.slice.injEq] at h1
            obtain ⟨rfl, _, rfl⟩ := h1
            simp [Value.ownBlock] at hg8
            rw [hg8]
        subst hA8
        have HB08 := Lib.hid (below_nxt HB8.out HB6.out)
        have HG68 := Lib.hid (p := w6.heap.size ≤ g8 ∧ g8 < w8.heap.size) (HO8.out.lt g8 hg8)
        have HD8 := Lib.hid ((HD6.out.newer (K' := [g8]) (fun q hq => by simp at hq; subst hq; exact HG68.out.1)).kept HB8.out)
        have HR8 := Lib.hid (p := Row w8 g5 37 (dc d)) (HR6.out.kept HB8.out)
        have HYD := Lib.hid (p := Hol w8 (some ⟨g8, 0, none⟩) y7.l) (Hol.own HO8.out)
        clear hg8 q0 q1 HG8 HH7 HB7
        by_cases hin : L = 256 ∧ ∃ a : Nat, d.a = (a : Int) ∧ a < S.length
        · obtain ⟨rfl, a, hza, ha⟩ := hin
          have HWL := Lib.hid (p := ∀ W : World, Duo w2.heap.size w4.heap.size W g gr S R EE T S R EE T k [g8] → Hol W (some ⟨g8, 0, none⟩) y7.l → g8 < w8.heap.size → Calls Try.prog 18 #[.pointer (some ⟨g, 0, none⟩), .int .i64 d.a, .slice (some ⟨g8, 0, none⟩) 256 c8] W fun e w' => e = .returned (.int .i64 0) ∧ Hid (Duo w2.heap.size w4.heap.size w' g gr S (R ++ [(a, dol d)]) (moreB EE a (dol d)) (T ++ [(2, d.a, dol d)]) S R EE T k [g8]) ∧ Hid (∃ F, Chg F W w' ∧ NoDo W F ∧ ∀ x ∈ F, w2.heap.size ≤ x)) (fun W h hol hg => by
            rw [hza]
            exact h.write_l (fun q hq => by
              simp at hq
              subst hq
              rcases hol with h0 | ⟨g', o', e', hc'⟩
              · have := HL7.out
                rw [h0] at this
                cases this
              · injection e' with e'
                injection e' with e1
                subst e1
                have hlt0 : 0 < y7.l.length := by rw [HL7.out]; decide
                exact World.block_lt_of_cell? W _ (hc' 0 _ (List.getElem?_eq_getElem hlt0))) (by rw [HN.out.1]; exact HN2.out) a ha _ 256 c8 (dol d) HLD.out.symm HLD.out (by rw [← HY7.out]; exact hol) (by have h1 := HN.out.2.1; have h2 := HGO.out; omega) (by have h1 := HN.out.2.2.1; have h2 := HGO.out; omega))
          have HWR := Lib.hid (p := ∀ (W : World) (y : BV), Duo w2.heap.size w4.heap.size W g gr S (R ++ [(a, dol d)]) (moreB EE a (dol d)) (T ++ [(2, d.a, dol d)]) S R EE T k [g8] → y.l = dol d → Hol W y.A y.l → g8 < W.heap.size → Calls Try.prog 19 #[.pointer (some ⟨gr, 0, none⟩), .int .i64 d.a, .slice y.A 256 y.c] W fun e w' => e = .returned (.int .i64 0) ∧ Hid (Duo w2.heap.size w4.heap.size w' g gr S (R ++ [(a, dol d)]) (moreB EE a (dol d)) (T ++ [(2, d.a, dol d)]) S (R ++ [(a, dol d)]) (moreB EE a (dol d)) (T ++ [(2, d.a, dol d)]) (k + 1) [g8]) ∧ Hid (∃ F, Chg F W w' ∧ NoDo W F ∧ ∀ x ∈ F, w4.heap.size ≤ x)) (fun W y h hy hol hg => by
            rw [hza] at h ⊢
            exact h.write_r (fun q hq => by simp at hq; subst hq; exact hg) a ha y.A 256 y.c (dol d) HLD.out.symm HLD.out (by rw [← hy]; exact hol) (by have h1 := HN.out.2.1; have h2 := HGO.out; omega) (by have := HGO.out; omega) (by have h1 := HN.out.2.2.1; have h2 := HGO.out; omega))
          clear hza ha
          have HOX := Lib.hid (p := Own8 w6.heap.size w8 ⟨some ⟨g8, 0, none⟩, c8, y7.l⟩) (by have h := HO8.out; rw [← HL7.out] at h; exact h)
          refine wp_region_held_drew (S := fun W => Row W g5 37 (dc d)) (by kernel_rfl) HR8.out.drew (fun hHeld => ?_)
          refine wpAnyH_take (i := 0) (oi := ⟨some 141, .move (.tmp 5), _, _, _, _⟩) (v := .pointer (some ⟨g, 0, none⟩)) rfl (by kernel_rfl) (by kernel_rfl) (by kernel_rfl) (fun _ _ _ h => h) (.inl ⟨by rfl, fun w hSw => by go_simp⟩) (by assumption) ?_
          simp only [Act.put, List.setIfInBounds_toArray, List.set_cons_zero, List.set_cons_succ]
          refine wpAnyH_take (i := 1) (oi := ⟨some 142, .fieldAddr 37 (.tmp 9) 1, _, _, _, _⟩) (v := .pointer (some ⟨g5, 1, none⟩)) rfl (by kernel_rfl) (by kernel_rfl) (by kernel_rfl) (fun _ _ _ h => h) (.inl ⟨by rfl, fun w hSw => by go_simp⟩) (by assumption) ?_
          simp only [Act.put, List.setIfInBounds_toArray, List.set_cons_zero, List.set_cons_succ]
          refine wpAnyH_take (i := 2) (oi := ⟨some 143, .load 3 (.tmp 142), _, _, _, _⟩) (v := .int .i64 d.a) rfl (by kernel_rfl) (by kernel_rfl) (by kernel_rfl) (fun _ _ _ h => h) (.inl ⟨by rfl, fun w hSw => by have z1 := do_at hSw; go_simp⟩) (by assumption) ?_
          simp only [Act.put, List.setIfInBounds_toArray, List.set_cons_zero, List.set_cons_succ]
          refine wpAnyH_take (i := 3) (oi := ⟨some 144, .move (.tmp 17), _, _, _, _⟩) (v := .slice (some ⟨g8, 0, none⟩) 256 c8) rfl (by kernel_rfl) (by kernel_rfl) (by kernel_rfl) (fun _ _ _ h => h) (.inl ⟨by rfl, fun w hSw => by go_simp⟩) (by assumption) ?_
          simp only [Act.put, List.setIfInBounds_toArray, List.set_cons_zero, List.set_cons_succ]
          refine wpAnyH_take (i := 5) (oi := ⟨some 146, .move (.tmp 7), _, _, _, _⟩) (v := .pointer (some ⟨gr, 0, none⟩)) rfl (by kernel_rfl) (by kernel_rfl) (by kernel_rfl) (fun _ _ _ h => h) (.inl ⟨by rfl, fun w hSw => by go_simp⟩) (by assumption) ?_
          simp only [Act.put, List.setIfInBounds_toArray, List.set_cons_zero, List.set_cons_succ]
          refine wpAnyH_take (i := 6) (oi := ⟨some 147, .fieldAddr 37 (.tmp 9) 1, _, _, _, _⟩) (v := .pointer (some ⟨g5, 1, none⟩)) rfl (by kernel_rfl) (by kernel_rfl) (by kernel_rfl) (fun _ _ _ h => h) (.inl ⟨by rfl, fun w hSw => by go_simp⟩) (by assumption) ?_
          simp only [Act.put, List.setIfInBounds_toArray, List.set_cons_zero, List.set_cons_succ]
          refine wpAnyH_take (i := 7) (oi := ⟨some 148, .load 3 (.tmp 147), _, _, _, _⟩) (v := .int .i64 d.a) rfl (by kernel_rfl) (by kernel_rfl) (by kernel_rfl) (fun _ _ _ h => h) (.inl ⟨by rfl, fun w hSw => by have z1 := do_at hSw; go_simp⟩) (by assumption) ?_
          simp only [Act.put, List.setIfInBounds_toArray, List.set_cons_zero, List.set_cons_succ]
          refine wpAnyH_take (i := 8) (oi := ⟨some 149, .load 37 (.tmp 9), _, _, _, _⟩) (v := .agg (dc d).toArray) rfl (by kernel_rfl) (by kernel_rfl) (by kernel_rfl) (fun _ _ _ h => h) (yieldsIf_load_mid (by rfl) 37 (.tmp 9) rfl g5 0 rfl (dc d) _ (fun w hSw => hSw.all) Try.underlying37 rfl info_do) (by assumption) ?_
          simp only [Act.put, List.setIfInBounds_toArray, List.set_cons_zero, List.set_cons_succ]
          refine wpAnyH_ready (rs := [4]) (by kernel_rfl) (by simp) ?_
          refine AllReadyH.cons (o := ⟨some 145, .call ⟨.value (.func 18), #[.tmp 141, .tmp 143, .tmp 144], _⟩, _, _, _, _⟩) rfl (fun K hK => ?_) AllReadyH.nil
          go_simp
          have HD8d := Lib.hid (HD8.out.kept (below_drw w8))
          have HB8d := Lib.hid (p := Below w.heap.size w w8.drew) (below_nxt (below_drw w8) HB08.out)
          have HR8d := Lib.hid (p := Row w8.drew g5 37 (dc d)) HR8.out.drew
          refine (HWL.out _ HD8d.out (HYD.out.below (below_drw w8)) HG68.out.2).mono ?_
          rintro e9 w9 ⟨rfl, hd9, hc9⟩
          have HD9 := hd9
          have HB9 := Lib.hid (p := Below w.heap.size w w9) (by
            obtain ⟨F9, hC9, _, hl9⟩ := hc9.out
            exact Below.trans HB8d.out (hC9.below (Below.size HB8d.out) (fun q hq => Nat.le_trans HBS.out (hl9 q hq))))
          have HR9 := Lib.hid (p := Row w9 g5 37 (dc d)) (by
            obtain ⟨F9, hC9, hb9, _⟩ := hc9.out
            exact do_kept HR8d.out hC9 hb9)
          have HO9 := Lib.hid (p := Own8 w6.heap.size w9 ⟨some ⟨g8, 0, none⟩, c8, y7.l⟩) (by
            obtain ⟨F9, hC9, hb9, _⟩ := hc9.out
            exact Own8.chg (HOX.out.below (below_drw w8)) hC9 hb9.2)
          have HG9 := Lib.hid (p := g8 < w9.heap.size) (by
            obtain ⟨F9, hC9, _, _⟩ := hc9.out
            have h1 := hC9.size
            have h2 := HG68.out.2
            simp at h1
            omega)
          refine hK.out _ _ HR9.out (fun hH0 => ?_)
          clear hK
          refine wpAnyH_ready (rs := [9]) (by kernel_rfl) (by simp) ?_
          refine AllReadyH.cons (o := ⟨some 150, .call ⟨.value (.func 17), #[.tmp 149], _⟩, _, _, _, _⟩) rfl (fun K hK => ?_) AllReadyH.nil
          go_simp
          refine (dobytes_any d _ ((HD1.out.below HB9.out).at_ k d HDK.out).2.b (by have := HDL.out.1; omega)).mono ?_
          rintro e10 w10 ⟨y10, rfl, HY10, HH10, HB10⟩
          have hy10 : y10.l.length = 256 := by rw [HY10.out, HLD.out]
          rw [hy10]
          have HL10 := Lib.hid hy10
          clear hy10
          have HD10 := Lib.hid (HD9.out.kept HB10.out)
          have HO10 := Lib.hid (HO9.out.below HB10.out)
          have HR10 := Lib.hid (p := Row w10 g5 37 (dc d)) (HR9.out.kept HB10.out)
          have HBw10 := Lib.hid (p := Below w.heap.size w w10) (below_nxt HB10.out HB9.out)
          refine hK.out _ _ HR10.out (fun hH1 => ?_)
          clear hK
          refine wpAnyH_ready (rs := [10]) (by kernel_rfl) (by simp) ?_
          refine AllReadyH.cons (o := ⟨some 151, .call ⟨.value (.func 19), #[.tmp 146, .tmp 148, .tmp 150], _⟩, _, _, _, _⟩) rfl (fun K hK => ?_) AllReadyH.nil
          go_simp
          refine (HWR.out w10 y10 HD10.out HY10.out HH10.out (Nat.lt_of_lt_of_le HG9.out HB10.out.size)).mono ?_
          rintro e11 w11 ⟨rfl, hd11, hc11⟩
          have HD11 := hd11
          have HB11 := Lib.hid (p := Below w.heap.size w w11) (by
            obtain ⟨F9, hC9, _, hl9⟩ := hc11.out
            exact Below.trans HBw10.out (hC9.below (Below.size HBw10.out) (fun q hq => Nat.le_trans HBS4.out (hl9 q hq))))
          have HR11 := Lib.hid (p := Row w11 g5 37 (dc d)) (by
            obtain ⟨F9, hC9, hb9, _⟩ := hc11.out
            exact do_kept HR10.out hC9 hb9)
          have HO11 := Lib.hid (p := Own8 w6.heap.size w11 ⟨some ⟨g8, 0, none⟩, c8, y7.l⟩) (by
            obtain ⟨F9, hC9, hb9, _⟩ := hc11.out
            exact Own8.chg HO10.out hC9 hb9.2)
          refine hK.out _ _ HR11.out (fun hH2 => ?_)
          clear hK
          refine wpAnyH_take (i := 11) (oi := ⟨some 152, .binOp .neq 26 (.tmp 145) (.tmp 151) 26, _, _, _, _⟩) (v := .bool false) rfl (by kernel_rfl) (by kernel_rfl) (by kernel_rfl) (fun _ _ _ h => h) (.inl ⟨by rfl, fun w hSw => by go_simp⟩) (by assumption) ?_
          simp only [Act.put, List.setIfInBounds_toArray, List.set_cons_zero, List.set_cons_succ]
          refine wpAnyH_done (by kernel_rfl) ?_ _
          clear hHeld hH0 hH1 hH2 HWL HWR HD8d HB8d HR8d HD9 HB9 HR9 HO9 HD10 HO10 HR10 HBw10 HL10 HH10 HY10 HB10
          go_wp2_with fail
          obtain ⟨cs8, hr8, hc8⟩ : ∃ cs8, Row w11 g8 5 cs8 ∧ 256 ≤ cs8.length := by
            rcases HO11.out.2 with ⟨h1, _⟩ | ⟨g9, cap9, cur, h1, _, h3, h4, _, h6, _⟩
            · cases h1
            · unfold bvv at h1
              simp only [Value.slice.injEq, Option.some.injEq, Addr.mk.injEq] at h1
              obtain ⟨⟨rfl, _, _⟩, _, rfl⟩ := h1
              refine ⟨cur.toList, ?_, ?_⟩
              · unfold Row
                simpa using h3
              · have h7 := HL7.out
                simp at h4 ⊢
                omega
          have HR12 := Lib.hid (p := Row w11 g8 5 cs8 ∧ 256 ≤ cs8.length) ⟨hr8, hc8⟩
          clear hr8 hc8
          go_loopw [18] (fun x wr => ∃ j : Nat, j ≤ 256 ∧ x = .int .i64 (j : Int) ∧ ∃ cs, Hid (Row wr g8 5 cs ∧ 256 ≤ cs.length) ∧ Hid (Chg [g8] w11 wr)) (fun x _ => 256 - (intOf x).toNat)
          case atStart => exact ⟨0, by omega, rfl, cs8, HR12, Lib.hid (Chg.refl _ _)⟩
          case round =>
            obtain ⟨j, hj, rfl, cs, HR, HC⟩ := hrel
            by_cases hlt : j < 256
            · have hji : (j : Int) < 256 := by omega
              have hj0 : (0 : Int) ≤ (j : Int) := by omega
              have cj : wr.cell? ⟨g8, j, none⟩ = some (cs[j]'(by have := HR.out.2; omega)) := by rw [HR.out.1.cell, List.getElem?_eq_getElem]
              have fj := HR.out.1.free j
              have HJ := Lib.hid hlt
              go_wp2
              go_roundw
              case rel => exact ⟨j + 1, HJ.out, by go_num, _, Lib.hid ⟨HR.out.1.put j _, by rw [List.length_set]; exact HR.out.2⟩, Lib.hid (HC.out.setCell (.inl (by simp)) _)⟩
              case measure => have := HJ.out; simp [intOf]; omega
            · have hji : ¬ (j : Int) < 256 := by omega
              have hji2 : 256 ≤ (j : Int) := by omega
              have HDt := Lib.hid (HD11.out.off HC.out (fun F G h1 h2 => by
                obtain ⟨n1, n2⟩ := bytes_apart HR12.out.1 h1 h2
                exact ⟨fun q hq => by simp at hq; rw [hq]; exact n1, fun q hq => by simp at hq; rw [hq]; exact n2⟩))
              have HBt := Lib.hid (p := Below w.heap.size w wr) (HB11.out.trans (HC.out.below HB11.out.size (fun q hq => by
                simp at hq
                rw [hq]
                exact Nat.le_trans HB6.out.size HG68.out.1)))
              have HNt := Lib.hid (p := S.length = n ∧ (R ++ [(a, dol d)]).length ≤ k + 1 ∧ (T ++ [((2 : Int), d.a, dol d)]).length ≤ k + 1 ∧ ∀ t ∈ T ++ [((2 : Int), d.a, dol d)], t.2.2.length ≤ 256) ⟨HN.out.1, by rw [List.length_append]; have := HN.out.2.1; simp; omega, by rw [List.length_append]; have := HN.out.2.2.1; simp; omega, fun t ht => by
                rcases List.mem_append.1 ht with ht | ht
                · exact HN.out.2.2.2 t ht
                · simp at ht
                  subst ht
                  exact Nat.le_of_eq HLD.out⟩
              clear HC HR hlt
              obtain ⟨Aw, cw, hrow⟩ := HDt.out.row
              have HDd := Lib.hid (HDt.out.kept (below_drw wr))
              go_wp2_with fail
              go_region_with (first
                | (go_at_call 26; refine HDd.out.waiting.mono ?_; rintro e19 w19 ⟨rfl, hw19⟩; obtain rfl := hw19.symm)
                | (go_at_call 26; refine HDt.out.waiting.mono ?_; rintro e19 w19 ⟨rfl, hw19⟩; obtain rfl := hw19.symm))
              all_goals
                go_wp2_with fail
                go_roundw
                case rel => exact ⟨k + 1, _, _, _, _, by have := HGO.out; omega, by have := HGO.out; omega, by go_num, HDd, HNt, Lib.hid (below_nxt (below_drw wr) HBt.out)⟩
                case measure => have := HGO.out; simp [intOf]; omega
        · have hout : (d.a < 0 ∨ (S.length : Int) ≤ d.a) ∨ L ≠ 256 := by
            by_cases h : L = 256
            · left
              by_cases h0 : d.a < 0
              · exact .inl h0
              · right
                rcases Int.lt_or_le d.a (S.length : Int) with h2 | h2
                · exact absurd ⟨h, d.a.toNat, by omega, by omega⟩ hin
                · exact h2
            · exact .inr h
          clear hin
          have HWL := Lib.hid (p := ∀ W : World, Duo w2.heap.size w4.heap.size W g gr S R EE T S R EE T k [g8] → Calls Try.prog 18 #[.pointer (some ⟨g, 0, none⟩), .int .i64 d.a, .slice (some ⟨g8, 0, none⟩) L c8] W fun e w' => e = .returned (.int .i64 201) ∧ w' = W) (fun W h => h.write_out_l d.a _ L c8 hout)
          have HWR := Lib.hid (p := ∀ (W : World) (y : BV), Duo w2.heap.size w4.heap.size W g gr S R EE T S R EE T k [g8] → Calls Try.prog 19 #[.pointer (some ⟨gr, 0, none⟩), .int .i64 d.a, .slice y.A L y.c] W fun e w' => e = .returned (.int .i64 201) ∧ w' = W) (fun W y h => h.write_out_r d.a _ L y.c hout)
          clear hout
          have HOX := Lib.hid (p := Own8 w6.heap.size w8 ⟨some ⟨g8, 0, none⟩, c8, y7.l⟩) (by have h := HO8.out; rw [← HL7.out] at h; exact h)
          refine wp_region_held_drew (S := fun W => Row W g5 37 (dc d)) (by kernel_rfl) HR8.out.drew (fun hHeld => ?_)
          refine wpAnyH_take (i := 0) (oi := ⟨some 141, .move (.tmp 5), _, _, _, _⟩) (v := .pointer (some ⟨g, 0, none⟩)) rfl (by kernel_rfl) (by kernel_rfl) (by kernel_rfl) (fun _ _ _ h => h) (.inl ⟨by rfl, fun w hSw => by go_simp⟩) (by assumption) ?_
          simp only [Act.put, List.setIfInBounds_toArray, List.set_cons_zero, List.set_cons_succ]
          refine wpAnyH_take (i := 1) (oi := ⟨some 142, .fieldAddr 37 (.tmp 9) 1, _, _, _, _⟩) (v := .pointer (some ⟨g5, 1, none⟩)) rfl (by kernel_rfl) (by kernel_rfl) (by kernel_rfl) (fun _ _ _ h => h) (.inl ⟨by rfl, fun w hSw => by go_simp⟩) (by assumption) ?_
          simp only [Act.put, List.setIfInBounds_toArray, List.set_cons_zero, List.set_cons_succ]
          refine wpAnyH_take (i := 2) (oi := ⟨some 143, .load 3 (.tmp 142), _, _, _, _⟩) (v := .int .i64 d.a) rfl (by kernel_rfl) (by kernel_rfl) (by kernel_rfl) (fun _ _ _ h => h) (.inl ⟨by rfl, fun w hSw => by have z1 := do_at hSw; go_simp⟩) (by assumption) ?_
          simp only [Act.put, List.setIfInBounds_toArray, List.set_cons_zero, List.set_cons_succ]
          refine wpAnyH_take (i := 3) (oi := ⟨some 144, .move (.tmp 17), _, _, _, _⟩) (v := .slice (some ⟨g8, 0, none⟩) L c8) rfl (by kernel_rfl) (by kernel_rfl) (by kernel_rfl) (fun _ _ _ h => h) (.inl ⟨by rfl, fun w hSw => by go_simp⟩) (by assumption) ?_
          simp only [Act.put, List.setIfInBounds_toArray, List.set_cons_zero, List.set_cons_succ]
          refine wpAnyH_take (i := 5) (oi := ⟨some 146, .move (.tmp 7), _, _, _, _⟩) (v := .pointer (some ⟨gr, 0, none⟩)) rfl (by kernel_rfl) (by kernel_rfl) (by kernel_rfl) (fun _ _ _ h => h) (.inl ⟨by rfl, fun w hSw => by go_simp⟩) (by assumption) ?_
          simp only [Act.put, List.setIfInBounds_toArray, List.set_cons_zero, List.set_cons_succ]
          refine wpAnyH_take (i := 6) (oi := ⟨some 147, .fieldAddr 37 (.tmp 9) 1, _, _, _, _⟩) (v := .pointer (some ⟨g5, 1, none⟩)) rfl (by kernel_rfl) (by kernel_rfl) (by kernel_rfl) (fun _ _ _ h => h) (.inl ⟨by rfl, fun w hSw => by go_simp⟩) (by assumption) ?_
          simp only [Act.put, List.setIfInBounds_toArray, List.set_cons_zero, List.set_cons_succ]
          refine wpAnyH_take (i := 7) (oi := ⟨some 148, .load 3 (.tmp 147), _, _, _, _⟩) (v := .int .i64 d.a) rfl (by kernel_rfl) (by kernel_rfl) (by kernel_rfl) (fun _ _ _ h => h) (.inl ⟨by rfl, fun w hSw => by have z1 := do_at hSw; go_simp⟩) (by assumption) ?_
          simp only [Act.put, List.setIfInBounds_toArray, List.set_cons_zero, List.set_cons_succ]
          refine wpAnyH_take (i := 8) (oi := ⟨some 149, .load 37 (.tmp 9), _, _, _, _⟩) (v := .agg (dc d).toArray) rfl (by kernel_rfl) (by kernel_rfl) (by kernel_rfl) (fun _ _ _ h => h) (yieldsIf_load_mid (by rfl) 37 (.tmp 9) rfl g5 0 rfl (dc d) _ (fun w hSw => hSw.all) Try.underlying37 rfl info_do) (by assumption) ?_
          simp only [Act.put, List.setIfInBounds_toArray, List.set_cons_zero, List.set_cons_succ]
          refine wpAnyH_ready (rs := [4]) (by kernel_rfl) (by simp) ?_
          refine AllReadyH.cons (o := ⟨some 145, .call ⟨.value (.func 18), #[.tmp 141, .tmp 143, .tmp 144], _⟩, _, _, _, _⟩) rfl (fun K hK => ?_) AllReadyH.nil
          go_simp
          have HD8d := Lib.hid (HD8.out.kept (below_drw w8))
          have HB8d := Lib.hid (p := Below w.heap.size w w8.drew) (below_nxt (below_drw w8) HB08.out)
          have HR8d := Lib.hid (p := Row w8.drew g5 37 (dc d)) HR8.out.drew
          refine (HWL.out _ HD8d.out).mono ?_
          rintro e9 w9 ⟨rfl, hw9⟩
          obtain rfl := hw9.symm
          have HD9 := HD8d
          have HB9 := HB8d
          have HR9 := HR8d
          have HO9 := Lib.hid (HOX.out.below (below_drw w8))
          refine hK.out _ _ HR9.out (fun hH0 => ?_)
          clear hK
          refine wpAnyH_ready (rs := [9]) (by kernel_rfl) (by simp) ?_
          refine AllReadyH.cons (o := ⟨some 150, .call ⟨.value (.func 17), #[.tmp 149], _⟩, _, _, _, _⟩) rfl (fun K hK => ?_) AllReadyH.nil
          go_simp
          refine (dobytes_any d _ ((HD1.out.below HB9.out).at_ k d HDK.out).2.b (by have := HDL.out.1; omega)).mono ?_
          rintro e10 w10 ⟨y10, rfl, HY10, HH10, HB10⟩
          have hy10 : y10.l.length = L := by rw [HY10.out, HLD.out]
          rw [hy10]
          have HL10 := Lib.hid hy10
          clear hy10
          have HD10 := Lib.hid (HD9.out.kept HB10.out)
          have HO10 := Lib.hid (HO9.out.below HB10.out)
          have HR10 := Lib.hid (p := Row w10 g5 37 (dc d)) (HR9.out.kept HB10.out)
          have HBw10 := Lib.hid (p := Below w.heap.size w w10) (below_nxt HB10.out HB9.out)
          refine hK.out _ _ HR10.out (fun hH1 => ?_)
          clear hK
          refine wpAnyH_ready (rs := [10]) (by kernel_rfl) (by simp) ?_
          refine AllReadyH.cons (o := ⟨some 151, .call ⟨.value (.func 19), #[.tmp 146, .tmp 148, .tmp 150], _⟩, _, _, _, _⟩) rfl (fun K hK => ?_) AllReadyH.nil
          go_simp
          refine (HWR.out w10 y10 HD10.out).mono ?_
          rintro e11 w11 ⟨rfl, hw11⟩
          obtain rfl := hw11.symm
          have HD11 := HD10
          have HB11 := HBw10
          have HR11 := HR10
          have HO11 := HO10
          refine hK.out _ _ HR11.out (fun hH2 => ?_)
          clear hK
          refine wpAnyH_take (i := 11) (oi := ⟨some 152, .binOp .neq 26 (.tmp 145) (.tmp 151) 26, _, _, _, _⟩) (v := .bool false) rfl (by kernel_rfl) (by kernel_rfl) (by kernel_rfl) (fun _ _ _ h => h) (.inl ⟨by rfl, fun w hSw => by go_simp⟩) (by assumption) ?_
          simp only [Act.put, List.setIfInBounds_toArray, List.set_cons_zero, List.set_cons_succ]
          refine wpAnyH_done (by kernel_rfl) ?_ _
          clear hHeld hH0 hH1 hH2 HWL HWR HD8d HB8d HR8d HD9 HB9 HR9 HO9 HD10 HO10 HR10 HBw10 HL10 HH10 HY10 HB10
          go_wp2_with fail
          obtain ⟨cs8, hr8, hc8⟩ : ∃ cs8, Row w10 g8 5 cs8 ∧ L ≤ cs8.length := by
            rcases HO11.out.2 with ⟨h1, _⟩ | ⟨g9, cap9, cur, h1, _, h3, h4, _, h6, _⟩
            · cases h1
            · unfold bvv at h1
              simp only [Value.slice.injEq, Option.some.injEq, Addr.mk.injEq] at h1
              obtain ⟨⟨rfl, _, _⟩, _, rfl⟩ := h1
              refine ⟨cur.toList, ?_, ?_⟩
              · unfold Row
                simpa using h3
              · have h7 := HL7.out
                simp at h4 ⊢
                omega
          have HR12 := Lib.hid (p := Row w10 g8 5 cs8 ∧ L ≤ cs8.length) ⟨hr8, hc8⟩
          clear hr8 hc8
          go_loopw [18] (fun x wr => ∃ j : Nat, j ≤ L ∧ x = .int .i64 (j : Int) ∧ ∃ cs, Hid (Row wr g8 5 cs ∧ L ≤ cs.length) ∧ Hid (Chg [g8] w10 wr)) (fun x _ => L - (intOf x).toNat)
          case atStart => exact ⟨0, by omega, rfl, cs8, HR12, Lib.hid (Chg.refl _ _)⟩
          case round =>
            obtain ⟨j, hj, rfl, cs, HR, HC⟩ := hrel
            by_cases hlt : j < L
            · have hji : (j : Int) < (L : Int) := by omega
              have hj0 : (0 : Int) ≤ (j : Int) := by omega
              have cj : wr.cell? ⟨g8, j, none⟩ = some (cs[j]'(by have := HR.out.2; omega)) := by rw [HR.out.1.cell, List.getElem?_eq_getElem]
              have fj := HR.out.1.free j
              have HJ := Lib.hid hlt
              go_wp2
              go_roundw
              case rel => exact ⟨j + 1, HJ.out, by go_num, _, Lib.hid ⟨HR.out.1.put j _, by rw [List.length_set]; exact HR.out.2⟩, Lib.hid (HC.out.setCell (.inl (by simp)) _)⟩
              case measure => have := HJ.out; simp [intOf]; omega
            · have hji : ¬ (j : Int) < (L : Int) := by omega
              have hji2 : (L : Int) ≤ (j : Int) := by omega
              have HDt := Lib.hid (HD11.out.off HC.out (fun F G h1 h2 => by
                obtain ⟨n1, n2⟩ := bytes_apart HR12.out.1 h1 h2
                exact ⟨fun q hq => by simp at hq; rw [hq]; exact n1, fun q hq => by simp at hq; rw [hq]; exact n2⟩))
              have HBt := Lib.hid (p := Below w.heap.size w wr) (HB11.out.trans (HC.out.below HB11.out.size (fun q hq => by
                simp at hq
                rw [hq]
                exact Nat.le_trans HB6.out.size HG68.out.1)))
              have HNt := Lib.hid (p := S.length = n ∧ R.length ≤ k + 1 ∧ T.length ≤ k + 1 ∧ ∀ t ∈ T, t.2.2.length ≤ 256) ⟨HN.out.1, by have := HN.out.2.1; omega, by have := HN.out.2.2.1; omega, HN.out.2.2.2⟩
              clear HC HR hlt
              obtain ⟨Aw, cw, hrow⟩ := HDt.out.row
              have HDd := Lib.hid ((HDt.out.kept (below_drw wr)).most (Nat.le_succ k))
              go_wp2_with fail
              go_region_with (first
                | (go_at_call 26; refine HDd.out.waiting.mono ?_; rintro e19 w19 ⟨rfl, hw19⟩; obtain rfl := hw19.symm)
                | (go_at_call 26; refine HDt.out.waiting.mono ?_; rintro e19 w19 ⟨rfl, hw19⟩; obtain rfl := hw19.symm))
              all_goals
                go_wp2_with fail
                go_roundw
                case rel => exact ⟨k + 1, _, _, _, _, by have := HGO.out; omega, by have := HGO.out; omega, by go_num, HDd, HNt, Lib.hid (below_nxt (below_drw wr) HBt.out)⟩
                case measure => have := HGO.out; simp [intOf]; omega
      have e0 : (K == 0) = false := beq_false_of_ne k0
      have e1 : (K == 1) = false := beq_false_of_ne k1
      have e2 : (K == 2) = false := beq_false_of_ne k2
      have e3 : (K == 3) = false := beq_false_of_ne k3
      have i4 := Lib.hid (p := (Try.prog.info? 35).map (·.size) = some (tampC d.tk d.ta d.tn d.TA d.tl.length d.tcap).length) (by kernel_rfl)
      clear k0 k1 k2 k3
      go_wp2_with (first
        | (refine wpList_load_mid rfl 37 _ rfl gd (od + k * 9) rfl (dc d) _ HRG.out Try.underlying37 rfl info_do ?_)
        | (refine step_alloc rfl 9 rfl 37 rfl dz hz.out ?_; intro g5 w5 hr5 hg5 hb5 hs5
           have HB5 := Lib.hid hb5
           have HG5 := Lib.hid hg5
           clear hg5 hb5 hs5)
        | (refine step_store rfl 37 _ _ rfl g5 rfl _ _ (dc d) rfl hr5 rfl info_do (dc_one d) ?_; intro w6 hr6 hg6 hs6
           have hb6 : Below wr.heap.size wr w6 := HB5.out.grown hg6 HB5.out.size (fun q hq => by injection hq with hq; rw [← hq, HG5.out]; exact Nat.le_refl _)
           have HD6 := Lib.hid (HD.out.kept hb6)
           have HB6 := Lib.hid (below_nxt hb6 HB.out)
           have HR6 := Lib.hid hr6
           have q0 := hr6.cell 0
           have q1 := hr6.cell 1
           have q2 := hr6.cell 2
           have q3 := hr6.cell 3
           have q4 := hr6.cell 4
           have q5 := hr6.cell 5
           have q6 := hr6.cell 6
           have q7 := hr6.cell 7
           have q8 := hr6.cell 8
           simp [dc] at q0 q1 q2 q3 q4 q5 q6 q7 q8
           rw [hK] at q0
           rw [hZ] at q1
           clear hr5 hr6 hg6 hs6 hb6))
      by_cases htr : TampRef S.length d.tk d.ta d.tn
      · have HTR := Lib.hid htr
        clear htr
        refine wp_region_held_drew (S := fun W => Row W g5 37 (dc d)) (by kernel_rfl) HR6.out.drew (fun hHeld => ?_)
        refine wpAnyH_take (i := 0) (oi := ⟨some 74, .move (.tmp 5), _, _, _, _⟩) (v := .pointer (some ⟨g, 0, none⟩)) rfl (by kernel_rfl) (by kernel_rfl) (by kernel_rfl) (fun _ _ _ h => h) (.inl ⟨by rfl, fun w hSw => by go_simp⟩) (by assumption) ?_
        simp only [Act.put, List.setIfInBounds_toArray, List.set_cons_zero, List.set_cons_succ]
        refine wpAnyH_take (i := 1) (oi := ⟨some 75, .fieldAddr 37 (.tmp 9) 5, _, _, _, _⟩) (v := .pointer (some ⟨g5, 5, none⟩)) rfl (by kernel_rfl) (by kernel_rfl) (by kernel_rfl) (fun _ _ _ h => h) (.inl ⟨by rfl, fun w hSw => by go_simp⟩) (by assumption) ?_
        simp only [Act.put, List.setIfInBounds_toArray, List.set_cons_zero, List.set_cons_succ]
        refine wpAnyH_take (i := 2) (oi := ⟨some 76, .load 35 (.tmp 75), _, _, _, _⟩) (v := .agg (tampC d.tk d.ta d.tn d.TA d.tl.length d.tcap).toArray) rfl (by kernel_rfl) (by kernel_rfl) (by kernel_rfl) (fun _ _ _ h => h) (yieldsIf_load_mid (by rfl) 35 (.tmp 75) rfl g5 5 rfl (tampC d.tk d.ta d.tn d.TA d.tl.length d.tcap) _ (fun w hSw => do_tamp hSw) Try.underlying35 rfl i4.out) (by assumption) ?_
        simp only [Act.put, List.setIfInBounds_toArray, List.set_cons_zero, List.set_cons_succ]
        refine wpAnyH_take (i := 4) (oi := ⟨some 78, .move (.tmp 7), _, _, _, _⟩) (v := .pointer (some ⟨gr, 0, none⟩)) rfl (by kernel_rfl) (by kernel_rfl) (by kernel_rfl) (fun _ _ _ h => h) (.inl ⟨by rfl, fun w hSw => by go_simp⟩) (by assumption) ?_
        simp only [Act.put, List.setIfInBounds_toArray, List.set_cons_zero, List.set_cons_succ]
        refine wpAnyH_take (i := 5) (oi := ⟨some 79, .fieldAddr 37 (.tmp 9) 5, _, _, _, _⟩) (v := .pointer (some ⟨g5, 5, none⟩)) rfl (by kernel_rfl) (by kernel_rfl) (by kernel_rfl) (fun _ _ _ h => h) (.inl ⟨by rfl, fun w hSw => by go_simp⟩) (by assumption) ?_
        simp only [Act.put, List.setIfInBounds_toArray, List.set_cons_zero, List.set_cons_succ]
        refine wpAnyH_take (i := 6) (oi := ⟨some 80, .load 35 (.tmp 79), _, _, _, _⟩) (v := .agg (tampC d.tk d.ta d.tn d.TA d.tl.length d.tcap).toArray) rfl (by kernel_rfl) (by kernel_rfl) (by kernel_rfl) (fun _ _ _ h => h) (yieldsIf_load_mid (by rfl) 35 (.tmp 79) rfl g5 5 rfl (tampC d.tk d.ta d.tn d.TA d.tl.length d.tcap) _ (fun w hSw => do_tamp hSw) Try.underlying35 rfl i4.out) (by assumption) ?_
        simp only [Act.put, List.setIfInBounds_toArray, List.set_cons_zero, List.set_cons_succ]
        refine wpAnyH_ready (rs := [3]) (by kernel_rfl) (by simp) ?_
        refine AllReadyH.cons (o := ⟨some 77, .call ⟨.value (.func 24), #[.tmp 74, .tmp 76], _⟩, _, _, _, _⟩) rfl (fun K hK => ?_) AllReadyH.nil
        go_simp
        have HD6d := Lib.hid (HD6.out.kept (below_drw w6))
        have HB6d := Lib.hid (p := Below w.heap.size w w6.drew) (below_nxt (below_drw w6) HB6.out)
        have HR6d := Lib.hid (p := Row w6.drew g5 37 (dc d)) HR6.out.drew
        refine (HD6d.out.refused_l d.tk d.ta d.tn d.TA _ d.tcap HTR.out).mono ?_
        rintro e8 w8 ⟨rfl, hb8⟩
        have HDx0 := Lib.hid (HD6d.out.kept hb8.out)
        have HBx0 := Lib.hid (p := Below w.heap.size w w8) (below_nxt hb8.out HB6d.out)
        have HRx0 := Lib.hid (HR6d.out.kept hb8.out)
        refine hK.out _ _ HRx0.out (fun hH0 => ?_)
        clear hK
        refine wpAnyH_ready (rs := [7]) (by kernel_rfl) (by simp) ?_
        refine AllReadyH.cons (o := ⟨some 81, .call ⟨.value (.func 25), #[.tmp 78, .tmp 80], _⟩, _, _, _, _⟩) rfl (fun K hK => ?_) AllReadyH.nil
        go_simp
        refine (HDx0.out.refused_r d.tk d.ta d.tn d.TA _ d.tcap HTR.out).mono ?_
        rintro e9 wt ⟨rfl, hb9⟩
        have HDx1 := Lib.hid (HDx0.out.kept hb9.out)
        have HBx1 := Lib.hid (p := Below w.heap.size w wt) (below_nxt hb9.out HBx0.out)
        have HRx1 := Lib.hid (HRx0.out.kept hb9.out)
        refine hK.out _ _ HRx1.out (fun hH1 => ?_)
        clear hK
        refine wpAnyH_take (i := 8) (oi := ⟨some 82, .binOp .neq 26 (.tmp 77) (.tmp 81) 26, _, _, _, _⟩) (v := .bool false) rfl (by kernel_rfl) (by kernel_rfl) (by kernel_rfl) (fun _ _ _ h => h) (.inl ⟨by rfl, fun w hSw => by go_simp⟩) (by assumption) ?_
        simp only [Act.put, List.setIfInBounds_toArray, List.set_cons_zero, List.set_cons_succ]
        refine wpAnyH_done (by kernel_rfl) ?_ _
        have HDt := HDx1
        have HBt := HBx1
        have HNt := Lib.hid (p := S.length = n ∧ R.length ≤ k + 1 ∧ T.length ≤ k + 1 ∧ ∀ t ∈ T, t.2.2.length ≤ 256) ⟨HN.out.1, by have := HN.out.2.1; omega, by have := HN.out.2.2.1; omega, HN.out.2.2.2⟩
        clear HDx0 HDx1 HBx0 HBx1 HRx0 HRx1 HD6d HB6d HR6d hHeld
        try clear hH0 hH1
        obtain ⟨Aw, cw, hrow⟩ := HDt.out.row
        have HDd := Lib.hid ((HDt.out.kept (below_drw wt)).most (Nat.le_succ k))
        go_wp2_with fail
        go_region_with (first
          | (go_at_call 26; refine HDd.out.waiting.mono ?_; rintro e19 w19 ⟨rfl, hw19⟩; obtain rfl := hw19.symm)
          | (go_at_call 26; refine HDt.out.waiting.mono ?_; rintro e19 w19 ⟨rfl, hw19⟩; obtain rfl := hw19.symm))
        all_goals
          go_wp2_with fail
          go_roundw
          case rel => exact ⟨k + 1, _, _, _, _, by have := HGO.out; omega, by have := HGO.out; omega, by go_num, HDd, HNt, Lib.hid (below_nxt (below_drw wt) HBt.out)⟩
          case measure => have := HGO.out; simp [intOf]; omega
      · have HTR := Lib.hid htr
        clear htr
        refine wp_region_held_drew (S := fun W => Row W g5 37 (dc d)) (by kernel_rfl) HR6.out.drew (fun hHeld => ?_)
        refine wpAnyH_take (i := 0) (oi := ⟨some 74, .move (.tmp 5), _, _, _, _⟩) (v := .pointer (some ⟨g, 0, none⟩)) rfl (by kernel_rfl) (by kernel_rfl) (by kernel_rfl) (fun _ _ _ h => h) (.inl ⟨by rfl, fun w hSw => by go_simp⟩) (by assumption) ?_
        simp only [Act.put, List.setIfInBounds_toArray, List.set_cons_zero, List.set_cons_succ]
        refine wpAnyH_take (i := 1) (oi := ⟨some 75, .fieldAddr 37 (.tmp 9) 5, _, _, _, _⟩) (v := .pointer (some ⟨g5, 5, none⟩)) rfl (by kernel_rfl) (by kernel_rfl) (by kernel_rfl) (fun _ _ _ h => h) (.inl ⟨by rfl, fun w hSw => by go_simp⟩) (by assumption) ?_
        simp only [Act.put, List.setIfInBounds_toArray, List.set_cons_zero, List.set_cons_succ]
        refine wpAnyH_take (i := 2) (oi := ⟨some 76, .load 35 (.tmp 75), _, _, _, _⟩) (v := .agg (tampC d.tk d.ta d.tn d.TA d.tl.length d.tcap).toArray) rfl (by kernel_rfl) (by kernel_rfl) (by kernel_rfl) (fun _ _ _ h => h) (yieldsIf_load_mid (by rfl) 35 (.tmp 75) rfl g5 5 rfl (tampC d.tk d.ta d.tn d.TA d.tl.length d.tcap) _ (fun w hSw => do_tamp hSw) Try.underlying35 rfl i4.out) (by assumption) ?_
        simp only [Act.put, List.setIfInBounds_toArray, List.set_cons_zero, List.set_cons_succ]
        refine wpAnyH_take (i := 4) (oi := ⟨some 78, .move (.tmp 7), _, _, _, _⟩) (v := .pointer (some ⟨gr, 0, none⟩)) rfl (by kernel_rfl) (by kernel_rfl) (by kernel_rfl) (fun _ _ _ h => h) (.inl ⟨by rfl, fun w hSw => by go_simp⟩) (by assumption) ?_
        simp only [Act.put, List.setIfInBounds_toArray, List.set_cons_zero, List.set_cons_succ]
        refine wpAnyH_take (i := 5) (oi := ⟨some 79, .fieldAddr 37 (.tmp 9) 5, _, _, _, _⟩) (v := .pointer (some ⟨g5, 5, none⟩)) rfl (by kernel_rfl) (by kernel_rfl) (by kernel_rfl) (fun _ _ _ h => h) (.inl ⟨by rfl, fun w hSw => by go_simp⟩) (by assumption) ?_
        simp only [Act.put, List.setIfInBounds_toArray, List.set_cons_zero, List.set_cons_succ]
        refine wpAnyH_take (i := 6) (oi := ⟨some 80, .load 35 (.tmp 79), _, _, _, _⟩) (v := .agg (tampC d.tk d.ta d.tn d.TA d.tl.length d.tcap).toArray) rfl (by kernel_rfl) (by kernel_rfl) (by kernel_rfl) (fun _ _ _ h => h) (yieldsIf_load_mid (by rfl) 35 (.tmp 79) rfl g5 5 rfl (tampC d.tk d.ta d.tn d.TA d.tl.length d.tcap) _ (fun w hSw => do_tamp hSw) Try.underlying35 rfl i4.out) (by assumption) ?_
        simp only [Act.put, List.setIfInBounds_toArray, List.set_cons_zero, List.set_cons_succ]
        refine wpAnyH_ready (rs := [3]) (by kernel_rfl) (by simp) ?_
        refine AllReadyH.cons (o := ⟨some 77, .call ⟨.value (.func 24), #[.tmp 74, .tmp 76], _⟩, _, _, _, _⟩) rfl (fun K hK => ?_) AllReadyH.nil
        go_simp
        have HD6d := Lib.hid (HD6.out.kept (below_drw w6))
        have HB6d := Lib.hid (p := Below w.heap.size w w6.drew) (below_nxt (below_drw w6) HB6.out)
        have HR6d := Lib.hid (p := Row w6.drew g5 37 (dc d)) HR6.out.drew
        refine (HD6d.out.tamper_l (by have h1 := HN.out.2.1; have h2 := HGO.out; omega) (by have h1 := HN.out.2.2.1; have h2 := HGO.out; omega) (by rw [HN.out.1]; exact HN2.out) d.tk d.ta d.tn d.TA _ d.tcap d.tl rfl ((HD1.out.below HB6d.out).at_ k d HDK.out).2.t HTR.out (lit_max ((HD1.out.at_ k d HDK.out).2.w5))).mono ?_
        rintro e8 w8 ⟨rfl, hd8, hc8⟩
        have HDx0 := hd8
        have HBx0 := Lib.hid (p := Below w.heap.size w w8) (by
          obtain ⟨F8, hC8, _, hl8⟩ := hc8.out
          exact Below.trans HB6d.out (hC8.below (Below.size HB6d.out) (fun q hq => Nat.le_trans HBS.out (hl8 q hq))))
        have HRx0 := Lib.hid (p := Row w8 g5 37 (dc d)) (by
          obtain ⟨F8, hC8, hb8, _⟩ := hc8.out
          exact do_kept HR6d.out hC8 hb8)
        refine hK.out _ _ HRx0.out (fun hH0 => ?_)
        clear hK
        refine wpAnyH_ready (rs := [7]) (by kernel_rfl) (by simp) ?_
        refine AllReadyH.cons (o := ⟨some 81, .call ⟨.value (.func 25), #[.tmp 78, .tmp 80], _⟩, _, _, _, _⟩) rfl (fun K hK => ?_) AllReadyH.nil
        go_simp
        refine (HDx0.out.tamper_r (by have h1 := HN.out.2.1; have h2 := HGO.out; omega) (by have := HGO.out; omega) (by rw [HN.out.1]; exact HN2.out) d.tk d.ta d.tn d.TA _ d.tcap d.tl rfl ((HD1.out.below HBx0.out).at_ k d HDK.out).2.t HTR.out).mono ?_
        rintro e9 wt ⟨rfl, hd9, hc9⟩
        have HDx1 := hd9
        have HBx1 := Lib.hid (p := Below w.heap.size w wt) (by
          obtain ⟨F8, hC8, _, hl8⟩ := hc9.out
          exact Below.trans HBx0.out (hC8.below (Below.size HBx0.out) (fun q hq => Nat.le_trans HBS4.out (hl8 q hq))))
        have HRx1 := Lib.hid (p := Row wt g5 37 (dc d)) (by
          obtain ⟨F8, hC8, hb8, _⟩ := hc9.out
          exact do_kept HRx0.out hC8 hb8)
        refine hK.out _ _ HRx1.out (fun hH1 => ?_)
        clear hK
        refine wpAnyH_take (i := 8) (oi := ⟨some 82, .binOp .neq 26 (.tmp 77) (.tmp 81) 26, _, _, _, _⟩) (v := .bool false) rfl (by kernel_rfl) (by kernel_rfl) (by kernel_rfl) (fun _ _ _ h => h) (.inl ⟨by rfl, fun w hSw => by go_simp⟩) (by assumption) ?_
        simp only [Act.put, List.setIfInBounds_toArray, List.set_cons_zero, List.set_cons_succ]
        refine wpAnyH_done (by kernel_rfl) ?_ _
        have HDt := HDx1
        have HBt := HBx1
        have HNt := Lib.hid (p := (tampS S R EE d.tk d.ta d.tn d.tl).length = n ∧ (tampR R d.tk d.ta).length ≤ k + 1 ∧ T.length ≤ k + 1 ∧ ∀ t ∈ T, t.2.2.length ≤ 256) ⟨by rw [tampS_len]; exact HN.out.1, by have h1 := tampR_len R d.tk d.ta; have := HN.out.2.1; omega, by have := HN.out.2.2.1; omega, HN.out.2.2.2⟩
        clear HDx0 HDx1 HBx0 HBx1 HRx0 HRx1 HD6d HB6d HR6d hHeld
        try clear hH0 hH1
        obtain ⟨Aw, cw, hrow⟩ := HDt.out.row
        have HDd := Lib.hid ((HDt.out.kept (below_drw wt)).most (Nat.le_succ k))
        go_wp2_with fail
        go_region_with (first
          | (go_at_call 26; refine HDd.out.waiting.mono ?_; rintro e19 w19 ⟨rfl, hw19⟩; obtain rfl := hw19.symm)
          | (go_at_call 26; refine HDt.out.waiting.mono ?_; rintro e19 w19 ⟨rfl, hw19⟩; obtain rfl := hw19.symm))
        all_goals
          go_wp2_with fail
          go_roundw
          case rel => exact ⟨k + 1, _, _, _, _, by have := HGO.out; omega, by have := HGO.out; omega, by go_num, HDd, HNt, Lib.hid (below_nxt (below_drw wt) HBt.out)⟩
          case measure => have := HGO.out; simp [intOf]; omega
    · rcases (show k = ds.length ∨ (k < ds.length ∧ k = 120) by omega) with hk9 | ⟨hk9, hk10⟩
      · have hz1 : ¬ (k : Int) < (ds.length : Int) := by omega
        have hz2 : ¬ k < ds.length := by omega
        have hk120 : k ≤ 120 := hk2
        clear hgo hk9
        obtain ⟨At, ct, xsT, hc3', hxT, hTA⟩ := HD.out.trc_r HN.out.2.2.2
        obtain ⟨Tn, hTn⟩ : ∃ Tn, xsT.length = Tn := ⟨_, rfl⟩
        rw [hTn] at hc3'
        have hc3 : wr.drew.cell? ⟨gr, 3, none⟩ = some (.slice At Tn ct) := hc3'
        have HTM := Lib.hid (p := Tn ≤ 1000000) (by rw [← hTn, ← List.length_map (f := tv), hxT]; have := HN.out.2.2.1; omega)
        have HTN := Lib.hid (p := xsT.length = Tn ∧ xsT.map tv = T) ⟨hTn, hxT⟩
        have HTA := Lib.hid hTA
        have HTL := Lib.hid (p := ∀ W : World, Duo w2.heap.size w4.heap.size W g gr S R EE T S R EE T k [] → Calls Try.prog 28 #[.pointer (some ⟨g, 0, none⟩)] W fun e w' => ∃ B n d xs, e = .returned (.slice B n d) ∧ Hid (n = xs.length ∧ xs.map tv = T) ∧ Hid (TrAt w' B xs) ∧ Hid (Below W.heap.size W w')) (fun W h => h.trace_l (by have := HN.out.2.2.1; omega) HN.out.2.2.2)
        clear hTn hxT hTA hc3'
        go_wp2_with fail
        refine wp_region_held_drew (S := fun W => W.cell? ⟨gr, 3, none⟩ = some (.slice At Tn ct)) (by kernel_rfl) hc3 (fun hHeld => ?_)
        refine wpAnyH_take (i := 0) (oi := ⟨some 186, .move (.tmp 5), _, _, _, _⟩) (v := .pointer (some ⟨g, 0, none⟩)) rfl (by kernel_rfl) (by kernel_rfl) (by kernel_rfl) (fun _ _ _ h => h) (.inl ⟨by rfl, fun w hSw => by go_simp⟩) (by assumption) ?_
        simp only [Act.put, List.setIfInBounds_toArray, List.set_cons_zero, List.set_cons_succ]
        refine wpAnyH_take (i := 2) (oi := ⟨some 188, .move (.tmp 7), _, _, _, _⟩) (v := .pointer (some ⟨gr, 0, none⟩)) rfl (by kernel_rfl) (by kernel_rfl) (by kernel_rfl) (fun _ _ _ h => h) (.inl ⟨by rfl, fun w hSw => by go_simp⟩) (by assumption) ?_
        simp only [Act.put, List.setIfInBounds_toArray, List.set_cons_zero, List.set_cons_succ]
        refine wpAnyH_take (i := 3) (oi := ⟨some 189, .nilCheck (.tmp 188), _, _, _, _⟩) (v := .pointer (some ⟨gr, 0, none⟩)) rfl (by kernel_rfl) (by kernel_rfl) (by kernel_rfl) (fun _ _ _ h => h) (.inl ⟨by rfl, fun w hSw => by go_simp⟩) (by assumption) ?_
        simp only [Act.put, List.setIfInBounds_toArray, List.set_cons_zero, List.set_cons_succ]
        refine wpAnyH_take (i := 4) (oi := ⟨some 190, .fieldAddr 49 (.tmp 189) 3, _, _, _, _⟩) (v := .pointer (some ⟨gr, 3, none⟩)) rfl (by kernel_rfl) (by kernel_rfl) (by kernel_rfl) (fun _ _ _ h => h) (.inl ⟨by rfl, fun w hSw => by go_simp⟩) (by assumption) ?_
        simp only [Act.put, List.setIfInBounds_toArray, List.set_cons_zero, List.set_cons_succ]
        refine wpAnyH_take (i := 5) (oi := ⟨some 191, .load 47 (.tmp 190), _, _, _, _⟩) (v := .slice At Tn ct) rfl (by kernel_rfl) (by kernel_rfl) (by kernel_rfl) (fun _ _ _ h => h) (.inl ⟨by rfl, fun w hSw => by go_simp⟩) (by assumption) ?_
        simp only [Act.put, List.setIfInBounds_toArray, List.set_cons_zero, List.set_cons_succ]
        refine wpAnyH_ready (rs := [1]) (by kernel_rfl) (by simp) ?_
        refine AllReadyH.cons (o := ⟨some 187, .call ⟨.value (.func 28), #[.tmp 186], _⟩, _, _, _, _⟩) rfl (fun K hK => ?_) AllReadyH.nil
        go_simp
        refine (HTL.out wr.drew (HD.out.kept (below_drw wr))).mono ?_
        rintro e9 w9 ⟨B9, n9, d9, xs9, rfl, HX9, HT9, HB9⟩
        have hc39 : w9.cell? ⟨gr, 3, none⟩ = some (.slice At Tn ct) := (HB9.out.cell (p := ⟨gr, 3, none⟩) (World.block_lt_of_cell? wr.drew _ hc3)).trans hc3
        have HD9 := Lib.hid ((HD.out.kept (below_drw wr)).kept HB9.out)
        have HA9 := Lib.hid ((HTA.out.below (below_drw wr)).below HB9.out)
        have HBw9 := Lib.hid (p := Below w.heap.size w w9) (below_nxt HB9.out (below_nxt (below_drw wr) HB.out))
        have hn9 : n9 = Tn := by rw [HX9.out.1, ← HTN.out.1, ← List.length_map (f := tv), HX9.out.2, ← HTN.out.2, List.length_map]
        subst hn9
        refine hK.out _ _ hc39 (fun hH0 => ?_)
        clear hK
        refine wpAnyH_ready (rs := [6]) (by kernel_rfl) (by simp) ?_
        refine AllReadyH.cons (o := ⟨some 192, .call ⟨.value (.func 27), #[.tmp 187, .tmp 191], _⟩, _, _, _, _⟩) rfl (fun K hK => ?_) AllReadyH.nil
        go_simp
        have htr := traces_any B9 At d9 ct xs9 xsT w9 HT9.out HA9.out (by rw [← HX9.out.1]; exact HTM.out) (by rw [HTN.out.1]; exact HTM.out)
        rw [← HX9.out.1, HTN.out.1, decide_eq_true (show xs9.map tv = xsT.map tv by rw [HX9.out.2, HTN.out.2])] at htr
        refine htr.mono ?_
        clear htr
        rintro e10 w10 ⟨rfl, hb10⟩
        have hc310 : w10.cell? ⟨gr, 3, none⟩ = some (.slice At n9 ct) := (hb10.cell (p := ⟨gr, 3, none⟩) (World.block_lt_of_cell? w9 _ hc39)).trans hc39
        have HD10 := Lib.hid (HD9.out.kept hb10)
        have HBw10 := Lib.hid (p := Below w.heap.size w w10) (below_nxt hb10 HBw9.out)
        clear hb10
        refine hK.out _ _ hc310 (fun hH1 => ?_)
        clear hK
        refine wpAnyH_take (i := 7) (oi := ⟨some 193, .unOp .not 4 (.tmp 192), _, _, _, _⟩) (v := .bool false) rfl (by kernel_rfl) (by kernel_rfl) (by kernel_rfl) (fun _ _ _ h => h) (.inl ⟨by rfl, fun w hSw => by go_simp⟩) (by assumption) ?_
        simp only [Act.put, List.setIfInBounds_toArray, List.set_cons_zero, List.set_cons_succ]
        refine wpAnyH_take (i := 8) (oi := ⟨some 194, .move (.tmp 193), _, _, _, _⟩) (v := .bool false) rfl (by kernel_rfl) (by kernel_rfl) (by kernel_rfl) (fun _ _ _ h => h) (.inl ⟨by rfl, fun w hSw => by go_simp⟩) (by assumption) ?_
        simp only [Act.put, List.setIfInBounds_toArray, List.set_cons_zero, List.set_cons_succ]
        refine wpAnyH_take (i := 9) (oi := ⟨some 195, .move (.tmp 5), _, _, _, _⟩) (v := .pointer (some ⟨g, 0, none⟩)) rfl (by kernel_rfl) (by kernel_rfl) (by kernel_rfl) (fun _ _ _ h => h) (.inl ⟨by rfl, fun w hSw => by go_simp⟩) (by assumption) ?_
        simp only [Act.put, List.setIfInBounds_toArray, List.set_cons_zero, List.set_cons_succ]
        refine wpAnyH_take (i := 11) (oi := ⟨some 197, .move (.tmp 7), _, _, _, _⟩) (v := .pointer (some ⟨gr, 0, none⟩)) rfl (by kernel_rfl) (by kernel_rfl) (by kernel_rfl) (fun _ _ _ h => h) (.inl ⟨by rfl, fun w hSw => by go_simp⟩) (by assumption) ?_
        simp only [Act.put, List.setIfInBounds_toArray, List.set_cons_zero, List.set_cons_succ]
        refine wpAnyH_take (i := 12) (oi := ⟨some 198, .nilCheck (.tmp 197), _, _, _, _⟩) (v := .pointer (some ⟨gr, 0, none⟩)) rfl (by kernel_rfl) (by kernel_rfl) (by kernel_rfl) (fun _ _ _ h => h) (.inl ⟨by rfl, fun w hSw => by go_simp⟩) (by assumption) ?_
        simp only [Act.put, List.setIfInBounds_toArray, List.set_cons_zero, List.set_cons_succ]
        refine wpAnyH_take (i := 13) (oi := ⟨some 199, .fieldAddr 49 (.tmp 198) 3, _, _, _, _⟩) (v := .pointer (some ⟨gr, 3, none⟩)) rfl (by kernel_rfl) (by kernel_rfl) (by kernel_rfl) (fun _ _ _ h => h) (.inl ⟨by rfl, fun w hSw => by go_simp⟩) (by assumption) ?_
        simp only [Act.put, List.setIfInBounds_toArray, List.set_cons_zero, List.set_cons_succ]
        refine wpAnyH_take (i := 14) (oi := ⟨some 200, .load 47 (.tmp 199), _, _, _, _⟩) (v := .slice At n9 ct) rfl (by kernel_rfl) (by kernel_rfl) (by kernel_rfl) (fun _ _ _ h => h) (.inl ⟨by rfl, fun w hSw => by go_simp⟩) (by assumption) ?_
        simp only [Act.put, List.setIfInBounds_toArray, List.set_cons_zero, List.set_cons_succ]
        refine wpAnyH_take (i := 15) (oi := ⟨some 201, .call ⟨.builtin .len, #[.tmp 200], _⟩, _, _, _, _⟩) (v := .int .i64 (n9 : Int)) rfl (by kernel_rfl) (by kernel_rfl) (by kernel_rfl) (fun _ _ _ h => h) (.inl ⟨by rfl, fun w hSw => by go_simp⟩) (by assumption) ?_
        simp only [Act.put, List.setIfInBounds_toArray, List.set_cons_zero, List.set_cons_succ]
        refine wpAnyH_ready (rs := [10]) (by kernel_rfl) (by simp) ?_
        refine AllReadyH.cons (o := ⟨some 196, .call ⟨.value (.func 29), #[.tmp 195], _⟩, _, _, _, _⟩) rfl (fun K hK => ?_) AllReadyH.nil
        go_simp
        refine (HD10.out.touched_l).mono ?_
        rintro e11 w11 ⟨rfl, hw11⟩
        obtain rfl := hw11.symm
        have hTl : (T.length : Int) = (n9 : Int) := by rw [← HTN.out.2, List.length_map, HTN.out.1]
        rw [hTl]
        clear hTl
        refine hK.out _ _ hc310 (fun hH2 => ?_)
        clear hK
        refine wpAnyH_take (i := 16) (oi := ⟨some 202, .binOp .neq 3 (.tmp 196) (.tmp 201) 3, _, _, _, _⟩) (v := .bool false) rfl (by kernel_rfl) (by kernel_rfl) (by kernel_rfl) (fun _ _ _ h => h) (.inl ⟨by rfl, fun w hSw => by go_simp⟩) (by assumption) ?_
        simp only [Act.put, List.setIfInBounds_toArray, List.set_cons_zero, List.set_cons_succ]
        refine wpAnyH_take (i := 17) (oi := ⟨some 203, .pick (.tmp 194) (.const (.bool true)) (.tmp 202), _, _, _, _⟩) (v := .bool false) rfl (by kernel_rfl) (by kernel_rfl) (by kernel_rfl) (fun _ _ _ h => h) (.inl ⟨by rfl, fun w hSw => by go_simp⟩) (by assumption) ?_
        simp only [Act.put, List.setIfInBounds_toArray, List.set_cons_zero, List.set_cons_succ]
        refine wpAnyH_done (by kernel_rfl) ?_ _
        clear hHeld hH0 hH1 hH2 hc310 hc39 HA9 HTA HTL HX9 HT9 HBw9 HD9 HB9
        go_wp2_with fail
        go_loopw [19] (fun x wr => ∃ (j : Nat) (T' : List (Int × Int × List UInt8)), j ≤ n ∧ x = .int .i64 (j : Int) ∧ Hid (Duo w2.heap.size w4.heap.size wr g gr S R EE T' S R EE T k []) ∧ Hid (T'.length ≤ 120 + j) ∧ Hid (Below w.heap.size w wr)) (fun x _ => n - (intOf x).toNat)
        case atStart => exact ⟨0, T, Nat.zero_le _, rfl, HD10, Lib.hid (by have := HN.out.2.2.1; omega), HBw10⟩
        case round =>
          clear HD10 HBw10
          obtain ⟨j, T', hj, rfl, HDj, HTj, HBj⟩ := hrel
          by_cases hlt : j < n
          · have hjS : j < S.length := by rw [HN.out.1]; exact hlt
            have HN2' := HN2.out
            go_wp2_with (fail)
            refine (HDj.out.read_l j hjS (by have := HN.out.2.1; omega) (by have := HTj.out; omega)).mono ?_
            rintro e12 w12 ⟨x12, rfl, HX12, HO12, HK12, HC12⟩
            obtain ⟨K12, _, _, hd12⟩ := HK12.out
            have HD12 := Lib.hid hd12.void
            have HB12 := Lib.hid (p := Below w.heap.size w w12) (by
              obtain ⟨F8, hC8, _, hl8⟩ := HC12.out
              exact HBj.out.trans (hC8.below HBj.out.size (fun q hq => Nat.le_trans HBS.out (hl8 q hq))))
            have HNL := Lib.hid (HDj.out.now_len j hjS)
            have hl12 : x12.l.length = 256 := by rw [HX12.out]; exact HNL.out
            rw [hl12]
            have HL12 := Lib.hid hl12
            have HJS := Lib.hid hjS
            clear hl12 hd12 HK12 HC12 hjS
            go_wp2_with (fail)
            refine (HD12.out.now_r j HJS.out (by have := HN.out.2.1; omega)).mono ?_
            rintro e13 w13 ⟨⟨y13, rfl, HY13, HH13⟩, hw13⟩
            obtain rfl := hw13.symm
            have hl13 : y13.l.length = 256 := by rw [HY13.out]; exact HNL.out
            have hby := rbytes_any x12.A y13.A x12.c y13.c x12.l y13.l w12 HO12.out.hol HH13.out (by rw [HL12.out]; decide) (by rw [hl13]; decide)
            rw [HL12.out, hl13, decide_eq_true (show x12.l = y13.l by rw [HX12.out, HY13.out])] at hby
            unfold bvv
            rw [hl13]
            have HBY := Lib.hid hby
            clear hby hl13
            go_wp2_with (fail)
            refine HBY.out.mono ?_
            rintro e14 w14 ⟨rfl, hb14⟩
            have HDz := Lib.hid (HD12.out.kept hb14)
            have HBz := Lib.hid (below_nxt hb14 HB12.out)
            clear hb14 HBY HD12 HB12
            go_wp2
            go_roundw
            case rel => exact ⟨j + 1, _, hlt, by go_num, HDz, Lib.hid (by rw [List.length_append]; have := HTj.out; simp; omega), HBz⟩
            case measure => simp [intOf]; omega
          · obtain rfl : j = n := by omega
            go_wp2
            go_ret
            exact ⟨rfl, HBj.out⟩
      · have hz1 : (k : Int) < (ds.length : Int) := by omega
        have hz2 : ¬ (k : Int) < 120 := by omega
        have hk120 : k ≤ 120 := hk2
        clear hgo
        obtain ⟨At, ct, xsT, hc3', hxT, hTA⟩ := HD.out.trc_r HN.out.2.2.2
        obtain ⟨Tn, hTn⟩ : ∃ Tn, xsT.length = Tn := ⟨_, rfl⟩
        rw [hTn] at hc3'
        have hc3 : wr.drew.cell? ⟨gr, 3, none⟩ = some (.slice At Tn ct) := hc3'
        have HTM := Lib.hid (p := Tn ≤ 1000000) (by rw [← hTn, ← List.length_map (f := tv), hxT]; have := HN.out.2.2.1; omega)
        have HTN := Lib.hid (p := xsT.length = Tn ∧ xsT.map tv = T) ⟨hTn, hxT⟩
        have HTA := Lib.hid hTA
        have HTL := Lib.hid (p := ∀ W : World, Duo w2.heap.size w4.heap.size W g gr S R EE T S R EE T k [] → Calls Try.prog 28 #[.pointer (some ⟨g, 0, none⟩)] W fun e w' => ∃ B n d xs, e = .returned (.slice B n d) ∧ Hid (n = xs.length ∧ xs.map tv = T) ∧ Hid (TrAt w' B xs) ∧ Hid (Below W.heap.size W w')) (fun W h => h.trace_l (by have := HN.out.2.2.1; omega) HN.out.2.2.2)
        clear hTn hxT hTA hc3'
        go_wp2_with fail
        refine wp_region_held_drew (S := fun W => W.cell? ⟨gr, 3, none⟩ = some (.slice At Tn ct)) (by kernel_rfl) hc3 (fun hHeld => ?_)
        refine wpAnyH_take (i := 0) (oi := ⟨some 186, .move (.tmp 5), _, _, _, _⟩) (v := .pointer (some ⟨g, 0, none⟩)) rfl (by kernel_rfl) (by kernel_rfl) (by kernel_rfl) (fun _ _ _ h => h) (.inl ⟨by rfl, fun w hSw => by go_simp⟩) (by assumption) ?_
        simp only [Act.put, List.setIfInBounds_toArray, List.set_cons_zero, List.set_cons_succ]
        refine wpAnyH_take (i := 2) (oi := ⟨some 188, .move (.tmp 7), _, _, _, _⟩) (v := .pointer (some ⟨gr, 0, none⟩)) rfl (by kernel_rfl) (by kernel_rfl) (by kernel_rfl) (fun _ _ _ h => h) (.inl ⟨by rfl, fun w hSw => by go_simp⟩) (by assumption) ?_
        simp only [Act.put, List.setIfInBounds_toArray, List.set_cons_zero, List.set_cons_succ]
        refine wpAnyH_take (i := 3) (oi := ⟨some 189, .nilCheck (.tmp 188), _, _, _, _⟩) (v := .pointer (some ⟨gr, 0, none⟩)) rfl (by kernel_rfl) (by kernel_rfl) (by kernel_rfl) (fun _ _ _ h => h) (.inl ⟨by rfl, fun w hSw => by go_simp⟩) (by assumption) ?_
        simp only [Act.put, List.setIfInBounds_toArray, List.set_cons_zero, List.set_cons_succ]
        refine wpAnyH_take (i := 4) (oi := ⟨some 190, .fieldAddr 49 (.tmp 189) 3, _, _, _, _⟩) (v := .pointer (some ⟨gr, 3, none⟩)) rfl (by kernel_rfl) (by kernel_rfl) (by kernel_rfl) (fun _ _ _ h => h) (.inl ⟨by rfl, fun w hSw => by go_simp⟩) (by assumption) ?_
        simp only [Act.put, List.setIfInBounds_toArray, List.set_cons_zero, List.set_cons_succ]
        refine wpAnyH_take (i := 5) (oi := ⟨some 191, .load 47 (.tmp 190), _, _, _, _⟩) (v := .slice At Tn ct) rfl (by kernel_rfl) (by kernel_rfl) (by kernel_rfl) (fun _ _ _ h => h) (.inl ⟨by rfl, fun w hSw => by go_simp⟩) (by assumption) ?_
        simp only [Act.put, List.setIfInBounds_toArray, List.set_cons_zero, List.set_cons_succ]
        refine wpAnyH_ready (rs := [1]) (by kernel_rfl) (by simp) ?_
        refine AllReadyH.cons (o := ⟨some 187, .call ⟨.value (.func 28), #[.tmp 186], _⟩, _, _, _, _⟩) rfl (fun K hK => ?_) AllReadyH.nil
        go_simp
        refine (HTL.out wr.drew (HD.out.kept (below_drw wr))).mono ?_
        rintro e9 w9 ⟨B9, n9, d9, xs9, rfl, HX9, HT9, HB9⟩
        have hc39 : w9.cell? ⟨gr, 3, none⟩ = some (.slice At Tn ct) := (HB9.out.cell (p := ⟨gr, 3, none⟩) (World.block_lt_of_cell? wr.drew _ hc3)).trans hc3
        have HD9 := Lib.hid ((HD.out.kept (below_drw wr)).kept HB9.out)
        have HA9 := Lib.hid ((HTA.out.below (below_drw wr)).below HB9.out)
        have HBw9 := Lib.hid (p := Below w.heap.size w w9) (below_nxt HB9.out (below_nxt (below_drw wr) HB.out))
        have hn9 : n9 = Tn := by rw [HX9.out.1, ← HTN.out.1, ← List.length_map (f := tv), HX9.out.2, ← HTN.out.2, List.length_map]
        subst hn9
        refine hK.out _ _ hc39 (fun hH0 => ?_)
        clear hK
        refine wpAnyH_ready (rs := [6]) (by kernel_rfl) (by simp) ?_
        refine AllReadyH.cons (o := ⟨some 192, .call ⟨.value (.func 27), #[.tmp 187, .tmp 191], _⟩, _, _, _, _⟩) rfl (fun K hK => ?_) AllReadyH.nil
        go_simp
        have htr := traces_any B9 At d9 ct xs9 xsT w9 HT9.out HA9.out (by rw [← HX9.out.1]; exact HTM.out) (by rw [HTN.out.1]; exact HTM.out)
        rw [← HX9.out.1, HTN.out.1, decide_eq_true (show xs9.map tv = xsT.map tv by rw [HX9.out.2, HTN.out.2])] at htr
        refine htr.mono ?_
        clear htr
        rintro e10 w10 ⟨rfl, hb10⟩
        have hc310 : w10.cell? ⟨gr, 3, none⟩ = some (.slice At n9 ct) := (hb10.cell (p := ⟨gr, 3, none⟩) (World.block_lt_of_cell? w9 _ hc39)).trans hc39
        have HD10 := Lib.hid (HD9.out.kept hb10)
        have HBw10 := Lib.hid (p := Below w.heap.size w w10) (below_nxt hb10 HBw9.out)
        clear hb10
        refine hK.out _ _ hc310 (fun hH1 => ?_)
        clear hK
        refine wpAnyH_take (i := 7) (oi := ⟨some 193, .unOp .not 4 (.tmp 192), _, _, _, _⟩) (v := .bool false) rfl (by kernel_rfl) (by kernel_rfl) (by kernel_rfl) (fun _ _ _ h => h) (.inl ⟨by rfl, fun w hSw => by go_simp⟩) (by assumption) ?_
        simp only [Act.put, List.setIfInBounds_toArray, List.set_cons_zero, List.set_cons_succ]
        refine wpAnyH_take (i := 8) (oi := ⟨some 194, .move (.tmp 193), _, _, _, _⟩) (v := .bool false) rfl (by kernel_rfl) (by kernel_rfl) (by kernel_rfl) (fun _ _ _ h => h) (.inl ⟨by rfl, fun w hSw => by go_simp⟩) (by assumption) ?_
        simp only [Act.put, List.setIfInBounds_toArray, List.set_cons_zero, List.set_cons_succ]
        refine wpAnyH_take (i := 9) (oi := ⟨some 195, .move (.tmp 5), _, _, _, _⟩) (v := .pointer (some ⟨g, 0, none⟩)) rfl (by kernel_rfl) (by kernel_rfl) (by kernel_rfl) (fun _ _ _ h => h) (.inl ⟨by rfl, fun w hSw => by go_simp⟩) (by assumption) ?_
        simp only [Act.put, List.setIfInBounds_toArray, List.set_cons_zero, List.set_cons_succ]
        refine wpAnyH_take (i := 11) (oi := ⟨some 197, .move (.tmp 7), _, _, _, _⟩) (v := .pointer (some ⟨gr, 0, none⟩)) rfl (by kernel_rfl) (by kernel_rfl) (by kernel_rfl) (fun _ _ _ h => h) (.inl ⟨by rfl, fun w hSw => by go_simp⟩) (by assumption) ?_
        simp only [Act.put, List.setIfInBounds_toArray, List.set_cons_zero, List.set_cons_succ]
        refine wpAnyH_take (i := 12) (oi := ⟨some 198, .nilCheck (.tmp 197), _, _, _, _⟩) (v := .pointer (some ⟨gr, 0, none⟩)) rfl (by kernel_rfl) (by kernel_rfl) (by kernel_rfl) (fun _ _ _ h => h) (.inl ⟨by rfl, fun w hSw => by go_simp⟩) (by assumption) ?_
        simp only [Act.put, List.setIfInBounds_toArray, List.set_cons_zero, List.set_cons_succ]
        refine wpAnyH_take (i := 13) (oi := ⟨some 199, .fieldAddr 49 (.tmp 198) 3, _, _, _, _⟩) (v := .pointer (some ⟨gr, 3, none⟩)) rfl (by kernel_rfl) (by kernel_rfl) (by kernel_rfl) (fun _ _ _ h => h) (.inl ⟨by rfl, fun w hSw => by go_simp⟩) (by assumption) ?_
        simp only [Act.put, List.setIfInBounds_toArray, List.set_cons_zero, List.set_cons_succ]
        refine wpAnyH_take (i := 14) (oi := ⟨some 200, .load 47 (.tmp 199), _, _, _, _⟩) (v := .slice At n9 ct) rfl (by kernel_rfl) (by kernel_rfl) (by kernel_rfl) (fun _ _ _ h => h) (.inl ⟨by rfl, fun w hSw => by go_simp⟩) (by assumption) ?_
        simp only [Act.put, List.setIfInBounds_toArray, List.set_cons_zero, List.set_cons_succ]
        refine wpAnyH_take (i := 15) (oi := ⟨some 201, .call ⟨.builtin .len, #[.tmp 200], _⟩, _, _, _, _⟩) (v := .int .i64 (n9 : Int)) rfl (by kernel_rfl) (by kernel_rfl) (by kernel_rfl) (fun _ _ _ h => h) (.inl ⟨by rfl, fun w hSw => by go_simp⟩) (by assumption) ?_
        simp only [Act.put, List.setIfInBounds_toArray, List.set_cons_zero, List.set_cons_succ]
        refine wpAnyH_ready (rs := [10]) (by kernel_rfl) (by simp) ?_
        refine AllReadyH.cons (o := ⟨some 196, .call ⟨.value (.func 29), #[.tmp 195], _⟩, _, _, _, _⟩) rfl (fun K hK => ?_) AllReadyH.nil
        go_simp
        refine (HD10.out.touched_l).mono ?_
        rintro e11 w11 ⟨rfl, hw11⟩
        obtain rfl := hw11.symm
        have hTl : (T.length : Int) = (n9 : Int) := by rw [← HTN.out.2, List.length_map, HTN.out.1]
        rw [hTl]
        clear hTl
        refine hK.out _ _ hc310 (fun hH2 => ?_)
        clear hK
        refine wpAnyH_take (i := 16) (oi := ⟨some 202, .binOp .neq 3 (.tmp 196) (.tmp 201) 3, _, _, _, _⟩) (v := .bool false) rfl (by kernel_rfl) (by kernel_rfl) (by kernel_rfl) (fun _ _ _ h => h) (.inl ⟨by rfl, fun w hSw => by go_simp⟩) (by assumption) ?_
        simp only [Act.put, List.setIfInBounds_toArray, List.set_cons_zero, List.set_cons_succ]
        refine wpAnyH_take (i := 17) (oi := ⟨some 203, .pick (.tmp 194) (.const (.bool true)) (.tmp 202), _, _, _, _⟩) (v := .bool false) rfl (by kernel_rfl) (by kernel_rfl) (by kernel_rfl) (fun _ _ _ h => h) (.inl ⟨by rfl, fun w hSw => by go_simp⟩) (by assumption) ?_
        simp only [Act.put, List.setIfInBounds_toArray, List.set_cons_zero, List.set_cons_succ]
        refine wpAnyH_done (by kernel_rfl) ?_ _
        clear hHeld hH0 hH1 hH2 hc310 hc39 HA9 HTA HTL HX9 HT9 HBw9 HD9 HB9
        go_wp2_with fail
        go_loopw [19] (fun x wr => ∃ (j : Nat) (T' : List (Int × Int × List UInt8)), j ≤ n ∧ x = .int .i64 (j : Int) ∧ Hid (Duo w2.heap.size w4.heap.size wr g gr S R EE T' S R EE T k []) ∧ Hid (T'.length ≤ 120 + j) ∧ Hid (Below w.heap.size w wr)) (fun x _ => n - (intOf x).toNat)
        case atStart => exact ⟨0, T, Nat.zero_le _, rfl, HD10, Lib.hid (by have := HN.out.2.2.1; omega), HBw10⟩
        case round =>
          clear HD10 HBw10
          obtain ⟨j, T', hj, rfl, HDj, HTj, HBj⟩ := hrel
          by_cases hlt : j < n
          · have hjS : j < S.length := by rw [HN.out.1]; exact hlt
            have HN2' := HN2.out
            go_wp2_with (fail)
            refine (HDj.out.read_l j hjS (by have := HN.out.2.1; omega) (by have := HTj.out; omega)).mono ?_
            rintro e12 w12 ⟨x12, rfl, HX12, HO12, HK12, HC12⟩
            obtain ⟨K12, _, _, hd12⟩ := HK12.out
            have HD12 := Lib.hid hd12.void
            have HB12 := Lib.hid (p := Below w.heap.size w w12) (by
              obtain ⟨F8, hC8, _, hl8⟩ := HC12.out
              exact HBj.out.trans (hC8.below HBj.out.size (fun q hq => Nat.le_trans HBS.out (hl8 q hq))))
            have HNL := Lib.hid (HDj.out.now_len j hjS)
            have hl12 : x12.l.length = 256 := by rw [HX12.out]; exact HNL.out
            rw [hl12]
            have HL12 := Lib.hid hl12
            have HJS := Lib.hid hjS
            clear hl12 hd12 HK12 HC12 hjS
            go_wp2_with (fail)
            refine (HD12.out.now_r j HJS.out (by have := HN.out.2.1; omega)).mono ?_
            rintro e13 w13 ⟨⟨y13, rfl, HY13, HH13⟩, hw13⟩
            obtain rfl := hw13.symm
            have hl13 : y13.l.length = 256 := by rw [HY13.out]; exact HNL.out
            have hby := rbytes_any x12.A y13.A x12.c y13.c x12.l y13.l w12 HO12.out.hol HH13.out (by rw [HL12.out]; decide) (by rw [hl13]; decide)
            rw [HL12.out, hl13, decide_eq_true (show x12.l = y13.l by rw [HX12.out, HY13.out])] at hby
            unfold bvv
            rw [hl13]
            have HBY := Lib.hid hby
            clear hby hl13
            go_wp2_with (fail)
            refine HBY.out.mono ?_
            rintro e14 w14 ⟨rfl, hb14⟩
            have HDz := Lib.hid (HD12.out.kept hb14)
            have HBz := Lib.hid (below_nxt hb14 HB12.out)
            clear hb14 HBY HD12 HB12
            go_wp2
            go_roundw
            case rel => exact ⟨j + 1, _, hlt, by go_num, HDz, Lib.hid (by rw [List.length_append]; have := HTj.out; simp; omega), HBz⟩
            case measure => simp [intOf]; omega
          · obtain rfl : j = n := by omega
            go_wp2
            go_ret
            exact ⟨rfl, HBj.out⟩
theorem plays_any (z : Int) (A1 : Option Addr) (c1 : Nat) (ds : List DoV) (hl1 : ds.length ≤ 9223372036854775807) (hS1 : ShortD ds) (w : World) (hD1 : InDo w A1 ds.length c1 ds) :
    Calls Try.prog 3 #[.int .i64 z, .slice A1 ds.length c1] w fun e w' => e = .returned (.bool true) ∧ Below w.heap.size w w' := by
  by_cases hz : z < 1 ∨ 1024 < z
  · exact plays_far z hz A1 c1 ds hl1 hS1 w hD1
  · obtain ⟨n, rfl⟩ := Int.eq_ofNat_of_zero_le (by omega : 0 ≤ z)
    exact plays_in n (by omega) (by omega) A1 c1 ds hl1 hS1 w hD1
end Go.Proofs.Ytnajlineipapdaa
