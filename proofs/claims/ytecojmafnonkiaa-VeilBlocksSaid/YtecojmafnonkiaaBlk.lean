/- The law VeilBlocks, walked: for every key, nonce and count it returns true. Conditions: those on how the arguments lie. -/
import Derived.Test.YtecojmafnonkiaaMasks
import Derived.Deep.RegionHeld3
import Derived.StillTailTactics
set_option linter.unusedVariables false
namespace Go.Proofs.Ytecojmafnonkiaa
open Go.RowKit

theorem vnew_call (A : Option Addr) (c n : Nat) (l : List UInt8) (hn : n = l.length) (hl : l.length = 32) (w : World) (hA : Hol w A l) :
    Calls Try.prog 9 #[.slice A n c] w fun e w' => ∃ g, e = .returned (.tuple #[.pointer (some ⟨g, 0, none⟩), .int .i64 0]) ∧ MaskAt w' g (mk (kx (byl l))) ∧ Below w.heap.size w w' := by
  subst hn
  exact vnew_any A c l hl w hA
theorem anew_call (A : Option Addr) (c n : Nat) (l : List UInt8) (hn : n = l.length) (hl : l.length = 32) (w : World) (hA : Hol w A l) :
    Calls Try.prog 18 #[.slice A n c] w fun e w' => ∃ g, e = .returned (.tuple #[.pointer (some ⟨g, 0, none⟩), .int .i64 0]) ∧ Hid (CipherAt w' g (kx (byl l))) ∧ Below w.heap.size w w' := by
  subst hn
  refine (new_any A c l w hA).mono ?_
  rintro e w' ⟨_, h2⟩
  obtain ⟨g, rfl, _, h3, h4⟩ := h2 hl
  exact ⟨g, rfl, h3, h4.below⟩
theorem hol_from {w : World} {g n m : Nat} {t : TypeId} {f : Nat → UInt8} (h : Row w g t (brr n f)) : Hol w (some ⟨g, m, none⟩) ((lst n f).drop m) := by
  rw [lst_bc] at h
  refine .inr ⟨g, m, rfl, fun j x hx => ?_⟩
  rw [h.cell]
  rw [List.getElem?_drop] at hx
  exact get_bc hx

set_option maxRecDepth 20000 in
set_option maxHeartbeats 2000000 in
theorem blocks_any (f : Nat → UInt8) (e s k : Nat) (he : e < 4294967296) (hs : s < 4294967296) (hk : k < 256) (w : World) :
    Calls Try.prog 7 #[.agg (brr 32 f).toArray, .agg #[.int .u32 (e : Int), .int .u32 (s : Int)], .int .u8 (k : Int)] w fun x w' => x = .returned (.bool true) ∧ Below w.heap.size w w' := by
  have hz := Lib.hid (p := ∀ w : World, (zeroValue 57).run Try.prog w = .ok (.agg (brr 16 (fun _ => 0)).toArray) w) fun w => by kernel_rfl
  have i16 := Lib.hid (p := (Try.prog.info? 57).map (·.size) = some 16) (by kernel_rfl)
  have we : IntKind.u64.wrap (e : Int) = (e : Int) := by simp only [IntKind.wrap, IntKind.bits, IntKind.signed]; simp; omega
  have ws : IntKind.u64.wrap (s : Int) = (s : Int) := by simp only [IntKind.wrap, IntKind.bits, IntKind.signed]; simp; omega
  have wk : IntKind.u64.wrap (k : Int) = (k : Int) := by simp only [IntKind.wrap, IntKind.bits, IntKind.signed]; simp; omega
  have wk6 : IntKind.i64.wrap (k : Int) = (k : Int) := by rw [IntKind.wrap_i64]; omega
  have wk7 : wrap64 (k : Int) = (k : Int) := by unfold wrap64; omega
  have HE := Lib.hid he
  have HS := Lib.hid hs
  have HK := Lib.hid hk
  have HK64 := Lib.hid (p := k < 18446744073709551616) (by omega)
  have hL : (lst 32 f).length = 32 := lst_len _ _
  obtain ⟨l, hl⟩ : ∃ l, lst 32 f = l := ⟨_, rfl⟩
  have HL := Lib.hid (p := l.length = 32) (by rw [← hl]; exact hL)
  have HLF := Lib.hid hl
  clear he hs hk hL hl
  go_enter Try.func7, Try.ntmps7
  go_wp2_with (first
    | (refine step_box rfl 3 rfl 42 _ rfl (brr 32 f) rfl ?_; intro g3 w3 hr3 hg3 hb3 hs3)
    | (refine step_box rfl 4 rfl 25 _ rfl [Value.int .u32 (e : Int), .int .u32 (s : Int)] rfl ?_; intro g4 w4 hr4 hg4 hb4 hs4)
    | (go_at_call 8; refine (awake_any _).mono ?_; rintro x w1 ⟨rfl, hb1⟩
       have hr31 := ((hr3.kept hb4).kept hb1).hol
       rw [HLF.out] at hr31
       have hr41 := hr4.kept hb1
       have HB1 := Lib.hid (below_next hb1 (below_next hb4 hb3))
       clear hr3 hr4 hg3 hg4 hb3 hb4 hb1 hs3 hs4)
    | (go_at_call 9; refine (vnew_call (some ⟨g3, 0, none⟩) 32 32 l HL.out.symm HL.out _ hr31).mono ?_; rintro x w2 ⟨g2, rfl, hM2, hb2⟩)
    | (go_at_call 18; refine (anew_call (some ⟨g3, 0, none⟩) 32 32 l HL.out.symm HL.out _ (hr31.below hb2)).mono ?_; rintro x w5 ⟨gc, rfl, hC5, hb5⟩
       have hr45 := (hr41.kept hb2).kept hb5
       have c0 := hr45.cell 0
       have c1 := hr45.cell 1
       simp at c0 c1
       have HM5 := Lib.hid (hM2.below hb5)
       have HB5 := Lib.hid (below_next hb5 (below_next hb2 HB1.out))
       clear hr31 hr41 hM2 hb2 hb5 HB1)
    | (go_at_call_of 19 (Value.int IntKind.u64 (e : Int)); refine (rput4' none 0 0 [] e rfl _ .none_ HE.out (by simp)).mono ?_; rintro x w6 ⟨A6, c6, m6, rfl, hm6, hH6, hb6⟩
       have hr46 := hr45.kept hb6.out
       have d0 := hr46.cell 0
       have d1 := hr46.cell 1
       simp at d0 d1)
    | (go_at_call_of 19 (Value.int IntKind.u64 (s : Int)); refine (rput4' A6 c6 m6 ([] ++ leb e 4) s (hm6.out.trans (by simp [leb_len])) _ hH6.out HS.out (by simp [leb_len])).mono ?_; rintro x w7 ⟨A7, c7, m7, rfl, hm7, hH7, hb7⟩)
    | (go_at_call_of 19 (Value.int IntKind.u64 (k : Int)); refine (rput8' A7 c7 m7 ([] ++ leb e 4 ++ leb s 4) k (hm7.out.trans (by simp [leb_len])) _ hH7.out HK64.out (by simp [leb_len])).mono ?_; rintro x w8 ⟨A8, c8, m8, rfl, hm8, hH8, hb8⟩)
    | (refine step_alloc rfl 13 rfl 57 rfl _ hz ?_; intro g9 w9 hr9 hg9 hb9 hs9))
  have hm16 : m8 = 16 := by rw [hm8.out]; simp [leb_len]
  subst hm16
  obtain ⟨g8, o8, rfl, hg8, hc8⟩ := hH8.out.some_ (by simp [leb_len])
  have hb68 := below_next hb8.out (below_next hb7.out hb6.out)
  have hb69 := below_next hb9 hb68
  have hIn : Byt w9 g8 o8 16 (ctr e s k) := fun j hj => (hb9.cell (p := ⟨g8, o8 + j, none⟩) hg8).trans (hc8 j _ (ctr_get e s k j hj))
  have q89 : g8 ≠ g9 := by have := hg9.out; omega
  have q9 : w5.heap.size ≤ g9 := by rw [hg9.out]; exact hb68.size
  have q4 : g4 < w5.heap.size := hr45.lt
  have hr49 := hr45.kept hb69
  have HC9 := Lib.hid (hC5.out.kept hb69)
  have HGC := Lib.hid (p := gc ≠ g9) (by have := hC5.out.lt; omega)
  have HM9 := Lib.hid (HM5.out.below hb69)
  have HB9 := Lib.hid (below_next hb69 HB5.out)
  have HB59 := Lib.hid hb69
  rw [show brr 16 (fun _ => (0 : UInt8)) = brr 16 (upto 0 (ctr e s k) fun _ => 0) from by rw [upto_zero]] at hr9
  clear hm8 hc8 hg8 hH8 hb8 hm7 hH7 hb7 hm6 hH6 hb6 hb9 hs9 hg9 hb68 hb69 d0 d1 c0 c1 hr46 hC5
  go_loopw [14] (fun x wr => ∃ j : Nat, j ≤ 16 ∧ x = .int .i64 j ∧ Row wr g9 57 (brr 16 (upto j (ctr e s k) fun _ => 0)) ∧ Byt wr g8 o8 16 (ctr e s k) ∧ Upon g9 w9 wr) (fun x _ => 16 - (intOf x).toNat)
  case atStart => exact ⟨0, by omega, rfl, hr9, hIn, Upon.refl _ _⟩
  case round =>
    clear hr9 hIn
    obtain ⟨j, hj, rfl, hO, hS, hU⟩ := hrel
    by_cases hj16 : j < 16
    · have cS := hS j hj16
      have cO : wr.cell? ⟨g9, j, none⟩ = some (B 0) := by rw [hO.cell, brr_get _ hj16, upto_self]
      have fO := hO.free j
      have HO := Lib.hid hO
      have HSS := Lib.hid hS
      have HU := Lib.hid hU
      clear hO hS hU
      go_wp2
      go_roundw
      case rel => exact ⟨j + 1, by omega, by go_num, by rw [← upto_step, ← brr_set]; exact HO.out.put _ _, HSS.out.far q89 _, HU.out.putAt _⟩
      case measure => simp [intOf]; omega
    · obtain rfl : j = 16 := by omega
      rw [upto_all] at hO
      have q49 : g4 ≠ g9 := by omega
      have hr4u := hr49.upon hU q49
      have c0 := hr4u.cell 0
      have c1 := hr4u.cell 1
      simp at c0 c1
      have HO := Lib.hid hO
      have HCU := Lib.hid (HC9.out.upon hU HGC.out)
      have hb5u : Below w5.heap.size w5 wr := HB59.out.grown hU.by_ HB59.out.size (fun q hq => by injection hq with hq; omega)
      have HMU := Lib.hid (HM5.out.below hb5u)
      have HBU := Lib.hid (below_next hb5u HB5.out)
      obtain ⟨N, hN⟩ : ∃ N, N = 16 * k := ⟨_, rfl⟩
      obtain ⟨P, hP⟩ : ∃ P, P = N + 16 := ⟨_, rfl⟩
      have n1 : wrap64 (16 * (k : Int)) = (N : Int) := by have := HK.out; unfold wrap64; omega
      have n2 : wrap64 ((N : Int) + 16) = (P : Int) := by have := HK.out; unfold wrap64; omega
      have n3 : (N : Int) ≤ (P : Int) := by omega
      have n4 : (0 : Int) ≤ (N : Int) := by omega
      have n5 : ¬ P = N := by omega
      have HNK := Lib.hid hN
      have HPN := Lib.hid hP
      have HP := Lib.hid (p := P ≤ 4096) (by have := HK.out; omega)
      clear hO hS hU hb5u hN hP
      go_wp2_with (first
        | (refine step_load rfl 76 rfl 57 _ rfl _ rfl (brr 16 (ctr e s k)) _ HO.out.all Try.underlying57 rfl (by rw [brr_len]; exact i16) ?_)
        | (go_at_call 20; refine (encrypt_any gc (kx (byl l)) (ctr e s k) _ HCU.out).mono ?_; rintro x w10 ⟨rfl, hc10⟩)
        | (refine step_alloc rfl 15 rfl 57 rfl _ hz ?_; intro g11 w11 hr11 hg11 hb11 hs11)
        | (refine step_store rfl 57 _ _ rfl g11 rfl _ _ (brr 16 (enc (kx (byl l)) (ctr e s k))) rfl hr11 (by rw [brr_len, brr_len]) (by rw [brr_len]; exact i16) (brr_one _ _) ?_; intro w12 hr12 hg12 hs12
           have hb12 : Below wr.heap.size wr w12 := (below_next hb11 hc10.below).grown hg12 (Nat.le_trans hc10.size hb11.size) (fun q hq => by injection hq with hq; rw [← hq, hg11.out]; exact hc10.size)
           have hr4v := hr4u.kept hb12
           have d0 := hr4v.cell 0
           have d1 := hr4v.cell 1
           simp at d0 d1)
        | (go_at_call 10; refine (mask_any g2 _ e s P HE.out HS.out HP.out _ (HMU.out.below hb12)).mono ?_; rintro x w13 ⟨g13, rfl, hr13, hg13, hb13⟩))
      have A13 := Lib.hid (p := Hol w13.drew (some ⟨g13, N, none⟩) ((lst P (mk (kx (byl l)) e s)).drop N)) (hol_from hr13.drew)
      have A12 := Lib.hid (p := Hol w13.drew (some ⟨g11, 0, none⟩) (lst 16 (enc (kx (byl l)) (ctr e s k)))) (hr12.kept hb13).drew.hol
      have heq : (lst P (mk (kx (byl l)) e s)).drop N = lst 16 (enc (kx (byl l)) (ctr e s k)) := by
        apply List.ext_getElem?
        intro j
        rw [List.getElem?_drop]
        by_cases hj : j < 16
        · rw [lst_get _ (by have := HPN.out; omega), lst_get _ hj, HNK.out, mk_at _ _ _ _ _ hj]
        · rw [List.getElem?_eq_none (by rw [lst_len]; have := HPN.out; omega), List.getElem?_eq_none (by rw [lst_len]; omega)]
      have HEQ := Lib.hid heq
      have HB13 := Lib.hid (below_next hb13 (below_next hb12 HBU.out))
      have HT1 := Lib.hid (p := P - N = ((lst P (mk (kx (byl l)) e s)).drop N).length) (by rw [List.length_drop, lst_len])
      have HT2 := Lib.hid (p := 16 = (lst 16 (enc (kx (byl l)) (ctr e s k))).length) (lst_len _ _).symm
      have HT3 := Lib.hid (p := ((lst P (mk (kx (byl l)) e s)).drop N).length ≤ 1099511627776) (by rw [heq, lst_len]; omega)
      have HT4 := Lib.hid (p := (lst 16 (enc (kx (byl l)) (ctr e s k))).length ≤ 1099511627776) (by rw [lst_len]; omega)
      clear hb13 hb12 hr13 hr12 hr11 hg11 hg12 hb11 hc10 hs11 hs12 hr4v hr4u d0 d1 c0 c1 HO HCU HMU HBU heq
      have hpp : ((P : Int) == (P : Int)) = true := by simp
      have o1 : IntKind.i64.wrap (16 * (k : Int)) = (N : Int) := by rw [IntKind.wrap_i64]; have := HK.out; have := HNK.out; omega
      have o2 : IntKind.i64.wrap ((N : Int) + 16) = (P : Int) := by rw [IntKind.wrap_i64]; have := HK.out; have := HNK.out; have := HPN.out; omega
      go_still_tail 14, (by kernel_rfl)
      change wpList _ _ _ _ _ w13.drew
      go_wp2_with (go_at_call 11
                   refine (bytes_call (some ⟨g13, N, none⟩) (some ⟨g11, 0, none⟩) (P - N) 16 (P - N) 16 _ _ HT1.out HT2.out _ A13.out A12.out HT3.out HT4.out).mono ?_
                   rintro x w14 ⟨rfl, hb14⟩)
      all_goals
        go_ret
        exact ⟨by rw [HEQ.out]; simp, below_next hb14 (below_next (below_draw _) HB13.out)⟩
end Go.Proofs.Ytecojmafnonkiaa
