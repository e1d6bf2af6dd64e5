/- A key's mask, by the reference: what the call leaves, for every key of 32 bytes, nonce and length up to 2^20. No other conditions. -/
import Derived.Test.YtecojmafnonkiaaRPut
import Derived.Test.YtecojmafnonkiaaRKeys
import Derived.Test.YtecojmafnonkiaaREnc
import Derived.Test.YtecojmafnonkiaaCalm
import Derived.Test.YtecojmafnonkiaaCtr
set_option linter.unusedVariables false
namespace Go.Proofs.Ytecojmafnonkiaa
open Go.RowKit

theorem rput4' (A : Option Addr) (c n : Nat) (l : List UInt8) (x : Nat) (hn : n = l.length) (w : World) (hA : Hol w A l) (hx : x < 4294967296) (hl : l.length ≤ 100) :
    Calls Try.prog 19 #[.slice A n c, .int .i64 4, .int .u64 x] w fun e w' => ∃ A' c' m, e = .returned (.tuple #[.slice A' m c', .int .i64 0]) ∧ Hid (m = l.length + 4) ∧ Hid (Hol w' A' (l ++ leb x 4)) ∧ Hid (Below w.heap.size w w') := by
  subst hn
  refine (rput4 A c l x w hA hx (by omega)).mono ?_
  rintro e w' ⟨v, rfl, hown, hb⟩
  obtain ⟨hm, A', c', rfl, _, _, hH⟩ := own_form hown
  exact ⟨A', c', _, rfl, hm.symm, hH, hb⟩
theorem rput8' (A : Option Addr) (c n : Nat) (l : List UInt8) (x : Nat) (hn : n = l.length) (w : World) (hA : Hol w A l) (hx : x < 18446744073709551616) (hl : l.length ≤ 100) :
    Calls Try.prog 19 #[.slice A n c, .int .i64 8, .int .u64 x] w fun e w' => ∃ A' c' m, e = .returned (.tuple #[.slice A' m c', .int .i64 0]) ∧ Hid (m = l.length + 8) ∧ Hid (Hol w' A' (l ++ leb x 8)) ∧ Hid (Below w.heap.size w w') := by
  subst hn
  refine (rput8 A c l x w hA hx (by omega)).mono ?_
  rintro e w' ⟨v, rfl, hown, hb⟩
  obtain ⟨hm, A', c', rfl, _, _, hH⟩ := own_form hown
  exact ⟨A', c', _, rfl, hm.symm, hH, hb⟩
theorem own_kept {w w' : World} {base : Nat} {e : TypeId} {size n : Nat} {v : Value} {xs : List Value} (h : w.ownsRow base e size v n xs) (hb : Below w.heap.size w w') : w'.ownsRow base e size v n xs := by
  refine h.kept (grown_of_below (row := some w.heap.size) hb) ?_
  cases hv : v.ownBlock with
  | none => exact .inl rfl
  | some k =>
    refine .inr (fun e => ?_)
    injection e with e
    have := (h.lt k hv).2
    omega
theorem boxAt_of {w : World} {g o : Nat} (h : Byt w g o 256 sbf) : BoxAt w g o := ⟨h.lt (by omega), fun x => by
  rw [h x.toNat (u8_lt x)]
  unfold sbf
  rw [UInt8.ofNat_toNat]⟩
theorem own_sl {w : World} {base : Nat} {e : TypeId} {size n : Nat} {v : Value} {xs : List Value} (h : w.ownsRow base e size v n xs) : ∃ A c, v = .slice A n c := by
  rcases h.2 with ⟨rfl, rfl⟩ | ⟨g, cap, cur, rfl, _⟩
  · exact ⟨none, 0, rfl⟩
  · exact ⟨_, _, rfl⟩
theorem own_cp {w : World} {base : Nat} {e : TypeId} {g n cap : Nat} {xs : List Value} (h : w.ownsRow base e 1 (.slice (some ⟨g, 0, none⟩) n cap) n xs) : n ≤ cap := by
  rcases h.2 with ⟨h', _⟩ | ⟨g', cap', cur, h', _, _, hnc, _⟩
  · simp at h'
  · simp only [Value.slice.injEq] at h'
    omega

set_option maxRecDepth 20000 in
set_option maxHeartbeats 4000000 in
theorem rkey_any (A : Option Addr) (c : Nat) (l : List UInt8) (hl : l.length = 32) (e s n : Nat) (he : e < 4294967296) (hs : s < 4294967296) (hn : n ≤ 1048576) (w : World) (hA : Hol w A l) :
    Calls Try.prog 12 #[.slice A l.length c, .int .u32 e, .int .u32 s, .int .i64 n] w fun x w' => ∃ v, x = .returned v ∧ w'.ownsRow w.heap.size 5 1 v n (brr n (mk (keyK l) e s)) ∧ Below w.heap.size w w' := by
  obtain ⟨MK, hMK⟩ : ∃ MK, MK = mk (keyK l) e s := ⟨_, rfl⟩
  rw [← hMK]
  have HMK := Lib.hid hMK
  clear hMK
  obtain ⟨i, U⟩ := u8_tab
  have hz := Lib.hid (p := ∀ w : World, (zeroValue 57).run Try.prog w = .ok (.agg (brr 16 (fun _ => 0)).toArray) w) fun w => by kernel_rfl
  have i16 := Lib.hid (p := (Try.prog.info? 57).map (·.size) = some 16) (by kernel_rfl)
  have HA := Lib.hid hA
  have HL := Lib.hid hl
  clear hA
  have we : IntKind.u64.wrap (e : Int) = e := by simp [IntKind.wrap, IntKind.bits, IntKind.signed]; omega
  have ws : IntKind.u64.wrap (s : Int) = s := by simp [IntKind.wrap, IntKind.bits, IntKind.signed]; omega
  have HE := Lib.hid he
  have HS := Lib.hid hs
  have HNN := Lib.hid hn
  clear he hs hn hl
  go_enter Try.func12, Try.ntmps12
  go_wp2_with (first
    | (go_at_call 23; refine (rboxes_any _).mono ?_; rintro x w1 ⟨v1, rfl, hown1, hb1⟩; obtain ⟨gb, cb, rfl, _, _⟩ := hown1.form (by omega))
    | (go_at_call 24; refine (rkeys_any A c l HL.out gb 0 256 cb rfl _ (HA.out.below hb1) (boxAt_of (own_byt hown1))).mono ?_; rintro x w2 ⟨v2, rfl, hown2, hb2⟩))
  obtain ⟨gk, ck, rfl, _, _⟩ := hown2.form (by omega)
  have hck := own_cp hown2
  have hK : Byt w2 gk 0 240 (keyK l) := own_byt hown2
  have hBX : BoxAt w2 gb 0 := (boxAt_of (own_byt hown1)).below hb2 (hown1.lt gb rfl).2
  have hbw : Below w.heap.size w w2 := hb1.trans (hb2.mono hb1.size)
  have HK := Lib.hid hK
  have HBX := Lib.hid hBX
  have HBW := Lib.hid hbw
  clear hown1 hown2 hb1 hb2 hK hBX hbw
  go_loopw [12, 11] (fun x v wr => ∃ k : Nat, k ≤ n ∧ x = .int .i64 k ∧ wr.ownsRow w2.heap.size 5 1 v (min (16 * k) n) (brr (min (16 * k) n) MK) ∧ Below w2.heap.size w2 wr) (fun x _ _ => n + 1 - (intOf x).toNat)
  case atStart => exact ⟨0, by omega, rfl, by rw [show min (16 * 0) n = 0 by omega, brr_zero]; exact World.ownsRow_nil _ _ _ _, Below.refl _ _⟩
  case round =>
    obtain ⟨wa, rfl⟩ : ∃ wa : World, wa = wr := ⟨_, rfl⟩
    obtain ⟨k, hk, rfl, hown, hbel⟩ := hrel
    by_cases hlt : 16 * k < n
    · rw [show min (16 * k) n = 16 * k by omega] at hown
      obtain ⟨L, hL⟩ : ∃ L : Nat, L = 16 * k := ⟨_, rfl⟩
      rw [← hL] at hown
      obtain ⟨Ao, co, rfl⟩ := own_sl hown
      have hLn : (L : Int) < n := by omega
      have wk : IntKind.u64.wrap (k : Int) = k := by simp [IntKind.wrap, IntKind.bits, IntKind.signed]; have := HNN.out; omega
      have HW1 : Hid (wrap64 ((k : Int) + 1) = (k : Int) + 1) := Lib.hid (by unfold wrap64; have := HNN.out; omega)
      have HK64 : Hid (k < 18446744073709551616) := Lib.hid (by have := HNN.out; omega)
      have HOWN := Lib.hid hown
      have HBEL := Lib.hid hbel
      have HLL := Lib.hid hL
      have HLT := Lib.hid hlt
      clear hown hbel hL hlt
      go_wp2_with (first
        | (go_at_call_of 19 (Value.int IntKind.u64 (e : Nat)); refine (rput4' none 0 0 [] e rfl _ .none_ HE.out (by decide)).mono ?_; rintro x w3 ⟨A3, c3, m3, rfl, hm3, hH3, hb3⟩)
        | (go_at_call_of 19 (Value.int IntKind.u64 (s : Nat)); refine (rput4' A3 c3 m3 ([] ++ leb e 4) s (hm3.out.trans (by simp [leb_len])) _ hH3.out HS.out (by simp [leb_len])).mono ?_; rintro x w4 ⟨A4, c4, m4, rfl, hm4, hH4, hb4⟩)
        | (go_at_call_of 19 (Value.int IntKind.u64 (k : Nat)); refine (rput8' A4 c4 m4 ([] ++ leb e 4 ++ leb s 4) k (hm4.out.trans (by simp [leb_len])) _ hH4.out HK64.out (by simp [leb_len])).mono ?_; rintro x w5 ⟨A5, c5, m5, rfl, hm5, hH5, hb5⟩)
        | (refine step_alloc rfl 15 rfl 57 rfl _ hz ?_; intro g6 w6 hr6 hg6 hb6 hs6))
      have hm16 : m5 = 16 := by rw [hm5.out]; simp [leb_len]
      subst hm16
      obtain ⟨g5, o5, rfl, hg5, hc5⟩ := hH5.out.some_ (by simp [leb_len])
      have hb3' := hb3.out
      have hb34 := hb3'.trans (hb4.out.mono hb3'.size)
      have hb35 := hb34.trans (hb5.out.mono hb34.size)
      have hb36 := hb35.trans (hb6.mono hb35.size)
      have hIn : Byt w6 g5 o5 16 (ctr e s k) := fun j hj => (hb6.cell (p := ⟨g5, o5 + j, none⟩) hg5).trans (hc5 j _ (ctr_get e s k j hj))
      have q56 : g5 ≠ g6 := by have := hg6.out; omega
      have qa6 : wa.heap.size ≤ g6 := by rw [hg6.out]; exact hb35.size
      have hOut : w6.ownsRow w2.heap.size 5 1 (.slice Ao L co) L (brr L MK) := own_kept HOWN.out hb36
      have hB26 : Below w2.heap.size w2 w6 := HBEL.out.trans (hb36.mono HBEL.out.size)
      have HOUT := Lib.hid hOut
      have HB26 := Lib.hid hB26
      have HSZ := Lib.hid hb36.size
      rw [show brr 16 (fun _ => (0 : UInt8)) = brr 16 (upto 0 (ctr e s k) fun _ => 0) from by rw [upto_zero]] at hr6
      clear hm3 hm4 hm5 hH3 hH4 hH5 hb3 hb4 hb5 hg6 hb6 hs6 hg5 hc5 hb3' hb34 hb35 hb36 hOut hB26
      go_loopw [16] (fun x wr => ∃ j : Nat, j ≤ 16 ∧ x = .int .i64 j ∧ Row wr g6 57 (brr 16 (upto j (ctr e s k) fun _ => 0)) ∧ Byt wr g5 o5 16 (ctr e s k) ∧ Upon g6 w6 wr) (fun x _ => 16 - (intOf x).toNat)
      case atStart => exact ⟨0, by omega, rfl, hr6, hIn, Upon.refl _ _⟩
      case round =>
        clear hr6 hIn
        obtain ⟨j, hj, rfl, hO, hS, hU⟩ := hrel
        by_cases hj16 : j < 16
        · have cS := hS j hj16
          have cO : wr.cell? ⟨g6, j, none⟩ = some (B 0) := by rw [hO.cell, brr_get _ hj16, upto_self]
          have fO := hO.free j
          have HO := Lib.hid hO
          have HSS := Lib.hid hS
          have HU := Lib.hid hU
          clear hO hS hU
          go_wp2
          go_roundw
          case rel => exact ⟨j + 1, by omega, by go_num, by rw [← upto_step, ← brr_set]; exact HO.out.put _ _, HSS.out.far q56 _, HU.out.putAt _⟩
          case measure => simp [intOf]; omega
        · obtain rfl : j = 16 := by omega
          rw [upto_all] at hO
          have hne6 : (Value.slice Ao L co).ownBlock ≠ some g6 := fun e => by have := (HOWN.out.lt g6 e).2; omega
          have hOutR : wr.ownsRow w2.heap.size 5 1 (.slice Ao L co) L (brr L MK) := HOUT.out.kept hU.by_ (.inr hne6)
          have q26 : w2.heap.size ≤ g6 := Nat.le_trans HBEL.out.size qa6
          have hB2 : Below w2.heap.size w2 wr := HB26.out.grown hU.by_ HB26.out.size (fun k hk => by injection hk with hk; omega)
          have HO := Lib.hid hO
          have HOUTR := Lib.hid hOutR
          have HB2 := Lib.hid hB2
          have HKR := Lib.hid (HK.out.below hB2 (HK.out.lt (by omega)))
          have HBR := Lib.hid (HBX.out.below hB2 HBX.out.1)
          clear hO hS hU hOutR hB2
          go_wp2_with (first
            | (refine step_load rfl 61 rfl 57 _ rfl _ rfl (brr 16 (ctr e s k)) _ HO.out.all Try.underlying57 rfl (by rw [brr_len]; exact i16) ?_)
            | (go_at_call 25; refine (renc_any gk ck 240 (keyK l) (ctr e s k) rfl hck gb 0 256 cb rfl _ HKR.out HBR.out).mono ?_; rintro x w7 ⟨rfl, hb7⟩)
            | (refine step_alloc rfl 17 rfl 57 rfl _ hz ?_; intro g8 w8 hr8 hg8 hb8 hs8)
            | (refine step_store rfl 57 _ _ rfl g8 rfl _ (brr 16 (fun _ => 0)) (brr 16 (enc (keyK l) (ctr e s k))) rfl hr8 (by rw [brr_len, brr_len]) (by rw [brr_len]; exact i16) (brr_one _ _) ?_; intro w9 hr9 hg9 hs9))
          have hb78 : Below wr.heap.size wr w8 := hb7.trans (hb8.mono hb7.size)
          have hne8 : (Value.slice Ao L co).ownBlock ≠ some g8 := fun e => by have := (HOUTR.out.lt g8 e).2; have := hg8.out; have := hb7.size; omega
          have q28 : w2.heap.size ≤ g8 := by rw [hg8.out]; exact Nat.le_trans HB2.out.size hb7.size
          have hOut8 : w9.ownsRow w2.heap.size 5 1 (.slice Ao L co) (L + 0) (brr (L + 0) MK) := (own_kept HOUTR.out hb78).kept hg9 (.inr hne8)
          have hB8 : Below w2.heap.size w2 w8 := HB2.out.trans (hb78.mono HB2.out.size)
          have hB9 : Below w2.heap.size w2 w9 := hB8.grown hg9 hB8.size (fun k hk => by injection hk with hk; omega)
          clear hb7 hb8 hg8 hs8 hg9 hs9 hb78 hr8 hB8 HO HOUTR HB2 HKR HBR hne6
          go_loopw [18, 11] (fun x v wr => ∃ j : Nat, j ≤ 16 ∧ L + j ≤ n ∧ x = .int .i64 j ∧ wr.ownsRow w2.heap.size 5 1 v (L + j) (brr (L + j) MK) ∧ v.ownBlock ≠ some g8 ∧ Row wr g8 57 (brr 16 (enc (keyK l) (ctr e s k))) ∧ Below w2.heap.size w2 wr) (fun x _ _ => 16 - (intOf x).toNat)
          case atStart => exact ⟨0, by omega, by omega, rfl, hOut8, hne8, hr9, hB9⟩
          case round =>
            clear hOut8 hne8 hr9 hB9
            obtain ⟨j, hj, hjn, rfl, hown, hne, hR, hB⟩ := hrel
            obtain ⟨Av, cv, rfl⟩ := own_sl hown
            by_cases hj16 : j < 16
            · by_cases hLj : L + j < n
              · have hLji : (L : Int) + j < n := by omega
                have cP : wr.cell? ⟨g8, j, none⟩ = some (B (enc (keyK l) (ctr e s k) j)) := by rw [hR.cell, brr_get _ hj16]
                have HMV : Hid (MK (L + j) = enc (keyK l) (ctr e s k) j) := Lib.hid (by rw [HMK.out, HLL.out]; exact mk_at _ _ _ _ _ hj16)
                have HOWNJ := Lib.hid hown
                have HNE := Lib.hid hne
                have HRJ := Lib.hid hR
                have HBJ := Lib.hid hB
                have HN7 : Hid (L + j ≤ 70368744177664) := Lib.hid (by have := HNN.out; omega)
                clear hown hne hR hB hLj
                go_wp2_with (at_builtin; refine wp_one rfl (.tmp 73) (.tmp 77) 22 rfl 5 i U w2.heap.size (.slice Av (L + j) cv) (L + j) MK rfl (HOWNJ.out.alloc _) wr.heap.size rfl (by rw [HMV.out]; exact made_byte _ _ _) HN7.out (by have := HBJ.out.size; simp; omega) ?_; intro v10 w10 hown10 hg10 hat10)
                have hb10 : Below w2.heap.size w2 w10 := (HBJ.out.alloc HBJ.out.size _).grown hg10 (by have := HBJ.out.size; simp; omega) (fun q hq => (HOWNJ.out.lt q hq).1)
                have hr10 := (HRJ.out.alloc (.cells #[B (enc (keyK l) (ctr e s k) j)] 5)).grown hg10 (fun e => HNE.out e.symm)
                have hne10 : v10.ownBlock ≠ some g8 := by
                  rcases hat10 with h | h
                  · rw [h]
                    exact HNE.out
                  · rw [h]
                    intro e
                    injection e with e
                    have := HRJ.out.lt
                    simp at e
                    omega
                clear hg10 hat10
                go_roundw
                case rel => exact ⟨j + 1, by omega, by omega, by go_num, hown10, hne10, hr10, hb10⟩
                case measure => simp [intOf]; omega
              · have hLji : ¬ (L : Int) + j < n := by omega
                have hfin : wr.ownsRow w2.heap.size 5 1 (.slice Av (L + j) cv) (min (16 * (k + 1)) n) (brr (min (16 * (k + 1)) n) MK) := by
                  rw [show min (16 * (k + 1)) n = L + j by have := HLL.out; omega]
                  exact hown
                have HFIN := Lib.hid hfin
                have HB := Lib.hid hB
                clear hown hne hR hB hLj hfin
                go_wp2
                go_roundw
                case rel =>
                  first
                    | exact ⟨k + 1, by have := HLT.out; omega, by rw [HW1.out]; go_num, HFIN.out, HB.out⟩
                    | (repeat apply Exists.intro
                       apply And.intro ?ra ?rb
                       case rb => exact rfl
                       case ra => exact ⟨k + 1, by have := HLT.out; omega, by rw [HW1.out]; go_num, HFIN.out, HB.out⟩)
                case measure => rw [HW1.out]; simp [intOf]; have := HLT.out; omega
            · have hfin : wr.ownsRow w2.heap.size 5 1 (.slice Av (L + j) cv) (min (16 * (k + 1)) n) (brr (min (16 * (k + 1)) n) MK) := by
                rw [show min (16 * (k + 1)) n = L + j by have := HLL.out; omega]
                exact hown
              have HFIN := Lib.hid hfin
              have HB := Lib.hid hB
              clear hown hne hR hB hfin
              go_wp2
              go_roundw
              case rel =>
                first
                  | exact ⟨k + 1, by have := HLT.out; omega, by rw [HW1.out]; go_num, HFIN.out, HB.out⟩
                  | (repeat apply Exists.intro
                     apply And.intro ?ra ?rb
                     case rb => exact rfl
                     case ra => exact ⟨k + 1, by have := HLT.out; omega, by rw [HW1.out]; go_num, HFIN.out, HB.out⟩)
              case measure => rw [HW1.out]; simp [intOf]; have := HLT.out; omega
    · rw [show min (16 * k) n = n by omega] at hown
      obtain ⟨Ao, co, rfl⟩ := own_sl hown
      have HOWN := Lib.hid hown
      have HBEL := Lib.hid hbel
      clear hown hbel hlt
      go_wp2
      go_ret
      exact ⟨_, rfl, HOWN.out.mono HBW.out.size, HBW.out.trans (HBEL.out.mono HBW.out.size)⟩
end Go.Proofs.Ytecojmafnonkiaa
