/- The law WorldOld, walked: what was written to a block comes back, the latest first. Conditions: those on how the argument lies. -/
import Derived.Test.YtnajlineipapdaaOldW
set_option linter.unusedVariables false
namespace Go.Proofs.Ytnajlineipapdaa
open Go.RowKit

/-- No list of the first k is long. -/
def Short1 (ls : List BV) (k : Nat) : Prop := ∀ (j : Nat) (x : BV), j < k → ls[j]? = some x → x.l.length ≤ 1000
theorem Short1.more {ls : List BV} {k : Nat} {x : BV} (h : Short1 ls k) (hx : ls[k]? = some x) (hl : x.l.length ≤ 1000) : Short1 ls (k + 1) := fun j y hj hy => by
  by_cases e : j = k
  · subst e
    rw [hx] at hy
    injection hy with hy
    subst hy
    exact hl
  · exact h j y (by omega) hy
/-- A row of bytes 0, made where a test let it. -/
theorem step_make_g {P : Program} {w : World} {ops : Array Oper} {rest : List Oper} {o : Oper} {a : Act} {Q : Exit → Act → World → Prop} (hw : Region.wanted o (yielded ops a.tmps) = true) (l c : Operand) (t e : TypeId) (i : TypeInfo) (U : U8 P t e i) (hop : o.op = Op.makeSlice t l c)
    (n : Nat) (hl : a.eval l = .int .i64 n) (hc : a.eval c = .int .i64 n) (hn : n ≤ 70368744177664)
    (h : ∀ g w', _root_.Go.Proofs.Ytnajlineipapdaa.Row w' g e (brr n fun _ => 0) → Hid (g = w.heap.size) → Below w.heap.size w w' → Hid (w'.heap.size = w.heap.size + 1) → wpList P ops Q rest (a.put o.dst (.slice (some ⟨g, 0, none⟩) n n)) w') :
    wpList P ops Q (o :: rest) a w := by
  refine wpList_step fun K hK' => ?_
  rw [if_pos hw]
  have hr := run_make (P := P) w t e i (.int .u8 0) U.ht U.hi U.hz .i64 .i64 n n (by omega) (Int.le_refl _) (by rw [U.h2]; omega) (by omega)
  simp only [Int.toNat_natCast, U.h1] at hr
  rw [made_brr] at hr
  unfold Oper.wp
  simp [execOp, hop, hl, hc, hr, Result.andThen]
  exact hK' _ _ (h _ _ (Row.made w e _) (show _ = _ from rfl) ((Below.refl _ _).alloc (Nat.le_refl _) _) (show _ = _ by simp))
theorem bytes_z (A B : Option Addr) (c : Nat) (a : List UInt8) (w : World) (hA : Hol w A a) (hB : Hol w B (pad [])) (ha : a.length ≤ 9223372036854775807) :
    Calls Try.prog 16 #[.slice A a.length c, .slice B 256 256] w fun e w' => e = .returned (.bool (decide (a = pad []))) ∧ Below w.heap.size w w' := by
  have h := rbytes_any A B c 256 a (pad []) w hA hB ha (by rw [pad_len]; omega)
  rw [pad_len] at h
  exact h
set_option maxRecDepth 20000 in
set_option maxHeartbeats 2000000 in
theorem old_any (A1 : Option Addr) (c1 : Nat) (ls : List BV) (crash : Bool) (hl1 : ls.length ≤ 9223372036854775807) (w : World) (hL : InL w A1 ls.length c1 ls) :
    Calls Try.prog 6 #[.slice A1 ls.length c1, .bool crash] w fun e w' => e = .returned (.bool true) ∧ Below w.heap.size w w' := by
  obtain ⟨i, U⟩ := u8_tab
  have HU := Lib.hid U
  have HL1 := Lib.hid hl1
  have HL := Lib.hid hL
  obtain ⟨N, hN⟩ : ∃ N, min ls.length 40 = N := ⟨_, rfl⟩
  have hmin : (if (40 : Int) < (ls.length : Int) then (40 : Int) else (ls.length : Int)) = (N : Int) := by
    rw [← hN]
    split <;> omega
  have hmin2 : min (ls.length : Int) 40 = (N : Int) := by omega
  have HN := Lib.hid (p := N ≤ ls.length ∧ N ≤ 40) (by omega)
  clear hl1 hL hN U
  go_enter Try.func6, Try.ntmps6
  go_wp2_with (first
    | (go_at_call 8; refine (awake_any _).mono ?_; rintro e1 w1 ⟨rfl, hb1⟩; have HB1 := Lib.hid hb1; clear hb1)
    | (go_at_call 10; refine (new_in 2 (by omega) (by omega) _).mono ?_; rintro e4 w4 ⟨g, F0, x0, rfl, hx0, hD4, hb4⟩
       have HD4 := Lib.hid hD4
       have HB4 := Lib.hid (below_nxt hb4 HB1.out)
       have HX0 := Lib.hid hx0
       clear hD4 hb4 hx0)
    | (at_builtin; refine step_min rfl _ _ _ rfl _ _ (N : Int) rfl rfl hmin ?_))
  have HBS := Lib.hid (p := w.heap.size ≤ w1.heap.size) HB1.out.size
  clear hmin hmin2
  go_loopw [8] (fun x wr => ∃ (k : Nat) (F : List Nat) (rs : List (Nat × BV)) (E : Nat → List BV) (ts : List (Int × Int × BV)), k ≤ N ∧ x = .int .i64 (k : Int) ∧
    Hid (PD w1.heap.size wr g F (List.replicate 2 x0) rs E ts) ∧ Hid (rs.length ≤ k ∧ ts.length ≤ k ∧ ∀ p ∈ rs, p.1 = 1) ∧ Hid (WroteE E ls k ∧ Short1 ls k) ∧ Hid (Below w.heap.size w wr)) (fun x _ => N - (intOf x).toNat)
  case atStart => exact ⟨0, F0, [], _, [], by omega, rfl, HD4, Lib.hid ⟨by simp, by simp, fun p hp => by cases hp⟩, Lib.hid ⟨by simp [WroteE], fun j x hj => by omega⟩, HB4⟩
  case round =>
    clear HD4 HB4
    obtain ⟨k, F, rs, E, ts, hk, rfl, HD, HR, HE, HB⟩ := hrel
    have hkw : IntKind.i64.wrap ((k : Int) + 1) = (k : Int) + 1 := by rw [IntKind.wrap_i64]; have := HN.out; omega
    by_cases hgo : k < N
    · have h1i : (k : Int) < (N : Int) := by omega
      have hk0 : (0 : Int) ≤ (k : Int) := by omega
      have h2i : (k : Int) < (ls.length : Int) := by have := HN.out; omega
      obtain ⟨x, hx⟩ : ∃ x, ls[k]? = some x := ⟨_, List.getElem?_eq_getElem (by omega)⟩
      obtain ⟨⟨gd, od, rfl, d1⟩, hda⟩ := (HL.out.below HB.out).at_ k x hx
      have HXK := Lib.hid hx
      have HDA := Lib.hid hda
      have HGO := Lib.hid hgo
      clear hx hda hgo hk
      by_cases hbig : (1000 : Int) < (x.l.length : Int)
      · go_wp2
        go_ret
        exact ⟨rfl, HB.out⟩
      · have HXL := Lib.hid (p := x.l.length ≤ 1000) (by omega)
        cases crash with
        | false =>
          go_wp2_with (first
            | (go_at_call 31; refine (whole_own x.A _ x.c x.l rfl (by have := HXL.out; omega) wr HDA.out).mono ?_; rintro e6 w6 ⟨x6, rfl, HX6, HO6, HB6⟩)
            | (go_at_call 18; refine ((HD.out.kept HB6.out).write 1 (by rw [List.length_replicate]; omega) x6.A _ x6.c x6.l rfl (by rw [HX6.out, pad_len]) HO6.out.hol (by have := HR.out.1; have := HGO.out; have := HN.out; omega) (by have := HR.out.2.1; have := HGO.out; have := HN.out; omega)).mono ?_; rintro e7 w7 ⟨x7, rfl, HX7, F7, HD7, HC7, HWi7⟩
               have HB7 := Lib.hid (p := Below w.heap.size w w7) ((below_nxt HB6.out HB.out).trans (HC7.out.below (Nat.le_trans HB.out.size HB6.out.size) (fun q hq => Nat.le_trans HBS.out (HD.out.lt q hq).1)))))
          go_roundw
          case rel => exact ⟨k + 1, F7, _, _, _, HGO.out, by go_num, HD7, Lib.hid ⟨by rw [List.length_append]; have := HR.out.1; simp; omega, by rw [List.length_append]; have := HR.out.2.1; simp; omega, fun q hq => by
            rcases List.mem_append.1 hq with hq | hq
            · exact HR.out.2.2 q hq
            · simp at hq
              subst hq
              rfl⟩, Lib.hid ⟨HE.out.1.more HXK.out (HX7.out.trans HX6.out), HE.out.2.more HXK.out HXL.out⟩, HB7⟩
          case measure => have := HGO.out; simp [intOf]; omega
        | true =>
          go_wp2_with (first
            | (go_at_call 31; refine (whole_own x.A _ x.c x.l rfl (by have := HXL.out; omega) wr HDA.out).mono ?_; rintro e6 w6 ⟨x6, rfl, HX6, HO6, HB6⟩)
            | (go_at_call 18; refine ((HD.out.kept HB6.out).write 1 (by rw [List.length_replicate]; omega) x6.A _ x6.c x6.l rfl (by rw [HX6.out, pad_len]) HO6.out.hol (by have := HR.out.1; have := HGO.out; have := HN.out; omega) (by have := HR.out.2.1; have := HGO.out; have := HN.out; omega)).mono ?_; rintro e7 w7 ⟨x7, rfl, HX7, F7, HD7, HC7, HWi7⟩
               have HB7 := Lib.hid (p := Below w.heap.size w w7) ((below_nxt HB6.out HB.out).trans (HC7.out.below (Nat.le_trans HB.out.size HB6.out.size) (fun q hq => Nat.le_trans HBS.out (HD.out.lt q hq).1))))
            | (go_at_call 22; refine (HD7.out.crash (by rw [List.length_append]; have := HR.out.1; have := HGO.out; have := HN.out; simp; omega) none 0 0 [] rfl (.inl rfl) (fun g0 o e hne hq => by cases e)).mono ?_; rintro e8 w8 ⟨rfl, F8, HD8, HC8, HWi8⟩
               have HB8 := Lib.hid (p := Below w.heap.size w w8) (HB7.out.trans (HC8.out.below HB7.out.size (fun q hq => Nat.le_trans HBS.out (HD7.out.lt q hq).1)))))
          rw [syncK_no] at HD8
          go_roundw
          case rel => exact ⟨k + 1, F8, _, _, _, HGO.out, by go_num, HD8, Lib.hid ⟨by simp, by rw [List.length_append]; have := HR.out.2.1; simp; omega, fun q hq => by cases hq⟩, Lib.hid ⟨HE.out.1.more HXK.out (HX7.out.trans HX6.out), HE.out.2.more HXK.out HXL.out⟩, HB8⟩
          case measure => have := HGO.out; simp [intOf]; omega
    · have h1i : ¬ (k : Int) < (N : Int) := by omega
      obtain rfl : k = N := by omega
      clear hgo hk
      go_wp2_with fail
      have HS1 := Lib.hid (p := (List.replicate 2 x0).length = 2 ∧ ((List.replicate 2 x0).getD 0 noBV).l = pad []) ⟨rfl, HX0.out⟩
      clear hkw h1i HX0
      generalize List.replicate 2 x0 = ss1 at HD HS1
      go_loopw [9] (fun x wr => ∃ (q : Nat) (F : List Nat) (ss : List BV) (rs : List (Nat × BV)) (ts : List (Int × Int × BV)), q ≤ k + 1 ∧ x = .int .i64 (q : Int) ∧
        Hid (PD w1.heap.size wr g F ss rs E ts) ∧ Hid (rs.length ≤ 40 ∧ ts.length ≤ 40 + 2 * q ∧ ∀ p ∈ rs, p.1 = 1) ∧ Hid (ss.length = 2 ∧ (ss.getD 0 noBV).l = pad []) ∧ Hid (Below w.heap.size w wr)) (fun x _ => k + 1 - (intOf x).toNat)
      case atStart => exact ⟨0, F, ss1, rs, ts, by omega, rfl, HD, Lib.hid ⟨by have := HR.out.1; have := HN.out; omega, by have := HR.out.2.1; have := HN.out; omega, HR.out.2.2⟩, HS1, HB⟩
      case round =>
        clear HD HR HS1 HB
        obtain ⟨q, F, ss, rs, ts, hq, rfl, HD, HR, HS, HB⟩ := hrel
        have hqw : IntKind.i64.wrap ((q : Int) + 1) = (q : Int) + 1 := by rw [IntKind.wrap_i64]; have := HN.out; omega
        by_cases hgo : q ≤ k
        · have h1i : (q : Int) ≤ (k : Int) := by omega
          have hq0 : (0 : Int) ≤ (q : Int) := by omega
          have HGO := Lib.hid hgo
          have HGN := Lib.hid (p := gone 1 rs = []) (by
            unfold gone
            rw [List.filter_eq_nil_iff]
            intro p hp
            have := HR.out.2.2 p hp
            simp [this])
          by_cases hlt : q < k
          · have h2i : (q : Int) < (k : Int) := by omega
            obtain ⟨j, hj⟩ : ∃ j, k - 1 - q = j := ⟨_, rfl⟩
            have hw1 : wrap64 ((k : Int) - 1) = (k : Int) - 1 := by unfold wrap64; have := HN.out; omega
            have hw2 : wrap64 ((k : Int) - 1 - (q : Int)) = (j : Int) := by unfold wrap64; have := HN.out; omega
            have hw3 : IntKind.i64.wrap ((k : Int) - 1) = (k : Int) - 1 := by rw [IntKind.wrap_i64]; have := HN.out; omega
            have hw4 : IntKind.i64.wrap ((k : Int) - 1 - (q : Int)) = (j : Int) := by rw [IntKind.wrap_i64]; have := HN.out; omega
            have hj0 : (0 : Int) ≤ (j : Int) := by omega
            have hj1 : (j : Int) < (ls.length : Int) := by have := HN.out; omega
            obtain ⟨x, hx⟩ : ∃ x, ls[j]? = some x := ⟨_, List.getElem?_eq_getElem (by omega)⟩
            obtain ⟨⟨gd, od, rfl, _⟩, hda⟩ := (HL.out.below HB.out).at_ j x hx
            have HXK := Lib.hid hx
            have HOE := Lib.hid (p := oldL E 1 q = pad x.l) (HE.out.1.old HN.out.1 hlt (by rw [hj]; exact hx))
            have HXL := Lib.hid (p := x.l.length ≤ 9223372036854775807) (by have := HE.out.2 j x (by omega) hx; omega)
            clear hx hda hgo hq hlt hj
            go_wp2_with (first
              | (refine step_make rfl _ _ 32 5 i HU.out rfl 256 rfl rfl (by omega) ?_; intro gw w5 hr5 hg5 hb5 hs5
                 have HD5 := Lib.hid (HD.out.kept hb5)
                 have HB5 := Lib.hid (below_nxt hb5 HB.out)
                 have HM5 := Lib.hid (p := Own8 w.heap.size w5 ⟨some ⟨gw, 0, none⟩, 256, pad []⟩) (own_fresh (l := []) hr5 (by rw [hg5.out]; exact HB.out.size))
                 obtain ⟨⟨gd2, od2, e0, d15⟩, _⟩ := (HL.out.below HB5.out).at_ j x HXK.out
                 simp only [Option.some.injEq, Addr.mk.injEq] at e0
                 obtain ⟨rfl, rfl, _⟩ := e0
                 clear hr5 hg5 hb5 hs5)
              | (go_at_call 31; refine (whole_own x.A _ x.c x.l rfl HXL.out _ ((HL.out.below HB5.out).at_ j x HXK.out).2).mono ?_; rintro e6 w6 ⟨y6, rfl, HY6, HO6, HB6⟩)
              | (go_at_call 24; refine ((HD5.out.kept HB6.out).tamper_old (by have := HR.out.1; omega) (by have := HR.out.2.1; have := HGO.out; have := HN.out; omega) 1 (by rw [HS.out.1]; omega) q (by have := HGO.out; have := HN.out; omega) none 0 0).mono ?_; rintro e7 w7 ⟨rfl, xf, HXf, HXl, F7, HD7, HC7, HWi7⟩
                 rw [HGN.out] at HD7
                 have HB67 := Lib.hid (below_nxt HB6.out HB5.out)
                 have HB7 := Lib.hid (p := Below w.heap.size w w7) (HB67.out.trans (HC7.out.below HB67.out.size (fun q hq => Nat.le_trans HBS.out (HD.out.lt q hq).1)))
                 have HO7 := Lib.hid (HO6.out.lower HB5.out.size)
                 have HY7 := Lib.hid (p := Own8 w.heap.size w7 y6) (HO7.out.chg HC7.out (HD5.out.kept HB6.out).noBytes)
                 clear HO6 HO7 HD5)
              | (go_at_call_of 13 (Value.int IntKind.i64 1); refine (HD7.out.read 1 (by rw [List.length_set, HS.out.1]; omega) (by simp) (by have := HR.out.2.1; have := HGO.out; have := HN.out; omega)).mono ?_; rintro e8 w8 ⟨⟨x8, rfl, HX8, HO8⟩, F8, HD8, HC8, HWi8⟩
                 have HB8 := Lib.hid (p := Below w.heap.size w w8) (HB7.out.trans (HC8.out.below HB7.out.size (fun q hq => Nat.le_trans HBS.out (HD7.out.lt q hq).1)))
                 have HY8 := Lib.hid (p := Own8 w.heap.size w8 y6) (HY7.out.chg HC8.out HD7.out.noBytes))
              | (go_at_call_of 13 (Value.int IntKind.i64 0); refine (HD8.out.read 0 (by rw [List.length_set, HS.out.1]; omega) (by simp) (by rw [List.length_append]; have := HR.out.2.1; have := HGO.out; have := HN.out; simp; omega)).mono ?_; rintro e9 w9 ⟨⟨x9, rfl, HX9, HO9⟩, F9, HD9, HC9, HWi9⟩
                 have HB9 := Lib.hid (p := Below w.heap.size w w9) (HB8.out.trans (HC9.out.below HB8.out.size (fun q hq => Nat.le_trans HBS.out (HD8.out.lt q hq).1)))
                 have HY9 := Lib.hid (p := Own8 w.heap.size w9 y6) (HY8.out.chg HC9.out HD8.out.noBytes)
                 have HX89 := Lib.hid (p := Own8 w.heap.size w9 x8) ((HO8.out.lower HB7.out.size).chg HC9.out HD8.out.noBytes)
                 have HE8 := Lib.hid (p := x8.l = y6.l) (by rw [HX8.out, nowV_nil, List.getD_eq_getElem?_getD, List.getElem?_set_self (by rw [HS.out.1]; omega)]; show xf.l = y6.l; rw [HXf.out, HOE.out, HY6.out])
                 have HE9 := Lib.hid (p := x9.l = pad []) (by rw [HX9.out, nowV_nil, List.getD_eq_getElem?_getD, List.getElem?_set_ne (by omega), ← List.getD_eq_getElem?_getD]; exact HS.out.2)
                 clear HY7 HY8 HO8 HX8 HX9 HXf HOE HY6))
            have HSS := Lib.hid (p := (ss.set 1 xf).length = 2 ∧ ((ss.set 1 xf).getD 0 noBV).l = pad []) ⟨by rw [List.length_set]; exact HS.out.1, by rw [List.getD_eq_getElem?_getD, List.getElem?_set_ne (by omega), ← List.getD_eq_getElem?_getD]; exact HS.out.2⟩
            clear HD HB HD7 HD8 HC7 HC8 HC9 HWi7 HWi8 HWi9 hw1 hw2 hw3 hw4 hj0 hj1
            go_wp2_with (first
              | (go_at_call 16; refine (bytes_z x9.A _ x9.c x9.l _ (HX99.out.hol) HM10.out.hol (HX99.out.len_max)).mono ?_; rintro e11 w11 ⟨rfl, hb11⟩; rw [decide_eq_true HE9.out]
                 have HB11 := Lib.hid (below_nxt hb11 HB10.out)
                 clear hb11)
              | (go_at_call 16; refine (rbytes_any x8.A y6.A x8.c y6.c x8.l y6.l _ HX89.out.hol HY9.out.hol (HX89.out.len_max) (HY9.out.len_max)).mono ?_; rintro e10 w10 ⟨rfl, hb10⟩; rw [decide_eq_true HE8.out]
                 have HB99 := Lib.hid (p := Below w9.heap.size w9 w10) hb10
                 clear hb10)
              | (refine step_make_g (by rfl) _ _ 32 5 i HU.out rfl 256 rfl rfl (by omega) ?_; intro gz w10b hr5 hg5 hb5 hs5
                 have HB10 := Lib.hid (p := Below w9.heap.size w9 w10b) (below_nxt hb5 HB99.out)
                 have HM10 := Lib.hid (p := Own8 w.heap.size w10b ⟨some ⟨gz, 0, none⟩, 256, pad []⟩) (own_fresh (l := []) hr5 (by rw [hg5.out]; exact Nat.le_trans HB9.out.size HB99.out.size))
                 have HX99 := Lib.hid (p := Own8 w.heap.size w10b x9) ((HO9.out.lower HB8.out.size).below HB10.out)
                 clear hr5 hg5 hb5 hs5))
            go_roundw
            case rel => exact ⟨q + 1, F9, _, _, _, by have := HGO.out; omega, by go_num, Lib.hid (HD9.out.kept HB11.out), Lib.hid ⟨by simp, by rw [List.length_append, List.length_append]; have := HR.out.2.1; simp; omega, fun p hp => by cases hp⟩, HSS, Lib.hid (below_nxt HB11.out HB9.out)⟩
            case measure => have := HGO.out; simp [intOf]; omega
          · have h2i : ¬ (q : Int) < (k : Int) := by omega
            obtain rfl : q = k := by omega
            have HOE := Lib.hid (p := oldL E 1 q = pad []) (HE.out.1.end_ HN.out.1)
            clear hgo hq hlt
            go_wp2_with (first
              | (refine step_make rfl _ _ 32 5 i HU.out rfl 256 rfl rfl (by omega) ?_; intro gw w5 hr5 hg5 hb5 hs5
                 have HD5 := Lib.hid (HD.out.kept hb5)
                 have HB5 := Lib.hid (below_nxt hb5 HB.out)
                 have HM5 := Lib.hid (p := Own8 w.heap.size w5 ⟨some ⟨gw, 0, none⟩, 256, pad []⟩) (own_fresh (l := []) hr5 (by rw [hg5.out]; exact HB.out.size))
                 clear hr5 hg5 hb5 hs5)
              | (go_at_call 24; refine (HD5.out.tamper_old (by have := HR.out.1; omega) (by have := HR.out.2.1; have := HGO.out; have := HN.out; omega) 1 (by rw [HS.out.1]; omega) q (by have := HGO.out; have := HN.out; omega) none 0 0).mono ?_; rintro e7 w7 ⟨rfl, xf, HXf, HXl, F7, HD7, HC7, HWi7⟩
                 rw [HGN.out] at HD7
                 have HB7 := Lib.hid (p := Below w.heap.size w w7) (HB5.out.trans (HC7.out.below HB5.out.size (fun q hq => Nat.le_trans HBS.out (HD.out.lt q hq).1)))
                 have HY7 := Lib.hid (p := Own8 w.heap.size w7 ⟨some ⟨gw, 0, none⟩, 256, pad []⟩) (HM5.out.chg HC7.out HD5.out.noBytes)
                 clear HM5 HD5)
              | (go_at_call_of 13 (Value.int IntKind.i64 1); refine (HD7.out.read 1 (by rw [List.length_set, HS.out.1]; omega) (by simp) (by have := HR.out.2.1; have := HGO.out; have := HN.out; omega)).mono ?_; rintro e8 w8 ⟨⟨x8, rfl, HX8, HO8⟩, F8, HD8, HC8, HWi8⟩
                 have HB8 := Lib.hid (p := Below w.heap.size w w8) (HB7.out.trans (HC8.out.below HB7.out.size (fun q hq => Nat.le_trans HBS.out (HD7.out.lt q hq).1)))
                 have HY8 := Lib.hid (p := Own8 w.heap.size w8 ⟨some ⟨gw, 0, none⟩, 256, pad []⟩) (HY7.out.chg HC8.out HD7.out.noBytes))
              | (go_at_call_of 13 (Value.int IntKind.i64 0); refine (HD8.out.read 0 (by rw [List.length_set, HS.out.1]; omega) (by simp) (by rw [List.length_append]; have := HR.out.2.1; have := HGO.out; have := HN.out; simp; omega)).mono ?_; rintro e9 w9 ⟨⟨x9, rfl, HX9, HO9⟩, F9, HD9, HC9, HWi9⟩
                 have HB9 := Lib.hid (p := Below w.heap.size w w9) (HB8.out.trans (HC9.out.below HB8.out.size (fun q hq => Nat.le_trans HBS.out (HD8.out.lt q hq).1)))
                 have HY9 := Lib.hid (p := Own8 w.heap.size w9 ⟨some ⟨gw, 0, none⟩, 256, pad []⟩) (HY8.out.chg HC9.out HD8.out.noBytes)
                 have HX89 := Lib.hid (p := Own8 w.heap.size w9 x8) ((HO8.out.lower HB7.out.size).chg HC9.out HD8.out.noBytes)
                 have HE8 := Lib.hid (p := x8.l = pad []) (by rw [HX8.out, nowV_nil, List.getD_eq_getElem?_getD, List.getElem?_set_self (by rw [HS.out.1]; omega)]; show xf.l = pad []; rw [HXf.out, HOE.out])
                 have HE9 := Lib.hid (p := x9.l = pad []) (by rw [HX9.out, nowV_nil, List.getD_eq_getElem?_getD, List.getElem?_set_ne (by omega), ← List.getD_eq_getElem?_getD]; exact HS.out.2)
                 clear HY7 HY8 HO8 HX8 HX9 HXf HOE))
            have HSS := Lib.hid (p := (ss.set 1 xf).length = 2 ∧ ((ss.set 1 xf).getD 0 noBV).l = pad []) ⟨by rw [List.length_set]; exact HS.out.1, by rw [List.getD_eq_getElem?_getD, List.getElem?_set_ne (by omega), ← List.getD_eq_getElem?_getD]; exact HS.out.2⟩
            clear HD HB HD7 HD8 HC7 HC8 HC9 HWi7 HWi8 HWi9
            go_wp2_with (first
              | (go_at_call 16; refine (bytes_z x9.A _ x9.c x9.l _ (HX99.out.hol) HM10.out.hol (HX99.out.len_max)).mono ?_; rintro e11 w11 ⟨rfl, hb11⟩; rw [decide_eq_true HE9.out]
                 have HB11 := Lib.hid (below_nxt hb11 HB10.out)
                 clear hb11)
              | (go_at_call 16; refine (bytes_z x8.A _ x8.c x8.l _ HX89.out.hol HY9.out.hol (HX89.out.len_max)).mono ?_; rintro e10 w10 ⟨rfl, hb10⟩; rw [decide_eq_true HE8.out]
                 have HB99 := Lib.hid (p := Below w9.heap.size w9 w10) hb10
                 clear hb10)
              | (refine step_make_g (by rfl) _ _ 32 5 i HU.out rfl 256 rfl rfl (by omega) ?_; intro gz w10b hr5 hg5 hb5 hs5
                 have HB10 := Lib.hid (p := Below w9.heap.size w9 w10b) (below_nxt hb5 HB99.out)
                 have HM10 := Lib.hid (p := Own8 w.heap.size w10b ⟨some ⟨gz, 0, none⟩, 256, pad []⟩) (own_fresh (l := []) hr5 (by rw [hg5.out]; exact Nat.le_trans HB9.out.size HB99.out.size))
                 have HX99 := Lib.hid (p := Own8 w.heap.size w10b x9) ((HO9.out.lower HB8.out.size).below HB10.out)
                 clear hr5 hg5 hb5 hs5))
            go_roundw
            case rel => exact ⟨q + 1, F9, _, _, _, by have := HGO.out; omega, by go_num, Lib.hid (HD9.out.kept HB11.out), Lib.hid ⟨by simp, by rw [List.length_append, List.length_append]; have := HR.out.2.1; simp; omega, fun p hp => by cases hp⟩, HSS, Lib.hid (below_nxt HB11.out HB9.out)⟩
            case measure => simp [intOf]
        · have h1i : ¬ (q : Int) ≤ (k : Int) := by omega
          go_wp2
          go_ret
          exact ⟨rfl, HB.out⟩
end Go.Proofs.Ytnajlineipapdaa
