/- The counters' blocks, and a key's mask byte by byte. No conditions. -/
import Derived.Test.YtibnmhaipogleaaDoorAesK
import Derived.Test.YtibnmhaipogleaaDoorPlain
import Derived.Test.YtibnmhaipogleaaDoorPut
import Derived.Test.YtibnmhaipogleaaDoorMask
import Derived.Test.YtibnmhaipogleaaDoorMgBlendA
import Derived.Deep.RegionLaw
import Derived.Test.YtibnmhaipogleaaDoorSprd
import Derived.Laws.Cover3
import Derived.Laws.Small
set_option linter.unusedVariables false
namespace Go.Proofs.YtibnmhaipogleaaDoor

/-- A counter's block; a mask's byte. -/
def ctrL (e s c : Nat) : List UInt8 := leb e 4 ++ leb s 4 ++ leb c 8
def ctr (e s c : Nat) (j : Nat) : UInt8 := (ctrL e s c).getD j 0
def mk (K : Nat → UInt8) (e s : Nat) (j : Nat) : UInt8 := enc K (ctr e s (j / 16)) (j % 16)
theorem ctrL_len (e s c : Nat) : (ctrL e s c).length = 16 := by simp [ctrL, leb_len]
theorem ctr_get (e s c j : Nat) (h : j < 16) : (ctrL e s c)[j]? = some (ctr e s c j) := by
  unfold ctr
  rw [List.getD_eq_getElem?_getD, List.getElem?_eq_getElem (by rw [ctrL_len]; exact h)]
  rfl
def keyK (l : List UInt8) : Nat → UInt8 := kx fun j => l.getD j 0

theorem mk_at (K : Nat → UInt8) (e s k j : Nat) (hj : j < 16) : mk K e s (16 * k + j) = enc K (ctr e s k) j := by
  unfold mk
  rw [show (16 * k + j) / 16 = k by omega, show (16 * k + j) % 16 = j by omega]
end Go.Proofs.YtibnmhaipogleaaDoor
/- A key's mask by the program: what the call leaves, for every nonce and length up to 4096. Conditions: the cipher lies there. -/
set_option linter.unusedVariables false
namespace Go.Proofs.YtibnmhaipogleaaDoor
open Go.RowKit

/-- A number put behind bytes. -/
theorem vnum_any (A : Option Addr) (c n : Nat) (l : List UInt8) (hn : n = l.length) (size : Nat) (x : Nat) (hs : size = 4 ∨ size = 8) (hx : x / 256 ^ size = 0) (hx64 : x < 18446744073709551616) (hl : l.length ≤ 100) (w : World) (hA : Hol w A l) :
    Calls Tryd.prog 62 #[.slice A n c, .int .i64 (size : Int), .int .u64 (x : Int)] w fun e w' => ∃ A' c' m, e = .returned (.slice A' m c') ∧ Hid (m = l.length + size) ∧ Hid (m ≤ c') ∧ Hid (Hol w' A' (l ++ leb x size)) ∧ (∀ g o, A' = some ⟨g, o, none⟩ → w.heap.size ≤ g) ∧ Below w.heap.size w w' := by
  subst hn
  have hr : putR l (size : Int) x = (l ++ leb x size, 0) := by
    unfold putR
    have h1 : wid (size : Int) ≠ 0 := by rcases hs with rfl | rfl <;> decide
    rw [if_neg h1, Int.toNat_natCast, if_neg (by rw [hx]; exact fun h => h rfl)]
  have HP := Lib.hid (put_any A c l (size : Int) x w hA hx64 (Nat.le_trans hl (by omega)))
  clear hx hx64 hs
  go_enter Tryd.func62, Tryd.ntmps62
  go_wp2_with (go_at_call 64; refine HP.out.mono ?_; rintro e w1 ⟨v, rfl, hown, hb⟩; rw [hr] at hown ⊢)
  go_ret
  obtain ⟨_, A', c', rfl, h1, _, h3⟩ := own_form hown
  refine ⟨A', c', _, rfl, ?_, h1, h3, fun g o e => (hown.lt g (by rw [e]; rfl)).1, hb⟩
  exact (by rw [List.length_append, leb_len] : (l ++ leb x size).length = l.length + size)
theorem info_u8s : (Tryd.prog.info? 5).map (·.size) = some 1 := by kernel_rfl
theorem hol_brr {w : World} {g o n : Nat} {l : List UInt8} (h : Hol w (some ⟨g, o, none⟩) l) (hl : l.length = n) : w.rangeAt g o (brr n fun j => l.getD j 0) := by
  intro j v hv
  by_cases hj : j < n
  · rw [brr_get _ hj] at hv
    injection hv with hv
    subst hv
    rcases h with rfl | ⟨g', o', e, hc⟩
    · simp at hl; omega
    · injection e with e
      injection e with e1 e2
      subst e1
      subst e2
      have hx := hc j l[j] (List.getElem?_eq_getElem (by omega))
      rw [hx, List.getD_eq_getElem?_getD, List.getElem?_eq_getElem (by omega)]
      rfl
  · rw [brr_none _ (by omega)] at hv
    cases hv

set_option maxRecDepth 20000 in
set_option maxHeartbeats 2000000 in
theorem counted_any (gc : Nat) (K : Nat → UInt8) (e s n : Nat) (he : e < 4294967296) (hs : s < 4294967296) (hn : n ≤ 4096) (w : World) (hC : CipherAt w gc K) :
    Calls Tryd.prog 45 #[.pointer (some ⟨gc, 0, none⟩), .int .u32 (e : Int), .int .u32 (s : Int), .int .i64 (n : Int)] w (NewRow w n (mk K e s)) := by
  obtain ⟨i, U⟩ := u8_tab
  have HC := Lib.hid hC
  have HN := Lib.hid hn
  have HE := Lib.hid (p := e / 256 ^ 4 = 0) (Nat.div_eq_of_lt (by omega))
  have HS := Lib.hid (p := s / 256 ^ 4 = 0) (Nat.div_eq_of_lt (by omega))
  have HE64 := Lib.hid (p := e < 18446744073709551616) (by omega)
  have HS64 := Lib.hid (p := s < 18446744073709551616) (by omega)
  have we : IntKind.u64.wrap (e : Int) = (e : Int) := by simp only [IntKind.wrap, IntKind.bits, IntKind.signed]; simp; omega
  have ws : IntKind.u64.wrap (s : Int) = (s : Int) := by simp only [IntKind.wrap, IntKind.bits, IntKind.signed]; simp; omega
  have hz := Lib.hid (p := ∀ w : World, (zeroValue 112).run Tryd.prog w = .ok (.agg (brr 16 (fun _ => 0)).toArray) w) fun w => by kernel_rfl
  have i16 := Lib.hid (p := (Tryd.prog.info? 112).map (·.size) = some 16) (by kernel_rfl)
  clear hC hn he hs
  go_enter Tryd.func45, Tryd.ntmps45
  go_wp2_with (first
    | (refine step_make rfl _ _ 29 5 i U rfl n rfl rfl (by have := HN.out; omega) ?_; intro g w1 hr1 hg1 hb1 hs1)
    | (go_at_call_of 62 (Value.int IntKind.u64 (e : Int)); refine (vnum_any none 0 0 [] rfl 4 e (.inl rfl) HE.out HE64.out (by simp) _ .none_).mono ?_; rintro x w2 ⟨A2, c2, m2, rfl, hm2, hc2, hH2, hq2, hb2⟩)
    | (go_at_call_of 62 (Value.int IntKind.u64 (s : Int)); refine (vnum_any A2 c2 m2 ([] ++ leb e 4) (hm2.out.trans (by simp [leb_len])) 4 s (.inl rfl) HS.out HS64.out (by simp [leb_len]) _ hH2.out).mono ?_; rintro x w3 ⟨A3, c3, m3, rfl, hm3, hc3, hH3, hq3, hb3⟩))
  have q1 : w.heap.size ≤ g := by rw [hg1.out]; exact Nat.le_refl _
  have hb13 := hb2.trans (hb3.mono hb2.size)
  have hr3 := hr1.kept hb13
  have HB3 := Lib.hid (hb1.trans (hb13.mono hb1.size))
  have HM3 := Lib.hid (p := m3 = ([] ++ leb e 4 ++ leb s 4).length) (hm3.out.trans (by simp [leb_len]))
  have HQ3 := Lib.hid (p := ∀ h o, A3 = some ⟨h, o, none⟩ → h ≠ g) (fun h o e0 e1 => by have := hq3 h o e0; have := hb2.size; have := hr1.lt; omega)
  have HGC := Lib.hid (p := gc < w.heap.size) HC.out.lt
  clear hm2 hc2 hH2 hq2 hm3 hc3 hq3 hb13 hb2 hb3 hb1 hg1 hs1
  go_loopw [11] (fun x wr => ∃ k t : Nat, Hid (t = 16 * k) ∧ t < n + 16 ∧ x = .int .i64 (t : Int) ∧ Row wr g 5 (brr n (upto t (mk K e s) fun _ => 0)) ∧ Hid (w3.grownBy wr (some g)) ∧ Below w.heap.size w wr) (fun x _ => n + 16 - (intOf x).toNat)
  case atStart => exact ⟨0, 0, Lib.hid rfl, by omega, rfl, by rw [upto_zero]; exact hr3, Lib.hid ⟨rfl, rfl, rfl, Nat.le_refl _, fun _ _ _ => rfl⟩, HB3.out⟩
  case round =>
    clear hr1 hr3
    obtain ⟨k, t, HT, ht, rfl, hR, HG, hB⟩ := hrel
    have htw : IntKind.i64.wrap ((t : Int) + 16) = (t : Int) + 16 := by rw [IntKind.wrap_i64]; have := HN.out; omega
    by_cases hlt : t < n
    · have hti : (t : Int) < (n : Int) := by omega
      have HH := Lib.hid (p := Hol wr A3 ([] ++ leb e 4 ++ leb s 4)) (hH3.out.grown HG.out (fun h o e0 e1 => HQ3.out h o e0 (by injection e1)))
      have HB := Lib.hid hB
      have HR := Lib.hid hR
      clear hR hB
      have hk256 := Lib.hid (p := k < 256) (by have := HT.out; have := HN.out; omega)
      have hdv : wrap64 ((t : Int) / 16) = (k : Int) := by have := HT.out; have := hk256.out; unfold wrap64; omega
      have hdu : IntKind.u64.wrap (k : Int) = (k : Int) := by have := hk256.out; simp only [IntKind.wrap, IntKind.bits, IntKind.signed]; simp; omega
      have htn : ¬ n = t := by omega
      have htl : (t : Int) ≤ (n : Int) := by omega
      have ht0 : (0 : Int) ≤ (t : Int) := by omega
      have HCr := Lib.hid (HC.out.below HB.out HGC.out)
      go_wp2_with (first
        | (go_at_call 62
           refine (vnum_any A3 c3 m3 ([] ++ leb e 4 ++ leb s 4) HM3.out 8 k (.inr rfl) (Nat.div_eq_of_lt (by have := hk256.out; omega)) (by have := hk256.out; omega) (by simp [leb_len]) _ HH.out).mono ?_
           rintro x w4 ⟨A4, c4, m4, rfl, hm4, hc4, hH4, hq4, hb4⟩
           obtain rfl : m4 = 16 := hm4.out.trans (by simp [leb_len])
           have hL4 : ([] ++ leb e 4 ++ leb s 4 ++ leb k 8).length = 16 := by simp [leb_len]
           obtain ⟨g4, o4, rfl, hg4, _⟩ := hH4.out.some_ (by rw [hL4]; omega)
           have hrg4 : w4.rangeAt g4 o4 (brr 16 (ctr e s k)) := hol_brr hH4.out hL4
           have HR4 := Lib.hid hrg4
           have HB4 := Lib.hid hb4
           have HC4 := Lib.hid (HCr.out.kept hb4)
           have hat : ∀ w, (Instr.arrayAt 112 (.slice (some ⟨g4, o4, none⟩) 16 c4)).run Tryd.prog w = .ok (.pointer (some ⟨g4, o4, none⟩)) w := fun w => run_arrayAt (P := Tryd.prog) w 112 5 16 _ _ _ Tryd.underlying112 (by omega)
           clear hrg4 hb4 hL4 hH4 hm4 hc4 hq4)
        | (refine wpList_load_mid rfl 112 _ rfl g4 o4 rfl (brr 16 (ctr e s k)) _ HR4.out Tryd.underlying112 rfl (by rw [brr_len]; exact i16) ?_)
        | (go_at_call 63; refine (encrypt_any gc K (ctr e s k) _ HC4.out).mono ?_; rintro x w5 ⟨rfl, hc5⟩)
        | (refine step_alloc rfl 13 rfl 112 rfl _ hz ?_; intro g6 w6 hr6 hg6 hb6 hs6)
        | (refine step_store rfl 112 _ _ rfl g6 rfl _ _ (brr 16 (enc K (ctr e s k))) rfl hr6 (by rw [brr_len, brr_len]) (by rw [brr_len]; exact i16) (brr_one _ _) ?_; intro w7 hr7 hg7 hs7))
      have hB47 : Below wr.heap.size wr w7 := ((HB4.out.trans (hc5.below.mono HB4.out.size)).trans (hb6.mono (Nat.le_trans HB4.out.size hc5.size))).grown hg7 (Nat.le_trans HB4.out.size (Nat.le_trans hc5.size hb6.size)) (fun q hq => by injection hq with hq; rw [← hq, hg6.out]; exact Nat.le_trans HB4.out.size hc5.size)
      have hrw7 := (HR.out.kept hB47).drew
      have hh7 := hr7.drew.hol
      have HB47 := Lib.hid hB47
      have HR7 := Lib.hid hrw7
      have HH7 := Lib.hid hh7
      obtain ⟨L, hL⟩ : ∃ L, lst 16 (enc K (ctr e s k)) = L := ⟨_, rfl⟩
      have HL := Lib.hid hL
      rw [hL] at HH7
      have HL16 := Lib.hid (p := 16 = L.length) (by rw [← hL, lst_len])
      clear hB47 hrw7 hh7 hr7 hr6 hg7 hg6 hb6 hc5 HB4 HR4 hs7 hs6 hL hat
      go_region_law (refine step_copy rfl _ _ 29 29 rfl 5 U.ht info_u8s g t n (n - t) (n - t) 5 (upto t (mk K e s) fun _ => 0) (by rfl) HR7.out (some ⟨g6, 0, none⟩) 16 16 L (by rfl) HL16.out HH7.out (by have : Nat.min 16 (n - t) ≤ n - t := Nat.min_le_right _ _; omega) ?_; intro w8 cp hr8 hu8)
      all_goals
        go_wp2
        go_roundw
        case rel =>
          have hrow : brr n (ov t (L.take (n - t)) (upto t (mk K e s) fun _ => 0)) = brr n (upto (t + 16) (mk K e s) fun _ => 0) := brr_congr fun j hj => by
            have hLl : (L.take (n - t)).length = min (n - t) 16 := by rw [List.length_take, ← HL16.out]
            by_cases h1 : j < t
            · rw [ov_out (by omega), upto_near _ _ h1, upto_near _ _ (by omega)]
            · by_cases h2 : j < t + 16
              · rw [ov_in (by omega) (by rw [hLl]; omega), upto_near _ _ h2, List.getD_eq_getElem?_getD, List.getElem?_take, if_pos (by omega), ← HL.out, lst_get _ (by omega)]
                have := mk_at K e s k (j - t) (by omega)
                rw [show 16 * k + (j - t) = j by have := HT.out; omega] at this
                exact this.symm
              · rw [ov_out (by rw [hLl]; omega), upto_far _ _ (by omega), upto_far _ _ (by omega)]
          rw [hrow] at hr8
          exact ⟨k + 1, t + 16, Lib.hid (by have := HT.out; omega), by omega, by go_num, hr8, Lib.hid (grown_trans (grown_trans HG.out (grown_of_below HB47.out.drew)) hu8.out.by_), ((HB.out.trans (HB47.out.mono HB.out.size)).drew).grown hu8.out.by_ (Nat.le_trans HB.out.size HB47.out.size) (fun q hq => by injection hq with hq; rw [← hq]; exact q1)⟩
        case measure => simp [intOf]; omega
    · have hrow : brr n (upto t (mk K e s) fun _ => 0) = brr n (mk K e s) := brr_congr fun j hj => upto_near _ _ (by omega)
      rw [hrow] at hR
      have hti : ¬ (t : Int) < (n : Int) := by omega
      have HR := Lib.hid hR
      have HB := Lib.hid hB
      clear hR hB hrow
      go_wp2
      go_ret
      exact ⟨g, rfl, HR.out, q1, HB.out⟩
end Go.Proofs.YtibnmhaipogleaaDoor
/- A cipher made of a key's bytes: what the call leaves, for every bytes. Conditions: those named. -/
set_option linter.unusedVariables false
namespace Go.Proofs.YtibnmhaipogleaaDoor
open Go.RowKit

/-- A list's bytes by place. -/
def byl (l : List UInt8) (j : Nat) : UInt8 := l.getD j 0
theorem brr_byl (l : List UInt8) : brr l.length (byl l) = bc l := by
  apply List.ext_getElem?
  intro j
  by_cases h : j < l.length
  · rw [brr_get _ h, get_bc (List.getElem?_eq_getElem h)]
    unfold byl
    rw [List.getD_eq_getElem?_getD, List.getElem?_eq_getElem h]
    rfl
  · rw [brr_none _ (by omega), List.getElem?_eq_none (by rw [bc_len]; omega)]
theorem range_calm {w w' : World} {b o : Nat} {cs : List Value} (h : w.rangeAt b o cs) (hb : b < w.heap.size) (k : Calm w w') : w'.rangeAt b o cs := fun j v hv => (k.below.cell (p := ⟨b, o + j, none⟩) hb).trans (h j v hv)
theorem built_cipher : Tryd.prog.built 110 [(0, .agg (brr 256 sbf).toArray)] = some (cph fun _ => 0).toArray := by
  kernel_rfl

set_option maxRecDepth 20000 in
theorem aes_new_any (A : Option Addr) (c : Nat) (l : List UInt8) (w : World) (hA : Hol w A l) :
    Calls Tryd.prog 43 #[.slice A l.length c] w fun e w' =>
      (l.length ≠ 32 → e = .returned (.tuple #[.pointer none, .int .i64 201]) ∧ Calm w w') ∧
      (l.length = 32 → ∃ g, e = .returned (.tuple #[.pointer (some ⟨g, 0, none⟩), .int .i64 0]) ∧ w.heap.size ≤ g ∧ CipherAt w' g (kx (byl l)) ∧ Calm w w') := by
  by_cases hl : l.length = 32
  · obtain ⟨gk, off, rfl, hgk, hcell⟩ := hA.some_ (by omega)
    have i32 := Lib.hid (p := (Tryd.prog.info? 23).map (·.size) = some 32) (by kernel_rfl)
    have hll : (l.length : Int) = 32 := by omega
    have HL := Lib.hid hl
    have hrg : w.rangeAt gk off (brr 32 (byl l)) := fun j v hv => by
      rw [← hl, brr_byl] at hv
      obtain ⟨x, hx, rfl⟩ := bc_get hv
      exact hcell j x hx
    have HR := Lib.hid hrg
    have hat : ∀ w, (Instr.arrayAt 23 (.slice (some ⟨gk, off, none⟩) l.length c)).run Tryd.prog w = .ok (.pointer (some ⟨gk, off, none⟩)) w := fun w => run_arrayAt (P := Tryd.prog) w 23 5 32 _ _ _ Tryd.underlying23 (by omega)
    clear hrg hcell hl hA
    go_enter Tryd.func43, Tryd.ntmps43
    go_wp2_with (first
      | (go_at_call 60; refine (boxes_any _).mono ?_; rintro e w1 ⟨rfl, hc1⟩)
      | (refine step_build rfl 110 #[(0, .tmp 8)] rfl [(0, .agg (brr 256 sbf).toArray)] ?hv _ built_cipher ?_; case hv => (simp [Act.eval, Act.put]))
      | (refine calm_box rfl 10 rfl 110 (.tmp 9) rfl (cph fun _ => 0) (by rfl) ?_; intro g w2 hr2 hg2 hb2 hs2)
      | (refine wpList_load_mid rfl 23 (.tmp 13) rfl gk off rfl (brr 32 (byl l)) _ (range_calm HR.out hgk (hc1.of hb2)) Tryd.underlying23 rfl (by rw [brr_len]; exact i32) ?_)
      | (go_at_call 61; refine (aes_spread_any g (byl l) _ hr2).mono ?_; rintro e w3 ⟨rfl, hC3, hU3⟩))
    go_ret2
    have q2 : w.heap.size ≤ g := by rw [hg2.out]; exact hc1.size
    exact ⟨fun h => absurd HL.out h, fun _ => ⟨g, rfl, q2, hC3, hU3.calm (hc1.of hb2) q2⟩⟩
  · have hll : ¬ (l.length : Int) = 32 := by omega
    go_enter Tryd.func43, Tryd.ntmps43
    go_wp2
    go_ret2
    exact ⟨fun _ => ⟨rfl, Calm.refl _⟩, fun h => absurd h hl⟩
end Go.Proofs.YtibnmhaipogleaaDoor
/- A veil made of a key: what the call leaves. Conditions: the bytes lie there, 32 of them. -/
set_option linter.unusedVariables false
namespace Go.Proofs.YtibnmhaipogleaaDoor
open Go.RowKit

theorem shut_any (gv gc : Nat) (K : Nat → UInt8) (e s n : Nat) (he : e < 4294967296) (hs : s < 4294967296) (hn : n ≤ 4096) (w : World) (hv : w.cell? ⟨gv, 0, none⟩ = some (.pointer (some ⟨gc, 0, none⟩))) (hC : CipherAt w gc K) :
    Calls Tryd.prog 44 #[.int .u32 (e : Int), .int .u32 (s : Int), .int .i64 (n : Int), .pointer (some ⟨gv, 0, none⟩)] w (NewRow w n (mk K e s)) := by
  have HX := Lib.hid (counted_any gc K e s n he hs hn w hC)
  clear he hs hn
  go_enter Tryd.func44, Tryd.ntmps44
  go_wp2_with (go_at_call 45; refine HX.out.mono ?_; rintro x w1 ⟨g, rfl, hr, hg, hb⟩)
  go_ret
  exact ⟨g, rfl, hr, hg, hb⟩
theorem vnew_any (A : Option Addr) (c : Nat) (l : List UInt8) (hl : l.length = 32) (w : World) (hA : Hol w A l) :
    Calls Tryd.prog 23 #[.slice A l.length c] w fun e w' => ∃ g, e = .returned (.tuple #[.pointer (some ⟨g, 0, none⟩), .int .i64 0]) ∧ MaskAt w' g (mk (kx (byl l))) ∧ Below w.heap.size w w' := by
  have hmf : ∀ (fn : Fn) (first cap : Array Value) (w : World), (Instr.makeFunc fn first cap).run Tryd.prog w = .ok (.func fn first cap) w := fun _ _ _ _ => rfl
  have HX := Lib.hid (aes_new_any A c l)
  have HA := Lib.hid hA
  have HL := Lib.hid hl
  clear hA hl
  go_enter Tryd.func23, Tryd.ntmps23
  go_wp2_with (go_at_call 43; refine (HX.out _ HA.out).mono ?_; rintro e w1 ⟨_, h2⟩; obtain ⟨gc, rfl, q1, hC, hb⟩ := h2 HL.out; clear h2)
  go_ret2
  have e1 : (w1.alloc (.cells #[Value.pointer (some ⟨gc, 0, none⟩)] 84)).heap.size = w1.heap.size + 1 := by simp
  have hb2 : Below w1.heap.size w1 ((w1.alloc (.cells #[Value.pointer (some ⟨gc, 0, none⟩)] 84)).alloc (.cells #[Value.func (.func 44) #[] #[.pointer (some ⟨w1.heap.size, 0, none⟩)]] 76)) := ((Below.refl _ _).alloc (Nat.le_refl _) _).alloc (by simp) _
  have hv : ((w1.alloc (.cells #[Value.pointer (some ⟨gc, 0, none⟩)] 84)).alloc (.cells #[Value.func (.func 44) #[] #[.pointer (some ⟨w1.heap.size, 0, none⟩)]] 76)).cell? ⟨w1.heap.size, 0, none⟩ = some (.pointer (some ⟨gc, 0, none⟩)) := by
    rw [World.cell?_alloc_past _ _ _ (by simp)]
    simp
  have hf : ((w1.alloc (.cells #[Value.pointer (some ⟨gc, 0, none⟩)] 84)).alloc (.cells #[Value.func (.func 44) #[] #[.pointer (some ⟨w1.heap.size, 0, none⟩)]] 76)).cell? ⟨w1.heap.size + 1, 0, none⟩ = some (.func (.func 44) #[] #[.pointer (some ⟨w1.heap.size, 0, none⟩)]) := by
    rw [← e1]
    simp
  have hC2 := hC.kept hb2
  exact ⟨_, rfl, ⟨_, w1.heap.size, .inl rfl, hf, fun w' hb' e s n he hs hn => shut_any _ gc _ e s n he hs hn w' ((hb'.cell (p := ⟨w1.heap.size, 0, none⟩) (World.block_lt_of_cell? _ _ hv)).trans hv) (hC2.kept hb')⟩, hb.below.trans (hb2.mono hb.size)⟩
theorem vnew_call (A : Option Addr) (c n : Nat) (l : List UInt8) (hn : n = l.length) (hl : l.length = 32) (w : World) (hA : Hol w A l) :
    Calls Tryd.prog 23 #[.slice A n c] w fun e w' => ∃ g, e = .returned (.tuple #[.pointer (some ⟨g, 0, none⟩), .int .i64 0]) ∧ MaskAt w' g (mk (kx (byl l))) ∧ Below w.heap.size w w' := by
  subst hn
  exact vnew_any A c l hl w hA
theorem anew_call (A : Option Addr) (c n : Nat) (l : List UInt8) (hn : n = l.length) (hl : l.length = 32) (w : World) (hA : Hol w A l) :
    Calls Tryd.prog 43 #[.slice A n c] w fun e w' => ∃ g, e = .returned (.tuple #[.pointer (some ⟨g, 0, none⟩), .int .i64 0]) ∧ Hid (CipherAt w' g (kx (byl l))) ∧ Below w.heap.size w w' := by
  subst hn
  refine (aes_new_any A c l w hA).mono ?_
  rintro e w' ⟨_, h2⟩
  obtain ⟨g, rfl, _, h3, h4⟩ := h2 hl
  exact ⟨g, rfl, h3, h4.below⟩
end Go.Proofs.YtibnmhaipogleaaDoor
