/- Whether a source and a script are small enough. Conditions: they lie there. -/
import Derived.Test.YtpobppoaidngeaaKm
set_option linter.unusedVariables false
set_option maxRecDepth 20000
namespace Go.Proofs.Ytpobppoaidngeaa
open Go.RowKit

/-- A source that came in. -/
structure SrcR (w : World) (gs : Nat) (Bs : List BV) (Ks : List Bool) : Prop where
  lt : gs < w.heap.size
  c0 : ∃ A c, w.cell? ⟨gs, 0, none⟩ = some (.slice A Bs.length c) ∧ Lies sc 1 w A Bs
  c1 : ∃ A c, w.cell? ⟨gs, 1, none⟩ = some (.slice A Ks.length c) ∧ Lies bcs 1 w A Ks
  hol : ∀ x ∈ Bs, Hol w x.A x.l
  max : ∀ x ∈ Bs, x.l.length ≤ 1000000000000000
  maxB : Bs.length ≤ 1000000000000000
  maxK : Ks.length ≤ 1000000000000000
/-- A script that came in. -/
structure ScR (w : World) (A : Option Addr) (ds : List DV) : Prop where
  lies : Lies dcs 3 w A ds
  hol : ∀ d ∈ ds, Hol w d.blk.A d.blk.l
  i64 : ∀ d ∈ ds, I64 d.slot
  max : ∀ d ∈ ds, d.blk.l.length ≤ 1000000000000000
  maxL : ds.length ≤ 1000000000000000
structure MayOk (Bs : List BV) (Ks : List Bool) (ds : List DV) : Prop where
  eq : Bs.length = Ks.length
  lim : Bs.length ≤ 300
  len : ∀ x ∈ Bs, x.l.length ≤ 131072
  limD : ds.length ≤ 100
  lenD : ∀ d ∈ ds, d.blk.l.length ≤ 131072
theorem SrcR.below {w w' : World} {gs : Nat} {Bs : List BV} {Ks : List Bool} (h : SrcR w gs Bs Ks) (hb : Below w.heap.size w w') : SrcR w' gs Bs Ks := by
  obtain ⟨A, c, h1, h2⟩ := h.c0
  obtain ⟨A', c', h3, h4⟩ := h.c1
  exact ⟨Nat.lt_of_lt_of_le h.lt hb.size, ⟨A, c, (hb.cell (p := ⟨gs, 0, none⟩) h.lt).trans h1, h2.below hb⟩, ⟨A', c', (hb.cell (p := ⟨gs, 1, none⟩) h.lt).trans h3, h4.below hb⟩, fun x hx => (h.hol x hx).below hb, h.max, h.maxB, h.maxK⟩
theorem ScR.below {w w' : World} {A : Option Addr} {ds : List DV} (h : ScR w A ds) (hb : Below w.heap.size w w') : ScR w' A ds := ⟨h.lies.below hb, fun d hd => (h.hol d hd).below hb, h.i64, h.max, h.maxL⟩
theorem SrcR.ok {w : World} {gs : Nat} {Bs : List BV} {Ks : List Bool} {ds : List DV} (h : SrcR w gs Bs Ks) (k : MayOk Bs Ks ds) : Src w.heap.size w gs Bs Ks := by
  obtain ⟨A, c, h1, h2⟩ := h.c0
  obtain ⟨A', c', h3, h4⟩ := h.c1
  exact ⟨h.lt, ⟨A, c, h1, LiesB.all (fun x => by rw [sc_len]; decide) h2⟩, ⟨A', c', h3, LiesB.all (fun x => by rw [bcs_len]; decide) h4⟩, fun x hx => HolB.all (h.hol x hx), k.len, k.eq, k.lim⟩
theorem ScR.ok {w : World} {A : Option Addr} {Bs : List BV} {Ks : List Bool} {ds : List DV} (h : ScR w A ds) (k : MayOk Bs Ks ds) : ScB w.heap.size w A ds :=
  ⟨LiesB.all (fun x => by rw [dcs_len]; decide) h.lies, fun d hd => HolB.all (h.hol d hd), k.lenD, h.i64, k.limD⟩
def MayP (w : World) (Bs : List BV) (Ks : List Bool) (ds : List DV) (e : Ending) (w' : World) : Prop := ∃ r : Bool, e = .returned (.bool r) ∧ Hid (r = true → MayOk Bs Ks ds) ∧ Hid (Below w.heap.size w w')
set_option maxHeartbeats 2000000 in
theorem may_any {w : World} {gs : Nat} {Bs : List BV} {Ks : List Bool} {A : Option Addr} {c : Nat} {ds : List DV} (hs : SrcR w gs Bs Ks) (hd : ScR w A ds) :
    Calls Try.prog 8 #[.pointer (some ⟨gs, 0, none⟩), .slice A ds.length c] w (MayP w Bs Ks ds) := by
  obtain ⟨AB, cB, h0, hAB⟩ := hs.c0
  obtain ⟨AK, cK, h1, hAK⟩ := hs.c1
  obtain ⟨n, hn⟩ : ∃ n, Bs.length = n := ⟨_, rfl⟩
  obtain ⟨k, hk⟩ : ∃ k, Ks.length = k := ⟨_, rfl⟩
  obtain ⟨m, hm⟩ : ∃ m, ds.length = m := ⟨_, rfl⟩
  rw [hn] at h0
  rw [hk] at h1
  rw [hm]
  have HN := Lib.hid hn
  have HK := Lib.hid hk
  have HM := Lib.hid hm
  have HS := Lib.hid hs
  have HD := Lib.hid hd
  have HAB := Lib.hid hAB
  clear hs hd hAB hAK hn hk hm
  by_cases h2 : n = k
  · subst h2
    have hne : ((n : Int) != (n : Int)) = false := by simp
    have hnd : decide (¬ (n : Int) = (n : Int)) = false := by simp
    by_cases h3 : n ≤ 300
    · have e3 : ¬ (300 : Int) < (n : Int) := by omega
      have d3 : decide ((300 : Int) < (n : Int)) = false := decide_eq_false e3
      have f3 : decide (300 < n) = false := decide_eq_false (by omega)
      by_cases h4 : m ≤ 100
      · have e4 : ¬ (100 : Int) < (m : Int) := by omega
        have d4 : decide ((100 : Int) < (m : Int)) = false := decide_eq_false e4
        have f4 : decide (100 < m) = false := decide_eq_false (by omega)
        have H34 := Lib.hid (p := n ≤ 300 ∧ m ≤ 100) ⟨h3, h4⟩
        clear h3 h4
        go_enter Try.func8, Try.ntmps8
        go_wp2
        go_quiet (fail)
        go_wp2
        have HB0 := Lib.hid (p := Below w.heap.size w (w.drewN nq)) (below_drewN (Below.refl _ _) _)
        generalize w.drewN nq = w1 at HB0 ⊢
        clear e3 d3 f3 e4 d4 f4 hne hnd
        go_loopw [5, 6] (fun x y wr => ∃ (i s : Nat), Hid (i ≤ n) ∧ Hid (s ≤ 131072) ∧ y = .int .i64 (i : Int) ∧ x = .int .i64 (s : Int) ∧ Hid (∀ j x, j < i → Bs[j]? = some x → x.l.length ≤ 131072) ∧ wr = w1) (fun _ y _ => n - (intOf y).toNat)
        case atStart => exact ⟨0, 0, Lib.hid (Nat.zero_le _), Lib.hid (Nat.zero_le _), rfl, rfl, Lib.hid (fun j x h => by omega), rfl⟩
        case round =>
          obtain ⟨i, s, HIL, HSL, rfl, rfl, HJ, rfl⟩ := hrel
          have c0 : wr.cell? ⟨gs, 0, none⟩ = some (.slice AB n cB) := (HB0.out.cell (p := ⟨gs, 0, none⟩) HS.out.lt).trans h0
          by_cases hi : i < n
          · have hii : (i : Int) < (n : Int) := by omega
            have hib : i < Bs.length := by rw [HN.out]; exact hi
            obtain ⟨x, hx⟩ : ∃ x, Bs[i] = x := ⟨_, rfl⟩
            obtain ⟨g, o, rfl, hc⟩ := (HAB.out.below HB0.out).at_ hib
            rw [hx] at hc
            have cx := hc 0 _ rfl
            simp only [Nat.mul_one, Nat.add_zero] at cx
            unfold bvv at cx
            have HXS := Lib.hid (p := Bs[i]? = some x) (by rw [List.getElem?_eq_getElem hib, hx])
            have hxm := HS.out.max x (List.mem_of_getElem? HXS.out)
            obtain ⟨t, ht⟩ : ∃ t, x.l.length = t := ⟨_, rfl⟩
            rw [ht] at cx hxm
            have HT := Lib.hid ht
            have hs1 := HSL.out
            have hiw : IntKind.i64.wrap ((i : Int) + 1) = (i : Int) + 1 := by rw [IntKind.wrap_i64]; have := H34.out; omega
            have hsw : IntKind.i64.wrap ((s : Int) + (t : Int)) = ((s + t : Nat) : Int) := by rw [IntKind.wrap_i64]; omega
            have HIT := Lib.hid hi
            clear hi hib hx hc ht
            by_cases hst : s + t ≤ 131072
            · have est : ¬ (131072 : Int) < ((s + t : Nat) : Int) := by omega
              have HST := Lib.hid hst
              obtain ⟨st, hst2⟩ : ∃ st, s + t = st := ⟨_, rfl⟩
              rw [hst2] at hsw est HST
              have HS2 := Lib.hid hst2
              clear hst hst2 hxm hs1
              go_wp2
              go_roundw
              case rel =>
                refine ⟨i + 1, st, Lib.hid HIT.out, HST, by go_num, by go_num, Lib.hid (fun j x' hj hx' => ?_), trivial⟩
                by_cases e : j = i
                · subst e
                  rw [HXS.out] at hx'
                  injection hx' with hx'
                  subst hx'
                  have := HT.out
                  have := HS2.out
                  have := HST.out
                  omega
                · exact HJ.out j x' (by omega) hx'
              case measure => have := HIT.out; simp [intOf]; omega
            · have est : (131072 : Int) < ((s + t : Nat) : Int) := by omega
              obtain ⟨st, hst2⟩ : ∃ st, s + t = st := ⟨_, rfl⟩
              rw [hst2] at hsw est
              clear hst hst2 hxm hs1
              go_wp2
              go_ret
              exact ⟨false, rfl, Lib.hid (fun h => by cases h), HB0⟩
          · have hii : ¬ (i : Int) < (n : Int) := by omega
            have HALL := Lib.hid (p := ∀ x ∈ Bs, x.l.length ≤ 131072) (fun x hx => by
              obtain ⟨j, hj, e⟩ := List.mem_iff_getElem.1 hx
              exact HJ.out j x (by have := HN.out; have := HIL.out; omega) (by rw [List.getElem?_eq_getElem hj, e]))
            rename World => w2
            clear hi
            go_wp2
            go_loopw [5, 7] (fun x y wr => ∃ (i s : Nat), Hid (i ≤ m) ∧ Hid (s ≤ 131072) ∧ y = .int .i64 (i : Int) ∧ x = .int .i64 (s : Int) ∧ Hid (∀ j d, j < i → ds[j]? = some d → d.blk.l.length ≤ 131072) ∧ wr = w2) (fun _ y _ => m - (intOf y).toNat)
            case atStart => exact ⟨0, s, Lib.hid (Nat.zero_le _), HSL, rfl, rfl, Lib.hid (fun j x h => by omega), rfl⟩
            case round =>
              clear hii HJ HSL HIL
              obtain ⟨i, s, HIL, HSL, rfl, rfl, HJ, rfl⟩ := hrel
              by_cases hi : i < m
              · have hii : (i : Int) < (m : Int) := by omega
                have hib : i < ds.length := by rw [HM.out]; exact hi
                obtain ⟨x, hx⟩ : ∃ x, ds[i] = x := ⟨_, rfl⟩
                obtain ⟨g, o, rfl, hc⟩ := (HD.out.lies.below HB0.out).at_ hib
                rw [hx] at hc
                have cx := hc 2 _ rfl
                unfold bvv at cx
                have HXS := Lib.hid (p := ds[i]? = some x) (by rw [List.getElem?_eq_getElem hib, hx])
                have hxm := HD.out.max x (List.mem_of_getElem? HXS.out)
                obtain ⟨t, ht⟩ : ∃ t, x.blk.l.length = t := ⟨_, rfl⟩
                rw [ht] at cx hxm
                have HT := Lib.hid ht
                have hs1 := HSL.out
                have hiw : IntKind.i64.wrap ((i : Int) + 1) = (i : Int) + 1 := by rw [IntKind.wrap_i64]; have := H34.out; omega
                have hsw : IntKind.i64.wrap ((s : Int) + (t : Int)) = ((s + t : Nat) : Int) := by rw [IntKind.wrap_i64]; omega
                have HIT := Lib.hid hi
                clear hi hib hx hc ht
                by_cases hst : s + t ≤ 131072
                · have est : ¬ (131072 : Int) < ((s + t : Nat) : Int) := by omega
                  have HST := Lib.hid hst
                  obtain ⟨st, hst2⟩ : ∃ st, s + t = st := ⟨_, rfl⟩
                  rw [hst2] at hsw est HST
                  have HS2 := Lib.hid hst2
                  clear hst hst2 hxm hs1
                  go_wp2
                  go_roundw
                  case rel =>
                    refine ⟨i + 1, st, Lib.hid HIT.out, HST, by go_num, by go_num, Lib.hid (fun j x' hj hx' => ?_), trivial⟩
                    by_cases e : j = i
                    · subst e
                      rw [HXS.out] at hx'
                      injection hx' with hx'
                      subst hx'
                      have := HT.out
                      have := HS2.out
                      have := HST.out
                      omega
                    · exact HJ.out j x' (by omega) hx'
                  case measure => have := HIT.out; simp [intOf]; omega
                · have est : (131072 : Int) < ((s + t : Nat) : Int) := by omega
                  obtain ⟨st, hst2⟩ : ∃ st, s + t = st := ⟨_, rfl⟩
                  rw [hst2] at hsw est
                  clear hst hst2 hxm hs1
                  go_wp2
                  go_ret
                  exact ⟨false, rfl, Lib.hid (fun h => by cases h), HB0⟩
              · have hii : ¬ (i : Int) < (m : Int) := by omega
                clear hi
                go_wp2
                go_ret
                refine ⟨true, rfl, Lib.hid (fun _ => ⟨by rw [HN.out, HK.out], by rw [HN.out]; exact H34.out.1, HALL.out, by rw [HM.out]; exact H34.out.2, fun d hd => ?_⟩), HB0⟩
                obtain ⟨j, hj, e⟩ := List.mem_iff_getElem.1 hd
                exact HJ.out j d (by have := HM.out; have := HIL.out; omega) (by rw [List.getElem?_eq_getElem hj, e])
      · have e4 : (100 : Int) < (m : Int) := by omega
        clear h3 h4
        go_enter Try.func8, Try.ntmps8
        go_wp2
        go_quiet (fail)
        go_wp2
        go_ret
        exact ⟨false, rfl, Lib.hid (fun h => by cases h), Lib.hid (below_drewN (Below.refl _ _) _)⟩
    · have e3 : (300 : Int) < (n : Int) := by omega
      clear h3
      go_enter Try.func8, Try.ntmps8
      go_wp2
      go_quiet (fail)
      go_wp2
      go_ret
      exact ⟨false, rfl, Lib.hid (fun h => by cases h), Lib.hid (below_drewN (Below.refl _ _) _)⟩
  · have hni : ¬ (n : Int) = (k : Int) := by omega
    have hne : ((n : Int) != (k : Int)) = true := by rw [bne_iff_ne]; exact hni
    clear h2
    go_enter Try.func8, Try.ntmps8
    go_wp2
    go_quiet (fail)
    go_wp2
    go_ret
    exact ⟨false, rfl, Lib.hid (fun h => by cases h), Lib.hid (below_drewN (Below.refl _ _) _)⟩
end Go.Proofs.Ytpobppoaidngeaa
