/- Two lists of bytes, two lists of changes that are alike: what tells so. Conditions: they lie there, and are alike. -/
import Derived.Test.YtpobppoaidngeaaKh
import Derived.Test.YtpobppoaidngeaaRBy
set_option linter.unusedVariables false
set_option maxRecDepth 20000
namespace Go.Proofs.Ytpobppoaidngeaa
open Go.RowKit

theorem bytes_same (x y : BV) (w : World) (hx : Hol w x.A x.l) (hy : Hol w y.A y.l) (he : x.l = y.l) (hl : x.l.length ≤ 131072) : Calls Try.prog 21 #[.slice x.A x.l.length x.c, .slice y.A y.l.length y.c] w fun e w' => e = .returned (.bool true) ∧ Below w.heap.size w w' := by
  have h := rbytes_any x.A y.A x.c y.c x.l y.l w hx hy (by omega) (by rw [← he]; omega)
  rwa [decide_eq_true he] at h
/-- Slices of bytes as they lie. -/
structure SlsAt (w : World) (A : Option Addr) (xs : List BV) : Prop where
  lies : Lies sc 1 w A xs
  hol : ∀ x ∈ xs, Hol w x.A x.l
  len : ∀ x ∈ xs, x.l.length ≤ 131072
  lim : xs.length ≤ 1000
theorem SlsAt.below {w w' : World} {A : Option Addr} {xs : List BV} (h : SlsAt w A xs) (hb : Below w.heap.size w w') : SlsAt w' A xs := ⟨h.lies.below hb, fun p hp => (h.hol p hp).below hb, h.len, h.lim⟩
theorem get_map_l {xs ys : List BV} (h : xs.map BV.l = ys.map BV.l) {k : Nat} {x y : BV} (hx : xs[k]? = some x) (hy : ys[k]? = some y) : x.l = y.l := by
  have := congrArg (·[k]?) h
  simp only [List.getElem?_map, hx, hy, Option.map_some, Option.some.injEq] at this
  exact this
set_option maxHeartbeats 1000000 in
theorem lists_same (A B : Option Addr) (c d : Nat) (xs ys : List BV) (w : World) (hx : SlsAt w A xs) (hy : SlsAt w B ys) (he : xs.map BV.l = ys.map BV.l) (hn : xs.length ≤ 1000) :
    Calls Try.prog 17 #[.slice A xs.length c, .slice B ys.length d] w fun e w' => e = .returned (.bool true) ∧ Below w.heap.size w w' := by
  have hl : ys.length = xs.length := by have := congrArg List.length he; simpa using this.symm
  obtain ⟨n, hn2⟩ : ∃ n, xs.length = n := ⟨_, rfl⟩
  have HXN := Lib.hid hn2
  have HYN := Lib.hid (p := ys.length = n) (by rw [hl, hn2])
  rw [hl, hn2]
  have HX := Lib.hid hx
  have HY := Lib.hid hy
  have HE := Lib.hid he
  have hn3 : n ≤ 1000 := by omega
  clear hx hy he hn hl hn2
  go_enter Try.func17, Try.ntmps17
  go_wp2
  go_loopw [5] (fun i wr => ∃ k : Nat, Hid (k ≤ n) ∧ i = .int .i64 (k : Int) ∧ Hid (Below w.heap.size w wr)) (fun i _ => n - (intOf i).toNat)
  case atStart => exact ⟨0, Lib.hid (Nat.zero_le _), rfl, Lib.hid (Below.refl _ _)⟩
  case round =>
    obtain ⟨k, HKL, rfl, HB⟩ := hrel
    by_cases hk : k < n
    · have hki : (k : Int) < (n : Int) := by omega
      obtain ⟨g, o, rfl, hc⟩ := (HX.out.lies.below HB.out).at_ (j := k) (by rw [HXN.out]; exact hk)
      obtain ⟨g', o', rfl, hc'⟩ := (HY.out.lies.below HB.out).at_ (j := k) (by rw [HYN.out]; exact hk)
      obtain ⟨x, hx⟩ : ∃ x, xs[k]'(by rw [HXN.out]; exact hk) = x := ⟨_, rfl⟩
      obtain ⟨y, hy⟩ : ∃ y, ys[k]'(by rw [HYN.out]; exact hk) = y := ⟨_, rfl⟩
      rw [hx] at hc
      rw [hy] at hc'
      have cx := hc 0 _ rfl
      have cy := hc' 0 _ rfl
      simp only [Nat.mul_one, Nat.add_zero] at cx cy
      unfold bvv at cx cy
      have hxm : x ∈ xs := by rw [← hx]; exact List.getElem_mem _
      have hym : y ∈ ys := by rw [← hy]; exact List.getElem_mem _
      have hxs : xs[k]? = some x := by rw [← hx]; exact List.getElem?_eq_getElem _
      have hys : ys[k]? = some y := by rw [← hy]; exact List.getElem?_eq_getElem _
      have HBY := Lib.hid (fun W (hb : Below wr.heap.size wr W) => bytes_same x y W (((HX.out.hol x hxm).below HB.out).below hb) (((HY.out.hol y hym).below HB.out).below hb) (get_map_l HE.out hxs hys) (HX.out.len x hxm))
      have HKT := Lib.hid hk
      have hkw : IntKind.i64.wrap ((k : Int) + 1) = (k : Int) + 1 := by rw [IntKind.wrap_i64]; omega
      clear hc hc' hx hy hxm hym hxs hys hk
      go_wp2
      go_still_tail 8, (by kernel_rfl)
      change wpList _ _ _ _ _ wr.drew
      go_wp2_with (go_at_call 21; refine (HBY.out _ (below_drw wr)).mono ?_; rintro e w4 ⟨rfl, hb4⟩; have HB4 := Lib.hid ((below_drw wr).trans (hb4.mono (Nat.le_refl _))); clear hb4)
      go_roundw
      case rel => exact ⟨k + 1, Lib.hid HKT.out, by go_num, Lib.hid (below_nxt HB4.out HB.out)⟩
      case measure => have := HKT.out; simp [intOf]; omega
    · have hki : ¬ (k : Int) < (n : Int) := by omega
      clear hk
      go_wp2
      go_ret
      exact ⟨rfl, HB.out⟩
theorem get_chL {ps qs : List (Int × BV)} (h : chL ps = chL qs) {k : Nat} {p q : Int × BV} (hp : ps[k]? = some p) (hq : qs[k]? = some q) : p.1 = q.1 ∧ p.2.l = q.2.l := by
  have := congrArg (·[k]?) h
  simp only [chL, List.getElem?_map, hp, hq, Option.map_some, Option.some.injEq, Prod.mk.injEq] at this
  exact this
set_option maxHeartbeats 1000000 in
theorem puts_same (A B : Option Addr) (c d : Nat) (xs ys : List (Int × BV)) (w : World) (hx : PutsAt w A xs) (hy : PutsAt w B ys) (he : chL xs = chL ys) (hn : xs.length ≤ 1000) :
    Calls Try.prog 15 #[.slice A xs.length c, .slice B ys.length d] w fun e w' => e = .returned (.bool true) ∧ Below w.heap.size w w' := by
  have hl : ys.length = xs.length := by have := congrArg List.length he; simp [chL] at this; exact this.symm
  obtain ⟨n, hn2⟩ : ∃ n, xs.length = n := ⟨_, rfl⟩
  have HXN := Lib.hid hn2
  have HYN := Lib.hid (p := ys.length = n) (by rw [hl, hn2])
  rw [hl, hn2]
  have HX := Lib.hid hx
  have HY := Lib.hid hy
  have HE := Lib.hid he
  have hn3 : n ≤ 1000 := by omega
  clear hx hy he hn hl hn2
  go_enter Try.func15, Try.ntmps15
  go_wp2
  go_loopw [5] (fun i wr => ∃ k : Nat, Hid (k ≤ n) ∧ i = .int .i64 (k : Int) ∧ Hid (Below w.heap.size w wr)) (fun i _ => n - (intOf i).toNat)
  case atStart => exact ⟨0, Lib.hid (Nat.zero_le _), rfl, Lib.hid (Below.refl _ _)⟩
  case round =>
    obtain ⟨k, HKL, rfl, HB⟩ := hrel
    by_cases hk : k < n
    · have hki : (k : Int) < (n : Int) := by omega
      obtain ⟨g, o, rfl, hc⟩ := (HX.out.lies.below HB.out).at_ (j := k) (by rw [HXN.out]; exact hk)
      obtain ⟨g', o', rfl, hc'⟩ := (HY.out.lies.below HB.out).at_ (j := k) (by rw [HYN.out]; exact hk)
      obtain ⟨x, hx⟩ : ∃ x, xs[k]'(by rw [HXN.out]; exact hk) = x := ⟨_, rfl⟩
      obtain ⟨y, hy⟩ : ∃ y, ys[k]'(by rw [HYN.out]; exact hk) = y := ⟨_, rfl⟩
      rw [hx] at hc
      rw [hy] at hc'
      have hxm : x ∈ xs := by rw [← hx]; exact List.getElem_mem _
      have hym : y ∈ ys := by rw [← hy]; exact List.getElem_mem _
      have hxs : xs[k]? = some x := by rw [← hx]; exact List.getElem?_eq_getElem _
      have hys : ys[k]? = some y := by rw [← hy]; exact List.getElem?_eq_getElem _
      obtain ⟨h1, h2⟩ := get_chL HE.out hxs hys
      have cx := hc 0 _ rfl
      have cy := hc' 0 _ rfl
      have dx := hc 1 _ rfl
      have dy := hc' 1 _ rfl
      simp only [Nat.add_zero] at cx cy
      rw [← h1] at cy
      unfold bvv at dx dy
      obtain ⟨z, hz⟩ : ∃ z, x.1 = z := ⟨_, rfl⟩
      rw [hz] at cx cy
      have hzz : (z != z) = false := by simp
      have HBY := Lib.hid (fun W (hb : Below wr.heap.size wr W) => bytes_same x.2 y.2 W (((HX.out.hol x hxm).below HB.out).below hb) (((HY.out.hol y hym).below HB.out).below hb) h2 (HX.out.len x hxm))
      have HKT := Lib.hid hk
      have hkw : IntKind.i64.wrap ((k : Int) + 1) = (k : Int) + 1 := by rw [IntKind.wrap_i64]; omega
      clear hc hc' hx hy hxm hym hxs hys hk h1 h2 hz
      go_wp2
      go_still_tail 22, (by kernel_rfl)
      change wpList _ _ _ _ _ wr.drew
      go_wp2_with (go_at_call 21; refine (HBY.out _ (below_drw wr)).mono ?_; rintro e w4 ⟨rfl, hb4⟩; have HB4 := Lib.hid ((below_drw wr).trans (hb4.mono (Nat.le_refl _))); clear hb4)
      go_roundw
      case rel => exact ⟨k + 1, Lib.hid HKT.out, by go_num, Lib.hid (below_nxt HB4.out HB.out)⟩
      case measure => have := HKT.out; simp [intOf]; omega
    · have hki : ¬ (k : Int) < (n : Int) := by omega
      clear hk
      go_wp2
      go_ret
      exact ⟨rfl, HB.out⟩
end Go.Proofs.Ytpobppoaidngeaa
