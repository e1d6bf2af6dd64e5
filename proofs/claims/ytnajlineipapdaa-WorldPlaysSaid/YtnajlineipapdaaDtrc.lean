/- The reference's traces compared. Conditions: both lie there. -/
import Derived.Test.YtnajlineipapdaaMgDisk
import Derived.Test.YtnajlineipapdaaMgPlain
import Derived.StillTailTactics
set_option linter.unusedVariables false
namespace Go.Proofs.Ytnajlineipapdaa
open Go.RowKit

/-- What a touch says. -/
def tv (t : Int × Int × BV) : Int × Int × List UInt8 := (t.1, t.2.1, t.2.2.l)
/-- A trace as it lies. -/
structure TrAt (w : World) (A : Option Addr) (xs : List (Int × Int × BV)) : Prop where
  c : xs = [] ∨ ∃ g off, A = some ⟨g, off, none⟩ ∧ ∀ j t, xs[j]? = some t → ∀ i u, (tc t)[i]? = some u → w.cell? ⟨g, off + j * 3 + i, none⟩ = some u
  h : ∀ t ∈ xs, Hol w t.2.2.A t.2.2.l ∧ t.2.2.l.length ≤ 9223372036854775807
theorem TrAt.at_ {w : World} {A : Option Addr} {xs : List (Int × Int × BV)} (h : TrAt w A xs) {j : Nat} {t : Int × Int × BV} (hj : xs[j]? = some t) :
    ∃ g off, A = some ⟨g, off, none⟩ ∧ w.cell? ⟨g, off + j * 3, none⟩ = some (.int .i64 t.1) ∧ w.cell? ⟨g, off + j * 3 + 1, none⟩ = some (.int .i64 t.2.1) ∧ w.cell? ⟨g, off + j * 3 + 2, none⟩ = some (.slice t.2.2.A t.2.2.l.length t.2.2.c) := by
  rcases h.c with rfl | ⟨g, off, rfl, hc⟩
  · simp at hj
  · exact ⟨g, off, rfl, hc j t hj 0 _ rfl, hc j t hj 1 _ rfl, hc j t hj 2 _ rfl⟩
theorem TrAt.below {w w' : World} {A : Option Addr} {xs : List (Int × Int × BV)} (h : TrAt w A xs) (hb : Below w.heap.size w w') : TrAt w' A xs := by
  refine ⟨?_, fun t ht => ⟨(h.h t ht).1.below hb, (h.h t ht).2⟩⟩
  rcases h.c with rfl | ⟨g, off, rfl, hc⟩
  · exact .inl rfl
  · exact .inr ⟨g, off, rfl, fun j t hj i u hu => (hb.cell (p := ⟨g, off + j * 3 + i, none⟩) (World.block_lt_of_cell? w _ (hc j t hj i u hu))).trans (hc j t hj i u hu)⟩
theorem tv_differ {xs ys : List (Int × Int × BV)} {k : Nat} {t s : Int × Int × BV} (h1 : xs[k]? = some t) (h2 : ys[k]? = some s) (hn : tv t ≠ tv s) : decide (xs.map tv = ys.map tv) = false := by
  refine decide_eq_false fun e => hn ?_
  have := congrArg (·[k]?) e
  simp only [List.getElem?_map, h1, h2, Option.map_some] at this
  injection this
set_option maxRecDepth 20000 in
set_option maxHeartbeats 4000000 in
theorem traces_any (A B : Option Addr) (c d : Nat) (xs ys : List (Int × Int × BV)) (w : World) (hA : TrAt w A xs) (hB : TrAt w B ys) (hx : xs.length ≤ 1000000) (hy : ys.length ≤ 1000000) :
    Calls Try.prog 27 #[.slice A xs.length c, .slice B ys.length d] w fun e w' => e = .returned (.bool (decide (xs.map tv = ys.map tv))) ∧ Below w.heap.size w w' := by
  have HA := Lib.hid hA
  have HB := Lib.hid hB
  have HX := Lib.hid hx
  have HY := Lib.hid hy
  clear hA hB hx hy
  by_cases hl : xs.length = ys.length
  · have HL := Lib.hid hl
    have hn : ((xs.length : Int) != (ys.length : Int)) = false := by rw [bne_eq_false_iff_eq]; omega
    clear hl
    generalize hR : decide (xs.map tv = ys.map tv) = R
    have HR := Lib.hid hR
    clear hR
    go_enter Try.func27, Try.ntmps27
    go_wp2
    go_loopw [5] (fun x wr => ∃ k : Nat, k ≤ xs.length ∧ x = .int .i64 (k : Int) ∧ (∀ j, j < k → (xs.map tv)[j]? = (ys.map tv)[j]?) ∧ Below w.heap.size w wr) (fun x _ => xs.length - (intOf x).toNat)
    case atStart => exact ⟨0, by omega, rfl, fun j hj => absurd hj (by omega), Below.refl _ _⟩
    case round =>
      obtain ⟨k, hk, rfl, hq, hb⟩ := hrel
      have hkw : IntKind.i64.wrap ((k : Int) + 1) = (k : Int) + 1 := by rw [IntKind.wrap_i64]; have := HX.out; omega
      have HQ := Lib.hid hq
      have HBB := Lib.hid hb
      have hA1 := HA.out.below hb
      have hB1 := HB.out.below hb
      clear hq hb
      by_cases hlt : k < xs.length
      · have hki : (k : Int) < (xs.length : Int) := by omega
        have hkj : (k : Int) < (ys.length : Int) := by have := HL.out; omega
        have hk0 : (0 : Int) ≤ (k : Int) := by omega
        obtain ⟨t, ht⟩ : ∃ t, xs[k]? = some t := ⟨_, List.getElem?_eq_getElem hlt⟩
        obtain ⟨s, hs⟩ : ∃ s, ys[k]? = some s := ⟨_, List.getElem?_eq_getElem (by have := HL.out; omega)⟩
        obtain ⟨ga, oa, rfl, a0, a1, a2⟩ := hA1.at_ ht
        obtain ⟨gb, ob, rfl, b0, b1, b2⟩ := hB1.at_ hs
        have HTM := Lib.hid (hA1.h t (List.mem_of_getElem? ht))
        have HSM := Lib.hid (hB1.h s (List.mem_of_getElem? hs))
        have HT := Lib.hid ht
        have HS := Lib.hid hs
        clear hA1 hB1 ht hs
        by_cases h0 : t.1 = s.1
        · have n0 : (t.1 != s.1) = false := by rw [h0]; simp
          by_cases h1 : t.2.1 = s.2.1
          · have n1 : (t.2.1 != s.2.1) = false := by rw [h1]; simp
            have HE := Lib.hid h0
            have HE1 := Lib.hid h1
            clear h0 h1
            go_wp2
            go_still_tail 35, (by kernel_rfl)
            change wpList _ _ _ _ _ wr.drew
            have hd := HBB.out.drew
            have HHA := Lib.hid (p := Hol wr.drew t.2.2.A t.2.2.l) (HTM.out.1.below (below_drw wr))
            have HHB := Lib.hid (p := Hol wr.drew s.2.2.A s.2.2.l) (HSM.out.1.below (below_drw wr))
            have HDD := Lib.hid hd
            clear hd a0 a1 a2 b0 b1 b2 HBB
            generalize wr.drew = wz at *
            by_cases h2 : t.2.2.l = s.2.2.l
            · have e2 : decide (t.2.2.l = s.2.2.l) = true := decide_eq_true h2
              have HE2 := Lib.hid h2
              clear h2
              go_wp2_with (go_at_call 16; refine (rbytes_any _ _ _ _ _ _ _ HHA.out HHB.out HTM.out.2 HSM.out.2).mono ?_; rintro x w3 ⟨rfl, hb3⟩; rw [e2]; have HB3 := Lib.hid hb3; clear hb3)
              go_roundw
              case rel =>
                refine ⟨k + 1, by omega, by go_num, fun j hj => ?_, HDD.out.trans (HB3.out.mono HDD.out.size)⟩
                by_cases hj2 : j < k
                · exact HQ.out j hj2
                · obtain rfl : j = k := by omega
                  rw [List.getElem?_map, List.getElem?_map, HT.out, HS.out]
                  show some (tv t) = some (tv s)
                  unfold tv
                  rw [HE.out, HE1.out, HE2.out]
              case measure => simp [intOf]; omega
            · have e2 : decide (t.2.2.l = s.2.2.l) = false := decide_eq_false h2
              have HE2 := Lib.hid h2
              clear h2
              go_wp2_with (go_at_call 16; refine (rbytes_any _ _ _ _ _ _ _ HHA.out HHB.out HTM.out.2 HSM.out.2).mono ?_; rintro x w3 ⟨rfl, hb3⟩; rw [e2]; have HB3 := Lib.hid hb3; clear hb3)
              go_ret
              exact ⟨by rw [← HR.out, tv_differ HT.out HS.out (fun e => HE2.out (congrArg (·.2.2) e))]; rfl, HDD.out.trans (HB3.out.mono HDD.out.size)⟩
          · have n1 : (t.2.1 != s.2.1) = true := by rw [bne_iff_ne]; exact h1
            have HE1 := Lib.hid h1
            clear h0 h1
            go_wp2
            go_quiet (fail)
            go_wp2
            go_ret
            exact ⟨by rw [← HR.out, tv_differ HT.out HS.out (fun e => HE1.out (congrArg (·.2.1) e))]; rfl, below_drewN HBB.out _⟩
        · have n0 : (t.1 != s.1) = true := by rw [bne_iff_ne]; exact h0
          have HE := Lib.hid h0
          clear h0
          go_wp2
          go_quiet (fail)
          go_wp2
          go_ret
          exact ⟨by rw [← HR.out, tv_differ HT.out HS.out (fun e => HE.out (congrArg (·.1) e))]; rfl, below_drewN HBB.out _⟩
      · obtain rfl : k = xs.length := by omega
        clear hA1 hB1
        go_wp2
        go_ret
        refine ⟨?_, HBB.out⟩
        have he : xs.map tv = ys.map tv := by
          refine List.ext_getElem? fun j => ?_
          by_cases hj : j < xs.length
          · exact HQ.out j hj
          · rw [List.getElem?_eq_none (by simp; omega), List.getElem?_eq_none (by have := HL.out; simp; omega)]
        rw [← HR.out, decide_eq_true he]
        rfl
  · have hn : ((xs.length : Int) != (ys.length : Int)) = true := by rw [bne_iff_ne]; omega
    have hd : decide (xs.map tv = ys.map tv) = false := decide_eq_false fun e => hl (by have := congrArg List.length e; simpa using this)
    rw [hd]
    clear hd hl
    go_enter Try.func27, Try.ntmps27
    go_wp2
    go_ret
    exact ⟨rfl, Below.refl _ _⟩
end Go.Proofs.Ytnajlineipapdaa
