/- Whether a directory may be. Conditions: no more than a million entries, names no longer than 2^32, the library's tables lie there. -/
import Derived.Test.YtijffkklhgnknaaDoorRa
set_option linter.unusedVariables false
set_option maxRecDepth 20000
namespace Go.Proofs.YtijffkklhgnknaaDoor
open Go.RowKit

def MayL (X : List Ent) : Prop := X.length ≤ 32 ∧ (∀ e ∈ X, MayE e) ∧ Rises X ∧ Apart X
def MayP (X : List Ent) (e : Ending) : Prop := ∃ z : Bool, e = .returned (.bool z) ∧ (z = true ↔ MayL X)
set_option maxHeartbeats 2000000 in
theorem maybe_dir (A : Option Addr) (n c : Nat) (X : List Ent) (hmax : n ≤ 1000000) (w : World) (h : Lies ecs 5 w A X) (hn : X.length = n) (hnm : ∀ e ∈ X, e.nm.size ≤ 4294967296) (hT : Tabs w) :
    Calls Tryd.prog 25 #[.slice A n c] w fun e w' => MayP X e ∧ Below w.heap.size w w' := by
  have H := Lib.hid h
  have HN := Lib.hid (And.intro hmax hn)
  have HNM := Lib.hid hnm
  have HT := Lib.hid hT
  clear h hmax hn hnm hT
  by_cases hbig : 32 < n
  · have hbi : (32 : Int) < (n : Int) := by omega
    have HBG := Lib.hid hbig
    clear hbig
    go_enter Tryd.func25, Tryd.ntmps25
    go_wp2
    go_ret
    exact ⟨⟨false, rfl, ⟨(fun h => by cases h), fun h => absurd h.1 (by have := HBG.out; have := HN.out; omega)⟩⟩, Below.refl _ _⟩
  have hbi : ¬ (32 : Int) < (n : Int) := by omega
  have HBG := Lib.hid (p := n ≤ 32) (by omega)
  clear hbig
  go_enter Tryd.func25, Tryd.ntmps25
  go_wp2
  go_loopw [10] (fun y wr => ∃ (k : Nat), y = .int .i64 (k : Int) ∧ Hid (k ≤ n) ∧ Hid (∀ e ∈ X.take k, MayE e) ∧ Hid (Below w.heap.size w wr)) (fun y _ => n - (intOf y).toNat)
  case atStart => exact ⟨0, rfl, Lib.hid (Nat.zero_le _), Lib.hid (fun e he => by simp at he), Lib.hid (Below.refl _ _)⟩
  case round =>
    obtain ⟨k, rfl, HKL, HP, HB⟩ := hrel
    rename World => wr
    by_cases hk : k < n
    · have hki : (k : Int) < (n : Int) := by omega
      have hkw : IntKind.i64.wrap ((k : Int) + 1) = (k : Int) + 1 := by rw [IntKind.wrap_i64]; have := HN.out; omega
      have hkx : k < X.length := by have := HN.out; omega
      obtain ⟨g0, o0, rfl, hc⟩ := (H.out.below HB.out).at_ hkx
      obtain ⟨x, hx⟩ : ∃ x, X[k] = x := ⟨_, rfl⟩
      rw [hx] at hc
      have HX := Lib.hid (p := X[k]? = some x) (by rw [List.getElem?_eq_getElem hkx, hx])
      have HSZ := Lib.hid (p := x.nm.size ≤ 9223372036854775807) (by have := HNM.out x (List.mem_of_getElem? HX.out); omega)
      have HR := Lib.hid (p := wr.rangeAt g0 (o0 + k * 5) (ecs x)) (fun i u hu => hc i u hu)
      have HK := Lib.hid hk
      clear hc hx hkx hk
      obtain ⟨z, hz⟩ : ∃ z, decide (MayE x) = z := ⟨_, rfl⟩
      have HZ := Lib.hid hz
      cases z
      · clear hz
        go_wp2_with (first
          | (refine wpList_load_mid rfl 42 (.tmp 12) rfl g0 (o0 + k * 5) rfl (ecs x) _ HR.out Tryd.underlying42 rfl (info_ent x) ?_)
          | (refine step_alloc rfl 4 rfl 42 rfl (ecs ent0) zero_ent ?_; intro g4 w2 hr2 hg2 hb2 hs2
             have HR2 := Lib.hid hr2
             have HB2 := Lib.hid hb2
             have HG2 := hg2
             clear hr2 hg2 hb2 hs2)
          | (refine step_store rfl 42 _ _ rfl g4 rfl 42 (ecs ent0) (ecs x) rfl HR2.out rfl (info_ent x) (ecs_one x) ?_; intro w3 hr3 hg3 hs3
             have HR3 := Lib.hid hr3
             have HB3 := Lib.hid (below_nxt (HB2.out.grown hg3 HB2.out.size (fun q hq => by injection hq with hq; subst hq; exact Nat.le_of_eq HG2.out.symm)) HB.out)
             clear hr3 hg3 hs3)
          | (refine step_load rfl 14 rfl 42 (.tmp 4) rfl g4 rfl (ecs x) _ HR3.out.all Tryd.underlying42 rfl (info_ent x) ?_)
          | (go_at_call 44; refine (maye_any x w3 HSZ.out (tabs_below HT.out HB3.out)).mono ?_; rintro e w4 ⟨rfl, hb⟩
             have HB4 := Lib.hid (below_nxt hb HB3.out)
             rw [HZ.out]
             clear hb))
        go_ret
        exact ⟨⟨false, rfl, ⟨(fun h => by cases h), fun h => absurd (h.2.1 x (List.mem_of_getElem? HX.out)) (of_decide_eq_false HZ.out)⟩⟩, HB4.out⟩
      · clear hz
        go_wp2_with (first
          | (refine wpList_load_mid rfl 42 (.tmp 12) rfl g0 (o0 + k * 5) rfl (ecs x) _ HR.out Tryd.underlying42 rfl (info_ent x) ?_)
          | (refine step_alloc rfl 4 rfl 42 rfl (ecs ent0) zero_ent ?_; intro g4 w2 hr2 hg2 hb2 hs2
             have HR2 := Lib.hid hr2
             have HB2 := Lib.hid hb2
             have HG2 := hg2
             clear hr2 hg2 hb2 hs2)
          | (refine step_store rfl 42 _ _ rfl g4 rfl 42 (ecs ent0) (ecs x) rfl HR2.out rfl (info_ent x) (ecs_one x) ?_; intro w3 hr3 hg3 hs3
             have HR3 := Lib.hid hr3
             have HB3 := Lib.hid (below_nxt (HB2.out.grown hg3 HB2.out.size (fun q hq => by injection hq with hq; subst hq; exact Nat.le_of_eq HG2.out.symm)) HB.out)
             clear hr3 hg3 hs3)
          | (refine step_load rfl 14 rfl 42 (.tmp 4) rfl g4 rfl (ecs x) _ HR3.out.all Tryd.underlying42 rfl (info_ent x) ?_)
          | (go_at_call 44; refine (maye_any x w3 HSZ.out (tabs_below HT.out HB3.out)).mono ?_; rintro e w4 ⟨rfl, hb⟩
             have HB4 := Lib.hid (below_nxt hb HB3.out)
             rw [HZ.out]
             clear hb))
        go_roundw
        case rel =>
          refine ⟨k + 1, by go_num, Lib.hid HK.out, Lib.hid (fun e he => ?_), HB4⟩
          rw [List.take_add_one, HX.out] at he
          rcases List.mem_append.1 he with he | he
          · exact HP.out e he
          · simp at he
            subst he
            exact of_decide_eq_true HZ.out
        case measure => have := HK.out; simp [intOf]; omega
    · have hki : ¬ (k : Int) < (n : Int) := by omega
      have HALL := Lib.hid (p := ∀ e ∈ X, MayE e) (by
        have h1 := HP.out
        rw [List.take_of_length_le (by have := HN.out; have := HKL.out; omega)] at h1
        exact h1)
      clear hk
      go_wp2_with (first
        | (go_at_call 45; refine (rise_any A n c X HN.out.1 wr (H.out.below HB.out) HN.out.2 HNM.out (tabs_below HT.out HB.out)).mono ?_; rintro e w4 ⟨⟨z, rfl, hz⟩, hb⟩
           have HZ := Lib.hid hz
           have HB4 := Lib.hid (below_nxt hb HB.out)
           clear hz hb
           cases z)
        | (go_at_call 46; refine (apart_any A n c X HN.out.1 w4 (H.out.below HB4.out) HN.out.2).mono ?_; rintro e w5 ⟨⟨z2, rfl, hz2⟩, hb⟩
           have HZ2 := Lib.hid hz2
           have HB5 := Lib.hid (below_nxt hb HB4.out)
           clear hz2 hb))
      · go_ret
        exact ⟨⟨false, rfl, ⟨(fun h => by cases h), fun h => absurd (HZ.out.2 h.2.2.1) (by decide)⟩⟩, HB4.out⟩
      · go_ret
        exact ⟨⟨z2, rfl, ⟨fun h => ⟨by have := HBG.out; have := HN.out; omega, HALL.out, HZ.out.1 (by trivial), HZ2.out.1 h⟩, fun h => HZ2.out.2 h.2.2.2⟩⟩, HB5.out⟩
end Go.Proofs.YtijffkklhgnknaaDoor
