/- Whether names rise; whether cookies are apart. Conditions: no more than a million entries, the library's tables lie there. -/
import Derived.Test.YtijffkklhgnknaaDoorQx
set_option linter.unusedVariables false
set_option maxRecDepth 20000
namespace Go.Proofs.YtijffkklhgnknaaDoor
open Go.RowKit

/-- Each name is below the next one's. -/
def Rises (X : List Ent) : Prop := ∀ q x y, X[q]? = some x → X[q + 1]? = some y → lessD x.nm.data.toList y.nm.data.toList = true
def RiseP (X : List Ent) (e : Ending) : Prop := ∃ z : Bool, e = .returned (.bool z) ∧ (z = true ↔ Rises X)
set_option maxHeartbeats 2000000 in
theorem rise_any (A : Option Addr) (n c : Nat) (X : List Ent) (hmax : n ≤ 1000000) (w : World) (h : Lies ecs 5 w A X) (hn : X.length = n) (hnm : ∀ e ∈ X, e.nm.size ≤ 4294967296) (hT : Tabs w) :
    Calls Tryd.prog 45 #[.slice A n c] w fun e w' => RiseP X e ∧ Below w.heap.size w w' := by
  have H := Lib.hid h
  have HN := Lib.hid (And.intro hmax hn)
  have HNM := Lib.hid hnm
  have HT := Lib.hid hT
  clear h hmax hn hnm hT
  go_enter Tryd.func45, Tryd.ntmps45
  go_wp2
  go_loopw [3] (fun y wr => ∃ (k : Nat), y = .int .i64 (k : Int) ∧ Hid (1 ≤ k ∧ (k ≤ n ∨ k = 1)) ∧ Hid (∀ q x y, q + 1 < k → X[q]? = some x → X[q + 1]? = some y → lessD x.nm.data.toList y.nm.data.toList = true) ∧ Hid (Below w.heap.size w wr)) (fun y _ => n - (intOf y).toNat)
  case atStart => exact ⟨1, rfl, Lib.hid ⟨Nat.le_refl _, .inr rfl⟩, Lib.hid (fun q x y hq => absurd hq (by omega)), Lib.hid (Below.refl _ _)⟩
  case round =>
    obtain ⟨k, rfl, HK, HP, HB⟩ := hrel
    rename World => wr
    by_cases hk : k < n
    · have hki : (k : Int) < (n : Int) := by omega
      obtain ⟨q, hq⟩ : ∃ q, q + 1 = k := ⟨k - 1, by have := HK.out; omega⟩
      have hqi : (q : Int) < (n : Int) := by omega
      have hqw : IntKind.i64.wrap ((k : Int) - 1) = (q : Int) := by rw [IntKind.wrap_i64]; have := HN.out; omega
      have hkw : IntKind.i64.wrap ((k : Int) + 1) = (k : Int) + 1 := by rw [IntKind.wrap_i64]; have := HN.out; omega
      obtain ⟨x, hx⟩ : ∃ x, X[q]? = some x := ⟨_, List.getElem?_eq_getElem (by have := HN.out; omega)⟩
      obtain ⟨y, hy⟩ : ∃ y, X[k]? = some y := ⟨_, List.getElem?_eq_getElem (by have := HN.out; omega)⟩
      obtain ⟨g0, o0, rfl, cx⟩ := lies_nm (H.out.below HB.out) hx
      obtain ⟨g1, o1, he, cy⟩ := lies_nm (H.out.below HB.out) hy
      injection he with he
      injection he with he1 he2
      subst he1 he2
      have HXY := Lib.hid (And.intro hx (And.intro hy hq))
      have HKK := Lib.hid hk
      have HLE := Lib.hid (less_any x.nm y.nm wr.drew (by have := HNM.out x (List.mem_of_getElem? hx); omega) (by have := HNM.out y (List.mem_of_getElem? hy); omega) (tabs_below HT.out (HB.out.trans ((below_drw wr).mono HB.out.size))))
      clear hx hy hq hk
      obtain ⟨z, hz⟩ : ∃ z, lessD x.nm.data.toList y.nm.data.toList = z := ⟨_, rfl⟩
      have HZ := Lib.hid hz
      cases z
      · clear hz
        go_wp2
        go_still_tail 11, (by kernel_rfl)
        change wpList _ _ _ _ _ wr.drew
        go_wp2_with (go_at_call 61; refine HLE.out.mono ?_; rintro e w2 ⟨rfl, hb⟩
                     have HB2 := Lib.hid (below_nxt hb (below_drw wr))
                     rw [HZ.out]
                     clear hb)
        go_ret
        refine ⟨⟨false, rfl, ⟨(fun h => by cases h), fun h => ?_⟩⟩, below_nxt HB2.out HB.out⟩
        have h1 := h q x y HXY.out.1 (by rw [HXY.out.2.2]; exact HXY.out.2.1)
        rw [HZ.out] at h1
        cases h1
      · clear hz
        go_wp2
        go_still_tail 11, (by kernel_rfl)
        change wpList _ _ _ _ _ wr.drew
        go_wp2_with (go_at_call 61; refine HLE.out.mono ?_; rintro e w2 ⟨rfl, hb⟩
                     have HB2 := Lib.hid (below_nxt hb (below_drw wr))
                     rw [HZ.out]
                     clear hb)
        go_roundw
        case rel =>
          refine ⟨k + 1, by go_num, Lib.hid ⟨by omega, .inl HKK.out⟩, Lib.hid (fun q' x' y' hq' hx' hy' => ?_), Lib.hid (below_nxt HB2.out HB.out)⟩
          by_cases e1 : q' = q
          · subst e1
            have h1 := HXY.out
            rw [h1.1] at hx'
            rw [h1.2.2, h1.2.1] at hy'
            injection hx' with hx'
            injection hy' with hy'
            rw [← hx', ← hy']
            exact HZ.out
          · exact HP.out q' x' y' (by have := HXY.out.2.2; omega) hx' hy'
        case measure => have := HKK.out; simp [intOf]; omega
    · have hki : ¬ (k : Int) < (n : Int) := by omega
      have HKE := Lib.hid hk
      clear hk
      go_wp2
      go_ret
      refine ⟨⟨true, rfl, ⟨fun _ q x y hx hy => ?_, fun _ => rfl⟩⟩, HB.out⟩
      refine HP.out q x y ?_ hx hy
      have h1 := (List.getElem?_eq_some_iff.1 hy).1
      have := HN.out
      have := HKE.out
      omega
end Go.Proofs.YtijffkklhgnknaaDoor
