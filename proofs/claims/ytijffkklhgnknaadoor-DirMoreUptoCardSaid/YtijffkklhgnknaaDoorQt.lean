/- What the laws take for small. Conditions: lengths within the reach. -/
import Derived.Test.YtijffkklhgnknaaDoorQr
set_option linter.unusedVariables false
set_option maxRecDepth 20000
namespace Go.Proofs.YtijffkklhgnknaaDoor
open Go.RowKit

theorem lies_nm {w : World} {A : Option Addr} {X : List Ent} (h : Lies ecs 5 w A X) {k : Nat} {x : Ent} (hx : X[k]? = some x) : ∃ g o, A = some ⟨g, o, none⟩ ∧ w.cell? ⟨g, o + k * 5, none⟩ = some (.string x.nm) := by
  obtain ⟨hk, hy⟩ := List.getElem?_eq_some_iff.1 hx
  obtain ⟨g, o, hA, hc⟩ := h.at_ hk
  rw [hy] at hc
  exact ⟨g, o, hA, hc 0 _ rfl⟩
/-- A truth, and what it says of a list of entries. -/
def SmallP (n : Nat) (X : List Ent) (e : Ending) : Prop := ∃ z : Bool, e = .returned (.bool z) ∧ (z = true → n ≤ 201 ∧ ∀ e ∈ X, e.nm.size ≤ 16384)
set_option maxHeartbeats 2000000 in
theorem small_any (A : Option Addr) (n c : Nat) (X : List Ent) (hmax : n ≤ 9223372036854775807) (w : World) (h : Lies ecs 5 w A X) (hn : X.length = n) (hnm : ∀ e ∈ X, e.nm.size ≤ 140737488355328) :
    Calls Tryd.prog 10 #[.slice A n c] w fun e w' => SmallP n X e ∧ Below w.heap.size w w' := by
  have H := Lib.hid h
  have HN := Lib.hid (And.intro hmax hn)
  have HNM := Lib.hid hnm
  clear h hmax hn hnm
  go_enter Tryd.func10, Tryd.ntmps10
  go_wp2
  go_loopw [3, 4] (fun x y wr => ∃ (k s : Nat), y = .int .i64 (k : Int) ∧ x = .int .i64 (s : Int) ∧ Hid (k ≤ n ∧ k ≤ 201 ∧ s ≤ 16384 ∧ ∀ e ∈ X.take k, e.nm.size ≤ 16384) ∧ Hid (Below w.heap.size w wr)) (fun _ y _ => n - (intOf y).toNat)
  case atStart => exact ⟨0, 0, rfl, rfl, Lib.hid ⟨Nat.zero_le _, Nat.zero_le _, Nat.zero_le _, fun e he => by simp at he⟩, Lib.hid (Below.refl _ _)⟩
  case round =>
    obtain ⟨k, s, rfl, rfl, HK, HB⟩ := hrel
    rename World => wr
    by_cases hk : k < n
    · have hki : (k : Int) < (n : Int) := by omega
      have hkw : IntKind.i64.wrap ((k : Int) + 1) = (k : Int) + 1 := by rw [IntKind.wrap_i64]; have := HK.out.2.1; omega
      have hkx : k < X.length := by have := HN.out; omega
      obtain ⟨x, hx⟩ : ∃ x, X[k]? = some x := ⟨_, List.getElem?_eq_getElem hkx⟩
      obtain ⟨g0, o0, rfl, hc⟩ := lies_nm (H.out.below HB.out) hx
      have hsz : x.nm.size ≤ 140737488355328 := HNM.out x (List.mem_of_getElem? hx)
      obtain ⟨t, ht⟩ : ∃ t : Nat, x.nm.size = t := ⟨_, rfl⟩
      obtain ⟨s2, hs2⟩ : ∃ s2 : Nat, s + t = s2 := ⟨_, rfl⟩
      have hsw : IntKind.i64.wrap ((s : Int) + (t : Int)) = (s2 : Int) := by rw [IntKind.wrap_i64]; have := HK.out; omega
      have HX := Lib.hid hx
      have HT := Lib.hid (p := x.nm.size = t ∧ s + t = s2) ⟨ht, hs2⟩
      have HKK := Lib.hid hk
      clear hx hkx hk hsz hs2
      by_cases hbig : 16384 < s2
      · have hbi : (16384 : Int) < (s2 : Int) := by omega
        go_wp2
        go_ret
        exact ⟨⟨false, rfl, fun h => by cases h⟩, HB.out⟩
      · have hbi : ¬ (16384 : Int) < (s2 : Int) := by omega
        have HBG := Lib.hid hbig
        clear hbig
        by_cases hmany : 200 < k
        · have hmi : (200 : Int) < (k : Int) := by omega
          go_wp2
          go_ret
          exact ⟨⟨false, rfl, fun h => by cases h⟩, HB.out⟩
        · have hmi : ¬ (200 : Int) < (k : Int) := by omega
          have HMY := Lib.hid hmany
          clear hmany
          go_wp2
          go_roundw
          case rel =>
            refine ⟨k + 1, s2, by go_num, rfl, Lib.hid ⟨HKK.out, by have := HMY.out; omega, by have := HBG.out; omega, fun e he => ?_⟩, HB⟩
            rw [List.take_add_one, HX.out] at he
            rcases List.mem_append.1 he with he | he
            · exact HK.out.2.2.2 e he
            · simp at he
              subst he
              have := HT.out
              have := HBG.out
              omega
          case measure => have := HKK.out; simp [intOf]; omega
    · have hke : k = n := by have := HK.out; omega
      have hki : ¬ (k : Int) < (n : Int) := by omega
      have HKE := Lib.hid hke
      clear hk hke
      go_wp2
      go_ret
      have h1 := HK.out.2.2.2
      rw [List.take_of_length_le (by rw [HN.out.2, HKE.out]; exact Nat.le_refl _)] at h1
      exact ⟨⟨true, rfl, fun _ => ⟨by have := HK.out; have := HKE.out; omega, h1⟩⟩, HB.out⟩
end Go.Proofs.YtijffkklhgnknaaDoor
