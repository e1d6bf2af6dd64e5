/- Whether a script is small enough, as the fifth stage's laws ask. Conditions: the steps lie there, their lists of at most 2^47. -/
import Derived.Test.YtnajlineipapdaaDoIn
import Derived.BigQuiet
import Derived.Deep.QuietTactic
set_option linter.unusedVariables false
namespace Go.Proofs.Ytnajlineipapdaa
open Go.RowKit

/-- The first steps' lists are short. -/
def FewD (ds : List DoV) : Prop := ∀ (j : Nat) (d : DoV), j < 120 → ds[j]? = some d → d.l.length ≤ 131072 ∧ d.tl.length ≤ 131072 ∧ d.kl.length ≤ 131072
def ShortD (ds : List DoV) : Prop := ∀ (j : Nat) (d : DoV), ds[j]? = some d → d.l.length ≤ 140737488355328 ∧ d.tl.length ≤ 140737488355328 ∧ d.kl.length ≤ 140737488355328
def FewPost (w : World) (ds : List DoV) (e : Ending) (w' : World) : Prop := ∃ b, e = .returned (.bool b) ∧ Below w.heap.size w w' ∧ (b = true → FewD ds)
set_option maxRecDepth 20000 in
set_option maxHeartbeats 2000000 in
theorem fewd_any (A : Option Addr) (c : Nat) (ds : List DoV) (hlen : ds.length ≤ 9223372036854775807) (hS : ShortD ds) (w : World) (hD : InDo w A ds.length c ds) :
    Calls Try.prog 9 #[.slice A ds.length c] w (FewPost w ds) := by
  have HD := Lib.hid hD
  have HS := Lib.hid hS
  clear hD hS hlen
  go_enter Try.func9, Try.ntmps9
  go_wp2
  go_loopw [3, 4] (fun y x wr => ∃ k m : Nat, k ≤ ds.length ∧ k ≤ 120 ∧ m ≤ 131072 ∧ x = .int .i64 (k : Int) ∧ y = .int .i64 (m : Int) ∧ Hid (∀ (j : Nat) (d : DoV), j < k → ds[j]? = some d → d.l.length ≤ 131072 ∧ d.tl.length ≤ 131072 ∧ d.kl.length ≤ 131072) ∧ Below w.heap.size w wr) (fun _ x _ => 120 - (intOf x).toNat)
  case atStart => exact ⟨0, 0, by omega, by omega, by omega, rfl, rfl, Lib.hid (fun j d hj => by omega), Below.refl _ _⟩
  case round =>
    obtain ⟨k, m, hk, hk2, hm, rfl, rfl, hno, hB⟩ := hrel
    have hkw : IntKind.i64.wrap ((k : Int) + 1) = (k : Int) + 1 := by rw [IntKind.wrap_i64]; omega
    by_cases h1 : k < ds.length
    · by_cases h2 : k < 120
      · have h1i : (k : Int) < (ds.length : Int) := by omega
        have h2i : (k : Int) < 120 := by omega
        obtain ⟨d, hd⟩ : ∃ d, ds[k]? = some d := ⟨_, List.getElem?_eq_getElem h1⟩
        obtain ⟨⟨g, o, rfl, hc⟩, _⟩ := (HD.out.below hB).at_ k d hd
        obtain ⟨s1, s2, s3⟩ := HS.out k d hd
        have c2 := hc 2 _ rfl
        have c4 := hc 4 _ rfl
        have c8 : wr.cell? ⟨g, o + k * 9 + 5 + 3, none⟩ = some (.slice d.TA d.tl.length d.tcap) := hc 8 _ rfl
        have HDK := Lib.hid hd
        have HBR := Lib.hid hB
        have HM := Lib.hid hm
        obtain ⟨n1, hn1⟩ : ∃ n1, n1 = m + d.l.length := ⟨_, rfl⟩
        obtain ⟨n2, hn2⟩ : ∃ n2, n2 = n1 + d.tl.length := ⟨_, rfl⟩
        obtain ⟨n3, hn3⟩ : ∃ n3, n3 = n2 + d.kl.length := ⟨_, rfl⟩
        have e1 : IntKind.i64.wrap ((m : Int) + (d.l.length : Int)) = (n1 : Int) := by rw [IntKind.wrap_i64]; omega
        have e2 : IntKind.i64.wrap ((n1 : Int) + (d.tl.length : Int)) = (n2 : Int) := by rw [IntKind.wrap_i64]; omega
        have e3 : IntKind.i64.wrap ((n2 : Int) + (d.kl.length : Int)) = (n3 : Int) := by rw [IntKind.wrap_i64]; omega
        have HN1 := Lib.hid hn1
        have HN2 := Lib.hid hn2
        have HN3 := Lib.hid hn3
        have HNO := hno
        clear hd hc s1 s2 s3 hB hm hn1 hn2 hn3 hno
        by_cases hbig : (131072 : Int) < (n3 : Int)
        · go_wp2
          go_quiet (fail)
          go_wp2
          go_ret
          exact ⟨false, rfl, below_drewN HBR.out _, fun h => by cases h⟩
        · have HBG := Lib.hid (p := n3 ≤ 131072) (by omega)
          go_wp2
          go_quiet (fail)
          go_wp2
          go_roundw
          case rel => exact ⟨k + 1, n3, by omega, by omega, HBG.out, by go_num, rfl, Lib.hid (fun j q hj hq => by
            rcases Nat.lt_or_ge j k with h | h
            · exact HNO.out j q h hq
            · obtain rfl : j = k := by omega
              have := HDK.out
              rw [hq] at this
              injection this with this
              subst this
              have a1 := HN1.out
              have a2 := HN2.out
              have a3 := HN3.out
              have a4 := HBG.out
              omega), below_drewN HBR.out _⟩
          case measure => simp [intOf]; omega
      · have h2i : ¬ (k : Int) < 120 := by omega
        have h1i : (k : Int) < (ds.length : Int) := by omega
        go_wp2
        go_ret
        exact ⟨true, rfl, hB, fun _ j d hj hd => hno.out j d (by omega) hd⟩
    · have h1i : ¬ (k : Int) < (ds.length : Int) := by omega
      go_wp2
      go_ret
      exact ⟨true, rfl, hB, fun _ j d hj hd => hno.out j d (by have := (List.getElem?_eq_some_iff.1 hd).1; omega) hd⟩
end Go.Proofs.Ytnajlineipapdaa
