/- Bytes xored with others, by the reference: what the call leaves, for all bytes up to 2^40. No other conditions. -/
import Derived.Test.YtibnmhaipogleaaDoorApp
import Derived.Test.YtibnmhaipogleaaDoorAes
import Derived.Test.YtibnmhaipogleaaDoorBytes
import Derived.BigQuiet
set_option linter.unusedVariables false
namespace Go.Proofs.YtibnmhaipogleaaDoor
open Go.RowKit

/-- Bytes and as many others, or more. -/
def xr (a b : List UInt8) (j : Nat) : UInt8 := a.getD j 0 ^^^ b.getD j 0
theorem xr_at {a b : List UInt8} {j : Nat} (ha : j < a.length) (hb : j < b.length) : xr a b j = a[j] ^^^ b[j] := by
  unfold xr
  rw [List.getD_eq_getElem?_getD, List.getD_eq_getElem?_getD, List.getElem?_eq_getElem ha, List.getElem?_eq_getElem hb]
  rfl
theorem rxorl_any (A Bx : Option Addr) (c d : Nat) (a b : List UInt8) (hab : a.length ≤ b.length) (hla : a.length ≤ 1099511627776) (hlb : b.length ≤ 9223372036854775807) (w : World) (hA : Hol w A a) (hB : Hol w Bx b) :
    Calls Tryd.prog 18 #[.slice A a.length c, .slice Bx b.length d] w fun e w' => ∃ v, e = .returned v ∧ w'.ownsRow w.heap.size 5 1 v a.length (brr a.length (xr a b)) ∧ Below w.heap.size w w' := by
  obtain ⟨i, U⟩ := u8_tab
  have HA := Lib.hid hA
  have HB := Lib.hid hB
  have HAB := Lib.hid hab
  have HLA := Lib.hid hla
  clear hA hB hab hla
  go_enter Tryd.func18, Tryd.ntmps18
  go_wp2
  go_loopw [6, 5] (fun x v wr => ∃ n : Nat, n ≤ a.length ∧ x = .int .i64 n ∧ wr.ownsRow w.heap.size 5 1 v n (brr n (xr a b)) ∧ Below w.heap.size w wr) (fun x _ _ => a.length - (intOf x).toNat)
  case atStart => exact ⟨0, by omega, rfl, by rw [brr_zero]; exact World.ownsRow_nil _ _ _ _, Below.refl _ _⟩
  case round =>
    obtain ⟨n, hn, rfl, hown, hbel⟩ := hrel
    by_cases hlt : n < a.length
    · have hltb : n < b.length := by have := HAB.out; omega
      obtain ⟨ga, oa, rfl, _, hc1⟩ := (HA.out.below hbel).at_ hlt
      obtain ⟨gb, ob, rfl, _, hc2⟩ := (HB.out.below hbel).at_ hltb
      obtain ⟨x, hx⟩ : ∃ x, a[n] = x := ⟨_, rfl⟩
      obtain ⟨y, hy⟩ : ∃ y, b[n] = y := ⟨_, rfl⟩
      rw [hx] at hc1
      rw [hy] at hc2
      have HXY : Hid (xr a b n = x ^^^ y) := Lib.hid (by rw [xr_at hlt hltb, hx, hy])
      replace hc1 : wr.cell? ⟨ga, oa + n, none⟩ = some (B x) := hc1
      replace hc2 : wr.cell? ⟨gb, ob + n, none⟩ = some (B y) := hc2
      have hw0 : IntKind.i64.wrap (n : Int) = n := by rw [IntKind.wrap_i64]; have := HLA.out; omega
      have hni : (n : Int) < (a.length : Int) := by omega
      have hnb : (n : Int) < (b.length : Int) := by omega
      have hn7 : Hid (n ≤ 70368744177664) := Lib.hid (by have := HLA.out; omega)
      have HOWNJ := Lib.hid hown
      have HBELJ := Lib.hid hbel
      clear hown hbel hx hy
      go_wp2
      have hown' : wr.drew.ownsRow w.heap.size 5 1 u5 n (brr n (xr a b)) := HOWNJ.out.drew
      have hbel' : Below w.heap.size w wr.drew := HBELJ.out.drew
      have hsz : w.heap.size ≤ wr.heap.size := HBELJ.out.size
      go_region_law (refine step_one rfl (.tmp 13) (.tmp 23) 29 rfl 5 i U w.heap.size u5 n (xr a b) (by rfl) (hown'.alloc _) wr.heap.size (by rfl) (by rw [HXY.out]; exact made_byte wr.drew _ _) hn7.out (by simp; omega) ?_; intro v2 w2 hown2 hg2 hat2)
      all_goals
        have hb2 : Below w.heap.size w w2 := (hbel'.alloc hbel'.size _).grown hg2 (by simp; omega) (fun k hk => (hown'.lt k hk).1)
        clear hg2 hat2 hown' hbel'
        go_wp2
        go_roundw
        case rel => exact ⟨n + 1, by omega, by go_num, hown2, hb2⟩
        case measure => simp [intOf]; omega
    · obtain rfl : n = a.length := by omega
      go_wp2
      go_ret
      exact ⟨_, rfl, hown, hbel⟩
end Go.Proofs.YtibnmhaipogleaaDoor
