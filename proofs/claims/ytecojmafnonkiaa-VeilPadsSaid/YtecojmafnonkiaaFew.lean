/- Whether a table is few and small, as the laws ask; and bytes appended to an empty slice. Conditions: the table lies there. -/
import Derived.Test.YtecojmafnonkiaaArgs
import Derived.Test.YtecojmafnonkiaaCalls
set_option linter.unusedVariables false
namespace Go.Proofs.Ytecojmafnonkiaa
open Go.RowKit

theorem InP.below {w w' : World} {A : Option Addr} {n c : Nat} {ps : List PadV} (h : InP w A n c ps) (hb : Below w.heap.size w w') : InP w' A n c ps :=
  ⟨h.len_, fun j p hp => by
    obtain ⟨g, o, rfl, h1, h2, h3, h4⟩ := h.at_ j p hp
    have hg := World.block_lt_of_cell? w _ h1
    exact ⟨g, o, rfl, (hb.cell (p := ⟨g, o + j * 3, none⟩) hg).trans h1, (hb.cell (p := ⟨g, o + j * 3 + 1, none⟩) hg).trans h2, (hb.cell (p := ⟨g, o + j * 3 + 2, none⟩) hg).trans h3, h4.below hb⟩, h.ok, h.cap_, h.max_⟩
/-- Few and small. -/
def FewP (ps : List PadV) : Prop := ps.length ≤ 200 ∧ ∀ (j : Nat) (p : PadV), ps[j]? = some p → p.l.length ≤ 5000
set_option maxHeartbeats 1000000 in
theorem few_any (A : Option Addr) (c : Nat) (ps : List PadV) (w : World) (hP : InP w A ps.length c ps) :
    Calls Try.prog 13 #[.slice A ps.length c] w fun e w' => ∃ b, e = .returned (.bool b) ∧ w' = w ∧ (b = true → FewP ps) := by
  by_cases hbig : (200 : Int) < (ps.length : Int)
  · go_enter Try.func13, Try.ntmps13
    go_wp2
    go_ret
    exact ⟨false, rfl, rfl, fun h => by cases h⟩
  · have HL := Lib.hid (p := ps.length ≤ 200) (by omega)
    have HP := Lib.hid hP
    clear hP
    go_enter Try.func13, Try.ntmps13
    go_wp2
    go_loopw [3] (fun x wr => ∃ k : Nat, k ≤ ps.length ∧ x = .int .i64 k ∧ Hid (∀ (j : Nat) (p : PadV), j < k → ps[j]? = some p → p.l.length ≤ 5000) ∧ wr = w) (fun x _ => ps.length - (intOf x).toNat)
    case atStart => exact ⟨0, by omega, rfl, Lib.hid (fun j p hj => by omega), rfl⟩
    case round =>
      obtain ⟨k, hk, rfl, hno, rfl⟩ := hrel
      have hkw : IntKind.i64.wrap ((k : Int) + 1) = (k : Int) + 1 := by rw [IntKind.wrap_i64]; have := HL.out; omega
      by_cases hlt : k < ps.length
      · obtain ⟨p, hp⟩ : ∃ p, ps[k]? = some p := ⟨_, List.getElem?_eq_getElem hlt⟩
        obtain ⟨gp, op, rfl, h1, h2, h3, h4⟩ := HP.out.at_ k p hp
        have HPK := Lib.hid hp
        have hki : (k : Int) < (ps.length : Int) := by omega
        clear hp h4
        by_cases hl : (5000 : Int) < (p.l.length : Int)
        · go_wp2
          go_ret
          exact ⟨false, rfl, rfl, fun h => by cases h⟩
        · have HPL := Lib.hid (p := p.l.length ≤ 5000) (by omega)
          go_wp2
          go_roundw
          case rel => exact ⟨k + 1, by omega, by go_num, Lib.hid (fun j q hj hq => by
            rcases Nat.lt_or_ge j k with h | h
            · exact hno.out j q h hq
            · obtain rfl : j = k := by omega
              have := HPK.out
              rw [hq] at this
              injection this with this
              subst this
              exact HPL.out), trivial⟩
          case measure => simp [intOf]; omega
      · obtain rfl : k = ps.length := by omega
        go_wp2
        go_ret
        exact ⟨true, rfl, rfl, fun _ => ⟨HL.out, fun j p hp => hno.out j p (List.getElem?_eq_some_iff.1 hp).1 hp⟩⟩
theorem empty_own (w : World) (e : TypeId) : (w.alloc (.cells #[] e)).ownsRow w.heap.size e 1 (.slice (some ⟨w.heap.size, 0, none⟩) 0 0) 0 [] :=
  ⟨rfl, .inr ⟨w.heap.size, 0, #[], rfl, Nat.le_refl _, heap_alloc_new w _, Nat.le_refl _, by decide, rfl, rfl⟩⟩
theorem bytes_eq (A B : Option Addr) (c d n k : Nat) (a b : List UInt8) (hab : a = b) (hn : n = a.length) (hk : k = b.length) (w : World) (hA : Hol w A a) (hB : Hol w B b) (ha : a.length ≤ 1099511627776) :
    Calls Try.prog 11 #[.slice A n c, .slice B k d] w fun e w' => e = .returned (.bool true) ∧ Below w.heap.size w w' := by
  subst hab
  refine (bytes_call A B c d n k a a hn hk w hA hB ha ha).mono ?_
  rintro e w' ⟨rfl, hb⟩
  exact ⟨by simp, hb⟩
theorem hid_hid (F : Nat → UInt8) (l : List UInt8) : lst l.length (hid F (lst l.length (hid F l))) = l := by
  apply List.ext_getElem?
  intro j
  by_cases hj : j < l.length
  · rw [lst_get _ hj, List.getElem?_eq_getElem hj]
    unfold hid
    rw [lst_getD _ hj]
    show some (F j ^^^ (F j ^^^ l.getD j 0)) = _
    rw [← UInt8.xor_assoc, UInt8.xor_self, UInt8.zero_xor, List.getD_eq_getElem?_getD, List.getElem?_eq_getElem hj]
    rfl
  · rw [List.getElem?_eq_none (by rw [lst_len]; omega), List.getElem?_eq_none (by omega)]
theorem hid_xr (F : Nat → UInt8) (l : List UInt8) (hl : l.length ≤ 4096) : lst l.length (hid F l) = lst l.length (xr l (lst 4096 F)) := by
  unfold lst
  apply List.map_congr_left
  intro j hj
  have hj := List.mem_range.1 hj
  have h1 := lst_getD (n := 4096) F (j := j) (by omega)
  unfold lst at h1
  unfold hid xr
  rw [h1, UInt8.xor_comm]
end Go.Proofs.Ytecojmafnonkiaa
