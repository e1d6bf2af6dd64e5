/- Bytes copied into a row of the call's own, the row told by a function of the place. No conditions but those named. -/
import Derived.Test.YtpobppoaidngeaaApp
import Derived.Test.YtpobppoaidngeaaCalm
import Derived.Laws.CopyOwn
set_option linter.unusedVariables false
namespace Go.Proofs.Ytpobppoaidngeaa
open Go.RowKit

/-- Bytes laid over others from a place on. -/
def ov (o : Nat) (l : List UInt8) (f : Nat → UInt8) : Nat → UInt8 := fun j => if o ≤ j ∧ j < o + l.length then l.getD (j - o) 0 else f j
theorem ov_in {o : Nat} {l : List UInt8} {f : Nat → UInt8} {j : Nat} (h : o ≤ j) (h2 : j < o + l.length) : ov o l f j = l.getD (j - o) 0 := if_pos ⟨h, h2⟩
theorem ov_out {o : Nat} {l : List UInt8} {f : Nat → UInt8} {j : Nat} (h : ¬ (o ≤ j ∧ j < o + l.length)) : ov o l f j = f j := if_neg h
theorem ov_brr (n o : Nat) (l : List UInt8) (f : Nat → UInt8) (h : o + l.length ≤ n) : (brr n f).take o ++ (bc l ++ (brr n f).drop (o + l.length)) = brr n (ov o l f) := by
  apply List.ext_getElem?
  intro j
  by_cases h1 : j < o
  · rw [List.getElem?_append_left (by rw [List.length_take, brr_len]; omega), List.getElem?_take, if_pos h1, brr_get f (by omega), brr_get _ (by omega), ov_out (by omega)]
  · rw [List.getElem?_append_right (by rw [List.length_take, brr_len]; omega), List.length_take, brr_len]
    rw [show j - min o n = j - o by omega]
    by_cases h2 : j < o + l.length
    · rw [List.getElem?_append_left (by rw [bc_len]; omega), get_bc (List.getElem?_eq_getElem (by omega)), brr_get _ (by omega), ov_in (by omega) h2, List.getD_eq_getElem?_getD, List.getElem?_eq_getElem (by omega)]
      rfl
    · rw [List.getElem?_append_right (by rw [bc_len]; omega), bc_len, List.getElem?_drop]
      rw [show o + l.length + (j - o - l.length) = j by omega]
      by_cases h3 : j < n
      · rw [brr_get f h3, brr_get _ h3, ov_out (by omega)]
      · rw [brr_none f (by omega), brr_none _ (by omega)]

section
variable {P : Program} {w : World}
theorem run_copy_brr (dT sT ty e : TypeId) (hu : P.underlying dT = some (.slice e)) (hs : (P.info? e).map (·.size) = some 1) (g o n dLen dCap : Nat) (t : TypeId) (f : Nat → UInt8) (hr : _root_.Go.Proofs.Ytpobppoaidngeaa.Row w g t (brr n f))
    (A : Option Addr) (m c : Nat) (l : List UInt8) (hm : m = l.length) (hA : Hol w A l) (hfit : o + Nat.min m dLen ≤ n) :
    ∃ w' k, (Builtin.copy_ #[dT, sT] ty #[.slice (some ⟨g, o, none⟩) dLen dCap, .slice A m c]).run P w = .ok (goInt k) w' ∧ _root_.Go.Proofs.Ytpobppoaidngeaa.Row w' g t (brr n (ov o (l.take dLen) f)) ∧ Upon g w w' := by
  subst hm
  by_cases h0 : Nat.min l.length dLen = 0
  · refine ⟨w, _, run_copy_none (P := P) w dT sT ty e (some ⟨g, o, none⟩) A dLen dCap l.length c hu hs h0, ?_, Upon.refl _ _⟩
    have : l.take dLen = [] := by
      apply List.eq_nil_of_length_eq_zero
      rw [List.length_take]
      have : min dLen l.length = Nat.min l.length dLen := Nat.min_comm _ _
      omega
    rw [this]
    have e1 : ov o [] f = f := by funext j; exact ov_out (by simp)
    rw [e1]
    exact hr
  · have hlen : (l.take dLen).length = Nat.min l.length dLen := by rw [List.length_take]; exact Nat.min_comm _ _
    obtain ⟨ga, off, rfl, hga, hc⟩ := hA.some_ (by have : Nat.min l.length dLen ≤ l.length := Nat.min_le_left _ _; omega)
    have hsrc : ∀ j v, (bc (l.take dLen))[j]? = some v → w.cell? ((⟨ga, off, none⟩ : Addr).add j) = some v := fun j v hv => by
      obtain ⟨x, hx, rfl⟩ := bc_get hv
      rw [show (⟨ga, off, none⟩ : Addr).add j = ⟨ga, off + j, none⟩ by unfold Addr.add; split <;> simp_all]
      refine hc j x ?_
      rw [List.getElem?_take] at hx
      split at hx
      · exact hx
      · cases hx
    have hrun := run_copy_row (P := P) w dT sT ty e g o dLen dCap ⟨ga, off, none⟩ l.length c (brr n f).toArray t (bc (l.take dLen)) hu hs hr (by rw [bc_len, hlen]) hsrc (by rw [bc_len, hlen]; simpa [brr_len] using hfit) (bc_one _)
    rw [bc_len, List.append_assoc] at hrun
    have e1 : (brr n f).toArray.toList = brr n f := rfl
    rw [e1, ov_brr n o (l.take dLen) f (by rw [hlen]; exact hfit)] at hrun
    refine ⟨_, _, hrun, setRow_heap w g _ _ t _ hr, ⟨⟨rfl, rfl, rfl, by simp, fun k hk hne => setRow_other w g k _ (fun e => hne (by rw [e]))⟩, fun x => frozen_setRow w g _ t _ hr x⟩⟩
/-- The same, for the walk. -/
theorem wp_copy {ops : Array Oper} {rest : List Oper} {op : Oper} {a : Act} {Q : Exit → Act → World → Prop} (hgd : op.guard = none) (d s : Operand) (dT sT : TypeId) (ho : op.op = .call { callee := .builtin .copy, args := #[d, s], argTypes := #[dT, sT] })
    (e : TypeId) (hu : P.underlying dT = some (.slice e)) (hs : (P.info? e).map (·.size) = some 1) (g o n dLen dCap : Nat) (t : TypeId) (f : Nat → UInt8) (hd : a.eval d = .slice (some ⟨g, o, none⟩) dLen dCap) (hr : _root_.Go.Proofs.Ytpobppoaidngeaa.Row w g t (brr n f))
    (A : Option Addr) (m c : Nat) (l : List UInt8) (hx : a.eval s = .slice A m c) (hm : m = l.length) (hA : Hol w A l) (hfit : o + Nat.min m dLen ≤ n)
    (h : ∀ w' k, _root_.Go.Proofs.Ytpobppoaidngeaa.Row w' g t (brr n (ov o (l.take dLen) f)) → Hid (Upon g w w') → wpList P ops Q rest (a.put op.dst (goInt k)) w') :
    wpList P ops Q (op :: rest) a w := by
  refine wpList_plain hgd fun K hK => ?_
  obtain ⟨w', k, hr1, h2, h3⟩ := run_copy_brr (P := P) dT sT op.type e hu hs g o n dLen dCap t f hr A m c l hm hA hfit
  unfold Oper.wp execOp
  simp only [ho, resolve, invoke, builtin, Sem.run_bind, Sem.run_pure, Result.andThen_ok, List.map_toArray, List.map_cons, List.map_nil, hd, hx, hr1]
  exact hK _ _ (h w' k h2 h3)
/-- The same, at a step of a region that draws. -/
theorem step_copy {ops : Array Oper} {op : Oper} {a : Act} {Q : Exit → Act → World → Prop} {K : Act → World → Prop} {E : Prop} (hgd : op.guard = none) (d s : Operand) (dT sT : TypeId) (ho : op.op = .call { callee := .builtin .copy, args := #[d, s], argTypes := #[dT, sT] })
    (e : TypeId) (hu : P.underlying dT = some (.slice e)) (hs : (P.info? e).map (·.size) = some 1) (g o n dLen dCap : Nat) (t : TypeId) (f : Nat → UInt8) (hd : a.eval d = .slice (some ⟨g, o, none⟩) dLen dCap) (hr : _root_.Go.Proofs.Ytpobppoaidngeaa.Row w g t (brr n f))
    (A : Option Addr) (m c : Nat) (l : List UInt8) (hx : a.eval s = .slice A m c) (hm : m = l.length) (hA : Hol w A l) (hfit : o + Nat.min m dLen ≤ n)
    (h : ∀ w' k, _root_.Go.Proofs.Ytpobppoaidngeaa.Row w' g t (brr n (ov o (l.take dLen) f)) → Hid (Upon g w w') → K (a.put op.dst (goInt k)) w') :
    if Region.wanted op (yielded ops a.tmps) = true then Oper.wp P op a w K Q else E := by
  have hw : Region.wanted op (yielded ops a.tmps) = true := by simp [Region.wanted, hgd]
  rw [if_pos hw]
  obtain ⟨w', k, hr1, h2, h3⟩ := run_copy_brr (P := P) dT sT op.type e hu hs g o n dLen dCap t f hr A m c l hm hA hfit
  unfold Oper.wp execOp
  simp only [ho, resolve, invoke, builtin, Sem.run_bind, Sem.run_pure, Result.andThen_ok, List.map_toArray, List.map_cons, List.map_nil, hd, hx, hr1]
  exact h w' k h2 h3
end
/-- A row told by a function of the place, as a list. -/
def lst (n : Nat) (f : Nat → UInt8) : List UInt8 := (List.range n).map f
theorem lst_len (n : Nat) (f : Nat → UInt8) : (lst n f).length = n := by simp [lst]
theorem lst_bc (n : Nat) (f : Nat → UInt8) : brr n f = bc (lst n f) := by
  simp [brr, bc, lst, bv]
theorem lst_get {n j : Nat} (f : Nat → UInt8) (h : j < n) : (lst n f)[j]? = some (f j) := by simp [lst, h]
theorem lst_getD {n j : Nat} (f : Nat → UInt8) (h : j < n) : (lst n f).getD j 0 = f j := by rw [List.getD_eq_getElem?_getD, lst_get f h]; rfl
theorem Row.hol {w : World} {g n : Nat} {t : TypeId} {f : Nat → UInt8} (h : Row w g t (brr n f)) : Hol w (some ⟨g, 0, none⟩) (lst n f) := by
  rw [lst_bc] at h
  refine .inr ⟨g, 0, rfl, fun j x hx => ?_⟩
  rw [Nat.zero_add, h.cell]
  exact get_bc hx
end Go.Proofs.Ytpobppoaidngeaa
