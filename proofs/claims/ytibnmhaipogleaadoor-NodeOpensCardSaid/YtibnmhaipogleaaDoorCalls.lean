/- Calls as the laws make them: a table of one pad, bytes xored, compared, hidden. Conditions: those named. -/
import Derived.Test.YtibnmhaipogleaaDoorTabM
import Derived.Test.YtibnmhaipogleaaDoorRXor
import Derived.Test.YtibnmhaipogleaaDoorRPut
set_option linter.unusedVariables false
namespace Go.Proofs.YtibnmhaipogleaaDoor
open Go.RowKit

theorem wp_min {P : Program} {w : World} {ops : Array Oper} {rest : List Oper} {o : Oper} {a : Act} {Q : Exit → Act → World → Prop} (hgd : o.guard = none) (s x : Operand) (ts : Array TypeId) (ho : o.op = .call { callee := .builtin .min, args := #[s, x], argTypes := ts })
    (p q m : Int) (hs : a.eval s = .int .i64 p) (hx : a.eval x = .int .i64 q) (hm : (if q < p then q else p) = m) (h : wpList P ops Q rest (a.put o.dst (.int .i64 m)) w) : wpList P ops Q (o :: rest) a w := by
  refine wpList_plain hgd fun K hK => ?_
  subst hm
  unfold Oper.wp execOp
  simp only [ho, resolve, invoke, builtin, Sem.run_bind, Sem.run_pure, Result.andThen_ok, List.map_toArray, List.map_cons, List.map_nil, hs, hx, run_min_int2]
  exact hK _ _ h
/-- A veil of one pad. -/
theorem ideal_one (g e s : Nat) (A : Option Addr) (c : Nat) (l : List UInt8) (he : e < 4294967296) (hs : s < 4294967296) (hlc : l.length ≤ c) (hl : l.length ≤ 1099511627776) (w : World)
    (h0 : w.cell? ⟨g, 0, none⟩ = some (.int .u32 (e : Int))) (h1 : w.cell? ⟨g, 1, none⟩ = some (.int .u32 (s : Int))) (h2 : w.cell? ⟨g, 2, none⟩ = some (.slice A l.length c)) (hA : Hol w A l) :
    Calls Tryd.prog 17 #[.slice (some ⟨g, 0, none⟩) 1 1] w fun x w' => ∃ g' M, x = .returned (.pointer (some ⟨g', 0, none⟩)) ∧ MaskAt w' g' M ∧ Hid (M e s = fun j => (l.take 4096).getD j 0) ∧ Below w.heap.size w w' := by
  refine (ideal_any (some ⟨g, 0, none⟩) 1 [⟨e, s, A, c, l⟩] (by simp) w (one_at (gb := 0) h0 h1 h2 hA hl) (one_ok he hs hlc)).mono ?_
  rintro x w' ⟨g', rfl, _, hI, hb⟩
  refine ⟨g', _, rfl, hI.mask, ?_, hb⟩
  show pmask _ e s = _
  funext j
  unfold pmask
  rw [one_hit]
theorem xor_call (A B : Option Addr) (c d n k : Nat) (a b : List UInt8) (hn : n = a.length) (hk : k = b.length) (hab : a.length ≤ b.length) (hb : b.length ≤ 1099511627776) (w : World) (hA : Hol w A a) (hB : Hol w B b) :
    Calls Tryd.prog 18 #[.slice A n c, .slice B k d] w fun e w' => ∃ A' c', e = .returned (.slice A' n c') ∧ Hid (Hol w' A' (lst n (xr a b))) ∧ Hid (n ≤ c') ∧ Below w.heap.size w w' := by
  subst hn
  subst hk
  refine (rxorl_any A B c d a b hab (Nat.le_trans hab hb) (Nat.le_trans hb (by omega)) w hA hB).mono ?_
  rintro e w' ⟨v, rfl, hown, hbel⟩
  rw [lst_bc] at hown
  obtain ⟨_, A', c', rfl, h1, _, h3⟩ := own_form hown
  rw [lst_len] at h1
  exact ⟨A', c', by rw [lst_len], h3, h1, hbel⟩
theorem bytes_call (A B : Option Addr) (c d n k : Nat) (a b : List UInt8) (hn : n = a.length) (hk : k = b.length) (w : World) (hA : Hol w A a) (hB : Hol w B b) (ha : a.length ≤ 1099511627776) (hb : b.length ≤ 1099511627776) :
    Calls Tryd.prog 13 #[.slice A n c, .slice B k d] w fun e w' => e = .returned (.bool (decide (a = b))) ∧ Below w.heap.size w w' := by
  subst hn
  subst hk
  exact rbytes_any A B c d a b w hA hB (Nat.le_trans ha (by omega)) (Nat.le_trans hb (by omega))
theorem hide_call (g : Nat) (M : Nat → Nat → Nat → UInt8) (A : Option Addr) (c n : Nat) (l : List UInt8) (hn : n = l.length) (e s : Nat) (he : e < 4294967296) (hs : s < 4294967296) (hl : l.length ≤ 4096) (w : World) (hM : MaskAt w g M) (hA : Hol w A l) :
    Calls Tryd.prog 35 #[.pointer (some ⟨g, 0, none⟩), .int .u32 (e : Int), .int .u32 (s : Int), .slice A n c] w (NewRow w n (hid (M e s) l)) := by
  subst hn
  exact hide_any g M A c l e s he hs hl w hM hA
theorem below_next {w u v : World} (hb : Below u.heap.size u v) (ha : Below w.heap.size w u) : Below w.heap.size w v := ha.trans (hb.mono ha.size)
theorem below_draw (w : World) : Below w.heap.size w w.drew := (Below.refl _ _).drew
theorem ideal_call (g e s : Nat) (A : Option Addr) (c n : Nat) (l : List UInt8) (hn : n = l.length) (he : e < 4294967296) (hs : s < 4294967296) (hlc : n ≤ c) (hl : n ≤ 1099511627776) (w : World)
    (h0 : w.cell? ⟨g, 0, none⟩ = some (.int .u32 (e : Int))) (h1 : w.cell? ⟨g, 1, none⟩ = some (.int .u32 (s : Int))) (h2 : w.cell? ⟨g, 2, none⟩ = some (.slice A n c)) (hA : Hol w A l) :
    Calls Tryd.prog 17 #[.slice (some ⟨g, 0, none⟩) 1 1] w fun x w' => ∃ g' M, x = .returned (.pointer (some ⟨g', 0, none⟩)) ∧ MaskAt w' g' M ∧ Hid (M e s = fun j => (l.take 4096).getD j 0) ∧ Below w.heap.size w w' := by
  subst hn
  exact ideal_one g e s A c l he hs hlc hl w h0 h1 h2 hA
end Go.Proofs.YtibnmhaipogleaaDoor
