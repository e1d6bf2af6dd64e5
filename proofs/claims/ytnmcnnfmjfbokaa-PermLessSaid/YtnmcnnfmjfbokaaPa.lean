/- An inode's cells; whose bits count; numbers of three bits. No conditions. -/
import Derived.Test.YtnmcnnfmjfbokaaRows2
import Derived.Test.YtnmcnnfmjfbokaaChecked
set_option linter.unusedVariables false
set_option maxRecDepth 20000
namespace Go.Proofs.Ytnmcnnfmjfbokaa
open Go.RowKit

section
variable {P : Program} {ops : Array Oper} {rest : List Oper} {o : Oper} {a : Act} {w : World} {Q : Exit → Act → World → Prop}
/-- A whole row, loaded, in an operation that is guarded. -/
theorem step_load_g (hw : Region.wanted o (yielded ops a.tmps) = true) (d : Tmp) (hd : o.dst = some d) (ty : TypeId) (x : Operand) (ho : o.op = .load ty x) (g : Nat) (hx : a.eval x = .pointer (some ⟨g, 0, none⟩)) (cs : List Value) (dd : TypeDesc)
    (hr : w.rangeAt g 0 cs) (hu : P.underlying ty = some dd) (hdd : dd.isRow = true) (hi : (P.info? ty).map (·.size) = some cs.length)
    (h : wpList P ops Q rest (a.put o.dst (.agg cs.toArray)) w) : wpList P ops Q (o :: rest) a w := by
  refine wpList_step fun K hK => ?_
  rw [if_pos hw]
  exact wp_load_mid ty x ho g 0 hx cs dd hr hu hdd hi (hK _ _ h)
theorem wp_shr3 (hgd : o.guard = none) (t t2 : TypeId) (x y : Operand) (ho : o.op = .binOp .shr t x y t2) (X R : Int) (hx : a.eval x = .int .i64 X) (k2 : IntKind) (hy : a.eval y = .int k2 3) (hr : X / 8 = R)
    (h : wpList P ops Q rest (a.put o.dst (.int .i64 R)) w) : wpList P ops Q (o :: rest) a w := by
  refine wpList_plain hgd fun K hK => ?_
  have hs : X.fdiv (2 ^ 3) = R := by rw [Int.fdiv_eq_ediv_of_nonneg _ (by decide)]; exact hr
  have hs8 : X.fdiv 8 = R := hs
  unfold Oper.wp execOp
  simp only [ho, hx, hy]
  simp only [go_sem, Op.shift, IntKind.bits]
  simp [hs8]
  exact hK _ _ h
end
def inl (n : Nat) (f : Nat → Int) : List Value := (List.range n).map fun j => .int .i64 (f j)
theorem inl_len (n : Nat) (f : Nat → Int) : (inl n f).length = n := by simp [inl]
theorem inl_get {n j : Nat} (f : Nat → Int) (h : j < n) : (inl n f)[j]? = some (.int .i64 (f j)) := by simp [inl, h]
/-- An inode's cells. -/
def ncs (v : Nat → Int) : List Value := .int .i64 (v 0) :: .int .i64 (v 1) :: .int .u32 (v 2) :: .int .u32 (v 3) :: .int .i64 (v 4) :: .int .i64 (v 5) :: .int .u64 (v 6) :: .int .u32 (v 7) :: .int .i64 (v 8) :: .int .u32 (v 9) :: inl 17 fun j => v (10 + j)
theorem ncs_len (v : Nat → Int) : (ncs v).length = 27 := rfl
def at1 {α : Type} (f : Nat → α) (j : Nat) (v : α) : Nat → α := fun k => if k = j then v else f k
theorem at1_same {α : Type} (f : Nat → α) (j : Nat) (v : α) : at1 f j v j = v := if_pos rfl
theorem at1_other {α : Type} (f : Nat → α) {j k : Nat} (v : α) (h : k ≠ j) : at1 f j v k = f k := if_neg h
theorem ncs_one (v : Nat → Int) : ∀ x ∈ ncs v, x.oneCell' = true := by
  intro x hx
  unfold ncs at hx
  simp only [List.mem_cons] at hx
  rcases hx with rfl | rfl | rfl | rfl | rfl | rfl | rfl | rfl | rfl | rfl | hx
  all_goals first | rfl | skip
  obtain ⟨_, _, rfl⟩ := List.mem_map.1 hx
  rfl
theorem ncs_set1 (v : Nat → Int) (z : Int) : (ncs v).set 1 (.int .i64 z) = ncs (at1 v 1 z) := by
  unfold ncs
  have e : (fun j => at1 v 1 z (10 + j)) = fun j => v (10 + j) := funext fun j => at1_other _ _ (by omega)
  rw [e]
  rfl
theorem ncs_set2 (v : Nat → Int) (z : Int) : (ncs v).set 2 (.int .u32 z) = ncs (at1 v 2 z) := by
  unfold ncs
  have e : (fun j => at1 v 2 z (10 + j)) = fun j => v (10 + j) := funext fun j => at1_other _ _ (by omega)
  rw [e]
  rfl
theorem info_ino : (Try.prog.info? 26).map (·.size) = some 27 := by kernel_rfl
theorem info_ncs (v : Nat → Int) : (Try.prog.info? 26).map (·.size) = some (ncs v).length := info_ino
theorem info_two (a b : Value) : (Try.prog.info? 27).map (·.size) = some [a, b].length := by kernel_rfl
def ino0 : Nat → Int := fun _ => 0
theorem zero_ino (w : World) : (zeroValue 26).run Try.prog w = .ok (.agg (ncs ino0).toArray) w := by kernel_rfl
/-! Numbers. -/
theorem i64_and7 (n : Int) : bits .and .i64 n 7 = n % 8 := by
  have h7 : (BitVec.ofInt 64 7).toNat = 2 ^ 3 - 1 := by decide
  have key : (BitVec.ofInt 64 n &&& BitVec.ofInt 64 7).toNat = (n % ((2 ^ 64 : Nat) : Int)).toNat % 2 ^ 3 := by
    rw [BitVec.toNat_and, BitVec.toNat_ofInt, h7, Nat.and_two_pow_sub_one_eq_mod]
  show IntKind.i64.wrap ((BitVec.ofInt 64 n &&& BitVec.ofInt 64 7).toNat : Nat) = n % 8
  rw [key, IntKind.wrap_i64]
  omega
theorem i64_and63 (n : Int) : bits .and .i64 n 63 = n % 64 := by
  have h7 : (BitVec.ofInt 64 63).toNat = 2 ^ 6 - 1 := by decide
  have key : (BitVec.ofInt 64 n &&& BitVec.ofInt 64 63).toNat = (n % ((2 ^ 64 : Nat) : Int)).toNat % 2 ^ 6 := by
    rw [BitVec.toNat_and, BitVec.toNat_ofInt, h7, Nat.and_two_pow_sub_one_eq_mod]
  show IntKind.i64.wrap ((BitVec.ofInt 64 n &&& BitVec.ofInt 64 63).toNat : Nat) = n % 64
  rw [key, IntKind.wrap_i64]
  omega
/-- What is wanted and may not be. -/
def lack (q b : Nat) : Nat := q &&& (7 - b)
def mayB (q b : Nat) : Bool := lack q b == 0
theorem not_fact : ∀ q b : Fin 8, bits .andNot .i64 (q.val : Int) (b.val : Int) = ((lack q.val b.val : Nat) : Int) := by decide +kernel
theorem not_nat {q b : Nat} (hq : q < 8) (hb : b < 8) : bits .andNot .i64 (q : Int) (b : Int) = ((lack q b : Nat) : Int) := not_fact ⟨q, hq⟩ ⟨b, hb⟩
theorem and_fact : ∀ q b : Fin 8, bits .and .i64 (q.val : Int) (b.val : Int) = ((q.val &&& b.val : Nat) : Int) := by decide +kernel
theorem and_nat {q b : Nat} (hq : q < 8) (hb : b < 8) : bits .and .i64 (q : Int) (b : Int) = ((q &&& b : Nat) : Int) := and_fact ⟨q, hq⟩ ⟨b, hb⟩
theorem less_fact : ∀ q l b : Fin 8, (q.val &&& l.val) = l.val → mayB q.val b.val = true → mayB l.val b.val = true := by decide +kernel
theorem less_nat {q l b : Nat} (hq : q < 8) (hl : l < 8) (hb : b < 8) (h : q &&& l = l) (hm : mayB q b = true) : mayB l b = true := less_fact ⟨q, hq⟩ ⟨l, hl⟩ ⟨b, hb⟩ h hm
theorem may_seven : ∀ q : Fin 8, mayB q.val 7 = true := by decide +kernel
theorem may_none : ∀ q : Fin 8, mayB q.val 0 = (q.val == 0) := by decide +kernel
theorem may_both : ∀ b : Fin 8, mayB 6 b.val = (mayB 4 b.val && mayB 2 b.val) := by decide +kernel
/-- The bits of somebody. -/
def pB (v : Nat → Int) (u g : Int) : Nat :=
  if u = 0 then 7 else if u = v 2 then (v 1 / 8 / 8 % 8).toNat else if g = v 3 then (v 1 / 8 % 8).toNat else (v 1 % 8).toNat
theorem pB_lt (v : Nat → Int) (u g : Int) : pB v u g < 8 := by
  unfold pB
  split
  · omega
  split
  · omega
  split <;> omega
end Go.Proofs.Ytnmcnnfmjfbokaa
