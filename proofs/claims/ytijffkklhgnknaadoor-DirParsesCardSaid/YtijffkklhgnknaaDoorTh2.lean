/- The reference's Num of a longer slice; slices of bytes, cut. No conditions. -/
import Derived.Test.YtijffkklhgnknaaDoorTh1
import Derived.Test.YtijffkklhgnknaaDoorMgRef
set_option linter.unusedVariables false
set_option maxRecDepth 20000
namespace Go.Proofs.YtijffkklhgnknaaDoor
open Go.RowKit

set_option maxHeartbeats 400000 in
theorem rnum_long (A : Option Addr) (c L n : Nat) (l : List UInt8) (hn : n = l.length) (hL : n ≤ L) (w : World) (hA : Hol w A l) (hl : n ≤ 8) :
    Calls Tryd.prog 32 #[.slice A L c, .int .i64 n] w fun e w' => e = .returned (.int .u64 (num l : Nat)) ∧ w = w' := by
  subst hn
  go_enter Tryd.func32, Tryd.ntmps32
  go_wp2
  go_loop [5, 6] (fun v i => ∃ j : Nat, j ≤ l.length ∧ i = .int .i64 ((j : Int) - 1) ∧ v = .int .u64 (num (l.drop j) : Nat)) (fun _ i => (intOf i + 1).toNat)
  case atStart => exact ⟨l.length, Nat.le_refl _, rfl, by rw [List.drop_length]; rfl⟩
  case round =>
    obtain ⟨j, hj, rfl, rfl⟩ := hrel
    by_cases h0 : 0 < j
    · obtain ⟨k, rfl⟩ : ∃ k, j = k + 1 := ⟨j - 1, by omega⟩
      have hlt : k < l.length := by omega
      obtain ⟨g, o, rfl, _, hc⟩ := hA.at_ hlt
      have hnd := num_drop l k hlt
      have hbd := num_lt (l.drop k)
      have hpw : 256 ^ (l.drop k).length ≤ 256 ^ 8 := Nat.pow_le_pow_right (by decide) (by rw [List.length_drop]; omega)
      have hb2 : num (l.drop k) < 18446744073709551616 := Nat.lt_of_lt_of_le hbd hpw
      clear hbd hpw
      obtain ⟨x, hx⟩ : ∃ x, l[k] = x := ⟨_, rfl⟩
      rw [hx] at hc hnd
      have hX : x.toNat < 256 := x.toNat_lt
      generalize num (l.drop (k + 1)) = N at hnd ⊢
      have hb3 : x.toNat + 256 * N < 18446744073709551616 := by omega
      have HND := Lib.hid hnd
      have HX := Lib.hid hx
      clear hnd hx hb2
      have hk1 : ((k + 1 : Nat) : Int) - 1 = (k : Int) := by omega
      rw [hk1]
      clear hk1
      have hkz : (k : Int) < (L : Int) := by omega
      go_wp2
      go_round
      case rel =>
        exact ⟨k, by omega, rfl, by rw [HND.out]; exact congrArg (Value.int .u64) (by omega)⟩
      case measure => simp [intOf]
    · obtain rfl : j = 0 := by omega
      rw [List.drop_zero]
      have e0 : ((0 : Nat) : Int) - 1 = -1 := rfl
      rw [e0]
      clear e0
      go_wp2
      go_ret
      exact ⟨rfl, rfl⟩
/-- A slice of bytes, cut at its head. -/
theorem cut8 (A : Option Addr) (c q n : Nat) (hn : n ≤ q) (hc : q ≤ c) :
    ∃ A' c', (∀ W : World, (Instr.slice 33 (.slice A q c) (some (.int .i64 n)) none none).run Tryd.prog W = .ok (.slice A' (q - n) c') W) ∧ ∀ (W : World) (l : List UInt8), l.length = q → Hol W A l → Hol W A' (l.drop n) := by
  refine ⟨if c = n then A else A.map (·.add n), c - n, fun W => ?_, fun W l hl h => h.cut n (by omega)⟩
  have h1 : (0 : Int) ≤ (n : Int) := by omega
  have h2 : (n : Int) ≤ (q : Int) := by omega
  rw [run_slice_l (P := Tryd.prog) W 33 A q c (by kernel_rfl) .i64 n h1 h2]
  have hs : (sizeOf (Tryd.prog.elem 33)).run Tryd.prog W = .ok 1 W := by kernel_rfl
  rw [hs]
  simp [Result.andThen, sliced]
/-- A slice of bytes, cut at both ends. -/
theorem cut8m (A : Option Addr) (c q lo hi : Nat) (h1 : lo ≤ hi) (h2 : hi ≤ q) (hc : q ≤ c) :
    ∃ A' c', (∀ W : World, (Instr.slice 33 (.slice A q c) (some (.int .i64 lo)) (some (.int .i64 hi)) none).run Tryd.prog W = .ok (.slice A' (hi - lo) c') W) ∧ ∀ (W : World) (l : List UInt8), l.length = q → Hol W A l → Hol W A' (sub l lo (hi - lo)) := by
  refine ⟨if c = lo then A else A.map (·.add lo), c - lo, fun W => ?_, fun W l hl h => (h.cut lo (by omega)).take_ _⟩
  have e1 : (0 : Int) ≤ (lo : Int) := by omega
  have e2 : (lo : Int) ≤ (hi : Int) := by omega
  have e3 : (hi : Int) ≤ (c : Int) := by omega
  rw [run_slice_lh (P := Tryd.prog) W 33 A q c (by kernel_rfl) .i64 .i64 lo hi e1 e2 e3]
  have hs : (sizeOf (Tryd.prog.elem 33)).run Tryd.prog W = .ok 1 W := by kernel_rfl
  rw [hs]
  simp [Result.andThen, sliced]
theorem rbuilt_ref (i s : Int) : Tryd.prog.built 40 [(0, .int .i64 i), (1, .int .u64 s)] = some #[.int .i64 i, .int .u64 s] := by kernel_rfl
theorem rbuilt_ent (nm : ByteArray) (i s k c : Int) : Tryd.prog.built 42 [(0, .string nm), (1, .agg #[.int .i64 i, .int .u64 s]), (2, .int .i64 k), (3, .int .u32 c)] = some #[.string nm, .int .i64 i, .int .u64 s, .int .i64 k, .int .u32 c] := by kernel_rfl
theorem irun_build {P : Program} (w : World) {a : Act} (o : Oper) (t : TypeId) (parts : Array (Nat × Operand)) (ho : o.op = .build t parts) (vs : List (Nat × Value)) (hv : (parts.map fun (i, x) => (i, a.eval x)).toList = vs) (cells : Array Value) (hb : P.built t vs = some cells) : (execOp a.eval o).run P w = .ok (.value (.agg cells)) w := by
  subst hv
  unfold execOp
  simp only [ho, Sem.run_bind, run_build w t _ cells hb, Result.andThen_ok]
  rfl
end Go.Proofs.YtijffkklhgnknaaDoor
