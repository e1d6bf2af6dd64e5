/- Plain facts about numbers as bytes, the least byte first, and about going through bytes. No program is in sight here, and no conditions. -/
import Derived.Below
import Derived.Laws.BitsAllLaws
set_option linter.unusedVariables false
namespace Go.Proofs.Ytpobppoaidngeaa

/-- How many bits a number of a size has. -/
def wid (n : Int) : Nat := if n = 8 then 64 else if n = 4 then 32 else if n = 2 then 16 else if n = 1 then 8 else 0
/-- The first k bytes of a number, the least first. -/
def leb (v : Nat) (k : Nat) : List UInt8 := (List.range k).map fun j => UInt8.ofNat (v / 256 ^ j)
theorem leb_zero (v : Nat) : leb v 0 = [] := rfl
theorem leb_succ (v k : Nat) : leb v (k + 1) = leb v k ++ [UInt8.ofNat (v / 256 ^ k)] := by simp [leb, List.range_succ]
theorem leb_len (v k : Nat) : (leb v k).length = k := by simp [leb]
/-- The number that bytes are. -/
def num : List UInt8 → Nat
  | [] => 0
  | b :: t => b.toNat + 256 * num t
theorem num_nil : num [] = 0 := rfl
theorem num_app (a : List UInt8) (b : UInt8) : num (a ++ [b]) = num a + 256 ^ a.length * b.toNat := by
  induction a with
  | nil => simp [num]
  | cons x t ih =>
    simp only [List.cons_append, num, ih, List.length_cons]
    rw [Nat.pow_succ, Nat.mul_add, ← Nat.mul_assoc, Nat.mul_comm 256 (256 ^ t.length)]
    omega
theorem num_lt (a : List UInt8) : num a < 256 ^ a.length := by
  induction a with
  | nil => simp [num]
  | cons x t ih =>
    have hx : x.toNat < 256 := x.toNat_lt
    simp only [num, List.length_cons, Nat.pow_succ]
    omega
theorem num_leb (v : Nat) : ∀ k, num (leb v k) = v % 256 ^ k
  | 0 => by simp [leb, num, Nat.mod_one]
  | k + 1 => by
    have e : (UInt8.ofNat (v / 256 ^ k)).toNat = v / 256 ^ k % 256 := UInt8.toNat_ofNat' ..
    rw [leb_succ, num_app, num_leb v k, leb_len, e, Nat.pow_succ, Nat.mod_mul]

/-- A byte that is set above a lesser number is added to it. -/
theorem or_join (N x k : Nat) (hN : N < 256 ^ k) (hx : x < 256) (hk : k ≤ 7) : bits .or .u64 (N : Int) (IntKind.u64.wrap ((x : Int) * 2 ^ (8 * k))) = ((N + 256 ^ k * x : Nat) : Int) := by
  have e2 : (256 : Nat) ^ k = 2 ^ (8 * k) := by rw [Nat.pow_mul]
  have hp : (2 : Nat) ^ (8 * k) ≤ 2 ^ 56 := Nat.pow_le_pow_right (by decide) (by omega)
  have h1 : 2 ^ (8 * k) * x ≤ 2 ^ 56 * 255 := Nat.mul_le_mul hp (by omega)
  have hw : IntKind.u64.wrap ((x : Int) * 2 ^ (8 * k)) = ((2 ^ (8 * k) * x : Nat) : Int) := by
    have e3 : (x : Int) * 2 ^ (8 * k) = ((2 ^ (8 * k) * x : Nat) : Int) := by
      rw [Int.natCast_mul, Int.natCast_pow, Int.mul_comm]
      rfl
    rw [e3]
    generalize 2 ^ (8 * k) * x = M at h1
    simp only [IntKind.wrap, IntKind.bits, IntKind.signed]
    simp
    omega
  rw [hw, e2]
  rw [e2] at hN
  rw [u64_or_nat N _ (by omega) (by omega), Nat.or_comm, ← Nat.two_pow_add_eq_or_of_lt hN x, Nat.add_comm]

/-- What is next, what is left, and whether it is bad then. -/
def nxt (n : Int) (l : List UInt8) (bad : Bool) : List UInt8 × List UInt8 × Bool :=
  if n < 0 ∨ (l.length : Int) < n then ([], [], true) else (l.take n.toNat, l.drop n.toNat, bad)
/-- The same for a number of a size: of a size that there isn't nothing is left. -/
def nnx (n : Int) (l : List UInt8) (bad : Bool) : List UInt8 × List UInt8 × Bool :=
  if wid n = 0 then ([], [], true) else nxt n l bad
/-- For a text. -/
def tnx (l : List UInt8) (bad : Bool) : List UInt8 × List UInt8 × Bool :=
  nxt (num (nxt 2 l bad).1 : Nat) (nxt 2 l bad).2.1 (nxt 2 l bad).2.2
theorem nxt_le (n : Int) (l : List UInt8) (bad : Bool) : (nxt n l bad).1.length ≤ l.length ∧ (nxt n l bad).2.1.length ≤ l.length := by
  unfold nxt
  split <;> simp
  omega
theorem nxt_one (n : Int) (l : List UInt8) (bad : Bool) (h0 : 0 ≤ n) : (nxt n l bad).1.length ≤ n.toNat := by
  unfold nxt
  split <;> simp
  omega
theorem wid_pos {n : Int} (h : wid n ≠ 0) : 1 ≤ n ∧ n ≤ 8 := by
  unfold wid at h
  repeat' split at h
  all_goals omega
theorem wid_le (n : Int) : wid n ≤ 64 := by
  unfold wid
  repeat' split
  all_goals omega
theorem wid_eq {n : Int} (h : wid n ≠ 0) : (wid n : Int) = 8 * n := by
  unfold wid at *
  repeat' split
  all_goals simp_all
theorem nnx_len (n : Int) (l : List UInt8) (bad : Bool) : (nnx n l bad).1.length ≤ 8 := by
  unfold nnx
  split
  · simp
  · rename_i h
    have h1 := wid_pos h
    have h2 := nxt_one n l bad (by omega)
    omega
end Go.Proofs.Ytpobppoaidngeaa
