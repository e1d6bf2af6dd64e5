/- Plain facts: the rounds' keys and a block behind all rounds, by bytes. No program is in sight here, and no conditions. -/
import Derived.Test.YtibnmhaipogleaaDoorAes
set_option linter.unusedVariables false
namespace Go.Proofs.YtibnmhaipogleaaDoor

/-- The rounds' keys, byte by byte. -/
def kx (key : Nat → UInt8) (m : Nat) : UInt8 :=
  if h : m < 32 then key m
  else kx key (m - 32) ^^^ (if m / 4 % 8 = 0 then sbox (kx key (4 * (m / 4) - 4 + (m % 4 + 1) % 4)) ^^^ (if m % 4 = 0 then dpow 1 (m / 4 / 8 - 1) else 0) else if m / 4 % 8 = 4 then sbox (kx key (m - 4)) else kx key (m - 4))
termination_by m
decreasing_by all_goals omega
theorem kx_lo (key : Nat → UInt8) {m : Nat} (h : m < 32) : kx key m = key m := by rw [kx, dif_pos h]
theorem kx_hi (key : Nat → UInt8) {m : Nat} (h : 32 ≤ m) : kx key m = kx key (m - 32) ^^^ (if m / 4 % 8 = 0 then sbox (kx key (4 * (m / 4) - 4 + (m % 4 + 1) % 4)) ^^^ (if m % 4 = 0 then dpow 1 (m / 4 / 8 - 1) else 0) else if m / 4 % 8 = 4 then sbox (kx key (m - 4)) else kx key (m - 4)) := by rw [kx, dif_neg (by omega)]
/-- What a word is xored with. -/
def kt (key : Nat → UInt8) (i j : Nat) : UInt8 :=
  if i % 8 = 0 then sbox (kx key (4 * i - 4 + (j + 1) % 4)) ^^^ (if j = 0 then dpow 1 (i / 8 - 1) else 0) else if i % 8 = 4 then sbox (kx key (4 * i - 4 + j)) else kx key (4 * i - 4 + j)
theorem kx_kt (key : Nat → UInt8) {i j : Nat} (hi : 8 ≤ i) (hj : j < 4) : kx key (4 * i + j) = kx key (4 * i - 32 + j) ^^^ kt key i j := by
  have e1 : (4 * i + j) / 4 = i := by omega
  have e2 : (4 * i + j) % 4 = j := by omega
  have e3 : 4 * i + j - 32 = 4 * i - 32 + j := by omega
  have e4 : 4 * i + j - 4 = 4 * i - 4 + j := by omega
  rw [kx_hi key (by omega), e1, e2, e3, e4]
  rfl
/-- The first n bytes. -/
def pre (key : Nat → UInt8) (n m : Nat) : UInt8 := if m < n then kx key m else 0
theorem pre_zero (key : Nat → UInt8) : pre key 0 = fun _ => 0 := by funext m; simp [pre]
theorem pre_lt (key : Nat → UInt8) {n m : Nat} (h : m < n) : pre key n m = kx key m := if_pos h
theorem pre_step (key : Nat → UInt8) (n : Nat) : upd (pre key n) n (kx key n) = pre key (n + 1) := by
  funext m
  unfold upd pre
  by_cases h : m = n
  · subst h
    simp
  · rw [if_neg h]
    by_cases h2 : m < n
    · rw [if_pos h2, if_pos (by omega)]
    · rw [if_neg h2, if_neg (by omega)]
theorem kx_congr {k k' : Nat → UInt8} (h : ∀ j, j < 32 → k j = k' j) (m : Nat) : kx k m = kx k' m := by
  induction m using Nat.strongRecOn with
  | _ m ih =>
    by_cases hm : m < 32
    · rw [kx_lo k hm, kx_lo k' hm, h m hm]
    · rw [kx_hi k (by omega), kx_hi k' (by omega), ih _ (by omega), ih _ (by omega), ih _ (by omega)]

/-- A block xored with a round's key; with its bytes by the box and its rows turned; with its columns mixed. -/
def ak (K : Nat → UInt8) (r : Nat) (s : Nat → UInt8) : Nat → UInt8 := fun i => s i ^^^ K (16 * r + i)
def sr (s : Nat → UInt8) : Nat → UInt8 := fun i => sbox (s ((i + 4 * (i % 4)) % 16))
def al (s : Nat → UInt8) (f : Nat) : UInt8 := s f ^^^ s (f + 1) ^^^ s (f + 2) ^^^ s (f + 3)
def mx (s : Nat → UInt8) : Nat → UInt8 := fun i => (s i ^^^ al s (i - i % 4)) ^^^ dbl (s i ^^^ s (i - i % 4 + (i + 1) % 4))
def st (K : Nat → UInt8) (s : Nat → UInt8) : Nat → Nat → UInt8
  | 0 => ak K 0 s
  | r + 1 => ak K (r + 1) (mx (sr (st K s r)))
def enc (K : Nat → UInt8) (s : Nat → UInt8) : Nat → UInt8 := ak K 14 (sr (st K s 13))
/-- A place gone over in order. -/
def upto (n : Nat) (f h : Nat → UInt8) : Nat → UInt8 := fun j => if j < n then f j else h j
theorem upto_zero (f h : Nat → UInt8) : upto 0 f h = h := by funext j; simp [upto]
theorem upto_step (n : Nat) (f h : Nat → UInt8) : upd (upto n f h) n (f n) = upto (n + 1) f h := by
  funext j
  unfold upd upto
  by_cases e : j = n
  · subst e
    simp
  · rw [if_neg e]
    by_cases h2 : j < n
    · rw [if_pos h2, if_pos (by omega)]
    · rw [if_neg h2, if_neg (by omega)]
theorem upto_self (n : Nat) (f h : Nat → UInt8) : upto n f h n = h n := by simp [upto]
theorem upto_far {n j : Nat} (f h : Nat → UInt8) (hj : n ≤ j) : upto n f h j = h j := by unfold upto; rw [if_neg (by omega)]
theorem upto_near {n j : Nat} (f h : Nat → UInt8) (hj : j < n) : upto n f h j = f j := if_pos hj
theorem upto_all (n : Nat) (f h : Nat → UInt8) : brr n (upto n f h) = brr n f := brr_congr fun j hj => if_pos hj
end Go.Proofs.YtibnmhaipogleaaDoor
