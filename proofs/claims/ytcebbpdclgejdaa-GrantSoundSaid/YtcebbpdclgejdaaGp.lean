/- Flags as bytes, and a super's block by its places. No conditions. -/
import Derived.Test.YtcebbpdclgejdaaGx
import Derived.Test.YtcebbpdclgejdaaPut
set_option linter.unusedVariables false
set_option maxRecDepth 20000
namespace Go.Proofs.Ytcebbpdclgejdaa
open Go.RowKit

/-- The number of a byte's first so many bits. -/
def bn (f : Nat → Bool) (k : Nat) : Nat → Nat
  | 0 => 0
  | m + 1 => bn f k m + if f (8 * k + m) then 2 ^ m else 0
theorem bn_lt (f : Nat → Bool) (k : Nat) : ∀ m, bn f k m < 2 ^ m
  | 0 => by show 0 < 1; omega
  | m + 1 => by
    have ih := bn_lt f k m
    show bn f k m + (if f (8 * k + m) then 2 ^ m else 0) < 2 ^ (m + 1)
    rw [Nat.pow_succ]
    split <;> omega
theorem bn_step (f : Nat → Bool) (k m : Nat) : bn f k (m + 1) = bn f k m + if f (8 * k + m) then 2 ^ m else 0 := rfl
def bt (f : Nat → Bool) (k : Nat) : UInt8 := UInt8.ofNat (bn f k 8)
theorem or_bits : ∀ m : Fin 8, ∀ q : Fin 128, q.val < 2 ^ m.val → bits .or .u8 (q.val : Int) ((2 ^ m.val : Nat) : Int) = ((q.val + 2 ^ m.val : Nat) : Int) := by decide +kernel
theorem or_bit (q m : Nat) (hq : q < 2 ^ m) (hm : m < 8) : bits .or .u8 (q : Int) ((2 ^ m : Nat) : Int) = ((q + 2 ^ m : Nat) : Int) := by
  have h : 2 ^ m ≤ 2 ^ 7 := Nat.pow_le_pow_right (by decide) (by omega)
  exact or_bits ⟨m, hm⟩ ⟨q, by have e : (2 : Nat) ^ 7 = 128 := rfl; omega⟩ hq
theorem shl_bits : ∀ m : Fin 8, IntKind.u8.wrap ((2 : Int) ^ m.val) = ((2 ^ m.val : Nat) : Int) := by decide +kernel
theorem shl_bit (m : Nat) (hm : m < 8) : IntKind.u8.wrap ((2 : Int) ^ m) = ((2 ^ m : Nat) : Int) := shl_bits ⟨m, hm⟩
/-- A byte's bit. -/
def ub (x : UInt8) (b : Nat) : Bool := x.toNat / 2 ^ b % 2 == 1
theorem bits8 : ∀ a0 a1 a2 a3 a4 a5 a6 a7 : Bool, ∀ b : Fin 8, ((((((((0 + if a0 then 2 ^ 0 else 0) + if a1 then 2 ^ 1 else 0) + if a2 then 2 ^ 2 else 0) + if a3 then 2 ^ 3 else 0) + if a4 then 2 ^ 4 else 0) + if a5 then 2 ^ 5 else 0) + if a6 then 2 ^ 6 else 0) + if a7 then 2 ^ 7 else 0) / 2 ^ b.val % 2 = if (match b with | 0 => a0 | 1 => a1 | 2 => a2 | 3 => a3 | 4 => a4 | 5 => a5 | 6 => a6 | 7 => a7) then 1 else 0 := by decide +kernel
theorem ub_bt (f : Nat → Bool) (k b : Nat) (hb : b < 8) : ub (bt f k) b = f (8 * k + b) := by
  have hlt := bn_lt f k 8
  have e : (bt f k).toNat = bn f k 8 := by
    unfold bt
    rw [UInt8.toNat_ofNat']
    have e8 : (2 : Nat) ^ 8 = 256 := rfl
    omega
  have h := bits8 (f (8 * k)) (f (8 * k + 1)) (f (8 * k + 2)) (f (8 * k + 3)) (f (8 * k + 4)) (f (8 * k + 5)) (f (8 * k + 6)) (f (8 * k + 7)) ⟨b, hb⟩
  have h : bn f k 8 / 2 ^ b % 2 = _ := h
  unfold ub
  rw [e, h]
  have key : (match (⟨b, hb⟩ : Fin 8) with | 0 => f (8 * k) | 1 => f (8 * k + 1) | 2 => f (8 * k + 2) | 3 => f (8 * k + 3) | 4 => f (8 * k + 4) | 5 => f (8 * k + 5) | 6 => f (8 * k + 6) | 7 => f (8 * k + 7)) = f (8 * k + b) := by
    rcases (by omega : b = 0 ∨ b = 1 ∨ b = 2 ∨ b = 3 ∨ b = 4 ∨ b = 5 ∨ b = 6 ∨ b = 7) with rfl | rfl | rfl | rfl | rfl | rfl | rfl | rfl <;> rfl
  rw [key]
  cases f (8 * k + b) <;> rfl
/-! A super's block. -/
def sgn (j : Nat) : UInt8 := match j with
  | 0 => 79
  | 1 => 85
  | 2 => 66
  | 3 => 49
  | _ => 0
def Sup.pb (x : Sup) (j : Nat) : UInt8 :=
  if j < 4 then sgn j else if j < 12 then UInt8.ofNat (x.s / 256 ^ (j - 4)) else if j < 44 then bt x.u (j - 12) else if j < 172 then UInt8.ofNat ((x.i (1 + (j - 44) / 2)).toNat / 256 ^ ((j - 44) % 2)) else if j < 180 then bt (fun k => x.o (k + 1)) (j - 172) else 0
theorem lst_add (a b : Nat) (f : Nat → UInt8) : lst (a + b) f = lst a f ++ lst b (fun j => f (a + j)) := by
  unfold lst
  rw [List.range_add, List.map_append, List.map_map]
  rfl
theorem lst_congr {n : Nat} {f g : Nat → UInt8} (h : ∀ j, j < n → f j = g j) : lst n f = lst n g := List.map_congr_left fun j hj => h j (List.mem_range.1 hj)
theorem leb_lst (v k : Nat) : leb v k = lst k (fun j => UInt8.ofNat (v / 256 ^ j)) := rfl
theorem Sup.pb_sgn (x : Sup) : lst 4 x.pb = [79, 85, 66, 49] := rfl
theorem Sup.pb_ser (x : Sup) : lst 12 x.pb = lst 4 x.pb ++ leb x.s 8 := by
  rw [show 12 = 4 + 8 from rfl, lst_add, leb_lst]
  congr 1
  all_goals
    refine lst_congr fun j hj => ?_
    unfold Sup.pb
    rw [if_neg (by omega), if_pos (by omega), show 4 + j - 4 = j by omega]
theorem Sup.pb_used (x : Sup) : lst 44 x.pb = lst 12 x.pb ++ lst 32 (bt x.u) := by
  rw [show 44 = 12 + 32 from rfl, lst_add]
  congr 1
  all_goals
    refine lst_congr fun j hj => ?_
    unfold Sup.pb
    rw [if_neg (by omega), if_neg (by omega), if_pos (by omega), show 12 + j - 12 = j by omega]
theorem Sup.pb_ino (x : Sup) (k : Nat) (hk : k < 64) : lst (44 + 2 * (k + 1)) x.pb = lst (44 + 2 * k) x.pb ++ leb (x.i (k + 1)).toNat 2 := by
  rw [show 44 + 2 * (k + 1) = (44 + 2 * k) + 2 by omega, lst_add, leb_lst]
  congr 1
  refine lst_congr fun j hj => ?_
  unfold Sup.pb
  rw [if_neg (by omega), if_neg (by omega), if_neg (by omega), if_pos (by omega), show 44 + 2 * k + j - 44 = 2 * k + j by omega, show 1 + (2 * k + j) / 2 = k + 1 by omega, show (2 * k + j) % 2 = j by omega]
theorem Sup.pb_orp (x : Sup) : lst 180 x.pb = lst 172 x.pb ++ lst 8 (bt fun k => x.o (k + 1)) := by
  rw [show 180 = 172 + 8 from rfl, lst_add]
  congr 1
  all_goals
    refine lst_congr fun j hj => ?_
    unfold Sup.pb
    rw [if_neg (by omega), if_neg (by omega), if_neg (by omega), if_neg (by omega), if_pos (by omega), show 172 + j - 172 = j by omega]
theorem Sup.pb_rest (x : Sup) : lst 256 x.pb = lst 180 x.pb ++ List.replicate 76 0 := by
  rw [show 256 = 180 + 76 from rfl, lst_add]
  have e : lst 76 (fun j => x.pb (180 + j)) = List.replicate 76 0 := by
    rw [lst_congr (g := fun _ => 0) (fun j hj => by unfold Sup.pb; rw [if_neg (by omega), if_neg (by omega), if_neg (by omega), if_neg (by omega), if_neg (by omega)])]
    rfl
  rw [e]
/-- Flags as they lie. -/
def HolB (w : World) (A : Option Addr) (n : Nat) (f : Nat → Bool) : Prop := ∃ g o, A = some ⟨g, o, none⟩ ∧ ∀ j, j < n → w.cell? ⟨g, o + j, none⟩ = some (.bool (f j))
theorem HolB.below {w w' : World} {A : Option Addr} {n : Nat} {f : Nat → Bool} (h : HolB w A n f) (hb : Below w.heap.size w w') : HolB w' A n f := by
  obtain ⟨g, o, rfl, hc⟩ := h
  exact ⟨g, o, rfl, fun j hj => (hb.cell (p := ⟨g, o + j, none⟩) (World.block_lt_of_cell? w _ (hc j hj))).trans (hc j hj)⟩
theorem Sup.hol_u {w : World} {g : Nat} {t : TypeId} {x : Sup} (h : Row w g t x.cs) : HolB w (some ⟨g, 1, none⟩) 256 x.u := ⟨g, 1, rfl, fun j hj => by rw [h.cell, x.c_u hj]⟩
theorem Sup.hol_o {w : World} {g : Nat} {t : TypeId} {x : Sup} (h : Row w g t x.cs) : HolB w (some ⟨g, 323, none⟩) 64 (fun k => x.o (k + 1)) := ⟨g, 323, rfl, fun j hj => by rw [h.cell, show 323 + j = 322 + (j + 1) by omega, x.c_o (by omega)]⟩
end Go.Proofs.Ytcebbpdclgejdaa
