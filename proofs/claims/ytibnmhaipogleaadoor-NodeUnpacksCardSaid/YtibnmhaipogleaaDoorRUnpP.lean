/- Plain facts about a block read as four records: what it packs to, and cells set one by one. No conditions. -/
import Derived.Test.YtibnmhaipogleaaDoorUnpackB
import Derived.Test.YtibnmhaipogleaaDoorRNum
set_option linter.unusedVariables false
set_option maxRecDepth 20000
namespace Go.Proofs.YtibnmhaipogleaaDoor
open Go.RowKit

theorem leb_num : ∀ (l : List UInt8), leb (num l) l.length = l
  | [] => rfl
  | a :: t => by
    have ih := leb_num t
    have ha := a.toNat_lt
    unfold leb at ih ⊢
    rw [List.length_cons, List.range_succ_eq_map, List.map_cons, List.map_map]
    have e0 : UInt8.ofNat (num (a :: t) / 256 ^ 0) = a := by
      apply UInt8.toNat_inj.1
      rw [Nat.pow_zero, Nat.div_one, u8_toNat]
      show (a.toNat + 256 * num t) % 256 = a.toNat
      omega
    have e1 : (List.range t.length).map ((fun j => UInt8.ofNat (num (a :: t) / 256 ^ j)) ∘ Nat.succ) = (List.range t.length).map fun j => UInt8.ofNat (num t / 256 ^ j) := by
      refine List.map_congr_left fun j _ => ?_
      show UInt8.ofNat (num (a :: t) / 256 ^ (j + 1)) = _
      congr 1
      rw [Nat.pow_succ, Nat.mul_comm, ← Nat.div_div_eq_div_mul]
      congr 1
      show (a.toNat + 256 * num t) / 256 = num t
      omega
    rw [e0, e1, ih]
theorem leb_take (l : List UInt8) (k : Nat) (h : k ≤ l.length) : leb (num (l.take k)) k = l.take k := by
  have h1 := leb_num (l.take k)
  have h2 : (l.take k).length = k := by simp; omega
  rwa [h2] at h1
theorem take_join (l : List UInt8) (a b : Nat) : l.take a ++ (l.drop a).take b = l.take (a + b) := by
  rw [List.take_add]
theorem recOf_b (l : List UInt8) (h : 42 ≤ l.length) : (recOf l).b = l.take 42 := by
  have e1 : leb (recOf l).a.toNat 2 = l.take 2 := leb_take l 2 (by omega)
  have e2 : leb (recOf l).e 4 = (l.drop 2).take 4 := leb_take (l.drop 2) 4 (by rw [List.length_drop]; omega)
  have e3 : leb (recOf l).s 4 = (l.drop 6).take 4 := leb_take (l.drop 6) 4 (by rw [List.length_drop]; omega)
  have e4 : (recOf l).l = (l.drop 10).take 32 := by
    refine lst_eq (by simp; omega) fun j hj => ?_
    show l.getD (10 + j) 0 = _
    simp only [List.getD_eq_getElem?_getD, List.getElem?_take, List.getElem?_drop]
    rw [if_pos hj]
  unfold RecV.b nonB
  rw [e1, e2, e3, e4, ← List.append_assoc, take_join, take_join l 6 4, take_join l 10 32]
theorem pk_unR (l : List UInt8) (hl : l.length = 256) (j : Nat) (hj : j < 168) : pk (unR l) j = l.getD j 0 := by
  unfold pk
  rw [if_pos hj]
  unfold unR
  rw [recOf_b _ (by rw [List.length_drop]; omega)]
  simp only [List.getD_eq_getElem?_getD, List.getElem?_take, List.getElem?_drop]
  rw [if_pos (by omega), show 42 * (j / 42) + j % 42 = j by omega]
theorem pk_eq (l : List UInt8) (hl : l.length = 256) : (lst 256 (pk (unR l)) = l) ↔ ∀ j, 168 ≤ j → j < 256 → l.getD j 0 = 0 := by
  constructor
  · intro h j h1 h2
    rw [← h, lst_getD _ h2]
    unfold pk
    rw [if_neg (by omega)]
  · intro h
    refine lst_eq hl fun j hj => ?_
    by_cases h1 : j < 168
    · exact pk_unR l hl j h1
    · rw [h j (by omega) hj]
      unfold pk
      rw [if_neg h1]
/-- One record's cell among four records' cells. -/
theorem recsC_cell (Q : Nat → RecV) (k i : Nat) (hk : k < 4) (hi : i < 35) (v : Value) (r' : RecV) (h : (Q k).cs.set i v = r'.cs) : (recsC Q).set (k * 35 + i) v = recsC (fun j => if j = k then r' else Q j) := by
  have h0 := recsC_set Q k hk r'
  have h1 := recsC_set Q k hk (Q k)
  have e : recsC (fun j => if j = k then Q k else Q j) = recsC Q := recsC_congr fun j _ => by
    by_cases h : j = k
    · rw [if_pos h, h]
    · rw [if_neg h]
  rw [e] at h1
  have hl : ((recsC Q).take (k * 35)).length = k * 35 := by rw [List.length_take, recsC_len]; omega
  rw [← h0]
  conv => lhs; rw [← h1]
  rw [List.set_append_right _ _ (by omega), hl, Nat.add_sub_cancel_left, List.set_append_left _ _ (by rw [RecV.cs_len]; exact hi), h]
theorem RecV.set_sum (a : Int) (e s : Nat) (f : Nat → UInt8) (j : Nat) (x : UInt8) : (RecV.cs ⟨a, e, s, f⟩).set (3 + j) (B x) = RecV.cs ⟨a, e, s, upd f j x⟩ := by
  unfold RecV.cs
  rw [List.set_append_right _ _ (by simp), show 3 + j - [Value.int IntKind.i64 a, Value.int IntKind.u32 (e : Int), Value.int IntKind.u32 (s : Int)].length = j by simp, brr_set]
end Go.Proofs.YtibnmhaipogleaaDoor
