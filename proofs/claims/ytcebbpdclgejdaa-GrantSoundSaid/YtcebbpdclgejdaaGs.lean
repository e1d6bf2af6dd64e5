/- A super's cells; what a change of one of its parts makes of them; when two are the same. No conditions. -/
import Derived.Test.YtcebbpdclgejdaaGc
set_option linter.unusedVariables false
set_option maxRecDepth 20000
namespace Go.Proofs.Ytcebbpdclgejdaa
open Go.RowKit

/-- A super: the next serial, the used slots, the inodes' slots, the orphans. -/
structure Sup where
  s : Nat
  u : Nat → Bool
  i : Nat → Int
  o : Nat → Bool
def bls (n : Nat) (f : Nat → Bool) : List Value := (List.range n).map fun j => .bool (f j)
def inl (n : Nat) (f : Nat → Int) : List Value := (List.range n).map fun j => .int .i64 (f j)
theorem bls_len (n : Nat) (f : Nat → Bool) : (bls n f).length = n := by simp [bls]
theorem inl_len (n : Nat) (f : Nat → Int) : (inl n f).length = n := by simp [inl]
theorem bls_get {n j : Nat} (f : Nat → Bool) (h : j < n) : (bls n f)[j]? = some (.bool (f j)) := by simp [bls, h]
theorem inl_get {n j : Nat} (f : Nat → Int) (h : j < n) : (inl n f)[j]? = some (.int .i64 (f j)) := by simp [inl, h]
def Sup.cs (x : Sup) : List Value := .int .u64 (x.s : Int) :: (bls 256 x.u ++ (inl 65 x.i ++ bls 65 x.o))
theorem Sup.cs_len (x : Sup) : x.cs.length = 387 := by simp [Sup.cs, bls_len, inl_len]
theorem Sup.cs_get (x : Sup) (k : Nat) : x.cs[k]? = if k = 0 then some (.int .u64 x.s) else if k < 257 then some (.bool (x.u (k - 1))) else if k < 322 then some (.int .i64 (x.i (k - 257))) else if k < 387 then some (.bool (x.o (k - 322))) else none := by
  cases k with
  | zero => rfl
  | succ k =>
    unfold Sup.cs
    rw [List.getElem?_cons_succ, if_neg (by omega)]
    by_cases h1 : k < 256
    · rw [List.getElem?_append_left (by rw [bls_len]; exact h1), bls_get _ h1, if_pos (by omega)]
      rfl
    · rw [List.getElem?_append_right (by rw [bls_len]; omega), bls_len, if_neg (by omega)]
      by_cases h2 : k < 321
      · rw [List.getElem?_append_left (by rw [inl_len]; omega), inl_get _ (by omega), if_pos (by omega), show k + 1 - 257 = k - 256 by omega]
      · rw [List.getElem?_append_right (by rw [inl_len]; omega), inl_len, if_neg (by omega)]
        by_cases h3 : k < 386
        · rw [bls_get _ (by omega), if_pos (by omega), show k - 256 - 65 = k + 1 - 322 by omega]
        · rw [List.getElem?_eq_none (by rw [bls_len]; omega), if_neg (by omega)]
theorem Sup.c_s (x : Sup) : x.cs[0]? = some (.int .u64 x.s) := rfl
theorem Sup.c_u (x : Sup) {j : Nat} (h : j < 256) : x.cs[1 + j]? = some (.bool (x.u j)) := by
  rw [x.cs_get, if_neg (by omega), if_pos (by omega), show 1 + j - 1 = j by omega]
theorem Sup.c_i (x : Sup) {j : Nat} (h : j < 65) : x.cs[257 + j]? = some (.int .i64 (x.i j)) := by
  rw [x.cs_get, if_neg (by omega), if_neg (by omega), if_pos (by omega), show 257 + j - 257 = j by omega]
theorem Sup.c_o (x : Sup) {j : Nat} (h : j < 65) : x.cs[322 + j]? = some (.bool (x.o j)) := by
  rw [x.cs_get, if_neg (by omega), if_neg (by omega), if_neg (by omega), if_pos (by omega), show 322 + j - 322 = j by omega]
theorem Sup.cs_one (x : Sup) : ∀ v ∈ x.cs, v.oneCell' = true := by
  intro v hv
  unfold Sup.cs at hv
  rcases List.mem_cons.1 hv with rfl | hv
  · rfl
  · rcases List.mem_append.1 hv with hv | hv
    · obtain ⟨_, _, rfl⟩ := List.mem_map.1 hv
      rfl
    · rcases List.mem_append.1 hv with hv | hv
      · obtain ⟨_, _, rfl⟩ := List.mem_map.1 hv
        rfl
      · obtain ⟨_, _, rfl⟩ := List.mem_map.1 hv
        rfl
def at1 {α : Type} (f : Nat → α) (j : Nat) (v : α) : Nat → α := fun k => if k = j then v else f k
theorem at1_same {α : Type} (f : Nat → α) (j : Nat) (v : α) : at1 f j v j = v := if_pos rfl
theorem at1_other {α : Type} (f : Nat → α) {j k : Nat} (v : α) (h : k ≠ j) : at1 f j v k = f k := if_neg h
def Sup.setU (x : Sup) (j : Nat) (b : Bool) : Sup := ⟨x.s, at1 x.u j b, x.i, x.o⟩
def Sup.setI (x : Sup) (j : Nat) (v : Int) : Sup := ⟨x.s, x.u, at1 x.i j v, x.o⟩
def Sup.setO (x : Sup) (j : Nat) (b : Bool) : Sup := ⟨x.s, x.u, x.i, at1 x.o j b⟩
def Sup.setS (x : Sup) (n : Nat) : Sup := ⟨n, x.u, x.i, x.o⟩
theorem Sup.set_s (x : Sup) (n : Nat) : x.cs.set 0 (.int .u64 n) = (x.setS n).cs := rfl
theorem Sup.set_u (x : Sup) {j : Nat} (b : Bool) (h : j < 256) : x.cs.set (1 + j) (.bool b) = (x.setU j b).cs := by
  apply List.ext_getElem?
  intro k
  rw [List.getElem?_set, Sup.cs_len, Sup.cs_get, Sup.cs_get]
  by_cases hk : 1 + j = k
  · subst hk
    rw [if_pos rfl, if_pos (by omega), if_neg (by omega), if_pos (by omega), show 1 + j - 1 = j by omega]
    exact congrArg (fun z => some (Value.bool z)) (at1_same x.u j b).symm
  · rw [if_neg hk]
    by_cases h0 : k = 0
    · rw [if_pos h0, if_pos h0]; rfl
    · by_cases h1 : k < 257
      · rw [if_neg h0, if_neg h0, if_pos h1, if_pos h1]
        exact congrArg (fun z => some (Value.bool z)) (at1_other x.u b (by omega)).symm
      · rw [if_neg h0, if_neg h0, if_neg h1, if_neg h1]; rfl
theorem Sup.set_i (x : Sup) {j : Nat} (v : Int) (h : j < 65) : x.cs.set (257 + j) (.int .i64 v) = (x.setI j v).cs := by
  apply List.ext_getElem?
  intro k
  rw [List.getElem?_set, Sup.cs_len, Sup.cs_get, Sup.cs_get]
  by_cases hk : 257 + j = k
  · subst hk
    rw [if_pos rfl, if_pos (by omega), if_neg (by omega), if_neg (by omega), if_pos (by omega), show 257 + j - 257 = j by omega]
    exact congrArg (fun z => some (Value.int .i64 z)) (at1_same x.i j v).symm
  · rw [if_neg hk]
    by_cases h0 : k = 0
    · rw [if_pos h0, if_pos h0]; rfl
    · by_cases h1 : k < 257
      · rw [if_neg h0, if_neg h0, if_pos h1, if_pos h1]; rfl
      · by_cases h2 : k < 322
        · rw [if_neg h0, if_neg h0, if_neg h1, if_neg h1, if_pos h2, if_pos h2]
          exact congrArg (fun z => some (Value.int .i64 z)) (at1_other x.i v (by omega)).symm
        · rw [if_neg h0, if_neg h0, if_neg h1, if_neg h1, if_neg h2, if_neg h2]; rfl
theorem Sup.set_o (x : Sup) {j : Nat} (b : Bool) (h : j < 65) : x.cs.set (322 + j) (.bool b) = (x.setO j b).cs := by
  apply List.ext_getElem?
  intro k
  rw [List.getElem?_set, Sup.cs_len, Sup.cs_get, Sup.cs_get]
  by_cases hk : 322 + j = k
  · subst hk
    rw [if_pos rfl, if_pos (by omega), if_neg (by omega), if_neg (by omega), if_neg (by omega), if_pos (by omega), show 322 + j - 322 = j by omega]
    exact congrArg (fun z => some (Value.bool z)) (at1_same x.o j b).symm
  · rw [if_neg hk]
    by_cases h0 : k = 0
    · rw [if_pos h0, if_pos h0]; rfl
    · by_cases h1 : k < 257
      · rw [if_neg h0, if_neg h0, if_pos h1, if_pos h1]; rfl
      · by_cases h2 : k < 322
        · rw [if_neg h0, if_neg h0, if_neg h1, if_neg h1, if_pos h2, if_pos h2]; rfl
        · rw [if_neg h0, if_neg h0, if_neg h1, if_neg h1, if_neg h2, if_neg h2]
          by_cases h3 : k < 387
          · rw [if_pos h3, if_pos h3]
            exact congrArg (fun z => some (Value.bool z)) (at1_other x.o b (by omega)).symm
          · rw [if_neg h3, if_neg h3]
/-- A super that has nothing. -/
def sup0 : Sup := ⟨0, fun _ => false, fun _ => 0, fun _ => false⟩
theorem info_sup : (Try.prog.info? 27).map (·.size) = some 387 := by kernel_rfl
theorem info_u : (Try.prog.info? 23).map (·.size) = some 256 := by kernel_rfl
theorem info_i : (Try.prog.info? 24).map (·.size) = some 65 := by kernel_rfl
theorem info_o : (Try.prog.info? 25).map (·.size) = some 65 := by kernel_rfl
theorem info_bool : (Try.prog.info? 4).map (·.size) = some 1 := by kernel_rfl
theorem info_int : (Try.prog.info? 3).map (·.size) = some 1 := by kernel_rfl
theorem info_cs (x : Sup) : (Try.prog.info? 27).map (·.size) = some x.cs.length := by rw [x.cs_len]; exact info_sup
theorem zero_sup (w : World) : (zeroValue 27).run Try.prog w = .ok (.agg sup0.cs.toArray) w := by kernel_rfl
theorem built_sup0 : Try.prog.built 27 [] = some sup0.cs.toArray := by kernel_rfl
/-- Whether two supers are the same. -/
def Sup.eqb (x y : Sup) : Bool := (x.s : Int) == (y.s : Int) && ((List.range 256).all (fun j => x.u j == y.u j) && ((List.range 65).all (fun j => x.i j == y.i j) && (List.range 65).all fun j => x.o j == y.o j))
theorem Sup.eqb_iff (x y : Sup) : x.eqb y = true ↔ x.s = y.s ∧ (∀ j, j < 256 → x.u j = y.u j) ∧ (∀ j, j < 65 → x.i j = y.i j) ∧ ∀ j, j < 65 → x.o j = y.o j := by
  unfold Sup.eqb
  simp only [Bool.and_eq_true, List.all_eq_true, List.mem_range, beq_iff_eq]
  constructor
  · rintro ⟨h1, h2, h3, h4⟩
    exact ⟨by omega, h2, h3, h4⟩
  · rintro ⟨h1, h2, h3, h4⟩
    exact ⟨by omega, h2, h3, h4⟩
theorem Sup.eqb_refl (x : Sup) : x.eqb x = true := (x.eqb_iff x).2 ⟨rfl, fun _ _ => rfl, fun _ _ => rfl, fun _ _ => rfl⟩
theorem Sup.cs_eq {x y : Sup} (h : x.eqb y = true) : x.cs = y.cs := by
  obtain ⟨h1, h2, h3, h4⟩ := (x.eqb_iff y).1 h
  unfold Sup.cs bls inl
  rw [h1]
  congr 1
  congr 1
  · exact List.map_congr_left fun j hj => by rw [h2 j (List.mem_range.1 hj)]
  · congr 1
    · exact List.map_congr_left fun j hj => by rw [h3 j (List.mem_range.1 hj)]
    · exact List.map_congr_left fun j hj => by rw [h4 j (List.mem_range.1 hj)]
theorem Sup.u_part (x : Sup) : (x.cs.toArray).extract 1 257 = (bls 256 x.u).toArray := by
  apply Array.ext'
  simp only [List.extract_toArray, List.extract_eq_take_drop, Sup.cs, List.drop_succ_cons, List.drop_zero]
  exact List.take_left' (bls_len _ _)
theorem Sup.i_part (x : Sup) : (x.cs.toArray).extract 257 322 = (inl 65 x.i).toArray := by
  apply Array.ext'
  simp only [List.extract_toArray, List.extract_eq_take_drop, Sup.cs, List.drop_succ_cons]
  rw [List.drop_left' (bls_len _ _)]
  exact List.take_left' (inl_len _ _)
theorem Sup.o_part (x : Sup) : (x.cs.toArray).extract 322 387 = (bls 65 x.o).toArray := by
  apply Array.ext'
  simp only [List.extract_toArray, List.extract_eq_take_drop, Sup.cs, List.drop_succ_cons]
  rw [← List.append_assoc, List.drop_left' (by rw [List.length_append, bls_len, inl_len])]
  exact List.take_of_length_le (by rw [bls_len]; exact Nat.le_refl _)
theorem eq_bls (d n : Nat) (t : TypeId) (hu : Try.prog.underlying t = some (.array n 4)) (f g : Nat → Bool) (w : World) : (Op.equalIn (d + 2) t (.agg (bls n f).toArray) (.agg (bls n g).toArray)).run Try.prog w = .ok ((List.range n).all fun j => f j == g j) w :=
  run_equalIn_parts w (d + 1) t 4 n 1 hu info_bool _ _ (fun j => .bool (f j)) (fun j => .bool (g j)) (fun j => f j == g j)
    (fun j hj w => by
      have h := bls_get f hj
      simp [part, isAgg, run_underlying Try.underlying4, h])
    (fun j hj w => by
      have h := bls_get g hj
      simp [part, isAgg, run_underlying Try.underlying4, h])
    (fun j hj w => run_equalIn_bool w d _ _ _ Try.underlying4)
theorem eq_inl (d n : Nat) (t : TypeId) (hu : Try.prog.underlying t = some (.array n 3)) (f g : Nat → Int) (w : World) : (Op.equalIn (d + 2) t (.agg (inl n f).toArray) (.agg (inl n g).toArray)).run Try.prog w = .ok ((List.range n).all fun j => f j == g j) w :=
  run_equalIn_parts w (d + 1) t 3 n 1 hu info_int _ _ (fun j => .int .i64 (f j)) (fun j => .int .i64 (g j)) (fun j => f j == g j)
    (fun j hj w => by
      have h := inl_get f hj
      simp [part, isAgg, run_underlying Try.underlying3, h])
    (fun j hj w => by
      have h := inl_get g hj
      simp [part, isAgg, run_underlying Try.underlying3, h])
    (fun j hj w => run_equalIn_int (P := Try.prog) w d _ .i64 .i64 _ _ Try.underlying3)
theorem sup_fields : ((Try.prog.fieldsOf 27).toList.map fun f => (f.name, f.type, f.offset)) = [("Serial", 22, 0), ("Used", 23, 1), ("Inodes", 24, 257), ("Orphans", 25, 322)] := by kernel_rfl
theorem sup_guard : Try.prog.eqGuardType Try.prog.depth 27 = false := by kernel_rfl
theorem sup_held : Try.prog.stoodInHeld 27 = false := by kernel_rfl
/-- Two supers, compared. -/
theorem eq_sup (d : Nat) (x y : Sup) (w : World) : (Op.equalIn (d + 3) 27 (.agg x.cs.toArray) (.agg y.cs.toArray)).run Try.prog w = .ok (x.eqb y) w := by
  have hu : Try.prog.underlying 27 = some (.struct (Try.prog.fieldsOf 27)) := by kernel_rfl
  rw [run_equalIn_struct w (d + 2) _ _ _ hu sup_held]
  have hf := sup_fields
  generalize (Try.prog.fieldsOf 27).toList = fs at hf
  rcases fs with _ | ⟨f0, _ | ⟨f1, _ | ⟨f2, _ | ⟨f3, _ | ⟨f4, t⟩⟩⟩⟩⟩ <;> simp only [List.map_cons, List.map_nil, List.cons.injEq, Prod.mk.injEq, and_true, reduceCtorEq, and_false, false_and] at hf
  obtain ⟨⟨n0, t0, o0⟩, ⟨n1, t1, o1⟩, ⟨n2, t2, o2⟩, n3, t3, o3⟩ := hf
  have h0 := fun w => run_equalIn_int (P := Try.prog) w (d + 1) 22 .u64 .u64 (x.s : Int) (y.s : Int) Try.underlying22
  have h1 := fun w => eq_bls d 256 23 Try.underlying23 x.u y.u w
  have h2 := fun w => eq_inl d 65 24 Try.underlying24 x.i y.i w
  have h3 := fun w => eq_bls d 65 25 Try.underlying25 x.o y.o w
  have p0 := fun (z : Sup) w => part_int (P := Try.prog) w Try.underlying22 (cs := z.cs.toArray) (o := 0) (v := .int .u64 (z.s : Int)) rfl
  have p1 := fun (z : Sup) w => part_arr (P := Try.prog) w Try.underlying23 info_u z.cs.toArray 1
  have p2 := fun (z : Sup) w => part_arr (P := Try.prog) w Try.underlying24 info_i z.cs.toArray 257
  have p3 := fun (z : Sup) w => part_arr (P := Try.prog) w Try.underlying25 info_o z.cs.toArray 322
  simp only [show 1 + 256 = 257 from rfl, Sup.u_part] at p1
  simp only [show 257 + 65 = 322 from rfl, Sup.i_part] at p2
  simp only [show 322 + 65 = 387 from rfl, Sup.o_part] at p3
  unfold Sup.eqb
  generalize ((x.s : Int) == (y.s : Int)) = b0 at h0 ⊢
  generalize ((List.range 256).all fun j => x.u j == y.u j) = b1 at h1 ⊢
  generalize ((List.range 65).all fun j => x.i j == y.i j) = b2 at h2 ⊢
  generalize ((List.range 65).all fun j => x.o j == y.o j) = b3 at h3 ⊢
  simp only [Op.eqFields, n0, t0, o0, n1, t1, o1, n2, t2, o2, n3, t3, o3, Sem.run_bind, Sem.run_ite, p0, p1, p2, p3, h0, h1, h2, h3, Result.andThen_ok, Sem.run_pure]
  cases b0 <;> cases b1 <;> cases b2 <;> cases b3 <;> simp
end Go.Proofs.Ytcebbpdclgejdaa
