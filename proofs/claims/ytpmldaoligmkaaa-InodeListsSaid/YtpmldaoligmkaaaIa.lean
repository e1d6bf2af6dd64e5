/- An inode's cells: what a change of one of them makes of them; when two are the same; its bytes, field by field. No conditions. -/
import Derived.Test.YtpmldaoligmkaaaGc
import Derived.Test.YtpmldaoligmkaaaPlain
set_option linter.unusedVariables false
set_option maxRecDepth 20000
namespace Go.Proofs.Ytpmldaoligmkaaa
open Go.RowKit

theorem wrap_64 (n : Int) : IntKind.u64.wrap n = n % 18446744073709551616 := by simp [IntKind.wrap, IntKind.bits, IntKind.signed]
theorem wrap_32 (n : Int) : IntKind.u32.wrap n = n % 4294967296 := by simp [IntKind.wrap, IntKind.bits, IntKind.signed]
def inl (n : Nat) (f : Nat → Int) : List Value := (List.range n).map fun j => .int .i64 (f j)
theorem inl_len (n : Nat) (f : Nat → Int) : (inl n f).length = n := by simp [inl]
theorem inl_get {n j : Nat} (f : Nat → Int) (h : j < n) : (inl n f)[j]? = some (.int .i64 (f j)) := by simp [inl, h]
theorem inl_congr {n : Nat} {f g : Nat → Int} (h : ∀ j, j < n → f j = g j) : inl n f = inl n g := List.map_congr_left fun j hj => by rw [h j (List.mem_range.1 hj)]
theorem inl_one (n : Nat) (f : Nat → Int) : ∀ v ∈ inl n f, v.oneCell' = true := by
  intro v hv
  obtain ⟨_, _, rfl⟩ := List.mem_map.1 hv
  rfl
def at1 {α : Type} (f : Nat → α) (j : Nat) (v : α) : Nat → α := fun k => if k = j then v else f k
theorem at1_same {α : Type} (f : Nat → α) (j : Nat) (v : α) : at1 f j v j = v := if_pos rfl
theorem at1_other {α : Type} (f : Nat → α) {j k : Nat} (v : α) (h : k ≠ j) : at1 f j v k = f k := if_neg h
theorem inl_set {n j : Nat} (f : Nat → Int) (v : Int) (h : j < n) : (inl n f).set j (.int .i64 v) = inl n (at1 f j v) := by
  apply List.ext_getElem?
  intro k
  rw [List.getElem?_set, inl_len]
  by_cases hk : j = k
  · subst hk
    rw [if_pos rfl, if_pos h, inl_get _ h, at1_same]
  · rw [if_neg hk]
    by_cases hn : k < n
    · rw [inl_get _ hn, inl_get _ hn, at1_other _ _ (by omega)]
    · rw [List.getElem?_eq_none (by rw [inl_len]; omega), List.getElem?_eq_none (by rw [inl_len]; omega)]
/-- The kinds of an inode's cells. -/
def kd (k : Nat) : IntKind := if k = 2 ∨ k = 3 ∨ k = 7 ∨ k = 9 then .u32 else if k = 6 then .u64 else .i64
/-- An inode's cells. -/
def ncs (v : Nat → Int) : List Value := .int .i64 (v 0) :: .int .i64 (v 1) :: .int .u32 (v 2) :: .int .u32 (v 3) :: .int .i64 (v 4) :: .int .i64 (v 5) :: .int .u64 (v 6) :: .int .u32 (v 7) :: .int .i64 (v 8) :: .int .u32 (v 9) :: inl 17 fun j => v (10 + j)
theorem ncs_eq (v : Nat → Int) : ncs v = (List.range 27).map fun k => .int (kd k) (v k) := rfl
theorem ncs_len (v : Nat → Int) : (ncs v).length = 27 := rfl
theorem ncs_get (v : Nat → Int) {k : Nat} (h : k < 27) : (ncs v)[k]? = some (.int (kd k) (v k)) := by rw [ncs_eq]; simp [h]
theorem ncs_slot (v : Nat → Int) {j : Nat} (h : j < 17) : (ncs v)[10 + j]? = some (.int .i64 (v (10 + j))) := by
  rw [ncs_get v (by omega)]
  unfold kd
  rw [if_neg (by omega), if_neg (by omega)]
theorem ncs_congr {v u : Nat → Int} (h : ∀ k, k < 27 → v k = u k) : ncs v = ncs u := by
  rw [ncs_eq, ncs_eq]
  exact List.map_congr_left fun j hj => by rw [h j (List.mem_range.1 hj)]
theorem ncs_set (v : Nat → Int) {k : Nat} (h : k < 27) (z : Int) : (ncs v).set k (.int (kd k) z) = ncs (at1 v k z) := by
  apply List.ext_getElem?
  intro j
  rw [List.getElem?_set, ncs_len]
  by_cases hk : k = j
  · subst hk
    rw [if_pos rfl, if_pos h, ncs_get _ h, at1_same]
  · rw [if_neg hk]
    by_cases hn : j < 27
    · rw [ncs_get _ hn, ncs_get _ hn, at1_other _ _ (by omega)]
    · rw [List.getElem?_eq_none (by rw [ncs_len]; omega), List.getElem?_eq_none (by rw [ncs_len]; omega)]
theorem ncs_setS (v : Nat → Int) {j : Nat} (h : j < 17) (z : Int) : (ncs v).set (10 + j) (.int .i64 z) = ncs (at1 v (10 + j) z) := by
  rw [← ncs_set v (by omega)]
  unfold kd
  rw [if_neg (by omega), if_neg (by omega)]
theorem ncs_one (v : Nat → Int) : ∀ x ∈ ncs v, x.oneCell' = true := by
  intro x hx
  rw [ncs_eq] at hx
  obtain ⟨_, _, rfl⟩ := List.mem_map.1 hx
  rfl
def ino0 : Nat → Int := fun _ => 0
theorem info_ino : (Try.prog.info? 26).map (·.size) = some 27 := by kernel_rfl
theorem info_16 : (Try.prog.info? 24).map (·.size) = some 16 := by kernel_rfl
theorem info_112 : (Try.prog.info? 37).map (·.size) = some 112 := by kernel_rfl
theorem info_int : (Try.prog.info? 3).map (·.size) = some 1 := by kernel_rfl
theorem info_ncs (v : Nat → Int) : (Try.prog.info? 26).map (·.size) = some (ncs v).length := info_ino
theorem info_inl (f : Nat → Int) : (Try.prog.info? 37).map (·.size) = some (inl 112 f).length := by rw [inl_len]; exact info_112
theorem zero_ino (w : World) : (zeroValue 26).run Try.prog w = .ok (.agg (ncs ino0).toArray) w := by kernel_rfl
theorem built_ino0 : Try.prog.built 26 [] = some (ncs ino0).toArray := by kernel_rfl
theorem zero_112 (w : World) : (zeroValue 37).run Try.prog w = .ok (.agg (inl 112 ino0).toArray) w := by kernel_rfl
theorem built_112 : Try.prog.built 37 [] = some (inl 112 ino0).toArray := by kernel_rfl
/-! Two of them, compared. -/
theorem eq_inl (d n : Nat) (t : TypeId) (hu : Try.prog.underlying t = some (.array n 3)) (f g : Nat → Int) (w : World) : (Op.equalIn (d + 2) t (.agg (inl n f).toArray) (.agg (inl n g).toArray)).run Try.prog w = .ok ((List.range n).all fun j => f j == g j) w :=
  run_equalIn_parts w (d + 1) t 3 n 1 hu info_int _ _ (fun j => .int .i64 (f j)) (fun j => .int .i64 (g j)) (fun j => f j == g j)
    (fun j hj w => by
      have h := inl_get f hj
      simp [part, isAgg, run_underlying Try.underlying3, h])
    (fun j hj w => by
      have h := inl_get g hj
      simp [part, isAgg, run_underlying Try.underlying3, h])
    (fun j hj w => run_equalIn_int (P := Try.prog) w d _ .i64 .i64 _ _ Try.underlying3)
theorem ncs_16 (v : Nat → Int) : ((ncs v).toArray).extract 10 26 = (inl 16 fun j => v (10 + j)).toArray := rfl
theorem ino_fields : ((Try.prog.fieldsOf 26).toList.map fun f => (f.name, f.type, f.offset)) = [("Kind", 3, 0), ("Mode", 3, 1), ("Uid", 22, 2), ("Gid", 22, 3), ("Links", 3, 4), ("Size", 3, 5), ("Serial", 23, 6), ("Version", 22, 7), ("Parent", 3, 8), ("Cookie", 22, 9), ("Slots", 24, 10), ("List", 3, 26)] := by kernel_rfl
theorem ino_guard : Try.prog.eqGuardType Try.prog.depth 26 = false := by kernel_rfl
theorem ino_held : Try.prog.stoodInHeld 26 = false := by kernel_rfl
theorem l112_guard : Try.prog.eqGuardType Try.prog.depth 37 = false := by kernel_rfl
theorem l112_held : Try.prog.stoodInHeld 37 = false := by kernel_rfl
def ieqb (x y : Nat → Int) : Bool := (List.range 27).all fun j => x j == y j
theorem ieqb_iff (x y : Nat → Int) : ieqb x y = true ↔ ∀ j, j < 27 → x j = y j := by
  unfold ieqb
  simp only [List.all_eq_true, List.mem_range, beq_iff_eq]
theorem ieqb_refl (x : Nat → Int) : ieqb x x = true := (ieqb_iff x x).2 fun _ _ => rfl
/-- The fields, one behind the other. -/
theorem eqf_cons (d : Nat) (x y : Nat → Int) (f : Field) (fs : List Field) (b r : Bool) (w : World) (hn : f.name ≠ "_") (u v : Value)
    (hp : (part f.type (ncs x).toArray f.offset).run Try.prog w = .ok u w) (hq : (part f.type (ncs y).toArray f.offset).run Try.prog w = .ok v w) (he : (Op.equalIn d f.type u v).run Try.prog w = .ok b w)
    (hr : (Op.eqFields d (ncs x).toArray (ncs y).toArray fs).run Try.prog w = .ok r w) : (Op.eqFields d (ncs x).toArray (ncs y).toArray (f :: fs)).run Try.prog w = .ok (b && r) w := by
  simp only [Op.eqFields, Sem.run_bind, Sem.run_ite, hp, hq, he, Result.andThen_ok, Sem.run_pure, hr]
  cases b <;> simp [hn]
theorem eqf_int (d : Nat) (x y : Nat → Int) (f : Field) (fs : List Field) (r : Bool) (w : World) (k : Nat) (t : TypeId) (nm : String) (hk : k < 27) (hf : f.name = nm ∧ f.type = t ∧ f.offset = k) (hn : nm ≠ "_") (ht : Try.prog.underlying t = some (.int (kd k)))
    (hr : (Op.eqFields (d + 1) (ncs x).toArray (ncs y).toArray fs).run Try.prog w = .ok r w) : (Op.eqFields (d + 1) (ncs x).toArray (ncs y).toArray (f :: fs)).run Try.prog w = .ok ((x k == y k) && r) w := by
  obtain ⟨h1, h2, h3⟩ := hf
  refine eqf_cons (d + 1) x y f fs _ r w (by rw [h1]; exact hn) (.int (kd k) (x k)) (.int (kd k) (y k)) ?_ ?_ ?_ hr
  · rw [h2, h3]
    exact part_int w ht (by simpa using ncs_get x hk)
  · rw [h2, h3]
    exact part_int w ht (by simpa using ncs_get y hk)
  · rw [h2]
    exact run_equalIn_int (P := Try.prog) w d t (kd k) (kd k) (x k) (y k) ht
theorem eqf_arr (d : Nat) (x y : Nat → Int) (f : Field) (fs : List Field) (r : Bool) (w : World) (hf : f.name = "Slots" ∧ f.type = 24 ∧ f.offset = 10)
    (hr : (Op.eqFields (d + 2) (ncs x).toArray (ncs y).toArray fs).run Try.prog w = .ok r w) : (Op.eqFields (d + 2) (ncs x).toArray (ncs y).toArray (f :: fs)).run Try.prog w = .ok (((List.range 16).all fun j => x (10 + j) == y (10 + j)) && r) w := by
  obtain ⟨h1, h2, h3⟩ := hf
  have p := fun (z : Nat → Int) => part_arr (P := Try.prog) w Try.underlying24 info_16 (ncs z).toArray 10
  simp only [show 10 + 16 = 26 from rfl, ncs_16] at p
  refine eqf_cons (d + 2) x y f fs _ r w (by rw [h1]; decide) (.agg (inl 16 fun j => x (10 + j)).toArray) (.agg (inl 16 fun j => y (10 + j)).toArray) ?_ ?_ ?_ hr
  · rw [h2, h3]; exact p x
  · rw [h2, h3]; exact p y
  · rw [h2]
    exact eq_inl d 16 _ Try.underlying24 _ _ w
theorem eq_ino (d : Nat) (x y : Nat → Int) (w : World) : (Op.equalIn (d + 3) 26 (.agg (ncs x).toArray) (.agg (ncs y).toArray)).run Try.prog w = .ok (ieqb x y) w := by
  have hu : Try.prog.underlying 26 = some (.struct (Try.prog.fieldsOf 26)) := by kernel_rfl
  rw [run_equalIn_struct w (d + 2) _ _ _ hu ino_held]
  have hf := ino_fields
  generalize (Try.prog.fieldsOf 26).toList = fs at hf
  rcases fs with _ | ⟨f0, _ | ⟨f1, _ | ⟨f2, _ | ⟨f3, _ | ⟨f4, _ | ⟨f5, _ | ⟨f6, _ | ⟨f7, _ | ⟨f8, _ | ⟨f9, _ | ⟨f10, _ | ⟨f11, _ | ⟨f12, t⟩⟩⟩⟩⟩⟩⟩⟩⟩⟩⟩⟩⟩ <;> simp only [List.map_cons, List.map_nil, List.cons.injEq, Prod.mk.injEq, and_true, reduceCtorEq, and_false] at hf
  obtain ⟨h0, h1, h2, h3, h4, h5, h6, h7, h8, h9, h10, h11⟩ := hf
  have e : ieqb x y = ((x 0 == y 0) && ((x 1 == y 1) && ((x 2 == y 2) && ((x 3 == y 3) && ((x 4 == y 4) && ((x 5 == y 5) && ((x 6 == y 6) && ((x 7 == y 7) && ((x 8 == y 8) && ((x 9 == y 9) && (((List.range 16).all fun j => x (10 + j) == y (10 + j)) && ((x 26 == y 26) && true)))))))))))) := by
    rw [Bool.eq_iff_iff, ieqb_iff]
    simp only [Bool.and_eq_true, List.all_eq_true, List.mem_range, beq_iff_eq, and_true]
    constructor
    · intro h
      exact ⟨h 0 (by omega), h 1 (by omega), h 2 (by omega), h 3 (by omega), h 4 (by omega), h 5 (by omega), h 6 (by omega), h 7 (by omega), h 8 (by omega), h 9 (by omega), fun j hj => h (10 + j) (by omega), h 26 (by omega)⟩
    · rintro ⟨a0, a1, a2, a3, a4, a5, a6, a7, a8, a9, a10, a26⟩ j hj
      by_cases h : j < 10
      · rcases (by omega : j = 0 ∨ j = 1 ∨ j = 2 ∨ j = 3 ∨ j = 4 ∨ j = 5 ∨ j = 6 ∨ j = 7 ∨ j = 8 ∨ j = 9) with rfl | rfl | rfl | rfl | rfl | rfl | rfl | rfl | rfl | rfl <;> assumption
      · by_cases h26 : j = 26
        · subst h26; exact a26
        · have := a10 (j - 10) (by omega)
          rwa [show 10 + (j - 10) = j by omega] at this
  rw [e]
  refine eqf_int (d + 1) x y f0 _ _ w 0 _ _ (by omega) h0 (by decide) Try.underlying3 ?_
  refine eqf_int (d + 1) x y f1 _ _ w 1 _ _ (by omega) h1 (by decide) Try.underlying3 ?_
  refine eqf_int (d + 1) x y f2 _ _ w 2 _ _ (by omega) h2 (by decide) Try.underlying22 ?_
  refine eqf_int (d + 1) x y f3 _ _ w 3 _ _ (by omega) h3 (by decide) Try.underlying22 ?_
  refine eqf_int (d + 1) x y f4 _ _ w 4 _ _ (by omega) h4 (by decide) Try.underlying3 ?_
  refine eqf_int (d + 1) x y f5 _ _ w 5 _ _ (by omega) h5 (by decide) Try.underlying3 ?_
  refine eqf_int (d + 1) x y f6 _ _ w 6 _ _ (by omega) h6 (by decide) Try.underlying23 ?_
  refine eqf_int (d + 1) x y f7 _ _ w 7 _ _ (by omega) h7 (by decide) Try.underlying22 ?_
  refine eqf_int (d + 1) x y f8 _ _ w 8 _ _ (by omega) h8 (by decide) Try.underlying3 ?_
  refine eqf_int (d + 1) x y f9 _ _ w 9 _ _ (by omega) h9 (by decide) Try.underlying22 ?_
  refine eqf_arr d x y f10 _ _ w h10 ?_
  refine eqf_int (d + 1) x y f11 _ _ w 26 _ _ (by omega) h11 (by decide) Try.underlying3 ?_
  simp [Op.eqFields]
/-! Fields as bytes. -/
/-- The sizes of the fields. -/
def sz (k : Nat) : Nat := match k with | 0 => 1 | 2 => 4 | 3 => 4 | 5 => 4 | 6 => 8 | 7 => 4 | 9 => 4 | _ => 2
theorem sz_slot (j : Nat) : sz (10 + j) = 2 := by
  unfold sz
  split <;> first | omega | rfl
def off (s : Nat → Nat) : Nat → Nat
  | 0 => 0
  | k + 1 => off s k + s k
/-- Numbers of sizes, as bytes. -/
def nb (s : Nat → Nat) (v : Nat → Int) : Nat → List UInt8
  | 0 => []
  | k + 1 => nb s v k ++ leb (v k).toNat (s k)
theorem nb_len (s : Nat → Nat) (v : Nat → Int) : ∀ k, (nb s v k).length = off s k
  | 0 => rfl
  | k + 1 => by rw [nb, List.length_append, nb_len s v k, leb_len]; rfl
theorem nb_split (s : Nat → Nat) (v : Nat → Int) (k : Nat) : ∀ m, k < m → ∃ r, nb s v m = nb s v k ++ (leb (v k).toNat (s k) ++ r)
  | m + 1, h => by
    by_cases hk : k = m
    · subst hk
      exact ⟨[], by rw [List.append_nil]; rfl⟩
    · obtain ⟨r, hr⟩ := nb_split s v k m (by omega)
      exact ⟨r ++ leb (v m).toNat (s m), by rw [nb, hr]; simp⟩
theorem nb_congr (s : Nat → Nat) {v u : Nat → Int} : ∀ k, (∀ j, j < k → v j = u j) → nb s v k = nb s u k
  | 0, _ => rfl
  | k + 1, h => by rw [nb, nb, nb_congr s k (fun j hj => h j (by omega)), h k (by omega)]
/-- The number of a field. -/
def rdn (s : Nat → Nat) (l : List UInt8) (k : Nat) : Nat := num ((l.drop (off s k)).take (s k))
def rd (s : Nat → Nat) (l : List UInt8) (k : Nat) : Int := (rdn s l k : Int)
theorem rdn_lt (s : Nat → Nat) (l : List UInt8) (k : Nat) : rdn s l k < 256 ^ s k := by
  unfold rdn
  have h1 := num_lt ((l.drop (off s k)).take (s k))
  have h2 : ((l.drop (off s k)).take (s k)).length ≤ s k := by simp; omega
  exact Nat.lt_of_lt_of_le h1 (Nat.pow_le_pow_right (by omega) h2)
theorem rd_nb (s : Nat → Nat) (v : Nat → Int) (m k : Nat) (hk : k < m) (t : List UInt8) (h0 : 0 ≤ v k) (hl : (v k).toNat < 256 ^ s k) : rd s (nb s v m ++ t) k = v k := by
  obtain ⟨r, hr⟩ := nb_split s v k m hk
  unfold rd rdn
  rw [hr, List.append_assoc, List.drop_left' (nb_len s v k), List.append_assoc, List.take_left' (leb_len _ _), num_leb, Nat.mod_eq_of_lt hl]
  omega
/-- The block of numbers. -/
def blk (s : Nat → Nat) (v : Nat → Int) (n : Nat) : List UInt8 := nb s v n ++ List.replicate (256 - off s n) 0
theorem blk_len (s : Nat → Nat) (v : Nat → Int) (n : Nat) (h : off s n ≤ 256) : (blk s v n).length = 256 := by
  unfold blk
  rw [List.length_append, nb_len, List.length_replicate]
  omega
def s2 (k : Nat) : Nat := 2
theorem off_s2 : ∀ k, off s2 k = 2 * k
  | 0 => rfl
  | k + 1 => by rw [off, off_s2 k]; show 2 * k + 2 = _; omega
theorem off27 : off sz 27 = 69 := rfl
theorem off112 : off s2 112 = 224 := rfl
theorem off_slot : ∀ j, off sz (10 + j) = 35 + 2 * j
  | 0 => rfl
  | j + 1 => by
    show off sz (10 + j) + sz (10 + j) = _
    rw [off_slot j, sz_slot]
    omega
/-! What may be. -/
def slotB (f : Nat → Int) (n : Nat) : Bool := (List.range n).all fun j => decide (0 ≤ f j) && decide (f j ≤ 255)
theorem slotB_iff (f : Nat → Int) (n : Nat) : slotB f n = true ↔ ∀ j, j < n → 0 ≤ f j ∧ f j ≤ 255 := by
  unfold slotB
  simp only [List.all_eq_true, List.mem_range, Bool.and_eq_true, decide_eq_true_eq]
theorem slotB_succ (f : Nat → Int) (n : Nat) : slotB f (n + 1) = (slotB f n && (decide (0 ≤ f n) && decide (f n ≤ 255))) := by
  unfold slotB
  rw [List.range_succ, List.all_append]
  simp
def inB (v a b : Int) : Bool := decide (a ≤ v) && decide (v ≤ b)
theorem inB_iff (v a b : Int) : inB v a b = true ↔ a ≤ v ∧ v ≤ b := by unfold inB; simp
def mayB (v : Nat → Int) : Bool := inB (v 0) 1 3 && (inB (v 1) 0 511 && (inB (v 4) 0 32768 && (inB (v 5) 0 32768 && (!(v 6 == 0) && (inB (v 8) 0 64 && (slotB (fun j => v (10 + j)) 16 && inB (v 26) 0 255))))))
theorem mayB_iff (v : Nat → Int) : mayB v = true ↔ (1 ≤ v 0 ∧ v 0 ≤ 3) ∧ (0 ≤ v 1 ∧ v 1 ≤ 511) ∧ (0 ≤ v 4 ∧ v 4 ≤ 32768) ∧ (0 ≤ v 5 ∧ v 5 ≤ 32768) ∧ v 6 ≠ 0 ∧ (0 ≤ v 8 ∧ v 8 ≤ 64) ∧ (∀ j, j < 16 → 0 ≤ v (10 + j) ∧ v (10 + j) ≤ 255) ∧ (0 ≤ v 26 ∧ v 26 ≤ 255) := by
  unfold mayB
  simp only [Bool.and_eq_true, inB_iff, slotB_iff, Bool.not_eq_true', beq_eq_false_iff_ne, ne_eq]
/-- Cells that a machine may hold there. -/
structure Wf (v : Nat → Int) : Prop where
  u : ∀ k, kd k = .u32 → 0 ≤ v k ∧ v k < 4294967296
  s : 0 ≤ v 6 ∧ v 6 < 18446744073709551616
theorem May.fits {v : Nat → Int} (h : mayB v = true) (hw : Wf v) (k : Nat) (hk : k < 27) : 0 ≤ v k ∧ (v k).toNat < 256 ^ sz k := by
  obtain ⟨h0, h1, h4, h5, h6, h8, hs, h26⟩ := (mayB_iff v).1 h
  by_cases h10 : k < 10
  · rcases (by omega : k = 0 ∨ k = 1 ∨ k = 2 ∨ k = 3 ∨ k = 4 ∨ k = 5 ∨ k = 6 ∨ k = 7 ∨ k = 8 ∨ k = 9) with rfl | rfl | rfl | rfl | rfl | rfl | rfl | rfl | rfl | rfl
    · exact ⟨by omega, by show _ < 256; omega⟩
    · exact ⟨by omega, by show _ < 65536; omega⟩
    · have := hw.u 2 rfl; exact ⟨by omega, by show _ < 4294967296; omega⟩
    · have := hw.u 3 rfl; exact ⟨by omega, by show _ < 4294967296; omega⟩
    · exact ⟨by omega, by show _ < 65536; omega⟩
    · exact ⟨by omega, by show _ < 4294967296; omega⟩
    · have := hw.s; exact ⟨by omega, by show _ < 18446744073709551616; omega⟩
    · have := hw.u 7 rfl; exact ⟨by omega, by show _ < 4294967296; omega⟩
    · exact ⟨by omega, by show _ < 65536; omega⟩
    · have := hw.u 9 rfl; exact ⟨by omega, by show _ < 4294967296; omega⟩
  · obtain ⟨j, rfl⟩ : ∃ j, k = 10 + j := ⟨k - 10, by omega⟩
    rw [sz_slot]
    by_cases hj : j < 16
    · have := hs j hj; exact ⟨by omega, by show _ < 65536; omega⟩
    · obtain rfl : j = 16 := by omega
      exact (show 0 ≤ v 26 ∧ (v 26).toNat < 65536 by omega)
end Go.Proofs.Ytpmldaoligmkaaa
