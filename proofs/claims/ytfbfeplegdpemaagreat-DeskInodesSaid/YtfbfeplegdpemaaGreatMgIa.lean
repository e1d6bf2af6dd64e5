/- An inode's cells: what a change of one of them makes of them; when two are the same; its bytes, field by field. No conditions. -/
import Derived.Test.YtfbfeplegdpemaaGreatMgKh
import Derived.Test.YtfbfeplegdpemaaGreatMgMem
import Derived.Test.YtfbfeplegdpemaaGreatMgRBy
import Derived.Test.YtfbfeplegdpemaaGreatMgPut
set_option linter.unusedVariables false
set_option maxRecDepth 20000
namespace Go.Proofs.YtfbfeplegdpemaaGreat
open Go.RowKit

theorem wrap_64 (n : Int) : IntKind.u64.wrap n = n % 18446744073709551616 := by simp [IntKind.wrap, IntKind.bits, IntKind.signed]
theorem wrap_32 (n : Int) : IntKind.u32.wrap n = n % 4294967296 := by simp [IntKind.wrap, IntKind.bits, IntKind.signed]
theorem inl_congr {n : Nat} {f g : Nat → Int} (h : ∀ j, j < n → f j = g j) : inl n f = inl n g := List.map_congr_left fun j hj => by rw [h j (List.mem_range.1 hj)]
theorem inl_one (n : Nat) (f : Nat → Int) : ∀ v ∈ inl n f, v.oneCell' = true := by
  intro v hv
  obtain ⟨_, _, rfl⟩ := List.mem_map.1 hv
  rfl
theorem inl_set {n j : Nat} (f : Nat → Int) (v : Int) (h : j < n) : (inl n f).set j (.int .i64 v) = inl n (at1 f j v) := by
  apply List.ext_getElem?
  intro k
  rw [List.getElem?_set, inl_len]
  by_cases hk : j = k
  · subst hk
    rw [if_pos rfl, if_pos h, inl_get _ h, at1_same]
  · rw [if_neg hk]
    by_cases hn : k < n
    · rw [inl_get _ hn, inl_get _ hn, at1_other _ _ (by omega)]
    · rw [List.getElem?_eq_none (by rw [inl_len]; omega), List.getElem?_eq_none (by rw [inl_len]; omega)]
/-- The kinds of an inode's cells. -/
def kd (k : Nat) : IntKind := if k = 2 ∨ k = 3 ∨ k = 7 ∨ k = 9 then .u32 else if k = 6 then .u64 else .i64
/-- An inode's cells. -/
def ncs (v : Nat → Int) : List Value := .int .i64 (v 0) :: .int .i64 (v 1) :: .int .u32 (v 2) :: .int .u32 (v 3) :: .int .i64 (v 4) :: .int .i64 (v 5) :: .int .u64 (v 6) :: .int .u32 (v 7) :: .int .i64 (v 8) :: .int .u32 (v 9) :: inl 17 fun j => v (10 + j)
theorem ncs_eq (v : Nat → Int) : ncs v = (List.range 27).map fun k => .int (kd k) (v k) := rfl
theorem ncs_len (v : Nat → Int) : (ncs v).length = 27 := rfl
theorem ncs_get (v : Nat → Int) {k : Nat} (h : k < 27) : (ncs v)[k]? = some (.int (kd k) (v k)) := by rw [ncs_eq]; simp [h]
theorem ncs_slot (v : Nat → Int) {j : Nat} (h : j < 17) : (ncs v)[10 + j]? = some (.int .i64 (v (10 + j))) := by
  rw [ncs_get v (by omega)]
  unfold kd
  rw [if_neg (by omega), if_neg (by omega)]
theorem ncs_congr {v u : Nat → Int} (h : ∀ k, k < 27 → v k = u k) : ncs v = ncs u := by
  rw [ncs_eq, ncs_eq]
  exact List.map_congr_left fun j hj => by rw [h j (List.mem_range.1 hj)]
theorem ncs_set (v : Nat → Int) {k : Nat} (h : k < 27) (z : Int) : (ncs v).set k (.int (kd k) z) = ncs (at1 v k z) := by
  apply List.ext_getElem?
  intro j
  rw [List.getElem?_set, ncs_len]
  by_cases hk : k = j
  · subst hk
    rw [if_pos rfl, if_pos h, ncs_get _ h, at1_same]
  · rw [if_neg hk]
    by_cases hn : j < 27
    · rw [ncs_get _ hn, ncs_get _ hn, at1_other _ _ (by omega)]
    · rw [List.getElem?_eq_none (by rw [ncs_len]; omega), List.getElem?_eq_none (by rw [ncs_len]; omega)]
theorem ncs_setS (v : Nat → Int) {j : Nat} (h : j < 17) (z : Int) : (ncs v).set (10 + j) (.int .i64 z) = ncs (at1 v (10 + j) z) := by
  rw [← ncs_set v (by omega)]
  unfold kd
  rw [if_neg (by omega), if_neg (by omega)]
theorem ncs_one (v : Nat → Int) : ∀ x ∈ ncs v, x.oneCell' = true := by
  intro x hx
  rw [ncs_eq] at hx
  obtain ⟨_, _, rfl⟩ := List.mem_map.1 hx
  rfl
def ino0 : Nat → Int := fun _ => 0
theorem info_ino : (Tryz.prog.info? 44).map (·.size) = some 27 := by kernel_rfl
theorem info_16 : (Tryz.prog.info? 42).map (·.size) = some 16 := by kernel_rfl
theorem info_112 : (Tryz.prog.info? 134).map (·.size) = some 112 := by kernel_rfl
theorem info_ncs (v : Nat → Int) : (Tryz.prog.info? 44).map (·.size) = some (ncs v).length := info_ino
theorem info_inl (f : Nat → Int) : (Tryz.prog.info? 134).map (·.size) = some (inl 112 f).length := by rw [inl_len]; exact info_112
theorem zero_ino (w : World) : (zeroValue 44).run Tryz.prog w = .ok (.agg (ncs ino0).toArray) w := by kernel_rfl
theorem built_ino0 : Tryz.prog.built 44 [] = some (ncs ino0).toArray := by kernel_rfl
theorem zero_112 (w : World) : (zeroValue 134).run Tryz.prog w = .ok (.agg (inl 112 ino0).toArray) w := by kernel_rfl
theorem built_112 : Tryz.prog.built 134 [] = some (inl 112 ino0).toArray := by kernel_rfl
/-! Two of them, compared. -/
theorem ncs_16 (v : Nat → Int) : ((ncs v).toArray).extract 10 26 = (inl 16 fun j => v (10 + j)).toArray := rfl
theorem ino_fields : ((Tryz.prog.fieldsOf 44).toList.map fun f => (f.name, f.type, f.offset)) = [("Kind", 3, 0), ("Mode", 3, 1), ("Uid", 41, 2), ("Gid", 41, 3), ("Links", 3, 4), ("Size", 3, 5), ("Serial", 35, 6), ("Version", 41, 7), ("Parent", 3, 8), ("Cookie", 41, 9), ("Slots", 42, 10), ("List", 3, 26)] := by kernel_rfl
theorem ino_guard : Tryz.prog.eqGuardType Tryz.prog.depth 44 = false := by kernel_rfl
theorem ino_held : Tryz.prog.stoodInHeld 44 = false := by kernel_rfl
theorem l112_guard : Tryz.prog.eqGuardType Tryz.prog.depth 134 = false := by kernel_rfl
def ieqb (x y : Nat → Int) : Bool := (List.range 27).all fun j => x j == y j
theorem ieqb_iff (x y : Nat → Int) : ieqb x y = true ↔ ∀ j, j < 27 → x j = y j := by
  unfold ieqb
  simp only [List.all_eq_true, List.mem_range, beq_iff_eq]
theorem ieqb_refl (x : Nat → Int) : ieqb x x = true := (ieqb_iff x x).2 fun _ _ => rfl
/-- The fields, one behind the other. -/
theorem eqf_cons (d : Nat) (x y : Nat → Int) (f : Field) (fs : List Field) (b r : Bool) (w : World) (hn : f.name ≠ "_") (u v : Value)
    (hp : (part f.type (ncs x).toArray f.offset).run Tryz.prog w = .ok u w) (hq : (part f.type (ncs y).toArray f.offset).run Tryz.prog w = .ok v w) (he : (Op.equalIn d f.type u v).run Tryz.prog w = .ok b w)
    (hr : (Op.eqFields d (ncs x).toArray (ncs y).toArray fs).run Tryz.prog w = .ok r w) : (Op.eqFields d (ncs x).toArray (ncs y).toArray (f :: fs)).run Tryz.prog w = .ok (b && r) w := by
  simp only [Op.eqFields, Sem.run_bind, Sem.run_ite, hp, hq, he, Result.andThen_ok, Sem.run_pure, hr]
  cases b <;> simp [hn]
theorem eqf_int (d : Nat) (x y : Nat → Int) (f : Field) (fs : List Field) (r : Bool) (w : World) (k : Nat) (t : TypeId) (nm : String) (hk : k < 27) (hf : f.name = nm ∧ f.type = t ∧ f.offset = k) (hn : nm ≠ "_") (ht : Tryz.prog.underlying t = some (.int (kd k)))
    (hr : (Op.eqFields (d + 1) (ncs x).toArray (ncs y).toArray fs).run Tryz.prog w = .ok r w) : (Op.eqFields (d + 1) (ncs x).toArray (ncs y).toArray (f :: fs)).run Tryz.prog w = .ok ((x k == y k) && r) w := by
  obtain ⟨h1, h2, h3⟩ := hf
  refine eqf_cons (d + 1) x y f fs _ r w (by rw [h1]; exact hn) (.int (kd k) (x k)) (.int (kd k) (y k)) ?_ ?_ ?_ hr
  · rw [h2, h3]
    exact part_int w ht (by simpa using ncs_get x hk)
  · rw [h2, h3]
    exact part_int w ht (by simpa using ncs_get y hk)
  · rw [h2]
    exact run_equalIn_int (P := Tryz.prog) w d t (kd k) (kd k) (x k) (y k) ht
theorem eqf_arr (d : Nat) (x y : Nat → Int) (f : Field) (fs : List Field) (r : Bool) (w : World) (hf : f.name = "Slots" ∧ f.type = 42 ∧ f.offset = 10)
    (hr : (Op.eqFields (d + 2) (ncs x).toArray (ncs y).toArray fs).run Tryz.prog w = .ok r w) : (Op.eqFields (d + 2) (ncs x).toArray (ncs y).toArray (f :: fs)).run Tryz.prog w = .ok (((List.range 16).all fun j => x (10 + j) == y (10 + j)) && r) w := by
  obtain ⟨h1, h2, h3⟩ := hf
  have p := fun (z : Nat → Int) => part_arr (P := Tryz.prog) w Tryz.underlying42 info_16 (ncs z).toArray 10
  simp only [show 10 + 16 = 26 from rfl, ncs_16] at p
  refine eqf_cons (d + 2) x y f fs _ r w (by rw [h1]; decide) (.agg (inl 16 fun j => x (10 + j)).toArray) (.agg (inl 16 fun j => y (10 + j)).toArray) ?_ ?_ ?_ hr
  · rw [h2, h3]; exact p x
  · rw [h2, h3]; exact p y
  · rw [h2]
    exact eq_inl d 16 _ Tryz.underlying42 _ _ w
theorem eq_ino (d : Nat) (x y : Nat → Int) (w : World) : (Op.equalIn (d + 3) 44 (.agg (ncs x).toArray) (.agg (ncs y).toArray)).run Tryz.prog w = .ok (ieqb x y) w := by
  have hu : Tryz.prog.underlying 44 = some (.struct (Tryz.prog.fieldsOf 44)) := by kernel_rfl
  rw [run_equalIn_struct w (d + 2) _ _ _ hu ino_held]
  have hf := ino_fields
  generalize (Tryz.prog.fieldsOf 44).toList = fs at hf
  rcases fs with _ | ⟨f0, _ | ⟨f1, _ | ⟨f2, _ | ⟨f3, _ | ⟨f4, _ | ⟨f5, _ | ⟨f6, _ | ⟨f7, _ | ⟨f8, _ | ⟨f9, _ | ⟨f10, _ | ⟨f11, _ | ⟨f12, t⟩⟩⟩⟩⟩⟩⟩⟩⟩⟩⟩⟩⟩ <;> simp only [List.map_cons, List.map_nil, List.cons.injEq, Prod.mk.injEq, and_true, reduceCtorEq, and_false] at hf
  obtain ⟨h0, h1, h2, h3, h4, h5, h6, h7, h8, h9, h10, h11⟩ := hf
  have e : ieqb x y = ((x 0 == y 0) && ((x 1 == y 1) && ((x 2 == y 2) && ((x 3 == y 3) && ((x 4 == y 4) && ((x 5 == y 5) && ((x 6 == y 6) && ((x 7 == y 7) && ((x 8 == y 8) && ((x 9 == y 9) && (((List.range 16).all fun j => x (10 + j) == y (10 + j)) && ((x 26 == y 26) && true)))))))))))) := by
    rw [Bool.eq_iff_iff, ieqb_iff]
    simp only [Bool.and_eq_true, List.all_eq_true, List.mem_range, beq_iff_eq, and_true]
    constructor
    · intro h
      exact ⟨h 0 (by omega), h 1 (by omega), h 2 (by omega), h 3 (by omega), h 4 (by omega), h 5 (by omega), h 6 (by omega), h 7 (by omega), h 8 (by omega), h 9 (by omega), fun j hj => h (10 + j) (by omega), h 26 (by omega)⟩
    · rintro ⟨a0, a1, a2, a3, a4, a5, a6, a7, a8, a9, a10, a26⟩ j hj
      by_cases h : j < 10
      · rcases (by omega : j = 0 ∨ j = 1 ∨ j = 2 ∨ j = 3 ∨ j = 4 ∨ j = 5 ∨ j = 6 ∨ j = 7 ∨ j = 8 ∨ j = 9) with rfl | rfl | rfl | rfl | rfl | rfl | rfl | rfl | rfl | rfl <;> assumption
      · by_cases h26 : j = 26
        · subst h26; exact a26
        · have := a10 (j - 10) (by omega)
          rwa [show 10 + (j - 10) = j by omega] at this
  rw [e]
  refine eqf_int (d + 1) x y f0 _ _ w 0 _ _ (by omega) h0 (by decide) Tryz.underlying3 ?_
  refine eqf_int (d + 1) x y f1 _ _ w 1 _ _ (by omega) h1 (by decide) Tryz.underlying3 ?_
  refine eqf_int (d + 1) x y f2 _ _ w 2 _ _ (by omega) h2 (by decide) Tryz.underlying41 ?_
  refine eqf_int (d + 1) x y f3 _ _ w 3 _ _ (by omega) h3 (by decide) Tryz.underlying41 ?_
  refine eqf_int (d + 1) x y f4 _ _ w 4 _ _ (by omega) h4 (by decide) Tryz.underlying3 ?_
  refine eqf_int (d + 1) x y f5 _ _ w 5 _ _ (by omega) h5 (by decide) Tryz.underlying3 ?_
  refine eqf_int (d + 1) x y f6 _ _ w 6 _ _ (by omega) h6 (by decide) Tryz.underlying35 ?_
  refine eqf_int (d + 1) x y f7 _ _ w 7 _ _ (by omega) h7 (by decide) Tryz.underlying41 ?_
  refine eqf_int (d + 1) x y f8 _ _ w 8 _ _ (by omega) h8 (by decide) Tryz.underlying3 ?_
  refine eqf_int (d + 1) x y f9 _ _ w 9 _ _ (by omega) h9 (by decide) Tryz.underlying41 ?_
  refine eqf_arr d x y f10 _ _ w h10 ?_
  refine eqf_int (d + 1) x y f11 _ _ w 26 _ _ (by omega) h11 (by decide) Tryz.underlying3 ?_
  simp [Op.eqFields]
/-! Fields as bytes. -/
/-- The sizes of the fields. -/
def sz (k : Nat) : Nat := match k with | 0 => 1 | 2 => 4 | 3 => 4 | 5 => 4 | 6 => 8 | 7 => 4 | 9 => 4 | _ => 2
theorem sz_slot (j : Nat) : sz (10 + j) = 2 := by
  unfold sz
  split <;> first | omega | rfl
def off (s : Nat → Nat) : Nat → Nat
  | 0 => 0
  | k + 1 => off s k + s k
/-- Numbers of sizes, as bytes. -/
def nb (s : Nat → Nat) (v : Nat → Int) : Nat → List UInt8
  | 0 => []
  | k + 1 => nb s v k ++ leb (v k).toNat (s k)
theorem nb_len (s : Nat → Nat) (v : Nat → Int) : ∀ k, (nb s v k).length = off s k
  | 0 => rfl
  | k + 1 => by rw [nb, List.length_append, nb_len s v k, leb_len]; rfl
theorem nb_split (s : Nat → Nat) (v : Nat → Int) (k : Nat) : ∀ m, k < m → ∃ r, nb s v m = nb s v k ++ (leb (v k).toNat (s k) ++ r)
  | m + 1, h => by
    by_cases hk : k = m
    · subst hk
      exact ⟨[], by rw [List.append_nil]; rfl⟩
    · obtain ⟨r, hr⟩ := nb_split s v k m (by omega)
      exact ⟨r ++ leb (v m).toNat (s m), by rw [nb, hr]; simp⟩
theorem nb_congr (s : Nat → Nat) {v u : Nat → Int} : ∀ k, (∀ j, j < k → v j = u j) → nb s v k = nb s u k
  | 0, _ => rfl
  | k + 1, h => by rw [nb, nb, nb_congr s k (fun j hj => h j (by omega)), h k (by omega)]
/-- The number of a field. -/
def rdn (s : Nat → Nat) (l : List UInt8) (k : Nat) : Nat := num ((l.drop (off s k)).take (s k))
def rd (s : Nat → Nat) (l : List UInt8) (k : Nat) : Int := (rdn s l k : Int)
theorem rdn_lt (s : Nat → Nat) (l : List UInt8) (k : Nat) : rdn s l k < 256 ^ s k := by
  unfold rdn
  have h1 := num_lt ((l.drop (off s k)).take (s k))
  have h2 : ((l.drop (off s k)).take (s k)).length ≤ s k := by simp; omega
  exact Nat.lt_of_lt_of_le h1 (Nat.pow_le_pow_right (by omega) h2)
theorem rd_nb (s : Nat → Nat) (v : Nat → Int) (m k : Nat) (hk : k < m) (t : List UInt8) (h0 : 0 ≤ v k) (hl : (v k).toNat < 256 ^ s k) : rd s (nb s v m ++ t) k = v k := by
  obtain ⟨r, hr⟩ := nb_split s v k m hk
  unfold rd rdn
  rw [hr, List.append_assoc, List.drop_left' (nb_len s v k), List.append_assoc, List.take_left' (leb_len _ _), num_leb, Nat.mod_eq_of_lt hl]
  omega
/-- The block of numbers. -/
def blk (s : Nat → Nat) (v : Nat → Int) (n : Nat) : List UInt8 := nb s v n ++ List.replicate (256 - off s n) 0
theorem blk_len (s : Nat → Nat) (v : Nat → Int) (n : Nat) (h : off s n ≤ 256) : (blk s v n).length = 256 := by
  unfold blk
  rw [List.length_append, nb_len, List.length_replicate]
  omega
def s2 (k : Nat) : Nat := 2
theorem off_s2 : ∀ k, off s2 k = 2 * k
  | 0 => rfl
  | k + 1 => by rw [off, off_s2 k]; show 2 * k + 2 = _; omega
theorem off_slot : ∀ j, off sz (10 + j) = 35 + 2 * j
  | 0 => rfl
  | j + 1 => by
    show off sz (10 + j) + sz (10 + j) = _
    rw [off_slot j, sz_slot]
    omega
/-! What may be. -/
def slotB (f : Nat → Int) (n : Nat) : Bool := (List.range n).all fun j => decide (0 ≤ f j) && decide (f j ≤ 255)
theorem slotB_iff (f : Nat → Int) (n : Nat) : slotB f n = true ↔ ∀ j, j < n → 0 ≤ f j ∧ f j ≤ 255 := by
  unfold slotB
  simp only [List.all_eq_true, List.mem_range, Bool.and_eq_true, decide_eq_true_eq]
theorem slotB_succ (f : Nat → Int) (n : Nat) : slotB f (n + 1) = (slotB f n && (decide (0 ≤ f n) && decide (f n ≤ 255))) := by
  unfold slotB
  rw [List.range_succ, List.all_append]
  simp
def inB (v a b : Int) : Bool := decide (a ≤ v) && decide (v ≤ b)
theorem inB_iff (v a b : Int) : inB v a b = true ↔ a ≤ v ∧ v ≤ b := by unfold inB; simp
def mayB (v : Nat → Int) : Bool := inB (v 0) 1 3 && (inB (v 1) 0 511 && (inB (v 4) 0 32768 && (inB (v 5) 0 32768 && (!(v 6 == 0) && (inB (v 8) 0 64 && (slotB (fun j => v (10 + j)) 16 && inB (v 26) 0 255))))))
theorem mayB_iff (v : Nat → Int) : mayB v = true ↔ (1 ≤ v 0 ∧ v 0 ≤ 3) ∧ (0 ≤ v 1 ∧ v 1 ≤ 511) ∧ (0 ≤ v 4 ∧ v 4 ≤ 32768) ∧ (0 ≤ v 5 ∧ v 5 ≤ 32768) ∧ v 6 ≠ 0 ∧ (0 ≤ v 8 ∧ v 8 ≤ 64) ∧ (∀ j, j < 16 → 0 ≤ v (10 + j) ∧ v (10 + j) ≤ 255) ∧ (0 ≤ v 26 ∧ v 26 ≤ 255) := by
  unfold mayB
  simp only [Bool.and_eq_true, inB_iff, slotB_iff, Bool.not_eq_true', beq_eq_false_iff_ne, ne_eq]
/-- Cells that a machine may hold there. -/
structure Wf (v : Nat → Int) : Prop where
  u : ∀ k, kd k = .u32 → 0 ≤ v k ∧ v k < 4294967296
  s : 0 ≤ v 6 ∧ v 6 < 18446744073709551616
theorem May.fits {v : Nat → Int} (h : mayB v = true) (hw : Wf v) (k : Nat) (hk : k < 27) : 0 ≤ v k ∧ (v k).toNat < 256 ^ sz k := by
  obtain ⟨h0, h1, h4, h5, h6, h8, hs, h26⟩ := (mayB_iff v).1 h
  by_cases h10 : k < 10
  · rcases (by omega : k = 0 ∨ k = 1 ∨ k = 2 ∨ k = 3 ∨ k = 4 ∨ k = 5 ∨ k = 6 ∨ k = 7 ∨ k = 8 ∨ k = 9) with rfl | rfl | rfl | rfl | rfl | rfl | rfl | rfl | rfl | rfl
    · exact ⟨by omega, by show _ < 256; omega⟩
    · exact ⟨by omega, by show _ < 65536; omega⟩
    · have := hw.u 2 rfl; exact ⟨by omega, by show _ < 4294967296; omega⟩
    · have := hw.u 3 rfl; exact ⟨by omega, by show _ < 4294967296; omega⟩
    · exact ⟨by omega, by show _ < 65536; omega⟩
    · exact ⟨by omega, by show _ < 4294967296; omega⟩
    · have := hw.s; exact ⟨by omega, by show _ < 18446744073709551616; omega⟩
    · have := hw.u 7 rfl; exact ⟨by omega, by show _ < 4294967296; omega⟩
    · exact ⟨by omega, by show _ < 65536; omega⟩
    · have := hw.u 9 rfl; exact ⟨by omega, by show _ < 4294967296; omega⟩
  · obtain ⟨j, rfl⟩ : ∃ j, k = 10 + j := ⟨k - 10, by omega⟩
    rw [sz_slot]
    by_cases hj : j < 16
    · have := hs j hj; exact ⟨by omega, by show _ < 65536; omega⟩
    · obtain rfl : j = 16 := by omega
      exact (show 0 ≤ v 26 ∧ (v 26).toNat < 65536 by omega)
end Go.Proofs.YtfbfeplegdpemaaGreat
/- Package inode: what may be, a number behind bytes, slots behind bytes, a block made whole. Conditions: those named. -/
set_option linter.unusedVariables false
set_option maxRecDepth 20000
namespace Go.Proofs.YtfbfeplegdpemaaGreat
open Go.RowKit

/-- Numbers lie where the address says. -/
def HolN (w : World) (A : Option Addr) (n : Nat) (f : Nat → Int) : Prop := ∃ g o, A = some ⟨g, o, none⟩ ∧ ∀ j, j < n → w.cell? ⟨g, o + j, none⟩ = some (.int .i64 (f j))
theorem HolN.below {w w' : World} {A : Option Addr} {n : Nat} {f : Nat → Int} (h : HolN w A n f) (hb : Below w.heap.size w w') : HolN w' A n f := by
  obtain ⟨g, o, rfl, hc⟩ := h
  exact ⟨g, o, rfl, fun j hj => (hb.cell (p := ⟨g, o + j, none⟩) (World.block_lt_of_cell? w _ (hc j hj))).trans (hc j hj)⟩
theorem hol_ino {w : World} {g : Nat} {v : Nat → Int} (h : Row w g 44 (ncs v)) : HolN w (some ⟨g, 10, none⟩) 16 fun j => v (10 + j) := ⟨g, 10, rfl, fun j hj => by rw [h.cell, ncs_slot v (by omega)]⟩
theorem hol_112 {w : World} {g : Nat} {f : Nat → Int} (h : Row w g 134 (inl 112 f)) : HolN w (some ⟨g, 0, none⟩) 112 f := ⟨g, 0, rfl, fun j hj => by rw [h.cell, Nat.zero_add, inl_get f hj]⟩
theorem hol_single {w : World} {g : Nat} {z : Int} (h : w.cell? ⟨g, 0, none⟩ = some (.int .i64 z)) : HolN w (some ⟨g, 0, none⟩) 1 fun _ => z := ⟨g, 0, rfl, fun j hj => by
  obtain rfl : j = 0 := by omega
  exact h⟩
theorem own_low {w : World} {b b' : Nat} {e : TypeId} {size n : Nat} {v : Value} {xs : List Value} (h : w.ownsRow b e size v n xs) (hb : b' ≤ b) : w.ownsRow b' e size v n xs := by
  refine ⟨h.1, ?_⟩
  rcases h.2 with h0 | ⟨g, cap, cur, h1, h2, h3⟩
  · exact .inl h0
  · exact .inr ⟨g, cap, cur, h1, Nat.le_trans hb h2, h3⟩
theorem within_any (v a b : Int) (w : World) : Calls Tryz.prog 102 #[.int .i64 v, .int .i64 a, .int .i64 b] w fun e w' => e = .returned (.bool (inB v a b)) ∧ w = w' := by
  unfold inB
  by_cases h0 : a ≤ v
  · rw [decide_eq_true h0, Bool.true_and]
    go_enter Tryz.func102, Tryz.ntmps102
    go_wp2
    go_ret
    exact ⟨rfl, rfl⟩
  · rw [decide_eq_false h0, Bool.false_and]
    go_enter Tryz.func102, Tryz.ntmps102
    go_wp2
    go_ret
    exact ⟨rfl, rfl⟩
theorem areslots_any (A : Option Addr) (n c : Nat) (f : Nat → Int) (hn : n ≤ 112) (w : World) (hA : HolN w A n f) : Calls Tryz.prog 103 #[.slice A n c] w fun e w' => e = .returned (.bool (slotB f n)) ∧ w = w' := by
  have HA := Lib.hid hA
  have HN := Lib.hid hn
  clear hA hn
  go_enter Tryz.func103, Tryz.ntmps103
  go_wp2
  go_loop [7] (fun y => ∃ k : Nat, k ≤ n ∧ y = .int .i64 (k : Int) ∧ Hid (slotB f k = true)) (fun y => 112 - (intOf y).toNat)
  case atStart => exact ⟨0, by omega, rfl, Lib.hid rfl⟩
  case round =>
    obtain ⟨k, hk, rfl, HS⟩ := hrel
    have hkw : IntKind.i64.wrap ((k : Int) + 1) = (k : Int) + 1 := by rw [IntKind.wrap_i64]; have := HN.out; omega
    by_cases hkn : k < n
    · have hki : (k : Int) < (n : Int) := by omega
      obtain ⟨g, o, rfl, hc⟩ := HA.out
      have ck := hc k hkn
      obtain ⟨z, hz⟩ : ∃ z, f k = z := ⟨_, rfl⟩
      rw [hz] at ck
      have HK := Lib.hid hkn
      cases hb : inB z 0 255
      · have HF := Lib.hid (p := slotB f n = false) (by
          cases h : slotB f n
          · rfl
          · have h1 := (slotB_iff f n).1 h k hkn
            rw [hz] at h1
            rw [(inB_iff z 0 255).2 h1] at hb
            cases hb)
        have HB := Lib.hid hb
        clear hc hk hkn hz hb
        go_wp2_with (go_at_call 102; refine (within_any _ _ _ _).mono ?_; rintro e w' ⟨rfl, rfl⟩; rw [HB.out])
        go_ret
        exact ⟨by rw [HF.out]; rfl, rfl⟩
      · have HS2 := Lib.hid (p := slotB f (k + 1) = true) (by rw [slotB_succ, HS.out, hz]; exact hb)
        have HB := Lib.hid hb
        clear hc hk hkn hz hb
        go_wp2_with (go_at_call 102; refine (within_any _ _ _ _).mono ?_; rintro e w' ⟨rfl, rfl⟩; rw [HB.out])
        go_round
        case rel => exact ⟨k + 1, HK.out, by go_num, HS2⟩
        case measure => have := HK.out; have := HN.out; simp [intOf]; omega
    · obtain rfl : k = n := by omega
      have hki : ¬ (k : Int) < (k : Int) := by omega
      clear hk hkn
      go_wp2
      go_ret
      exact ⟨by rw [HS.out]; rfl, rfl⟩
/-- New bytes. -/
def NewBi (w : World) (n : Nat) (l : List UInt8) (e : Ending) (w' : World) : Prop := ∃ A c, e = .returned (.slice A n c) ∧ Hid (w'.ownsRow w.heap.size 5 1 (.slice A n c) n (bc l)) ∧ Hid (Below w.heap.size w w')
theorem number_at (A : Option Addr) (c n : Nat) (l : List UInt8) (hn : l.length = n) (k m : Nat) (x : Nat) (hk : k = 1 ∨ k = 2 ∨ k = 4 ∨ k = 8) (hm : n + k = m) (hx : x < 256 ^ k) (hl : n ≤ 256) (w : World) (hA : Hol w A l) :
    Calls Tryz.prog 74 #[.slice A n c, .int .i64 (k : Int), .int .u64 (x : Int)] w (NewBi w m (l ++ leb x k)) := by
  have hx64 : x < 18446744073709551616 := by
    rcases hk with rfl | rfl | rfl | rfl
    · have e : (256 : Nat) ^ 1 = 256 := rfl
      omega
    · have e : (256 : Nat) ^ 2 = 65536 := rfl
      omega
    · have e : (256 : Nat) ^ 4 = 4294967296 := rfl
      omega
    · exact hx
  subst hn
  have hp := put_any A c l (k : Int) x w hA hx64 (by omega)
  have hr : putR l (k : Int) x = (l ++ leb x k, 0) := by
    unfold putR
    rw [if_neg (by rcases hk with rfl | rfl | rfl | rfl <;> decide), if_neg (by rw [Int.toNat_natCast]; intro h; exact h (Nat.div_eq_of_lt hx)), Int.toNat_natCast]
  rw [hr] at hp
  have HP := Lib.hid hp
  have hlen : (l ++ leb x k).length = m := by rw [List.length_append, leb_len]; exact hm
  clear hp hr hx hx64 hk
  obtain ⟨n, hn⟩ : ∃ n, l.length = n := ⟨_, rfl⟩
  rw [hn] at HP ⊢
  obtain ⟨L, hL⟩ : ∃ L, l ++ leb x k = L := ⟨_, rfl⟩
  rw [hL] at HP hlen ⊢
  clear hn hm hl hA hL
  go_enter Tryz.func74, Tryz.ntmps74
  go_wp2_with (go_at_call 104; refine HP.out.mono ?_; rintro e w1 ⟨v, rfl, hown, hb⟩
               replace hown : w1.ownsRow w.heap.size 5 1 v L.length (bc L) := hown
               rw [hlen] at hown
               obtain ⟨A1, c1, rfl⟩ := own_sl hown
               have HO := Lib.hid hown
               have HB := Lib.hid hb
               clear hown hb)
  go_ret
  exact ⟨A1, c1, rfl, HO, HB⟩
theorem nb_snoc (s : Nat → Nat) (v : Nat → Int) (k : Nat) : nb s v (k + 1) = nb s v k ++ leb (v k).toNat (s k) := rfl
theorem putslots_any (B : Nat) (A : Option Addr) (n c : Nat) (l : List UInt8) (S : Option Addr) (m d : Nat) (f : Nat → Int) (p : Nat) (hp : n + 2 * m = p) (hn : l.length = n) (hl : p ≤ 256) (hf : ∀ j, j < m → 0 ≤ f j ∧ f j ≤ 255) (w : World) (hB : B ≤ w.heap.size)
    (hown : w.ownsRow B 5 1 (.slice A n c) n (bc l)) (hS : HolN w S m f) :
    Calls Tryz.prog 75 #[.slice A n c, .slice S m d] w fun e w' => ∃ A' c', e = .returned (.slice A' p c') ∧ Hid (w'.ownsRow B 5 1 (.slice A' p c') p (bc (l ++ nb s2 f m))) ∧ Hid (Below w.heap.size w w') := by
  have HS := Lib.hid hS
  have HO := Lib.hid hown
  have HB := Lib.hid hB
  have HN := Lib.hid hn
  have HP := Lib.hid hp
  have HL := Lib.hid hl
  have HF := Lib.hid hf
  clear hS hown hB hn hp hl hf
  go_enter Tryz.func75, Tryz.ntmps75
  go_wp2
  go_loopw [0, 8] (fun x y wr => ∃ k A' q c', Hid (k ≤ m) ∧ y = .int .i64 (k : Int) ∧ x = .slice A' q c' ∧ Hid (n + 2 * k = q) ∧ Hid (wr.ownsRow B 5 1 (.slice A' q c') q (bc (l ++ nb s2 f k))) ∧ Hid (Below w.heap.size w wr)) (fun _ y _ => 256 - (intOf y).toNat)
  case atStart => exact ⟨0, A, n, c, Lib.hid (by omega), rfl, rfl, Lib.hid (by omega), by rw [nb, List.append_nil]; exact HO, Lib.hid (Below.refl _ _)⟩
  case round =>
    clear HO
    obtain ⟨k, A', q, c', HK, rfl, rfl, HQ, HO, HBW⟩ := hrel
    have hkw : IntKind.i64.wrap ((k : Int) + 1) = (k : Int) + 1 := by rw [IntKind.wrap_i64]; have := HK.out; have := HP.out; have := HL.out; omega
    by_cases hkm : k < m
    · have hki : (k : Int) < (m : Int) := by omega
      have hk0 : (0 : Int) ≤ (k : Int) := by omega
      obtain ⟨gs, os, rfl, hc⟩ := HS.out.below HBW.out
      have ck := hc k hkm
      obtain ⟨x, hx⟩ : ∃ x : Nat, f k = (x : Int) := ⟨(f k).toNat, by have := HF.out k hkm; omega⟩
      rw [hx] at ck
      have hx255 : x < 65536 := by have := HF.out k hkm; omega
      have hxw : IntKind.u64.wrap (x : Int) = (x : Int) := by rw [wrap_64]; omega
      have hxw' : (x : Int) % 18446744073709551616 = (x : Int) := by omega
      obtain ⟨q2, hq2⟩ : ∃ q2, q + 2 = q2 := ⟨_, rfl⟩
      have HN2 := Lib.hid (number_at A' c' q (l ++ nb s2 f k) (by rw [List.length_append, nb_len, off_s2, HN.out]; exact HQ.out) 2 q2 x (by omega) hq2 (by have e : (256 : Nat) ^ 2 = 65536 := rfl; omega) (by have := HP.out; have := HL.out; have := HQ.out; omega) wr (Hol.own HO.out))
      have HQ2 := Lib.hid (p := n + 2 * (k + 1) = q2) (by have := HQ.out; omega)
      have HE := Lib.hid (p := l ++ nb s2 f k ++ leb x 2 = l ++ nb s2 f (k + 1)) (by rw [nb_snoc, hx, Int.toNat_natCast, List.append_assoc]; rfl)
      have HKM := Lib.hid hkm
      clear hkm hc hx hx255 hq2
      go_wp2_with (go_at_call 74; refine HN2.out.mono ?_; rintro e w2 ⟨A2, c2, rfl, HO2, HB2⟩
                   have HO3 := Lib.hid (p := w2.ownsRow B 5 1 (.slice A2 q2 c2) q2 (bc (l ++ nb s2 f (k + 1)))) (by rw [← HE.out]; exact own_low HO2.out (Nat.le_trans HB.out HBW.out.size))
                   have HBW2 := Lib.hid (below_nxt HB2.out HBW.out)
                   clear HO2 HB2)
      go_roundw
      case rel => exact ⟨k + 1, A2, q2, c2, Lib.hid HKM.out, by go_num, rfl, HQ2, HO3, HBW2⟩
      case measure => have := HKM.out; have := HP.out; have := HL.out; simp [intOf]; omega
    · obtain rfl : k = m := by have := HK.out; omega
      obtain rfl : q = p := by have := HQ.out; have := HP.out; omega
      have hki : ¬ (k : Int) < (k : Int) := by omega
      clear hkm
      go_wp2
      go_ret
      exact ⟨A', c', rfl, HO, HBW⟩
theorem int_tab : Tryz.prog.underlying 3 = some (.int .i64) := Tryz.underlying3
theorem whole_any (B : Nat) (A : Option Addr) (n c : Nat) (l : List UInt8) (hn0 : 0 < n) (hn : n < 256) (w : World) (hB : B ≤ w.heap.size) (hown : w.ownsRow B 5 1 (.slice A n c) n (bc l)) :
    Calls Tryz.prog 76 #[.slice A n c] w fun e w' => ∃ A' c', e = .returned (.slice A' 256 c') ∧ Hid (w'.ownsRow B 5 1 (.slice A' 256 c') 256 (bc (l ++ List.replicate (256 - n) 0))) ∧ Hid (Below B w w') := by
  obtain ⟨i, U⟩ := u8_tab
  obtain ⟨m, hm⟩ : ∃ m, 256 - n = m := ⟨_, rfl⟩
  obtain ⟨g, rfl⟩ : ∃ g, A = some ⟨g, 0, none⟩ := by
    rcases hown.2 with ⟨h, _⟩ | ⟨g, cap, cur, h, _⟩
    · injection h with _ h _
      omega
    · injection h with h _ _
      exact ⟨g, h⟩
  have hmw : IntKind.i64.wrap (256 - (n : Int)) = (m : Int) := by rw [IntKind.wrap_i64]; omega
  have HO := Lib.hid hown
  have HB := Lib.hid hB
  have HM := Lib.hid (p := 0 < m ∧ n + m = 256) (by omega)
  rw [hm]
  clear hown hB hn0 hn hm
  go_enter Tryz.func76, Tryz.ntmps76
  go_wp2_with (at_builtin
               refine wpList_zeros rfl _ _ _ _ rfl 5 i U int_tab B g n m c (bc l) rfl rfl HO.out HM.out.1 (by have := HM.out; omega) HB.out ?_
               intro g' c' w' ho' hg'
               rw [HM.out.2] at ho'
               rw [HM.out.2]
               have HO2 := Lib.hid (p := w'.ownsRow B 5 1 (.slice (some ⟨g', 0, none⟩) 256 c') 256 (bc (l ++ List.replicate m 0))) (by rw [bc_app, show bc (List.replicate m 0) = List.replicate m (Value.int .u8 0) by simp [bc]]; exact ho')
               have HB2 := Lib.hid (p := Below B w w') ((Below.refl B w).grown hg' HB.out (fun q hq => (HO.out.lt q hq).1))
               clear ho' hg')
  go_ret
  exact ⟨some ⟨g', 0, none⟩, c', rfl, HO2, HB2⟩
end Go.Proofs.YtfbfeplegdpemaaGreat
/- Package inode: whether an inode may be; an inode's block, and a list's. Conditions: those named. -/
set_option linter.unusedVariables false
set_option maxRecDepth 20000
namespace Go.Proofs.YtfbfeplegdpemaaGreat
open Go.RowKit

theorem eight (b0 b1 b2 b3 b4 b5 b6 b7 : Bool) : (b0 = false) ∨ (b0 = true ∧ b1 = false) ∨ (b0 = true ∧ b1 = true ∧ b2 = false) ∨ (b0 = true ∧ b1 = true ∧ b2 = true ∧ b3 = false) ∨ (b0 = true ∧ b1 = true ∧ b2 = true ∧ b3 = true ∧ b4 = true) ∨ (b0 = true ∧ b1 = true ∧ b2 = true ∧ b3 = true ∧ b4 = false ∧ b5 = false) ∨ (b0 = true ∧ b1 = true ∧ b2 = true ∧ b3 = true ∧ b4 = false ∧ b5 = true ∧ b6 = false) ∨ (b0 = true ∧ b1 = true ∧ b2 = true ∧ b3 = true ∧ b4 = false ∧ b5 = true ∧ b6 = true ∧ b7 = false) ∨ (b0 = true ∧ b1 = true ∧ b2 = true ∧ b3 = true ∧ b4 = false ∧ b5 = true ∧ b6 = true ∧ b7 = true) := by
  cases b0
  case false => exact .inl rfl
  cases b1
  case false => exact .inr (.inl ⟨rfl, rfl⟩)
  cases b2
  case false => exact .inr (.inr (.inl ⟨rfl, rfl, rfl⟩))
  cases b3
  case false => exact .inr (.inr (.inr (.inl ⟨rfl, rfl, rfl, rfl⟩)))
  cases b4
  case true => exact .inr (.inr (.inr (.inr (.inl ⟨rfl, rfl, rfl, rfl, rfl⟩))))
  cases b5
  case false => exact .inr (.inr (.inr (.inr (.inr (.inl ⟨rfl, rfl, rfl, rfl, rfl, rfl⟩)))))
  cases b6
  case false => exact .inr (.inr (.inr (.inr (.inr (.inr (.inl ⟨rfl, rfl, rfl, rfl, rfl, rfl, rfl⟩))))))
  cases b7
  case false => exact .inr (.inr (.inr (.inr (.inr (.inr (.inr (.inl ⟨rfl, rfl, rfl, rfl, rfl, rfl, rfl, rfl⟩)))))))
  exact .inr (.inr (.inr (.inr (.inr (.inr (.inr (.inr (⟨rfl, rfl, rfl, rfl, rfl, rfl, rfl, rfl⟩))))))))
set_option maxHeartbeats 2000000 in
theorem imaybe_any (v : Nat → Int) (w : World) : Calls Tryz.prog 73 #[.agg (ncs v).toArray] w fun e w' => e = .returned (.bool (mayB v)) ∧ Below w.heap.size w w' := by
  unfold mayB
  have HSL := Lib.hid (fun (w : World) (g : Nat) (h : Row w g 44 (ncs v)) => areslots_any _ 16 16 _ (by omega) w (hol_ino h))
  have HS1 := Lib.hid (fun (w : World) (g : Nat) (h : w.cell? ⟨g, 0, none⟩ = some (.int .i64 (v 26))) => areslots_any _ 1 1 _ (by omega) w (hol_single h))
  have h26 : slotB (fun _ => v 26) 1 = inB (v 26) 0 255 := by
    rw [slotB_succ]
    exact Bool.true_and _
  rw [h26] at HS1
  have HV := Lib.hid (p := ∀ (w : World) (g : Nat), Row w g 44 (ncs v) → w.cell? ⟨g, 26, none⟩ = some (.int .i64 (v 26))) (fun w g h => by rw [h.cell]; rfl)
  clear h26
  generalize hb7 : inB (v 26) 0 255 = b7 at *
  generalize hb6 : slotB (fun j => v (10 + j)) 16 = b6 at *
  generalize hb5 : inB (v 8) 0 64 = b5
  generalize hb4 : (v 6 == 0) = b4
  have h6 : (v 6 != 0) = !b4 := by rw [← hb4]; rfl
  clear hb4
  generalize hb3 : inB (v 5) 0 32768 = b3
  generalize hb2 : inB (v 4) 0 32768 = b2
  generalize hb1 : inB (v 1) 0 511 = b1
  generalize hb0 : inB (v 0) 1 3 = b0
  have W0 := Lib.hid hb0
  have W1 := Lib.hid hb1
  have W2 := Lib.hid hb2
  have W3 := Lib.hid hb3
  have W5 := Lib.hid hb5
  clear hb0 hb1 hb2 hb3 hb5 hb6 hb7
  rcases eight b0 b1 b2 b3 b4 b5 b6 b7 with ⟨rfl⟩ | ⟨rfl, rfl⟩ | ⟨rfl, rfl, rfl⟩ | ⟨rfl, rfl, rfl, rfl⟩ | ⟨rfl, rfl, rfl, rfl, rfl⟩ | ⟨rfl, rfl, rfl, rfl, rfl, rfl⟩ | ⟨rfl, rfl, rfl, rfl, rfl, rfl, rfl⟩ | ⟨rfl, rfl, rfl, rfl, rfl, rfl, rfl, rfl⟩ | ⟨rfl, rfl, rfl, rfl, rfl, rfl, rfl, rfl⟩
  all_goals
    try simp only [Bool.not_false, Bool.not_true] at h6
    go_enter Tryz.func73, Tryz.ntmps73
    go_wp2_with (first
      | (refine step_box rfl 1 rfl 44 (.tmp 0) rfl (ncs v) rfl ?_; intro g2 w2 hr2 hg2 hb2 hs2
         have R2 := Lib.hid hr2
         have HB2 := Lib.hid hb2
         have c0 : w2.cell? ⟨g2, 0, none⟩ = some (.int .i64 (v 0)) := by rw [R2.out.cell]; rfl
         have c1 : w2.cell? ⟨g2, 1, none⟩ = some (.int .i64 (v 1)) := by rw [R2.out.cell]; rfl
         have c4 : w2.cell? ⟨g2, 4, none⟩ = some (.int .i64 (v 4)) := by rw [R2.out.cell]; rfl
         have c5 : w2.cell? ⟨g2, 5, none⟩ = some (.int .i64 (v 5)) := by rw [R2.out.cell]; rfl
         have c6 : w2.cell? ⟨g2, 6, none⟩ = some (.int .u64 (v 6)) := by rw [R2.out.cell]; rfl
         have c8 : w2.cell? ⟨g2, 8, none⟩ = some (.int .i64 (v 8)) := by rw [R2.out.cell]; rfl
         have c26 := HV.out w2 g2 R2.out
         generalize v 0 = z0 at *
         generalize v 1 = z1 at *
         generalize v 4 = z4 at *
         generalize v 5 = z5 at *
         generalize v 6 = z6 at *
         generalize v 8 = z8 at *
         clear hr2 hb2 hg2 hs2)
      | (go_at_call 102; refine (within_any _ _ _ _).mono ?_; rintro e w' ⟨rfl, rfl⟩; first | rw [W0.out] | rw [W1.out] | rw [W2.out] | rw [W3.out] | rw [W5.out])
      | (go_at_call_of 103 (Value.slice (some ⟨g2, 10, none⟩) 16 16); refine (HSL.out _ _ R2.out).mono ?_; rintro e w' ⟨rfl, rfl⟩)
      | (go_at_call 103; refine (HS1.out _ _ (by simp)).mono ?_; rintro e w' ⟨rfl, rfl⟩))
    go_ret
    first
      | exact ⟨rfl, HB2.out⟩
      | exact ⟨rfl, HB2.out.alloc HB2.out.size _⟩
end Go.Proofs.YtfbfeplegdpemaaGreat
