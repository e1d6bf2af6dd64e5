/- Package grant: a new super, an inode more, an inode less. No conditions but those named. -/
import Derived.Test.YtfbfeplegdpemaaGreatMgGu
import Derived.Deep.RegionHeld3
import Derived.Deep.MidRow
import Derived.Test.YtfbfeplegdpemaaGreatGn
import Derived.Test.YtfbfeplegdpemaaGreatMgGc
import Derived.Test.YtfbfeplegdpemaaGreatMgPlain
import Derived.Test.YtfbfeplegdpemaaGreatMgPut
import Derived.Test.YtfbfeplegdpemaaGreatMgMem
set_option linter.unusedVariables false
set_option maxRecDepth 20000
namespace Go.Proofs.YtfbfeplegdpemaaGreat
open Go.RowKit

/-- A new super. -/
def supN : Sup := ⟨1, fun j => j == 0, fun _ => 0, fun _ => false⟩
theorem built_supN : Tryz.prog.built 59 [(0, .int .u64 1)] = some (sup0.setS 1).cs.toArray := by kernel_rfl
theorem supN_cs : (sup0.setS 1).cs.set 1 (.bool true) = supN.cs := by kernel_rfl
theorem gnew_any (w : World) : Calls Tryz.prog 70 #[] w fun e w' => e = .returned (.agg supN.cs.toArray) ∧ Below w.heap.size w w' := by
  have i1 := Lib.hid (fun x : Sup => info_cs x)
  have hz0 := Lib.hid zero_sup
  obtain ⟨y, hy⟩ : ∃ y, sup0.setS 1 = y := ⟨_, rfl⟩
  have HBU := Lib.hid built_supN
  have HCS := Lib.hid supN_cs
  rw [hy] at HBU HCS
  clear hy
  go_enter Tryz.func70, Tryz.ntmps70
  go_wp2_with (first
    | (refine step_alloc rfl 0 rfl 59 rfl _ hz0.out ?_; intro g4 w4 hr4 hg4 hb4 hs4
       have R4 := Lib.hid hr4
       have HB4 := Lib.hid hb4
       have Q4 := Lib.hid (p := w.heap.size ≤ g4) (by rw [hg4.out]; exact Nat.le_refl _)
       clear hr4 hb4 hg4 hs4)
    | (refine step_build rfl 59 _ rfl [(0, .int .u64 1)] ?hv _ HBU.out ?_; case hv => simp [Act.eval])
    | (refine step_alloc rfl 1 rfl 59 rfl _ hz0.out ?_; intro g2 w2 hr2 hg2 hb2 hs2
       have R2 := Lib.hid hr2
       have R42 := Lib.hid (R4.out.kept hb2)
       have HB2 := Lib.hid (below_nxt hb2 HB4.out)
       have N42 := Lib.hid (p := g4 < g2) (by rw [hg2.out]; exact R4.out.lt)
       clear hr2 hb2 hg2 hs2)
    | (refine step_store rfl 59 (.tmp 1) (.tmp 2) rfl g2 (by rfl) _ sup0.cs y.cs (by rfl) R2.out (by rw [Sup.cs_len, Sup.cs_len]) (i1.out _) (Sup.cs_one _) ?_; intro w3 hr3 hg3 hs3
       have R3 := Lib.hid hr3
       have R43 := Lib.hid (R42.out.grown hg3 (by intro e; injection e with e; have := N42.out; omega))
       have HB3 := Lib.hid (below_own HB2.out hg3 (by have := N42.out; have := Q4.out; omega))
       have f1 := R3.out.free 1
       have c1 : w3.cell? ⟨g2, 1, none⟩ = some (.bool (y.u 0)) := (R3.out.cell 1).trans (y.c_u (j := 0) (by decide))
       clear hr3 hg3 hs3)
    | (refine step_load rfl 5 rfl 59 (.tmp 1) rfl g2 rfl supN.cs _ (Row.all (by have h := R3.out.put 1 (.bool true); rw [HCS.out] at h; exact h)) Tryz.underlying59 rfl (i1.out _) ?_)
    | (refine step_store rfl 59 (.tmp 0) (.tmp 5) rfl g4 (by rfl) _ sup0.cs supN.cs (by rfl) (R43.out.far (p := ⟨g2, 1, none⟩) (by have := N42.out; intro e; simp at e; omega) _) (by rw [Sup.cs_len, Sup.cs_len]) (i1.out _) (Sup.cs_one _) ?_; intro w9 hr9 hg9 hs9))
  refine bodyPost_ret (results_cell_row rfl _ _ g4 _ _ _ _ rfl hr9 Tryz.underlying59 rfl (by simpa using i1.out _)) rfl ?_
  exact ⟨rfl, below_own (HB3.out.setCell (show w.heap.size ≤ g2 by have := N42.out; have := Q4.out; omega) _) hg9 Q4.out⟩
/-! An inode more. -/
theorem add_ok (x : Sup) (z : Int) (k s : Nat) (hk : k < 64) (h0 : x.i (k + 1) = 0) (hb : ∀ j, j < k → x.i (j + 1) ≠ 0) (hs : s < 256) (hz : (s : Int) < z) (hu : x.u s = false) (hn : ∀ j : Nat, j < s → x.u j = true) (w : World) : Calls Tryz.prog 38 #[.agg x.cs.toArray, .int .i64 z] w fun e w' => e = .returned (.tuple #[.agg ((x.setU s true).setI (k + 1) s).cs.toArray, .int .i64 ((k + 1 : Nat) : Int), .int .i64 0]) ∧ Below w.heap.size w w' := by
  have i1 := Lib.hid (fun x : Sup => info_cs x)
  have hz0 := Lib.hid zero_sup
  have HSP := Lib.hid (fun w => spare_ok x k hk h0 hb w)
  have HTK := Lib.hid (fun w => take_ok x z s hs hz hu hn w)
  obtain ⟨kk, hkk⟩ : ∃ kk, k + 1 = kk := ⟨_, rfl⟩
  rw [hkk] at HSP ⊢
  obtain ⟨y, hy⟩ : ∃ y, x.setU s true = y := ⟨_, rfl⟩
  rw [hy] at HTK ⊢
  have hk65 : (kk : Int) < 65 := by omega
  have HKN := Lib.hid (p := kk < 65) (by omega)
  clear hk h0 hb hn hkk hs hz hu hy
  go_enter Tryz.func38, Tryz.ntmps38
  go_wp2_with (first
    | (refine step_box rfl 2 rfl 59 (.tmp 0) rfl x.cs rfl ?_; intro g2 w2 hr2 hg2 hb2 hs2
       have R2 := Lib.hid hr2
       have HB2 := Lib.hid hb2
       have Q2 := Lib.hid (p := w.heap.size ≤ g2) (by rw [hg2.out]; exact Nat.le_refl _)
       clear hr2 hb2 hg2 hs2)
    | (refine step_alloc rfl 4 rfl 59 rfl _ hz0.out ?_; intro g4 w4 hr4 hg4 hb4 hs4
       have R4 := Lib.hid hr4
       have R24 := Lib.hid (R2.out.kept hb4)
       have HB4 := Lib.hid (below_nxt hb4 HB2.out)
       have N24 := Lib.hid (p := g2 < g4) (by rw [hg4.out]; exact R2.out.lt)
       clear hr4 hb4 hg4 hs4)
    | (refine step_load rfl 13 rfl 59 (.tmp 2) rfl g2 rfl x.cs _ R24.out.all Tryz.underlying59 rfl (i1.out _) ?_)
    | (go_at_call 71; refine (HSP.out _).mono ?_; rintro e w5 ⟨rfl, hb5⟩
       have R25 := Lib.hid (R24.out.kept hb5)
       have R45 := Lib.hid (R4.out.kept hb5)
       have HB5 := Lib.hid (below_nxt hb5 HB4.out)
       clear hb5)
    | (refine step_load rfl 21 rfl 59 (.tmp 2) rfl g2 rfl x.cs _ R25.out.all Tryz.underlying59 rfl (i1.out _) ?_)
    | (go_at_call 72; refine (HTK.out _).mono ?_; rintro e w6 ⟨rfl, hb6⟩
       have R26 := Lib.hid (R25.out.kept hb6)
       have R46 := Lib.hid (R45.out.kept hb6)
       have HB6 := Lib.hid (below_nxt hb6 HB5.out)
       clear hb6)
    | (refine step_alloc rfl 9 rfl 59 rfl _ hz0.out ?_; intro g7 w7 hr7 hg7 hb7 hs7
       have R7 := Lib.hid hr7
       have R47 := Lib.hid (R46.out.kept hb7)
       have HB7 := Lib.hid (below_nxt hb7 HB6.out)
       have N47 := Lib.hid (p := g4 < g7) (by rw [hg7.out]; exact R46.out.lt)
       clear hr7 hb7 hg7 hs7)
    | (refine step_store rfl 59 (.tmp 9) (.tmp 24) rfl g7 (by rfl) _ sup0.cs y.cs (by rfl) R7.out (by rw [Sup.cs_len, Sup.cs_len]) (i1.out _) (Sup.cs_one _) ?_; intro w8 hr8 hg8 hs8
       have R8 := Lib.hid hr8
       have R48 := Lib.hid (R47.out.grown hg8 (by intro e; injection e with e; have := N47.out; omega))
       have HB8 := Lib.hid (below_own HB7.out hg8 (by have := N47.out; have := N24.out; have := Q2.out; omega))
       have f1 := R8.out.free (257 + kk)
       have c1 : w8.cell? ⟨g7, 257 + kk, none⟩ = some (.int .i64 (y.i kk)) := by rw [R8.out.cell, y.c_i HKN.out]
       clear hr8 hg8 hs8)
    | (refine step_load rfl 35 rfl 59 (.tmp 9) rfl g7 rfl (y.setI kk s).cs _ (Row.all (by have h := R8.out.put (257 + kk) (.int .i64 s); rw [y.set_i _ HKN.out] at h; exact h)) Tryz.underlying59 rfl (i1.out _) ?_)
    | (refine step_store rfl 59 (.tmp 4) (.tmp 35) rfl g4 (by rfl) _ sup0.cs (y.setI kk s).cs (by rfl) (R48.out.far (p := ⟨g7, 257 + kk, none⟩) (by have := N47.out; intro e; simp at e; omega) _) (by rw [Sup.cs_len, Sup.cs_len]) (i1.out _) (Sup.cs_one _) ?_; intro w9 hr9 hg9 hs9))
  refine bodyPost_ret (results_row_two rfl _ _ g4 _ _ _ _ rfl hr9 Tryz.underlying59 rfl (by simpa using i1.out _)) rfl ?_
  exact ⟨rfl, below_own (HB8.out.setCell (show w.heap.size ≤ g7 by have := N47.out; have := N24.out; have := Q2.out; omega) _) hg9 (by have := N24.out; have := Q2.out; omega)⟩
end Go.Proofs.YtfbfeplegdpemaaGreat
/- Package grant: an inode less. No conditions but those named. -/
set_option linter.unusedVariables false
set_option maxRecDepth 20000
namespace Go.Proofs.YtfbfeplegdpemaaGreat
open Go.RowKit

section
variable {P : Program} {o : Oper} {a : Act} {w : World} {K : Act → World → Prop} {Q : Exit → Act → World → Prop}
end
end Go.Proofs.YtfbfeplegdpemaaGreat
/- Steps that came in; what keeps a super one that may be. Conditions: those named. -/
set_option linter.unusedVariables false
set_option maxRecDepth 20000
namespace Go.Proofs.YtfbfeplegdpemaaGreat
open Go.RowKit

/-! What keeps it. -/
/-! What is packed is read as it was. -/
theorem lst_drop_take (f : Nat → UInt8) (n i m : Nat) (h : i + m ≤ n) : ((lst n f).drop i).take m = lst m (fun j => f (i + j)) := by
  rw [lst_cut _ i m (by rw [lst_len]; exact h)]
  refine lst_congr fun j hj => ?_
  simp [List.getD, lst_get f (show i + j < n by omega)]
end Go.Proofs.YtfbfeplegdpemaaGreat
/- An inode's cells: what a change of one of them makes of them; when two are the same; its bytes, field by field. No conditions. -/
set_option linter.unusedVariables false
set_option maxRecDepth 20000
namespace Go.Proofs.YtfbfeplegdpemaaGreat
open Go.RowKit

theorem wrap_64 (n : Int) : IntKind.u64.wrap n = n % 18446744073709551616 := by simp [IntKind.wrap, IntKind.bits, IntKind.signed]
theorem wrap_32 (n : Int) : IntKind.u32.wrap n = n % 4294967296 := by simp [IntKind.wrap, IntKind.bits, IntKind.signed]
theorem inl_congr {n : Nat} {f g : Nat → Int} (h : ∀ j, j < n → f j = g j) : inl n f = inl n g := List.map_congr_left fun j hj => by rw [h j (List.mem_range.1 hj)]
theorem inl_one (n : Nat) (f : Nat → Int) : ∀ v ∈ inl n f, v.oneCell' = true := by
  intro v hv
  obtain ⟨_, _, rfl⟩ := List.mem_map.1 hv
  rfl
theorem inl_set {n j : Nat} (f : Nat → Int) (v : Int) (h : j < n) : (inl n f).set j (.int .i64 v) = inl n (at1 f j v) := by
  apply List.ext_getElem?
  intro k
  rw [List.getElem?_set, inl_len]
  by_cases hk : j = k
  · subst hk
    rw [if_pos rfl, if_pos h, inl_get _ h, at1_same]
  · rw [if_neg hk]
    by_cases hn : k < n
    · rw [inl_get _ hn, inl_get _ hn, at1_other _ _ (by omega)]
    · rw [List.getElem?_eq_none (by rw [inl_len]; omega), List.getElem?_eq_none (by rw [inl_len]; omega)]
/-- The kinds of an inode's cells. -/
def kd (k : Nat) : IntKind := if k = 2 ∨ k = 3 ∨ k = 7 ∨ k = 9 then .u32 else if k = 6 then .u64 else .i64
/-- An inode's cells. -/
def ncs (v : Nat → Int) : List Value := .int .i64 (v 0) :: .int .i64 (v 1) :: .int .u32 (v 2) :: .int .u32 (v 3) :: .int .i64 (v 4) :: .int .i64 (v 5) :: .int .u64 (v 6) :: .int .u32 (v 7) :: .int .i64 (v 8) :: .int .u32 (v 9) :: inl 17 fun j => v (10 + j)
theorem ncs_eq (v : Nat → Int) : ncs v = (List.range 27).map fun k => .int (kd k) (v k) := rfl
theorem ncs_len (v : Nat → Int) : (ncs v).length = 27 := rfl
theorem ncs_get (v : Nat → Int) {k : Nat} (h : k < 27) : (ncs v)[k]? = some (.int (kd k) (v k)) := by rw [ncs_eq]; simp [h]
theorem ncs_slot (v : Nat → Int) {j : Nat} (h : j < 17) : (ncs v)[10 + j]? = some (.int .i64 (v (10 + j))) := by
  rw [ncs_get v (by omega)]
  unfold kd
  rw [if_neg (by omega), if_neg (by omega)]
theorem ncs_congr {v u : Nat → Int} (h : ∀ k, k < 27 → v k = u k) : ncs v = ncs u := by
  rw [ncs_eq, ncs_eq]
  exact List.map_congr_left fun j hj => by rw [h j (List.mem_range.1 hj)]
theorem ncs_set (v : Nat → Int) {k : Nat} (h : k < 27) (z : Int) : (ncs v).set k (.int (kd k) z) = ncs (at1 v k z) := by
  apply List.ext_getElem?
  intro j
  rw [List.getElem?_set, ncs_len]
  by_cases hk : k = j
  · subst hk
    rw [if_pos rfl, if_pos h, ncs_get _ h, at1_same]
  · rw [if_neg hk]
    by_cases hn : j < 27
    · rw [ncs_get _ hn, ncs_get _ hn, at1_other _ _ (by omega)]
    · rw [List.getElem?_eq_none (by rw [ncs_len]; omega), List.getElem?_eq_none (by rw [ncs_len]; omega)]
theorem ncs_one (v : Nat → Int) : ∀ x ∈ ncs v, x.oneCell' = true := by
  intro x hx
  rw [ncs_eq] at hx
  obtain ⟨_, _, rfl⟩ := List.mem_map.1 hx
  rfl
def ino0 : Nat → Int := fun _ => 0
theorem info_ino : (Tryz.prog.info? 44).map (·.size) = some 27 := by kernel_rfl
theorem info_112 : (Tryz.prog.info? 134).map (·.size) = some 112 := by kernel_rfl
theorem info_ncs (v : Nat → Int) : (Tryz.prog.info? 44).map (·.size) = some (ncs v).length := info_ino
theorem info_inl (f : Nat → Int) : (Tryz.prog.info? 134).map (·.size) = some (inl 112 f).length := by rw [inl_len]; exact info_112
theorem zero_ino (w : World) : (zeroValue 44).run Tryz.prog w = .ok (.agg (ncs ino0).toArray) w := by kernel_rfl
theorem built_ino0 : Tryz.prog.built 44 [] = some (ncs ino0).toArray := by kernel_rfl
theorem zero_112 (w : World) : (zeroValue 134).run Tryz.prog w = .ok (.agg (inl 112 ino0).toArray) w := by kernel_rfl
theorem built_112 : Tryz.prog.built 134 [] = some (inl 112 ino0).toArray := by kernel_rfl
/-! Two of them, compared. -/
theorem l112_guard : Tryz.prog.eqGuardType Tryz.prog.depth 134 = false := by kernel_rfl
/-! Fields as bytes. -/
/-- The sizes of the fields. -/
def sz (k : Nat) : Nat := match k with | 0 => 1 | 2 => 4 | 3 => 4 | 5 => 4 | 6 => 8 | 7 => 4 | 9 => 4 | _ => 2
theorem sz_slot (j : Nat) : sz (10 + j) = 2 := by
  unfold sz
  split <;> first | omega | rfl
def off (s : Nat → Nat) : Nat → Nat
  | 0 => 0
  | k + 1 => off s k + s k
/-- Numbers of sizes, as bytes. -/
def nb (s : Nat → Nat) (v : Nat → Int) : Nat → List UInt8
  | 0 => []
  | k + 1 => nb s v k ++ leb (v k).toNat (s k)
theorem nb_len (s : Nat → Nat) (v : Nat → Int) : ∀ k, (nb s v k).length = off s k
  | 0 => rfl
  | k + 1 => by rw [nb, List.length_append, nb_len s v k, leb_len]; rfl
theorem nb_split (s : Nat → Nat) (v : Nat → Int) (k : Nat) : ∀ m, k < m → ∃ r, nb s v m = nb s v k ++ (leb (v k).toNat (s k) ++ r)
  | m + 1, h => by
    by_cases hk : k = m
    · subst hk
      exact ⟨[], by rw [List.append_nil]; rfl⟩
    · obtain ⟨r, hr⟩ := nb_split s v k m (by omega)
      exact ⟨r ++ leb (v m).toNat (s m), by rw [nb, hr]; simp⟩
theorem nb_congr (s : Nat → Nat) {v u : Nat → Int} : ∀ k, (∀ j, j < k → v j = u j) → nb s v k = nb s u k
  | 0, _ => rfl
  | k + 1, h => by rw [nb, nb, nb_congr s k (fun j hj => h j (by omega)), h k (by omega)]
/-- The number of a field. -/
def rdn (s : Nat → Nat) (l : List UInt8) (k : Nat) : Nat := num ((l.drop (off s k)).take (s k))
def rd (s : Nat → Nat) (l : List UInt8) (k : Nat) : Int := (rdn s l k : Int)
theorem rdn_lt (s : Nat → Nat) (l : List UInt8) (k : Nat) : rdn s l k < 256 ^ s k := by
  unfold rdn
  have h1 := num_lt ((l.drop (off s k)).take (s k))
  have h2 : ((l.drop (off s k)).take (s k)).length ≤ s k := by simp; omega
  exact Nat.lt_of_lt_of_le h1 (Nat.pow_le_pow_right (by omega) h2)
theorem rd_nb (s : Nat → Nat) (v : Nat → Int) (m k : Nat) (hk : k < m) (t : List UInt8) (h0 : 0 ≤ v k) (hl : (v k).toNat < 256 ^ s k) : rd s (nb s v m ++ t) k = v k := by
  obtain ⟨r, hr⟩ := nb_split s v k m hk
  unfold rd rdn
  rw [hr, List.append_assoc, List.drop_left' (nb_len s v k), List.append_assoc, List.take_left' (leb_len _ _), num_leb, Nat.mod_eq_of_lt hl]
  omega
/-- The block of numbers. -/
def blk (s : Nat → Nat) (v : Nat → Int) (n : Nat) : List UInt8 := nb s v n ++ List.replicate (256 - off s n) 0
theorem blk_len (s : Nat → Nat) (v : Nat → Int) (n : Nat) (h : off s n ≤ 256) : (blk s v n).length = 256 := by
  unfold blk
  rw [List.length_append, nb_len, List.length_replicate]
  omega
def s2 (k : Nat) : Nat := 2
theorem off_s2 : ∀ k, off s2 k = 2 * k
  | 0 => rfl
  | k + 1 => by rw [off, off_s2 k]; show 2 * k + 2 = _; omega
theorem off_slot : ∀ j, off sz (10 + j) = 35 + 2 * j
  | 0 => rfl
  | j + 1 => by
    show off sz (10 + j) + sz (10 + j) = _
    rw [off_slot j, sz_slot]
    omega
/-! What may be. -/
def slotB (f : Nat → Int) (n : Nat) : Bool := (List.range n).all fun j => decide (0 ≤ f j) && decide (f j ≤ 255)
theorem slotB_iff (f : Nat → Int) (n : Nat) : slotB f n = true ↔ ∀ j, j < n → 0 ≤ f j ∧ f j ≤ 255 := by
  unfold slotB
  simp only [List.all_eq_true, List.mem_range, Bool.and_eq_true, decide_eq_true_eq]
theorem slotB_succ (f : Nat → Int) (n : Nat) : slotB f (n + 1) = (slotB f n && (decide (0 ≤ f n) && decide (f n ≤ 255))) := by
  unfold slotB
  rw [List.range_succ, List.all_append]
  simp
def inB (v a b : Int) : Bool := decide (a ≤ v) && decide (v ≤ b)
theorem inB_iff (v a b : Int) : inB v a b = true ↔ a ≤ v ∧ v ≤ b := by unfold inB; simp
def mayB (v : Nat → Int) : Bool := inB (v 0) 1 3 && (inB (v 1) 0 511 && (inB (v 4) 0 32768 && (inB (v 5) 0 32768 && (!(v 6 == 0) && (inB (v 8) 0 64 && (slotB (fun j => v (10 + j)) 16 && inB (v 26) 0 255))))))
theorem mayB_iff (v : Nat → Int) : mayB v = true ↔ (1 ≤ v 0 ∧ v 0 ≤ 3) ∧ (0 ≤ v 1 ∧ v 1 ≤ 511) ∧ (0 ≤ v 4 ∧ v 4 ≤ 32768) ∧ (0 ≤ v 5 ∧ v 5 ≤ 32768) ∧ v 6 ≠ 0 ∧ (0 ≤ v 8 ∧ v 8 ≤ 64) ∧ (∀ j, j < 16 → 0 ≤ v (10 + j) ∧ v (10 + j) ≤ 255) ∧ (0 ≤ v 26 ∧ v 26 ≤ 255) := by
  unfold mayB
  simp only [Bool.and_eq_true, inB_iff, slotB_iff, Bool.not_eq_true', beq_eq_false_iff_ne, ne_eq]
/-- Cells that a machine may hold there. -/
structure Wf (v : Nat → Int) : Prop where
  u : ∀ k, kd k = .u32 → 0 ≤ v k ∧ v k < 4294967296
  s : 0 ≤ v 6 ∧ v 6 < 18446744073709551616
theorem May.fits {v : Nat → Int} (h : mayB v = true) (hw : Wf v) (k : Nat) (hk : k < 27) : 0 ≤ v k ∧ (v k).toNat < 256 ^ sz k := by
  obtain ⟨h0, h1, h4, h5, h6, h8, hs, h26⟩ := (mayB_iff v).1 h
  by_cases h10 : k < 10
  · rcases (by omega : k = 0 ∨ k = 1 ∨ k = 2 ∨ k = 3 ∨ k = 4 ∨ k = 5 ∨ k = 6 ∨ k = 7 ∨ k = 8 ∨ k = 9) with rfl | rfl | rfl | rfl | rfl | rfl | rfl | rfl | rfl | rfl
    · exact ⟨by omega, by show _ < 256; omega⟩
    · exact ⟨by omega, by show _ < 65536; omega⟩
    · have := hw.u 2 rfl; exact ⟨by omega, by show _ < 4294967296; omega⟩
    · have := hw.u 3 rfl; exact ⟨by omega, by show _ < 4294967296; omega⟩
    · exact ⟨by omega, by show _ < 65536; omega⟩
    · exact ⟨by omega, by show _ < 4294967296; omega⟩
    · have := hw.s; exact ⟨by omega, by show _ < 18446744073709551616; omega⟩
    · have := hw.u 7 rfl; exact ⟨by omega, by show _ < 4294967296; omega⟩
    · exact ⟨by omega, by show _ < 65536; omega⟩
    · have := hw.u 9 rfl; exact ⟨by omega, by show _ < 4294967296; omega⟩
  · obtain ⟨j, rfl⟩ : ∃ j, k = 10 + j := ⟨k - 10, by omega⟩
    rw [sz_slot]
    by_cases hj : j < 16
    · have := hs j hj; exact ⟨by omega, by show _ < 65536; omega⟩
    · obtain rfl : j = 16 := by omega
      exact (show 0 ≤ v 26 ∧ (v 26).toNat < 65536 by omega)
end Go.Proofs.YtfbfeplegdpemaaGreat
/- Package inode: what may be, a number behind bytes, slots behind bytes, a block made whole. Conditions: those named. -/
set_option linter.unusedVariables false
set_option maxRecDepth 20000
namespace Go.Proofs.YtfbfeplegdpemaaGreat
open Go.RowKit

/-- Numbers lie where the address says. -/
def HolN (w : World) (A : Option Addr) (n : Nat) (f : Nat → Int) : Prop := ∃ g o, A = some ⟨g, o, none⟩ ∧ ∀ j, j < n → w.cell? ⟨g, o + j, none⟩ = some (.int .i64 (f j))
theorem HolN.below {w w' : World} {A : Option Addr} {n : Nat} {f : Nat → Int} (h : HolN w A n f) (hb : Below w.heap.size w w') : HolN w' A n f := by
  obtain ⟨g, o, rfl, hc⟩ := h
  exact ⟨g, o, rfl, fun j hj => (hb.cell (p := ⟨g, o + j, none⟩) (World.block_lt_of_cell? w _ (hc j hj))).trans (hc j hj)⟩
theorem hol_ino {w : World} {g : Nat} {v : Nat → Int} (h : Row w g 44 (ncs v)) : HolN w (some ⟨g, 10, none⟩) 16 fun j => v (10 + j) := ⟨g, 10, rfl, fun j hj => by rw [h.cell, ncs_slot v (by omega)]⟩
theorem hol_112 {w : World} {g : Nat} {f : Nat → Int} (h : Row w g 134 (inl 112 f)) : HolN w (some ⟨g, 0, none⟩) 112 f := ⟨g, 0, rfl, fun j hj => by rw [h.cell, Nat.zero_add, inl_get f hj]⟩
theorem hol_single {w : World} {g : Nat} {z : Int} (h : w.cell? ⟨g, 0, none⟩ = some (.int .i64 z)) : HolN w (some ⟨g, 0, none⟩) 1 fun _ => z := ⟨g, 0, rfl, fun j hj => by
  obtain rfl : j = 0 := by omega
  exact h⟩
theorem own_low {w : World} {b b' : Nat} {e : TypeId} {size n : Nat} {v : Value} {xs : List Value} (h : w.ownsRow b e size v n xs) (hb : b' ≤ b) : w.ownsRow b' e size v n xs := by
  refine ⟨h.1, ?_⟩
  rcases h.2 with h0 | ⟨g, cap, cur, h1, h2, h3⟩
  · exact .inl h0
  · exact .inr ⟨g, cap, cur, h1, Nat.le_trans hb h2, h3⟩
theorem within_any (v a b : Int) (w : World) : Calls Tryz.prog 102 #[.int .i64 v, .int .i64 a, .int .i64 b] w fun e w' => e = .returned (.bool (inB v a b)) ∧ w = w' := by
  unfold inB
  by_cases h0 : a ≤ v
  · rw [decide_eq_true h0, Bool.true_and]
    go_enter Tryz.func102, Tryz.ntmps102
    go_wp2
    go_ret
    exact ⟨rfl, rfl⟩
  · rw [decide_eq_false h0, Bool.false_and]
    go_enter Tryz.func102, Tryz.ntmps102
    go_wp2
    go_ret
    exact ⟨rfl, rfl⟩
theorem areslots_any (A : Option Addr) (n c : Nat) (f : Nat → Int) (hn : n ≤ 112) (w : World) (hA : HolN w A n f) : Calls Tryz.prog 103 #[.slice A n c] w fun e w' => e = .returned (.bool (slotB f n)) ∧ w = w' := by
  have HA := Lib.hid hA
  have HN := Lib.hid hn
  clear hA hn
  go_enter Tryz.func103, Tryz.ntmps103
  go_wp2
  go_loop [7] (fun y => ∃ k : Nat, k ≤ n ∧ y = .int .i64 (k : Int) ∧ Hid (slotB f k = true)) (fun y => 112 - (intOf y).toNat)
  case atStart => exact ⟨0, by omega, rfl, Lib.hid rfl⟩
  case round =>
    obtain ⟨k, hk, rfl, HS⟩ := hrel
    have hkw : IntKind.i64.wrap ((k : Int) + 1) = (k : Int) + 1 := by rw [IntKind.wrap_i64]; have := HN.out; omega
    by_cases hkn : k < n
    · have hki : (k : Int) < (n : Int) := by omega
      obtain ⟨g, o, rfl, hc⟩ := HA.out
      have ck := hc k hkn
      obtain ⟨z, hz⟩ : ∃ z, f k = z := ⟨_, rfl⟩
      rw [hz] at ck
      have HK := Lib.hid hkn
      cases hb : inB z 0 255
      · have HF := Lib.hid (p := slotB f n = false) (by
          cases h : slotB f n
          · rfl
          · have h1 := (slotB_iff f n).1 h k hkn
            rw [hz] at h1
            rw [(inB_iff z 0 255).2 h1] at hb
            cases hb)
        have HB := Lib.hid hb
        clear hc hk hkn hz hb
        go_wp2_with (go_at_call 102; refine (within_any _ _ _ _).mono ?_; rintro e w' ⟨rfl, rfl⟩; rw [HB.out])
        go_ret
        exact ⟨by rw [HF.out]; rfl, rfl⟩
      · have HS2 := Lib.hid (p := slotB f (k + 1) = true) (by rw [slotB_succ, HS.out, hz]; exact hb)
        have HB := Lib.hid hb
        clear hc hk hkn hz hb
        go_wp2_with (go_at_call 102; refine (within_any _ _ _ _).mono ?_; rintro e w' ⟨rfl, rfl⟩; rw [HB.out])
        go_round
        case rel => exact ⟨k + 1, HK.out, by go_num, HS2⟩
        case measure => have := HK.out; have := HN.out; simp [intOf]; omega
    · obtain rfl : k = n := by omega
      have hki : ¬ (k : Int) < (k : Int) := by omega
      clear hk hkn
      go_wp2
      go_ret
      exact ⟨by rw [HS.out]; rfl, rfl⟩
/-- New bytes. -/
def NewBi (w : World) (n : Nat) (l : List UInt8) (e : Ending) (w' : World) : Prop := ∃ A c, e = .returned (.slice A n c) ∧ Hid (w'.ownsRow w.heap.size 5 1 (.slice A n c) n (bc l)) ∧ Hid (Below w.heap.size w w')
theorem number_at (A : Option Addr) (c n : Nat) (l : List UInt8) (hn : l.length = n) (k m : Nat) (x : Nat) (hk : k = 1 ∨ k = 2 ∨ k = 4 ∨ k = 8) (hm : n + k = m) (hx : x < 256 ^ k) (hl : n ≤ 256) (w : World) (hA : Hol w A l) :
    Calls Tryz.prog 74 #[.slice A n c, .int .i64 (k : Int), .int .u64 (x : Int)] w (NewBi w m (l ++ leb x k)) := by
  have hx64 : x < 18446744073709551616 := by
    rcases hk with rfl | rfl | rfl | rfl
    · have e : (256 : Nat) ^ 1 = 256 := rfl
      omega
    · have e : (256 : Nat) ^ 2 = 65536 := rfl
      omega
    · have e : (256 : Nat) ^ 4 = 4294967296 := rfl
      omega
    · exact hx
  subst hn
  have hp := put_any A c l (k : Int) x w hA hx64 (by omega)
  have hr : putR l (k : Int) x = (l ++ leb x k, 0) := by
    unfold putR
    rw [if_neg (by rcases hk with rfl | rfl | rfl | rfl <;> decide), if_neg (by rw [Int.toNat_natCast]; intro h; exact h (Nat.div_eq_of_lt hx)), Int.toNat_natCast]
  rw [hr] at hp
  have HP := Lib.hid hp
  have hlen : (l ++ leb x k).length = m := by rw [List.length_append, leb_len]; exact hm
  clear hp hr hx hx64 hk
  obtain ⟨n, hn⟩ : ∃ n, l.length = n := ⟨_, rfl⟩
  rw [hn] at HP ⊢
  obtain ⟨L, hL⟩ : ∃ L, l ++ leb x k = L := ⟨_, rfl⟩
  rw [hL] at HP hlen ⊢
  clear hn hm hl hA hL
  go_enter Tryz.func74, Tryz.ntmps74
  go_wp2_with (go_at_call 104; refine HP.out.mono ?_; rintro e w1 ⟨v, rfl, hown, hb⟩
               replace hown : w1.ownsRow w.heap.size 5 1 v L.length (bc L) := hown
               rw [hlen] at hown
               obtain ⟨A1, c1, rfl⟩ := own_sl hown
               have HO := Lib.hid hown
               have HB := Lib.hid hb
               clear hown hb)
  go_ret
  exact ⟨A1, c1, rfl, HO, HB⟩
theorem nb_snoc (s : Nat → Nat) (v : Nat → Int) (k : Nat) : nb s v (k + 1) = nb s v k ++ leb (v k).toNat (s k) := rfl
theorem putslots_any (B : Nat) (A : Option Addr) (n c : Nat) (l : List UInt8) (S : Option Addr) (m d : Nat) (f : Nat → Int) (p : Nat) (hp : n + 2 * m = p) (hn : l.length = n) (hl : p ≤ 256) (hf : ∀ j, j < m → 0 ≤ f j ∧ f j ≤ 255) (w : World) (hB : B ≤ w.heap.size)
    (hown : w.ownsRow B 5 1 (.slice A n c) n (bc l)) (hS : HolN w S m f) :
    Calls Tryz.prog 75 #[.slice A n c, .slice S m d] w fun e w' => ∃ A' c', e = .returned (.slice A' p c') ∧ Hid (w'.ownsRow B 5 1 (.slice A' p c') p (bc (l ++ nb s2 f m))) ∧ Hid (Below w.heap.size w w') := by
  have HS := Lib.hid hS
  have HO := Lib.hid hown
  have HB := Lib.hid hB
  have HN := Lib.hid hn
  have HP := Lib.hid hp
  have HL := Lib.hid hl
  have HF := Lib.hid hf
  clear hS hown hB hn hp hl hf
  go_enter Tryz.func75, Tryz.ntmps75
  go_wp2
  go_loopw [0, 8] (fun x y wr => ∃ k A' q c', Hid (k ≤ m) ∧ y = .int .i64 (k : Int) ∧ x = .slice A' q c' ∧ Hid (n + 2 * k = q) ∧ Hid (wr.ownsRow B 5 1 (.slice A' q c') q (bc (l ++ nb s2 f k))) ∧ Hid (Below w.heap.size w wr)) (fun _ y _ => 256 - (intOf y).toNat)
  case atStart => exact ⟨0, A, n, c, Lib.hid (by omega), rfl, rfl, Lib.hid (by omega), by rw [nb, List.append_nil]; exact HO, Lib.hid (Below.refl _ _)⟩
  case round =>
    clear HO
    obtain ⟨k, A', q, c', HK, rfl, rfl, HQ, HO, HBW⟩ := hrel
    have hkw : IntKind.i64.wrap ((k : Int) + 1) = (k : Int) + 1 := by rw [IntKind.wrap_i64]; have := HK.out; have := HP.out; have := HL.out; omega
    by_cases hkm : k < m
    · have hki : (k : Int) < (m : Int) := by omega
      have hk0 : (0 : Int) ≤ (k : Int) := by omega
      obtain ⟨gs, os, rfl, hc⟩ := HS.out.below HBW.out
      have ck := hc k hkm
      obtain ⟨x, hx⟩ : ∃ x : Nat, f k = (x : Int) := ⟨(f k).toNat, by have := HF.out k hkm; omega⟩
      rw [hx] at ck
      have hx255 : x < 65536 := by have := HF.out k hkm; omega
      have hxw : IntKind.u64.wrap (x : Int) = (x : Int) := by rw [wrap_64]; omega
      have hxw' : (x : Int) % 18446744073709551616 = (x : Int) := by omega
      obtain ⟨q2, hq2⟩ : ∃ q2, q + 2 = q2 := ⟨_, rfl⟩
      have HN2 := Lib.hid (number_at A' c' q (l ++ nb s2 f k) (by rw [List.length_append, nb_len, off_s2, HN.out]; exact HQ.out) 2 q2 x (by omega) hq2 (by have e : (256 : Nat) ^ 2 = 65536 := rfl; omega) (by have := HP.out; have := HL.out; have := HQ.out; omega) wr (Hol.own HO.out))
      have HQ2 := Lib.hid (p := n + 2 * (k + 1) = q2) (by have := HQ.out; omega)
      have HE := Lib.hid (p := l ++ nb s2 f k ++ leb x 2 = l ++ nb s2 f (k + 1)) (by rw [nb_snoc, hx, Int.toNat_natCast, List.append_assoc]; rfl)
      have HKM := Lib.hid hkm
      clear hkm hc hx hx255 hq2
      go_wp2_with (go_at_call 74; refine HN2.out.mono ?_; rintro e w2 ⟨A2, c2, rfl, HO2, HB2⟩
                   have HO3 := Lib.hid (p := w2.ownsRow B 5 1 (.slice A2 q2 c2) q2 (bc (l ++ nb s2 f (k + 1)))) (by rw [← HE.out]; exact own_low HO2.out (Nat.le_trans HB.out HBW.out.size))
                   have HBW2 := Lib.hid (below_nxt HB2.out HBW.out)
                   clear HO2 HB2)
      go_roundw
      case rel => exact ⟨k + 1, A2, q2, c2, Lib.hid HKM.out, by go_num, rfl, HQ2, HO3, HBW2⟩
      case measure => have := HKM.out; have := HP.out; have := HL.out; simp [intOf]; omega
    · obtain rfl : k = m := by have := HK.out; omega
      obtain rfl : q = p := by have := HQ.out; have := HP.out; omega
      have hki : ¬ (k : Int) < (k : Int) := by omega
      clear hkm
      go_wp2
      go_ret
      exact ⟨A', c', rfl, HO, HBW⟩
theorem int_tab : Tryz.prog.underlying 3 = some (.int .i64) := Tryz.underlying3
theorem whole_any (B : Nat) (A : Option Addr) (n c : Nat) (l : List UInt8) (hn0 : 0 < n) (hn : n < 256) (w : World) (hB : B ≤ w.heap.size) (hown : w.ownsRow B 5 1 (.slice A n c) n (bc l)) :
    Calls Tryz.prog 76 #[.slice A n c] w fun e w' => ∃ A' c', e = .returned (.slice A' 256 c') ∧ Hid (w'.ownsRow B 5 1 (.slice A' 256 c') 256 (bc (l ++ List.replicate (256 - n) 0))) ∧ Hid (Below B w w') := by
  obtain ⟨i, U⟩ := u8_tab
  obtain ⟨m, hm⟩ : ∃ m, 256 - n = m := ⟨_, rfl⟩
  obtain ⟨g, rfl⟩ : ∃ g, A = some ⟨g, 0, none⟩ := by
    rcases hown.2 with ⟨h, _⟩ | ⟨g, cap, cur, h, _⟩
    · injection h with _ h _
      omega
    · injection h with h _ _
      exact ⟨g, h⟩
  have hmw : IntKind.i64.wrap (256 - (n : Int)) = (m : Int) := by rw [IntKind.wrap_i64]; omega
  have HO := Lib.hid hown
  have HB := Lib.hid hB
  have HM := Lib.hid (p := 0 < m ∧ n + m = 256) (by omega)
  rw [hm]
  clear hown hB hn0 hn hm
  go_enter Tryz.func76, Tryz.ntmps76
  go_wp2_with (at_builtin
               refine wpList_zeros rfl _ _ _ _ rfl 5 i U int_tab B g n m c (bc l) rfl rfl HO.out HM.out.1 (by have := HM.out; omega) HB.out ?_
               intro g' c' w' ho' hg'
               rw [HM.out.2] at ho'
               rw [HM.out.2]
               have HO2 := Lib.hid (p := w'.ownsRow B 5 1 (.slice (some ⟨g', 0, none⟩) 256 c') 256 (bc (l ++ List.replicate m 0))) (by rw [bc_app, show bc (List.replicate m 0) = List.replicate m (Value.int .u8 0) by simp [bc]]; exact ho')
               have HB2 := Lib.hid (p := Below B w w') ((Below.refl B w).grown hg' HB.out (fun q hq => (HO.out.lt q hq).1))
               clear ho' hg')
  go_ret
  exact ⟨some ⟨g', 0, none⟩, c', rfl, HO2, HB2⟩
end Go.Proofs.YtfbfeplegdpemaaGreat
