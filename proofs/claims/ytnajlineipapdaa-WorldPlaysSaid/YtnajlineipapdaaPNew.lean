/- The program's new disk: what world.New leaves, for every number of blocks. No conditions. -/
import Derived.Test.YtnajlineipapdaaPWrite
import Derived.Laws.Bits64b
import Derived.Deep.RegionLaw
set_option linter.unusedVariables false
namespace Go.Proofs.Ytnajlineipapdaa
open Go.RowKit

theorem mask_small (a : Nat) (ha : a < 4294967296) : bits .and .u64 (a : Int) 4294967295 = (a : Int) := by
  have h := bits_and_u64_nat a 4294967295 (by omega) (by omega)
  have e : a &&& 4294967295 = a % 4294967296 := Nat.and_two_pow_sub_one_eq_mod a 32
  rw [e, Nat.mod_eq_of_lt ha] at h
  exact h
theorem mul64_one (n : Nat) (hn : n ≤ 1024) (w : World) :
    Calls Try.prog 60 #[.int .u64 1, .int .u64 (n : Int)] w fun e w' => e = .returned (.tuple #[.int .u64 0, .int .u64 (n : Int)]) ∧ w' = w := by
  have m1 : bits .and .u64 1 4294967295 = 1 := mask_small 1 (by omega)
  have m2 : bits .and .u64 (n : Int) 4294967295 = (n : Int) := mask_small n (by omega)
  have m0 : bits .and .u64 0 4294967295 = 0 := mask_small 0 (by omega)
  have d1 : (n : Int) / 4294967296 = 0 := by omega
  have w1 : IntKind.u64.wrap (n : Int) = (n : Int) := by rw [IntKind.wrap_u64]; omega
  have w0 : IntKind.u64.wrap 0 = 0 := by decide
  clear hn
  go_enter Try.func60, Try.ntmps60
  go_wp2
  go_ret2
  exact ⟨rfl, rfl⟩
theorem mul_one_ (n : Nat) (hn : n ≤ 1024) (w : World) :
    Calls Try.prog 51 #[.int .u64 1, .int .u64 (n : Int)] w fun e w' => e = .returned (.tuple #[.int .u64 0, .int .u64 (n : Int)]) ∧ w' = w := by
  have HN := Lib.hid hn
  clear hn
  go_enter Try.func51, Try.ntmps51
  go_wp2_with (go_at_call 60; refine (mul64_one n HN.out _).mono ?_; rintro e w1 ⟨rfl, rfl⟩)
  go_ret2
  exact ⟨rfl, rfl⟩
/-- Of m cells the first j hold v, the others nothing. -/
def fill (m j : Nat) (v : Value) : List Value := List.replicate j v ++ List.replicate (m - j) nos
theorem fill_len {m j : Nat} (h : j ≤ m) (v : Value) : (fill m j v).length = m := by simp [fill]; omega
theorem fill_all (m : Nat) (v : Value) : fill m m v = List.replicate m v := by simp [fill]
theorem fill_splice {m j k : Nat} (h : j + k ≤ m) (v : Value) : splice (fill m j v) j (List.replicate k v) = fill m (j + k) v := by
  unfold splice fill
  rw [List.take_append_of_le_length (by simp), List.take_of_length_le (by simp), List.length_replicate, List.drop_append, List.drop_of_length_le (by simp), List.nil_append, List.drop_replicate, List.length_replicate, ← List.append_assoc, List.replicate_append_replicate]
  congr 2
  omega
theorem fill_get {m j i : Nat} (h : i < j) (v : Value) : (fill m j v)[i]? = some v := by
  unfold fill
  rw [List.getElem?_append_left (by simpa using h), List.getElem?_replicate, if_pos h]
theorem made_nos (n : Nat) : madeCells nos.cells (n * 1) = (fill n 0 nos).toArray := by
  apply Array.ext'
  apply List.ext_getElem?
  intro j
  have hc : nos.cells = #[nos] := rfl
  by_cases h : j < n
  · simp [madeCells, hc, h, Nat.mod_one, fill]
  · rw [List.getElem?_eq_none (by simp [madeCells, hc]; omega), List.getElem?_eq_none (by simp [fill]; omega)]
theorem fill_zero (m : Nat) (u v : Value) : fill m 0 u = fill m 0 v := by simp [fill]
/-- A row of slices, all nil, made. -/
theorem step_make_nos {w : World} {ops : Array Oper} {rest : List Oper} {o : Oper} {a : Act} {Q : Exit → Act → World → Prop} (hg : o.guard = none) (l c : Operand) (hop : o.op = Op.makeSlice 45 l c)
    (n : Nat) (hl : a.eval l = .int .i64 n) (hc : a.eval c = .int .i64 n) (hn : n ≤ 1000000)
    (h : ∀ g w', Row w' g 32 (fill n 0 nos) → Hid (g = w.heap.size) → Below w.heap.size w w' → Hid (w'.heap.size = w.heap.size + 1) → wpList Try.prog ops Q rest (a.put o.dst (.slice (some ⟨g, 0, none⟩) n n)) w') :
    wpList Try.prog ops Q (o :: rest) a w := by
  refine wpList_plain hg fun K hK' => ?_
  obtain ⟨i, z, hi, hz, hs, hby, hzs⟩ := rec_sl.inf
  have hz' : z = nos := by
    have h1 : (Try.prog.info? 32).map (·.zero) = some (some nos) := by kernel_rfl
    rw [hi] at h1
    simp [hz] at h1
    exact h1
  subst hz'
  have hr := run_make (P := Try.prog) w 45 32 i nos rec_sl.ht hi hz .i64 .i64 n n (by omega) (Int.le_refl _) (by
    have : (i.bytes : Int) ≤ 64 := by omega
    have h2 : (i.bytes : Int) * n ≤ 64 * n := Int.mul_le_mul_of_nonneg_right this (by omega)
    omega) (by omega)
  simp only [Int.toNat_natCast, hs] at hr
  rw [made_nos] at hr
  unfold Oper.wp
  simp [execOp, hop, hl, hc, hr, Result.andThen]
  exact hK' _ _ (h _ _ (Row.made w _ _) (show _ = _ from rfl) ((Below.refl _ _).alloc (Nat.le_refl _) _) (show _ = _ by simp))
theorem info_sl1 : (Try.prog.info? 32).map (·.size) = some 1 := by kernel_rfl
section
variable {w : World} {ops : Array Oper} {rest : List Oper} {o : Oper} {a : Act} {Q : Exit → Act → World → Prop} {K : Act → World → Prop} {C : Prop}
theorem src_rep {w : World} {gs k n : Nat} {v : Value} (h : ∀ i, i < n → w.cell? ⟨gs, i, none⟩ = some v) (hk : k ≤ n) : ∀ j u, (List.replicate k v)[j]? = some u → w.cell? ((⟨gs, 0, none⟩ : Addr).add j) = some u := fun j u hu => by
  rw [List.getElem?_replicate] at hu
  split at hu
  · injection hu with hu
    subst hu
    rw [Addr.add_lit, Nat.zero_add]
    exact h j (by omega)
  · cases hu
/-- Cells that are all one, copied behind such. -/
theorem wp_copy_fill (hgd : o.guard = none) (d s : Operand) (ho : o.op = .call { callee := .builtin .copy, args := #[d, s], argTypes := #[45, 45] }) (g m j : Nat) (v : Value) (hv : v.oneCell' = true) (hr : Row w g 32 (fill m j v))
    (dl dc gs sl scap k : Nat) (hd : a.eval d = .slice (some ⟨g, j, none⟩) dl dc) (hs : a.eval s = .slice (some ⟨gs, 0, none⟩) sl scap) (hsrc : ∀ i, i < sl → w.cell? ⟨gs, i, none⟩ = some v) (hk : k = min sl dl) (hfit : j + k ≤ m) (B : Nat) (w0 : World) (hb : Below B w0 w) (hBg : B ≤ g)
    (h : ∀ w', Row w' g 32 (fill m (j + k) v) → Hid (Below B w0 w') → wpList Try.prog ops Q rest (a.put o.dst (goInt (k : Int))) w') :
    wpList Try.prog ops Q (o :: rest) a w := by
  refine wpList_copy_splice hgd d s _ _ ho 32 rec_sl.ht info_sl1 _ _ dl dc sl scap hd hs g j (fill m j v) 32 hr.heap (List.replicate k v) (by rw [List.length_replicate]; exact hk) (fun _ => ⟨rfl, _, rfl, src_rep hsrc (by omega)⟩) (by rw [List.length_replicate, fill_len (by omega)]; exact hfit) (fun u hu => by rw [List.eq_of_mem_replicate hu]; exact hv) B w0 hb hBg ?_
  intro w' h1 h2
  have h3 := h1.out
  rw [fill_splice hfit] at h3
  have h4 := h w' h3 h2
  rw [List.length_replicate]
  exact h4
theorem run_copy_fill (w : World) (ty : TypeId) (g m j : Nat) (v : Value) (hv : v.oneCell' = true) (hr : Row w g 32 (fill m j v)) (dl dc gs sl scap k : Nat) (hsrc : ∀ i, i < sl → w.cell? ⟨gs, i, none⟩ = some v) (hk : k = min sl dl) (hfit : j + k ≤ m) (B : Nat) (w0 : World) (hb : Below B w0 w) (hBg : B ≤ g) :
    ∃ w', (Builtin.copy_ #[45, 45] ty #[.slice (some ⟨g, j, none⟩) dl dc, .slice (some ⟨gs, 0, none⟩) sl scap]).run Try.prog w = .ok (.int .i64 (k : Int)) w' ∧ Row w' g 32 (fill m (j + k) v) ∧ Below B w0 w' := by
  have hrun := run_copy_row (P := Try.prog) w 45 45 ty 32 g j dl dc ⟨gs, 0, none⟩ sl scap (fill m j v).toArray 32 (List.replicate k v) rec_sl.ht info_sl1 hr.heap (by rw [List.length_replicate]; exact hk) (src_rep hsrc (by omega)) (by rw [List.length_replicate]; simp [fill_len (show j ≤ m by omega)]; exact hfit) (fun u hu => by rw [List.eq_of_mem_replicate hu]; exact hv)
  rw [List.length_replicate] at hrun
  refine ⟨_, hrun, ?_, below_setRow hb hBg _⟩
  have h1 := setRow_heap w g _ ((fill m j v).take j ++ (List.replicate k v ++ (fill m j v).drop (j + k))).toArray 32 _ hr.heap
  have h2 : (fill m j v).take j ++ (List.replicate k v ++ (fill m j v).drop (j + k)) = fill m (j + k) v := by
    rw [← fill_splice hfit]
    unfold splice
    rw [List.length_replicate]
  rw [h2] at h1
  have h3 : ((fill m j v).toArray.toList.take j ++ List.replicate k v ++ (fill m j v).toArray.toList.drop (j + k)).toArray = (fill m (j + k) v).toArray := by
    rw [← h2, List.append_assoc]
  rw [h3]
  exact h1
end
/-- A new row of slices that are all one. -/
def RepPost (w : World) (m : Nat) (v : Value) (e : Ending) (w' : World) : Prop := ∃ g, e = .returned (.slice (some ⟨g, 0, none⟩) m m) ∧ Row w' g 32 (List.replicate m v) ∧ w.heap.size ≤ g ∧ Below w.heap.size w w'
set_option maxRecDepth 20000 in
set_option maxHeartbeats 400000 in
theorem repeat_any (gs : Nat) (v : Value) (hv : v.oneCell' = true) (m : Nat) (hm1 : 1 ≤ m) (hm : m ≤ 1024) (w : World) (hs : w.cell? ⟨gs, 0, none⟩ = some v) :
    Calls Try.prog 37 #[.slice (some ⟨gs, 0, none⟩) 1 1, .int .i64 (m : Int)] w (RepPost w m v) := by
  have h0 : ¬ (m : Int) < 0 := by omega
  have w1 : IntKind.u64.wrap (m : Int) = (m : Int) := by rw [IntKind.wrap_u64]; omega
  have w2 : IntKind.i64.wrap (m : Int) = (m : Int) := by rw [IntKind.wrap_i64]; omega
  have h3 : ¬ (9223372036854775807 : Int) < (m : Int) := by omega
  have HM := Lib.hid hm
  have HM1 := Lib.hid hm1
  have HS := Lib.hid hs
  have HV := Lib.hid hv
  have HSS := Lib.hid (p := ∀ w3, Below w.heap.size w w3 → ∀ i, i < 1 → w3.cell? ⟨gs, i, none⟩ = some v) fun w3 hb3 i hi => by
    obtain rfl : i = 0 := by omega
    exact (hb3.cell (p := ⟨gs, 0, none⟩) (World.block_lt_of_cell? w _ hs)).trans hs
  have HMM := Lib.hid (p := min 1 m = 1) (by omega)
  clear hm hm1 hs hv
  go_enter Try.func37, Try.ntmps37
  go_wp2_with (first
    | (go_at_call 51; refine (mul_one_ m HM.out _).mono ?_; rintro e w1 ⟨rfl, hw1⟩; obtain rfl := hw1.symm)
    | (refine step_make_nos rfl _ _ rfl m rfl rfl (by have := HM.out; omega) ?_; intro g w3 hr3 hg3 hb3 hs3)
    | (refine wp_copy_fill rfl (.tmp 31) (.tmp 32) rfl g m 0 v HV.out (fill_zero m nos v ▸ hr3) m m gs 1 1 1 rfl rfl (HSS.out w3 hb3) (HMM.out.symm) HM1.out w.heap.size w hb3 (Nat.le_of_eq hg3.out.symm) ?_; intro w4 hf hb4))
  have HB4 := hb4
  have HG := Lib.hid (p := w.heap.size ≤ g) (by rw [hg3.out]; exact Nat.le_refl _)
  clear hb4 hb3 hr3 hg3 hs3
  go_loopw [8] (fun x wr => ∃ j : Nat, 1 ≤ j ∧ j ≤ m ∧ x = .int .i64 (j : Int) ∧ Row wr g 32 (fill m j v) ∧ Below w.heap.size w wr) (fun x _ => m - (intOf x).toNat)
  case atStart => exact ⟨1, by omega, HM1.out, rfl, hf, HB4.out⟩
  case round =>
    clear hf
    obtain ⟨j, hj1, hj, rfl, hR, hB⟩ := hrel
    by_cases hlt : j < m
    · have hlti : (j : Int) < (m : Int) := by omega
      have hj0 : (0 : Int) ≤ (j : Int) := by omega
      have hjm : (j : Int) ≤ (m : Int) := by omega
      have hne : ¬ m = j := by omega
      have hk := Nat.min_le_left j (m - j)
      obtain ⟨k, hk⟩ : ∃ k, k = min j (m - j) := ⟨_, rfl⟩
      have hkw : IntKind.i64.wrap ((j : Int) + (k : Int)) = ((j + k : Nat) : Int) := by rw [IntKind.wrap_i64]; have := HM.out; omega
      have HK := Lib.hid hk
      have HR := Lib.hid hR
      have HB := Lib.hid hB
      have HJ := Lib.hid hj1
      clear hk hR hB hj1
      go_wp2
      have HSRC := Lib.hid (p := ∀ i, i < j → wr.drew.cell? ⟨g, i, none⟩ = some v) fun i hi => by rw [HR.out.drew.cell]; exact fill_get hi v
      obtain ⟨w5, hrun, hf5, hb5⟩ := run_copy_fill wr.drew 3 g m j v HV.out HR.out.drew (m - j) (m - j) g j m k HSRC.out HK.out (by have := HK.out; omega) w.heap.size w HB.out.drew HG.out
      go_region
      go_wp2
      go_roundw
      case rel => exact ⟨j + k, by have := HJ.out; omega, by have := HK.out; omega, rfl, hf5, hb5⟩
      case measure => have := HK.out; have := HJ.out; simp [intOf]; omega
    · obtain rfl : j = m := by omega
      rw [fill_all] at hR
      have HR := Lib.hid hR
      have HB := Lib.hid hB
      clear hR hB
      go_wp2
      go_ret
      exact ⟨g, rfl, HR.out, HG.out, HB.out⟩
end Go.Proofs.Ytnajlineipapdaa
