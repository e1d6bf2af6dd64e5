/- The reference's answer: a super's block. No conditions but those named. -/
import Derived.Test.YtfbfeplegdpemaaGreatGy
set_option linter.unusedVariables false
set_option maxRecDepth 20000
namespace Go.Proofs.YtfbfeplegdpemaaGreat
open Go.RowKit

def rS (x : Sup) (k j : Nat) : UInt8 := if j < 4 + k then x.pb j else 0
def rU (x : Sup) (i j : Nat) : UInt8 := if j < 12 then x.pb j else if j - 12 < i / 8 then bt x.u (j - 12) else if j - 12 = i / 8 then UInt8.ofNat (bn x.u (i / 8) (i % 8)) else 0
def Sup.o' (x : Sup) (k : Nat) : Bool := x.o (k + 1)
def rI (x : Sup) (a b j : Nat) : UInt8 := if j < 44 then x.pb j else if j < 172 then (if (j - 44) / 2 < a then x.pb j else 0) else if j - 172 < b / 8 then bt x.o' (j - 172) else if j - 172 = b / 8 then UInt8.ofNat (bn x.o' (b / 8) (b % 8)) else 0
theorem upd_self {α : Type} (f : Nat → α) (p : Nat) : upd f p (f p) = f := by
  funext j
  unfold upd
  split
  · rename_i h; rw [h]
  · rfl
theorem rS_step (x : Sup) (k : Nat) : upd (rS x k) (4 + k) (x.pb (4 + k)) = rS x (k + 1) := by
  funext j
  unfold upd rS
  by_cases h : j = 4 + k
  · rw [if_pos h, if_pos (by omega), h]
  · rw [if_neg h]
    by_cases h2 : j < 4 + k
    · rw [if_pos h2, if_pos (by omega)]
    · rw [if_neg h2, if_neg (by omega)]
theorem rS_rU (x : Sup) : rS x 8 = rU x 0 := by
  funext j
  unfold rS rU
  by_cases h : j < 12
  · rw [if_pos (by omega), if_pos h]
  · rw [if_neg (by omega), if_neg h, if_neg (by omega)]
    split <;> rfl
theorem rU_at (x : Sup) (i : Nat) : rU x i (12 + i / 8) = UInt8.ofNat (bn x.u (i / 8) (i % 8)) := by
  unfold rU
  rw [if_neg (by omega), if_neg (by omega), if_pos (by omega)]
theorem rU_step (x : Sup) (i : Nat) : upd (rU x i) (12 + i / 8) (UInt8.ofNat (bn x.u (i / 8) (i % 8 + 1))) = rU x (i + 1) := by
  funext j
  unfold upd
  by_cases h : j = 12 + i / 8
  · rw [if_pos h]
    unfold rU
    rw [if_neg (by omega)]
    by_cases h7 : i % 8 = 7
    · rw [if_pos (by omega), h, show 12 + i / 8 - 12 = i / 8 by omega, h7]
      rfl
    · rw [if_neg (by omega), if_pos (by omega), show (i + 1) / 8 = i / 8 by omega, show (i + 1) % 8 = i % 8 + 1 by omega]
  · rw [if_neg h]
    unfold rU
    by_cases h1 : j < 12
    · rw [if_pos h1, if_pos h1]
    · rw [if_neg h1, if_neg h1]
      by_cases h2 : j - 12 < i / 8
      · rw [if_pos h2, if_pos (by omega)]
      · rw [if_neg h2, if_neg (by omega), if_neg (by omega)]
        split
        · rename_i h3
          rw [show (i + 1) % 8 = 0 by omega]
          rfl
        · rfl
theorem rU_rI (x : Sup) : rU x 256 = rI x 0 0 := by
  funext j
  unfold rU rI
  by_cases h1 : j < 12
  · rw [if_pos h1, if_pos (by omega)]
  · rw [if_neg h1]
    by_cases h2 : j < 44
    · rw [if_pos (by omega), if_pos h2]
      unfold Sup.pb
      rw [if_neg (by omega), if_neg h1, if_pos h2]
    · rw [if_neg (by omega), if_neg h2]
      have e : (if j - 12 = 256 / 8 then UInt8.ofNat (bn x.u (256 / 8) (256 % 8)) else 0) = 0 := by split <;> rfl
      rw [e]
      by_cases h3 : j < 172
      · rw [if_pos h3, if_neg (by omega)]
      · rw [if_neg h3, if_neg (by omega)]
        split <;> rfl
theorem rI_low (x : Sup) (a b m : Nat) (ha : a < 64) (hm : x.i (a + 1) = (m : Int)) (h256 : m < 256) : upd (rI x a b) (44 + 2 * a) (UInt8.ofNat m) = rI x (a + 1) b := by
  have hp0 : x.pb (44 + 2 * a) = UInt8.ofNat m := by
    unfold Sup.pb
    rw [if_neg (by omega), if_neg (by omega), if_neg (by omega), if_pos (by omega), show 1 + (44 + 2 * a - 44) / 2 = a + 1 by omega, show (44 + 2 * a - 44) % 2 = 0 by omega, hm, Int.toNat_natCast, Nat.pow_zero, Nat.div_one]
  have hp1 : x.pb (44 + 2 * a + 1) = 0 := by
    unfold Sup.pb
    rw [if_neg (by omega), if_neg (by omega), if_neg (by omega), if_pos (by omega), show 1 + (44 + 2 * a + 1 - 44) / 2 = a + 1 by omega, show (44 + 2 * a + 1 - 44) % 2 = 1 by omega, hm, Int.toNat_natCast, Nat.pow_one, Nat.div_eq_of_lt h256]
    rfl
  funext j
  unfold upd
  by_cases h : j = 44 + 2 * a
  · rw [if_pos h]
    unfold rI
    rw [if_neg (by omega), if_pos (by omega), if_pos (by omega), h, hp0]
  · rw [if_neg h]
    unfold rI
    by_cases h1 : j < 44
    · rw [if_pos h1, if_pos h1]
    · rw [if_neg h1, if_neg h1]
      by_cases h2 : j < 172
      · rw [if_pos h2, if_pos h2]
        by_cases h3 : (j - 44) / 2 < a
        · rw [if_pos h3, if_pos (by omega)]
        · rw [if_neg h3]
          by_cases h4 : j = 44 + 2 * a + 1
          · rw [if_pos (by omega), h4, hp1]
          · rw [if_neg (by omega)]
      · rw [if_neg h2, if_neg h2]
theorem rI_at (x : Sup) (a b : Nat) (hb : b < 64) : rI x a b (172 + b / 8) = UInt8.ofNat (bn x.o' (b / 8) (b % 8)) := by
  unfold rI
  rw [if_neg (by omega), if_neg (by omega), if_neg (by omega), if_pos (by omega)]
theorem rI_step (x : Sup) (a b : Nat) : upd (rI x a b) (172 + b / 8) (UInt8.ofNat (bn x.o' (b / 8) (b % 8 + 1))) = rI x a (b + 1) := by
  funext j
  unfold upd
  by_cases h : j = 172 + b / 8
  · rw [if_pos h]
    unfold rI
    rw [if_neg (by omega), if_neg (by omega)]
    by_cases h7 : b % 8 = 7
    · rw [if_pos (by omega), h, show 172 + b / 8 - 172 = b / 8 by omega, h7]
      rfl
    · rw [if_neg (by omega), if_pos (by omega), show (b + 1) / 8 = b / 8 by omega, show (b + 1) % 8 = b % 8 + 1 by omega]
  · rw [if_neg h]
    unfold rI
    by_cases h1 : j < 44
    · rw [if_pos h1, if_pos h1]
    · rw [if_neg h1, if_neg h1]
      by_cases h2 : j < 172
      · rw [if_pos h2, if_pos h2]
      · rw [if_neg h2, if_neg h2]
        by_cases h3 : j - 172 < b / 8
        · rw [if_pos h3, if_pos (by omega)]
        · rw [if_neg h3, if_neg (by omega), if_neg (by omega)]
          split
          · rename_i h4
            rw [show (b + 1) % 8 = 0 by omega]
            rfl
          · rfl
theorem rI_all (x : Sup) (j : Nat) (hj : j < 256) : rI x 64 64 j = x.pb j := by
  unfold rI
  by_cases h1 : j < 44
  · rw [if_pos h1]
  · rw [if_neg h1]
    by_cases h2 : j < 172
    · rw [if_pos h2, if_pos (by omega)]
    · rw [if_neg h2]
      have n4 : ¬ j < 4 := by omega
      have n12 : ¬ j < 12 := by omega
      unfold Sup.pb
      rw [if_neg n4, if_neg n12, if_neg h1, if_neg h2]
      by_cases h3 : j < 180
      · have h4 : j - 172 < 64 / 8 := by omega
        rw [if_pos h4, if_pos h3]
        rfl
      · have h4 : ¬ j - 172 < 64 / 8 := by omega
        rw [if_neg h4, if_neg h3]
        split <;> rfl
theorem rpack_not (x : Sup) (h : ¬ x.May) (w : World) : Calls Tryz.prog 67 #[.agg x.cs.toArray] w fun e w' => e = .returned (.tuple #[.slice none 0 0, .int .i64 201]) ∧ Below w.heap.size w w' := by
  have i1 := Lib.hid (fun x : Sup => info_cs x)
  have HMB := Lib.hid (fun w => rmay_any x false ⟨fun e => (by cases e), fun e => absurd e h⟩ w)
  clear h
  go_enter Tryz.func67, Tryz.ntmps67
  go_wp2_with (first
    | (refine step_box rfl 1 rfl 59 (.tmp 0) rfl x.cs rfl ?_; intro g2 w2 hr2 hg2 hb2 hs2
       have R2 := Lib.hid hr2
       have HB2 := Lib.hid hb2
       have Q2 := Lib.hid (p := w.heap.size ≤ g2) (by rw [hg2.out]; exact Nat.le_refl _)
       clear hr2 hb2 hg2 hs2)
    | (refine step_load rfl 10 rfl 59 (.tmp 1) rfl g2 rfl x.cs _ R2.out.all Tryz.underlying59 rfl (i1.out _) ?_)
    | (go_at_call 96; refine (HMB.out _).mono ?_; rintro e w3 ⟨rfl, hb3⟩
       have HB3 := Lib.hid (below_nxt hb3 HB2.out)
       clear hb3))
  go_ret2
  exact ⟨rfl, HB3.out⟩
theorem rS_zero (x : Sup) : brr 256 (rS x 0) = ((((brr 256 fun _ => 0).set 0 (B 79)).set 1 (B 85)).set 2 (B 66)).set 3 (B 49) := by
  rw [brr_set, brr_set, brr_set, brr_set]
  refine brr_congr fun j hj => ?_
  unfold rS upd Sup.pb
  by_cases h : j < 4
  · rw [if_pos (by omega), if_pos h]
    rcases (by omega : j = 0 ∨ j = 1 ∨ j = 2 ∨ j = 3) with rfl | rfl | rfl | rfl <;> rfl
  · rw [if_neg (by omega), if_neg (by omega), if_neg (by omega), if_neg (by omega), if_neg (by omega)]
/-- A cell of a row, stored. -/
theorem info_1 : (Tryz.prog.info? 5).map (·.size) = some 1 := by kernel_rfl
theorem oka_b {x : Sup} {j : Nat} (h : x.OkA j) : 0 ≤ x.i j ∧ x.i j < 256 := by
  unfold Sup.OkA at h
  split at h
  · rename_i h0
    rw [h0]
    omega
  · exact ⟨h.1, h.2.1⟩
theorem w64_s (k : Nat) (h : k < 65536) : wrap64 (k : Int) = (k : Int) := by unfold wrap64; omega
theorem wi_s (k : Nat) (h : k < 65536) : IntKind.i64.wrap (k : Int) = (k : Int) := by rw [IntKind.wrap_i64]; omega
theorem dv_facts (i k b : Nat) (hi : i < 256) (hk : i / 8 = k) (hb : i % 8 = b) : b < 8 ∧ (i : Int) / 8 = (k : Int) ∧ Int.tdiv (i : Int) 8 = (k : Int) ∧ wrap64 (k : Int) = (k : Int) ∧ (i : Int) % 8 = (b : Int) ∧ Int.tmod (i : Int) 8 = (b : Int) ∧ wrap64 (b : Int) = (b : Int) ∧ IntKind.i64.wrap (b : Int) = (b : Int) ∧ IntKind.i64.wrap (k : Int) = (k : Int) ∧ (0 : Int) ≤ (b : Int) ∧ k < 32 ∧ 8 * k + b = i := by
  have hk32 : k < 32 := by omega
  have hb8 : b < 8 := by omega
  have h1 : (i : Int) / 8 = (k : Int) := by omega
  have m1 : (i : Int) % 8 = (b : Int) := by omega
  have h8 : 8 * k + b = i := by omega
  exact ⟨hb8, h1, by rw [Int.tdiv_eq_ediv_of_nonneg (Int.natCast_nonneg i)]; exact h1, w64_s k (Nat.lt_trans hk32 (by decide)), m1, by rw [Int.tmod_eq_emod_of_nonneg (Int.natCast_nonneg i)]; exact m1, w64_s b (Nat.lt_trans hb8 (by decide)), wi_s b (Nat.lt_trans hb8 (by decide)), wi_s k (Nat.lt_trans hk32 (by decide)), Int.natCast_nonneg b, hk32, h8⟩
theorem pl_facts (a k p : Nat) (ha : a ≤ 200) (hk : k < 32) (hp : a + k = p) : IntKind.i64.wrap ((a : Int) + (k : Int)) = (p : Int) ∧ (0 : Int) ≤ (p : Int) ∧ (p : Int) < 256 ∧ p < 256 ∧ (a : Int) + (k : Int) = (p : Int) := by
  have h1 : p < 256 := by omega
  refine ⟨?_, Int.natCast_nonneg p, by omega, h1, by omega⟩
  rw [show (a : Int) + (k : Int) = (p : Int) by omega]
  exact wi_s p (Nat.lt_trans h1 (by decide))
theorem wp_shl1 {P : Program} {w : World} {ops : Array Oper} {rest : List Oper} {o : Oper} {a : Act} {Q : Exit → Act → World → Prop} (hgd : o.guard = none) (t t2 : TypeId) (x y : Operand) (ho : o.op = .binOp .shl t x y t2) (hx : a.eval x = .int .u8 1) (k2 : IntKind) (b pp : Nat) (hy : a.eval y = .int k2 (b : Int)) (hb : b < 8) (hpp : 2 ^ b = pp)
    (h : wpList P ops Q rest (a.put o.dst (.int .u8 (pp : Int))) w) : wpList P ops Q (o :: rest) a w := by
  refine wpList_plain hgd fun K hK => ?_
  have hm : min b 8 = b := by omega
  have hs := shl_bit b hb
  rw [hpp] at hs
  have hneg : ¬ ((b : Int) < 0) := by omega
  unfold Oper.wp execOp
  simp only [ho, hx, hy]
  simp [go_sem, Op.shift, hneg, hm, hs]
  exact hK _ _ h
theorem wp_or8 {P : Program} {w : World} {ops : Array Oper} {rest : List Oper} {o : Oper} {a : Act} {Q : Exit → Act → World → Prop} (hgd : o.guard = none) (t t2 : TypeId) (x y : Operand) (ho : o.op = .binOp .or t x y t2) (p q r : Int) (hx : a.eval x = .int .u8 p) (hy : a.eval y = .int .u8 q) (hr : bits .or .u8 p q = r)
    (h : wpList P ops Q rest (a.put o.dst (.int .u8 r)) w) : wpList P ops Q (o :: rest) a w := by
  refine wpList_plain hgd fun K hK => ?_
  unfold Oper.wp execOp
  simp only [ho, hx, hy]
  simp [go_sem, hr]
  exact hK _ _ h
theorem wu_s (k : Nat) (h : k < 65536) : IntKind.u64.wrap (k : Int) = (k : Int) := by
  simp [IntKind.wrap, IntKind.bits, IntKind.signed]
  omega
theorem st_cell {P : Program} {ops : Array Oper} {rest : List Oper} {o : Oper} {a : Act} {w : World} {Q : Exit → Act → World → Prop} (hgd : o.guard = none) (ty : TypeId) (x y : Operand) (ho : o.op = .store ty x y) (g k : Nat) (hx : a.eval x = .pointer (some ⟨g, k, none⟩)) (v : Value) (hy : a.eval y = v) (hu : P.underlying ty = some (.int .u8)) (hsz : (P.info? ty).map (·.size) = some 1) (t : TypeId) (cs : List Value) (hr : Row w g t cs) (z : Int) (hv : v = .int .u8 z) (hk : k < cs.length)
    (h : ∀ w', Row w' g t (cs.set k v) → w.grownBy w' (some g) → wpList P ops Q rest (a.put o.dst undef) w') : wpList P ops Q (o :: rest) a w := by
  subst hv
  refine wpList_plain hgd fun K hK => ?_
  have hc : w.cell? ⟨g, k, none⟩ = some cs[k] := by rw [hr.cell, List.getElem?_eq_getElem hk]
  have hf := hr.free k
  unfold Oper.wp execOp
  simp only [ho, hx, hy]
  have hz : (sizeOf ty).run P w = .ok 1 w := size_of hsz w
  simp [go_sem, hc, hf, hz]
  exact hK _ _ (h _ (hr.put k _) (grown_set w ⟨g, k, none⟩ _))
theorem wp_quo8 {P : Program} {w : World} {ops : Array Oper} {rest : List Oper} {o : Oper} {a : Act} {Q : Exit → Act → World → Prop} (hgd : o.guard = none) (t t2 : TypeId) (x y : Operand) (ho : o.op = .binOp .quo t x y t2) (hy : a.eval y = .int .i64 8) (i k b : Nat) (hx : a.eval x = .int .i64 (i : Int)) (hi : i < 256) (hk : i / 8 = k) (hb : i % 8 = b)
    (h : wpList P ops Q rest (a.put o.dst (.int .i64 (k : Int))) w) : wpList P ops Q (o :: rest) a w := by
  refine wpList_plain hgd fun K hK => ?_
  obtain ⟨hb8, h1, h2, h3, m1, m2, m3, m4, h4, hb0, hk32, h8kb⟩ := dv_facts i k b hi hk hb
  unfold Oper.wp execOp
  simp only [ho, hx, hy]
  clear m1 m2 m3 m4 hb0 h8kb hb8 hk hb hi
  simp [go_sem, h1, h2, h3, h4]
  exact hK _ _ h
theorem wp_rem8 {P : Program} {w : World} {ops : Array Oper} {rest : List Oper} {o : Oper} {a : Act} {Q : Exit → Act → World → Prop} (hgd : o.guard = none) (t t2 : TypeId) (x y : Operand) (ho : o.op = .binOp .rem t x y t2) (hy : a.eval y = .int .i64 8) (i k b : Nat) (hx : a.eval x = .int .i64 (i : Int)) (hi : i < 256) (hk : i / 8 = k) (hb : i % 8 = b)
    (h : wpList P ops Q rest (a.put o.dst (.int .i64 (b : Int))) w) : wpList P ops Q (o :: rest) a w := by
  refine wpList_plain hgd fun K hK => ?_
  obtain ⟨hb8, h1, h2, h3, m1, m2, m3, m4, h4, hb0, hk32, h8kb⟩ := dv_facts i k b hi hk hb
  unfold Oper.wp execOp
  simp only [ho, hx, hy]
  clear h1 h2 h3 h4 hk32 h8kb hb8 hk hb hi
  simp [go_sem, m1, m2, m3, m4]
  exact hK _ _ h
set_option maxHeartbeats 1600000 in
theorem rpack_ok (x : Sup) (h : x.May) (hs64 : x.s < 18446744073709551616) (w : World) : Calls Tryz.prog 67 #[.agg x.cs.toArray] w fun e w' => ∃ g, e = .returned (.tuple #[.slice (some ⟨g, 0, none⟩) 256 256, .int .i64 0]) ∧ Hid (Row w' g 5 (brr 256 x.pb)) ∧ Hid (Below w.heap.size w w') := by
  obtain ⟨i, U⟩ := u8_tab
  have i1 := Lib.hid (fun x : Sup => info_cs x)
  have HMB := Lib.hid (fun w => rmay_any x true ⟨fun _ => h, fun _ => rfl⟩ w)
  have HMAY := Lib.hid h
  obtain ⟨s, hs⟩ : ∃ s, x.s = s := ⟨_, rfl⟩
  have HSS := Lib.hid hs
  have HPU := Lib.hid (fun w => rput8 none 0 [] s w (.inl rfl) (by rw [← hs]; exact hs64) (by simp))
  clear h hs64 hs
  go_enter Tryz.func67, Tryz.ntmps67
  go_wp2_with (first
    | (refine step_box rfl 1 rfl 59 (.tmp 0) rfl x.cs rfl ?_; intro g2 w2 hr2 hg2 hb2 hs2
       have R2 := Lib.hid hr2
       have HB2 := Lib.hid hb2
       have Q2 := Lib.hid (p := w.heap.size ≤ g2) (by rw [hg2.out]; exact Nat.le_refl _)
       clear hr2 hb2 hg2 hs2)
    | (refine step_load rfl 10 rfl 59 (.tmp 1) rfl g2 rfl x.cs _ R2.out.all Tryz.underlying59 rfl (i1.out _) ?_)
    | (go_at_call 96; refine (HMB.out _).mono ?_; rintro e w3 ⟨rfl, hb3⟩
       have R3 := Lib.hid (R2.out.kept hb3)
       have HB3 := Lib.hid (below_nxt hb3 HB2.out)
       clear hb3 HMB)
    | (refine step_make rfl _ _ 22 5 i U rfl 256 rfl rfl (by omega) ?_; intro g4 w4 hr4 hg4 hb4 hs4
       have R4 := Lib.hid (R3.out.kept hb4)
       have HB4 := Lib.hid (below_nxt hb4 HB3.out)
       have HG4 := Lib.hid (p := g2 < g4 ∧ w.heap.size ≤ g4) (by rw [hg4.out]; exact ⟨R3.out.lt, HB3.out.size⟩)
       have HR4 := Lib.hid hr4
       clear hr4 hg4 hb4 hs4)
    | (refine st_cell rfl 5 (.tmp 15) (.const (.int .u8 79)) rfl g4 0 (by rfl) (B 79) rfl Tryz.underlying5 info_1 _ _ HR4.out 79 rfl (by rw [brr_len]; omega) ?_; intro w5 hr5 hg5
       have HR5 := Lib.hid hr5
       have R5 := Lib.hid (R4.out.grown hg5 (fun e => by injection e with e; have := HG4.out.1; omega))
       have HB5 := Lib.hid (p := Below w.heap.size w w5) (HB4.out.grown hg5 HB4.out.size (fun q hq => by injection hq with hq; have := HG4.out.2; omega))
       clear hr5 hg5 HR4 R4 HB4)
    | (refine st_cell rfl 5 (.tmp 17) (.const (.int .u8 85)) rfl g4 1 (by rfl) (B 85) rfl Tryz.underlying5 info_1 _ _ HR5.out 85 rfl (by rw [List.length_set, brr_len]; omega) ?_; intro w6 hr6 hg6
       have HR6 := Lib.hid hr6
       have R6 := Lib.hid (R5.out.grown hg6 (fun e => by injection e with e; have := HG4.out.1; omega))
       have HB6 := Lib.hid (p := Below w.heap.size w w6) (HB5.out.grown hg6 HB5.out.size (fun q hq => by injection hq with hq; have := HG4.out.2; omega))
       clear hr6 hg6 HR5 R5 HB5)
    | (refine st_cell rfl 5 (.tmp 19) (.const (.int .u8 66)) rfl g4 2 (by rfl) (B 66) rfl Tryz.underlying5 info_1 _ _ HR6.out 66 rfl (by rw [List.length_set, List.length_set, brr_len]; omega) ?_; intro w7 hr7 hg7
       have HR7 := Lib.hid hr7
       have R7 := Lib.hid (R6.out.grown hg7 (fun e => by injection e with e; have := HG4.out.1; omega))
       have HB7 := Lib.hid (p := Below w.heap.size w w7) (HB6.out.grown hg7 HB6.out.size (fun q hq => by injection hq with hq; have := HG4.out.2; omega))
       clear hr7 hg7 HR6 R6 HB6)
    | (refine st_cell rfl 5 (.tmp 21) (.const (.int .u8 49)) rfl g4 3 (by rfl) (B 49) rfl Tryz.underlying5 info_1 _ _ HR7.out 49 rfl (by rw [List.length_set, List.length_set, List.length_set, brr_len]; omega) ?_; intro w8 hr8 hg8
       have HR8 := Lib.hid hr8
       have R8 := Lib.hid (R7.out.grown hg8 (fun e => by injection e with e; have := HG4.out.1; omega))
       have HB8 := Lib.hid (p := Below w.heap.size w w8) (HB7.out.grown hg8 HB7.out.size (fun q hq => by injection hq with hq; have := HG4.out.2; omega))
       clear hr8 hg8 HR7 R7 HB7
       have c0 : w8.cell? ⟨g2, 0, none⟩ = some (.int .u64 (s : Int)) := by rw [R8.out.cell, x.c_s, HSS.out])
    | (go_at_call 97; refine (HPU.out _).mono ?_; rintro e w9 ⟨v9, rfl, hown9, hb9'⟩
       obtain ⟨hm9, A9, c9, rfl, _, _, hh9⟩ := own_form hown9
       have hb9 := Lib.hid hb9'
       have HNE := Lib.hid (p := ∀ q o, A9 = some ⟨q, o, none⟩ → q ≠ g4) (fun q o e e2 => by
         subst e e2
         have h1 := (hown9.lt q rfl).1
         have h2 := HR8.out.lt
         omega)
       have R9 := Lib.hid (R8.out.kept hb9.out)
       have HR9 := Lib.hid (p := Row w9 g4 5 (brr 256 (rS x 0))) (by rw [rS_zero]; exact HR8.out.kept hb9.out)
       have HB9 := Lib.hid (below_nxt hb9.out HB8.out)
       have HH9 := Lib.hid (p := Hol w9 A9 (leb s 8)) hh9
       have h88 : ([] ++ leb s 8).length = 8 := by rw [List.nil_append, leb_len]
       rw [h88]
       clear c0 hm9 hh9 hb9 hb9' hown9 h88 HR8 R8 HB8 HPU))
  go_loopw [7] (fun y wr => ∃ k : Nat, k ≤ 8 ∧ y = .int .i64 (k : Int) ∧ Hid (Row wr g4 5 (brr 256 (rS x k))) ∧ Hid (Row wr g2 59 x.cs) ∧ Hid (Hol wr A9 (leb s 8)) ∧ Hid (Below w.heap.size w wr)) (fun y _ => 8 - (intOf y).toNat)
  case atStart => exact ⟨0, by omega, rfl, HR9, R9, HH9, HB9⟩
  case round =>
    clear HR9 R9 HH9 HB9
    obtain ⟨k, hk, rfl, HR, HU, HH, HB⟩ := hrel
    have hkw : IntKind.i64.wrap ((k : Int) + 1) = (k : Int) + 1 := by rw [IntKind.wrap_i64]; omega
    by_cases hk8 : k < 8
    · have hki : (k : Int) < 8 := by omega
      have hk0 : (0 : Int) ≤ (k : Int) := by omega
      obtain ⟨p, hp⟩ : ∃ p, 4 + k = p := ⟨_, rfl⟩
      have hpw : IntKind.i64.wrap (4 + (k : Int)) = (p : Int) := by rw [IntKind.wrap_i64]; omega
      have hp256 : (p : Int) < 256 := by omega
      have hp0 : (0 : Int) ≤ (p : Int) := by omega
      obtain ⟨ga, oa, rfl, _, hc⟩ := HH.out.at_ (j := k) (by rw [leb_len]; exact hk8)
      obtain ⟨y, hy⟩ : ∃ y, (leb s 8)[k]'(by rw [leb_len]; exact hk8) = y := ⟨_, rfl⟩
      rw [hy] at hc
      replace hc : wr.cell? ⟨ga, oa + k, none⟩ = some (B y) := hc
      have hyp : y = x.pb (4 + k) := by
        have h1 : (leb s 8)[k]? = some y := by rw [List.getElem?_eq_getElem (by rw [leb_len]; exact hk8), hy]
        rw [leb_lst, lst_get _ hk8] at h1
        injection h1 with h1
        rw [← h1]
        unfold Sup.pb
        rw [if_neg (by omega), if_pos (by omega), show 4 + k - 4 = k by omega, HSS.out]
      obtain ⟨z, hz⟩ : ∃ z, rS x k p = z := ⟨_, rfl⟩
      have cp : wr.cell? ⟨g4, p, none⟩ = some (B z) := by rw [HR.out.cell, brr_get _ (by omega), hz]
      have fp := HR.out.free p
      have HPP := Lib.hid hp
      have HY := Lib.hid hyp
      have HK := Lib.hid hk8
      clear hk hk8 hp hy hyp hz
      go_wp2
      go_roundw
      case rel => exact ⟨k + 1, by have := HK.out; omega, by go_num, Lib.hid (by rw [← rS_step, ← brr_set, ← HY.out, HPP.out]; exact HR.out.put _ _), Lib.hid (HU.out.far (p := ⟨g4, p, none⟩) (show g2 ≠ g4 by have := HG4.out.1; omega) _), Lib.hid (HH.out.grown (grown_set wr ⟨g4, p, none⟩ _) (fun q o e e2 => HNE.out q o e (by injection e2))), Lib.hid (HB.out.setCell (show w.heap.size ≤ g4 from HG4.out.2) _)⟩
      case measure => have := HK.out; simp [intOf]; omega
    · obtain rfl : k = 8 := by omega
      have R0 := Lib.hid (p := Row wr g4 5 (brr 256 (rU x 0))) (by rw [← rS_rU]; exact HR.out)
      have hki : ¬ ((8 : Nat) : Int) < 8 := by omega
      clear hk hk8 HR HH hkw HNE HSS
      go_wp2
      go_loopw [8] (fun y wr => ∃ i : Nat, i ≤ 256 ∧ y = .int .i64 (i : Int) ∧ Hid (Row wr g4 5 (brr 256 (rU x i))) ∧ Hid (Row wr g2 59 x.cs) ∧ Hid (Below w.heap.size w wr)) (fun y _ => 256 - (intOf y).toNat)
      case atStart => exact ⟨0, by omega, rfl, R0, HU, HB⟩
      case round =>
        clear R0 HU HB hki
        obtain ⟨i, hi, rfl, HR, HU, HB⟩ := hrel
        have hkw : IntKind.i64.wrap ((i : Int) + 1) = (i : Int) + 1 := by rw [IntKind.wrap_i64]; omega
        by_cases hi6 : i < 256
        · have hil : (i : Int) < 256 := by omega
          have hi0 : (0 : Int) ≤ (i : Int) := by omega
          have cu : wr.cell? ⟨g2, 1 + i, none⟩ = some (.bool (x.u i)) := by rw [HU.out.cell, x.c_u hi6]
          have HI6 := Lib.hid hi6
          cases hu : x.u i
          · rw [hu] at cu
            have HST := Lib.hid (p := rU x (i + 1) = rU x i) (by
              rw [← rU_step, bn_step, show 8 * (i / 8) + i % 8 = i by omega, hu, if_neg (by decide), Nat.add_zero, ← rU_at]
              exact upd_self _ _)
            clear hu hi hi6
            go_wp2
            go_roundw
            case rel => exact ⟨i + 1, by have := HI6.out; omega, by go_num, by rw [HST.out]; exact HR, HU, HB⟩
            case measure => have := HI6.out; simp [intOf]; omega
          · rw [hu] at cu
            obtain ⟨k, hk⟩ : ∃ k, i / 8 = k := ⟨_, rfl⟩
            obtain ⟨b, hb⟩ : ∃ b, i % 8 = b := ⟨_, rfl⟩
            obtain ⟨hb8, h1, h2, h3, m1, m2, m3, m4, h4, hb0, hk32, h8kb⟩ := dv_facts i k b (by omega) hk hb
            obtain ⟨p, hp⟩ : ∃ p, 12 + k = p := ⟨_, rfl⟩
            obtain ⟨hpw, hp0, hpn, hpl, hpe⟩ := pl_facts 12 k p (by omega) hk32 hp
            replace hpw : IntKind.i64.wrap (12 + (k : Int)) = (p : Int) := hpw
            replace hpe : 12 + (k : Int) = (p : Int) := hpe
            have HPL := Lib.hid hpl
            have hst := bn_step x.u k b
            rw [h8kb, hu, if_pos rfl] at hst
            have hq := bn_le x.u k b (Nat.le_of_lt hb8)
            have hlt := bn_lt x.u k b
            have hus := rU_step x i
            have hua := rU_at x i
            rw [hk, hb, hp] at hus hua
            obtain ⟨q, hqq⟩ : ∃ q, bn x.u k b = q := ⟨_, rfl⟩
            rw [hqq] at hst hq hlt hua
            have c1 : wr.cell? ⟨g4, p, none⟩ = some (.int .u8 (q : Int)) := by rw [HR.out.cell, brr_get _ HPL.out, hua, bq q hq]
            have f1 := HR.out.free p
            have hs1 := shl_bit b hb8
            have ho1 := or_bit q b hlt hb8
            obtain ⟨pp, hpp⟩ : ∃ pp, 2 ^ b = pp := ⟨_, rfl⟩
            rw [hpp] at hs1 ho1 hst hlt
            obtain ⟨q2, hq2⟩ : ∃ q2, q + pp = q2 := ⟨_, rfl⟩
            rw [hq2] at ho1 hst
            have hq2l : q2 < 256 := by rw [← hst]; exact bn_le x.u k (b + 1) hb8
            rw [hst] at hus
            have HUS := Lib.hid hus
            have HQ2 := Lib.hid hq2l
            have u1 : IntKind.u64.wrap (b : Int) = (b : Int) := wu_s b (Nat.lt_trans hb8 (by decide))
            have HB8 := Lib.hid hb8
            have HPP := Lib.hid hpp
            have HOR := Lib.hid ho1
            clear hs1 ho1
            clear hk hb hp hst hus hua hq hlt hqq hpp hq2 hq2l hu hi hi6 hb8 hk32 h8kb hpl
            go_wp2_with (first | (refine wp_shl1 rfl _ _ _ _ rfl rfl _ b pp rfl HB8.out HPP.out ?_) | (refine wp_or8 rfl _ _ _ _ rfl _ _ (q2 : Int) rfl rfl HOR.out ?_))
            clear h1 h2 h3 m1 m2 m3 m4 h4 hb0 hpw hp0 hpn hpe u1 c1 f1
            go_roundw
            case rel => exact ⟨i + 1, by have := HI6.out; omega, by go_num, Lib.hid (by rw [← HUS.out, ← brr_set, bq q2 HQ2.out]; exact HR.out.put _ _), Lib.hid (HU.out.far (p := ⟨g4, p, none⟩) (show g2 ≠ g4 by have := HG4.out.1; omega) _), Lib.hid (HB.out.setCell (p := ⟨g4, p, none⟩) HG4.out.2 _)⟩
            case measure => have := HI6.out; simp [intOf]; omega
        · obtain rfl : i = 256 := by omega
          have R0 := Lib.hid (p := Row wr g4 5 (brr 256 (rI x 0 0))) (by rw [← rU_rI]; exact HR.out)
          have hki : ¬ ((256 : Nat) : Int) < 256 := by omega
          clear hi hi6 HR hkw
          go_wp2
          go_loopw [9] (fun y wr => ∃ i : Nat, 1 ≤ i ∧ i ≤ 65 ∧ y = .int .i64 (i : Int) ∧ Hid (Row wr g4 5 (brr 256 (rI x (i - 1) (i - 1)))) ∧ Hid (Row wr g2 59 x.cs) ∧ Hid (Below w.heap.size w wr)) (fun y _ => 65 - (intOf y).toNat)
          case atStart => exact ⟨1, by omega, by omega, rfl, R0, HU, HB⟩
          case round =>
            clear R0 HU HB hki
            obtain ⟨i, hi1, hi, rfl, HR, HU, HB⟩ := hrel
            have hkw : IntKind.i64.wrap ((i : Int) + 1) = (i : Int) + 1 := by rw [IntKind.wrap_i64]; omega
            by_cases hi6 : i ≤ 64
            · have hil : (i : Int) ≤ 64 := by omega
              have hi0 : (0 : Int) ≤ (i : Int) := by omega
              have hi65 : (i : Int) < 65 := by omega
              obtain ⟨a, ha⟩ : ∃ a, i - 1 = a := ⟨_, rfl⟩
              have hia : i = a + 1 := by omega
              rw [ha] at HR
              obtain ⟨m, hm⟩ : ∃ m : Nat, x.i i = (m : Int) := ⟨(x.i i).toNat, by have := oka_b (HMAY.out.2.2.2 i (by omega)); omega⟩
              have hm256 : m < 256 := by have := oka_b (HMAY.out.2.2.2 i (by omega)); omega
              have ci : wr.cell? ⟨g2, 257 + i, none⟩ = some (.int .i64 (m : Int)) := by rw [HU.out.cell, x.c_i (by omega), hm]
              have hmw : IntKind.u8.wrap (m : Int) = (m : Int) := by simp [IntKind.wrap, IntKind.bits, IntKind.signed]; omega
              have hmw' : (m : Int) % 256 = (m : Int) := by omega
              obtain ⟨d, hd⟩ : ∃ d, 2 * i = d := ⟨_, rfl⟩
              have hdw : IntKind.i64.wrap (2 * (i : Int)) = (d : Int) := by rw [IntKind.wrap_i64]; omega
              obtain ⟨t, ht⟩ : ∃ t, 42 + d = t := ⟨_, rfl⟩
              have htw : IntKind.i64.wrap (42 + (d : Int)) = (t : Int) := by rw [IntKind.wrap_i64]; omega
              have ht0 : (0 : Int) ≤ (t : Int) := by omega
              have htn : (t : Int) < 256 := by omega
              have HTL := Lib.hid (p := t < 256) (by omega)
              have hlow := rI_low x a a m (by omega) (by rw [← hia]; exact hm) hm256
              rw [show 44 + 2 * a = t by omega] at hlow
              have HLOW := Lib.hid hlow
              have HM256 := Lib.hid hm256
              have HIA := Lib.hid (p := i = a + 1 ∧ i ≤ 64 ∧ i - 1 = a) ⟨hia, hi6, ha⟩
              have co : ∀ w1, Row w1 g2 59 x.cs → w1.cell? ⟨g2, 322 + i, none⟩ = some (.bool (x.o i)) := fun w1 h => by rw [h.cell, x.c_o (by omega)]
              have CO := Lib.hid co
              clear hlow hm256 hia ha hd ht hm hi1 hi co
              cases hu : x.o i
              · rw [hu] at CO
                have HST := Lib.hid (p := rI x (a + 1) (a + 1) = rI x (a + 1) a) (by
                  rw [← rI_step, bn_step, show 8 * (a / 8) + a % 8 = a by omega, show x.o' a = false by unfold Sup.o'; rw [← HIA.out.1]; exact hu, if_neg (by decide), Nat.add_zero (bn x.o' (a / 8) (a % 8)), ← rI_at x (a + 1) a (by have := HIA.out; omega)]
                  exact upd_self _ _)
                clear hu hi6
                go_wp2_with (refine st_cell rfl 5 (.tmp 77) (.tmp 76) rfl g4 t (by rfl) (.int .u8 (m : Int)) (by rfl) Tryz.underlying5 info_1 _ _ HR.out (m : Int) rfl (by rw [brr_len]; exact HTL.out) ?_; intro w1 hr1 hg1
                             have HR1 := Lib.hid (p := Row w1 g4 5 (brr 256 (rI x (a + 1) a))) (by rw [← HLOW.out, ← brr_set, bq m HM256.out]; exact hr1)
                             have HU1 := Lib.hid (HU.out.grown hg1 (fun e => by injection e with e; have := HG4.out.1; omega))
                             have HB1 := Lib.hid (p := Below w.heap.size w w1) (HB.out.grown hg1 HB.out.size (fun q hq => by injection hq with hq; have := HG4.out.2; omega))
                             have c1 := CO.out w1 HU1.out
                             clear hr1 hg1)
                go_roundw
                case rel => exact ⟨i + 1, by omega, by have := HIA.out; omega, by go_num, Lib.hid (by rw [Nat.add_sub_cancel, HIA.out.1, HST.out]; exact HR1.out), HU1, HB1⟩
                case measure => have := HIA.out; simp [intOf]; omega
              · rw [hu] at CO
                replace hu : x.o' a = true := by unfold Sup.o'; rw [← HIA.out.1]; exact hu
                have haw : IntKind.i64.wrap ((i : Int) - 1) = (a : Int) := by rw [IntKind.wrap_i64]; have := HIA.out; omega
                have hae : (i : Int) - 1 = (a : Int) := by have := HIA.out; omega
                have hal : a < 64 := by have := HIA.out; omega
                obtain ⟨k, hk⟩ : ∃ k, a / 8 = k := ⟨_, rfl⟩
                obtain ⟨b, hb⟩ : ∃ b, a % 8 = b := ⟨_, rfl⟩
                obtain ⟨hb8, h1, h2, h3, m1, m2, m3, m4, h4, hb0, hk32, h8kb⟩ := dv_facts a k b (by omega) hk hb
                obtain ⟨p, hp⟩ : ∃ p, 172 + k = p := ⟨_, rfl⟩
                obtain ⟨hpw, hp0, hpn, hpl, hpe⟩ := pl_facts 172 k p (by omega) hk32 hp
                replace hpw : IntKind.i64.wrap (172 + (k : Int)) = (p : Int) := hpw
                replace hpe : 172 + (k : Int) = (p : Int) := hpe
                have HPL := Lib.hid hpl
                have hst := bn_step x.o' k b
                rw [h8kb, hu, if_pos rfl] at hst
                have hq := bn_le x.o' k b (Nat.le_of_lt hb8)
                have hlt := bn_lt x.o' k b
                have hus := rI_step x (a + 1) a
                have hua := rI_at x (a + 1) a hal
                rw [hk, hb, hp] at hus hua
                obtain ⟨q, hqq⟩ : ∃ q, bn x.o' k b = q := ⟨_, rfl⟩
                rw [hqq] at hst hq hlt hua
                have HC1 := Lib.hid (p := ∀ w1, Row w1 g4 5 (brr 256 (rI x (a + 1) a)) → w1.cell? ⟨g4, p, none⟩ = some (.int .u8 (q : Int)) ∧ w1.frozen? ⟨g4, p, none⟩ = false) (fun w1 h => ⟨by rw [h.cell, brr_get _ HPL.out, hua, bq q hq], h.free p⟩)
                have hs1 := shl_bit b hb8
                have ho1 := or_bit q b hlt hb8
                obtain ⟨pp, hpp⟩ : ∃ pp, 2 ^ b = pp := ⟨_, rfl⟩
                rw [hpp] at hs1 ho1 hst hlt
                obtain ⟨q2, hq2⟩ : ∃ q2, q + pp = q2 := ⟨_, rfl⟩
                rw [hq2] at ho1 hst
                have hq2l : q2 < 256 := by rw [← hst]; exact bn_le x.o' k (b + 1) hb8
                rw [hst] at hus
                have HUS := Lib.hid hus
                have HQ2 := Lib.hid hq2l
                have u1 : IntKind.u64.wrap (b : Int) = (b : Int) := wu_s b (Nat.lt_trans hb8 (by decide))
                have HB8 := Lib.hid hb8
                have HPP := Lib.hid hpp
                have HOR := Lib.hid ho1
                clear hs1 ho1
                have HDV := Lib.hid (p := a < 256 ∧ a / 8 = k ∧ a % 8 = b) ⟨Nat.lt_trans hal (by decide), hk, hb⟩
                clear h1 h2 h3 m1 m2 m3 m4 h4 hb0
                clear hk hb hp hst hus hua hq hlt hqq hpp hq2 hq2l hu hi6 hb8 hal hk32 h8kb hpl
                go_wp2_with (first | (refine wp_quo8 rfl _ _ _ _ rfl rfl a k b rfl HDV.out.1 HDV.out.2.1 HDV.out.2.2 ?_) | (refine wp_rem8 rfl _ _ _ _ rfl rfl a k b rfl HDV.out.1 HDV.out.2.1 HDV.out.2.2 ?_) | (refine wp_shl1 rfl _ _ _ _ rfl rfl _ b pp rfl HB8.out HPP.out ?_) | (refine wp_or8 rfl _ _ _ _ rfl _ _ (q2 : Int) rfl rfl HOR.out ?_)
                                   | (refine st_cell rfl 5 (.tmp 77) (.tmp 76) rfl g4 t (by rfl) (.int .u8 (m : Int)) (by rfl) Tryz.underlying5 info_1 _ _ HR.out (m : Int) rfl (by rw [brr_len]; exact HTL.out) ?_; intro w1 hr1 hg1
                                      have HR1 := Lib.hid (p := Row w1 g4 5 (brr 256 (rI x (a + 1) a))) (by rw [← HLOW.out, ← brr_set, bq m HM256.out]; exact hr1)
                                      have HU1 := Lib.hid (HU.out.grown hg1 (fun e => by injection e with e; have := HG4.out.1; omega))
                                      have HB1 := Lib.hid (p := Below w.heap.size w w1) (HB.out.grown hg1 HB.out.size (fun q hq => by injection hq with hq; have := HG4.out.2; omega))
                                      have c1 := CO.out w1 HU1.out
                                      have c2 := (HC1.out w1 HR1.out).1
                                      have f2 := (HC1.out w1 HR1.out).2
                                      clear hr1 hg1))
                clear hpw hp0 hpn hpe u1 c1 c2 f2 hmw hmw' hdw htw haw hae
                go_roundw
                case rel => exact ⟨i + 1, by omega, by have := HIA.out; omega, by go_num, Lib.hid (by rw [Nat.add_sub_cancel, HIA.out.1, ← HUS.out, ← brr_set, bq q2 HQ2.out]; exact HR1.out.put _ _), Lib.hid (HU1.out.far (p := ⟨g4, p, none⟩) (show g2 ≠ g4 by have := HG4.out.1; omega) _), Lib.hid (HB1.out.setCell (p := ⟨g4, p, none⟩) HG4.out.2 _)⟩
                case measure => have := HIA.out; simp [intOf]; omega
            · obtain rfl : i = 65 := by omega
              have hki : ¬ ((65 : Nat) : Int) ≤ 64 := by omega
              have HR2 := Lib.hid (p := Row wr g4 5 (brr 256 x.pb)) (by rw [← brr_congr (f := rI x 64 64) (fun j hj => rI_all x j hj)]; exact HR.out)
              clear hi1 hi hi6 HR hkw
              go_wp2
              go_ret2
              exact ⟨g4, rfl, HR2, HB⟩
end Go.Proofs.YtfbfeplegdpemaaGreat
