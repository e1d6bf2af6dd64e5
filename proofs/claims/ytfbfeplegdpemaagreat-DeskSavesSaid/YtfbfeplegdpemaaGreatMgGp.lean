/- Flags as bytes, and a super's block by its places. No conditions. -/
import Derived.Test.YtfbfeplegdpemaaGreatMgGx
import Derived.Test.YtfbfeplegdpemaaGreatMgMem
import Derived.Test.YtfbfeplegdpemaaGreatMgRBy
import Derived.Laws.CopyRow
import Derived.Lib.AppendZeros
import Derived.Maps.AppendAt
set_option linter.unusedVariables false
set_option maxRecDepth 20000
namespace Go.Proofs.YtfbfeplegdpemaaGreat
open Go.RowKit

/-- The number of a byte's first so many bits. -/
def bn (f : Nat → Bool) (k : Nat) : Nat → Nat
  | 0 => 0
  | m + 1 => bn f k m + if f (8 * k + m) then 2 ^ m else 0
theorem bn_lt (f : Nat → Bool) (k : Nat) : ∀ m, bn f k m < 2 ^ m
  | 0 => by show 0 < 1; omega
  | m + 1 => by
    have ih := bn_lt f k m
    show bn f k m + (if f (8 * k + m) then 2 ^ m else 0) < 2 ^ (m + 1)
    rw [Nat.pow_succ]
    split <;> omega
theorem bn_step (f : Nat → Bool) (k m : Nat) : bn f k (m + 1) = bn f k m + if f (8 * k + m) then 2 ^ m else 0 := rfl
def bt (f : Nat → Bool) (k : Nat) : UInt8 := UInt8.ofNat (bn f k 8)
theorem or_bits : ∀ m : Fin 8, ∀ q : Fin 128, q.val < 2 ^ m.val → bits .or .u8 (q.val : Int) ((2 ^ m.val : Nat) : Int) = ((q.val + 2 ^ m.val : Nat) : Int) := by decide +kernel
theorem or_bit (q m : Nat) (hq : q < 2 ^ m) (hm : m < 8) : bits .or .u8 (q : Int) ((2 ^ m : Nat) : Int) = ((q + 2 ^ m : Nat) : Int) := by
  have h : 2 ^ m ≤ 2 ^ 7 := Nat.pow_le_pow_right (by decide) (by omega)
  exact or_bits ⟨m, hm⟩ ⟨q, by have e : (2 : Nat) ^ 7 = 128 := rfl; omega⟩ hq
theorem shl_bits : ∀ m : Fin 8, IntKind.u8.wrap ((2 : Int) ^ m.val) = ((2 ^ m.val : Nat) : Int) := by decide +kernel
theorem shl_bit (m : Nat) (hm : m < 8) : IntKind.u8.wrap ((2 : Int) ^ m) = ((2 ^ m : Nat) : Int) := shl_bits ⟨m, hm⟩
/-- A byte's bit. -/
def ub (x : UInt8) (b : Nat) : Bool := x.toNat / 2 ^ b % 2 == 1
theorem bits8 : ∀ a0 a1 a2 a3 a4 a5 a6 a7 : Bool, ∀ b : Fin 8, ((((((((0 + if a0 then 2 ^ 0 else 0) + if a1 then 2 ^ 1 else 0) + if a2 then 2 ^ 2 else 0) + if a3 then 2 ^ 3 else 0) + if a4 then 2 ^ 4 else 0) + if a5 then 2 ^ 5 else 0) + if a6 then 2 ^ 6 else 0) + if a7 then 2 ^ 7 else 0) / 2 ^ b.val % 2 = if (match b with | 0 => a0 | 1 => a1 | 2 => a2 | 3 => a3 | 4 => a4 | 5 => a5 | 6 => a6 | 7 => a7) then 1 else 0 := by decide +kernel
theorem ub_bt (f : Nat → Bool) (k b : Nat) (hb : b < 8) : ub (bt f k) b = f (8 * k + b) := by
  have hlt := bn_lt f k 8
  have e : (bt f k).toNat = bn f k 8 := by
    unfold bt
    rw [UInt8.toNat_ofNat']
    have e8 : (2 : Nat) ^ 8 = 256 := rfl
    omega
  have h := bits8 (f (8 * k)) (f (8 * k + 1)) (f (8 * k + 2)) (f (8 * k + 3)) (f (8 * k + 4)) (f (8 * k + 5)) (f (8 * k + 6)) (f (8 * k + 7)) ⟨b, hb⟩
  have h : bn f k 8 / 2 ^ b % 2 = _ := h
  unfold ub
  rw [e, h]
  have key : (match (⟨b, hb⟩ : Fin 8) with | 0 => f (8 * k) | 1 => f (8 * k + 1) | 2 => f (8 * k + 2) | 3 => f (8 * k + 3) | 4 => f (8 * k + 4) | 5 => f (8 * k + 5) | 6 => f (8 * k + 6) | 7 => f (8 * k + 7)) = f (8 * k + b) := by
    rcases (by omega : b = 0 ∨ b = 1 ∨ b = 2 ∨ b = 3 ∨ b = 4 ∨ b = 5 ∨ b = 6 ∨ b = 7) with rfl | rfl | rfl | rfl | rfl | rfl | rfl | rfl <;> rfl
  rw [key]
  cases f (8 * k + b) <;> rfl
/-! A super's block. -/
def sgn (j : Nat) : UInt8 := match j with
  | 0 => 79
  | 1 => 85
  | 2 => 66
  | 3 => 49
  | _ => 0
def Sup.pb (x : Sup) (j : Nat) : UInt8 :=
  if j < 4 then sgn j else if j < 12 then UInt8.ofNat (x.s / 256 ^ (j - 4)) else if j < 44 then bt x.u (j - 12) else if j < 172 then UInt8.ofNat ((x.i (1 + (j - 44) / 2)).toNat / 256 ^ ((j - 44) % 2)) else if j < 180 then bt (fun k => x.o (k + 1)) (j - 172) else 0
theorem lst_add (a b : Nat) (f : Nat → UInt8) : lst (a + b) f = lst a f ++ lst b (fun j => f (a + j)) := by
  unfold lst
  rw [List.range_add, List.map_append, List.map_map]
  rfl
theorem lst_congr {n : Nat} {f g : Nat → UInt8} (h : ∀ j, j < n → f j = g j) : lst n f = lst n g := List.map_congr_left fun j hj => h j (List.mem_range.1 hj)
theorem leb_lst (v k : Nat) : leb v k = lst k (fun j => UInt8.ofNat (v / 256 ^ j)) := rfl
theorem Sup.pb_sgn (x : Sup) : lst 4 x.pb = [79, 85, 66, 49] := rfl
theorem Sup.pb_ser (x : Sup) : lst 12 x.pb = lst 4 x.pb ++ leb x.s 8 := by
  rw [show 12 = 4 + 8 from rfl, lst_add, leb_lst]
  congr 1
  all_goals
    refine lst_congr fun j hj => ?_
    unfold Sup.pb
    rw [if_neg (by omega), if_pos (by omega), show 4 + j - 4 = j by omega]
theorem Sup.pb_used (x : Sup) : lst 44 x.pb = lst 12 x.pb ++ lst 32 (bt x.u) := by
  rw [show 44 = 12 + 32 from rfl, lst_add]
  congr 1
  all_goals
    refine lst_congr fun j hj => ?_
    unfold Sup.pb
    rw [if_neg (by omega), if_neg (by omega), if_pos (by omega), show 12 + j - 12 = j by omega]
theorem Sup.pb_ino (x : Sup) (k : Nat) (hk : k < 64) : lst (44 + 2 * (k + 1)) x.pb = lst (44 + 2 * k) x.pb ++ leb (x.i (k + 1)).toNat 2 := by
  rw [show 44 + 2 * (k + 1) = (44 + 2 * k) + 2 by omega, lst_add, leb_lst]
  congr 1
  refine lst_congr fun j hj => ?_
  unfold Sup.pb
  rw [if_neg (by omega), if_neg (by omega), if_neg (by omega), if_pos (by omega), show 44 + 2 * k + j - 44 = 2 * k + j by omega, show 1 + (2 * k + j) / 2 = k + 1 by omega, show (2 * k + j) % 2 = j by omega]
theorem Sup.pb_orp (x : Sup) : lst 180 x.pb = lst 172 x.pb ++ lst 8 (bt fun k => x.o (k + 1)) := by
  rw [show 180 = 172 + 8 from rfl, lst_add]
  congr 1
  all_goals
    refine lst_congr fun j hj => ?_
    unfold Sup.pb
    rw [if_neg (by omega), if_neg (by omega), if_neg (by omega), if_neg (by omega), if_pos (by omega), show 172 + j - 172 = j by omega]
theorem Sup.pb_rest (x : Sup) : lst 256 x.pb = lst 180 x.pb ++ List.replicate 76 0 := by
  rw [show 256 = 180 + 76 from rfl, lst_add]
  have e : lst 76 (fun j => x.pb (180 + j)) = List.replicate 76 0 := by
    rw [lst_congr (g := fun _ => 0) (fun j hj => by unfold Sup.pb; rw [if_neg (by omega), if_neg (by omega), if_neg (by omega), if_neg (by omega), if_neg (by omega)])]
    rfl
  rw [e]
/-- Flags as they lie. -/
def HolBo (w : World) (A : Option Addr) (n : Nat) (f : Nat → Bool) : Prop := ∃ g o, A = some ⟨g, o, none⟩ ∧ ∀ j, j < n → w.cell? ⟨g, o + j, none⟩ = some (.bool (f j))
theorem HolBo.below {w w' : World} {A : Option Addr} {n : Nat} {f : Nat → Bool} (h : HolBo w A n f) (hb : Below w.heap.size w w') : HolBo w' A n f := by
  obtain ⟨g, o, rfl, hc⟩ := h
  exact ⟨g, o, rfl, fun j hj => (hb.cell (p := ⟨g, o + j, none⟩) (World.block_lt_of_cell? w _ (hc j hj))).trans (hc j hj)⟩
theorem Sup.hol_u {w : World} {g : Nat} {t : TypeId} {x : Sup} (h : Row w g t x.cs) : HolBo w (some ⟨g, 1, none⟩) 256 x.u := ⟨g, 1, rfl, fun j hj => by rw [h.cell, x.c_u hj]⟩
theorem Sup.hol_o {w : World} {g : Nat} {t : TypeId} {x : Sup} (h : Row w g t x.cs) : HolBo w (some ⟨g, 323, none⟩) 64 (fun k => x.o (k + 1)) := ⟨g, 323, rfl, fun j hj => by rw [h.cell, show 323 + j = 322 + (j + 1) by omega, x.c_o (by omega)]⟩
end Go.Proofs.YtfbfeplegdpemaaGreat
/- Package grant: a number as bytes, flags as bytes. No conditions but those named. -/
set_option linter.unusedVariables false
set_option maxRecDepth 20000
namespace Go.Proofs.YtfbfeplegdpemaaGreat
open Go.RowKit

theorem bq (q : Nat) (h : q < 256) : B (UInt8.ofNat q) = .int .u8 (q : Int) := by
  show Value.int .u8 (((UInt8.ofNat q).toNat : Nat) : Int) = _
  rw [UInt8.toNat_ofNat']
  have e8 : (2 : Nat) ^ 8 = 256 := rfl
  rw [e8, Nat.mod_eq_of_lt h]
/-- New bytes. -/
def NewB (w : World) (l : List UInt8) (e : Ending) (w' : World) : Prop := ∃ A c, e = .returned (.slice A l.length c) ∧ Hid (w'.ownsRow w.heap.size 5 1 (.slice A l.length c) l.length (bc l)) ∧ Hid (Below w.heap.size w w')
theorem gnumber_any (k x : Nat) (hk : k = 2 ∨ k = 8) (hx : x < 256 ^ k) (w : World) : Calls Tryz.prog 91 #[.int .i64 (k : Int), .int .u64 (x : Int)] w (NewB w (leb x k)) := by
  have hx64 : x < 18446744073709551616 := by
    rcases hk with rfl | rfl
    · have e : (256 : Nat) ^ 2 = 65536 := rfl
      omega
    · exact hx
  have hp := put_any none 0 [] (k : Int) x w (.inl rfl) hx64 (by simp)
  have hr : putR [] (k : Int) x = (leb x k, 0) := by
    unfold putR
    rw [if_neg (by rcases hk with rfl | rfl <;> decide), if_neg (by rw [Int.toNat_natCast]; intro h; exact h (Nat.div_eq_of_lt hx)), Int.toNat_natCast]
    rfl
  rw [hr] at hp
  have HP := Lib.hid hp
  clear hp hr hx hx64 hk
  go_enter Tryz.func91, Tryz.ntmps91
  go_wp2_with (go_at_call 104; refine HP.out.mono ?_; rintro e w1 ⟨v, rfl, hown, hb⟩
               obtain ⟨A1, c1, rfl⟩ := own_sl hown
               have HO := Lib.hid hown
               have HB := Lib.hid hb
               clear hown hb)
  go_ret
  exact ⟨A1, c1, rfl, HO, HB⟩
/-! Flags. -/
def uq (f : Nat → Bool) (k q : Nat) (j : Nat) : UInt8 := if j < k then bt f j else if j = k then UInt8.ofNat q else 0
theorem uq_self (f : Nat → Bool) (k q : Nat) : uq f k q k = UInt8.ofNat q := by unfold uq; rw [if_neg (by omega), if_pos rfl]
theorem uq_upd (f : Nat → Bool) (k q q2 : Nat) : upd (uq f k q) k (UInt8.ofNat q2) = uq f k q2 := by
  funext j
  unfold upd uq
  by_cases h : j = k
  · rw [if_pos h, if_neg (by omega), if_pos h]
  · rw [if_neg h]
    by_cases h2 : j < k
    · rw [if_pos h2, if_pos h2]
    · rw [if_neg h2, if_neg h2, if_neg h, if_neg h]
theorem uq_next (f : Nat → Bool) (k : Nat) : uq f k (bn f k 8) = uq f (k + 1) 0 := by
  funext j
  unfold uq
  by_cases h : j < k
  · rw [if_pos h, if_pos (by omega)]
  · rw [if_neg h]
    by_cases h2 : j = k
    · subst h2
      rw [if_pos rfl, if_pos (by omega)]
      rfl
    · rw [if_neg h2, if_neg (by omega)]
      split <;> rfl
theorem uq_zero (f : Nat → Bool) : uq f 0 0 = fun _ => 0 := by
  funext j
  unfold uq
  rw [if_neg (by omega)]
  split <;> rfl
theorem bn_le (f : Nat → Bool) (k m : Nat) (hm : m ≤ 8) : bn f k m < 256 := by
  have h1 := bn_lt f k m
  have h2 : 2 ^ m ≤ 2 ^ 8 := Nat.pow_le_pow_right (by decide) hm
  have e : (2 : Nat) ^ 8 = 256 := rfl
  omega
set_option maxHeartbeats 4000000 in
theorem packbits_any (A : Option Addr) (c n m : Nat) (f : Nat → Bool) (hn : n = 8 * m) (hm : m ≤ 32) (hc : n ≤ c) (w : World) (hA : HolBo w A n f) : Calls Tryz.prog 92 #[.slice A n c] w fun e w' => ∃ g, e = .returned (.slice (some ⟨g, 0, none⟩) m m) ∧ Hid (Row w' g 5 (brr m (bt f))) ∧ Hid (w.heap.size ≤ g) ∧ Hid (Below w.heap.size w w') := by
  obtain ⟨i, U⟩ := u8_tab
  have h1 : (n : Int) / 8 = (m : Int) := by omega
  have h2 : Int.tdiv (n : Int) 8 = (m : Int) := by rw [Int.tdiv_eq_ediv_of_nonneg (by omega)]; exact h1
  have h3 : wrap64 (m : Int) = (m : Int) := by unfold wrap64; omega
  have HA := Lib.hid hA
  have HN := Lib.hid hn
  have HM := Lib.hid hm
  clear hA hn hm hc
  go_enter Tryz.func92, Tryz.ntmps92
  go_wp2_with (refine step_make rfl _ _ 22 5 i U rfl m (congrArg (Value.int .i64) h3) (congrArg (Value.int .i64) h3) (by have := HM.out; omega) ?_; intro gb w1 hr1 hg1 hb1 hs1
               have R1 := Lib.hid hr1
               have HB1 := Lib.hid hb1
               have QB := Lib.hid (p := w.heap.size ≤ gb) (by rw [hg1.out]; exact Nat.le_refl _)
               clear hr1 hg1 hb1 hs1)
  have R1' := Lib.hid (p := Row w1 gb 5 (brr m (uq f 0 0))) (by rw [uq_zero]; exact R1.out)
  clear R1
  go_loopw [12] (fun y wr => ∃ k : Nat, k ≤ m ∧ y = .int .i64 (k : Int) ∧ Hid (Row wr gb 5 (brr m (uq f k 0))) ∧ Hid (Below w.heap.size w wr)) (fun y _ => 32 - (intOf y).toNat)
  case atStart => exact ⟨0, by omega, rfl, R1', HB1⟩
  case round =>
    clear R1' HB1
    obtain ⟨k, hk, rfl, HR, HB⟩ := hrel
    have hkw : IntKind.i64.wrap ((k : Int) + 1) = (k : Int) + 1 := by rw [IntKind.wrap_i64]; have := HM.out; omega
    by_cases hkm : k < m
    · have hki : (k : Int) < (m : Int) := by omega
      have HK := Lib.hid hkm
      have h8k : IntKind.i64.wrap (8 * (k : Int)) = ((8 * k : Nat) : Int) := by rw [IntKind.wrap_i64]; have := HM.out; omega
      obtain ⟨p0, hp0⟩ : ∃ p0, 8 * k = p0 := ⟨_, rfl⟩
      rw [hp0] at h8k
      have HP0 := Lib.hid hp0
      clear hk hkm hp0
      go_wp2
      go_loopw [15] (fun y wr => ∃ b : Nat, b ≤ 8 ∧ y = .int .i64 (b : Int) ∧ Hid (Row wr gb 5 (brr m (uq f k (bn f k b)))) ∧ Hid (Below w.heap.size w wr)) (fun y _ => 8 - (intOf y).toNat)
      case atStart => exact ⟨0, by omega, rfl, HR, HB⟩
      case round =>
        clear HR HB
        obtain ⟨b, hb, rfl, HR, HB⟩ := hrel
        have hbw : IntKind.i64.wrap ((b : Int) + 1) = (b : Int) + 1 := by rw [IntKind.wrap_i64]; omega
        by_cases hb8 : b < 8
        · have hbi : (b : Int) < 8 := by omega
          have hb0 : (0 : Int) ≤ (b : Int) := by omega
          obtain ⟨p, hp⟩ : ∃ p, p0 + b = p := ⟨_, rfl⟩
          have hpw : IntKind.i64.wrap ((p0 : Int) + (b : Int)) = (p : Int) := by rw [IntKind.wrap_i64]; have := HM.out; have := HP0.out; have := HK.out; omega
          have hpn : (p : Int) < (n : Int) := by have := HN.out; have := HP0.out; have := HK.out; omega
          obtain ⟨gf, of, rfl, hcf⟩ := HA.out.below HB.out
          have cf := hcf p (by omega)
          have hst := bn_step f k b
          rw [HP0.out, hp] at hst
          have hq := bn_le f k b hb
          have hlt := bn_lt f k b
          obtain ⟨q, hqq⟩ : ∃ q, bn f k b = q := ⟨_, rfl⟩
          rw [hqq] at hst hq hlt
          have c1 : wr.cell? ⟨gb, k, none⟩ = some (.int .u8 (q : Int)) := by rw [HR.out.cell, brr_get _ HK.out, uq_self, hqq, bq q hq]
          have f1 := HR.out.free k
          cases hfp : f p
          · rw [hfp] at cf hst
            have HST := Lib.hid (p := bn f k (b + 1) = bn f k b) (by rw [hst, hqq]; rfl)
            have HB8 := Lib.hid hb8
            clear hcf hst hq hlt hqq c1 f1 hfp hp hb hb8
            go_wp2
            go_roundw
            case rel => exact ⟨b + 1, by have := HB8.out; omega, by go_num, by rw [HST.out]; exact HR, HB⟩
            case measure => have := HB8.out; simp [intOf]; omega
          · rw [hfp, if_pos rfl] at hst
            rw [hfp] at cf
            have hs1 := shl_bit b hb8
            have ho1 := or_bit q b hlt hb8
            obtain ⟨pp, hpp⟩ : ∃ pp, 2 ^ b = pp := ⟨_, rfl⟩
            rw [hpp] at hs1 ho1 hst hlt
            obtain ⟨q2, hq2⟩ : ∃ q2, q + pp = q2 := ⟨_, rfl⟩
            rw [hq2] at ho1 hst
            have hq2l : q2 < 256 := by rw [← hst]; exact bn_le f k (b + 1) (by omega)
            have HQQ := Lib.hid hqq
            have HST := Lib.hid hst
            have HQ2 := Lib.hid hq2l
            have HB8 := Lib.hid hb8
            clear hcf hst hq hlt hqq hfp hp hb hb8 hpp hq2 hq2l
            go_wp2
            go_region
            go_wp2
            go_roundw
            case rel => exact ⟨b + 1, by have := HB8.out; omega, by go_num, Lib.hid (by rw [HST.out, ← uq_upd f k q q2, ← brr_set, bq q2 HQ2.out, ← HQQ.out]; exact (HR.out.put _ _).drew), Lib.hid (HB.out.setCell (p := ⟨gb, k, none⟩) QB.out _).drew⟩
            case measure => have := HB8.out; simp [intOf]; omega
        · obtain rfl : b = 8 := by omega
          have HR2 := Lib.hid (p := Row wr gb 5 (brr m (uq f (k + 1) 0))) (by rw [← uq_next]; exact HR.out)
          clear hb hb8 HR
          go_wp2
          go_roundw
          case rel => exact ⟨k + 1, by have := HK.out; omega, by go_num, HR2, HB⟩
          case measure => have := HK.out; have := HM.out; simp [intOf]; omega
    · obtain rfl : k = m := by omega
      have HR2 := Lib.hid (p := Row wr gb 5 (brr k (bt f))) (by rw [brr_congr (g := uq f k 0) (fun j hj => by unfold uq; rw [if_pos hj])]; exact HR.out)
      have hki : ¬ (k : Int) < (k : Int) := by omega
      clear hk hkm HR
      go_wp2
      go_ret
      exact ⟨gb, rfl, HR2, QB, HB⟩
end Go.Proofs.YtfbfeplegdpemaaGreat
/- A run of bytes 0 appended to a row of the call's own that has room for them. No conditions but those named. -/
set_option linter.unusedVariables false
namespace Go.Proofs.YtfbfeplegdpemaaGreat
open Go.RowKit

theorem zero_list (m : Nat) : (Builtin.zeroCells #[Value.int .u8 0] m).toList = List.replicate m (Value.int .u8 0) := by
  apply List.ext_getElem
  · simp [Builtin.zeroCells]
  · intro i h1 h2
    simp [Builtin.zeroCells, Nat.mod_one]

theorem run_zeros {P : Program} (w : World) (t tn ty e : TypeId) (i : TypeInfo) (U : U8 P t e i) (htn : P.underlying tn = some (.int .i64)) (base g n m cap : Nat) (xs : List Value)
    (hown : w.ownsRow base e 1 (.slice (some ⟨g, 0, none⟩) n cap) n xs) (hfit : n + m ≤ cap) (hm : m ≤ 140737488355328) :
    ∃ w', (Builtin.append_ #[t, tn] ty #[.slice (some ⟨g, 0, none⟩) n cap, .int .i64 m]).run P w = .ok (.slice (some ⟨g, 0, none⟩) (n + m) cap) w' ∧
      w'.ownsRow base e 1 (.slice (some ⟨g, 0, none⟩) (n + m) cap) (n + m) (xs ++ List.replicate m (Value.int .u8 0)) ∧ w.grownBy w' (some g) := by
  obtain ⟨hl, h | ⟨g', cap', cur, hv, hb, hg, hn, hc, hs, ht⟩⟩ := hown
  · cases h.1
  simp only [Value.slice.injEq, Option.some.injEq, Addr.mk.injEq] at hv
  obtain ⟨⟨rfl, _⟩, _, rfl⟩ := hv
  have hst := run_storeCells_at P g n e (List.replicate m (Value.int .u8 0)) 0 cur w hg (by simp; omega) (fun v hv => by rw [List.eq_of_mem_replicate hv]; rfl)
  have hwr : IntKind.i64.wrap (m : Int) = m := by rw [IntKind.wrap_i64]; omega
  have hadd : (⟨g, 0, none⟩ : Addr).add n = ⟨g, n, none⟩ := by unfold Addr.add; split <;> simp_all
  simp only [Nat.add_zero, List.length_replicate] at hst
  obtain ⟨cur', hcur⟩ : ∃ cur' : Array Value, cur' = (cur.toList.take n ++ List.replicate m (Value.int .u8 0) ++ cur.toList.drop (n + m)).toArray := ⟨_, rfl⟩
  rw [← hcur] at hst
  have hx : xs.length = n := by omega
  refine ⟨w.setRow g cur', ?_, ⟨?_, .inr ⟨g, cap, cur', rfl, hb, setRow_heap w g _ _ e _ hg, hfit, hc, ?_, ?_⟩⟩, ⟨rfl, rfl, rfl, by simp, fun k hk hne => setRow_other w g k _ (fun e => hne (by rw [e]))⟩⟩
  · have hneg : ¬ ((m : Int) < 0) := by omega
    have h48 : ¬ ((281474976710656 : Int) < m) := by omega
    by_cases h0 : m = 0
    · subst h0
      have hw0 : IntKind.i64.wrap 0 = 0 := by decide
      have hf0 : n ≤ cap := by omega
      simp [Builtin.append_, run_underlying U.ht, run_underlying htn, sizeOf, typeInfo, zeroValue, U.hi, U.hz, U.h1, U.h2, asInt, asIntOf, hw0, hf0, hadd]
      simp at hst
      simp [hst]
    · have hc0 : (Value.int IntKind.u8 0).cells = #[Value.int IntKind.u8 0] := rfl
      simp [Builtin.append_, run_underlying U.ht, run_underlying htn, sizeOf, typeInfo, zeroValue, U.hi, U.hz, U.h1, U.h2, asInt, asIntOf, hwr, hfit, hneg, h48, hadd, h0, hc0, zero_list, hst]
  · simp only [List.length_append, List.length_replicate, hl]
    omega
  · rw [hcur]
    simp
    omega
  · rw [hcur]
    simp only [Nat.mul_one] at ht ⊢
    rw [← ht, List.take_left']
    simp
    omega

end Go.Proofs.YtfbfeplegdpemaaGreat
/- A run of zeros, appended to a row of bytes of the call's own: whether there is room or not. No conditions. -/
set_option linter.unusedVariables false
namespace Go.Proofs.YtfbfeplegdpemaaGreat
open Go.RowKit

theorem run_zeros_grow {P : Program} (w : World) (t tn ty e : TypeId) (i : TypeInfo) (U : U8 P t e i) (htn : P.underlying tn = some (.int .i64)) (base g n m cap : Nat) (xs : List Value)
    (hown : w.ownsRow base e 1 (.slice (some ⟨g, 0, none⟩) n cap) n xs) (hg : cap < n + m) (hm0 : 0 < m) (hm : n + m ≤ 1000000) (hbase : base ≤ w.heap.size) :
    ∃ c' w', (Builtin.append_ #[t, tn] ty #[.slice (some ⟨g, 0, none⟩) n cap, .int .i64 m]).run P w = .ok (.slice (some ⟨w.heap.size, 0, none⟩) (n + m) c') w' ∧
      w'.ownsRow base e 1 (.slice (some ⟨w.heap.size, 0, none⟩) (n + m) c') (n + m) (xs ++ List.replicate m (Value.int .u8 0)) ∧ w.grownBy w' none := by
  have hl : xs.length = n * 1 := hown.1
  have holds : ∀ j u, xs[j]? = some u → w.cell? ((⟨g, 0, none⟩ : Addr).add j) = some u := hown.cells (g := g) rfl
  have hn : ¬ (n + m ≤ cap) := by omega
  have h63' : ¬ (9223372036854775807 < ((n : Int) + (m : Int))) := by omega
  have hcapm : cap ≤ maxLen := by
    rcases hown.2 with ⟨h, _⟩ | ⟨g', cap', cur, hv, hb, hg', hn', hc, hs, ht⟩
    · cases h
    · simp only [Value.slice.injEq] at hv
      omega
  have h48 : Builtin.nextslicecap (n + m) cap * 1 ≤ 281474976710656 := growslice_fits (by omega) (by omega)
  have h48' : ¬ (281474976710656 < Builtin.nextslicecap (n + m) cap) := by omega
  have hwr : IntKind.i64.wrap (m : Int) = m := by rw [IntKind.wrap_i64]; omega
  have hneg : ¬ ((m : Int) < 0) := by omega
  have hbig : ¬ ((281474976710656 : Int) < m) := by omega
  have h0 : m ≠ 0 := by omega
  have hfo := run_firstCells_some (P := P) w.drew 1 n ⟨g, 0, none⟩ n cap xs hl (by simpa using holds)
  have hc0 : (Value.int IntKind.u8 0).cells = #[Value.int IntKind.u8 0] := rfl
  have hge := grownCap_ge w (n + m) cap e
  have hcm : grownCap w (n + m) cap e ≤ maxLen := grownCap_le_maxLen w (n + m) cap e (by unfold maxLen; omega)
  have hzl : Builtin.zeroCells #[Value.int .u8 0] m = (List.replicate m (Value.int .u8 0)).toArray := by
    apply Array.ext'
    rw [zero_list]
  have hlen : (xs ++ List.replicate m (Value.int .u8 0)).length = (n + m) * 1 := by rw [List.length_append, List.length_replicate]; omega
  refine ⟨grownCap w (n + m) cap e, w.drew.alloc (.cells (xs.toArray ++ (List.replicate m (Value.int .u8 0)).toArray ++ Builtin.zeroCells #[Value.int .u8 0] (grownCap w (n + m) cap e - (n + m))) e), ?_, ⟨hlen, .inr ⟨w.heap.size, _, _, rfl, hbase, heap_alloc_new w.drew _, hge, hcm, ?_, ?_⟩⟩, ⟨rfl, rfl, rfl, by simp, fun k hk _ => (heap_alloc_old w.drew _ hk)⟩⟩
  · simp [Builtin.append_, run_underlying U.ht, run_underlying htn, sizeOf, typeInfo, zeroValue, U.hi, U.hz, U.h1, U.h2, asInt, asIntOf, hwr, hneg, hbig, h0, hn, h63', h48', Question.forced, hfo, hc0, hzl, newRow, grownCap]
  · have hz1 : (Builtin.zeroCells #[Value.int .u8 0] (grownCap w (n + m) cap e - (n + m))).size = grownCap w (n + m) cap e - (n + m) := by
      rw [← Array.length_toList, zero_list, List.length_replicate]
    simp only [Array.size_append, List.size_toArray, hz1, List.length_replicate]
    omega
  · simp only [Array.toList_append]
    rw [← hlen]
    exact List.take_left
/-- At the operation. -/
theorem wpList_zeros {P : Program} {w : World} {ops : Array Oper} {rest : List Oper} {o : Oper} {a : Act} {Q : Exit → Act → World → Prop} (hgd : o.guard = none) (s x : Operand) (t tn : TypeId)
    (ho : o.op = .call { callee := .builtin .append, args := #[s, x], argTypes := #[t, tn] }) (e : TypeId) (i : TypeInfo) (U : U8 P t e i) (htn : P.underlying tn = some (.int .i64)) (base g n m cap : Nat) (xs : List Value)
    (hs : a.eval s = .slice (some ⟨g, 0, none⟩) n cap) (hx : a.eval x = .int .i64 m) (hown : w.ownsRow base e 1 (.slice (some ⟨g, 0, none⟩) n cap) n xs) (hm0 : 0 < m) (hm : n + m ≤ 1000000) (hbase : base ≤ w.heap.size)
    (h : ∀ g' c' w', w'.ownsRow base e 1 (.slice (some ⟨g', 0, none⟩) (n + m) c') (n + m) (xs ++ List.replicate m (Value.int .u8 0)) → w.grownBy w' (some g) → wpList P ops Q rest (a.put o.dst (.slice (some ⟨g', 0, none⟩) (n + m) c')) w') : wpList P ops Q (o :: rest) a w := by
  by_cases hfit : n + m ≤ cap
  · obtain ⟨w', hr, h1, h2⟩ := run_zeros (P := P) w t tn o.type e i U htn base g n m cap xs hown hfit (by omega)
    exact Lib.wpList_append_run w hgd s x t tn ho _ _ hs hx _ _ hr (h g cap w' h1 h2)
  · obtain ⟨c', w', hr, h1, h2⟩ := run_zeros_grow (P := P) w t tn o.type e i U htn base g n m cap xs hown (by omega) hm0 hm hbase
    exact Lib.wpList_append_run w hgd s x t tn ho _ _ hs hx _ _ hr (h w.heap.size c' w' h1 ⟨h2.os, h2.tape, h2.output, h2.size, fun k hk _ => h2.block k hk (by simp)⟩)
end Go.Proofs.YtfbfeplegdpemaaGreat
