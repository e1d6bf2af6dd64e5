/- Numbers put behind bytes by package wire: what each call leaves, for every argument (bytes of at most 2^45). No other conditions. -/
import Derived.Test.YtfbfeplegdpemaaGreatChecked
import Derived.Test.YtfbfeplegdpemaaGreatMgMem
import Derived.WalkKit
import Derived.WalkMore
import Derived.WalkSpells
import Derived.WalkLawsBesides
import Derived.Outline
import Derived.Test.YtfbfeplegdpemaaGreatMgGu
import Derived.Test.YtfbfeplegdpemaaGreatMgRBy
import Derived.Laws.CopyRow
import Derived.Lib.AppendZeros
import Derived.Maps.AppendAt
set_option linter.unusedVariables false
namespace Go.Proofs.YtfbfeplegdpemaaGreat
open Go.RowKit

theorem info5 : (Tryz.prog.info? 5).map (fun i => (i.zero, i.size, i.bytes)) = some (some (.int .u8 0), 1, 1) := by kernel_rfl
theorem u8_table : ∃ i, U8 Tryz.prog 22 5 i := by
  obtain ⟨i, hi, hz, h1, h2⟩ := info_parts info5
  exact ⟨i, Tryz.underlying22, hi, hz, h1, h2⟩

theorem width_any (n : Int) (w : World) : Calls Tryz.prog 107 #[.int .i64 n] w fun e w' => e = .returned (.int .i64 (wid n : Nat)) ∧ w = w' := by
  by_cases h8 : n = 8
  · subst h8
    go_enter Tryz.func107, Tryz.ntmps107
    go_wp2
    go_ret
    exact ⟨rfl, rfl⟩
  by_cases h4 : n = 4
  · subst h4
    go_enter Tryz.func107, Tryz.ntmps107
    go_wp2
    go_ret
    exact ⟨rfl, rfl⟩
  by_cases h2 : n = 2
  · subst h2
    go_enter Tryz.func107, Tryz.ntmps107
    go_wp2
    go_ret
    exact ⟨rfl, rfl⟩
  by_cases h1 : n = 1
  · subst h1
    go_enter Tryz.func107, Tryz.ntmps107
    go_wp2
    go_ret
    exact ⟨rfl, rfl⟩
  have e8 : (n == 8) = false := by simp [h8]
  have e4 : (n == 4) = false := by simp [h4]
  have e2 : (n == 2) = false := by simp [h2]
  have e1 : (n == 1) = false := by simp [h1]
  have hw : wid n = 0 := by simp [wid, h8, h4, h2, h1]
  rw [hw]
  clear h8 h4 h2 h1 hw
  go_enter Tryz.func107, Tryz.ntmps107
  go_wp2
  go_ret
  exact ⟨rfl, rfl⟩

theorem room_any (A : Option Addr) (c : Nat) (l : List UInt8) (more : Nat) (w : World) (hA : Hol w A l) (hb : l.length + more ≤ 70368744177664) :
    Calls Tryz.prog 106 #[.slice A l.length c, .int .i64 more] w fun e w' => ∃ v, e = .returned v ∧ w'.ownsRow w.heap.size 5 1 v l.length (bc l) ∧ Below w.heap.size w w' := by
  obtain ⟨i, U⟩ := u8_table
  go_enter Tryz.func106, Tryz.ntmps106
  go_wp2_with (first
    | (refine wpList_make_own _ rfl _ _ 22 rfl w.heap.size 5 i (.int .u8 0) 1 U.ht U.hi U.hz U.h1 .i64 .i64 _ (l.length + more) rfl rfl (by omega) (by rw [U.h2]; omega) (by unfold maxLen; omega) (Nat.le_refl _) ?_
       intro w1 hown1 hg1)
    | (at_builtin
       refine wpList_app _ rfl _ _ _ rfl 5 i U w.heap.size _ 0 [] rfl hown1 A l.length c l rfl rfl (hA.below (below_of_grown hg1)) (by omega) hg1.size ?_
       intro v2 w2 hown2 hg2 hat2))
  go_ret
  refine ⟨v2, rfl, by simpa using hown2, (below_of_grown hg1).grown hg2 hg1.size (fun k hk => (hown1.lt k hk).1)⟩

/-- One byte in a new block of its own. -/
theorem hol_one (w : World) (e : TypeId) (x : UInt8) (z : Int) (hz : z = (x.toNat : Int)) : Hol (w.alloc (.cells #[.int .u8 z] e)) (some ⟨w.heap.size, 0, none⟩) [x] := by
  subst hz
  refine .inr ⟨w.heap.size, 0, rfl, fun j y hy => ?_⟩
  match j, hy with
  | 0, hy =>
    simp at hy
    subst hy
    simp

theorem byte_shr (x k : Nat) : (x : Int) / 2 ^ (8 * k) % 256 = ((UInt8.ofNat (x / 256 ^ k)).toNat : Int) := by
  have e : (UInt8.ofNat (x / 256 ^ k)).toNat = x / 256 ^ k % 256 := UInt8.toNat_ofNat' ..
  have e2 : (2 : Int) ^ (8 * k) = ((256 ^ k : Nat) : Int) := by
    rw [Int.pow_mul]
    simp
  rw [e, e2]
  omega

set_option maxHeartbeats 400000 in
theorem number_any (B : Nat) (v : Value) (n : Nat) (l : List UInt8) (size : Nat) (x : Nat) (w : World) (hown : w.ownsRow B 5 1 v n (bc l)) (hs : size ≤ 8) (hx : x < 18446744073709551616)
    (hn : n ≤ 70368744177664) (hB : B ≤ w.heap.size) :
    Calls Tryz.prog 119 #[v, .int .i64 size, .int .u64 x] w fun e w' => ∃ v', e = .returned v' ∧ w'.ownsRow B 5 1 v' (n + size) (bc (l ++ leb x size)) ∧ Below B w w' := by
  obtain ⟨i, U⟩ := u8_table
  go_enter Tryz.func119, Tryz.ntmps119
  go_wp2
  go_loopw [0, 9] (fun s i wr => ∃ k : Nat, k ≤ size ∧ i = .int .i64 k ∧ wr.ownsRow B 5 1 s (n + k) (bc (l ++ leb x k)) ∧ Below B w wr) (fun _ i _ => size - (intOf i).toNat)
  case atStart => exact ⟨0, Nat.zero_le _, rfl, by simpa [leb] using hown, Below.refl _ _⟩
  case round =>
    obtain ⟨k, hk, rfl, hown1, hb1⟩ := hrel
    by_cases hlt : k < size
    · go_wp2_with (at_builtin; refine wpList_app _ rfl _ _ _ rfl 5 i U B _ (n + k) _ rfl (hown1.alloc _) (some ⟨wr.heap.size, 0, none⟩) 1 1 [UInt8.ofNat (x / 256 ^ k)] rfl rfl (hol_one _ _ _ _ ?hz) (by omega) (by have := hb1.size; simp; omega) ?_)
      case hz => exact byte_shr x k
      intro v2 w2 hown2 hg2 hat2
      have hb2 : Below B w w2 := (hb1.alloc (by have := hb1.size; omega) _).grown hg2 (by have := hb1.size; simp; omega) (fun k hk => (hown1.lt k hk).1)
      have hown3 : w2.ownsRow B 5 1 v2 (n + (k + 1)) (bc (l ++ leb x (k + 1))) := by
        rw [leb_succ, ← List.append_assoc, bc_app]
        exact hown2
      clear hown2 hg2 hat2 hown1 hb1
      go_wp2
      go_roundw
      case rel => exact ⟨k + 1, by omega, by go_num, hown3, hb2⟩
      case measure => simp [intOf]; omega
    · go_wp2
      go_ret
      have hks : k = size := by omega
      subst hks
      exact ⟨_, rfl, hown1, hb1⟩

theorem put_arg (v : Value) (size : Int) (x : Nat) (w : World) (h : wid size = 0) :
    Calls Tryz.prog 104 #[v, .int .i64 size, .int .u64 x] w fun e w' => e = .returned (.tuple #[.slice none 0 0, .int .i64 201]) ∧ w = w' := by
  go_enter Tryz.func104, Tryz.ntmps104
  go_wp2_with (go_at_call 107; refine (width_any _ _).mono ?_; rintro e w' ⟨rfl, rfl⟩; rw [h])
  go_ret2
  exact ⟨rfl, rfl⟩

theorem put_long (v : Value) (size : Int) (x : Nat) (w : World) (h : wid size ≠ 0) (hx : x / 2 ^ wid size ≠ 0) (h64 : wid size < 64) :
    Calls Tryz.prog 104 #[v, .int .i64 size, .int .u64 x] w fun e w' => e = .returned (.tuple #[.slice none 0 0, .int .i64 202]) ∧ w = w' := by
  go_enter Tryz.func104, Tryz.ntmps104
  have hx2 : ((x : Int) / 2 ^ wid size != 0) = true := by
    rw [bne_iff_ne]
    intro e
    apply hx
    have : ((x / 2 ^ wid size : Nat) : Int) = 0 := by rw [← e]; simp
    omega
  have hw0 : ((wid size : Int) == 0) = false := by simp; omega
  clear hx h
  go_wp2_with (go_at_call 107; refine (width_any _ _).mono ?_; rintro e w' ⟨rfl, rfl⟩)
  go_ret2
  exact ⟨rfl, rfl⟩
def putR (l : List UInt8) (size : Int) (x : Nat) : List UInt8 × Int :=
  if wid size = 0 then ([], 201) else if x / 256 ^ size.toNat ≠ 0 then ([], 202) else (l ++ leb x size.toNat, 0)
/-- Bytes and an error, the bytes the call's own. -/
def BytesPost (w : World) (r : List UInt8 × Int) (e : Ending) (w' : World) : Prop :=
  ∃ v, e = .returned (.tuple #[v, .int .i64 r.2]) ∧ w'.ownsRow w.heap.size 5 1 v r.1.length (bc r.1) ∧ Below w.heap.size w w'
theorem wid_pow (size : Int) (h : wid size ≠ 0) : (2 : Nat) ^ wid size = 256 ^ size.toNat := by
  have h1 := wid_eq h
  have h2 := wid_pos h
  have e : wid size = 8 * size.toNat := by omega
  rw [e, Nat.pow_mul]

theorem put_any (A : Option Addr) (c : Nat) (l : List UInt8) (size : Int) (x : Nat) (w : World) (hA : Hol w A l) (hx : x < 18446744073709551616) (hl : l.length ≤ 35184372088832) :
    Calls Tryz.prog 104 #[.slice A l.length c, .int .i64 size, .int .u64 x] w (BytesPost w (putR l size x)) := by
  by_cases h : wid size = 0
  · have hr : putR l size x = ([], 201) := by unfold putR; rw [if_pos h]
    rw [hr]
    exact (put_arg _ size x w h).mono fun e w' ⟨he, hw⟩ => ⟨_, he, World.ownsRow_nil _ _ _ _, by rw [hw]; exact Below.refl _ _⟩
  by_cases hx2 : x / 256 ^ size.toNat ≠ 0
  · have hr : putR l size x = ([], 202) := by unfold putR; rw [if_neg h, if_pos hx2]
    rw [hr]
    refine (put_long _ size x w h (by rw [wid_pow size h]; exact hx2) ?_).mono fun e w' ⟨he, hw⟩ => ⟨_, he, World.ownsRow_nil _ _ _ _, by rw [hw]; exact Below.refl _ _⟩
    have hp := wid_pos h
    have he := wid_eq h
    rcases (by omega : size = 8 ∨ size < 8) with h8 | h8
    · exfalso
      apply hx2
      rw [h8]
      exact Nat.div_eq_of_lt (by simpa using hx)
    · omega
  · have hr : putR l size x = (l ++ leb x size.toNat, 0) := by unfold putR; rw [if_neg h, if_neg hx2]
    rw [hr]
    have hp := wid_pos h
    have he := wid_eq h
    have hx3 : ((x : Int) / 2 ^ wid size != 0) = false := by
      rw [bne_eq_false_iff_eq]
      have e1 : (2 : Int) ^ wid size = ((256 ^ size.toNat : Nat) : Int) := by rw [← wid_pow size h, Int.natCast_pow]; rfl
      rw [e1]
      have : x / 256 ^ size.toNat = 0 := by simpa using hx2
      rw [← Int.natCast_ediv, this]
      rfl
    have hw0 : ((wid size : Int) == 0) = false := by simp; omega
    have hw1 : wid size ≤ 64 := wid_le size
    obtain ⟨k, rfl⟩ := Int.eq_ofNat_of_zero_le (by omega : 0 ≤ size)
    rw [Int.toNat_natCast]
    have hk : k ≤ 8 := by omega
    clear hx2 h hr hp he
    go_enter Tryz.func104, Tryz.ntmps104
    go_wp2_with (first
      | (go_at_call 107; refine (width_any _ _).mono ?_; rintro e w' ⟨rfl, rfl⟩)
      | (go_at_call 106; refine (room_any A c l k w hA (by omega)).mono ?_; rintro e w1 ⟨v, rfl, hown1, hb1⟩)
      | (go_at_call 119; refine (number_any w.heap.size v l.length l k x w1 hown1 hk hx (by omega) hb1.size).mono ?_; rintro e w2 ⟨v2, rfl, hown2, hb2⟩))
    go_ret2
    refine ⟨v2, rfl, ?_, hb1.trans hb2⟩
    have : (l ++ leb x k).length = l.length + k := by rw [List.length_append, leb_len]
    rw [this]
    exact hown2

end Go.Proofs.YtfbfeplegdpemaaGreat
/- Flags as bytes, and a super's block by its places. No conditions. -/
set_option linter.unusedVariables false
set_option maxRecDepth 20000
namespace Go.Proofs.YtfbfeplegdpemaaGreat
open Go.RowKit

/-- The number of a byte's first so many bits. -/
def bn (f : Nat → Bool) (k : Nat) : Nat → Nat
  | 0 => 0
  | m + 1 => bn f k m + if f (8 * k + m) then 2 ^ m else 0
theorem bn_lt (f : Nat → Bool) (k : Nat) : ∀ m, bn f k m < 2 ^ m
  | 0 => by show 0 < 1; omega
  | m + 1 => by
    have ih := bn_lt f k m
    show bn f k m + (if f (8 * k + m) then 2 ^ m else 0) < 2 ^ (m + 1)
    rw [Nat.pow_succ]
    split <;> omega
theorem bn_step (f : Nat → Bool) (k m : Nat) : bn f k (m + 1) = bn f k m + if f (8 * k + m) then 2 ^ m else 0 := rfl
def bt (f : Nat → Bool) (k : Nat) : UInt8 := UInt8.ofNat (bn f k 8)
theorem or_bits : ∀ m : Fin 8, ∀ q : Fin 128, q.val < 2 ^ m.val → bits .or .u8 (q.val : Int) ((2 ^ m.val : Nat) : Int) = ((q.val + 2 ^ m.val : Nat) : Int) := by decide +kernel
theorem or_bit (q m : Nat) (hq : q < 2 ^ m) (hm : m < 8) : bits .or .u8 (q : Int) ((2 ^ m : Nat) : Int) = ((q + 2 ^ m : Nat) : Int) := by
  have h : 2 ^ m ≤ 2 ^ 7 := Nat.pow_le_pow_right (by decide) (by omega)
  exact or_bits ⟨m, hm⟩ ⟨q, by have e : (2 : Nat) ^ 7 = 128 := rfl; omega⟩ hq
theorem shl_bits : ∀ m : Fin 8, IntKind.u8.wrap ((2 : Int) ^ m.val) = ((2 ^ m.val : Nat) : Int) := by decide +kernel
theorem shl_bit (m : Nat) (hm : m < 8) : IntKind.u8.wrap ((2 : Int) ^ m) = ((2 ^ m : Nat) : Int) := shl_bits ⟨m, hm⟩
/-- A byte's bit. -/
def ub (x : UInt8) (b : Nat) : Bool := x.toNat / 2 ^ b % 2 == 1
/-! A super's block. -/
def sgn (j : Nat) : UInt8 := match j with
  | 0 => 79
  | 1 => 85
  | 2 => 66
  | 3 => 49
  | _ => 0
def Sup.pb (x : Sup) (j : Nat) : UInt8 :=
  if j < 4 then sgn j else if j < 12 then UInt8.ofNat (x.s / 256 ^ (j - 4)) else if j < 44 then bt x.u (j - 12) else if j < 172 then UInt8.ofNat ((x.i (1 + (j - 44) / 2)).toNat / 256 ^ ((j - 44) % 2)) else if j < 180 then bt (fun k => x.o (k + 1)) (j - 172) else 0
theorem lst_add (a b : Nat) (f : Nat → UInt8) : lst (a + b) f = lst a f ++ lst b (fun j => f (a + j)) := by
  unfold lst
  rw [List.range_add, List.map_append, List.map_map]
  rfl
theorem lst_congr {n : Nat} {f g : Nat → UInt8} (h : ∀ j, j < n → f j = g j) : lst n f = lst n g := List.map_congr_left fun j hj => h j (List.mem_range.1 hj)
theorem leb_lst (v k : Nat) : leb v k = lst k (fun j => UInt8.ofNat (v / 256 ^ j)) := rfl
theorem Sup.pb_sgn (x : Sup) : lst 4 x.pb = [79, 85, 66, 49] := rfl
theorem Sup.pb_ser (x : Sup) : lst 12 x.pb = lst 4 x.pb ++ leb x.s 8 := by
  rw [show 12 = 4 + 8 from rfl, lst_add, leb_lst]
  congr 1
  all_goals
    refine lst_congr fun j hj => ?_
    unfold Sup.pb
    rw [if_neg (by omega), if_pos (by omega), show 4 + j - 4 = j by omega]
theorem Sup.pb_used (x : Sup) : lst 44 x.pb = lst 12 x.pb ++ lst 32 (bt x.u) := by
  rw [show 44 = 12 + 32 from rfl, lst_add]
  congr 1
  all_goals
    refine lst_congr fun j hj => ?_
    unfold Sup.pb
    rw [if_neg (by omega), if_neg (by omega), if_pos (by omega), show 12 + j - 12 = j by omega]
theorem Sup.pb_ino (x : Sup) (k : Nat) (hk : k < 64) : lst (44 + 2 * (k + 1)) x.pb = lst (44 + 2 * k) x.pb ++ leb (x.i (k + 1)).toNat 2 := by
  rw [show 44 + 2 * (k + 1) = (44 + 2 * k) + 2 by omega, lst_add, leb_lst]
  congr 1
  refine lst_congr fun j hj => ?_
  unfold Sup.pb
  rw [if_neg (by omega), if_neg (by omega), if_neg (by omega), if_pos (by omega), show 44 + 2 * k + j - 44 = 2 * k + j by omega, show 1 + (2 * k + j) / 2 = k + 1 by omega, show (2 * k + j) % 2 = j by omega]
theorem Sup.pb_orp (x : Sup) : lst 180 x.pb = lst 172 x.pb ++ lst 8 (bt fun k => x.o (k + 1)) := by
  rw [show 180 = 172 + 8 from rfl, lst_add]
  congr 1
  all_goals
    refine lst_congr fun j hj => ?_
    unfold Sup.pb
    rw [if_neg (by omega), if_neg (by omega), if_neg (by omega), if_neg (by omega), if_pos (by omega), show 172 + j - 172 = j by omega]
theorem Sup.pb_rest (x : Sup) : lst 256 x.pb = lst 180 x.pb ++ List.replicate 76 0 := by
  rw [show 256 = 180 + 76 from rfl, lst_add]
  have e : lst 76 (fun j => x.pb (180 + j)) = List.replicate 76 0 := by
    rw [lst_congr (g := fun _ => 0) (fun j hj => by unfold Sup.pb; rw [if_neg (by omega), if_neg (by omega), if_neg (by omega), if_neg (by omega), if_neg (by omega)])]
    rfl
  rw [e]
/-- Flags as they lie. -/
def HolBo (w : World) (A : Option Addr) (n : Nat) (f : Nat → Bool) : Prop := ∃ g o, A = some ⟨g, o, none⟩ ∧ ∀ j, j < n → w.cell? ⟨g, o + j, none⟩ = some (.bool (f j))
theorem HolBo.below {w w' : World} {A : Option Addr} {n : Nat} {f : Nat → Bool} (h : HolBo w A n f) (hb : Below w.heap.size w w') : HolBo w' A n f := by
  obtain ⟨g, o, rfl, hc⟩ := h
  exact ⟨g, o, rfl, fun j hj => (hb.cell (p := ⟨g, o + j, none⟩) (World.block_lt_of_cell? w _ (hc j hj))).trans (hc j hj)⟩
theorem Sup.hol_u {w : World} {g : Nat} {t : TypeId} {x : Sup} (h : Row w g t x.cs) : HolBo w (some ⟨g, 1, none⟩) 256 x.u := ⟨g, 1, rfl, fun j hj => by rw [h.cell, x.c_u hj]⟩
theorem Sup.hol_o {w : World} {g : Nat} {t : TypeId} {x : Sup} (h : Row w g t x.cs) : HolBo w (some ⟨g, 323, none⟩) 64 (fun k => x.o (k + 1)) := ⟨g, 323, rfl, fun j hj => by rw [h.cell, show 323 + j = 322 + (j + 1) by omega, x.c_o (by omega)]⟩
end Go.Proofs.YtfbfeplegdpemaaGreat
/- Package grant: a number as bytes, flags as bytes. No conditions but those named. -/
set_option linter.unusedVariables false
set_option maxRecDepth 20000
namespace Go.Proofs.YtfbfeplegdpemaaGreat
open Go.RowKit

theorem bq (q : Nat) (h : q < 256) : B (UInt8.ofNat q) = .int .u8 (q : Int) := by
  show Value.int .u8 (((UInt8.ofNat q).toNat : Nat) : Int) = _
  rw [UInt8.toNat_ofNat']
  have e8 : (2 : Nat) ^ 8 = 256 := rfl
  rw [e8, Nat.mod_eq_of_lt h]
/-- New bytes. -/
def NewB (w : World) (l : List UInt8) (e : Ending) (w' : World) : Prop := ∃ A c, e = .returned (.slice A l.length c) ∧ Hid (w'.ownsRow w.heap.size 5 1 (.slice A l.length c) l.length (bc l)) ∧ Hid (Below w.heap.size w w')
theorem gnumber_any (k x : Nat) (hk : k = 2 ∨ k = 8) (hx : x < 256 ^ k) (w : World) : Calls Tryz.prog 91 #[.int .i64 (k : Int), .int .u64 (x : Int)] w (NewB w (leb x k)) := by
  have hx64 : x < 18446744073709551616 := by
    rcases hk with rfl | rfl
    · have e : (256 : Nat) ^ 2 = 65536 := rfl
      omega
    · exact hx
  have hp := put_any none 0 [] (k : Int) x w (.inl rfl) hx64 (by simp)
  have hr : putR [] (k : Int) x = (leb x k, 0) := by
    unfold putR
    rw [if_neg (by rcases hk with rfl | rfl <;> decide), if_neg (by rw [Int.toNat_natCast]; intro h; exact h (Nat.div_eq_of_lt hx)), Int.toNat_natCast]
    rfl
  rw [hr] at hp
  have HP := Lib.hid hp
  clear hp hr hx hx64 hk
  go_enter Tryz.func91, Tryz.ntmps91
  go_wp2_with (go_at_call 104; refine HP.out.mono ?_; rintro e w1 ⟨v, rfl, hown, hb⟩
               obtain ⟨A1, c1, rfl⟩ := own_sl hown
               have HO := Lib.hid hown
               have HB := Lib.hid hb
               clear hown hb)
  go_ret
  exact ⟨A1, c1, rfl, HO, HB⟩
/-! Flags. -/
def uq (f : Nat → Bool) (k q : Nat) (j : Nat) : UInt8 := if j < k then bt f j else if j = k then UInt8.ofNat q else 0
theorem uq_self (f : Nat → Bool) (k q : Nat) : uq f k q k = UInt8.ofNat q := by unfold uq; rw [if_neg (by omega), if_pos rfl]
theorem uq_upd (f : Nat → Bool) (k q q2 : Nat) : upd (uq f k q) k (UInt8.ofNat q2) = uq f k q2 := by
  funext j
  unfold upd uq
  by_cases h : j = k
  · rw [if_pos h, if_neg (by omega), if_pos h]
  · rw [if_neg h]
    by_cases h2 : j < k
    · rw [if_pos h2, if_pos h2]
    · rw [if_neg h2, if_neg h2, if_neg h, if_neg h]
theorem uq_next (f : Nat → Bool) (k : Nat) : uq f k (bn f k 8) = uq f (k + 1) 0 := by
  funext j
  unfold uq
  by_cases h : j < k
  · rw [if_pos h, if_pos (by omega)]
  · rw [if_neg h]
    by_cases h2 : j = k
    · subst h2
      rw [if_pos rfl, if_pos (by omega)]
      rfl
    · rw [if_neg h2, if_neg (by omega)]
      split <;> rfl
theorem uq_zero (f : Nat → Bool) : uq f 0 0 = fun _ => 0 := by
  funext j
  unfold uq
  rw [if_neg (by omega)]
  split <;> rfl
theorem bn_le (f : Nat → Bool) (k m : Nat) (hm : m ≤ 8) : bn f k m < 256 := by
  have h1 := bn_lt f k m
  have h2 : 2 ^ m ≤ 2 ^ 8 := Nat.pow_le_pow_right (by decide) hm
  have e : (2 : Nat) ^ 8 = 256 := rfl
  omega
set_option maxHeartbeats 4000000 in
theorem packbits_any (A : Option Addr) (c n m : Nat) (f : Nat → Bool) (hn : n = 8 * m) (hm : m ≤ 32) (hc : n ≤ c) (w : World) (hA : HolBo w A n f) : Calls Tryz.prog 92 #[.slice A n c] w fun e w' => ∃ g, e = .returned (.slice (some ⟨g, 0, none⟩) m m) ∧ Hid (Row w' g 5 (brr m (bt f))) ∧ Hid (w.heap.size ≤ g) ∧ Hid (Below w.heap.size w w') := by
  obtain ⟨i, U⟩ := u8_tab
  have h1 : (n : Int) / 8 = (m : Int) := by omega
  have h2 : Int.tdiv (n : Int) 8 = (m : Int) := by rw [Int.tdiv_eq_ediv_of_nonneg (by omega)]; exact h1
  have h3 : wrap64 (m : Int) = (m : Int) := by unfold wrap64; omega
  have HA := Lib.hid hA
  have HN := Lib.hid hn
  have HM := Lib.hid hm
  clear hA hn hm hc
  go_enter Tryz.func92, Tryz.ntmps92
  go_wp2_with (refine step_make rfl _ _ 22 5 i U rfl m (congrArg (Value.int .i64) h3) (congrArg (Value.int .i64) h3) (by have := HM.out; omega) ?_; intro gb w1 hr1 hg1 hb1 hs1
               have R1 := Lib.hid hr1
               have HB1 := Lib.hid hb1
               have QB := Lib.hid (p := w.heap.size ≤ gb) (by rw [hg1.out]; exact Nat.le_refl _)
               clear hr1 hg1 hb1 hs1)
  have R1' := Lib.hid (p := Row w1 gb 5 (brr m (uq f 0 0))) (by rw [uq_zero]; exact R1.out)
  clear R1
  go_loopw [12] (fun y wr => ∃ k : Nat, k ≤ m ∧ y = .int .i64 (k : Int) ∧ Hid (Row wr gb 5 (brr m (uq f k 0))) ∧ Hid (Below w.heap.size w wr)) (fun y _ => 32 - (intOf y).toNat)
  case atStart => exact ⟨0, by omega, rfl, R1', HB1⟩
  case round =>
    clear R1' HB1
    obtain ⟨k, hk, rfl, HR, HB⟩ := hrel
    have hkw : IntKind.i64.wrap ((k : Int) + 1) = (k : Int) + 1 := by rw [IntKind.wrap_i64]; have := HM.out; omega
    by_cases hkm : k < m
    · have hki : (k : Int) < (m : Int) := by omega
      have HK := Lib.hid hkm
      have h8k : IntKind.i64.wrap (8 * (k : Int)) = ((8 * k : Nat) : Int) := by rw [IntKind.wrap_i64]; have := HM.out; omega
      obtain ⟨p0, hp0⟩ : ∃ p0, 8 * k = p0 := ⟨_, rfl⟩
      rw [hp0] at h8k
      have HP0 := Lib.hid hp0
      clear hk hkm hp0
      go_wp2
      go_loopw [15] (fun y wr => ∃ b : Nat, b ≤ 8 ∧ y = .int .i64 (b : Int) ∧ Hid (Row wr gb 5 (brr m (uq f k (bn f k b)))) ∧ Hid (Below w.heap.size w wr)) (fun y _ => 8 - (intOf y).toNat)
      case atStart => exact ⟨0, by omega, rfl, HR, HB⟩
      case round =>
        clear HR HB
        obtain ⟨b, hb, rfl, HR, HB⟩ := hrel
        have hbw : IntKind.i64.wrap ((b : Int) + 1) = (b : Int) + 1 := by rw [IntKind.wrap_i64]; omega
        by_cases hb8 : b < 8
        · have hbi : (b : Int) < 8 := by omega
          have hb0 : (0 : Int) ≤ (b : Int) := by omega
          obtain ⟨p, hp⟩ : ∃ p, p0 + b = p := ⟨_, rfl⟩
          have hpw : IntKind.i64.wrap ((p0 : Int) + (b : Int)) = (p : Int) := by rw [IntKind.wrap_i64]; have := HM.out; have := HP0.out; have := HK.out; omega
          have hpn : (p : Int) < (n : Int) := by have := HN.out; have := HP0.out; have := HK.out; omega
          obtain ⟨gf, of, rfl, hcf⟩ := HA.out.below HB.out
          have cf := hcf p (by omega)
          have hst := bn_step f k b
          rw [HP0.out, hp] at hst
          have hq := bn_le f k b hb
          have hlt := bn_lt f k b
          obtain ⟨q, hqq⟩ : ∃ q, bn f k b = q := ⟨_, rfl⟩
          rw [hqq] at hst hq hlt
          have c1 : wr.cell? ⟨gb, k, none⟩ = some (.int .u8 (q : Int)) := by rw [HR.out.cell, brr_get _ HK.out, uq_self, hqq, bq q hq]
          have f1 := HR.out.free k
          cases hfp : f p
          · rw [hfp] at cf hst
            have HST := Lib.hid (p := bn f k (b + 1) = bn f k b) (by rw [hst, hqq]; rfl)
            have HB8 := Lib.hid hb8
            clear hcf hst hq hlt hqq c1 f1 hfp hp hb hb8
            go_wp2
            go_roundw
            case rel => exact ⟨b + 1, by have := HB8.out; omega, by go_num, by rw [HST.out]; exact HR, HB⟩
            case measure => have := HB8.out; simp [intOf]; omega
          · rw [hfp, if_pos rfl] at hst
            rw [hfp] at cf
            have hs1 := shl_bit b hb8
            have ho1 := or_bit q b hlt hb8
            obtain ⟨pp, hpp⟩ : ∃ pp, 2 ^ b = pp := ⟨_, rfl⟩
            rw [hpp] at hs1 ho1 hst hlt
            obtain ⟨q2, hq2⟩ : ∃ q2, q + pp = q2 := ⟨_, rfl⟩
            rw [hq2] at ho1 hst
            have hq2l : q2 < 256 := by rw [← hst]; exact bn_le f k (b + 1) (by omega)
            have HQQ := Lib.hid hqq
            have HST := Lib.hid hst
            have HQ2 := Lib.hid hq2l
            have HB8 := Lib.hid hb8
            clear hcf hst hq hlt hqq hfp hp hb hb8 hpp hq2 hq2l
            go_wp2
            go_region
            go_wp2
            go_roundw
            case rel => exact ⟨b + 1, by have := HB8.out; omega, by go_num, Lib.hid (by rw [HST.out, ← uq_upd f k q q2, ← brr_set, bq q2 HQ2.out, ← HQQ.out]; exact (HR.out.put _ _).drew), Lib.hid (HB.out.setCell (p := ⟨gb, k, none⟩) QB.out _).drew⟩
            case measure => have := HB8.out; simp [intOf]; omega
        · obtain rfl : b = 8 := by omega
          have HR2 := Lib.hid (p := Row wr gb 5 (brr m (uq f (k + 1) 0))) (by rw [← uq_next]; exact HR.out)
          clear hb hb8 HR
          go_wp2
          go_roundw
          case rel => exact ⟨k + 1, by have := HK.out; omega, by go_num, HR2, HB⟩
          case measure => have := HK.out; have := HM.out; simp [intOf]; omega
    · obtain rfl : k = m := by omega
      have HR2 := Lib.hid (p := Row wr gb 5 (brr k (bt f))) (by rw [brr_congr (g := uq f k 0) (fun j hj => by unfold uq; rw [if_pos hj])]; exact HR.out)
      have hki : ¬ (k : Int) < (k : Int) := by omega
      clear hk hkm HR
      go_wp2
      go_ret
      exact ⟨gb, rfl, HR2, QB, HB⟩
end Go.Proofs.YtfbfeplegdpemaaGreat
/- A run of bytes 0 appended to a row of the call's own that has room for them. No conditions but those named. -/
set_option linter.unusedVariables false
namespace Go.Proofs.YtfbfeplegdpemaaGreat
open Go.RowKit

theorem zero_list (m : Nat) : (Builtin.zeroCells #[Value.int .u8 0] m).toList = List.replicate m (Value.int .u8 0) := by
  apply List.ext_getElem
  · simp [Builtin.zeroCells]
  · intro i h1 h2
    simp [Builtin.zeroCells, Nat.mod_one]

theorem run_zeros {P : Program} (w : World) (t tn ty e : TypeId) (i : TypeInfo) (U : U8 P t e i) (htn : P.underlying tn = some (.int .i64)) (base g n m cap : Nat) (xs : List Value)
    (hown : w.ownsRow base e 1 (.slice (some ⟨g, 0, none⟩) n cap) n xs) (hfit : n + m ≤ cap) (hm : m ≤ 140737488355328) :
    ∃ w', (Builtin.append_ #[t, tn] ty #[.slice (some ⟨g, 0, none⟩) n cap, .int .i64 m]).run P w = .ok (.slice (some ⟨g, 0, none⟩) (n + m) cap) w' ∧
      w'.ownsRow base e 1 (.slice (some ⟨g, 0, none⟩) (n + m) cap) (n + m) (xs ++ List.replicate m (Value.int .u8 0)) ∧ w.grownBy w' (some g) := by
  obtain ⟨hl, h | ⟨g', cap', cur, hv, hb, hg, hn, hc, hs, ht⟩⟩ := hown
  · cases h.1
  simp only [Value.slice.injEq, Option.some.injEq, Addr.mk.injEq] at hv
  obtain ⟨⟨rfl, _⟩, _, rfl⟩ := hv
  have hst := run_storeCells_at P g n e (List.replicate m (Value.int .u8 0)) 0 cur w hg (by simp; omega) (fun v hv => by rw [List.eq_of_mem_replicate hv]; rfl)
  have hwr : IntKind.i64.wrap (m : Int) = m := by rw [IntKind.wrap_i64]; omega
  have hadd : (⟨g, 0, none⟩ : Addr).add n = ⟨g, n, none⟩ := by unfold Addr.add; split <;> simp_all
  simp only [Nat.add_zero, List.length_replicate] at hst
  obtain ⟨cur', hcur⟩ : ∃ cur' : Array Value, cur' = (cur.toList.take n ++ List.replicate m (Value.int .u8 0) ++ cur.toList.drop (n + m)).toArray := ⟨_, rfl⟩
  rw [← hcur] at hst
  have hx : xs.length = n := by omega
  refine ⟨w.setRow g cur', ?_, ⟨?_, .inr ⟨g, cap, cur', rfl, hb, setRow_heap w g _ _ e _ hg, hfit, hc, ?_, ?_⟩⟩, ⟨rfl, rfl, rfl, by simp, fun k hk hne => setRow_other w g k _ (fun e => hne (by rw [e]))⟩⟩
  · have hneg : ¬ ((m : Int) < 0) := by omega
    have h48 : ¬ ((281474976710656 : Int) < m) := by omega
    by_cases h0 : m = 0
    · subst h0
      have hw0 : IntKind.i64.wrap 0 = 0 := by decide
      have hf0 : n ≤ cap := by omega
      simp [Builtin.append_, run_underlying U.ht, run_underlying htn, sizeOf, typeInfo, zeroValue, U.hi, U.hz, U.h1, U.h2, asInt, asIntOf, hw0, hf0, hadd]
      simp at hst
      simp [hst]
    · have hc0 : (Value.int IntKind.u8 0).cells = #[Value.int IntKind.u8 0] := rfl
      simp [Builtin.append_, run_underlying U.ht, run_underlying htn, sizeOf, typeInfo, zeroValue, U.hi, U.hz, U.h1, U.h2, asInt, asIntOf, hwr, hfit, hneg, h48, hadd, h0, hc0, zero_list, hst]
  · simp only [List.length_append, List.length_replicate, hl]
    omega
  · rw [hcur]
    simp
    omega
  · rw [hcur]
    simp only [Nat.mul_one] at ht ⊢
    rw [← ht, List.take_left']
    simp
    omega

end Go.Proofs.YtfbfeplegdpemaaGreat
/- A run of zeros, appended to a row of bytes of the call's own: whether there is room or not. No conditions. -/
set_option linter.unusedVariables false
namespace Go.Proofs.YtfbfeplegdpemaaGreat
open Go.RowKit

theorem run_zeros_grow {P : Program} (w : World) (t tn ty e : TypeId) (i : TypeInfo) (U : U8 P t e i) (htn : P.underlying tn = some (.int .i64)) (base g n m cap : Nat) (xs : List Value)
    (hown : w.ownsRow base e 1 (.slice (some ⟨g, 0, none⟩) n cap) n xs) (hg : cap < n + m) (hm0 : 0 < m) (hm : n + m ≤ 1000000) (hbase : base ≤ w.heap.size) :
    ∃ c' w', (Builtin.append_ #[t, tn] ty #[.slice (some ⟨g, 0, none⟩) n cap, .int .i64 m]).run P w = .ok (.slice (some ⟨w.heap.size, 0, none⟩) (n + m) c') w' ∧
      w'.ownsRow base e 1 (.slice (some ⟨w.heap.size, 0, none⟩) (n + m) c') (n + m) (xs ++ List.replicate m (Value.int .u8 0)) ∧ w.grownBy w' none := by
  have hl : xs.length = n * 1 := hown.1
  have holds : ∀ j u, xs[j]? = some u → w.cell? ((⟨g, 0, none⟩ : Addr).add j) = some u := hown.cells (g := g) rfl
  have hn : ¬ (n + m ≤ cap) := by omega
  have h63' : ¬ (9223372036854775807 < ((n : Int) + (m : Int))) := by omega
  have hcapm : cap ≤ maxLen := by
    rcases hown.2 with ⟨h, _⟩ | ⟨g', cap', cur, hv, hb, hg', hn', hc, hs, ht⟩
    · cases h
    · simp only [Value.slice.injEq] at hv
      omega
  have h48 : Builtin.nextslicecap (n + m) cap * 1 ≤ 281474976710656 := growslice_fits (by omega) (by omega)
  have h48' : ¬ (281474976710656 < Builtin.nextslicecap (n + m) cap) := by omega
  have hwr : IntKind.i64.wrap (m : Int) = m := by rw [IntKind.wrap_i64]; omega
  have hneg : ¬ ((m : Int) < 0) := by omega
  have hbig : ¬ ((281474976710656 : Int) < m) := by omega
  have h0 : m ≠ 0 := by omega
  have hfo := run_firstCells_some (P := P) w.drew 1 n ⟨g, 0, none⟩ n cap xs hl (by simpa using holds)
  have hc0 : (Value.int IntKind.u8 0).cells = #[Value.int IntKind.u8 0] := rfl
  have hge := grownCap_ge w (n + m) cap e
  have hcm : grownCap w (n + m) cap e ≤ maxLen := grownCap_le_maxLen w (n + m) cap e (by unfold maxLen; omega)
  have hzl : Builtin.zeroCells #[Value.int .u8 0] m = (List.replicate m (Value.int .u8 0)).toArray := by
    apply Array.ext'
    rw [zero_list]
  have hlen : (xs ++ List.replicate m (Value.int .u8 0)).length = (n + m) * 1 := by rw [List.length_append, List.length_replicate]; omega
  refine ⟨grownCap w (n + m) cap e, w.drew.alloc (.cells (xs.toArray ++ (List.replicate m (Value.int .u8 0)).toArray ++ Builtin.zeroCells #[Value.int .u8 0] (grownCap w (n + m) cap e - (n + m))) e), ?_, ⟨hlen, .inr ⟨w.heap.size, _, _, rfl, hbase, heap_alloc_new w.drew _, hge, hcm, ?_, ?_⟩⟩, ⟨rfl, rfl, rfl, by simp, fun k hk _ => (heap_alloc_old w.drew _ hk)⟩⟩
  · simp [Builtin.append_, run_underlying U.ht, run_underlying htn, sizeOf, typeInfo, zeroValue, U.hi, U.hz, U.h1, U.h2, asInt, asIntOf, hwr, hneg, hbig, h0, hn, h63', h48', Question.forced, hfo, hc0, hzl, newRow, grownCap]
  · have hz1 : (Builtin.zeroCells #[Value.int .u8 0] (grownCap w (n + m) cap e - (n + m))).size = grownCap w (n + m) cap e - (n + m) := by
      rw [← Array.length_toList, zero_list, List.length_replicate]
    simp only [Array.size_append, List.size_toArray, hz1, List.length_replicate]
    omega
  · simp only [Array.toList_append]
    rw [← hlen]
    exact List.take_left
/-- At the operation. -/
theorem wpList_zeros {P : Program} {w : World} {ops : Array Oper} {rest : List Oper} {o : Oper} {a : Act} {Q : Exit → Act → World → Prop} (hgd : o.guard = none) (s x : Operand) (t tn : TypeId)
    (ho : o.op = .call { callee := .builtin .append, args := #[s, x], argTypes := #[t, tn] }) (e : TypeId) (i : TypeInfo) (U : U8 P t e i) (htn : P.underlying tn = some (.int .i64)) (base g n m cap : Nat) (xs : List Value)
    (hs : a.eval s = .slice (some ⟨g, 0, none⟩) n cap) (hx : a.eval x = .int .i64 m) (hown : w.ownsRow base e 1 (.slice (some ⟨g, 0, none⟩) n cap) n xs) (hm0 : 0 < m) (hm : n + m ≤ 1000000) (hbase : base ≤ w.heap.size)
    (h : ∀ g' c' w', w'.ownsRow base e 1 (.slice (some ⟨g', 0, none⟩) (n + m) c') (n + m) (xs ++ List.replicate m (Value.int .u8 0)) → w.grownBy w' (some g) → wpList P ops Q rest (a.put o.dst (.slice (some ⟨g', 0, none⟩) (n + m) c')) w') : wpList P ops Q (o :: rest) a w := by
  by_cases hfit : n + m ≤ cap
  · obtain ⟨w', hr, h1, h2⟩ := run_zeros (P := P) w t tn o.type e i U htn base g n m cap xs hown hfit (by omega)
    exact Lib.wpList_append_run w hgd s x t tn ho _ _ hs hx _ _ hr (h g cap w' h1 h2)
  · obtain ⟨c', w', hr, h1, h2⟩ := run_zeros_grow (P := P) w t tn o.type e i U htn base g n m cap xs hown (by omega) hm0 hm hbase
    exact Lib.wpList_append_run w hgd s x t tn ho _ _ hs hx _ _ hr (h w.heap.size c' w' h1 ⟨h2.os, h2.tape, h2.output, h2.size, fun k hk _ => h2.block k hk (by simp)⟩)
end Go.Proofs.YtfbfeplegdpemaaGreat
