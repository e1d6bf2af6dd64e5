/- Calls as the laws make them: a table of one pad, bytes xored, compared, hidden. Conditions: those named. -/
import Derived.Test.YtpocccnhibjjcaaGreatDoorMgTab
import Derived.Test.YtpocccnhibjjcaaGreatDoorChecked
import Derived.Test.YtpocccnhibjjcaaGreatDoorMgSha
import Derived.Test.YtpocccnhibjjcaaGreatDoorMgApp
import Derived.WalkKit
import Derived.WalkMore
import Derived.WalkSpells
import Derived.WalkLawsBesides
import Derived.Outline
import Derived.Test.YtpocccnhibjjcaaGreatDoorMgMaps
import Derived.Deep.QuietTactic
import Derived.Deep.RegionWith
import Derived.Deep.Onto
import Derived.Test.YtpocccnhibjjcaaGreatDoorMgPc
import Derived.Deep.RegionHeld
import Derived.BigQuiet
set_option linter.unusedVariables false
namespace Go.Proofs.YtpocccnhibjjcaaGreatDoor
open Go.RowKit

theorem below_next {w u v : World} (hb : Below u.heap.size u v) (ha : Below w.heap.size w u) : Below w.heap.size w v := ha.trans (hb.mono ha.size)
theorem below_draw (w : World) : Below w.heap.size w w.drew := (Below.refl _ _).drew
end Go.Proofs.YtpocccnhibjjcaaGreatDoor
/- Numbers put behind bytes by package wire: what each call leaves, for every argument (bytes of at most 2^45). No other conditions. -/
set_option linter.unusedVariables false
namespace Go.Proofs.YtpocccnhibjjcaaGreatDoor
open Go.RowKit

theorem info5 : (Tryz.prog.info? 5).map (fun i => (i.zero, i.size, i.bytes)) = some (some (.int .u8 0), 1, 1) := by kernel_rfl
theorem u8_table : ∃ i, U8 Tryz.prog 35 5 i := by
  obtain ⟨i, hi, hz, h1, h2⟩ := info_parts info5
  exact ⟨i, Tryz.underlying35, hi, hz, h1, h2⟩

theorem width_any (n : Int) (w : World) : Calls Tryz.prog 146 #[.int .i64 n] w fun e w' => e = .returned (.int .i64 (wid n : Nat)) ∧ w = w' := by
  by_cases h8 : n = 8
  · subst h8
    go_enter Tryz.func146, Tryz.ntmps146
    go_wp2
    go_ret
    exact ⟨rfl, rfl⟩
  by_cases h4 : n = 4
  · subst h4
    go_enter Tryz.func146, Tryz.ntmps146
    go_wp2
    go_ret
    exact ⟨rfl, rfl⟩
  by_cases h2 : n = 2
  · subst h2
    go_enter Tryz.func146, Tryz.ntmps146
    go_wp2
    go_ret
    exact ⟨rfl, rfl⟩
  by_cases h1 : n = 1
  · subst h1
    go_enter Tryz.func146, Tryz.ntmps146
    go_wp2
    go_ret
    exact ⟨rfl, rfl⟩
  have e8 : (n == 8) = false := by simp [h8]
  have e4 : (n == 4) = false := by simp [h4]
  have e2 : (n == 2) = false := by simp [h2]
  have e1 : (n == 1) = false := by simp [h1]
  have hw : wid n = 0 := by simp [wid, h8, h4, h2, h1]
  rw [hw]
  clear h8 h4 h2 h1 hw
  go_enter Tryz.func146, Tryz.ntmps146
  go_wp2
  go_ret
  exact ⟨rfl, rfl⟩

theorem room_any (A : Option Addr) (c : Nat) (l : List UInt8) (more : Nat) (w : World) (hA : Hol w A l) (hb : l.length + more ≤ 70368744177664) :
    Calls Tryz.prog 148 #[.slice A l.length c, .int .i64 more] w fun e w' => ∃ v, e = .returned v ∧ w'.ownsRow w.heap.size 5 1 v l.length (bc l) ∧ Below w.heap.size w w' := by
  obtain ⟨i, U⟩ := u8_table
  go_enter Tryz.func148, Tryz.ntmps148
  go_wp2_with (first
    | (refine wpList_make_own _ rfl _ _ 35 rfl w.heap.size 5 i (.int .u8 0) 1 U.ht U.hi U.hz U.h1 .i64 .i64 _ (l.length + more) rfl rfl (by omega) (by rw [U.h2]; omega) (by unfold maxLen; omega) (Nat.le_refl _) ?_
       intro w1 hown1 hg1)
    | (at_builtin
       refine wpList_app _ rfl _ _ _ rfl 5 i U w.heap.size _ 0 [] rfl hown1 A l.length c l rfl rfl (hA.below (below_of_grown hg1)) (by omega) hg1.size ?_
       intro v2 w2 hown2 hg2 hat2))
  go_ret
  refine ⟨v2, rfl, by simpa using hown2, (below_of_grown hg1).grown hg2 hg1.size (fun k hk => (hown1.lt k hk).1)⟩

theorem hol_one (w : World) (e : TypeId) (x : UInt8) (z : Int) (hz : z = (x.toNat : Int)) : Hol (w.alloc (.cells #[.int .u8 z] e)) (some ⟨w.heap.size, 0, none⟩) [x] := by
  subst hz
  refine .inr ⟨w.heap.size, 0, rfl, fun j y hy => ?_⟩
  match j, hy with
  | 0, hy =>
    simp at hy
    subst hy
    simp

theorem byte_shr (x k : Nat) : (x : Int) / 2 ^ (8 * k) % 256 = ((UInt8.ofNat (x / 256 ^ k)).toNat : Int) := by
  have e : (UInt8.ofNat (x / 256 ^ k)).toNat = x / 256 ^ k % 256 := UInt8.toNat_ofNat' ..
  have e2 : (2 : Int) ^ (8 * k) = ((256 ^ k : Nat) : Int) := by
    rw [Int.pow_mul]
    simp
  rw [e, e2]
  omega

set_option maxHeartbeats 400000 in
theorem number_any (B : Nat) (v : Value) (n : Nat) (l : List UInt8) (size : Nat) (x : Nat) (w : World) (hown : w.ownsRow B 5 1 v n (bc l)) (hs : size ≤ 8) (hx : x < 18446744073709551616)
    (hn : n ≤ 70368744177664) (hB : B ≤ w.heap.size) :
    Calls Tryz.prog 147 #[v, .int .i64 size, .int .u64 x] w fun e w' => ∃ v', e = .returned v' ∧ w'.ownsRow B 5 1 v' (n + size) (bc (l ++ leb x size)) ∧ Below B w w' := by
  obtain ⟨i, U⟩ := u8_table
  go_enter Tryz.func147, Tryz.ntmps147
  go_wp2
  go_loopw [0, 9] (fun s i wr => ∃ k : Nat, k ≤ size ∧ i = .int .i64 k ∧ wr.ownsRow B 5 1 s (n + k) (bc (l ++ leb x k)) ∧ Below B w wr) (fun _ i _ => size - (intOf i).toNat)
  case atStart => exact ⟨0, Nat.zero_le _, rfl, by simpa [leb] using hown, Below.refl _ _⟩
  case round =>
    obtain ⟨k, hk, rfl, hown1, hb1⟩ := hrel
    by_cases hlt : k < size
    · go_wp2_with (at_builtin; refine wpList_app _ rfl _ _ _ rfl 5 i U B _ (n + k) _ rfl (hown1.alloc _) (some ⟨wr.heap.size, 0, none⟩) 1 1 [UInt8.ofNat (x / 256 ^ k)] rfl rfl (hol_one _ _ _ _ ?hz) (by omega) (by have := hb1.size; simp; omega) ?_)
      case hz => exact byte_shr x k
      intro v2 w2 hown2 hg2 hat2
      have hb2 : Below B w w2 := (hb1.alloc (by have := hb1.size; omega) _).grown hg2 (by have := hb1.size; simp; omega) (fun k hk => (hown1.lt k hk).1)
      have hown3 : w2.ownsRow B 5 1 v2 (n + (k + 1)) (bc (l ++ leb x (k + 1))) := by
        rw [leb_succ, ← List.append_assoc, bc_app]
        exact hown2
      clear hown2 hg2 hat2 hown1 hb1
      go_wp2
      go_roundw
      case rel => exact ⟨k + 1, by omega, by go_num, hown3, hb2⟩
      case measure => simp [intOf]; omega
    · go_wp2
      go_ret
      have hks : k = size := by omega
      subst hks
      exact ⟨_, rfl, hown1, hb1⟩

theorem put_arg (v : Value) (size : Int) (x : Nat) (w : World) (h : wid size = 0) :
    Calls Tryz.prog 118 #[v, .int .i64 size, .int .u64 x] w fun e w' => e = .returned (.tuple #[.slice none 0 0, .int .i64 201]) ∧ w = w' := by
  go_enter Tryz.func118, Tryz.ntmps118
  go_wp2_with (go_at_call 146; refine (width_any _ _).mono ?_; rintro e w' ⟨rfl, rfl⟩; rw [h])
  go_ret2
  exact ⟨rfl, rfl⟩

theorem put_long (v : Value) (size : Int) (x : Nat) (w : World) (h : wid size ≠ 0) (hx : x / 2 ^ wid size ≠ 0) (h64 : wid size < 64) :
    Calls Tryz.prog 118 #[v, .int .i64 size, .int .u64 x] w fun e w' => e = .returned (.tuple #[.slice none 0 0, .int .i64 202]) ∧ w = w' := by
  go_enter Tryz.func118, Tryz.ntmps118
  have hx2 : ((x : Int) / 2 ^ wid size != 0) = true := by
    rw [bne_iff_ne]
    intro e
    apply hx
    have : ((x / 2 ^ wid size : Nat) : Int) = 0 := by rw [← e]; simp
    omega
  have hw0 : ((wid size : Int) == 0) = false := by simp; omega
  clear hx h
  go_wp2_with (go_at_call 146; refine (width_any _ _).mono ?_; rintro e w' ⟨rfl, rfl⟩)
  go_ret2
  exact ⟨rfl, rfl⟩
def putR (l : List UInt8) (size : Int) (x : Nat) : List UInt8 × Int :=
  if wid size = 0 then ([], 201) else if x / 256 ^ size.toNat ≠ 0 then ([], 202) else (l ++ leb x size.toNat, 0)
def BytesPost (w : World) (r : List UInt8 × Int) (e : Ending) (w' : World) : Prop :=
  ∃ v, e = .returned (.tuple #[v, .int .i64 r.2]) ∧ w'.ownsRow w.heap.size 5 1 v r.1.length (bc r.1) ∧ Below w.heap.size w w'
theorem wid_pow (size : Int) (h : wid size ≠ 0) : (2 : Nat) ^ wid size = 256 ^ size.toNat := by
  have h1 := wid_eq h
  have h2 := wid_pos h
  have e : wid size = 8 * size.toNat := by omega
  rw [e, Nat.pow_mul]

theorem put_any (A : Option Addr) (c : Nat) (l : List UInt8) (size : Int) (x : Nat) (w : World) (hA : Hol w A l) (hx : x < 18446744073709551616) (hl : l.length ≤ 35184372088832) :
    Calls Tryz.prog 118 #[.slice A l.length c, .int .i64 size, .int .u64 x] w (BytesPost w (putR l size x)) := by
  by_cases h : wid size = 0
  · have hr : putR l size x = ([], 201) := by unfold putR; rw [if_pos h]
    rw [hr]
    exact (put_arg _ size x w h).mono fun e w' ⟨he, hw⟩ => ⟨_, he, World.ownsRow_nil _ _ _ _, by rw [hw]; exact Below.refl _ _⟩
  by_cases hx2 : x / 256 ^ size.toNat ≠ 0
  · have hr : putR l size x = ([], 202) := by unfold putR; rw [if_neg h, if_pos hx2]
    rw [hr]
    refine (put_long _ size x w h (by rw [wid_pow size h]; exact hx2) ?_).mono fun e w' ⟨he, hw⟩ => ⟨_, he, World.ownsRow_nil _ _ _ _, by rw [hw]; exact Below.refl _ _⟩
    have hp := wid_pos h
    have he := wid_eq h
    rcases (by omega : size = 8 ∨ size < 8) with h8 | h8
    · exfalso
      apply hx2
      rw [h8]
      exact Nat.div_eq_of_lt (by simpa using hx)
    · omega
  · have hr : putR l size x = (l ++ leb x size.toNat, 0) := by unfold putR; rw [if_neg h, if_neg hx2]
    rw [hr]
    have hp := wid_pos h
    have he := wid_eq h
    have hx3 : ((x : Int) / 2 ^ wid size != 0) = false := by
      rw [bne_eq_false_iff_eq]
      have e1 : (2 : Int) ^ wid size = ((256 ^ size.toNat : Nat) : Int) := by rw [← wid_pow size h, Int.natCast_pow]; rfl
      rw [e1]
      have : x / 256 ^ size.toNat = 0 := by simpa using hx2
      rw [← Int.natCast_ediv, this]
      rfl
    have hw0 : ((wid size : Int) == 0) = false := by simp; omega
    have hw1 : wid size ≤ 64 := wid_le size
    obtain ⟨k, rfl⟩ := Int.eq_ofNat_of_zero_le (by omega : 0 ≤ size)
    rw [Int.toNat_natCast]
    have hk : k ≤ 8 := by omega
    clear hx2 h hr hp he
    go_enter Tryz.func118, Tryz.ntmps118
    go_wp2_with (first
      | (go_at_call 146; refine (width_any _ _).mono ?_; rintro e w' ⟨rfl, rfl⟩)
      | (go_at_call 148; refine (room_any A c l k w hA (by omega)).mono ?_; rintro e w1 ⟨v, rfl, hown1, hb1⟩)
      | (go_at_call 147; refine (number_any w.heap.size v l.length l k x w1 hown1 hk hx (by omega) hb1.size).mono ?_; rintro e w2 ⟨v2, rfl, hown2, hb2⟩))
    go_ret2
    refine ⟨v2, rfl, ?_, hb1.trans hb2⟩
    have : (l ++ leb x k).length = l.length + k := by rw [List.length_append, leb_len]
    rw [this]
    exact hown2

end Go.Proofs.YtpocccnhibjjcaaGreatDoor
/- Numbers and records as bytes, by package node: what each call leaves. Conditions: those named. -/
set_option linter.unusedVariables false
set_option maxRecDepth 20000
namespace Go.Proofs.YtpocccnhibjjcaaGreatDoor
open Go.RowKit

def OwnB (l : List UInt8) (w : World) (e : Ending) (w' : World) : Prop :=
  ∃ A n c, e = .returned (.slice A n c) ∧ Hid (n = l.length) ∧ Hid (w'.ownsRow w.heap.size 5 1 (.slice A n c) n (bc l)) ∧ Hid (Below w.heap.size w w')
theorem nnumber_any (A : Option Addr) (n c : Nat) (l : List UInt8) (sz : Int) (k x : Nat) (hn : n = l.length) (w : World) (hA : Hol w A l) (hx : x < 18446744073709551616) (hl : l.length ≤ 1000) (hp : putR l sz x = (l ++ leb x k, 0)) :
    Calls Tryz.prog 157 #[.slice A n c, .int .i64 sz, .int .u64 x] w (OwnB (l ++ leb x k) w) := by
  subst hn
  have HP := Lib.hid (put_any A c l sz x w hA hx (by omega))
  rw [hp] at HP
  clear hp hx
  go_enter Tryz.func157, Tryz.ntmps157
  go_wp2_with (go_at_call 118; refine HP.out.mono ?_; rintro e w1 ⟨v, rfl, hown, hb⟩; obtain ⟨A1, c1, rfl⟩ := own_sl hown)
  go_ret
  exact ⟨A1, _, c1, rfl, List.length_append.symm, by have e9 : (l ++ leb x k).length = l.length + (leb x k).length := List.length_append; rw [e9] at hown; exact hown, hb⟩
theorem putR2 (l : List UInt8) (x : Nat) (hx : x < 65536) : putR l 2 x = (l ++ leb x 2, 0) := by
  have h : x / 65536 = 0 := Nat.div_eq_of_lt hx
  simp [putR, wid, h]
theorem putR4 (l : List UInt8) (x : Nat) (hx : x < 4294967296) : putR l 4 x = (l ++ leb x 4, 0) := by
  have h : x / 4294967296 = 0 := Nat.div_eq_of_lt hx
  simp [putR, wid, h]
theorem nnumber2 (A : Option Addr) (n c : Nat) (l : List UInt8) (x : Nat) (hn : n = l.length) (w : World) (hA : Hol w A l) (hx : x < 65536) (hl : l.length ≤ 1000) :
    Calls Tryz.prog 157 #[.slice A n c, .int .i64 2, .int .u64 x] w (OwnB (l ++ leb x 2) w) := nnumber_any A n c l 2 2 x hn w hA (by omega) hl (putR2 l x hx)
theorem nnumber4 (A : Option Addr) (n c : Nat) (l : List UInt8) (x : Nat) (hn : n = l.length) (w : World) (hA : Hol w A l) (hx : x < 4294967296) (hl : l.length ≤ 1000) :
    Calls Tryz.prog 157 #[.slice A n c, .int .i64 4, .int .u64 x] w (OwnB (l ++ leb x 4) w) := nnumber_any A n c l 4 4 x hn w hA (by omega) hl (putR4 l x hx)
def nonB (e s : Nat) : List UInt8 := leb e 4 ++ leb s 4
theorem nonB_len (e s : Nat) : (nonB e s).length = 8 := by simp [nonB, leb_len]
theorem wrap_u64n {k : Nat} (h : k < 4294967296) : IntKind.u64.wrap (k : Int) = (k : Int) := by
  simp [IntKind.wrap, IntKind.bits, IntKind.signed]
  omega
set_option maxHeartbeats 1000000 in
theorem nonce_any (A : Option Addr) (n c : Nat) (l : List UInt8) (e s : Nat) (hn : n = l.length) (w : World) (hA : Hol w A l) (he : e < 4294967296) (hs : s < 4294967296) (hl : l.length ≤ 100) :
    Calls Tryz.prog 124 #[.slice A n c, .int .u32 (e : Int), .int .u32 (s : Int)] w (OwnB (l ++ nonB e s) w) := by
  have we := wrap_u64n he
  have ws := wrap_u64n hs
  have HE := Lib.hid he
  have HS := Lib.hid hs
  have HL := Lib.hid hl
  have HN := Lib.hid hn
  clear he hs hl hn
  go_enter Tryz.func124, Tryz.ntmps124
  go_wp2_with (first
    | (go_at_call_of 157 (Value.int IntKind.u64 (e : Int)); refine (nnumber4 A n c l e HN.out _ hA HE.out (by have := HL.out; omega)).mono ?_; rintro e1 w1 ⟨A1, n1, c1, rfl, hn1, ho1, hb1⟩)
    | (go_at_call 157; refine (nnumber4 A1 n1 c1 (l ++ leb e 4) s hn1.out _ (Hol.own ho1.out) HS.out (by rw [List.length_append, leb_len]; have := HL.out; omega)).mono ?_; rintro e2 w2 ⟨A2, n2, c2, rfl, hn2, ho2, hb2⟩))
  go_ret
  have hb := hb1.out
  have e9 : l ++ nonB e s = l ++ leb e 4 ++ leb s 4 := by unfold nonB; rw [List.append_assoc]
  refine ⟨A2, n2, c2, rfl, ?_, ?_, hb.trans (hb2.out.mono hb.size)⟩
  · rw [e9]; exact hn2
  · rw [e9]; exact World.ownsRow.mono ho2.out hb.size
end Go.Proofs.YtpocccnhibjjcaaGreatDoor
/- Four records as a row of cells, and as a node's bytes. No conditions. -/
set_option linter.unusedVariables false
set_option maxRecDepth 20000
namespace Go.Proofs.YtpocccnhibjjcaaGreatDoor
open Go.RowKit

def RecV.b (r : RecV) : List UInt8 := leb r.a.toNat 2 ++ nonB r.e r.s ++ r.l
theorem RecV.b_len (r : RecV) : r.b.length = 42 := by simp [RecV.b, leb_len, nonB_len, RecV.l_len]
def recsC (R : Nat → RecV) : List Value := (R 0).cs ++ ((R 1).cs ++ ((R 2).cs ++ (R 3).cs))
theorem recsC_len (R : Nat → RecV) : (recsC R).length = 140 := by simp [recsC, RecV.cs_len]
theorem recsC_one (R : Nat → RecV) : ∀ v ∈ recsC R, v.oneCell' = true := by
  intro v hv
  unfold recsC at hv
  simp only [List.mem_append] at hv
  rcases hv with h | h | h | h <;> exact RecV.cs_one _ v h
theorem recsC_part (R : Nat → RecV) (k : Nat) (hk : k < 4) : ((recsC R).drop (k * 35)).take 35 = (R k).cs := by
  have h0 := (R 0).cs_len
  have h1 := (R 1).cs_len
  have h2 := (R 2).cs_len
  have h3 := (R 3).cs_len
  unfold recsC
  match k, hk with
  | 0, _ => rw [Nat.zero_mul, List.drop_zero, List.take_left' h0]
  | 1, _ => rw [List.drop_left' (by omega), List.take_left' h1]
  | 2, _ => rw [← List.append_assoc, List.drop_left' (by simp; omega), List.take_left' h2]
  | 3, _ => rw [← List.append_assoc, ← List.append_assoc, List.drop_left' (by simp; omega), List.take_of_length_le (by omega)]
theorem recsC_extract (R : Nat → RecV) (k : Nat) (hk : k < 4) : (recsC R).toArray.extract (k * 35) (k * 35 + 35) = (R k).cs.toArray := by
  apply Array.ext'
  simp only [List.extract_toArray, List.extract_eq_take_drop, Nat.add_sub_cancel_left]
  exact recsC_part R k hk
theorem run_index_rec (R : Nat → RecV) (k : Nat) (hk : k < 4) (w : World) : (Instr.index 132 (.agg (recsC R).toArray) (.int .i64 (k : Int))).run Tryz.prog w = .ok (.agg (R k).cs.toArray) w := by
  have ht := Tryz.underlying132
  have he := Tryz.underlying87
  have hs := info_rec
  cases hq : Tryz.prog.info? 87 with
  | none => simp [hq] at hs
  | some i =>
    have hi : i.size = 35 := by simpa [hq] using hs
    simp [Instr.index, asIntOf, run_underlying ht, run_underlying he, sizeOf, typeInfo, hq, hi, hk, Go.part, isAgg]
    exact recsC_part R k hk
theorem recs_range {w : World} {g : Nat} {t : TypeId} {R : Nat → RecV} (h : Row w g t (recsC R)) (k : Nat) (hk : k < 4) : w.rangeAt g (k * 35) (R k).cs := by
  have := h.range (k * 35) 35
  rwa [recsC_part R k hk] at this
theorem recsC_set (R : Nat → RecV) (k : Nat) (hk : k < 4) (r : RecV) : (recsC R).take (k * 35) ++ (r.cs ++ (recsC R).drop (k * 35 + 35)) = recsC (fun j => if j = k then r else R j) := by
  have h0 := (R 0).cs_len
  have h1 := (R 1).cs_len
  have h2 := (R 2).cs_len
  have tk : ∀ (q : RecV) (n : Nat), 35 ≤ n → q.cs.take n = q.cs := fun q n h => List.take_of_length_le (by rw [q.cs_len]; exact h)
  have dr : ∀ (q : RecV) (n : Nat), 35 ≤ n → q.cs.drop n = [] := fun q n h => List.drop_eq_nil_of_le (by rw [q.cs_len]; exact h)
  unfold recsC
  match k, hk with
  | 0, _ => simp [h0]
  | 1, _ => simp [h0, h1, List.drop_append, dr (R 0) 70 (by omega)]
  | 2, _ => simp [h0, h1, h2, List.take_append, List.drop_append, tk (R 0) 70 (by omega), dr (R 0) 105 (by omega), dr (R 1) 70 (by omega)]
  | 3, _ => simp [h0, h1, h2, List.take_append, List.drop_append, tk (R 0) 105 (by omega), tk (R 1) 70 (by omega), dr (R 0) 140 (by omega), dr (R 1) 105 (by omega), dr (R 2) 70 (by omega), dr (R 3) 35 (by omega)]
theorem recs0_cs : Tryz.prog.built 132 [] = some (recsC fun _ => rec0).toArray := by kernel_rfl
theorem zero_rec (w : World) : (zeroValue 87).run Tryz.prog w = .ok (.agg rec0.cs.toArray) w := by kernel_rfl
theorem zero_recs (w : World) : (zeroValue 132).run Tryz.prog w = .ok (.agg (recsC fun _ => rec0).toArray) w := by kernel_rfl

def pk (R : Nat → RecV) (j : Nat) : UInt8 := if j < 168 then (R (j / 42)).b.getD (j % 42) 0 else 0
theorem pk_step (R : Nat → RecV) (k d : Nat) (hk : k < 4) (hd : 42 ≤ d) (j : Nat) : ov (42 * k) ((R k).b.take d) (upto (42 * k) (pk R) fun _ => 0) j = upto (42 * (k + 1)) (pk R) (fun _ => 0) j := by
  have hl : ((R k).b.take d) = (R k).b := List.take_of_length_le (by rw [(R k).b_len]; exact hd)
  rw [hl]
  have hb := (R k).b_len
  by_cases h1 : 42 * k ≤ j ∧ j < 42 * k + 42
  · rw [ov_in h1.1 (by omega), upto_near _ _ (by omega)]
    unfold pk
    rw [if_pos (by omega), show j / 42 = k by omega, show j % 42 = j - 42 * k by omega]
  · rw [ov_out (by omega)]
    by_cases h2 : j < 42 * k
    · rw [upto_near _ _ h2, upto_near _ _ (by omega)]
    · rw [upto_far _ _ (by omega), upto_far _ _ (by omega)]
theorem pk_end (R : Nat → RecV) (j : Nat) : upto 168 (pk R) (fun _ => 0) j = pk R j := by
  by_cases h : j < 168
  · exact upto_near _ _ h
  · rw [upto_far _ _ (by omega)]
    unfold pk
    rw [if_neg h]
end Go.Proofs.YtpocccnhibjjcaaGreatDoor
/- A map in memory from places to four records: what is looked up, what is laid in. No conditions but those named. -/
set_option linter.unusedVariables false
set_option maxRecDepth 20000
namespace Go.Proofs.YtpocccnhibjjcaaGreatDoor
open Go.RowKit Go.Maps

theorem spot_row : (99 : TypeId) < Tryz.prog.types.size := of_decide_eq_true (by kernel_rfl)
theorem spot_wide : (match Tryz.prog.underlying 99 with | some (.array _ _) | some (.struct _) => true | _ => false) = true := by kernel_rfl
theorem spot_law : Keyed Tryz.prog 99 := Keyed.of_law (deep_law_laid laidOut (m := 2) (by omega) spot_row (by kernel_rfl) spot_wide)
theorem spot_type : Tryz.prog.keyType 99 = true := by kernel_rfl
def pv (l i : Nat) : Value := .agg #[.int .i64 (l : Int), .int .i64 (i : Int)]
theorem spot_keyed {l i : Nat} (hl : l ≤ 1024) (hi : i ≤ 1024) : ∃ x, keyOf Tryz.prog 99 (pv l i) = some x := by
  have hu := Tryz.underlying99
  have h64 := Tryz.underlying3
  have hc : Tryz.prog.cellsOf 99 = 2 := by kernel_rfl
  have hc1 : Tryz.prog.cellsOf 3 = 1 := by kernel_rfl
  have hf : (pv l i).formed Tryz.prog 99 = true := by
    simp [pv, Value.formed, hu, hc]
  have hwe := nat_wf hl
  have hws := nat_wf hi
  have hsz : ∃ m, Tryz.prog.types.size = m + 1 := ⟨Tryz.prog.types.size - 1, by have h9 := Nat.lt_of_le_of_lt (Nat.zero_le _) spot_row; exact (Nat.sub_add_cancel h9).symm⟩
  obtain ⟨m, hm⟩ := hsz
  have hkl : ∃ ls, Tryz.prog.keyLits (Tryz.prog.types.size + 1) 99 (pv l i).cells.toList = some ls := by
    rw [hm]
    simp [Program.keyLits, hu, h64, hc, hc1, pv, Value.cells, hwe, hws]
  obtain ⟨ls, hls⟩ := hkl
  unfold keyOf
  rw [hu]
  simp only [spot_type, hf, hls]
  exact ⟨_, rfl⟩
noncomputable def pl_ (l i : Nat) : Lit := (keyOf Tryz.prog 99 (pv l i)).getD (.bool false)
theorem pl_of {l i : Nat} (hl : l ≤ 1024) (hi : i ≤ 1024) : keyOf Tryz.prog 99 (pv l i) = some (pl_ l i) := by
  obtain ⟨x, hx⟩ := spot_keyed hl hi
  unfold pl_
  rw [hx]
  rfl
theorem pl_inj {l i l' i' : Nat} (hl : l ≤ 1024) (hi : i ≤ 1024) (hl' : l' ≤ 1024) (hi' : i' ≤ 1024) (h : pl_ l i = pl_ l' i') : l = l' ∧ i = i' := by
  have h1 := pl_of hl hi
  have h2 := pl_of hl' hi'
  rw [← h] at h2
  have h3 := spot_law.inj h1 h2
  simp only [pv, Value.agg.injEq] at h3
  have h4 := congrArg Array.toList h3
  simp at h4
  omega
def zrecs : Value := .agg (recsC fun _ => rec0).toArray
def MN (w : World) (b n : Nat) (N : Nat → Nat → Nat → RecV) : Prop :=
  ∃ D : DataW Value, w.ownsMap Tryz.prog 99 itself b n D ∧ ∀ l i, l ≤ 1024 → i ≤ 1024 → D.atKey (pl_ l i) (.held zrecs) = .held (.agg (recsC (N l i)).toArray)
def upN (N : Nat → Nat → Nat → RecV) (l i : Nat) (R : Nat → RecV) : Nat → Nat → Nat → RecV := fun l' i' => if l' = l ∧ i' = i then R else N l' i'
theorem upN_same (N : Nat → Nat → Nat → RecV) (l i : Nat) (R : Nat → RecV) : upN N l i R l i = R := if_pos ⟨rfl, rfl⟩
theorem upN_other (N : Nat → Nat → Nat → RecV) {l i l' i' : Nat} (R : Nat → RecV) (h : ¬ (l' = l ∧ i' = i)) : upN N l i R l' i' = N l' i' := if_neg h
section
variable {w w' : World} {b n : Nat} {N : Nat → Nat → Nat → RecV}
theorem MN.lt (h : MN w b n N) : b < w.heap.size := by obtain ⟨D, h, _⟩ := h; exact h.lt
theorem MN.grown {row : Option Nat} (h : MN w b n N) (hg : w.grownBy w' row) (hne : some b ≠ row) : MN w' b n N := by
  obtain ⟨D, h, k⟩ := h
  exact ⟨D, h.kept hg hne, k⟩
theorem MN.below (h : MN w b n N) (hb : Below w.heap.size w w') : MN w' b n N := h.grown (row := none) (grown_of_below hb) (by simp)
theorem MN.chg {F : List Nat} (h : MN w b n N) (hc : Chg F w w') (hn : b ∉ F) : MN w' b n N := by
  have hlt := h.lt
  obtain ⟨D, ⟨es, clock, hb, r⟩, k⟩ := h
  exact ⟨D, ⟨es, clock, (hc.block b hlt hn).trans hb, r⟩, k⟩
theorem MN.mono (h : MN w b n N) {n' : Nat} (hn : n ≤ n') : MN w b n' N := by
  obtain ⟨D, h, k⟩ := h
  exact ⟨D, h.mono hn, k⟩
theorem MN.made (w : World) : MN (w.alloc (.map #[] 0)) w.heap.size 0 fun _ _ _ => rec0 :=
  ⟨_, World.ownsMap_made w _ _ _, fun l i hl hi => rfl⟩
theorem MN.no_cells (h : MN w b n N) : ∀ cs t fr, w.heap[b]? ≠ some (.cells cs t fr) := by
  obtain ⟨D, ⟨es, clock, hb, r⟩, k⟩ := h
  intro cs t fr e
  rw [hb] at e
  cases e
theorem MN.look (h : MN w b n N) {l i : Nat} (hl : l ≤ 1024) (hi : i ≤ 1024) : (Instr.lookup 82 (.map (some b)) (pv l i) false).run Tryz.prog w = .ok (.agg (recsC (N l i)).toArray) w := by
  obtain ⟨D, h, k⟩ := h
  obtain ⟨v, ps, hrun, hv⟩ := h.lookup spot_law Tryz.underlying82 (zero_recs w) (zd := .held zrecs) (zp := []) rfl (pl_of hl hi)
  rw [k l i hl hi] at hv
  simp only [itself, Option.some.injEq, Prod.mk.injEq, DataW.held.injEq] at hv
  rw [hrun, hv.1]
theorem MN.put (h : MN w b n N) {l i : Nat} (hl : l ≤ 1024) (hi : i ≤ 1024) (hn : n < maxLen) (R : Nat → RecV) :
    ∃ w', (Instr.mapUpdate 82 (.map (some b)) (pv l i) (.agg (recsC R).toArray)).run Tryz.prog w = .ok () w' ∧ MN w' b (n + 1) (upN N l i R) ∧ w.grownBy w' (some b) := by
  obtain ⟨D, h, k⟩ := h
  obtain ⟨w', hrun, hown, hg⟩ := h.update spot_law Tryz.underlying82 hn (pl_of hl hi) (val := .agg (recsC R).toArray) (d := .held (.agg (recsC R).toArray)) (ps := []) rfl
  have hm := h.isMap
  have hkey := spot_law.key (pl_of hl hi)
  refine ⟨w', hrun, ⟨_, hown, fun l' i' hl' hi' => ?_⟩, hg⟩
  by_cases hes : l' = l ∧ i' = i
  · obtain ⟨rfl, rfl⟩ := hes
    rw [atKey_put_same hm hkey, upN_same]
  · have hne : pl_ l' i' ≠ pl_ l i := fun e0 => hes (pl_inj hl' hi' hl hi e0)
    rw [atKey_put_other hne, upN_other _ _ hes]
    exact k l' i' hl' hi'
end
end Go.Proofs.YtpocccnhibjjcaaGreatDoor
/- Steps of a region that draws, one by one: a row made, a row stored. No conditions. -/
set_option linter.unusedVariables false
namespace Go.Proofs.YtpocccnhibjjcaaGreatDoor
open Go.RowKit

section
variable {P : Program} {ops : Array Oper} {o : Oper} {a : Act} {w : World} {Q : Exit → Act → World → Prop} {K : Act → World → Prop} {E : Prop}
theorem st_alloc (hw : Region.wanted o (yielded ops a.tmps) = true) (t : TypeId) (ho : o.op = .alloc t) (cs : List Value) (hz : ∀ w : World, (zeroValue t).run P w = .ok (.agg cs.toArray) w)
    (h : ∀ g w', Row w' g t cs → Hid (g = w.heap.size) → Below w.heap.size w w' → K (a.put o.dst (.pointer (some ⟨g, 0, none⟩))) w') : if Region.wanted o (yielded ops a.tmps) = true then Oper.wp P o a w K Q else E := by
  rw [if_pos hw]
  unfold Oper.wp execOp
  simp only [ho]
  simp [Instr.alloc, hz, newVar, go_sem]
  exact h _ _ (Row.made w t cs) (show _ = _ from rfl) ((Below.refl _ _).alloc (Nat.le_refl _) _)
theorem st_store (hw : Region.wanted o (yielded ops a.tmps) = true) (ty : TypeId) (x y : Operand) (ho : o.op = .store ty x y) (g : Nat) (hx : a.eval x = .pointer (some ⟨g, 0, none⟩)) (t : TypeId) (old cs : List Value) (hy : a.eval y = .agg cs.toArray)
    (hr : Row w g t old) (hl : old.length = cs.length) (hi : (P.info? ty).map (·.size) = some cs.length) (h1 : ∀ v ∈ cs, v.oneCell' = true)
    (h : ∀ w', Row w' g t cs → w.grownBy w' (some g) → K (a.put o.dst undef) w') : if Region.wanted o (yielded ops a.tmps) = true then Oper.wp P o a w K Q else E := by
  rw [if_pos hw]
  refine wp_store_row ty x y ho g cs.toArray hx hy t old.toArray hr (by simpa using hi) (by simpa using hl) (all_oneCell_toArray h1) ?_
  exact h _ (setRow_heap w g _ _ t _ hr) ⟨rfl, rfl, rfl, by simp, fun k hk hne => setRow_other w g k _ (fun e => hne (by rw [e]))⟩
theorem run_build_op {P : Program} (w : World) {a : Act} (o : Oper) (t : TypeId) (parts : Array (Nat × Operand)) (ho : o.op = .build t parts) (vs : List (Nat × Value)) (hv : (parts.map fun (i, x) => (i, a.eval x)).toList = vs) (cells : Array Value) (hb : P.built t vs = some cells) : (execOp a.eval o).run P w = .ok (.value (.agg cells)) w := by
  subst hv
  unfold execOp
  simp only [ho, Sem.run_bind, run_build w t _ cells hb, Result.andThen_ok]
  rfl
end
end Go.Proofs.YtpocccnhibjjcaaGreatDoor
/- The vault's cells; a record's and a place's own functions. Conditions: the vault lies there. -/
set_option linter.unusedVariables false
set_option maxRecDepth 20000
namespace Go.Proofs.YtpocccnhibjjcaaGreatDoor
open Go.RowKit

structure VC where
  gd : Nat
  ga : Nat
  vv : Value
  n : Nat
  gs : Nat
  e : Nat
  s : Nat
  top : RecV
  gn : Nat
  mf : Value
  un : Value
  rd : Bool
  gh : Nat
  gc : Nat
  pf : Value
  go : Value
  rt : Value
  us : Value
def VC.cs (c : VC) : List Value :=
  [.pointer (some ⟨c.gd, 0, none⟩), .pointer (some ⟨c.ga, 0, none⟩), c.vv, .int .i64 (c.n : Int), .pointer (some ⟨c.gs, 0, none⟩), .int .u32 (c.e : Int), .int .u32 (c.s : Int)] ++
    (c.top.cs ++ [.map (some c.gn), c.mf, c.un, .bool c.rd, .map (some c.gh), .map (some c.gc), c.pf, c.go, c.rt, c.us])
theorem VC.cs_len (c : VC) : c.cs.length = 52 := by simp [VC.cs, RecV.cs_len]
abbrev VAt (w : World) (g : Nat) (c : VC) : Prop := Row w g 90 c.cs
section
variable {w : World} {g : Nat} {c : VC}
theorem VC.lo (c : VC) (i : Nat) (h : i < 7) : c.cs[i]? = [Value.pointer (some ⟨c.gd, 0, none⟩), .pointer (some ⟨c.ga, 0, none⟩), c.vv, .int .i64 (c.n : Int), .pointer (some ⟨c.gs, 0, none⟩), .int .u32 (c.e : Int), .int .u32 (c.s : Int)][i]? := by
  unfold VC.cs
  rw [List.getElem?_append_left (by simpa using h)]
theorem VC.hi (c : VC) (i : Nat) : c.cs[42 + i]? = [Value.map (some c.gn), c.mf, c.un, .bool c.rd, .map (some c.gh), .map (some c.gc), c.pf, c.go, c.rt, c.us][i]? := by
  unfold VC.cs
  rw [List.getElem?_append_right (by simp; omega), List.getElem?_append_right (by simp [RecV.cs_len]; omega)]
  congr 1
  simp [RecV.cs_len]
  omega
theorem VAt.gd (h : VAt w g c) : w.cell? ⟨g, 0, none⟩ = some (.pointer (some ⟨c.gd, 0, none⟩)) := (h.cell 0).trans (c.lo 0 (by decide))
theorem VAt.ga (h : VAt w g c) : w.cell? ⟨g, 1, none⟩ = some (.pointer (some ⟨c.ga, 0, none⟩)) := (h.cell 1).trans (c.lo 1 (by decide))
theorem VAt.vv (h : VAt w g c) : w.cell? ⟨g, 2, none⟩ = some c.vv := (h.cell 2).trans (c.lo 2 (by decide))
theorem VAt.n (h : VAt w g c) : w.cell? ⟨g, 3, none⟩ = some (.int .i64 (c.n : Int)) := (h.cell 3).trans (c.lo 3 (by decide))
theorem VAt.gs (h : VAt w g c) : w.cell? ⟨g, 4, none⟩ = some (.pointer (some ⟨c.gs, 0, none⟩)) := (h.cell 4).trans (c.lo 4 (by decide))
theorem VAt.e (h : VAt w g c) : w.cell? ⟨g, 5, none⟩ = some (.int .u32 (c.e : Int)) := (h.cell 5).trans (c.lo 5 (by decide))
theorem VAt.s (h : VAt w g c) : w.cell? ⟨g, 6, none⟩ = some (.int .u32 (c.s : Int)) := (h.cell 6).trans (c.lo 6 (by decide))
theorem VAt.gn (h : VAt w g c) : w.cell? ⟨g, 42, none⟩ = some (.map (some c.gn)) := (h.cell 42).trans (c.hi 0)
theorem VAt.mf (h : VAt w g c) : w.cell? ⟨g, 43, none⟩ = some c.mf := (h.cell 43).trans (c.hi 1)
theorem VAt.un (h : VAt w g c) : w.cell? ⟨g, 44, none⟩ = some c.un := (h.cell 44).trans (c.hi 2)
theorem VAt.rd (h : VAt w g c) : w.cell? ⟨g, 45, none⟩ = some (.bool c.rd) := (h.cell 45).trans (c.hi 3)
theorem VAt.gh (h : VAt w g c) : w.cell? ⟨g, 46, none⟩ = some (.map (some c.gh)) := (h.cell 46).trans (c.hi 4)
theorem VAt.gc (h : VAt w g c) : w.cell? ⟨g, 47, none⟩ = some (.map (some c.gc)) := (h.cell 47).trans (c.hi 5)
theorem VAt.pf (h : VAt w g c) : w.cell? ⟨g, 48, none⟩ = some c.pf := (h.cell 48).trans (c.hi 6)
theorem VAt.go (h : VAt w g c) : w.cell? ⟨g, 49, none⟩ = some c.go := (h.cell 49).trans (c.hi 7)
theorem VAt.rt (h : VAt w g c) : w.cell? ⟨g, 50, none⟩ = some c.rt := (h.cell 50).trans (c.hi 8)
theorem VAt.us (h : VAt w g c) : w.cell? ⟨g, 51, none⟩ = some c.us := (h.cell 51).trans (c.hi 9)
theorem VAt.top (h : VAt w g c) : w.rangeAt g 7 c.top.cs := fun j v hv => by
  have hj := (List.getElem?_eq_some_iff.1 hv).1
  rw [h.cell]
  unfold VC.cs
  rw [List.getElem?_append_right (by simp), List.getElem?_append_left (by simp; exact hj)]
  simpa using hv
end
theorem set_hi (A B C : List Value) (i : Nat) (v : Value) (h : A.length + B.length ≤ i) : (A ++ (B ++ C)).set i v = A ++ (B ++ C.set (i - (A.length + B.length)) v) := by
  rw [List.set_append_right _ _ (by omega), List.set_append_right _ _ (by omega), Nat.sub_sub]
theorem set_lo (A B C : List Value) (i : Nat) (v : Value) (h : i < A.length) : (A ++ (B ++ C)).set i v = A.set i v ++ (B ++ C) := by
  rw [List.set_append_left _ _ h]
section
variable (c : VC)
theorem VC.set_e (x : Nat) : c.cs.set 5 (.int .u32 (x : Int)) = VC.cs { c with e := x } := by unfold VC.cs; rw [set_lo _ _ _ _ _ (by simp)]; rfl
theorem VC.set_s (x : Nat) : c.cs.set 6 (.int .u32 (x : Int)) = VC.cs { c with s := x } := by unfold VC.cs; rw [set_lo _ _ _ _ _ (by simp)]; rfl
theorem VC.set_hi (i : Nat) (v : Value) (c' : VC) (hA : ∀ D, D = c'.cs ↔ D = [Value.pointer (some ⟨c.gd, 0, none⟩), .pointer (some ⟨c.ga, 0, none⟩), c.vv, .int .i64 (c.n : Int), .pointer (some ⟨c.gs, 0, none⟩), .int .u32 (c.e : Int), .int .u32 (c.s : Int)] ++
    (c.top.cs ++ [Value.map (some c.gn), c.mf, c.un, .bool c.rd, .map (some c.gh), .map (some c.gc), c.pf, c.go, c.rt, c.us].set i v)) : c.cs.set (42 + i) v = c'.cs := by
  rw [hA]
  unfold VC.cs
  rw [_root_.Go.Proofs.YtpocccnhibjjcaaGreatDoor.set_hi _ _ _ _ _ (by simp [RecV.cs_len])]
  congr 3
  simp [RecV.cs_len]
theorem VC.set_mf (v : Value) : c.cs.set 43 v = VC.cs { c with mf := v } := c.set_hi 1 v _ fun _ => Iff.rfl
theorem VC.set_un (v : Value) : c.cs.set 44 v = VC.cs { c with un := v } := c.set_hi 2 v _ fun _ => Iff.rfl
theorem VC.set_rd (b : Bool) : c.cs.set 45 (.bool b) = VC.cs { c with rd := b } := c.set_hi 3 _ _ fun _ => Iff.rfl
theorem VC.set_pf (v : Value) : c.cs.set 48 v = VC.cs { c with pf := v } := c.set_hi 6 v _ fun _ => Iff.rfl
theorem VC.set_go (v : Value) : c.cs.set 49 v = VC.cs { c with go := v } := c.set_hi 7 v _ fun _ => Iff.rfl
theorem VC.set_rt (v : Value) : c.cs.set 50 v = VC.cs { c with rt := v } := c.set_hi 8 v _ fun _ => Iff.rfl
theorem VC.set_us (v : Value) : c.cs.set 51 v = VC.cs { c with us := v } := c.set_hi 9 v _ fun _ => Iff.rfl
end
attribute [irreducible] VC.cs
theorem VAt.lt {w : World} {g : Nat} {c : VC} (h : VAt w g c) : g < w.heap.size := Row.lt h

def RecV.ld (r : RecV) : Bool := r.a != 0
theorem vleads (r : RecV) (w : World) : Calls Tryz.prog 51 #[.agg r.cs.toArray] w fun e w' => e = .returned (.bool r.ld) ∧ Below w.heap.size w w' := by
  go_enter Tryz.func51, Tryz.ntmps51
  go_wp2_with (refine step_box rfl 1 rfl 87 _ rfl r.cs rfl ?_; intro g w1 hr hg hb hs; have c0 := RecV.c0 hr)
  go_ret
  exact ⟨rfl, hb⟩
theorem vblock (r : RecV) (k : Nat) (hk : r.a = (k : Int) + 1) (hk2 : k ≤ 1024) (w : World) : Calls Tryz.prog 73 #[.agg r.cs.toArray] w fun e w' => e = .returned (.int .i64 (k : Int)) ∧ Below w.heap.size w w' := by
  have ew : wrap64 (r.a - 1) = (k : Int) := by unfold wrap64; omega
  have ew2 : IntKind.i64.wrap (r.a - 1) = (k : Int) := by rw [IntKind.wrap_i64]; omega
  clear hk
  go_enter Tryz.func73, Tryz.ntmps73
  go_wp2_with (refine step_box rfl 1 rfl 87 _ rfl r.cs rfl ?_; intro g w1 hr hg hb hs; have c0 := RecV.c0 hr)
  go_ret
  exact ⟨rfl, hb⟩
end Go.Proofs.YtpocccnhibjjcaaGreatDoor
