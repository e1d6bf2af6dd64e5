/- The reference's functions on bytes, for every argument (bytes of at most 2^45). No other conditions. -/
import Derived.Test.YtijffkklhgnknaaDoorMgRc
import Derived.BigQuiet
import Derived.Deep.QuietTactic
import Derived.Test.YtijffkklhgnknaaDoorQp
set_option linter.unusedVariables false
namespace Go.Proofs.YtijffkklhgnknaaDoor
open Go.RowKit

/-- A literal list without elements, and bytes behind it. -/
theorem rput_arg (v : Value) (size : Int) (x : Nat) (w : World) (h : wid size = 0) :
    Calls Tryd.prog 49 #[v, .int .i64 size, .int .u64 x] w fun e w' => e = .returned (.tuple #[.slice none 0 0, .int .i64 201]) ∧ w = w' := by
  have h0 : size ≠ 1 ∧ size ≠ 2 ∧ size ≠ 4 ∧ size ≠ 8 := by
    unfold wid at h
    repeat' split at h
    all_goals first | (exfalso; omega) | (refine ⟨?_, ?_, ?_, ?_⟩ <;> assumption)
  have h1 : (size != 1) = true := by rw [bne_iff_ne]; exact h0.1
  have h2 : (size != 2) = true := by rw [bne_iff_ne]; exact h0.2.1
  have h4 : (size != 4) = true := by rw [bne_iff_ne]; exact h0.2.2.1
  have h8 : (size != 8) = true := by rw [bne_iff_ne]; exact h0.2.2.2
  clear h h0
  go_enter Tryd.func49, Tryd.ntmps49
  go_wp2
  go_ret2
  exact ⟨rfl, rfl⟩

theorem div_step (x k : Nat) : ((x / 256 ^ k : Nat) : Int) / 256 = ((x / 256 ^ (k + 1) : Nat) : Int) := by
  rw [Nat.pow_succ, ← Nat.div_div_eq_div_mul]
  omega
theorem byte_mod (x k : Nat) : ((x / 256 ^ k : Nat) : Int) % 256 = ((UInt8.ofNat (x / 256 ^ k)).toNat : Int) := by
  have e : (UInt8.ofNat (x / 256 ^ k)).toNat = x / 256 ^ k % 256 := UInt8.toNat_ofNat' ..
  rw [e]
  omega

theorem byte_self (b : UInt8) : (b.toNat : Int) % 256 = (b.toNat : Int) := by have := b.toNat_lt; omega

set_option maxHeartbeats 1000000 in
theorem rput_go (A : Option Addr) (c : Nat) (l : List UInt8) (k : Nat) (x : Nat) (w : World) (hA : Hol w A l) (hx : x < 18446744073709551616) (hl : l.length ≤ 35184372088832) (hk : 1 ≤ k) (hk8 : k ≤ 8)
    (h : ((k : Int) != 1) = false ∨ ((k : Int) != 1) = true ∧ ((k : Int) != 2) = false ∨ ((k : Int) != 1) = true ∧ ((k : Int) != 2) = true ∧ ((k : Int) != 4) = false ∨ ((k : Int) != 1) = true ∧ ((k : Int) != 2) = true ∧ ((k : Int) != 4) = true ∧ ((k : Int) != 8) = false) :
    Calls Tryd.prog 49 #[.slice A l.length c, .int .i64 k, .int .u64 x] w (BytesPost w (if x / 256 ^ k ≠ 0 then ([], 202) else (l ++ leb x k, 0))) := by
  obtain ⟨i, U⟩ := u8_table
  generalize hR : (if x / 256 ^ k ≠ 0 then (([] : List UInt8), (202 : Int)) else (l ++ leb x k, 0)) = R
  have HR := Lib.hid hR
  clear hR
  have hown0 : ∀ W : World, (W.alloc (.cells #[] 5)).ownsRow W.heap.size 5 1 (.slice (some ⟨W.heap.size, 0, none⟩) 0 0) 0 [] := fun W => World.ownsRow_made W #[] 0 (Nat.le_refl _) (by decide) rfl
  have HO := Lib.hid hown0
  clear hown0
  rcases h with h | ⟨h, h2⟩ | ⟨h, h2, h3⟩ | ⟨h, h2, h3, h4⟩
  all_goals
    go_enter Tryd.func49, Tryd.ntmps49
    go_wp2_with (at_builtin; refine wpList_app _ rfl (.tmp 24) (.tmp 25) _ rfl 5 i U w.heap.size _ 0 [] rfl (HO.out w) A l.length c l rfl rfl (hA.below (below_of_grown (World.grownBy_alloc w _ none))) (by omega) (by simp) ?_; intro v1 w1 hown1 hg1 hat1)
  all_goals
    have hb1 : Below w.heap.size w w1 := (below_of_grown (World.grownBy_alloc w _ none)).grown hg1 (by simp) (fun k hk => ((HO.out w).lt k hk).1)
    have hown2 : w1.ownsRow w.heap.size 5 1 v1 (l.length + 0) (bc (l ++ leb x 0)) := by simpa [leb] using hown1
    clear hown1 hg1 hat1
    go_loopw [2, 8, 9] (fun y s i wr => ∃ j : Nat, j ≤ k ∧ i = .int .i64 j ∧ y = .int .u64 (x / 256 ^ j : Nat) ∧ wr.ownsRow w.heap.size 5 1 s (l.length + j) (bc (l ++ leb x j)) ∧ Below w.heap.size w wr) (fun _ _ i _ => k - (intOf i).toNat)
    case atStart => exact ⟨0, Nat.zero_le _, rfl, by simp, hown2, hb1⟩
    case round =>
      obtain ⟨j, hj, rfl, rfl, hown3, hb3⟩ := hrel
      have hY : x / 256 ^ j < 18446744073709551616 := Nat.lt_of_le_of_lt (Nat.div_le_self _ _) hx
      have hd1 := div_step x j
      have hm1 := byte_mod x j
      by_cases hlt : j < k
      · generalize hy : x / 256 ^ j = y at *
        have HD := Lib.hid hd1
        have HM := Lib.hid hm1
        have HY := Lib.hid hy
        clear hd1 hm1 hy
        go_wp2_with (at_builtin; refine wpList_app _ rfl _ _ _ rfl 5 i U w.heap.size _ (l.length + j) _ rfl (hown3.alloc _) (some ⟨wr.heap.size, 0, none⟩) 1 1 [UInt8.ofNat y] rfl rfl (hol_one _ _ _ _ (by exact HM.out)) (by omega) (by have := hb3.size; simp; omega) ?_; intro v4 w4 hown4 hg4 hat4)
        have hb4 : Below w.heap.size w w4 := (hb3.alloc hb3.size _).grown hg4 (by have := hb3.size; simp; omega) (fun q hq => (hown3.lt q hq).1)
        have hown5 : w4.ownsRow w.heap.size 5 1 v4 (l.length + (j + 1)) (bc (l ++ leb x (j + 1))) := by
          rw [leb_succ, HY.out, ← List.append_assoc, bc_app]
          exact hown4
        clear hown4 hg4 hat4
        go_roundw
        case rel => exact ⟨j + 1, by omega, by go_num, by rw [← HD.out], hown5, hb4⟩
        case measure => simp [intOf]; omega
      · have hjk : j = k := by omega
        subst hjk
        clear hd1 hm1
        by_cases hz : x / 256 ^ j = 0
        · have hzz : ((x / 256 ^ j : Nat) : Int) = 0 := by rw [hz]; rfl
          have hR : R = (l ++ leb x j, 0) := by rw [← HR.out, if_neg (by simp [hz])]
          subst hR
          generalize hy : x / 256 ^ j = y at *
          subst hz
          have HY := Lib.hid hy
          clear hzz hy
          go_wp2
          go_ret2
          refine ⟨_, rfl, ?_, hb3⟩
          show wr.ownsRow _ _ _ _ (l ++ leb x j).length _
          rw [List.length_append, leb_len]
          exact hown3
        · have hR : R = ([], 202) := by rw [← HR.out, if_pos hz]
          subst hR
          generalize hy : x / 256 ^ j = y at *
          have HY := Lib.hid hy
          have hyz : (0 : Int) < (y : Int) := by omega
          clear hy
          go_wp2
          go_ret2
          exact ⟨_, rfl, World.ownsRow_nil _ _ _ _, hb3⟩
end Go.Proofs.YtijffkklhgnknaaDoor
/- The reference's functions on bytes, the rest: for every argument (bytes of at most 2^45). No other conditions. -/
set_option linter.unusedVariables false
namespace Go.Proofs.YtijffkklhgnknaaDoor
open Go.RowKit

theorem rput_any (A : Option Addr) (c : Nat) (l : List UInt8) (size : Int) (x : Nat) (w : World) (hA : Hol w A l) (hx : x < 18446744073709551616) (hl : l.length ≤ 35184372088832) :
    Calls Tryd.prog 49 #[.slice A l.length c, .int .i64 size, .int .u64 x] w (BytesPost w (putR l size x)) := by
  by_cases h : wid size = 0
  · have hr : putR l size x = ([], 201) := by unfold putR; rw [if_pos h]
    rw [hr]
    exact (rput_arg _ size x w h).mono fun e w' ⟨he, hw⟩ => ⟨_, he, World.ownsRow_nil _ _ _ _, by rw [hw]; exact Below.refl _ _⟩
  have hp := wid_pos h
  obtain ⟨k, rfl⟩ := Int.eq_ofNat_of_zero_le (by omega : 0 ≤ size)
  have hr : putR l (k : Int) x = (if x / 256 ^ k ≠ 0 then ([], 202) else (l ++ leb x k, 0)) := by unfold putR; rw [if_neg h, Int.toNat_natCast]
  rw [hr]
  refine rput_go A c l k x w hA hx hl (by omega) (by omega) ?_
  have hk : k = 1 ∨ k = 2 ∨ k = 4 ∨ k = 8 := by
    unfold wid at h
    repeat' split at h
    all_goals omega
  rcases hk with rfl | rfl | rfl | rfl
  · exact .inl rfl
  · exact .inr (.inl ⟨rfl, rfl⟩)
  · exact .inr (.inr (.inl ⟨rfl, rfl, rfl⟩))
  · exact .inr (.inr (.inr ⟨rfl, rfl, rfl, rfl⟩))

theorem put2_of (l : List UInt8) (n : Nat) : putR l 2 n = if 65535 < n then ([], 202) else (l ++ leb n 2, 0) := by
  unfold putR
  rw [if_neg (by decide)]
  by_cases h : 65535 < n
  · rw [if_pos h, if_pos]
    intro e
    have : n / 65536 = 0 := e
    omega
  · rw [if_neg h, if_neg]
    · rfl
    · intro e
      apply e
      show n / 65536 = 0
      omega

theorem rtxt_any (A : Option Addr) (c : Nat) (l : List UInt8) (s : ByteArray) (w : World) (hA : Hol w A l) (hl : l.length ≤ 35184372088832) (hs : s.size ≤ 9223372036854775807) :
    Calls Tryd.prog 50 #[.slice A l.length c, .string s] w (BytesPost w (txtR l s.data.toList)) := by
  have hsz : s.data.toList.length = s.size := by rw [Array.length_toList]; rfl
  have cP := rput_any A c l 2 s.size w hA (by omega) hl
  rw [put2_of] at cP
  by_cases h : 65535 < s.size
  · have hr : txtR l s.data.toList = ([], 202) := by unfold txtR; rw [hsz, if_pos h]
    rw [hr]
    rw [if_pos h] at cP
    clear hr hsz h
    have CP := Lib.hid cP
    clear cP
    go_enter Tryd.func50, Tryd.ntmps50
    go_wp2_with (go_at_call 49; refine CP.out.mono ?_; rintro e w1 ⟨v, rfl, hown1, hb1⟩)
    go_ret2
    exact ⟨_, rfl, World.ownsRow_nil _ _ _ _, hb1⟩
  · have hr : txtR l s.data.toList = (l ++ leb s.size 2 ++ s.data.toList, 0) := by unfold txtR; rw [hsz, if_neg h]
    rw [hr]
    rw [if_neg h] at cP
    obtain ⟨i, U⟩ := u8_table
    have HS := Lib.hid hsz
    have hz2 : s.size ≤ 65535 := by omega
    clear hr hsz h
    have CP := Lib.hid cP
    clear cP
    have hlen : (l ++ leb s.size 2).length = l.length + 2 := by rw [List.length_append, leb_len]
    have HL := Lib.hid hlen
    clear hlen
    go_enter Tryd.func50, Tryd.ntmps50
    go_wp2_with (first
      | (go_at_call 49; refine CP.out.mono ?_; rintro e w1 ⟨v, rfl, hown1, hb1⟩)
      | (at_builtin; refine Lib.wpList_append_own_string _ rfl _ _ 33 9 rfl w.heap.size 5 i U.ht Tryd.underlying9 U.hi U.hz U.h1 U.h2 v _ _ rfl hown1 s rfl (by show (l ++ leb s.size 2).length + s.size ≤ maxLen; rw [HL.out]; unfold maxLen; omega) (by show (l ++ leb s.size 2).length + s.size ≤ 140737488355328; rw [HL.out]; omega) hb1.size ?_; intro v3 w3 hown3 hg3 _))
    go_ret2
    refine ⟨v3, rfl, ?_, hb1.grown hg3 hb1.size (fun k hk => (hown1.lt k hk).1)⟩
    show w3.ownsRow _ _ _ _ (l ++ leb s.size 2 ++ s.data.toList).length (bc (l ++ leb s.size 2 ++ s.data.toList))
    rw [List.length_append, HS.out, bc_app]
    exact hown3

theorem hol_drewN {w : World} {A : Option Addr} {l : List UInt8} (h : Hol w A l) : ∀ q, Hol (w.drewN q) A l
  | 0 => h
  | q + 1 => hol_drewN (w := w.drew) h q

set_option maxHeartbeats 400000 in
theorem bytes_any (A B : Option Addr) (c d : Nat) (a b : List UInt8) (w : World) (hA : Hol w A a) (hB : Hol w B b) (ha : a.length ≤ 9223372036854775807) (hb : b.length ≤ 9223372036854775807) :
    Calls Tryd.prog 28 #[.slice A a.length c, .slice B b.length d] w fun e w' => e = .returned (.bool (decide (a = b))) ∧ Below w.heap.size w w' := by
  by_cases hl : a.length = b.length
  · generalize hR : decide (a = b) = R
    have HR := Lib.hid hR
    clear hR
    have hn : ((a.length : Int) != (b.length : Int)) = false := by rw [bne_eq_false_iff_eq]; omega
    generalize hbn : b.length = n at *
    have HL := Lib.hid hl
    have HB := Lib.hid hbn
    clear hl hbn
    have hn2 : (a.length : Int) ≤ (n : Int) := by have := HL.out; omega
    have hn3 : a.length ≤ n := by have := HL.out; omega
    go_enter Tryd.func28, Tryd.ntmps28
    go_wp2
    go_loopw [5] (fun i wr => ∃ k : Nat, k ≤ a.length ∧ i = .int .i64 k ∧ Hid (a.take k = b.take k) ∧ ∃ q, wr = w.drewN q) (fun i _ => a.length - (intOf i).toNat)
    case atStart => exact ⟨0, Nat.zero_le _, rfl, Lib.hid (by simp), 0, rfl⟩
    case round =>
      obtain ⟨k, hk, rfl, htk, q, rfl⟩ := hrel
      by_cases hlt : k < a.length
      · have hltb : k < b.length := by have := HL.out; have := HB.out; omega
        obtain ⟨g, o, rfl, _, hc1⟩ := hA.at_ hlt
        obtain ⟨g2, o2, rfl, _, hc2⟩ := hB.at_ hltb
        obtain ⟨x, hx⟩ : ∃ x, a[k] = x := ⟨_, rfl⟩
        obtain ⟨y, hy⟩ : ∃ y, b[k] = y := ⟨_, rfl⟩
        rw [hx] at hc1
        rw [hy] at hc2
        have HX := Lib.hid hx
        have HY := Lib.hid hy
        clear hx hy
        have hkz : (k : Int) < (a.length : Int) := by omega
        have hkz2 : (k : Int) < (n : Int) := by omega
        by_cases hxy : x = y
        · subst hxy
          have htk2 : Hid (a.take (k + 1) = b.take (k + 1)) := by
            refine Lib.hid ?_
            rw [List.take_succ_eq_append_getElem hlt, List.take_succ_eq_append_getElem hltb, htk.out, HX.out, HY.out]
          go_wp2_with fail
          go_quiet (fail)
          go_wp2
          go_roundw
          case rel =>
            exact ⟨k + 1, by omega, by go_num, htk2, _, rfl⟩
          case measure => simp [intOf]; omega
        · have hR : R = false := by
            rw [← HR.out]
            apply decide_eq_false
            intro e
            apply hxy
            subst e
            rw [← HX.out, ← HY.out]
          subst hR
          have hne : ((x.toNat : Int) != (y.toNat : Int)) = true := by
            rw [bne_iff_ne]
            intro e
            exact hxy (UInt8.toNat_inj.1 (by omega))
          clear hxy
          go_wp2_with fail
          go_quiet (fail)
          go_wp2
          go_ret
          exact ⟨rfl, below_drewN (below_drewN (Below.refl _ _) _) _⟩
      · have hR : R = true := by
          rw [← HR.out]
          apply decide_eq_true
          have := htk.out
          rw [List.take_of_length_le (by omega), List.take_of_length_le (by have := HL.out; have := HB.out; omega)] at this
          exact this
        subst hR
        go_wp2
        go_ret
        exact ⟨rfl, below_drewN (Below.refl _ _) _⟩
  · have hR : decide (a = b) = false := by
      apply decide_eq_false
      intro e
      exact hl (by rw [e])
    rw [hR]
    have hn : ((a.length : Int) != (b.length : Int)) = true := by rw [bne_iff_ne]; omega
    clear hl hR
    go_enter Tryd.func28, Tryd.ntmps28
    go_wp2
    go_ret
    exact ⟨rfl, Below.refl _ _⟩

theorem num_drop (l : List UInt8) (j : Nat) (h : j < l.length) : num (l.drop j) = (l[j]).toNat + 256 * num (l.drop (j + 1)) := by
  rw [List.drop_eq_getElem_cons h]
  rfl

set_option maxHeartbeats 400000 in
theorem rnum_any (A : Option Addr) (c : Nat) (l : List UInt8) (w : World) (hA : Hol w A l) (hl : l.length ≤ 8) :
    Calls Tryd.prog 32 #[.slice A l.length c, .int .i64 l.length] w fun e w' => e = .returned (.int .u64 (num l : Nat)) ∧ w = w' := by
  go_enter Tryd.func32, Tryd.ntmps32
  go_wp2
  go_loop [5, 6] (fun v i => ∃ j : Nat, j ≤ l.length ∧ i = .int .i64 ((j : Int) - 1) ∧ v = .int .u64 (num (l.drop j) : Nat)) (fun _ i => (intOf i + 1).toNat)
  case atStart => exact ⟨l.length, Nat.le_refl _, rfl, by rw [List.drop_length]; rfl⟩
  case round =>
    obtain ⟨j, hj, rfl, rfl⟩ := hrel
    by_cases h0 : 0 < j
    · obtain ⟨k, rfl⟩ : ∃ k, j = k + 1 := ⟨j - 1, by omega⟩
      have hlt : k < l.length := by omega
      obtain ⟨g, o, rfl, _, hc⟩ := hA.at_ hlt
      have hnd := num_drop l k hlt
      have hbd := num_lt (l.drop k)
      have hpw : 256 ^ (l.drop k).length ≤ 256 ^ 8 := Nat.pow_le_pow_right (by decide) (by rw [List.length_drop]; omega)
      have hb2 : num (l.drop k) < 18446744073709551616 := Nat.lt_of_lt_of_le hbd hpw
      clear hbd hpw
      obtain ⟨x, hx⟩ : ∃ x, l[k] = x := ⟨_, rfl⟩
      rw [hx] at hc hnd
      have hX : x.toNat < 256 := x.toNat_lt
      generalize num (l.drop (k + 1)) = N at hnd ⊢
      have hb3 : x.toNat + 256 * N < 18446744073709551616 := by omega
      have HND := Lib.hid hnd
      have HX := Lib.hid hx
      clear hnd hx hb2
      have hk1 : ((k + 1 : Nat) : Int) - 1 = (k : Int) := by omega
      rw [hk1]
      clear hk1
      have hkz : (k : Int) < (l.length : Int) := by omega
      go_wp2
      go_round
      case rel =>
        exact ⟨k, by omega, rfl, by rw [HND.out]; exact congrArg (Value.int .u64) (by omega)⟩
      case measure => simp [intOf]
    · obtain rfl : j = 0 := by omega
      rw [List.drop_zero]
      have e0 : ((0 : Nat) : Int) - 1 = -1 := rfl
      rw [e0]
      clear e0
      go_wp2
      go_ret
      exact ⟨rfl, rfl⟩
end Go.Proofs.YtijffkklhgnknaaDoor
/- The reference's Bytes of an entry. Conditions: the entry's numbers have their room. -/
set_option linter.unusedVariables false
set_option maxRecDepth 20000
namespace Go.Proofs.YtijffkklhgnknaaDoor
open Go.RowKit

theorem info_b1 : (Tryd.prog.info? 5).map (·.size) = some 1 := by kernel_rfl
theorem zero_u8 (w : World) : (zeroValue 5).run Tryd.prog w = .ok (.int .u8 0) w := by kernel_rfl
/-- A slice built of two values of one cell each. -/
theorem run_bsv2 {P : Program} (t e : TypeId) (hu : P.underlying t = some (.slice e)) (hs : (P.info? e).map (·.size) = some 1) (z : Value) (hz : ∀ w, (zeroValue e).run P w = .ok z w) (u v : Value) (hu1 : u.cells = #[u]) (hv : v.cells = #[v]) (w : World) :
    (Instr.buildSlice t 2 #[(0, u), (1, v)]).run P w = .ok (.slice (some ⟨w.heap.size, 0, none⟩) 2 2) (w.alloc (.cells [u, v].toArray e)) := by
  have hfill : ∀ zs : Array Value, zs.size = 2 → Instr.fill (fun i => some (i * 1, 1)) zs [(0, u), (1, v)] = some [u, v].toArray := fun zs hzs => by
    have hz2 : zs.toList = zs.toList.take 1 ++ zs.toList.drop 1 := (List.take_append_drop 1 _).symm
    have hl1 : (zs.toList.take 1).length = 1 := by rw [List.length_take]; simp; omega
    have hl2 : (zs.toList.drop 1).length = 1 := by rw [List.length_drop]; simp; omega
    have h1 := fill_part (place := fun i => some (i * 1, 1)) (A := []) (old := zs.toList.take 1) (B := zs.toList.drop 1) (vs := [u]) (i := 0) (off := 0) (n := 1) (v := u) (rest := [(1, v)]) (by simp) (by simpa using hu1) rfl rfl hl1
    have h2 := fill_part (place := fun i => some (i * 1, 1)) (A := [u]) (old := zs.toList.drop 1) (B := []) (vs := [v]) (i := 1) (off := 1) (n := 1) (v := v) (rest := []) (by simp) (by simpa using hv) rfl rfl hl2
    simp only [List.append_nil, List.nil_append] at h1 h2
    rw [← hz2, Array.toArray_toList] at h1
    rw [h1, h2]
    rfl
  cases hq : P.info? e with
  | none => simp [hq] at hs
  | some i =>
    have hi : i.size = 1 := by simpa [hq] using hs
    have hf := hfill ((Array.range (2 * 1)).map (z.cells[· % z.cells.size]!)) (by simp)
    have hsz : ∀ w : World, (sizeOf e).run P w = .ok 1 w := size_of hs
    have h1 : ¬ (2 ^ 24 < 2 * 1) := by decide
    have h2 : ¬ 2 * 1 = 0 := by decide
    clear hq hi
    unfold Instr.buildSlice
    simp only [Sem.run_bind, run_underlying hu, Result.andThen_ok, hsz, gt_iff_lt, h1, if_false, h2, Sem.run_pure, hz, Sem.run_ite]
    rw [hf]
    simp [newRow, go_sem]
theorem step_bsv2 {P : Program} {ops : Array Oper} {rest : List Oper} {o : Oper} {a : Act} {w : World} {Q : Exit → Act → World → Prop} (hgd : o.guard = none) (t e : TypeId) (x y : Operand) (ho : o.op = .buildSlice t 2 #[(0, x), (1, y)]) (hu : P.underlying t = some (.slice e)) (hs : (P.info? e).map (·.size) = some 1) (z : Value) (hz : ∀ w, (zeroValue e).run P w = .ok z w) (u v : Value) (hu1 : u.cells = #[u]) (hv : v.cells = #[v]) (hx : a.eval x = u) (hy : a.eval y = v)
    (h : ∀ g w', Row w' g e [u, v] → Hid (g = w.heap.size) → Below w.heap.size w w' → wpList P ops Q rest (a.put o.dst (.slice (some ⟨g, 0, none⟩) 2 2)) w') : wpList P ops Q (o :: rest) a w := by
  refine wpList_plain hgd fun K hK => ?_
  have hr := run_bsv2 t e hu hs z hz u v hu1 hv w
  unfold Oper.wp execOp
  simp only [ho, hx, hy, List.map_toArray, List.map_cons, List.map_nil, Sem.run_bind, hr, Result.andThen_ok]
  exact hK _ _ (h _ _ (Row.made w e [u, v]) (show _ = _ from rfl) ((Below.refl _ _).alloc (Nat.le_refl _) _))
theorem leb_one (i : Nat) : leb i 1 = [UInt8.ofNat i] := by simp [leb]
theorem u8_nat2 (i : Nat) (h : i < 256) : ((UInt8.ofNat i).toNat : Int) = (i : Int) := by
  rw [UInt8.toNat_ofNat']
  omega
theorem wrap_u8n (i : Nat) (h : i < 256) : IntKind.u8.wrap (i : Int) = (i : Int) := by
  simp [IntKind.wrap, IntKind.bits, IntKind.signed]
  omega
set_option maxHeartbeats 2000000 in
theorem rpack_any (x : Ent) (i k s : Nat) (hn : Nice x i k s) (w : World) : Calls Tryd.prog 27 #[.agg (ecs x).toArray] w (ByP w (16 + s) (enb x)) := by
  obtain ⟨hi, hk, hil, hkl, hser, hck, hnm, hsl⟩ := hn
  obtain ⟨l2, h2⟩ : ∃ l, leb i 1 ++ leb k 1 = l := ⟨_, rfl⟩
  obtain ⟨l3, h3⟩ : ∃ l, l2 ++ leb x.ser 8 = l := ⟨_, rfl⟩
  obtain ⟨l4, h4⟩ : ∃ l, l3 ++ leb x.ck 4 = l := ⟨_, rfl⟩
  have q2 : l2.length = 2 := by rw [← h2]; simp [leb_len]
  have q3 : l3.length = 10 := by rw [← h3]; simp [leb_len, q2]
  have q4 : l4.length = 14 := by rw [← h4]; simp [leb_len, q3]
  have h5 : enb x = l4 ++ leb s 2 ++ x.nm.data.toList := by
    rw [← h4, ← h3, ← h2]
    unfold enb
    rw [hi, hk, hnm, Int.toNat_natCast, Int.toNat_natCast]
  rw [h5]
  have hsz : x.nm.size = s := by rw [← hnm, Array.length_toList]; rfl
  have N2 := Lib.hid (p := ∀ (w : World) (g : Nat), Row w g 5 [.int .u8 (i : Int), .int .u8 (k : Int)] → Hol w (some ⟨g, 0, none⟩) l2) (fun w g h => by
    rw [← h2, leb_one, leb_one]
    refine .inr ⟨g, 0, rfl, fun j y hy => ?_⟩
    rw [Nat.zero_add, h.cell]
    rcases j with _ | _ | j
    · simp at hy; subst hy; rw [u8_nat2 i hil]; rfl
    · simp at hy; subst hy; rw [u8_nat2 k hkl]; rfl
    · simp at hy)
  have put : ∀ (l : List UInt8) (q : Nat) (z : Nat) (v : Nat), l.length = q → (z = 1 ∨ z = 2 ∨ z = 4 ∨ z = 8) → v < 256 ^ z → v < 18446744073709551616 → q ≤ 1000 → ∀ (A : Option Addr) (c : Nat) (w : World), Hol w A l → Calls Tryd.prog 49 #[.slice A q c, .int .i64 (z : Int), .int .u64 (v : Int)] w fun e w' => ∃ A' c', e = .returned (.tuple #[.slice A' (q + z) c', .int .i64 0]) ∧ w'.ownsRow w.heap.size 5 1 (.slice A' (q + z) c') (q + z) (bc (l ++ leb v z)) ∧ Below w.heap.size w w' := fun l q z v hl hz hv hv2 hq A c w hA => by
    have h := rput_any A c l (z : Int) v w hA hv2 (by omega)
    rw [putR_ok l z v hz hv, hl] at h
    refine h.mono ?_
    rintro e w' ⟨u, rfl, ho, hb⟩
    have ho2 := ho
    dsimp only at ho2
    rw [List.length_append, leb_len, hl] at ho2
    obtain ⟨A1, c1, rfl⟩ := own8_sl ho2
    exact ⟨A1, c1, rfl, ho2, hb⟩
  have N3 := Lib.hid (fun A c w hA => put l2 2 8 x.ser q2 (.inr (.inr (.inr rfl))) (by omega) (by omega) (by omega) A c w hA)
  rw [h3] at N3
  have N4 := Lib.hid (fun A c w hA => put l3 10 4 x.ck q3 (.inr (.inr (.inl rfl))) (by omega) (by omega) (by omega) A c w hA)
  rw [h4] at N4
  have N5 := Lib.hid (p := ∀ (A : Option Addr) (c : Nat) w (hA : Hol w A l4), Calls Tryd.prog 50 #[.slice A 14 c, .string x.nm] w fun e w' => ∃ A' c', e = .returned (.tuple #[.slice A' (16 + s) c', .int .i64 0]) ∧ w'.ownsRow w.heap.size 5 1 (.slice A' (16 + s) c') (16 + s) (bc (l4 ++ leb s 2 ++ x.nm.data.toList)) ∧ Below w.heap.size w w') (fun A c w hA => by
    have h := rtxt_any A c l4 x.nm w hA (by omega) (by omega)
    have hr : txtR l4 x.nm.data.toList = (l4 ++ leb s 2 ++ x.nm.data.toList, 0) := by unfold txtR; rw [hnm, if_neg (by omega)]
    rw [hr, q4] at h
    refine h.mono ?_
    rintro e w' ⟨v, rfl, ho, hb⟩
    dsimp only at ho
    rw [show (l4 ++ leb s 2 ++ x.nm.data.toList).length = 16 + s by simp [leb_len, q4, hnm]; omega] at ho
    obtain ⟨A1, c1, rfl⟩ := own8_sl ho
    exact ⟨A1, c1, rfl, ho, hb⟩)
  have HC := Lib.hid (p := ∀ (w : World) (g : Nat), Row w g 42 (ecs x) → w.cell? ⟨g, 0, none⟩ = some (.string x.nm) ∧ w.cell? ⟨g, 1, none⟩ = some (.int .i64 (i : Int)) ∧ w.cell? ⟨g, 2, none⟩ = some (.int .u64 (x.ser : Int)) ∧ w.cell? ⟨g, 3, none⟩ = some (.int .i64 (k : Int)) ∧ w.cell? ⟨g, 4, none⟩ = some (.int .u32 (x.ck : Int))) (fun w g h => ⟨by rw [h.cell]; rfl, by rw [h.cell, ← hi]; rfl, by rw [h.cell]; rfl, by rw [h.cell, ← hk]; rfl, by rw [h.cell]; rfl⟩)
  have u1 := wrap_u8n i hil
  have u2 := wrap_u8n k hkl
  have u3 := u64_nat x.ck (by omega)
  obtain ⟨nm, hnm2⟩ : ∃ b, x.nm = b := ⟨_, rfl⟩
  obtain ⟨ser, hser2⟩ : ∃ b, x.ser = b := ⟨_, rfl⟩
  obtain ⟨ck, hck2⟩ : ∃ b, x.ck = b := ⟨_, rfl⟩
  obtain ⟨l5, hl5⟩ : ∃ l, l4 ++ leb s 2 ++ x.nm.data.toList = l := ⟨_, rfl⟩
  rw [hl5] at N5 ⊢
  rw [hnm2, hser2, hck2] at HC
  rw [hnm2] at N5
  rw [hser2] at N3
  rw [hck2] at N4 u3
  clear hi hk hil hkl hser hck hnm hsl h2 h3 h4 h5 q2 q3 q4 hsz hl5 hnm2 hser2 hck2 put
  go_enter Tryd.func27, Tryd.ntmps27
  go_wp2_with (first
    | (refine step_box rfl 1 rfl 42 (.tmp 0) rfl (ecs x) rfl ?_; intro g w1 hr1 hg1 hb1 hs1
       have R1 := Lib.hid hr1
       have B1 := Lib.hid hb1
       obtain ⟨c0, c1, c2, c3, c4⟩ := HC.out w1 g hr1
       clear hr1 hg1 hb1 hs1)
    | (refine step_bsv2 rfl 33 5 _ _ rfl Tryd.underlying33 info_b1 _ zero_u8 (.int .u8 (i : Int)) (.int .u8 (k : Int)) rfl rfl rfl rfl ?_; intro g2 w2 hr2 hg2 hb
       have O2 := Lib.hid (N2.out _ _ hr2)
       have R2 := Lib.hid (R1.out.kept hb)
       have B2 := Lib.hid (below_nxt hb B1.out)
       obtain ⟨c0, c1, c2, c3, c4⟩ := HC.out w2 g R2.out
       clear hr2 hg2 hb)
    | (go_at_call 49; refine (N3.out _ _ _ O2.out).mono ?_; rintro e w4 ⟨A3, d3, rfl, ho, hb⟩
       have O3 := Lib.hid (Hol.own ho)
       have R4 := Lib.hid (R2.out.kept hb)
       have B4 := Lib.hid (below_nxt hb B2.out)
       obtain ⟨c0, c1, c2, c3, c4⟩ := HC.out w4 g R4.out
       clear ho hb N3)
    | (go_at_call 49; refine (N4.out _ _ _ O3.out).mono ?_; rintro e w5 ⟨A4, d4, rfl, ho, hb⟩
       have O4 := Lib.hid (Hol.own ho)
       have R5 := Lib.hid (R4.out.kept hb)
       have B5 := Lib.hid (below_nxt hb B4.out)
       obtain ⟨c0, c1, c2, c3, c4⟩ := HC.out w5 g R5.out
       clear ho hb N4)
    | (go_at_call 50; refine (N5.out _ _ _ O4.out).mono ?_; rintro e w6 ⟨A5, d5, rfl, ho, hb⟩
       have O5 := Lib.hid (own_lower ho B5.out.size)
       have B6 := Lib.hid (below_nxt hb B5.out)
       clear ho hb N5))
  go_ret
  exact ⟨A5, d5, rfl, O5.out, B6.out⟩
end Go.Proofs.YtijffkklhgnknaaDoor
