/- A run of bytes 0 appended to a row of the call's own that has room for them. No conditions but those named. -/
import Derived.Test.YtibnmhaipogleaaDoorMem
import Derived.Laws.CopyRow
import Derived.Lib.AppendZeros
import Derived.Test.YtibnmhaipogleaaDoorHash
set_option linter.unusedVariables false
namespace Go.Proofs.YtibnmhaipogleaaDoor
open Go.RowKit

theorem zero_list (m : Nat) : (Builtin.zeroCells #[Value.int .u8 0] m).toList = List.replicate m (Value.int .u8 0) := by
  apply List.ext_getElem
  · simp [Builtin.zeroCells]
  · intro i h1 h2
    simp [Builtin.zeroCells, Nat.mod_one]

theorem run_zeros {P : Program} (w : World) (t tn ty e : TypeId) (i : TypeInfo) (U : U8 P t e i) (htn : P.underlying tn = some (.int .i64)) (base g n m cap : Nat) (xs : List Value)
    (hown : w.ownsRow base e 1 (.slice (some ⟨g, 0, none⟩) n cap) n xs) (hfit : n + m ≤ cap) (hm : m ≤ 140737488355328) :
    ∃ w', (Builtin.append_ #[t, tn] ty #[.slice (some ⟨g, 0, none⟩) n cap, .int .i64 m]).run P w = .ok (.slice (some ⟨g, 0, none⟩) (n + m) cap) w' ∧
      w'.ownsRow base e 1 (.slice (some ⟨g, 0, none⟩) (n + m) cap) (n + m) (xs ++ List.replicate m (Value.int .u8 0)) ∧ w.grownBy w' (some g) := by
  obtain ⟨hl, h | ⟨g', cap', cur, hv, hb, hg, hn, hc, hs, ht⟩⟩ := hown
  · cases h.1
  simp only [Value.slice.injEq, Option.some.injEq, Addr.mk.injEq] at hv
  obtain ⟨⟨rfl, _⟩, _, rfl⟩ := hv
  have hst := run_storeCells_at P g n e (List.replicate m (Value.int .u8 0)) 0 cur w hg (by simp; omega) (fun v hv => by rw [List.eq_of_mem_replicate hv]; rfl)
  have hwr : IntKind.i64.wrap (m : Int) = m := by rw [IntKind.wrap_i64]; omega
  have hadd : (⟨g, 0, none⟩ : Addr).add n = ⟨g, n, none⟩ := by unfold Addr.add; split <;> simp_all
  simp only [Nat.add_zero, List.length_replicate] at hst
  obtain ⟨cur', hcur⟩ : ∃ cur' : Array Value, cur' = (cur.toList.take n ++ List.replicate m (Value.int .u8 0) ++ cur.toList.drop (n + m)).toArray := ⟨_, rfl⟩
  rw [← hcur] at hst
  have hx : xs.length = n := by omega
  refine ⟨w.setRow g cur', ?_, ⟨?_, .inr ⟨g, cap, cur', rfl, hb, setRow_heap w g _ _ e _ hg, hfit, hc, ?_, ?_⟩⟩, ⟨rfl, rfl, rfl, by simp, fun k hk hne => setRow_other w g k _ (fun e => hne (by rw [e]))⟩⟩
  · have hneg : ¬ ((m : Int) < 0) := by omega
    have h48 : ¬ ((281474976710656 : Int) < m) := by omega
    by_cases h0 : m = 0
    · subst h0
      have hw0 : IntKind.i64.wrap 0 = 0 := by decide
      have hf0 : n ≤ cap := by omega
      simp [Builtin.append_, run_underlying U.ht, run_underlying htn, sizeOf, typeInfo, zeroValue, U.hi, U.hz, U.h1, U.h2, asInt, asIntOf, hw0, hf0, hadd]
      simp at hst
      simp [hst]
    · have hc0 : (Value.int IntKind.u8 0).cells = #[Value.int IntKind.u8 0] := rfl
      simp [Builtin.append_, run_underlying U.ht, run_underlying htn, sizeOf, typeInfo, zeroValue, U.hi, U.hz, U.h1, U.h2, asInt, asIntOf, hwr, hfit, hneg, h48, hadd, h0, hc0, zero_list, hst]
  · simp only [List.length_append, List.length_replicate, hl]
    omega
  · rw [hcur]
    simp
    omega
  · rw [hcur]
    simp only [Nat.mul_one] at ht ⊢
    rw [← ht, List.take_left']
    simp
    omega

theorem step_zeros {P : Program} {w : World} {ops : Array Oper} {rest : List Oper} {o : Oper} {a : Act} {Q : Exit → Act → World → Prop} (hgd : o.guard = none) (s x : Operand) (t tn : TypeId)
    (ho : o.op = .call { callee := .builtin .append, args := #[s, x], argTypes := #[t, tn] }) (e : TypeId) (i : TypeInfo) (U : U8 P t e i) (htn : P.underlying tn = some (.int .i64)) (base g n m cap : Nat) (xs : List Value)
    (hs : a.eval s = .slice (some ⟨g, 0, none⟩) n cap) (hx : a.eval x = .int .i64 m) (hown : w.ownsRow base e 1 (.slice (some ⟨g, 0, none⟩) n cap) n xs) (hfit : n + m ≤ cap) (hm : m ≤ 140737488355328)
    (h : ∀ w', w'.ownsRow base e 1 (.slice (some ⟨g, 0, none⟩) (n + m) cap) (n + m) (xs ++ List.replicate m (Value.int .u8 0)) → w.grownBy w' (some g) → wpList P ops Q rest (a.put o.dst (.slice (some ⟨g, 0, none⟩) (n + m) cap)) w') : wpList P ops Q (o :: rest) a w := by
  obtain ⟨w', hr, h1, h2⟩ := run_zeros (P := P) w t tn o.type e i U htn base g n m cap xs hown hfit hm
  exact Lib.wpList_append_run w hgd s x t tn ho _ _ hs hx _ _ hr (h w' h1 h2)
end Go.Proofs.YtibnmhaipogleaaDoor
/- What stands behind a message: for every count of bytes up to 2^50. -/
set_option linter.unusedVariables false
namespace Go.Proofs.YtibnmhaipogleaaDoor
open Go.RowKit

/-- The first k of the eight bytes of a number, the greatest first. -/
def bez (v k : Nat) : List UInt8 := (List.range k).map fun j => UInt8.ofNat (v / 256 ^ (7 - j))
theorem bez_len (v k : Nat) : (bez v k).length = k := by simp [bez]
theorem bez_succ (v k : Nat) : bez v (k + 1) = bez v k ++ [UInt8.ofNat (v / 256 ^ (7 - k))] := by simp [bez, List.range_succ]
/-- How many bytes 0 stand between, and all that stands behind. -/
def zer (n : Nat) : Nat := (119 - n % 64) % 64
def padB (n : Nat) : List UInt8 := [128] ++ List.replicate (zer n) 0 ++ bez (8 * n) 8
theorem padB_len (n : Nat) : (padB n).length = 9 + zer n := by
  simp [padB, bez_len]
  omega
theorem zer_lt (n : Nat) : zer n < 64 := by unfold zer; omega
theorem pad_whole (n : Nat) : (n + (9 + zer n)) % 64 = 0 := by unfold zer; omega
theorem bc_zeros (m : Nat) : bc (List.replicate m 0) = List.replicate m (Value.int .u8 0) := by simp [bc]

theorem info_u8 : (Tryd.prog.info? 5).map (fun i => (i.zero, i.size, i.bytes)) = some (some (.int .u8 0), 1, 1) := by kernel_rfl
theorem pd_table : ∃ i, U8 Tryd.prog 29 5 i := by
  obtain ⟨i, hi, hz, h1, h2⟩ := info_parts info_u8
  exact ⟨i, Tryd.underlying29, hi, hz, h1, h2⟩
/-- One byte in a new block of its own. -/
theorem pd_one (w : World) (e : TypeId) (x : UInt8) (z : Int) (hz : z = (x.toNat : Int)) : Hol (w.alloc (.cells #[.int .u8 z] e)) (some ⟨w.heap.size, 0, none⟩) [x] := by
  subst hz
  refine .inr ⟨w.heap.size, 0, rfl, fun j y hy => ?_⟩
  match j, hy with
  | 0, hy =>
    simp at hy
    subst hy
    simp

theorem one_cell (w : World) (e : TypeId) (v : Value) : ∀ (j : Nat) (u : Value), [v][j]? = some u → (w.alloc (.cells #[v] e)).cell? ((⟨w.heap.size, 0, none⟩ : Addr).add j) = some u := by
  intro j u hu
  match j, hu with
  | 0, hu =>
    simp at hu
    subst hu
    simp [Addr.add]

theorem pd_shr (x k : Nat) : (x : Int) / 2 ^ (8 * k) % 256 = ((UInt8.ofNat (x / 256 ^ k)).toNat : Int) := by
  have e : (UInt8.ofNat (x / 256 ^ k)).toNat = x / 256 ^ k % 256 := UInt8.toNat_ofNat' ..
  have e2 : (2 : Int) ^ (8 * k) = ((256 ^ k : Nat) : Int) := by
    rw [Int.pow_mul]
    simp
  rw [e, e2]
  omega

set_option maxHeartbeats 400000 in
theorem padding_any (n : Nat) (hn : n ≤ 1125899906842624) (w : World) :
    Calls Tryd.prog 58 #[.int .u64 n] w fun e w' => ∃ v, e = .returned v ∧ w'.ownsRow w.heap.size 5 1 v (9 + zer n) (bc (padB n)) ∧ Below w.heap.size w w' := by
  obtain ⟨i, U⟩ := pd_table
  obtain ⟨z, hz⟩ : ∃ z, z = zer n := ⟨_, rfl⟩
  have hzI : (119 - (n : Int) % 64) % 64 = (z : Int) := by rw [hz]; unfold zer; omega
  have hz64 : z < 64 := hz ▸ zer_lt n
  have HZ := Lib.hid hz
  rw [← hz]
  clear hz
  go_enter Tryd.func58, Tryd.ntmps58
  go_wp2_with (first
    | (refine wpList_make_own _ rfl _ _ 29 rfl w.heap.size 5 i (.int .u8 0) 1 U.ht U.hi U.hz U.h1 .i64 .i64 _ (9 + z) rfl rfl (by omega) (by rw [U.h2]; omega) (by unfold maxLen; omega) (Nat.le_refl _) ?_
       intro w1 hown1 hg1)
    | (at_builtin; refine wpList_append_fits _ rfl _ _ 29 rfl w.heap.size 5 i 1 U.ht U.hi U.h1 w.heap.size 0 (9 + z) [] rfl (hown1.alloc _) ⟨w1.heap.size, 0, none⟩ 1 1 [.int .u8 128] rfl rfl (one_cell _ _ _) (by simp [Value.oneCell']) (by omega) ?_; intro w2 hown2 hg2)
    | (at_builtin; refine step_zeros rfl _ _ 29 3 rfl 5 i U Tryd.underlying3 w.heap.size w.heap.size 1 z (9 + z) _ rfl rfl hown2 (by omega) (by omega) ?_; intro w3 hown3 hg3))
  have hb1 := below_of_grown hg1
  have hb2 : Below w.heap.size w w2 := (hb1.alloc hb1.size _).grown hg2 (by have := hb1.size; simp; omega) (fun k hk => by injection hk with hk; omega)
  have hb3 : Below w.heap.size w w3 := hb2.grown hg3 hb2.size (fun k hk => by injection hk with hk; omega)
  have hown4 : w3.ownsRow w.heap.size 5 1 (.slice (some ⟨w.heap.size, 0, none⟩) (1 + z) (9 + z)) (1 + z) (bc ([128] ++ List.replicate z 0)) := by
    rw [bc_app, bc_zeros]
    exact hown3
  clear hown1 hown2 hown3 hg1 hg2 hg3 hb1 hb2
  go_loopw [4, 20] (fun v i wr => ∃ k : Nat, k ≤ 8 ∧ i = .int .i64 k ∧ wr.ownsRow w.heap.size 5 1 v (1 + z + k) (bc ([128] ++ List.replicate z 0 ++ bez (8 * n) k)) ∧ Below w.heap.size w wr) (fun _ i _ => 8 - (intOf i).toNat)
  case atStart => exact ⟨0, by omega, rfl, by simpa [bez] using hown4, hb3⟩
  case round =>
    obtain ⟨k, hk, rfl, hown, hbel⟩ := hrel
    clear hown4 hb3
    by_cases hlt : k < 8
    · obtain ⟨m, hm⟩ : ∃ m : Nat, m = 7 - k := ⟨_, rfl⟩
      have hmI : (7 - (k : Int)) = (m : Int) := by omega
      have hm7 : m ≤ 7 := by omega
      have hmin : min (8 * m) 64 = 8 * m := by omega
      have hby := pd_shr (8 * n) m
      have HM := Lib.hid hm
      clear hm
      obtain ⟨L, hL⟩ : ∃ L, L = [128] ++ List.replicate z 0 ++ bez (8 * n) k := ⟨_, rfl⟩
      rw [← hL] at hown
      have HL := Lib.hid hL
      clear hL
      go_wp2_with (at_builtin; refine wpList_app _ rfl _ _ _ rfl 5 i U w.heap.size _ (1 + z + k) _ rfl (hown.alloc _) (some ⟨wr.heap.size, 0, none⟩) 1 1 [UInt8.ofNat (8 * n / 256 ^ m)] rfl rfl (pd_one _ _ _ _ ?hz) (by omega) (by have := hbel.size; simp; omega) ?_)
      case hz =>
        rw [Int.natCast_mul] at hby
        exact hby
      intro v2 w2 hown2 hg2 hat2
      have hb2 : Below w.heap.size w w2 := (hbel.alloc hbel.size _).grown hg2 (by have := hbel.size; simp; omega) (fun k hk => (hown.lt k hk).1)
      have hown3 : w2.ownsRow w.heap.size 5 1 v2 (1 + z + (k + 1)) (bc ([128] ++ List.replicate z 0 ++ bez (8 * n) (k + 1))) := by
        rw [bez_succ, ← HM.out, ← List.append_assoc, ← HL.out, bc_app]
        exact hown2
      clear hown2 hg2 hat2 hown hbel
      go_wp2
      go_roundw
      case rel => exact ⟨k + 1, by omega, by go_num, hown3, hb2⟩
      case measure => simp [intOf]; omega
    · obtain rfl : k = 8 := by omega
      go_wp2
      go_ret
      have e := HZ.out
      subst e
      exact ⟨_, rfl, by rw [show 9 + zer n = 1 + zer n + 8 by omega]; exact hown, hbel⟩
end Go.Proofs.YtibnmhaipogleaaDoor
