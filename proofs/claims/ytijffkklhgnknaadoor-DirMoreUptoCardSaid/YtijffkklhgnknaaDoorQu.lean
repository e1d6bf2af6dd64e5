/- The place of a name among entries. Conditions: those named. -/
import Derived.Test.YtijffkklhgnknaaDoorQt
import Derived.Test.YtijffkklhgnknaaDoorMgRunes
set_option linter.unusedVariables false
set_option maxRecDepth 20000
namespace Go.Proofs.YtijffkklhgnknaaDoor
open Go.RowKit

/-- Whether an entry's name isn't below the name. -/
def notB (nm : ByteArray) (x : Ent) : Bool := !(lessD x.nm.data.toList nm.data.toList)
set_option maxHeartbeats 2000000 in
theorem placed_any (g1 g2 : Nat) (nm : ByteArray) (A : Option Addr) (n c k : Nat) (X : List Ent) (x : Ent) (w : World) (h : Lies ecs 5 w A X) (hn : X.length = n) (hx : X[k]? = some x) (h1 : w.cell? ⟨g1, 0, none⟩ = some (.slice A n c)) (h2 : w.cell? ⟨g2, 0, none⟩ = some (.string nm)) (ha : x.nm.size ≤ 9223372036854775807) (hb : nm.size ≤ 9223372036854775807) (hT : Tabs w) :
    Calls Tryd.prog 60 #[.int .i64 (k : Int), .pointer (some ⟨g1, 0, none⟩), .pointer (some ⟨g2, 0, none⟩)] w fun e w' => e = .returned (.bool (notB nm x)) ∧ Below w.heap.size w w' := by
  obtain ⟨g0, o0, rfl, hc⟩ := lies_nm h hx
  have hki : (k : Int) < (n : Int) := by have := (List.getElem?_eq_some_iff.1 hx).1; omega
  have HL := Lib.hid (less_any x.nm nm w.drew ha hb (tabs_below hT (below_drw w)))
  clear h hx hT ha hb
  go_enter Tryd.func60, Tryd.ntmps60
  go_wp2
  go_still_tail 6, (by kernel_rfl)
  go_wp2_with (go_at_call 61; refine HL.out.mono ?_; rintro e w2 ⟨rfl, hb⟩
               have HB := Lib.hid hb
               clear hb)
  go_ret
  exact ⟨rfl, below_nxt HB.out (below_drw w)⟩
theorem shr_one (X : Nat) : (X : Int).fdiv (2 ^ 1) = ((X / 2 : Nat) : Int) := by
  have e : (2 : Int) ^ 1 = ((2 : Nat) : Int) := by simp
  rw [e, Int.fdiv_eq_ediv_of_nonneg _ (Int.natCast_nonneg _)]
  exact (Int.natCast_ediv X 2).symm
section
variable {P : Program} {w : World} {ops : Array Oper} {rest : List Oper} {o : Oper} {a : Act} {Q : Exit → Act → World → Prop}
theorem wp_half (hgd : o.guard = none) (t t2 : TypeId) (x y : Operand) (ho : o.op = .binOp .shr t x y t2) (X r : Nat) (hx : a.eval x = .int .u64 (X : Int)) (k2 : IntKind) (hy : a.eval y = .int k2 1) (hr : X / 2 = r)
    (h : wpList P ops Q rest (a.put o.dst (.int .u64 (r : Int))) w) : wpList P ops Q (o :: rest) a w := by
  refine wpList_plain hgd fun K hK => ?_
  have hs := shr_one X
  rw [hr] at hs
  unfold Oper.wp execOp
  simp only [ho, hx, hy]
  simp [go_sem, Op.shift, IntKind.bits]
  simp only [Int.pow_succ, Int.pow_zero, Int.one_mul] at hs
  simp [hs]
  exact hK _ _ h
end
set_option maxHeartbeats 2000000 in
/-- The library's search, with the closure of a name's place. -/
theorem search_any (v1 v2 : Value) (p : Nat → Bool) (n : Nat) (hmax : n ≤ 1000000) (w : World) (hcall : ∀ (k : Nat) (W : World), k < n → Below w.heap.size w W → Calls Tryd.prog 60 #[.int .i64 (k : Int), v1, v2] W fun e W' => e = .returned (.bool (p k)) ∧ Below W.heap.size W W') :
    Calls Tryd.prog 59 #[.int .i64 (n : Int), .func (.func 60) #[] #[v1, v2]] w fun e w' => ∃ z : Nat, e = .returned (.int .i64 (z : Int)) ∧ z ≤ n ∧ (z < n → p z = true) ∧ (∀ q, q + 1 = z → p q = false) ∧ Below w.heap.size w w' := by
  have HCALL := Lib.hid hcall
  have HN := Lib.hid hmax
  clear hcall hmax
  go_enter Tryd.func59, Tryd.ntmps59
  go_wp2
  go_loopw [5, 6] (fun x y wr => ∃ (i j : Nat), x = .int .i64 (i : Int) ∧ y = .int .i64 (j : Int) ∧ Hid (i ≤ j ∧ j ≤ n) ∧ Hid ((j < n → p j = true) ∧ (∀ q, q + 1 = i → p q = false)) ∧ Hid (Below w.heap.size w wr)) (fun x y _ => (intOf y).toNat - (intOf x).toNat)
  case atStart => exact ⟨0, n, rfl, rfl, Lib.hid ⟨Nat.zero_le _, Nat.le_refl _⟩, Lib.hid ⟨fun h => absurd h (Nat.lt_irrefl _), fun q h => absurd h (Nat.succ_ne_zero _)⟩, Lib.hid (Below.refl _ _)⟩
  case round =>
    obtain ⟨i, j, rfl, rfl, HI, HP, HB⟩ := hrel
    rename World => wr
    by_cases hij : i < j
    · have hiji : (i : Int) < (j : Int) := by omega
      obtain ⟨s, hs⟩ : ∃ s, i + j = s := ⟨_, rfl⟩
      obtain ⟨k, hk⟩ : ∃ k, s / 2 = k := ⟨_, rfl⟩
      have hsw : IntKind.i64.wrap ((i : Int) + (j : Int)) = (s : Int) := by rw [IntKind.wrap_i64]; have := HI.out; have := HN.out; omega
      have hsu : IntKind.u64.wrap (s : Int) = (s : Int) := by rw [IntKind.wrap_u64]; have := HI.out; have := HN.out; omega
      have hki : IntKind.i64.wrap (k : Int) = (k : Int) := by rw [IntKind.wrap_i64]; have := HI.out; have := HN.out; omega
      obtain ⟨k1, hk1⟩ : ∃ k1, k + 1 = k1 := ⟨_, rfl⟩
      have hkw : IntKind.i64.wrap ((k : Int) + 1) = (k1 : Int) := by rw [IntKind.wrap_i64]; have := HI.out; have := HN.out; omega
      have HK := Lib.hid (p := s / 2 = k ∧ i ≤ k ∧ k < j ∧ k + 1 = k1 ∧ k < n) ⟨hk, by omega, by omega, hk1, by have := HI.out; omega⟩
      clear hij hs hk hk1
      obtain ⟨z, hz⟩ : ∃ z, p k = z := ⟨_, rfl⟩
      have HZ := Lib.hid hz
      cases z
      · clear hz
        go_wp2_with (first
          | (refine wp_half rfl _ _ _ _ rfl s k rfl _ rfl HK.out.1 ?_)
          | (go_at_call 60; refine (HCALL.out k _ HK.out.2.2.2.2 HB.out).mono ?_; rintro e w4 ⟨rfl, hb⟩
             have HB4 := Lib.hid (below_nxt hb HB.out)
             rw [HZ.out]
             clear hb))
        go_roundw
        case rel =>
          refine ⟨k1, j, rfl, rfl, Lib.hid ⟨by have := HK.out; omega, HI.out.2⟩, Lib.hid ⟨HP.out.1, fun q hq => ?_⟩, HB4⟩
          have e1 : q = k := by have := HK.out; omega
          rw [e1]
          exact HZ.out
        case measure => have := HK.out; simp [intOf]; omega
      · clear hz
        go_wp2_with (first
          | (refine wp_half rfl _ _ _ _ rfl s k rfl _ rfl HK.out.1 ?_)
          | (go_at_call 60; refine (HCALL.out k _ HK.out.2.2.2.2 HB.out).mono ?_; rintro e w4 ⟨rfl, hb⟩
             have HB4 := Lib.hid (below_nxt hb HB.out)
             rw [HZ.out]
             clear hb))
        go_roundw
        case rel => exact ⟨i, k, rfl, rfl, Lib.hid ⟨HK.out.2.1, by have := HK.out; omega⟩, Lib.hid ⟨fun _ => HZ.out, HP.out.2⟩, HB4⟩
        case measure => have := HK.out; simp [intOf]; omega
    · have hije : i = j := by have := HI.out; omega
      subst hije
      have hiji : ¬ (i : Int) < (i : Int) := by omega
      clear hij
      go_wp2
      go_ret
      exact ⟨i, rfl, HI.out.2, HP.out.1, HP.out.2, HB.out⟩
end Go.Proofs.YtijffkklhgnknaaDoor
