/- A digest's digits: for every digest. -/
import Derived.Test.YtcbojloladkkdaaDoorTogether
import Derived.Test.YtcbojloladkkdaaDoorPadding
import Derived.Deep.RegionLaw
set_option linter.unusedVariables false
namespace Go.Proofs.YtcbojloladkkdaaDoor
open Go.RowKit

/-- A digit of base sixteen; those of the first k bytes. -/
def hx (n : Nat) : UInt8 := [48, 49, 50, 51, 52, 53, 54, 55, 56, 57, 97, 98, 99, 100, 101, 102].getD n 0
def hxs (f : Nat → UInt8) (k : Nat) : List UInt8 := (List.range k).flatMap fun i => [hx ((f i).toNat / 16), hx ((f i).toNat % 16)]
theorem hxs_succ (f : Nat → UInt8) (k : Nat) : hxs f (k + 1) = hxs f k ++ [hx ((f k).toNat / 16), hx ((f k).toNat % 16)] := by simp [hxs, List.range_succ]
theorem hxs_len (f : Nat → UInt8) (k : Nat) : (hxs f k).length = 2 * k := by
  induction k with
  | zero => rfl
  | succ k ih => rw [hxs_succ, List.length_append, ih]; simp; omega
theorem run_digit (w : World) (k : IntKind) (t : TypeId) (n : Nat) (hn : n < 16) (ht : Tryd.prog.underlying t = some .string) :
    (Instr.index t (.string ⟨#[48, 49, 50, 51, 52, 53, 54, 55, 56, 57, 97, 98, 99, 100, 101, 102]⟩) (.int k n)).run Tryd.prog w = .ok (B (hx n)) w := by
  have h : n = 0 ∨ n = 1 ∨ n = 2 ∨ n = 3 ∨ n = 4 ∨ n = 5 ∨ n = 6 ∨ n = 7 ∨ n = 8 ∨ n = 9 ∨ n = 10 ∨ n = 11 ∨ n = 12 ∨ n = 13 ∨ n = 14 ∨ n = 15 := by omega
  rcases h with rfl | rfl | rfl | rfl | rfl | rfl | rfl | rfl | rfl | rfl | rfl | rfl | rfl | rfl | rfl | rfl
  all_goals
    simp [Instr.index, asIntOf, run_underlying ht]
    rfl

theorem step_app {P : Program} {w : World} {ops : Array Oper} {o : Oper} {a : Act} {K : Act → World → Prop} {Q : Exit → Act → World → Prop} {E : Prop} (hgd : o.guard = none) (s x : Operand) (t : TypeId)
    (ho : o.op = .call { callee := .builtin .append, args := #[s, x], argTypes := #[t, t] })
    (e : TypeId) (i : TypeInfo) (U : U8 P t e i) (base : Nat) (v : Value) (n : Nat) (xs : List Value) (hs : a.eval s = v) (hown : w.ownsRow base e 1 v n xs)
    (A : Option Addr) (m c : Nat) (l : List UInt8) (hx : a.eval x = .slice A m c) (hm : m = l.length) (hA : Hol w A l) (hb : n + m ≤ 140737488355328) (hbase : base ≤ w.heap.size)
    (h : ∀ v' w', w'.ownsRow base e 1 v' (n + m) (xs ++ bc l) → w.grownBy w' v.ownBlock → (v'.ownBlock = v.ownBlock ∨ v'.ownBlock = some w.heap.size) → K (a.put o.dst v') w') :
    if Region.wanted o (yielded ops a.tmps) = true then Oper.wp P o a w K Q else E := by
  have hw : Region.wanted o (yielded ops a.tmps) = true := by simp [Region.wanted, hgd]
  rw [if_pos hw]
  obtain ⟨v', w', hr, h2, h3, h4⟩ := run_app (P := P) w t o.type e i U base v n xs hown A m c l hm hA (.inr trivial) hb hbase
  unfold Oper.wp execOp
  simp only [ho, resolve, invoke, builtin, Sem.run_bind, Sem.run_pure, Result.andThen_ok, List.map_toArray, List.map_cons, List.map_nil, hs, hx, hr]
  exact h v' w' h2 h3 h4

theorem hol_two (w : World) (e : TypeId) (x y : UInt8) : Hol (w.alloc (.cells #[B x, B y] e)) (some ⟨w.heap.size, 0, none⟩) [x, y] := by
  refine .inr ⟨w.heap.size, 0, rfl, fun j z hz => ?_⟩
  match j, hz with
  | 0, hz =>
    simp at hz
    subst hz
    simp
    rfl
  | 1, hz =>
    simp at hz
    subst hz
    simp
    rfl

set_option maxHeartbeats 1000000 in
theorem text_any (f : Nat → UInt8) (w : World) : Calls Tryd.prog 9 #[.agg (brr 32 f).toArray] w fun e w' => e = .returned (.string ⟨(hxs f 32).toArray⟩) ∧ Below w.heap.size w w' := by
  obtain ⟨i, U⟩ := u8_table
  have i27 := Lib.hid (p := (Tryd.prog.info? 27).map (·.size) = some 32) (by kernel_rfl)
  go_enter Tryd.func9, Tryd.ntmps9
  go_wp2_with (first
    | (refine step_box rfl 1 rfl 27 _ rfl (brr 32 f) rfl ?_; intro g1 w1 hr1 hg1 hb1 hs1)
    | (refine step_load rfl 7 rfl 27 _ rfl _ rfl (brr 32 f) _ (hr1.grown hg2 (by simp)).all Tryd.underlying27 rfl (by rw [brr_len]; exact i27) ?_)
    | (refine wpList_make_own _ rfl _ _ 24 rfl w.heap.size 5 i (.int .u8 0) 1 U.ht U.hi U.hz U.h1 .i64 .i64 _ 64 rfl rfl (by omega) (by rw [U.h2]; omega) (by unfold maxLen; omega) hb1.size ?_
       intro w2 hown2 hg2))
  have r1 := hr1.grown (row := none) hg2 (by simp)
  have hb := hb1.grown hg2 hb1.size (fun k hk => by cases hk)
  clear hr1 hg1 hb1 hs1 hg2
  go_loopw [3, 8] (fun v j wr => ∃ k : Nat, k ≤ 32 ∧ j = .int .i64 k ∧ wr.ownsRow w.heap.size 5 1 v (2 * k) (bc (hxs f k)) ∧ Below w.heap.size w wr) (fun _ j _ => 32 - (intOf j).toNat)
  case atStart => exact ⟨0, by omega, rfl, by simpa [hxs, bc] using hown2, hb⟩
  case round =>
    obtain ⟨k, hk, rfl, hown, hbel⟩ := hrel
    clear hown2 hb r1
    by_cases hlt : k < 32
    · have hix := fun w => run_index_brr (P := Tryd.prog) w 27 5 32 f k hlt Tryd.underlying27 Tryd.underlying5 (by kernel_rfl)
      have hs := Lib.hid (hxs_succ f k)
      obtain ⟨b, hb⟩ : ∃ b, b = f k := ⟨_, rfl⟩
      rw [← hb] at hix hs
      clear hb
      obtain ⟨p, hp⟩ : ∃ p, p = b.toNat / 16 := ⟨_, rfl⟩
      obtain ⟨q, hq⟩ : ∃ q, q = b.toNat % 16 := ⟨_, rfl⟩
      rw [← hp, ← hq] at hs
      have hb256 := u8_lt b
      have hp16 : p < 16 := by omega
      have hq16 : q < 16 := by omega
      have bh : bv b / 16 = (p : Int) := by unfold bv; omega
      have bl : bits .and .u8 (bv b) 15 = (q : Int) := by
        have e15 : (15 : Int) = ((15 : Nat) : Int) := rfl
        unfold bv
        rw [e15, u8_and_nat _ _ hb256 (by omega), nat_mask4, hq]
      clear hp hq hb256
      obtain ⟨L, hL⟩ : ∃ L, L = hxs f k := ⟨_, rfl⟩
      rw [← hL] at hown hs
      clear hL
      have hd1 := fun w => run_digit w .u8 9 p hp16 Tryd.underlying9
      have hd2 := fun w => run_digit w .u8 9 q hq16 Tryd.underlying9
      go_wp2
      have hsz : w.heap.size ≤ wr.heap.size := hbel.size
      have hown' : wr.drew.ownsRow w.heap.size 5 1 u3 (2 * k) (bc L) := hown.drew
      have hbel' : Below w.heap.size w wr.drew := hbel.drew
      go_region_law (refine step_app rfl (.tmp 11) (.tmp 18) 24 rfl 5 i U w.heap.size u3 (2 * k) (bc L) (by rfl) (hown'.alloc _) (some ⟨wr.heap.size, 0, none⟩) 2 2 [hx p, hx q] (by rfl) rfl (hol_two wr.drew _ _ _) (by omega) (by simp; omega) ?_; intro v2 w2 hown2 hg2 hat2)
      all_goals
        have hb2 : Below w.heap.size w w2 := (hbel'.alloc hbel'.size _).grown hg2 (by simp; omega) (fun k hk => (hown'.lt k hk).1)
        have hown3 : w2.ownsRow w.heap.size 5 1 v2 (2 * (k + 1)) (bc (hxs f (k + 1))) := by
          rw [hs.out, bc_app]
          exact hown2
        clear hown2 hg2 hat2 hown' hbel'
        go_wp2
        go_roundw
        case rel => exact ⟨k + 1, by omega, by go_num, hown3, hb2⟩
        case measure => simp [intOf]; omega
    · obtain rfl : k = 32 := by omega
      obtain ⟨hn, A, c, rfl, hc1, hc2, hH⟩ := own_form hown
      have hstr := run_to_string (P := Tryd.prog) wr 24 9 5 A c _ (hxs f 32) rfl Tryd.underlying24 Tryd.underlying5 Tryd.underlying9 hH
      go_wp2
      go_ret
      exact ⟨rfl, hbel⟩
end Go.Proofs.YtcbojloladkkdaaDoor
