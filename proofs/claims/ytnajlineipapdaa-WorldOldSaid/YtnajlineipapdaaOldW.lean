/- The law WorldOld, walked: what was written to a block comes back, the latest first. Conditions: those on how the argument lies. -/
import Derived.Test.YtnajlineipapdaaPTam
import Derived.Test.YtnajlineipapdaaPBar
import Derived.Test.YtnajlineipapdaaKeepP
import Derived.Test.YtnajlineipapdaaRBy
import Derived.Test.YtnajlineipapdaaListsIn
import Derived.Test.YtnajlineipapdaaAwakeD
set_option linter.unusedVariables false
namespace Go.Proofs.Ytnajlineipapdaa
open Go.RowKit

theorem step_min {P : Program} {w : World} {ops : Array Oper} {rest : List Oper} {o : Oper} {a : Act} {Q : Exit → Act → World → Prop} (hgd : o.guard = none) (s x : Operand) (ts : Array TypeId) (ho : o.op = .call { callee := .builtin .min, args := #[s, x], argTypes := ts })
    (p q m : Int) (hs : a.eval s = .int .i64 p) (hx : a.eval x = .int .i64 q) (hm : (if q < p then q else p) = m) (h : wpList P ops Q rest (a.put o.dst (.int .i64 m)) w) : wpList P ops Q (o :: rest) a w := by
  refine wpList_plain hgd fun K hK => ?_
  subst hm
  unfold Oper.wp execOp
  simp only [ho, resolve, invoke, builtin, Sem.run_bind, Sem.run_pure, Result.andThen_ok, List.map_toArray, List.map_cons, List.map_nil, hs, hx, run_min_int2]
  exact hK _ _ h
theorem syncK_no (rs : List (Nat × BV)) (ss : List BV) : ∀ k, syncK (fun i => ([] : List Bool).getD i false) rs ss k = ss
  | 0 => rfl
  | k + 1 => by
    rw [syncK]
    split
    · rw [if_neg (by simp)]
      exact syncK_no rs ss k
    · exact syncK_no rs ss k
theorem take_snocB {ls : List BV} {j : Nat} {x : BV} (h : ls[j]? = some x) : ls.take (j + 1) = ls.take j ++ [x] := by rw [List.take_add_one, h]; rfl
/-- What was written to block 1, in its order. -/
def WroteE (E : Nat → List BV) (ls : List BV) (k : Nat) : Prop := (E 1).map (·.l) = (ls.take k).map (fun x => pad x.l)
theorem WroteE.more {E : Nat → List BV} {ls : List BV} {k : Nat} {x y : BV} (h : WroteE E ls k) (hx : ls[k]? = some x) (hy : y.l = pad x.l) : WroteE (more E 1 y) ls (k + 1) := by
  unfold WroteE
  rw [more_same, List.map_append, h, take_snocB hx, List.map_append]
  simp [hy]
theorem WroteE.old {E : Nat → List BV} {ls : List BV} {n k : Nat} (h : WroteE E ls n) (hn : n ≤ ls.length) (hk : k < n) {x : BV} (hx : ls[n - 1 - k]? = some x) : oldL E 1 k = pad x.l := by
  have hl : (E 1).length = n := by
    have := congrArg List.length h
    simpa [Nat.min_eq_left hn] using this
  have h1 : ((E 1).map (·.l))[n - 1 - k]? = some (pad x.l) := by
    rw [h, List.getElem?_map, List.getElem?_take, if_pos (by omega), hx]
    rfl
  unfold oldL
  rw [if_pos (by omega), hl, List.getD_eq_getElem?_getD]
  rw [List.getElem?_map] at h1
  obtain ⟨y, h2, h3⟩ := Option.map_eq_some_iff.1 h1
  rw [h2, ← h3]
  rfl
theorem WroteE.end_ {E : Nat → List BV} {ls : List BV} {n : Nat} (h : WroteE E ls n) (hn : n ≤ ls.length) : oldL E 1 n = pad [] := by
  have hl : (E 1).length = n := by
    have := congrArg List.length h
    simpa [Nat.min_eq_left hn] using this
  unfold oldL
  rw [if_neg (by omega)]
end Go.Proofs.Ytnajlineipapdaa
