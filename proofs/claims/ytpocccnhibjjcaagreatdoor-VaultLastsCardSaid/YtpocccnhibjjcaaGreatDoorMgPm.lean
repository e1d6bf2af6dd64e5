/- Words for memory: rows of numbers and of records of the call's own, as they stay and grow. No conditions but those named. -/
import Derived.Test.YtpocccnhibjjcaaGreatDoorMgApp
import Derived.Test.YtpocccnhibjjcaaGreatDoorChecked
import Derived.WalkMore
import Derived.Deep.RegionLaw
import Derived.Deep.AppendLies
import Derived.BigQuiet
import Derived.Deep.QuietTactic
import Derived.WalkKit
set_option linter.unusedVariables false
namespace Go.Proofs.YtpocccnhibjjcaaGreatDoor.P7
open Go.RowKit

theorem below_nxt {w u v : World} (hb : Below u.heap.size u v) (ha : Below w.heap.size w u) : Below w.heap.size w v := ha.trans (hb.mono ha.size)
theorem below_drw (w : World) : Below w.heap.size w w.drew := (Below.refl _ _).drew
theorem below_al (w : World) (o : Obj) : Below w.heap.size w (w.alloc o) := (Below.refl _ _).alloc (Nat.le_refl _) _
theorem own_kept {w w' : World} {base : Nat} {e : TypeId} {size n : Nat} {v : Value} {xs : List Value} (h : w.ownsRow base e size v n xs) (hb : Below w.heap.size w w') : w'.ownsRow base e size v n xs := by
  refine h.kept (grown_of_below (row := some w.heap.size) hb) ?_
  cases hv : v.ownBlock with
  | none => exact .inl rfl
  | some k =>
    refine .inr (fun e => ?_)
    injection e with e
    have := (h.lt k hv).2
    omega
theorem own_lower {w : World} {b b' : Nat} {e : TypeId} {size n : Nat} {v : Value} {xs : List Value} (h : w.ownsRow b e size v n xs) (hb : b' ≤ b) : w.ownsRow b' e size v n xs := by
  refine ⟨h.1, ?_⟩
  rcases h.2 with h0 | ⟨g, cap, cur, h1, h2, h3⟩
  · exact .inl h0
  · exact .inr ⟨g, cap, cur, h1, Nat.le_trans hb h2, h3⟩
theorem own_sl {w : World} {base : Nat} {e : TypeId} {size n : Nat} {v : Value} {xs : List Value} (h : w.ownsRow base e size v n xs) : ∃ A c, v = .slice A n c := by
  rcases h.2 with ⟨rfl, rfl⟩ | ⟨g, cap, cur, rfl, _⟩
  · exact ⟨none, 0, rfl⟩
  · exact ⟨_, _, rfl⟩
theorem void_own (w : World) (e : TypeId) (k b : Nat) (hb : b ≤ w.heap.size) : (w.alloc (.cells #[] e)).ownsRow b e k (.slice (some ⟨w.heap.size, 0, none⟩) 0 0) 0 [] :=
  ⟨by simp, .inr ⟨w.heap.size, 0, #[], rfl, hb, heap_alloc_new w _, Nat.le_refl _, by decide, by simp, by simp⟩⟩

section
variable {α : Type} {f : α → List Value} {k : Nat}
theorem flat_len (hf : ∀ x, (f x).length = k) : ∀ xs : List α, (xs.flatMap f).length = xs.length * k
  | [] => by simp
  | x :: t => by
    rw [List.flatMap_cons, List.length_append, hf, flat_len hf t, List.length_cons, Nat.add_mul]
    omega
theorem flat_snoc (xs : List α) (x : α) : (xs ++ [x]).flatMap f = xs.flatMap f ++ f x := by simp
theorem flat_get (hf : ∀ x, (f x).length = k) : ∀ {xs : List α} {j : Nat} {x : α}, xs[j]? = some x → ∀ i, i < k → (xs.flatMap f)[j * k + i]? = (f x)[i]?
  | [], j, x, h, _, _ => by simp at h
  | a :: t, 0, x, h, i, hi => by
    simp at h
    subst h
    rw [List.flatMap_cons, Nat.zero_mul, Nat.zero_add, List.getElem?_append_left (by rw [hf]; exact hi)]
  | a :: t, j + 1, x, h, i, hi => by
    have h' : t[j]? = some x := by simpa using h
    rw [List.flatMap_cons, List.getElem?_append_right (by rw [hf, Nat.add_mul]; omega), hf, show (j + 1) * k + i - k = j * k + i by rw [Nat.add_mul]; omega]
    exact flat_get hf h' i hi
end

structure Rec (P : Program) (t e : TypeId) (k : Nat) : Prop where
  ht : P.underlying t = some (.slice e)
  inf : ∃ i z, P.info? e = some i ∧ i.zero = some z ∧ i.size = k ∧ i.bytes ≤ 64 ∧ z.cells.size = k
  pos : 0 < k
theorem rec_of {P : Program} {t e : TypeId} {k n : Nat} {z : Value} (ht : P.underlying t = some (.slice e)) (h : (P.info? e).map (fun i => (i.zero, i.size, i.bytes)) = some (some z, k, n)) (hn : n ≤ 64) (hz : z.cells.size = k) (hk : 0 < k) : Rec P t e k := by
  obtain ⟨i, h1, h2, h3, h4⟩ := info_parts h
  exact ⟨ht, ⟨i, z, h1, h2, h3, by omega, hz⟩, hk⟩
theorem rec_int : Rec Tryz.prog 103 3 1 := rec_of (z := .int .i64 0) (n := 8) Tryz.underlying103 (by kernel_rfl) (by decide) rfl (by decide)
theorem rec_spot : Rec Tryz.prog 68 99 2 := rec_of (z := .agg #[.int .i64 0, .int .i64 0]) (n := 16) Tryz.underlying68 (by kernel_rfl) (by decide) rfl (by decide)

section
variable {P : Program} {w : World} {t e : TypeId} {k : Nat}
theorem run_join (R : Rec P t e k) (ty : TypeId) (base : Nat) (v : Value) (n : Nat) (xs : List Value) (hown : w.ownsRow base e k v n xs)
    (A : Option Addr) (m c : Nat) (ys : List Value) (hys : ys.length = m * k) (hA : m = 0 ∧ A = none ∨ ∃ ad, A = some ad ∧ ∀ j u, ys[j]? = some u → w.cell? (ad.add j) = some u) (h1 : ∀ u ∈ ys, u.oneCell' = true) (hb : n + m ≤ 1000001) (hbase : base ≤ w.heap.size) :
    ∃ v' w', (Builtin.append_ #[t, t] ty #[v, .slice A m c]).run P w = .ok v' w' ∧ w'.ownsRow base e k v' (n + m) (xs ++ ys) ∧ w.grownBy w' v.ownBlock ∧ (v'.ownBlock = v.ownBlock ∨ v'.ownBlock = some w.heap.size) := by
  obtain ⟨i, z, hi, hz, hs, hby, hzs⟩ := R.inf
  rcases hA with ⟨rfl, rfl⟩ | ⟨ad, rfl, hc⟩
  · have hy : ys = [] := List.eq_nil_of_length_eq_zero (by rw [hys, Nat.zero_mul])
    subst hy
    refine ⟨v, w, ?_, by simpa using hown, ⟨rfl, rfl, rfl, Nat.le_refl _, fun _ _ _ => rfl⟩, .inl rfl⟩
    rcases hown.2 with ⟨rfl, rfl⟩ | ⟨g, cap, cur, rfl, _, _, hnc, _⟩
    · simp [Builtin.append_, run_underlying R.ht, sizeOf, typeInfo, hi, Builtin.lenOf, Builtin.firstCells]
    · simp [Builtin.append_, run_underlying R.ht, sizeOf, typeInfo, hi, Builtin.lenOf, Builtin.firstCells, hnc, storeCells]
  · obtain ⟨v', w', hr, h2, h3, _, h5⟩ := run_append_own_at (P := P) w base t ty e i z k i.bytes R.ht hi hz hs rfl hzs R.pos v n xs hown ad m c ys hys hc h1
      (by unfold maxLen; omega) (Nat.le_trans (Nat.mul_le_mul hb hby) (by omega)) hbase
    exact ⟨v', w', hr, h2, h3, h5⟩
theorem wp_join {ops : Array Oper} {rest : List Oper} {o : Oper} {a : Act} {Q : Exit → Act → World → Prop} (hgd : o.guard = none) (s x : Operand)
    (ho : o.op = .call { callee := .builtin .append, args := #[s, x], argTypes := #[t, t] }) (R : Rec P t e k) (base : Nat) (v : Value) (n : Nat) (xs : List Value) (hs : a.eval s = v) (hown : w.ownsRow base e k v n xs)
    (A : Option Addr) (m c : Nat) (ys : List Value) (hx : a.eval x = .slice A m c) (hys : ys.length = m * k) (hA : m = 0 ∧ A = none ∨ ∃ ad, A = some ad ∧ ∀ j u, ys[j]? = some u → w.cell? (ad.add j) = some u) (h1 : ∀ u ∈ ys, u.oneCell' = true) (hb : n + m ≤ 1000001) (hbase : base ≤ w.heap.size)
    (h : ∀ v' w', w'.ownsRow base e k v' (n + m) (xs ++ ys) → w.grownBy w' v.ownBlock → (v'.ownBlock = v.ownBlock ∨ v'.ownBlock = some w.heap.size) → wpList P ops Q rest (a.put o.dst v') w') :
    wpList P ops Q (o :: rest) a w := by
  refine wpList_plain hgd fun K hK => ?_
  obtain ⟨v', w', hr, h2, h3, h4⟩ := run_join (P := P) R o.type base v n xs hown A m c ys hys hA h1 hb hbase
  unfold Oper.wp execOp
  simp only [ho, resolve, invoke, builtin, Sem.run_bind, Sem.run_pure, Result.andThen_ok, List.map_toArray, List.map_cons, List.map_nil, hs, hx, hr]
  exact hK _ _ (h v' w' h2 h3 h4)
end

def ic (l : List Int) : List Value := l.map (Value.int .i64)
theorem ic_len (l : List Int) : (ic l).length = l.length := by simp [ic]
theorem ic_app (a b : List Int) : ic (a ++ b) = ic a ++ ic b := by simp [ic]
theorem ic_get {l : List Int} {j : Nat} {z : Int} (h : l[j]? = some z) : (ic l)[j]? = some (.int .i64 z) := by simp [ic, h]
theorem get_ic {l : List Int} {j : Nat} {u : Value} (h : (ic l)[j]? = some u) : ∃ z, l[j]? = some z ∧ u = .int .i64 z := by
  simp only [ic, List.getElem?_map] at h
  obtain ⟨z, hz, rfl⟩ := Option.map_eq_some_iff.1 h
  exact ⟨z, hz, rfl⟩
def HolI (w : World) (A : Option Addr) (zs : List Int) : Prop :=
  zs = [] ∨ ∃ g off, A = some ⟨g, off, none⟩ ∧ ∀ j z, zs[j]? = some z → w.cell? ⟨g, off + j, none⟩ = some (.int .i64 z)
section
variable {w w' : World} {A : Option Addr} {l : List Int}
theorem HolI.at_ (h : HolI w A l) {j : Nat} (hj : j < l.length) : ∃ g off, A = some ⟨g, off, none⟩ ∧ g < w.heap.size ∧ w.cell? ⟨g, off + j, none⟩ = some (.int .i64 (l[j]'hj)) := by
  rcases h with rfl | ⟨g, off, rfl, hc⟩
  · simp at hj
  · have := hc j _ (List.getElem?_eq_getElem hj)
    exact ⟨g, off, rfl, World.block_lt_of_cell? w _ this, this⟩
theorem HolI.below (h : HolI w A l) (hb : Below w.heap.size w w') : HolI w' A l := by
  rcases h with rfl | ⟨g, off, rfl, hc⟩
  · exact .inl rfl
  · exact .inr ⟨g, off, rfl, fun j x hx => (hb.cell (p := ⟨g, off + j, none⟩) (World.block_lt_of_cell? w _ (hc j x hx))).trans (hc j x hx)⟩
theorem HolI.src (h : HolI w A l) (hn : A = none → l = []) : l.length = 0 ∧ A = none ∨ ∃ ad, A = some ad ∧ ∀ j u, (ic l)[j]? = some u → w.cell? (ad.add j) = some u := by
  cases A with
  | none => exact .inl ⟨by rw [hn rfl]; rfl, rfl⟩
  | some ad =>
    refine .inr ⟨ad, rfl, fun j u hu => ?_⟩
    obtain ⟨z, hz, rfl⟩ := get_ic hu
    rcases h with rfl | ⟨g, off, e, hc⟩
    · simp at hz
    · injection e with e
      subst e
      rw [Addr.add_lit]
      exact hc j z hz
theorem HolI.own {base : Nat} {e : TypeId} {n c : Nat} (h : w.ownsRow base e 1 (.slice A n c) n (ic l)) : HolI w A l := by
  by_cases hl : l = []
  · exact .inl hl
  · rcases h.2 with ⟨h1, h2⟩ | ⟨g, cap, cur, h1, hb, hg, hn, hc, hs, ht⟩
    · have := h.1
      rw [ic_len] at this
      exact absurd (List.eq_nil_of_length_eq_zero (by omega)) hl
    · simp only [Value.slice.injEq] at h1
      obtain ⟨rfl, _, rfl⟩ := h1
      refine .inr ⟨g, 0, rfl, fun j x hx => ?_⟩
      have := h.cells (g := g) rfl j _ (ic_get hx)
      rw [Addr.add_lit] at this
      exact this
end

def sp (x : Int × Int) : List Value := [.int .i64 x.1, .int .i64 x.2]
theorem sp_len (x : Int × Int) : (sp x).length = 2 := rfl
theorem sp_one (x : Int × Int) : ∀ u ∈ sp x, u.oneCell' = true := by intro u hu; simp [sp] at hu; rcases hu with rfl | rfl <;> rfl
def HolS (w : World) (A : Option Addr) (xs : List (Int × Int)) : Prop :=
  xs = [] ∨ ∃ g, A = some ⟨g, 0, none⟩ ∧ ∀ j x, xs[j]? = some x → w.cell? ⟨g, j * 2, none⟩ = some (.int .i64 x.1) ∧ w.cell? ⟨g, j * 2 + 1, none⟩ = some (.int .i64 x.2)
section
variable {w w' : World} {A : Option Addr} {l : List (Int × Int)}
theorem HolS.at_ (h : HolS w A l) {j : Nat} {x : Int × Int} (hj : l[j]? = some x) : ∃ g, A = some ⟨g, 0, none⟩ ∧ g < w.heap.size ∧ w.cell? ⟨g, j * 2, none⟩ = some (.int .i64 x.1) ∧ w.cell? ⟨g, j * 2 + 1, none⟩ = some (.int .i64 x.2) := by
  rcases h with rfl | ⟨g, rfl, hc⟩
  · simp at hj
  · have := hc j _ hj
    exact ⟨g, rfl, World.block_lt_of_cell? w _ this.1, this⟩
theorem HolS.below (h : HolS w A l) (hb : Below w.heap.size w w') : HolS w' A l := by
  rcases h with rfl | ⟨g, rfl, hc⟩
  · exact .inl rfl
  · exact .inr ⟨g, rfl, fun j x hx => ⟨(hb.cell (p := ⟨g, j * 2, none⟩) (World.block_lt_of_cell? w _ (hc j x hx).1)).trans (hc j x hx).1, (hb.cell (p := ⟨g, j * 2 + 1, none⟩) (World.block_lt_of_cell? w _ (hc j x hx).2)).trans (hc j x hx).2⟩⟩
theorem HolS.own {base : Nat} {e : TypeId} {n c : Nat} (h : w.ownsRow base e 2 (.slice A n c) n (l.flatMap sp)) : HolS w A l := by
  by_cases hl : l = []
  · exact .inl hl
  · rcases h.2 with ⟨h1, h2⟩ | ⟨g, cap, cur, h1, hb, hg, hn, hc, hs, ht⟩
    · have := h.1
      rw [flat_len sp_len] at this
      exact absurd (List.eq_nil_of_length_eq_zero (by omega)) hl
    · simp only [Value.slice.injEq] at h1
      obtain ⟨rfl, _, rfl⟩ := h1
      refine .inr ⟨g, rfl, fun j x hx => ⟨?_, ?_⟩⟩
      · have := h.cells (g := g) rfl (j * 2 + 0) (.int .i64 x.1) (by rw [flat_get sp_len hx 0 (by decide)]; rfl)
        rw [Addr.add_lit, Nat.zero_add] at this
        exact this
      · have := h.cells (g := g) rfl (j * 2 + 1) (.int .i64 x.2) (by rw [flat_get sp_len hx 1 (by decide)]; rfl)
        rw [Addr.add_lit, Nat.zero_add] at this
        exact this
end
theorem made_src (w : World) (cs : List Value) (e : TypeId) {m : Nat} : m = 0 ∧ (some (⟨w.heap.size, 0, none⟩ : Addr)) = none ∨ ∃ ad, some (⟨w.heap.size, 0, none⟩ : Addr) = some ad ∧ ∀ j u, cs[j]? = some u → (w.alloc (.cells cs.toArray e)).cell? (ad.add j) = some u :=
  .inr ⟨_, rfl, fun j u hu => by rw [Addr.add_lit, Nat.zero_add, (Row.made w e cs).cell]; exact hu⟩

def OwnS (b : Nat) (w : World) (A : Option Addr) (n c : Nat) (xs : List (Int × Int)) : Prop := w.ownsRow b 99 2 (.slice A n c) n (xs.flatMap sp)
def OwnI (b : Nat) (w : World) (A : Option Addr) (n c : Nat) (xs : List Int) : Prop := w.ownsRow b 3 1 (.slice A n c) n (ic xs)
section
variable {b : Nat} {w w' : World} {A : Option Addr} {n c : Nat}
theorem OwnS.nil (b : Nat) (w : World) : OwnS b w none 0 0 [] := World.ownsRow_nil _ _ _ _
theorem OwnI.nil (b : Nat) (w : World) : OwnI b w none 0 0 [] := World.ownsRow_nil _ _ _ _
theorem OwnS.len {xs : List (Int × Int)} (h : OwnS b w A n c xs) : n = xs.length := by have := h.1; rw [flat_len sp_len] at this; omega
theorem OwnI.len {xs : List Int} (h : OwnI b w A n c xs) : n = xs.length := by have := h.1; rw [ic_len] at this; omega
theorem OwnS.kept {xs : List (Int × Int)} (h : OwnS b w A n c xs) (hb : Below w.heap.size w w') : OwnS b w' A n c xs := own_kept h hb
theorem OwnI.kept {xs : List Int} (h : OwnI b w A n c xs) (hb : Below w.heap.size w w') : OwnI b w' A n c xs := own_kept h hb
theorem OwnS.hol {xs : List (Int × Int)} (h : OwnS b w A n c xs) : HolS w A xs := HolS.own h
theorem OwnI.hol {xs : List Int} (h : OwnI b w A n c xs) : HolI w A xs := HolI.own h
end
theorem spot_more {W w w' : World} {A : Option Addr} {n c : Nat} {xs : List (Int × Int)} {x : Int × Int} {v' : Value} {o : Obj} (hb : Below W.heap.size W w) (hown : OwnS W.heap.size w A n c xs)
    (h1 : w'.ownsRow W.heap.size 99 2 v' (n + 1) (xs.flatMap sp ++ sp x)) (hg : (w.alloc o).grownBy w' (Value.slice A n c).ownBlock) :
    ∃ A' c', v' = .slice A' (n + 1) c' ∧ OwnS W.heap.size w' A' (n + 1) c' (xs ++ [x]) ∧ Below W.heap.size W w' := by
  obtain ⟨A', c', rfl⟩ := own_sl h1
  refine ⟨A', c', rfl, ?_, ?_⟩
  · unfold OwnS
    rw [flat_snoc]
    exact h1
  · refine (hb.trans ((below_al w o).mono hb.size)).grown hg (Nat.le_trans hb.size (below_al w o).size) ?_
    intro k hk
    exact (hown.lt k hk).1
theorem int_more {W w w' : World} {A : Option Addr} {n c : Nat} {xs : List Int} {x : Int} {v' : Value} {o : Obj} (hb : Below W.heap.size W w) (hown : OwnI W.heap.size w A n c xs)
    (h1 : w'.ownsRow W.heap.size 3 1 v' (n + 1) (ic xs ++ [.int .i64 x])) (hg : (w.alloc o).grownBy w' (Value.slice A n c).ownBlock) :
    ∃ A' c', v' = .slice A' (n + 1) c' ∧ OwnI W.heap.size w' A' (n + 1) c' (xs ++ [x]) ∧ Below W.heap.size W w' := by
  obtain ⟨A', c', rfl⟩ := own_sl h1
  refine ⟨A', c', rfl, ?_, ?_⟩
  · unfold OwnI
    rw [ic_app]
    exact h1
  · refine (hb.trans ((below_al w o).mono hb.size)).grown hg (Nat.le_trans hb.size (below_al w o).size) ?_
    intro k hk
    exact (hown.lt k hk).1
def SpotsPost (w : World) (xs : List (Int × Int)) (e : Ending) (w' : World) : Prop := ∃ A c, e = .returned (.slice A xs.length c) ∧ OwnS w.heap.size w' A xs.length c xs ∧ Below w.heap.size w w'
def IntsPost (w : World) (xs : List Int) (e : Ending) (w' : World) : Prop := ∃ A c, e = .returned (.slice A xs.length c) ∧ OwnI w.heap.size w' A xs.length c xs ∧ Below w.heap.size w w'
theorem SpotsPost.mk {w w' : World} {xs ys : List (Int × Int)} {A : Option Addr} {n c : Nat} (h : OwnS w.heap.size w' A n c ys) (hb : Below w.heap.size w w') (hxy : ys = xs) : SpotsPost w xs (.returned (.slice A n c)) w' := by
  subst hxy
  obtain rfl := h.len
  exact ⟨A, c, rfl, h, hb⟩
theorem IntsPost.mk {w w' : World} {xs ys : List Int} {A : Option Addr} {n c : Nat} (h : OwnI w.heap.size w' A n c ys) (hb : Below w.heap.size w w') (hxy : ys = xs) : IntsPost w xs (.returned (.slice A n c)) w' := by
  subst hxy
  obtain rfl := h.len
  exact ⟨A, c, rfl, h, hb⟩
end Go.Proofs.YtpocccnhibjjcaaGreatDoor.P7
/- Plain facts: how many slots and nodes a tree has. No program is in sight here, and no conditions. -/
set_option linter.unusedVariables false
namespace Go.Proofs.YtpocccnhibjjcaaGreatDoor.P7

def pw (n : Nat) : Nat := 4 ^ n
theorem pw_zero : pw 0 = 1 := rfl
theorem pw_succ (n : Nat) : pw (n + 1) = pw n * 4 := Nat.pow_succ ..
theorem pw_pos (n : Nat) : 1 ≤ pw n := Nat.pow_pos (by decide)
theorem pw_mono {a b : Nat} (h : a ≤ b) : pw a ≤ pw b := Nat.pow_le_pow_right (by decide) h
theorem pw_le {n : Nat} (h : n ≤ 4) : pw n ≤ 256 := pw_mono h
def lv (d : Int) : Nat := if 1 ≤ d ∧ d ≤ 4 then d.toNat else 0
theorem lv_le (d : Int) : lv d ≤ 4 := by unfold lv; split <;> omega
theorem lv_in {d : Int} (h : 1 ≤ d) (h2 : d ≤ 4) : (lv d : Int) = d := by unfold lv; rw [if_pos ⟨h, h2⟩]; omega
theorem lv_out {d : Int} (h : ¬ (1 ≤ d ∧ d ≤ 4)) : lv d = 0 := if_neg h
theorem lv_nat {d : Int} (h : 1 ≤ d) (h2 : d ≤ 4) : ∃ n : Nat, d = (n : Int) ∧ 1 ≤ n ∧ n ≤ 4 := ⟨d.toNat, by omega, by omega, by omega⟩
theorem lv_of {n : Nat} (h : 1 ≤ n) (h2 : n ≤ 4) : lv (n : Int) = n := by unfold lv; rw [if_pos (by omega)]; omega
def sl (d : Int) : Nat := if lv d = 0 then 0 else pw (lv d)
theorem sl_le (d : Int) : sl d ≤ 256 := by
  unfold sl
  split
  · omega
  · exact pw_le (lv_le d)
theorem sl_out {d : Int} (h : ¬ (1 ≤ d ∧ d ≤ 4)) : sl d = 0 := by unfold sl; rw [lv_out h]; rfl
theorem sl_of {n : Nat} (h : 1 ≤ n) (h2 : n ≤ 4) : sl (n : Int) = pw n := by unfold sl; rw [lv_of h h2, if_neg (by omega)]
def nd : Nat → Nat
  | 0 => 0
  | n + 1 => nd n + pw n
theorem nd_le {n : Nat} (h : n ≤ 4) : nd n ≤ 85 := by
  match n, h with
  | 0, _ => decide
  | 1, _ => decide
  | 2, _ => decide
  | 3, _ => decide
  | 4, _ => decide
def lev (l n : Nat) : List (Int × Int) := (List.range n).map fun i : Nat => ((l : Int), (i : Int))
theorem lev_zero (l : Nat) : lev l 0 = [] := rfl
theorem lev_succ (l n : Nat) : lev l (n + 1) = lev l n ++ [((l : Int), (n : Int))] := by unfold lev; rw [List.range_succ, List.map_append]; rfl
theorem lev_len (l n : Nat) : (lev l n).length = n := by simp [lev]
def al : Nat → List (Int × Int)
  | 0 => []
  | n + 1 => al n ++ lev n (pw n)
theorem al_len : ∀ n, (al n).length = nd n
  | 0 => rfl
  | n + 1 => by simp [al, nd, al_len n, lev_len]
end Go.Proofs.YtpocccnhibjjcaaGreatDoor.P7
/- The numbers of a tree, of the program and of the reference: what each call leaves. Conditions: those named. -/
set_option linter.unusedVariables false
namespace Go.Proofs.YtpocccnhibjjcaaGreatDoor.P7
open Go.RowKit

theorem power_any (n : Nat) (hn : n ≤ 4) (w : World) :
    Calls Tryz.prog 42 #[.int .i64 (n : Int)] w fun e w' => e = .returned (.int .i64 (pw n : Int)) ∧ w = w' := by
  go_enter Tryz.func42, Tryz.ntmps42
  go_wp2
  go_loop [3, 4] (fun o i => ∃ k : Nat, k ≤ n ∧ i = .int .i64 k ∧ o = .int .i64 (pw k : Int)) (fun _ i => n - (intOf i).toNat)
  case atStart => exact ⟨0, Nat.zero_le _, rfl, rfl⟩
  case round =>
    obtain ⟨k, hk, rfl, rfl⟩ := hrel
    have hp := pw_le (n := k) (by omega)
    have hp0 : (0 : Int) ≤ (pw k : Int) := by omega
    have hp1 : (pw k : Int) ≤ 256 := by omega
    by_cases hlt : k < n
    · have HS := Lib.hid (pw_succ k)
      go_wp2
      go_round
      case rel => exact ⟨k + 1, by omega, by go_num, by rw [HS.out]; go_num⟩
      case measure => simp [intOf]; omega
    · obtain rfl : k = n := by omega
      go_wp2
      go_ret
      exact ⟨rfl, rfl⟩
theorem width_any (n : Nat) (hn : n ≤ 4) (w : World) :
    Calls Tryz.prog 67 #[.int .i64 (n : Int)] w fun e w' => e = .returned (.int .i64 (pw n : Int)) ∧ w = w' := by
  go_enter Tryz.func67, Tryz.ntmps67
  go_wp2
  go_loop [3, 5] (fun o i => ∃ k : Nat, k ≤ n ∧ i = .int .i64 k ∧ o = .int .i64 (pw k : Int)) (fun _ i => n - (intOf i).toNat)
  case atStart => exact ⟨0, Nat.zero_le _, rfl, rfl⟩
  case round =>
    obtain ⟨k, hk, rfl, rfl⟩ := hrel
    have hp := pw_le (n := k) (by omega)
    have hp0 : (0 : Int) ≤ (pw k : Int) := by omega
    have hp1 : (pw k : Int) ≤ 256 := by omega
    by_cases hlt : k < n
    · have HS := Lib.hid (pw_succ k)
      go_wp2
      go_round
      case rel => exact ⟨k + 1, by omega, by go_num, by rw [HS.out]; go_num⟩
      case measure => simp [intOf]; omega
    · obtain rfl : k = n := by omega
      go_wp2
      go_ret
      exact ⟨rfl, rfl⟩
theorem levels_any (d : Int) (w : World) :
    Calls Tryz.prog 66 #[.int .i64 d] w fun e w' => e = .returned (.int .i64 (lv d : Int)) ∧ w = w' := by
  by_cases h1 : d < 1
  · have h0 : lv d = 0 := lv_out (by omega)
    rw [h0]
    clear h0
    go_enter Tryz.func66, Tryz.ntmps66
    go_wp2
    go_ret
    exact ⟨rfl, rfl⟩
  · by_cases h4 : 4 < d
    · have h0 : lv d = 0 := lv_out (by omega)
      rw [h0]
      clear h0
      go_enter Tryz.func66, Tryz.ntmps66
      go_wp2
      go_ret
      exact ⟨rfl, rfl⟩
    · rw [lv_in (by omega) (by omega)]
      go_enter Tryz.func66, Tryz.ntmps66
      go_wp2
      go_ret
      exact ⟨rfl, rfl⟩
theorem rslots_any (d : Int) (w : World) :
    Calls Tryz.prog 11 #[.int .i64 d] w fun e w' => e = .returned (.int .i64 (sl d : Int)) ∧ w = w' := by
  by_cases h1 : d < 1
  · have h0 : sl d = 0 := sl_out (by omega)
    rw [h0]
    clear h0
    go_enter Tryz.func11, Tryz.ntmps11
    go_wp2
    go_ret
    exact ⟨rfl, rfl⟩
  · by_cases h4 : 4 < d
    · have h0 : sl d = 0 := sl_out (by omega)
      rw [h0]
      clear h0
      go_enter Tryz.func11, Tryz.ntmps11
      go_wp2
      go_ret
      exact ⟨rfl, rfl⟩
    · obtain ⟨n, rfl, hn1, hn4⟩ := lv_nat (d := d) (by omega) (by omega)
      rw [sl_of hn1 hn4]
      go_enter Tryz.func11, Tryz.ntmps11
      go_wp2_with (go_at_call 42; refine (power_any n hn4 _).mono ?_; rintro e w' ⟨rfl, rfl⟩)
      go_ret
      exact ⟨rfl, rfl⟩
theorem slots_any (d : Int) (w : World) :
    Calls Tryz.prog 63 #[.int .i64 d] w fun e w' => e = .returned (.int .i64 (sl d : Int)) ∧ w = w' := by
  by_cases h : 1 ≤ d ∧ d ≤ 4
  · obtain ⟨n, rfl, hn1, hn4⟩ := lv_nat h.1 h.2
    have hl := lv_of hn1 hn4
    rw [sl_of hn1 hn4]
    have HL := Lib.hid hl
    clear hl h
    have hne : ((n : Int) == 0) = false := by simp; omega
    go_enter Tryz.func63, Tryz.ntmps63
    go_wp2_with (first
      | (go_at_call 66; refine (levels_any _ _).mono ?_; rintro e w' ⟨rfl, rfl⟩; rw [HL.out])
      | (go_at_call 67; refine (width_any n hn4 _).mono ?_; rintro e w' ⟨rfl, rfl⟩))
    go_ret
    exact ⟨rfl, rfl⟩
  · have HL := Lib.hid (lv_out h)
    rw [sl_out h]
    clear h
    go_enter Tryz.func63, Tryz.ntmps63
    go_wp2_with (first
      | (go_at_call 66; refine (levels_any _ _).mono ?_; rintro e w' ⟨rfl, rfl⟩; rw [HL.out]))
    go_ret
    exact ⟨rfl, rfl⟩
theorem nodes_any (d : Int) (w : World) :
    Calls Tryz.prog 64 #[.int .i64 d] w fun e w' => e = .returned (.int .i64 (nd (lv d) : Int)) ∧ w = w' := by
  have hl := lv_le d
  obtain ⟨n, hn⟩ : ∃ n, lv d = n := ⟨_, rfl⟩
  rw [hn] at hl ⊢
  have HN := Lib.hid hn
  clear hn
  go_enter Tryz.func64, Tryz.ntmps64
  go_wp2_with (first
    | (go_at_call 66; refine (levels_any _ _).mono ?_; rintro e w' ⟨rfl, rfl⟩; rw [HN.out]))
  go_loop [3, 7] (fun o i => ∃ k : Nat, k ≤ n ∧ i = .int .i64 k ∧ o = .int .i64 (nd k : Int)) (fun _ i => n - (intOf i).toNat)
  case atStart => exact ⟨0, Nat.zero_le _, rfl, rfl⟩
  case round =>
    obtain ⟨k, hk, rfl, rfl⟩ := hrel
    have hp := pw_le (n := k) (by omega)
    have hp0 : (0 : Int) ≤ (pw k : Int) := by omega
    have hp1 : (pw k : Int) ≤ 256 := by omega
    have hd := nd_le (n := k) (by omega)
    have hd0 : (0 : Int) ≤ (nd k : Int) := by omega
    have hd1 : (nd k : Int) ≤ 85 := by omega
    by_cases hlt : k < n
    · go_wp2_with (go_at_call 67; refine (width_any k (by omega) _).mono ?_; rintro e w' ⟨rfl, rfl⟩)
      go_round
      case rel => exact ⟨k + 1, by omega, by go_num, by simp [nd]⟩
      case measure => simp [intOf]; omega
    · obtain rfl : k = n := by omega
      go_wp2
      go_ret
      exact ⟨rfl, rfl⟩
theorem has_any (d s : Int) (w : World) :
    Calls Tryz.prog 108 #[.int .i64 d, .int .i64 s] w fun e w' => e = .returned (.bool (decide (0 ≤ s) && decide (s < (sl d : Int)))) ∧ w = w' := by
  by_cases h0 : 0 ≤ s
  · have hd : decide (0 ≤ s) = true := decide_eq_true h0
    rw [hd, Bool.true_and]
    clear hd
    by_cases h1 : s < (sl d : Int)
    · have hd : decide (s < (sl d : Int)) = true := decide_eq_true h1
      rw [hd]
      go_enter Tryz.func108, Tryz.ntmps108
      go_wp2_with (go_at_call 63; refine (slots_any _ _).mono ?_; rintro e w' ⟨rfl, rfl⟩)
      go_ret
      exact ⟨rfl, rfl⟩
    · have hd : decide (s < (sl d : Int)) = false := decide_eq_false h1
      rw [hd]
      go_enter Tryz.func108, Tryz.ntmps108
      go_wp2_with (go_at_call 63; refine (slots_any _ _).mono ?_; rintro e w' ⟨rfl, rfl⟩)
      go_ret
      exact ⟨rfl, rfl⟩
  · have hd : decide (0 ≤ s) = false := decide_eq_false h0
    rw [hd, Bool.false_and]
    go_enter Tryz.func108, Tryz.ntmps108
    go_wp2
    go_ret
    exact ⟨rfl, rfl⟩
end Go.Proofs.YtpocccnhibjjcaaGreatDoor.P7
/- The way to a slot, of the program and of the reference: what each call leaves. No conditions. -/
set_option linter.unusedVariables false
namespace Go.Proofs.YtpocccnhibjjcaaGreatDoor.P7
open Go.RowKit

def half (l : List Int) (n : Nat) : List Value := ic l ++ List.replicate (n - l.length) (.int .i64 0)
theorem half_nil (n : Nat) : half [] n = List.replicate n (.int .i64 0) := by simp [half, ic]
theorem made_ints (n : Nat) : madeCells (Value.int .i64 0).cells (n * 1) = (half [] n).toArray := by
  apply Array.ext'
  apply List.ext_getElem?
  intro j
  have hc : (Value.int IntKind.i64 0).cells = #[Value.int IntKind.i64 0] := rfl
  rw [half_nil]
  by_cases h : j < n
  · simp [madeCells, hc, h, Nat.mod_one]
  · rw [List.getElem?_eq_none (by simp [madeCells, hc]; omega), List.getElem?_eq_none (by simp; omega)]
theorem step_make_ints {w : World} {ops : Array Oper} {rest : List Oper} {o : Oper} {a : Act} {Q : Exit → Act → World → Prop} (hg : o.guard = none) (l c : Operand) (hop : o.op = Op.makeSlice 103 l c)
    (n m : Nat) (hl : a.eval l = .int .i64 m) (hc : a.eval c = .int .i64 n) (hmn : m ≤ n) (hn : n ≤ 1000000)
    (h : ∀ g w', Row w' g 3 (half [] n) → Hid (g = w.heap.size) → Below w.heap.size w w' → Hid (w'.heap.size = w.heap.size + 1) → wpList Tryz.prog ops Q rest (a.put o.dst (.slice (some ⟨g, 0, none⟩) m n)) w') :
    wpList Tryz.prog ops Q (o :: rest) a w := by
  refine wpList_plain hg fun K hK' => ?_
  obtain ⟨i, z, hi, hz, hs, hby, hzs⟩ := rec_int.inf
  have hz' : z = .int .i64 0 := by
    have h1 : (Tryz.prog.info? 3).map (·.zero) = some (some (.int .i64 0)) := by kernel_rfl
    rw [hi] at h1
    simp [hz] at h1
    exact h1
  subst hz'
  have hr := run_make (P := Tryz.prog) w 103 3 i (.int .i64 0) rec_int.ht hi hz .i64 .i64 m n (by omega) (by omega) (by
    have : (i.bytes : Int) ≤ 64 := by omega
    have h2 : (i.bytes : Int) * n ≤ 64 * n := Int.mul_le_mul_of_nonneg_right this (by omega)
    omega) (by omega)
  simp only [Int.toNat_natCast, hs] at hr
  rw [made_ints] at hr
  unfold Oper.wp
  simp [execOp, hop, hl, hc, hr, Result.andThen]
  exact hK' _ _ (h _ _ (Row.made w _ _) (show _ = _ from rfl) ((Below.refl _ _).alloc (Nat.le_refl _) _) (show _ = _ by simp))
end Go.Proofs.YtpocccnhibjjcaaGreatDoor.P7
