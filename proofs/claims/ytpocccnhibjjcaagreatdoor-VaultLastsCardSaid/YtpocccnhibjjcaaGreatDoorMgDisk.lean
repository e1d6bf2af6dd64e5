/- The reference's disk in memory: its four lists, what a block is now. Conditions: the disk lies there. -/
import Derived.Test.YtpocccnhibjjcaaGreatDoorMgApp
import Derived.BigQuiet
import Derived.BigRegion
import Derived.Deep.RegionLaw
import Derived.StillTailTactics
import Derived.ProofKit
import Derived.OpenShut
import Derived.Lib.LaidU8
import Derived.Lib.SmallJoins
import Derived.Deep.SlicePairs
import Derived.Maps.OwnSet
import Derived.WalkKit
import Derived.WalkMore
set_option linter.unusedVariables false
namespace Go.Proofs.YtpocccnhibjjcaaGreatDoor
open Go.RowKit

def sc (b : BV) : List Value := [bvv b]
def wcs (p : Nat × BV) : List Value := [.int .i64 (p.1 : Int), bvv p.2]
def tc (t : Int × Int × BV) : List Value := [.int .i64 t.1, .int .i64 t.2.1, bvv t.2.2]
theorem sc_len (b : BV) : (sc b).length = 1 := rfl
theorem wcs_len (p : Nat × BV) : (wcs p).length = 2 := rfl
def nowK (ss : List BV) (rs : List (Nat × BV)) (a k : Nat) : BV := (rs.take k).foldl (fun b p => if p.1 = a then p.2 else b) (ss.getD a noBV)
def nowV (ss : List BV) (rs : List (Nat × BV)) (a : Nat) : BV := nowK ss rs a rs.length
theorem nowK_zero (ss : List BV) (rs : List (Nat × BV)) (a : Nat) : nowK ss rs a 0 = ss.getD a noBV := by simp [nowK]
theorem nowK_step {ss : List BV} {rs : List (Nat × BV)} {a k : Nat} {p : Nat × BV} (hp : rs[k]? = some p) : nowK ss rs a (k + 1) = if p.1 = a then p.2 else nowK ss rs a k := by
  unfold nowK
  rw [List.take_add_one, hp, List.foldl_append]
  rfl
theorem nowK_mem (ss : List BV) (rs : List (Nat × BV)) (a : Nat) (ha : a < ss.length) (Q : BV → Prop) (h1 : ∀ x ∈ ss, Q x) (h2 : ∀ p ∈ rs, Q p.2) : ∀ k, Q (nowK ss rs a k)
  | 0 => by
    rw [nowK_zero, List.getD_eq_getElem?_getD, List.getElem?_eq_getElem ha]
    exact h1 _ (List.getElem_mem ha)
  | k + 1 => by
    cases hp : rs[k]? with
    | none =>
      have e1 : nowK ss rs a (k + 1) = nowK ss rs a k := by
        unfold nowK
        rw [List.take_add_one, hp]
        simp
      rw [e1]
      exact nowK_mem ss rs a ha Q h1 h2 k
    | some p =>
      rw [nowK_step hp]
      split
      · exact h2 p (List.mem_of_getElem? hp)
      · exact nowK_mem ss rs a ha Q h1 h2 k

section
variable {b : Nat} {w : World} {g : Nat} {v1 v2 v3 v4 : Value} {ss : List BV} {rs al : List (Nat × BV)} {ts : List (Int × Int × BV)}
end
end Go.Proofs.YtpocccnhibjjcaaGreatDoor
/- Rows of records of the call's own, as they grow. No conditions but those named. -/
set_option linter.unusedVariables false
namespace Go.Proofs.YtpocccnhibjjcaaGreatDoor
open Go.RowKit

structure Rec (P : Program) (t e : TypeId) (k : Nat) : Prop where
  ht : P.underlying t = some (.slice e)
  inf : ∃ i z, P.info? e = some i ∧ i.zero = some z ∧ i.size = k ∧ i.bytes ≤ 64 ∧ z.cells.size = k
  pos : 0 < k
theorem rec_of {P : Program} {t e : TypeId} {k n : Nat} {z : Value} (ht : P.underlying t = some (.slice e)) (h : (P.info? e).map (fun i => (i.zero, i.size, i.bytes)) = some (some z, k, n)) (hn : n ≤ 64) (hz : z.cells.size = k) (hk : 0 < k) : Rec P t e k := by
  obtain ⟨i, h1, h2, h3, h4⟩ := info_parts h
  exact ⟨ht, ⟨i, z, h1, h2, h3, by omega, hz⟩, hk⟩
theorem rec_sl : Rec Tryz.prog 56 35 1 := rec_of (z := .slice none 0 0) (n := 24) Tryz.underlying56 (by kernel_rfl) (by decide) rfl (by decide)
theorem rec_touch : Rec Tryz.prog 75 157 3 := rec_of (z := .agg #[.int .i64 0, .int .i64 0, .slice none 0 0]) (n := 40) Tryz.underlying75 (by kernel_rfl) (by decide) rfl (by decide)

theorem own_parted {w : World} {b b' : Nat} {e e' : TypeId} {s s' n n' : Nat} {v v' : Value} {xs xs' : List Value} (h : w.ownsRow b e s v n xs) (h' : w.ownsRow b' e' s' v' n' xs') (hne : e ≠ e') : v.ownBlock = none ∨ v.ownBlock ≠ v'.ownBlock := by
  rcases h.2 with ⟨rfl, _⟩ | ⟨g, cap, cur, rfl, _, hg, _⟩
  · exact .inl rfl
  · refine .inr fun he => ?_
    rcases h'.2 with ⟨rfl, _⟩ | ⟨g', cap', cur', rfl, _, hg', _⟩
    · simp [Value.ownBlock] at he
    · simp [Value.ownBlock] at he
      subst he
      rw [hg] at hg'
      injection hg' with hg'
      injection hg' with _ ht
      exact hne ht
theorem row_parted {w : World} {b g : Nat} {t e : TypeId} {s n : Nat} {v : Value} {cs xs : List Value} (h : Row w g t cs) (h' : w.ownsRow b e s v n xs) (hne : t ≠ e) : v.ownBlock ≠ some g := by
  intro he
  rcases h'.2 with ⟨rfl, _⟩ | ⟨g', cap', cur', rfl, _, hg', _⟩
  · simp [Value.ownBlock] at he
  · simp [Value.ownBlock] at he
    subst he
    have h1 := h.heap
    rw [h1] at hg'
    injection hg' with hg'
    injection hg' with _ ht
    exact hne ht

section
variable {P : Program} {w : World} {t e : TypeId} {k : Nat}
theorem run_join (R : Rec P t e k) (ty : TypeId) (base : Nat) (v : Value) (n : Nat) (xs : List Value) (hown : w.ownsRow base e k v n xs)
    (A : Option Addr) (m c : Nat) (ys : List Value) (hys : ys.length = m * k) (hA : m = 0 ∧ A = none ∨ ∃ ad, A = some ad ∧ ∀ j u, ys[j]? = some u → w.cell? (ad.add j) = some u) (h1 : ∀ u ∈ ys, u.oneCell' = true) (hb : n + m ≤ 1000001) (hbase : base ≤ w.heap.size) :
    ∃ v' w', (Builtin.append_ #[t, t] ty #[v, .slice A m c]).run P w = .ok v' w' ∧ w'.ownsRow base e k v' (n + m) (xs ++ ys) ∧ w.grownBy w' v.ownBlock ∧ (v'.ownBlock = v.ownBlock ∨ v'.ownBlock = some w.heap.size) := by
  obtain ⟨i, z, hi, hz, hs, hby, hzs⟩ := R.inf
  rcases hA with ⟨rfl, rfl⟩ | ⟨ad, rfl, hc⟩
  · have hy : ys = [] := List.eq_nil_of_length_eq_zero (by rw [hys, Nat.zero_mul])
    subst hy
    refine ⟨v, w, ?_, by simpa using hown, ⟨rfl, rfl, rfl, Nat.le_refl _, fun _ _ _ => rfl⟩, .inl rfl⟩
    rcases hown.2 with ⟨rfl, rfl⟩ | ⟨g, cap, cur, rfl, _, _, hnc, _⟩
    · simp [Builtin.append_, run_underlying R.ht, sizeOf, typeInfo, hi, Builtin.lenOf, Builtin.firstCells]
    · simp [Builtin.append_, run_underlying R.ht, sizeOf, typeInfo, hi, Builtin.lenOf, Builtin.firstCells, hnc, storeCells]
  · obtain ⟨v', w', hr, h2, h3, _, h5⟩ := run_append_own_at (P := P) w base t ty e i z k i.bytes R.ht hi hz hs rfl hzs R.pos v n xs hown ad m c ys hys hc h1
      (by unfold maxLen; omega) (Nat.le_trans (Nat.mul_le_mul hb hby) (by omega)) hbase
    exact ⟨v', w', hr, h2, h3, h5⟩
theorem step_join {ops : Array Oper} {o : Oper} {a : Act} {K : Act → World → Prop} {Q : Exit → Act → World → Prop} {E : Prop} (hgd : o.guard = none) (s x : Operand)
    (ho : o.op = .call { callee := .builtin .append, args := #[s, x], argTypes := #[t, t] }) (R : Rec P t e k) (base : Nat) (v : Value) (n : Nat) (xs : List Value) (hs : a.eval s = v) (hown : w.ownsRow base e k v n xs)
    (A : Option Addr) (m c : Nat) (ys : List Value) (hx : a.eval x = .slice A m c) (hys : ys.length = m * k) (hA : m = 0 ∧ A = none ∨ ∃ ad, A = some ad ∧ ∀ j u, ys[j]? = some u → w.cell? (ad.add j) = some u) (h1 : ∀ u ∈ ys, u.oneCell' = true) (hb : n + m ≤ 1000001) (hbase : base ≤ w.heap.size)
    (h : ∀ v' w', w'.ownsRow base e k v' (n + m) (xs ++ ys) → w.grownBy w' v.ownBlock → (v'.ownBlock = v.ownBlock ∨ v'.ownBlock = some w.heap.size) → K (a.put o.dst v') w') :
    if Region.wanted o (yielded ops a.tmps) = true then Oper.wp P o a w K Q else E := by
  have hw : Region.wanted o (yielded ops a.tmps) = true := by simp [Region.wanted, hgd]
  rw [if_pos hw]
  obtain ⟨v', w', hr, h2, h3, h4⟩ := run_join (P := P) R o.type base v n xs hown A m c ys hys hA h1 hb hbase
  unfold Oper.wp execOp
  simp only [ho, resolve, invoke, builtin, Sem.run_bind, Sem.run_pure, Result.andThen_ok, List.map_toArray, List.map_cons, List.map_nil, hs, hx, hr]
  exact h v' w' h2 h3 h4
theorem wp_join {ops : Array Oper} {rest : List Oper} {o : Oper} {a : Act} {Q : Exit → Act → World → Prop} (hgd : o.guard = none) (s x : Operand)
    (ho : o.op = .call { callee := .builtin .append, args := #[s, x], argTypes := #[t, t] }) (R : Rec P t e k) (base : Nat) (v : Value) (n : Nat) (xs : List Value) (hs : a.eval s = v) (hown : w.ownsRow base e k v n xs)
    (A : Option Addr) (m c : Nat) (ys : List Value) (hx : a.eval x = .slice A m c) (hys : ys.length = m * k) (hA : m = 0 ∧ A = none ∨ ∃ ad, A = some ad ∧ ∀ j u, ys[j]? = some u → w.cell? (ad.add j) = some u) (h1 : ∀ u ∈ ys, u.oneCell' = true) (hb : n + m ≤ 1000001) (hbase : base ≤ w.heap.size)
    (h : ∀ v' w', w'.ownsRow base e k v' (n + m) (xs ++ ys) → w.grownBy w' v.ownBlock → (v'.ownBlock = v.ownBlock ∨ v'.ownBlock = some w.heap.size) → wpList P ops Q rest (a.put o.dst v') w') :
    wpList P ops Q (o :: rest) a w := by
  refine wpList_plain hgd fun K hK => ?_
  obtain ⟨v', w', hr, h2, h3, h4⟩ := run_join (P := P) R o.type base v n xs hown A m c ys hys hA h1 hb hbase
  unfold Oper.wp execOp
  simp only [ho, resolve, invoke, builtin, Sem.run_bind, Sem.run_pure, Result.andThen_ok, List.map_toArray, List.map_cons, List.map_nil, hs, hx, hr]
  exact hK _ _ (h v' w' h2 h3 h4)
end
theorem own_src {w : World} {b k n : Nat} {e : TypeId} {A : Option Addr} {c : Nat} {xs : List Value} (h : w.ownsRow b e k (.slice A n c) n xs) : n = 0 ∧ A = none ∨ ∃ ad, A = some ad ∧ ∀ j u, xs[j]? = some u → w.cell? (ad.add j) = some u := by
  rcases h.2 with ⟨e0, h0⟩ | ⟨g, cap, cur, e0, _⟩
  · simp only [Value.slice.injEq] at e0
    exact .inl ⟨h0, e0.1⟩
  · simp only [Value.slice.injEq] at e0
    obtain ⟨rfl, _, _⟩ := e0
    exact .inr ⟨_, rfl, fun j u hu => h.cells (g := g) rfl j u hu⟩
theorem sc_one (b : BV) : ∀ u ∈ sc b, u.oneCell' = true := by intro u hu; simp [sc, bvv] at hu; subst hu; rfl
theorem wcs_one (p : Nat × BV) : ∀ u ∈ wcs p, u.oneCell' = true := by intro u hu; simp [wcs, bvv] at hu; rcases hu with rfl | rfl <;> rfl
theorem tc_one (t : Int × Int × BV) : ∀ u ∈ tc t, u.oneCell' = true := by intro u hu; simp [tc, bvv] at hu; rcases hu with rfl | rfl | rfl <;> rfl
theorem flat_one {α : Type} {f : α → List Value} (hf : ∀ x, ∀ u ∈ f x, u.oneCell' = true) (xs : List α) : ∀ u ∈ xs.flatMap f, u.oneCell' = true := by
  intro u hu
  obtain ⟨x, _, hx⟩ := List.mem_flatMap.1 hu
  exact hf x u hx
theorem void_own (w : World) (e : TypeId) (k b : Nat) (hb : b ≤ w.heap.size) : (w.alloc (.cells #[] e)).ownsRow b e k (.slice (some ⟨w.heap.size, 0, none⟩) 0 0) 0 [] :=
  ⟨by simp, .inr ⟨w.heap.size, 0, #[], rfl, hb, heap_alloc_new w _, Nat.le_refl _, by decide, by simp, by simp⟩⟩
end Go.Proofs.YtpocccnhibjjcaaGreatDoor
/- The reference's disk, with one of its lists grown. Conditions: the disk lies there. -/
set_option linter.unusedVariables false
namespace Go.Proofs.YtpocccnhibjjcaaGreatDoor
open Go.RowKit

section
variable {b : Nat} {w : World} {g : Nat} {v1 v2 v3 v4 : Value} {ss : List BV} {rs al : List (Nat × BV)} {ts : List (Int × Int × BV)}
theorem Own8.grownBy {w' : World} {x : BV} {bb n size : Nat} {e : TypeId} {v : Value} {xs : List Value} {base : Nat} (h : Own8 base w x) (hg : w.grownBy w' v.ownBlock) (hv : w.ownsRow bb e size v n xs) (he : 5 ≠ e) : Own8 base w' x :=
  World.ownsRow.kept h hg (own_parted h hv he)
theorem Own8.put {w : World} {x : BV} {g o : Nat} {t : TypeId} {cs : List Value} {base : Nat} (h : Own8 base w x) (hr : Row w g t cs) (he : 5 ≠ t) (u : Value) : Own8 base (w.setCell ⟨g, o, none⟩ u) x :=
  World.ownsRow.kept h (grown_set w ⟨g, o, none⟩ u) (.inr (row_parted hr h (fun e => he e.symm)))
theorem own_put {w : World} {base size n : Nat} {e : TypeId} {v : Value} {xs : List Value} {g o : Nat} {t : TypeId} {cs : List Value} (h : w.ownsRow base e size v n xs) (hr : Row w g t cs) (he : t ≠ e) (u : Value) : (w.setCell ⟨g, o, none⟩ u).ownsRow base e size v n xs :=
  World.ownsRow.kept h (grown_set w ⟨g, o, none⟩ u) (.inr (row_parted hr h he))
end
theorem touch_src (w : World) (t : Int × Int × BV) : (1 : Nat) = 0 ∧ (some (⟨w.heap.size, 0, none⟩ : Addr)) = none ∨ ∃ ad, some (⟨w.heap.size, 0, none⟩ : Addr) = some ad ∧ ∀ j u, (tc t)[j]? = some u → (w.alloc (.cells (tc t).toArray 157)).cell? (ad.add j) = some u :=
  .inr ⟨_, rfl, fun j u hu => by rw [Addr.add_lit, Nat.zero_add, (Row.made w 157 (tc t)).cell]; exact hu⟩
theorem below_a1 (w : World) (o : Obj) : Below w.heap.size w (w.drew.alloc o) := (below_drw w).alloc (Nat.le_refl _) o
end Go.Proofs.YtpocccnhibjjcaaGreatDoor
/- The reference's disk: Read. Conditions: the disk lies there. -/
set_option linter.unusedVariables false
namespace Go.Proofs.YtpocccnhibjjcaaGreatDoor
open Go.RowKit

section
variable {b : Nat} {w : World} {g : Nat} {v1 v2' v3 v4 : Value} {ss : List BV} {rs al : List (Nat × BV)} {ts : List (Int × Int × BV)}
end
end Go.Proofs.YtpocccnhibjjcaaGreatDoor
/- What bytes that came in read as. No conditions. -/
set_option linter.unusedVariables false
namespace Go.Proofs.YtpocccnhibjjcaaGreatDoor
open Go.ChangeShapes Go.WideShapes Go.ChangeAt Go.RowKit

structure InB (w : World) (a : Option Addr) (len cap : Nat) (l : List UInt8) : Prop where
  len_ : len = l.length
  hol : Hol w a l
  cap_ : len ≤ cap
  max_ : cap ≤ maxLen
theorem u8_of {z : Int} (h : (Lit.int .u8 z).wf = true) : z = ((UInt8.ofNat z.toNat).toNat : Int) := by
  have hb := bounds_u8 h
  have e : (UInt8.ofNat z.toNat).toNat = z.toNat % 256 := UInt8.toNat_ofNat' ..
  rw [e]
  omega
section
variable {H : Type} {enc : TypeId × Value → H} {W : World} {sp : Nat → Bool} {held : Bool} {base : Nat}
theorem bytes_cs {fuel : Nat} {cs : List Value} {x : DataW H × List MemPlace} (hf : DataW.trod enc Tryz.prog W base sp held fuel 35 cs = some x) : ∃ a len cap l, cs = [.slice a len cap] ∧ InB W a len cap l := by
  rcases open_ints Tryz.underlying35 Tryz.underlying5 (by kernel_rfl) hf with ⟨hcs, _⟩ | ⟨x, len, c, zs, hcs, _, hl, hm, hz, _, hcell, hwz⟩
  · exact ⟨none, 0, 0, [], hcs, rfl, .inl rfl, Nat.le_refl _, by decide⟩
  · have hzl : len ≤ zs.length := by rw [hz]; split <;> omega
    refine ⟨some x, len, c, (zs.take len).map fun z => UInt8.ofNat z.toNat, hcs, by simp; omega, ?_, hl, hm⟩
    by_cases h0 : len = 0
    · subst h0
      exact .inl rfl
    · have h1 := hcell 0 (by omega)
      obtain ⟨b, off, spot⟩ := x
      have hs : spot = none := by
        have : (Addr.add ⟨b, off, spot⟩ 0) = ⟨b, off, spot⟩ := by simp [Addr.add]
        rw [this] at h1
        exact cell_spot h1
      subst hs
      refine .inr ⟨b, off, rfl, fun j y hy => ?_⟩
      rw [List.getElem?_map] at hy
      obtain ⟨z, hz1, rfl⟩ := Option.map_eq_some_iff.1 hy
      rw [List.getElem?_take] at hz1
      split at hz1
      · have hj := (List.getElem?_eq_some_iff.1 hz1).1
        have h2 := hcell j hj
        rw [Addr.add_lit] at h2
        rw [h2]
        have hg : zs.getD j 0 = z := by simp [List.getD, hz1]
        rw [hg]
        have := u8_of (hwz z (List.mem_of_getElem? hz1))
        rw [← this]
      · cases hz1
end
theorem u8_nat {z : Int} (h : (Lit.int .u8 z).wf = true) : ∃ n : Nat, z = (n : Int) ∧ n < 256 := by
  have hb := bounds_u8 h
  exact ⟨z.toNat, by omega, by omega⟩
end Go.Proofs.YtpocccnhibjjcaaGreatDoor
/- What bytes, Booleans and steps that came in read as, for the fifth stage's laws. No conditions. -/
set_option linter.unusedVariables false
namespace Go.Proofs.YtpocccnhibjjcaaGreatDoor
open Go.ChangeShapes Go.WideShapes Go.ChangeAt Go.RowKit

def HolV (w : World) (A : Option Addr) (vs : List Value) : Prop :=
  vs = [] ∨ ∃ g off, A = some ⟨g, off, none⟩ ∧ ∀ j x, vs[j]? = some x → w.cell? ⟨g, off + j, none⟩ = some x
theorem HolV.at_ {w : World} {A : Option Addr} {vs : List Value} (h : HolV w A vs) {j : Nat} {x : Value} (hj : vs[j]? = some x) : ∃ g off, A = some ⟨g, off, none⟩ ∧ g < w.heap.size ∧ w.cell? ⟨g, off + j, none⟩ = some x := by
  rcases h with rfl | ⟨g, off, rfl, hc⟩
  · simp at hj
  · exact ⟨g, off, rfl, World.block_lt_of_cell? w _ (hc j x hj), hc j x hj⟩
theorem HolV.below {w w' : World} {A : Option Addr} {vs : List Value} (h : HolV w A vs) (hb : Below w.heap.size w w') : HolV w' A vs := by
  rcases h with rfl | ⟨g, off, rfl, hc⟩
  · exact .inl rfl
  · exact .inr ⟨g, off, rfl, fun j x hx => (hb.cell (p := ⟨g, off + j, none⟩) (World.block_lt_of_cell? w _ (hc j x hx))).trans (hc j x hx)⟩
structure InK (w : World) (a : Option Addr) (len cap : Nat) (l : List Bool) : Prop where
  len_ : len = l.length
  hol : HolV w a (l.map Value.bool)
  cap_ : len ≤ cap
  max_ : cap ≤ maxLen
structure DoV where
  k : Int
  a : Int
  A : Option Addr
  c : Nat
  l : List UInt8
  odd : Bool
  KA : Option Addr
  kc : Nat
  kl : List Bool
  tk : Int
  ta : Int
  tn : Int
  TA : Option Addr
  tcap : Nat
  tl : List UInt8
def dc (d : DoV) : List Value := [.int .i64 d.k, .int .i64 d.a, .slice d.A d.l.length d.c, .bool d.odd, .slice d.KA d.kl.length d.kc, .int .i64 d.tk, .int .i64 d.ta, .int .i64 d.tn, .slice d.TA d.tl.length d.tcap]
theorem dc_len (d : DoV) : (dc d).length = 9 := rfl
structure DoAt (w : World) (d : DoV) : Prop where
  b : Hol w d.A d.l
  k : HolV w d.KA (d.kl.map Value.bool)
  t : Hol w d.TA d.tl
  bc : d.l.length ≤ d.c
  kc : d.kl.length ≤ d.kc
  tc : d.tl.length ≤ d.tcap
  w1 : (Lit.int .i64 d.k).wf = true
  w2 : (Lit.int .i64 d.a).wf = true
  w3 : (Lit.int .i64 d.tk).wf = true
  w4 : (Lit.int .i64 d.ta).wf = true
  w5 : (Lit.int .i64 d.tn).wf = true
theorem DoAt.below {w w' : World} {d : DoV} (h : DoAt w d) (hb : Below w.heap.size w w') : DoAt w' d := ⟨h.b.below hb, h.k.below hb, h.t.below hb, h.bc, h.kc, h.tc, h.w1, h.w2, h.w3, h.w4, h.w5⟩
structure InDo (w : World) (A : Option Addr) (len cap : Nat) (ds : List DoV) : Prop where
  len_ : len = ds.length
  at_ : ∀ (j : Nat) (d : DoV), ds[j]? = some d → (∃ g o, A = some ⟨g, o, none⟩ ∧ ∀ i u, (dc d)[i]? = some u → w.cell? ⟨g, o + j * 9 + i, none⟩ = some u) ∧ DoAt w d
  cap_ : len ≤ cap
  max_ : cap ≤ maxLen
theorem InDo.below {w w' : World} {A : Option Addr} {n c : Nat} {ds : List DoV} (h : InDo w A n c ds) (hb : Below w.heap.size w w') : InDo w' A n c ds :=
  ⟨h.len_, fun j d hd => by
    obtain ⟨⟨g, o, rfl, h1⟩, h2⟩ := h.at_ j d hd
    exact ⟨⟨g, o, rfl, fun i u hu => (hb.cell (p := ⟨g, o + j * 9 + i, none⟩) (World.block_lt_of_cell? w _ (h1 i u hu))).trans (h1 i u hu)⟩, h2.below hb⟩, h.cap_, h.max_⟩
theorem list4 {α : Type} : ∀ {l : List α}, l.length = 4 → ∃ a b c d, l = [a, b, c, d]
  | [a, b, c, d], _ => ⟨a, b, c, d, rfl⟩
section
variable {H : Type} {enc : TypeId × Value → H} {W : World} {sp : Nat → Bool} {held : Bool} {base : Nat}
theorem bools_cs {fuel : Nat} {cs : List Value} {x : DataW H × List MemPlace} (hf : DataW.trod enc Tryz.prog W base sp held fuel 50 cs = some x) : ∃ a len cap l, cs = [.slice a len cap] ∧ InK W a len cap l := by
  have ce : Tryz.prog.cellsOf 4 = 1 := by kernel_rfl
  rcases Deep.open_slice Tryz.underlying50 hf with ⟨hcs, _⟩ | ⟨a, len, cap, m, n, D, Pl, hcs, hb, hl, hm, hmm, _, hx⟩
  · exact ⟨none, 0, 0, [], hcs, rfl, .inl rfl, Nat.le_refl _, by decide⟩
  · have hlm : len ≤ m := by rw [hmm]; split <;> omega
    have each : ∀ i, i < len → ∃ b : Bool, W.cell? (a.add i) = some (.bool b) := by
      intro i hi
      obtain ⟨cs', h1, h2⟩ := hx i (by omega)
      rw [ce, Nat.mul_one] at h1
      obtain ⟨_, hlen, hcell⟩ := World.cells?_some h1
      obtain ⟨b, rfl, _⟩ := DataW.trod_bool Tryz.underlying4 h2
      have h3 := hcell 0 (by omega)
      rw [Deep.add_add] at h3
      exact ⟨b, by simpa using h3⟩
    obtain ⟨q, hq⟩ := Deep.choose_lt each
    refine ⟨some a, len, cap, (List.range len).map q, hcs, by simp, ?_, hl, hm⟩
    by_cases h0 : len = 0
    · subst h0
      exact .inl rfl
    · obtain ⟨b, off, spot⟩ := a
      have hs : spot = none := by
        have h1 := hq 0 (by omega)
        have e1 : (Addr.add ⟨b, off, spot⟩ 0) = ⟨b, off, spot⟩ := by simp [Addr.add]
        rw [e1] at h1
        exact cell_spot h1
      subst hs
      refine .inr ⟨b, off, rfl, fun j x hx => ?_⟩
      rw [List.getElem?_map, List.getElem?_map] at hx
      obtain ⟨y, hy1, rfl⟩ := Option.map_eq_some_iff.1 hx
      obtain ⟨j', hj', rfl⟩ := Option.map_eq_some_iff.1 hy1
      obtain ⟨hj, rfl⟩ := List.getElem?_eq_some_iff.1 hj'
      simp only [List.length_range] at hj
      have h2 := hq j hj
      rw [Addr.add_lit] at h2
      simpa using h2
theorem tamper_cs {fuel : Nat} {cs : List Value} {x : DataW H × List MemPlace} (hf : DataW.trod enc Tryz.prog W base sp held fuel 58 cs = some x) :
    ∃ (k a n : Int) (A : Option Addr) (c : Nat) (l : List UInt8), cs = [.int .i64 k, .int .i64 a, .int .i64 n, .slice A l.length c] ∧ Hol W A l ∧ l.length ≤ c ∧ (Lit.int .i64 k).wf = true ∧ (Lit.int .i64 a).wf = true ∧ (Lit.int .i64 n).wf = true := by
  have ci : Tryz.prog.cellsOf 3 = 1 := by kernel_rfl
  have cb : Tryz.prog.cellsOf 35 = 1 := by kernel_rfl
  have ct : Tryz.prog.cellsOf 58 = 4 := by kernel_rfl
  obtain ⟨xs, m, _, _, hl, hlen, hf'⟩ := DataW.trod_struct Tryz.underlying58 hf
  obtain ⟨y0, y1, y2, y3, rfl⟩ := list4 hlen
  obtain ⟨v0, v1, v2, v3, rfl⟩ := list4 (hl.trans ct)
  have g0 := hf' 0 _ rfl
  have g1 := hf' 1 _ rfl
  have g2 := hf' 2 _ rfl
  have g3 := hf' 3 _ rfl
  simp [ci, cb] at g0 g1 g2 g3
  obtain ⟨k, e0, _, w0⟩ := DataW.trod_int Tryz.underlying3 g0
  obtain ⟨a, e1, _, w1⟩ := DataW.trod_int Tryz.underlying3 g1
  obtain ⟨n, e2, _, w2⟩ := DataW.trod_int Tryz.underlying3 g2
  obtain ⟨A, len, c, l, e3, i3⟩ := bytes_cs g3
  simp at e0 e1 e2 e3
  subst e0 e1 e2 e3
  obtain rfl := i3.len_
  exact ⟨k, a, n, A, c, l, rfl, i3.hol, i3.cap_, w0, w1, w2⟩
end
end Go.Proofs.YtpocccnhibjjcaaGreatDoor
/- The reference's disk: Barrier and Crash. Conditions: the disk lies there. -/
set_option linter.unusedVariables false
namespace Go.Proofs.YtpocccnhibjjcaaGreatDoor
open Go.RowKit

theorem flat_sc (ss : List BV) : ss.flatMap sc = ss.map bvv := by
  induction ss with
  | nil => rfl
  | cons x t ih => rw [List.flatMap_cons, ih]; rfl
def syncK (keep : Nat → Bool) (rs : List (Nat × BV)) (ss : List BV) : Nat → List BV
  | 0 => ss
  | k + 1 => match rs[k]? with
    | some p => if keep k = true then (syncK keep rs ss k).set p.1 p.2 else syncK keep rs ss k
    | none => syncK keep rs ss k
theorem syncK_step {keep : Nat → Bool} {rs : List (Nat × BV)} {ss : List BV} {k : Nat} {p : Nat × BV} (hp : rs[k]? = some p) : syncK keep rs ss (k + 1) = if keep k = true then (syncK keep rs ss k).set p.1 p.2 else syncK keep rs ss k := by
  rw [syncK, hp]
theorem syncK_len (keep : Nat → Bool) (rs : List (Nat × BV)) (ss : List BV) : ∀ k, (syncK keep rs ss k).length = ss.length
  | 0 => rfl
  | k + 1 => by
    rw [syncK]
    split
    · split
      · rw [List.length_set, syncK_len keep rs ss k]
      · exact syncK_len keep rs ss k
    · exact syncK_len keep rs ss k
section
variable {b : Nat} {w : World} {g g1 n1 k1 : Nat} {v2 v3 v4 : Value} {ss : List BV} {rs al : List (Nat × BV)} {ts : List (Int × Int × BV)}
end
end Go.Proofs.YtpocccnhibjjcaaGreatDoor
/- Elder bytes: a map in memory from blocks' numbers to slices of slices: what is looked up, what is laid in. No conditions but those named. -/
set_option linter.unusedVariables false
namespace Go.Proofs.YtpocccnhibjjcaaGreatDoor
open Go.RowKit Go.Maps

def itself (v : Value) : Option (DataW Value × List MemPlace) := some (.held v, [])
def nos : Value := .slice none 0 0
theorem int_key : Keyed Tryz.prog 3 := Maps.int_keyed Tryz.underlying3
theorem nat_wf {a : Nat} (h : a ≤ 1024) : (Lit.int .i64 (a : Int)).wf = true := by
  simp [Lit.wf, IntKind.min, IntKind.max, IntKind.bits, IntKind.signed]
  omega
theorem key_of {a : Nat} (h : a ≤ 1024) : keyOf Tryz.prog 3 (.int .i64 (a : Int)) = some (.int .i64 (a : Int)) := Maps.keyOf_int_mk Tryz.underlying3 (nat_wf h)
theorem key_ne {a a' : Nat} (h : a ≠ a') : Lit.int .i64 (a : Int) ≠ Lit.int .i64 (a' : Int) := by
  intro e
  injection e with _ e
  omega
def ElAt (w : World) (b n : Nat) (ev : Nat → Value) : Prop :=
  ∃ D : DataW Value, w.ownsMap Tryz.prog 3 itself b n D ∧ ∀ a : Nat, a ≤ 1024 → D.atKey (.int .i64 (a : Int)) (.held nos) = .held (ev a)
section
variable {w w' : World} {b n : Nat} {ev : Nat → Value}
theorem ElAt.lt (h : ElAt w b n ev) : b < w.heap.size := by obtain ⟨D, h, _⟩ := h; exact h.lt
theorem ElAt.grown {row : Option Nat} (h : ElAt w b n ev) (hg : w.grownBy w' row) (hne : some b ≠ row) : ElAt w' b n ev := by
  obtain ⟨D, h, k⟩ := h
  exact ⟨D, h.kept hg hne, k⟩
theorem ElAt.below (h : ElAt w b n ev) (hb : Below w.heap.size w w') : ElAt w' b n ev := h.grown (row := none) (grown_of_below hb) (by simp)
theorem ElAt.mono (h : ElAt w b n ev) {n' : Nat} (hn : n ≤ n') : ElAt w b n' ev := by
  obtain ⟨D, h, k⟩ := h
  exact ⟨D, h.mono hn, k⟩
theorem ElAt.made (w : World) : ElAt (w.alloc (.map #[] 0)) w.heap.size 0 fun _ => nos :=
  ⟨_, World.ownsMap_made w _ _ _, fun a ha => rfl⟩
theorem nos_zero (w : World) : (zeroValue 56).run Tryz.prog w = .ok nos w := by kernel_rfl
theorem ElAt.look (h : ElAt w b n ev) {a : Nat} (ha : a ≤ 1024) : (Instr.lookup 73 (.map (some b)) (.int .i64 (a : Int)) false).run Tryz.prog w = .ok (ev a) w := by
  obtain ⟨D, h, k⟩ := h
  obtain ⟨v, ps, hrun, hv⟩ := h.lookup int_key Tryz.underlying73 (nos_zero w) (zd := .held nos) (zp := []) rfl (key_of ha)
  rw [k a ha] at hv
  simp only [itself, Option.some.injEq, Prod.mk.injEq, DataW.held.injEq] at hv
  rw [hrun, hv.1]
def evs (ev : Nat → Value) (a : Nat) (v : Value) : Nat → Value := fun a' => if a' = a then v else ev a'
theorem evs_same (ev : Nat → Value) (a : Nat) (v : Value) : evs ev a v a = v := if_pos rfl
theorem evs_other (ev : Nat → Value) {a a' : Nat} (v : Value) (h : a' ≠ a) : evs ev a v a' = ev a' := if_neg h
theorem ElAt.put (h : ElAt w b n ev) {a : Nat} (ha : a ≤ 1024) (hn : n < maxLen) (v : Value) :
    ∃ w', (Instr.mapUpdate 73 (.map (some b)) (.int .i64 (a : Int)) v).run Tryz.prog w = .ok () w' ∧ ElAt w' b (n + 1) (evs ev a v) ∧ w.grownBy w' (some b) := by
  obtain ⟨D, h, k⟩ := h
  obtain ⟨w', hrun, hown, hg⟩ := h.update int_key Tryz.underlying73 hn (key_of ha) (val := v) (d := .held v) (ps := []) rfl
  have hm := h.isMap
  have hkey := int_key.key (key_of ha)
  refine ⟨w', hrun, ⟨_, hown, fun a' ha' => ?_⟩, hg⟩
  by_cases hes : a' = a
  · subst hes
    rw [atKey_put_same hm hkey, evs_same]
  · rw [atKey_put_other (key_ne hes), evs_other _ _ hes]
    exact k a' ha'
theorem ElAt.no_cells (h : ElAt w b n ev) : ∀ cs t fr, w.heap[b]? ≠ some (.cells cs t fr) := by
  obtain ⟨D, ⟨es, clock, hb, r⟩, k⟩ := h
  intro cs t fr e
  rw [hb] at e
  cases e
end
end Go.Proofs.YtpocccnhibjjcaaGreatDoor
