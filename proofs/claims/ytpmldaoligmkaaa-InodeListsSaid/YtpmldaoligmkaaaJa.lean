/- Words for memory: rows of the call's own that grow by append; the reference's sizes and numbers. Conditions: those named. -/
import Derived.Test.YtpmldaoligmkaaaIb
import Derived.Test.YtpmldaoligmkaaaRPut
import Derived.Deep.RegionLaw
import Derived.Deep.AppendLies
set_option linter.unusedVariables false
set_option maxRecDepth 20000
namespace Go.Proofs.Ytpmldaoligmkaaa
open Go.RowKit

/-- What the table says of a record's type, and of slices of it. -/
structure Rec (P : Program) (t e : TypeId) (k : Nat) : Prop where
  ht : P.underlying t = some (.slice e)
  inf : ∃ i z, P.info? e = some i ∧ i.zero = some z ∧ i.size = k ∧ i.bytes ≤ 64 ∧ z.cells.size = k
  pos : 0 < k
theorem rec_of {P : Program} {t e : TypeId} {k n : Nat} {z : Value} (ht : P.underlying t = some (.slice e)) (h : (P.info? e).map (fun i => (i.zero, i.size, i.bytes)) = some (some z, k, n)) (hn : n ≤ 64) (hz : z.cells.size = k) (hk : 0 < k) : Rec P t e k := by
  obtain ⟨i, h1, h2, h3, h4⟩ := info_parts h
  exact ⟨ht, ⟨i, z, h1, h2, h3, by omega, hz⟩, hk⟩
theorem rec_int : Rec Try.prog 49 3 1 := rec_of (z := .int .i64 0) (n := 8) Try.underlying49 (by kernel_rfl) (by decide) rfl (by decide)

section
variable {P : Program} {w : World} {t e : TypeId} {k : Nat}
/-- Cells appended to a row of the call's own. -/
theorem run_join (R : Rec P t e k) (ty : TypeId) (base : Nat) (v : Value) (n : Nat) (xs : List Value) (hown : w.ownsRow base e k v n xs)
    (A : Option Addr) (m c : Nat) (ys : List Value) (hys : ys.length = m * k) (hA : m = 0 ∧ A = none ∨ ∃ ad, A = some ad ∧ ∀ j u, ys[j]? = some u → w.cell? (ad.add j) = some u) (h1 : ∀ u ∈ ys, u.oneCell' = true) (hb : n + m ≤ 1000001) (hbase : base ≤ w.heap.size) :
    ∃ v' w', (Builtin.append_ #[t, t] ty #[v, .slice A m c]).run P w = .ok v' w' ∧ w'.ownsRow base e k v' (n + m) (xs ++ ys) ∧ w.grownBy w' v.ownBlock ∧ (v'.ownBlock = v.ownBlock ∨ v'.ownBlock = some w.heap.size) := by
  obtain ⟨i, z, hi, hz, hs, hby, hzs⟩ := R.inf
  rcases hA with ⟨rfl, rfl⟩ | ⟨ad, rfl, hc⟩
  · have hy : ys = [] := List.eq_nil_of_length_eq_zero (by rw [hys, Nat.zero_mul])
    subst hy
    refine ⟨v, w, ?_, by simpa using hown, ⟨rfl, rfl, rfl, Nat.le_refl _, fun _ _ _ => rfl⟩, .inl rfl⟩
    rcases hown.2 with ⟨rfl, rfl⟩ | ⟨g, cap, cur, rfl, _, _, hnc, _⟩
    · simp [Builtin.append_, run_underlying R.ht, sizeOf, typeInfo, hi, Builtin.lenOf, Builtin.firstCells]
    · simp [Builtin.append_, run_underlying R.ht, sizeOf, typeInfo, hi, Builtin.lenOf, Builtin.firstCells, hnc, storeCells]
  · obtain ⟨v', w', hr, h2, h3, _, h5⟩ := run_append_own_at (P := P) w base t ty e i z k i.bytes R.ht hi hz hs rfl hzs R.pos v n xs hown ad m c ys hys hc h1
      (by unfold maxLen; omega) (Nat.le_trans (Nat.mul_le_mul hb hby) (by omega)) hbase
    exact ⟨v', w', hr, h2, h3, h5⟩
/-- The same, for the walk. -/
theorem wp_join {ops : Array Oper} {rest : List Oper} {o : Oper} {a : Act} {Q : Exit → Act → World → Prop} (hgd : o.guard = none) (s x : Operand)
    (ho : o.op = .call { callee := .builtin .append, args := #[s, x], argTypes := #[t, t] }) (R : Rec P t e k) (base : Nat) (v : Value) (n : Nat) (xs : List Value) (hs : a.eval s = v) (hown : w.ownsRow base e k v n xs)
    (A : Option Addr) (m c : Nat) (ys : List Value) (hx : a.eval x = .slice A m c) (hys : ys.length = m * k) (hA : m = 0 ∧ A = none ∨ ∃ ad, A = some ad ∧ ∀ j u, ys[j]? = some u → w.cell? (ad.add j) = some u) (h1 : ∀ u ∈ ys, u.oneCell' = true) (hb : n + m ≤ 1000001) (hbase : base ≤ w.heap.size)
    (h : ∀ v' w', w'.ownsRow base e k v' (n + m) (xs ++ ys) → w.grownBy w' v.ownBlock → (v'.ownBlock = v.ownBlock ∨ v'.ownBlock = some w.heap.size) → wpList P ops Q rest (a.put o.dst v') w') :
    wpList P ops Q (o :: rest) a w := by
  refine wpList_plain hgd fun K hK => ?_
  obtain ⟨v', w', hr, h2, h3, h4⟩ := run_join (P := P) R o.type base v n xs hown A m c ys hys hA h1 hb hbase
  unfold Oper.wp execOp
  simp only [ho, resolve, invoke, builtin, Sem.run_bind, Sem.run_pure, Result.andThen_ok, List.map_toArray, List.map_cons, List.map_nil, hs, hx, hr]
  exact hK _ _ (h v' w' h2 h3 h4)
end

theorem made_src (w : World) (cs : List Value) (e : TypeId) {m : Nat} : m = 0 ∧ (some (⟨w.heap.size, 0, none⟩ : Addr)) = none ∨ ∃ ad, some (⟨w.heap.size, 0, none⟩ : Addr) = some ad ∧ ∀ j u, cs[j]? = some u → (w.alloc (.cells cs.toArray e)).cell? (ad.add j) = some u :=
  .inr ⟨_, rfl, fun j u hu => by rw [Addr.add_lit, Nat.zero_add, (Row.made w e cs).cell]; exact hu⟩

def fv (n : Nat) (f : Nat → Value) : List Value := (List.range n).map f
theorem fv_len (n : Nat) (f : Nat → Value) : (fv n f).length = n := by simp [fv]
theorem fv_get {n j : Nat} (f : Nat → Value) (h : j < n) : (fv n f)[j]? = some (f j) := by simp [fv, h]
theorem fv_none {n j : Nat} (f : Nat → Value) (h : n ≤ j) : (fv n f)[j]? = none := by simp [fv, h]
theorem fv_congr {n : Nat} {f g : Nat → Value} (h : ∀ j, j < n → f j = g j) : fv n f = fv n g := List.map_congr_left fun j hj => h j (by simpa using hj)
theorem fv_set {n i : Nat} (f g : Nat → Value) (h : ∀ j, j < n → g j = if j = i then g i else f j) : (fv n f).set i (g i) = fv n g := by
  apply List.ext_getElem?
  intro j
  rw [List.getElem?_set]
  by_cases hj : j < n
  · by_cases e : i = j
    · subst e
      rw [if_pos rfl, if_pos (by rw [fv_len]; exact hj), fv_get _ hj]
    · rw [if_neg e, fv_get _ hj, fv_get _ hj, h j hj, if_neg (Ne.symm e)]
  · rw [fv_none g (by omega)]
    split
    · rw [if_neg (by rw [fv_len]; omega)]
    · exact fv_none f (by omega)
theorem fv_snoc (n : Nat) (f : Nat → Value) : fv (n + 1) f = fv n f ++ [f n] := by
  unfold fv
  rw [List.range_succ, List.map_append]
  rfl
theorem fv_zero (f : Nat → Value) : fv 0 f = [] := rfl
attribute [irreducible] fv
theorem rec_u64 : Rec Try.prog 51 23 1 := rec_of (z := .int .u64 0) (n := 8) Try.underlying51 (by kernel_rfl) (by decide) rfl (by decide)
/-- A row of the call's own, told by a function of the place. -/
def OV (B : Nat) (w : World) (e : TypeId) (A : Option Addr) (n c : Nat) (f : Nat → Value) : Prop := w.ownsRow B e 1 (.slice A n c) n (fv n f)
theorem OV.cells {B : Nat} {w : World} {e : TypeId} {A : Option Addr} {n c : Nat} {f : Nat → Value} (h : OV B w e A n c f) (hn : 0 < n) : ∃ g, A = some ⟨g, 0, none⟩ ∧ ∀ j, j < n → w.cell? ⟨g, j, none⟩ = some (f j) := by
  rcases h.2 with ⟨h0, _⟩ | ⟨g, cap, cur, h1, _⟩
  · injection h0 with h0 h1
    omega
  · injection h1 with h1 _ _
    refine ⟨g, h1, fun j hj => ?_⟩
    subst h1
    have := World.ownsRow.cells h (g := g) rfl j _ (fv_get f hj)
    rwa [Addr.add_lit, Nat.zero_add] at this
theorem OV.kept {B : Nat} {w w' : World} {e : TypeId} {A : Option Addr} {n c : Nat} {f : Nat → Value} (h : OV B w e A n c f) (hb : Below w.heap.size w w') : OV B w' e A n c f := own_kept h hb
/-- One more. -/
theorem OV.more {W w w' : World} {B : Nat} {e : TypeId} {A : Option Addr} {n c : Nat} {f : Nat → Value} {u v' : Value} {o : Obj} (hb : Below B W w) (hB : B ≤ w.heap.size) (hown : OV B w e A n c f) (hu : f n = u)
    (h1 : w'.ownsRow B e 1 v' (n + 1) (fv n f ++ [u])) (hg : (w.alloc o).grownBy w' (Value.slice A n c).ownBlock) : ∃ A' c', v' = .slice A' (n + 1) c' ∧ OV B w' e A' (n + 1) c' f ∧ Below B W w' := by
  obtain ⟨A', c', rfl⟩ := own_sl h1
  refine ⟨A', c', rfl, ?_, ?_⟩
  · unfold OV
    rw [fv_snoc, hu]
    exact h1
  · exact (hb.alloc hB o).grown hg (by simp; omega) (fun k hk => (hown.lt k hk).1)
theorem made_ov (w : World) (e : TypeId) (n : Nat) (f : Nat → Value) (B : Nat) (hB : B ≤ w.heap.size) (hn : n ≤ maxLen) : OV B (w.alloc (.cells (fv n f).toArray e)) e (some ⟨w.heap.size, 0, none⟩) n n f :=
  ⟨by rw [fv_len, Nat.mul_one], .inr ⟨w.heap.size, n, _, rfl, hB, heap_alloc_new w _, Nat.le_refl _, hn, by simp [fv_len], List.take_of_length_le (by rw [fv_len]; omega)⟩⟩
def szv (k : Nat) : Value := .int .i64 ((sz k : Nat) : Int)
theorem szv_10 : [Value.int .i64 1, .int .i64 2, .int .i64 4, .int .i64 4, .int .i64 2, .int .i64 4, .int .i64 8, .int .i64 4, .int .i64 2, .int .i64 4] = fv 10 szv := by
  simp [fv_snoc, fv_zero, szv, sz]
theorem rsizes_any (w : World) : Calls Try.prog 27 #[] w fun e w' => ∃ A c, e = .returned (.slice A 27 c) ∧ Hid (OV w.heap.size w' 3 A 27 c szv) ∧ Hid (Below w.heap.size w w') := by
  have HS := Lib.hid (made_ov w 3 10 szv w.heap.size (Nat.le_refl _) (by decide))
  rw [← szv_10] at HS
  have HB0 := Lib.hid (p := Below w.heap.size w (w.alloc (.cells [Value.int .i64 1, .int .i64 2, .int .i64 4, .int .i64 4, .int .i64 2, .int .i64 4, .int .i64 8, .int .i64 4, .int .i64 2, .int .i64 4].toArray 3))) ((Below.refl _ _).alloc (Nat.le_refl _) _)
  go_enter Try.func27, Try.ntmps27
  go_wp2
  go_loopw [1, 2] (fun x y wr => ∃ (k : Nat) (A : Option Addr) (m c : Nat), Hid (k ≤ 17) ∧ y = .int .i64 (k : Int) ∧ x = .slice A m c ∧ Hid (10 + k = m) ∧ Hid (OV w.heap.size wr 3 A m c szv) ∧ Hid (Below w.heap.size w wr)) (fun _ y _ => 17 - (intOf y).toNat)
  case atStart => exact ⟨0, some ⟨w.heap.size, 0, none⟩, 10, 10, Lib.hid (by omega), rfl, rfl, Lib.hid rfl, HS, HB0⟩
  case round =>
    clear HS HB0
    obtain ⟨k, A, m, c, HK, rfl, rfl, HM, HO, HB⟩ := hrel
    have hkw : IntKind.i64.wrap ((k : Int) + 1) = (k : Int) + 1 := by rw [IntKind.wrap_i64]; have := HK.out; omega
    by_cases hk : k < 17
    · have hki : (k : Int) < 17 := by omega
      have HKL := Lib.hid hk
      have HSZ := Lib.hid (p := szv m = .int .i64 2) (by unfold szv; rw [← HM.out, sz_slot]; rfl)
      clear hk
      go_wp2_with (at_builtin
                   refine wp_join rfl _ _ rfl rec_int w.heap.size (.slice A m c) m (fv m szv) rfl (HO.out.alloc _) (some ⟨wr.heap.size, 0, none⟩) 1 1 [.int .i64 2] rfl rfl (made_src wr [.int .i64 2] _) (by intro u hu; simp at hu; subst hu; rfl) (by have := HM.out; have := HKL.out; omega) (by have := HB.out.size; simp; omega) ?_
                   intro v1 w1 ho1 hg1 hat1
                   obtain ⟨A1, c1, rfl, ho2, hb2⟩ := OV.more HB.out HB.out.size HO.out HSZ.out ho1 hg1
                   have HO2 := Lib.hid ho2
                   have HB2 := Lib.hid hb2
                   clear ho1 hg1 hat1 ho2 hb2)
      go_roundw
      case rel => exact ⟨k + 1, A1, m + 1, c1, Lib.hid HKL.out, by go_num, rfl, Lib.hid (by have := HM.out; omega), HO2, HB2⟩
      case measure => have := HKL.out; simp [intOf]; omega
    · obtain rfl : k = 17 := by have := HK.out; omega
      obtain rfl : m = 27 := by have := HM.out; omega
      have hki : ¬ ((17 : Nat) : Int) < 17 := by omega
      clear hk
      go_wp2
      go_ret
      exact ⟨A, c, rfl, HO, HB⟩
end Go.Proofs.Ytpmldaoligmkaaa
