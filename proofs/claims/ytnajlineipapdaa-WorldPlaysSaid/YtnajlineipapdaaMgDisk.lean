/- The reference's disk in memory: its four lists, what a block is now. Conditions: the disk lies there. -/
import Derived.Test.YtnajlineipapdaaMgPlain
import Derived.BigQuiet
import Derived.BigRegion
import Derived.Deep.RegionLaw
import Derived.StillTailTactics
set_option linter.unusedVariables false
namespace Go.Proofs.Ytnajlineipapdaa
open Go.RowKit

/-- The cells of a block, of a waiting write, of a touch. -/
def sc (b : BV) : List Value := [bvv b]
def wcs (p : Nat × BV) : List Value := [.int .i64 (p.1 : Int), bvv p.2]
def tc (t : Int × Int × BV) : List Value := [.int .i64 t.1, .int .i64 t.2.1, bvv t.2.2]
theorem sc_len (b : BV) : (sc b).length = 1 := rfl
theorem wcs_len (p : Nat × BV) : (wcs p).length = 2 := rfl
theorem tc_len (t : Int × Int × BV) : (tc t).length = 3 := rfl
/-- A disk as it lies: block g, and its four lists. -/
structure RDisk (b : Nat) (w : World) (g : Nat) (v1 v2 v3 v4 : Value) (ss : List BV) (rs al : List (Nat × BV)) (ts : List (Int × Int × BV)) : Prop where
  cells : Row w g 49 [v1, v2, v3, v4]
  o1 : w.ownsRow b 32 1 v1 ss.length (ss.flatMap sc)
  o2 : w.ownsRow b 81 2 v2 rs.length (rs.flatMap wcs)
  o3 : w.ownsRow b 81 2 v3 al.length (al.flatMap wcs)
  o4 : w.ownsRow b 77 3 v4 ts.length (ts.flatMap tc)
  sep : v2.ownBlock = none ∨ v2.ownBlock ≠ v3.ownBlock
  lo : b ≤ g
  m1 : ∀ x ∈ ss, Own8 b w x ∧ x.l.length = 256
  m2 : ∀ p ∈ rs, Own8 b w p.2 ∧ p.2.l.length = 256 ∧ p.1 < ss.length
  m3 : ∀ p ∈ al, Own8 b w p.2 ∧ p.2.l.length = 256 ∧ p.1 < ss.length
  m4 : ∀ t ∈ ts, Own8 b w t.2.2
/-- The blocks that a disk's calls may write. -/
def foot (g : Nat) (v1 v2 v3 v4 : Value) : List Nat := g :: [v1, v2, v3, v4].filterMap Value.ownBlock
/-- What block a is behind the first k waiting writes. -/
def nowK (ss : List BV) (rs : List (Nat × BV)) (a k : Nat) : BV := (rs.take k).foldl (fun b p => if p.1 = a then p.2 else b) (ss.getD a noBV)
def nowV (ss : List BV) (rs : List (Nat × BV)) (a : Nat) : BV := nowK ss rs a rs.length
theorem nowK_zero (ss : List BV) (rs : List (Nat × BV)) (a : Nat) : nowK ss rs a 0 = ss.getD a noBV := by simp [nowK]
theorem nowK_step {ss : List BV} {rs : List (Nat × BV)} {a k : Nat} {p : Nat × BV} (hp : rs[k]? = some p) : nowK ss rs a (k + 1) = if p.1 = a then p.2 else nowK ss rs a k := by
  unfold nowK
  rw [List.take_add_one, hp, List.foldl_append]
  rfl
theorem nowK_mem (ss : List BV) (rs : List (Nat × BV)) (a : Nat) (ha : a < ss.length) (Q : BV → Prop) (h1 : ∀ x ∈ ss, Q x) (h2 : ∀ p ∈ rs, Q p.2) : ∀ k, Q (nowK ss rs a k)
  | 0 => by
    rw [nowK_zero, List.getD_eq_getElem?_getD, List.getElem?_eq_getElem ha]
    exact h1 _ (List.getElem_mem ha)
  | k + 1 => by
    cases hp : rs[k]? with
    | none =>
      have e1 : nowK ss rs a (k + 1) = nowK ss rs a k := by
        unfold nowK
        rw [List.take_add_one, hp]
        simp
      rw [e1]
      exact nowK_mem ss rs a ha Q h1 h2 k
    | some p =>
      rw [nowK_step hp]
      split
      · exact h2 p (List.mem_of_getElem? hp)
      · exact nowK_mem ss rs a ha Q h1 h2 k

section
variable {b : Nat} {w : World} {g : Nat} {v1 v2 v3 v4 : Value} {ss : List BV} {rs al : List (Nat × BV)} {ts : List (Int × Int × BV)}
theorem RDisk.c0 (h : RDisk b w g v1 v2 v3 v4 ss rs al ts) : w.cell? ⟨g, 0, none⟩ = some v1 := by rw [h.cells.cell]; rfl
theorem RDisk.c1 (h : RDisk b w g v1 v2 v3 v4 ss rs al ts) : w.cell? ⟨g, 1, none⟩ = some v2 := by rw [h.cells.cell]; rfl
theorem RDisk.c2 (h : RDisk b w g v1 v2 v3 v4 ss rs al ts) : w.cell? ⟨g, 2, none⟩ = some v3 := by rw [h.cells.cell]; rfl
theorem RDisk.c3 (h : RDisk b w g v1 v2 v3 v4 ss rs al ts) : w.cell? ⟨g, 3, none⟩ = some v4 := by rw [h.cells.cell]; rfl
theorem has_in (h : RDisk b w g v1 v2 v3 v4 ss rs al ts) (a : Nat) (ha : a < ss.length) :
    Calls Try.prog 42 #[.pointer (some ⟨g, 0, none⟩), .int .i64 (a : Int)] w fun e w' => e = .returned (.bool true) ∧ w' = w := by
  obtain ⟨A1, k1, rfl⟩ := own_sl h.o1
  have c0 := h.c0
  have h1 : (0 : Int) ≤ (a : Int) := by omega
  have h2 : (a : Int) < (ss.length : Int) := by omega
  clear h ha
  go_enter Try.func42, Try.ntmps42
  go_wp2
  go_ret
  exact ⟨rfl, rfl⟩
theorem has_out (h : RDisk b w g v1 v2 v3 v4 ss rs al ts) (z : Int) (hz : z < 0 ∨ (ss.length : Int) ≤ z) :
    Calls Try.prog 42 #[.pointer (some ⟨g, 0, none⟩), .int .i64 z] w fun e w' => e = .returned (.bool false) ∧ w' = w := by
  obtain ⟨A1, k1, rfl⟩ := own_sl h.o1
  have c0 := h.c0
  clear h
  by_cases h1 : (0 : Int) ≤ z
  · have h2 : ¬ z < (ss.length : Int) := by omega
    clear hz
    go_enter Try.func42, Try.ntmps42
    go_wp2
    go_ret
    exact ⟨rfl, rfl⟩
  · clear hz
    go_enter Try.func42, Try.ntmps42
    go_wp2
    go_ret
    exact ⟨rfl, rfl⟩
set_option maxHeartbeats 1000000 in
theorem now_any (h : RDisk b w g v1 v2 v3 v4 ss rs al ts) (a : Nat) (ha : a < ss.length) (hr : rs.length ≤ 1000000) :
    Calls Try.prog 30 #[.pointer (some ⟨g, 0, none⟩), .int .i64 (a : Int)] w fun e w' => e = .returned (bvv (nowV ss rs a)) ∧ w' = w := by
  have HR := Lib.hid hr
  have HD := Lib.hid h
  have hs : ss[a]? = some (ss.getD a noBV) := by rw [List.getD_eq_getElem?_getD, List.getElem?_eq_getElem ha]; rfl
  obtain ⟨g1, k1, rfl, _, _, hc1⟩ := own_rec sc_len h.o1 hs (by omega)
  have d0 := hc1 0 _ rfl
  rw [Nat.mul_one, Nat.add_zero] at d0
  have c0 := h.c0
  have c1 := h.c1
  obtain ⟨A2, k2, rfl⟩ := own_sl h.o2
  have h2 : (a : Int) < (ss.length : Int) := by omega
  have h1 : (0 : Int) ≤ (a : Int) := by omega
  rw [← nowK_zero ss rs a] at d0
  unfold bvv at d0
  clear h hr hs hc1 ha
  go_enter Try.func30, Try.ntmps30
  go_wp2
  go_loopw [5, 6] (fun v x wr => ∃ k : Nat, k ≤ rs.length ∧ x = .int .i64 (k : Int) ∧ v = bvv (nowK ss rs a k) ∧ wr = w) (fun _ x _ => rs.length - (intOf x).toNat)
  case atStart => exact ⟨0, by omega, rfl, rfl, rfl⟩
  case round =>
    obtain ⟨k, hk, rfl, rfl, rfl⟩ := hrel
    have hkw : IntKind.i64.wrap ((k : Int) + 1) = (k : Int) + 1 := by rw [IntKind.wrap_i64]; have := HR.out; omega
    by_cases hlt : k < rs.length
    · have hki : (k : Int) < (rs.length : Int) := by omega
      obtain ⟨p, hp⟩ : ∃ p, rs[k]? = some p := ⟨_, List.getElem?_eq_getElem hlt⟩
      obtain ⟨g2, k2', e2, _, _, hc2⟩ := own_rec wcs_len HD.out.o2 hp (by omega)
      simp only [Value.slice.injEq] at e2
      obtain ⟨rfl, _, _⟩ := e2
      have p0 := hc2 0 _ rfl
      have p1 := hc2 1 _ rfl
      rw [Nat.add_zero] at p0
      unfold bvv at p1
      have HPK := Lib.hid hp
      clear hp hc2
      by_cases hpa : p.1 = a
      · have hpe : ((p.1 : Int) == (a : Int)) = true := by rw [hpa]; simp
        go_wp2
        go_roundw
        case rel => exact ⟨k + 1, by omega, by go_num, by rw [nowK_step HPK.out, if_pos hpa]; rfl, trivial⟩
        case measure => simp [intOf]; omega
      · have hpe : ((p.1 : Int) == (a : Int)) = false := beq_false_of_ne (by omega)
        go_wp2
        go_roundw
        case rel => exact ⟨k + 1, by omega, by go_num, by rw [nowK_step HPK.out, if_neg hpa], trivial⟩
        case measure => simp [intOf]; omega
    · obtain rfl : k = rs.length := by omega
      go_wp2
      go_ret
      exact ⟨rfl, rfl⟩
end
end Go.Proofs.Ytnajlineipapdaa
/- Rows of records of the call's own, as they grow. No conditions but those named. -/
set_option linter.unusedVariables false
namespace Go.Proofs.Ytnajlineipapdaa
open Go.RowKit

/-- What the table says of a record's type, and of slices of it. -/
structure Rec (P : Program) (t e : TypeId) (k : Nat) : Prop where
  ht : P.underlying t = some (.slice e)
  inf : ∃ i z, P.info? e = some i ∧ i.zero = some z ∧ i.size = k ∧ i.bytes ≤ 64 ∧ z.cells.size = k
  pos : 0 < k
theorem rec_of {P : Program} {t e : TypeId} {k n : Nat} {z : Value} (ht : P.underlying t = some (.slice e)) (h : (P.info? e).map (fun i => (i.zero, i.size, i.bytes)) = some (some z, k, n)) (hn : n ≤ 64) (hz : z.cells.size = k) (hk : 0 < k) : Rec P t e k := by
  obtain ⟨i, h1, h2, h3, h4⟩ := info_parts h
  exact ⟨ht, ⟨i, z, h1, h2, h3, by omega, hz⟩, hk⟩
theorem rec_sl : Rec Try.prog 45 32 1 := rec_of (z := .slice none 0 0) (n := 24) Try.underlying45 (by kernel_rfl) (by decide) rfl (by decide)
theorem rec_wait : Rec Try.prog 46 81 2 := rec_of (z := .agg #[.int .i64 0, .slice none 0 0]) (n := 32) Try.underlying46 (by kernel_rfl) (by decide) rfl (by decide)
theorem rec_touch : Rec Try.prog 47 77 3 := rec_of (z := .agg #[.int .i64 0, .int .i64 0, .slice none 0 0]) (n := 40) Try.underlying47 (by kernel_rfl) (by decide) rfl (by decide)

theorem own_parted {w : World} {b b' : Nat} {e e' : TypeId} {s s' n n' : Nat} {v v' : Value} {xs xs' : List Value} (h : w.ownsRow b e s v n xs) (h' : w.ownsRow b' e' s' v' n' xs') (hne : e ≠ e') : v.ownBlock = none ∨ v.ownBlock ≠ v'.ownBlock := by
  rcases h.2 with ⟨rfl, _⟩ | ⟨g, cap, cur, rfl, _, hg, _⟩
  · exact .inl rfl
  · refine .inr fun he => ?_
    rcases h'.2 with ⟨rfl, _⟩ | ⟨g', cap', cur', rfl, _, hg', _⟩
    · simp [Value.ownBlock] at he
    · simp [Value.ownBlock] at he
      subst he
      rw [hg] at hg'
      injection hg' with hg'
      injection hg' with _ ht
      exact hne ht
theorem row_parted {w : World} {b g : Nat} {t e : TypeId} {s n : Nat} {v : Value} {cs xs : List Value} (h : Row w g t cs) (h' : w.ownsRow b e s v n xs) (hne : t ≠ e) : v.ownBlock ≠ some g := by
  intro he
  rcases h'.2 with ⟨rfl, _⟩ | ⟨g', cap', cur', rfl, _, hg', _⟩
  · simp [Value.ownBlock] at he
  · simp [Value.ownBlock] at he
    subst he
    have h1 := h.heap
    rw [h1] at hg'
    injection hg' with hg'
    injection hg' with _ ht
    exact hne ht

section
variable {P : Program} {w : World} {t e : TypeId} {k : Nat}
/-- A row of the call's own, appended to another one. -/
theorem run_join (R : Rec P t e k) (ty : TypeId) (base : Nat) (v : Value) (n : Nat) (xs : List Value) (hown : w.ownsRow base e k v n xs)
    (A : Option Addr) (m c : Nat) (ys : List Value) (hys : ys.length = m * k) (hA : m = 0 ∧ A = none ∨ ∃ ad, A = some ad ∧ ∀ j u, ys[j]? = some u → w.cell? (ad.add j) = some u) (h1 : ∀ u ∈ ys, u.oneCell' = true) (hb : n + m ≤ 1000001) (hbase : base ≤ w.heap.size) :
    ∃ v' w', (Builtin.append_ #[t, t] ty #[v, .slice A m c]).run P w = .ok v' w' ∧ w'.ownsRow base e k v' (n + m) (xs ++ ys) ∧ w.grownBy w' v.ownBlock ∧ (v'.ownBlock = v.ownBlock ∨ v'.ownBlock = some w.heap.size) := by
  obtain ⟨i, z, hi, hz, hs, hby, hzs⟩ := R.inf
  rcases hA with ⟨rfl, rfl⟩ | ⟨ad, rfl, hc⟩
  · have hy : ys = [] := List.eq_nil_of_length_eq_zero (by rw [hys, Nat.zero_mul])
    subst hy
    refine ⟨v, w, ?_, by simpa using hown, ⟨rfl, rfl, rfl, Nat.le_refl _, fun _ _ _ => rfl⟩, .inl rfl⟩
    rcases hown.2 with ⟨rfl, rfl⟩ | ⟨g, cap, cur, rfl, _, _, hnc, _⟩
    · simp [Builtin.append_, run_underlying R.ht, sizeOf, typeInfo, hi, Builtin.lenOf, Builtin.firstCells]
    · simp [Builtin.append_, run_underlying R.ht, sizeOf, typeInfo, hi, Builtin.lenOf, Builtin.firstCells, hnc, storeCells]
  · obtain ⟨v', w', hr, h2, h3, _, h5⟩ := run_append_own_at (P := P) w base t ty e i z k i.bytes R.ht hi hz hs rfl hzs R.pos v n xs hown ad m c ys hys hc h1
      (by unfold maxLen; omega) (Nat.le_trans (Nat.mul_le_mul hb hby) (by omega)) hbase
    exact ⟨v', w', hr, h2, h3, h5⟩
/-- The same, at a step of a region that draws. -/
theorem step_join {ops : Array Oper} {o : Oper} {a : Act} {K : Act → World → Prop} {Q : Exit → Act → World → Prop} {E : Prop} (hgd : o.guard = none) (s x : Operand)
    (ho : o.op = .call { callee := .builtin .append, args := #[s, x], argTypes := #[t, t] }) (R : Rec P t e k) (base : Nat) (v : Value) (n : Nat) (xs : List Value) (hs : a.eval s = v) (hown : w.ownsRow base e k v n xs)
    (A : Option Addr) (m c : Nat) (ys : List Value) (hx : a.eval x = .slice A m c) (hys : ys.length = m * k) (hA : m = 0 ∧ A = none ∨ ∃ ad, A = some ad ∧ ∀ j u, ys[j]? = some u → w.cell? (ad.add j) = some u) (h1 : ∀ u ∈ ys, u.oneCell' = true) (hb : n + m ≤ 1000001) (hbase : base ≤ w.heap.size)
    (h : ∀ v' w', w'.ownsRow base e k v' (n + m) (xs ++ ys) → w.grownBy w' v.ownBlock → (v'.ownBlock = v.ownBlock ∨ v'.ownBlock = some w.heap.size) → K (a.put o.dst v') w') :
    if Region.wanted o (yielded ops a.tmps) = true then Oper.wp P o a w K Q else E := by
  have hw : Region.wanted o (yielded ops a.tmps) = true := by simp [Region.wanted, hgd]
  rw [if_pos hw]
  obtain ⟨v', w', hr, h2, h3, h4⟩ := run_join (P := P) R o.type base v n xs hown A m c ys hys hA h1 hb hbase
  unfold Oper.wp execOp
  simp only [ho, resolve, invoke, builtin, Sem.run_bind, Sem.run_pure, Result.andThen_ok, List.map_toArray, List.map_cons, List.map_nil, hs, hx, hr]
  exact h v' w' h2 h3 h4
/-- The same, for the walk. -/
theorem wp_join {ops : Array Oper} {rest : List Oper} {o : Oper} {a : Act} {Q : Exit → Act → World → Prop} (hgd : o.guard = none) (s x : Operand)
    (ho : o.op = .call { callee := .builtin .append, args := #[s, x], argTypes := #[t, t] }) (R : Rec P t e k) (base : Nat) (v : Value) (n : Nat) (xs : List Value) (hs : a.eval s = v) (hown : w.ownsRow base e k v n xs)
    (A : Option Addr) (m c : Nat) (ys : List Value) (hx : a.eval x = .slice A m c) (hys : ys.length = m * k) (hA : m = 0 ∧ A = none ∨ ∃ ad, A = some ad ∧ ∀ j u, ys[j]? = some u → w.cell? (ad.add j) = some u) (h1 : ∀ u ∈ ys, u.oneCell' = true) (hb : n + m ≤ 1000001) (hbase : base ≤ w.heap.size)
    (h : ∀ v' w', w'.ownsRow base e k v' (n + m) (xs ++ ys) → w.grownBy w' v.ownBlock → (v'.ownBlock = v.ownBlock ∨ v'.ownBlock = some w.heap.size) → wpList P ops Q rest (a.put o.dst v') w') :
    wpList P ops Q (o :: rest) a w := by
  refine wpList_plain hgd fun K hK => ?_
  obtain ⟨v', w', hr, h2, h3, h4⟩ := run_join (P := P) R o.type base v n xs hown A m c ys hys hA h1 hb hbase
  unfold Oper.wp execOp
  simp only [ho, resolve, invoke, builtin, Sem.run_bind, Sem.run_pure, Result.andThen_ok, List.map_toArray, List.map_cons, List.map_nil, hs, hx, hr]
  exact hK _ _ (h v' w' h2 h3 h4)
end
/-- An own row as the source of an append. -/
theorem own_src {w : World} {b k n : Nat} {e : TypeId} {A : Option Addr} {c : Nat} {xs : List Value} (h : w.ownsRow b e k (.slice A n c) n xs) : n = 0 ∧ A = none ∨ ∃ ad, A = some ad ∧ ∀ j u, xs[j]? = some u → w.cell? (ad.add j) = some u := by
  rcases h.2 with ⟨e0, h0⟩ | ⟨g, cap, cur, e0, _⟩
  · simp only [Value.slice.injEq] at e0
    exact .inl ⟨h0, e0.1⟩
  · simp only [Value.slice.injEq] at e0
    obtain ⟨rfl, _, _⟩ := e0
    exact .inr ⟨_, rfl, fun j u hu => h.cells (g := g) rfl j u hu⟩
theorem sc_one (b : BV) : ∀ u ∈ sc b, u.oneCell' = true := by intro u hu; simp [sc, bvv] at hu; subst hu; rfl
theorem wcs_one (p : Nat × BV) : ∀ u ∈ wcs p, u.oneCell' = true := by intro u hu; simp [wcs, bvv] at hu; rcases hu with rfl | rfl <;> rfl
theorem tc_one (t : Int × Int × BV) : ∀ u ∈ tc t, u.oneCell' = true := by intro u hu; simp [tc, bvv] at hu; rcases hu with rfl | rfl | rfl <;> rfl
theorem flat_one {α : Type} {f : α → List Value} (hf : ∀ x, ∀ u ∈ f x, u.oneCell' = true) (xs : List α) : ∀ u ∈ xs.flatMap f, u.oneCell' = true := by
  intro u hu
  obtain ⟨x, _, hx⟩ := List.mem_flatMap.1 hu
  exact hf x u hx
theorem void_own (w : World) (e : TypeId) (k b : Nat) (hb : b ≤ w.heap.size) : (w.alloc (.cells #[] e)).ownsRow b e k (.slice (some ⟨w.heap.size, 0, none⟩) 0 0) 0 [] :=
  ⟨by simp, .inr ⟨w.heap.size, 0, #[], rfl, hb, heap_alloc_new w _, Nat.le_refl _, by decide, by simp, by simp⟩⟩
end Go.Proofs.Ytnajlineipapdaa
/- The reference's disk, with one of its lists grown. Conditions: the disk lies there. -/
set_option linter.unusedVariables false
namespace Go.Proofs.Ytnajlineipapdaa
open Go.RowKit

section
variable {b : Nat} {w : World} {g : Nat} {v1 v2 v3 v4 : Value} {ss : List BV} {rs al : List (Nat × BV)} {ts : List (Int × Int × BV)}
theorem RDisk.kept {w' : World} (h : RDisk b w g v1 v2 v3 v4 ss rs al ts) (hb : Below w.heap.size w w') : RDisk b w' g v1 v2 v3 v4 ss rs al ts :=
  ⟨h.cells.kept hb, own_kept h.o1 hb, own_kept h.o2 hb, own_kept h.o3 hb, own_kept h.o4 hb, h.sep, h.lo, fun x hx => ⟨(h.m1 x hx).1.below hb, (h.m1 x hx).2⟩, fun p hp => ⟨(h.m2 p hp).1.below hb, (h.m2 p hp).2⟩, fun p hp => ⟨(h.m3 p hp).1.below hb, (h.m3 p hp).2⟩, fun t ht => (h.m4 t ht).below hb⟩
theorem RDisk.ne (h : RDisk b w g v1 v2 v3 v4 ss rs al ts) : v1.ownBlock ≠ some g ∧ v2.ownBlock ≠ some g ∧ v3.ownBlock ≠ some g ∧ v4.ownBlock ≠ some g :=
  ⟨row_parted h.cells h.o1 (by decide), row_parted h.cells h.o2 (by decide), row_parted h.cells h.o3 (by decide), row_parted h.cells h.o4 (by decide)⟩
theorem Own8.grownBy {w' : World} {x : BV} {bb n size : Nat} {e : TypeId} {v : Value} {xs : List Value} {base : Nat} (h : Own8 base w x) (hg : w.grownBy w' v.ownBlock) (hv : w.ownsRow bb e size v n xs) (he : 5 ≠ e) : Own8 base w' x :=
  World.ownsRow.kept h hg (own_parted h hv he)
theorem Own8.put {w : World} {x : BV} {g o : Nat} {t : TypeId} {cs : List Value} {base : Nat} (h : Own8 base w x) (hr : Row w g t cs) (he : 5 ≠ t) (u : Value) : Own8 base (w.setCell ⟨g, o, none⟩ u) x :=
  World.ownsRow.kept h (grown_set w ⟨g, o, none⟩ u) (.inr (row_parted hr h (fun e => he e.symm)))
theorem own_put {w : World} {base size n : Nat} {e : TypeId} {v : Value} {xs : List Value} {g o : Nat} {t : TypeId} {cs : List Value} (h : w.ownsRow base e size v n xs) (hr : Row w g t cs) (he : t ≠ e) (u : Value) : (w.setCell ⟨g, o, none⟩ u).ownsRow base e size v n xs :=
  World.ownsRow.kept h (grown_set w ⟨g, o, none⟩ u) (.inr (row_parted hr h he))
theorem foot_g (g : Nat) (v1 v2 v3 v4 : Value) : g ∈ foot g v1 v2 v3 v4 := by simp [foot]
theorem foot_v4 {g : Nat} {v1 v2 v3 v4 : Value} {k : Nat} (h : v4.ownBlock = some k) : k ∈ foot g v1 v2 v3 v4 := by simp [foot, List.mem_filterMap]; exact .inr (.inr (.inr (.inr h)))
theorem foot_v3 {g : Nat} {v1 v2 v3 v4 : Value} {k : Nat} (h : v3.ownBlock = some k) : k ∈ foot g v1 v2 v3 v4 := by simp [foot, List.mem_filterMap]; exact .inr (.inr (.inr (.inl h)))
theorem foot_v1 {g : Nat} {v1 v2 v3 v4 : Value} {k : Nat} (h : v1.ownBlock = some k) : k ∈ foot g v1 v2 v3 v4 := by simp [foot, List.mem_filterMap]; exact .inr (.inl h)
/-- A touch more. -/
theorem RDisk.touch {w2 : World} {v : Value} (h : RDisk b w g v1 v2 v3 v4 ss rs al ts) (t : Int × Int × BV) (ht : Own8 b w t.2.2) (hr : w2.ownsRow b 77 3 v (ts.length + 1) (ts.flatMap tc ++ tc t)) (hg : w.grownBy w2 v4.ownBlock) :
    RDisk b (w2.setCell ⟨g, 3, none⟩ v) g v1 v2 v3 v ss rs al (ts ++ [t]) ∧ Chg (foot g v1 v2 v3 v4) w (w2.setCell ⟨g, 3, none⟩ v) := by
  have hc2 : Row w2 g 49 [v1, v2, v3, v4] := h.cells.grown hg (fun e => h.ne.2.2.2 e.symm)
  refine ⟨⟨hc2.put 3 v, ?_, ?_, ?_, ?_, h.sep, h.lo, ?_, ?_, ?_, ?_⟩, ((Chg.refl (foot g v1 v2 v3 v4) w).grown hg (fun k hk => .inl (foot_v4 hk))).setCell (p := ⟨g, 3, none⟩) (.inl (foot_g g v1 v2 v3 v4)) v⟩
  · exact own_put (h.o1.kept hg (own_parted h.o1 h.o4 (by decide))) hc2 (by decide) v
  · exact own_put (h.o2.kept hg (own_parted h.o2 h.o4 (by decide))) hc2 (by decide) v
  · exact own_put (h.o3.kept hg (own_parted h.o3 h.o4 (by decide))) hc2 (by decide) v
  · rw [flat_snoc, List.length_append]
    exact own_put hr hc2 (by decide) v
  · exact fun x hx => ⟨((h.m1 x hx).1.grownBy hg h.o4 (by decide)).put hc2 (by decide) v, (h.m1 x hx).2⟩
  · exact fun p hp => ⟨((h.m2 p hp).1.grownBy hg h.o4 (by decide)).put hc2 (by decide) v, (h.m2 p hp).2⟩
  · exact fun p hp => ⟨((h.m3 p hp).1.grownBy hg h.o4 (by decide)).put hc2 (by decide) v, (h.m3 p hp).2⟩
  · intro x hx
    rcases List.mem_append.1 hx with hx | hx
    · exact ((h.m4 x hx).grownBy hg h.o4 (by decide)).put hc2 (by decide) v
    · simp at hx
      subst hx
      exact (ht.grownBy hg h.o4 (by decide)).put hc2 (by decide) v
/-- A write more among all. -/
theorem RDisk.wrote {w2 : World} {v : Value} (h : RDisk b w g v1 v2 v3 v4 ss rs al ts) (p : Nat × BV) (ht : Own8 b w p.2) (hl : p.2.l.length = 256) (hp : p.1 < ss.length) (hr : w2.ownsRow b 81 2 v (al.length + 1) (al.flatMap wcs ++ wcs p)) (hg : w.grownBy w2 v3.ownBlock)
    (hat : v.ownBlock = v3.ownBlock ∨ v.ownBlock = some w.heap.size) :
    RDisk b (w2.setCell ⟨g, 2, none⟩ v) g v1 v2 v v4 ss rs (al ++ [p]) ts ∧ Chg (foot g v1 v2 v3 v4) w (w2.setCell ⟨g, 2, none⟩ v) := by
  have hc2 : Row w2 g 49 [v1, v2, v3, v4] := h.cells.grown hg (fun e => h.ne.2.2.1 e.symm)
  have hsep : v2.ownBlock = none ∨ v2.ownBlock ≠ v.ownBlock := by
    rcases hat with e | e
    · rw [e]; exact h.sep
    · cases hv : v2.ownBlock with
      | none => exact .inl rfl
      | some k =>
        refine .inr (fun e2 => ?_)
        rw [e] at e2
        injection e2 with e2
        have := (h.o2.lt k hv).2
        omega
  refine ⟨⟨hc2.put 2 v, ?_, ?_, ?_, ?_, hsep, h.lo, ?_, ?_, ?_, ?_⟩, ((Chg.refl (foot g v1 v2 v3 v4) w).grown hg (fun k hk => .inl (foot_v3 hk))).setCell (p := ⟨g, 2, none⟩) (.inl (foot_g g v1 v2 v3 v4)) v⟩
  · exact own_put (h.o1.kept hg (own_parted h.o1 h.o3 (by decide))) hc2 (by decide) v
  · exact own_put (h.o2.kept hg h.sep) hc2 (by decide) v
  · rw [flat_snoc, List.length_append]
    exact own_put hr hc2 (by decide) v
  · exact own_put (h.o4.kept hg (own_parted h.o4 h.o3 (by decide))) hc2 (by decide) v
  · exact fun x hx => ⟨((h.m1 x hx).1.grownBy hg h.o3 (by decide)).put hc2 (by decide) v, (h.m1 x hx).2⟩
  · exact fun p hp => ⟨((h.m2 p hp).1.grownBy hg h.o3 (by decide)).put hc2 (by decide) v, (h.m2 p hp).2⟩
  · intro x hx
    rcases List.mem_append.1 hx with hx | hx
    · exact ⟨((h.m3 x hx).1.grownBy hg h.o3 (by decide)).put hc2 (by decide) v, (h.m3 x hx).2⟩
    · simp at hx
      subst hx
      exact ⟨(ht.grownBy hg h.o3 (by decide)).put hc2 (by decide) v, hl, hp⟩
  · exact fun t ht => ((h.m4 t ht).grownBy hg h.o3 (by decide)).put hc2 (by decide) v
/-- Another row of waiting writes: a new one. -/
theorem RDisk.waits {v : Value} {rs' : List (Nat × BV)} (h : RDisk b w g v1 v2 v3 v4 ss rs al ts) (hr : w.ownsRow b 81 2 v rs'.length (rs'.flatMap wcs)) (hsep : v.ownBlock = none ∨ v.ownBlock ≠ v3.ownBlock)
    (hm : ∀ p ∈ rs', Own8 b w p.2 ∧ p.2.l.length = 256 ∧ p.1 < ss.length) :
    RDisk b (w.setCell ⟨g, 1, none⟩ v) g v1 v v3 v4 ss rs' al ts ∧ Chg (foot g v1 v2 v3 v4) w (w.setCell ⟨g, 1, none⟩ v) := by
  have hc2 := h.cells
  refine ⟨⟨hc2.put 1 v, ?_, ?_, ?_, ?_, hsep, h.lo, ?_, ?_, ?_, ?_⟩, (Chg.refl (foot g v1 v2 v3 v4) w).setCell (p := ⟨g, 1, none⟩) (.inl (foot_g g v1 v2 v3 v4)) v⟩
  · exact own_put h.o1 hc2 (by decide) v
  · exact own_put hr hc2 (by decide) v
  · exact own_put h.o3 hc2 (by decide) v
  · exact own_put h.o4 hc2 (by decide) v
  · exact fun x hx => ⟨(h.m1 x hx).1.put hc2 (by decide) v, (h.m1 x hx).2⟩
  · exact fun p hp => ⟨(hm p hp).1.put hc2 (by decide) v, (hm p hp).2⟩
  · exact fun p hp => ⟨(h.m3 p hp).1.put hc2 (by decide) v, (h.m3 p hp).2⟩
  · exact fun t ht => (h.m4 t ht).put hc2 (by decide) v
end
theorem touch_src (w : World) (t : Int × Int × BV) : (1 : Nat) = 0 ∧ (some (⟨w.heap.size, 0, none⟩ : Addr)) = none ∨ ∃ ad, some (⟨w.heap.size, 0, none⟩ : Addr) = some ad ∧ ∀ j u, (tc t)[j]? = some u → (w.alloc (.cells (tc t).toArray 77)).cell? (ad.add j) = some u :=
  .inr ⟨_, rfl, fun j u hu => by rw [Addr.add_lit, Nat.zero_add, (Row.made w 77 (tc t)).cell]; exact hu⟩
theorem wait_src (w : World) (p : Nat × BV) : (1 : Nat) = 0 ∧ (some (⟨w.heap.size, 0, none⟩ : Addr)) = none ∨ ∃ ad, some (⟨w.heap.size, 0, none⟩ : Addr) = some ad ∧ ∀ j u, (wcs p)[j]? = some u → (w.alloc (.cells (wcs p).toArray 81)).cell? (ad.add j) = some u :=
  .inr ⟨_, rfl, fun j u hu => by rw [Addr.add_lit, Nat.zero_add, (Row.made w 81 (wcs p)).cell]; exact hu⟩
theorem below_a1 (w : World) (o : Obj) : Below w.heap.size w (w.drew.alloc o) := (below_drw w).alloc (Nat.le_refl _) o
theorem below_a2 (w : World) (o o' : Obj) : Below w.heap.size w ((w.drew.alloc o).alloc o') := (below_a1 w o).alloc (below_a1 w o).size o'
theorem below_then {w W w5 : World} {row : Option Nat} (h : Below w.heap.size w W) (hg : W.grownBy w5 row) (hr : ∀ q, row = some q → w.heap.size ≤ q) : Below w.heap.size w w5 := h.grown hg h.size hr
theorem row_src {w : World} {g : Nat} {t : TypeId} {cs : List Value} (h : Row w g t cs) : (1 : Nat) = 0 ∧ (some (⟨g, 0, none⟩ : Addr)) = none ∨ ∃ ad, some (⟨g, 0, none⟩ : Addr) = some ad ∧ ∀ j u, cs[j]? = some u → w.cell? (ad.add j) = some u :=
  .inr ⟨_, rfl, fun j u hu => by rw [Addr.add_lit, Nat.zero_add, h.cell]; exact hu⟩
theorem size_a1 (w : World) (o : Obj) : (w.drew.alloc o).heap.size = w.heap.size + 1 := by simp
theorem row_made2 (w : World) (o : Obj) (t : TypeId) (cs : List Value) : Row ((w.drew.alloc o).alloc (.cells cs.toArray t)) (w.heap.size + 1) t cs := by
  have h := Row.made (w.drew.alloc o) t cs
  rw [size_a1] at h
  exact h
theorem row_made1 (w : World) (o : Obj) (t : TypeId) (cs : List Value) : Row ((w.drew.alloc (.cells cs.toArray t)).alloc o) w.heap.size t cs := (Row.made w.drew t cs).alloc o
theorem void_own2 (w : World) (o : Obj) (e : TypeId) (k b : Nat) (hb : b ≤ w.heap.size) : ((w.drew.alloc o).alloc (.cells #[] e)).ownsRow b e k (.slice (some ⟨w.heap.size + 1, 0, none⟩) 0 0) 0 [] := by
  have h := void_own (w.drew.alloc o) e k b (Nat.le_trans hb (below_a1 w o).size)
  rw [size_a1] at h
  exact h
theorem void_own1 (w : World) (o : Obj) (e : TypeId) (k b : Nat) (hb : b ≤ w.heap.size) : ((w.drew.alloc (.cells #[] e)).alloc o).ownsRow b e k (.slice (some ⟨w.heap.size, 0, none⟩) 0 0) 0 [] := (void_own w.drew e k b hb).alloc o
theorem ne_self_succ (n : Nat) : some (n + 1) ≠ some n := fun h => by injection h with h; omega
theorem ne_succ_self (n : Nat) : some n ≠ some (n + 1) := fun h => by injection h with h; omega
theorem foot_all {g n : Nat} {v1 v2 v3 v4 : Value} {F : List Nat} (hg : g ∈ F ∨ n ≤ g) (h1 : ∀ q, v1.ownBlock = some q → q ∈ F ∨ n ≤ q) (h2 : ∀ q, v2.ownBlock = some q → q ∈ F ∨ n ≤ q) (h3 : ∀ q, v3.ownBlock = some q → q ∈ F ∨ n ≤ q) (h4 : ∀ q, v4.ownBlock = some q → q ∈ F ∨ n ≤ q) :
    ∀ x ∈ foot g v1 v2 v3 v4, x ∈ F ∨ n ≤ x := by
  intro x hx
  unfold foot at hx
  rcases List.mem_cons.1 hx with rfl | hx
  · exact hg
  · obtain ⟨v, hv, hy⟩ := List.mem_filterMap.1 hx
    simp at hv
    rcases hv with rfl | rfl | rfl | rfl
    · exact h1 x hy
    · exact h2 x hy
    · exact h3 x hy
    · exact h4 x hy
end Go.Proofs.Ytnajlineipapdaa
/- The reference's disk: Read. Conditions: the disk lies there. -/
set_option linter.unusedVariables false
namespace Go.Proofs.Ytnajlineipapdaa
open Go.RowKit

section
variable {b : Nat} {w : World} {g : Nat} {v1 v2' v3 v4 : Value} {ss : List BV} {rs al : List (Nat × BV)} {ts : List (Int × Int × BV)}
theorem dread_out (h : RDisk b w g v1 v2' v3 v4 ss rs al ts) (z : Int) (hz : z < 0 ∨ (ss.length : Int) ≤ z) :
    Calls Try.prog 14 #[.pointer (some ⟨g, 0, none⟩), .int .i64 z] w fun e w' => e = .returned (.tuple #[.slice none 0 0, .int .i64 201]) ∧ w' = w := by
  have H := Lib.hid h
  have HZ := Lib.hid hz
  clear h hz
  go_enter Try.func14, Try.ntmps14
  go_wp2_with (go_at_call 42; refine (has_out H.out z HZ.out).mono ?_; rintro x w1 ⟨rfl, rfl⟩)
  go_ret2
  exact ⟨rfl, rfl⟩
set_option maxHeartbeats 1000000 in
theorem dread_in (h : RDisk b w g v1 v2' v3 v4 ss rs al ts) (a : Nat) (ha : a < ss.length) (hr : rs.length ≤ 1000000) (ht : ts.length ≤ 1000000) :
    Calls Try.prog 14 #[.pointer (some ⟨g, 0, none⟩), .int .i64 (a : Int)] w fun e w' => ∃ v, e = .returned (.tuple #[bvv (nowV ss rs a), .int .i64 0]) ∧
      RDisk b w' g v1 v2' v3 v ss rs al (ts ++ [(1, (a : Int), nowV ss rs a)]) ∧ Chg (foot g v1 v2' v3 v4) w w' ∧ (v.ownBlock = v4.ownBlock ∨ ∃ k, v.ownBlock = some k ∧ w.heap.size ≤ k) := by
  have H := Lib.hid h
  have HA := Lib.hid ha
  have HRL := Lib.hid hr
  have HTL := Lib.hid ht
  have HN := Lib.hid (p := Own8 b w (nowV ss rs a)) (nowK_mem ss rs a ha (Own8 b w) (fun x hx => (h.m1 x hx).1) (fun p hp => (h.m2 p hp).1) _)
  have c3 := h.c3
  have f3 : w.frozen? ⟨g, 3, none⟩ = false := h.cells.free 3
  obtain ⟨nv, hnv⟩ : ∃ nv, nowV ss rs a = nv := ⟨_, rfl⟩
  have HNV := Lib.hid hnv
  rw [hnv] at HN ⊢
  clear h ha hr ht hnv
  go_enter Try.func14, Try.ntmps14
  go_wp2_with (go_at_call 42; refine (has_in H.out a HA.out).mono ?_; rintro x w1 ⟨rfl, hw1⟩; obtain rfl := hw1.symm)
  have HD := Lib.hid (H.out.kept (below_drw w))
  have c3a : ∀ o : Obj, (w.alloc o).cell? ⟨g, 3, none⟩ = some v4 := fun o => (World.cell?_alloc_past _ _ _ H.out.cells.lt).trans c3
  go_region_law (first
    | (refine step_join rfl _ _ rfl rec_touch b v4 ts.length (ts.flatMap tc) rfl (HD.out.o4.alloc _) (some ⟨w.heap.size, 0, none⟩) 1 1 (tc (1, (a : Int), nv)) rfl rfl (touch_src w.drew _) (tc_one _) (by have := HTL.out; omega) (by have := H.out.lo; have := H.out.cells.lt; simp; omega) ?_
       intro v5 w2 hr2 hg2 hat2
       obtain ⟨A2, k2, rfl⟩ := own_sl hr2
       have hR2 : Row w2 g 49 [v1, v2', v3, v4] := (HD.out.cells.alloc _).grown hg2 (fun e0 => HD.out.ne.2.2.2 e0.symm)
       have c32 := hR2.cell 3
       have f32 := hR2.free 3
       simp at c32)
    | (go_simp; go_at_call 30; refine (now_any HD.out a HA.out HRL.out).mono ?_; rintro x w3 ⟨rfl, rfl⟩; rw [HNV.out]; unfold bvv))
  all_goals
    have hBA : Below w.heap.size w (w.drew.alloc (.cells (tc (1, (a : Int), nv)).toArray 77)) := (below_drw w).alloc (Nat.le_refl _) _
    obtain ⟨hD3, hC3⟩ := RDisk.touch (H.out.kept hBA) (1, (a : Int), nv) (HN.out.below hBA) hr2 hg2
    have HD3 := Lib.hid hD3
    have HC3 := Lib.hid ((Chg.of (F := foot g v1 v2' v3 v4) hBA).trans hC3 (fun x hx => .inl hx))
    have HT3 := Lib.hid hat2
    have HSA := Lib.hid hBA.size
    clear hD3 hC3 hBA hr2 hg2 hat2 hR2 c32 f32 c3a c3 f3
    go_wp2_with (go_at_call 30; refine (now_any HD3.out a HA.out HRL.out).mono ?_; rintro x w3 ⟨rfl, rfl⟩; rw [HNV.out]; unfold bvv)
    go_ret2
    refine ⟨_, rfl, HD3.out, HC3.out, ?_⟩
    rcases HT3.out with e0 | e0
    · exact .inl e0
    · exact .inr ⟨_, e0, HSA.out⟩
end
end Go.Proofs.Ytnajlineipapdaa
