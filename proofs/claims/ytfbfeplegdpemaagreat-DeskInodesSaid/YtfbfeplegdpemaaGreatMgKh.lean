/- Changes: what was put, by rising slots. Conditions: the view lies there. -/
import Derived.Test.YtfbfeplegdpemaaGreatMgKf
import Derived.Test.YtfbfeplegdpemaaGreatMgRBy
import Derived.Test.YtfbfeplegdpemaaGreatChecked
import Derived.Laws.ResultCell
import Derived.Laws.StructEq
import Derived.StillTailTactics
import Derived.Deep.QuietTactic
import Derived.BigQuiet
set_option linter.unusedVariables false
set_option maxRecDepth 20000
namespace Go.Proofs.YtfbfeplegdpemaaGreat
open Go.RowKit

/-- Changes as they lie. -/
structure PutsAt (w : World) (A : Option Addr) (ps : List (Int × BV)) : Prop where
  lies : Lies pcs 2 w A ps
  hol : ∀ p ∈ ps, Hol w p.2.A p.2.l
  len : ∀ p ∈ ps, p.2.l.length ≤ 131072
  lim : ps.length ≤ 1000
theorem PutsAt.below {w w' : World} {A : Option Addr} {ps : List (Int × BV)} (h : PutsAt w A ps) (hb : Below w.heap.size w w') : PutsAt w' A ps := ⟨h.lies.below hb, fun p hp => (h.hol p hp).below hb, h.len, h.lim⟩
/-- Changes, by slots and bytes. -/
def chL (ps : List (Int × BV)) : List (Int × List UInt8) := ps.map fun p => (p.1, p.2.l)
/-- They are those of C, by rising slots. -/
structure ChOf (C : Int → Option (List UInt8)) (cs : List (Int × List UInt8)) : Prop where
  lt : cs.Pairwise (fun x y => x.1 < y.1)
  mem : ∀ s l, (s, l) ∈ cs ↔ C s = some l
def byL (C : Int → Option BV) : Int → Option (List UInt8) := fun a => (C a).map (·.l)
theorem ChOf.one {C : Int → Option (List UInt8)} : ∀ {a b : List (Int × List UInt8)}, ChOf C a → ChOf C b → a = b := by
  suffices H : ∀ (a b : List (Int × List UInt8)), a.Pairwise (fun x y => x.1 < y.1) → b.Pairwise (fun x y => x.1 < y.1) → (∀ p, p ∈ a ↔ p ∈ b) → a = b from
    fun {a b} ha hb => H a b ha.lt hb.lt (fun p => by rw [show p = (p.1, p.2) from rfl, ha.mem, hb.mem])
  intro a
  induction a with
  | nil =>
    intro b _ _ h
    cases b with
    | nil => rfl
    | cons y b => have := (h y).2 (by simp); simp at this
  | cons x a ih =>
    intro b ha hb h
    cases b with
    | nil => have := (h x).1 (by simp); simp at this
    | cons y b =>
      obtain ⟨ha1, ha2⟩ := List.pairwise_cons.1 ha
      obtain ⟨hb1, hb2⟩ := List.pairwise_cons.1 hb
      have hxy : x = y := by
        have h1 := (h x).1 (by simp)
        have h2 := (h y).2 (by simp)
        rcases List.mem_cons.1 h1 with e | h1
        · exact e
        · rcases List.mem_cons.1 h2 with e | h2
          · exact e.symm
          · have := hb1 x h1
            have := ha1 y h2
            omega
      subst hxy
      rw [ih b ha2 hb2]
      intro z
      constructor
      · intro hz
        have := ha1 z hz
        rcases List.mem_cons.1 ((h z).1 (by simp [hz])) with e | e
        · subst e
          omega
        · exact e
      · intro hz
        have := hb1 z hz
        rcases List.mem_cons.1 ((h z).2 (by simp [hz])) with e | e
        · subst e
          omega
        · exact e
theorem chof_keys {C : Int → Option BV} {n : Nat} {ks : List Int} (hk : Keys C n ks) {ps : List (Int × BV)} (h1 : ps.map (·.1) = ks) (h2 : ∀ p ∈ ps, ∃ x, C p.1 = some x ∧ x.l = p.2.l) : ChOf (byL C) (chL ps) := by
  refine ⟨?_, fun s l => ?_⟩
  · have := hk.lt
    rw [← h1, List.pairwise_map] at this
    unfold chL
    rw [List.pairwise_map]
    exact this
  · unfold chL byL
    rw [List.mem_map]
    constructor
    · rintro ⟨p, hp, e⟩
      obtain ⟨x, hx, hl⟩ := h2 p hp
      injection e with e1 e2
      rw [← e1, hx, ← e2, ← hl]
      rfl
    · intro h
      obtain ⟨x, hx, rfl⟩ := Option.map_eq_some_iff.1 h
      have hm := (hk.mem s).2 (by rw [hx]; rfl)
      rw [← h1, List.mem_map] at hm
      obtain ⟨p, hp, rfl⟩ := hm
      obtain ⟨y, hy, hl⟩ := h2 p hp
      rw [hx] at hy
      injection hy with hy
      subst hy
      exact ⟨p, hp, by rw [hl]⟩
theorem built_put (a : Int) (A : Option Addr) (n c : Nat) : Tryz.prog.built 70 [(0, .int .i64 a), (1, .slice A n c)] = some #[.int .i64 a, .slice A n c] := by kernel_rfl
section
variable {b : Nat} {w w' : World} {gv gm gs : Nat} {rp : Option Addr} {n : Nat} {C : Int → Option BV}
/-- What Changes leaves. -/
def ChP (w : World) (C : Int → Option BV) (e : Ending) (w' : World) : Prop := ∃ ps A c, e = .returned (.slice A ps.length c) ∧ Hid (ChOf (byL C) (chL ps)) ∧ Hid (PutsAt w' A ps) ∧ Hid (Below w.heap.size w w')
/-- .. all of the call's own. -/
def ChP2 (w : World) (C : Int → Option BV) (e : Ending) (w' : World) : Prop := ∃ ps A c, e = .returned (.slice A ps.length c) ∧ Hid (ChOf (byL C) (chL ps)) ∧ Hid (PutsAt w' A ps) ∧ Hid (Below w.heap.size w w') ∧ Hid (w'.ownsRow w.heap.size 70 2 (.slice A ps.length c) ps.length (ps.flatMap pcs) ∧ ∀ p ∈ ps, Own8 w.heap.size w' p.2)
set_option maxHeartbeats 1000000 in
theorem vchanges2 (h : VV b w gv gm gs rp n C) (hn : n ≤ 1000) : Calls Tryz.prog 30 #[.pointer (some ⟨gv, 0, none⟩)] w (ChP2 w C) := by
  have c1 := h.c1
  have HK := Lib.hid (fun W => keys_call (some gm) W)
  have HS := Lib.hid (h.map.sorted (by omega))
  have H := Lib.hid h
  have HN := Lib.hid hn
  have HBP := Lib.hid built_put
  clear h hn
  go_enter Tryz.func30, Tryz.ntmps30
  go_wp2_with (first
    | (go_at_call 66; refine (HK.out _).mono ?_; rintro e w2 ⟨rfl, rfl⟩)
    | (go_at_call 65; refine HS.out.mono ?_; rintro e w3 ⟨ks, A, c, rfl, hk, ho, hb⟩
       have HB3 := Lib.hid (below_nxt hb.out (below_al w _))
       have HL := Lib.hid (Lies.own (by decide) kcs_len ho.out)
       have HKK := hk
       clear ho hb hk))
  have hbase : w.heap.size ≤ w3.heap.size := HB3.out.size
  go_loopw [3, 13] (fun x y wr => ∃ (k : Nat) (ps : List (Int × BV)) (A' : Option Addr) (m c' : Nat), Hid (k ≤ ks.length) ∧ y = .int .i64 (k : Int) ∧ x = .slice A' m c' ∧ Hid (m = ps.length) ∧ Hid (ps.map (·.1) = ks.take k) ∧ Hid (∀ p ∈ ps, ∃ x, C p.1 = some x ∧ x.l = p.2.l) ∧ Hid (wr.ownsRow w3.heap.size 70 2 (.slice A' m c') m (ps.flatMap pcs)) ∧ Hid (∀ p ∈ ps, Own8 w3.heap.size wr p.2) ∧ Hid (Below w3.heap.size w3 wr)) (fun _ y _ => ks.length - (intOf y).toNat)
  case atStart => exact ⟨0, [], none, 0, 0, Lib.hid (Nat.zero_le _), rfl, rfl, Lib.hid rfl, Lib.hid rfl, Lib.hid (by simp), Lib.hid (World.ownsRow_nil _ _ _ _), Lib.hid (by simp), Lib.hid (Below.refl _ _)⟩
  case round =>
    clear c1
    obtain ⟨k, ps, A', m, c', HKL, rfl, rfl, HM, HPK, HPC, HO, HO8, HBR⟩ := hrel
    by_cases hk : k < ks.length
    · have hki : (k : Int) < (ks.length : Int) := by omega
      obtain ⟨g, o, rfl, hc⟩ := (HL.out.below HBR.out).at_ hk
      obtain ⟨z, hz⟩ : ∃ z, ks[k] = z := ⟨_, rfl⟩
      rw [hz] at hc
      have cz := hc 0 _ rfl
      simp only [Nat.mul_one, Nat.add_zero] at cz
      have hzs : ks[k]? = some z := by rw [List.getElem?_eq_getElem hk, hz]
      have hCz := (HKK.out.mem z).1 (by rw [← hz]; exact List.getElem_mem _)
      obtain ⟨x, hx⟩ := Option.isSome_iff_exists.1 hCz
      have HR := H.out.below (below_nxt HBR.out HB3.out)
      have c1 := HR.c1
      have hlk := HR.map.look (HR.map.i64 hCz)
      rw [hx] at hlk
      unfold bvo bvv at hlk
      simp only at hlk
      have HC8 := Lib.hid (clone8 x wr (HR.own z x hx).hol (HR.len z x hx))
      have HZ := Lib.hid hzs
      have HX := Lib.hid hx
      have HKT := Lib.hid hk
      have hkw : IntKind.i64.wrap ((k : Int) + 1) = (k : Int) + 1 := by rw [IntKind.wrap_i64]; have := HKK.out.le; have := HN.out; omega
      clear hc hz hzs hCz hx HR hk
      go_wp2_with (first
        | (go_at_call 59; refine HC8.out.mono ?_; rintro e w4 ⟨y, rfl, hy, ho, hb⟩
           have HY := hy; have HO4 := ho; have HB4 := hb; clear hy ho hb)
        | (refine step_build rfl 70 _ rfl [(0, .int .i64 z), (1, .slice y.A y.l.length y.c)] ?hv _ (HBP.out _ _ _ _) ?_; case hv => (simp [Act.eval, Act.put]))
        | (at_builtin
           refine wp_join rfl _ _ rfl rec_put w3.heap.size (.slice A' m c') m (ps.flatMap pcs) rfl ((own_kept HO.out HB4.out).alloc _) (some ⟨w4.heap.size, 0, none⟩) 1 1 (pcs (z, y)) rfl rfl (made_src w4 (pcs (z, y)) _) (pcs_one _) (by have := HM.out; have h2 := congrArg List.length HPK.out; rw [List.length_map, List.length_take] at h2; have := HKK.out.le; have := HN.out; omega) (by have := HBR.out.size; have := HB4.out.size; simp; omega) ?_
           intro v1 w5 ho1 hg1 hat1
           have hlow : w3.heap.size ≤ w4.heap.size := by have := HBR.out.size; have := HB4.out.size; omega
           obtain ⟨A1, c1', rfl, ho2, hb2⟩ := row_more (x := (z, y)) (HBR.out.trans (HB4.out.mono HBR.out.size)) hlow (own_kept HO.out HB4.out) ho1 hg1
           have HO2 := Lib.hid ho2
           have HB2 := Lib.hid hb2
           have HE2 := Lib.hid (p := ∀ p ∈ ps ++ [(z, y)], Own8 w3.heap.size w5 p.2) (fun p hp => by
             rcases List.mem_append.1 hp with hp | hp
             · exact own8_more (by decide) (own_kept HO.out HB4.out) ((HO8.out p hp).below HB4.out) hg1
             · rw [List.mem_singleton] at hp
               subst hp
               exact own8_more (by decide) (own_kept HO.out HB4.out) (HO4.out.lower HBR.out.size) hg1)
           clear ho1 hg1 hat1 ho2 hb2))
      go_roundw
      case rel =>
        refine ⟨k + 1, ps ++ [(z, y)], A1, m + 1, c1', Lib.hid HKT.out, by go_num, rfl, Lib.hid (by rw [List.length_append, HM.out]; rfl), Lib.hid ?_, Lib.hid (fun p hp => ?_), HO2, HE2, HB2⟩
        · rw [List.map_append, HPK.out, List.take_add_one, HZ.out]
          rfl
        · rcases List.mem_append.1 hp with hp | hp
          · exact HPC.out p hp
          · rw [List.mem_singleton] at hp
            subst hp
            exact ⟨x, HX.out, HY.out.symm⟩
      case measure => have := HKT.out; simp [intOf]; omega
    · have hkz : ¬ (k : Int) < (ks.length : Int) := by omega
      have hke : k = ks.length := by have := HKL.out; omega
      have HKE := Lib.hid hke
      clear hk hke
      go_wp2
      go_ret
      have hps : ps.map (·.1) = ks := by rw [HPK.out, HKE.out, List.take_length]
      obtain rfl := HM.out
      exact ⟨ps, A', c', rfl, Lib.hid (chof_keys HKK.out hps HPC.out), Lib.hid ⟨Lies.own (by decide) pcs_len HO.out, fun p hp => (HO8.out p hp).hol, fun p hp => by
        obtain ⟨x, hx, hl⟩ := HPC.out p hp
        rw [← hl]
        exact H.out.len _ _ hx, by have h3 := congrArg List.length hps; rw [List.length_map] at h3; have := HKK.out.le; have := HN.out; omega⟩, Lib.hid ((HB3.out).trans (HBR.out.mono hbase)), Lib.hid ⟨own_lower HO.out hbase, fun p hp => (HO8.out p hp).lower hbase⟩⟩
theorem vchanges (h : VV b w gv gm gs rp n C) (hn : n ≤ 1000) : Calls Tryz.prog 30 #[.pointer (some ⟨gv, 0, none⟩)] w (ChP w C) := by
  refine (vchanges2 h hn).mono ?_
  rintro e w' ⟨ps, A, c, h1, h2, h3, h4, _⟩
  exact ⟨ps, A, c, h1, h2, h3, h4⟩
end
end Go.Proofs.YtfbfeplegdpemaaGreat
/- Rows compared part by part; a row as one of several results. No conditions. -/
set_option linter.unusedVariables false
namespace Go.Proofs.YtfbfeplegdpemaaGreat
open Go.RowKit

section
variable {P : Program} (w : World)
theorem size_of {t : TypeId} {n : Nat} (h : (P.info? t).map (·.size) = some n) (w : World) : (sizeOf t).run P w = .ok n w := by
  cases hq : P.info? t with
  | none => simp [hq] at h
  | some i =>
    have hi : i.size = n := by simpa [hq] using h
    simp [sizeOf, typeInfo, hq, hi]
theorem part_int {t : TypeId} {k : IntKind} (ht : P.underlying t = some (.int k)) {cs : Array Value} {o : Nat} {v : Value} (h : cs[o]? = some v) : (part t cs o).run P w = .ok v w := by
  simp [part, isAgg, run_underlying ht, h]
theorem part_arr {t e : TypeId} {n : Nat} (ht : P.underlying t = some (.array n e)) {m : Nat} (hs : (P.info? t).map (·.size) = some m) (cs : Array Value) (o : Nat) : (part t cs o).run P w = .ok (.agg (cs.extract o (o + m))) w := by
  simp [part, isAgg, run_underlying ht, size_of hs]
/-- Two rows of parts, compared. -/
theorem run_equalIn_parts (d : Nat) (t e : TypeId) (n k : Nat) (ht : P.underlying t = some (.array n e)) (hsz : (P.info? e).map (·.size) = some k) (xs ys : Array Value) (px py : Nat → Value) (b : Nat → Bool)
    (hx : ∀ i, i < n → ∀ w, (part e xs (i * k)).run P w = .ok (px i) w) (hy : ∀ i, i < n → ∀ w, (part e ys (i * k)).run P w = .ok (py i) w) (he : ∀ i, i < n → ∀ w, (Op.equalIn d e (px i) (py i)).run P w = .ok (b i) w) :
    (Op.equalIn (d + 1) t (.agg xs) (.agg ys)).run P w = .ok ((List.range n).all b) w := by
  rw [List.range_eq_range', Op.equalIn]
  simp only [Sem.run_bind, run_underlying ht, Result.andThen_ok, size_of hsz, Std.Legacy.Range.forIn_eq_forIn_range', Std.Legacy.Range.size, Nat.sub_zero, Nat.add_sub_cancel, Nat.div_one]
  have hl : ∀ i ∈ List.range' 0 n 1, i < n := fun i hi => by simpa using (List.mem_range'_1.1 hi).2
  generalize List.range' 0 n 1 = l at hl ⊢
  induction l with
  | nil => simp
  | cons i l ih =>
    have hi : i < n := hl i (by simp)
    simp only [List.forIn_cons, Sem.run_bind, hx i hi, hy i hi, he i hi, Result.andThen_ok, List.all_cons]
    cases hb : b i
    · simp
    · simp only [Bool.not_true, Bool.false_eq_true, if_false, Sem.run_pure, Result.andThen_ok, Bool.true_and]
      exact ih fun j hj => hl j (by simp [hj])
end
section
variable {P : Program} {ops : Array Oper} {rest : List Oper} {o : Oper} {a : Act} {w : World} {Q : Exit → Act → World → Prop}
/-- A whole row, loaded, in an operation that is guarded. -/
theorem step_load_g (hw : Region.wanted o (yielded ops a.tmps) = true) (d : Tmp) (hd : o.dst = some d) (ty : TypeId) (x : Operand) (ho : o.op = .load ty x) (g : Nat) (hx : a.eval x = .pointer (some ⟨g, 0, none⟩)) (cs : List Value) (dd : TypeDesc)
    (hr : w.rangeAt g 0 cs) (hu : P.underlying ty = some dd) (hdd : dd.isRow = true) (hi : (P.info? ty).map (·.size) = some cs.length)
    (h : wpList P ops Q rest (a.put o.dst (.agg cs.toArray)) w) : wpList P ops Q (o :: rest) a w := by
  refine wpList_step fun K hK => ?_
  rw [if_pos hw]
  exact wp_load_mid ty x ho g 0 hx cs dd hr hu hdd hi (hK _ _ h)
/-- A struct, built out of parts, in an operation that is guarded. -/
theorem step_build_g (hw : Region.wanted o (yielded ops a.tmps) = true) (t : TypeId) (parts : Array (Nat × Operand)) (ho : o.op = .build t parts) (vs : List (Nat × Value)) (hv : (parts.map fun (i, x) => (i, a.eval x)).toList = vs) (cells : Array Value) (hb : P.built t vs = some cells)
    (h : wpList P ops Q rest (a.put o.dst (.agg cells)) w) : wpList P ops Q (o :: rest) a w := by
  subst hv
  refine wpList_step fun K hK => ?_
  rw [if_pos hw]
  refine wp_build t parts ho (by rw [hb]; rfl) ?_
  rw [hb]
  exact hK _ _ h
/-- Two rows of cells, compared. -/
theorem step_eql (hw : Region.wanted o (yielded ops a.tmps) = true) (t t' : TypeId) (x y : Operand) (ho : o.op = .binOp .eql t x y t') (xs ys : Array Value) (hx : a.eval x = .agg xs) (hy : a.eval y = .agg ys) (hg : P.eqGuardType P.depth t = false) (b : Bool)
    (he : ∀ w, (Op.equalIn 10000 t (.agg xs) (.agg ys)).run P w = .ok b w)
    (h : wpList P ops Q rest (a.put o.dst (.bool b)) w) : wpList P ops Q (o :: rest) a w := by
  refine wpList_step fun K hK => ?_
  rw [if_pos hw]
  unfold Oper.wp execOp
  simp only [ho, hx, hy, Sem.run_bind, run_eqGuard_agg w _ t x y xs ys hg, run_eql_struct, he, Result.andThen_ok]
  exact hK _ _ h
theorem step_neq (hw : Region.wanted o (yielded ops a.tmps) = true) (t t' : TypeId) (x y : Operand) (ho : o.op = .binOp .neq t x y t') (xs ys : Array Value) (hx : a.eval x = .agg xs) (hy : a.eval y = .agg ys) (hg : P.eqGuardType P.depth t = false) (b : Bool)
    (he : ∀ w, (Op.equalIn 10000 t (.agg xs) (.agg ys)).run P w = .ok b w)
    (h : wpList P ops Q rest (a.put o.dst (.bool (!b))) w) : wpList P ops Q (o :: rest) a w := by
  refine wpList_step fun K hK => ?_
  rw [if_pos hw]
  unfold Oper.wp execOp
  simp only [ho, hx, hy, Sem.run_bind, run_eqGuard_agg w _ t x y xs ys hg, run_neq_struct, he, Result.andThen_ok]
  exact hK _ _ h
end
section
variable {P : Program}
theorem results_row_two {fn : Func} {p u v : Tmp} {ty : TypeId} (h : fn.results = #[.cell p ty, .tmp u, .tmp v]) (tmps : Array Value) (w : World) (g : Nat) (t : TypeId) (cs : Array Value) (fr : Nat × Nat) (d : TypeDesc)
    (hp : tmps.getD p undef = .pointer (some ⟨g, 0, none⟩)) (hg : w.heap[g]? = some (.cells cs t fr))
    (hu : P.underlying ty = some d) (hd : (match d with | .struct _ | .array _ _ => true | _ => false) = true) (hi : (P.info? ty).map (·.size) = some cs.size) :
    (results fn tmps).run P w = .ok (.tuple #[.agg cs, tmps.getD u undef, tmps.getD v undef]) w := by
  have hp' : tmps[p]?.getD undef = .pointer (some ⟨g, 0, none⟩) := by simpa using hp
  simp [results, h, hp', asAddr, run_loadVar_row w g t ty cs fr d hg hu hd hi]
theorem results_row_tmp {fn : Func} {p u : Tmp} {ty : TypeId} (h : fn.results = #[.cell p ty, .tmp u]) (tmps : Array Value) (w : World) (g : Nat) (t : TypeId) (cs : Array Value) (fr : Nat × Nat) (d : TypeDesc)
    (hp : tmps.getD p undef = .pointer (some ⟨g, 0, none⟩)) (hg : w.heap[g]? = some (.cells cs t fr))
    (hu : P.underlying ty = some d) (hd : (match d with | .struct _ | .array _ _ => true | _ => false) = true) (hi : (P.info? ty).map (·.size) = some cs.size) :
    (results fn tmps).run P w = .ok (.tuple #[.agg cs, tmps.getD u undef]) w := by
  rw [results_cell_tmp h tmps P w, hp]
  simp [asAddr, run_loadVar_row w g t ty cs fr d hg hu hd hi]
end
end Go.Proofs.YtfbfeplegdpemaaGreat
/- A super's cells; what a change of one of its parts makes of them; when two are the same. No conditions. -/
set_option linter.unusedVariables false
set_option maxRecDepth 20000
namespace Go.Proofs.YtfbfeplegdpemaaGreat
open Go.RowKit

/-- A super: the next serial, the used slots, the inodes' slots, the orphans. -/
structure Sup where
  s : Nat
  u : Nat → Bool
  i : Nat → Int
  o : Nat → Bool
def bls (n : Nat) (f : Nat → Bool) : List Value := (List.range n).map fun j => .bool (f j)
def inl (n : Nat) (f : Nat → Int) : List Value := (List.range n).map fun j => .int .i64 (f j)
theorem bls_len (n : Nat) (f : Nat → Bool) : (bls n f).length = n := by simp [bls]
theorem inl_len (n : Nat) (f : Nat → Int) : (inl n f).length = n := by simp [inl]
theorem bls_get {n j : Nat} (f : Nat → Bool) (h : j < n) : (bls n f)[j]? = some (.bool (f j)) := by simp [bls, h]
theorem inl_get {n j : Nat} (f : Nat → Int) (h : j < n) : (inl n f)[j]? = some (.int .i64 (f j)) := by simp [inl, h]
def Sup.cs (x : Sup) : List Value := .int .u64 (x.s : Int) :: (bls 256 x.u ++ (inl 65 x.i ++ bls 65 x.o))
theorem Sup.cs_len (x : Sup) : x.cs.length = 387 := by simp [Sup.cs, bls_len, inl_len]
theorem Sup.cs_get (x : Sup) (k : Nat) : x.cs[k]? = if k = 0 then some (.int .u64 x.s) else if k < 257 then some (.bool (x.u (k - 1))) else if k < 322 then some (.int .i64 (x.i (k - 257))) else if k < 387 then some (.bool (x.o (k - 322))) else none := by
  cases k with
  | zero => rfl
  | succ k =>
    unfold Sup.cs
    rw [List.getElem?_cons_succ, if_neg (by omega)]
    by_cases h1 : k < 256
    · rw [List.getElem?_append_left (by rw [bls_len]; exact h1), bls_get _ h1, if_pos (by omega)]
      rfl
    · rw [List.getElem?_append_right (by rw [bls_len]; omega), bls_len, if_neg (by omega)]
      by_cases h2 : k < 321
      · rw [List.getElem?_append_left (by rw [inl_len]; omega), inl_get _ (by omega), if_pos (by omega), show k + 1 - 257 = k - 256 by omega]
      · rw [List.getElem?_append_right (by rw [inl_len]; omega), inl_len, if_neg (by omega)]
        by_cases h3 : k < 386
        · rw [bls_get _ (by omega), if_pos (by omega), show k - 256 - 65 = k + 1 - 322 by omega]
        · rw [List.getElem?_eq_none (by rw [bls_len]; omega), if_neg (by omega)]
theorem Sup.c_s (x : Sup) : x.cs[0]? = some (.int .u64 x.s) := rfl
theorem Sup.c_u (x : Sup) {j : Nat} (h : j < 256) : x.cs[1 + j]? = some (.bool (x.u j)) := by
  rw [x.cs_get, if_neg (by omega), if_pos (by omega), show 1 + j - 1 = j by omega]
theorem Sup.c_i (x : Sup) {j : Nat} (h : j < 65) : x.cs[257 + j]? = some (.int .i64 (x.i j)) := by
  rw [x.cs_get, if_neg (by omega), if_neg (by omega), if_pos (by omega), show 257 + j - 257 = j by omega]
theorem Sup.c_o (x : Sup) {j : Nat} (h : j < 65) : x.cs[322 + j]? = some (.bool (x.o j)) := by
  rw [x.cs_get, if_neg (by omega), if_neg (by omega), if_neg (by omega), if_pos (by omega), show 322 + j - 322 = j by omega]
theorem Sup.cs_one (x : Sup) : ∀ v ∈ x.cs, v.oneCell' = true := by
  intro v hv
  unfold Sup.cs at hv
  rcases List.mem_cons.1 hv with rfl | hv
  · rfl
  · rcases List.mem_append.1 hv with hv | hv
    · obtain ⟨_, _, rfl⟩ := List.mem_map.1 hv
      rfl
    · rcases List.mem_append.1 hv with hv | hv
      · obtain ⟨_, _, rfl⟩ := List.mem_map.1 hv
        rfl
      · obtain ⟨_, _, rfl⟩ := List.mem_map.1 hv
        rfl
def at1 {α : Type} (f : Nat → α) (j : Nat) (v : α) : Nat → α := fun k => if k = j then v else f k
theorem at1_same {α : Type} (f : Nat → α) (j : Nat) (v : α) : at1 f j v j = v := if_pos rfl
theorem at1_other {α : Type} (f : Nat → α) {j k : Nat} (v : α) (h : k ≠ j) : at1 f j v k = f k := if_neg h
def Sup.setU (x : Sup) (j : Nat) (b : Bool) : Sup := ⟨x.s, at1 x.u j b, x.i, x.o⟩
def Sup.setI (x : Sup) (j : Nat) (v : Int) : Sup := ⟨x.s, x.u, at1 x.i j v, x.o⟩
def Sup.setO (x : Sup) (j : Nat) (b : Bool) : Sup := ⟨x.s, x.u, x.i, at1 x.o j b⟩
def Sup.setS (x : Sup) (n : Nat) : Sup := ⟨n, x.u, x.i, x.o⟩
theorem Sup.set_s (x : Sup) (n : Nat) : x.cs.set 0 (.int .u64 n) = (x.setS n).cs := rfl
theorem Sup.set_u (x : Sup) {j : Nat} (b : Bool) (h : j < 256) : x.cs.set (1 + j) (.bool b) = (x.setU j b).cs := by
  apply List.ext_getElem?
  intro k
  rw [List.getElem?_set, Sup.cs_len, Sup.cs_get, Sup.cs_get]
  by_cases hk : 1 + j = k
  · subst hk
    rw [if_pos rfl, if_pos (by omega), if_neg (by omega), if_pos (by omega), show 1 + j - 1 = j by omega]
    exact congrArg (fun z => some (Value.bool z)) (at1_same x.u j b).symm
  · rw [if_neg hk]
    by_cases h0 : k = 0
    · rw [if_pos h0, if_pos h0]; rfl
    · by_cases h1 : k < 257
      · rw [if_neg h0, if_neg h0, if_pos h1, if_pos h1]
        exact congrArg (fun z => some (Value.bool z)) (at1_other x.u b (by omega)).symm
      · rw [if_neg h0, if_neg h0, if_neg h1, if_neg h1]; rfl
theorem Sup.set_i (x : Sup) {j : Nat} (v : Int) (h : j < 65) : x.cs.set (257 + j) (.int .i64 v) = (x.setI j v).cs := by
  apply List.ext_getElem?
  intro k
  rw [List.getElem?_set, Sup.cs_len, Sup.cs_get, Sup.cs_get]
  by_cases hk : 257 + j = k
  · subst hk
    rw [if_pos rfl, if_pos (by omega), if_neg (by omega), if_neg (by omega), if_pos (by omega), show 257 + j - 257 = j by omega]
    exact congrArg (fun z => some (Value.int .i64 z)) (at1_same x.i j v).symm
  · rw [if_neg hk]
    by_cases h0 : k = 0
    · rw [if_pos h0, if_pos h0]; rfl
    · by_cases h1 : k < 257
      · rw [if_neg h0, if_neg h0, if_pos h1, if_pos h1]; rfl
      · by_cases h2 : k < 322
        · rw [if_neg h0, if_neg h0, if_neg h1, if_neg h1, if_pos h2, if_pos h2]
          exact congrArg (fun z => some (Value.int .i64 z)) (at1_other x.i v (by omega)).symm
        · rw [if_neg h0, if_neg h0, if_neg h1, if_neg h1, if_neg h2, if_neg h2]; rfl
theorem Sup.set_o (x : Sup) {j : Nat} (b : Bool) (h : j < 65) : x.cs.set (322 + j) (.bool b) = (x.setO j b).cs := by
  apply List.ext_getElem?
  intro k
  rw [List.getElem?_set, Sup.cs_len, Sup.cs_get, Sup.cs_get]
  by_cases hk : 322 + j = k
  · subst hk
    rw [if_pos rfl, if_pos (by omega), if_neg (by omega), if_neg (by omega), if_neg (by omega), if_pos (by omega), show 322 + j - 322 = j by omega]
    exact congrArg (fun z => some (Value.bool z)) (at1_same x.o j b).symm
  · rw [if_neg hk]
    by_cases h0 : k = 0
    · rw [if_pos h0, if_pos h0]; rfl
    · by_cases h1 : k < 257
      · rw [if_neg h0, if_neg h0, if_pos h1, if_pos h1]; rfl
      · by_cases h2 : k < 322
        · rw [if_neg h0, if_neg h0, if_neg h1, if_neg h1, if_pos h2, if_pos h2]; rfl
        · rw [if_neg h0, if_neg h0, if_neg h1, if_neg h1, if_neg h2, if_neg h2]
          by_cases h3 : k < 387
          · rw [if_pos h3, if_pos h3]
            exact congrArg (fun z => some (Value.bool z)) (at1_other x.o b (by omega)).symm
          · rw [if_neg h3, if_neg h3]
/-- A super that has nothing. -/
def sup0 : Sup := ⟨0, fun _ => false, fun _ => 0, fun _ => false⟩
theorem info_sup : (Tryz.prog.info? 59).map (·.size) = some 387 := by kernel_rfl
theorem info_u : (Tryz.prog.info? 55).map (·.size) = some 256 := by kernel_rfl
theorem info_i : (Tryz.prog.info? 56).map (·.size) = some 65 := by kernel_rfl
theorem info_o : (Tryz.prog.info? 57).map (·.size) = some 65 := by kernel_rfl
theorem info_bool : (Tryz.prog.info? 4).map (·.size) = some 1 := by kernel_rfl
theorem info_int : (Tryz.prog.info? 3).map (·.size) = some 1 := by kernel_rfl
theorem info_cs (x : Sup) : (Tryz.prog.info? 59).map (·.size) = some x.cs.length := by rw [x.cs_len]; exact info_sup
theorem zero_sup (w : World) : (zeroValue 59).run Tryz.prog w = .ok (.agg sup0.cs.toArray) w := by kernel_rfl
theorem built_sup0 : Tryz.prog.built 59 [] = some sup0.cs.toArray := by kernel_rfl
/-- Whether two supers are the same. -/
def Sup.eqb (x y : Sup) : Bool := (x.s : Int) == (y.s : Int) && ((List.range 256).all (fun j => x.u j == y.u j) && ((List.range 65).all (fun j => x.i j == y.i j) && (List.range 65).all fun j => x.o j == y.o j))
theorem Sup.eqb_iff (x y : Sup) : x.eqb y = true ↔ x.s = y.s ∧ (∀ j, j < 256 → x.u j = y.u j) ∧ (∀ j, j < 65 → x.i j = y.i j) ∧ ∀ j, j < 65 → x.o j = y.o j := by
  unfold Sup.eqb
  simp only [Bool.and_eq_true, List.all_eq_true, List.mem_range, beq_iff_eq]
  constructor
  · rintro ⟨h1, h2, h3, h4⟩
    exact ⟨by omega, h2, h3, h4⟩
  · rintro ⟨h1, h2, h3, h4⟩
    exact ⟨by omega, h2, h3, h4⟩
theorem Sup.cs_eq {x y : Sup} (h : x.eqb y = true) : x.cs = y.cs := by
  obtain ⟨h1, h2, h3, h4⟩ := (x.eqb_iff y).1 h
  unfold Sup.cs bls inl
  rw [h1]
  congr 1
  congr 1
  · exact List.map_congr_left fun j hj => by rw [h2 j (List.mem_range.1 hj)]
  · congr 1
    · exact List.map_congr_left fun j hj => by rw [h3 j (List.mem_range.1 hj)]
    · exact List.map_congr_left fun j hj => by rw [h4 j (List.mem_range.1 hj)]
theorem Sup.u_part (x : Sup) : (x.cs.toArray).extract 1 257 = (bls 256 x.u).toArray := by
  apply Array.ext'
  simp only [List.extract_toArray, List.extract_eq_take_drop, Sup.cs, List.drop_succ_cons, List.drop_zero]
  exact List.take_left' (bls_len _ _)
theorem Sup.i_part (x : Sup) : (x.cs.toArray).extract 257 322 = (inl 65 x.i).toArray := by
  apply Array.ext'
  simp only [List.extract_toArray, List.extract_eq_take_drop, Sup.cs, List.drop_succ_cons]
  rw [List.drop_left' (bls_len _ _)]
  exact List.take_left' (inl_len _ _)
theorem Sup.o_part (x : Sup) : (x.cs.toArray).extract 322 387 = (bls 65 x.o).toArray := by
  apply Array.ext'
  simp only [List.extract_toArray, List.extract_eq_take_drop, Sup.cs, List.drop_succ_cons]
  rw [← List.append_assoc, List.drop_left' (by rw [List.length_append, bls_len, inl_len])]
  exact List.take_of_length_le (by rw [bls_len]; exact Nat.le_refl _)
theorem eq_bls (d n : Nat) (t : TypeId) (hu : Tryz.prog.underlying t = some (.array n 4)) (f g : Nat → Bool) (w : World) : (Op.equalIn (d + 2) t (.agg (bls n f).toArray) (.agg (bls n g).toArray)).run Tryz.prog w = .ok ((List.range n).all fun j => f j == g j) w :=
  run_equalIn_parts w (d + 1) t 4 n 1 hu info_bool _ _ (fun j => .bool (f j)) (fun j => .bool (g j)) (fun j => f j == g j)
    (fun j hj w => by
      have h := bls_get f hj
      simp [part, isAgg, run_underlying Tryz.underlying4, h])
    (fun j hj w => by
      have h := bls_get g hj
      simp [part, isAgg, run_underlying Tryz.underlying4, h])
    (fun j hj w => run_equalIn_bool w d _ _ _ Tryz.underlying4)
theorem eq_inl (d n : Nat) (t : TypeId) (hu : Tryz.prog.underlying t = some (.array n 3)) (f g : Nat → Int) (w : World) : (Op.equalIn (d + 2) t (.agg (inl n f).toArray) (.agg (inl n g).toArray)).run Tryz.prog w = .ok ((List.range n).all fun j => f j == g j) w :=
  run_equalIn_parts w (d + 1) t 3 n 1 hu info_int _ _ (fun j => .int .i64 (f j)) (fun j => .int .i64 (g j)) (fun j => f j == g j)
    (fun j hj w => by
      have h := inl_get f hj
      simp [part, isAgg, run_underlying Tryz.underlying3, h])
    (fun j hj w => by
      have h := inl_get g hj
      simp [part, isAgg, run_underlying Tryz.underlying3, h])
    (fun j hj w => run_equalIn_int (P := Tryz.prog) w d _ .i64 .i64 _ _ Tryz.underlying3)
theorem sup_fields : ((Tryz.prog.fieldsOf 59).toList.map fun f => (f.name, f.type, f.offset)) = [("Serial", 35, 0), ("Used", 55, 1), ("Inodes", 56, 257), ("Orphans", 57, 322)] := by kernel_rfl
theorem sup_guard : Tryz.prog.eqGuardType Tryz.prog.depth 59 = false := by kernel_rfl
theorem sup_held : Tryz.prog.stoodInHeld 59 = false := by kernel_rfl
/-- Two supers, compared. -/
theorem eq_sup (d : Nat) (x y : Sup) (w : World) : (Op.equalIn (d + 3) 59 (.agg x.cs.toArray) (.agg y.cs.toArray)).run Tryz.prog w = .ok (x.eqb y) w := by
  have hu : Tryz.prog.underlying 59 = some (.struct (Tryz.prog.fieldsOf 59)) := by kernel_rfl
  rw [run_equalIn_struct w (d + 2) _ _ _ hu sup_held]
  have hf := sup_fields
  generalize (Tryz.prog.fieldsOf 59).toList = fs at hf
  rcases fs with _ | ⟨f0, _ | ⟨f1, _ | ⟨f2, _ | ⟨f3, _ | ⟨f4, t⟩⟩⟩⟩⟩ <;> simp only [List.map_cons, List.map_nil, List.cons.injEq, Prod.mk.injEq, and_true, reduceCtorEq, and_false, false_and] at hf
  obtain ⟨⟨n0, t0, o0⟩, ⟨n1, t1, o1⟩, ⟨n2, t2, o2⟩, n3, t3, o3⟩ := hf
  have h0 := fun w => run_equalIn_int (P := Tryz.prog) w (d + 1) 35 .u64 .u64 (x.s : Int) (y.s : Int) Tryz.underlying35
  have h1 := fun w => eq_bls d 256 55 Tryz.underlying55 x.u y.u w
  have h2 := fun w => eq_inl d 65 56 Tryz.underlying56 x.i y.i w
  have h3 := fun w => eq_bls d 65 57 Tryz.underlying57 x.o y.o w
  have p0 := fun (z : Sup) w => part_int (P := Tryz.prog) w Tryz.underlying35 (cs := z.cs.toArray) (o := 0) (v := .int .u64 (z.s : Int)) rfl
  have p1 := fun (z : Sup) w => part_arr (P := Tryz.prog) w Tryz.underlying55 info_u z.cs.toArray 1
  have p2 := fun (z : Sup) w => part_arr (P := Tryz.prog) w Tryz.underlying56 info_i z.cs.toArray 257
  have p3 := fun (z : Sup) w => part_arr (P := Tryz.prog) w Tryz.underlying57 info_o z.cs.toArray 322
  simp only [show 1 + 256 = 257 from rfl, Sup.u_part] at p1
  simp only [show 257 + 65 = 322 from rfl, Sup.i_part] at p2
  simp only [show 322 + 65 = 387 from rfl, Sup.o_part] at p3
  unfold Sup.eqb
  generalize ((x.s : Int) == (y.s : Int)) = b0 at h0 ⊢
  generalize ((List.range 256).all fun j => x.u j == y.u j) = b1 at h1 ⊢
  generalize ((List.range 65).all fun j => x.i j == y.i j) = b2 at h2 ⊢
  generalize ((List.range 65).all fun j => x.o j == y.o j) = b3 at h3 ⊢
  simp only [Op.eqFields, n0, t0, o0, n1, t1, o1, n2, t2, o2, n3, t3, o3, Sem.run_bind, Sem.run_ite, p0, p1, p2, p3, h0, h1, h2, h3, Result.andThen_ok, Sem.run_pure]
  cases b0 <;> cases b1 <;> cases b2 <;> cases b3 <;> simp
end Go.Proofs.YtfbfeplegdpemaaGreat
/- Package grant: which slots and inodes are numbers of one, a slot taken, given. No conditions but those named. -/
set_option linter.unusedVariables false
set_option maxRecDepth 20000
namespace Go.Proofs.YtfbfeplegdpemaaGreat
open Go.RowKit

theorem wp_min {P : Program} {w : World} {ops : Array Oper} {rest : List Oper} {o : Oper} {a : Act} {Q : Exit → Act → World → Prop} (hgd : o.guard = none) (s x : Operand) (ts : Array TypeId) (ho : o.op = .call { callee := .builtin .min, args := #[s, x], argTypes := ts })
    (p q m : Int) (hs : a.eval s = .int .i64 p) (hx : a.eval x = .int .i64 q) (hm : (if q < p then q else p) = m) (h : wpList P ops Q rest (a.put o.dst (.int .i64 m)) w) : wpList P ops Q (o :: rest) a w := by
  refine wpList_plain hgd fun K hK => ?_
  subst hm
  unfold Oper.wp execOp
  simp only [ho, resolve, invoke, builtin, Sem.run_bind, Sem.run_pure, Result.andThen_ok, List.map_toArray, List.map_cons, List.map_nil, hs, hx, run_min_int2]
  exact hK _ _ h

theorem isslot_any (z : Int) (w : World) : Calls Tryz.prog 112 #[.int .i64 z] w fun e w' => e = .returned (.bool (decide (0 ≤ z) && decide (z < 256))) ∧ w = w' := by
  by_cases h0 : 0 ≤ z
  · rw [decide_eq_true h0, Bool.true_and]
    go_enter Tryz.func112, Tryz.ntmps112
    go_wp2
    go_ret
    exact ⟨rfl, rfl⟩
  · rw [decide_eq_false h0, Bool.false_and]
    go_enter Tryz.func112, Tryz.ntmps112
    go_wp2
    go_ret
    exact ⟨rfl, rfl⟩
theorem isino_any (z : Int) (w : World) : Calls Tryz.prog 87 #[.int .i64 z] w fun e w' => e = .returned (.bool (decide (1 ≤ z) && decide (z ≤ 64))) ∧ w = w' := by
  by_cases h0 : 1 ≤ z
  · rw [decide_eq_true h0, Bool.true_and]
    go_enter Tryz.func87, Tryz.ntmps87
    go_wp2
    go_ret
    exact ⟨rfl, rfl⟩
  · rw [decide_eq_false h0, Bool.false_and]
    go_enter Tryz.func87, Tryz.ntmps87
    go_wp2
    go_ret
    exact ⟨rfl, rfl⟩
/-- Behind a row that was stored into a block of the call's own. -/
theorem below_own {w w1 w2 : World} {g : Nat} (h : Below w.heap.size w w1) (hg : w1.grownBy w2 (some g)) (hq : w.heap.size ≤ g) : Below w.heap.size w w2 := h.grown hg h.size (fun q e => by injection e with e; subst e; exact hq)
theorem take_ok (x : Sup) (z : Int) (k : Nat) (hk : k < 256) (hz : (k : Int) < z) (hu : x.u k = false) (hb : ∀ j, j < k → x.u j = true) (w : World) : Calls Tryz.prog 72 #[.agg x.cs.toArray, .int .i64 z] w fun e w' => e = .returned (.tuple #[.agg (x.setU k true).cs.toArray, .int .i64 (k : Int), .int .i64 0]) ∧ Below w.heap.size w w' := by
  obtain ⟨m, hm⟩ : ∃ m : Int, (if (256 : Int) < z then 256 else z) = m := ⟨_, rfl⟩
  have hkm : (k : Int) < m := by rw [← hm]; split <;> omega
  have HM := Lib.hid hm
  have HK := Lib.hid hk
  have HU := Lib.hid hu
  have HUB := Lib.hid hb
  have HKM := Lib.hid hkm
  have i1 := Lib.hid (fun x : Sup => info_cs x)
  have hz0 := Lib.hid zero_sup
  clear hm hk hz hu hb hkm
  go_enter Tryz.func72, Tryz.ntmps72
  go_wp2_with (first
    | (refine step_box rfl 2 rfl 59 (.tmp 0) rfl x.cs rfl ?_; intro g2 w2 hr2 hg2 hb2 hs2
       have R2 := Lib.hid hr2
       have HB2 := Lib.hid hb2
       have Q2 := Lib.hid (p := w.heap.size ≤ g2) (by rw [hg2.out]; exact Nat.le_refl _)
       clear hr2 hb2 hg2 hs2)
    | (refine step_alloc rfl 4 rfl 59 rfl _ hz0.out ?_; intro g4 w4 hr4 hg4 hb4 hs4
       have R4 := Lib.hid hr4
       have R24 := Lib.hid (R2.out.kept hb4)
       have HB4 := Lib.hid (below_nxt hb4 HB2.out)
       have N24 := Lib.hid (p := g2 < g4) (by rw [hg4.out]; exact R2.out.lt)
       clear hr4 hb4 hg4 hs4)
    | (refine wp_min rfl _ _ _ rfl _ _ m rfl rfl HM.out ?_))
  go_loopw [10] (fun y wr => ∃ j : Nat, j ≤ k ∧ y = .int .i64 (j : Int) ∧ Hid (Row wr g2 59 x.cs) ∧ Hid (Row wr g4 59 sup0.cs) ∧ Hid (Below w.heap.size w wr)) (fun y _ => 256 - (intOf y).toNat)
  case atStart => exact ⟨0, by omega, rfl, R24, R4, HB4⟩
  case round =>
    clear R24 R4 HB4 R2 HB2
    obtain ⟨j, hj, rfl, HR2, HR4, HB⟩ := hrel
    have hjm : (j : Int) < m := by have := HKM.out; omega
    have hj256 : (j : Int) < 256 := by have := HK.out; omega
    have hw : IntKind.i64.wrap ((j : Int) + 1) = (j : Int) + 1 := by rw [IntKind.wrap_i64]; omega
    by_cases e : j = k
    · subst e
      have c1 : wr.cell? ⟨g2, 1 + j, none⟩ = some (.bool false) := by rw [HR2.out.cell, x.c_u HK.out, HU.out]
      have f1 := HR2.out.free (1 + j)
      clear hj
      go_wp2_with (first
        | (refine step_load rfl 21 rfl 59 (.tmp 2) rfl g2 rfl (x.setU j true).cs _ (Row.all (by have h := HR2.out.put (1 + j) (.bool true); rw [x.set_u true HK.out] at h; exact h)) Tryz.underlying59 rfl (i1.out _) ?_)
        | (refine step_store rfl 59 (.tmp 4) (.tmp 21) rfl g4 (by rfl) _ sup0.cs (x.setU j true).cs (by rfl) (HR4.out.far (p := ⟨g2, 1 + j, none⟩) (by have := N24.out; intro e; simp at e; omega) _) (by rw [Sup.cs_len, Sup.cs_len]) (i1.out _) (Sup.cs_one _) ?_; intro w9 hr9 hg9 hs9))
      refine bodyPost_ret (results_row_two rfl _ _ g4 _ _ _ _ rfl hr9 Tryz.underlying59 rfl (by simpa using i1.out _)) rfl ?_
      exact ⟨rfl, below_own (HB.out.setCell Q2.out _) hg9 (by have := N24.out; have := Q2.out; omega)⟩
    · have hjk : j < k := by omega
      have c1 : wr.cell? ⟨g2, 1 + j, none⟩ = some (.bool true) := by rw [HR2.out.cell, x.c_u (by omega), HUB.out j hjk]
      have HJ := Lib.hid hjk
      clear hj e hjk
      go_wp2
      go_roundw
      case rel => exact ⟨j + 1, by have := HJ.out; omega, by go_num, HR2, HR4, HB⟩
      case measure => simp [intOf]; omega
end Go.Proofs.YtfbfeplegdpemaaGreat
