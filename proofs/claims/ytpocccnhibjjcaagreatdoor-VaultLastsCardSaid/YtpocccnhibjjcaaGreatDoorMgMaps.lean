/- A table of rows of bytes by epoch and sequence, as a map in memory: what is looked up, what is laid in. No conditions but those named. -/
import Derived.Test.YtpocccnhibjjcaaGreatDoorMgApp
import Derived.Test.YtpocccnhibjjcaaGreatDoorChecked
import Derived.Maps.OwnSet
import Derived.DeepKeys4
import Derived.WalkKit
import Derived.WalkMore
import Derived.Deep.RegionLaw
import Derived.Stop.BytesEq
import Derived.WalkSpells
import Derived.WalkLawsBesides
import Derived.Outline
import Derived.Test.YtpocccnhibjjcaaGreatDoorMgSha
import Derived.BigQuiet
set_option linter.unusedVariables false
set_option maxRecDepth 20000
namespace Go.Proofs.YtpocccnhibjjcaaGreatDoor
open Go.RowKit Go.Maps

theorem laidOut : laidOutB Tryz.prog = true := by kernel_rfl
theorem nonce_row : (145 : TypeId) < Tryz.prog.types.size := of_decide_eq_true (by kernel_rfl)
theorem nonce_wide : (match Tryz.prog.underlying 145 with | some (.array _ _) | some (.struct _) => true | _ => false) = true := by kernel_rfl
theorem nonce_law : Keyed Tryz.prog 145 := Keyed.of_law (deep_law_laid laidOut (m := 2) (by omega) nonce_row (by kernel_rfl) nonce_wide)
theorem nonce_type : Tryz.prog.keyType 145 = true := by kernel_rfl
def kv (e s : Nat) : Value := .agg #[.int .u32 (e : Int), .int .u32 (s : Int)]
theorem u32_wf {e : Nat} (h : e < 4294967296) : (Lit.int .u32 (e : Int)).wf = true := by
  simp [Lit.wf, IntKind.min, IntKind.max, IntKind.bits, IntKind.signed]
  omega
theorem nonce_keyed {e s : Nat} (he : e < 4294967296) (hs : s < 4294967296) : ∃ l, keyOf Tryz.prog 145 (kv e s) = some l := by
  have hu := Tryz.underlying145
  have h32 := Tryz.underlying44
  have hc : Tryz.prog.cellsOf 145 = 2 := by kernel_rfl
  have hc1 : Tryz.prog.cellsOf 44 = 1 := by kernel_rfl
  have hf : (kv e s).formed Tryz.prog 145 = true := by
    simp [kv, Value.formed, hu, hc]
  have hwe := u32_wf he
  have hws := u32_wf hs
  have hsz : ∃ m, Tryz.prog.types.size = m + 1 := ⟨Tryz.prog.types.size - 1, by have h9 := Nat.lt_of_le_of_lt (Nat.zero_le _) nonce_row; exact (Nat.sub_add_cancel h9).symm⟩
  obtain ⟨m, hm⟩ := hsz
  have hkl : ∃ ls, Tryz.prog.keyLits (Tryz.prog.types.size + 1) 145 (kv e s).cells.toList = some ls := by
    rw [hm]
    simp [Program.keyLits, hu, h32, hc, hc1, kv, Value.cells, hwe, hws]
  obtain ⟨ls, hls⟩ := hkl
  unfold keyOf
  rw [hu]
  simp only [nonce_type, hf, hls]
  exact ⟨_, rfl⟩
noncomputable def kl (e s : Nat) : Lit := (keyOf Tryz.prog 145 (kv e s)).getD (.bool false)
theorem kl_of {e s : Nat} (he : e < 4294967296) (hs : s < 4294967296) : keyOf Tryz.prog 145 (kv e s) = some (kl e s) := by
  obtain ⟨l, hl⟩ := nonce_keyed he hs
  unfold kl
  rw [hl]
  rfl
theorem kl_inj {e s e' s' : Nat} (he : e < 4294967296) (hs : s < 4294967296) (he' : e' < 4294967296) (hs' : s' < 4294967296) (h : kl e s = kl e' s') : e = e' ∧ s = s' := by
  have h1 := kl_of he hs
  have h2 := kl_of he' hs'
  rw [← h] at h2
  have h3 := nonce_law.inj h1 h2
  simp only [kv, Value.agg.injEq] at h3
  have h4 := congrArg Array.toList h3
  simp at h4
  omega
def itself4 (v : Value) : Option (DataW Value × List MemPlace) := some (.held v, [])
def nob : Value := .slice none 0 0
def MapAt (w : World) (b n : Nat) (f : Nat → Nat → Option Value) : Prop :=
  ∃ D : DataW Value, w.ownsMap Tryz.prog 145 itself4 b n D ∧
    ∀ e s, e < 4294967296 → s < 4294967296 → D.atKey (kl e s) (.held nob) = .held ((f e s).getD nob) ∧ Maps.has D (kl e s) = (f e s).isSome

section
variable {w w' : World} {b n : Nat} {f : Nat → Nat → Option Value}
theorem MapAt.lt (h : MapAt w b n f) : b < w.heap.size := by obtain ⟨D, h, _⟩ := h; exact h.lt
theorem MapAt.grown {row : Option Nat} (h : MapAt w b n f) (hg : w.grownBy w' row) (hne : some b ≠ row) : MapAt w' b n f := by
  obtain ⟨D, h, k⟩ := h
  exact ⟨D, h.kept hg hne, k⟩
theorem MapAt.below (h : MapAt w b n f) (hb : Below w.heap.size w w') : MapAt w' b n f := h.grown (row := none) (grown_of_below hb) (by simp)
theorem MapAt.drew (h : MapAt w b n f) : MapAt w.drew b n f := h
theorem MapAt.mono (h : MapAt w b n f) {n' : Nat} (hn : n ≤ n') : MapAt w b n' f := by
  obtain ⟨D, h, k⟩ := h
  exact ⟨D, h.mono hn, k⟩
theorem MapAt.made (w : World) : MapAt (w.alloc (.map #[] 0)) w.heap.size 0 fun _ _ => none :=
  ⟨_, World.ownsMap_made w _ _ _, fun e s he hs => ⟨rfl, rfl⟩⟩
theorem nob_zero (w : World) : (zeroValue 35).run Tryz.prog w = .ok nob w := by kernel_rfl
theorem MapAt.look (h : MapAt w b n f) {e s : Nat} (he : e < 4294967296) (hs : s < 4294967296) : (Instr.lookup 141 (.map (some b)) (kv e s) false).run Tryz.prog w = .ok ((f e s).getD nob) w := by
  obtain ⟨D, h, k⟩ := h
  obtain ⟨v, ps, hrun, hv⟩ := h.lookup nonce_law Tryz.underlying141 (nob_zero w) (zd := .held nob) (zp := []) rfl (kl_of he hs)
  rw [(k e s he hs).1] at hv
  simp only [itself4, Option.some.injEq, Prod.mk.injEq, DataW.held.injEq] at hv
  rw [hrun, hv.1]
theorem MapAt.look_ok (h : MapAt w b n f) {e s : Nat} (he : e < 4294967296) (hs : s < 4294967296) :
    (Instr.lookup 141 (.map (some b)) (kv e s) true).run Tryz.prog w = .ok (.tuple #[(f e s).getD nob, .bool (f e s).isSome]) w := by
  obtain ⟨D, h, k⟩ := h
  obtain ⟨v, ps, hrun, hv⟩ := h.look_ok nonce_law Tryz.underlying141 (nob_zero w) (zd := .held nob) (zp := []) rfl (kl_of he hs)
  rw [(k e s he hs).1] at hv
  simp only [itself4, Option.some.injEq, Prod.mk.injEq, DataW.held.injEq] at hv
  rw [hrun, hv.1, (k e s he hs).2]
def one (f : Nat → Nat → Option Value) (e s : Nat) (v : Value) : Nat → Nat → Option Value := fun e' s' => if e' = e ∧ s' = s then some v else f e' s'
theorem MapAt.put (h : MapAt w b n f) {e s : Nat} (he : e < 4294967296) (hs : s < 4294967296) (hn : n < maxLen) (v : Value) :
    ∃ w', (Instr.mapUpdate 141 (.map (some b)) (kv e s) v).run Tryz.prog w = .ok () w' ∧ MapAt w' b (n + 1) (one f e s v) ∧ w.grownBy w' (some b) := by
  obtain ⟨D, h, k⟩ := h
  obtain ⟨w', hrun, hown, hg⟩ := h.update nonce_law Tryz.underlying141 hn (kl_of he hs) (val := v) (d := .held v) (ps := []) rfl
  have hm := h.isMap
  have hkey := nonce_law.key (kl_of he hs)
  refine ⟨w', hrun, ⟨_, hown, fun e' s' he' hs' => ?_⟩, hg⟩
  by_cases hes : e' = e ∧ s' = s
  · obtain ⟨rfl, rfl⟩ := hes
    rw [atKey_put_same hm hkey, has_put_same hm hkey]
    simp [one]
  · have hne : kl e' s' ≠ kl e s := fun e0 => hes (kl_inj he' hs' he hs e0)
    rw [atKey_put_other hne, has_put_other hne]
    simp only [one, if_neg hes]
    exact k e' s' he' hs'
end
end Go.Proofs.YtpocccnhibjjcaaGreatDoor
/- A record's cells, and when two records, or two rows of four, are the same. No conditions. -/
set_option linter.unusedVariables false
namespace Go.Proofs.YtpocccnhibjjcaaGreatDoor
open Go.RowKit

structure RecV where
  a : Int
  e : Nat
  s : Nat
  f : Nat → UInt8
def RecV.cs (r : RecV) : List Value := [.int .i64 r.a, .int .u32 (r.e : Int), .int .u32 (r.s : Int)] ++ brr 32 r.f
def RecV.l (r : RecV) : List UInt8 := lst 32 r.f
def rec0 : RecV := ⟨0, 0, 0, fun _ => 0⟩
def RecV.eqb (r q : RecV) : Bool := r.a == q.a && ((r.e : Int) == (q.e : Int) && ((r.s : Int) == (q.s : Int) && (r.l == q.l)))
theorem RecV.cs_len (r : RecV) : r.cs.length = 35 := by simp [RecV.cs, brr_len]
theorem RecV.l_len (r : RecV) : r.l.length = 32 := by simp [RecV.l, lst_len]
theorem RecV.cs_one (r : RecV) : ∀ v ∈ r.cs, v.oneCell' = true := by
  intro v hv
  rcases List.mem_append.1 hv with hv | hv
  · simp at hv
    rcases hv with rfl | rfl | rfl <;> rfl
  · exact brr_one _ _ v hv
theorem RecV.eqb_refl (r : RecV) : r.eqb r = true := by simp [RecV.eqb]
theorem info_rec : (Tryz.prog.info? 87).map (·.size) = some 35 := by kernel_rfl
theorem info_recs : (Tryz.prog.info? 132).map (·.size) = some 140 := by kernel_rfl
theorem info_sum : (Tryz.prog.info? 85).map (·.size) = some 32 := by kernel_rfl

section
variable {P : Program} (w : World)
theorem size_of {t : TypeId} {n : Nat} (h : (P.info? t).map (·.size) = some n) (w : World) : (sizeOf t).run P w = .ok n w := by
  cases hq : P.info? t with
  | none => simp [hq] at h
  | some i =>
    have hi : i.size = n := by simpa [hq] using h
    simp [sizeOf, typeInfo, hq, hi]
theorem part_int {t : TypeId} {k : IntKind} (ht : P.underlying t = some (.int k)) {cs : Array Value} {o : Nat} {v : Value} (h : cs[o]? = some v) : (part t cs o).run P w = .ok v w := by
  simp [part, isAgg, run_underlying ht, h]
theorem part_arr {t e : TypeId} {n : Nat} (ht : P.underlying t = some (.array n e)) {m : Nat} (hs : (P.info? t).map (·.size) = some m) (cs : Array Value) (o : Nat) : (part t cs o).run P w = .ok (.agg (cs.extract o (o + m))) w := by
  simp [part, isAgg, run_underlying ht, size_of hs]
theorem part_str {t : TypeId} {fs : Array Field} (ht : P.underlying t = some (.struct fs)) {m : Nat} (hs : (P.info? t).map (·.size) = some m) (cs : Array Value) (o : Nat) : (part t cs o).run P w = .ok (.agg (cs.extract o (o + m))) w := by
  simp [part, isAgg, run_underlying ht, size_of hs]
theorem run_equalIn_parts (d : Nat) (t e : TypeId) (n k : Nat) (ht : P.underlying t = some (.array n e)) (hsz : (P.info? e).map (·.size) = some k) (xs ys : Array Value) (px py : Nat → Value) (b : Nat → Bool)
    (hx : ∀ i, i < n → ∀ w, (part e xs (i * k)).run P w = .ok (px i) w) (hy : ∀ i, i < n → ∀ w, (part e ys (i * k)).run P w = .ok (py i) w) (he : ∀ i, i < n → ∀ w, (Op.equalIn d e (px i) (py i)).run P w = .ok (b i) w) :
    (Op.equalIn (d + 1) t (.agg xs) (.agg ys)).run P w = .ok ((List.range n).all b) w := by
  rw [List.range_eq_range', Op.equalIn]
  simp only [Sem.run_bind, run_underlying ht, Result.andThen_ok, size_of hsz, Std.Legacy.Range.forIn_eq_forIn_range', Std.Legacy.Range.size, Nat.sub_zero, Nat.add_sub_cancel, Nat.div_one]
  have hl : ∀ i ∈ List.range' 0 n 1, i < n := fun i hi => by simpa using (List.mem_range'_1.1 hi).2
  generalize List.range' 0 n 1 = l at hl ⊢
  induction l with
  | nil => simp
  | cons i l ih =>
    have hi : i < n := hl i (by simp)
    simp only [List.forIn_cons, Sem.run_bind, hx i hi, hy i hi, he i hi, Result.andThen_ok, List.all_cons]
    cases hb : b i
    · simp
    · simp only [Bool.not_true, Bool.false_eq_true, if_false, Sem.run_pure, Result.andThen_ok, Bool.true_and]
      exact ih fun j hj => hl j (by simp [hj])
end
section
variable {P : Program} {ops : Array Oper} {rest : List Oper} {o : Oper} {a : Act} {w : World} {Q : Exit → Act → World → Prop}
theorem step_load_g (hw : Region.wanted o (yielded ops a.tmps) = true) (d : Tmp) (hd : o.dst = some d) (ty : TypeId) (x : Operand) (ho : o.op = .load ty x) (g : Nat) (hx : a.eval x = .pointer (some ⟨g, 0, none⟩)) (cs : List Value) (dd : TypeDesc)
    (hr : w.rangeAt g 0 cs) (hu : P.underlying ty = some dd) (hdd : dd.isRow = true) (hi : (P.info? ty).map (·.size) = some cs.length)
    (h : wpList P ops Q rest (a.put o.dst (.agg cs.toArray)) w) : wpList P ops Q (o :: rest) a w := by
  refine wpList_step fun K hK => ?_
  rw [if_pos hw]
  exact wp_load_mid ty x ho g 0 hx cs dd hr hu hdd hi (hK _ _ h)
theorem step_eql (hw : Region.wanted o (yielded ops a.tmps) = true) (t t' : TypeId) (x y : Operand) (ho : o.op = .binOp .eql t x y t') (xs ys : Array Value) (hx : a.eval x = .agg xs) (hy : a.eval y = .agg ys) (hg : P.eqGuardType P.depth t = false) (b : Bool)
    (he : ∀ w, (Op.equalIn 10000 t (.agg xs) (.agg ys)).run P w = .ok b w)
    (h : wpList P ops Q rest (a.put o.dst (.bool b)) w) : wpList P ops Q (o :: rest) a w := by
  refine wpList_step fun K hK => ?_
  rw [if_pos hw]
  unfold Oper.wp execOp
  simp only [ho, hx, hy, Sem.run_bind, run_eqGuard_agg w _ t x y xs ys hg, run_eql_struct, he, Result.andThen_ok]
  exact hK _ _ h
end
theorem brr_cell (n : Nat) (f : Nat → UInt8) : brr n f = (lst n f).map Extern.Stop.cell := by
  rw [lst_bc]
  rfl
theorem eq_sum (d : Nat) (f g : Nat → UInt8) (w : World) : (Op.equalIn (d + 2) 85 (.agg (brr 32 f).toArray) (.agg (brr 32 g).toArray)).run Tryz.prog w = .ok (lst 32 f == lst 32 g) w := by
  rw [brr_cell, brr_cell]
  exact run_equalIn_bytes w d 85 5 32 Tryz.underlying85 Tryz.underlying5 (fun w => size_of (by kernel_rfl) w) _ _ (lst_len _ _) (lst_len _ _)
theorem rec_fields : ((Tryz.prog.fieldsOf 87).toList.map fun f => (f.name, f.type, f.offset)) = [("At", 3, 0), ("Epoch", 44, 1), ("Seq", 44, 2), ("Sum", 85, 3)] := by kernel_rfl
theorem rec_guard : Tryz.prog.eqGuardType Tryz.prog.depth 87 = false := by kernel_rfl
theorem recs_guard : Tryz.prog.eqGuardType Tryz.prog.depth 132 = false := by kernel_rfl
theorem sum_guard : Tryz.prog.eqGuardType Tryz.prog.depth 85 = false := by kernel_rfl
theorem rec_held : Tryz.prog.stoodInHeld 87 = false := by kernel_rfl
theorem RecV.sum_part (r : RecV) : (r.cs.toArray).extract 3 35 = (brr 32 r.f).toArray := by
  apply Array.ext'
  simp [RecV.cs]
  exact List.take_of_length_le (by rw [brr_len]; exact Nat.le_refl _)
theorem eq_rec (d : Nat) (r q : RecV) (w : World) : (Op.equalIn (d + 3) 87 (.agg r.cs.toArray) (.agg q.cs.toArray)).run Tryz.prog w = .ok (r.eqb q) w := by
  have hu : Tryz.prog.underlying 87 = some (.struct (Tryz.prog.fieldsOf 87)) := by kernel_rfl
  rw [run_equalIn_struct w (d + 2) _ _ _ hu rec_held]
  have hf := rec_fields
  generalize (Tryz.prog.fieldsOf 87).toList = fs at hf
  rcases fs with _ | ⟨f0, _ | ⟨f1, _ | ⟨f2, _ | ⟨f3, _ | ⟨f4, t⟩⟩⟩⟩⟩ <;> simp only [List.map_cons, List.map_nil, List.cons.injEq, Prod.mk.injEq, and_true, reduceCtorEq, and_false, false_and] at hf
  obtain ⟨⟨n0, t0, o0⟩, ⟨n1, t1, o1⟩, ⟨n2, t2, o2⟩, n3, t3, o3⟩ := hf
  have hi := fun w => run_equalIn_int (P := Tryz.prog) w (d + 1) 3 .i64 .i64 r.a q.a Tryz.underlying3
  have h1 := fun w => run_equalIn_int (P := Tryz.prog) w (d + 1) 44 .u32 .u32 (r.e : Int) (q.e : Int) Tryz.underlying44
  have h2 := fun w => run_equalIn_int (P := Tryz.prog) w (d + 1) 44 .u32 .u32 (r.s : Int) (q.s : Int) Tryz.underlying44
  have h3 := fun w => eq_sum d r.f q.f w
  have p0 := fun (x : RecV) w => part_int (P := Tryz.prog) w Tryz.underlying3 (cs := x.cs.toArray) (o := 0) (v := .int .i64 x.a) rfl
  have p1 := fun (x : RecV) w => part_int (P := Tryz.prog) w Tryz.underlying44 (cs := x.cs.toArray) (o := 1) (v := .int .u32 (x.e : Int)) rfl
  have p2 := fun (x : RecV) w => part_int (P := Tryz.prog) w Tryz.underlying44 (cs := x.cs.toArray) (o := 2) (v := .int .u32 (x.s : Int)) rfl
  have p3 := fun (x : RecV) w => part_arr (P := Tryz.prog) w Tryz.underlying85 info_sum x.cs.toArray 3
  simp only [RecV.sum_part, show 3 + 32 = 35 from rfl] at p3
  simp only [Op.eqFields, n0, t0, o0, n1, t1, o1, n2, t2, o2, n3, t3, o3, Sem.run_bind, Sem.run_ite, p0, p1, p2, p3, hi, h1, h2, h3, Result.andThen_ok, Sem.run_pure]
  unfold RecV.eqb RecV.l
  cases (r.a == q.a) <;> cases ((r.e : Int) == (q.e : Int)) <;> cases ((r.s : Int) == (q.s : Int)) <;> cases (lst 32 r.f == lst 32 q.f) <;> simp
end Go.Proofs.YtpocccnhibjjcaaGreatDoor
/- Whether a record leads to a block, and whether it may be, by the program and by the reference: what each call leaves, for every record. No conditions. -/
set_option linter.unusedVariables false
set_option maxRecDepth 20000
namespace Go.Proofs.YtpocccnhibjjcaaGreatDoor
open Go.RowKit

def RecV.leads (r : RecV) : Bool := decide (1 ≤ r.a) && decide (r.a ≤ 1024)
def RecV.may (r : RecV) : Bool := r.leads || r.eqb rec0
theorem rec0_cs : Tryz.prog.built 87 [] = some rec0.cs.toArray := by kernel_rfl
theorem eq_recw (r q : RecV) (w : World) : (Op.equalIn 10000 87 (.agg r.cs.toArray) (.agg q.cs.toArray)).run Tryz.prog w = .ok (r.eqb q) w := eq_rec 9997 r q w
theorem RecV.c0 {w : World} {g : Nat} {t : TypeId} {r : RecV} (h : Row w g t r.cs) : w.cell? ⟨g, 0, none⟩ = some (.int .i64 r.a) := by rw [h.cell]; rfl
theorem RecV.c1 {w : World} {g : Nat} {t : TypeId} {r : RecV} (h : Row w g t r.cs) : w.cell? ⟨g, 1, none⟩ = some (.int .u32 (r.e : Int)) := by rw [h.cell]; rfl
theorem RecV.c2 {w : World} {g : Nat} {t : TypeId} {r : RecV} (h : Row w g t r.cs) : w.cell? ⟨g, 2, none⟩ = some (.int .u32 (r.s : Int)) := by rw [h.cell]; rfl
theorem RecV.leads_not {r : RecV} (h : ¬ (1 ≤ r.a ∧ r.a ≤ 1024)) : r.leads = false := by
  unfold RecV.leads
  by_cases h1 : 1 ≤ r.a
  · have h2 : ¬ r.a ≤ 1024 := fun h2 => h ⟨h1, h2⟩
    simp [h2]
  · simp [h1]
theorem RecV.leads_yes {r : RecV} (h1 : 1 ≤ r.a) (h2 : r.a ≤ 1024) : r.leads = true := by simp [RecV.leads, h1, h2]

theorem leads_any (r : RecV) (w : World) : Calls Tryz.prog 100 #[.agg r.cs.toArray] w fun e w' => e = .returned (.bool r.leads) ∧ Below w.heap.size w w' := by
  by_cases h1 : 1 ≤ r.a
  · by_cases h2 : r.a ≤ 1024
    · rw [RecV.leads_yes h1 h2]
      go_enter Tryz.func100, Tryz.ntmps100
      go_wp2_with (refine step_box rfl 1 rfl 87 _ rfl r.cs rfl ?_; intro g w1 hr hg hb hs; have c0 := RecV.c0 hr)
      go_ret
      exact ⟨rfl, hb⟩
    · rw [RecV.leads_not (fun h => h2 h.2)]
      go_enter Tryz.func100, Tryz.ntmps100
      go_wp2_with (refine step_box rfl 1 rfl 87 _ rfl r.cs rfl ?_; intro g w1 hr hg hb hs; have c0 := RecV.c0 hr)
      go_ret
      exact ⟨rfl, hb⟩
  · rw [RecV.leads_not (fun h => h1 h.1)]
    go_enter Tryz.func100, Tryz.ntmps100
    go_wp2_with (refine step_box rfl 1 rfl 87 _ rfl r.cs rfl ?_; intro g w1 hr hg hb hs; have c0 := RecV.c0 hr)
    go_ret
    exact ⟨rfl, hb⟩
theorem mayBe_any (r : RecV) (w : World) : Calls Tryz.prog 141 #[.agg r.cs.toArray] w fun e w' => e = .returned (.bool r.may) ∧ Below w.heap.size w w' := by
  have hq := eq_recw r rec0
  have i35 : (Tryz.prog.info? 87).map (·.size) = some r.cs.length := by rw [r.cs_len]; exact info_rec
  unfold RecV.may
  cases hl : r.leads
  · go_enter Tryz.func141, Tryz.ntmps141
    go_wp2_with (first
      | (refine step_box rfl 1 rfl 87 _ rfl r.cs rfl ?_; intro g w1 hr hg hb hs)
      | (go_at_call 100; refine (leads_any r _).mono ?_; rintro e w2 ⟨rfl, hb2⟩; rw [hl])
      | (refine step_load rfl 3 rfl 87 (.tmp 1) rfl g rfl r.cs _ hr.all Tryz.underlying87 rfl i35 ?_)
      | (refine step_load_g (by rfl) 6 rfl 87 (.tmp 1) rfl g rfl r.cs _ (hr.kept hb2).all Tryz.underlying87 rfl i35 ?_)
      | (refine step_eql (by rfl) 87 87 (.tmp 6) (.tmp 7) rfl r.cs.toArray rec0.cs.toArray rfl (by kernel_rfl) rec_guard (r.eqb rec0) hq ?_))
    go_ret
    exact ⟨by simp, hb.trans (hb2.mono hb.size)⟩
  · go_enter Tryz.func141, Tryz.ntmps141
    go_wp2_with (first
      | (refine step_box rfl 1 rfl 87 _ rfl r.cs rfl ?_; intro g w1 hr hg hb hs)
      | (go_at_call 100; refine (leads_any r _).mono ?_; rintro e w2 ⟨rfl, hb2⟩; rw [hl])
      | (refine step_load rfl 3 rfl 87 (.tmp 1) rfl g rfl r.cs _ hr.all Tryz.underlying87 rfl i35 ?_))
    go_ret
    exact ⟨rfl, hb.trans (hb2.mono hb.size)⟩
end Go.Proofs.YtpocccnhibjjcaaGreatDoor
/- Plain facts: bytes' products, inverses and boxes, and what one operation makes of bytes. No program is in sight here, and no conditions. -/
set_option linter.unusedVariables false
namespace Go.Proofs.YtpocccnhibjjcaaGreatDoor

def sel (b : Bool) (x : UInt8) : UInt8 := if b then x else 0
def dbl (x : UInt8) : UInt8 := (x <<< 1) ^^^ sel (x.toNat.testBit 7) 27
def dpow (x : UInt8) : Nat → UInt8
  | 0 => x
  | i + 1 => dbl (dpow x i)
def tm (x b : UInt8) : Nat → UInt8
  | 0 => 0
  | i + 1 => tm x b i ^^^ sel (b.toNat.testBit i) (dpow x i)
def times (x b : UInt8) : UInt8 := tm x b 8
def pw : Nat → UInt8
  | 0 => 1
  | n + 1 => pw n ^^^ dbl (pw n)
def it (x : UInt8) : Nat → UInt8
  | 0 => 1
  | k + 1 => times (it x k) x
def inverse (x : UInt8) : UInt8 := it x 254
def pl : Nat → UInt8 → List Nat
  | 0, _ => []
  | n + 1, x => x.toNat :: pl n (x ^^^ dbl x)
def shl8 (x : UInt8) (n : Nat) : UInt8 := UInt8.ofNat (x.toNat * 2 ^ n)
def shr8 (x : UInt8) (n : Nat) : UInt8 := UInt8.ofNat (x.toNat / 2 ^ n)
def rl (x : UInt8) (n : Nat) : UInt8 := shl8 x n ||| shr8 x (8 - n)
def sb (y : UInt8) : UInt8 := y ^^^ rl y 1 ^^^ rl y 2 ^^^ rl y 3 ^^^ rl y 4 ^^^ 99
def sbox (x : UInt8) : UInt8 := sb (inverse x)
attribute [irreducible] it inverse sbox
end Go.Proofs.YtpocccnhibjjcaaGreatDoor
/- Plain facts: the rounds' keys and a block behind all rounds, by bytes. No program is in sight here, and no conditions. -/
set_option linter.unusedVariables false
namespace Go.Proofs.YtpocccnhibjjcaaGreatDoor

def kx (key : Nat → UInt8) (m : Nat) : UInt8 :=
  if h : m < 32 then key m
  else kx key (m - 32) ^^^ (if m / 4 % 8 = 0 then sbox (kx key (4 * (m / 4) - 4 + (m % 4 + 1) % 4)) ^^^ (if m % 4 = 0 then dpow 1 (m / 4 / 8 - 1) else 0) else if m / 4 % 8 = 4 then sbox (kx key (m - 4)) else kx key (m - 4))
termination_by m
decreasing_by all_goals omega
def pre (key : Nat → UInt8) (n m : Nat) : UInt8 := if m < n then kx key m else 0
def ak (K : Nat → UInt8) (r : Nat) (s : Nat → UInt8) : Nat → UInt8 := fun i => s i ^^^ K (16 * r + i)
def sr (s : Nat → UInt8) : Nat → UInt8 := fun i => sbox (s ((i + 4 * (i % 4)) % 16))
def al (s : Nat → UInt8) (f : Nat) : UInt8 := s f ^^^ s (f + 1) ^^^ s (f + 2) ^^^ s (f + 3)
def mx (s : Nat → UInt8) : Nat → UInt8 := fun i => (s i ^^^ al s (i - i % 4)) ^^^ dbl (s i ^^^ s (i - i % 4 + (i + 1) % 4))
def st (K : Nat → UInt8) (s : Nat → UInt8) : Nat → Nat → UInt8
  | 0 => ak K 0 s
  | r + 1 => ak K (r + 1) (mx (sr (st K s r)))
def enc (K : Nat → UInt8) (s : Nat → UInt8) : Nat → UInt8 := ak K 14 (sr (st K s 13))
def upto (n : Nat) (f h : Nat → UInt8) : Nat → UInt8 := fun j => if j < n then f j else h j
theorem upto_zero (f h : Nat → UInt8) : upto 0 f h = h := by funext j; simp [upto]
theorem upto_step (n : Nat) (f h : Nat → UInt8) : upd (upto n f h) n (f n) = upto (n + 1) f h := by
  funext j
  unfold upd upto
  by_cases e : j = n
  · subst e
    simp
  · rw [if_neg e]
    by_cases h2 : j < n
    · rw [if_pos h2, if_pos (by omega)]
    · rw [if_neg h2, if_neg (by omega)]
theorem upto_self (n : Nat) (f h : Nat → UInt8) : upto n f h n = h n := by simp [upto]
theorem upto_far {n j : Nat} (f h : Nat → UInt8) (hj : n ≤ j) : upto n f h j = h j := by unfold upto; rw [if_neg (by omega)]
theorem upto_near {n j : Nat} (f h : Nat → UInt8) (hj : j < n) : upto n f h j = f j := if_pos hj
theorem upto_all (n : Nat) (f h : Nat → UInt8) : brr n (upto n f h) = brr n f := brr_congr fun j hj => if_pos hj
end Go.Proofs.YtpocccnhibjjcaaGreatDoor
/- What one operation makes of bytes, and the functions that make a byte of bytes: what each call leaves, for every byte. No conditions. -/
set_option linter.unusedVariables false
namespace Go.Proofs.YtpocccnhibjjcaaGreatDoor
open Go.RowKit

section
variable (x y : UInt8)
theorem bv_xor : bits .xor .u8 (bv x) (bv y) = bv (x ^^^ y) := by
  unfold bv
  rw [u8_xor_nat _ _ (u8_lt x) (u8_lt y), UInt8.toNat_xor]
theorem bv_xor63 : bits .xor .u8 (bv x) 99 = bv (x ^^^ 99) := bv_xor x 99
theorem bv_or : bits .or .u8 (bv x) (bv y) = bv (x ||| y) := by
  unfold bv
  rw [u8_or_nat _ _ (u8_lt x) (u8_lt y), UInt8.toNat_or]
theorem bv_lo : 0 ≤ bv x := by unfold bv; omega
theorem bv_hi : bv x < 256 := by have := u8_lt x; unfold bv; omega
theorem bv_toNat : (bv x).toNat = x.toNat := by unfold bv; omega
end
attribute [go_sem] bv_xor bv_xor63 bv_or bv_lo bv_hi bv_toNat

end Go.Proofs.YtpocccnhibjjcaaGreatDoor
/- A table's mask, by the reference: what the call leaves, for every table in memory and every length up to 2^40. Conditions: those named. -/
set_option linter.unusedVariables false
namespace Go.Proofs.YtpocccnhibjjcaaGreatDoor
open Go.RowKit

structure PadV where
  e : Nat
  s : Nat
  A : Option Addr
  c : Nat
  l : List UInt8
def PadsAt (w : World) (A : Option Addr) (ps : List PadV) : Prop :=
  ∀ j p, ps[j]? = some p → ∃ g o, A = some ⟨g, o, none⟩ ∧ w.cell? ⟨g, o + j * 3, none⟩ = some (.int .u32 (p.e : Nat)) ∧ w.cell? ⟨g, o + j * 3 + 1, none⟩ = some (.int .u32 (p.s : Nat)) ∧
    w.cell? ⟨g, o + j * 3 + 2, none⟩ = some (.slice p.A p.l.length p.c) ∧ Hol w p.A p.l ∧ p.l.length ≤ 1099511627776
theorem PadsAt.below {w w' : World} {A : Option Addr} {ps : List PadV} (h : PadsAt w A ps) (hb : Below w.heap.size w w') : PadsAt w' A ps := fun j p hp => by
  obtain ⟨g, o, rfl, h1, h2, h3, h4, h5⟩ := h j p hp
  have hg := World.block_lt_of_cell? w _ h1
  exact ⟨g, o, rfl, (hb.cell (p := ⟨g, o + j * 3, none⟩) hg).trans h1, (hb.cell (p := ⟨g, o + j * 3 + 1, none⟩) hg).trans h2, (hb.cell (p := ⟨g, o + j * 3 + 2, none⟩) hg).trans h3, h4.below hb, h5⟩
end Go.Proofs.YtpocccnhibjjcaaGreatDoor
