/- A disk by its bytes alone: what is synced, what waits, what was written, the trace; both disks' lists say the same. No conditions. -/
import Derived.Test.YtnajlineipapdaaMgPDropE
import Derived.Test.YtnajlineipapdaaMgPTam3
import Derived.Test.YtnajlineipapdaaDtrc
import Derived.Test.YtnajlineipapdaaSafe
import Derived.Test.YtnajlineipapdaaMgPApi
import Derived.Test.YtnajlineipapdaaPBar
import Derived.Lib.SliceRun
set_option linter.unusedVariables false
namespace Go.Proofs.Ytnajlineipapdaa
open Go.RowKit

/-- A waiting write's place and bytes. -/
def wpl (p : Nat × BV) : Nat × List UInt8 := (p.1, p.2.l)
def nowB (S : List (List UInt8)) (R : List (Nat × List UInt8)) (a : Nat) : List UInt8 := R.foldl (fun b p => if p.1 = a then p.2 else b) (S.getD a [])
theorem getD_bytes (ss : List BV) (a : Nat) : (ss.getD a noBV).l = (ss.map BV.l).getD a [] := by
  simp only [List.getD_eq_getElem?_getD, List.getElem?_map]
  cases ss[a]? <;> rfl
theorem getD_wpl (rs : List (Nat × BV)) (k : Nat) : (rs.map wpl).getD k (0, []) = wpl (rs.getD k (0, noBV)) := by
  simp only [List.getD_eq_getElem?_getD, List.getElem?_map]
  cases rs[k]? <;> rfl
theorem foldl_bytes (a : Nat) : ∀ (rs : List (Nat × BV)) (x : BV) (y : List UInt8), x.l = y → (rs.foldl (fun b p => if p.1 = a then p.2 else b) x).l = (rs.map wpl).foldl (fun b p => if p.1 = a then p.2 else b) y
  | [], _, _, h => h
  | p :: rs, x, y, h => by
    rw [List.map_cons, List.foldl_cons, List.foldl_cons]
    refine foldl_bytes a rs _ _ ?_
    show (if p.1 = a then p.2 else x).l = if p.1 = a then p.2.l else y
    split
    · rfl
    · exact h
theorem now_bytes (ss : List BV) (rs : List (Nat × BV)) (a : Nat) : (nowV ss rs a).l = nowB (ss.map BV.l) (rs.map wpl) a := by
  unfold nowV nowK nowB
  rw [List.take_length]
  exact foldl_bytes a rs _ _ (getD_bytes ss a)
def goneB (a : Nat) (R : List (Nat × List UInt8)) : List (Nat × List UInt8) := R.filter fun p => !(p.1 == a)
theorem gone_bytes (a : Nat) (rs : List (Nat × BV)) : (gone a rs).map wpl = goneB a (rs.map wpl) := by
  unfold gone goneB
  rw [List.filter_map]
  rfl
def lastB (R : List (Nat × List UInt8)) (a : Nat) : Nat → Int
  | 0 => -1
  | k + 1 => if (R.getD k (0, [])).1 = a then (k : Int) else lastB R a k
theorem last_bytes (rs : List (Nat × BV)) (a : Nat) : ∀ k, lastI rs a k = lastB (rs.map wpl) a k
  | 0 => rfl
  | k + 1 => by rw [lastI, lastB, getD_wpl, last_bytes rs a k]; rfl
def dropB (R : List (Nat × List UInt8)) (a : Nat) : List (Nat × List UInt8) := if lastB R a R.length < 0 then R else R.take (lastB R a R.length).toNat ++ R.drop ((lastB R a R.length).toNat + 1)
theorem drop_bytes (rs : List (Nat × BV)) (a : Nat) : (dropL rs a).map wpl = dropB (rs.map wpl) a := by
  unfold dropL dropB
  rw [last_bytes, List.length_map]
  split
  · rfl
  · unfold cut1
    rw [List.map_append, List.map_take, List.map_drop]
def syncB (keep : Nat → Bool) (R : List (Nat × List UInt8)) (S : List (List UInt8)) : Nat → List (List UInt8)
  | 0 => S
  | k + 1 => match R[k]? with
    | some p => if keep k = true then (syncB keep R S k).set p.1 p.2 else syncB keep R S k
    | none => syncB keep R S k
theorem sync_bytes (keep : Nat → Bool) (rs : List (Nat × BV)) (ss : List BV) : ∀ k, (syncK keep rs ss k).map BV.l = syncB keep (rs.map wpl) (ss.map BV.l) k
  | 0 => rfl
  | k + 1 => by
    have ih := sync_bytes keep rs ss k
    rw [syncK, syncB, List.getElem?_map]
    cases h : rs[k]? with
    | none => exact ih
    | some p =>
      show (if keep k = true then (syncK keep rs ss k).set p.1 p.2 else syncK keep rs ss k).map BV.l = if keep k = true then (syncB keep (rs.map wpl) (ss.map BV.l) k).set p.1 p.2.l else _
      split
      · rw [List.map_set, ih]
      · exact ih
def oldB (EE : Nat → List (List UInt8)) (a back : Nat) : List UInt8 := if back < (EE a).length then (EE a).getD ((EE a).length - 1 - back) [] else pad []
theorem old_bytes {E : Nat → List BV} {EE : Nat → List (List UInt8)} {a : Nat} (h : (E a).map BV.l = EE a) (back : Nat) : oldL E a back = oldB EE a back := by
  unfold oldL oldB
  rw [← h, List.length_map]
  split
  · rw [getD_bytes]
  · rfl
def moreB (EE : Nat → List (List UInt8)) (a : Nat) (l : List UInt8) : Nat → List (List UInt8) := fun a' => if a' = a then EE a ++ [l] else EE a'
theorem more_bytes {E : Nat → List BV} {EE : Nat → List (List UInt8)} (a : Nat) (x : BV) (h : ∀ c, c < 1024 → (E c).map BV.l = EE c) : ∀ c, c < 1024 → (more E a x c).map BV.l = moreB EE a x.l c := fun c hc => by
  unfold more moreB
  by_cases e : c = a
  · subst e
    rw [if_pos rfl, if_pos rfl, List.map_append, h c hc]
    rfl
  · rw [if_neg e, if_neg e]
    exact h c hc
theorem eld_bytes {al : List (Nat × BV)} {EE : Nat → List (List UInt8)} (a : Nat) (x : BV) (h : ∀ c, c < 1024 → (eld al c).map BV.l = EE c) : ∀ c, c < 1024 → (eld (al ++ [(a, x)]) c).map BV.l = moreB EE a x.l c := fun c hc => by
  rw [eld_app, List.map_append, h c hc, eld_one]
  unfold moreB
  by_cases e : c = a
  · subst e
    rw [if_pos rfl, if_pos rfl]
    rfl
  · rw [if_neg e, if_neg (fun e2 => e e2.symm)]
    simp
theorem map_snoc {α β : Type} (f : α → β) (xs : List α) (x : α) : (xs ++ [x]).map f = xs.map f ++ [f x] := by simp
/-- The blocks K are none of these bytes' own. -/
def Off (K : List Nat) (x : BV) : Prop := ∀ q, (bvv x).ownBlock = some q → q ∉ K
theorem Off.bytes {b : Nat} {w : World} {K : List Nat} {x : BV} (h : Own8 b w x) (h8 : NoBytes w K) : Off K x := fun k hk hf => by
  rcases h.2 with ⟨e0, _⟩ | ⟨g, cap, cur, e0, _, hg, _⟩
  · rw [e0] at hk
    cases hk
  · rw [e0] at hk
    injection hk with hk
    subst hk
    exact h8 _ hf _ _ hg
theorem Off.new {b : Nat} {w : World} {K : List Nat} {x : BV} (h : Own8 b w x) (hK : ∀ k ∈ K, w.heap.size ≤ k) : Off K x := fun q hq hf => by
  have h1 := (h.lt q hq).2
  have h2 := hK q hf
  omega
theorem Own8.off {b : Nat} {w w' : World} {K : List Nat} {x : BV} (h : Own8 b w x) (hc : Chg K w w') (ho : Off K x) : Own8 b w' x := Chg.own h hc ho
section
variable {b : Nat} {w w' : World} {g : Nat} {v1 v2 v3 v4 : Value} {ss : List BV} {rs al : List (Nat × BV)} {ts : List (Int × Int × BV)} {F : List Nat} {E : Nat → List BV}
/-- The reference's disk stays, where blocks are turned that are none of its own. -/
theorem RDisk.off {K : List Nat} (h : RDisk b w g v1 v2 v3 v4 ss rs al ts) (hc : Chg K w w') (hK : ∀ k ∈ K, k ∉ foot g v1 v2 v3 v4) (h1 : ∀ x ∈ ss, Off K x) (h2 : ∀ p ∈ rs, Off K p.2) (h3 : ∀ p ∈ al, Off K p.2) (h4 : ∀ t ∈ ts, Off K t.2.2) : RDisk b w' g v1 v2 v3 v4 ss rs al ts where
  cells := hc.row h.cells (fun hx => hK _ hx (foot_g _ _ _ _ _))
  o1 := hc.own h.o1 (fun k hk hx => hK _ hx (foot_v1 hk))
  o2 := hc.own h.o2 (fun k hk hx => hK _ hx (by simp [foot, List.mem_filterMap]; exact .inr (.inr (.inl hk))))
  o3 := hc.own h.o3 (fun k hk hx => hK _ hx (foot_v3 hk))
  o4 := hc.own h.o4 (fun k hk hx => hK _ hx (foot_v4 hk))
  sep := h.sep
  lo := h.lo
  m1 := fun x hx => ⟨(h.m1 x hx).1.off hc (h1 x hx), (h.m1 x hx).2⟩
  m2 := fun p hp => ⟨(h.m2 p hp).1.off hc (h2 p hp), (h.m2 p hp).2⟩
  m3 := fun p hp => ⟨(h.m3 p hp).1.off hc (h3 p hp), (h.m3 p hp).2⟩
  m4 := fun t ht => (h.m4 t ht).off hc (h4 t ht)
theorem RDisk.chg {K : List Nat} (h : RDisk b w g v1 v2 v3 v4 ss rs al ts) (hc : Chg K w w') (hK : ∀ k ∈ K, k ∉ foot g v1 v2 v3 v4) (h8 : NoBytes w K) : RDisk b w' g v1 v2 v3 v4 ss rs al ts :=
  h.off hc hK (fun x hx => .bytes (h.m1 x hx).1 h8) (fun p hp => .bytes (h.m2 p hp).1 h8) (fun p hp => .bytes (h.m3 p hp).1 h8) (fun t ht => .bytes (h.m4 t ht) h8)
theorem foot_in {k : Nat} (h : k ∈ foot g v1 v2 v3 v4) : k = g ∨ v1.ownBlock = some k ∨ v2.ownBlock = some k ∨ v3.ownBlock = some k ∨ v4.ownBlock = some k := by
  simpa [foot, List.mem_filterMap] using h
theorem RDisk.noBytes (h : RDisk b w g v1 v2 v3 v4 ss rs al ts) : NoBytes w (foot g v1 v2 v3 v4) := fun k hk => by
  rcases foot_in hk with rfl | e | e | e | e
  · exact (NotT.row h.cells (by decide)).no
  · have := NotT.own (e := 5) h.o1 (by decide)
    rw [e] at this
    exact this.no
  · have := NotT.own (e := 5) h.o2 (by decide)
    rw [e] at this
    exact this.no
  · have := NotT.own (e := 5) h.o3 (by decide)
    rw [e] at this
    exact this.no
  · have := NotT.own (e := 5) h.o4 (by decide)
    rw [e] at this
    exact this.no
theorem RDisk.fl (h : RDisk b w g v1 v2 v3 v4 ss rs al ts) : ∀ k ∈ foot g v1 v2 v3 v4, b ≤ k ∧ k < w.heap.size := fun k hk => by
  rcases foot_in hk with rfl | e | e | e | e
  · exact ⟨h.lo, h.cells.lt⟩
  · exact h.o1.lt k e
  · exact h.o2.lt k e
  · exact h.o3.lt k e
  · exact h.o4.lt k e
end
end Go.Proofs.Ytnajlineipapdaa
/- The program's disk: its trace told, with bytes of its own. Conditions: the disk lies there. -/
set_option linter.unusedVariables false
namespace Go.Proofs.Ytnajlineipapdaa
open Go.RowKit

set_option maxRecDepth 20000 in
/-- Bytes cloned. -/
theorem clone8 (x : BV) (b : Nat) (w : World) (hx : Own8 b w x) (hl : x.l.length ≤ 140737488355328) :
    Calls Try.prog 57 #[.slice x.A x.l.length x.c] w fun e w' => ∃ y : BV, e = .returned (.slice y.A y.l.length y.c) ∧ Hid (y.l = x.l) ∧ Hid (Own8 w.heap.size w' y) ∧ Hid (Below w.heap.size w w') := by
  obtain ⟨i, U⟩ := u8_tab
  have hnil : ∀ (w : World) (a : Option Addr) (n c : Nat), (binOp .eql 32 (.slice a n c) (.slice none 0 0)).run Try.prog w = .ok (.bool a.isNone) w := fun w a n c => Lib.run_eql_slice_nil w _ _ a n c 0 0 Try.underlying32
  have HX := Lib.hid hx
  have HL := Lib.hid hl
  rcases hx.2 with ⟨e0, h0⟩ | ⟨g, cap, cur, e0, _⟩
  · obtain ⟨A, c, l⟩ := x
    simp only [bvv, Value.slice.injEq] at e0
    obtain ⟨rfl, h1, rfl⟩ := e0
    obtain rfl : l = [] := List.eq_nil_of_length_eq_zero h1
    clear hx hl h0
    go_enter Try.func57, Try.ntmps57
    go_wp2
    go_ret
    exact ⟨noBV, rfl, Lib.hid rfl, Lib.hid (Own8.none_ _ _), Lib.hid (Below.refl _ _)⟩
  · obtain ⟨A, c, l⟩ := x
    simp only [bvv, Value.slice.injEq] at e0
    obtain ⟨rfl, _, rfl⟩ := e0
    have HH := Lib.hid hx.hol
    clear hx hl
    go_enter Try.func57, Try.ntmps57
    go_wp2_with (first
      | (at_builtin; refine wpList_app _ rfl _ _ _ rfl 5 i U w.heap.size (.slice (some ⟨w.heap.size, 0, none⟩) 0 0) 0 [] rfl (void_own w _ 1 _ (Nat.le_refl _)) _ l.length c l rfl rfl (HH.out.below ((Below.refl _ _).alloc (Nat.le_refl _) _)) (by have h9 : l.length ≤ 140737488355328 := HL.out; omega) (by simp) ?_
         intro v2' w2 hown2 hg2 hat2
         rw [List.nil_append, Nat.zero_add] at hown2
         obtain ⟨Ax, cx, rfl⟩ := own_sl hown2
         have hb2 : Below w.heap.size w w2 := ((Below.refl _ _).alloc (Nat.le_refl _) _).grown hg2 (by simp) (fun q hq => by have h0 : some w.heap.size = some q := hq; injection h0 with h0; omega)
         have HX2 := Lib.hid hown2
         have HB2 := Lib.hid hb2
         clear hown2 hg2 hat2 hb2))
    go_ret
    exact ⟨⟨Ax, cx, l⟩, rfl, Lib.hid rfl, HX2, HB2⟩
set_option maxRecDepth 20000 in
/-- A trace cloned, its bytes shared. -/
theorem cloneT (A : Option Addr) (c : Nat) (ts : List (Int × Int × BV)) (b : Nat) (w : World) (h : w.ownsRow b 77 3 (.slice A ts.length c) ts.length (ts.flatMap tc)) (hl : ts.length ≤ 1000000) :
    Calls Try.prog 56 #[.slice A ts.length c] w fun e w' => ∃ B d, e = .returned (.slice B ts.length d) ∧ Hid (w'.ownsRow w.heap.size 77 3 (.slice B ts.length d) ts.length (ts.flatMap tc)) ∧ Hid (Below w.heap.size w w') := by
  have H := Lib.hid h
  have HL := Lib.hid hl
  have hnil : ∀ (w : World) (a : Option Addr) (n c : Nat), (binOp .eql 47 (.slice a n c) (.slice none 0 0)).run Try.prog w = .ok (.bool a.isNone) w := fun w a n c => Lib.run_eql_slice_nil w _ _ a n c 0 0 Try.underlying47
  rcases h.2 with ⟨e0, h0⟩ | ⟨g, cap, cur, e0, _⟩
  · simp only [Value.slice.injEq] at e0
    obtain ⟨rfl, h1, rfl⟩ := e0
    obtain rfl : ts = [] := List.eq_nil_of_length_eq_zero h1
    clear h hl h0
    go_enter Try.func56, Try.ntmps56
    go_wp2
    go_ret
    exact ⟨none, 0, rfl, Lib.hid (World.ownsRow_nil _ _ _ _), Lib.hid (Below.refl _ _)⟩
  · simp only [Value.slice.injEq] at e0
    obtain ⟨rfl, _, rfl⟩ := e0
    clear h hl
    go_enter Try.func56, Try.ntmps56
    go_wp2_with (first
      | (at_builtin; refine wp_join rfl _ _ rfl rec_touch w.heap.size (.slice (some ⟨w.heap.size, 0, none⟩) 0 0) 0 [] rfl (void_own w _ 3 _ (Nat.le_refl _)) _ ts.length c (ts.flatMap tc) rfl (flat_len tc_len _) (own_src (own_kept H.out ((Below.refl _ _).alloc (Nat.le_refl _) _))) (flat_one tc_one _) (by have := HL.out; omega) (by simp) ?_
         intro v2' w2 hown2 hg2 hat2
         rw [List.nil_append, Nat.zero_add] at hown2
         obtain ⟨Ax, cx, rfl⟩ := own_sl hown2
         have hb2 : Below w.heap.size w w2 := ((Below.refl _ _).alloc (Nat.le_refl _) _).grown hg2 (by simp) (fun q hq => by have h0 : some w.heap.size = some q := hq; injection h0 with h0; omega)
         have HX2 := Lib.hid hown2
         have HB2 := Lib.hid hb2
         clear hown2 hg2 hat2 hb2))
    go_ret
    exact ⟨Ax, cx, rfl, HX2, HB2⟩
theorem tcs_set : ∀ (L : List (Int × Int × BV)) (k : Nat) (t : Int × Int × BV) (y : BV), L[k]? = some t → (L.flatMap tc).set (k * 3 + 2) (bvv y) = (L.set k (t.1, t.2.1, y)).flatMap tc
  | [], k, t, y, h => by simp at h
  | p :: r, 0, t, y, h => by
    simp at h
    subst h
    simp [tc]
  | p :: r, k + 1, t, y, h => by
    have h1 := tcs_set r k t y (by simpa using h)
    rw [List.set_cons_succ, List.flatMap_cons, List.flatMap_cons, ← h1]
    show ((tc p) ++ r.flatMap tc).set ((k + 1) * 3 + 2) _ = _
    rw [List.set_append_right _ _ (by rw [tc_len]; omega), tc_len]
    congr 2
    omega
/-- A trace told, with bytes of its own. -/
def CopiedP (w : World) (ts : List (Int × Int × BV)) (e : Ending) (w' : World) : Prop := ∃ B d xs, e = .returned (.slice B ts.length d) ∧ Hid (xs.length = ts.length ∧ xs.map tv = ts.map tv) ∧ Hid (TrAt w' B xs) ∧ Hid (Below w.heap.size w w')
set_option maxRecDepth 20000 in
set_option maxHeartbeats 1000000 in
theorem copied_any (A : Option Addr) (c : Nat) (ts : List (Int × Int × BV)) (b : Nat) (w : World) (h : w.ownsRow b 77 3 (.slice A ts.length c) ts.length (ts.flatMap tc)) (hm : ∀ t ∈ ts, Own8 b w t.2.2 ∧ t.2.2.l.length ≤ 140737488355328) (hl : ts.length ≤ 1000000) (hb : b ≤ w.heap.size) :
    Calls Try.prog 49 #[.slice A ts.length c] w (CopiedP w ts) := by
  have H := Lib.hid h
  have HM := Lib.hid hm
  have HL := Lib.hid hl
  have HB := Lib.hid hb
  clear h hm hl hb
  go_enter Try.func49, Try.ntmps49
  go_wp2_with (go_at_call 56; refine (cloneT A c ts b w H.out HL.out).mono ?_; rintro e1 w1 ⟨B, d, rfl, HO1, HB1⟩)
  go_loopw [9] (fun x wr => ∃ (k : Nat) (L : List (Int × Int × BV)), k ≤ ts.length ∧ x = .int .i64 (k : Int) ∧ Hid (L.length = ts.length ∧ L.map tv = ts.map tv) ∧ Hid (∀ j, k ≤ j → L[j]? = ts[j]?) ∧ Hid (wr.ownsRow w.heap.size 77 3 (.slice B ts.length d) ts.length (L.flatMap tc)) ∧
    Hid (∀ t ∈ L, Own8 b wr t.2.2 ∧ t.2.2.l.length ≤ 140737488355328) ∧ Hid (Below w.heap.size w wr)) (fun x _ => ts.length - (intOf x).toNat)
  case atStart => exact ⟨0, ts, by omega, rfl, Lib.hid ⟨rfl, rfl⟩, Lib.hid (fun _ _ => rfl), HO1, Lib.hid (fun t ht => ⟨(HM.out t ht).1.below HB1.out, (HM.out t ht).2⟩), HB1⟩
  case round =>
    obtain ⟨k, L, hk, rfl, HLL, HLK, HO, HLM, HBR⟩ := hrel
    have hkw : IntKind.i64.wrap ((k : Int) + 1) = (k : Int) + 1 := by rw [IntKind.wrap_i64]; have := HL.out; omega
    by_cases hlt : k < ts.length
    · have h1i : (k : Int) < (ts.length : Int) := by omega
      have hk0 : (0 : Int) ≤ (k : Int) := by omega
      obtain ⟨t, ht⟩ : ∃ t, L[k]? = some t := ⟨_, List.getElem?_eq_getElem (by have := HLL.out.1; omega)⟩
      obtain ⟨g, d', e2, _, _, hc⟩ := own_rec tc_len HO.out ht (by omega)
      simp only [Value.slice.injEq] at e2
      obtain ⟨rfl, _, rfl⟩ := e2
      have d2 := hc 2 _ rfl
      unfold bvv at d2
      have HT := Lib.hid ht
      have HTM := Lib.hid (HLM.out t (List.mem_of_getElem? ht))
      have HLT := Lib.hid hlt
      clear hc ht hlt hk
      go_wp2_with (go_at_call 57; refine (clone8 t.2.2 b wr HTM.out.1 HTM.out.2).mono ?_; rintro e5 w5 ⟨y, rfl, HY, HYO, HB5⟩
                   have HO5 := Lib.hid (own_kept HO.out HB5.out)
                   obtain ⟨g', d', e2, _, _, hc⟩ := own_rec tc_len HO5.out HT.out (by omega)
                   simp only [Value.slice.injEq, Option.some.injEq, Addr.mk.injEq] at e2
                   obtain ⟨⟨rfl, _⟩, _, rfl⟩ := e2
                   have d25 := hc 2 _ rfl
                   unfold bvv at d25
                   have f25 := HO5.out.frozenAt (k * 3 + 2)
                   have hs := (HO5.out.stored (k * 3 + 2) (bvv y)).1
                   rw [tcs_set L k t y HT.out] at hs
                   have hgs := grown_set w5 ⟨g, k * 3 + 2, none⟩ (bvv y)
                   have hN : NotT w5 (some g) 5 := NotT.own HO5.out (by decide)
                   have HS := Lib.hid hs
                   have HSM := Lib.hid (p := ∀ q ∈ L.set k (t.1, t.2.1, y), Own8 b (w5.setCell ⟨g, k * 3 + 2, none⟩ (bvv y)) q.2.2 ∧ q.2.2.l.length ≤ 140737488355328) (fun q hq => by
                     rcases List.mem_or_eq_of_mem_set hq with hq | rfl
                     · exact ⟨((HLM.out q hq).1.below HB5.out).turn hgs hN, (HLM.out q hq).2⟩
                     · exact ⟨(HYO.out.lower (Nat.le_trans HB.out HBR.out.size)).turn hgs hN, by rw [HY.out]; exact HTM.out.2⟩)
                   have HSB := Lib.hid (p := Below w.heap.size w (w5.setCell ⟨g, k * 3 + 2, none⟩ (bvv y))) ((below_nxt HB5.out HBR.out).setCell (p := ⟨g, k * 3 + 2, none⟩) ((HO.out.lt g rfl).1) (bvv y))
                   unfold bvv at HS HSM HSB
                   clear hc hs hgs hN)
      go_roundw
      case rel => exact ⟨k + 1, L.set k (t.1, t.2.1, y), HLT.out, by go_num, Lib.hid ⟨by rw [List.length_set]; exact HLL.out.1, by
        rw [List.map_set, ← HLL.out.2]
        refine List.ext_getElem? fun j => ?_
        by_cases e : j = k
        · subst e
          rw [List.getElem?_set_self (by rw [List.length_map]; exact (List.getElem?_eq_some_iff.1 HT.out).1), List.getElem?_map, HT.out]
          simp [tv, HY.out]
        · rw [List.getElem?_set_ne (by omega)]⟩, Lib.hid (fun j hj => by rw [List.getElem?_set_ne (by omega)]; exact HLK.out j (by omega)), HS, HSM, HSB⟩
      case measure => have := HLT.out; simp [intOf]; omega
    · have h1i : ¬ (k : Int) < (ts.length : Int) := by omega
      clear hlt hk
      go_wp2
      go_ret
      refine ⟨B, d, L, rfl, HLL, Lib.hid ⟨?_, fun t ht => ⟨(HLM.out t ht).1.hol, by have := (HLM.out t ht).2; omega⟩⟩, HBR⟩
      by_cases hn : L = []
      · exact .inl hn
      · obtain ⟨t, ht⟩ : ∃ t, L[0]? = some t := ⟨_, List.getElem?_eq_getElem (by cases L with | nil => exact absurd rfl hn | cons _ _ => simp)⟩
        obtain ⟨g, d', e2, _, _, _⟩ := own_rec tc_len HO.out ht (by omega)
        simp only [Value.slice.injEq] at e2
        obtain ⟨rfl, _, rfl⟩ := e2
        refine .inr ⟨g, 0, rfl, fun j q hq i u hu => ?_⟩
        obtain ⟨g', d', e2, _, _, hc⟩ := own_rec tc_len HO.out hq (by omega)
        simp only [Value.slice.injEq, Option.some.injEq, Addr.mk.injEq] at e2
        obtain ⟨⟨rfl, _⟩, _, _⟩ := e2
        rw [Nat.zero_add]
        exact hc i u hu
theorem PD.trace {b : Nat} {w : World} {g : Nat} {F : List Nat} {ss : List BV} {rs : List (Nat × BV)} {E : Nat → List BV} {ts : List (Int × Int × BV)} (h : PD b w g F ss rs E ts) (ht : ts.length ≤ 1000000) (hs : ∀ t ∈ ts, t.2.2.l.length ≤ 140737488355328) :
    Calls Try.prog 28 #[.pointer (some ⟨g, 0, none⟩)] w (CopiedP w ts) := by
  obtain ⟨v1, v2, gm, v4, ev, n, hn, h⟩ := h
  obtain ⟨A4, k4, rfl⟩ := own_sl h.o4
  have H := Lib.hid h
  have HT := Lib.hid ht
  have HS := Lib.hid hs
  have c3 := h.c3
  have HB := Lib.hid (p := b ≤ w.heap.size) (by have h1 := h.fl _ h.fg; omega)
  clear h ht hs hn
  go_enter Try.func28, Try.ntmps28
  go_wp2_with (go_at_call 49; refine (copied_any A4 k4 ts b w H.out.o4 (fun t ht => ⟨H.out.m4 t ht, HS.out t ht⟩) HT.out HB.out).mono ?_; rintro e1 w1 ⟨B, d, xs, rfl, h1, h2, h3⟩)
  go_ret
  exact ⟨B, d, xs, rfl, h1, h2, h3⟩
end Go.Proofs.Ytnajlineipapdaa
/- The program's disk by its bytes: what each call makes of them. Conditions: the disk lies there. -/
set_option linter.unusedVariables false
namespace Go.Proofs.Ytnajlineipapdaa
open Go.RowKit

/-- The program's disk by its bytes. -/
def PB (b : Nat) (w : World) (g : Nat) (F : List Nat) (S : List (List UInt8)) (R : List (Nat × List UInt8)) (EE : Nat → List (List UInt8)) (T : List (Int × Int × List UInt8)) : Prop :=
  ∃ ss rs E ts, PD b w g F ss rs E ts ∧ ss.map BV.l = S ∧ rs.map wpl = R ∧ (∀ a, a < 1024 → (E a).map BV.l = EE a) ∧ ts.map tv = T
/-- .. behind a call. -/
def PTo (b : Nat) (w w' : World) (g : Nat) (F : List Nat) (S : List (List UInt8)) (R : List (Nat × List UInt8)) (EE : Nat → List (List UInt8)) (T : List (Int × Int × List UInt8)) : Prop :=
  ∃ F', Hid (PB b w' g F' S R EE T) ∧ Hid (Chg F w w') ∧ Hid (Wider w F F')
/-- What of an adversary's is refused. -/
def TampRef (n : Nat) (k z m : Int) : Prop := (z < 0 ∨ (n : Int) ≤ z) ∨ m < 0 ∨ (k = 2 ∧ (n : Int) ≤ m) ∨ (k ≠ 1 ∧ k ≠ 2 ∧ k ≠ 3 ∧ k ≠ 4)
def tampS (S : List (List UInt8)) (R : List (Nat × List UInt8)) (EE : Nat → List (List UInt8)) (k z m : Int) (l : List UInt8) : List (List UInt8) :=
  if k = 4 then S else S.set z.toNat (if k = 1 then pad l else if k = 2 then nowB S R m.toNat else oldB EE z.toNat m.toNat)
def tampR (R : List (Nat × List UInt8)) (k z : Int) : List (Nat × List UInt8) := if k = 4 then dropB R z.toNat else goneB z.toNat R
section
variable {b : Nat} {w : World} {g : Nat} {F : List Nat} {S : List (List UInt8)} {R : List (Nat × List UInt8)} {EE : Nat → List (List UInt8)} {T : List (Int × Int × List UInt8)}
theorem PB.kept {w' : World} (h : PB b w g F S R EE T) (hb : Below w.heap.size w w') : PB b w' g F S R EE T := by
  obtain ⟨ss, rs, E, ts, h, h1, h2, h3, h4⟩ := h
  exact ⟨ss, rs, E, ts, h.kept hb, h1, h2, h3, h4⟩
theorem PB.chg {G : List Nat} {w' : World} (h : PB b w g F S R EE T) (hc : Chg G w w') (hG : ∀ k ∈ G, k ∉ F) (h8 : NoBytes w G) : PB b w' g F S R EE T := by
  obtain ⟨ss, rs, E, ts, h, h1, h2, h3, h4⟩ := h
  exact ⟨ss, rs, E, ts, h.chg hc hG h8, h1, h2, h3, h4⟩
theorem PB.lt (h : PB b w g F S R EE T) : ∀ k ∈ F, b ≤ k ∧ k < w.heap.size := by
  obtain ⟨ss, rs, E, ts, h, _⟩ := h
  exact h.lt
theorem PB.noBytes (h : PB b w g F S R EE T) : NoBytes w F := by
  obtain ⟨ss, rs, E, ts, h, _⟩ := h
  exact h.noBytes
theorem PB.blocks (h : PB b w g F S R EE T) : Calls Try.prog 12 #[.pointer (some ⟨g, 0, none⟩)] w fun e w' => e = .returned (.int .i64 (S.length : Int)) ∧ w' = w := by
  obtain ⟨ss, rs, E, ts, h, rfl, rfl, h3, rfl⟩ := h
  rw [List.length_map]
  exact h.blocks
theorem PB.waiting (h : PB b w g F S R EE T) : Calls Try.prog 26 #[.pointer (some ⟨g, 0, none⟩)] w fun e w' => e = .returned (.int .i64 (R.length : Int)) ∧ w' = w := by
  obtain ⟨ss, rs, E, ts, h, rfl, rfl, h3, rfl⟩ := h
  rw [List.length_map]
  exact h.waiting
theorem PB.touched (h : PB b w g F S R EE T) : Calls Try.prog 29 #[.pointer (some ⟨g, 0, none⟩)] w fun e w' => e = .returned (.int .i64 (T.length : Int)) ∧ w' = w := by
  obtain ⟨ss, rs, E, ts, h, rfl, rfl, h3, rfl⟩ := h
  rw [List.length_map]
  exact h.touched
theorem PB.read_out (h : PB b w g F S R EE T) (z : Int) (hz : z < 0 ∨ (S.length : Int) ≤ z) :
    Calls Try.prog 13 #[.pointer (some ⟨g, 0, none⟩), .int .i64 z] w fun e w' => e = .returned (.tuple #[.slice none 0 0, .int .i64 201]) ∧ w' = w := by
  obtain ⟨ss, rs, E, ts, h, rfl, rfl, h3, rfl⟩ := h
  rw [List.length_map] at hz
  exact h.read_out z hz
theorem PB.peek_out (h : PB b w g F S R EE T) (z : Int) (hz : z < 0 ∨ (S.length : Int) ≤ z) :
    Calls Try.prog 15 #[.pointer (some ⟨g, 0, none⟩), .int .i64 z] w fun e w' => e = .returned (.tuple #[.slice none 0 0, .int .i64 201]) ∧ w' = w := by
  obtain ⟨ss, rs, E, ts, h, rfl, rfl, h3, rfl⟩ := h
  rw [List.length_map] at hz
  exact h.peek_out z hz
theorem PB.write_out (h : PB b w g F S R EE T) (z : Int) (A : Option Addr) (m c : Nat) (hz : (z < 0 ∨ (S.length : Int) ≤ z) ∨ m ≠ 256) :
    Calls Try.prog 18 #[.pointer (some ⟨g, 0, none⟩), .int .i64 z, .slice A m c] w fun e w' => e = .returned (.int .i64 201) ∧ w' = w := by
  obtain ⟨ss, rs, E, ts, h, rfl, rfl, h3, rfl⟩ := h
  rw [List.length_map] at hz
  exact h.write_out z A m c hz
theorem PB.peek (h : PB b w g F S R EE T) (a : Nat) (ha : a < S.length) (hr : R.length ≤ 1000000) :
    Calls Try.prog 15 #[.pointer (some ⟨g, 0, none⟩), .int .i64 (a : Int)] w fun e w' => ToldX w (nowB S R a) e w' ∧ Hid (Below w.heap.size w w') := by
  obtain ⟨ss, rs, E, ts, h, rfl, rfl, h3, rfl⟩ := h
  rw [List.length_map] at ha hr
  rw [← now_bytes]
  exact h.peek a ha hr
theorem PB.now_len (h : PB b w g F S R EE T) (a : Nat) (ha : a < S.length) : (nowB S R a).length = 256 := by
  obtain ⟨ss, rs, E, ts, h, rfl, rfl, h3, rfl⟩ := h
  rw [List.length_map] at ha
  rw [← now_bytes]
  exact (h.now8 a ha).2
theorem PB.barrier (h : PB b w g F S R EE T) (hr : R.length ≤ 1000000) (ht : T.length ≤ 1000000) :
    Calls Try.prog 20 #[.pointer (some ⟨g, 0, none⟩)] w fun e w' => e = .returned (.tuple #[]) ∧ PTo b w w' g F (syncB (fun _ => true) R S R.length) [] EE (T ++ [(3, 0, [])]) := by
  obtain ⟨ss, rs, E, ts, h, rfl, rfl, h3, rfl⟩ := h
  rw [List.length_map] at hr ht ⊢
  refine (h.barrier hr ht).mono ?_
  rintro e w' ⟨rfl, F', h1, h2, h4⟩
  exact ⟨rfl, F', Lib.hid ⟨_, _, _, _, h1.out, sync_bytes _ _ _ _, rfl, h3, map_snoc _ _ _⟩, h2, h4⟩
theorem PB.crash (h : PB b w g F S R EE T) (hr : R.length ≤ 1000000) (K : Option Addr) (m kc : Nat) (kl : List Bool) (hm : m = kl.length) (hK : HolV w K (kl.map Value.bool)) (hKn : ∀ g0 o, K = some ⟨g0, o, none⟩ → kl.map Value.bool ≠ [] → g0 ∉ F) :
    Calls Try.prog 22 #[.pointer (some ⟨g, 0, none⟩), .slice K m kc] w fun e w' => e = .returned (.tuple #[]) ∧ PTo b w w' g F (syncB (fun i => kl.getD i false) R S R.length) [] EE T := by
  obtain ⟨ss, rs, E, ts, h, rfl, rfl, h3, rfl⟩ := h
  rw [List.length_map] at hr ⊢
  refine (h.crash hr K m kc kl hm hK hKn).mono ?_
  rintro e w' ⟨rfl, F', h1, h2, h4⟩
  exact ⟨rfl, F', Lib.hid ⟨_, _, _, _, h1.out, sync_bytes _ _ _ _, rfl, h3, rfl⟩, h2, h4⟩
theorem PB.tamper_out (h : PB b w g F S R EE T) (k z m : Int) (A : Option Addr) (len c : Nat) (hz : TampRef S.length k z m) :
    Calls Try.prog 24 #[.pointer (some ⟨g, 0, none⟩), .agg (tampC k z m A len c).toArray] w fun e w' => e = .returned (.int .i64 201) ∧ Hid (Below w.heap.size w w') := by
  obtain ⟨ss, rs, E, ts, h, rfl, rfl, h3, rfl⟩ := h
  unfold TampRef at hz
  rw [List.length_map] at hz
  exact h.tamper_out k z m A len c hz
theorem PB.tamper_in (h : PB b w g F S R EE T) (hr : R.length ≤ 1000000) (ht : T.length ≤ 1000000) (hS : S.length ≤ 1024) (k z m : Int) (A : Option Addr) (len c : Nat) (l : List UInt8) (hlen : len = l.length) (hA : Hol w A l) (hz : ¬ TampRef S.length k z m) (hm : m ≤ 9223372036854775807) :
    Calls Try.prog 24 #[.pointer (some ⟨g, 0, none⟩), .agg (tampC k z m A len c).toArray] w fun e w' => e = .returned (.int .i64 0) ∧ PTo b w w' g F (tampS S R EE k z m l) (tampR R k z) EE T := by
  obtain ⟨ss, rs, E, ts, h, rfl, rfl, h3, rfl⟩ := h
  unfold TampRef at hz
  rw [List.length_map] at hr ht hz hS
  obtain ⟨a, rfl⟩ := Int.eq_ofNat_of_zero_le (by omega : 0 ≤ z)
  obtain ⟨q, rfl⟩ := Int.eq_ofNat_of_zero_le (by omega : 0 ≤ m)
  have ha : a < ss.length := by omega
  have hk : k = 1 ∨ k = 2 ∨ k = 3 ∨ k = 4 := by omega
  rcases hk with rfl | rfl | rfl | rfl
  · refine (h.tamper_set hr ht a ha q A len c l hlen hA).mono ?_
    rintro e w' ⟨rfl, x, hx, _, F', h1, h2, h4⟩
    refine ⟨rfl, F', Lib.hid ⟨_, _, _, _, h1.out, ?_, gone_bytes _ _, h3, rfl⟩, h2, h4⟩
    rw [List.map_set, hx.out]
    rfl
  · refine (h.tamper_copy hr ht a ha q (by omega) A len c).mono ?_
    rintro e w' ⟨rfl, x, hx, _, F', h1, h2, h4⟩
    refine ⟨rfl, F', Lib.hid ⟨_, _, _, _, h1.out, ?_, gone_bytes _ _, h3, rfl⟩, h2, h4⟩
    rw [List.map_set, hx.out, now_bytes]
    rfl
  · refine (h.tamper_old hr ht a ha q (by omega) A len c).mono ?_
    rintro e w' ⟨rfl, x, hx, _, F', h1, h2, h4⟩
    refine ⟨rfl, F', Lib.hid ⟨_, _, _, _, h1.out, ?_, gone_bytes _ _, h3, rfl⟩, h2, h4⟩
    rw [List.map_set, hx.out, old_bytes (h3 a (by omega))]
    rfl
  · refine (h.tamper_drop hr ht a ha q A len c).mono ?_
    rintro e w' ⟨rfl, F', h1, h2, h4⟩
    exact ⟨rfl, F', Lib.hid ⟨_, _, _, _, h1.out, rfl, drop_bytes _ _, h3, rfl⟩, h2, h4⟩
theorem PB.trace (h : PB b w g F S R EE T) (ht : T.length ≤ 1000000) (hs : ∀ t ∈ T, t.2.2.length ≤ 256) :
    Calls Try.prog 28 #[.pointer (some ⟨g, 0, none⟩)] w fun e w' => ∃ B n d xs, e = .returned (.slice B n d) ∧ Hid (n = xs.length ∧ xs.map tv = T) ∧ Hid (TrAt w' B xs) ∧ Hid (Below w.heap.size w w') := by
  obtain ⟨ss, rs, E, ts, h, rfl, rfl, h3, rfl⟩ := h
  rw [List.length_map] at ht
  refine (h.trace ht (fun t h9 => Nat.le_trans (hs (tv t) (List.mem_map_of_mem h9)) (by decide))).mono ?_
  rintro e w' ⟨B, d, xs, rfl, h1, h2, h4⟩
  exact ⟨B, _, d, xs, rfl, Lib.hid ⟨h1.out.1.symm, h1.out.2⟩, h2, h4⟩
end
end Go.Proofs.Ytnajlineipapdaa
