/- A desk as it lies: its cells, and what it leans on. No conditions but those named. -/
import Derived.Test.YtfbfeplegdpemaaGreatMgKh
import Derived.Test.YtfbfeplegdpemaaGreatMgGv
import Derived.Test.YtfbfeplegdpemaaGreatMgIg
import Derived.Deep.MidRow
import Derived.Test.YtfbfeplegdpemaaGreatMgIa
import Derived.Test.YtfbfeplegdpemaaGreatMgMem
import Derived.Test.YtfbfeplegdpemaaGreatMgRBy
import Derived.Laws.StructEq
import Derived.Deep.RegionHeld
import Derived.Laws.IdiomCopy
set_option linter.unusedVariables false
set_option maxRecDepth 20000
namespace Go.Proofs.YtfbfeplegdpemaaGreat
open Go.RowKit

/-! A part of a row, loaded and stored. -/
def setL : List Value → Nat → List Value → List Value
  | L, _, [] => L
  | L, o, v :: r => setL (L.set o v) (o + 1) r
theorem Row.sets {g : Nat} {t : TypeId} : ∀ (vs : List Value) (o : Nat) {w : World} {L : List Value}, Row w g t L → Row (w.setCells g o vs) g t (setL L o vs)
  | [], _, _, _, h => h
  | v :: r, o, w, L, h => Row.sets r (o + 1) (h.put o v)
theorem setL_mid (B : List Value) : ∀ (vs M A : List Value), M.length = vs.length → setL (A ++ (M ++ B)) A.length vs = A ++ (vs ++ B)
  | [], M, A, h => by
    rw [List.length_nil] at h
    rw [List.eq_nil_of_length_eq_zero h]
    rfl
  | v :: r, [], A, h => by simp at h
  | v :: r, m :: M, A, h => by
    have h1 := setL_mid B r M (A ++ [v]) (by simpa using h)
    have h2 : (A ++ (m :: M ++ B)).set A.length v = A ++ [v] ++ (M ++ B) := by
      rw [List.set_append_right _ _ (Nat.le_refl _)]
      simp
    unfold setL
    rw [h2]
    rw [List.length_append, List.length_singleton] at h1
    rw [h1]
    simp
theorem grown_sets (g : Nat) : ∀ (vs : List Value) (o : Nat) (w : World), w.grownBy (w.setCells g o vs) (some g)
  | [], _, w => ⟨rfl, rfl, rfl, Nat.le_refl _, fun _ _ _ => rfl⟩
  | v :: r, o, w => grown_trans (grown_set w ⟨g, o, none⟩ v) (grown_sets g r (o + 1) _)
section
variable {P : Program} {ops : Array Oper} {rest : List Oper} {o : Oper} {a : Act} {w : World} {Q : Exit → Act → World → Prop} {K : Act → World → Prop}
theorem Row.rng {g off : Nat} {t : TypeId} {A M B : List Value} (h : Row w g t (A ++ (M ++ B))) (ha : A.length = off) : w.rangeAt g off M := fun j v hv => by
  subst ha
  have hj : j < M.length := (List.getElem?_eq_some_iff.1 hv).1
  rw [h.cell, List.getElem?_append_right (by omega), Nat.add_sub_cancel_left, List.getElem?_append_left hj]
  exact hv
/-- A part of a row, loaded. -/
theorem step_load_at (hgd : o.guard = none) (ty : TypeId) (x : Operand) (ho : o.op = .load ty x) (g off : Nat) (hx : a.eval x = .pointer (some ⟨g, off, none⟩)) (t : TypeId) (A cs B : List Value) (dd : TypeDesc)
    (hr : Row w g t (A ++ (cs ++ B))) (ha : A.length = off) (hu : P.underlying ty = some dd) (hdd : dd.isRow = true) (hi : (P.info? ty).map (·.size) = some cs.length)
    (h : wpList P ops Q rest (a.put o.dst (.agg cs.toArray)) w) : wpList P ops Q (o :: rest) a w :=
  wpList_load_mid hgd ty x ho g off hx cs dd (hr.rng ha) hu hdd hi h
theorem row_store {g off : Nat} {t : TypeId} {A old cs B : List Value} (hr : Row w g t (A ++ (old ++ B))) (ha : A.length = off) (hl : old.length = cs.length) : Row (w.setCells g off cs) g t (A ++ (cs ++ B)) := by
  have h := hr.sets cs off
  subst ha
  rwa [setL_mid B cs old A hl] at h
/-- A part of a row, stored. -/
theorem k_store_at (ty : TypeId) (x y : Operand) (ho : o.op = .store ty x y) (g off : Nat) (hx : a.eval x = .pointer (some ⟨g, off, none⟩)) (t : TypeId) (A old cs B : List Value) (hy : a.eval y = .agg cs.toArray)
    (hr : Row w g t (A ++ (old ++ B))) (ha : A.length = off) (hl : old.length = cs.length) (hi : (P.info? ty).map (·.size) = some cs.length) (h1 : ∀ v ∈ cs, v.oneCell' = true)
    (h : ∀ w', Row w' g t (A ++ (cs ++ B)) → w.grownBy w' (some g) → K (a.put o.dst undef) w') : Oper.wp P o a w K Q := by
  refine wp_store_mid ty x y ho g off cs.toArray hx hy ?_ (by simpa using hi) (all_oneCell_toArray h1) ?_
  · have h2 := hr.is_there off cs.length (by subst ha; simp; omega)
    simpa using h2
  · exact h _ (by simpa using row_store hr ha hl) (grown_sets g _ off w)
theorem step_store_at (hgd : o.guard = none) (ty : TypeId) (x y : Operand) (ho : o.op = .store ty x y) (g off : Nat) (hx : a.eval x = .pointer (some ⟨g, off, none⟩)) (t : TypeId) (A old cs B : List Value) (hy : a.eval y = .agg cs.toArray)
    (hr : Row w g t (A ++ (old ++ B))) (ha : A.length = off) (hl : old.length = cs.length) (hi : (P.info? ty).map (·.size) = some cs.length) (h1 : ∀ v ∈ cs, v.oneCell' = true)
    (h : ∀ w', Row w' g t (A ++ (cs ++ B)) → w.grownBy w' (some g) → wpList P ops Q rest (a.put o.dst undef) w') : wpList P ops Q (o :: rest) a w :=
  wpList_plain hgd fun _ hK => k_store_at ty x y ho g off hx t A old cs B hy hr ha hl hi h1 (fun w' h2 h3 => hK _ _ (h w' h2 h3))
end

/-! A desk's cells. -/
def bkcs (rd : Bool) (S S0 : Sup) : List Value := .bool rd :: (S.cs ++ S0.cs)
theorem bkcs_len (rd : Bool) (S S0 : Sup) : (bkcs rd S S0).length = 775 := by simp [bkcs, Sup.cs_len]
theorem bkcs_one (rd : Bool) (S S0 : Sup) : ∀ v ∈ bkcs rd S S0, v.oneCell' = true := by
  intro v hv
  unfold bkcs at hv
  rcases List.mem_cons.1 hv with rfl | hv
  · rfl
  · rcases List.mem_append.1 hv with hv | hv
    · exact S.cs_one v hv
    · exact S0.cs_one v hv
def dtl (wt : Bool) (la : Int) : List Value := [.bool wt, .int .i64 la]
def dhd (gv N : Nat) : List Value := [.pointer (some ⟨gv, 0, none⟩), .int .i64 (N : Int)]
def dcs (gv N : Nat) (bk ah : List Value) (wt : Bool) (la : Int) : List Value := dhd gv N ++ (bk ++ (ah ++ dtl wt la))
section
variable {gv N : Nat} {bk ah : List Value} {wt : Bool} {la : Int} {rd : Bool} {S S0 : Sup}
theorem dcs_S : dcs gv N (bkcs rd S S0) ah wt la = (dhd gv N ++ [.bool rd]) ++ (S.cs ++ (S0.cs ++ (ah ++ dtl wt la))) := by simp [dcs, bkcs]
theorem dcs_ah : dcs gv N bk ah wt la = (dhd gv N ++ bk) ++ (ah ++ dtl wt la) := by simp [dcs]
theorem dcs_tl : dcs gv N bk ah wt la = (dhd gv N ++ (bk ++ ah)) ++ (dtl wt la ++ []) := by simp [dcs]
theorem dcs_2 : (dcs gv N (bkcs rd S S0) ah wt la)[2]? = some (.bool rd) := rfl
theorem dcs_wt (hb : bk.length = 775) (ha : ah.length = 775) : (dcs gv N bk ah wt la)[1552]? = some (.bool wt) := by
  rw [dcs_tl, List.getElem?_append_right (by simp [dhd, hb, ha])]
  simp [dhd, hb, ha, dtl]
theorem dcs_la (hb : bk.length = 775) (ha : ah.length = 775) : (dcs gv N bk ah wt la)[1553]? = some (.int .i64 la) := by
  rw [dcs_tl, List.getElem?_append_right (by simp [dhd, hb, ha])]
  simp [dhd, hb, ha, dtl]
theorem dcs_set_wt (hb : bk.length = 775) (ha : ah.length = 775) (z : Bool) : (dcs gv N bk ah wt la).set 1552 (.bool z) = dcs gv N bk ah z la := by
  rw [dcs_tl, dcs_tl, List.set_append_right _ _ (by simp [dhd, hb, ha])]
  simp [dhd, hb, ha, dtl]
theorem dcs_set_la (hb : bk.length = 775) (ha : ah.length = 775) (z : Int) : (dcs gv N bk ah wt la).set 1553 (.int .i64 z) = dcs gv N bk ah wt z := by
  rw [dcs_tl, dcs_tl, List.set_append_right _ _ (by simp [dhd, hb, ha])]
  simp [dhd, hb, ha, dtl]
theorem dcs_i {j : Nat} (hj : j < 65) : (dcs gv N (bkcs rd S S0) ah wt la)[260 + j]? = some (.int .i64 (S.i j)) := by
  rw [dcs_S, List.getElem?_append_right (by simp [dhd]; omega)]
  rw [List.getElem?_append_left (by simp [dhd, Sup.cs_len]; omega)]
  have := S.c_i hj
  rw [← this]
  congr 1
  simp [dhd]
  omega
end
theorem info_bk : (Tryz.prog.info? 86).map (·.size) = some 775 := by kernel_rfl
theorem info_bkcs (bk : List Value) (h : bk.length = 775) : (Tryz.prog.info? 86).map (·.size) = some bk.length := by rw [h]; exact info_bk
def zl : List Value := .pointer none :: .int .i64 0 :: (bkcs false sup0 sup0 ++ (bkcs false sup0 sup0 ++ dtl false 0))
theorem zero_desk : ∃ it, Tryz.prog.info? 88 = some it ∧ ∃ z, it.zero = some z ∧ z.cells = zl.toArray := by
  have h : (Tryz.prog.info? 88).map (fun it => it.zero.map (·.cells)) = some (some zl.toArray) := by kernel_rfl
  cases hi : Tryz.prog.info? 88 with
  | none => rw [hi] at h; cases h
  | some it =>
    rw [hi] at h
    simp only [Option.map_some, Option.some.injEq] at h
    obtain ⟨z, h1, h2⟩ := Option.map_eq_some_iff.1 h
    exact ⟨it, rfl, z, h1, h2⟩
theorem places_desk : (Tryz.prog.fieldsOf 88).toList.mapM (fun f => (Tryz.prog.info? f.type).map fun i => (f.offset, i.size)) = some [(0, 1), (1, 1), (2, 775), (777, 775), (1552, 1), (1553, 1)] := by kernel_rfl
theorem fill_one {place : Nat → Option (Nat × Nat)} {cells : Array Value} {i off : Nat} {v : Value} {rest : List (Nat × Value)} (hp : place i = some (off, 1)) (hv : v.cells = #[v]) (ho : off < cells.size) :
    Instr.fill place cells ((i, v) :: rest) = Instr.fill place (cells.setIfInBounds off v) rest := by
  rw [Instr.fill, hp]
  simp only [hv]
  rw [if_neg (by simp; omega)]
  simp
theorem built_desk (gv N : Nat) : Tryz.prog.built 88 [(0, .pointer (some ⟨gv, 0, none⟩)), (1, .int .i64 (N : Int)), (5, .int .i64 (-1))] = some (dcs gv N (bkcs false sup0 sup0) (bkcs false sup0 sup0) false (-1)).toArray := by
  obtain ⟨it, hi, z, hz, hc⟩ := zero_desk
  have hu : Tryz.prog.underlying 88 = some (.struct (Tryz.prog.fieldsOf 88)) := by kernel_rfl
  have hl : zl.length = 1554 := by simp [zl, bkcs_len, dtl]
  unfold Program.built
  rw [hi, hu]
  simp only [hz, places_desk, hc]
  rw [fill_one (off := 0) rfl rfl (by simp [hl]), fill_one (off := 1) rfl rfl (by simp [hl]), fill_one (off := 1553) rfl rfl (by simp [hl])]
  simp only [Instr.fill, List.setIfInBounds_toArray]
  have e : (zl.set 0 (.pointer (some ⟨gv, 0, none⟩))).set 1 (.int .i64 (N : Int)) = dcs gv N (bkcs false sup0 sup0) (bkcs false sup0 sup0) false 0 := by
    unfold zl dcs dhd
    rw [List.set_cons_zero, List.set_cons_succ, List.set_cons_zero]
    rfl
  rw [e, dcs_set_la (bkcs_len _ _ _) (bkcs_len _ _ _)]
theorem foldl_sets (off : Nat) : ∀ (vs : List Value) (k : Nat) (L : List Value), (vs.zipIdx k).foldl (fun (cs : Array Value) (x : Value × Nat) => cs.setIfInBounds (off + x.2) x.1) L.toArray = (setL L (off + k) vs).toArray
  | [], _, _ => rfl
  | v :: r, k, L => by
    rw [List.zipIdx_cons, List.foldl_cons]
    simp only [List.setIfInBounds_toArray]
    rw [foldl_sets off r (k + 1) (L.set (off + k) v)]
    rfl
theorem fill_part {place : Nat → Option (Nat × Nat)} {A old B vs : List Value} {i off n : Nat} {v : Value} {rest : List (Nat × Value)} (hp : place i = some (off, n)) (hv : v.cells = vs.toArray) (hn : vs.length = n) (hA : A.length = off) (ho : old.length = n) :
    Instr.fill place (A ++ (old ++ B)).toArray ((i, v) :: rest) = Instr.fill place (A ++ (vs ++ B)).toArray rest := by
  subst hA hn
  rw [Instr.fill, hp]
  simp only [hv]
  rw [if_neg (by simp; omega)]
  have h := foldl_sets A.length vs 0 (A ++ (old ++ B))
  rw [Nat.add_zero, setL_mid B vs old A ho] at h
  rw [← h]
  simp
theorem zero_book : ∃ it, Tryz.prog.info? 86 = some it ∧ ∃ z, it.zero = some z ∧ z.cells = (bkcs false sup0 sup0).toArray := by
  have h : (Tryz.prog.info? 86).map (fun it => it.zero.map (·.cells)) = some (some (bkcs false sup0 sup0).toArray) := by kernel_rfl
  cases hi : Tryz.prog.info? 86 with
  | none => rw [hi] at h; cases h
  | some it =>
    rw [hi] at h
    simp only [Option.map_some, Option.some.injEq] at h
    obtain ⟨z, h1, h2⟩ := Option.map_eq_some_iff.1 h
    exact ⟨it, rfl, z, h1, h2⟩
theorem places_book : (Tryz.prog.fieldsOf 86).toList.mapM (fun f => (Tryz.prog.info? f.type).map fun i => (f.offset, i.size)) = some [(0, 1), (1, 387), (388, 387)] := by kernel_rfl
theorem built_book (S S0 : Sup) : Tryz.prog.built 86 [(0, .bool true), (1, .agg S.cs.toArray), (2, .agg S0.cs.toArray)] = some (bkcs true S S0).toArray := by
  obtain ⟨it, hi, z, hz, hc⟩ := zero_book
  have hu : Tryz.prog.underlying 86 = some (.struct (Tryz.prog.fieldsOf 86)) := by kernel_rfl
  unfold Program.built
  rw [hi, hu]
  simp only [hz, places_book, hc]
  have e : bkcs false sup0 sup0 = [] ++ ([.bool false] ++ (sup0.cs ++ sup0.cs)) := rfl
  rw [e, fill_part (vs := [.bool true]) (n := 1) (off := 0) rfl rfl rfl rfl rfl]
  have e2 : ([] ++ ([Value.bool true] ++ (sup0.cs ++ sup0.cs)) : List Value) = [.bool true] ++ (sup0.cs ++ sup0.cs) := rfl
  rw [e2, fill_part (vs := S.cs) (n := 387) (off := 1) rfl rfl (Sup.cs_len _) rfl (Sup.cs_len _)]
  have e3 : ([Value.bool true] ++ (S.cs ++ sup0.cs) : List Value) = (.bool true :: S.cs) ++ (sup0.cs ++ []) := by simp
  rw [e3, fill_part (vs := S0.cs) (n := 387) (off := 388) rfl rfl (Sup.cs_len _) (by simp [Sup.cs_len]) (Sup.cs_len _)]
  simp [Instr.fill, bkcs]

/-! What a desk is. -/
abbrev L8 := List UInt8
structure DX where
  rd : Bool
  S : Sup
  S0 : Sup
  C : Int → Option L8
/-- What the view sees of a slot. -/
def seeX (X : DX) (Bs : List BV) (a : Int) : Option L8 := match X.C a with | some l => some l | none => (srcF Bs a).map (·.l)
/-- No bytes count as bytes 0. -/
def norm (l : L8) : L8 := if l = [] then List.replicate 256 0 else l
def upS (C : Int → Option L8) (a : Int) (l : L8) : Int → Option L8 := fun k => if k = a then some l else C k
theorem byL_up (C : Int → Option BV) (a : Int) (x : BV) : byL (upC C a x) = upS (byL C) a x.l := by
  funext k
  unfold byL upC upS
  by_cases e : k = a
  · rw [if_pos e, if_pos e]; rfl
  · rw [if_neg e, if_neg e]
structure DK (b : Nat) (w : World) (gd gv gm gs r : Nat) (Bs : List BV) (N n : Nat) (X : DX) : Prop where
  desk : ∃ ah la, ah.length = 775 ∧ (∀ v ∈ ah, v.oneCell' = true) ∧ Row w gd 88 (dcs gv N (bkcs X.rd X.S X.S0) ah false la)
  view : ∃ C, VV b w gv gm gs (some ⟨r, 0, none⟩) n C ∧ byL C = X.C
  run : Row w r 83 (rcs false 0)
  src : Src b w gs Bs
  lo : b ≤ gd ∧ b ≤ r ∧ b ≤ w.heap.size
section
variable {b : Nat} {w w' : World} {gd gv gm gs r : Nat} {Bs : List BV} {N n : Nat} {X : DX}
theorem DK.lt (h : DK b w gd gv gm gs r Bs N n X) : gd < w.heap.size := by obtain ⟨_, _, _, _, h1⟩ := h.desk; exact h1.lt
theorem DK.ne (h : DK b w gd gv gm gs r Bs N n X) : gd ≠ gv ∧ gd ≠ gm ∧ gd ≠ r ∧ gv ≠ gm ∧ gv ≠ r ∧ gm ≠ r := by
  obtain ⟨_, _, _, _, h1⟩ := h.desk
  obtain ⟨C, h2, _⟩ := h.view
  refine ⟨h1.ne_ h2.row (by decide), fun e => h2.map.no_cells _ _ _ (e ▸ h1.heap), h1.ne_ h.run (by decide), h2.ne, h2.row.ne_ h.run (by decide), fun e => h2.map.no_cells _ _ _ (e ▸ h.run.heap)⟩
theorem DK.chg {F : List Nat} (h : DK b w gd gv gm gs r Bs N n X) (hc : Chg F w w') (h1 : gd ∉ F) (h2 : gv ∉ F) (h3 : gm ∉ F) (h4 : r ∉ F) (hN : NoBytes w F) (hb : ∀ x ∈ F, b ≤ x) : DK b w' gd gv gm gs r Bs N n X := by
  obtain ⟨ah, la, e1, e2, e3⟩ := h.desk
  obtain ⟨C, v1, v2⟩ := h.view
  exact ⟨⟨ah, la, e1, e2, hc.row e3 h1⟩, ⟨C, v1.keepN hc h2 h3 hN, v2⟩, hc.row h.run h4, h.src.keep (hc.below h.lo.2.2 hb), h.lo.1, h.lo.2.1, Nat.le_trans h.lo.2.2 hc.size⟩
theorem DK.below (h : DK b w gd gv gm gs r Bs N n X) (hb : Below w.heap.size w w') : DK b w' gd gv gm gs r Bs N n X :=
  h.chg (F := []) (Chg.of hb) (by simp) (by simp) (by simp) (by simp) (fun x hx => by simp at hx) (by simp)
/-- The desk's own cells turned. -/
theorem DK.own (h : DK b w gd gv gm gs r Bs N n X) {ah : List Value} {la : Int} {X' : DX} (hr : Row w' gd 88 (dcs gv N (bkcs X'.rd X'.S X'.S0) ah false la)) (ha : ah.length = 775) (h1 : ∀ v ∈ ah, v.oneCell' = true) (hC : X'.C = X.C) (hg : Chg [gd] w w') : DK b w' gd gv gm gs r Bs N n X' := by
  obtain ⟨n1, n2, n3, n4, n5, n6⟩ := h.ne
  obtain ⟨_, _, _, _, h0⟩ := h.desk
  have hN : NoBytes w [gd] := fun x hx cs fr => by
    rw [List.mem_singleton] at hx
    subst hx
    exact row_noB h0 (by decide) _ _
  obtain ⟨C, v1, v2⟩ := h.view
  exact ⟨⟨ah, la, ha, h1, hr⟩, ⟨C, v1.keepN hg (by simp; exact n1.symm) (by simp; exact n2.symm) hN, by rw [hC]; exact v2⟩, hg.row h.run (by simp; exact n3.symm), h.src.keep (hg.below h.lo.2.2 (fun x hx => by rw [List.mem_singleton] at hx; subst hx; exact h.lo.1)), h.lo.1, h.lo.2.1, Nat.le_trans h.lo.2.2 hg.size⟩
theorem Chg.one {g : Nat} {w w' : World} (h : w.grownBy w' (some g)) : Chg [g] w w' := (Chg.refl _ _).grown h (fun k hk => by injection hk with hk; subst hk; exact .inl (by simp))
/-- What is seen, by the view's own words. -/
theorem seeX_F {C : Int → Option BV} (hC : byL C = X.C) {a : Int} {l : L8} (h : seeX X Bs a = some l) : ∃ x, seeF C (srcF Bs) a = some x ∧ x.l = l := by
  unfold seeX at h
  rw [← hC] at h
  unfold seeF
  unfold byL at h
  cases hx : C a with
  | some x =>
    rw [hx] at h
    simp only [Option.map_some, Option.some.injEq] at h
    exact ⟨x, rfl, h⟩
  | none =>
    rw [hx] at h
    simp only [Option.map_none] at h
    obtain ⟨x, h1, h2⟩ := Option.map_eq_some_iff.1 h
    exact ⟨x, h1, h2⟩
end
end Go.Proofs.YtfbfeplegdpemaaGreat
/- Package inode: how many blocks a size goes through. No conditions but those named. -/
set_option linter.unusedVariables false
set_option maxRecDepth 20000
namespace Go.Proofs.YtfbfeplegdpemaaGreat
open Go.RowKit

/-! How many blocks. -/
theorem wr_nat (m : Nat) (h : m < 9223372036854775808) : IntKind.i64.wrap (m : Int) = (m : Int) := by rw [IntKind.wrap_i64]; omega
theorem wr64_nat (m : Nat) (h : m < 9223372036854775808) : wrap64 (m : Int) = (m : Int) := by unfold wrap64; omega
def blks (z : Int) : Int := if z ≤ 0 then 0 else (z - 1) / 256 + 1
theorem blocks_any (z : Int) (h : z < 9223372036854775808) (w : World) : Calls Tryz.prog 52 #[.int .i64 z] w fun e w' => e = .returned (.int .i64 (blks z)) ∧ w = w' := by
  by_cases h0 : z ≤ 0
  · have hb : blks z = 0 := by unfold blks; rw [if_pos h0]
    rw [hb]
    clear hb
    go_enter Tryz.func52, Tryz.ntmps52
    go_wp2
    go_ret
    exact ⟨rfl, rfl⟩
  · have hb : blks z = (z - 1) / 256 + 1 := by unfold blks; rw [if_neg h0]
    rw [hb]
    obtain ⟨m, hm⟩ : ∃ m : Nat, z - 1 = (m : Int) := ⟨(z - 1).toNat, by omega⟩
    obtain ⟨q, hq⟩ : ∃ q : Nat, m / 256 = q := ⟨_, rfl⟩
    have hzm : z = (m : Int) + 1 := by omega
    have hd : ((m : Int)) / 256 = (q : Int) := by omega
    have hmb : m < 9223372036854775807 := by omega
    have hqb : q + 1 < 9223372036854775808 := by omega
    rw [hm, hd]
    clear hb hm hq h h0
    subst hzm
    have h7 : (m : Int) + 1 - 1 = (m : Int) := Int.add_sub_cancel _ _
    have h1 : IntKind.i64.wrap ((m : Int) + 1 - 1) = (m : Int) := by rw [h7]; exact wr_nat m (by omega)
    have h2 : Int.tdiv (m : Int) 256 = (q : Int) := by rw [Int.tdiv_eq_ediv_of_nonneg (Int.natCast_nonneg m)]; exact hd
    have h3 : wrap64 (q : Int) = (q : Int) := wr64_nat q (by omega)
    have h4 : IntKind.i64.wrap (q : Int) = (q : Int) := wr_nat q (by omega)
    have h5 : IntKind.i64.wrap ((q : Int) + 1) = (q : Int) + 1 := wr_nat (q + 1) hqb
    have h6 : wrap64 ((m : Int) + 1 - 1) = (m : Int) := by rw [h7]; exact wr64_nat m (by omega)
    have h8 : wrap64 (m : Int) = (m : Int) := wr64_nat m (by omega)
    have h9 : IntKind.i64.wrap (m : Int) = (m : Int) := wr_nat m (by omega)
    have h0 : ¬ ((m : Int) + 1 ≤ 0) := by omega
    clear hmb hqb hd
    go_enter Tryz.func52, Tryz.ntmps52
    go_wp2
    go_ret
    exact ⟨rfl, rfl⟩
end Go.Proofs.YtfbfeplegdpemaaGreat
/- Steps of a region that draws, one by one: a row made, a row stored. No conditions. -/
set_option linter.unusedVariables false
namespace Go.Proofs.YtfbfeplegdpemaaGreat
open Go.RowKit

section
variable {P : Program} {ops : Array Oper} {o : Oper} {a : Act} {w : World} {Q : Exit → Act → World → Prop} {K : Act → World → Prop} {E : Prop}
theorem st_alloc (hw : Region.wanted o (yielded ops a.tmps) = true) (t : TypeId) (ho : o.op = .alloc t) (cs : List Value) (hz : ∀ w : World, (zeroValue t).run P w = .ok (.agg cs.toArray) w)
    (h : ∀ g w', Row w' g t cs → Hid (g = w.heap.size) → Below w.heap.size w w' → K (a.put o.dst (.pointer (some ⟨g, 0, none⟩))) w') : if Region.wanted o (yielded ops a.tmps) = true then Oper.wp P o a w K Q else E := by
  rw [if_pos hw]
  unfold Oper.wp execOp
  simp only [ho]
  simp [Instr.alloc, hz, newVar, go_sem]
  exact h _ _ (Row.made w t cs) (show _ = _ from rfl) ((Below.refl _ _).alloc (Nat.le_refl _) _)
theorem st_store (hw : Region.wanted o (yielded ops a.tmps) = true) (ty : TypeId) (x y : Operand) (ho : o.op = .store ty x y) (g : Nat) (hx : a.eval x = .pointer (some ⟨g, 0, none⟩)) (t : TypeId) (old cs : List Value) (hy : a.eval y = .agg cs.toArray)
    (hr : Row w g t old) (hl : old.length = cs.length) (hi : (P.info? ty).map (·.size) = some cs.length) (h1 : ∀ v ∈ cs, v.oneCell' = true)
    (h : ∀ w', Row w' g t cs → w.grownBy w' (some g) → K (a.put o.dst undef) w') : if Region.wanted o (yielded ops a.tmps) = true then Oper.wp P o a w K Q else E := by
  rw [if_pos hw]
  refine wp_store_row ty x y ho g cs.toArray hx hy t old.toArray hr (by simpa using hi) (by simpa using hl) (all_oneCell_toArray h1) ?_
  exact h _ (setRow_heap w g _ _ t _ hr) ⟨rfl, rfl, rfl, by simp, fun k hk hne => setRow_other w g k _ (fun e => hne (by rw [e]))⟩
theorem run_eql_op {P : Program} (w : World) {a : Act} (o : Oper) (t t' : TypeId) (x y : Operand) (ho : o.op = .binOp .eql t x y t') (xs ys : Array Value) (hx : a.eval x = .agg xs) (hy : a.eval y = .agg ys) (hg : P.eqGuardType P.depth t = false) (b : Bool)
    (he : ∀ w, (Op.equalIn 10000 t (.agg xs) (.agg ys)).run P w = .ok b w) : (execOp a.eval o).run P w = .ok (.value (.bool b)) w := by
  unfold execOp
  simp only [ho, hx, hy, Sem.run_bind, run_eqGuard_agg w _ t x y xs ys hg, run_eql_struct, he, Result.andThen_ok]
  rfl
theorem run_build_op {P : Program} (w : World) {a : Act} (o : Oper) (t : TypeId) (parts : Array (Nat × Operand)) (ho : o.op = .build t parts) (vs : List (Nat × Value)) (hv : (parts.map fun (i, x) => (i, a.eval x)).toList = vs) (cells : Array Value) (hb : P.built t vs = some cells) : (execOp a.eval o).run P w = .ok (.value (.agg cells)) w := by
  subst hv
  unfold execOp
  simp only [ho, Sem.run_bind, run_build w t _ cells hb, Result.andThen_ok]
  rfl
end
end Go.Proofs.YtfbfeplegdpemaaGreat
/- Files: which bytes may be, the blocks they come to, and rows of slots. Conditions: those named. -/
set_option linter.unusedVariables false
set_option maxRecDepth 20000
namespace Go.Proofs.YtfbfeplegdpemaaGreat
open Go.RowKit

theorem may_ok (o c : Nat) (h : o + c ≤ 32768) (w : World) : Calls Tryz.prog 44 #[.int .i64 (o : Int), .int .i64 (c : Int)] w fun e w' => e = .returned (.bool true) ∧ w = w' := by
  have h1 : (0 : Int) ≤ (o : Int) := by omega
  have h2 : (0 : Int) ≤ (c : Int) := by omega
  have h3 : IntKind.i64.wrap ((32768 : Int) - (o : Int)) = 32768 - (o : Int) := by rw [IntKind.wrap_i64]; omega
  have h4 : (c : Int) ≤ 32768 - (o : Int) := by omega
  clear h
  go_enter Tryz.func44, Tryz.ntmps44
  go_wp2
  go_ret
  exact ⟨rfl, rfl⟩
theorem blks_nat (z : Nat) (h : 1 ≤ z) : blks (z : Int) = (((z - 1) / 256 + 1 : Nat) : Int) := by
  unfold blks
  rw [if_neg (by omega)]
  omega
theorem span_ok (o c : Nat) (hc : 1 ≤ c) (h : o + c ≤ 32768) (w : World) : Calls Tryz.prog 45 #[.int .i64 (o : Int), .int .i64 (c : Int)] w fun e w' => e = .returned (.tuple #[.int .i64 ((o / 256 : Nat) : Int), .int .i64 (((o + c - 1) / 256 + 1 : Nat) : Int)]) ∧ w = w' := by
  have h1 : IntKind.i64.wrap ((o : Int) + (c : Int)) = ((o + c : Nat) : Int) := by rw [IntKind.wrap_i64]; omega
  have HB := Lib.hid (p := ∀ w, Calls Tryz.prog 52 #[.int .i64 ((o + c : Nat) : Int)] w fun e w' => e = .returned (.int .i64 (((o + c - 1) / 256 + 1 : Nat) : Int)) ∧ w = w') (fun w => by
    have := blocks_any ((o + c : Nat) : Int) (by omega) w
    rw [blks_nat _ (by omega)] at this
    exact this)
  obtain ⟨q, hq⟩ : ∃ q, o / 256 = q := ⟨_, rfl⟩
  obtain ⟨p, hp⟩ : ∃ p, (o + c - 1) / 256 + 1 = p := ⟨_, rfl⟩
  obtain ⟨m, hm⟩ : ∃ m, o + c = m := ⟨_, rfl⟩
  have h2 : wrap64 ((o : Int) / 256) = (q : Int) := by
    have e : (o : Int) / 256 = (q : Int) := by rw [← hq]; omega
    rw [e]
    exact wr64_nat q (by omega)
  rw [hp, hm] at HB
  rw [hm] at h1
  rw [hq, hp]
  clear h hc hq hp hm
  go_enter Tryz.func45, Tryz.ntmps45
  go_wp2_with (go_at_call 52; refine (HB.out _).mono ?_; rintro e w4 ⟨rfl, rfl⟩)
  go_ret2
  exact ⟨rfl, rfl⟩
/-! Rows of slots. -/
theorem inl_add (a b : Nat) (f : Nat → Int) : inl (a + b) f = inl a f ++ inl b (fun j => f (a + j)) := by
  unfold inl
  rw [List.range_add, List.map_append, List.map_map]
  rfl
theorem inl_split (f : Nat → Int) : inl 128 f = inl 16 f ++ inl 112 (fun j => f (16 + j)) := inl_add 16 112 f
section
variable {P : Program} {ops : Array Oper} {rest : List Oper} {o : Oper} {a : Act} {w : World} {Q : Exit → Act → World → Prop} {K : Act → World → Prop}
theorem run_copy_part (w : World) (dT sT ty elem : TypeId) (hu : P.underlying dT = some (.slice elem)) (hs : (P.info? elem).map (·.size) = some 1) {g off dLen dCap : Nat} {t : TypeId} {A old cs B : List Value} (hr : Row w g t (A ++ (old ++ B))) (ha : A.length = off) (hl : old.length = cs.length)
    (ad : Addr) (sLen sCap : Nat) (hn : cs.length = Nat.min sLen dLen) (hsrc : ∀ j v, cs[j]? = some v → w.cell? (ad.add j) = some v) (h1 : ∀ v ∈ cs, v.oneCell' = true) :
    ∃ w', (Builtin.copy_ #[dT, sT] ty #[.slice (some ⟨g, off, none⟩) dLen dCap, .slice (some ad) sLen sCap]).run P w = .ok (goInt cs.length) w' ∧ Row w' g t (A ++ (cs ++ B)) ∧ w.grownBy w' (some g) := by
  have ht := hr.is_there off cs.length (by subst ha; simp; omega)
  exact ⟨_, run_copy_cells w dT sT ty elem g off dLen dCap ad sLen sCap cs hu hs hn hsrc (fun j hj => (ht j hj).1) (fun j hj => (ht j hj).2) h1, row_store hr ha hl, grown_sets g cs off w⟩
theorem k_copy_part (d s : Operand) (dT sT : TypeId) (ho : o.op = .call { callee := .builtin .copy, args := #[d, s], argTypes := #[dT, sT] }) (elem : TypeId) (hu : P.underlying dT = some (.slice elem)) (hs : (P.info? elem).map (·.size) = some 1)
    (g off dLen dCap : Nat) (hd : a.eval d = .slice (some ⟨g, off, none⟩) dLen dCap) (t : TypeId) (A old cs B : List Value) (hr : Row w g t (A ++ (old ++ B))) (ha : A.length = off) (hl : old.length = cs.length)
    (ad : Addr) (sLen sCap : Nat) (hx : a.eval s = .slice (some ad) sLen sCap) (hn : cs.length = Nat.min sLen dLen) (hsrc : ∀ j v, cs[j]? = some v → w.cell? (ad.add j) = some v) (h1 : ∀ v ∈ cs, v.oneCell' = true)
    (h : ∀ w', Row w' g t (A ++ (cs ++ B)) → w.grownBy w' (some g) → K (a.put o.dst (goInt cs.length)) w') : Oper.wp P o a w K Q := by
  obtain ⟨w', hrun, h2, h3⟩ := run_copy_part (P := P) w dT sT o.type elem hu hs hr ha hl ad sLen sCap hn hsrc h1 (dCap := dCap)
  unfold Oper.wp execOp
  simp only [ho, resolve, invoke, builtin, Sem.run_bind, Sem.run_pure, Result.andThen_ok, List.map_toArray, List.map_cons, List.map_nil, hd, hx, hrun]
  exact h w' h2 h3
end
theorem row_src_at {w : World} {g off : Nat} {t : TypeId} {A M B : List Value} (h : Row w g t (A ++ (M ++ B))) (ha : A.length = off) : ∀ j v, M[j]? = some v → w.cell? ((⟨g, off, none⟩ : Addr).add j) = some v := fun j v hv => by
  rw [Addr.add_lit]
  exact h.rng ha j v hv
theorem info_row : (Tryz.prog.info? 98).map (·.size) = some 128 := by kernel_rfl
theorem info_rows (f : Nat → Int) : (Tryz.prog.info? 98).map (·.size) = some (inl 128 f).length := by rw [inl_len]; exact info_row
theorem zero_row (w : World) : (zeroValue 98).run Tryz.prog w = .ok (.agg (inl 128 ino0).toArray) w := by kernel_rfl
set_option maxHeartbeats 1000000 in
/-- The slots that a list tells. -/
theorem list_any (R : Nat → Int) (w : World) : Calls Tryz.prog 84 #[.agg (inl 128 R).toArray] w fun e w' => e = .returned (.agg (inl 112 fun j => R (16 + j)).toArray) ∧ Below w.heap.size w w' := by
  have i1 := Lib.hid info_rows
  have i2 := Lib.hid info_inl
  have i3 := Lib.hid info_int
  have hz := Lib.hid zero_112
  obtain ⟨L, hL⟩ : ∃ L : Nat → Int, (fun j => R (16 + j)) = L := ⟨_, rfl⟩
  have HSP := Lib.hid (p := inl 128 R = inl 16 R ++ (inl 112 L ++ [])) (by rw [← hL, List.append_nil]; exact inl_split R)
  rw [hL]
  clear hL
  go_enter Tryz.func84, Tryz.ntmps84
  go_wp2_with (first
    | (refine step_box rfl 1 rfl 98 (.tmp 0) rfl (inl 128 R) rfl ?_; intro g1 w2 hr2 hg2 hb2 hs2
       have HR12 := Lib.hid hr2
       have HB2 := Lib.hid hb2
       have HG1 := Lib.hid (p := w.heap.size ≤ g1) (Nat.le_of_eq hg2.out.symm)
       clear hr2 hg2 hb2 hs2)
    | (refine step_alloc rfl 2 rfl 134 rfl _ hz.out ?_; intro g2 w3 hr2 hg2 hb2 hs2
       have HR23 := Lib.hid hr2
       have HR13 := Lib.hid (HR12.out.kept hb2)
       have HB3 := Lib.hid (below_nxt hb2 HB2.out)
       have HG2 := Lib.hid (p := w.heap.size ≤ g2 ∧ g1 < g2) (by rw [hg2.out]; exact ⟨HB2.out.size, HR12.out.lt⟩)
       clear hr2 hg2 hb2 hs2; have MK := trivial)
    | (clear MK; refine step_alloc rfl 3 rfl 134 rfl _ hz.out ?_; intro g3 w4 hr2 hg2 hb2 hs2
       have HR34 := Lib.hid hr2
       have HR14 := Lib.hid (HR13.out.kept hb2)
       have HR24 := Lib.hid (HR23.out.kept hb2)
       have HB4 := Lib.hid (below_nxt hb2 HB3.out)
       have HG3 := Lib.hid (p := w.heap.size ≤ g3 ∧ g1 < g3 ∧ g2 < g3) (by rw [hg2.out]; exact ⟨HB3.out.size, HR13.out.lt, HR23.out.lt⟩)
       clear hr2 hg2 hb2 hs2))
  refine wp_region_held_drew (S := fun _ => True) (by kernel_rfl) trivial (fun hHeld => ?_)
  refine wpAnyH_take (i := 0) (oi := ⟨some 4, .slice 134 (.tmp 3) none none none, _, _, _, _⟩) (v := .slice (some ⟨g3, 0, none⟩) 112 112) rfl (by kernel_rfl) (by kernel_rfl) (by kernel_rfl) (fun _ _ _ h => h) (.inl ⟨by rfl, fun w hSw => by go_simp⟩) (by assumption) ?_
  simp only [Act.put, List.setIfInBounds_toArray, List.set_cons_zero, List.set_cons_succ]
  refine wpAnyH_take (i := 1) (oi := ⟨some 5, .slice 98 (.tmp 1) (some (Operand.const (Value.int IntKind.i64 16))) none none, _, _, _, _⟩) (v := .slice (some ⟨g1, 16, none⟩) 112 112) rfl (by kernel_rfl) (by kernel_rfl) (by kernel_rfl) (fun _ _ _ h => h) (.inl ⟨by rfl, fun w hSw => by go_simp⟩) (by assumption) ?_
  simp only [Act.put, List.setIfInBounds_toArray, List.set_cons_zero, List.set_cons_succ]
  refine wpAnyH_ready (rs := [2]) (by kernel_rfl) (by simp) ?_
  refine AllReadyH.cons (o := ⟨some 6, .call ⟨.builtin .copy, #[.tmp 4, .tmp 5], #[110, 110]⟩, _, _, _, _⟩) rfl (fun K hK => ?_) AllReadyH.nil
  refine k_copy_part (.tmp 4) (.tmp 5) 110 110 rfl 3 Tryz.underlying110 i3.out g3 0 112 112 (by rfl) 134 [] (inl 112 ino0) (inl 112 L) [] (by simpa using HR34.out.drew) rfl (by rw [inl_len, inl_len]) ⟨g1, 16, none⟩ 112 112 (by rfl) (by rw [inl_len]; rfl) (row_src_at (by have h := HR14.out.drew; rw [HSP.out] at h; exact h) (by rw [inl_len])) (inl_one _ _) ?_
  intro w5 hr5 hg5
  have HR35 := Lib.hid (p := Row w5 g3 134 (inl 112 L)) (by simpa using hr5)
  have HB5 := Lib.hid (p := Below w.heap.size w w5) (below_own (Below.trans HB4.out (below_drw w4 |>.mono HB4.out.size)) hg5 HG3.out.1)
  have HR25 := Lib.hid (HR24.out.drew.grown hg5 (fun e => by have := HG3.out; injection e; omega))
  clear hr5 hg5
  refine hK.out _ _ trivial (fun _hH => ?_)
  clear hK K
  refine wpAnyH_done (by kernel_rfl) ?_ _
  go_wp2_with (first
    | (refine step_load rfl 7 rfl 134 (.tmp 3) rfl g3 rfl (inl 112 L) _ HR35.out.all Tryz.underlying134 rfl (i2.out _) ?_)
    | (refine step_store rfl 134 (.tmp 2) (.tmp 7) rfl g2 (by rfl) _ _ (inl 112 L) (by rfl) HR25.out (by rw [inl_len, inl_len]) (i2.out _) (inl_one _ _) ?_; intro w9 hr9 hg9 hs9))
  refine bodyPost_ret (results_cell_row rfl _ _ g2 _ _ _ _ rfl hr9 Tryz.underlying134 rfl (by simpa using i2.out L)) rfl ?_
  exact ⟨rfl, below_own HB5.out hg9 HG2.out.1⟩
end Go.Proofs.YtfbfeplegdpemaaGreat
