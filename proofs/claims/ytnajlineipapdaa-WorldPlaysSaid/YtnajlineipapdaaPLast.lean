/- The last waiting write of a block, as the program looks for it (a range over a function). Conditions: the disk's waiting writes lie there. -/
import Derived.RangeFuncNested
import Derived.RangeFuncBound
import Derived.RangeFuncCalls
import Derived.RangeFuncLeaves
import Derived.Shelf.Abstract
import Derived.Shelf.RegionOpen
import Derived.WalkKit
import Derived.OwnWalkIn
import Derived.TacticsInMore
import Derived.LoopNIn
import Derived.LoopIn
import Derived.Test.YtnajlineipapdaaMgDsync
set_option linter.unusedVariables false
namespace Go.Proofs.Ytnajlineipapdaa
open Go.RowKit Go.Shelf

attribute [local go_sem] Oper.semAt_some

abbrev WV := Nat × BV
/-- What came of the row, from its end: place and write. -/
def came (rs : List WV) (k : Nat) : List (Nat × WV) := (List.range k).map fun j => (rs.length - 1 - j, rs.getD (rs.length - 1 - j) (0, noBV))
theorem came_succ (rs : List WV) (k : Nat) : came rs (k + 1) = came rs k ++ [(rs.length - 1 - k, rs.getD (rs.length - 1 - k) (0, noBV))] := by simp [came, List.range_succ]
theorem came_len (rs : List WV) (k : Nat) : (came rs k).length = k := by simp [came]
def encW (x : Nat × WV) : Array Value := #[.int .i64 (x.1 : Int), .agg #[.int .i64 (x.2.1 : Int), .slice x.2.2.A x.2.2.l.length x.2.2.c]]
/-- The writes lie there, below block n0. -/
def Writes (n0 : Nat) (W : World) (A : Option Addr) (rs : List WV) : Prop :=
  rs = [] ∨ ∃ g, A = some ⟨g, 0, none⟩ ∧ g < n0 ∧ ∀ j p, rs[j]? = some p → W.cell? ⟨g, j * 2, none⟩ = some (.int .i64 (p.1 : Int)) ∧ W.cell? ⟨g, j * 2 + 1, none⟩ = some (.slice p.2.A p.2.l.length p.2.c)
theorem Writes.below {n0 : Nat} {W W' : World} {A : Option Addr} {rs : List WV} (hb : Below n0 W W') : Writes n0 W A rs → Writes n0 W' A rs
  | .inl e => .inl e
  | .inr ⟨g, e, hg, hc⟩ => .inr ⟨g, e, hg, fun j p hp => ⟨(hb.cell (p := ⟨g, j * 2, none⟩) hg).trans (hc j p hp).1, (hb.cell (p := ⟨g, j * 2 + 1, none⟩) hg).trans (hc j p hp).2⟩⟩
theorem Writes.lift {w W : World} {A : Option Addr} {rs : List WV} (h : Writes w.heap.size w A rs) (hb : Below w.heap.size w W) : Writes W.heap.size W A rs := by
  rcases h.below hb with e | ⟨g, e, hg, hc⟩
  · exact .inl e
  · exact .inr ⟨g, e, Nat.lt_of_lt_of_le hg hb.size, hc⟩
theorem writes_of {w : World} {b : Nat} {A : Option Addr} {c : Nat} {rs : List WV} (h : w.ownsRow b 79 2 (.slice A rs.length c) rs.length (rs.flatMap wcs)) : Writes w.heap.size w A rs := by
  cases hrs : rs with
  | nil => exact .inl rfl
  | cons p t =>
    rw [← hrs]
    obtain ⟨g, c', e1, hlt, _, hc⟩ := own_rec wcs_len h (j := 0) (x := p) (by rw [hrs]; rfl) (by omega)
    simp only [Value.slice.injEq] at e1
    obtain ⟨rfl, _, _⟩ := e1
    refine .inr ⟨g, rfl, hlt, fun j q hq => ?_⟩
    obtain ⟨g', c'', e1, _, _, hc'⟩ := own_rec wcs_len h hq (by omega)
    simp only [Value.slice.injEq, Option.some.injEq, Addr.mk.injEq] at e1
    obtain ⟨⟨rfl, _⟩, _, _⟩ := e1
    have h0 := hc' 0 _ rfl
    have h1 := hc' 1 _ rfl
    exact ⟨h0, h1⟩

set_option maxRecDepth 100000 in
set_option maxHeartbeats 2000000 in
theorem back1_in (F : Fence) (n : Nat) (h7 : F.fn 67) (hro : F.round = none) (hn : 1 ≤ n) (l Bs n0 : Nat) (A : Option Addr) (c : Nat) (rs : List WV) (hbig : rs.length ≤ 1000000) (J Jx : List (Nat × WV) → World → Prop)
    (hY : ∀ pre x W, J pre W → pre.length < rs.length → YieldAt F (n - 1) Try.prog l (encW x) W fun e W' =>
      (e = .returned (.bool true) ∧ J (pre ++ [x]) W' ∧ Below n0 W W') ∨ (e = .returned (.bool false) ∧ Jx (pre ++ [x]) W'))
    (W : World) (hBs : W.cell? ⟨Bs, 0, none⟩ = some (.slice A rs.length c)) (hB0 : Bs < n0) (hW : Writes n0 W A rs) (h0 : J [] W) :
    CallsIn F n Try.prog 67 #[.func (.yield l) #[] #[], .pointer (some ⟨Bs, 0, none⟩)] W fun e W' => (∃ v, e = .returned v) ∧
      ((∃ ys, ys = came rs rs.length ∧ J ys W') ∨ (∃ pre, (∃ k, k ≤ rs.length ∧ pre = came rs k) ∧ Jx pre W')) := by
  have HBIG := Lib.hid hbig
  have HWR := Lib.hid hW
  clear hbig hW
  refine callsIn_of_wp Try.func67 rfl h7 ?_ hro
  simp only [Try.ntmps67, List.size_toArray, List.length_cons, List.length_nil, Nat.reduceAdd, Nat.reduceSub, Array.replicate_succ, Array.replicate_zero, List.push_toArray, List.append_toArray, List.nil_append, List.cons_append]
  have hl2 : wrap64 ((rs.length : Int) - 1) = (rs.length : Int) - 1 := by unfold wrap64; have := HBIG.out; omega
  obtain ⟨z0, hz0⟩ : ∃ z0 : Int, (rs.length : Int) - 1 = z0 := ⟨_, rfl⟩
  rw [hz0] at hl2
  have hl3 : IntKind.i64.wrap ((rs.length : Int) - 1) = z0 := by rw [IntKind.wrap_i64]; have := HBIG.out; omega
  gi_wp2
  gi_loopw [3] (fun i wr => ∃ (k : Nat) (z : Int), k ≤ rs.length ∧ i = .int .i64 z ∧ Hid (z = (rs.length : Int) - 1 - (k : Int)) ∧ J (came rs k) wr ∧ Below n0 W wr)
    (fun i _ => (intOf i + 1).toNat)
  case atStart => exact ⟨0, _, Nat.zero_le _, rfl, Lib.hid (by omega), h0, Below.refl _ _⟩
  case round =>
    clear hz0 hl3 hl2
    obtain ⟨k, z, hk, rfl, hz, hJs, hnx⟩ := hrel
    have cB : wr.cell? ⟨Bs, 0, none⟩ = some (.slice A rs.length c) := (hnx.cell (p := ⟨Bs, 0, none⟩) hB0).trans hBs
    by_cases hlt : k < rs.length
    · obtain ⟨m, hm⟩ := Int.eq_ofNat_of_zero_le (by have := hz.out; omega : 0 ≤ z)
      obtain rfl : z = (m : Int) := hm
      obtain ⟨p, hp⟩ : ∃ p, rs[m]? = some p := ⟨_, List.getElem?_eq_getElem (by have := hz.out; omega)⟩
      have hpm : rs.getD (rs.length - 1 - k) (0, noBV) = p := by
        rw [show rs.length - 1 - k = m by have := hz.out; omega, List.getD_eq_getElem?_getD, hp]
        rfl
      have hkm : rs.length - 1 - k = m := by have := hz.out; omega
      obtain ⟨fn, tmps, assign, body, hy, hR⟩ := hY (came rs k) (m, p) wr hJs (by rw [came_len]; exact hlt)
      dsimp only [encW] at hy
      have hm0 : (0 : Int) ≤ (m : Int) := by omega
      have hm1 : (m : Int) < (rs.length : Int) := by have := hz.out; omega
      have hm2 : wrap64 ((m : Int) - 1) = (m : Int) - 1 := by unfold wrap64; have := HBIG.out; omega
      have HZ := hz
      rcases HWR.out.below hnx with e0 | ⟨g, rfl, hg, hc⟩
      · rw [e0] at hlt
        cases hlt
      obtain ⟨d0, d1⟩ := hc m p hp
      have HP := Lib.hid hpm
      have HKM := Lib.hid hkm
      have HM2 := Lib.hid hm2
      have HX := Lib.hid hnx
      clear hp hpm hkm hc hm2 hnx hz HWR
      gi_wp2
      refine hR.mono ?_
      rintro e W3 (⟨rfl, hJ3, hk3⟩ | ⟨rfl, hJx3⟩)
      · have HM3 := HM2.out
        clear hy hR
        gi_wp2
        go_roundw
        case rel => exact ⟨k + 1, _, by omega, rfl, Lib.hid (by have := HZ.out; omega), by rw [came_succ, HP.out, HKM.out]; exact hJ3, HX.out.trans hk3⟩
        case measure => simp [intOf]; omega
      · gi_wp2
        refine bodyPost_ret (results_none rfl _ _ _) rfl ?_
        exact ⟨⟨_, rfl⟩, .inr ⟨_, ⟨k + 1, by omega, by rw [came_succ, HP.out, HKM.out]⟩, hJx3⟩⟩
    · obtain rfl : k = rs.length := by omega
      obtain rfl : z = -1 := by have := hz.out; omega
      have HX := Lib.hid hnx
      clear hz hnx
      gi_wp2
      go_end0
      exact ⟨⟨_, rfl⟩, .inl ⟨_, rfl, hJs⟩⟩

theorem back_stops (F : Fence) (n : Nat) (h7 : F.fn 67) (hro : F.round = none) (hn : 1 ≤ n) (Bs n0 : Nat) (A : Option Addr) (c : Nat) (rs : List WV) (hbig : rs.length ≤ 1000000) (w : World) (hBs : Bs < n0) (hn0 : n0 ≤ w.heap.size)
    (hc : w.cell? ⟨Bs, 0, none⟩ = some (.slice A rs.length c)) (hW : Writes n0 w A rs) :
    SeqStopsK F n Try.prog 67 #[.pointer (some ⟨Bs, 0, none⟩)] encW (Below n0) (fun ys => ys = came rs rs.length) (fun pre => ∃ k, k ≤ rs.length ∧ pre = came rs k) rs.length w := fun l J Jx W hb _ _ hY h0 =>
  back1_in F n h7 hro hn l Bs n0 A c rs hbig J Jx hY W ((hb.cell (p := ⟨Bs, 0, none⟩) (by show Bs < w.heap.size; omega)).trans hc) hBs (hW.below (hb.mono hn0)) h0
theorem back_in (F : Fence) (n : Nat) (h5 : F.fn 61) (hro : F.round = none) (a : Option Addr) (len cap : Nat) (w : World) :
    CallsIn F n Try.prog 61 #[.slice a len cap] w fun e w' => e = .returned (.func (.func 67) #[] #[.pointer (some ⟨w.heap.size, 0, none⟩)]) ∧ w' = w.alloc (.cells #[.slice a len cap] 71) := by
  refine callsIn_of_wp Try.func61 rfl h5 ?_ hro
  simp only [Try.ntmps61, List.size_toArray, List.length_cons, List.length_nil, Nat.reduceAdd, Nat.reduceSub, Array.replicate_succ, Array.replicate_zero, List.push_toArray, List.append_toArray, List.nil_append, List.cons_append]
  gi_wp2
  go_ret
  exact ⟨rfl, rfl⟩

/-- The place of the last write of block a, or -1. -/
def lastI (rs : List WV) (a : Nat) : Nat → Int
  | 0 => -1
  | k + 1 => if (rs.getD k (0, noBV)).1 = a then (k : Int) else lastI rs a k
/-- What came holds no write of block a. -/
def Unmet (a : Nat) (pre : List (Nat × WV)) : Prop := ∀ q ∈ pre, q.2.1 ≠ a
theorem last_none {rs : List WV} {a : Nat} : ∀ n, (∀ k, k < n → (rs.getD k (0, noBV)).1 ≠ a) → lastI rs a n = -1
  | 0, _ => rfl
  | n + 1, h => by rw [lastI, if_neg (h n (by omega))]; exact last_none n (fun k hk => h k (by omega))
theorem last_some {rs : List WV} {a m : Nat} (hm : (rs.getD m (0, noBV)).1 = a) : ∀ n, m < n → (∀ k, m < k → k < n → (rs.getD k (0, noBV)).1 ≠ a) → lastI rs a n = (m : Int)
  | 0, h, _ => absurd h (Nat.not_lt_zero _)
  | n + 1, h, ha => by
    rw [lastI]
    by_cases e : m = n
    · rw [if_pos (by rw [← e]; exact hm), e]
    · rw [if_neg (ha n (by omega) (by omega))]
      exact last_some hm n (by omega) (fun k h1 h2 => ha k h1 (by omega))
theorem unmet_came {rs : List WV} {a k : Nat} (hk : k ≤ rs.length) (h : Unmet a (came rs k)) : ∀ m, rs.length - k ≤ m → m < rs.length → (rs.getD m (0, noBV)).1 ≠ a := by
  intro m h1 h2
  exact h (m, rs.getD m (0, noBV)) (by
    unfold came
    rw [List.mem_map]
    exact ⟨rs.length - 1 - m, List.mem_range.2 (by omega), by rw [show rs.length - 1 - (rs.length - 1 - m) = m by omega]⟩)

set_option maxRecDepth 100000 in
set_option maxHeartbeats 4000000 in
theorem last_any (g gc : Nat) (A : Option Addr) (c : Nat) (rs : List WV) (a : Nat) (hbig : rs.length ≤ 1000000) (w : World) (h1c : w.cell? ⟨g, 1, none⟩ = some (.slice A rs.length c)) (hgc : w.cell? ⟨gc, 0, none⟩ = some (.int .i64 (a : Int))) (hW : Writes w.heap.size w A rs) :
    Calls Try.prog 52 #[.pointer (some ⟨g, 0, none⟩), .func (.func 62) #[] #[.pointer (some ⟨gc, 0, none⟩)]] w fun e w' => e = .returned (.int .i64 (lastI rs a rs.length)) ∧ Below w.heap.size w w' := by
  have HBIG := Lib.hid hbig
  have HW := Lib.hid hW
  have hgc1 := World.block_lt_of_cell? w _ hgc
  have hg1 := World.block_lt_of_cell? w _ h1c
  clear hbig hW
  refine (callsIn_wide (n := 3)).1 ?_
  refine callsIn_of_wp_marks Try.func52 rfl trivial ?_ rfl
  simp only [Try.ntmps52, List.size_toArray, List.length_cons, List.length_nil, Nat.reduceAdd, Nat.reduceSub, Array.replicate_succ, Array.replicate_zero, List.push_toArray, List.append_toArray, List.nil_append, List.cons_append]
  gi_wp2_with (refine ⟨trivial, ?_⟩; gi_at_call 61; refine (back_in Fence.wide _ trivial rfl _ _ _ _).mono ?_; rintro e w' ⟨rfl, rfl⟩)
  have bI := ((Boxed.new w 95 (.func (.func 62) #[] #[.pointer (some ⟨gc, 0, none⟩)])).alloc (.cells #[.int .i64 0] 3)).alloc (.cells #[.slice A rs.length c] 71)
  have bR := (Boxed.new (w.alloc (.cells #[.func (.func 62) #[] #[.pointer (some ⟨gc, 0, none⟩)]] 95)) 3 (.int .i64 0)).alloc (.cells #[.slice A rs.length c] 71)
  have bS := Boxed.new ((w.alloc (.cells #[.func (.func 62) #[] #[.pointer (some ⟨gc, 0, none⟩)]] 95)).alloc (.cells #[.int .i64 0] 3)) 71 (.slice A rs.length c)
  simp only [World.size_alloc] at bR bS
  have hB0 : Below w.heap.size w (((w.alloc (.cells #[.func (.func 62) #[] #[.pointer (some ⟨gc, 0, none⟩)]] 95)).alloc (.cells #[.int .i64 0] 3)).alloc (.cells #[.slice A rs.length c] 71)) := (((Below.refl _ w).alloc (Nat.le_refl _) _).alloc (by simp) _).alloc (by simp; omega) _
  have hsz : (((w.alloc (.cells #[.func (.func 62) #[] #[.pointer (some ⟨gc, 0, none⟩)]] 95)).alloc (.cells #[.int .i64 0] 3)).alloc (.cells #[.slice A rs.length c] 71)).heap.size = w.heap.size + 3 := by simp
  obtain ⟨W0, hW0⟩ : ∃ W0, ((w.alloc (.cells #[.func (.func 62) #[] #[.pointer (some ⟨gc, 0, none⟩)]] 95)).alloc (.cells #[.int .i64 0] 3)).alloc (.cells #[.slice A rs.length c] 71) = W0 := ⟨_, rfl⟩
  rw [hW0] at bI bR bS hB0 hsz ⊢
  clear hW0
  have HSZ := Lib.hid hsz
  refine wpIn_rangeFunc_ownH rfl (by omega) (gf := 67) (lb := #[.pointer (some ⟨w.heap.size + 1 + 1, 0, none⟩)]) rfl trivial (enters_of Try.func67 (by kernel_rfl) rfl)
    (back_stops Fence.wide _ trivial rfl (by omega) (w.heap.size + 1 + 1) W0.heap.size A c rs HBIG.out W0 (by omega) (Nat.le_refl _) bS.cell (Writes.lift HW.out hB0)) belowK_t (belowK_b (Nat.le_refl _)) (Below.refl _ _) (fun _ => rfl)
    (fun pre W => Unmet a pre ∧ Below W0.heap.size W0 W)
    (fun cd pre W => ((cd = .ret ∧ ∃ ini lst, pre = ini ++ [lst] ∧ Unmet a ini ∧ lst.2.1 = a ∧ Boxed W (w.heap.size + 1) 3 (.int .i64 (lst.1 : Int)))) ∧ Below w.heap.size w W)
    (OwnFrom.and (ownFrom_pure _ _) (ownFrom_below (Nat.le_refl _) (Nat.le_refl _)))
    (fun cd => OwnFrom.and (Own.from (fun s X Y row hs hg hr => by
      obtain ⟨e0, ini, lst, e1, e2, e3, e4⟩ := hs
      exact ⟨e0, ini, lst, e1, e2, e3, boxed_own (w.heap.size + 1) 3 (fun (_ : Unit) => Value.int .i64 (lst.1 : Int)) () X Y row e4 hg hr⟩) _) (ownFrom_below (Nat.le_refl _) (by omega)))
    ⟨fun q hq => by simp at hq, Below.refl _ _⟩
    (fun x a' W => ∃ Bx, W0.heap.size ≤ Bx ∧ Row W Bx 79 (wcs x.2) ∧ a' = { tmps := #[.pointer (some ⟨g, 0, none⟩), .func (.func 62) #[] #[.pointer (some ⟨gc, 0, none⟩)], undef, .pointer (some ⟨w.heap.size, 0, none⟩), .pointer (some ⟨w.heap.size + 1, 0, none⟩), .int .i64 (x.1 : Int), .pointer (some ⟨Bx, 0, none⟩), .pointer (some ⟨g, 0, none⟩), .pointer (some ⟨g, 0, none⟩), .pointer (some ⟨g, 1, none⟩), .slice A rs.length c, .func (.func 67) #[] #[.pointer (some ⟨w.heap.size + 1 + 1, 0, none⟩)], .int .i64 (x.1 : Int), .agg #[.int .i64 (x.2.1 : Int), .slice x.2.2.A x.2.2.l.length x.2.2.c], undef, undef, undef, undef], defers := [] })
    (fun x a' _ X Y row hs hg hr => by
      obtain ⟨Bx, e1, e2, e3⟩ := hs
      refine ⟨Bx, e1, e2.grown hg (fun e => ?_), e3⟩
      obtain ⟨_, o, ho, hcells⟩ := hr Bx e.symm
      rw [show X.heap[Bx]? = _ from e2] at ho
      cases ho
      cases hcells)
    ?assign ?body ?done ?stop
  case assign =>
    rintro l pre x W K ⟨hp, hB1⟩ hK
    dsimp only [encW]
    have hSZ1 := hB1.size
    gi_wp2
    exact hK _ _ ((KeepsOthers.alloc _ _).from _) ((Below.refl _ W).alloc hSZ1 _) ⟨hp, hB1.alloc hSZ1 _⟩ ⟨W.heap.size, hSZ1, Row.made W 79 (wcs x.2), rfl⟩
  case body =>
    rintro l pre x a' W hl ⟨r, hr⟩ ⟨hp, hB1⟩ ⟨Bx, hBx, bX, rfl⟩ hlt
    have hSZ1 := hB1.size
    have hSZ0 := HSZ.out
    have cI : W.cell? ⟨w.heap.size, 0, none⟩ = some (.func (.func 62) #[] #[.pointer (some ⟨gc, 0, none⟩)]) := (hB1.cell (p := ⟨w.heap.size, 0, none⟩) bI.lt).trans bI.cell
    have cG : W.cell? ⟨gc, 0, none⟩ = some (.int .i64 (a : Int)) := (hB1.cell (p := ⟨gc, 0, none⟩) (by show gc < W0.heap.size; omega)).trans ((hB0.cell (p := ⟨gc, 0, none⟩) hgc1).trans hgc)
    have bR1 : Boxed W (w.heap.size + 1) 3 (.int .i64 0) := (hB1.block _ bR.lt).trans bR
    have x0 : W.cell? ⟨Bx, 0, none⟩ = some (.int .i64 (x.2.1 : Int)) := by rw [bX.cell]; rfl
    have x1 : W.cell? ⟨Bx, 1, none⟩ = some (.slice x.2.2.A x.2.2.l.length x.2.2.c) := by rw [bX.cell]; rfl
    have bR2 := bR1.alloc (.cells #[.int .i64 (x.2.1 : Int), .slice x.2.2.A x.2.2.l.length x.2.2.c] 79)
    have cR := bR2.cell
    have fR := bR2.frozen
    have HB1 := Lib.hid hB1
    by_cases hxa : x.2.1 = a
    · have hxb : ((x.2.1 : Int) == (a : Int)) = true := by rw [hxa]; simp
      have HXA := Lib.hid hxa
      clear hxa hB1 hr hSZ0
      gi_wp2_with (refine ⟨trivial, ?_⟩; gi_at_call 62; refine (CallsIn.inRound l (callsIn_wide.2 (of1_any (x.2.1 : Int) (a : Int) _ gc _ cG))).mono ?_; rintro e w' ⟨rfl, rfl⟩)
      exact ⟨((KeepsOthers.alloc _ _).trans (KeepsOthers.setCell _ _ _)).from _, ⟨rfl, pre, x, rfl, hp, HXA.out, bR2.set _⟩, ((hB0.trans (HB1.out.mono (by have := HSZ.out; omega))).alloc (by have := HSZ.out; omega) _).setCell (p := ⟨w.heap.size + 1, 0, none⟩) (Nat.le_succ _) _⟩
    · have hxb : ((x.2.1 : Int) == (a : Int)) = false := beq_false_of_ne (by omega)
      have HXA := Lib.hid hxa
      clear hxa hB1 hr hSZ0
      gi_wp2_with (refine ⟨trivial, ?_⟩; gi_at_call 62; refine (CallsIn.inRound l (callsIn_wide.2 (of1_any (x.2.1 : Int) (a : Int) _ gc _ cG))).mono ?_; rintro e w' ⟨rfl, rfl⟩)
      exact ⟨(KeepsOthers.alloc _ _).from _, (Below.refl _ W).alloc hSZ1 _, fun q hq => (List.mem_append.1 hq).elim (hp q) (fun e => by simp at e; subst e; exact HXA.out), HB1.out.alloc hSZ1 _⟩
  case done =>
    rintro D ys W hD rfl ⟨hp, hB1⟩ hK
    have bR1 : Boxed W (w.heap.size + 1) 3 (.int .i64 0) := (hB1.block _ bR.lt).trans bR
    have cR := bR1.cell
    have fR := bR1.frozen
    have HP := Lib.hid hp
    have HB1 := Lib.hid hB1
    have HKD := Lib.hid hK
    have HD := Lib.hid hD
    clear hp hB1 hK hD
    gi_wp2
    have hK' := (KeepsOthers.setCell W ⟨w.heap.size + 1, 0, none⟩ (.int .i64 (-1))).same D _ HKD.out rfl
    refine ⟨by simp, .inl ⟨_, _, rfl, run_takeDeferred hK', ?_⟩⟩
    have hc5 := cell_kept (bR1.set (.int .i64 (-1))).cell (grownBy_putObj' _ D (.deferred none)) (fun r e => by cases e; exact ⟨_, hK', rfl⟩)
    refine ⟨.int .i64 (-1), ?_, by rw [last_none rs.length (fun k hk => unmet_came (Nat.le_refl _) HP.out k (by omega) hk)], ((hB0.trans (HB1.out.mono (by have := HSZ.out; omega))).setCell (p := ⟨w.heap.size + 1, 0, none⟩) (Nat.le_succ _) _).trans (belowK_b (w := w) (Nat.le_refl _) _ D _ _ (by have := HD.out; have := HSZ.out; omega) hK' rfl rfl)⟩
    simp [results, Try.f52, go_sem, hc5]
  case stop =>
    rintro D cd pre W hD ⟨k, hk, rfl⟩ ⟨⟨rfl, ini, lst, e1, e2, e3, e4⟩, hB1⟩ hK
    have HD := Lib.hid hD
    have HB1 := Lib.hid hB1
    have HKD := Lib.hid hK
    have H1 := Lib.hid e1
    have H3 := Lib.hid e3
    clear hD hB1 hK e1 e3
    gi_wp2
    refine ⟨by simp, .inl ⟨_, _, rfl, run_takeDeferred HKD.out, ?_⟩⟩
    have hc5 := cell_kept e4.cell (grownBy_putObj' _ D (.deferred none)) (fun r e => by cases e; exact ⟨_, HKD.out, rfl⟩)
    have hm : lst.1 < rs.length ∧ (rs.getD lst.1 (0, noBV)).1 = a ∧ ∀ k, lst.1 < k → k < rs.length → (rs.getD k (0, noBV)).1 ≠ a := by
      have e1 := H1.out
      obtain ⟨k', rfl⟩ : ∃ k', k = k' + 1 := by
        cases k with
        | zero => simp [came] at e1
        | succ k' => exact ⟨k', rfl⟩
      rw [came_succ] at e1
      obtain ⟨rfl, e5⟩ := List.append_inj' e1 rfl
      simp only [List.cons.injEq, and_true] at e5
      subst e5
      exact ⟨by omega, H3.out, fun m h1 h2 => unmet_came (by omega) e2 m (by simp only at h1; omega) h2⟩
    refine ⟨.int .i64 (lst.1 : Int), ?_, by rw [last_some hm.2.1 rs.length hm.1 hm.2.2], HB1.out.trans (belowK_b (w := w) (Nat.le_refl _) W D _ _ (by have := HD.out; have := HSZ.out; omega) HKD.out rfl rfl)⟩
    simp [results, Try.f52, go_sem, hc5]
end Go.Proofs.Ytnajlineipapdaa
