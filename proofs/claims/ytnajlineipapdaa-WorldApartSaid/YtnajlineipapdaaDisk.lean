/- The reference's disk in memory: its four lists, what a block is now. Conditions: the disk lies there. -/
import Derived.Test.YtnajlineipapdaaChg
import Derived.BigQuiet
import Derived.BigRegion
set_option linter.unusedVariables false
namespace Go.Proofs.Ytnajlineipapdaa
open Go.RowKit

/-- The cells of a block, of a waiting write, of a touch. -/
def sc (b : BV) : List Value := [bvv b]
def wcs (p : Nat × BV) : List Value := [.int .i64 (p.1 : Int), bvv p.2]
def tc (t : Int × Int × BV) : List Value := [.int .i64 t.1, .int .i64 t.2.1, bvv t.2.2]
theorem sc_len (b : BV) : (sc b).length = 1 := rfl
theorem wcs_len (p : Nat × BV) : (wcs p).length = 2 := rfl
theorem tc_len (t : Int × Int × BV) : (tc t).length = 3 := rfl
/-- A disk as it lies: block g, and its four lists. -/
structure RDisk (b : Nat) (w : World) (g : Nat) (v1 v2 v3 v4 : Value) (ss : List BV) (rs al : List (Nat × BV)) (ts : List (Int × Int × BV)) : Prop where
  cells : Row w g 49 [v1, v2, v3, v4]
  o1 : w.ownsRow b 32 1 v1 ss.length (ss.flatMap sc)
  o2 : w.ownsRow b 81 2 v2 rs.length (rs.flatMap wcs)
  o3 : w.ownsRow b 81 2 v3 al.length (al.flatMap wcs)
  o4 : w.ownsRow b 77 3 v4 ts.length (ts.flatMap tc)
  sep : v2.ownBlock = none ∨ v2.ownBlock ≠ v3.ownBlock
  lo : b ≤ g
  m1 : ∀ x ∈ ss, Own8 b w x ∧ x.l.length = 256
  m2 : ∀ p ∈ rs, Own8 b w p.2 ∧ p.2.l.length = 256 ∧ p.1 < ss.length
  m3 : ∀ p ∈ al, Own8 b w p.2 ∧ p.2.l.length = 256 ∧ p.1 < ss.length
  m4 : ∀ t ∈ ts, Own8 b w t.2.2
/-- The blocks that a disk's calls may write. -/
def foot (g : Nat) (v1 v2 v3 v4 : Value) : List Nat := g :: [v1, v2, v3, v4].filterMap Value.ownBlock
/-- What block a is behind the first k waiting writes. -/
def nowK (ss : List BV) (rs : List (Nat × BV)) (a k : Nat) : BV := (rs.take k).foldl (fun b p => if p.1 = a then p.2 else b) (ss.getD a noBV)
def nowV (ss : List BV) (rs : List (Nat × BV)) (a : Nat) : BV := nowK ss rs a rs.length
theorem nowK_zero (ss : List BV) (rs : List (Nat × BV)) (a : Nat) : nowK ss rs a 0 = ss.getD a noBV := by simp [nowK]
theorem nowK_step {ss : List BV} {rs : List (Nat × BV)} {a k : Nat} {p : Nat × BV} (hp : rs[k]? = some p) : nowK ss rs a (k + 1) = if p.1 = a then p.2 else nowK ss rs a k := by
  unfold nowK
  rw [List.take_add_one, hp, List.foldl_append]
  rfl
theorem nowK_mem (ss : List BV) (rs : List (Nat × BV)) (a : Nat) (ha : a < ss.length) (Q : BV → Prop) (h1 : ∀ x ∈ ss, Q x) (h2 : ∀ p ∈ rs, Q p.2) : ∀ k, Q (nowK ss rs a k)
  | 0 => by
    rw [nowK_zero, List.getD_eq_getElem?_getD, List.getElem?_eq_getElem ha]
    exact h1 _ (List.getElem_mem ha)
  | k + 1 => by
    cases hp : rs[k]? with
    | none =>
      have e1 : nowK ss rs a (k + 1) = nowK ss rs a k := by
        unfold nowK
        rw [List.take_add_one, hp]
        simp
      rw [e1]
      exact nowK_mem ss rs a ha Q h1 h2 k
    | some p =>
      rw [nowK_step hp]
      split
      · exact h2 p (List.mem_of_getElem? hp)
      · exact nowK_mem ss rs a ha Q h1 h2 k

section
variable {b : Nat} {w : World} {g : Nat} {v1 v2 v3 v4 : Value} {ss : List BV} {rs al : List (Nat × BV)} {ts : List (Int × Int × BV)}
theorem RDisk.c0 (h : RDisk b w g v1 v2 v3 v4 ss rs al ts) : w.cell? ⟨g, 0, none⟩ = some v1 := by rw [h.cells.cell]; rfl
theorem RDisk.c1 (h : RDisk b w g v1 v2 v3 v4 ss rs al ts) : w.cell? ⟨g, 1, none⟩ = some v2 := by rw [h.cells.cell]; rfl
theorem RDisk.c2 (h : RDisk b w g v1 v2 v3 v4 ss rs al ts) : w.cell? ⟨g, 2, none⟩ = some v3 := by rw [h.cells.cell]; rfl
theorem RDisk.c3 (h : RDisk b w g v1 v2 v3 v4 ss rs al ts) : w.cell? ⟨g, 3, none⟩ = some v4 := by rw [h.cells.cell]; rfl
theorem has_in (h : RDisk b w g v1 v2 v3 v4 ss rs al ts) (a : Nat) (ha : a < ss.length) :
    Calls Try.prog 42 #[.pointer (some ⟨g, 0, none⟩), .int .i64 (a : Int)] w fun e w' => e = .returned (.bool true) ∧ w' = w := by
  obtain ⟨A1, k1, rfl⟩ := own_sl h.o1
  have c0 := h.c0
  have h1 : (0 : Int) ≤ (a : Int) := by omega
  have h2 : (a : Int) < (ss.length : Int) := by omega
  clear h ha
  go_enter Try.func42, Try.ntmps42
  go_wp2
  go_ret
  exact ⟨rfl, rfl⟩
theorem has_out (h : RDisk b w g v1 v2 v3 v4 ss rs al ts) (z : Int) (hz : z < 0 ∨ (ss.length : Int) ≤ z) :
    Calls Try.prog 42 #[.pointer (some ⟨g, 0, none⟩), .int .i64 z] w fun e w' => e = .returned (.bool false) ∧ w' = w := by
  obtain ⟨A1, k1, rfl⟩ := own_sl h.o1
  have c0 := h.c0
  clear h
  by_cases h1 : (0 : Int) ≤ z
  · have h2 : ¬ z < (ss.length : Int) := by omega
    clear hz
    go_enter Try.func42, Try.ntmps42
    go_wp2
    go_ret
    exact ⟨rfl, rfl⟩
  · clear hz
    go_enter Try.func42, Try.ntmps42
    go_wp2
    go_ret
    exact ⟨rfl, rfl⟩
set_option maxHeartbeats 1000000 in
theorem now_any (h : RDisk b w g v1 v2 v3 v4 ss rs al ts) (a : Nat) (ha : a < ss.length) (hr : rs.length ≤ 1000000) :
    Calls Try.prog 30 #[.pointer (some ⟨g, 0, none⟩), .int .i64 (a : Int)] w fun e w' => e = .returned (bvv (nowV ss rs a)) ∧ w' = w := by
  have HR := Lib.hid hr
  have HD := Lib.hid h
  have hs : ss[a]? = some (ss.getD a noBV) := by rw [List.getD_eq_getElem?_getD, List.getElem?_eq_getElem ha]; rfl
  obtain ⟨g1, k1, rfl, _, _, hc1⟩ := own_rec sc_len h.o1 hs (by omega)
  have d0 := hc1 0 _ rfl
  rw [Nat.mul_one, Nat.add_zero] at d0
  have c0 := h.c0
  have c1 := h.c1
  obtain ⟨A2, k2, rfl⟩ := own_sl h.o2
  have h2 : (a : Int) < (ss.length : Int) := by omega
  have h1 : (0 : Int) ≤ (a : Int) := by omega
  rw [← nowK_zero ss rs a] at d0
  unfold bvv at d0
  clear h hr hs hc1 ha
  go_enter Try.func30, Try.ntmps30
  go_wp2
  go_loopw [5, 6] (fun v x wr => ∃ k : Nat, k ≤ rs.length ∧ x = .int .i64 (k : Int) ∧ v = bvv (nowK ss rs a k) ∧ wr = w) (fun _ x _ => rs.length - (intOf x).toNat)
  case atStart => exact ⟨0, by omega, rfl, rfl, rfl⟩
  case round =>
    obtain ⟨k, hk, rfl, rfl, rfl⟩ := hrel
    have hkw : IntKind.i64.wrap ((k : Int) + 1) = (k : Int) + 1 := by rw [IntKind.wrap_i64]; have := HR.out; omega
    by_cases hlt : k < rs.length
    · have hki : (k : Int) < (rs.length : Int) := by omega
      obtain ⟨p, hp⟩ : ∃ p, rs[k]? = some p := ⟨_, List.getElem?_eq_getElem hlt⟩
      obtain ⟨g2, k2', e2, _, _, hc2⟩ := own_rec wcs_len HD.out.o2 hp (by omega)
      simp only [Value.slice.injEq] at e2
      obtain ⟨rfl, _, _⟩ := e2
      have p0 := hc2 0 _ rfl
      have p1 := hc2 1 _ rfl
      rw [Nat.add_zero] at p0
      unfold bvv at p1
      have HPK := Lib.hid hp
      clear hp hc2
      by_cases hpa : p.1 = a
      · have hpe : ((p.1 : Int) == (a : Int)) = true := by rw [hpa]; simp
        go_wp2
        go_roundw
        case rel => exact ⟨k + 1, by omega, by go_num, by rw [nowK_step HPK.out, if_pos hpa]; rfl, trivial⟩
        case measure => simp [intOf]; omega
      · have hpe : ((p.1 : Int) == (a : Int)) = false := beq_false_of_ne (by omega)
        go_wp2
        go_roundw
        case rel => exact ⟨k + 1, by omega, by go_num, by rw [nowK_step HPK.out, if_neg hpa], trivial⟩
        case measure => simp [intOf]; omega
    · obtain rfl : k = rs.length := by omega
      go_wp2
      go_ret
      exact ⟨rfl, rfl⟩
end
end Go.Proofs.Ytnajlineipapdaa
