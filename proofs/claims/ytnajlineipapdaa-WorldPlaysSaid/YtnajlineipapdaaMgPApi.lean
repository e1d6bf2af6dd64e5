/- The program's disk by its calls: what each leaves, whatever its parts' values are. Conditions: the disk lies there. -/
import Derived.Test.YtnajlineipapdaaPNewD
import Derived.Test.YtnajlineipapdaaChecked
import Derived.Test.YtnajlineipapdaaMem
import Derived.Test.YtnajlineipapdaaMgPlain
import Derived.WalkKit
import Derived.WalkMore
import Derived.WalkSpells
import Derived.WalkLawsBesides
import Derived.Outline
set_option linter.unusedVariables false
namespace Go.Proofs.Ytnajlineipapdaa
open Go.RowKit

theorem whole_own (A : Option Addr) (n c : Nat) (l : List UInt8) (hn : n = l.length) (hl : l.length ≤ 9223372036854775807) (w : World) (hA : Hol w A l) : Calls Try.prog 31 #[.slice A n c] w (BlkP w l) := by
  subst hn
  exact (whole_any A c l hl w hA).mono fun e w' ⟨g, he, hr, hg, hb⟩ => ⟨⟨some ⟨g, 0, none⟩, 256, pad l⟩, by rw [he, pad_len], Lib.hid rfl, Lib.hid (own_fresh hr hg), Lib.hid hb⟩
/-- Bytes told beside OK, in new memory. -/
def ToldX (w : World) (l : List UInt8) (e : Ending) (w' : World) : Prop := ∃ x : BV, e = .returned (.tuple #[.slice x.A x.l.length x.c, .int .i64 0]) ∧ Hid (x.l = l) ∧ Hid (Own8 w.heap.size w' x)
theorem ToldB.x {w w' : World} {l : List UInt8} {e : Ending} (h : ToldB w l e w') (hl : l.length = 256) : ToldX w l e w' := by
  obtain ⟨g, he, hr, hg⟩ := h
  exact ⟨⟨some ⟨g, 0, none⟩, 256, pad l⟩, by rw [he, pad_len], Lib.hid (pad_of hl), Lib.hid (own_fresh hr hg)⟩
/-- A disk behind a call: its blocks to be written are those that were, or new. -/
def Turned (b : Nat) (w w' : World) (g : Nat) (F : List Nat) (ss : List BV) (rs : List (Nat × BV)) (E : Nat → List BV) (ts : List (Int × Int × BV)) : Prop :=
  ∃ F', Hid (PD b w' g F' ss rs E ts) ∧ Hid (Chg F w w') ∧ Hid (Wider w F F')
section
variable {b : Nat} {w : World} {g : Nat} {F : List Nat} {ss : List BV} {rs : List (Nat × BV)} {E : Nat → List BV} {ts : List (Int × Int × BV)}
theorem PD.kept {w' : World} (h : PD b w g F ss rs E ts) (hb : Below w.heap.size w w') : PD b w' g F ss rs E ts := by
  obtain ⟨v1, v2, gm, v4, ev, n, hn, h⟩ := h
  exact ⟨v1, v2, gm, v4, ev, n, hn, h.kept hb⟩
theorem PD.chg {G : List Nat} {w' : World} (h : PD b w g F ss rs E ts) (hc : Chg G w w') (hG : ∀ k ∈ G, k ∉ F) (h8 : NoBytes w G) : PD b w' g F ss rs E ts := by
  obtain ⟨v1, v2, gm, v4, ev, n, hn, h⟩ := h
  exact ⟨v1, v2, gm, v4, ev, n, hn, h.chg hc hG h8⟩
theorem PD.lt (h : PD b w g F ss rs E ts) : ∀ k ∈ F, b ≤ k ∧ k < w.heap.size := by
  obtain ⟨v1, v2, gm, v4, ev, n, hn, h⟩ := h
  exact h.fl
theorem PD.noBytes (h : PD b w g F ss rs E ts) : NoBytes w F := by
  obtain ⟨v1, v2, gm, v4, ev, n, hn, h⟩ := h
  exact h.noBytes
theorem PD.now8 (h : PD b w g F ss rs E ts) (a : Nat) (ha : a < ss.length) : Own8 b w (nowV ss rs a) ∧ (nowV ss rs a).l.length = 256 := by
  obtain ⟨v1, v2, gm, v4, ev, n, hn, h⟩ := h
  exact h.now8 a ha
theorem PD.base (h : PD b w g F ss rs E ts) : b ≤ w.heap.size := by
  obtain ⟨v1, v2, gm, v4, ev, n, hn, h⟩ := h
  have := h.fl g h.fg
  omega
theorem PD.blocks (h : PD b w g F ss rs E ts) : Calls Try.prog 12 #[.pointer (some ⟨g, 0, none⟩)] w fun e w' => e = .returned (.int .i64 (ss.length : Int)) ∧ w' = w := by
  obtain ⟨v1, v2, gm, v4, ev, n, hn, h⟩ := h
  exact pblocks h
theorem PD.waiting (h : PD b w g F ss rs E ts) : Calls Try.prog 26 #[.pointer (some ⟨g, 0, none⟩)] w fun e w' => e = .returned (.int .i64 (rs.length : Int)) ∧ w' = w := by
  obtain ⟨v1, v2, gm, v4, ev, n, hn, h⟩ := h
  exact pwaiting h
theorem PD.touched (h : PD b w g F ss rs E ts) : Calls Try.prog 29 #[.pointer (some ⟨g, 0, none⟩)] w fun e w' => e = .returned (.int .i64 (ts.length : Int)) ∧ w' = w := by
  obtain ⟨v1, v2, gm, v4, ev, n, hn, h⟩ := h
  exact ptouched h
theorem PD.read (h : PD b w g F ss rs E ts) (a : Nat) (ha : a < ss.length) (hr : rs.length ≤ 1000000) (ht : ts.length ≤ 1000000) :
    Calls Try.prog 13 #[.pointer (some ⟨g, 0, none⟩), .int .i64 (a : Int)] w fun e w' => ToldX w (nowV ss rs a).l e w' ∧ Turned b w w' g F ss rs E (ts ++ [(1, (a : Int), nowV ss rs a)]) := by
  obtain ⟨v1, v2, gm, v4, ev, n, hn, h⟩ := h
  exact (pread_in h a ha hr ht).mono fun e w' ⟨h1, v, F', h2, h3, h4⟩ => ⟨h1.x (h.now8 a ha).2, F', Lib.hid ⟨_, _, _, _, _, n, by rw [List.length_append]; omega, h2⟩, Lib.hid h3, Lib.hid h4⟩
theorem PD.read_out (h : PD b w g F ss rs E ts) (z : Int) (hz : z < 0 ∨ (ss.length : Int) ≤ z) :
    Calls Try.prog 13 #[.pointer (some ⟨g, 0, none⟩), .int .i64 z] w fun e w' => e = .returned (.tuple #[.slice none 0 0, .int .i64 201]) ∧ w' = w := by
  obtain ⟨v1, v2, gm, v4, ev, n, hn, h⟩ := h
  exact pread_out h z hz
theorem PD.peek (h : PD b w g F ss rs E ts) (a : Nat) (ha : a < ss.length) (hr : rs.length ≤ 1000000) :
    Calls Try.prog 15 #[.pointer (some ⟨g, 0, none⟩), .int .i64 (a : Int)] w fun e w' => ToldX w (nowV ss rs a).l e w' ∧ Hid (Below w.heap.size w w') := by
  obtain ⟨v1, v2, gm, v4, ev, n, hn, h⟩ := h
  exact (ppeek_in h a ha hr).mono fun e w' ⟨h1, h2⟩ => ⟨h1.x (h.now8 a ha).2, Lib.hid h2⟩
theorem PD.peek_out (h : PD b w g F ss rs E ts) (z : Int) (hz : z < 0 ∨ (ss.length : Int) ≤ z) :
    Calls Try.prog 15 #[.pointer (some ⟨g, 0, none⟩), .int .i64 z] w fun e w' => e = .returned (.tuple #[.slice none 0 0, .int .i64 201]) ∧ w' = w := by
  obtain ⟨v1, v2, gm, v4, ev, n, hn, h⟩ := h
  exact ppeek_out h z hz
/-- A write, behind the call. -/
def WroteX (b : Nat) (w w' : World) (g : Nat) (F : List Nat) (ss : List BV) (rs : List (Nat × BV)) (E : Nat → List BV) (ts : List (Int × Int × BV)) (a : Nat) (l : List UInt8) (e : Ending) : Prop :=
  ∃ x : BV, e = .returned (.int .i64 0) ∧ Hid (x.l = l) ∧ Turned b w w' g F ss (rs ++ [(a, x)]) (more E a x) (ts ++ [(2, (a : Int), x)])
theorem PD.write (h : PD b w g F ss rs E ts) (a : Nat) (ha : a < ss.length) (A : Option Addr) (m c : Nat) (l : List UInt8) (hm : m = l.length) (hl : l.length = 256) (hA : Hol w A l) (hr : rs.length ≤ 1000000) (ht : ts.length ≤ 1000000) :
    Calls Try.prog 18 #[.pointer (some ⟨g, 0, none⟩), .int .i64 (a : Int), .slice A m c] w fun e w' => WroteX b w w' g F ss rs E ts a l e := by
  subst hm
  obtain ⟨v1, v2, gm, v4, ev, n, hn, h⟩ := h
  exact (pwrite_in h hn a ha A c l hl hA hr ht).mono fun e w' ⟨x, F', h1, h2, h3, h4, h5, _⟩ => ⟨x, h1, Lib.hid h2, F', Lib.hid h3, Lib.hid h4, Lib.hid h5⟩
theorem PD.write_out (h : PD b w g F ss rs E ts) (z : Int) (A : Option Addr) (m c : Nat) (hz : (z < 0 ∨ (ss.length : Int) ≤ z) ∨ m ≠ 256) :
    Calls Try.prog 18 #[.pointer (some ⟨g, 0, none⟩), .int .i64 z, .slice A m c] w fun e w' => e = .returned (.int .i64 201) ∧ w' = w := by
  obtain ⟨v1, v2, gm, v4, ev, n, hn, h⟩ := h
  exact pwrite_out h z A m c hz
end
end Go.Proofs.Ytnajlineipapdaa
/- The library's IndexFunc and DeleteFunc at waiting writes, the question being of which block one is. Conditions: the row lies there. -/
set_option linter.unusedVariables false
namespace Go.Proofs.Ytnajlineipapdaa
open Go.RowKit

section
variable {b : Nat} {w : World} {A : Option Addr} {c gc a : Nat} {rs : List (Nat × BV)}
theorem row_at {w : World} {n0 : Nat} (h : Writes n0 w A rs) {k : Nat} {p : Nat × BV} (hp : rs[k]? = some p) : ∃ g, A = some ⟨g, 0, none⟩ ∧ w.cell? ⟨g, k * 2, none⟩ = some (.int .i64 (p.1 : Int)) ∧ w.cell? ⟨g, k * 2 + 1, none⟩ = some (.slice p.2.A p.2.l.length p.2.c) := by
  rcases h with rfl | ⟨g, e, hg, hc⟩
  · simp at hp
  · exact ⟨g, e, hc k p hp⟩
set_option maxHeartbeats 1000000 in
theorem idx_none (hbig : rs.length ≤ 1000000) (hW : Writes w.heap.size w A rs) (hgc : w.cell? ⟨gc, 0, none⟩ = some (.int .i64 (a : Int))) (hno : ∀ p ∈ rs, p.1 ≠ a) :
    Calls Try.prog 63 #[.slice A rs.length c, .func (.func 62) #[] #[.pointer (some ⟨gc, 0, none⟩)]] w fun e w' => e = .returned (.int .i64 (-1)) ∧ Below w.heap.size w w' := by
  have HBIG := Lib.hid hbig
  have HW := Lib.hid hW
  have HNO := Lib.hid hno
  have HGC := Lib.hid hgc
  have HGL := Lib.hid (World.block_lt_of_cell? w _ hgc)
  clear hbig hW hno hgc
  go_enter Try.func63, Try.ntmps63
  go_wp2
  go_loopw [8] (fun x wr => ∃ k : Nat, k ≤ rs.length ∧ x = .int .i64 (k : Int) ∧ Below w.heap.size w wr) (fun x _ => rs.length - (intOf x).toNat)
  case atStart => exact ⟨0, by omega, rfl, Below.refl _ _⟩
  case round =>
    obtain ⟨k, hk, rfl, hB⟩ := hrel
    have hkw : IntKind.i64.wrap ((k : Int) + 1) = (k : Int) + 1 := by rw [IntKind.wrap_i64]; have := HBIG.out; omega
    have HB := Lib.hid hB
    by_cases hlt : k < rs.length
    · have hki : (k : Int) < (rs.length : Int) := by omega
      have hk0 : (0 : Int) ≤ (k : Int) := by omega
      obtain ⟨p, hp⟩ : ∃ p, rs[k]? = some p := ⟨_, List.getElem?_eq_getElem hlt⟩
      obtain ⟨g2, rfl, p0, p1⟩ := row_at (HW.out.below hB) hp
      have hne : ((p.1 : Int) == (a : Int)) = false := beq_false_of_ne (by have := HNO.out p (List.mem_of_getElem? hp); omega)
      have HCG := Lib.hid ((hB.cell (p := ⟨gc, 0, none⟩) HGL.out).trans HGC.out)
      clear hp hB
      go_wp2_with (go_at_call 62; refine (of1_any (p.1 : Int) (a : Int) _ gc _ HCG.out).mono ?_; rintro e5 w5 ⟨rfl, rfl⟩; rw [hne])
      go_roundw
      case rel => exact ⟨k + 1, by omega, by go_num, HB.out.alloc HB.out.size _⟩
      case measure => simp [intOf]; omega
    · have hki : ¬ (k : Int) < (rs.length : Int) := by omega
      clear hB
      go_wp2
      go_ret
      exact ⟨rfl, HB.out⟩
set_option maxHeartbeats 1000000 in
theorem idx_some (hbig : rs.length ≤ 1000000) (hW : Writes w.heap.size w A rs) (hgc : w.cell? ⟨gc, 0, none⟩ = some (.int .i64 (a : Int))) (m : Nat) (q : Nat × BV) (hm : rs[m]? = some q) (hq : q.1 = a) (hno : ∀ j p, j < m → rs[j]? = some p → p.1 ≠ a) :
    Calls Try.prog 63 #[.slice A rs.length c, .func (.func 62) #[] #[.pointer (some ⟨gc, 0, none⟩)]] w fun e w' => e = .returned (.int .i64 (m : Int)) ∧ Below w.heap.size w w' := by
  have HBIG := Lib.hid hbig
  have HW := Lib.hid hW
  have HNO := Lib.hid hno
  have HGC := Lib.hid hgc
  have HM := Lib.hid hm
  have HQ := Lib.hid hq
  have HML := Lib.hid (List.getElem?_eq_some_iff.1 hm).1
  have HGL := Lib.hid (World.block_lt_of_cell? w _ hgc)
  clear hbig hW hno hgc hm hq
  go_enter Try.func63, Try.ntmps63
  go_wp2
  go_loopw [8] (fun x wr => ∃ k : Nat, k ≤ m ∧ x = .int .i64 (k : Int) ∧ Below w.heap.size w wr) (fun x _ => rs.length - (intOf x).toNat)
  case atStart => exact ⟨0, by omega, rfl, Below.refl _ _⟩
  case round =>
    obtain ⟨k, hk, rfl, hB⟩ := hrel
    have hkw : IntKind.i64.wrap ((k : Int) + 1) = (k : Int) + 1 := by rw [IntKind.wrap_i64]; have := HBIG.out; have := HML.out; omega
    have HB := Lib.hid hB
    have hlt : k < rs.length := by have := HML.out; omega
    have hki : (k : Int) < (rs.length : Int) := by omega
    have hk0 : (0 : Int) ≤ (k : Int) := by omega
    obtain ⟨p, hp⟩ : ∃ p, rs[k]? = some p := ⟨_, List.getElem?_eq_getElem hlt⟩
    obtain ⟨g2, rfl, p0, p1⟩ := row_at (HW.out.below hB) hp
    have HCG := Lib.hid ((hB.cell (p := ⟨gc, 0, none⟩) HGL.out).trans HGC.out)
    have HLT := Lib.hid hlt
    by_cases hkm : k < m
    · have hne : ((p.1 : Int) == (a : Int)) = false := beq_false_of_ne (by have := HNO.out k p hkm hp; omega)
      have HKM := Lib.hid hkm
      clear hp hB hlt hkm hk
      go_wp2_with (go_at_call 62; refine (of1_any (p.1 : Int) (a : Int) _ gc _ HCG.out).mono ?_; rintro e5 w5 ⟨rfl, rfl⟩; rw [hne])
      go_roundw
      case rel => exact ⟨k + 1, HKM.out, by go_num, HB.out.alloc HB.out.size _⟩
      case measure => have := HLT.out; simp [intOf]; omega
    · obtain rfl : k = m := by omega
      have hne : ((p.1 : Int) == (a : Int)) = true := by
        have e1 := HM.out
        rw [hp] at e1
        injection e1 with e1
        rw [e1, HQ.out]
        simp
      clear hp hB hlt hkm hk
      go_wp2_with (go_at_call 62; refine (of1_any (p.1 : Int) (a : Int) _ gc _ HCG.out).mono ?_; rintro e5 w5 ⟨rfl, rfl⟩; rw [hne])
      go_ret
      exact ⟨rfl, HB.out.alloc HB.out.size _⟩
end
end Go.Proofs.Ytnajlineipapdaa
/- Numbers put behind bytes by package wire: what each call leaves, for every argument (bytes of at most 2^45). No other conditions. -/
set_option linter.unusedVariables false
namespace Go.Proofs.Ytnajlineipapdaa
open Go.RowKit

theorem info5 : (Try.prog.info? 5).map (fun i => (i.zero, i.size, i.bytes)) = some (some (.int .u8 0), 1, 1) := by kernel_rfl
theorem u8_table : ∃ i, U8 Try.prog 32 5 i := by
  obtain ⟨i, hi, hz, h1, h2⟩ := info_parts info5
  exact ⟨i, Try.underlying32, hi, hz, h1, h2⟩

theorem width_any (n : Int) (w : World) : Calls Try.prog 64 #[.int .i64 n] w fun e w' => e = .returned (.int .i64 (wid n : Nat)) ∧ w = w' := by
  by_cases h8 : n = 8
  · subst h8
    go_enter Try.func64, Try.ntmps64
    go_wp2
    go_ret
    exact ⟨rfl, rfl⟩
  by_cases h4 : n = 4
  · subst h4
    go_enter Try.func64, Try.ntmps64
    go_wp2
    go_ret
    exact ⟨rfl, rfl⟩
  by_cases h2 : n = 2
  · subst h2
    go_enter Try.func64, Try.ntmps64
    go_wp2
    go_ret
    exact ⟨rfl, rfl⟩
  by_cases h1 : n = 1
  · subst h1
    go_enter Try.func64, Try.ntmps64
    go_wp2
    go_ret
    exact ⟨rfl, rfl⟩
  have e8 : (n == 8) = false := by simp [h8]
  have e4 : (n == 4) = false := by simp [h4]
  have e2 : (n == 2) = false := by simp [h2]
  have e1 : (n == 1) = false := by simp [h1]
  have hw : wid n = 0 := by simp [wid, h8, h4, h2, h1]
  rw [hw]
  clear h8 h4 h2 h1 hw
  go_enter Try.func64, Try.ntmps64
  go_wp2
  go_ret
  exact ⟨rfl, rfl⟩

theorem room_any (A : Option Addr) (c : Nat) (l : List UInt8) (more : Nat) (w : World) (hA : Hol w A l) (hb : l.length + more ≤ 70368744177664) :
    Calls Try.prog 66 #[.slice A l.length c, .int .i64 more] w fun e w' => ∃ v, e = .returned v ∧ w'.ownsRow w.heap.size 5 1 v l.length (bc l) ∧ Below w.heap.size w w' := by
  obtain ⟨i, U⟩ := u8_table
  go_enter Try.func66, Try.ntmps66
  go_wp2_with (first
    | (refine wpList_make_own _ rfl _ _ 32 rfl w.heap.size 5 i (.int .u8 0) 1 U.ht U.hi U.hz U.h1 .i64 .i64 _ (l.length + more) rfl rfl (by omega) (by rw [U.h2]; omega) (by unfold maxLen; omega) (Nat.le_refl _) ?_
       intro w1 hown1 hg1)
    | (at_builtin
       refine wpList_app _ rfl _ _ _ rfl 5 i U w.heap.size _ 0 [] rfl hown1 A l.length c l rfl rfl (hA.below (below_of_grown hg1)) (by omega) hg1.size ?_
       intro v2 w2 hown2 hg2 hat2))
  go_ret
  refine ⟨v2, rfl, by simpa using hown2, (below_of_grown hg1).grown hg2 hg1.size (fun k hk => (hown1.lt k hk).1)⟩

/-- One byte in a new block of its own. -/
theorem hol_one (w : World) (e : TypeId) (x : UInt8) (z : Int) (hz : z = (x.toNat : Int)) : Hol (w.alloc (.cells #[.int .u8 z] e)) (some ⟨w.heap.size, 0, none⟩) [x] := by
  subst hz
  refine .inr ⟨w.heap.size, 0, rfl, fun j y hy => ?_⟩
  match j, hy with
  | 0, hy =>
    simp at hy
    subst hy
    simp

theorem byte_shr (x k : Nat) : (x : Int) / 2 ^ (8 * k) % 256 = ((UInt8.ofNat (x / 256 ^ k)).toNat : Int) := by
  have e : (UInt8.ofNat (x / 256 ^ k)).toNat = x / 256 ^ k % 256 := UInt8.toNat_ofNat' ..
  have e2 : (2 : Int) ^ (8 * k) = ((256 ^ k : Nat) : Int) := by
    rw [Int.pow_mul]
    simp
  rw [e, e2]
  omega

set_option maxHeartbeats 400000 in
theorem number_any (B : Nat) (v : Value) (n : Nat) (l : List UInt8) (size : Nat) (x : Nat) (w : World) (hown : w.ownsRow B 5 1 v n (bc l)) (hs : size ≤ 8) (hx : x < 18446744073709551616)
    (hn : n ≤ 70368744177664) (hB : B ≤ w.heap.size) :
    Calls Try.prog 65 #[v, .int .i64 size, .int .u64 x] w fun e w' => ∃ v', e = .returned v' ∧ w'.ownsRow B 5 1 v' (n + size) (bc (l ++ leb x size)) ∧ Below B w w' := by
  obtain ⟨i, U⟩ := u8_table
  go_enter Try.func65, Try.ntmps65
  go_wp2
  go_loopw [0, 9] (fun s i wr => ∃ k : Nat, k ≤ size ∧ i = .int .i64 k ∧ wr.ownsRow B 5 1 s (n + k) (bc (l ++ leb x k)) ∧ Below B w wr) (fun _ i _ => size - (intOf i).toNat)
  case atStart => exact ⟨0, Nat.zero_le _, rfl, by simpa [leb] using hown, Below.refl _ _⟩
  case round =>
    obtain ⟨k, hk, rfl, hown1, hb1⟩ := hrel
    by_cases hlt : k < size
    · go_wp2_with (at_builtin; refine wpList_app _ rfl _ _ _ rfl 5 i U B _ (n + k) _ rfl (hown1.alloc _) (some ⟨wr.heap.size, 0, none⟩) 1 1 [UInt8.ofNat (x / 256 ^ k)] rfl rfl (hol_one _ _ _ _ ?hz) (by omega) (by have := hb1.size; simp; omega) ?_)
      case hz => exact byte_shr x k
      intro v2 w2 hown2 hg2 hat2
      have hb2 : Below B w w2 := (hb1.alloc (by have := hb1.size; omega) _).grown hg2 (by have := hb1.size; simp; omega) (fun k hk => (hown1.lt k hk).1)
      have hown3 : w2.ownsRow B 5 1 v2 (n + (k + 1)) (bc (l ++ leb x (k + 1))) := by
        rw [leb_succ, ← List.append_assoc, bc_app]
        exact hown2
      clear hown2 hg2 hat2 hown1 hb1
      go_wp2
      go_roundw
      case rel => exact ⟨k + 1, by omega, by go_num, hown3, hb2⟩
      case measure => simp [intOf]; omega
    · go_wp2
      go_ret
      have hks : k = size := by omega
      subst hks
      exact ⟨_, rfl, hown1, hb1⟩

theorem put_arg (v : Value) (size : Int) (x : Nat) (w : World) (h : wid size = 0) :
    Calls Try.prog 58 #[v, .int .i64 size, .int .u64 x] w fun e w' => e = .returned (.tuple #[.slice none 0 0, .int .i64 201]) ∧ w = w' := by
  go_enter Try.func58, Try.ntmps58
  go_wp2_with (go_at_call 64; refine (width_any _ _).mono ?_; rintro e w' ⟨rfl, rfl⟩; rw [h])
  go_ret2
  exact ⟨rfl, rfl⟩

theorem put_long (v : Value) (size : Int) (x : Nat) (w : World) (h : wid size ≠ 0) (hx : x / 2 ^ wid size ≠ 0) (h64 : wid size < 64) :
    Calls Try.prog 58 #[v, .int .i64 size, .int .u64 x] w fun e w' => e = .returned (.tuple #[.slice none 0 0, .int .i64 202]) ∧ w = w' := by
  go_enter Try.func58, Try.ntmps58
  have hx2 : ((x : Int) / 2 ^ wid size != 0) = true := by
    rw [bne_iff_ne]
    intro e
    apply hx
    have : ((x / 2 ^ wid size : Nat) : Int) = 0 := by rw [← e]; simp
    omega
  have hw0 : ((wid size : Int) == 0) = false := by simp; omega
  clear hx h
  go_wp2_with (go_at_call 64; refine (width_any _ _).mono ?_; rintro e w' ⟨rfl, rfl⟩)
  go_ret2
  exact ⟨rfl, rfl⟩
def putR (l : List UInt8) (size : Int) (x : Nat) : List UInt8 × Int :=
  if wid size = 0 then ([], 201) else if x / 256 ^ size.toNat ≠ 0 then ([], 202) else (l ++ leb x size.toNat, 0)
/-- Bytes and an error, the bytes the call's own. -/
def BytesPost (w : World) (r : List UInt8 × Int) (e : Ending) (w' : World) : Prop :=
  ∃ v, e = .returned (.tuple #[v, .int .i64 r.2]) ∧ w'.ownsRow w.heap.size 5 1 v r.1.length (bc r.1) ∧ Below w.heap.size w w'
theorem wid_pow (size : Int) (h : wid size ≠ 0) : (2 : Nat) ^ wid size = 256 ^ size.toNat := by
  have h1 := wid_eq h
  have h2 := wid_pos h
  have e : wid size = 8 * size.toNat := by omega
  rw [e, Nat.pow_mul]

theorem put_any (A : Option Addr) (c : Nat) (l : List UInt8) (size : Int) (x : Nat) (w : World) (hA : Hol w A l) (hx : x < 18446744073709551616) (hl : l.length ≤ 35184372088832) :
    Calls Try.prog 58 #[.slice A l.length c, .int .i64 size, .int .u64 x] w (BytesPost w (putR l size x)) := by
  by_cases h : wid size = 0
  · have hr : putR l size x = ([], 201) := by unfold putR; rw [if_pos h]
    rw [hr]
    exact (put_arg _ size x w h).mono fun e w' ⟨he, hw⟩ => ⟨_, he, World.ownsRow_nil _ _ _ _, by rw [hw]; exact Below.refl _ _⟩
  by_cases hx2 : x / 256 ^ size.toNat ≠ 0
  · have hr : putR l size x = ([], 202) := by unfold putR; rw [if_neg h, if_pos hx2]
    rw [hr]
    refine (put_long _ size x w h (by rw [wid_pow size h]; exact hx2) ?_).mono fun e w' ⟨he, hw⟩ => ⟨_, he, World.ownsRow_nil _ _ _ _, by rw [hw]; exact Below.refl _ _⟩
    have hp := wid_pos h
    have he := wid_eq h
    rcases (by omega : size = 8 ∨ size < 8) with h8 | h8
    · exfalso
      apply hx2
      rw [h8]
      exact Nat.div_eq_of_lt (by simpa using hx)
    · omega
  · have hr : putR l size x = (l ++ leb x size.toNat, 0) := by unfold putR; rw [if_neg h, if_neg hx2]
    rw [hr]
    have hp := wid_pos h
    have he := wid_eq h
    have hx3 : ((x : Int) / 2 ^ wid size != 0) = false := by
      rw [bne_eq_false_iff_eq]
      have e1 : (2 : Int) ^ wid size = ((256 ^ size.toNat : Nat) : Int) := by rw [← wid_pow size h, Int.natCast_pow]; rfl
      rw [e1]
      have : x / 256 ^ size.toNat = 0 := by simpa using hx2
      rw [← Int.natCast_ediv, this]
      rfl
    have hw0 : ((wid size : Int) == 0) = false := by simp; omega
    have hw1 : wid size ≤ 64 := wid_le size
    obtain ⟨k, rfl⟩ := Int.eq_ofNat_of_zero_le (by omega : 0 ≤ size)
    rw [Int.toNat_natCast]
    have hk : k ≤ 8 := by omega
    clear hx2 h hr hp he
    go_enter Try.func58, Try.ntmps58
    go_wp2_with (first
      | (go_at_call 64; refine (width_any _ _).mono ?_; rintro e w' ⟨rfl, rfl⟩)
      | (go_at_call 66; refine (room_any A c l k w hA (by omega)).mono ?_; rintro e w1 ⟨v, rfl, hown1, hb1⟩)
      | (go_at_call 65; refine (number_any w.heap.size v l.length l k x w1 hown1 hk hx (by omega) hb1.size).mono ?_; rintro e w2 ⟨v2, rfl, hown2, hb2⟩))
    go_ret2
    refine ⟨v2, rfl, ?_, hb1.trans hb2⟩
    have : (l ++ leb x k).length = l.length + k := by rw [List.length_append, leb_len]
    rw [this]
    exact hown2

end Go.Proofs.Ytnajlineipapdaa
