/- The program's disk by its calls: what each leaves, whatever its parts' values are. Conditions: the disk lies there. -/
import Derived.Test.YtnajlineipapdaaPNewD
set_option linter.unusedVariables false
namespace Go.Proofs.Ytnajlineipapdaa
open Go.RowKit

theorem whole_own (A : Option Addr) (n c : Nat) (l : List UInt8) (hn : n = l.length) (hl : l.length ≤ 9223372036854775807) (w : World) (hA : Hol w A l) : Calls Try.prog 31 #[.slice A n c] w (BlkP w l) := by
  subst hn
  exact (whole_any A c l hl w hA).mono fun e w' ⟨g, he, hr, hg, hb⟩ => ⟨⟨some ⟨g, 0, none⟩, 256, pad l⟩, by rw [he, pad_len], Lib.hid rfl, Lib.hid (own_fresh hr hg), Lib.hid hb⟩
/-- Bytes told beside OK, in new memory. -/
def ToldX (w : World) (l : List UInt8) (e : Ending) (w' : World) : Prop := ∃ x : BV, e = .returned (.tuple #[.slice x.A x.l.length x.c, .int .i64 0]) ∧ Hid (x.l = l) ∧ Hid (Own8 w.heap.size w' x)
theorem ToldB.x {w w' : World} {l : List UInt8} {e : Ending} (h : ToldB w l e w') (hl : l.length = 256) : ToldX w l e w' := by
  obtain ⟨g, he, hr, hg⟩ := h
  exact ⟨⟨some ⟨g, 0, none⟩, 256, pad l⟩, by rw [he, pad_len], Lib.hid (pad_of hl), Lib.hid (own_fresh hr hg)⟩
/-- A disk behind a call: its blocks to be written are those that were, or new. -/
def Turned (b : Nat) (w w' : World) (g : Nat) (F : List Nat) (ss : List BV) (rs : List (Nat × BV)) (E : Nat → List BV) (ts : List (Int × Int × BV)) : Prop :=
  ∃ F', Hid (PD b w' g F' ss rs E ts) ∧ Hid (Chg F w w') ∧ Hid (Wider w F F')
section
variable {b : Nat} {w : World} {g : Nat} {F : List Nat} {ss : List BV} {rs : List (Nat × BV)} {E : Nat → List BV} {ts : List (Int × Int × BV)}
theorem PD.kept {w' : World} (h : PD b w g F ss rs E ts) (hb : Below w.heap.size w w') : PD b w' g F ss rs E ts := by
  obtain ⟨v1, v2, gm, v4, ev, n, hn, h⟩ := h
  exact ⟨v1, v2, gm, v4, ev, n, hn, h.kept hb⟩
theorem PD.chg {G : List Nat} {w' : World} (h : PD b w g F ss rs E ts) (hc : Chg G w w') (hG : ∀ k ∈ G, k ∉ F) (h8 : NoBytes w G) : PD b w' g F ss rs E ts := by
  obtain ⟨v1, v2, gm, v4, ev, n, hn, h⟩ := h
  exact ⟨v1, v2, gm, v4, ev, n, hn, h.chg hc hG h8⟩
theorem PD.lt (h : PD b w g F ss rs E ts) : ∀ k ∈ F, b ≤ k ∧ k < w.heap.size := by
  obtain ⟨v1, v2, gm, v4, ev, n, hn, h⟩ := h
  exact h.fl
theorem PD.noBytes (h : PD b w g F ss rs E ts) : NoBytes w F := by
  obtain ⟨v1, v2, gm, v4, ev, n, hn, h⟩ := h
  exact h.noBytes
theorem PD.now8 (h : PD b w g F ss rs E ts) (a : Nat) (ha : a < ss.length) : Own8 b w (nowV ss rs a) ∧ (nowV ss rs a).l.length = 256 := by
  obtain ⟨v1, v2, gm, v4, ev, n, hn, h⟩ := h
  exact h.now8 a ha
theorem PD.base (h : PD b w g F ss rs E ts) : b ≤ w.heap.size := by
  obtain ⟨v1, v2, gm, v4, ev, n, hn, h⟩ := h
  have := h.fl g h.fg
  omega
theorem PD.blocks (h : PD b w g F ss rs E ts) : Calls Try.prog 12 #[.pointer (some ⟨g, 0, none⟩)] w fun e w' => e = .returned (.int .i64 (ss.length : Int)) ∧ w' = w := by
  obtain ⟨v1, v2, gm, v4, ev, n, hn, h⟩ := h
  exact pblocks h
theorem PD.waiting (h : PD b w g F ss rs E ts) : Calls Try.prog 26 #[.pointer (some ⟨g, 0, none⟩)] w fun e w' => e = .returned (.int .i64 (rs.length : Int)) ∧ w' = w := by
  obtain ⟨v1, v2, gm, v4, ev, n, hn, h⟩ := h
  exact pwaiting h
theorem PD.touched (h : PD b w g F ss rs E ts) : Calls Try.prog 29 #[.pointer (some ⟨g, 0, none⟩)] w fun e w' => e = .returned (.int .i64 (ts.length : Int)) ∧ w' = w := by
  obtain ⟨v1, v2, gm, v4, ev, n, hn, h⟩ := h
  exact ptouched h
theorem PD.read (h : PD b w g F ss rs E ts) (a : Nat) (ha : a < ss.length) (hr : rs.length ≤ 1000000) (ht : ts.length ≤ 1000000) :
    Calls Try.prog 13 #[.pointer (some ⟨g, 0, none⟩), .int .i64 (a : Int)] w fun e w' => ToldX w (nowV ss rs a).l e w' ∧ Turned b w w' g F ss rs E (ts ++ [(1, (a : Int), nowV ss rs a)]) := by
  obtain ⟨v1, v2, gm, v4, ev, n, hn, h⟩ := h
  exact (pread_in h a ha hr ht).mono fun e w' ⟨h1, v, F', h2, h3, h4⟩ => ⟨h1.x (h.now8 a ha).2, F', Lib.hid ⟨_, _, _, _, _, n, by rw [List.length_append]; omega, h2⟩, Lib.hid h3, Lib.hid h4⟩
theorem PD.read_out (h : PD b w g F ss rs E ts) (z : Int) (hz : z < 0 ∨ (ss.length : Int) ≤ z) :
    Calls Try.prog 13 #[.pointer (some ⟨g, 0, none⟩), .int .i64 z] w fun e w' => e = .returned (.tuple #[.slice none 0 0, .int .i64 201]) ∧ w' = w := by
  obtain ⟨v1, v2, gm, v4, ev, n, hn, h⟩ := h
  exact pread_out h z hz
theorem PD.peek (h : PD b w g F ss rs E ts) (a : Nat) (ha : a < ss.length) (hr : rs.length ≤ 1000000) :
    Calls Try.prog 15 #[.pointer (some ⟨g, 0, none⟩), .int .i64 (a : Int)] w fun e w' => ToldX w (nowV ss rs a).l e w' ∧ Hid (Below w.heap.size w w') := by
  obtain ⟨v1, v2, gm, v4, ev, n, hn, h⟩ := h
  exact (ppeek_in h a ha hr).mono fun e w' ⟨h1, h2⟩ => ⟨h1.x (h.now8 a ha).2, Lib.hid h2⟩
theorem PD.peek_out (h : PD b w g F ss rs E ts) (z : Int) (hz : z < 0 ∨ (ss.length : Int) ≤ z) :
    Calls Try.prog 15 #[.pointer (some ⟨g, 0, none⟩), .int .i64 z] w fun e w' => e = .returned (.tuple #[.slice none 0 0, .int .i64 201]) ∧ w' = w := by
  obtain ⟨v1, v2, gm, v4, ev, n, hn, h⟩ := h
  exact ppeek_out h z hz
/-- A write, behind the call. -/
def WroteX (b : Nat) (w w' : World) (g : Nat) (F : List Nat) (ss : List BV) (rs : List (Nat × BV)) (E : Nat → List BV) (ts : List (Int × Int × BV)) (a : Nat) (l : List UInt8) (e : Ending) : Prop :=
  ∃ x : BV, e = .returned (.int .i64 0) ∧ Hid (x.l = l) ∧ Turned b w w' g F ss (rs ++ [(a, x)]) (more E a x) (ts ++ [(2, (a : Int), x)])
theorem PD.write (h : PD b w g F ss rs E ts) (a : Nat) (ha : a < ss.length) (A : Option Addr) (m c : Nat) (l : List UInt8) (hm : m = l.length) (hl : l.length = 256) (hA : Hol w A l) (hr : rs.length ≤ 1000000) (ht : ts.length ≤ 1000000) :
    Calls Try.prog 18 #[.pointer (some ⟨g, 0, none⟩), .int .i64 (a : Int), .slice A m c] w fun e w' => WroteX b w w' g F ss rs E ts a l e := by
  subst hm
  obtain ⟨v1, v2, gm, v4, ev, n, hn, h⟩ := h
  exact (pwrite_in h hn a ha A c l hl hA hr ht).mono fun e w' ⟨x, F', h1, h2, h3, h4, h5⟩ => ⟨x, h1, Lib.hid h2, F', Lib.hid h3, Lib.hid h4, Lib.hid h5⟩
theorem PD.write_out (h : PD b w g F ss rs E ts) (z : Int) (A : Option Addr) (m c : Nat) (hz : (z < 0 ∨ (ss.length : Int) ≤ z) ∨ m ≠ 256) :
    Calls Try.prog 18 #[.pointer (some ⟨g, 0, none⟩), .int .i64 z, .slice A m c] w fun e w' => e = .returned (.int .i64 201) ∧ w' = w := by
  obtain ⟨v1, v2, gm, v4, ev, n, hn, h⟩ := h
  exact pwrite_out h z A m c hz
end
end Go.Proofs.Ytnajlineipapdaa
