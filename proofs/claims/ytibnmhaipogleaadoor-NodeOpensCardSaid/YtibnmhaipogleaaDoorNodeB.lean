/- Numbers and records as bytes, by package node: what each call leaves. Conditions: those named. -/
import Derived.Test.YtibnmhaipogleaaDoorNodeA
import Derived.Test.YtibnmhaipogleaaDoorCalls
import Derived.Test.YtibnmhaipogleaaDoorPut
import Derived.Test.YtibnmhaipogleaaDoorKept
import Derived.Deep.QuietTactic
import Derived.Deep.RegionWith
import Derived.Deep.Onto
set_option linter.unusedVariables false
set_option maxRecDepth 20000
namespace Go.Proofs.YtibnmhaipogleaaDoor
open Go.RowKit

/-- Bytes told, the call's own. -/
def OwnB (l : List UInt8) (w : World) (e : Ending) (w' : World) : Prop :=
  ∃ A n c, e = .returned (.slice A n c) ∧ Hid (n = l.length) ∧ Hid (w'.ownsRow w.heap.size 5 1 (.slice A n c) n (bc l)) ∧ Hid (Below w.heap.size w w')
theorem nnumber_any (A : Option Addr) (n c : Nat) (l : List UInt8) (sz : Int) (k x : Nat) (hn : n = l.length) (w : World) (hA : Hol w A l) (hx : x < 18446744073709551616) (hl : l.length ≤ 1000) (hp : putR l sz x = (l ++ leb x k, 0)) :
    Calls Tryd.prog 47 #[.slice A n c, .int .i64 sz, .int .u64 x] w (OwnB (l ++ leb x k) w) := by
  subst hn
  have HP := Lib.hid (put_any A c l sz x w hA hx (by omega))
  rw [hp] at HP
  clear hp hx
  go_enter Tryd.func47, Tryd.ntmps47
  go_wp2_with (go_at_call 64; refine HP.out.mono ?_; rintro e w1 ⟨v, rfl, hown, hb⟩; obtain ⟨A1, c1, rfl⟩ := own_sl hown)
  go_ret
  exact ⟨A1, _, c1, rfl, List.length_append.symm, by have e9 : (l ++ leb x k).length = l.length + (leb x k).length := List.length_append; rw [e9] at hown; exact hown, hb⟩
theorem putR2 (l : List UInt8) (x : Nat) (hx : x < 65536) : putR l 2 x = (l ++ leb x 2, 0) := by
  have h : x / 65536 = 0 := Nat.div_eq_of_lt hx
  simp [putR, wid, h]
theorem putR4 (l : List UInt8) (x : Nat) (hx : x < 4294967296) : putR l 4 x = (l ++ leb x 4, 0) := by
  have h : x / 4294967296 = 0 := Nat.div_eq_of_lt hx
  simp [putR, wid, h]
theorem nnumber2 (A : Option Addr) (n c : Nat) (l : List UInt8) (x : Nat) (hn : n = l.length) (w : World) (hA : Hol w A l) (hx : x < 65536) (hl : l.length ≤ 1000) :
    Calls Tryd.prog 47 #[.slice A n c, .int .i64 2, .int .u64 x] w (OwnB (l ++ leb x 2) w) := nnumber_any A n c l 2 2 x hn w hA (by omega) hl (putR2 l x hx)
theorem nnumber4 (A : Option Addr) (n c : Nat) (l : List UInt8) (x : Nat) (hn : n = l.length) (w : World) (hA : Hol w A l) (hx : x < 4294967296) (hl : l.length ≤ 1000) :
    Calls Tryd.prog 47 #[.slice A n c, .int .i64 4, .int .u64 x] w (OwnB (l ++ leb x 4) w) := nnumber_any A n c l 4 4 x hn w hA (by omega) hl (putR4 l x hx)
/-- A nonce as bytes. -/
def nonB (e s : Nat) : List UInt8 := leb e 4 ++ leb s 4
theorem nonB_len (e s : Nat) : (nonB e s).length = 8 := by simp [nonB, leb_len]
theorem wrap_u64n {k : Nat} (h : k < 4294967296) : IntKind.u64.wrap (k : Int) = (k : Int) := by
  simp [IntKind.wrap, IntKind.bits, IntKind.signed]
  omega
set_option maxHeartbeats 1000000 in
theorem nonce_any (A : Option Addr) (n c : Nat) (l : List UInt8) (e s : Nat) (hn : n = l.length) (w : World) (hA : Hol w A l) (he : e < 4294967296) (hs : s < 4294967296) (hl : l.length ≤ 100) :
    Calls Tryd.prog 41 #[.slice A n c, .int .u32 (e : Int), .int .u32 (s : Int)] w (OwnB (l ++ nonB e s) w) := by
  have we := wrap_u64n he
  have ws := wrap_u64n hs
  have HE := Lib.hid he
  have HS := Lib.hid hs
  have HL := Lib.hid hl
  have HN := Lib.hid hn
  clear he hs hl hn
  go_enter Tryd.func41, Tryd.ntmps41
  go_wp2_with (first
    | (go_at_call_of 47 (Value.int IntKind.u64 (e : Int)); refine (nnumber4 A n c l e HN.out _ hA HE.out (by have := HL.out; omega)).mono ?_; rintro e1 w1 ⟨A1, n1, c1, rfl, hn1, ho1, hb1⟩)
    | (go_at_call 47; refine (nnumber4 A1 n1 c1 (l ++ leb e 4) s hn1.out _ (Hol.own ho1.out) HS.out (by rw [List.length_append, leb_len]; have := HL.out; omega)).mono ?_; rintro e2 w2 ⟨A2, n2, c2, rfl, hn2, ho2, hb2⟩))
  go_ret
  have hb := hb1.out
  have e9 : l ++ nonB e s = l ++ leb e 4 ++ leb s 4 := by unfold nonB; rw [List.append_assoc]
  refine ⟨A2, n2, c2, rfl, ?_, ?_, hb.trans (hb2.out.mono hb.size)⟩
  · rw [e9]; exact hn2
  · rw [e9]; exact World.ownsRow.mono ho2.out hb.size
end Go.Proofs.YtibnmhaipogleaaDoor
