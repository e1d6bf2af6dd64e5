/- A veil made of a key: what the call leaves. Conditions: the bytes lie there, 32 of them. -/
import Derived.Test.YtecojmafnonkiaaCount
import Derived.Test.YtecojmafnonkiaaNewK
import Derived.Laws.Small
set_option linter.unusedVariables false
namespace Go.Proofs.Ytecojmafnonkiaa
open Go.RowKit

theorem shut_any (gv gc : Nat) (K : Nat → UInt8) (e s n : Nat) (he : e < 4294967296) (hs : s < 4294967296) (hn : n ≤ 4096) (w : World) (hv : w.cell? ⟨gv, 0, none⟩ = some (.pointer (some ⟨gc, 0, none⟩))) (hC : CipherAt w gc K) :
    Calls Try.prog 21 #[.int .u32 (e : Int), .int .u32 (s : Int), .int .i64 (n : Int), .pointer (some ⟨gv, 0, none⟩)] w (NewRow w n (mk K e s)) := by
  have HX := Lib.hid (counted_any gc K e s n he hs hn w hC)
  clear he hs hn
  go_enter Try.func21, Try.ntmps21
  go_wp2_with (go_at_call 22; refine HX.out.mono ?_; rintro x w1 ⟨g, rfl, hr, hg, hb⟩)
  go_ret
  exact ⟨g, rfl, hr, hg, hb⟩
theorem vnew_any (A : Option Addr) (c : Nat) (l : List UInt8) (hl : l.length = 32) (w : World) (hA : Hol w A l) :
    Calls Try.prog 9 #[.slice A l.length c] w fun e w' => ∃ g, e = .returned (.tuple #[.pointer (some ⟨g, 0, none⟩), .int .i64 0]) ∧ MaskAt w' g (mk (kx (byl l))) ∧ Below w.heap.size w w' := by
  have hmf : ∀ (fn : Fn) (first cap : Array Value) (w : World), (Instr.makeFunc fn first cap).run Try.prog w = .ok (.func fn first cap) w := fun _ _ _ _ => rfl
  have HX := Lib.hid (new_any A c l)
  have HA := Lib.hid hA
  have HL := Lib.hid hl
  clear hA hl
  go_enter Try.func9, Try.ntmps9
  go_wp2_with (go_at_call 18; refine (HX.out _ HA.out).mono ?_; rintro e w1 ⟨_, h2⟩; obtain ⟨gc, rfl, q1, hC, hb⟩ := h2 HL.out; clear h2)
  go_ret2
  have e1 : (w1.alloc (.cells #[Value.pointer (some ⟨gc, 0, none⟩)] 51)).heap.size = w1.heap.size + 1 := by simp
  have hb2 : Below w1.heap.size w1 ((w1.alloc (.cells #[Value.pointer (some ⟨gc, 0, none⟩)] 51)).alloc (.cells #[Value.func (.func 21) #[] #[.pointer (some ⟨w1.heap.size, 0, none⟩)]] 62)) := ((Below.refl _ _).alloc (Nat.le_refl _) _).alloc (by simp) _
  have hv : ((w1.alloc (.cells #[Value.pointer (some ⟨gc, 0, none⟩)] 51)).alloc (.cells #[Value.func (.func 21) #[] #[.pointer (some ⟨w1.heap.size, 0, none⟩)]] 62)).cell? ⟨w1.heap.size, 0, none⟩ = some (.pointer (some ⟨gc, 0, none⟩)) := by
    rw [World.cell?_alloc_past _ _ _ (by simp)]
    simp
  have hf : ((w1.alloc (.cells #[Value.pointer (some ⟨gc, 0, none⟩)] 51)).alloc (.cells #[Value.func (.func 21) #[] #[.pointer (some ⟨w1.heap.size, 0, none⟩)]] 62)).cell? ⟨w1.heap.size + 1, 0, none⟩ = some (.func (.func 21) #[] #[.pointer (some ⟨w1.heap.size, 0, none⟩)]) := by
    rw [← e1]
    simp
  have hC2 := hC.kept hb2
  exact ⟨_, rfl, ⟨_, w1.heap.size, .inl rfl, hf, fun w' hb' e s n he hs hn => shut_any _ gc _ e s n he hs hn w' ((hb'.cell (p := ⟨w1.heap.size, 0, none⟩) (World.block_lt_of_cell? _ _ hv)).trans hv) (hC2.kept hb')⟩, hb.below.trans (hb2.mono hb.size)⟩
end Go.Proofs.Ytecojmafnonkiaa
