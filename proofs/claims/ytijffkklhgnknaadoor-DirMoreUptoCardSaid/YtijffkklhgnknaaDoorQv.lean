/- Where a name belongs among entries. Conditions: no more than a million entries, the library's tables lie there. -/
import Derived.Test.YtijffkklhgnknaaDoorQu
set_option linter.unusedVariables false
set_option maxRecDepth 20000
namespace Go.Proofs.YtijffkklhgnknaaDoor
open Go.RowKit

/-- Whether the entry at a place isn't below the name. -/
def notAt (nm : ByteArray) (X : List Ent) (k : Nat) : Bool := match X[k]? with | some x => notB nm x | none => true
set_option maxHeartbeats 1000000 in
theorem place_any (nm : ByteArray) (A : Option Addr) (n c : Nat) (X : List Ent) (hmax : n ≤ 1000000) (w : World) (h : Lies ecs 5 w A X) (hn : X.length = n) (hnm : ∀ e ∈ X, e.nm.size ≤ 4294967296) (hb : nm.size ≤ 9223372036854775807) (hT : Tabs w) :
    Calls Tryd.prog 39 #[.slice A n c, .string nm] w fun e w' => ∃ z : Nat, e = .returned (.int .i64 (z : Int)) ∧ z ≤ n ∧ (z < n → notAt nm X z = true) ∧ (∀ q, q + 1 = z → notAt nm X q = false) ∧ Below w.heap.size w w' := by
  have hmf : ∀ (fn : Fn) (first cap : Array Value) (w : World), (Instr.makeFunc fn first cap).run Tryd.prog w = .ok (.func fn first cap) w := fun _ _ _ _ => rfl
  have H := Lib.hid h
  have HN := Lib.hid (And.intro hmax hn)
  have HNM := Lib.hid hnm
  have HT := Lib.hid (And.intro hb hT)
  clear h hmax hn hnm hb hT
  go_enter Tryd.func39, Tryd.ntmps39
  go_wp2_with (first
    | (refine step_box1 rfl 22 (.tmp 0) rfl (.slice A n c) rfl rfl ?_; intro g2 w2 hr2 hg2 hb2
       have HC := Lib.hid (p := w2.cell? ⟨g2, 0, none⟩ = some (.slice A n c)) ((hr2.cell 0).trans rfl)
       have HB := Lib.hid hb2
       clear hr2 hg2 hb2)
    | (refine step_box1 rfl 9 (.tmp 1) rfl (.string nm) rfl rfl ?_; intro g3 w3 hr3 hg3 hb3
       have HC3 := Lib.hid (p := w3.cell? ⟨g3, 0, none⟩ = some (.string nm)) ((hr3.cell 0).trans rfl)
       have hc2 : w3.cell? ⟨g2, 0, none⟩ = some (.slice A n c) := (hb3.cell (p := ⟨g2, 0, none⟩) (World.block_lt_of_cell? _ _ HC.out)).trans HC.out
       have HC2 := Lib.hid hc2
       have HB3 := Lib.hid (below_nxt hb3 HB.out)
       have HS := Lib.hid (search_any (.pointer (some ⟨g2, 0, none⟩)) (.pointer (some ⟨g3, 0, none⟩)) (notAt nm X) n HN.out.1 w3 (fun k W hk hW => by
         obtain ⟨x, hx⟩ : ∃ x, X[k]? = some x := ⟨_, List.getElem?_eq_getElem (by rw [HN.out.2]; exact hk)⟩
         have e1 : notAt nm X k = notB nm x := by unfold notAt; rw [hx]
         rw [e1]
         have hb9 := below_nxt hW HB3.out
         exact placed_any g2 g3 nm A n c k X x W (H.out.below hb9) HN.out.2 hx ((hW.cell (p := ⟨g2, 0, none⟩) (World.block_lt_of_cell? _ _ HC2.out)).trans HC2.out) ((hW.cell (p := ⟨g3, 0, none⟩) (World.block_lt_of_cell? _ _ HC3.out)).trans HC3.out) (by have := HNM.out x (List.mem_of_getElem? hx); omega) HT.out.1 (tabs_below HT.out.2 hb9)))
       clear hr3 hg3 hb3)
    | (go_at_call 59; refine HS.out.mono ?_; rintro e w4 ⟨z, rfl, hz, hy, hq, hb⟩
       have HZ := Lib.hid (And.intro hz (And.intro hy hq))
       have HB4 := Lib.hid (below_nxt hb HB3.out)
       clear hz hy hq hb))
  go_ret
  exact ⟨z, rfl, HZ.out.1, HZ.out.2.1, HZ.out.2.2, HB4.out⟩
end Go.Proofs.YtijffkklhgnknaaDoor
