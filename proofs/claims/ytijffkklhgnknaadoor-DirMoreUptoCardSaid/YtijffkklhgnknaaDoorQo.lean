/- Rows of entries: copied, put in order by cookies. Conditions: the rows are no longer than a million. -/
import Derived.Test.YtijffkklhgnknaaDoorQn
set_option linter.unusedVariables false
set_option maxRecDepth 20000
namespace Go.Proofs.YtijffkklhgnknaaDoor
open Go.RowKit

/-- Where records lie, as the source of an append. -/
theorem Lies.src {α : Type} {f : α → List Value} {k n : Nat} {w : World} {A : Option Addr} {xs : List α} (h : Lies f k w A xs) (hk : 0 < k) (hf : ∀ x, (f x).length = k) (hn : xs.length = n) : n = 0 ∧ A = none ∨ ∃ ad, A = some ad ∧ ∀ j u, (xs.flatMap f)[j]? = some u → w.cell? (ad.add j) = some u := by
  rcases h with rfl | ⟨g, o, rfl, h⟩
  · subst hn
    cases A with
    | none => exact .inl ⟨rfl, rfl⟩
    | some ad => exact .inr ⟨ad, rfl, fun j u hu => by simp at hu⟩
  · refine .inr ⟨_, rfl, fun j u hu => ?_⟩
    have hj := (List.getElem?_eq_some_iff.1 hu).1
    rw [flat_len hf] at hj
    have hq : j / k < xs.length := (Nat.div_lt_iff_lt_mul hk).2 hj
    have hr : j % k < k := Nat.mod_lt _ hk
    have he : j / k * k + j % k = j := by rw [Nat.mul_comm]; exact Nat.div_add_mod j k
    have h1 := flat_get hf (List.getElem?_eq_getElem hq) (j % k) hr
    rw [he, hu] at h1
    have h2 := h (j / k) _ (List.getElem?_eq_getElem hq) (j % k) u h1.symm
    rw [Nat.add_assoc, he] at h2
    rwa [Addr.add_lit]
/-- A row of the call's own of entries: nil, or a block with some more cells behind. -/
theorem own_er {w : World} {b n c : Nat} {A : Option Addr} {xs : List Ent} (h : w.ownsRow b 42 5 (.slice A n c) n (xs.flatMap ecs)) : (A = none ∧ n = 0 ∧ c = 0 ∧ xs = []) ∨ ∃ g Z, A = some ⟨g, 0, none⟩ ∧ b ≤ g ∧ ER w g xs Z ∧ xs.length = n ∧ ∀ w' X', X'.length = n → ER w' g X' Z → w'.ownsRow b 42 5 (.slice A n c) n (X'.flatMap ecs) := by
  have hl := h.1
  rw [flat_len ecs_len] at hl
  have hx : xs.length = n := by omega
  rcases h.2 with ⟨h1, h2⟩ | ⟨g, cap, cur, h1, hb, hg, hn, hc, hs, ht⟩
  · simp only [Value.slice.injEq] at h1
    refine .inl ⟨h1.1, h2, h1.2.2, List.eq_nil_of_length_eq_zero (by omega)⟩
  · simp only [Value.slice.injEq] at h1
    obtain ⟨rfl, _, rfl⟩ := h1
    refine .inr ⟨g, cur.toList.drop (n * 5), rfl, hb, ?_, hx, fun w' X' hX hr => ⟨by rw [flat_len ecs_len, hX], .inr ⟨g, c, _, rfl, hb, hr, hn, hc, ?_, ?_⟩⟩⟩
    · show w.heap[g]? = _
      rw [← ht, List.take_append_drop]
      exact hg
    · rw [List.size_toArray, List.length_append, flat_len ecs_len, hX, List.length_drop, Array.length_toList, hs]
      have := Nat.mul_le_mul_right 5 hn
      omega
    · have h3 : (X'.flatMap ecs).length = n * 5 := by rw [flat_len ecs_len, hX]
      rw [← h3]
      exact List.take_left' rfl
theorem insertion_nil (f : Value) (w : World) : Calls Tryd.prog 85 #[.slice none 0 0, .int .i64 0, .int .i64 0, f] w fun e w' => e = .returned (.tuple #[]) ∧ w' = w := by
  go_enter Tryd.func85, Tryd.ntmps85
  go_wp2
  go_loopw [8] (fun x wr => x = .int .i64 1 ∧ wr = w) (fun _ _ => 0)
  case atStart => exact ⟨rfl, rfl⟩
  case round =>
    obtain ⟨rfl, rfl⟩ := hrel
    go_wp2
    go_end0
    exact ⟨rfl, rfl⟩
theorem stable_nil (f : Value) (w : World) : Calls Tryd.prog 80 #[.slice none 0 0, .int .i64 0, f] w fun e w' => e = .returned (.tuple #[]) ∧ w' = w := by
  go_enter Tryd.func80, Tryd.ntmps80
  go_wp2
  go_loopw [7, 8] (fun u v wr => u = .int .i64 0 ∧ v = .int .i64 20 ∧ wr = w) (fun _ _ _ => 0)
  case atStart => exact ⟨rfl, rfl, rfl⟩
  case round =>
    obtain ⟨rfl, rfl, rfl⟩ := hrel
    rename World => wo
    go_wp2_with (go_at_call 85; refine (insertion_nil _ _).mono ?_; rintro e w2 ⟨rfl, rfl⟩)
    rename World => wp
    go_loopw [6] (fun u wr => u = .int .i64 20 ∧ wr = wp) (fun _ _ => 0)
    case atStart => exact ⟨rfl, rfl⟩
    case round =>
      obtain ⟨rfl, rfl⟩ := hrel
      go_wp2
      go_end0
      exact ⟨rfl, rfl⟩
/-- A row of the call's own is put in order. -/
theorem sort_any (b gk n c : Nat) (A : Option Addr) (X : List Ent) (hmax : n ≤ 1000000) (w : World) (hk : w.cell? ⟨gk, 0, none⟩ = some (.func (.func 55) #[] #[])) (hkb : gk < b) (hb : b ≤ w.heap.size) (h : w.ownsRow b 42 5 (.slice A n c) n (X.flatMap ecs)) :
    Calls Tryd.prog 70 #[.slice A n c, .func (.func 71) #[] #[.pointer (some ⟨gk, 0, none⟩)]] w fun e w' => e = .returned (.tuple #[]) ∧ ∃ X', w'.ownsRow b 42 5 (.slice A n c) n (X'.flatMap ecs) ∧ Ord Ent.ck X' ∧ SameK Ent.ck X X' ∧ Below b w w' := by
  rcases own_er h with ⟨rfl, rfl, rfl, rfl⟩ | ⟨g, Z, rfl, hg, hr, hl, hback⟩
  · have H := Lib.hid h
    have HB := Lib.hid hb
    clear h hk hkb hb hmax
    go_enter Tryd.func70, Tryd.ntmps70
    go_wp2_with (go_at_call 80; refine (stable_nil _ _).mono ?_; rintro e w2 ⟨rfl, rfl⟩)
    go_end0
    exact ⟨rfl, [], H.out, Ord.nil, SameK.refl _, Below.refl _ _⟩
  · have HS := Lib.hid (stable_any g gk n c X Z hl hmax w hk (by omega) hr)
    have HG := Lib.hid (And.intro hb hg)
    have HBK := Lib.hid hback
    have HL := Lib.hid hl
    clear h hk hkb hb hmax hr hg hback hl
    go_enter Tryd.func70, Tryd.ntmps70
    go_wp2_with (go_at_call 80; refine HS.out.mono ?_; rintro e w2 ⟨rfl, X', hr, ho, hs, hc⟩
                 have HR2 := Lib.hid (And.intro hr (And.intro ho (And.intro hs hc)))
                 clear hr ho hs hc)
    go_end0
    have h9 := HR2.out
    exact ⟨rfl, X', HBK.out _ _ (by rw [← h9.2.2.1.len]; exact HL.out) h9.1, h9.2.1, h9.2.2.1, h9.2.2.2.below HG.out.1 (fun x hx => by simp at hx; subst hx; exact HG.out.2)⟩
/-- A row copied. -/
theorem clone_any (A : Option Addr) (n c : Nat) (X : List Ent) (hmax : n ≤ 1000000) (w : World) (h : Lies ecs 5 w A X) (hn : X.length = n) :
    Calls Tryd.prog 69 #[.slice A n c] w fun e w' => ∃ A' c', e = .returned (.slice A' n c') ∧ w'.ownsRow w.heap.size 42 5 (.slice A' n c') n (X.flatMap ecs) ∧ Below w.heap.size w w' := by
  have hnil : ∀ (w : World) (a : Option Addr) (n c : Nat), (binOp .eql 22 (.slice a n c) (.slice none 0 0)).run Tryd.prog w = .ok (.bool a.isNone) w := fun w a n c => Lib.run_eql_slice_nil w _ _ a n c 0 0 Tryd.underlying22
  cases A with
  | none =>
    have h0 : X = [] := by
      rcases h with h | ⟨g, o, h, _⟩
      · exact h
      · cases h
    subst h0
    subst hn
    clear h hmax
    go_enter Tryd.func69, Tryd.ntmps69
    go_wp2
    go_ret
    exact ⟨none, 0, rfl, World.ownsRow_nil _ _ _ _, Below.refl _ _⟩
  | some ad =>
    have HS := Lib.hid (Lies.src (h.below ((Below.refl w.heap.size w).alloc (Nat.le_refl _) (.cells #[] 42))) (by decide) ecs_len hn)
    have HM := Lib.hid (And.intro hmax hn)
    clear h hmax hn
    go_enter Tryd.func69, Tryd.ntmps69
    go_wp2_with (first
      | (at_builtin; refine wp_join rfl _ _ rfl rec_ent w.heap.size (.slice (some ⟨w.heap.size, 0, none⟩) 0 0) 0 [] rfl (void_own w _ 5 _ (Nat.le_refl _)) (some ad) n c (X.flatMap ecs) rfl (by rw [flat_len ecs_len, HM.out.2]) HS.out (flat_one ecs_one _) (by have := HM.out; omega) (by simp) ?_
         intro v2' w2 hown2 hg2 hat2
         rw [List.nil_append, Nat.zero_add] at hown2
         obtain ⟨Ax, cx, rfl⟩ := own_sl hown2
         have hb2 : Below w.heap.size w w2 := ((Below.refl _ _).alloc (Nat.le_refl _) _).grown hg2 (by simp) (fun q hq => by have h0 : some w.heap.size = some q := hq; injection h0 with h0; omega)
         have HX2 := Lib.hid hown2
         have HB2 := Lib.hid hb2
         clear hown2 hg2 hat2 hb2))
    go_ret
    exact ⟨Ax, cx, rfl, HX2.out, HB2.out⟩
/-- A row put in order, in a row of its own. -/
theorem sorted_any (A : Option Addr) (n c : Nat) (X : List Ent) (hmax : n ≤ 1000000) (w : World) (h : Lies ecs 5 w A X) (hn : X.length = n) :
    Calls Tryd.prog 54 #[.slice A n c, .func (.func 55) #[] #[]] w fun e w' => ∃ A' c' X', e = .returned (.slice A' n c') ∧ w'.ownsRow w.heap.size 42 5 (.slice A' n c') n (X'.flatMap ecs) ∧ Ord Ent.ck X' ∧ SameK Ent.ck X X' ∧ Below w.heap.size w w' := by
  have hmf : ∀ (fn : Fn) (first cap : Array Value) (w : World), (Instr.makeFunc fn first cap).run Tryd.prog w = .ok (.func fn first cap) w := fun _ _ _ _ => rfl
  have H := Lib.hid h
  have HM := Lib.hid (And.intro hmax hn)
  clear h hmax hn
  go_enter Tryd.func54, Tryd.ntmps54
  go_wp2_with (first
    | (refine step_box1 rfl 74 _ rfl (.func (.func 55) #[] #[]) rfl rfl ?_; intro gk w2 hr2 hg2 hb2
       have HC := Lib.hid (p := w2.cell? ⟨gk, 0, none⟩ = some (.func (.func 55) #[] #[])) ((hr2.cell 0).trans rfl)
       have HL := Lib.hid (And.intro hr2.lt hg2.out)
       have HB := Lib.hid hb2
       clear hr2 hg2 hb2)
    | (go_at_call 69; refine (clone_any A n c X HM.out.1 _ (H.out.below HB.out) HM.out.2).mono ?_; rintro e w3 ⟨A2, c2, rfl, ho, hb⟩
       have HO := Lib.hid ho
       have HB3 := Lib.hid hb
       clear ho hb)
    | (go_at_call 70; refine (sort_any w2.heap.size gk n c2 A2 X HM.out.1 _ ((HB3.out.cell (p := ⟨gk, 0, none⟩) HL.out.1).trans HC.out) HL.out.1 HB3.out.size HO.out).mono ?_; rintro e w4 ⟨rfl, X', ho, hord, hs, hb⟩
       have HO4 := Lib.hid (And.intro ho (And.intro hord hs))
       have HB4 := Lib.hid (HB3.out.trans hb)
       clear ho hord hs hb))
  go_ret
  exact ⟨A2, c2, X', rfl, own_lower HO4.out.1 HB.out.size, HO4.out.2.1, HO4.out.2.2, below_nxt HB4.out HB.out⟩
/-- Entries in the order of their cookies. -/
theorem bycookies_any (A : Option Addr) (n c : Nat) (X : List Ent) (hmax : n ≤ 1000000) (w : World) (h : Lies ecs 5 w A X) (hn : X.length = n) :
    Calls Tryd.prog 33 #[.slice A n c] w fun e w' => ∃ A' c' X', e = .returned (.slice A' n c') ∧ w'.ownsRow w.heap.size 42 5 (.slice A' n c') n (X'.flatMap ecs) ∧ Ord Ent.ck X' ∧ SameK Ent.ck X X' ∧ Below w.heap.size w w' := by
  have HS := Lib.hid (sorted_any A n c X hmax w h hn)
  clear h hmax hn
  go_enter Tryd.func33, Tryd.ntmps33
  go_wp2_with (go_at_call 54; refine HS.out.mono ?_; rintro e w4 ⟨A2, c2, X', rfl, ho, hord, hs, hb⟩
               have HO4 := Lib.hid (And.intro ho (And.intro hord (And.intro hs hb)))
               clear ho hord hs hb)
  go_ret
  exact ⟨A2, c2, X', rfl, HO4.out⟩
end Go.Proofs.YtijffkklhgnknaaDoor
