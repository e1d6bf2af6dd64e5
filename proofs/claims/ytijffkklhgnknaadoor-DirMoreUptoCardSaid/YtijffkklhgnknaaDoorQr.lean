/- Entries of other names; the entry of a name. Conditions: the row is no longer than a million. -/
import Derived.Test.YtijffkklhgnknaaDoorQq
set_option linter.unusedVariables false
set_option maxRecDepth 20000
namespace Go.Proofs.YtijffkklhgnknaaDoor
open Go.RowKit

section
variable {P : Program}
theorem results_row_tmp {fn : Func} {p u : Tmp} {ty : TypeId} (h : fn.results = #[.cell p ty, .tmp u]) (tmps : Array Value) (w : World) (g : Nat) (t : TypeId) (cs : Array Value) (fr : Nat × Nat) (d : TypeDesc)
    (hp : tmps.getD p undef = .pointer (some ⟨g, 0, none⟩)) (hg : w.heap[g]? = some (.cells cs t fr))
    (hu : P.underlying ty = some d) (hd : (match d with | .struct _ | .array _ _ => true | _ => false) = true) (hi : (P.info? ty).map (·.size) = some cs.size) :
    (results fn tmps).run P w = .ok (.tuple #[.agg cs, tmps.getD u undef]) w := by
  rw [results_cell_tmp h tmps P w, hp]
  simp [asAddr, run_loadVar_row w g t ty cs fr d hg hu hd hi]
end
theorem built_ent0 : Tryd.prog.built 42 [] = some (ecs ent0).toArray := by kernel_rfl
/-- The entries of other names. -/
theorem without_any (nm : ByteArray) (A : Option Addr) (n c : Nat) (X : List Ent) (hmax : n ≤ 1000000) (w : World) (h : Lies ecs 5 w A X) (hn : X.length = n) :
    Calls Tryd.prog 21 #[.slice A n c, .string nm] w fun e w' => ∃ A' m c', e = .returned (.slice A' m c') ∧ w'.ownsRow w.heap.size 42 5 (.slice A' m c') m ((X.filter (fun e : Ent => !(e.nm.toList == nm.toList))).flatMap ecs) ∧ m ≤ n ∧ Below w.heap.size w w' := by
  have hmf : ∀ (fn : Fn) (first cap : Array Value) (w : World), (Instr.makeFunc fn first cap).run Tryd.prog w = .ok (.func fn first cap) w := fun _ _ _ _ => rfl
  have H := Lib.hid h
  have HN := Lib.hid (And.intro hmax hn)
  clear h hmax hn
  go_enter Tryd.func21, Tryd.ntmps21
  go_wp2_with (first
    | (refine step_box1 rfl 9 _ rfl (.string nm) rfl rfl ?_; intro g2 w2 hr2 hg2 hb2
       have HC := Lib.hid (p := w2.cell? ⟨g2, 0, none⟩ = some (.string nm)) ((hr2.cell 0).trans rfl)
       have HB := Lib.hid hb2
       clear hr2 hg2 hb2)
    | (go_at_call 34; refine (kept_without g2 nm A n c X HN.out.1 _ (H.out.below HB.out) HN.out.2 HC.out).mono ?_; rintro e w3 ⟨A3, m, c3, rfl, ho, hm, hb⟩
       have HO3 := Lib.hid (own_lower ho HB.out.size)
       have HM3 := Lib.hid hm
       have HB3 := Lib.hid (below_nxt hb HB.out)
       clear ho hm hb))
  go_ret
  exact ⟨A3, m, c3, rfl, HO3.out, HM3.out, HB3.out⟩
/-- Whether an entry has the name. -/
theorem same_any (e : Ent) (g : Nat) (nm : ByteArray) (w : World) (hc : w.cell? ⟨g, 0, none⟩ = some (.string nm)) : Calls Tryd.prog 43 #[.agg (ecs e).toArray, .pointer (some ⟨g, 0, none⟩)] w fun x w' => x = .returned (.bool (e.nm.toList == nm.toList)) ∧ Below w.heap.size w w' := by
  have HC := Lib.hid hc
  have HL := Lib.hid (World.block_lt_of_cell? w _ hc)
  clear hc
  go_enter Tryd.func43, Tryd.ntmps43
  go_wp2_with (refine step_box rfl 2 rfl 42 (.tmp 0) rfl (ecs e) rfl ?_; intro g2 w2 hr2 hg2 hb2 hs2
               have HB := Lib.hid hb2
               have c4 : w2.cell? ⟨g2, 0, none⟩ = some (.string e.nm) := (hr2.cell 0).trans rfl
               have ca : w2.cell? ⟨g, 0, none⟩ = some (.string nm) := (hb2.cell (p := ⟨g, 0, none⟩) HL.out).trans HC.out
               clear hr2 hg2 hb2 hs2)
  go_ret
  exact ⟨rfl, HB.out⟩
theorem find_take {p : Ent → Bool} {X : List Ent} {k : Nat} (h : (X.take k).find? p = none) : X.find? p = (X.drop k).find? p := by
  have h1 := List.find?_append (xs := X.take k) (ys := X.drop k) (p := p)
  rw [List.take_append_drop, h] at h1
  simpa using h1
set_option maxHeartbeats 2000000 in
theorem index_any (g : Nat) (nm : ByteArray) (A : Option Addr) (n c : Nat) (X : List Ent) (hmax : n ≤ 1000000) (w : World) (h : Lies ecs 5 w A X) (hn : X.length = n) (hg : w.cell? ⟨g, 0, none⟩ = some (.string nm)) :
    Calls Tryd.prog 42 #[.slice A n c, .func (.func 43) #[] #[.pointer (some ⟨g, 0, none⟩)]] w fun e w' => ((∃ k x, e = .returned (.int .i64 ((k : Nat) : Int)) ∧ X[k]? = some x ∧ X.find? (fun e : Ent => e.nm.toList == nm.toList) = some x) ∨ (∃ z : Int, e = .returned (.int .i64 z) ∧ z < 0 ∧ X.find? (fun e : Ent => e.nm.toList == nm.toList) = none)) ∧ Below w.heap.size w w' := by
  obtain ⟨p, hp⟩ : ∃ p : Ent → Bool, (fun e : Ent => e.nm.toList == nm.toList) = p := ⟨_, rfl⟩
  have HCALL := Lib.hid (p := ∀ (x : Ent) (W : World), Below w.heap.size w W → Calls Tryd.prog 43 #[.agg (ecs x).toArray, .pointer (some ⟨g, 0, none⟩)] W fun e W' => e = .returned (.bool (p x)) ∧ Below W.heap.size W W') (fun x W hb => by
    rw [← hp]
    exact same_any x g nm W ((hb.cell (p := ⟨g, 0, none⟩) (World.block_lt_of_cell? w _ hg)).trans hg))
  rw [hp]
  have H := Lib.hid h
  have HN := Lib.hid (And.intro hmax hn)
  clear h hmax hn hp hg
  go_enter Tryd.func42, Tryd.ntmps42
  go_wp2
  go_loopw [8] (fun y wr => ∃ (k : Nat), Hid (k ≤ n) ∧ y = .int .i64 (k : Int) ∧ Hid ((X.take k).find? p = none) ∧ Hid (Below w.heap.size w wr)) (fun y _ => n - (intOf y).toNat)
  case atStart => exact ⟨0, Lib.hid (Nat.zero_le _), rfl, Lib.hid rfl, Lib.hid (Below.refl _ _)⟩
  case round =>
    obtain ⟨k, HKL, rfl, HF, HB⟩ := hrel
    rename World => wr
    by_cases hk : k < n
    · have hki : (k : Int) < (n : Int) := by omega
      have hkw : IntKind.i64.wrap ((k : Int) + 1) = (k : Int) + 1 := by rw [IntKind.wrap_i64]; have := HN.out; omega
      have hkx : k < X.length := by have := HN.out; omega
      obtain ⟨g0, o0, rfl, hc⟩ := (H.out.below HB.out).at_ hkx
      obtain ⟨x, hx⟩ : ∃ x, X[k] = x := ⟨_, rfl⟩
      rw [hx] at hc
      have HX := Lib.hid (p := X[k]? = some x ∧ X.drop k = x :: X.drop (k + 1)) ⟨by rw [List.getElem?_eq_getElem hkx, hx], by rw [List.drop_eq_getElem_cons hkx, hx]⟩
      have HR := Lib.hid (p := wr.rangeAt g0 (o0 + k * 5) (ecs x)) (fun i u hu => hc i u hu)
      have HK := Lib.hid hk
      clear hc hx hkx hk
      obtain ⟨z, hz⟩ : ∃ z, p x = z := ⟨_, rfl⟩
      have HZ := Lib.hid hz
      cases z
      · clear hz
        go_wp2_with (first
          | (refine wpList_load_mid rfl 42 (.tmp 14) rfl g0 (o0 + k * 5) rfl (ecs x) _ HR.out Tryd.underlying42 rfl (info_ent x) ?_)
          | (go_at_call 43; refine (HCALL.out x _ HB.out).mono ?_; rintro e w4 ⟨rfl, hb⟩
             have HB4 := Lib.hid (below_nxt hb HB.out)
             rw [HZ.out]
             clear hb))
        go_roundw
        case rel =>
          refine ⟨k + 1, Lib.hid HK.out, by go_num, Lib.hid ?_, HB4⟩
          rw [List.take_add_one, HX.out.1, List.find?_append, HF.out]
          simp [HZ.out]
        case measure => have := HK.out; simp [intOf]; omega
      · clear hz
        go_wp2_with (first
          | (refine wpList_load_mid rfl 42 (.tmp 14) rfl g0 (o0 + k * 5) rfl (ecs x) _ HR.out Tryd.underlying42 rfl (info_ent x) ?_)
          | (go_at_call 43; refine (HCALL.out x _ HB.out).mono ?_; rintro e w4 ⟨rfl, hb⟩
             have HB4 := Lib.hid (below_nxt hb HB.out)
             rw [HZ.out]
             clear hb))
        go_ret
        refine ⟨.inl ⟨k, x, rfl, HX.out.1, ?_⟩, HB4.out⟩
        rw [find_take HF.out, HX.out.2, List.find?_cons_of_pos HZ.out]
    · have hke : k = n := by have := HKL.out; omega
      have hki : ¬ (k : Int) < (n : Int) := by omega
      have HKE := Lib.hid hke
      clear hk hke
      go_wp2
      go_ret
      refine ⟨.inr ⟨-1, rfl, by decide, ?_⟩, HB.out⟩
      have h1 := HF.out
      rw [List.take_of_length_le (by rw [HN.out.2, HKE.out]; exact Nat.le_refl _)] at h1
      simpa using List.find?_eq_none.1 h1
/-- What Find answers. -/
def foundV (o : Option Ent) : Value := .tuple #[.agg (ecs (o.getD ent0)).toArray, .bool o.isSome]
set_option maxHeartbeats 2000000 in
/-- The entry of a name. -/
theorem find_any (nm : ByteArray) (A : Option Addr) (n c : Nat) (X : List Ent) (hmax : n ≤ 1000000) (w : World) (h : Lies ecs 5 w A X) (hn : X.length = n) :
    Calls Tryd.prog 23 #[.slice A n c, .string nm] w fun e w' => e = .returned (foundV (X.find? (fun e : Ent => e.nm.toList == nm.toList))) ∧ Below w.heap.size w w' := by
  have hmf : ∀ (fn : Fn) (first cap : Array Value) (w : World), (Instr.makeFunc fn first cap).run Tryd.prog w = .ok (.func fn first cap) w := fun _ _ _ _ => rfl
  have H := Lib.hid h
  have HN := Lib.hid (And.intro hmax hn)
  clear h hmax hn
  go_enter Tryd.func23, Tryd.ntmps23
  go_upto_region 2 with (first
    | (refine step_box1 rfl 9 _ rfl (.string nm) rfl rfl ?_; intro g2 w2 hr2 hg2 hb2
       have HC := Lib.hid (p := w2.cell? ⟨g2, 0, none⟩ = some (.string nm)) ((hr2.cell 0).trans rfl)
       have HB := Lib.hid hb2
       clear hr2 hg2 hb2)
    | (refine step_alloc rfl 4 rfl 42 rfl (ecs ent0) zero_ent ?_; intro g4 w3 hr2 hg2 hb2 hs2
       have HR4 := Lib.hid hr2
       have HB4 := Lib.hid (below_nxt hb2 HB.out)
       have HG4 := Lib.hid (p := w.heap.size ≤ g4) (by rw [hg2.out]; exact HB.out.size)
       have HC4 := Lib.hid (p := w3.cell? ⟨g2, 0, none⟩ = some (.string nm)) ((hb2.cell (p := ⟨g2, 0, none⟩) (World.block_lt_of_cell? _ _ HC.out)).trans HC.out)
       clear hr2 hg2 hb2 hs2)
    | (go_at_call 42; refine (index_any g2 nm A n c X HN.out.1 _ (H.out.below HB4.out) HN.out.2 HC4.out).mono ?_; rintro e w5 ⟨hor, hb⟩
       have HR5 := Lib.hid (HR4.out.kept hb)
       have HB5 := Lib.hid (below_nxt hb HB4.out)
       obtain ⟨z, rfl, hz⟩ : ∃ z : Int, e = .returned (.int .i64 z) ∧ ((∃ k x, z = ((k : Nat) : Int) ∧ X[k]? = some x ∧ X.find? (fun e : Ent => e.nm.toList == nm.toList) = some x) ∨ (z < 0 ∧ X.find? (fun e : Ent => e.nm.toList == nm.toList) = none)) := by
         rcases hor with ⟨k, x, rfl, hx, hf⟩ | ⟨z, rfl, hzn, hf⟩
         · exact ⟨_, rfl, .inl ⟨k, x, rfl, hx, hf⟩⟩
         · exact ⟨_, rfl, .inr ⟨hzn, hf⟩⟩
       have HZ := Lib.hid hz
       clear hb hor hz))
  rcases HZ.out with ⟨k, x, rfl, hx, hf⟩ | ⟨hzn, hf⟩
  · have hk : ¬ (k : Int) < 0 := by omega
    have hkx := (List.getElem?_eq_some_iff.1 hx).1
    have hki : (k : Int) < (n : Int) := by have := HN.out; omega
    obtain ⟨g0, o0, rfl, hc⟩ := (H.out.below HB5.out).at_ hkx
    have hxe : X[k] = x := (List.getElem?_eq_some_iff.1 hx).2
    rw [hxe] at hc
    have HRR := Lib.hid (p := w5.rangeAt g0 (o0 + k * 5) (ecs x)) (fun i u hu => hc i u hu)
    have HF := Lib.hid hf
    clear hc hxe hkx hx hf
    go_wp2_with (first
      | (refine wpList_load_mid rfl 42 (.tmp 15) rfl g0 (o0 + k * 5) rfl (ecs x) _ HRR.out Tryd.underlying42 rfl (info_ent x) ?_)
      | (refine step_store rfl 42 _ _ rfl g4 rfl 42 (ecs ent0) (ecs x) rfl HR5.out rfl (info_ent x) (ecs_one x) ?_; intro w9 hr9 hg9 hs9
         have HB9 := Lib.hid (HB5.out.grown hg9 HB5.out.size (fun q hq => by injection hq with hq; subst hq; exact HG4.out))
         clear hg9 hs9))
    refine bodyPost_ret (results_row_tmp rfl _ _ g4 _ _ _ _ rfl hr9 Tryd.underlying42 rfl (by simpa using info_ent x)) rfl ?_
    rw [HF.out]
    exact ⟨rfl, HB9.out⟩
  · have HF := Lib.hid hf
    clear hf
    go_wp2_with (first
      | (refine step_build rfl 42 _ rfl [] ?hv _ built_ent0 ?_; case hv => (simp [Act.eval, Act.put]))
      | (refine step_store rfl 42 _ _ rfl g4 rfl 42 (ecs ent0) (ecs ent0) rfl HR5.out rfl (info_ent ent0) (ecs_one ent0) ?_; intro w9 hr9 hg9 hs9
         have HB9 := Lib.hid (HB5.out.grown hg9 HB5.out.size (fun q hq => by injection hq with hq; subst hq; exact HG4.out))
         clear hg9 hs9))
    refine bodyPost_ret (results_row_tmp rfl _ _ g4 _ _ _ _ rfl hr9 Tryd.underlying42 rfl (by simpa using info_ent ent0)) rfl ?_
    rw [HF.out]
    exact ⟨rfl, HB9.out⟩
end Go.Proofs.YtijffkklhgnknaaDoor
