/- Whether cookies are apart. Conditions: no more than a million entries. -/
import Derived.Test.YtijffkklhgnknaaDoorQy
set_option linter.unusedVariables false
set_option maxRecDepth 20000
namespace Go.Proofs.YtijffkklhgnknaaDoor
open Go.RowKit

/-- No two entries with one cookie. -/
def Apart (X : List Ent) : Prop := ∀ c, (X.filter (fun e => e.ck == c)).length ≤ 1
def Next (X : List Ent) : Prop := ∀ q x y, X[q]? = some x → X[q + 1]? = some y → x.ck ≠ y.ck
theorem apart_of : ∀ {L : List Ent}, Ord Ent.ck L → Next L → Apart L
  | [], _, _ => fun c => by simp
  | [a], _, _ => fun c => by
    rw [List.filter_cons]
    split <;> simp
  | a :: b :: t, ho, hn => fun c => by
    have ho' := List.pairwise_cons.1 ho
    have h1 := apart_of (L := b :: t) ho'.2 (fun q x y hx hy => hn (q + 1) x y hx hy) c
    have hab : a.ck < b.ck := Nat.lt_of_le_of_ne (ho'.1 b (by simp)) (hn 0 a b rfl rfl)
    rw [List.filter_cons]
    split
    · rename_i he
      have hc : a.ck = c := by simpa using he
      have h2 : (b :: t).filter (fun e => e.ck == c) = [] := by
        rw [List.filter_eq_nil_iff]
        intro e he'
        have h3 : b.ck ≤ e.ck := by
          rcases List.mem_cons.1 he' with rfl | h4
          · exact Nat.le_refl _
          · exact (List.pairwise_cons.1 ho'.2).1 e h4
        have : ¬ e.ck = c := by omega
        simpa using this
      rw [h2]
      simp
    · exact h1
theorem apart_next {L : List Ent} (h : Apart L) : Next L := by
  intro q x y hx hy he
  obtain ⟨h1, h2⟩ := List.getElem?_eq_some_iff.1 hx
  obtain ⟨h3, h4⟩ := List.getElem?_eq_some_iff.1 hy
  have e1 : L = L.take q ++ x :: y :: L.drop (q + 1 + 1) := by
    rw [← h2, ← h4, List.getElem_cons_drop, List.getElem_cons_drop, List.take_append_drop]
  have h5 := h x.ck
  rw [e1, List.filter_append, List.filter_cons_of_pos (by simp), List.filter_cons_of_pos (by simp [he]), List.length_append, List.length_cons, List.length_cons] at h5
  omega
theorem apart_same {X L : List Ent} (h : SameK Ent.ck X L) : Apart X ↔ Apart L := by
  constructor
  · intro ha c
    rw [h c]
    exact ha c
  · intro ha c
    rw [← h c]
    exact ha c
def ApartP (X : List Ent) (e : Ending) : Prop := ∃ z : Bool, e = .returned (.bool z) ∧ (z = true ↔ Apart X)
set_option maxHeartbeats 2000000 in
theorem apart_any (A : Option Addr) (n c : Nat) (X : List Ent) (hmax : n ≤ 1000000) (w : World) (h : Lies ecs 5 w A X) (hn : X.length = n) :
    Calls Tryd.prog 46 #[.slice A n c] w fun e w' => ApartP X e ∧ Below w.heap.size w w' := by
  have HS := Lib.hid (bycookies_any A n c X hmax w h hn)
  have HN := Lib.hid (And.intro hmax hn)
  clear h hmax hn
  go_enter Tryd.func46, Tryd.ntmps46
  go_wp2_with (go_at_call 33; refine HS.out.mono ?_; rintro e w4 ⟨A2, c2, L, rfl, ho, hord, hs, hb⟩
               have HL := Lib.hid (Lies.own (by decide) ecs_len ho)
               have HO := Lib.hid (And.intro hord (And.intro hs (show L.length = n by have h1 := ho.1; rw [flat_len ecs_len] at h1; omega)))
               have HB4 := Lib.hid hb
               clear ho hord hs hb)
  go_loopw [3] (fun y wr => ∃ (k : Nat), y = .int .i64 (k : Int) ∧ Hid (1 ≤ k ∧ (k ≤ n ∨ k = 1)) ∧ Hid (∀ q x y, q + 1 < k → L[q]? = some x → L[q + 1]? = some y → x.ck ≠ y.ck) ∧ Hid (Below w4.heap.size w4 wr)) (fun y _ => n - (intOf y).toNat)
  case atStart => exact ⟨1, rfl, Lib.hid ⟨Nat.le_refl _, .inr rfl⟩, Lib.hid (fun q x y hq => absurd hq (by omega)), Lib.hid (Below.refl _ _)⟩
  case round =>
    obtain ⟨k, rfl, HK, HP, HB⟩ := hrel
    rename World => wr
    by_cases hk : k < n
    · have hki : (k : Int) < (n : Int) := by omega
      obtain ⟨q, hq⟩ : ∃ q, q + 1 = k := ⟨k - 1, by have := HK.out; omega⟩
      have hqi : (q : Int) < (n : Int) := by omega
      have hqw : IntKind.i64.wrap ((k : Int) - 1) = (q : Int) := by rw [IntKind.wrap_i64]; have := HN.out; omega
      have hkw : IntKind.i64.wrap ((k : Int) + 1) = (k : Int) + 1 := by rw [IntKind.wrap_i64]; have := HN.out; omega
      have hql : q < L.length := by have := HO.out.2.2; omega
      have hkl : k < L.length := by have := HO.out.2.2; omega
      obtain ⟨x, hx⟩ : ∃ x, L[q]? = some x := ⟨_, List.getElem?_eq_getElem hql⟩
      obtain ⟨y, hy⟩ : ∃ y, L[k]? = some y := ⟨_, List.getElem?_eq_getElem hkl⟩
      obtain ⟨g0, o0, rfl, hc⟩ := (HL.out.below HB.out).at_ hql
      obtain ⟨g1, o1, he, hc1⟩ := (HL.out.below HB.out).at_ hkl
      injection he with he
      injection he with he1 he2
      subst he1 he2
      rw [(List.getElem?_eq_some_iff.1 hx).2] at hc
      rw [(List.getElem?_eq_some_iff.1 hy).2] at hc1
      have cx : wr.cell? ⟨g0, o0 + q * 5 + 4, none⟩ = some (.int .u32 (x.ck : Int)) := hc 4 _ rfl
      have cy : wr.cell? ⟨g0, o0 + k * 5 + 4, none⟩ = some (.int .u32 (y.ck : Int)) := hc1 4 _ rfl
      have HXY := Lib.hid (And.intro hx (And.intro hy hq))
      have HKK := Lib.hid hk
      obtain ⟨a, ha⟩ : ∃ a, x.ck = a := ⟨_, rfl⟩
      obtain ⟨b, hb⟩ : ∃ b, y.ck = b := ⟨_, rfl⟩
      rw [ha] at cx
      rw [hb] at cy
      have HAB := Lib.hid (And.intro ha hb)
      clear hc hc1 hx hy hq hk hql hkl ha hb
      by_cases he : a = b
      · subst he
        go_wp2
        go_still_tail 11, (by kernel_rfl)
        change wpList _ _ _ _ _ wr.drew
        go_wp2
        go_ret
        refine ⟨⟨false, rfl, ⟨(fun h => by cases h), fun h => ?_⟩⟩, (below_nxt (HB.out.trans ((below_drw wr).mono HB.out.size)) HB4.out)⟩
        exact absurd (by rw [HAB.out.1, HAB.out.2]) (apart_next ((apart_same HO.out.2.1).1 h) q x y HXY.out.1 (by rw [HXY.out.2.2]; exact HXY.out.2.1))
      · have hei : ¬ (a : Int) = (b : Int) := by omega
        have HE := Lib.hid he
        clear he
        go_wp2
        go_still_tail 11, (by kernel_rfl)
        change wpList _ _ _ _ _ wr.drew
        go_wp2
        go_roundw
        case rel =>
          refine ⟨k + 1, by go_num, Lib.hid ⟨by omega, .inl HKK.out⟩, Lib.hid (fun q' x' y' hq' hx' hy' => ?_), Lib.hid (HB.out.trans ((below_drw wr).mono HB.out.size))⟩
          by_cases e1 : q' = q
          · subst e1
            have h1 := HXY.out
            rw [h1.1] at hx'
            rw [h1.2.2, h1.2.1] at hy'
            injection hx' with hx'
            injection hy' with hy'
            rw [← hx', ← hy', HAB.out.1, HAB.out.2]
            exact HE.out
          · exact HP.out q' x' y' (by have := HXY.out.2.2; omega) hx' hy'
        case measure => have := HKK.out; simp [intOf]; omega
    · have hki : ¬ (k : Int) < (n : Int) := by omega
      have HKE := Lib.hid hk
      clear hk
      go_wp2
      go_ret
      refine ⟨⟨true, rfl, ⟨fun _ => (apart_same HO.out.2.1).2 (apart_of HO.out.1 (fun q x y hx hy => HP.out q x y ?_ hx hy)), fun _ => rfl⟩⟩, below_nxt HB.out HB4.out⟩
      have h1 := (List.getElem?_eq_some_iff.1 hy).1
      have := HO.out.2.2
      have := HKE.out
      omega
end Go.Proofs.YtijffkklhgnknaaDoor
