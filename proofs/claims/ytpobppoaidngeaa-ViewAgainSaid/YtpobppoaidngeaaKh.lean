/- Changes: what was put, by rising slots. Conditions: the view lies there. -/
import Derived.Test.YtpobppoaidngeaaKg
set_option linter.unusedVariables false
set_option maxRecDepth 20000
namespace Go.Proofs.Ytpobppoaidngeaa
open Go.RowKit

/-- Changes as they lie. -/
structure PutsAt (w : World) (A : Option Addr) (ps : List (Int × BV)) : Prop where
  lies : Lies pcs 2 w A ps
  hol : ∀ p ∈ ps, Hol w p.2.A p.2.l
  len : ∀ p ∈ ps, p.2.l.length ≤ 131072
  lim : ps.length ≤ 1000
theorem PutsAt.below {w w' : World} {A : Option Addr} {ps : List (Int × BV)} (h : PutsAt w A ps) (hb : Below w.heap.size w w') : PutsAt w' A ps := ⟨h.lies.below hb, fun p hp => (h.hol p hp).below hb, h.len, h.lim⟩
/-- Changes, by slots and bytes. -/
def chL (ps : List (Int × BV)) : List (Int × List UInt8) := ps.map fun p => (p.1, p.2.l)
/-- They are those of C, by rising slots. -/
structure ChOf (C : Int → Option (List UInt8)) (cs : List (Int × List UInt8)) : Prop where
  lt : cs.Pairwise (fun x y => x.1 < y.1)
  mem : ∀ s l, (s, l) ∈ cs ↔ C s = some l
def byL (C : Int → Option BV) : Int → Option (List UInt8) := fun a => (C a).map (·.l)
theorem ChOf.one {C : Int → Option (List UInt8)} : ∀ {a b : List (Int × List UInt8)}, ChOf C a → ChOf C b → a = b := by
  suffices H : ∀ (a b : List (Int × List UInt8)), a.Pairwise (fun x y => x.1 < y.1) → b.Pairwise (fun x y => x.1 < y.1) → (∀ p, p ∈ a ↔ p ∈ b) → a = b from
    fun {a b} ha hb => H a b ha.lt hb.lt (fun p => by rw [show p = (p.1, p.2) from rfl, ha.mem, hb.mem])
  intro a
  induction a with
  | nil =>
    intro b _ _ h
    cases b with
    | nil => rfl
    | cons y b => have := (h y).2 (by simp); simp at this
  | cons x a ih =>
    intro b ha hb h
    cases b with
    | nil => have := (h x).1 (by simp); simp at this
    | cons y b =>
      obtain ⟨ha1, ha2⟩ := List.pairwise_cons.1 ha
      obtain ⟨hb1, hb2⟩ := List.pairwise_cons.1 hb
      have hxy : x = y := by
        have h1 := (h x).1 (by simp)
        have h2 := (h y).2 (by simp)
        rcases List.mem_cons.1 h1 with e | h1
        · exact e
        · rcases List.mem_cons.1 h2 with e | h2
          · exact e.symm
          · have := hb1 x h1
            have := ha1 y h2
            omega
      subst hxy
      rw [ih b ha2 hb2]
      intro z
      constructor
      · intro hz
        have := ha1 z hz
        rcases List.mem_cons.1 ((h z).1 (by simp [hz])) with e | e
        · subst e
          omega
        · exact e
      · intro hz
        have := hb1 z hz
        rcases List.mem_cons.1 ((h z).2 (by simp [hz])) with e | e
        · subst e
          omega
        · exact e
theorem chof_keys {C : Int → Option BV} {n : Nat} {ks : List Int} (hk : Keys C n ks) {ps : List (Int × BV)} (h1 : ps.map (·.1) = ks) (h2 : ∀ p ∈ ps, ∃ x, C p.1 = some x ∧ x.l = p.2.l) : ChOf (byL C) (chL ps) := by
  refine ⟨?_, fun s l => ?_⟩
  · have := hk.lt
    rw [← h1, List.pairwise_map] at this
    unfold chL
    rw [List.pairwise_map]
    exact this
  · unfold chL byL
    rw [List.mem_map]
    constructor
    · rintro ⟨p, hp, e⟩
      obtain ⟨x, hx, hl⟩ := h2 p hp
      injection e with e1 e2
      rw [← e1, hx, ← e2, ← hl]
      rfl
    · intro h
      obtain ⟨x, hx, rfl⟩ := Option.map_eq_some_iff.1 h
      have hm := (hk.mem s).2 (by rw [hx]; rfl)
      rw [← h1, List.mem_map] at hm
      obtain ⟨p, hp, rfl⟩ := hm
      obtain ⟨y, hy, hl⟩ := h2 p hp
      rw [hx] at hy
      injection hy with hy
      subst hy
      exact ⟨p, hp, by rw [hl]⟩
theorem built_put (a : Int) (A : Option Addr) (n c : Nat) : Try.prog.built 61 [(0, .int .i64 a), (1, .slice A n c)] = some #[.int .i64 a, .slice A n c] := by kernel_rfl
section
variable {b : Nat} {w w' : World} {gv gm gs : Nat} {rp : Option Addr} {n : Nat} {C : Int → Option BV}
/-- What Changes leaves. -/
def ChP (w : World) (C : Int → Option BV) (e : Ending) (w' : World) : Prop := ∃ ps A c, e = .returned (.slice A ps.length c) ∧ Hid (ChOf (byL C) (chL ps)) ∧ Hid (PutsAt w' A ps) ∧ Hid (Below w.heap.size w w')
set_option maxHeartbeats 1000000 in
theorem vchanges (h : VV b w gv gm gs rp n C) (hn : n ≤ 1000) : Calls Try.prog 16 #[.pointer (some ⟨gv, 0, none⟩)] w (ChP w C) := by
  have c1 := h.c1
  have HK := Lib.hid (fun W => keys_call (some gm) W)
  have HS := Lib.hid (h.map.sorted (by omega))
  have H := Lib.hid h
  have HN := Lib.hid hn
  have HBP := Lib.hid built_put
  clear h hn
  go_enter Try.func16, Try.ntmps16
  go_wp2_with (first
    | (go_at_call 31; refine (HK.out _).mono ?_; rintro e w2 ⟨rfl, rfl⟩)
    | (go_at_call 30; refine HS.out.mono ?_; rintro e w3 ⟨ks, A, c, rfl, hk, ho, hb⟩
       have HB3 := Lib.hid (below_nxt hb.out (below_al w _))
       have HL := Lib.hid (Lies.own (by decide) kcs_len ho.out)
       have HKK := hk
       clear ho hb hk))
  have hbase : w.heap.size ≤ w3.heap.size := HB3.out.size
  go_loopw [3, 13] (fun x y wr => ∃ (k : Nat) (ps : List (Int × BV)) (A' : Option Addr) (m c' : Nat), Hid (k ≤ ks.length) ∧ y = .int .i64 (k : Int) ∧ x = .slice A' m c' ∧ Hid (m = ps.length) ∧ Hid (ps.map (·.1) = ks.take k) ∧ Hid (∀ p ∈ ps, ∃ x, C p.1 = some x ∧ x.l = p.2.l) ∧ Hid (wr.ownsRow w3.heap.size 61 2 (.slice A' m c') m (ps.flatMap pcs)) ∧ Hid (∀ p ∈ ps, Own8 w3.heap.size wr p.2) ∧ Hid (Below w3.heap.size w3 wr)) (fun _ y _ => ks.length - (intOf y).toNat)
  case atStart => exact ⟨0, [], none, 0, 0, Lib.hid (Nat.zero_le _), rfl, rfl, Lib.hid rfl, Lib.hid rfl, Lib.hid (by simp), Lib.hid (World.ownsRow_nil _ _ _ _), Lib.hid (by simp), Lib.hid (Below.refl _ _)⟩
  case round =>
    clear c1
    obtain ⟨k, ps, A', m, c', HKL, rfl, rfl, HM, HPK, HPC, HO, HO8, HBR⟩ := hrel
    by_cases hk : k < ks.length
    · have hki : (k : Int) < (ks.length : Int) := by omega
      obtain ⟨g, o, rfl, hc⟩ := (HL.out.below HBR.out).at_ hk
      obtain ⟨z, hz⟩ : ∃ z, ks[k] = z := ⟨_, rfl⟩
      rw [hz] at hc
      have cz := hc 0 _ rfl
      simp only [Nat.mul_one, Nat.add_zero] at cz
      have hzs : ks[k]? = some z := by rw [List.getElem?_eq_getElem hk, hz]
      have hCz := (HKK.out.mem z).1 (by rw [← hz]; exact List.getElem_mem _)
      obtain ⟨x, hx⟩ := Option.isSome_iff_exists.1 hCz
      have HR := H.out.below (below_nxt HBR.out HB3.out)
      have c1 := HR.c1
      have hlk := HR.map.look (HR.map.i64 hCz)
      rw [hx] at hlk
      unfold bvo bvv at hlk
      simp only at hlk
      have HC8 := Lib.hid (clone8 x wr (HR.own z x hx).hol (HR.len z x hx))
      have HZ := Lib.hid hzs
      have HX := Lib.hid hx
      have HKT := Lib.hid hk
      have hkw : IntKind.i64.wrap ((k : Int) + 1) = (k : Int) + 1 := by rw [IntKind.wrap_i64]; have := HKK.out.le; have := HN.out; omega
      clear hc hz hzs hCz hx HR hk
      go_wp2_with (first
        | (go_at_call 32; refine HC8.out.mono ?_; rintro e w4 ⟨y, rfl, hy, ho, hb⟩
           have HY := hy; have HO4 := ho; have HB4 := hb; clear hy ho hb)
        | (refine step_build rfl 61 _ rfl [(0, .int .i64 z), (1, .slice y.A y.l.length y.c)] ?hv _ (HBP.out _ _ _ _) ?_; case hv => (simp [Act.eval, Act.put]))
        | (at_builtin
           refine wp_join rfl _ _ rfl rec_put w3.heap.size (.slice A' m c') m (ps.flatMap pcs) rfl ((own_kept HO.out HB4.out).alloc _) (some ⟨w4.heap.size, 0, none⟩) 1 1 (pcs (z, y)) rfl rfl (made_src w4 (pcs (z, y)) _) (pcs_one _) (by have := HM.out; have h2 := congrArg List.length HPK.out; rw [List.length_map, List.length_take] at h2; have := HKK.out.le; have := HN.out; omega) (by have := HBR.out.size; have := HB4.out.size; simp; omega) ?_
           intro v1 w5 ho1 hg1 hat1
           have hlow : w3.heap.size ≤ w4.heap.size := by have := HBR.out.size; have := HB4.out.size; omega
           obtain ⟨A1, c1', rfl, ho2, hb2⟩ := row_more (x := (z, y)) (HBR.out.trans (HB4.out.mono HBR.out.size)) hlow (own_kept HO.out HB4.out) ho1 hg1
           have HO2 := Lib.hid ho2
           have HB2 := Lib.hid hb2
           have HE2 := Lib.hid (p := ∀ p ∈ ps ++ [(z, y)], Own8 w3.heap.size w5 p.2) (fun p hp => by
             rcases List.mem_append.1 hp with hp | hp
             · exact own8_more (by decide) (own_kept HO.out HB4.out) ((HO8.out p hp).below HB4.out) hg1
             · rw [List.mem_singleton] at hp
               subst hp
               exact own8_more (by decide) (own_kept HO.out HB4.out) (HO4.out.lower HBR.out.size) hg1)
           clear ho1 hg1 hat1 ho2 hb2))
      go_roundw
      case rel =>
        refine ⟨k + 1, ps ++ [(z, y)], A1, m + 1, c1', Lib.hid HKT.out, by go_num, rfl, Lib.hid (by rw [List.length_append, HM.out]; rfl), Lib.hid ?_, Lib.hid (fun p hp => ?_), HO2, HE2, HB2⟩
        · rw [List.map_append, HPK.out, List.take_add_one, HZ.out]
          rfl
        · rcases List.mem_append.1 hp with hp | hp
          · exact HPC.out p hp
          · rw [List.mem_singleton] at hp
            subst hp
            exact ⟨x, HX.out, HY.out.symm⟩
      case measure => have := HKT.out; simp [intOf]; omega
    · have hkz : ¬ (k : Int) < (ks.length : Int) := by omega
      have hke : k = ks.length := by have := HKL.out; omega
      have HKE := Lib.hid hke
      clear hk hke
      go_wp2
      go_ret
      have hps : ps.map (·.1) = ks := by rw [HPK.out, HKE.out, List.take_length]
      obtain rfl := HM.out
      exact ⟨ps, A', c', rfl, Lib.hid (chof_keys HKK.out hps HPC.out), Lib.hid ⟨Lies.own (by decide) pcs_len HO.out, fun p hp => (HO8.out p hp).hol, fun p hp => by
        obtain ⟨x, hx, hl⟩ := HPC.out p hp
        rw [← hl]
        exact H.out.len _ _ hx, by have h3 := congrArg List.length hps; rw [List.length_map] at h3; have := HKK.out.le; have := HN.out; omega⟩, Lib.hid ((HB3.out).trans (HBR.out.mono hbase))⟩
end
end Go.Proofs.Ytpobppoaidngeaa
