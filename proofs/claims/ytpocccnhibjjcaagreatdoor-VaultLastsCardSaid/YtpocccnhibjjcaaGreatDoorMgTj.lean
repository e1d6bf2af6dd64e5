/- A vault by its records and blocks alone: what a commit's steps leave as it is, its end; Put, Fetch, a crash. No conditions. -/
import Derived.Test.YtpocccnhibjjcaaGreatDoorMgTc
set_option linter.unusedVariables false
set_option maxRecDepth 20000
namespace Go.Proofs.YtpocccnhibjjcaaGreatDoor
open Go.RowKit

theorem sync_now (rs : List (Nat × BV)) (ss : List BV) (a : Nat) (ha : a < ss.length) (hr : ∀ p ∈ rs, p.1 < ss.length) : ∀ k, (syncK (fun _ => true) rs ss k).getD a noBV = nowK ss rs a k
  | 0 => by rw [nowK_zero]; rfl
  | k + 1 => by
    cases hp : rs[k]? with
    | none =>
      have e1 : nowK ss rs a (k + 1) = nowK ss rs a k := by
        unfold nowK
        rw [List.take_add_one, hp]
        simp
      have e2 : syncK (fun _ => true) rs ss (k + 1) = syncK (fun _ => true) rs ss k := by rw [syncK, hp]
      rw [e1, e2]
      exact sync_now rs ss a ha hr k
    | some p =>
      rw [nowK_step hp, syncK_step hp, if_pos rfl]
      by_cases e : p.1 = a
      · subst e
        rw [if_pos rfl, List.getD_eq_getElem?_getD, List.getElem?_set_self (by rw [syncK_len]; exact ha)]
        rfl
      · rw [if_neg e, List.getD_eq_getElem?_getD, List.getElem?_set_ne e, ← List.getD_eq_getElem?_getD]
        exact sync_now rs ss a ha hr k
structure Fx (n E : Nat) (c1 : Nat → List UInt8) (pv : Value) (X : VX) : Prop where
  n1 : 1 ≤ n
  rd : X.c.rd = true
  pf : X.c.pf = pv
  un : X.un = []
  ae : X.ae = X.c.e
  e_ : X.c.e = E
  s2 : ∀ j, X.S j ≤ 2
  room : 2 * (plcs n).length ≤ X.ss.length
  hh : ∀ i x, X.H i = some x → X.C i = none → x.l = c1 i
  hc : ∀ i x, X.C i = some x → i < 4 ^ n ∧ ∃ y, X.H i = some y ∧ y.l = x.l
structure CJ (L : Nat → Nat → List UInt8) (n E : Nat) (N0 : Nat → Nat → Nat → RecV) (c0 c1 : Nat → List UInt8) (pv : Value) (X : VX) : Prop where
  ci : CI L n N0 c0 c1 X
  fx : Fx n E c1 pv X
section
variable {L : Nat → Nat → List UInt8} {n E : Nat} {N0 : Nat → Nat → Nat → RecV} {c c0 c1 : Nat → List UInt8} {pv : Value} {X : VX}
theorem gvS_le {S : Nat → Nat} {r : RecV} (h : ∀ j, S j ≤ 2) (j : Nat) : gvS S r j ≤ 2 := by
  unfold gvS
  split
  · exact Nat.le_refl _
  · exact h j
theorem Fx.repl (h : Fx n E c1 pv X) (r : RecV) (p : Nat × Nat) (R : List (Nat × Nat)) : Fx n E c1 pv { X.repl r p.1 p.2 with rt := R } where
  n1 := h.n1
  rd := by show (X.repl r p.1 p.2).c.rd = _; rw [repl_rd]; exact h.rd
  pf := by show (X.repl r p.1 p.2).c.pf = _; rw [repl_pf]; exact h.pf
  un := by show (X.repl r p.1 p.2).un = _; rw [repl_un]; exact h.un
  ae := by show (X.repl r p.1 p.2).ae = (X.repl r p.1 p.2).c.e; rw [repl_ae, repl_e]; exact h.ae
  e_ := by show (X.repl r p.1 p.2).c.e = _; rw [repl_e]; exact h.e_
  s2 := fun j => by show (X.repl r p.1 p.2).S j ≤ 2; rw [repl_S]; exact gvS_le h.s2 j
  room := by show _ ≤ (X.repl r p.1 p.2).ss.length; rw [repl_ss]; exact h.room
  hh := by
    show ∀ i x, (X.repl r p.1 p.2).H i = some x → (X.repl r p.1 p.2).C i = none → x.l = c1 i
    rw [repl_H, repl_C]
    exact h.hh
  hc := by
    show ∀ i x, (X.repl r p.1 p.2).C i = some x → i < 4 ^ n ∧ ∃ y, (X.repl r p.1 p.2).H i = some y ∧ y.l = x.l
    rw [repl_H, repl_C]
    exact h.hc
theorem Fx.sealed (h : Fx n E c1 pv X) (rt : Value) (R : List (Nat × Nat)) (m : Nat) (x y : BV) (us : Value) : Fx n E c1 pv ((X.pass rt R).sealed m x y us) where
  n1 := h.n1
  rd := h.rd
  pf := h.pf
  un := h.un
  ae := h.ae
  e_ := h.e_
  s2 := fun j => by
    show S8.putN X.S m 1 j ≤ 2
    unfold S8.putN
    split
    · decide
    · exact h.s2 j
  room := h.room
  hh := h.hh
  hc := h.hc
theorem CJ.winv : WInv L (CJ L n E N0 c0 c1 pv) where
  rtv := fun X v h => ⟨CI.winv.rtv X v h.ci, { h.fx with ae := h.fx.ae }⟩
  at_ := fun X p R h hR => CI.winv.at_ X p R h.ci hR
  skip := fun X p R h hR hpl => ⟨CI.winv.skip X p R h.ci hR hpl, h.fx.repl _ _ _⟩
  room := fun X p R h hR hpl => CI.winv.room X p R h.ci hR hpl
theorem RI.begun_j (h : RI L n c X) (g gg : Nat) (rt : Value) (hlen : ∀ a x, X.C a = some x → x.l.length = 256 ∨ x.l = []) (he : X.c.e < 4294967296) : CJ L n X.c.e X.N c (ovC X.C c) (stV 56 g) (X.begun g gg rt) := by
  have a1 : ∀ j, X.S j ≤ 2 := fun j => by
    by_cases e : X.S j = 0
    · omega
    · have := (h.one j e).1
      omega
  have a2 : ∀ i x, X.H i = some x → x.l = ovC X.C c i := fun i x hx => by
    unfold ovC
    cases e : X.C i with
    | none => exact h.hh i x hx e
    | some z =>
      obtain ⟨_, y, h1, h2⟩ := h.hc i z e
      rw [hx] at h1
      cases h1
      exact h2
  exact ⟨h.begun g gg rt hlen he, ⟨h.n1, h.rd, rfl, h.un, h.ae, rfl, a1, h.room, fun i x hx _ => a2 i x hx, fun i x hx => by have hx : (none : Option BV) = some x := hx; cases hx⟩⟩
structure DJ (L : Nat → Nat → List UInt8) (n E : Nat) (N0 : Nat → Nat → Nat → RecV) (c0 c1 : Nat → List UInt8) (pv : Value) (X : VX) : Prop where
  n_ : X.c.n = n
  n3 : n ≤ 3
  ai : AI L n N0 c0 X
  tree : Tree L n X.ss.length (synX X) X.c.top X.N c1
  rs : X.rs = []
  fx : Fx n E c1 pv X
  one : ∀ j, X.S j = 1 → ∃ p, Plc n p ∧ (tr X.c.top X.N p.1 p.2).a = (j : Int) + 1
  held : ∀ p, Plc n p → Held X.ss.length X.S (tr X.c.top X.N p.1 p.2)
  len : ∀ i, c1 i = [] ∨ (c1 i).length = 256
  nb : X.ss.length ≤ 1024
theorem RecOk.lt {L : Nat → Nat → List UInt8} {NB : Nat} {D : Nat → List UInt8} {r : RecV} {pl : List UInt8} (h : RecOk L NB D r pl) {m : Nat} (hm : r.a = (m : Int) + 1) : m < NB := by
  rcases h with ⟨h1, _⟩ | ⟨k, h1, h2, _⟩
  · omega
  · obtain rfl : k = m := by omega
    exact h2
theorem AI.keep (h : AI L n N0 c X) (keep : Nat → Bool) (hb : ∀ q ∈ X.rs, q.1 < X.ss.length) (Y : VX) (h1 : Y.ss = syncK keep X.rs X.ss X.rs.length) (h2 : Y.rs = []) (h3 : Y.ar = X.ar) : AI L n N0 c Y := by
  have hl : Y.ss.length = X.ss.length := by rw [h1, syncK_len]
  refine ⟨?_, fun q hq => by rw [h2] at hq; cases hq⟩
  rw [hl, h3]
  refine h.tree.congr (REq.refl _) (fun _ _ _ _ _ _ => REq.refl _) (fun p hp m hm => ?_)
  show (Y.ss.getD m noBV).l = (X.ss.getD m noBV).l
  rw [h1]
  have : ∀ k, (syncK keep X.rs X.ss k).getD m noBV = X.ss.getD m noBV := by
    intro k
    induction k with
    | zero => rfl
    | succ k ih =>
      cases hq : X.rs[k]? with
      | none =>
        have e2 : syncK keep X.rs X.ss (k + 1) = syncK keep X.rs X.ss k := by rw [syncK, hq]
        rw [e2]
        exact ih
      | some q =>
        rw [syncK_step hq]
        split
        · have hne : q.1 ≠ m := fun e => h.free q (List.mem_of_getElem? hq) p hp (by rw [hm, e])
          rw [List.getD_eq_getElem?_getD, List.getElem?_set_ne hne, ← List.getD_eq_getElem?_getD]
          exact ih
        · exact ih
  rw [this]
theorem CJ.synced (h : CJ L n E N0 c0 c1 pv X) (hR : X.rt = []) (g : Nat) : DJ L n E N0 c0 c1 (stV 116 g) (X.synced g) := by
  have hl : (X.synced g).ss.length = X.ss.length := syncK_len _ _ _ _
  have hd := h.ci.done hR
  refine { n_ := h.ci.n_, n3 := h.ci.n3, ai := h.ci.ai.keep (fun _ => true) h.ci.rsb _ rfl rfl rfl, tree := ?_, rs := rfl, fx := ⟨h.fx.n1, h.fx.rd, rfl, h.fx.un, h.fx.ae, h.fx.e_, h.fx.s2, by rw [hl]; exact h.fx.room, h.fx.hh, h.fx.hc⟩, one := h.ci.one, held := ?_, len := h.ci.len, nb := by rw [hl]; exact h.ci.nb }
  · rw [hl]
    refine hd.congr (REq.refl _) (fun _ _ _ _ _ _ => REq.refl _) (fun p hp m hm => ?_)
    show ((syncK (fun _ => true) X.rs X.ss X.rs.length).getD m noBV).l = (nowV X.ss X.rs m).l
    rw [sync_now X.rs X.ss m ((hd.ok p hp).lt hm) h.ci.rsb]
    rfl
  · rw [hl]
    exact h.ci.held
theorem DJ.finished (h : DJ L n E N0 c0 c1 pv X) : RI L n c1 X.finished := by
  have hS : ∀ j, S8.seS X.S j ≠ 0 → X.S j = 1 := fun j hj => by
    have h2 := h.fx.s2 j
    unfold S8.seS at hj
    split at hj
    · exact (hj rfl).elim
    · omega
  refine { n_ := h.n_, n1 := h.fx.n1, n3 := h.n3, rd := h.fx.rd, pf := rfl, un := h.fx.un, ar := rfl, ae := rfl, s0 := rfl, ai := ⟨h.tree, fun q hq => by have hq : q ∈ X.rs := hq; rw [h.rs] at hq; cases hq⟩, one := fun j hj => ⟨?_, h.one j (hS j hj)⟩, held := fun p hp => ?_, nb := h.nb, room := h.fx.room, rsb := fun q hq => by have hq : q ∈ X.rs := hq; rw [h.rs] at hq; exact (List.not_mem_nil hq).elim, len := h.len, hh := h.fx.hh, hc := h.fx.hc }
  · have := hS j hj
    show S8.seS X.S j = 1
    unfold S8.seS
    rw [if_neg (by omega), this]
  · rcases h.held p hp with h0 | ⟨k, h1, h2, h3⟩
    · exact .inl h0
    · refine .inr ⟨k, h1, h2, ?_⟩
      show S8.seS X.S k = 1
      unfold S8.seS
      rw [if_neg (by omega), h3]
theorem RI.put (h : RI L n c X) (i : Nat) (hi : i < 4 ^ n) (y : BV) : RI L n c { X with H := upC X.H i y, C := upC X.C i y } :=
  { h with
    ai := ⟨h.ai.tree, h.ai.free⟩
    hh := fun j x hx hc => by
      by_cases e : j = i
      · subst e
        rw [show ({ X with H := upC X.H j y, C := upC X.C j y } : VX).C = upC X.C j y from rfl, upC_same] at hc
        cases hc
      · have hx : upC X.H i y j = some x := hx
        have hc : upC X.C i y j = none := hc
        rw [upC_other _ _ e] at hx hc
        exact h.hh j x hx hc
    hc := fun j x hx => by
      have hx : upC X.C i y j = some x := hx
      show j < 4 ^ n ∧ ∃ z, upC X.H i y j = some z ∧ z.l = x.l
      by_cases e : j = i
      · subst e
        rw [upC_same] at hx ⊢
        cases hx
        exact ⟨hi, y, rfl, rfl⟩
      · rw [upC_other _ _ e] at hx ⊢
        exact h.hc j x hx }
theorem RI.now (h : RI L n c X) (i : Nat) {x : BV} (hx : X.H i = some x) : x.l = ovC X.C c i := by
  unfold ovC
  cases e : X.C i with
  | none => exact h.hh i x hx e
  | some z =>
    obtain ⟨_, y, h1, h2⟩ := h.hc i z e
    rw [hx] at h1
    cases h1
    exact h2
theorem RI.unheld (h : RI L n c X) {i : Nat} (hx : X.H i = none) : X.C i = none := by
  cases e : X.C i with
  | none => rfl
  | some z =>
    obtain ⟨_, y, h1, _⟩ := h.hc i z e
    rw [hx] at h1
    cases h1
theorem RI.slot (h : RI L n c X) {i : Nat} (hi : i < 4 ^ n) : RecOk L X.ss.length (nowX X) (tr X.c.top X.N n i) (c i) := by
  have e := h.ai.tree.ok (n, i) ⟨Nat.le_refl _, hi⟩
  rw [show plT n X.N c (n, i) = c i from if_pos rfl, h.ar] at e
  exact e.congr (REq.refl _) (fun m hm => h.ai.now (p := (n, i)) ⟨Nat.le_refl _, hi⟩ (by rw [h.ar]; exact hm))
theorem RI.right (h : RI L n c X) {i : Nat} (hi : i < 4 ^ n) (hl : (tr X.c.top X.N n i).ld = true) : ∃ m, Right L X (tr X.c.top X.N n i) m ∧ unhid L (tr X.c.top X.N n i) (nowV X.ss X.rs m).l = c i := by
  obtain ⟨m, h1, h2, h3, h4, h5, _⟩ := (h.slot hi).right hl
  exact ⟨m, ⟨h1, h2, h3, h4⟩, h5⟩
theorem RI.empty (h : RI L n c X) {i : Nat} (hi : i < 4 ^ n) (hl : (tr X.c.top X.N n i).ld = false) : c i = [] := by
  rcases h.slot hi with ⟨_, h2⟩ | ⟨m, h1, _⟩
  · exact h2
  · have := ld_not hl
    omega
theorem RI.fetch (h : RI L n c X) (i k : Nat) (y : BV) (hy : y.l = c i) (hH : X.H i = none) : RI L n c { X.read k with H := upC X.H i y } :=
  { n_ := h.n_, n1 := h.n1, n3 := h.n3, rd := h.rd, pf := h.pf, un := h.un, ar := h.ar, ae := h.ae, s0 := h.s0, ai := ⟨h.ai.tree, h.ai.free⟩, one := h.one, held := h.held, nb := h.nb, room := h.room, rsb := h.rsb, len := h.len
    hh := fun j x hx hc => by
      have hx : upC X.H i y j = some x := hx
      have hc : X.C j = none := hc
      by_cases e : j = i
      · subst e
        rw [upC_same] at hx
        cases hx
        exact hy
      · rw [upC_other _ _ e] at hx
        exact h.hh j x hx hc
    hc := fun j x hx => by
      have hx : X.C j = some x := hx
      have hC := h.unheld hH
      show j < 4 ^ n ∧ ∃ z, upC X.H i y j = some z ∧ z.l = x.l
      have e : j ≠ i := fun e => by
        rw [e] at hx
        have := hC.symm.trans hx
        cases this
      rw [upC_other _ _ e]
      exact h.hc j x hx }
end
end Go.Proofs.YtpocccnhibjjcaaGreatDoor
/- A mounting by records and blocks alone. No conditions. -/
set_option linter.unusedVariables false
set_option maxRecDepth 20000
namespace Go.Proofs.YtpocccnhibjjcaaGreatDoor
open Go.RowKit

theorem allN_succ (n : Nat) : allN (n + 1) = allN n ++ (List.range (4 ^ n)).map fun i => (n, i) := by
  unfold allN
  rw [show P7.al (n + 1) = P7.al n ++ P7.lev n (P7.pw n) from rfl, List.map_append]
  congr 1
  unfold P7.lev
  rw [List.map_map]
  refine List.map_congr_left fun i _ => ?_
  simp
theorem mem_allN : ∀ {n : Nat} {p : Nat × Nat}, p ∈ allN n ↔ p.1 < n ∧ p.2 < 4 ^ p.1
  | 0, p => by simp [allN, P7.al]
  | n + 1, p => by
    rw [allN_succ, List.mem_append, mem_allN, List.mem_map]
    constructor
    · rintro (⟨h1, h2⟩ | ⟨i, hi, rfl⟩)
      · exact ⟨by omega, h2⟩
      · exact ⟨Nat.lt_succ_self _, List.mem_range.1 hi⟩
    · rintro ⟨h1, h2⟩
      by_cases e : p.1 = n
      · exact .inr ⟨p.2, List.mem_range.2 (by rw [← e]; exact h2), by rw [← e]⟩
      · exact .inl ⟨by omega, h2⟩
def befo (x y : Nat × Nat) : Prop := x.1 < y.1 ∨ (x.1 = y.1 ∧ x.2 < y.2)
theorem allN_befo : ∀ n, (allN n).Pairwise befo
  | 0 => by simp [allN, P7.al]
  | n + 1 => by
    rw [allN_succ]
    refine List.pairwise_append.2 ⟨allN_befo n, List.pairwise_map.2 (List.pairwise_lt_range.imp fun h => .inr ⟨rfl, h⟩), fun x hx y hy => ?_⟩
    obtain ⟨i, _, rfl⟩ := List.mem_map.1 hy
    exact .inl (mem_allN.1 hx).1
theorem allN_parts {n : Nat} {pre : List (Nat × Nat)} {q : Nat × Nat} {U : List (Nat × Nat)} (e : allN n = pre ++ q :: U) : q ∉ U ∧ ∀ l, q.1 = l + 1 → (l, q.2 / 4) ∉ q :: U := by
  have ho := allN_befo n
  rw [e] at ho
  obtain ⟨_, ho2, _⟩ := List.pairwise_append.1 ho
  obtain ⟨ho4, _⟩ := List.pairwise_cons.1 ho2
  refine ⟨fun hq => ?_, fun l hl hm => ?_⟩
  · rcases ho4 q hq with h | ⟨_, h⟩ <;> omega
  · rcases List.mem_cons.1 hm with hm | hm
    · have : l = q.1 := by rw [← hm]
      omega
    · rcases ho4 _ hm with h | ⟨h, _⟩
      · have h : q.1 < l := h
        omega
      · have h : q.1 = l := h
        omega
theorem allN_small {n : Nat} (h3 : n ≤ 3) {U : List (Nat × Nat)} (h : ∃ pre, allN n = pre ++ U) : Small U := fun p hp => by
  obtain ⟨pre, e⟩ := h
  have := mem_allN.1 (e ▸ List.mem_append_right pre hp : p ∈ allN n)
  have h64 := pow3 (Nat.le_of_lt this.1) h3
  exact ⟨by omega, by omega⟩
def Par (U : List (Nat × Nat)) (p : Nat × Nat) : Prop := ∀ l, p.1 = l + 1 → (l, p.2 / 4) ∉ U
structure MI1 (L : Nat → Nat → List UInt8) (n : Nat) (c : Nat → List UInt8) (N0 : Nat → Nat → Nat → RecV) (X : VX) : Prop where
  n_ : X.c.n = n
  n1 : 1 ≤ n
  n3 : n ≤ 3
  pf : X.c.pf = .nilFunc
  ar : X.ar = X.c.top
  ae : X.ae = X.c.e
  s0 : X.c.s = 0
  ai : AI L n N0 c X
  unp : ∃ pre, allN n = pre ++ X.un
  seen : ∀ l i, (l, i) ∉ X.un → l < n → i < 4 ^ l → ∀ k, k < 4 → REq (X.N l i k) (N0 l i k)
  zero : ∀ l i k, (l, i) ∈ X.un → X.N l i k = rec0
  mkd : ∀ j, X.S j ≠ 0 → X.S j = 1 ∧ ∃ p, Plc n p ∧ Par X.un p ∧ (tr X.ar N0 p.1 p.2).a = (j : Int) + 1
  mkd' : ∀ p, Plc n p → Par X.un p → ∀ j : Nat, (tr X.ar N0 p.1 p.2).a = (j : Int) + 1 → X.S j = 1
  nb : X.ss.length ≤ 1024
  room : 2 * (plcs n).length ≤ X.ss.length
  rsb : ∀ q ∈ X.rs, q.1 < X.ss.length
  len : ∀ i, c i = [] ∨ (c i).length = 256
  H0 : ∀ i, X.H i = none
  C0 : ∀ i, X.C i = none
section
variable {L : Nat → Nat → List UInt8} {n : Nat} {c : Nat → List UInt8} {N0 : Nat → Nat → Nat → RecV} {X : VX}
theorem MI1.tr_ (h : MI1 L n c N0 X) {p : Nat × Nat} (hp : Plc n p) (hq : Par X.un p) : REq (tr X.c.top X.N p.1 p.2) (tr X.ar N0 p.1 p.2) := by
  obtain ⟨l, i⟩ := p
  cases l with
  | zero =>
    show REq X.c.top X.ar
    rw [h.ar]
    exact REq.refl _
  | succ l =>
    obtain ⟨h1, h2⟩ := hp
    have h1 : l + 1 ≤ n := h1
    have h2 : i < 4 ^ (l + 1) := h2
    rw [Nat.pow_succ] at h2
    exact h.seen l (i / 4) (hq l rfl) (by omega) (by omega) (i % 4) (by omega)
theorem MI1.head (h : MI1 L n c N0 X) {q : Nat × Nat} {U : List (Nat × Nat)} (hq : X.un = q :: U) : q.1 < n ∧ q.2 < 4 ^ q.1 ∧ Plc n q ∧ Par X.un q ∧ q ∉ U := by
  obtain ⟨pre, e⟩ := h.unp
  rw [hq] at e
  have hm := mem_allN.1 (show q ∈ allN n by rw [e]; simp)
  obtain ⟨h1, h2⟩ := allN_parts e
  exact ⟨hm.1, hm.2, ⟨Nat.le_of_lt hm.1, hm.2⟩, by rw [hq]; exact h2, h1⟩
theorem par_cons {U : List (Nat × Nat)} {q p : Nat × Nat} (h : Par U p) (hn : ¬ Par (q :: U) p) : p.1 = q.1 + 1 ∧ p.2 / 4 = q.2 := by
  unfold Par at hn
  obtain ⟨l, hn⟩ := Classical.not_forall.1 hn
  obtain ⟨hl, hn⟩ := Classical.not_imp.1 hn
  rcases List.mem_cons.1 (Classical.not_not.1 hn) with e | e
  · rw [← e]
    exact ⟨hl, rfl⟩
  · exact (h l hl e).elim
theorem Par.tail {U : List (Nat × Nat)} {q p : Nat × Nat} (h : Par (q :: U) p) : Par U p := fun l hl hm => h l hl (List.mem_cons_of_mem _ hm)
theorem tr_under {r : RecV} {N : Nat → Nat → Nat → RecV} {p q : Nat × Nat} (h1 : p.1 = q.1 + 1) (h2 : p.2 / 4 = q.2) : tr r N p.1 p.2 = N q.1 q.2 (p.2 % 4) := by
  obtain ⟨l, i⟩ := p
  simp only at h1 h2
  subst h1
  show N q.1 (i / 4) (i % 4) = _
  rw [h2]
theorem nil4_all {R : Nat → RecV} (h : nil4 R = true) {k : Nat} (hk : k < 4) : REq (R k) rec0 := by
  unfold nil4 at h
  exact eqb_REq ((List.all_eq_true.1 h) k (List.mem_range.2 hk))
theorem MI1.pass (h : MI1 L n c N0 X) {q : Nat × Nat} {U : List (Nat × Nat)} (hq : X.un = q :: U) (hl : (tr X.c.top X.N q.1 q.2).ld = false) : MI1 L n c N0 { X with un := U } := by
  obtain ⟨q1, q2, qp, qr, qn⟩ := h.head hq
  have hz : ∀ k, k < 4 → REq (N0 q.1 q.2 k) rec0 := fun k hk => by
    have ha : (tr X.ar N0 q.1 q.2).a = 0 := by rw [← (h.tr_ qp qr).a]; exact ld_not hl
    rcases h.ai.tree.ok q qp with ⟨_, e⟩ | ⟨m, e, _⟩
    · unfold plT at e
      rw [if_neg (by omega)] at e
      by_cases e2 : nil4 (N0 q.1 q.2) = true
      · exact nil4_all e2 hk
      · rw [if_neg e2] at e
        have := congrArg List.length e
        rw [lst_len] at this
        cases this
    · omega
  refine { n_ := h.n_, n1 := h.n1, n3 := h.n3, pf := h.pf, ar := h.ar, ae := h.ae, s0 := h.s0, ai := ⟨h.ai.tree, h.ai.free⟩, unp := ?_, seen := ?_, zero := fun l i k hm => h.zero l i k (by rw [hq]; exact List.mem_cons_of_mem _ hm), mkd := ?_, mkd' := ?_, nb := h.nb, room := h.room, rsb := h.rsb, len := h.len, H0 := h.H0, C0 := h.C0 }
  · obtain ⟨pre, e⟩ := h.unp
    exact ⟨pre ++ [q], by rw [e, hq]; simp⟩
  · intro l i hm h1 h2 k hk
    by_cases e : (l, i) = q
    · subst e
      have e0 : X.N l i k = rec0 := h.zero l i k (by rw [hq]; simp)
      show REq (X.N l i k) _
      rw [e0]
      exact (hz k hk).symm
    · exact h.seen l i (by rw [hq]; intro hx; rcases List.mem_cons.1 hx with hx | hx; exact e hx; exact hm hx) h1 h2 k hk
  · intro j hj
    obtain ⟨h1, p, h2, h3, h4⟩ := h.mkd j hj
    rw [hq] at h3
    exact ⟨h1, p, h2, h3.tail, h4⟩
  · intro p hp hpr j hj
    have hj : (tr X.ar N0 p.1 p.2).a = (j : Int) + 1 := hj
    by_cases e : Par X.un p
    · exact h.mkd' p hp e j hj
    · rw [hq] at e
      obtain ⟨e1, e2⟩ := par_cons hpr e
      rw [tr_under e1 e2, (hz _ (Nat.mod_lt _ (by decide))).a] at hj
      have hj : (0 : Int) = (j : Int) + 1 := hj
      omega
theorem MI1.nxt : ∀ {U : List (Nat × Nat)} {X : VX}, MI1 L n c N0 X → X.un = U → MI1 L n c N0 { X with un := nxtP X.c.top X.N U }
  | [], X, h, hU => by
    have : { X with un := nxtP X.c.top X.N [] } = X := by
      show { X with un := [] } = X
      rw [← hU]
    rw [this]
    exact h
  | q :: U, X, h, hU => by
    unfold nxtP
    rw [List.dropWhile_cons]
    by_cases hl : (tr X.c.top X.N q.1 q.2).ld = true
    · rw [hl]
      show MI1 L n c N0 { X with un := q :: U }
      rw [← hU]
      exact h
    · have hl : (tr X.c.top X.N q.1 q.2).ld = false := by simpa using hl
      rw [hl]
      exact MI1.nxt (X := { X with un := U }) (h.pass hU hl) rfl
theorem MI1.want (h : MI1 L n c N0 X) {q : Nat × Nat} {U : List (Nat × Nat)} (hq : X.un = q :: U) (hl : (tr X.c.top X.N q.1 q.2).ld = true) :
    ∃ m, Right L X (tr X.c.top X.N q.1 q.2) m ∧ unhid L (tr X.c.top X.N q.1 q.2) (nowV X.ss X.rs m).l = lst 256 (pk (N0 q.1 q.2)) ∧ unOk (lst 256 (pk (N0 q.1 q.2))) = true ∧ (∀ k, k < 4 → REq (unR (lst 256 (pk (N0 q.1 q.2))) k) (N0 q.1 q.2 k)) := by
  obtain ⟨q1, q2, qp, qr, qn⟩ := h.head hq
  have ht := h.tr_ qp qr
  have hok : RecOk L X.ss.length (nowX X) (tr X.c.top X.N q.1 q.2) (plT n N0 c q) := (h.ai.tree.ok q qp).congr ht.symm (fun m hm => h.ai.now qp hm)
  obtain ⟨m, h1, h2, h3, h4, h5, h6⟩ := hok.right hl
  have hpl : plT n N0 c q = lst 256 (pk (N0 q.1 q.2)) := by
    unfold plT at h6 ⊢
    rw [if_neg (by omega)] at h6 ⊢
    by_cases e2 : nil4 (N0 q.1 q.2) = true
    · rw [if_pos e2] at h6
      cases h6
    · rw [if_neg e2]
  have hnod := fun k hk => h.ai.tree.nod q.1 q.2 k q1 q2 hk
  refine ⟨m, ⟨h1, h2, h3, h4⟩, h5.trans hpl, unOk_pk _ (fun k hk => (hnod k hk).1) (fun k hk => (hnod k hk).2), fun k hk => unR_pk _ k hk (hnod k hk).1 (hnod k hk).2⟩
theorem under_plc {q : Nat × Nat} {k : Nat} (h1 : q.1 < n) (h2 : q.2 < 4 ^ q.1) (hk : k < 4) : Plc n (q.1 + 1, 4 * q.2 + k) := by
  refine ⟨h1, ?_⟩
  show 4 * q.2 + k < 4 ^ (q.1 + 1)
  rw [Nat.pow_succ]
  omega
theorem tr_child (r : RecV) (N : Nat → Nat → Nat → RecV) (q : Nat × Nat) {k : Nat} (hk : k < 4) : tr r N (q.1 + 1) (4 * q.2 + k) = N q.1 q.2 k := by
  show N q.1 ((4 * q.2 + k) / 4) ((4 * q.2 + k) % 4) = _
  rw [show (4 * q.2 + k) / 4 = q.2 by omega, show (4 * q.2 + k) % 4 = k by omega]
theorem MI1.mkok (h : MI1 L n c N0 X) {q : Nat × Nat} {U : List (Nat × Nat)} (hq : X.un = q :: U) (R : Nat → RecV) (hR : ∀ k, k < 4 → REq (R k) (N0 q.1 q.2 k)) : MkOk X.ss.length X.S (fourL R) := by
  obtain ⟨q1, q2, qp, qr, qn⟩ := h.head hq
  intro j r hj
  obtain ⟨hj4, rfl⟩ := fourL_get hj
  have e := h.ai.tree.ok _ (under_plc q1 q2 hj4)
  simp only at e
  rw [tr_child _ _ _ hj4] at e
  rcases e with ⟨e, _⟩ | ⟨m, e, hm, _⟩
  · exact .inl ((hR j hj4).a.trans e)
  · have hRa : (R j).a = (m : Int) + 1 := (hR j hj4).a.trans e
    refine .inr ⟨m, hRa, hm, ?_, fun p hp => ?_⟩
    · cases hS : decide (X.S m = 0) with
      | true => exact of_decide_eq_true hS
      | false =>
        obtain ⟨_, x, x1, x2, x3⟩ := h.mkd m (of_decide_eq_false hS)
        have := h.ai.tree.inj x (q.1 + 1, 4 * q.2 + j) x1 (under_plc q1 q2 hj4) (by omega) (by rw [x3]; simp only; rw [tr_child _ _ _ hj4, e])
        subst this
        exact (x2 q.1 rfl (by rw [hq]; simp only; rw [show (4 * q.2 + j) / 4 = q.2 by omega]; simp)).elim
    · obtain ⟨i, hi⟩ := List.mem_iff_getElem?.1 hp
      rw [List.getElem?_take] at hi
      split at hi
      · rename_i hij
        obtain ⟨hi4, rfl⟩ := fourL_get hi
        intro ea
        have := h.ai.tree.inj (q.1 + 1, 4 * q.2 + j) (q.1 + 1, 4 * q.2 + i) (under_plc q1 q2 hj4) (under_plc q1 q2 hi4) (by simp only; rw [tr_child _ _ _ hj4, e]; omega) (by simp only; rw [tr_child _ _ _ hj4, tr_child _ _ _ hi4, ← (hR j hj4).a, ← (hR i hi4).a, ea])
        injection this with _ this
        omega
      · cases hi
theorem mkS_cases {S : Nat → Nat} {rs : List RecV} {j : Nat} : (mkS S rs j = 1 ∧ ∃ r ∈ rs, r.a = (j : Int) + 1) ∨ mkS S rs j = S j := by
  unfold mkS
  split
  · rename_i h
    obtain ⟨r, hr, e⟩ := List.any_eq_true.1 h
    exact .inl ⟨rfl, r, hr, by simpa using e⟩
  · exact .inr rfl
theorem mkS_in {S : Nat → Nat} {rs : List RecV} {j : Nat} {r : RecV} (hr : r ∈ rs) (h : r.a = (j : Int) + 1) : mkS S rs j = 1 := by
  unfold mkS
  rw [if_pos (List.any_eq_true.2 ⟨r, hr, by simpa using h⟩)]
theorem mem_fourL {R : Nat → RecV} {k : Nat} (hk : k < 4) : R k ∈ fourL R := by
  unfold fourL
  match k, hk with
  | 0, _ => simp
  | 1, _ => simp
  | 2, _ => simp
  | 3, _ => simp
theorem MI1.loaded (h : MI1 L n c N0 X) {q : Nat × Nat} {U : List (Nat × Nat)} (hq : X.un = q :: U) (k : Nat) (R : Nat → RecV) (hR : ∀ k, k < 4 → REq (R k) (N0 q.1 q.2 k)) : MI1 L n c N0 (X.loaded k q R U) := by
  obtain ⟨q1, q2, qp, qr, qn⟩ := h.head hq
  refine { n_ := h.n_, n1 := h.n1, n3 := h.n3, pf := h.pf, ar := h.ar, ae := h.ae, s0 := h.s0, ai := ⟨h.ai.tree, h.ai.free⟩, unp := ?_, seen := ?_, zero := ?_, mkd := ?_, mkd' := ?_, nb := h.nb, room := h.room, rsb := h.rsb, len := h.len, H0 := h.H0, C0 := h.C0 }
  · obtain ⟨pre, e⟩ := h.unp
    exact ⟨pre ++ [q], by rw [e, hq]; simp [VX.loaded]⟩
  · intro l i hm h1 h2 k hk
    show REq (upN X.N q.1 q.2 R l i k) _
    by_cases e : l = q.1 ∧ i = q.2
    · obtain ⟨rfl, rfl⟩ := e
      rw [upN_same]
      exact hR k hk
    · rw [upN_other _ _ e]
      exact h.seen l i (by rw [hq]; intro hx; rcases List.mem_cons.1 hx with hx | hx; exact e ⟨by rw [← hx], by rw [← hx]⟩; exact hm hx) h1 h2 k hk
  · intro l i k hm
    have hm : (l, i) ∈ U := hm
    show upN X.N q.1 q.2 R l i k = _
    rw [upN_other _ _ (by rintro ⟨rfl, rfl⟩; exact qn hm)]
    exact h.zero l i k (by rw [hq]; exact List.mem_cons_of_mem _ hm)
  · intro j hj
    have hj : mkS X.S (fourL R) j ≠ 0 := hj
    show mkS X.S (fourL R) j = 1 ∧ _
    rcases mkS_cases (S := X.S) (rs := fourL R) (j := j) with ⟨e, r, hr, ha⟩ | e
    · refine ⟨e, ?_⟩
      obtain ⟨i, hi⟩ := List.mem_iff_getElem?.1 hr
      obtain ⟨hi4, rfl⟩ := fourL_get hi
      refine ⟨(q.1 + 1, 4 * q.2 + i), under_plc q1 q2 hi4, fun l hl hm => ?_, ?_⟩
      · have hl : q.1 + 1 = l + 1 := hl
        obtain rfl : q.1 = l := by omega
        have hm : (q.1, (4 * q.2 + i) / 4) ∈ U := hm
        rw [show (4 * q.2 + i) / 4 = q.2 by omega] at hm
        exact qn hm
      · show (tr X.ar N0 (q.1 + 1) (4 * q.2 + i)).a = _
        rw [tr_child _ _ _ hi4, ← (hR i hi4).a, ha]
    · rw [e] at hj ⊢
      obtain ⟨h1, p, h2, h3, h4⟩ := h.mkd j hj
      rw [hq] at h3
      exact ⟨h1, p, h2, h3.tail, h4⟩
  · intro p hp hpr j hj
    have hj : (tr X.ar N0 p.1 p.2).a = (j : Int) + 1 := hj
    show mkS X.S (fourL R) j = 1
    by_cases e : Par X.un p
    · rcases mkS_cases (S := X.S) (rs := fourL R) (j := j) with ⟨e, _⟩ | e2
      · exact e
      · rw [e2]
        exact h.mkd' p hp e j hj
    · rw [hq] at e
      obtain ⟨e1, e2⟩ := par_cons hpr e
      have h4 : p.2 % 4 < 4 := Nat.mod_lt _ (by decide)
      rw [tr_under e1 e2, ← (hR _ h4).a] at hj
      exact mkS_in (mem_fourL h4) hj
structure MI0 (L : Nat → Nat → List UInt8) (n : Nat) (c : Nat → List UInt8) (N0 : Nat → Nat → Nat → RecV) (X : VX) : Prop where
  n_ : X.c.n = n
  n1 : 1 ≤ n
  n3 : n ≤ 3
  rd : X.c.rd = false
  pf : X.c.pf = .nilFunc
  s0 : X.c.s = 0
  ai : AI L n N0 c X
  un : X.un = allN n
  zero : X.N = fun _ _ _ => rec0
  S0 : X.S = fun _ => 0
  nb : X.ss.length ≤ 1024
  room : 2 * (plcs n).length ≤ X.ss.length
  rsb : ∀ q ∈ X.rs, q.1 < X.ss.length
  len : ∀ i, c i = [] ∨ (c i).length = 256
  H0 : ∀ i, X.H i = none
  C0 : ∀ i, X.C i = none
theorem zero_plc : Plc n (0, 0) := ⟨Nat.zero_le _, by simp⟩
theorem MI0.mkok (h : MI0 L n c N0 X) : MkOk X.ss.length X.S [X.ar] := by
  intro j r hj
  have : j = 0 ∧ r = X.ar := by
    cases j with
    | zero => exact ⟨rfl, by simpa using hj.symm⟩
    | succ j => simp at hj
  obtain ⟨rfl, rfl⟩ := this
  have e : RecOk L X.ss.length (synX X) X.ar (plT n N0 c (0, 0)) := h.ai.tree.ok (0, 0) zero_plc
  rcases e with ⟨e, _⟩ | ⟨m, e, hm, _⟩
  · exact .inl e
  · exact .inr ⟨m, e, hm, by rw [h.S0], fun p hp => by cases hp⟩
theorem MI0.top (h : MI0 L n c N0 X) : ∃ a : Nat, X.ar.a = (a : Int) ∧ a < 65536 := by
  have e : RecOk L X.ss.length (synX X) X.ar (plT n N0 c (0, 0)) := h.ai.tree.ok (0, 0) zero_plc
  have := h.nb
  rcases e with ⟨e, _⟩ | ⟨m, e, hm, _⟩
  · exact ⟨0, e, by decide⟩
  · exact ⟨m + 1, e, by omega⟩
theorem MI0.entered (h : MI0 L n c N0 X) : MI1 L n c N0 X.entered := by
  refine { n_ := h.n_, n1 := h.n1, n3 := h.n3, pf := h.pf, ar := rfl, ae := rfl, s0 := h.s0, ai := ⟨h.ai.tree, h.ai.free⟩, unp := ⟨[], h.un.symm⟩, seen := ?_, zero := ?_, mkd := ?_, mkd' := ?_, nb := h.nb, room := h.room, rsb := h.rsb, len := h.len, H0 := h.H0, C0 := h.C0 }
  · intro l i hm h1 h2
    refine (hm ?_).elim
    show (l, i) ∈ X.un
    rw [h.un]
    exact mem_allN.2 ⟨h1, h2⟩
  · intro l i k _
    show X.N l i k = _
    rw [h.zero]
  · intro j hj
    have hj : mkS X.S [X.ar] j ≠ 0 := hj
    show mkS X.S [X.ar] j = 1 ∧ _
    rcases mkS_cases (S := X.S) (rs := [X.ar]) (j := j) with ⟨e, r, hr, ha⟩ | e
    · rw [List.mem_singleton] at hr
      subst hr
      exact ⟨e, (0, 0), zero_plc, fun l hl => (Nat.noConfusion hl), ha⟩
    · rw [e, h.S0] at hj
      exact (hj rfl).elim
  · intro p hp hpr j hj
    have hj : (tr X.ar N0 p.1 p.2).a = (j : Int) + 1 := hj
    show mkS X.S [X.ar] j = 1
    obtain ⟨l, i⟩ := p
    cases l with
    | zero => exact mkS_in (List.mem_singleton.2 rfl) hj
    | succ l =>
      refine (hpr l rfl ?_).elim
      show (l, i / 4) ∈ X.un
      rw [h.un]
      obtain ⟨h1, h2⟩ := hp
      have h1 : l + 1 ≤ n := h1
      have h2 : i < 4 ^ (l + 1) := h2
      rw [Nat.pow_succ] at h2
      exact mem_allN.2 ⟨by show l < n; omega, by show i / 4 < 4 ^ l; omega⟩
theorem MI1.cells (h : MI1 L n c N0 X) (un mf : Value) (rd : Bool) : MI1 L n c N0 { X with c := { X.c with un := un, rd := rd, mf := mf } } :=
  ⟨h.n_, h.n1, h.n3, h.pf, h.ar, h.ae, h.s0, ⟨h.ai.tree, h.ai.free⟩, h.unp, h.seen, h.zero, h.mkd, h.mkd', h.nb, h.room, h.rsb, h.len, h.H0, h.C0⟩
theorem MI1.ready (h : MI1 L n c N0 X) (hu : X.un = []) (hr : X.c.rd = true) : RI L n c X := by
  have hN : ∀ l i k, l < n → i < 4 ^ l → k < 4 → REq (N0 l i k) (X.N l i k) := fun l i k h1 h2 h3 => (h.seen l i (by rw [hu]; exact List.not_mem_nil) h1 h2 k h3).symm
  have hpar : ∀ p, Par X.un p := fun p l _ hm => by rw [hu] at hm; cases hm
  refine { n_ := h.n_, n1 := h.n1, n3 := h.n3, rd := hr, pf := h.pf, un := hu, ar := h.ar, ae := h.ae, s0 := h.s0, ai := ⟨h.ai.tree.congr (REq.refl _) hN (fun _ _ _ _ => rfl), fun q hq p hp => ?_⟩, one := fun j hj => ?_, held := fun p hp => ?_, nb := h.nb, room := h.room, rsb := h.rsb, len := h.len, hh := fun i x hx _ => ((by simp : (none : Option BV) ≠ some x) ((h.H0 i).symm.trans hx)).elim, hc := fun i x hx => ((by simp : (none : Option BV) ≠ some x) ((h.C0 i).symm.trans hx)).elim }
  · rw [← (tr_congr (REq.refl X.ar) hN hp).a]
    exact h.ai.free q hq p hp
  · obtain ⟨h1, p, h2, h3, h4⟩ := h.mkd j hj
    exact ⟨h1, p, h2, by rw [(h.tr_ h2 h3).a]; exact h4⟩
  · have ht := h.tr_ hp (hpar p)
    rcases h.ai.tree.ok p hp with ⟨e, _⟩ | ⟨m, e, hm, _⟩
    · exact .inl (ht.a.trans e)
    · exact .inr ⟨m, ht.a.trans e, hm, h.mkd' p hp (hpar p) m e⟩
end
end Go.Proofs.YtpocccnhibjjcaaGreatDoor
