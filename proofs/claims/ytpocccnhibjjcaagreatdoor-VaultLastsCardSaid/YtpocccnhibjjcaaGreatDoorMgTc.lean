/- A commit by its records and blocks alone: what holds ahead of each place, and behind it. No conditions. -/
import Derived.Test.YtpocccnhibjjcaaGreatDoorMgSn
set_option linter.unusedVariables false
set_option maxRecDepth 20000
namespace Go.Proofs.YtpocccnhibjjcaaGreatDoor
open Go.RowKit

theorem now_snoc (ss : List BV) (rs : List (Nat × BV)) (p : Nat × BV) (a : Nat) : nowV ss (rs ++ [p]) a = if p.1 = a then p.2 else nowV ss rs a := by
  unfold nowV nowK
  rw [List.take_length, List.take_length, List.foldl_append]
  rfl
def nowX (X : VX) (j : Nat) : List UInt8 := (nowV X.ss X.rs j).l
def synX (X : VX) (j : Nat) : List UInt8 := (X.ss.getD j noBV).l
structure AI (L : Nat → Nat → List UInt8) (n : Nat) (N0 : Nat → Nat → Nat → RecV) (c0 : Nat → List UInt8) (X : VX) : Prop where
  tree : Tree L n X.ss.length (synX X) X.ar N0 c0
  free : ∀ q ∈ X.rs, ∀ p, Plc n p → (tr X.ar N0 p.1 p.2).a ≠ (q.1 : Int) + 1
section
variable (X : VX) (r : RecV) (p : Nat × Nat)
theorem repl_ss : (X.repl r p.1 p.2).ss = X.ss := by obtain ⟨l, i⟩ := p; cases l <;> rfl
theorem repl_rs : (X.repl r p.1 p.2).rs = X.rs := by obtain ⟨l, i⟩ := p; cases l <;> rfl
theorem repl_ar : (X.repl r p.1 p.2).ar = X.ar := by obtain ⟨l, i⟩ := p; cases l <;> rfl
theorem repl_ae : (X.repl r p.1 p.2).ae = X.ae := by obtain ⟨l, i⟩ := p; cases l <;> rfl
theorem repl_G : (X.repl r p.1 p.2).G = X.G := by obtain ⟨l, i⟩ := p; cases l <;> rfl
theorem repl_H : (X.repl r p.1 p.2).H = X.H := by obtain ⟨l, i⟩ := p; cases l <;> rfl
theorem repl_C : (X.repl r p.1 p.2).C = X.C := by obtain ⟨l, i⟩ := p; cases l <;> rfl
theorem repl_un : (X.repl r p.1 p.2).un = X.un := by obtain ⟨l, i⟩ := p; cases l <;> rfl
theorem repl_n : (X.repl r p.1 p.2).c.n = X.c.n := by obtain ⟨l, i⟩ := p; cases l <;> rfl
theorem repl_go : (X.repl r p.1 p.2).c.go = X.c.go := by obtain ⟨l, i⟩ := p; cases l <;> rfl
theorem repl_pf : (X.repl r p.1 p.2).c.pf = X.c.pf := by obtain ⟨l, i⟩ := p; cases l <;> rfl
theorem repl_rd : (X.repl r p.1 p.2).c.rd = X.c.rd := by obtain ⟨l, i⟩ := p; cases l <;> rfl
theorem repl_e : (X.repl r p.1 p.2).c.e = X.c.e := by obtain ⟨l, i⟩ := p; cases l <;> rfl
theorem repl_s : (X.repl r p.1 p.2).c.s = X.c.s := by obtain ⟨l, i⟩ := p; cases l <;> rfl
theorem repl_S : (X.repl r p.1 p.2).S = gvS X.S (tr X.c.top X.N p.1 p.2) := by obtain ⟨l, i⟩ := p; cases l <;> rfl
end
structure CI (L : Nat → Nat → List UInt8) (n : Nat) (N0 : Nat → Nat → Nat → RecV) (c0 c1 : Nat → List UInt8) (X : VX) : Prop where
  n_ : X.c.n = n
  n3 : n ≤ 3
  go : ∃ gg, X.c.go = .map (some gg)
  ai : AI L n N0 c0 X
  rest : ∀ p ∈ X.rt, Plc n p
  par : ∀ pre p post, X.rt = pre ++ p :: post → p ∉ post ∧ ∀ l, p.1 = l + 1 → (l, p.2 / 4) ∈ post
  cons : ∀ p, Plc n p → p ∉ X.rt → RecOk L X.ss.length (nowX X) (tr X.c.top X.N p.1 p.2) (plT n X.N c1 p)
  held : ∀ p, Plc n p → Held X.ss.length X.S (tr X.c.top X.N p.1 p.2)
  inj : ∀ p x, Plc n p → Plc n x → (tr X.c.top X.N p.1 p.2).a ≠ 0 → (tr X.c.top X.N p.1 p.2).a = (tr X.c.top X.N x.1 x.2).a → p = x
  nod : ∀ l i k, l < n → i < 4 ^ l → k < 4 → (X.N l i k).Ok ∧ (X.N l i k).may = true
  top_ : X.c.top.Ok
  old : ∀ p, Plc n p → ∀ j : Nat, (tr X.ar N0 p.1 p.2).a = (j : Int) + 1 → X.S j ≠ 0
  one : ∀ j, X.S j = 1 → ∃ p, Plc n p ∧ (tr X.c.top X.N p.1 p.2).a = (j : Int) + 1
  ga : ∀ i, (n, i) ∈ X.rt → bytesOf (X.G i) = c1 i
  len : ∀ i, c1 i = [] ∨ (c1 i).length = 256
  cnt : ∃ U : List Nat, (∀ j, j < X.ss.length → X.S j ≠ 0 → j ∈ U) ∧ U.length + X.rt.length ≤ X.ss.length
  nb : X.ss.length ≤ 1024
  rsb : ∀ q ∈ X.rs, q.1 < X.ss.length
  ep : X.c.e < 4294967296
  sq : X.c.s + X.rt.length + 1 < 4294967296
section
variable {L : Nat → Nat → List UInt8} {n : Nat} {N0 : Nat → Nat → Nat → RecV} {c0 c1 : Nat → List UInt8} {X : VX}
theorem CI.plain (h : CI L n N0 c0 c1 X) {p : Nat × Nat} (hp : p ∈ X.rt) : plainL X p.1 p.2 = plT n X.N c1 p := by
  unfold plainL plT
  rw [h.n_]
  by_cases e : p.1 = n
  · rw [if_pos e, if_pos e]
    refine h.ga p.2 ?_
    rw [← e]
    exact hp
  · rw [if_neg e, if_neg e]
theorem pow3 {n l : Nat} (h : l ≤ n) (h3 : n ≤ 3) : 4 ^ l ≤ 64 := Nat.pow_le_pow_right (by decide) (Nat.le_trans h h3)
theorem plT_repl {X : VX} {r : RecV} {p x : Nat × Nat} (h : ¬ (p.1 = x.1 + 1 ∧ x.2 = p.2 / 4)) : plT n (X.repl r p.1 p.2).N c1 x = plT n X.N c1 x := by
  unfold plT
  rw [N_repl X r h]
theorem gvS_ne {S : Nat → Nat} {r : RecV} {j : Nat} (h : S j ≠ 0) : gvS S r j ≠ 0 := by
  unfold gvS
  split
  · decide
  · exact h
theorem room_of {NB : Nat} {S : Nat → Nat} {U : List Nat} (hU : ∀ j, j < NB → S j ≠ 0 → j ∈ U) (hl : U.length < NB) : ∃ m, S8.ft NB S = some m := by
  cases hm : S8.ft NB S with
  | some m => exact ⟨m, rfl⟩
  | none =>
    have h := S8.ft_none hm
    have := nodup_sub_len (List.nodup_range (n := NB)) (m := U) (fun x hx => hU x (List.mem_range.1 hx) (h x (List.mem_range.1 hx)))
    rw [List.length_range] at this
    omega
theorem CI.step {X X' : VX} {p : Nat × Nat} {R : List (Nat × Nat)} (h : CI L n N0 c0 c1 X) (hR : X.rt = p :: R) (r : RecV) (Y : VX) (hX' : X' = { Y.repl r p.1 p.2 with rt := R }) (hn : Y.c.n = X.c.n) (hgo : Y.c.go = X.c.go) (htop : Y.c.top = X.c.top) (hN : Y.N = X.N) (har : Y.ar = X.ar) (hss : Y.ss = X.ss) (hG : Y.G = X.G) (he : Y.c.e = X.c.e) (hs : Y.c.s ≤ X.c.s + 1)
    (hrs : AI L n N0 c0 Y) (hrsb : ∀ q ∈ Y.rs, q.1 < X.ss.length) (hD : ∀ m : Nat, X.S m = 1 → nowX Y m = nowX X m) (hS : ∀ j, X.S j ≠ 0 → Y.S j = X.S j) (hS0 : ∀ j : Nat, X.S j = 0 → Y.S j = 1 → r.a = (j : Int) + 1)
    (hr : RecOk L X.ss.length (nowX Y) r (plT n X.N c1 p)) (hrm : r.Ok ∧ r.may = true) (hnew : ∀ m : Nat, r.a = (m : Int) + 1 → X.S m = 0 ∧ Y.S m = 1) (hcnt : ∃ U : List Nat, (∀ j, j < X.ss.length → Y.S j ≠ 0 → j ∈ U) ∧ U.length + R.length ≤ X.ss.length) : CI L n N0 c0 c1 X' := by
  subst hX'
  have hpp : Plc n p := h.rest p (by rw [hR]; simp)
  have hpar := h.par [] p R hR
  have ht : ∀ {x}, Plc n x → tr (Y.repl r p.1 p.2).c.top (Y.repl r p.1 p.2).N x.1 x.2 = if x = p then r else tr X.c.top X.N x.1 x.2 := fun hx => by rw [tr_repl Y r hpp hx, htop, hN]
  have hold := h.held p hpp
  have hSY : (Y.repl r p.1 p.2).S = gvS Y.S (tr X.c.top X.N p.1 p.2) := by rw [repl_S, htop, hN]
  have hblk : ∀ {x}, Plc n x → ∀ m : Nat, (tr X.c.top X.N x.1 x.2).a = (m : Int) + 1 → X.S m = 1 := fun hx m hm => by
    rcases h.held _ hx with h0 | ⟨k, h1, _, h3⟩
    · omega
    · obtain rfl : k = m := by omega
      exact h3
  have hnp : ∀ {x}, x ∈ R → x ≠ p := fun hx e => hpar.1 (e ▸ hx)
  refine { n_ := ?_, n3 := h.n3, go := ?_, ai := ?_, rest := fun x hx => h.rest x (by rw [hR]; exact List.mem_cons_of_mem _ hx), par := fun pre x post e => h.par (p :: pre) x post (by rw [hR]; show p :: R = p :: pre ++ _; rw [show R = pre ++ x :: post from e]; rfl), cons := ?_, held := ?_, inj := ?_, nod := ?_, top_ := ?_, old := ?_, one := ?_, ga := ?_, len := h.len, cnt := ?_, nb := ?_, rsb := ?_, ep := ?_, sq := ?_ }
  · show (Y.repl r p.1 p.2).c.n = n
    rw [repl_n, hn, h.n_]
  · show ∃ gg, (Y.repl r p.1 p.2).c.go = _
    rw [repl_go, hgo]
    exact h.go
  · refine ⟨?_, ?_⟩
    · show Tree L n (Y.repl r p.1 p.2).ss.length (fun j => ((Y.repl r p.1 p.2).ss.getD j noBV).l) (Y.repl r p.1 p.2).ar N0 c0
      rw [repl_ss, repl_ar]
      exact hrs.tree
    · show ∀ q ∈ (Y.repl r p.1 p.2).rs, ∀ x, Plc n x → (tr (Y.repl r p.1 p.2).ar N0 x.1 x.2).a ≠ _
      rw [repl_rs, repl_ar]
      exact hrs.free
  · intro x hx hxR
    show RecOk L (Y.repl r p.1 p.2).ss.length (fun j => (nowV (Y.repl r p.1 p.2).ss (Y.repl r p.1 p.2).rs j).l) (tr (Y.repl r p.1 p.2).c.top (Y.repl r p.1 p.2).N x.1 x.2) (plT n (Y.repl r p.1 p.2).N c1 x)
    rw [repl_ss, repl_rs, ht hx, hss]
    have hpl : plT n (Y.repl r p.1 p.2).N c1 x = plT n X.N c1 x := by
      rw [plT_repl, hN]
      rintro ⟨e1, e2⟩
      refine hxR ?_
      have := hpar.2 x.1 e1
      rw [← e2] at this
      exact this
    rw [hpl]
    have hDY : (fun j => (nowV X.ss Y.rs j).l) = nowX Y := by funext j; unfold nowX; rw [hss]
    rw [hDY]
    by_cases e : x = p
    · rw [if_pos e, e]
      exact hr
    · rw [if_neg e]
      refine (h.cons x hx (by rw [hR]; intro hm; rcases List.mem_cons.1 hm with hm | hm; exact e hm; exact hxR hm)).congr (REq.refl _) (fun m hm => hD m (hblk hx m hm))
  · intro x hx
    show Held (Y.repl r p.1 p.2).ss.length (Y.repl r p.1 p.2).S (tr (Y.repl r p.1 p.2).c.top (Y.repl r p.1 p.2).N x.1 x.2)
    rw [repl_ss, ht hx, hSY, hss]
    by_cases e : x = p
    · rw [if_pos e]
      rcases hr with ⟨h0, _⟩ | ⟨m, h1, h2, _⟩
      · exact .inl h0
      · refine .inr ⟨m, h1, h2, ?_⟩
        unfold gvS
        rw [if_neg (fun e2 => ?_)]
        · exact (hnew m h1).2
        · have := hblk hpp m e2
          rw [(hnew m h1).1] at this
          cases this
    · rw [if_neg e]
      rcases h.held x hx with h0 | ⟨k, h1, h2, h3⟩
      · exact .inl h0
      · refine .inr ⟨k, h1, h2, ?_⟩
        unfold gvS
        rw [if_neg (fun e2 => e ?_), hS k (by omega), h3]
        exact (h.inj p x hpp hx (by omega) (by rw [e2, h1])).symm
  · intro x z hx hz hx0 hxz
    have hx0 : (tr (Y.repl r p.1 p.2).c.top (Y.repl r p.1 p.2).N x.1 x.2).a ≠ 0 := hx0
    have hxz : (tr (Y.repl r p.1 p.2).c.top (Y.repl r p.1 p.2).N x.1 x.2).a = (tr (Y.repl r p.1 p.2).c.top (Y.repl r p.1 p.2).N z.1 z.2).a := hxz
    rw [ht hx] at hx0 hxz
    rw [ht hz] at hxz
    have clash : ∀ {y}, Plc n y → y ≠ p → r.a ≠ 0 → r.a = (tr X.c.top X.N y.1 y.2).a → False := fun hy hyp h0 e => by
      rcases hr with ⟨h1, _⟩ | ⟨m, h1, _⟩
      · exact h0 h1
      · have := hblk hy m (by rw [← e, h1])
        rw [(hnew m h1).1] at this
        cases this
    by_cases e1 : x = p
    · by_cases e2 : z = p
      · rw [e1, e2]
      · rw [if_pos e1] at hx0 hxz
        rw [if_neg e2] at hxz
        exact (clash hz e2 hx0 hxz).elim
    · rw [if_neg e1] at hx0 hxz
      by_cases e2 : z = p
      · rw [if_pos e2] at hxz
        exact (clash hx e1 (by rw [← hxz]; exact hx0) hxz.symm).elim
      · rw [if_neg e2] at hxz
        exact h.inj x z hx hz hx0 hxz
  · intro l i k hl hi hk
    show ((Y.repl r p.1 p.2).N l i k).Ok ∧ ((Y.repl r p.1 p.2).N l i k).may = true
    rcases N_repl_any Y r p l i k with e | e
    · rw [e, hN]
      exact h.nod l i k hl hi hk
    · rw [e]
      exact hrm
  · show (Y.repl r p.1 p.2).c.top.Ok
    have := ht (x := (0, 0)) ⟨Nat.zero_le _, by simp⟩
    have e1 : tr (Y.repl r p.1 p.2).c.top (Y.repl r p.1 p.2).N 0 0 = (Y.repl r p.1 p.2).c.top := rfl
    simp only at this
    rw [e1] at this
    rw [this]
    split
    · exact hrm.1
    · exact h.top_
  · intro x hx j hj
    have hj : (tr (Y.repl r p.1 p.2).ar N0 x.1 x.2).a = (j : Int) + 1 := hj
    show (Y.repl r p.1 p.2).S j ≠ 0
    rw [repl_ar, har] at hj
    rw [hSY]
    have := h.old x hx j hj
    exact gvS_ne (by rw [hS j this]; exact this)
  · intro j hj
    have hj : (Y.repl r p.1 p.2).S j = 1 := hj
    show ∃ x, Plc n x ∧ (tr (Y.repl r p.1 p.2).c.top (Y.repl r p.1 p.2).N x.1 x.2).a = (j : Int) + 1
    rw [hSY] at hj
    unfold gvS at hj
    split at hj
    · cases hj
    · rename_i e2
      by_cases e0 : X.S j = 0
      · exact ⟨p, hpp, by rw [ht hpp, if_pos rfl]; exact hS0 j e0 hj⟩
      · rw [hS j e0] at hj
        obtain ⟨x, hx, hxa⟩ := h.one j hj
        refine ⟨x, hx, ?_⟩
        rw [ht hx, if_neg (fun e => e2 (by rw [← e]; exact hxa))]
        exact hxa
  · intro i hi
    show bytesOf ((Y.repl r p.1 p.2).G i) = c1 i
    rw [repl_G, hG]
    exact h.ga i (by rw [hR]; exact List.mem_cons_of_mem _ hi)
  · obtain ⟨U, hU, hl⟩ := hcnt
    refine ⟨U, fun j hj hjS => ?_, ?_⟩
    · have hj : j < (Y.repl r p.1 p.2).ss.length := hj
      have hjS : (Y.repl r p.1 p.2).S j ≠ 0 := hjS
      rw [repl_ss, hss] at hj
      rw [hSY] at hjS
      refine hU j hj ?_
      unfold gvS at hjS
      split at hjS
      · rename_i e2
        have := hblk hpp j e2
        rw [hS j (by omega), this]
        decide
      · exact hjS
    · show U.length + R.length ≤ (Y.repl r p.1 p.2).ss.length
      rw [repl_ss, hss]
      exact hl
  · show (Y.repl r p.1 p.2).ss.length ≤ 1024
    rw [repl_ss, hss]
    exact h.nb
  · show ∀ q ∈ (Y.repl r p.1 p.2).rs, q.1 < (Y.repl r p.1 p.2).ss.length
    rw [repl_rs, repl_ss, hss]
    exact hrsb
  · show (Y.repl r p.1 p.2).c.e < _
    rw [repl_e, he]
    exact h.ep
  · show (Y.repl r p.1 p.2).c.s + R.length + 1 < _
    rw [repl_s]
    have := h.sq
    rw [hR] at this
    simp at this
    omega
theorem CI.skip (h : CI L n N0 c0 c1 X) {p : Nat × Nat} {R : List (Nat × Nat)} (hR : X.rt = p :: R) (hpl : plainL X p.1 p.2 = []) : CI L n N0 c0 c1 { X.repl rec0 p.1 p.2 with rt := R } := by
  obtain ⟨U, hU, hl⟩ := h.cnt
  refine h.step hR rec0 X rfl rfl rfl rfl rfl rfl rfl rfl rfl (Nat.le_succ _) h.ai h.rsb (fun _ _ => rfl) (fun _ _ => rfl) (fun j h0 h1 => by rw [h0] at h1; cases h1) (.inl ⟨rfl, ?_⟩) ⟨rec0_ok, rec0_may⟩ (fun m hm => ?_) ⟨U, hU, by rw [hR] at hl; simp at hl; omega⟩
  · rw [← h.plain (by rw [hR]; simp)]
    exact hpl
  · have hm : (0 : Int) = (m : Int) + 1 := hm
    omega
theorem CI.seal (h : CI L n N0 c0 c1 X) {p : Nat × Nat} {R : List (Nat × Nat)} (hR : X.rt = p :: R) {m : Nat} {x y : BV} (us rt : Value) (hm : S8.ft X.ss.length X.S = some m) (hy : y.l = plainL X p.1 p.2) (hx : x.l = lst 256 (hid (pmask L X.c.e X.c.s) y.l)) (hne : plainL X p.1 p.2 ≠ []) (h256 : (plainL X p.1 p.2).length = 256) :
    CI L n N0 c0 c1 (((X.pass rt R).sealed m x y us).repl (sealR m X.c.e X.c.s x.l) p.1 p.2) := by
  obtain ⟨hm1, hm2, _⟩ := S8.ft_some hm
  obtain ⟨U, hU, hl⟩ := h.cnt
  have hpl := h.plain (p := p) (by rw [hR]; simp)
  have hfr : ∀ q, Plc n q → (tr X.ar N0 q.1 q.2).a ≠ (m : Int) + 1 := fun q hq e => h.old q hq m e hm2
  refine h.step hR (sealR m X.c.e X.c.s x.l) ((X.pass rt R).sealed m x y us) ?_ rfl rfl rfl rfl rfl rfl rfl rfl (Nat.le_refl _) ⟨h.ai.tree, ?_⟩ ?_ ?_ ?_ ?_ ?_ ?_ ?_ ?_
  · obtain ⟨l, i⟩ := p
    cases l <;> rfl
  · intro q hq z hz
    have hq : q ∈ X.rs ++ [(m, x)] := hq
    rcases List.mem_append.1 hq with hq | hq
    · exact h.ai.free q hq z hz
    · rw [List.mem_singleton] at hq
      subst hq
      exact hfr z hz
  · intro q hq
    have hq : q ∈ X.rs ++ [(m, x)] := hq
    rcases List.mem_append.1 hq with hq | hq
    · exact h.rsb q hq
    · rw [List.mem_singleton] at hq
      subst hq
      exact hm1
  · intro k hk
    show (nowV X.ss (X.rs ++ [(m, x)]) k).l = (nowV X.ss X.rs k).l
    rw [now_snoc, if_neg (fun e => by have e : m = k := e; subst e; rw [hm2] at hk; cases hk)]
  · intro j hj
    show S8.putN X.S m 1 j = X.S j
    unfold S8.putN
    rw [if_neg (fun e => hj (by rw [e]; exact hm2))]
  · intro j h0 h1
    have h1 : S8.putN X.S m 1 j = 1 := h1
    unfold S8.putN at h1
    by_cases e : j = m
    · subst e
      rfl
    · rw [if_neg e, h0] at h1
      cases h1
  · have hD : nowX ((X.pass rt R).sealed m x y us) m = x.l := by
      show (nowV X.ss (X.rs ++ [(m, x)]) m).l = x.l
      rw [now_snoc, if_pos rfl]
    refine .inr ⟨m, rfl, hm1, ⟨h.ep, by have := h.sq; show X.c.s < _; omega⟩, by rw [← hpl]; exact h256, ?_, ?_⟩
    · rw [hD, hx, hy, hpl]
      rfl
    · rw [hD]
      rfl
  · refine ⟨⟨h.ep, by have := h.sq; show X.c.s < _; omega⟩, ?_⟩
    unfold RecV.may
    rw [RecV.leads_yes (by show (1 : Int) ≤ (m : Int) + 1; omega) (by have := h.nb; show (m : Int) + 1 ≤ 1024; omega)]
    rfl
  · intro k hk
    have hk : (m : Int) + 1 = (k : Int) + 1 := hk
    obtain rfl : m = k := by omega
    refine ⟨hm2, ?_⟩
    show S8.putN X.S m 1 m = 1
    unfold S8.putN
    rw [if_pos rfl]
  · refine ⟨m :: U, fun j hj hjS => ?_, ?_⟩
    · have hjS : S8.putN X.S m 1 j ≠ 0 := hjS
      unfold S8.putN at hjS
      by_cases e : j = m
      · rw [e]
        simp
      · rw [if_neg e] at hjS
        exact List.mem_cons_of_mem _ (hU j hj hjS)
    · rw [hR] at hl
      simp at hl ⊢
      omega
theorem CI.winv : WInv L (CI L n N0 c0 c1) where
  rtv := fun X v h => { h with ai := ⟨h.ai.tree, h.ai.free⟩ }
  at_ := fun X p R h hR => by
    have hp := h.rest p (by rw [hR]; simp)
    have := pow3 hp.1 h.n3
    have h2 := hp.2
    refine ⟨by rw [h.n_]; exact hp.1, by omega, h.go, fun hl k hk => h.nod p.1 p.2 k (by rw [← h.n_]; exact hl) hp.2 hk, h.held p hp, h.ep, ?_⟩
    have := h.sq
    rw [hR] at this
    simp at this
    omega
  skip := fun X p R h hR hpl => h.skip hR hpl
  room := fun X p R h hR hpl => by
    have hp := h.rest p (by rw [hR]; simp)
    obtain ⟨U, hU, hl⟩ := h.cnt
    refine ⟨?_, room_of hU (by rw [hR] at hl; simp at hl; omega)⟩
    have e := h.plain (p := p) (by rw [hR]; simp)
    rw [e] at hpl ⊢
    unfold plT at hpl ⊢
    split at hpl
    · rename_i h1
      rw [if_pos h1]
      rcases h.len p.2 with h2 | h2
      · exact (hpl h2).elim
      · exact h2
    · rename_i h1
      rw [if_neg h1]
      split at hpl
      · exact (hpl rfl).elim
      · rename_i h2
        rw [if_neg h2]
        exact lst_len _ _
theorem CI.done (h : CI L n N0 c0 c1 X) (hR : X.rt = []) : Tree L n X.ss.length (nowX X) X.c.top X.N c1 :=
  ⟨fun p hp => h.cons p hp (by rw [hR]; simp), h.inj, h.nod, h.top_⟩
end
end Go.Proofs.YtpocccnhibjjcaaGreatDoor
/- A ready vault by its records and blocks alone; a commit's beginning and its end. No conditions. -/
set_option linter.unusedVariables false
set_option maxRecDepth 20000
namespace Go.Proofs.YtpocccnhibjjcaaGreatDoor
open Go.RowKit

def plcs (n : Nat) : List (Nat × Nat) := (List.range (n + 1)).flatMap fun l => (List.range (4 ^ l)).map fun i => (l, i)
theorem mem_plcs {n : Nat} {p : Nat × Nat} : p ∈ plcs n ↔ Plc n p := by
  obtain ⟨l, i⟩ := p
  unfold plcs Plc
  simp only [List.mem_flatMap, List.mem_range, List.mem_map, Prod.mk.injEq]
  constructor
  · rintro ⟨l', h1, i', h2, rfl, rfl⟩
    exact ⟨by omega, h2⟩
  · rintro ⟨h1, h2⟩
    exact ⟨l, by omega, i, h2, rfl, rfl⟩
def ovC (C : Nat → Option BV) (c : Nat → List UInt8) (i : Nat) : List UInt8 := match C i with
  | some x => x.l
  | none => c i
structure RI (L : Nat → Nat → List UInt8) (n : Nat) (c : Nat → List UInt8) (X : VX) : Prop where
  n_ : X.c.n = n
  n1 : 1 ≤ n
  n3 : n ≤ 3
  rd : X.c.rd = true
  pf : X.c.pf = .nilFunc
  un : X.un = []
  ar : X.ar = X.c.top
  ae : X.ae = X.c.e
  s0 : X.c.s = 0
  ai : AI L n X.N c X
  one : ∀ j, X.S j ≠ 0 → X.S j = 1 ∧ ∃ p, Plc n p ∧ (tr X.c.top X.N p.1 p.2).a = (j : Int) + 1
  held : ∀ p, Plc n p → Held X.ss.length X.S (tr X.c.top X.N p.1 p.2)
  nb : X.ss.length ≤ 1024
  room : 2 * (plcs n).length ≤ X.ss.length
  rsb : ∀ q ∈ X.rs, q.1 < X.ss.length
  len : ∀ i, c i = [] ∨ (c i).length = 256
  hh : ∀ i x, X.H i = some x → X.C i = none → x.l = c i
  hc : ∀ i x, X.C i = some x → i < 4 ^ n ∧ ∃ y, X.H i = some y ∧ y.l = x.l
theorem mem_abvN {n : Nat} {C : Nat → Option BV} {p : Nat × Nat} (hn : n ≤ 4) (h1 : 1 ≤ n) : p ∈ abvN n C ↔ ∃ k a : Nat, k < n ∧ a ∈ keysN C ∧ a < 4 ^ n ∧ p = (n - 1 - k, a / 4 ^ (k + 1)) := by
  unfold abvN
  rw [P7.aboveL_in h1 hn]
  unfold P7.abv
  constructor
  · intro h
    obtain ⟨x, hx, rfl⟩ := List.mem_map.1 h
    obtain ⟨k, hk, hx⟩ := List.mem_flatMap.1 hx
    obtain ⟨i, hi, rfl⟩ := List.mem_map.1 hx
    obtain ⟨z, hz, z0, z1, rfl⟩ := (P7.mem_pl (k + 1)).1 hi
    rw [keysN_keysL] at hz
    obtain ⟨a, ha, rfl⟩ := List.mem_map.1 hz
    have z1 : ((a : Nat) : Int) < ((4 ^ n : Nat) : Int) := z1
    refine ⟨k, a, List.mem_range.1 hk, ha, by omega, ?_⟩
    show (_, _) = _
    congr 1
  · rintro ⟨k, a, hk, ha, h4, rfl⟩
    refine List.mem_map.2 ⟨(((n - 1 - k : Nat) : Int), ((a / 4 ^ (k + 1) : Nat) : Int)), List.mem_flatMap.2 ⟨k, List.mem_range.2 hk, List.mem_map.2 ⟨_, (P7.mem_pl (k + 1)).2 ⟨(a : Int), ?_, by omega, ?_, ?_⟩, rfl⟩⟩, ?_⟩
    · rw [keysN_keysL]
      exact List.mem_map.2 ⟨a, ha, rfl⟩
    · show (a : Int) < ((4 ^ n : Nat) : Int)
      omega
    · show (a : Int) / ((4 ^ (k + 1) : Nat) : Int) = _
      rw [Int.natCast_ediv]
    · show ((((n - 1 - k : Nat) : Int)).toNat, (((a / 4 ^ (k + 1) : Nat) : Int)).toNat) = _
      rw [Int.toNat_natCast, Int.toNat_natCast]
def ahead (x y : Nat × Nat) : Prop := y.1 < x.1 ∨ (x.1 = y.1 ∧ x.2 < y.2)
theorem abvN_ahead {n : Nat} {C : Nat → Option BV} (hn : n ≤ 4) (h1 : 1 ≤ n) : (abvN n C).Pairwise ahead := by
  unfold abvN
  rw [P7.aboveL_in h1 hn]
  unfold P7.abv
  refine List.pairwise_map.2 (List.pairwise_flatMap.2 ⟨fun k hk => ?_, ?_⟩)
  · refine List.pairwise_map.2 (List.Pairwise.imp_of_mem ?_ (P7.pl_lt (P7.pw n) (keysL C) k))
    intro x y hx hy hxy
    have := (P7.pl_pos hx).1
    have := (P7.pl_pos hy).1
    exact .inr ⟨rfl, by simp only; omega⟩
  · refine List.Pairwise.imp_of_mem ?_ (List.pairwise_lt_range (n := n))
    intro k k' hk hk' hlt x hx y hy
    obtain ⟨i, _, rfl⟩ := List.mem_map.1 hx
    obtain ⟨i', _, rfl⟩ := List.mem_map.1 hy
    have := List.mem_range.1 hk'
    exact .inl (by simp only [Int.toNat_natCast]; omega)
theorem keysN_sorted (C : Nat → Option BV) : (keysN C).Pairwise (· < ·) := List.pairwise_lt_range.filter _
theorem restL_ahead {n : Nat} {C : Nat → Option BV} (hn : n ≤ 4) (h1 : 1 ≤ n) : (restL n C).Pairwise ahead := by
  unfold restL
  refine List.pairwise_append.2 ⟨List.pairwise_map.2 ((keysN_sorted C).imp fun h => .inr ⟨rfl, h⟩), abvN_ahead hn h1, fun x hx y hy => ?_⟩
  obtain ⟨a, _, rfl⟩ := List.mem_map.1 hx
  obtain ⟨k, a', hk, _, _, rfl⟩ := (mem_abvN hn h1).1 hy
  exact .inl (by simp only; omega)
theorem mem_restL {n : Nat} {C : Nat → Option BV} (hn : n ≤ 4) (h1 : 1 ≤ n) (hC : ∀ a, a ∈ keysN C → a < 4 ^ n) {p : Nat × Nat} : p ∈ restL n C ↔ ∃ k a : Nat, k ≤ n ∧ a ∈ keysN C ∧ p = (n - k, a / 4 ^ k) := by
  unfold restL
  rw [List.mem_append, mem_abvN hn h1, List.mem_map]
  constructor
  · rintro (⟨a, ha, rfl⟩ | ⟨k, a, hk, ha, _, rfl⟩)
    · exact ⟨0, a, Nat.zero_le _, ha, by simp⟩
    · exact ⟨k + 1, a, hk, ha, by congr 1; omega⟩
  · rintro ⟨k, a, hk, ha, rfl⟩
    cases k with
    | zero => exact .inl ⟨a, ha, by simp⟩
    | succ k => exact .inr ⟨k, a, hk, ha, hC a ha, by congr 1; omega⟩
theorem restL_plc {n : Nat} {C : Nat → Option BV} (hn : n ≤ 4) (h1 : 1 ≤ n) (hC : ∀ a, a ∈ keysN C → a < 4 ^ n) {p : Nat × Nat} (h : p ∈ restL n C) : Plc n p := by
  obtain ⟨k, a, hk, ha, rfl⟩ := (mem_restL hn h1 hC).1 h
  refine ⟨Nat.sub_le _ _, ?_⟩
  have := hC a ha
  show a / 4 ^ k < 4 ^ (n - k)
  rw [Nat.div_lt_iff_lt_mul (Nat.pow_pos (by decide)), ← Nat.pow_add, show n - k + k = n by omega]
  exact this
theorem restL_par {n : Nat} {C : Nat → Option BV} (hn : n ≤ 4) (h1 : 1 ≤ n) (hC : ∀ a, a ∈ keysN C → a < 4 ^ n) {p : Nat × Nat} (h : p ∈ restL n C) {l : Nat} (hl : p.1 = l + 1) : (l, p.2 / 4) ∈ restL n C := by
  obtain ⟨k, a, hk, ha, rfl⟩ := (mem_restL hn h1 hC).1 h
  have hl : n - k = l + 1 := hl
  refine (mem_restL hn h1 hC).2 ⟨k + 1, a, by omega, ha, ?_⟩
  show (l, a / 4 ^ k / 4) = _
  rw [Nat.div_div_eq_div_mul, Nat.pow_succ]
  congr 1
  omega
theorem ahead_irr {x : Nat × Nat} (h : ahead x x) : False := by
  rcases h with h | ⟨_, h⟩ <;> omega
theorem restL_parts {n : Nat} {C : Nat → Option BV} (hn : n ≤ 4) (h1 : 1 ≤ n) (hC : ∀ a, a ∈ keysN C → a < 4 ^ n) (pre : List (Nat × Nat)) (p : Nat × Nat) (post : List (Nat × Nat)) (e : restL n C = pre ++ p :: post) : p ∉ post ∧ ∀ l, p.1 = l + 1 → (l, p.2 / 4) ∈ post := by
  have ho := restL_ahead (C := C) hn h1
  rw [e] at ho
  obtain ⟨_, ho2, ho3⟩ := List.pairwise_append.1 ho
  obtain ⟨ho4, _⟩ := List.pairwise_cons.1 ho2
  refine ⟨fun hp => ahead_irr (ho4 p hp), fun l hl => ?_⟩
  have hm := restL_par hn h1 hC (by rw [e]; simp : p ∈ restL n C) hl
  rw [e] at hm
  rcases List.mem_append.1 hm with hm | hm
  · rcases ho3 _ hm p (by simp) with h | ⟨h, _⟩
    · have h : p.1 < l := h
      omega
    · have h : l = p.1 := h
      omega
  · rcases List.mem_cons.1 hm with hm | hm
    · have : l = p.1 := by rw [← hm]
      omega
    · exact hm
theorem restL_len {n : Nat} {C : Nat → Option BV} (hn : n ≤ 4) (h1 : 1 ≤ n) (hC : ∀ a, a ∈ keysN C → a < 4 ^ n) : (restL n C).length ≤ (plcs n).length :=
  nodup_sub_len (List.Pairwise.imp (S := fun x y => x ≠ y) (fun {x y} h (e : x = y) => ahead_irr (x := x) (by rw [← e] at h; exact h)) (restL_ahead hn h1)) (fun x hx => mem_plcs.2 (restL_plc hn h1 hC hx))
theorem keysN_mem {C : Nat → Option BV} {a : Nat} : a ∈ keysN C ↔ a < 256 ∧ (C a).isSome = true := by
  unfold keysN
  rw [List.mem_filter, List.mem_range]
theorem now_free {X : VX} {m : Nat} (h : ∀ q ∈ X.rs, q.1 ≠ m) : nowX X m = synX X m := by
  unfold nowX synX nowV nowK
  rw [List.take_length]
  have : ∀ (rs : List (Nat × BV)) (z : BV), (∀ q ∈ rs, q.1 ≠ m) → rs.foldl (fun b p => if p.1 = m then p.2 else b) z = z := by
    intro rs
    induction rs with
    | nil => intro z _; rfl
    | cons q t ih =>
      intro z hq
      rw [List.foldl_cons, if_neg (hq q (by simp))]
      exact ih z (fun q' hq' => hq q' (List.mem_cons_of_mem _ hq'))
  rw [this X.rs _ h]
theorem AI.now {L : Nat → Nat → List UInt8} {n : Nat} {N0 : Nat → Nat → Nat → RecV} {c0 : Nat → List UInt8} {X : VX} (h : AI L n N0 c0 X) {p : Nat × Nat} (hp : Plc n p) {m : Nat} (hm : (tr X.ar N0 p.1 p.2).a = (m : Int) + 1) : nowX X m = synX X m :=
  now_free fun q hq e => h.free q hq p hp (by rw [hm, e])
theorem RI.keys {L : Nat → Nat → List UInt8} {n : Nat} {c : Nat → List UInt8} {X : VX} (h : RI L n c X) : ∀ a, a ∈ keysN X.C → a < 4 ^ n := fun a ha => by
  obtain ⟨_, hs⟩ := keysN_mem.1 ha
  obtain ⟨x, hx⟩ := Option.isSome_iff_exists.1 hs
  exact (h.hc a x hx).1
theorem RI.begun {L : Nat → Nat → List UInt8} {n : Nat} {c : Nat → List UInt8} {X : VX} (h : RI L n c X) (g gg : Nat) (rt : Value) (hlen : ∀ a x, X.C a = some x → x.l.length = 256 ∨ x.l = []) (he : X.c.e < 4294967296) : CI L n X.N c (ovC X.C c) (X.begun g gg rt) := by
  have hk := h.keys
  have hn4 : n ≤ 4 := by have := h.n3; omega
  have hrt : (X.begun g gg rt).rt = restL n X.C := by show restL X.c.n X.C = _; rw [h.n_]
  have htop : X.c.top = X.ar := h.ar.symm
  have hN1 : ∀ {p}, p ∉ restL n X.C → p.1 = n → p.2 < 4 ^ n → ovC X.C c p.2 = c p.2 := fun {p} hp e hlt => by
    have : X.C p.2 = none := by
      cases hh : X.C p.2 with
      | none => rfl
      | some x =>
        have h64 := pow3 (Nat.le_refl n) h.n3
        refine (hp ((mem_restL hn4 h.n1 hk).2 ⟨0, p.2, Nat.zero_le _, keysN_mem.2 ⟨by omega, by rw [hh]; rfl⟩, ?_⟩)).elim
        rw [← e]
        simp
    unfold ovC
    rw [this]
  refine { n_ := h.n_, n3 := h.n3, go := ⟨gg, rfl⟩, ai := ⟨h.ai.tree, h.ai.free⟩, rest := fun p hp => ?_, par := fun pre p post e => ?_, cons := ?_, held := h.held, inj := ?_, nod := h.ai.tree.nod, top_ := ?_, old := ?_, one := fun j hj => (h.one j (by have hj : X.S j = 1 := hj; omega)).2, ga := ?_, len := ?_, cnt := ?_, nb := h.nb, rsb := h.rsb, ep := he, sq := ?_ }
  · rw [hrt] at hp
    exact restL_plc hn4 h.n1 hk hp
  · rw [hrt] at e
    exact restL_parts hn4 h.n1 hk pre p post e
  · intro p hp hpR
    rw [hrt] at hpR
    show RecOk L X.ss.length (nowX X) (tr X.c.top X.N p.1 p.2) (plT n X.N (ovC X.C c) p)
    have e1 : plT n X.N (ovC X.C c) p = plT n X.N c p := by
      unfold plT
      by_cases e : p.1 = n
      · rw [if_pos e, if_pos e]
        exact hN1 hpR e (by rw [← e]; exact hp.2)
      · rw [if_neg e, if_neg e]
    rw [e1, htop]
    exact (h.ai.tree.ok p hp).congr (REq.refl _) (fun m hm => h.ai.now hp hm)
  · show ∀ p x, Plc n p → Plc n x → (tr X.c.top X.N p.1 p.2).a ≠ 0 → (tr X.c.top X.N p.1 p.2).a = (tr X.c.top X.N x.1 x.2).a → p = x
    rw [htop]
    exact h.ai.tree.inj
  · show X.c.top.Ok
    rw [htop]
    exact h.ai.tree.top_
  · intro p hp j hj
    have hj : (tr X.ar X.N p.1 p.2).a = (j : Int) + 1 := hj
    rw [← htop] at hj
    show X.S j ≠ 0
    rcases h.held p hp with h0 | ⟨k, h1, _, h3⟩
    · omega
    · obtain rfl : k = j := by omega
      omega
  · intro i hi
    rw [hrt] at hi
    obtain ⟨k, a, hk1, ha, e⟩ := (mem_restL hn4 h.n1 hk).1 hi
    injection e with e1 e2
    obtain rfl : k = 0 := by have := h.n1; omega
    simp at e2
    subst e2
    obtain ⟨x, hx⟩ := Option.isSome_iff_exists.1 (keysN_mem.1 ha).2
    show bytesOf (X.C i) = ovC X.C c i
    unfold ovC
    rw [hx]
    rfl
  · intro i
    unfold ovC
    cases hh : X.C i with
    | none => exact h.len i
    | some x =>
      rcases hlen i x hh with h1 | h1
      · exact .inr h1
      · exact .inl h1
  · refine ⟨(plcs n).map (fun p => (tr X.c.top X.N p.1 p.2).a.toNat - 1), fun j hj hjS => ?_, ?_⟩
    · obtain ⟨_, p, hp, hpa⟩ := h.one j hjS
      refine List.mem_map.2 ⟨p, mem_plcs.2 hp, ?_⟩
      show (tr X.c.top X.N p.1 p.2).a.toNat - 1 = j
      omega
    · rw [hrt, List.length_map]
      have := restL_len (C := X.C) hn4 h.n1 hk
      have := h.room
      show _ ≤ X.ss.length
      omega
  · show X.c.s + (X.begun g gg rt).rt.length + 1 < _
    rw [hrt, h.s0]
    have := restL_len (C := X.C) hn4 h.n1 hk
    have := h.room
    have := h.nb
    omega
end Go.Proofs.YtpocccnhibjjcaaGreatDoor
