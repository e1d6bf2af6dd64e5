/- The digest of three bytes, reckoned by the kernel. No program is in sight here, and no conditions. -/
import Derived.Test.YtcbojloladkkdaaDoorEat
import Derived.KernelRfl
set_option linter.unusedVariables false
namespace Go.Proofs.YtcbojloladkkdaaDoor

/-- A word is reckoned before it is handed on. -/
def now {α : Type} (x : UInt32) (k : UInt32 → α) : α := Nat.casesOn (motive := fun _ => α) x.toNat (k 0) (fun m => k (UInt32.ofNat (m + 1)))
theorem now_eq {α : Type} (x : UInt32) (k : UInt32 → α) : now x k = k x := by
  unfold now
  cases h : x.toNat with
  | zero =>
    have : x = 0 := UInt32.toNat_inj.1 (by rw [h]; rfl)
    show k 0 = k x
    rw [this]
  | succ m =>
    have : UInt32.ofNat (m + 1) = x := by rw [← h]; exact UInt32.ofNat_toNat
    show k (UInt32.ofNat (m + 1)) = k x
    rw [this]

/-- The words of a block, the latest first. -/
def rv (u : Nat → UInt32) : Nat → List UInt32
  | 0 => []
  | t + 1 => u t :: rv u t
theorem rv_get (u : Nat → UInt32) : ∀ t i, i < t → (rv u t).getD i 0 = u (t - 1 - i)
  | 0, _, h => by omega
  | t + 1, 0, _ => rfl
  | t + 1, i + 1, h => by
    have := rv_get u t i (by omega)
    show (rv u t).getD i 0 = _
    rw [this]
    congr 1
    omega
theorem rv_rev (u : Nat → UInt32) : ∀ t, (rv u t).reverse = (List.range t).map u
  | 0 => rfl
  | t + 1 => by
    rw [rv, List.reverse_cons, rv_rev u t, List.range_succ, List.map_append]
    rfl
def evS {α : Type} (K : List UInt32 → α) : Nat → List UInt32 → α
  | 0, l => K l
  | n + 1, l => now (sg1 (l.getD 1 0) + l.getD 6 0 + sg0 (l.getD 14 0) + l.getD 15 0) fun x => evS K n (x :: l)
theorem evS_eq {α : Type} (K : List UInt32 → α) (b : Nat → UInt8) : ∀ n t, 16 ≤ t → evS K n (rv (sch b) t) = K (rv (sch b) (t + n))
  | 0, t, _ => rfl
  | n + 1, t, h => by
    rw [evS, now_eq, rv_get _ _ _ (by omega), rv_get _ _ _ (by omega), rv_get _ _ _ (by omega), rv_get _ _ _ (by omega)]
    have e : sg1 (sch b (t - 1 - 1)) + sch b (t - 1 - 6) + sg0 (sch b (t - 1 - 14)) + sch b (t - 1 - 15) = sch b t := by
      rw [sch_hi b t h, show t - 1 - 1 = t - 2 by omega, show t - 1 - 6 = t - 7 by omega, show t - 1 - 14 = t - 15 by omega, show t - 1 - 15 = t - 16 by omega]
    rw [e]
    have := evS_eq K b n (t + 1) (by omega)
    rw [rv] at this
    rw [this]
    congr 2
    omega
theorem rv16 (b : Nat → UInt8) : rv (sch b) 16 = [wd b 15, wd b 14, wd b 13, wd b 12, wd b 11, wd b 10, wd b 9, wd b 8, wd b 7, wd b 6, wd b 5, wd b 4, wd b 3, wd b 2, wd b 1, wd b 0] := by
  simp only [rv]
  rw [sch_lo b 0 (by omega), sch_lo b 1 (by omega), sch_lo b 2 (by omega), sch_lo b 3 (by omega), sch_lo b 4 (by omega), sch_lo b 5 (by omega), sch_lo b 6 (by omega), sch_lo b 7 (by omega), sch_lo b 8 (by omega), sch_lo b 9 (by omega),
    sch_lo b 10 (by omega), sch_lo b 11 (by omega), sch_lo b 12 (by omega), sch_lo b 13 (by omega), sch_lo b 14 (by omega), sch_lo b 15 (by omega)]

/-- The steps, over lists. -/
def rndL : List UInt32 → List UInt32 → S8 → S8
  | k :: ks, w :: ws, s => rndL ks ws (rnd s k w)
  | _, _, s => s
theorem rndL_app : ∀ (ks ws : List UInt32) (k w : UInt32) (s : S8), ks.length = ws.length → rndL (ks ++ [k]) (ws ++ [w]) s = rnd (rndL ks ws s) k w
  | [], [], _, _, _, _ => rfl
  | k' :: ks, w' :: ws, k, w, s, h => by
    show rndL (ks ++ [k]) (ws ++ [w]) (rnd s k' w') = rnd (rndL ks ws (rnd s k' w')) k w
    exact rndL_app ks ws k w _ (by simpa using h)
  | [], w' :: ws, _, _, _, h => by simp at h
  | k' :: ks, [], _, _, _, h => by simp at h
theorem rnds_L (s : S8) (u : Nat → UInt32) : ∀ n, rndL ((List.range n).map kk) ((List.range n).map u) s = rnds s u n
  | 0 => rfl
  | n + 1 => by
    rw [List.range_succ, List.map_append, List.map_append]
    show rndL ((List.range n).map kk ++ [kk n]) ((List.range n).map u ++ [u n]) s = _
    rw [rndL_app _ _ _ _ _ (by simp), rnds_L s u n]
    rfl
theorem kk64 : (List.range 64).map kk = ksL := by decide +kernel
def evR {α : Type} (K : S8 → α) : List UInt32 → List UInt32 → UInt32 → UInt32 → UInt32 → UInt32 → UInt32 → UInt32 → UInt32 → UInt32 → α
  | k :: ks, w :: ws, a, b, c, d, e, f, g, h => now (t1 e f g h k w) fun x => now (x + t2 a b c) fun a' => now (d + x) fun e' => evR K ks ws a' a b c e' e f g
  | _, _, a, b, c, d, e, f, g, h => K ⟨a, b, c, d, e, f, g, h⟩
theorem evR_eq {α : Type} (K : S8 → α) : ∀ (ks ws : List UInt32) (a b c d e f g h : UInt32), evR K ks ws a b c d e f g h = K (rndL ks ws ⟨a, b, c, d, e, f, g, h⟩)
  | k :: ks, w :: ws, a, b, c, d, e, f, g, h => by
    rw [evR, now_eq, now_eq, now_eq, evR_eq K ks ws]
    rfl
  | [], _, a, b, c, d, e, f, g, h => by simp only [evR, rndL]
  | _ :: _, [], a, b, c, d, e, f, g, h => by simp only [evR, rndL]
/-- All of a block, reckoned. -/
def evB (b : Nat → UInt8) (s : S8) : S8 :=
  now (wd b 15) fun x15 => now (wd b 14) fun x14 => now (wd b 13) fun x13 => now (wd b 12) fun x12 => now (wd b 11) fun x11 => now (wd b 10) fun x10 => now (wd b 9) fun x9 => now (wd b 8) fun x8 =>
  now (wd b 7) fun x7 => now (wd b 6) fun x6 => now (wd b 5) fun x5 => now (wd b 4) fun x4 => now (wd b 3) fun x3 => now (wd b 2) fun x2 => now (wd b 1) fun x1 => now (wd b 0) fun x0 =>
  evS (fun l => evR (fun r => r) ksL l.reverse s.a s.b s.c s.d s.e s.f s.g s.h) 48 [x15, x14, x13, x12, x11, x10, x9, x8, x7, x6, x5, x4, x3, x2, x1, x0]
theorem evB_eq (b : Nat → UInt8) (s : S8) : evB b s = rnds s (sch b) 64 := by
  unfold evB
  simp only [now_eq]
  rw [← rv16, evS_eq _ b 48 16 (Nat.le_refl _)]
  show evR _ ksL (rv (sch b) 64).reverse _ _ _ _ _ _ _ _ = _
  rw [rv_rev, evR_eq, ← kk64, rnds_L]

/-- The padded three bytes, and their block. -/
def abc : List UInt8 := [97, 98, 99, 128, 0, 0, 0, 0, 0, 0, 0, 0, 0, 0, 0, 0, 0, 0, 0, 0, 0, 0, 0, 0, 0, 0, 0, 0, 0, 0, 0, 0, 0, 0, 0, 0, 0, 0, 0, 0, 0, 0, 0, 0, 0, 0, 0, 0, 0, 0, 0, 0, 0, 0, 0, 0, 0, 0, 0, 0, 0, 0, 0, 24]
theorem abc_rnds : evB (blk abc 0) h0 = ⟨0x506e3058, 0xd39a2165, 0x04d24d6c, 0xb85e2ce9, 0x5ef50f24, 0xfb121210, 0x948d25b6, 0x961f4894⟩ := by kernel_rfl
theorem abc_cmp : cmp h0 (blk abc 0) = ⟨0xba7816bf, 0x8f01cfea, 0x414140de, 0x5dae2223, 0xb00361a3, 0x96177a9c, 0xb410ff61, 0xf20015ad⟩ := by
  unfold cmp
  rw [← evB_eq, abc_rnds]
  kernel_rfl
end Go.Proofs.YtcbojloladkkdaaDoor
