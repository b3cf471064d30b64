/- Division, product, Power and Root of package integer, of any length. -/
import Derived.Test.YtagocllbfbbneaaShiftA
import Derived.IntWalk
import Derived.Outline
import Derived.Test.YtagocllbfbbneaaDivide
import Derived.Deep.QuietTactic
import Derived.BigQuiet
import Derived.Laws.BitsLemmas
import Derived.Deep.LoopGhost
namespace Go.Proofs.Ytagocllbfbbneaa
open Go.RowKit
set_option linter.unusedSimpArgs false

/-- What a guess is made of: the divisor D and the part V of the rest, by their top limbs. -/
structure Tops (B P D0 V0 f s t p D V : Nat) : Prop where
  hD : D = D0 + P * (f * B + s)
  hV : V = V0 + P * (t * B + p)
  d0 : D0 < P
  v0 : V0 < P
  f0 : 0 < f
  sB : s < B
  pB : p < B
  lt : V < B * D
theorem Tops.dpos {B P D0 V0 f s t p D V : Nat} (h : Tops B P D0 V0 f s t p D V) (_hB : 0 < B) : P * B ≤ D := by
  rw [h.hD]
  have h1 : 1 * B ≤ f * B := Nat.mul_le_mul_right B h.f0
  have h2 : P * B ≤ P * (f * B + s) := Nat.mul_le_mul_left P (by omega)
  omega
theorem Tops.ppos {B P D0 V0 f s t p D V : Nat} (h : Tops B P D0 V0 f s t p D V) : 0 < P := Nat.lt_of_le_of_lt (Nat.zero_le _) h.d0
theorem Tops.qB {B P D0 V0 f s t p D V : Nat} (h : Tops B P D0 V0 f s t p D V) (hB : 0 < B) : V / D < B := by
  have hD : 0 < D := Nat.lt_of_lt_of_le (Nat.mul_pos h.ppos hB) (h.dpos hB)
  rw [Nat.div_lt_iff_lt_mul hD]
  exact h.lt
/-- The first guess is not too small. -/
theorem Tops.first {B P D0 V0 f s t p D V : Nat} (h : Tops B P D0 V0 f s t p D V) : V / D ≤ t / f := by
  rw [Nat.le_div_iff_mul_le h.f0]
  have h1 : V / D * D ≤ V := Nat.div_mul_le_self V D
  generalize V / D = q at *
  have h2 : q * (P * (f * B)) ≤ q * D := Nat.mul_le_mul_left q (by rw [h.hD]; have : P * (f * B) ≤ P * (f * B + s) := Nat.mul_le_mul_left P (by omega); omega)
  have h3 : V < P * (t * B + B) := by
    have a1 : P * (t * B + p + 1) ≤ P * (t * B + B) := Nat.mul_le_mul_left P (by have := h.pB; omega)
    have a2 : P * (t * B + p + 1) = P * (t * B + p) + P := by rw [Nat.mul_add P (t * B + p), Nat.mul_one]
    have a3 := h.v0
    have a4 := h.hV
    omega
  have h4 : P * B * (q * f) < P * B * (t + 1) := by
    have e1 : q * (P * (f * B)) = P * B * (q * f) := by ac_rfl
    have e2 : P * (t * B + B) = P * B * (t + 1) := by rw [Nat.mul_add, Nat.mul_add, Nat.mul_one]; ac_rfl
    rw [← e1, ← e2]
    omega
  have := Nat.lt_of_mul_lt_mul_left h4
  omega
/-- A guess that is too great for the two top limbs is too great. -/
theorem Tops.down {B P D0 V0 f s t p D V g r : Nat} (h : Tops B P D0 V0 f s t p D V) (hr : g * f + r = t) (hg : V / D ≤ g) (hc : r * B + p < g * s) : V / D ≤ g - 1 := by
  have h1 : V / D * D ≤ V := Nat.div_mul_le_self V D
  rcases Nat.lt_or_ge (V / D) g with h2 | h2
  · omega
  · exfalso
    have e : V / D = g := Nat.le_antisymm hg h2
    rw [e] at h1
    have h3 : g * (P * (f * B + s)) ≤ g * D := Nat.mul_le_mul_left g (by rw [h.hD]; omega)
    have h4 : V < P * (t * B + p + 1) := by rw [h.hV, Nat.mul_add P (t * B + p)]; have := h.v0; omega
    have e1 : g * (P * (f * B + s)) = P * (g * f * B + g * s) := by rw [Nat.mul_left_comm, Nat.mul_add]; congr 2; ac_rfl
    have h5 : P * (g * f * B + g * s) < P * (t * B + p + 1) := by rw [← e1]; omega
    have h6 := Nat.lt_of_mul_lt_mul_left h5
    rw [← hr, Nat.add_mul] at h6
    omega
/-- A guess that is not too great for the two top limbs is too great by one at most. -/
theorem Tops.last {B P D0 V0 f s t p D V g r : Nat} (h : Tops B P D0 V0 f s t p D V) (hB : 0 < B) (hr : g * f + r = t) (hg : V / D ≤ g) (hgB : g < B) (hc : g * s ≤ r * B + p) : g = V / D ∨ g = V / D + 1 := by
  have hD : 0 < D := Nat.lt_of_lt_of_le (Nat.mul_pos h.ppos hB) (h.dpos hB)
  rcases Nat.lt_or_ge (V / D + 1) g with h2 | h2
  · exfalso
    have e : V < (V / D + 1) * D := by have := Nat.lt_div_mul_add hD (a := V); rw [Nat.add_mul, Nat.one_mul]; exact this
    generalize V / D = q at *
    have h3 : (q + 1) * D + D ≤ g * D := by
      have : (q + 2) * D ≤ g * D := Nat.mul_le_mul_right D h2
      rw [show q + 2 = q + 1 + 1 by omega, Nat.add_mul (q + 1), Nat.one_mul] at this
      exact this
    have h4 : g * D ≤ g * P + V := by
      have e1 : g * D = g * D0 + P * (g * f * B + g * s) := by rw [h.hD, Nat.mul_add, Nat.mul_left_comm g P, Nat.mul_add g]; congr 3; ac_rfl
      have h5 : P * (g * f * B + g * s) ≤ P * (t * B + p) := Nat.mul_le_mul_left P (by rw [← hr, Nat.add_mul]; omega)
      have h6 : g * D0 ≤ g * P := Nat.mul_le_mul_left g (Nat.le_of_lt h.d0)
      rw [e1, h.hV]
      omega
    have h7 : g * P ≤ P * B := by rw [Nat.mul_comm]; exact Nat.mul_le_mul_left P (Nat.le_of_lt hgB)
    have h8 := h.dpos hB
    omega
  · omega

/-- Taken away as far as i: the digits zs, a carry c and a borrow b. -/
structure Take (ps ds zs : List Nat) (g i c b : Nat) : Prop where
  len : zs.length = ps.length
  ok : Lm.Ok B32 zs
  rest : ∀ j, i ≤ j → zs.getD j 0 = ps.getD j 0
  num : Lm.val B32 zs + g * Lm.val B32 (ds.take i) = Lm.val B32 ps + B32 ^ i * (c + b)
  carry : c < B32
  borrow : b ≤ 1
theorem take_start {ps ds : List Nat} {g : Nat} (ho : Lm.Ok B32 ps) : Take ps ds ps g 0 0 0 := ⟨rfl, ho, fun _ _ => rfl, by simp [Lm.val], B32_pos, by omega⟩
theorem take_carry {c g x : Nat} (hc : c < B32) (hg : g < B32) (hx : x < B32) : c + g * x ≤ 18446744073709551615 := by
  have h : g * x ≤ 4294967295 * 4294967295 := Nat.mul_le_mul (by unfold B32 at hg; omega) (by unfold B32 at hx; omega)
  unfold B32 at *
  omega
theorem take_step {ps ds zs : List Nat} {g i c b x p r b' t : Nat} (h : Take ps ds zs g i c b) (hi : i < ds.length) (hp : i < ps.length) (hx : ds.getD i 0 = x) (hxl : x < B32) (hg : g < B32) (hpv : zs.getD i 0 = p)
    (ht : t = c + g * x) (hr : r + t % B32 + b = p + B32 * b') (hrl : r < B32) (hb : b' ≤ 1) : Take ps ds (zs.set i r) g (i + 1) (t / B32) b' := by
  have hs := Lm.val_set B32 zs i r (by rw [h.len]; exact hp)
  rw [hpv] at hs
  have hn := h.num
  have hc := take_carry h.carry hg hxl
  refine ⟨by simpa using h.len, h.ok.set _ _ hrl, fun j hj => ?_, ?_, ?_, hb⟩
  · rw [Lm.getD_set_ne _ _ _ _ (by omega)]; exact h.rest j (by omega)
  · rw [Lm.val_take_succ _ _ _ hi, hx, Nat.pow_succ, Nat.mul_add g]
    have hdm := Nat.div_add_mod t B32
    generalize t / B32 = hi_ at *
    generalize t % B32 = lo at *
    have e1 : g * (B32 ^ i * x) = B32 ^ i * (g * x) := by ac_rfl
    have e2 : B32 ^ i * (r + lo + b) = B32 ^ i * (p + B32 * b') := by rw [hr]
    have e3 : B32 ^ i * (B32 * hi_ + lo) = B32 ^ i * (c + g * x) := by rw [hdm, ht]
    rw [e1, Nat.mul_assoc, Nat.mul_add]
    rw [Nat.mul_add, Nat.mul_add, Nat.mul_add] at e2
    rw [Nat.mul_add, Nat.mul_add] at e3
    rw [Nat.mul_add] at hn
    rw [Nat.mul_add]
    generalize g * Lm.val B32 (ds.take i) = u1 at *
    generalize B32 ^ i * (g * x) = u2 at *
    generalize B32 ^ i * r = u3 at *
    generalize B32 ^ i * lo = u4 at *
    generalize B32 ^ i * b = u5 at *
    generalize B32 ^ i * p = u6 at *
    generalize B32 ^ i * (B32 * b') = u7 at *
    generalize B32 ^ i * (B32 * hi_) = u8 at *
    generalize B32 ^ i * c = u9 at *
    omega
  · rw [Nat.div_lt_iff_lt_mul B32_pos, ht]
    unfold B32
    omega
/-- The last limb. -/
theorem take_end {ps ds zs : List Nat} {g c b p r b' : Nat} (h : Take ps ds zs g ds.length c b) (hl : ps.length = ds.length + 1) (hpv : zs.getD ds.length 0 = p) (hr : r + c + b = p + B32 * b') :
    Lm.val B32 (zs.set ds.length r) + g * Lm.val B32 ds = Lm.val B32 ps + B32 ^ (ds.length + 1) * b' := by
  have hs := Lm.val_set B32 zs ds.length r (by rw [h.len]; omega)
  rw [hpv] at hs
  have hn := h.num
  rw [List.take_length] at hn
  have e2 : B32 ^ ds.length * (r + c + b) = B32 ^ ds.length * (p + B32 * b') := by rw [hr]
  rw [Nat.mul_add, Nat.mul_add, Nat.mul_add] at e2
  rw [Nat.mul_add] at hn
  rw [Nat.pow_succ, Nat.mul_assoc]
  generalize g * Lm.val B32 ds = u1 at *
  generalize B32 ^ ds.length * r = u3 at *
  generalize B32 ^ ds.length * c = u4 at *
  generalize B32 ^ ds.length * b = u5 at *
  generalize B32 ^ ds.length * p = u6 at *
  generalize B32 ^ ds.length * (B32 * b') = u7 at *
  omega
/-- What giving back leaves. -/
theorem give_end {ps ds zs : List Nat} {c p r : Nat} (h : Inc ps ds zs ds.length c) (hl : ps.length = ds.length + 1) (hpv : zs.getD ds.length 0 = p) (hr : r = (p + c) % B32) :
    Lm.val B32 (zs.set ds.length r) = (Lm.val B32 ps + Lm.val B32 ds) % B32 ^ (ds.length + 1) := by
  have hlen : zs.length = ds.length + 1 := by rw [h.len, hl]
  have hs := Lm.val_set B32 zs ds.length r (by omega)
  rw [hpv] at hs
  have hn := h.num
  rw [List.take_length] at hn
  have hok : Lm.Ok B32 (zs.set ds.length r) := h.ok.set _ _ (by rw [hr]; exact Nat.mod_lt _ B32_pos)
  have hlt := Lm.val_lt hok
  rw [List.length_set, hlen] at hlt
  have hdm := Nat.div_add_mod (p + c) B32
  rw [← hr] at hdm
  have e : B32 ^ ds.length * (B32 * ((p + c) / B32) + r) = B32 ^ ds.length * (p + c) := by rw [hdm]
  rw [Nat.mul_add, Nat.mul_add] at e
  have e2 : Lm.val B32 ps + Lm.val B32 ds = Lm.val B32 (zs.set ds.length r) + B32 ^ (ds.length + 1) * ((p + c) / B32) := by
    rw [Nat.pow_succ, Nat.mul_assoc]
    generalize B32 ^ ds.length * r = u3 at *
    generalize B32 ^ ds.length * (B32 * ((p + c) / B32)) = u4 at *
    generalize B32 ^ ds.length * p = u5 at *
    generalize B32 ^ ds.length * c = u6 at *
    omega
  rw [e2, Nat.add_mul_mod_self_left, Nat.mod_eq_of_lt hlt]
/-- What is left, if nothing was borrowed. -/
theorem digit_right {V D z g : Nat} (hg : g = V / D ∨ g = V / D + 1) (h : z + g * D = V) (hD : 0 < D) : g = V / D ∧ z = V % D := by
  have h1 := Nat.div_add_mod V D
  rw [Nat.mul_comm] at h1
  rcases hg with rfl | rfl
  · exact ⟨rfl, by omega⟩
  · exfalso
    rw [Nat.add_mul, Nat.one_mul] at h
    have := Nat.mod_lt V hD
    omega
theorem digit_less {V D z g M : Nat} (hg : g = V / D ∨ g = V / D + 1) (h : z + g * D = V + M) (hz : z < M) (hD : 0 < D) (hDM : D ≤ M) : g = V / D + 1 ∧ (z + D) % M = V % D := by
  have h1 := Nat.div_add_mod V D
  rw [Nat.mul_comm] at h1
  have h2 := Nat.mod_lt V hD
  rcases hg with rfl | rfl
  · omega
  · refine ⟨rfl, ?_⟩
    rw [Nat.add_mul, Nat.one_mul] at h
    have e : z + D = V % D + M := by omega
    rw [e, Nat.add_mod_right, Nat.mod_eq_of_lt (by omega)]

/-- A list by its limbs from k on. -/
theorem two_tops (xs : List Nat) (k : Nat) (hk : k + 2 = xs.length) : Lm.val B32 xs = Lm.val B32 (xs.take k) + B32 ^ k * (xs.getD (k + 1) 0 * B32 + xs.getD k 0) := by
  have h1 := Lm.val_split B32 xs k (by omega)
  have h2 := Lm.val_drop_pred B32 xs k (by omega)
  have h3 := Lm.val_drop_pred B32 xs (k + 1) (by omega)
  have h4 : xs.drop (k + 1 + 1) = [] := List.drop_of_length_le (by omega)
  rw [h4] at h3
  rw [h1, h2, h3]
  simp only [Lm.val, Nat.mul_zero, Nat.add_zero]
  congr 2
  rw [Nat.mul_comm, Nat.add_comm]
theorem three_tops (xs : List Nat) (k : Nat) (hk : k + 3 = xs.length) : Lm.val B32 xs = Lm.val B32 (xs.take k) + B32 ^ k * ((xs.getD (k + 2) 0 * B32 + xs.getD (k + 1) 0) * B32 + xs.getD k 0) := by
  have h1 := Lm.val_split B32 xs k (by omega)
  have h2 := Lm.val_drop_pred B32 xs k (by omega)
  have h3 := Lm.val_drop_pred B32 xs (k + 1) (by omega)
  have h4 := Lm.val_drop_pred B32 xs (k + 1 + 1) (by omega)
  have h5 : xs.drop (k + 1 + 1 + 1) = [] := List.drop_of_length_le (by omega)
  rw [h5] at h4
  rw [h1, h2, h3, h4]
  simp only [Lm.val, Nat.mul_zero, Nat.add_zero]
  congr 2
  rw [Nat.add_mul, Nat.mul_add, Nat.mul_assoc, Nat.mul_comm B32 (xs.getD (k + 1) 0)]
  have e : B32 * (B32 * xs.getD (k + 1 + 1) 0) = xs.getD (k + 2) 0 * (B32 * B32) := by rw [← Nat.mul_assoc, Nat.mul_comm]
  rw [e]
  omega
theorem tops_of {ps ds : List Nat} {n : Nat} (op : Lm.Ok B32 ps) (od : Lm.Ok B32 ds) (ln : ds.length = n + 2) (lp : ps.length = n + 3) (hf : 0 < ds.getD (n + 1) 0) (hv : Lm.val B32 ps < B32 * Lm.val B32 ds) :
    Tops B32 (B32 ^ n) (Lm.val B32 (ds.take n)) (Lm.val B32 (ps.take n)) (ds.getD (n + 1) 0) (ds.getD n 0) (ps.getD (n + 2) 0 * B32 + ps.getD (n + 1) 0) (ps.getD n 0) (Lm.val B32 ds) (Lm.val B32 ps) := by
  have h1 := Lm.val_lt (od.take n)
  have h2 := Lm.val_lt (op.take n)
  rw [List.length_take, Nat.min_eq_left (by omega)] at h1 h2
  exact ⟨two_tops ds n ln.symm, three_tops ps n lp.symm, h1, h2, hf, limb_lt od n, limb_lt op n, hv⟩

set_option maxRecDepth 100000 in
set_option maxHeartbeats 2000000 in
theorem guess_any (A : Option Addr) (cp : Nat) (ps : List Nat) (A' : Option Addr) (c : Nat) (ds : List Nat) (n : Nat) (w : World) (hp : Nums w .u32 A ps) (hd : Nums w .u32 A' ds)
    (op : Lm.Ok B32 ps) (od : Lm.Ok B32 ds) (ln : ds.length = n + 2) (lp : ps.length = n + 3) (hn : n ≤ 900000) (hf : 0 < ds.getD (n + 1) 0) (hv : Lm.val B32 ps < B32 * Lm.val B32 ds) :
    Calls Try.prog 133 #[.slice A ps.length cp, .slice A' ds.length c] w fun e w' => Drew w w' ∧ ∃ g : Nat, e = .returned (.int .u64 g) ∧ g ≤ 4294967295 ∧ (g = Lm.val B32 ps / Lm.val B32 ds ∨ g = Lm.val B32 ps / Lm.val B32 ds + 1) := by
  have ht := tops_of op od ln lp hf hv
  obtain ⟨ap, rfl, hpb, hpc⟩ := hp (by omega)
  obtain ⟨ad, rfl, hdb, hdc⟩ := hd (by omega)
  have c2 := hpc (n + 2) (by omega)
  have c1 := hpc (n + 1) (by omega)
  have c0 := hpc n (by omega)
  have e1 := hdc (n + 1) (by omega)
  have e0 := hdc n (by omega)
  have b2 := limb_lt op (n + 2)
  have b1 := limb_lt op (n + 1)
  have b0 := limb_lt op n
  have d1 := limb_lt od (n + 1)
  have d0 := limb_lt od n
  obtain ⟨p2, hp2⟩ : ∃ x, ps.getD (n + 2) 0 = x := ⟨_, rfl⟩
  obtain ⟨p1, hp1⟩ : ∃ x, ps.getD (n + 1) 0 = x := ⟨_, rfl⟩
  obtain ⟨p0, hp0⟩ : ∃ x, ps.getD n 0 = x := ⟨_, rfl⟩
  obtain ⟨f, hf1⟩ : ∃ x, ds.getD (n + 1) 0 = x := ⟨_, rfl⟩
  obtain ⟨s, hs0⟩ : ∃ x, ds.getD n 0 = x := ⟨_, rfl⟩
  obtain ⟨V, hV⟩ : ∃ x, Lm.val B32 ps = x := ⟨_, rfl⟩
  obtain ⟨D, hD⟩ : ∃ x, Lm.val B32 ds = x := ⟨_, rfl⟩
  rw [hp2, hp1, hp0, hf1, hs0, hV, hD] at ht
  rw [hV, hD]
  rw [hp2] at c2 b2
  rw [hp1] at c1 b1
  rw [hp0] at c0 b0
  rw [hf1] at e1 d1 hf
  rw [hs0] at e0 d0
  have HT := Lib.hid ht
  have hj := join_int p2 p1 b2 b1
  obtain ⟨t, htop⟩ : ∃ t, p2 * 4294967296 + p1 = t := ⟨_, rfl⟩
  rw [htop] at hj
  have htl : t < 18446744073709551616 := by omega
  have HJ := Lib.hid htop
  obtain ⟨N, hN⟩ : ∃ N, ds.length = N := ⟨_, rfl⟩
  obtain ⟨L, hL⟩ : ∃ L, ps.length = L := ⟨_, rfl⟩
  rw [hN, hL]
  rw [hN] at ln
  rw [hL] at lp
  rw [show n + 2 = N from ln.symm] at c2
  rw [show n + 1 = N - 1 by omega] at c1 e1
  rw [show n = N - 2 by omega] at c0 e0
  have i1 : ((N : Int) - 1).toNat = N - 1 := by omega
  have i2 : ((N : Int) - 2).toNat = N - 2 := by omega
  have j1 : (N : Int) < (L : Int) := by omega
  have j2 : (2 : Int) ≤ (N : Int) := by omega
  have j3 : (N : Int) ≤ 900002 := by omega
  have j4 : (1 : Int) ≤ (N : Int) := by omega
  have k1 : IntKind.i64.wrap ((N : Int) - 1) = (N : Int) - 1 := IntWalk.i64_in _ (by omega)
  have k2 : IntKind.i64.wrap ((N : Int) - 2) = (N : Int) - 2 := IntWalk.i64_in _ (by omega)
  have k3 : (0 : Int) ≤ (N : Int) - 1 := by omega
  have k4 : (0 : Int) ≤ (N : Int) - 2 := by omega
  have k5 : (N : Int) - 1 < (L : Int) := by omega
  have k6 : (N : Int) - 2 < (L : Int) := by omega
  have k7 : (N : Int) - 1 < (N : Int) := by omega
  have k8 : (N : Int) - 2 < (N : Int) := by omega
  clear hN hL ln lp hp2 hp1 hp0 hf1 hs0 hV hD hpc hdc ht htop hv hp hd hpb hdb
  have htB : (p2 * B32 + p1) = t := by have := HJ.out; unfold B32; exact this
  rw [htB] at HT
  have hQq : V / D ≤ t / f := HT.out.first
  have hqB := HT.out.qB B32_pos
  have hDp : 0 < D := Nat.lt_of_lt_of_le (Nat.mul_pos HT.out.ppos B32_pos) (HT.out.dpos B32_pos)
  obtain ⟨Q, hQ⟩ : ∃ Q, t / f = Q := ⟨_, rfl⟩
  have hQi : (t : Int) / (f : Int) = (Q : Int) := by rw [← hQ, Int.natCast_ediv]
  have hQt : Q ≤ t := by rw [← hQ]; exact Nat.div_le_self _ _
  have hwQ : IntKind.u64.wrap (Q : Int) = (Q : Int) := IntWalk.u64_in _ (by omega)
  have hQf : Q * f ≤ t := by rw [← hQ]; exact Nat.div_mul_le_self t f
  have hfne : ¬ (f : Int) = 0 := by omega
  rw [hQ] at hQq
  obtain ⟨q, hq⟩ : ∃ q, V / D = q := ⟨_, rfl⟩
  rw [hq] at hQq hqB ⊢
  have HQ := Lib.hid (And.intro hQq (And.intro hqB (And.intro hQt (And.intro hQf (And.intro hq (And.intro htl HJ.out))))))
  have hcase : ∃ g r m : Nat, g = min Q 4294967295 ∧ g * f = m ∧ m + r = t := ⟨min Q 4294967295, t - min Q 4294967295 * f, _, rfl, rfl, Nat.add_sub_cancel' (Nat.le_trans (Nat.mul_le_mul_right f (Nat.min_le_left _ _)) hQf)⟩
  obtain ⟨g, r, m, hg, hm, hr⟩ := hcase
  have hwm : IntKind.u64.wrap (m : Int) = (m : Int) := IntWalk.u64_in _ (by omega)
  have hwr : IntKind.u64.wrap ((t : Int) - (m : Int)) = (r : Int) := by rw [IntWalk.u64_in _ (by omega)]; omega
  have hq1 : q ≤ g := by rw [hg]; unfold B32 at hqB; omega
  have hgf : g * f + r = t := by omega
  have hgl : g ≤ 4294967295 := by omega
  have HG := Lib.hid (And.intro hq1 (And.intro hgf hgl))
  by_cases hmin : Q ≤ 4294967295
  · have hgQ : g = Q := by omega
    subst hgQ
    have hmul : (g : Int) * (f : Int) = (m : Int) := by rw [← hm, Int.natCast_mul]
    have hmi : (g : Int) ≤ 4294967295 := by omega
    clear hg hm hr hq1 hgf hgl hQq hqB hQt hQf hq htB hQ htl hDp hmin
    go_enter Try.func133, Try.ntmps133
    go_wp2
    go_quiet (fail)
    go_wp2
    go_quiet (fail)
    go_wp2
    go_loop [9, 10] (fun gv rv => ∃ g r : Nat, gv = .int .u64 g ∧ rv = .int .u64 r ∧ q ≤ g ∧ g * f + r = t ∧ g ≤ 4294967295) (fun gv _ => (intOf gv).toNat)
    case atStart => exact ⟨g, r, rfl, rfl, HG.out.1, HG.out.2.1, HG.out.2.2⟩
    case round =>
      clear hmul hmi hwm hwr hwQ hQi k1 k3 k5 k7
      obtain ⟨g, r, rfl, rfl, h1, h2, h3⟩ := hrel
      have hgs : g * s ≤ 18446744065119617025 := limb_prod (by omega) d0
      obtain ⟨gs, hgs1⟩ : ∃ x, g * s = x := ⟨_, rfl⟩
      rw [hgs1] at hgs
      have hgsi : (g : Int) * (s : Int) = (gs : Int) := by rw [← hgs1, Int.natCast_mul]
      have hgsw : IntKind.u64.wrap (gs : Int) = (gs : Int) := IntWalk.u64_in _ (by omega)
      by_cases hr1 : r ≤ 4294967295
      · have hr1i : (r : Int) ≤ 4294967295 := by omega
        have hj2 := join_int r p0 (by omega) b0
        obtain ⟨rp, hrp⟩ : ∃ x, r * 4294967296 + p0 = x := ⟨_, rfl⟩
        rw [hrp] at hj2
        by_cases hc : rp < gs
        · have hci : (rp : Int) < (gs : Int) := by omega
          have hg0 : 0 < g := by
            rcases Nat.eq_zero_or_pos g with h | h
            · rw [h, Nat.zero_mul] at hgs1; omega
            · exact h
          have hg1 : (1 : Int) ≤ (g : Int) := by omega
          have hdown := HT.out.down (g := g) (r := r) h2 (by rw [HQ.out.2.2.2.2.1]; exact h1) (by rw [hgs1]; unfold B32; omega)
          rw [HQ.out.2.2.2.2.1] at hdown
          have hnew : (g - 1) * f + (r + f) = t := by rw [Nat.sub_mul, Nat.one_mul]; have : 1 * f ≤ g * f := Nat.mul_le_mul_right f hg0; omega
          have hgi : (g : Int) ≤ 4294967295 := by omega
          have HX := Lib.hid (And.intro hdown (And.intro hnew h3))
          clear h1 h2 h3 hgs hgs1 hrp hr1 hc hdown hnew
          go_wp2
          go_round
          case rel => exact ⟨g - 1, r + f, by go_num, by go_num, HX.out.1, HX.out.2.1, by have := HX.out.2.2; omega⟩
          case measure => simp [intOf]; omega
        · have hci : ¬ (rp : Int) < (gs : Int) := by omega
          have hlast := HT.out.last B32_pos (g := g) (r := r) h2 (by rw [HQ.out.2.2.2.2.1]; exact h1) (by unfold B32; omega) (by rw [hgs1]; unfold B32; omega)
          rw [HQ.out.2.2.2.2.1] at hlast
          have HX := Lib.hid (And.intro hlast h3)
          clear h1 h2 h3 hgs hgs1 hrp hr1 hc hlast
          go_wp2
          go_ret
          exact ⟨.mk _ _, g, rfl, HX.out.2, HX.out.1⟩
      · have hr1i : ¬ (r : Int) ≤ 4294967295 := by omega
        have hlast := HT.out.last B32_pos (g := g) (r := r) h2 (by rw [HQ.out.2.2.2.2.1]; exact h1) (by unfold B32; omega) (by rw [hgs1]; unfold B32; omega)
        rw [HQ.out.2.2.2.2.1] at hlast
        have HX := Lib.hid (And.intro hlast h3)
        clear h1 h2 h3 hgs hgs1 hr1 hlast
        go_wp2
        go_ret
        exact ⟨.mk _ _, g, rfl, HX.out.2, HX.out.1⟩
  · have hgQ : g = 4294967295 := by omega
    subst hgQ
    have hmul : (4294967295 : Int) * (f : Int) = (m : Int) := by rw [← hm, Int.natCast_mul]; rfl
    have hmi : ¬ (Q : Int) ≤ 4294967295 := by omega
    clear hg hm hr hq1 hgf hgl hQq hqB hQt hQf hq htB hQ htl hDp hmin
    go_enter Try.func133, Try.ntmps133
    go_wp2
    go_quiet (fail)
    go_wp2
    go_quiet (fail)
    go_wp2
    go_loop [9, 10] (fun gv rv => ∃ g r : Nat, gv = .int .u64 g ∧ rv = .int .u64 r ∧ q ≤ g ∧ g * f + r = t ∧ g ≤ 4294967295) (fun gv _ => (intOf gv).toNat)
    case atStart => exact ⟨4294967295, r, rfl, rfl, HG.out.1, HG.out.2.1, HG.out.2.2⟩
    case round =>
      clear hmul hmi hwm hwr hwQ hQi k1 k3 k5 k7
      obtain ⟨g, r, rfl, rfl, h1, h2, h3⟩ := hrel
      have hgs : g * s ≤ 18446744065119617025 := limb_prod (by omega) d0
      obtain ⟨gs, hgs1⟩ : ∃ x, g * s = x := ⟨_, rfl⟩
      rw [hgs1] at hgs
      have hgsi : (g : Int) * (s : Int) = (gs : Int) := by rw [← hgs1, Int.natCast_mul]
      have hgsw : IntKind.u64.wrap (gs : Int) = (gs : Int) := IntWalk.u64_in _ (by omega)
      by_cases hr1 : r ≤ 4294967295
      · have hr1i : (r : Int) ≤ 4294967295 := by omega
        have hj2 := join_int r p0 (by omega) b0
        obtain ⟨rp, hrp⟩ : ∃ x, r * 4294967296 + p0 = x := ⟨_, rfl⟩
        rw [hrp] at hj2
        by_cases hc : rp < gs
        · have hci : (rp : Int) < (gs : Int) := by omega
          have hg0 : 0 < g := by
            rcases Nat.eq_zero_or_pos g with h | h
            · rw [h, Nat.zero_mul] at hgs1; omega
            · exact h
          have hg1 : (1 : Int) ≤ (g : Int) := by omega
          have hdown := HT.out.down (g := g) (r := r) h2 (by rw [HQ.out.2.2.2.2.1]; exact h1) (by rw [hgs1]; unfold B32; omega)
          rw [HQ.out.2.2.2.2.1] at hdown
          have hnew : (g - 1) * f + (r + f) = t := by rw [Nat.sub_mul, Nat.one_mul]; have : 1 * f ≤ g * f := Nat.mul_le_mul_right f hg0; omega
          have hgi : (g : Int) ≤ 4294967295 := by omega
          have HX := Lib.hid (And.intro hdown (And.intro hnew h3))
          clear h1 h2 h3 hgs hgs1 hrp hr1 hc hdown hnew
          go_wp2
          go_round
          case rel => exact ⟨g - 1, r + f, by go_num, by go_num, HX.out.1, HX.out.2.1, by have := HX.out.2.2; omega⟩
          case measure => simp [intOf]; omega
        · have hci : ¬ (rp : Int) < (gs : Int) := by omega
          have hlast := HT.out.last B32_pos (g := g) (r := r) h2 (by rw [HQ.out.2.2.2.2.1]; exact h1) (by unfold B32; omega) (by rw [hgs1]; unfold B32; omega)
          rw [HQ.out.2.2.2.2.1] at hlast
          have HX := Lib.hid (And.intro hlast h3)
          clear h1 h2 h3 hgs hgs1 hrp hr1 hc hlast
          go_wp2
          go_ret
          exact ⟨.mk _ _, g, rfl, HX.out.2, HX.out.1⟩
      · have hr1i : ¬ (r : Int) ≤ 4294967295 := by omega
        have hlast := HT.out.last B32_pos (g := g) (r := r) h2 (by rw [HQ.out.2.2.2.2.1]; exact h1) (by unfold B32; omega) (by rw [hgs1]; unfold B32; omega)
        rw [HQ.out.2.2.2.2.1] at hlast
        have HX := Lib.hid (And.intro hlast h3)
        clear h1 h2 h3 hgs hgs1 hr1 hlast
        go_wp2
        go_ret
        exact ⟨.mk _ _, g, rfl, HX.out.2, HX.out.1⟩

/-- A row within block g, from off on, has become zs; nothing else has changed. -/
def IsRow (w w' : World) (g off : Nat) (cur : Array Value) (n : Nat) (P : List Nat → Prop) : Prop :=
  ∃ zs, zs.length = n ∧ Lm.Ok B32 zs ∧ P zs ∧ SegTo w' g off .u32 99 cur zs ∧ w.grownBy w' (some g)

set_option maxRecDepth 100000 in
set_option maxHeartbeats 2000000 in
theorem takeAway_any (g off cap : Nat) (cur : Array Value) (ps : List Nat) (A : Option Addr) (c : Nat) (ds : List Nat) (dg : Nat) (w : World) (hp : Seg w g off .u32 99 cur ps) (hd : Nums w .u32 A ds) (ho : 0 < ds.length → Off A g)
    (op : Lm.Ok B32 ps) (od : Lm.Ok B32 ds) (hl : ps.length = ds.length + 1) (hl2 : ds.length ≤ 900000) (hg : dg ≤ 4294967295) :
    Calls Try.prog 134 #[.slice (some ⟨g, off, none⟩) ps.length cap, .slice A ds.length c, .int .u64 (dg : Int)] w fun e w' =>
      ∃ b : Nat, e = .returned (.bool ((b : Int) == 1)) ∧ b ≤ 1 ∧ IsRow w w' g off cur ps.length (fun zs => Lm.val B32 zs + dg * Lm.val B32 ds = Lm.val B32 ps + B32 ^ (ds.length + 1) * b) := by
  have hgB : dg < B32 := by unfold B32; omega
  have HG := Lib.hid hgB
  have HL := Lib.hid hl
  have hlt0 : ds.length < ps.length := by omega
  clear hgB hl
  go_enter Try.func134, Try.ntmps134
  go_wp2
  go_loopw [7, 8, 14] (fun cv bv iv wr => ∃ (i cy bo : Nat) (zs : List Nat), iv = .int .i64 i ∧ cv = .int .u64 cy ∧ bv = .int .u32 bo ∧ i ≤ ds.length ∧ Take ps ds zs dg i cy bo ∧ SegTo wr g off .u32 99 cur zs ∧ w.grownBy wr (some g)) (fun _ _ iv _ => ds.length - (intOf iv).toNat)
  case atStart => exact ⟨0, 0, 0, ps, rfl, rfl, rfl, Nat.zero_le _, take_start op, .refl hp, World.grownBy.refl _ _⟩
  case round =>
    obtain ⟨i, cy, bo, zs, rfl, rfl, rfl, hi, htk, hseg, hgr⟩ := hrel
    have hbo := htk.borrow
    have hcy := htk.carry
    obtain ⟨cur', hs1, hs2, hs3⟩ := id hseg
    by_cases hlt : i < ds.length
    · have hdr := hd.grown hgr ho
      obtain ⟨ad, rfl, _, hcell⟩ := hdr.at_ hlt
      have hcx := hcell i hlt
      have hxl := limb_lt od i
      have hcz := hs1.cell (j := i) (by rw [htk.len]; omega)
      have hfz := hs1.frozen (off + i)
      have hpl := limb_lt htk.ok i
      obtain ⟨x, hx⟩ : ∃ x, ds.getD i 0 = x := ⟨_, rfl⟩
      obtain ⟨p, hpv⟩ : ∃ x, zs.getD i 0 = x := ⟨_, rfl⟩
      rw [hx] at hcx hxl
      rw [hpv] at hcz hpl
      have hprod := limb_prod (x := dg) (f := x) (by omega) hxl
      obtain ⟨m, hm⟩ : ∃ m, dg * x = m := ⟨_, rfl⟩
      rw [hm] at hprod
      have hmi : (dg : Int) * (x : Int) = (m : Int) := by rw [← hm, Int.natCast_mul]
      have hsum := take_carry hcy HG.out hxl
      rw [hm] at hsum
      obtain ⟨t, ht⟩ : ∃ t, cy + m = t := ⟨_, rfl⟩
      rw [ht] at hsum
      have hmw : IntKind.u64.wrap (m : Int) = (m : Int) := IntWalk.u64_in _ (by omega)
      have hti : (cy : Int) + (m : Int) = (t : Int) := by omega
      have htw : IntKind.u64.wrap (t : Int) = (t : Int) := IntWalk.u64_in _ (by omega)
      have hlo : (t : Int) % 4294967296 = ((t % B32 : Nat) : Int) := limb_mod t _ rfl
      have hhi : (t : Int) / 4294967296 = ((t / B32 : Nat) : Int) := limb_div t _ rfl
      have hlol : t % B32 < 4294967296 := Nat.mod_lt _ B32_pos
      obtain ⟨lo, hlov⟩ : ∃ l, t % B32 = l := ⟨_, rfl⟩
      obtain ⟨hh, hhv⟩ : ∃ l, t / B32 = l := ⟨_, rfl⟩
      rw [hlov] at hlo hlol
      rw [hhv] at hhi
      have hhl : (hh : Int) ≤ 4294967295 := by rw [← hhv]; unfold B32; omega
      have HD := Lib.hid (And.intro hx (And.intro hpv (And.intro hm (And.intro ht (And.intro hlov hhv)))))
      clear hx hpv hm ht hlov hhv hs1 hs2 hs3 hcell hprod hsum
      go_wp2_with fail
      refine (sub32_any p lo bo _ hpl hlol hbo).mono ?_
      rintro e w' ⟨rfl, r, b', rfl, hr, hb', he⟩
      have HE := Lib.hid he
      clear he
      go_wp2
      go_roundw
      case rel =>
        have hst := take_step htk hlt (by omega) HD.out.1 hxl HG.out HD.out.2.1 (t := t) (r := r) (b' := b') (by rw [← HD.out.2.2.2.1, HD.out.2.2.1]) (by rw [HD.out.2.2.2.2.1]; exact HE.out) hr hb'
        rw [HD.out.2.2.2.2.2] at hst
        exact ⟨i + 1, hh, b', _, by go_num, rfl, rfl, by omega, hst, hseg.set_ (by rw [htk.len]; omega) r, grown_trans hgr (grown_store _ _ _ _)⟩
      case measure => simp [intOf]; omega
    · have hie : i = ds.length := by omega
      subst hie
      have hcz := hs1.cell (j := ds.length) (by rw [htk.len]; omega)
      have hfz := hs1.frozen (off + ds.length)
      have hpl := limb_lt htk.ok ds.length
      obtain ⟨p, hpv⟩ : ∃ x, zs.getD ds.length 0 = x := ⟨_, rfl⟩
      rw [hpv] at hcz hpl
      have hcy' : cy < 4294967296 := hcy
      have hlo : (cy : Int) % 4294967296 = (cy : Int) := by omega
      have hbound : (ds.length : Int) < (ps.length : Int) := by omega
      have HD := Lib.hid (And.intro hpv (And.intro htk (And.intro hseg hgr)))
      clear hpv hs1 hs2 hs3 htk hseg hgr
      go_wp2_with fail
      refine (sub32_any p cy bo _ hpl hcy' hbo).mono ?_
      rintro e w' ⟨rfl, r, b', rfl, hr, hb', he⟩
      have HE := Lib.hid he
      clear he
      go_wp2
      go_ret
      have hlen := HD.out.2.1.len
      exact ⟨b', rfl, hb', _, by rw [List.length_set]; exact hlen, HD.out.2.1.ok.set _ _ hr, take_end HD.out.2.1 HL.out HD.out.1 HE.out, HD.out.2.2.1.set_ (by rw [hlen]; omega) r, grown_trans HD.out.2.2.2 (grown_store _ _ _ _)⟩

/-- A limb of a sum, and the carry. -/
def IsAdd (w w' : World) (x y b : Nat) (e : Ending) : Prop := w = w' ∧ ∃ d q : Nat, e = .returned (.tuple #[.int .u32 d, .int .u32 q]) ∧ d < 4294967296 ∧ q ≤ 1 ∧ d + 4294967296 * q = x + y + b
set_option maxHeartbeats 1000000 in
theorem add32_any (x y b : Nat) (w : World) (hx : x < 4294967296) (hy : y < 4294967296) (hb : b ≤ 1) :
    Calls Try.prog 138 #[.int .u32 x, .int .u32 y, .int .u32 b] w fun e w' => IsAdd w w' x y b e := by
  go_enter Try.func138, Try.ntmps138
  go_wp2
  go_ret2
  refine ⟨rfl, (x + y + b) % 4294967296, (x + y + b) / 4294967296, ?_, by omega, by omega, by omega⟩
  have e1 : ((x : Int) + (y : Int) + (b : Int)) % 4294967296 = (((x + y + b) % 4294967296 : Nat) : Int) := by omega
  have e2 : ((x : Int) + (y : Int) + (b : Int)) / 4294967296 = (((x + y + b) / 4294967296 : Nat) : Int) := by omega
  rw [← e1, ← e2]
  rfl
theorem inc_add {zs0 ys zs : List Nat} {i q d y r q' : Nat} (h : Inc zs0 ys zs i q) (hi : i < zs0.length) (hd : zs.getD i 0 = d) (hy : Lm.val B32 (ys.take (i + 1)) = Lm.val B32 (ys.take i) + B32 ^ i * y)
    (he : r + 4294967296 * q' = d + y + q) (hr : r < 4294967296) (hdl : d < 4294967296) (hyl : y < 4294967296) : Inc zs0 ys (zs.set i r) (i + 1) q' := by
  have h1 := inc_step h hi hd hdl hyl hy (t := q + d + y) rfl
  have hc := h.carry
  have e1 : (q + d + y) % B32 = r := by unfold B32; omega
  have e2 : (q + d + y) / B32 = q' := by unfold B32; omega
  rw [e1, e2] at h1
  exact h1

set_option maxRecDepth 100000 in
set_option maxHeartbeats 2000000 in
theorem giveBack_any (g off cap : Nat) (cur : Array Value) (ps : List Nat) (A : Option Addr) (c : Nat) (ds : List Nat) (w : World) (hp : Seg w g off .u32 99 cur ps) (hd : Nums w .u32 A ds) (ho : 0 < ds.length → Off A g)
    (op : Lm.Ok B32 ps) (od : Lm.Ok B32 ds) (hl : ps.length = ds.length + 1) (hl2 : ds.length ≤ 900000) :
    Calls Try.prog 135 #[.slice (some ⟨g, off, none⟩) ps.length cap, .slice A ds.length c] w fun e w' =>
      e = .returned (.tuple #[]) ∧ IsRow w w' g off cur ps.length (fun zs => Lm.val B32 zs = (Lm.val B32 ps + Lm.val B32 ds) % B32 ^ (ds.length + 1)) := by
  have HL := Lib.hid hl
  have hlt0 : ds.length < ps.length := by omega
  clear hl
  go_enter Try.func135, Try.ntmps135
  go_wp2
  go_loopw [4, 9] (fun cv iv wr => ∃ (i cy : Nat) (zs : List Nat), iv = .int .i64 i ∧ cv = .int .u32 cy ∧ i ≤ ds.length ∧ Inc ps ds zs i cy ∧ SegTo wr g off .u32 99 cur zs ∧ w.grownBy wr (some g)) (fun _ iv _ => ds.length - (intOf iv).toNat)
  case atStart => exact ⟨0, 0, ps, rfl, rfl, Nat.zero_le _, ⟨rfl, op, fun _ _ => rfl, by simp [Lm.val], by omega⟩, .refl hp, World.grownBy.refl _ _⟩
  case round =>
    obtain ⟨i, cy, zs, rfl, rfl, hi, hinc, hseg, hgr⟩ := hrel
    have hcy := hinc.carry
    obtain ⟨cur', hs1, hs2, hs3⟩ := id hseg
    by_cases hlt : i < ds.length
    · have hdr := hd.grown hgr ho
      obtain ⟨ad, rfl, _, hcell⟩ := hdr.at_ hlt
      have hcx := hcell i hlt
      have hxl := limb_lt od i
      have hcz := hs1.cell (j := i) (by rw [hinc.len]; omega)
      have hfz := hs1.frozen (off + i)
      have hpl := limb_lt hinc.ok i
      obtain ⟨x, hx⟩ : ∃ x, ds.getD i 0 = x := ⟨_, rfl⟩
      obtain ⟨p, hpv⟩ : ∃ x, zs.getD i 0 = x := ⟨_, rfl⟩
      rw [hx] at hcx hxl
      rw [hpv] at hcz hpl
      have HD := Lib.hid (And.intro hx hpv)
      clear hx hpv hs1 hs2 hs3 hcell
      go_wp2_with fail
      refine (add32_any p x cy _ hpl hxl hcy).mono ?_
      rintro e w' ⟨rfl, r, q', rfl, hr, hq', he⟩
      have HE := Lib.hid he
      clear he
      go_wp2
      go_roundw
      case rel =>
        exact ⟨i + 1, q', _, by go_num, rfl, by omega, inc_add hinc (by omega) HD.out.2 (by rw [Lm.val_take_succ _ _ _ hlt, HD.out.1]) HE.out hr hpl hxl, hseg.set_ (by rw [hinc.len]; omega) r, grown_trans hgr (grown_store _ _ _ _)⟩
      case measure => simp [intOf]; omega
    · have hie : i = ds.length := by omega
      subst hie
      have hcz := hs1.cell (j := ds.length) (by rw [hinc.len]; omega)
      have hfz := hs1.frozen (off + ds.length)
      have hpl := limb_lt hinc.ok ds.length
      obtain ⟨p, hpv⟩ : ∃ x, zs.getD ds.length 0 = x := ⟨_, rfl⟩
      rw [hpv] at hcz hpl
      have hbound : (ds.length : Int) < (ps.length : Int) := by omega
      have HD := Lib.hid (And.intro hpv (And.intro hinc (And.intro hseg hgr)))
      clear hpv hs1 hs2 hs3 hinc hseg hgr
      have HE := Lib.hid (limb_mod (p + cy) ((p : Int) + (cy : Int)) (by omega))
      go_wp2
      go_end0
      have hlen := HD.out.2.1.len
      have HL' := HL.out
      refine ⟨rfl, zs.set ds.length ((p + cy) % B32), by rw [List.length_set]; exact hlen, HD.out.2.1.ok.set _ _ (Nat.mod_lt _ B32_pos), give_end HD.out.2.1 HL.out HD.out.1 rfl, ?_, grown_trans HD.out.2.2.2 (grown_store _ _ _ _)⟩
      rw [HE.out]
      exact HD.out.2.2.1.set_ (by rw [hlen]; omega) _

theorem SegTo.then_ {w w' : World} {g off : Nat} {k : IntKind} {e : TypeId} {cur : Array Value} {xs zs : List Nat} (h : SegTo w g off k e cur xs) (h2 : ∀ cur', Seg w g off k e cur' xs → SegTo w' g off k e cur' zs) (hl : zs.length = xs.length) : SegTo w' g off k e cur zs := by
  obtain ⟨c1, s1, z1, o1⟩ := h
  obtain ⟨c2, s2, z2, o2⟩ := h2 c1 s1
  exact ⟨c2, s2, z2.trans z1, fun j hj => (o2 j hj).trans (o1 j (by rw [← hl]; exact hj))⟩
theorem Seg.drewN {w : World} {g off : Nat} {k : IntKind} {e : TypeId} {cur : Array Value} {xs : List Nat} (h : Seg w g off k e cur xs) (n : Nat) : Seg (w.drewN n) g off k e cur xs := ⟨h.blk, h.fit, h.at_⟩

set_option maxRecDepth 100000 in
set_option maxHeartbeats 2000000 in
theorem takeDigit_any (g off cap : Nat) (cur : Array Value) (ps : List Nat) (A : Option Addr) (c : Nat) (ds : List Nat) (n : Nat) (w : World) (hp : Seg w g off .u32 99 cur ps) (hd : Nums w .u32 A ds) (ho : 0 < ds.length → Off A g)
    (op : Lm.Ok B32 ps) (od : Lm.Ok B32 ds) (ln : ds.length = n + 2) (lp : ps.length = n + 3) (hn : n ≤ 800000) (hf : 0 < ds.getD (n + 1) 0) (hv : Lm.val B32 ps < B32 * Lm.val B32 ds) :
    Calls Try.prog 121 #[.slice (some ⟨g, off, none⟩) ps.length cap, .slice A ds.length c] w fun e w' =>
      e = .returned (.int .u32 ((Lm.val B32 ps / Lm.val B32 ds : Nat) : Int)) ∧ IsRow w w' g off cur ps.length (fun zs => Lm.val B32 zs = Lm.val B32 ps % Lm.val B32 ds) := by
  have hgs := guess_any (some ⟨g, off, none⟩) cap ps A c ds n w hp.nums hd op od ln lp (by omega) hf hv
  have ht := tops_of op od ln lp hf hv
  have hD : 0 < Lm.val B32 ds := Nat.lt_of_lt_of_le (Nat.mul_pos ht.ppos B32_pos) (ht.dpos B32_pos)
  have hqB := ht.qB B32_pos
  have hDM : Lm.val B32 ds ≤ B32 ^ (ds.length + 1) := Nat.le_trans (Nat.le_of_lt (Lm.val_lt od)) (Nat.pow_le_pow_right B32_pos (by omega))
  have HG := Lib.hid (And.intro hgs (And.intro hD (And.intro hDM (And.intro hqB (And.intro ln lp)))))
  have hlt0 : ds.length < ps.length := by omega
  have hl9 : ds.length ≤ 900000 := by omega
  have hl1 : ps.length = ds.length + 1 := by omega
  have HL := Lib.hid hl1
  clear hgs ht hD hDM hqB ln lp hl1
  obtain ⟨V, hV⟩ : ∃ x, Lm.val B32 ps = x := ⟨_, rfl⟩
  obtain ⟨D, hDv⟩ : ∃ x, Lm.val B32 ds = x := ⟨_, rfl⟩
  rw [hV, hDv] at HG ⊢
  have HVD := Lib.hid (And.intro hV hDv)
  clear hV hDv hv
  go_enter Try.func121, Try.ntmps121
  go_wp2_with fail
  refine HG.out.1.mono ?_
  rintro e w1 ⟨⟨m, rfl⟩, gd, rfl, hg1, hgq⟩
  have hp1 := hp.drewN m
  have hd1 := hd.drewN m
  by_cases h0 : gd = 0
  · subst h0
    have hq0 : V / D = 0 := by generalize V / D = x at hgq ⊢; omega
    have HQ := Lib.hid hq0
    clear hq0 hgq
    go_wp2
    go_ret
    refine ⟨by rw [HQ.out]; rfl, ps, rfl, op, ?_, .refl hp1, grown_drewN (World.grownBy.refl _ _) m⟩
    have := Nat.div_add_mod V D
    rw [HQ.out, Nat.mul_zero, Nat.zero_add] at this
    show Lm.val B32 ps = V % D
    rw [HVD.out.1]
    exact this.symm
  · have hne : ((gd : Int) == 0) = false := by rw [beq_eq_false_iff_ne]; omega
    have HQ := Lib.hid hgq
    clear hgq h0
    go_wp2_with fail
    refine (takeAway_any g off cap cur ps A c ds gd (w.drewN m) hp1 hd1 ho op od HL.out hl9 hg1).mono ?_
    rintro e w2 ⟨b, rfl, hb, zs, hzl, hzo, hzv, hzs, hgr2⟩
    rw [HVD.out.1, HVD.out.2] at hzv
    rcases (show b = 0 ∨ b = 1 by omega) with rfl | rfl
    · have hfin := digit_right HQ.out (by rw [Nat.mul_zero, Nat.add_zero] at hzv; exact hzv) HG.out.2.1
      have hcast : (gd : Int) % 4294967296 = (gd : Int) := by omega
      have HX := Lib.hid (And.intro hfin (And.intro hzo (And.intro hzs hgr2)))
      clear hfin hzv hzo hzs hgr2
      go_wp2
      go_ret
      exact ⟨by rw [← HX.out.1.1]; rfl, zs, hzl, HX.out.2.1, HX.out.1.2, HX.out.2.2.1, grown_trans (grown_drewN (World.grownBy.refl _ _) m) HX.out.2.2.2⟩
    · have hzlt := Lm.val_lt hzo
      rw [hzl, HL.out] at hzlt
      have hfin := digit_less HQ.out (by rw [Nat.mul_one] at hzv; exact hzv) hzlt HG.out.2.1 HG.out.2.2.1
      obtain ⟨q, hq⟩ : ∃ q, V / D = q := ⟨_, rfl⟩
      rw [hq] at hfin
      have hgd := hfin.1
      subst hgd
      have hcast : ((q + 1 : Nat) : Int) - 1 = (q : Int) := by omega
      have hq32 : (q : Int) % 4294967296 = (q : Int) := by omega
      have hd2 := hd1.grown hgr2 ho
      obtain ⟨cur2, s2, z2, o2⟩ := id hzs
      have hgb := giveBack_any g off cap cur2 zs A c ds w2 s2 hd2 ho hzo od (by rw [hzl]; exact HL.out) hl9
      rw [hzl] at hgb
      have HX := Lib.hid (And.intro hfin (And.intro hzs (And.intro hgr2 (And.intro hgb (And.intro hzl hq)))))
      have HO := Lib.hid (And.intro z2 o2)
      clear hfin hzv hzo hzs hgr2 hgb hzlt s2 z2 o2 hd2 hq hzl
      go_wp2_with fail
      refine HX.out.2.2.2.1.mono ?_
      rintro e w3 ⟨rfl, ys, hyl, hyo, hyv, hys, hgr3⟩
      go_wp2
      go_ret
      obtain ⟨c3, s3, z3, o3⟩ := hys
      refine ⟨by rw [HX.out.2.2.2.2.2]; rfl, ys, hyl, hyo, ?_, ⟨c3, s3, z3.trans HO.out.1, fun j hj => (o3 j hj).trans (HO.out.2 j (by rw [HX.out.2.2.2.2.1]; rw [hyl] at hj; exact hj))⟩, grown_trans (grown_trans (grown_drewN (World.grownBy.refl _ _) m) HX.out.2.2.1) hgr3⟩
      show Lm.val B32 ys = V % D
      rw [hyv, HVD.out.2]
      exact HX.out.1.2

set_option maxHeartbeats 1000000 in
theorem lz32_any (d : Nat) (w : World) (h : d < B32) : Calls Try.prog 120 #[.int .u32 (d : Int)] w fun e w' => e = .returned (.int .i64 ((32 - bl d : Nat) : Int)) ∧ w = w' := by
  have hb : bl d ≤ 32 := bl_le.mpr h
  have b0 : (0 : Int) ≤ (bl d : Int) := Int.natCast_nonneg _
  have b1 : (bl d : Int) ≤ 32 := by omega
  have HL := Lib.hid (len32_any d w h)
  go_enter Try.func120, Try.ntmps120
  go_wp2_with fail
  refine HL.out.mono ?_
  rintro e w' ⟨rfl, rfl⟩
  go_wp2
  go_ret
  refine ⟨?_, rfl⟩
  have e : (32 : Int) - (bl d : Int) = ((32 - bl d : Nat) : Int) := by omega
  rw [← e]
  rfl

/-- The quotient's digits from i on, and what is left. -/
structure DivAt (X D : Nat) (qs rs : List Nat) (m L i : Nat) : Prop where
  lq : qs.length = m
  oq : Lm.Ok B32 qs
  lr : rs.length = L
  or_ : Lm.Ok B32 rs
  num : Lm.val B32 rs + D * (B32 ^ i * Lm.val B32 (qs.drop i)) = X
  small : Lm.val B32 (rs.drop i) < D
/-- The part of the rest from which a digit is taken. -/
def partOf (rs : List Nat) (j k : Nat) : List Nat := (rs.drop j).take k
def putPart (rs : List Nat) (j : Nat) (zs : List Nat) : List Nat := rs.take j ++ zs ++ rs.drop (j + zs.length)
theorem part_len {rs : List Nat} {j k : Nat} (h : j + k ≤ rs.length) : (partOf rs j k).length = k := by unfold partOf; rw [List.length_take, List.length_drop]; omega
theorem part_zero {X D : Nat} {qs rs : List Nat} {m L j n : Nat} (h : DivAt X D qs rs m L (j + 1)) (hD : D ≤ B32 ^ n) (hj : j + 1 + n ≤ L) : Lm.val B32 (rs.drop (j + 1 + n)) = 0 := by
  have h1 := Lm.val_split B32 (rs.drop (j + 1)) n (by rw [List.length_drop, h.lr]; omega)
  rw [List.drop_drop] at h1
  have h2 := h.small
  rcases Nat.eq_zero_or_pos (Lm.val B32 (rs.drop (j + 1 + n))) with e | e
  · exact e
  · have : B32 ^ n * 1 ≤ B32 ^ n * Lm.val B32 (rs.drop (j + 1 + n)) := Nat.mul_le_mul_left _ e
    omega
theorem part_val {X D : Nat} {qs rs : List Nat} {m L j n : Nat} (h : DivAt X D qs rs m L (j + 1)) (hD : D ≤ B32 ^ n) (hj : j + 1 + n ≤ L) : Lm.val B32 (partOf rs j (n + 1)) = Lm.val B32 (rs.drop j) := by
  have h1 := Lm.val_split B32 (rs.drop j) (n + 1) (by rw [List.length_drop, h.lr]; omega)
  rw [List.drop_drop, show j + (n + 1) = j + 1 + n by omega, part_zero h hD hj] at h1
  unfold partOf
  omega
theorem part_lt {X D : Nat} {qs rs : List Nat} {m L j n : Nat} (h : DivAt X D qs rs m L (j + 1)) (hD : D ≤ B32 ^ n) (hj : j + 1 + n ≤ L) : Lm.val B32 (partOf rs j (n + 1)) < B32 * D := by
  rw [part_val h hD hj, Lm.val_drop_pred B32 rs j (by rw [h.lr]; omega)]
  have h1 := limb_lt h.or_ j
  have h2 : B32 * (Lm.val B32 (rs.drop (j + 1)) + 1) ≤ B32 * D := Nat.mul_le_mul_left _ h.small
  rw [Nat.mul_add] at h2
  unfold B32 at *
  omega
theorem div_step {X D : Nat} {qs rs zs : List Nat} {m L j n V : Nat} (h : DivAt X D qs rs m L (j + 1)) (hD : D ≤ B32 ^ n) (hD0 : 0 < D) (hj : j + 1 + n ≤ L) (hjm : j < m) (hV : Lm.val B32 (partOf rs j (n + 1)) = V)
    (hl : zs.length = n + 1) (ho : Lm.Ok B32 zs) (hz : Lm.val B32 zs = V % D) (hq : V / D < B32) : DivAt X D (qs.set j (V / D)) (putPart rs j zs) m L j := by
  have hlr := h.lr
  have hlq := h.lq
  have e0 := part_zero h hD hj
  have htl : (rs.take j).length = j := by rw [List.length_take]; omega
  have e1 : Lm.val B32 (putPart rs j zs) = Lm.val B32 (rs.take j) + B32 ^ j * (V % D) := by
    unfold putPart
    rw [Lm.val_append, Lm.val_append, htl, hz, hl, show j + (n + 1) = j + 1 + n by omega, e0, Nat.mul_zero, Nat.add_zero]
  have e2 : Lm.val B32 rs = Lm.val B32 (rs.take j) + B32 ^ j * V := by
    rw [Lm.val_split B32 rs j (by omega), ← part_val h hD hj, hV]
  have e3 : Lm.val B32 ((qs.set j (V / D)).drop j) = V / D + B32 * Lm.val B32 (qs.drop (j + 1)) := by
    rw [Lm.val_drop_pred B32 _ j (by rw [List.length_set]; omega), getD_set_eq _ _ _ (by omega), List.drop_set, if_pos (by omega)]
  refine ⟨by rw [List.length_set]; exact hlq, h.oq.set _ _ hq, ?_, ?_, ?_, ?_⟩
  · unfold putPart
    rw [List.length_append, List.length_append, htl, List.length_drop, hl]
    omega
  · unfold putPart
    exact ((h.or_.take j).append ho).append (h.or_.drop _)
  · have hn := h.num
    have hdm := Nat.div_add_mod V D
    rw [e1, e3]
    rw [e2, Nat.pow_succ, Nat.mul_assoc] at hn
    rw [← hn, Nat.mul_add (B32 ^ j), Nat.mul_add D]
    have e4 : B32 ^ j * V = B32 ^ j * (V % D) + D * (B32 ^ j * (V / D)) := by
      rw [Nat.mul_left_comm D, ← Nat.mul_add, Nat.add_comm, hdm]
    rw [e4]
    omega
  · have e5 : (putPart rs j zs).drop j = zs ++ rs.drop (j + zs.length) := by
      unfold putPart
      rw [List.append_assoc, List.drop_append, htl, Nat.sub_self, List.drop_zero, List.drop_of_length_le (by omega), List.nil_append]
    rw [e5, Lm.val_append, hl, show j + (n + 1) = j + 1 + n by omega, e0, Nat.mul_zero, Nat.add_zero, hz]
    exact Nat.mod_lt _ hD0
theorem div_end {X D : Nat} {qs rs : List Nat} {m L : Nat} (h : DivAt X D qs rs m L 0) : Lm.val B32 qs = X / D ∧ Lm.val B32 rs = X % D := by
  have hn := h.num
  have hs := h.small
  rw [List.drop_zero] at hn hs
  rw [Nat.pow_zero, Nat.one_mul] at hn
  have hD : 0 < D := Nat.lt_of_le_of_lt (Nat.zero_le _) hs
  rw [← hn]
  constructor
  · rw [Nat.add_mul_div_left _ _ hD, Nat.div_eq_of_lt hs, Nat.zero_add]
  · rw [Nat.add_mul_mod_self_left, Nat.mod_eq_of_lt hs]
theorem Seg.part {w : World} {g : Nat} {e : TypeId} {cur : Array Value} {rs : List Nat} (h : Seg w g 0 .u32 e cur rs) (j k : Nat) (hj : j + k ≤ rs.length) : Seg w g j .u32 e cur (partOf rs j k) := by
  have hl := part_len hj
  refine ⟨h.blk, by rw [hl]; have := h.fit; omega, fun i hi => ?_⟩
  rw [hl] at hi
  have := h.at_ (j + i) (by omega)
  rw [Nat.zero_add] at this
  rw [this]
  unfold partOf
  rw [List.getD_eq_getElem?_getD, List.getD_eq_getElem?_getD, List.getElem?_take, if_pos hi, List.getElem?_drop]
theorem put_at (rs zs : List Nat) (j i : Nat) (hj : j + zs.length ≤ rs.length) : (putPart rs j zs).getD i 0 = if i < j then rs.getD i 0 else if i < j + zs.length then zs.getD (i - j) 0 else rs.getD i 0 := by
  have htl : (rs.take j).length = j := by rw [List.length_take]; omega
  unfold putPart
  rw [List.getD_eq_getElem?_getD, List.append_assoc, List.getElem?_append, htl]
  by_cases h1 : i < j
  · rw [if_pos h1, if_pos h1, List.getElem?_take, if_pos h1, List.getD_eq_getElem?_getD]
  · rw [if_neg h1, if_neg h1, List.getElem?_append]
    by_cases h2 : i < j + zs.length
    · rw [if_pos (by omega), if_pos h2, List.getD_eq_getElem?_getD]
    · rw [if_neg (by omega), if_neg h2, List.getElem?_drop, show j + zs.length + (i - j - zs.length) = i by omega, List.getD_eq_getElem?_getD]
theorem SegTo.join {w w' : World} {g : Nat} {e : TypeId} {cur : Array Value} {rs zs : List Nat} {j : Nat} (h : Seg w g 0 .u32 e cur rs) (hj : j + zs.length ≤ rs.length) (t : SegTo w' g j .u32 e cur zs) : ∃ cur', Seg w' g 0 .u32 e cur' (putPart rs j zs) := by
  obtain ⟨cur', s1, z1, o1⟩ := t
  have hl : (putPart rs j zs).length = rs.length := by
    unfold putPart
    rw [List.length_append, List.length_append, List.length_take, List.length_drop]
    omega
  refine ⟨cur', s1.blk, by rw [hl, z1]; exact h.fit, fun i hi => ?_⟩
  rw [hl] at hi
  rw [put_at rs zs j i hj, Nat.zero_add]
  by_cases h1 : i < j
  · rw [if_pos h1, o1 i (Or.inl h1)]
    have := h.at_ i hi
    rwa [Nat.zero_add] at this
  · rw [if_neg h1]
    by_cases h2 : i < j + zs.length
    · rw [if_pos h2]
      have := s1.at_ (i - j) (by omega)
      rwa [show j + (i - j) = i by omega] at this
    · rw [if_neg h2, o1 i (Or.inr (by omega))]
      have := h.at_ i hi
      rwa [Nat.zero_add] at this

/-- The divisor and the rest, moved until the divisor's top bit is set. -/
structure Moved (x y s D X n m L : Nat) (ds rs : List Nat) : Prop where
  sl : s ≤ 31
  hD : D = y * 2 ^ s
  hX : X = x * 2 ^ s
  dl : ds.length = n + 2
  dv : Lm.val B32 ds = D
  dt : 0 < ds.getD (n + 1) 0
  dB : D ≤ B32 ^ (n + 2)
  d0 : 0 < D
  start : DivAt X D (List.replicate m 0) rs m L m
theorem shift_of {ys : List Nat} {n y : Nat} (ho : Lm.Ok B32 ys) (ht : Lm.Top ys) (hl : ys.length = n + 2) (hv : Lm.val B32 ys = y) : y * 2 ^ (32 - bl (ys.getD (n + 1) 0)) < B32 ^ (n + 2) ∧ B32 ^ (n + 1) ≤ y ∧ 32 - bl (ys.getD (n + 1) 0) ≤ 31 := by
  have h1 := bl_val (xs := ys) (by omega) ho ht
  have h2 := Lm.val_ge (b := B32) (xs := ys) (by omega) ht
  have h3 := Lm.last_of_top (xs := ys) (by omega) ht
  rw [hl, show n + 2 - 1 = n + 1 by omega] at h1 h2 h3
  rw [hv] at h1 h2
  have h4 := bl_pos h3
  have h5 : bl (ys.getD (n + 1) 0) ≤ 32 := bl_le.mpr (limb_lt ho _)
  refine ⟨?_, h2, by omega⟩
  have h6 := lt_bl y
  have h7 : y * 2 ^ (32 - bl (ys.getD (n + 1) 0)) < 2 ^ bl y * 2 ^ (32 - bl (ys.getD (n + 1) 0)) := Nat.mul_lt_mul_of_pos_right h6 (Nat.two_pow_pos _)
  rw [← Nat.pow_add, h1, show 32 * (n + 1) + bl (ys.getD (n + 1) 0) + (32 - bl (ys.getD (n + 1) 0)) = 32 * (n + 2) by omega, ← B32_pow] at h7
  exact h7
theorem moved_of {x y s n xl : Nat} {ds ts : List Nat} (hs : s ≤ 31) (hy : y * 2 ^ s < B32 ^ (n + 2)) (hy2 : B32 ^ (n + 1) ≤ y) (hx : x < B32 ^ xl) (hxy : n + 2 ≤ xl)
    (od : Lm.Ok B32 ds) (td : Lm.Top ds) (vd : Lm.val B32 ds = y * 2 ^ s) (ot : Lm.Ok B32 ts) (tt : Lm.Top ts) (vt : Lm.val B32 ts = x * 2 ^ s) :
    ts.length ≤ xl + 1 ∧ Moved x y s (y * 2 ^ s) (x * 2 ^ s) n (xl - (n + 2) + 1) (xl + 1) ds (ts ++ List.replicate (xl + 1 - ts.length) 0) := by
  have hp := Nat.two_pow_pos s
  have hyD : y ≤ y * 2 ^ s := Nat.le_mul_of_pos_right y hp
  have hy0 : 0 < y := Nat.lt_of_lt_of_le (Nat.pow_pos B32_pos) hy2
  have hX1 : x * 2 ^ s < B32 ^ (xl + 1) := by
    rw [Nat.pow_succ]
    have h1 : 2 ^ s ≤ B32 := by
      have : 2 ^ s ≤ 2 ^ 31 := Nat.pow_le_pow_right (by decide) hs
      unfold B32
      omega
    exact Nat.lt_of_lt_of_le (Nat.mul_lt_mul_of_pos_right hx hp) (Nat.mul_le_mul_left _ h1)
  have htl : ts.length ≤ xl + 1 := by
    rcases Nat.lt_or_ge (xl + 1) ts.length with h | h
    · have h1 := Lm.val_ge (b := B32) (by omega) tt
      have h2 : B32 ^ (xl + 1) ≤ B32 ^ (ts.length - 1) := Nat.pow_le_pow_right B32_pos (by omega)
      omega
    · exact h
  have hdl : ds.length = n + 2 := by
    apply Nat.le_antisymm
    · rcases Nat.lt_or_ge (n + 2) ds.length with h | h
      · have h1 := Lm.val_ge (b := B32) (by omega) td
        have h2 : B32 ^ (n + 2) ≤ B32 ^ (ds.length - 1) := Nat.pow_le_pow_right B32_pos (by omega)
        omega
      · exact h
    · rcases Nat.lt_or_ge ds.length (n + 2) with h | h
      · have h1 := Lm.val_lt od
        have h2 : B32 ^ ds.length ≤ B32 ^ (n + 1) := Nat.pow_le_pow_right B32_pos (by omega)
        omega
      · exact h
  have hv0 : Lm.val B32 (ts ++ List.replicate (xl + 1 - ts.length) 0) = x * 2 ^ s := by rw [Lm.val_append, Lm.val_zeros, Nat.mul_zero, Nat.add_zero, vt]
  have hrl : (ts ++ List.replicate (xl + 1 - ts.length) 0).length = xl + 1 := by rw [List.length_append, List.length_replicate]; omega
  refine ⟨htl, hs, rfl, rfl, hdl, vd, ?_, Nat.le_of_lt hy, by omega, ⟨by simp, Lm.Ok.zeros B32_pos _, hrl, ot.append (Lm.Ok.zeros B32_pos _), ?_, ?_⟩⟩
  · have := Lm.last_of_top (xs := ds) (by omega) td
    rw [hdl, show n + 2 - 1 = n + 1 by omega] at this
    exact Nat.pos_of_ne_zero this
  · rw [hv0, List.drop_of_length_le (by simp), Lm.val_nil, Nat.mul_zero, Nat.mul_zero, Nat.add_zero]
  · have h1 := Lm.val_split B32 (ts ++ List.replicate (xl + 1 - ts.length) 0) (xl - (n + 2) + 1) (by rw [hrl]; omega)
    rw [hv0] at h1
    have h2 : x < y * B32 ^ (xl - (n + 2) + 1) := by
      have e : B32 ^ xl = B32 ^ (n + 1) * B32 ^ (xl - (n + 2) + 1) := by rw [← Nat.pow_add]; congr 1; omega
      rw [e] at hx
      exact Nat.lt_of_lt_of_le hx (Nat.mul_le_mul_right _ hy2)
    have h3 : x * 2 ^ s < y * 2 ^ s * B32 ^ (xl - (n + 2) + 1) := by
      have := Nat.mul_lt_mul_of_pos_right h2 hp
      rw [Nat.mul_right_comm y] 
      exact this
    rw [Nat.mul_comm (y * 2 ^ s)] at h3
    exact Nat.lt_of_mul_lt_mul_left (a := B32 ^ (xl - (n + 2) + 1)) (by omega)

set_option maxRecDepth 100000 in
set_option maxHeartbeats 4000000 in
theorem divide_many (A : Option Addr) (c : Nat) (xs : List Nat) (A' : Option Addr) (c' : Nat) (ys : List Nat) (x y n : Nat) (w : World) (hx : Limbs w A c xs x) (hy : Limbs w A' c' ys y) (hl : xs.length ≤ 300000) (hn : ys.length = n + 2) (hxy : y ≤ x) :
    Calls Try.prog 82 #[.slice A xs.length c, .slice A' ys.length c'] w fun e w' => IsDivs w w' x y e := by
  have hc := compare_ge A c xs A' c' ys w hx.2.1 hy.2.1 hx.2.2.1 hy.2.2.1 hx.2.2.2.1 hy.2.2.2.1 (by omega) (by rw [hx.2.2.2.2, hy.2.2.2.2]; exact hxy)
  have hll : ys.length ≤ xs.length := Lm.len_of_val B32_one hx.2.2.1 hy.2.2.2.1 (by rw [hx.2.2.2.2, hy.2.2.2.2]; exact hxy)
  have hsh := shift_of hy.2.2.1 hy.2.2.2.1 hn hy.2.2.2.2
  obtain ⟨ad, rfl, hadb, hcell⟩ := hy.2.1 (by omega)
  have hcy := hcell (n + 1) (by omega)
  have htl := limb_lt hy.2.2.1 (n + 1)
  obtain ⟨top, htop⟩ : ∃ t, ys.getD (n + 1) 0 = t := ⟨_, rfl⟩
  rw [htop] at hcy htl hsh
  obtain ⟨s, hs⟩ : ∃ s, 32 - bl top = s := ⟨_, rfl⟩
  rw [hs] at hsh
  have hz := lz32_any top
  rw [hs] at hz
  obtain ⟨N, hN⟩ : ∃ N, ys.length = N := ⟨_, rfl⟩
  obtain ⟨xl, hxl⟩ : ∃ N, xs.length = N := ⟨_, rfl⟩
  have hxlt := Lm.val_lt hx.2.2.1
  rw [hx.2.2.2.2, hxl] at hxlt
  obtain ⟨i0, hi0, hz0, hz1, hz2⟩ := info_parts Try.info99
  have HI := Lib.hid (And.intro hi0 (And.intro hz0 (And.intro hz1 hz2)))
  have HM := Lib.hid (show (i0.bytes * (xl + 1) ≤ 281474976710656 ∧ xl + 1 ≤ maxLen) ∧ (i0.bytes * (xl - N + 1) ≤ 281474976710656 ∧ xl - N + 1 ≤ maxLen) from ⟨⟨by rw [hz2]; omega, by unfold maxLen; omega⟩, by rw [hz2]; omega, by unfold maxLen; omega⟩)
  have HS := Lib.hid (show (Try.prog.info? 99).map (·.size) = some 1 from by kernel_rfl)
  clear hi0 hz0 hz1 hz2
  have H := Lib.hid (And.intro hc (And.intro hx (And.intro hy (And.intro hsh (And.intro hxlt (And.intro hn (And.intro hN (And.intro hxl hxy))))))))
  have HZ := Lib.hid hz
  rw [hN, hxl]
  rw [hN] at hn hll
  rw [hxl] at hll hl
  have i1 : ((N : Int) - 1).toNat = N - 1 := by omega
  have i0' : (0 : Int) ≤ (N : Int) - 1 := by omega
  rw [show n + 1 = N - 1 by omega] at hcy
  have i2 : (1 : Int) ≤ (N : Int) := by omega
  have i3 : ((N : Int) == 1) = false := by rw [beq_eq_false_iff_ne]; omega
  have i4 : (N : Int) ≤ (xl : Int) := by omega
  have i5 : (xl : Int) ≤ 300000 := by omega
  have hs31 : s ≤ 31 := hsh.2.2
  have hmI : (xl : Int) - (N : Int) + 1 = ((xl - N + 1 : Nat) : Int) := by omega
  have HmI := Lib.hid hmI
  clear hc hx hy hsh hxlt hn hN hxl hxy hz hs htop hcell hll hmI
  go_enter Try.func82, Try.ntmps82
  go_wp2_with fail
  refine (show Calls Try.prog 84 #[.slice A xl c, .slice (some ad) N c'] w _ from by have h := H.out.1; rw [H.out.2.2.2.2.2.2.1, H.out.2.2.2.2.2.2.2.1] at h; exact h).mono ?_
  rintro e w' ⟨⟨dn, rfl⟩, k, hk, rfl⟩
  go_wp2_with fail
  refine (HZ.out _ htl).mono ?_
  rintro e w' ⟨rfl, rfl⟩
  have hx1 : Limbs (w.drewN dn) A c xs x := H.out.2.1
  have hy1 : Limbs (w.drewN dn) (some ad) c' ys y := H.out.2.2.1
  have hlf := left_any (some ad) c' y ys s (w.drewN dn) hy1 (by rw [H.out.2.2.2.2.2.2.1]; omega) (by omega)
  rw [H.out.2.2.2.2.2.2.1] at hlf
  have HLF := Lib.hid hlf
  clear hlf hy1
  go_wp2_with fail
  refine HLF.out.mono ?_
  rintro e w1 ⟨Ad, cd, ds, rfl, hds, hb1⟩
  have hx2 := hx1.step hb1 rfl
  clear hx1
  go_wp2_with (at_make; go_loud (refine wpList_make_full _ rfl _ _ 22 rfl w1.heap.size 99 i0 (.int .u32 0) 1 Try.underlying22 HI.out.1 HI.out.2.1 HI.out.2.2.1 _ _ _ _ (xl + 1) rfl rfl (by omega) (by omega) HM.out.1.1 HM.out.1.2 (Nat.le_refl _) ?_); intro w2 hown1 hg1; rw [made_zero] at hown1; have HB := Lib.hid (own_block hown1); have hb2 : Below w1.heap.size w1 w2 := (Below.refl _ _).grown hg1 (Nat.le_refl _) (fun k hk => by cases hk); clear hown1 hg1)
  have hx3 := hx2.below hb2
  have hlf := left_any A c x xs s w2 hx3 (by rw [H.out.2.2.2.2.2.2.2.1]; exact Nat.le_trans hl (by decide)) (by omega)
  rw [H.out.2.2.2.2.2.2.2.1] at hlf
  have HLX := Lib.hid hlf
  clear hlf hx2 hx3
  refine HLX.out.mono ?_
  rintro e w3 ⟨At, ct, ts, rfl, hts, hb3⟩
  have hgl : w1.heap.size < w2.heap.size := (Array.getElem?_eq_some_iff.1 HB.out).1
  have HB2 := Lib.hid ((hb3.block w1.heap.size hgl).trans HB.out)
  have hmv := moved_of (x := x) (y := y) (xl := xl) hs31 H.out.2.2.2.1.1 H.out.2.2.2.1.2.1 H.out.2.2.2.2.1 (by have a := H.out.2.2.2.2.2.1; have b := H.out.2.2.2.2.2.2.1; omega) hds.2.2.1 hds.2.2.2.1 hds.2.2.2.2 hts.2.2.1 hts.2.2.2.1 hts.2.2.2.2
  have hmin : Nat.min ts.length (xl + 1) = ts.length := Nat.min_eq_left hmv.1
  have HN := Lib.hid (show (cellsOf .u32 ts).length = Nat.min ts.length (xl + 1) ∧ 0 + (cellsOf .u32 ts).length ≤ (cellsOf .u32 (List.replicate (xl + 1) 0)).length from ⟨by rw [cellsOf_length, hmin], by simp [cellsOf_length]; exact hmv.1⟩)
  have hsrc := hts.2.1
  have HMV := Lib.hid hmv
  have HDS := Lib.hid (And.intro hds (And.intro hb1 (And.intro hb2 hb3)))
  clear hmv hmin HB hts hds hb1
  go_wp2_with (first | (with_reducible refine wpList_copy_splice (o := ⟨some 51, _, _, _, _, _⟩) rfl (.tmp 47) (.tmp 50) 22 22 rfl 99 Try.underlying22 HS.out _ At _ _ ts.length ct rfl rfl w1.heap.size 0 _ 99 HB2.out (cellsOf .u32 ts) HN.out.1 (copy_src hsrc) HN.out.2 (cellsOf_one _ _) w1.heap.size w3 (Below.refl _ _) (by omega) ?_; intro w4 HB3 hb4) | (at_make; go_loud (rw [HmI.out]; refine wpList_make_full _ rfl _ _ 22 rfl w4.heap.size 99 i0 (.int .u32 0) 1 Try.underlying22 HI.out.1 HI.out.2.1 HI.out.2.2.1 _ _ _ _ (xl - N + 1) rfl rfl (by omega) (by omega) HM.out.2.1 HM.out.2.2 (Nat.le_refl _) ?_); intro w5 hown1 hg1; rw [made_zero] at hown1; have HB4 := Lib.hid (own_block hown1); have hb5 : Below w4.heap.size w4 w5 := (Below.refl _ _).grown hg1 (Nat.le_refl _) (fun k hk => by cases hk); clear hown1 hg1))
  have hseg1 : Seg w5 w1.heap.size 0 .u32 99 _ (ts ++ List.replicate (xl + 1 - ts.length) 0) := (seg_of_block (by rw [← copy_over]; exact HB3.out)).keep (hb5.block w1.heap.size (Array.getElem?_eq_some_iff.1 HB3.out).1)
  have hseg2 : Seg w5 w4.heap.size 0 .u32 99 _ (List.replicate (xl - N + 1) 0) := seg_of_block HB4.out
  have hg12 : w1.heap.size < w4.heap.size := (Array.getElem?_eq_some_iff.1 HB3.out).1
  have hmv := HMV.out.2
  have hnN : n + 2 = N := by have a := H.out.2.2.2.2.2.1; have b := H.out.2.2.2.2.2.2.1; omega
  rw [hnN] at hmv
  have hb15 : Below w1.heap.size w1 w5 := ((HDS.out.2.2.1.trans (HDS.out.2.2.2.mono HDS.out.2.2.1.size)).trans hb4).trans (hb5.mono (Nat.le_of_lt hg12))
  have hdn := HDS.out.1.2.1.below hb15
  have hb01 := HDS.out.2.1
  have hbw : Below w.heap.size w w5 := below_then (w := w) ⟨hb01.os, hb01.tape, hb01.output, hb01.size, hb01.block⟩ hb15
  have HX := Lib.hid (And.intro hmv (And.intro hnN HDS.out.1))
  clear HB2 HB3 HB4 HI HM HS HN hsrc hb5 hb4 HmI hb15 hb01 hb2 hb3
  go_loopw [11] (fun iv wr => ∃ (i : Nat) (qs rs : List Nat) (cq cr : Array Value), iv = .int .i64 ((i : Int) - 1) ∧ i ≤ xl - N + 1 ∧ DivAt (x * 2 ^ s) (y * 2 ^ s) qs rs (xl - N + 1) (xl + 1) i ∧ Seg wr w1.heap.size 0 .u32 99 cr rs ∧ Seg wr w4.heap.size 0 .u32 99 cq qs ∧ Nums wr .u32 Ad ds ∧ Below w.heap.size w wr) (fun iv _ => (intOf iv + 1).toNat)
  case atStart => exact ⟨xl - N + 1, _, _, _, _, by go_num, Nat.le_refl _, HX.out.1.start, hseg1, hseg2, hdn, hbw⟩
  case round =>
    clear hseg1 hseg2 hdn hbw hmv
    obtain ⟨i, qs, rs, cq, cr, rfl, hi, hat, hs1, hs2, hdn, hbw⟩ := hrel
    by_cases h0 : 0 < i
    · obtain ⟨j, rfl⟩ : ∃ j, i = j + 1 := ⟨i - 1, by omega⟩
      rw [show (((j + 1 : Nat) : Int) - 1) = (j : Int) from by omega]
      have hjm : (j : Int) ≤ (xl : Int) - (N : Int) := by omega
      have hdsl : ds.length ≤ xl := by rw [HX.out.1.dl]; have := HX.out.2.1; omega
      have hoff : 0 < ds.length → Off Ad w1.heap.size := fun hn => off_below HX.out.2.2.2.1 hn (Nat.le_refl _)
      have hoff2 : 0 < ds.length → Off Ad w4.heap.size := fun hn => off_below HX.out.2.2.2.1 hn (Nat.le_of_lt hg12)
      have hnN := HX.out.2.1
      have hlr := hat.lr
      have hjL : j + 1 + (n + 2) ≤ xl + 1 := by omega
      have hpt := hs1.part j (n + 3) (by omega)
      have hpv := part_lt hat HX.out.1.dB hjL
      have hst := fun zs => div_step (zs := zs) hat HX.out.1.dB HX.out.1.d0 hjL (by omega) rfl
      have hpo : Lm.Ok B32 (partOf rs j (n + 2 + 1)) := (hat.or_.drop j).take _
      have hpl := part_len (rs := rs) (j := j) (k := n + 3) (by omega)
      obtain ⟨ps, hps⟩ : ∃ ps, partOf rs j (n + 3) = ps := ⟨_, rfl⟩
      rw [show n + 2 + 1 = n + 3 from rfl, hps] at hpv hpo
      rw [hps] at hpt hpl
      have htk := takeDigit_any w1.heap.size j (xl + 1 - j) cr ps Ad cd ds n wr hpt hdn hoff hpo HX.out.2.2.2.2.1 HX.out.1.dl hpl (by omega) HX.out.1.dt (by rw [HX.out.1.dv]; exact hpv)
      rw [show ps.length = j + N + 1 - j by omega, HX.out.1.dv] at htk
      obtain ⟨V, hV⟩ : ∃ V, Lm.val B32 ps = V := ⟨_, rfl⟩
      rw [hV] at htk
      have hqB : V / (y * 2 ^ s) < B32 := by rw [Nat.div_lt_iff_lt_mul HX.out.1.d0, ← hV]; exact hpv
      obtain ⟨q, hq⟩ : ∃ q, V / (y * 2 ^ s) = q := ⟨_, rfl⟩
      rw [hq] at htk hqB
      have hcq := hs2.at_ j (by rw [hat.lq]; omega)
      obtain ⟨dq, hdq⟩ : ∃ d, qs.getD j 0 = d := ⟨_, rfl⟩
      rw [hdq, Nat.zero_add] at hcq
      have HT := Lib.hid (And.intro htk (And.intro hoff (And.intro hoff2 (And.intro hst (And.intro hps (And.intro hV (And.intro hq (And.intro hpl (And.intro hqB hcq)))))))))
      have HA := Lib.hid (And.intro hat (And.intro hs1 (And.intro hs2 (And.intro hdn hbw))))
      clear htk hoff hoff2 hst hps hV hq hpl hqB hcq hdq hpt hpv hpo hlr hjL hat hs1 hs2 hdn hbw hnN
      go_wp2_with fail
      refine HT.out.1.mono ?_
      rintro e w' ⟨rfl, zs, hzl, hzo, hzv, hzs, hgr⟩
      have hs2' := HA.out.2.2.1.grown hgr (fun e => by injection e; omega)
      have hcz : w'.cell? ⟨w4.heap.size, j, none⟩ = some (.int .u32 (dq : Int)) := by
        rw [cell_of_row w' w4.heap.size j cq _ (0, 0) hs2'.blk]
        exact HT.out.2.2.2.2.2.2.2.2.2
      have hfz := hs2'.frozen j
      have hql : (q : Int) ≤ 4294967295 := by have := HT.out.2.2.2.2.2.2.2.2.1; unfold B32 at this; omega
      have HZ2 := Lib.hid (And.intro hzl (And.intro hzo (And.intro hzv (And.intro hzs (And.intro hgr hs2')))))
      clear hzl hzo hzv hzs hgr hs2'
      have hjm2 : j < xl - N + 1 := by omega
      go_wp2
      go_roundw
      case rel =>
        have hzl : zs.length = n + 3 := by have := HZ2.out.1; have := HX.out.2.1; omega
        have hlr := HA.out.1.lr
        have hnN := HX.out.2.1
        obtain ⟨cr', hs1'⟩ := SegTo.join HA.out.2.1 (zs := zs) (by omega) HZ2.out.2.2.2.1
        have hzv : Lm.val B32 zs = V % (y * 2 ^ s) := HZ2.out.2.2.1
        have hfin := HT.out.2.2.2.1 zs hzl HZ2.out.2.1 (by rw [show n + 2 + 1 = n + 3 from rfl, HT.out.2.2.2.2.1, HT.out.2.2.2.2.2.1]; exact hzv) (by rw [show n + 2 + 1 = n + 3 from rfl, HT.out.2.2.2.2.1, HT.out.2.2.2.2.2.1, HT.out.2.2.2.2.2.2.1]; exact HT.out.2.2.2.2.2.2.2.2.1)
        rw [show n + 2 + 1 = n + 3 from rfl, HT.out.2.2.2.2.1, HT.out.2.2.2.2.2.1, HT.out.2.2.2.2.2.2.1] at hfin
        have hset := HZ2.out.2.2.2.2.2.set_ j q
        rw [Nat.zero_add] at hset
        have hgr2 := grown_store w' w4.heap.size j (.int .u32 (q : Int))
        have hgw := HZ2.out.2.2.2.2.1
        refine ⟨j, qs.set j q, putPart rs j zs, _, cr', rfl, by omega, hfin, hs1'.grown hgr2 (fun e => by injection e; omega), hset, (HA.out.2.2.2.1.grown hgw HT.out.2.1).grown hgr2 HT.out.2.2.1, ?_⟩
        have hbw := HA.out.2.2.2.2
        have hww1 : w.heap.size ≤ w1.heap.size := HDS.out.2.1.size
        have hw1r := hs1'.lt
        have h1r := HA.out.2.1.lt
        exact (hbw.trans (grown_below hgw hww1 hbw.size)).trans (grown_below hgr2 (by omega) (Nat.le_trans hbw.size hgw.size))
      case measure => simp [intOf]
    · obtain rfl : i = 0 := by omega
      rw [show ((0 : Nat) : Int) - 1 = -1 by omega]
      have hend := div_end hat
      have htq := trim_any (some ⟨w4.heap.size, 0, none⟩) (xl - N + 1) qs wr hs2.nums (by rw [hat.lq]; omega) (by rw [hat.lq]; exact Nat.le_refl _)
      have htr := trim_any (some ⟨w1.heap.size, 0, none⟩) (xl + 1) rs wr hs1.nums (by rw [hat.lr]; omega) (by rw [hat.lr]; exact Nat.le_refl _)
      rw [hat.lq] at htq
      rw [hat.lr] at htr
      have HT := Lib.hid (And.intro htq (And.intro htr (And.intro hend (And.intro hat (And.intro hs1.nums hs2.nums)))))
      have HA := Lib.hid hbw
      clear htq htr hend hat hs1 hs2 hbw hdn
      go_wp2_with fail
      refine HT.out.1.mono ?_
      rintro e w' ⟨rfl, kq, rfl, hkq, hzq, hpq⟩
      have HKQ := Lib.hid (And.intro hkq (And.intro hzq hpq))
      clear hkq hzq hpq
      go_wp2_with fail
      refine HT.out.2.1.mono ?_
      rintro e w' ⟨rfl, kr, rfl, hkr, hzr, hpr⟩
      have hlimr := limbs_take HT.out.2.2.2.2.1 HT.out.2.2.2.1.or_ (c := xl + 1) (by rw [HT.out.2.2.2.1.lr]; exact Nat.le_refl _) hkr hzr hpr
      have hlimq := limbs_take HT.out.2.2.2.2.2 HT.out.2.2.2.1.oq (c := xl - N + 1) (by rw [HT.out.2.2.2.1.lq]; exact Nat.le_refl _) HKQ.out.1 HKQ.out.2.1 HKQ.out.2.2
      have hlenr : (rs.take kr).length = kr := by rw [List.length_take]; omega
      have hlenq : (qs.take kq).length = kq := by rw [List.length_take]; have := HKQ.out.1; omega
      have hkrl : kr ≤ xl + 1 := by rw [← HT.out.2.2.2.1.lr]; exact hkr
      have hrt := right_any _ _ _ (rs.take kr) s wr hlimr (by rw [hlenr]; omega) (by omega)
      rw [hlenr] at hrt
      have HRT := Lib.hid (And.intro hrt (And.intro hlimq hlenq))
      clear hrt hlimq hlenq hlimr hlenr hkr hzr hpr hkrl
      go_wp2_with fail
      refine HRT.out.1.mono ?_
      rintro e w6 ⟨A6, c6, zs6, rfl, hl6, hb6⟩
      go_wp2
      go_ret2
      have hp := Nat.two_pow_pos s
      rw [HT.out.2.2.1.2, Nat.mul_mod_mul_right, Nat.mul_div_cancel _ hp] at hl6
      have hq6 := HRT.out.2.1.below hb6
      rw [HT.out.2.2.1.1, Nat.mul_div_mul_right _ _ hp] at hq6
      exact ⟨_, _, qs.take kq, _, _, zs6, by rw [HRT.out.2.2]; rfl, hq6, hl6, below_then HA.out hb6⟩

set_option maxRecDepth 100000 in
set_option maxHeartbeats 1000000 in
theorem divide_less (A : Option Addr) (c : Nat) (xs : List Nat) (A' : Option Addr) (c' : Nat) (ys : List Nat) (a d : Nat) (w : World) (hx : Limbs w A c xs a) (hy : Limbs w A' c' ys d) (hl : xs.length ≤ 900000) (h : a < d) :
    Calls Try.prog 82 #[.slice A xs.length c, .slice A' ys.length c'] w fun e w' => IsDivs w w' a d e := by
  have hc := compare_lt A c xs A' c' ys w hx.2.1 hy.2.1 hx.2.2.1 hy.2.2.1 hx.2.2.2.1 hy.2.2.2.1 (by omega) (by rw [hx.2.2.2.2, hy.2.2.2.2]; exact h)
  have HC := Lib.hid hc
  have hx' := hx.2.1
  clear hc
  go_enter Try.func82, Try.ntmps82
  go_wp2_with fail
  refine HC.out.mono ?_
  rintro e w' ⟨⟨n, rfl⟩, rfl⟩
  go_wp2_with fail
  refine (clone_any A c xs (w.drewN n) (by exact hx') (by omega)).mono ?_
  intro e w1 hcl
  obtain ⟨A1, c1, rfl, hl1, hb1⟩ := limbs_cloned (w := w.drewN n) (by exact ⟨hx.1, hx', hx.2.2⟩) hcl
  go_wp2
  go_ret2
  exact ⟨none, 0, [], A1, c1, xs, rfl, ⟨by simp, Nums.nil _ _ _, .nil _, Lm.Top.nil, by rw [Nat.div_eq_of_lt h]; rfl⟩, by rw [Nat.mod_eq_of_lt h]; exact hl1, ⟨hb1.os, hb1.tape, hb1.output, hb1.size, hb1.block⟩⟩
theorem divide_all (A : Option Addr) (c : Nat) (xs : List Nat) (A' : Option Addr) (c' : Nat) (ys : List Nat) (x y : Nat) (w : World) (hx : Limbs w A c xs x) (hy : Limbs w A' c' ys y) (hl : xs.length ≤ 300000) (h0 : 0 < y) :
    Calls Try.prog 82 #[.slice A xs.length c, .slice A' ys.length c'] w fun e w' => IsDivs w w' x y e := by
  rcases Nat.lt_or_ge x y with h | h
  · exact divide_less A c xs A' c' ys x y w hx hy (by omega) h
  · match ys, hy with
    | [], hy => have := hy.2.2.2.2; rw [Lm.val_nil] at this; omega
    | [d], hy =>
      have hd : d = y := by have := hy.2.2.2.2; simpa [Lm.val] using this
      subst hd
      exact divide_one A c xs A' c' d x w hx hy (by omega) h0
    | d :: e :: zs, hy => exact divide_many A c xs A' c' (d :: e :: zs) x y zs.length w hx hy hl rfl h

set_option maxRecDepth 100000 in
set_option maxHeartbeats 1000000 in
theorem divide_stt (A1 : Option Addr) (c1 : Nat) (zs1 : List Nat) (A2 : Option Addr) (c2 : Nat) (zs2 : List Nat) (x y : Int) (w : World) (hs1 : SignOf true x) (hs2 : SignOf true y)
    (h1 : Limbs w A1 c1 zs1 x.natAbs) (h2 : Limbs w A2 c2 zs2 y.natAbs) (hl1 : zs1.length ≤ 300000) (hl2 : zs2.length ≤ 300000) (hy0 : y ≠ 0) :
    Calls Try.prog 30 #[.agg #[.bool true, .slice A1 zs1.length c1], .agg #[.bool true, .slice A2 zs2.length c2]] w fun e w' => IsQuoRem w w' x y e := by
  have hd0 : 0 < y.natAbs := by omega
  have hbb := (begun2_below w (.bool true) (.slice A1 zs1.length c1) (.bool true) (.slice A2 zs2.length c2) 28).alloc (begun2_below w (.bool true) (.slice A1 zs1.length c1) (.bool true) (.slice A2 zs2.length c2) 28).size (.cells #[.bool false, .slice none 0 0] 28)
  have hsz0 := begun2_size w (.bool true) (.slice A1 zs1.length c1) (.bool true) (.slice A2 zs2.length c2) 28
  have hx0 := (begun2_x w (.bool true) (.slice A1 zs1.length c1) (.bool true) (.slice A2 zs2.length c2) 28).alloc (by omega) (.cells #[.bool false, .slice none 0 0] 28)
  have hy0 := (begun2_y w (.bool true) (.slice A1 zs1.length c1) (.bool true) (.slice A2 zs2.length c2) 28).alloc (by omega) (.cells #[.bool false, .slice none 0 0] 28)
  have hr0 := (begun2_r w (.bool true) (.slice A1 zs1.length c1) (.bool true) (.slice A2 zs2.length c2) 28).step ((Below.refl _ _).alloc (Nat.le_refl _) (.cells #[.bool false, .slice none 0 0] 28)) rfl (by omega)
  have hq0 := Res.new (begun2 w (.bool true) (.slice A1 zs1.length c1) (.bool true) (.slice A2 zs2.length c2) 28) 28
  rw [hsz0] at hq0
  have hsz : (begun4 w (.bool true) (.slice A1 zs1.length c1) (.bool true) (.slice A2 zs2.length c2) 28).heap.size = w.heap.size + 4 := by unfold begun4; rw [size_alloc, hsz0]
  have hi2 : IntAt (begun4 w (.bool true) (.slice A1 zs1.length c1) (.bool true) (.slice A2 zs2.length c2) 28) (.agg #[.bool true, .slice A2 zs2.length c2]) y := ⟨true, A2, c2, zs2, rfl, hs2, h2.below hbb⟩
  have hl2' := h2.below hbb
  have hl1' := h1.below hbb
  have hyb : y.natAbs < B32 ^ zs2.length := by rw [← h2.2.2.2.2]; exact Lm.val_lt h2.2.2.1
  have hsg := Sign_any _ y zs2.length _ hi2 (by omega) hyb
  have hyn : (y.sign == 0) = false := by rw [beq_eq_false_iff_ne]; intro h; have := Int.sign_eq_zero_iff_zero.1 h; omega
  have H := Lib.hid (And.intro hbb (And.intro hx0 (And.intro hy0 (And.intro hr0 (And.intro hq0 (And.intro hsz (And.intro hsg (And.intro hl1' (And.intro hl2' hd0)))))))))
  have tok1 : True := trivial
  clear hbb hsz0 hx0 hy0 hr0 hq0 hsz hi2 hl2' hl1' hyb hsg hd0
  go_enter Try.func30, Try.ntmps30
  go_wp2_with fail
  refine H.out.2.2.2.2.2.2.1.mono ?_
  rintro e w1 ⟨rfl, hb1⟩
  have j1 : w.heap.size + 4 ≤ w1.heap.size := Nat.le_trans (Nat.le_of_eq H.out.2.2.2.2.2.1.symm) hb1.size
  have k1x := H.out.2.1.step hb1 rfl (Nat.lt_of_lt_of_eq (m := w.heap.size + 4) (by omega) H.out.2.2.2.2.2.1.symm)
  have k1y := H.out.2.2.1.step hb1 rfl (Nat.lt_of_lt_of_eq (m := w.heap.size + 4) (by omega) H.out.2.2.2.2.2.1.symm)
  have k1r := H.out.2.2.2.1.step hb1 rfl (Nat.lt_of_lt_of_eq (m := w.heap.size + 4) (by omega) H.out.2.2.2.2.2.1.symm)
  have k1q := H.out.2.2.2.2.1.step hb1 rfl (Nat.lt_of_lt_of_eq (m := w.heap.size + 4) (by omega) H.out.2.2.2.2.2.1.symm)
  obtain ⟨px0, px1⟩ := id k1x
  obtain ⟨py0, py1⟩ := id k1y
  have hdv := divide_all A1 c1 zs1 A2 c2 zs2 x.natAbs y.natAbs w1 (H.out.2.2.2.2.2.2.2.1.step hb1 rfl) (H.out.2.2.2.2.2.2.2.2.1.step hb1 rfl) hl1 H.out.2.2.2.2.2.2.2.2.2
  have HD := Lib.hid hdv
  clear hdv
  go_wp2_with fail
  refine HD.out.mono ?_
  rintro e w2 ⟨Aq, cq, zq, Ar, cr, zr, rfl, hq, hr, hb2⟩
  have j2 : w.heap.size + 4 ≤ w2.heap.size := Nat.le_trans j1 hb2.size
  have k2x := k1x.step hb2 rfl (by omega)
  have k2y := k1y.step hb2 rfl (by omega)
  have k2r := k1r.step hb2 rfl (by omega)
  have k2q := k1q.step hb2 rfl (by omega)
  have hlq : zq.length ≤ 1000000 := by have := small_len (m := 300000) hq zs1 h1.2.2.1 (by rw [h1.2.2.2.2]; exact Nat.div_le_self _ _) hl1; omega
  have hlr : zr.length ≤ 1000000 := by have := small_len (m := 300000) hr zs1 h1.2.2.1 (by rw [h1.2.2.2.2]; exact Nat.mod_le _ _) hl1; omega
  clear px0 px1 py0 py1
  obtain ⟨px0, px1⟩ := id k2x
  obtain ⟨py0, py1⟩ := id k2y
  go_wp2_with fail
  go_region_held3 (fun w' => w'.cell? ⟨w.heap.size, 0, none⟩ = some (.bool true) ∧ w'.cell? ⟨w.heap.size + 1, 0, none⟩ = some (.bool true))
    (((try dsimp only); (repeat' apply And.intro) <;> (first | (with_reducible assumption) | go_keep)))
    ((first | (go_at_call 70; have _t := tok1; refine (signed_to false Aq cq zq (x.tdiv y) _ (by exact hq.2.1) hq.2.2.1 hlq hq.1 (by rw [hq.2.2.2.2]; exact div_parts hs1 hs2 rfl)).mono ?_; rintro e w3 ⟨v3, rfl, ⟨b3, A3, c3, zs3, rfl, hsg3, hl3⟩, hb3⟩; clear tok1; have j3 : w.heap.size + 4 ≤ w3.heap.size := Nat.le_trans j2 hb3.size; have k3x := k2x.step hb3 rfl (by omega); have k3y := k2y.step hb3 rfl (by omega); have k3r := k2r.step hb3 rfl (by omega); have k3q := k2q.step hb3 rfl (by omega); have hr3 := hr.step hb3 rfl; obtain ⟨qx0, qx1⟩ := id k3x; obtain ⟨qy0, qy1⟩ := id k3y) | (go_at_call 70; refine (signed_to true Ar cr zr (x.tmod y) _ (by exact hr3.2.1) hr3.2.2.1 hlr hr3.1 (by rw [hr3.2.2.2.2]; exact mod_parts hs1)).mono ?_; rintro e w4 ⟨v4, rfl, ⟨b4, A4, c4, zs4, rfl, hsg4, hl4⟩, hb4⟩; have k4x := k3x.step hb4 rfl (by omega); have k4y := k3y.step hb4 rfl (by omega); have k4r := k3r.step hb4 rfl (by omega); have k4q := k3q.step hb4 rfl (by omega); have hl3' := hl3.step hb4 rfl; obtain ⟨sx0, sx1⟩ := id k4x; obtain ⟨sy0, sy1⟩ := id k4y; obtain ⟨⟨hr0, hr1⟩, hf0, hf1⟩ := id k4r; obtain ⟨⟨hq0, hq1⟩, hg0, hg1⟩ := id k4q; have m1 := k4x.far (r := w.heap.size + 2) (by omega) (.bool b3) (.slice A3 zs3.length c3); have m2 := k4y.far (r := w.heap.size + 2) (by omega) (.bool b3) (.slice A3 zs3.length c3); have m3 := m1.far (r := w.heap.size + 3) (by omega) (.bool b4) (.slice A4 zs4.length c4); have m4 := m2.far (r := w.heap.size + 3) (by omega) (.bool b4) (.slice A4 zs4.length c4); obtain ⟨m1a, m1b⟩ := id m1; obtain ⟨m2a, m2b⟩ := id m2; obtain ⟨m3a, m3b⟩ := id m3; obtain ⟨m4a, m4b⟩ := id m4)))
  go_wp2
  have e1 := (k4r.1.stored (.bool b3) (.slice A3 zs3.length c3)).far (r := w.heap.size + 3) (by omega) (.bool b4) (.slice A4 zs4.length c4)
  have e0 := k4q.1.far (r := w.heap.size + 2) (by omega) (.bool b3) (.slice A3 zs3.length c3)
  have e2 := e0.stored (.bool b4) (.slice A4 zs4.length c4)
  obtain ⟨e1a, e1b⟩ := id e1
  obtain ⟨e2a, e2b⟩ := id e2
  have hn3 := (hl3'.2.1.res k4r.1 (.bool b3) (.slice A3 zs3.length c3)).res e0 (.bool b4) (.slice A4 zs4.length c4)
  have hn4 := (hl4.2.1.res k4r.1 (.bool b3) (.slice A3 zs3.length c3)).res e0 (.bool b4) (.slice A4 zs4.length c4)
  have hbe := below_then (below_then (begun_then (begun_then H.out.1 hb1 rfl rfl rfl rfl) hb2 rfl rfl rfl rfl) ⟨hb3.os, hb3.tape, hb3.output, hb3.size, hb3.block⟩) hb4
  refine bodyPost_ret (v := .tuple #[.agg #[.bool b3, .slice A3 zs3.length c3], .agg #[.bool b4, .slice A4 zs4.length c4], .int .i64 0]) (by simp [results, Try.results30, go_sem, e1a, e1b, e2a, e2b]) rfl ?_
  exact ⟨_, _, rfl, ⟨b3, A3, c3, zs3, rfl, hsg3, hl3'.1, hn3, hl3'.2.2⟩, ⟨b4, A4, c4, zs4, rfl, hsg4, hl4.1, hn4, hl4.2.2⟩,
    (((hbe.setCell (p := ⟨w.heap.size + 2, 0, none⟩) (by simp) _).setCell (p := ⟨w.heap.size + 2, 1, none⟩) (by simp) _).setCell (p := ⟨w.heap.size + 3, 0, none⟩) (by simp) _).setCell (p := ⟨w.heap.size + 3, 1, none⟩) (by simp) _⟩

set_option maxRecDepth 100000 in
set_option maxHeartbeats 1000000 in
theorem divide_stf (A1 : Option Addr) (c1 : Nat) (zs1 : List Nat) (A2 : Option Addr) (c2 : Nat) (zs2 : List Nat) (x y : Int) (w : World) (hs1 : SignOf true x) (hs2 : SignOf false y)
    (h1 : Limbs w A1 c1 zs1 x.natAbs) (h2 : Limbs w A2 c2 zs2 y.natAbs) (hl1 : zs1.length ≤ 300000) (hl2 : zs2.length ≤ 300000) (hy0 : y ≠ 0) :
    Calls Try.prog 30 #[.agg #[.bool true, .slice A1 zs1.length c1], .agg #[.bool false, .slice A2 zs2.length c2]] w fun e w' => IsQuoRem w w' x y e := by
  have hd0 : 0 < y.natAbs := by omega
  have hbb := (begun2_below w (.bool true) (.slice A1 zs1.length c1) (.bool false) (.slice A2 zs2.length c2) 28).alloc (begun2_below w (.bool true) (.slice A1 zs1.length c1) (.bool false) (.slice A2 zs2.length c2) 28).size (.cells #[.bool false, .slice none 0 0] 28)
  have hsz0 := begun2_size w (.bool true) (.slice A1 zs1.length c1) (.bool false) (.slice A2 zs2.length c2) 28
  have hx0 := (begun2_x w (.bool true) (.slice A1 zs1.length c1) (.bool false) (.slice A2 zs2.length c2) 28).alloc (by omega) (.cells #[.bool false, .slice none 0 0] 28)
  have hy0 := (begun2_y w (.bool true) (.slice A1 zs1.length c1) (.bool false) (.slice A2 zs2.length c2) 28).alloc (by omega) (.cells #[.bool false, .slice none 0 0] 28)
  have hr0 := (begun2_r w (.bool true) (.slice A1 zs1.length c1) (.bool false) (.slice A2 zs2.length c2) 28).step ((Below.refl _ _).alloc (Nat.le_refl _) (.cells #[.bool false, .slice none 0 0] 28)) rfl (by omega)
  have hq0 := Res.new (begun2 w (.bool true) (.slice A1 zs1.length c1) (.bool false) (.slice A2 zs2.length c2) 28) 28
  rw [hsz0] at hq0
  have hsz : (begun4 w (.bool true) (.slice A1 zs1.length c1) (.bool false) (.slice A2 zs2.length c2) 28).heap.size = w.heap.size + 4 := by unfold begun4; rw [size_alloc, hsz0]
  have hi2 : IntAt (begun4 w (.bool true) (.slice A1 zs1.length c1) (.bool false) (.slice A2 zs2.length c2) 28) (.agg #[.bool false, .slice A2 zs2.length c2]) y := ⟨false, A2, c2, zs2, rfl, hs2, h2.below hbb⟩
  have hl2' := h2.below hbb
  have hl1' := h1.below hbb
  have hyb : y.natAbs < B32 ^ zs2.length := by rw [← h2.2.2.2.2]; exact Lm.val_lt h2.2.2.1
  have hsg := Sign_any _ y zs2.length _ hi2 (by omega) hyb
  have hyn : (y.sign == 0) = false := by rw [beq_eq_false_iff_ne]; intro h; have := Int.sign_eq_zero_iff_zero.1 h; omega
  have H := Lib.hid (And.intro hbb (And.intro hx0 (And.intro hy0 (And.intro hr0 (And.intro hq0 (And.intro hsz (And.intro hsg (And.intro hl1' (And.intro hl2' hd0)))))))))
  have tok1 : True := trivial
  clear hbb hsz0 hx0 hy0 hr0 hq0 hsz hi2 hl2' hl1' hyb hsg hd0
  go_enter Try.func30, Try.ntmps30
  go_wp2_with fail
  refine H.out.2.2.2.2.2.2.1.mono ?_
  rintro e w1 ⟨rfl, hb1⟩
  have j1 : w.heap.size + 4 ≤ w1.heap.size := Nat.le_trans (Nat.le_of_eq H.out.2.2.2.2.2.1.symm) hb1.size
  have k1x := H.out.2.1.step hb1 rfl (Nat.lt_of_lt_of_eq (m := w.heap.size + 4) (by omega) H.out.2.2.2.2.2.1.symm)
  have k1y := H.out.2.2.1.step hb1 rfl (Nat.lt_of_lt_of_eq (m := w.heap.size + 4) (by omega) H.out.2.2.2.2.2.1.symm)
  have k1r := H.out.2.2.2.1.step hb1 rfl (Nat.lt_of_lt_of_eq (m := w.heap.size + 4) (by omega) H.out.2.2.2.2.2.1.symm)
  have k1q := H.out.2.2.2.2.1.step hb1 rfl (Nat.lt_of_lt_of_eq (m := w.heap.size + 4) (by omega) H.out.2.2.2.2.2.1.symm)
  obtain ⟨px0, px1⟩ := id k1x
  obtain ⟨py0, py1⟩ := id k1y
  have hdv := divide_all A1 c1 zs1 A2 c2 zs2 x.natAbs y.natAbs w1 (H.out.2.2.2.2.2.2.2.1.step hb1 rfl) (H.out.2.2.2.2.2.2.2.2.1.step hb1 rfl) hl1 H.out.2.2.2.2.2.2.2.2.2
  have HD := Lib.hid hdv
  clear hdv
  go_wp2_with fail
  refine HD.out.mono ?_
  rintro e w2 ⟨Aq, cq, zq, Ar, cr, zr, rfl, hq, hr, hb2⟩
  have j2 : w.heap.size + 4 ≤ w2.heap.size := Nat.le_trans j1 hb2.size
  have k2x := k1x.step hb2 rfl (by omega)
  have k2y := k1y.step hb2 rfl (by omega)
  have k2r := k1r.step hb2 rfl (by omega)
  have k2q := k1q.step hb2 rfl (by omega)
  have hlq : zq.length ≤ 1000000 := by have := small_len (m := 300000) hq zs1 h1.2.2.1 (by rw [h1.2.2.2.2]; exact Nat.div_le_self _ _) hl1; omega
  have hlr : zr.length ≤ 1000000 := by have := small_len (m := 300000) hr zs1 h1.2.2.1 (by rw [h1.2.2.2.2]; exact Nat.mod_le _ _) hl1; omega
  clear px0 px1 py0 py1
  obtain ⟨px0, px1⟩ := id k2x
  obtain ⟨py0, py1⟩ := id k2y
  go_wp2_with fail
  go_region_held3 (fun w' => w'.cell? ⟨w.heap.size, 0, none⟩ = some (.bool true) ∧ w'.cell? ⟨w.heap.size + 1, 0, none⟩ = some (.bool false))
    (((try dsimp only); (repeat' apply And.intro) <;> (first | (with_reducible assumption) | go_keep)))
    ((first | (go_at_call 70; have _t := tok1; refine (signed_to true Aq cq zq (x.tdiv y) _ (by exact hq.2.1) hq.2.2.1 hlq hq.1 (by rw [hq.2.2.2.2]; exact div_parts hs1 hs2 rfl)).mono ?_; rintro e w3 ⟨v3, rfl, ⟨b3, A3, c3, zs3, rfl, hsg3, hl3⟩, hb3⟩; clear tok1; have j3 : w.heap.size + 4 ≤ w3.heap.size := Nat.le_trans j2 hb3.size; have k3x := k2x.step hb3 rfl (by omega); have k3y := k2y.step hb3 rfl (by omega); have k3r := k2r.step hb3 rfl (by omega); have k3q := k2q.step hb3 rfl (by omega); have hr3 := hr.step hb3 rfl; obtain ⟨qx0, qx1⟩ := id k3x; obtain ⟨qy0, qy1⟩ := id k3y) | (go_at_call 70; refine (signed_to true Ar cr zr (x.tmod y) _ (by exact hr3.2.1) hr3.2.2.1 hlr hr3.1 (by rw [hr3.2.2.2.2]; exact mod_parts hs1)).mono ?_; rintro e w4 ⟨v4, rfl, ⟨b4, A4, c4, zs4, rfl, hsg4, hl4⟩, hb4⟩; have k4x := k3x.step hb4 rfl (by omega); have k4y := k3y.step hb4 rfl (by omega); have k4r := k3r.step hb4 rfl (by omega); have k4q := k3q.step hb4 rfl (by omega); have hl3' := hl3.step hb4 rfl; obtain ⟨sx0, sx1⟩ := id k4x; obtain ⟨sy0, sy1⟩ := id k4y; obtain ⟨⟨hr0, hr1⟩, hf0, hf1⟩ := id k4r; obtain ⟨⟨hq0, hq1⟩, hg0, hg1⟩ := id k4q; have m1 := k4x.far (r := w.heap.size + 2) (by omega) (.bool b3) (.slice A3 zs3.length c3); have m2 := k4y.far (r := w.heap.size + 2) (by omega) (.bool b3) (.slice A3 zs3.length c3); have m3 := m1.far (r := w.heap.size + 3) (by omega) (.bool b4) (.slice A4 zs4.length c4); have m4 := m2.far (r := w.heap.size + 3) (by omega) (.bool b4) (.slice A4 zs4.length c4); obtain ⟨m1a, m1b⟩ := id m1; obtain ⟨m2a, m2b⟩ := id m2; obtain ⟨m3a, m3b⟩ := id m3; obtain ⟨m4a, m4b⟩ := id m4)))
  go_wp2
  have e1 := (k4r.1.stored (.bool b3) (.slice A3 zs3.length c3)).far (r := w.heap.size + 3) (by omega) (.bool b4) (.slice A4 zs4.length c4)
  have e0 := k4q.1.far (r := w.heap.size + 2) (by omega) (.bool b3) (.slice A3 zs3.length c3)
  have e2 := e0.stored (.bool b4) (.slice A4 zs4.length c4)
  obtain ⟨e1a, e1b⟩ := id e1
  obtain ⟨e2a, e2b⟩ := id e2
  have hn3 := (hl3'.2.1.res k4r.1 (.bool b3) (.slice A3 zs3.length c3)).res e0 (.bool b4) (.slice A4 zs4.length c4)
  have hn4 := (hl4.2.1.res k4r.1 (.bool b3) (.slice A3 zs3.length c3)).res e0 (.bool b4) (.slice A4 zs4.length c4)
  have hbe := below_then (below_then (begun_then (begun_then H.out.1 hb1 rfl rfl rfl rfl) hb2 rfl rfl rfl rfl) ⟨hb3.os, hb3.tape, hb3.output, hb3.size, hb3.block⟩) hb4
  refine bodyPost_ret (v := .tuple #[.agg #[.bool b3, .slice A3 zs3.length c3], .agg #[.bool b4, .slice A4 zs4.length c4], .int .i64 0]) (by simp [results, Try.results30, go_sem, e1a, e1b, e2a, e2b]) rfl ?_
  exact ⟨_, _, rfl, ⟨b3, A3, c3, zs3, rfl, hsg3, hl3'.1, hn3, hl3'.2.2⟩, ⟨b4, A4, c4, zs4, rfl, hsg4, hl4.1, hn4, hl4.2.2⟩,
    (((hbe.setCell (p := ⟨w.heap.size + 2, 0, none⟩) (by simp) _).setCell (p := ⟨w.heap.size + 2, 1, none⟩) (by simp) _).setCell (p := ⟨w.heap.size + 3, 0, none⟩) (by simp) _).setCell (p := ⟨w.heap.size + 3, 1, none⟩) (by simp) _⟩

set_option maxRecDepth 100000 in
set_option maxHeartbeats 1000000 in
theorem divide_sft (A1 : Option Addr) (c1 : Nat) (zs1 : List Nat) (A2 : Option Addr) (c2 : Nat) (zs2 : List Nat) (x y : Int) (w : World) (hs1 : SignOf false x) (hs2 : SignOf true y)
    (h1 : Limbs w A1 c1 zs1 x.natAbs) (h2 : Limbs w A2 c2 zs2 y.natAbs) (hl1 : zs1.length ≤ 300000) (hl2 : zs2.length ≤ 300000) (hy0 : y ≠ 0) :
    Calls Try.prog 30 #[.agg #[.bool false, .slice A1 zs1.length c1], .agg #[.bool true, .slice A2 zs2.length c2]] w fun e w' => IsQuoRem w w' x y e := by
  have hd0 : 0 < y.natAbs := by omega
  have hbb := (begun2_below w (.bool false) (.slice A1 zs1.length c1) (.bool true) (.slice A2 zs2.length c2) 28).alloc (begun2_below w (.bool false) (.slice A1 zs1.length c1) (.bool true) (.slice A2 zs2.length c2) 28).size (.cells #[.bool false, .slice none 0 0] 28)
  have hsz0 := begun2_size w (.bool false) (.slice A1 zs1.length c1) (.bool true) (.slice A2 zs2.length c2) 28
  have hx0 := (begun2_x w (.bool false) (.slice A1 zs1.length c1) (.bool true) (.slice A2 zs2.length c2) 28).alloc (by omega) (.cells #[.bool false, .slice none 0 0] 28)
  have hy0 := (begun2_y w (.bool false) (.slice A1 zs1.length c1) (.bool true) (.slice A2 zs2.length c2) 28).alloc (by omega) (.cells #[.bool false, .slice none 0 0] 28)
  have hr0 := (begun2_r w (.bool false) (.slice A1 zs1.length c1) (.bool true) (.slice A2 zs2.length c2) 28).step ((Below.refl _ _).alloc (Nat.le_refl _) (.cells #[.bool false, .slice none 0 0] 28)) rfl (by omega)
  have hq0 := Res.new (begun2 w (.bool false) (.slice A1 zs1.length c1) (.bool true) (.slice A2 zs2.length c2) 28) 28
  rw [hsz0] at hq0
  have hsz : (begun4 w (.bool false) (.slice A1 zs1.length c1) (.bool true) (.slice A2 zs2.length c2) 28).heap.size = w.heap.size + 4 := by unfold begun4; rw [size_alloc, hsz0]
  have hi2 : IntAt (begun4 w (.bool false) (.slice A1 zs1.length c1) (.bool true) (.slice A2 zs2.length c2) 28) (.agg #[.bool true, .slice A2 zs2.length c2]) y := ⟨true, A2, c2, zs2, rfl, hs2, h2.below hbb⟩
  have hl2' := h2.below hbb
  have hl1' := h1.below hbb
  have hyb : y.natAbs < B32 ^ zs2.length := by rw [← h2.2.2.2.2]; exact Lm.val_lt h2.2.2.1
  have hsg := Sign_any _ y zs2.length _ hi2 (by omega) hyb
  have hyn : (y.sign == 0) = false := by rw [beq_eq_false_iff_ne]; intro h; have := Int.sign_eq_zero_iff_zero.1 h; omega
  have H := Lib.hid (And.intro hbb (And.intro hx0 (And.intro hy0 (And.intro hr0 (And.intro hq0 (And.intro hsz (And.intro hsg (And.intro hl1' (And.intro hl2' hd0)))))))))
  have tok1 : True := trivial
  clear hbb hsz0 hx0 hy0 hr0 hq0 hsz hi2 hl2' hl1' hyb hsg hd0
  go_enter Try.func30, Try.ntmps30
  go_wp2_with fail
  refine H.out.2.2.2.2.2.2.1.mono ?_
  rintro e w1 ⟨rfl, hb1⟩
  have j1 : w.heap.size + 4 ≤ w1.heap.size := Nat.le_trans (Nat.le_of_eq H.out.2.2.2.2.2.1.symm) hb1.size
  have k1x := H.out.2.1.step hb1 rfl (Nat.lt_of_lt_of_eq (m := w.heap.size + 4) (by omega) H.out.2.2.2.2.2.1.symm)
  have k1y := H.out.2.2.1.step hb1 rfl (Nat.lt_of_lt_of_eq (m := w.heap.size + 4) (by omega) H.out.2.2.2.2.2.1.symm)
  have k1r := H.out.2.2.2.1.step hb1 rfl (Nat.lt_of_lt_of_eq (m := w.heap.size + 4) (by omega) H.out.2.2.2.2.2.1.symm)
  have k1q := H.out.2.2.2.2.1.step hb1 rfl (Nat.lt_of_lt_of_eq (m := w.heap.size + 4) (by omega) H.out.2.2.2.2.2.1.symm)
  obtain ⟨px0, px1⟩ := id k1x
  obtain ⟨py0, py1⟩ := id k1y
  have hdv := divide_all A1 c1 zs1 A2 c2 zs2 x.natAbs y.natAbs w1 (H.out.2.2.2.2.2.2.2.1.step hb1 rfl) (H.out.2.2.2.2.2.2.2.2.1.step hb1 rfl) hl1 H.out.2.2.2.2.2.2.2.2.2
  have HD := Lib.hid hdv
  clear hdv
  go_wp2_with fail
  refine HD.out.mono ?_
  rintro e w2 ⟨Aq, cq, zq, Ar, cr, zr, rfl, hq, hr, hb2⟩
  have j2 : w.heap.size + 4 ≤ w2.heap.size := Nat.le_trans j1 hb2.size
  have k2x := k1x.step hb2 rfl (by omega)
  have k2y := k1y.step hb2 rfl (by omega)
  have k2r := k1r.step hb2 rfl (by omega)
  have k2q := k1q.step hb2 rfl (by omega)
  have hlq : zq.length ≤ 1000000 := by have := small_len (m := 300000) hq zs1 h1.2.2.1 (by rw [h1.2.2.2.2]; exact Nat.div_le_self _ _) hl1; omega
  have hlr : zr.length ≤ 1000000 := by have := small_len (m := 300000) hr zs1 h1.2.2.1 (by rw [h1.2.2.2.2]; exact Nat.mod_le _ _) hl1; omega
  clear px0 px1 py0 py1
  obtain ⟨px0, px1⟩ := id k2x
  obtain ⟨py0, py1⟩ := id k2y
  go_wp2_with fail
  go_region_held3 (fun w' => w'.cell? ⟨w.heap.size, 0, none⟩ = some (.bool false) ∧ w'.cell? ⟨w.heap.size + 1, 0, none⟩ = some (.bool true))
    (((try dsimp only); (repeat' apply And.intro) <;> (first | (with_reducible assumption) | go_keep)))
    ((first | (go_at_call 70; have _t := tok1; refine (signed_to true Aq cq zq (x.tdiv y) _ (by exact hq.2.1) hq.2.2.1 hlq hq.1 (by rw [hq.2.2.2.2]; exact div_parts hs1 hs2 rfl)).mono ?_; rintro e w3 ⟨v3, rfl, ⟨b3, A3, c3, zs3, rfl, hsg3, hl3⟩, hb3⟩; clear tok1; have j3 : w.heap.size + 4 ≤ w3.heap.size := Nat.le_trans j2 hb3.size; have k3x := k2x.step hb3 rfl (by omega); have k3y := k2y.step hb3 rfl (by omega); have k3r := k2r.step hb3 rfl (by omega); have k3q := k2q.step hb3 rfl (by omega); have hr3 := hr.step hb3 rfl; obtain ⟨qx0, qx1⟩ := id k3x; obtain ⟨qy0, qy1⟩ := id k3y) | (go_at_call 70; refine (signed_to false Ar cr zr (x.tmod y) _ (by exact hr3.2.1) hr3.2.2.1 hlr hr3.1 (by rw [hr3.2.2.2.2]; exact mod_parts hs1)).mono ?_; rintro e w4 ⟨v4, rfl, ⟨b4, A4, c4, zs4, rfl, hsg4, hl4⟩, hb4⟩; have k4x := k3x.step hb4 rfl (by omega); have k4y := k3y.step hb4 rfl (by omega); have k4r := k3r.step hb4 rfl (by omega); have k4q := k3q.step hb4 rfl (by omega); have hl3' := hl3.step hb4 rfl; obtain ⟨sx0, sx1⟩ := id k4x; obtain ⟨sy0, sy1⟩ := id k4y; obtain ⟨⟨hr0, hr1⟩, hf0, hf1⟩ := id k4r; obtain ⟨⟨hq0, hq1⟩, hg0, hg1⟩ := id k4q; have m1 := k4x.far (r := w.heap.size + 2) (by omega) (.bool b3) (.slice A3 zs3.length c3); have m2 := k4y.far (r := w.heap.size + 2) (by omega) (.bool b3) (.slice A3 zs3.length c3); have m3 := m1.far (r := w.heap.size + 3) (by omega) (.bool b4) (.slice A4 zs4.length c4); have m4 := m2.far (r := w.heap.size + 3) (by omega) (.bool b4) (.slice A4 zs4.length c4); obtain ⟨m1a, m1b⟩ := id m1; obtain ⟨m2a, m2b⟩ := id m2; obtain ⟨m3a, m3b⟩ := id m3; obtain ⟨m4a, m4b⟩ := id m4)))
  go_wp2
  have e1 := (k4r.1.stored (.bool b3) (.slice A3 zs3.length c3)).far (r := w.heap.size + 3) (by omega) (.bool b4) (.slice A4 zs4.length c4)
  have e0 := k4q.1.far (r := w.heap.size + 2) (by omega) (.bool b3) (.slice A3 zs3.length c3)
  have e2 := e0.stored (.bool b4) (.slice A4 zs4.length c4)
  obtain ⟨e1a, e1b⟩ := id e1
  obtain ⟨e2a, e2b⟩ := id e2
  have hn3 := (hl3'.2.1.res k4r.1 (.bool b3) (.slice A3 zs3.length c3)).res e0 (.bool b4) (.slice A4 zs4.length c4)
  have hn4 := (hl4.2.1.res k4r.1 (.bool b3) (.slice A3 zs3.length c3)).res e0 (.bool b4) (.slice A4 zs4.length c4)
  have hbe := below_then (below_then (begun_then (begun_then H.out.1 hb1 rfl rfl rfl rfl) hb2 rfl rfl rfl rfl) ⟨hb3.os, hb3.tape, hb3.output, hb3.size, hb3.block⟩) hb4
  refine bodyPost_ret (v := .tuple #[.agg #[.bool b3, .slice A3 zs3.length c3], .agg #[.bool b4, .slice A4 zs4.length c4], .int .i64 0]) (by simp [results, Try.results30, go_sem, e1a, e1b, e2a, e2b]) rfl ?_
  exact ⟨_, _, rfl, ⟨b3, A3, c3, zs3, rfl, hsg3, hl3'.1, hn3, hl3'.2.2⟩, ⟨b4, A4, c4, zs4, rfl, hsg4, hl4.1, hn4, hl4.2.2⟩,
    (((hbe.setCell (p := ⟨w.heap.size + 2, 0, none⟩) (by simp) _).setCell (p := ⟨w.heap.size + 2, 1, none⟩) (by simp) _).setCell (p := ⟨w.heap.size + 3, 0, none⟩) (by simp) _).setCell (p := ⟨w.heap.size + 3, 1, none⟩) (by simp) _⟩

set_option maxRecDepth 100000 in
set_option maxHeartbeats 1000000 in
theorem divide_sff (A1 : Option Addr) (c1 : Nat) (zs1 : List Nat) (A2 : Option Addr) (c2 : Nat) (zs2 : List Nat) (x y : Int) (w : World) (hs1 : SignOf false x) (hs2 : SignOf false y)
    (h1 : Limbs w A1 c1 zs1 x.natAbs) (h2 : Limbs w A2 c2 zs2 y.natAbs) (hl1 : zs1.length ≤ 300000) (hl2 : zs2.length ≤ 300000) (hy0 : y ≠ 0) :
    Calls Try.prog 30 #[.agg #[.bool false, .slice A1 zs1.length c1], .agg #[.bool false, .slice A2 zs2.length c2]] w fun e w' => IsQuoRem w w' x y e := by
  have hd0 : 0 < y.natAbs := by omega
  have hbb := (begun2_below w (.bool false) (.slice A1 zs1.length c1) (.bool false) (.slice A2 zs2.length c2) 28).alloc (begun2_below w (.bool false) (.slice A1 zs1.length c1) (.bool false) (.slice A2 zs2.length c2) 28).size (.cells #[.bool false, .slice none 0 0] 28)
  have hsz0 := begun2_size w (.bool false) (.slice A1 zs1.length c1) (.bool false) (.slice A2 zs2.length c2) 28
  have hx0 := (begun2_x w (.bool false) (.slice A1 zs1.length c1) (.bool false) (.slice A2 zs2.length c2) 28).alloc (by omega) (.cells #[.bool false, .slice none 0 0] 28)
  have hy0 := (begun2_y w (.bool false) (.slice A1 zs1.length c1) (.bool false) (.slice A2 zs2.length c2) 28).alloc (by omega) (.cells #[.bool false, .slice none 0 0] 28)
  have hr0 := (begun2_r w (.bool false) (.slice A1 zs1.length c1) (.bool false) (.slice A2 zs2.length c2) 28).step ((Below.refl _ _).alloc (Nat.le_refl _) (.cells #[.bool false, .slice none 0 0] 28)) rfl (by omega)
  have hq0 := Res.new (begun2 w (.bool false) (.slice A1 zs1.length c1) (.bool false) (.slice A2 zs2.length c2) 28) 28
  rw [hsz0] at hq0
  have hsz : (begun4 w (.bool false) (.slice A1 zs1.length c1) (.bool false) (.slice A2 zs2.length c2) 28).heap.size = w.heap.size + 4 := by unfold begun4; rw [size_alloc, hsz0]
  have hi2 : IntAt (begun4 w (.bool false) (.slice A1 zs1.length c1) (.bool false) (.slice A2 zs2.length c2) 28) (.agg #[.bool false, .slice A2 zs2.length c2]) y := ⟨false, A2, c2, zs2, rfl, hs2, h2.below hbb⟩
  have hl2' := h2.below hbb
  have hl1' := h1.below hbb
  have hyb : y.natAbs < B32 ^ zs2.length := by rw [← h2.2.2.2.2]; exact Lm.val_lt h2.2.2.1
  have hsg := Sign_any _ y zs2.length _ hi2 (by omega) hyb
  have hyn : (y.sign == 0) = false := by rw [beq_eq_false_iff_ne]; intro h; have := Int.sign_eq_zero_iff_zero.1 h; omega
  have H := Lib.hid (And.intro hbb (And.intro hx0 (And.intro hy0 (And.intro hr0 (And.intro hq0 (And.intro hsz (And.intro hsg (And.intro hl1' (And.intro hl2' hd0)))))))))
  have tok1 : True := trivial
  clear hbb hsz0 hx0 hy0 hr0 hq0 hsz hi2 hl2' hl1' hyb hsg hd0
  go_enter Try.func30, Try.ntmps30
  go_wp2_with fail
  refine H.out.2.2.2.2.2.2.1.mono ?_
  rintro e w1 ⟨rfl, hb1⟩
  have j1 : w.heap.size + 4 ≤ w1.heap.size := Nat.le_trans (Nat.le_of_eq H.out.2.2.2.2.2.1.symm) hb1.size
  have k1x := H.out.2.1.step hb1 rfl (Nat.lt_of_lt_of_eq (m := w.heap.size + 4) (by omega) H.out.2.2.2.2.2.1.symm)
  have k1y := H.out.2.2.1.step hb1 rfl (Nat.lt_of_lt_of_eq (m := w.heap.size + 4) (by omega) H.out.2.2.2.2.2.1.symm)
  have k1r := H.out.2.2.2.1.step hb1 rfl (Nat.lt_of_lt_of_eq (m := w.heap.size + 4) (by omega) H.out.2.2.2.2.2.1.symm)
  have k1q := H.out.2.2.2.2.1.step hb1 rfl (Nat.lt_of_lt_of_eq (m := w.heap.size + 4) (by omega) H.out.2.2.2.2.2.1.symm)
  obtain ⟨px0, px1⟩ := id k1x
  obtain ⟨py0, py1⟩ := id k1y
  have hdv := divide_all A1 c1 zs1 A2 c2 zs2 x.natAbs y.natAbs w1 (H.out.2.2.2.2.2.2.2.1.step hb1 rfl) (H.out.2.2.2.2.2.2.2.2.1.step hb1 rfl) hl1 H.out.2.2.2.2.2.2.2.2.2
  have HD := Lib.hid hdv
  clear hdv
  go_wp2_with fail
  refine HD.out.mono ?_
  rintro e w2 ⟨Aq, cq, zq, Ar, cr, zr, rfl, hq, hr, hb2⟩
  have j2 : w.heap.size + 4 ≤ w2.heap.size := Nat.le_trans j1 hb2.size
  have k2x := k1x.step hb2 rfl (by omega)
  have k2y := k1y.step hb2 rfl (by omega)
  have k2r := k1r.step hb2 rfl (by omega)
  have k2q := k1q.step hb2 rfl (by omega)
  have hlq : zq.length ≤ 1000000 := by have := small_len (m := 300000) hq zs1 h1.2.2.1 (by rw [h1.2.2.2.2]; exact Nat.div_le_self _ _) hl1; omega
  have hlr : zr.length ≤ 1000000 := by have := small_len (m := 300000) hr zs1 h1.2.2.1 (by rw [h1.2.2.2.2]; exact Nat.mod_le _ _) hl1; omega
  clear px0 px1 py0 py1
  obtain ⟨px0, px1⟩ := id k2x
  obtain ⟨py0, py1⟩ := id k2y
  go_wp2_with fail
  go_region_held3 (fun w' => w'.cell? ⟨w.heap.size, 0, none⟩ = some (.bool false) ∧ w'.cell? ⟨w.heap.size + 1, 0, none⟩ = some (.bool false))
    (((try dsimp only); (repeat' apply And.intro) <;> (first | (with_reducible assumption) | go_keep)))
    ((first | (go_at_call 70; have _t := tok1; refine (signed_to false Aq cq zq (x.tdiv y) _ (by exact hq.2.1) hq.2.2.1 hlq hq.1 (by rw [hq.2.2.2.2]; exact div_parts hs1 hs2 rfl)).mono ?_; rintro e w3 ⟨v3, rfl, ⟨b3, A3, c3, zs3, rfl, hsg3, hl3⟩, hb3⟩; clear tok1; have j3 : w.heap.size + 4 ≤ w3.heap.size := Nat.le_trans j2 hb3.size; have k3x := k2x.step hb3 rfl (by omega); have k3y := k2y.step hb3 rfl (by omega); have k3r := k2r.step hb3 rfl (by omega); have k3q := k2q.step hb3 rfl (by omega); have hr3 := hr.step hb3 rfl; obtain ⟨qx0, qx1⟩ := id k3x; obtain ⟨qy0, qy1⟩ := id k3y) | (go_at_call 70; refine (signed_to false Ar cr zr (x.tmod y) _ (by exact hr3.2.1) hr3.2.2.1 hlr hr3.1 (by rw [hr3.2.2.2.2]; exact mod_parts hs1)).mono ?_; rintro e w4 ⟨v4, rfl, ⟨b4, A4, c4, zs4, rfl, hsg4, hl4⟩, hb4⟩; have k4x := k3x.step hb4 rfl (by omega); have k4y := k3y.step hb4 rfl (by omega); have k4r := k3r.step hb4 rfl (by omega); have k4q := k3q.step hb4 rfl (by omega); have hl3' := hl3.step hb4 rfl; obtain ⟨sx0, sx1⟩ := id k4x; obtain ⟨sy0, sy1⟩ := id k4y; obtain ⟨⟨hr0, hr1⟩, hf0, hf1⟩ := id k4r; obtain ⟨⟨hq0, hq1⟩, hg0, hg1⟩ := id k4q; have m1 := k4x.far (r := w.heap.size + 2) (by omega) (.bool b3) (.slice A3 zs3.length c3); have m2 := k4y.far (r := w.heap.size + 2) (by omega) (.bool b3) (.slice A3 zs3.length c3); have m3 := m1.far (r := w.heap.size + 3) (by omega) (.bool b4) (.slice A4 zs4.length c4); have m4 := m2.far (r := w.heap.size + 3) (by omega) (.bool b4) (.slice A4 zs4.length c4); obtain ⟨m1a, m1b⟩ := id m1; obtain ⟨m2a, m2b⟩ := id m2; obtain ⟨m3a, m3b⟩ := id m3; obtain ⟨m4a, m4b⟩ := id m4)))
  go_wp2
  have e1 := (k4r.1.stored (.bool b3) (.slice A3 zs3.length c3)).far (r := w.heap.size + 3) (by omega) (.bool b4) (.slice A4 zs4.length c4)
  have e0 := k4q.1.far (r := w.heap.size + 2) (by omega) (.bool b3) (.slice A3 zs3.length c3)
  have e2 := e0.stored (.bool b4) (.slice A4 zs4.length c4)
  obtain ⟨e1a, e1b⟩ := id e1
  obtain ⟨e2a, e2b⟩ := id e2
  have hn3 := (hl3'.2.1.res k4r.1 (.bool b3) (.slice A3 zs3.length c3)).res e0 (.bool b4) (.slice A4 zs4.length c4)
  have hn4 := (hl4.2.1.res k4r.1 (.bool b3) (.slice A3 zs3.length c3)).res e0 (.bool b4) (.slice A4 zs4.length c4)
  have hbe := below_then (below_then (begun_then (begun_then H.out.1 hb1 rfl rfl rfl rfl) hb2 rfl rfl rfl rfl) ⟨hb3.os, hb3.tape, hb3.output, hb3.size, hb3.block⟩) hb4
  refine bodyPost_ret (v := .tuple #[.agg #[.bool b3, .slice A3 zs3.length c3], .agg #[.bool b4, .slice A4 zs4.length c4], .int .i64 0]) (by simp [results, Try.results30, go_sem, e1a, e1b, e2a, e2b]) rfl ?_
  exact ⟨_, _, rfl, ⟨b3, A3, c3, zs3, rfl, hsg3, hl3'.1, hn3, hl3'.2.2⟩, ⟨b4, A4, c4, zs4, rfl, hsg4, hl4.1, hn4, hl4.2.2⟩,
    (((hbe.setCell (p := ⟨w.heap.size + 2, 0, none⟩) (by simp) _).setCell (p := ⟨w.heap.size + 2, 1, none⟩) (by simp) _).setCell (p := ⟨w.heap.size + 3, 0, none⟩) (by simp) _).setCell (p := ⟨w.heap.size + 3, 1, none⟩) (by simp) _⟩


/-- A quotient and a rest of two integers, and the error of a division by 0. -/
def IsDivE (w w' : World) (q r k : Int) (e : Ending) : Prop := ∃ v1 v2, e = .returned (.tuple #[v1, v2, .int .i64 k]) ∧ IntAt w' v1 q ∧ IntAt w' v2 r ∧ Below w.heap.size w w'
theorem divide_some (v1 v2 : Value) (x y : Int) (m : Nat) (w : World) (h1 : IntAt w v1 x) (h2 : IntAt w v2 y) (hm : m ≤ 300000) (hx : x.natAbs < B32 ^ m) (hy : y.natAbs < B32 ^ m) (h0 : y ≠ 0) :
    Calls Try.prog 30 #[v1, v2] w fun e w' => IsDivE w w' (x.tdiv y) (x.tmod y) 0 e := by
  obtain ⟨b1, A1, c1, zs1, rfl, hs1, hd1⟩ := h1
  obtain ⟨b2, A2, c2, zs2, rfl, hs2, hd2⟩ := h2
  have l1 := Nat.le_trans (hd1.len hx) hm
  have l2 := Nat.le_trans (hd2.len hy) hm
  cases b1 <;> cases b2
  · exact divide_sff A1 c1 zs1 A2 c2 zs2 x y w hs1 hs2 hd1 hd2 l1 l2 h0
  · exact divide_sft A1 c1 zs1 A2 c2 zs2 x y w hs1 hs2 hd1 hd2 l1 l2 h0
  · exact divide_stf A1 c1 zs1 A2 c2 zs2 x y w hs1 hs2 hd1 hd2 l1 l2 h0
  · exact divide_stt A1 c1 zs1 A2 c2 zs2 x y w hs1 hs2 hd1 hd2 l1 l2 h0

/-- A slice of limbs of n is handed back, in a block of its own; what was there is as it was. -/
def IsLimsN (w w' : World) (n : Nat) (e : Ending) : Prop := ∃ A c zs, e = .returned (.slice A zs.length c) ∧ Limbs w' A c zs n ∧ Below w.heap.size w w' ∧ (0 < zs.length → ∃ ad, A = some ad ∧ w.heap.size ≤ ad.block)
theorem IsLimsN.lims {w w' : World} {n : Nat} {e : Ending} (h : IsLimsN w w' n e) : IsLims w w' n e := by
  obtain ⟨A, c, zs, h1, h2, h3, _⟩ := h
  exact ⟨A, c, zs, h1, h2, h3⟩
theorem limsN_of_trim {w w' : World} {A : Option Addr} {c : Nat} {xs : List Nat} {e : Ending} {n : Nat} (hf : 0 < xs.length → ∃ ad, A = some ad ∧ w.heap.size ≤ ad.block) (h : Trimmed A c xs e) (hn : Nums w' .u32 A xs) (ho : Lm.Ok B32 xs) (hc : xs.length ≤ c) (hv : Lm.val B32 xs = n) (hb : Below w.heap.size w w') : IsLimsN w w' n e := by
  obtain ⟨k, rfl, hk, hz, hp⟩ := h
  have hl : (xs.take k).length = k := by rw [List.length_take]; omega
  exact ⟨A, c, xs.take k, by rw [hl], hv ▸ limbs_take hn ho hc hk hz hp, hb, fun h0 => hf (by omega)⟩

set_option maxRecDepth 100000 in
set_option maxHeartbeats 2000000 in
theorem rows_new (A : Option Addr) (c : Nat) (xs : List Nat) (A' : Option Addr) (c' : Nat) (ys : List Nat) (w : World) (hx : Nums w .u32 A xs) (hy : Nums w .u32 A' ys)
    (ox : Lm.Ok B32 xs) (oy : Lm.Ok B32 ys) (hl : xs.length ≤ 400000) (hl' : ys.length ≤ 400000) :
    Calls Try.prog 124 #[.slice A xs.length c, .slice A' ys.length c'] w fun e w' => IsLimsN w w' (Lm.val B32 xs * Lm.val B32 ys) e := by
  obtain ⟨i0, hi0, hz0, hz1, hz2⟩ := info_parts Try.info99
  have HI := Lib.hid (And.intro hi0 (And.intro hz0 (And.intro hz1 hz2)))
  have HM := Lib.hid (show i0.bytes * (xs.length + ys.length) ≤ 281474976710656 ∧ xs.length + ys.length ≤ maxLen from ⟨by rw [hz2]; omega, by unfold maxLen; omega⟩)
  clear hi0 hz0 hz1 hz2
  go_enter Try.func124, Try.ntmps124
  go_wp2_with (at_make; go_loud (refine wpList_make_full _ rfl _ _ 22 rfl w.heap.size 99 i0 (.int .u32 0) 1 Try.underlying22 HI.out.1 HI.out.2.1 HI.out.2.2.1 _ _ _ _ (xs.length + ys.length) rfl rfl (by omega) (by omega) HM.out.1 HM.out.2 (Nat.le_refl _) ?_); intro w1 hown1 hg1; rw [made_zero] at hown1; have HB := Lib.hid (own_block hown1); have hb1 : Below w.heap.size w w1 := (Below.refl _ _).grown hg1 (Nat.le_refl _) (fun k hk => by cases hk); clear hown1)
  have hz0 : Seg w1 w.heap.size 0 .u32 99 _ (List.replicate (xs.length + ys.length) 0) := seg_of_block HB.out
  have hx1 := hx.below hb1
  have hy1 := hy.below hb1
  have hoffx : 0 < xs.length → Off A w.heap.size := fun hn => off_below hx hn (Nat.le_refl _)
  have hoffy : 0 < ys.length → Off A' w.heap.size := fun hn => off_below hy hn (Nat.le_refl _)
  clear hx hy HB HI HM
  go_loopw [19] (fun iv wr => ∃ (i : Nat) (zs : List Nat), iv = .int .i64 i ∧ i ≤ ys.length ∧ Outer xs ys zs i ∧ SegTo wr w.heap.size 0 .u32 99 (cellsOf .u32 (List.replicate (xs.length + ys.length) 0)).toArray zs ∧ w1.grownBy wr (some w.heap.size)) (fun iv _ => ys.length - (intOf iv).toNat)
  case atStart =>
    exact ⟨0, _, rfl, Nat.zero_le _, ⟨by simp, Lm.Ok.zeros B32_pos _, fun k _ => by rw [List.getD_eq_getElem?_getD]; by_cases hk : k < xs.length + ys.length <;> simp [hk], by rw [Lm.val_zeros]; simp [Lm.val]⟩, .refl hz0, World.grownBy.refl _ _⟩
  case round =>
    obtain ⟨i, zs, rfl, hi, hout, hseg, hgr⟩ := hrel
    by_cases hiy : i < ys.length
    · have hyr := hy1.grown hgr hoffy
      obtain ⟨ad, rfl, _, hcell⟩ := hyr.at_ hiy
      have hcy := hcell i hiy
      have hfl := limb_lt oy i
      obtain ⟨f, hf⟩ : ∃ f, ys.getD i 0 = f := ⟨_, rfl⟩
      rw [hf] at hcy hfl
      have HF := Lib.hid hf
      clear hcell hf
      obtain ⟨wo, rfl⟩ : ∃ wo : World, wo = wr := ⟨_, rfl⟩
      have hin := inner_start (f := f) hout
      clear hout
      go_wp2
      go_loopw [8, 26] (fun cv jv wr => ∃ (j q : Nat) (zs : List Nat), jv = .int .i64 j ∧ cv = .int .u64 q ∧ j ≤ xs.length ∧ Inner xs ys zs i f j q ∧ SegTo wr w.heap.size 0 .u32 99 (cellsOf .u32 (List.replicate (xs.length + ys.length) 0)).toArray zs ∧ w1.grownBy wr (some w.heap.size)) (fun _ jv _ => xs.length - (intOf jv).toNat)
      case atStart => exact ⟨0, 0, zs, rfl, rfl, Nat.zero_le _, hin, hseg, hgr⟩
      case round =>
        clear hin hseg hgr zs
        obtain ⟨j, q, zs, rfl, rfl, hj, hin, hseg, hgr⟩ := hrel
        obtain ⟨cur', hs1, hs2, hs3⟩ := id hseg
        have hql := hin.carry
        by_cases hjx : j < xs.length
        · have hxr := hx1.grown hgr hoffx
          obtain ⟨ax, rfl, _, hcell⟩ := hxr.at_ hjx
          have hcx := hcell j hjx
          have hxl := limb_lt ox j
          have hcz := hs1.cell (j := i + j) (by rw [hin.len]; omega)
          have hfz := hs1.frozen (0 + (i + j))
          have hdl := limb_lt hin.ok (i + j)
          obtain ⟨d, hd⟩ : ∃ d, zs.getD (i + j) 0 = d := ⟨_, rfl⟩
          obtain ⟨x, hxd⟩ : ∃ x, xs.getD j 0 = x := ⟨_, rfl⟩
          rw [hd] at hcz hdl
          rw [hxd] at hcx hxl
          simp only [Nat.zero_add] at hcz hfz
          have hpl := limb_prod hxl hfl
          obtain ⟨p, hp⟩ : ∃ p, x * f = p := ⟨_, rfl⟩
          rw [hp] at hpl
          have hp' : (x : Int) * (f : Int) = (p : Int) := by rw [← hp, Int.natCast_mul]
          have HD := Lib.hid (And.intro hd (And.intro hxd hp))
          clear hd hxd hs1 hs2 hs3 hp hcell
          go_wp2
          go_roundw
          case rel =>
            refine ⟨j + 1, _, _, by go_num, by rw [limb_div (q + d + p) _ (by omega)], by omega, inner_step hin hjx hiy HD.out.1 hdl HD.out.2.1 hxl hfl (t := q + d + p) (by rw [HD.out.2.2]), ?_, ?_⟩
            · rw [limb_mod (q + d + p) _ (by omega)]
              exact hseg.set0 (j := i + j) (by rw [hin.len]; omega) _
            · exact grown_trans hgr (grown_store _ _ _ _)
          case measure => simp [intOf]; omega
        · have hje : j = xs.length := by omega
          subst hje
          have hcz := hs1.cell (j := i + xs.length) (by rw [hin.len]; omega)
          have hfz := hs1.frozen (0 + (i + xs.length))
          simp only [Nat.zero_add] at hcz hfz
          clear hs1 hs2 hs3
          go_wp2
          go_roundw
          case rel =>
            refine ⟨i + 1, _, by go_num, by omega, inner_end hin hiy HF.out, ?_, ?_⟩
            · exact hseg.set0 (j := i + xs.length) (by rw [hin.len]; omega) q
            · exact grown_trans hgr (grown_store _ _ _ _)
          case measure => simp [intOf]; omega
    · have hie : i = ys.length := by omega
      subst hie
      have hnum := hout.num
      rw [List.take_length] at hnum
      have htr := trim_any (some ⟨w.heap.size, 0, none⟩) (xs.length + ys.length) zs wr (by obtain ⟨cur', hs1, _⟩ := hseg; exact hs1.nums) (by rw [hout.len]; omega) (by rw [hout.len]; exact Nat.le_refl _)
      rw [hout.len] at htr
      have HT := Lib.hid htr
      have HN := Lib.hid hnum
      clear htr hnum
      go_wp2_with fail
      refine HT.out.mono ?_
      rintro e w4 ⟨rfl, k, rfl, hk, hz, hp⟩
      have HP := Lib.hid (And.intro hk (And.intro hz hp))
      clear hk hz hp
      go_wp2
      go_ret
      exact limsN_of_trim (fun _ => ⟨_, rfl, Nat.le_refl _⟩) ⟨k, rfl, HP.out⟩ (by obtain ⟨cur', hs1, _⟩ := hseg; exact hs1.nums) hout.ok (by rw [hout.len]; exact Nat.le_refl _) HN.out (hb1.trans (grown_below hgr (Nat.le_refl _) hb1.size))
set_option maxRecDepth 100000 in
set_option maxHeartbeats 1000000 in
theorem difference_some_new (A : Option Addr) (c : Nat) (xs : List Nat) (A' : Option Addr) (c' : Nat) (ys : List Nat) (w : World) (hx : Nums w .u32 A xs) (hy : Nums w .u32 A' ys)
    (ox : Lm.Ok B32 xs) (oy : Lm.Ok B32 ys) (hl : xs.length ≤ 900000) (hle : ys.length ≤ xs.length) (hv : Lm.val B32 ys ≤ Lm.val B32 xs) (h0 : 0 < xs.length) :
    Calls Try.prog 87 #[.slice A xs.length c, .slice A' ys.length c'] w fun e w' => IsLimsN w w' (Lm.val B32 xs - Lm.val B32 ys) e := by
  have HV := Lib.hid hv
  clear hv
  go_enter Try.func87, Try.ntmps87
  go_wp2_with fail
  refine (clone_any A c xs w hx (by omega)).mono ?_
  rintro e w1 ⟨A1, c1, rfl, hown, hb1⟩
  obtain ⟨A2, c2, e2, hle2⟩ := own_form hown
  obtain ⟨rfl, rfl⟩ : A1 = A2 ∧ c1 = c2 := by injection e2 with a b c; exact ⟨a, c⟩
  clear e2
  obtain ⟨g, cur, rfl, hg, hseg0⟩ := seg_of_own hown h0
  have hy1 := hy.below hb1
  have hoff : 0 < ys.length → Off A' g := fun hn => off_below hy hn hg
  clear hown hx hy
  go_wp2_with fail
  go_loopw [6, 7, 8] (fun bv iv _ wr => ∃ (i q : Nat) (zs : List Nat), iv = .int .i64 i ∧ bv = .int .u32 q ∧ i ≤ xs.length ∧ Dif xs ys zs i q ∧ SegTo wr g 0 .u32 99 cur zs ∧ w1.grownBy wr (some g)) (fun _ iv _ _ => xs.length - (intOf iv).toNat)
  case atStart =>
    exact ⟨0, 0, xs, rfl, rfl, Nat.zero_le _, ⟨rfl, ox, fun _ _ => rfl, by simp [Lm.val], by omega⟩, .refl hseg0, World.grownBy.refl _ _⟩
  case round =>
    obtain ⟨i, q, zs, rfl, rfl, hi, hdif, hseg, hgr⟩ := hrel
    have hyr := hy1.grown hgr hoff
    have hq := hdif.borrow
    by_cases hiy : i < ys.length
    · obtain ⟨ad, rfl, _, hcell⟩ := hyr.at_ hiy
      have hcy := hcell i hiy
      clear hcell
      obtain ⟨cur', hs1, hs2, hs3⟩ := id hseg
      have hcz := hs1.cell (j := i) (by rw [hdif.len]; omega)
      have hfz := hs1.frozen (0 + i)
      have hdl := limb_lt hdif.ok i
      have hyl := limb_lt oy i
      obtain ⟨d, hd⟩ : ∃ d, zs.getD i 0 = d := ⟨_, rfl⟩
      obtain ⟨y, hyd⟩ : ∃ y, ys.getD i 0 = y := ⟨_, rfl⟩
      rw [hd] at hcz hdl
      rw [hyd] at hcy hyl
      simp only [Nat.zero_add] at hcz hfz
      have HD := Lib.hid hd
      have HY := Lib.hid hyd
      clear hd hyd hs1 hs2 hs3 hseg0
      go_wp2_with fail
      refine (sub32_any d y q _ hdl hyl hq).mono ?_
      rintro e w' ⟨rfl, r, q', rfl, hr, hq', he⟩
      have HE := Lib.hid he
      clear he
      go_wp2
      go_roundw
      case rel =>
        refine ⟨i + 1, _, _, by go_num, rfl, by omega, dif_step hdif (by omega) HD.out hr hq' HE.out (by rw [Lm.val_take_succ _ _ _ hiy, HY.out]), ?_, ?_⟩
        · simpa using hseg.set_ (j := i) (by rw [hdif.len]; omega) r
        · exact grown_trans hgr (grown_store _ _ _ _)
      case measure => simp [intOf]; omega
    · by_cases hq0 : q = 0
      · subst hq0
        have htr := trim_any (some ⟨g, 0, none⟩) c1 zs wr (by obtain ⟨cur', hs1, _⟩ := hseg; exact hs1.nums) (by rw [hdif.len]; omega) (by rw [hdif.len]; exact hle2)
        rw [hdif.len] at htr
        have HT := Lib.hid htr
        clear htr
        go_wp2_with fail
        refine HT.out.mono ?_
        rintro e w4 ⟨rfl, k, rfl, hk, hz, hp⟩
        have HP := Lib.hid (And.intro hk (And.intro hz hp))
        clear hk hz hp
        go_wp2
        go_ret
        exact limsN_of_trim (fun _ => ⟨_, rfl, hg⟩) ⟨k, rfl, HP.out⟩ (by obtain ⟨cur', hs1, _⟩ := hseg; exact hs1.nums) hdif.ok (by rw [hdif.len]; exact hle2) (dif_end hdif (by omega)) (hb1.trans (grown_below hgr hg hb1.size))
      · have hroom := dif_room hdif (by omega) (by omega) HV.out
        obtain ⟨cur', hs1, hs2, hs3⟩ := id hseg
        have hcz := hs1.cell (j := i) (by rw [hdif.len]; omega)
        have hfz := hs1.frozen (0 + i)
        have hdl := limb_lt hdif.ok i
        obtain ⟨d, hd⟩ : ∃ d, zs.getD i 0 = d := ⟨_, rfl⟩
        rw [hd] at hcz hdl
        simp only [Nat.zero_add] at hcz hfz
        have HD := Lib.hid hd
        have hqp : 0 < q := by omega
        clear hd hs1 hs2 hs3 hseg0 hq0
        have h32 := sub32_any d 0 q wr hdl (by omega) hq
        have H32 := Lib.hid h32
        clear h32
        go_wp2_with fail
        refine H32.out.mono ?_
        rintro e w' ⟨rfl, r, q', rfl, hr, hq', he⟩
        have HE := Lib.hid he
        clear he
        go_wp2
        go_roundw
        case rel =>
          refine ⟨i + 1, _, _, by go_num, rfl, by omega, dif_step hdif (by omega) HD.out hr hq' HE.out (by rw [List.take_of_length_le (by omega), List.take_of_length_le (by omega)]; simp), ?_, ?_⟩
          · simpa using hseg.set_ (j := i) (by rw [hdif.len]; omega) r
          · exact grown_trans hgr (grown_store _ _ _ _)
        case measure => simp [intOf]; omega

set_option maxRecDepth 100000 in
set_option maxHeartbeats 1000000 in
theorem difference_none_new (A : Option Addr) (c : Nat) (A' : Option Addr) (c' : Nat) (w : World) :
    Calls Try.prog 87 #[.slice A 0 c, .slice A' 0 c'] w fun e w' => IsLimsN w w' 0 e := by
  have hcl := clone_any A c [] w (Nums.nil _ _ _) (by simp)
  have HC := Lib.hid hcl
  clear hcl
  go_enter Try.func87, Try.ntmps87
  go_wp2_with fail
  refine HC.out.mono ?_
  rintro e w1 ⟨A1, c1, rfl, hown, hb1⟩
  clear hown HC
  have htr := trim_any A1 c1 [] w1 (Nums.nil _ _ _) (by simp) (by simp)
  have HT := Lib.hid htr
  clear htr
  simp only [List.length_nil]
  go_wp2_with fail
  go_loop [6, 7] (fun q i => q = .int .u32 0 ∧ i = .int .i64 0) (fun _ _ => 0)
  case atStart => exact ⟨rfl, rfl⟩
  case round =>
    obtain ⟨rfl, rfl⟩ := hrel
    go_wp2_with fail
    refine HT.out.mono ?_
    rintro e w4 ⟨rfl, k, rfl, hk, hz, hp⟩
    have HP := Lib.hid (And.intro hk (And.intro hz hp))
    clear hk hz hp
    go_wp2
    go_ret
    exact limsN_of_trim (fun h => absurd h (by simp)) ⟨k, rfl, HP.out⟩ (Nums.nil _ _ _) (Lm.Ok.nil _) (by simp) rfl hb1

theorem difference_new (A : Option Addr) (c : Nat) (xs : List Nat) (A' : Option Addr) (c' : Nat) (ys : List Nat) (w : World) (hx : Nums w .u32 A xs) (hy : Nums w .u32 A' ys)
    (ox : Lm.Ok B32 xs) (oy : Lm.Ok B32 ys) (hl : xs.length ≤ 900000) (hle : ys.length ≤ xs.length) (hv : Lm.val B32 ys ≤ Lm.val B32 xs) :
    Calls Try.prog 87 #[.slice A xs.length c, .slice A' ys.length c'] w fun e w' => IsLimsN w w' (Lm.val B32 xs - Lm.val B32 ys) e := by
  rcases Nat.eq_zero_or_pos xs.length with h0 | h0
  · have hx0 : xs = [] := List.eq_nil_of_length_eq_zero h0
    have hy0 : ys = [] := List.eq_nil_of_length_eq_zero (by omega)
    subst hx0
    subst hy0
    exact difference_none_new A c A' c' w
  · exact difference_some_new A c xs A' c' ys w hx hy ox oy hl hle hv h0

/-- The place of the last digit that is not zero, and one. -/
theorem trim_place : ∀ (xs : List Nat), ∃ k, k ≤ xs.length ∧ ZeroFrom xs k ∧ (0 < k → xs.getD (k - 1) 0 ≠ 0)
  | xs => by
    have go : ∀ m, m ≤ xs.length → ZeroFrom xs m → ∃ k, k ≤ xs.length ∧ ZeroFrom xs k ∧ (0 < k → xs.getD (k - 1) 0 ≠ 0) := by
      intro m
      induction m with
      | zero => intro h hz; exact ⟨0, h, hz, fun h => absurd h (by omega)⟩
      | succ m ih =>
        intro h hz
        by_cases h0 : xs.getD m 0 = 0
        · exact ih (by omega) (by have := zero_down (k := m + 1) (by omega) (by simpa using h0) hz; simpa using this)
        · exact ⟨m + 1, h, hz, fun _ => by simpa using h0⟩
    exact go xs.length (Nat.le_refl _) (fun i h1 h2 => by omega)

theorem trim_place_one {xs : List Nat} {k l : Nat} (hk : k ≤ xs.length ∧ ZeroFrom xs k ∧ (0 < k → xs.getD (k - 1) 0 ≠ 0)) (hl : l ≤ xs.length ∧ ZeroFrom xs l ∧ (0 < l → xs.getD (l - 1) 0 ≠ 0)) : l = k := by
  obtain ⟨a1, a2, a3⟩ := hk
  obtain ⟨b1, b2, b3⟩ := hl
  rcases Nat.lt_trichotomy k l with h | h | h
  · exact absurd (a2 (l - 1) (by omega) (by omega)) (b3 (by omega))
  · exact h.symm
  · exact absurd (b2 (k - 1) (by omega) (by omega)) (a3 (by omega))

/-- trim, its answer named ahead. -/
theorem trim_to (xs : List Nat) : ∃ k, k ≤ xs.length ∧ Lm.val B32 (xs.take k) = Lm.val B32 xs ∧ ∀ (A : Option Addr) (c : Nat) (w : World), Nums w .u32 A xs → xs.length ≤ 1000000 → xs.length ≤ c →
    Calls Try.prog 116 #[.slice A xs.length c] w fun e w' => e = .returned (.slice A k c) ∧ w' = w := by
  obtain ⟨k, hk⟩ := trim_place xs
  refine ⟨k, hk.1, Lm.val_cut k hk.1 hk.2.1, fun A c w h hl hc => (trim_any A c xs w h hl hc).mono ?_⟩
  rintro e w' ⟨hw, l, rfl, hl⟩
  exact ⟨by rw [trim_place_one hk hl], hw.symm⟩

theorem pow_part {B h L s T : Nat} (hh : h ≤ L) (h1 : B ^ h * s ≤ T) (h2 : T < B ^ L) : s < B ^ (L - h) := by
  have e : B ^ L = B ^ h * B ^ (L - h) := by rw [← Nat.pow_add, Nat.add_sub_cancel' hh]
  rw [e] at h2
  exact Nat.lt_of_mul_lt_mul_left (Nat.lt_of_le_of_lt h1 h2)

/-- The row, from h on, grows by k. -/
theorem increase_part (g h L cap : Nat) (cur : Array Value) (zs : List Nat) (A : Option Addr) (c : Nat) (ys : List Nat) (k : Nat) (w : World)
    (hz : Seg w g 0 .u32 99 cur zs) (hy : Limbs w A c ys k) (ho : 0 < ys.length → Off A g) (hzo : Lm.Ok B32 zs) (hL : zs.length = L) (hh : h ≤ L) (hL2 : L ≤ 1000000)
    (hv : Lm.val B32 zs + B32 ^ h * k < B32 ^ L) :
    Calls Try.prog 122 #[.slice (some ⟨g, h, none⟩) (L - h) cap, .slice A ys.length c] w fun e w' => e = .returned (.tuple #[]) ∧
      ∃ cur' zs', Seg w' g 0 .u32 99 cur' zs' ∧ zs'.length = L ∧ Lm.Ok B32 zs' ∧ Lm.val B32 zs' = Lm.val B32 zs + B32 ^ h * k ∧ w.grownBy w' (some g) := by
  have hpl : (partOf zs h (L - h)).length = L - h := part_len (by omega)
  have hpe : partOf zs h (L - h) = zs.drop h := by unfold partOf; rw [List.take_of_length_le (by rw [List.length_drop]; omega)]
  have hs := Lm.val_split B32 zs h (by omega)
  have hfit : Lm.val B32 (partOf zs h (L - h)) + Lm.val B32 ys < B32 ^ (L - h) := by
    rw [hy.2.2.2.2, hpe]
    refine pow_part hh (T := Lm.val B32 zs + B32 ^ h * k) ?_ hv
    rw [Nat.mul_add, hs]
    omega
  have hyl : ys.length ≤ L - h := hy.len (by rw [← hy.2.2.2.2]; exact Nat.lt_of_le_of_lt (Nat.le_add_left _ _) hfit)
  have hi := increase_any g h cap cur (partOf zs h (L - h)) A c ys w (hz.part h (L - h) (by omega)) hy.2.1 ho ((hzo.drop h).take (L - h)) hy.2.2.1 (by rw [hpl]; exact hyl) (by rw [hpl]; omega) (by rw [hpl]; exact hfit)
  rw [hpl] at hi
  refine hi.mono ?_
  rintro e w' ⟨rfl, ps, hp1, hp2, hp3, hp4, hp5⟩
  obtain ⟨cur', hs'⟩ := hp4.join hz (by omega)
  have hdz : zs.drop (h + ps.length) = [] := List.drop_of_length_le (by omega)
  have hput : putPart zs h ps = zs.take h ++ ps := by unfold putPart; rw [hdz, List.append_nil]
  refine ⟨rfl, cur', _, hs', ?_, ?_, ?_, hp5⟩
  · rw [hput, List.length_append, List.length_take]; omega
  · rw [hput]; exact (hzo.take h).append hp2
  · rw [hput, Lm.val_append, hp3, hpe, hy.2.2.2.2, List.length_take, Nat.min_eq_left (by omega), Nat.mul_add, hs]
    omega

/-- Two halves of a number. -/
theorem halves_two {P a b y : Nat} : (a + P * b) * y = a * y + P * (b * y) := by
  rw [Nat.add_mul, Nat.mul_assoc]
/-- Four halves of two numbers, by three products. -/
theorem mixed_is {a b c d : Nat} : (a + b) * (c + d) - (a * c + b * d) = a * d + b * c := by
  rw [Nat.add_mul, Nat.mul_add, Nat.mul_add]
  omega
theorem halves_four {P a b c d : Nat} : (a + P * b) * (c + P * d) = a * c + P * (a * d + b * c) + P * P * (b * d) := by
  rw [Nat.add_mul, Nat.mul_add, Nat.mul_add, Nat.mul_add, Nat.mul_assoc P b c, Nat.mul_left_comm a P d, Nat.mul_mul_mul_comm P b P d]
  omega
/-- A row of L digits in the block that w's next one is: its number is v, and what was there is as it was. -/
structure Half (w wr : World) (L : Nat) (cur : Array Value) (zs : List Nat) (v : Nat) : Prop where
  seg : Seg wr w.heap.size 0 .u32 99 cur zs
  len : zs.length = L
  ok : Lm.Ok B32 zs
  num : Lm.val B32 zs = v
  below : Below w.heap.size w wr
section
variable {w wr w' : World} {L : Nat} {cur : Array Value} {zs : List Nat} {v : Nat}
theorem Half.call (h : Half w wr L cur zs v) (hb : Below wr.heap.size wr w') : Half w w' L cur zs v :=
  ⟨h.seg.keep (hb.block _ h.seg.lt), h.len, h.ok, h.num, below_then h.below hb⟩
theorem Half.drewN (h : Half w wr L cur zs v) (n : Nat) : Half w (wr.drewN n) L cur zs v :=
  ⟨h.seg.drewN n, h.len, h.ok, h.num, ⟨h.below.os, h.below.tape, h.below.output, h.below.size, h.below.block⟩⟩
theorem Half.drew (h : Half w wr L cur zs v) : Half w wr.drew L cur zs v :=
  ⟨⟨h.seg.blk, h.seg.fit, h.seg.at_⟩, h.len, h.ok, h.num, ⟨h.below.os, h.below.tape, h.below.output, h.below.size, h.below.block⟩⟩
theorem Half.value (h : Half w wr L cur zs v) {u : Nat} (e : v = u) : Half w wr L cur zs u := e ▸ h
theorem Half.inc (hf : Half w wr L cur zs v) (o cap : Nat) {A : Option Addr} {c : Nat} {ys : List Nat} {k : Nat} (hh : o ≤ L) (hL : L ≤ 1000000) (hy : Limbs wr A c ys k)
    (ho : 0 < ys.length → ∃ ad, A = some ad ∧ w.heap.size < ad.block) (hv : v + B32 ^ o * k < B32 ^ L) :
    Calls Try.prog 122 #[.slice (some ⟨w.heap.size, o, none⟩) (L - o) cap, .slice A ys.length c] wr fun e w' => e = .returned (.tuple #[]) ∧ (∃ cur' zs', Half w w' L cur' zs' (v + B32 ^ o * k)) ∧ wr.grownBy w' (some w.heap.size) := by
  refine (increase_part w.heap.size o L cap cur zs A c ys k wr hf.seg hy ?_ hf.ok hf.len hh hL (by rw [hf.num]; exact hv)).mono ?_
  · intro h0 ad e
    obtain ⟨ad', e', hlt⟩ := ho h0
    rw [e] at e'
    injection e' with e'
    subst e'
    omega
  · rintro e w' ⟨rfl, cur', zs', h1, h2, h3, h4, h5⟩
    exact ⟨rfl, ⟨cur', zs', h1, h2, h3, by rw [h4, hf.num], hf.below.trans (grown_below h5 (Nat.le_refl _) hf.below.size)⟩, h5⟩
/-- What a call made lies above the row. -/
theorem Half.above {w1 : World} (h : Half w wr L cur zs v) {A : Option Addr} {n : Nat} (hf : 0 < n → ∃ ad, A = some ad ∧ w1.heap.size ≤ ad.block) (hs : wr.heap.size ≤ w1.heap.size) : 0 < n → ∃ ad, A = some ad ∧ w.heap.size < ad.block := fun h0 => by
  obtain ⟨ad, e, hl⟩ := hf h0
  have := h.seg.lt
  exact ⟨ad, e, by omega⟩
theorem Limbs.grownAbove {A : Option Addr} {c n g : Nat} {ys : List Nat} (h : Limbs wr A c ys n) (hg : wr.grownBy w' (some g)) (ho : 0 < ys.length → ∃ ad, A = some ad ∧ g < ad.block) : Limbs w' A c ys n :=
  ⟨h.1, h.2.1.grown hg (fun h0 ad e => by
    obtain ⟨ad', e', hlt⟩ := ho h0
    rw [e] at e'
    injection e' with e'
    subst e'
    omega), h.2.2⟩
end
theorem two_fit {s a b : Nat} (ha : a < B32 ^ s) (hb : b < B32 ^ s) : a + b < B32 ^ (s + 1) := by
  rw [Nat.pow_succ]
  have h4 : B32 ^ s * 2 ≤ B32 ^ s * B32 := Nat.mul_le_mul_left _ (by decide)
  omega
theorem val_lt_up {xs : List Nat} {n s : Nat} (h : Lm.Ok B32 xs) (hl : xs.length = n) (hn : n ≤ s) : Lm.val B32 xs < B32 ^ s :=
  Nat.lt_of_lt_of_le (Lm.val_lt h) (Nat.pow_le_pow_right B32_pos (by omega))
/-- The bounds of the sums of products that a long product is made of. -/
theorem four_bounds {a b c d M : Nat} {P : Nat} (h : (a + P * b) * (c + P * d) < M) : a * c < M ∧ a * c + P * (a * d + b * c) < M ∧ a * c + P * (a * d + b * c) + P * P * (b * d) < M := by
  rw [halves_four] at h
  omega
theorem sum_long_at {n m : Nat} (A : Option Addr) (c : Nat) (xs : List Nat) (A' : Option Addr) (c' : Nat) (ys : List Nat) (w : World) (hx : Nums w .u32 A xs) (hy : Nums w .u32 A' ys)
    (ox : Lm.Ok B32 xs) (oy : Lm.Ok B32 ys) (ln : xs.length = n) (lm : ys.length = m) (hl : n ≤ 900000) (hl' : m ≤ 900000) :
    Calls Try.prog 86 #[.slice A n c, .slice A' m c'] w fun e w' => IsLims w w' (Lm.val B32 xs + Lm.val B32 ys) e := by
  subst ln
  subst lm
  exact sum_any A c xs A' c' ys w hx hy ox oy hl hl'
/-- The three sums' difference, where the sums are limbs. -/
theorem mixed_at {A A' : Option Addr} {c c' a x y : Nat} {xs ys : List Nat} {w : World} (hx : Limbs w A c xs x) (hy : Limbs w A' c' ys y) (hl : xs.length ≤ 900000) (hv : y ≤ x) (he : x - y = a) :
    Calls Try.prog 87 #[.slice A xs.length c, .slice A' ys.length c'] w fun e w' => IsLimsN w w' a e := by
  have h := difference_new A c xs A' c' ys w hx.2.1 hy.2.1 hx.2.2.1 hy.2.2.1 hl (Lm.len_of_val B32_one hx.2.2.1 hy.2.2.2.1 (by rw [hx.2.2.2.2, hy.2.2.2.2]; exact hv)) (by rw [hx.2.2.2.2, hy.2.2.2.2]; exact hv)
  rw [hx.2.2.2.2, hy.2.2.2.2, he] at h
  exact h

/-- product of all numbers whose lengths together are below N. -/
def ProductTo (N : Nat) : Prop := ∀ (A : Option Addr) (c : Nat) (xs : List Nat) (A' : Option Addr) (c' : Nat) (ys : List Nat) (w : World), Nums w .u32 A xs → Nums w .u32 A' ys → Lm.Ok B32 xs → Lm.Ok B32 ys →
  xs.length ≤ c → ys.length ≤ c' → xs.length ≤ 400000 → ys.length ≤ 400000 → xs.length + ys.length < N →
  Calls Try.prog 91 #[.slice A xs.length c, .slice A' ys.length c'] w fun e w' => IsLimsN w w' (Lm.val B32 xs * Lm.val B32 ys) e

theorem product_at {N n m : Nat} (ih : ProductTo N) (A : Option Addr) (c : Nat) (xs : List Nat) (A' : Option Addr) (c' : Nat) (ys : List Nat) (w : World) (hx : Nums w .u32 A xs) (hy : Nums w .u32 A' ys)
    (ox : Lm.Ok B32 xs) (oy : Lm.Ok B32 ys) (ln : xs.length = n) (lm : ys.length = m) (hc : n ≤ c) (hc' : m ≤ c') (hl : n ≤ 400000) (hl' : m ≤ 400000) (hs : n + m < N) :
    Calls Try.prog 91 #[.slice A n c, .slice A' m c'] w fun e w' => IsLimsN w w' (Lm.val B32 xs * Lm.val B32 ys) e := by
  subst ln
  subst lm
  exact ih A c xs A' c' ys w hx hy ox oy hc hc' hl hl' hs
theorem product_limbs {N x y : Nat} (ih : ProductTo N) {A : Option Addr} {c : Nat} {xs : List Nat} {A' : Option Addr} {c' : Nat} {ys : List Nat} {w : World} (hx : Limbs w A c xs x) (hy : Limbs w A' c' ys y)
    (hl : xs.length ≤ 400000) (hl' : ys.length ≤ 400000) (hs : xs.length + ys.length < N) :
    Calls Try.prog 91 #[.slice A xs.length c, .slice A' ys.length c'] w fun e w' => IsLimsN w w' (x * y) e := by
  have h := ih A c xs A' c' ys w hx.2.1 hy.2.1 hx.2.2.1 hy.2.2.1 hx.1 hy.1 hl hl' hs
  rw [hx.2.2.2.2, hy.2.2.2.2] at h
  exact h

theorem product_rows (A : Option Addr) (c : Nat) (xs : List Nat) (A' : Option Addr) (c' : Nat) (ys : List Nat) (w : World) (hx : Nums w .u32 A xs) (hy : Nums w .u32 A' ys)
    (ox : Lm.Ok B32 xs) (oy : Lm.Ok B32 ys) (hl : xs.length ≤ 400000) (hl' : ys.length ≤ 400000) (hsm : xs.length < 40 ∨ ys.length < 40) :
    Calls Try.prog 91 #[.slice A xs.length c, .slice A' ys.length c'] w fun e w' => IsLimsN w w' (Lm.val B32 xs * Lm.val B32 ys) e := by
  by_cases h : xs.length < ys.length
  · have h40 : xs.length < 40 := by omega
    have hr := rows_new A' c' ys A c xs w hy hx oy ox hl' hl
    rw [Nat.mul_comm] at hr
    have HR := Lib.hid hr
    clear hr hsm
    go_enter Try.func91, Try.ntmps91
    go_wp2_with fail
    refine HR.out.mono ?_
    rintro e w' ⟨A3, c3, zs3, rfl, hl3, hb, hf⟩
    go_wp2
    go_ret
    exact ⟨A3, c3, zs3, rfl, hl3, hb, hf⟩
  · have h40 : ys.length < 40 := by omega
    have hr := rows_new A c xs A' c' ys w hx hy ox oy hl hl'
    have HR := Lib.hid hr
    clear hr hsm
    go_enter Try.func91, Try.ntmps91
    go_wp2_with fail
    refine HR.out.mono ?_
    rintro e w' ⟨A3, c3, zs3, rfl, hl3, hb, hf⟩
    go_wp2
    go_ret
    exact ⟨A3, c3, zs3, rfl, hl3, hb, hf⟩

theorem Nums.drop_any {w : World} {k : IntKind} {A : Option Addr} {xs : List Nat} (h : Nums w k A xs) (a : Nat) : ∀ ad, A = some ad → Nums w k (some (ad.add a)) (xs.drop a) := fun ad e => by
  subst e
  exact h.drop a

set_option maxRecDepth 100000 in
set_option maxHeartbeats 4000000 in
theorem product_lo_long (n m s : Nat) (A : Option Addr) (c : Nat) (xs : List Nat) (A' : Option Addr) (c' : Nat) (ys : List Nat) (w : World) (ih : ProductTo (n + m)) (hx : Nums w .u32 A xs) (hy : Nums w .u32 A' ys)
    (ox : Lm.Ok B32 xs) (oy : Lm.Ok B32 ys) (hn : xs.length = n) (hm : ys.length = m) (hc : n ≤ c) (hc' : m ≤ c') (hl : n ≤ 400000) (hle : m ≤ n) (h40 : 40 ≤ m) (hh : (n + 1) / 2 = s) (hmh : m ≤ s) :
    Calls Try.prog 91 #[.slice A n c, .slice A' m c'] w fun e w' => IsLimsN w w' (Lm.val B32 xs * Lm.val B32 ys) e := by
  obtain ⟨ax, rfl, hxb, hxc⟩ := hx.at_ (j := 0) (by omega)
  obtain ⟨ay, rfl, hyb, hyc⟩ := hy.at_ (j := 0) (by omega)
  clear hxb hxc hyb hyc
  have hh1 : 0 < s := by omega
  have hh2 : s < n := by omega
  have hh3 : 2 * s ≤ n + 1 := by omega
  have hh4 : n ≤ 2 * s := by omega
  obtain ⟨i0, hi0, hz0, hz1, hz2⟩ := info_parts Try.info99
  have HI := Lib.hid (And.intro hi0 (And.intro hz0 (And.intro hz1 hz2)))
  have HM := Lib.hid (show i0.bytes * (n + m + 1) ≤ 281474976710656 ∧ n + m + 1 ≤ maxLen from ⟨by rw [hz2]; omega, by unfold maxLen; omega⟩)
  clear hi0 hz0 hz1 hz2
  obtain ⟨ka, hka, hva, hta⟩ := trim_to (xs.take s)
  have hla : (xs.take s).length = s := by rw [List.length_take]; omega
  rw [hla] at hka hta
  have HA := Lib.hid (And.intro hva hta)
  have hq : ((n : Int) + 1) / 2 = (s : Int) := by omega
  have hqt : ((n : Int) + 1).tdiv 2 = (s : Int) := by rw [Int.tdiv_eq_ediv_of_nonneg (by omega)]; exact hq
  have H := Lib.hid (And.intro ih (And.intro hx (And.intro hy (And.intro ox (And.intro oy (And.intro hn (And.intro hm hla)))))))
  have HH := Lib.hid (And.intro hq hqt)
  have hf1 : (s : Int) ≤ (c : Int) := by omega
  have hf2 : (s : Int) ≤ (n : Int) := by omega
  have hf3 : (n : Int) ≤ (c : Int) := by omega
  have hf4 : (s : Int) ≤ 400000 := by omega
  have hf5 : (0 : Int) ≤ (s : Int) := by omega
  clear hva hta ih hx hy ox oy hn hm hh hq hqt hla
  go_enter Try.func91, Try.ntmps91
  go_upto_region 5 with fail
  have hqt := HH.out.2
  have hq := HH.out.1
  go_wp2_with (at_make; go_loud (refine wpList_make_full _ rfl _ _ 22 rfl w.heap.size 99 i0 (.int .u32 0) 1 Try.underlying22 HI.out.1 HI.out.2.1 HI.out.2.2.1 _ _ _ _ (n + m + 1) rfl rfl (by omega) (by omega) HM.out.1 HM.out.2 (Nat.le_refl _) ?_); intro w1 hown1 hg1; rw [made_zero] at hown1; have HB := Lib.hid (own_block hown1); have hb1 : Below w.heap.size w w1 := (Below.refl _ _).grown hg1 (Nat.le_refl _) (fun k hk => by cases hk); clear hown1 hg1)
  have hz0 : Half w w1 (n + m + 1) _ (List.replicate (n + m + 1) 0) 0 := ⟨seg_of_block HB.out, by simp, Lm.Ok.zeros B32_pos _, Lm.val_zeros _ _, hb1⟩
  have hxa := (H.out.2.1.take s).below hb1
  have HX := Lib.hid hxa
  clear hxa
  go_quiet ((go_at_call 116; go_loud (exact Calls.quiet_of_same (HA.out.2 (some ax) c _ (HX.out.drewN _) (by omega) (by omega)))))
  have hz2 := hz0.drewN nq
  obtain ⟨w2, hw2⟩ : ∃ x, w1.drewN nq = x := ⟨_, rfl⟩
  rw [hw2] at hz2 ⊢
  clear hw2 HX HB hz0 hb1
  have la : ((xs.take s).take ka).length = ka := by rw [List.length_take, H.out.2.2.2.2.2.2.2]; omega
  have lb : (xs.drop s).length = n - s := by rw [List.length_drop, H.out.2.2.2.2.2.1]
  have hxs := Lm.val_split B32 xs s (by rw [H.out.2.2.2.2.2.1]; omega)
  rw [← HA.out.1] at hxs
  have hXY : Lm.val B32 xs * Lm.val B32 ys < B32 ^ (n + m + 1) := by
    have h1 := Lm.val_lt H.out.2.2.2.1
    have h2 := Lm.val_lt H.out.2.2.2.2.1
    rw [H.out.2.2.2.2.2.1] at h1
    rw [H.out.2.2.2.2.2.2.1] at h2
    rw [Nat.pow_succ, Nat.pow_add]
    exact Nat.lt_of_lt_of_le (Nat.mul_lt_mul'' h1 h2) (Nat.le_mul_of_pos_right _ B32_pos)
  have oa : Lm.Ok B32 ((xs.take s).take ka) := (H.out.2.2.2.1.take s).take ka
  have ob : Lm.Ok B32 (xs.drop s) := H.out.2.2.2.1.drop s
  have na : Nums w .u32 (some ax) ((xs.take s).take ka) := (H.out.2.1.take s).take ka
  have nb : Nums w .u32 (some (ax.add s)) (xs.drop s) := H.out.2.1.drop s
  obtain ⟨a, ha⟩ : ∃ a, (xs.take s).take ka = a := ⟨_, rfl⟩
  obtain ⟨b, hb⟩ : ∃ a, xs.drop s = a := ⟨_, rfl⟩
  rw [ha] at la hxs oa na
  rw [hb] at lb hxs ob nb
  have HXY := Lib.hid (And.intro hxs hXY)
  clear hxs hXY ha hb
  have HAB := Lib.hid (And.intro la (And.intro lb (And.intro oa (And.intro ob (And.intro na nb)))))
  have lbn : n - s < n := by omega
  clear la lb oa ob na nb
  have hp := H.out.1 (some ax) c a (some ay) c' ys w2 (HAB.out.2.2.2.2.1.below hz2.below) (H.out.2.2.1.below hz2.below) HAB.out.2.2.1 H.out.2.2.2.2.1 (by rw [HAB.out.1]; omega) (by rw [H.out.2.2.2.2.2.2.1]; omega) (by rw [HAB.out.1]; omega) (by rw [H.out.2.2.2.2.2.2.1]; omega) (by rw [HAB.out.1, H.out.2.2.2.2.2.2.1]; omega)
  rw [HAB.out.1, H.out.2.2.2.2.2.2.1] at hp
  have HP := Lib.hid hp
  have HZ2 := Lib.hid hz2
  clear hp hz2
  go_wp2_with fail
  refine HP.out.mono ?_
  rintro e w3 ⟨A3, c3, p3, rfl, hl3, hb3, hf3⟩
  have hz3 := HZ2.out.call hb3
  have hi3 := hz3.inc 0 (n + m + 1) (Nat.zero_le _) (by omega) hl3 (HZ2.out.above hf3 (Nat.le_refl _)) (by rw [Nat.zero_add, Nat.pow_zero, Nat.one_mul]; refine Nat.lt_of_le_of_lt (Nat.mul_le_mul_right _ ?_) HXY.out.2; rw [HXY.out.1]; exact Nat.le_add_right _ _)
  rw [Nat.zero_add, Nat.pow_zero, Nat.one_mul] at hi3
  have HI3 := Lib.hid hi3
  clear hi3 hz3 hl3 hb3 hf3 HP HZ2
  go_wp2_with fail
  refine HI3.out.mono ?_
  rintro e w4 ⟨rfl, ⟨cur4, z4, hz4⟩, _⟩
  have hbd : Lm.val B32 a * Lm.val B32 ys + B32 ^ s * (Lm.val B32 b * Lm.val B32 ys) < B32 ^ (n + m + 1) := by rw [← halves_two, ← HXY.out.1]; exact HXY.out.2
  have HZ4 := Lib.hid (And.intro hz4 hbd)
  clear hz4 HI3 hbd
  have hpb : ∀ wk, Nums wk .u32 (some (ax.add s)) b → Nums wk .u32 (some ay) ys → Calls Try.prog 91 #[.slice (some (ax.add s)) (n - s) (c - s), .slice (some ay) m c'] wk fun e w' => IsLimsN wk w' (Lm.val B32 b * Lm.val B32 ys) e := by
    intro wk k1 k2
    have hp := H.out.1 (some (ax.add s)) (c - s) b (some ay) c' ys wk k1 k2 HAB.out.2.2.2.1 H.out.2.2.2.2.1 (by rw [HAB.out.2.1]; omega) (by rw [H.out.2.2.2.2.2.2.1]; omega) (by rw [HAB.out.2.1]; omega) (by rw [H.out.2.2.2.2.2.2.1]; omega) (by rw [HAB.out.2.1, H.out.2.2.2.2.2.2.1]; omega)
    rw [HAB.out.2.1, H.out.2.2.2.2.2.2.1] at hp
    exact hp
  have HPB := Lib.hid (And.intro hpb (And.intro (HAB.out.2.2.2.2.2.below HZ4.out.1.below) (H.out.2.2.1.below HZ4.out.1.below)))
  clear hpb
  have g1 : (s : Int) ≤ (n : Int) + (m : Int) + 1 := by omega
  have g2 : ¬ n + m + 1 = s := by omega
  have g3 : s ≤ n + m + 1 := by omega
  go_wp2_with fail
  go_region_held3 (fun _ => True) ((trivial)) ((first | (go_at_call 91; go_loud (refine (HPB.out.1 _ (by exact HPB.out.2.1) (by exact HPB.out.2.2)).mono ?_); rintro e w5 ⟨A5, c5, p5, rfl, hl5, hb5, hf5⟩; have hz5 := HZ4.out.1.drew.call hb5; have ha5 := HZ4.out.1.drew.above hf5 (Nat.le_refl _)) | (go_at_call 122; go_loud (refine (hz5.inc s (n + m + 1 - s) (by omega) (by omega) hl5 ha5 HZ4.out.2).mono ?_); rintro e w6 ⟨rfl, ⟨cur6, z6, hz6⟩, _⟩)))
  have hlen := hz6.len
  have htr := trim_any (some ⟨w.heap.size, 0, none⟩) (n + m + 1) z6 w6 hz6.seg.nums (by rw [hlen]; omega) (by rw [hlen]; exact Nat.le_refl _)
  rw [hlen] at htr
  have HT := Lib.hid (And.intro htr hz6)
  clear htr hz6 hlen
  go_wp2_with fail
  refine HT.out.1.mono ?_
  rintro e w99 ⟨rfl, k, rfl, hk, hz, hp⟩
  have HQ := Lib.hid (And.intro hk (And.intro hz hp))
  clear hk hz hp
  go_wp2
  go_ret
  exact limsN_of_trim (fun _ => ⟨_, rfl, Nat.le_refl _⟩) ⟨k, rfl, HQ.out⟩ HT.out.2.seg.nums HT.out.2.ok (by rw [HT.out.2.len]; exact Nat.le_refl _) (by rw [HT.out.2.num, ← halves_two, ← HXY.out.1]) HT.out.2.below

set_option maxRecDepth 100000 in
set_option maxHeartbeats 4000000 in
theorem product_hi_long (n m s : Nat) (A : Option Addr) (c : Nat) (xs : List Nat) (A' : Option Addr) (c' : Nat) (ys : List Nat) (w : World) (ih : ProductTo (n + m)) (hx : Nums w .u32 A xs) (hy : Nums w .u32 A' ys)
    (ox : Lm.Ok B32 xs) (oy : Lm.Ok B32 ys) (hn : xs.length = n) (hm : ys.length = m) (hc : n ≤ c) (hc' : m ≤ c') (hl : n ≤ 400000) (hle : m ≤ n) (h40 : 40 ≤ m) (hh : (n + 1) / 2 = s) (hmh : s < m) :
    Calls Try.prog 91 #[.slice A n c, .slice A' m c'] w fun e w' => IsLimsN w w' (Lm.val B32 xs * Lm.val B32 ys) e := by
  obtain ⟨ax, rfl, hxb, hxc⟩ := hx.at_ (j := 0) (by omega)
  obtain ⟨ay, rfl, hyb, hyc⟩ := hy.at_ (j := 0) (by omega)
  clear hxb hxc hyb hyc
  have hh1 : 0 < s := by omega
  have hh2 : s < n := by omega
  have hh3 : 2 * s ≤ n + 1 := by omega
  have hh4 : n ≤ 2 * s := by omega
  obtain ⟨i0, hi0, hz0, hz1, hz2⟩ := info_parts Try.info99
  have HI := Lib.hid (And.intro hi0 (And.intro hz0 (And.intro hz1 hz2)))
  have HM := Lib.hid (show i0.bytes * (n + m + 1) ≤ 281474976710656 ∧ n + m + 1 ≤ maxLen from ⟨by rw [hz2]; omega, by unfold maxLen; omega⟩)
  clear hi0 hz0 hz1 hz2
  obtain ⟨ka, hka, hva, hta⟩ := trim_to (xs.take s)
  have hla : (xs.take s).length = s := by rw [List.length_take]; omega
  rw [hla] at hka hta
  have HA := Lib.hid (And.intro hva hta)
  have hq : ((n : Int) + 1) / 2 = (s : Int) := by omega
  have hqt : ((n : Int) + 1).tdiv 2 = (s : Int) := by rw [Int.tdiv_eq_ediv_of_nonneg (by omega)]; exact hq
  have H := Lib.hid (And.intro ih (And.intro hx (And.intro hy (And.intro ox (And.intro oy (And.intro hn (And.intro hm hla)))))))
  have HH := Lib.hid (And.intro hq hqt)
  have hf1 : (s : Int) ≤ (c : Int) := by omega
  have hf2 : (s : Int) ≤ (n : Int) := by omega
  have hf3 : (n : Int) ≤ (c : Int) := by omega
  have hf4 : (s : Int) ≤ 400000 := by omega
  have hf5 : (0 : Int) ≤ (s : Int) := by omega
  clear hva hta ih hx hy ox oy hn hm hh hq hqt hla
  go_enter Try.func91, Try.ntmps91
  go_upto_region 5 with fail
  have hqt := HH.out.2
  have hq := HH.out.1
  go_wp2_with (at_make; go_loud (refine wpList_make_full _ rfl _ _ 22 rfl w.heap.size 99 i0 (.int .u32 0) 1 Try.underlying22 HI.out.1 HI.out.2.1 HI.out.2.2.1 _ _ _ _ (n + m + 1) rfl rfl (by omega) (by omega) HM.out.1 HM.out.2 (Nat.le_refl _) ?_); intro w1 hown1 hg1; rw [made_zero] at hown1; have HB := Lib.hid (own_block hown1); have hb1 : Below w.heap.size w w1 := (Below.refl _ _).grown hg1 (Nat.le_refl _) (fun k hk => by cases hk); clear hown1 hg1)
  have hz0 : Half w w1 (n + m + 1) _ (List.replicate (n + m + 1) 0) 0 := ⟨seg_of_block HB.out, by simp, Lm.Ok.zeros B32_pos _, Lm.val_zeros _ _, hb1⟩
  have hxa := (H.out.2.1.take s).below hb1
  have HX := Lib.hid hxa
  clear hxa
  go_quiet ((go_at_call 116; go_loud (exact Calls.quiet_of_same (HA.out.2 (some ax) c _ (HX.out.drewN _) (by omega) (by omega)))))
  have hz2 := hz0.drewN nq
  obtain ⟨w2, hw2⟩ : ∃ x, w1.drewN nq = x := ⟨_, rfl⟩
  rw [hw2] at hz2 ⊢
  clear hw2 HX HB hz0 hb1
  have la : ((xs.take s).take ka).length = ka := by rw [List.length_take, H.out.2.2.2.2.2.2.2]; omega
  have lb : (xs.drop s).length = n - s := by rw [List.length_drop, H.out.2.2.2.2.2.1]
  have hxs := Lm.val_split B32 xs s (by rw [H.out.2.2.2.2.2.1]; omega)
  rw [← HA.out.1] at hxs
  have hXY : Lm.val B32 xs * Lm.val B32 ys < B32 ^ (n + m + 1) := by
    have h1 := Lm.val_lt H.out.2.2.2.1
    have h2 := Lm.val_lt H.out.2.2.2.2.1
    rw [H.out.2.2.2.2.2.1] at h1
    rw [H.out.2.2.2.2.2.2.1] at h2
    rw [Nat.pow_succ, Nat.pow_add]
    exact Nat.lt_of_lt_of_le (Nat.mul_lt_mul'' h1 h2) (Nat.le_mul_of_pos_right _ B32_pos)
  have oa : Lm.Ok B32 ((xs.take s).take ka) := (H.out.2.2.2.1.take s).take ka
  have ob : Lm.Ok B32 (xs.drop s) := H.out.2.2.2.1.drop s
  have na : Nums w .u32 (some ax) ((xs.take s).take ka) := (H.out.2.1.take s).take ka
  have nb : Nums w .u32 (some (ax.add s)) (xs.drop s) := H.out.2.1.drop s
  obtain ⟨a, ha⟩ : ∃ a, (xs.take s).take ka = a := ⟨_, rfl⟩
  obtain ⟨b, hb⟩ : ∃ a, xs.drop s = a := ⟨_, rfl⟩
  rw [ha] at la hxs oa na
  rw [hb] at lb hxs ob nb
  have HXY := Lib.hid (And.intro hxs hXY)
  clear hxs hXY ha hb
  have HAB := Lib.hid (And.intro la (And.intro lb (And.intro oa (And.intro ob (And.intro na nb)))))
  have lbn : n - s < n := by omega
  clear la lb oa ob na nb
  obtain ⟨kc, hkc, hvc, htc⟩ := trim_to (ys.take s)
  have hlc : (ys.take s).length = s := by rw [List.length_take, H.out.2.2.2.2.2.2.1]; omega
  rw [hlc] at hkc htc
  have hys := Lm.val_split B32 ys s (by rw [H.out.2.2.2.2.2.2.1]; omega)
  rw [← hvc] at hys
  have lc : ((ys.take s).take kc).length = kc := by rw [List.length_take, hlc]; omega
  have ld : (ys.drop s).length = m - s := by rw [List.length_drop, H.out.2.2.2.2.2.2.1]
  have oc : Lm.Ok B32 ((ys.take s).take kc) := (H.out.2.2.2.2.1.take s).take kc
  have od : Lm.Ok B32 (ys.drop s) := H.out.2.2.2.2.1.drop s
  have nc : Nums w .u32 (some ay) ((ys.take s).take kc) := (H.out.2.2.1.take s).take kc
  have nd : Nums w .u32 (some (ay.add s)) (ys.drop s) := H.out.2.2.1.drop s
  have hyc : Nums w2 .u32 (some ay) (ys.take s) := (H.out.2.2.1.take s).below hz2.below
  have HTC := Lib.hid (And.intro htc hyc)
  obtain ⟨cc, hcc⟩ : ∃ a, (ys.take s).take kc = a := ⟨_, rfl⟩
  obtain ⟨dd, hdd⟩ : ∃ a, ys.drop s = a := ⟨_, rfl⟩
  rw [hcc] at lc hys oc nc
  rw [hdd] at ld hys od nd
  have HCD := Lib.hid (And.intro lc (And.intro ld (And.intro oc (And.intro od (And.intro nc (And.intro nd hys))))))
  have HZ2 := Lib.hid hz2
  clear hz2 hys lc ld oc od nc nd hyc hcc hdd htc hvc hlc
  have e1 : (s : Int) ≤ (c' : Int) := by omega
  have e2 : (s : Int) ≤ (m : Int) := by omega
  have e3 : (m : Int) ≤ (c' : Int) := by omega
  go_wp2_with fail
  go_quiet ((go_at_call 116; go_loud (exact Calls.quiet_of_same (HTC.out.1 (some ay) c' _ (HTC.out.2.drewN _) (by omega) (by omega)))))
  have hz3 := HZ2.out.drewN nq
  obtain ⟨w3, hw3⟩ : ∃ x, w2.drewN nq = x := ⟨_, rfl⟩
  rw [hw3] at hz3 ⊢
  have va := val_lt_up HAB.out.2.2.1 HAB.out.1 (s := s) (by omega)
  have vb := val_lt_up HAB.out.2.2.2.1 HAB.out.2.1 (s := s) (by omega)
  have vc := val_lt_up HCD.out.2.2.1 HCD.out.1 (s := s) (by omega)
  have vd := val_lt_up HCD.out.2.2.2.1 HCD.out.2.1 (s := s) (by omega)
  have hbd := HXY.out.2
  rw [HXY.out.1, HCD.out.2.2.2.2.2.2] at hbd
  have hbd4 := four_bounds hbd
  have HV := Lib.hid (And.intro (And.intro va vb) (And.intro (And.intro vc vd) hbd4))
  have HZ3 := Lib.hid hz3
  have hp := product_at H.out.1 (some ax) c a (some ay) c' cc w3 (HAB.out.2.2.2.2.1.below hz3.below) (HCD.out.2.2.2.2.1.below hz3.below) HAB.out.2.2.1 HCD.out.2.2.1 HAB.out.1 HCD.out.1 (by omega) (by omega) (by omega) (by omega) (by omega)
  have HP4 := Lib.hid hp
  clear hw3 HZ2 HTC hz3 hp va vb vc vd hbd hbd4
  go_wp2_with fail
  refine HP4.out.mono ?_
  rintro e w4 ⟨A4, c4, p4, rfl, hl4, hb4, hf4⟩
  have hz4 := HZ3.out.call hb4
  have HA4 := Lib.hid (HZ3.out.above hf4 (Nat.le_refl _))
  clear hf4
  have hp := product_at H.out.1 (some (ax.add s)) (c - s) b (some (ay.add s)) (c' - s) dd w4 (HAB.out.2.2.2.2.2.below hz4.below) (HCD.out.2.2.2.2.2.1.below hz4.below) HAB.out.2.2.2.1 HCD.out.2.2.2.1 HAB.out.2.1 HCD.out.2.1 (by omega) (by omega) (by omega) (by omega) (by omega)
  have HP5 := Lib.hid hp
  have H4 := Lib.hid (And.intro hz4 (And.intro HA4.out hl4))
  clear hp hz4 HA4 hl4 hb4 HP4 HZ3
  go_wp2_with fail
  refine HP5.out.mono ?_
  rintro e w5 ⟨A5, c5, p5, rfl, hl5, hb5, hf5⟩
  have hz5 := H4.out.1.call hb5
  have HA5 := Lib.hid (H4.out.1.above hf5 (Nat.le_refl _))
  clear hf5
  have hl4 := H4.out.2.2.below hb5
  have hp := sum_long_at (some ax) c a (some (ax.add s)) (c - s) b w5 (HAB.out.2.2.2.2.1.below hz5.below) (HAB.out.2.2.2.2.2.below hz5.below) HAB.out.2.2.1 HAB.out.2.2.2.1 HAB.out.1 HAB.out.2.1 (by omega) (by omega)
  have HP6 := Lib.hid hp
  have H5 := Lib.hid (And.intro hz5 (And.intro (And.intro H4.out.2.1 HA5.out) (And.intro hl4 hl5)))
  clear hp hz5 HA5 hl4 hl5 hb5 HP5 H4
  go_wp2_with fail
  refine HP6.out.mono ?_
  rintro e w6 ⟨A6, c6, p6, rfl, hl6, hb6⟩
  have hz6 := H5.out.1.call hb6
  have hp := sum_long_at (some ay) c' cc (some (ay.add s)) (c' - s) dd w6 (HCD.out.2.2.2.2.1.below hz6.below) (HCD.out.2.2.2.2.2.1.below hz6.below) HCD.out.2.2.1 HCD.out.2.2.2.1 HCD.out.1 HCD.out.2.1 (by omega) (by omega)
  have HP7 := Lib.hid hp
  have hn6 := hl6.len (two_fit HV.out.1.1 HV.out.1.2)
  have H6 := Lib.hid (And.intro hz6 (And.intro H5.out.2.1 (And.intro (H5.out.2.2.1.below hb6) (And.intro (H5.out.2.2.2.below hb6) (And.intro hl6 hn6)))))
  clear hp hz6 hl6 hb6 hn6 HP6 H5
  go_wp2_with fail
  refine HP7.out.mono ?_
  rintro e w7 ⟨A7, c7, p7, rfl, hl7, hb7⟩
  have hz7 := H6.out.1.call hb7
  have hn7 := hl7.len (two_fit HV.out.2.1.1 HV.out.2.1.2)
  have hn6 := H6.out.2.2.2.2.2
  have hp := product_limbs H.out.1 (H6.out.2.2.2.2.1.below hb7) hl7 (by omega) (by omega) (by omega)
  have HP8 := Lib.hid hp
  have H7 := Lib.hid (And.intro hz7 (And.intro H6.out.2.1 (And.intro (H6.out.2.2.1.below hb7) (And.intro (H6.out.2.2.2.1.below hb7) (And.intro hn6 hn7)))))
  clear hp hz7 hl7 hb7 hn7 hn6 HP7 H6
  go_wp2_with fail
  refine HP8.out.mono ?_
  rintro e w8 ⟨A8, c8, p8, rfl, hl8, hb8, hf8⟩
  clear hf8
  have hz8 := H7.out.1.call hb8
  have hl4 := H7.out.2.2.1.below hb8
  have hl5 := H7.out.2.2.2.1.below hb8
  have hn4 := hl4.len (m := s + s) (by rw [Nat.pow_add]; exact Nat.mul_lt_mul'' HV.out.1.1 HV.out.2.1.1)
  have hn5 := hl5.len (m := s + s) (by rw [Nat.pow_add]; exact Nat.mul_lt_mul'' HV.out.1.2 HV.out.2.1.2)
  have hn8 := hl8.len (m := (s + 1) + (s + 1)) (by rw [Nat.pow_add]; exact Nat.mul_lt_mul'' (two_fit HV.out.1.1 HV.out.1.2) (two_fit HV.out.2.1.1 HV.out.2.1.2))
  have hp := sum_any A4 c4 p4 A5 c5 p5 w8 hl4.2.1 hl5.2.1 hl4.2.2.1 hl5.2.2.1 (by omega) (by omega)
  rw [hl4.2.2.2.2, hl5.2.2.2.2] at hp
  have HP9 := Lib.hid hp
  have H8 := Lib.hid (And.intro hz8 (And.intro H7.out.2.1 (And.intro hl4 (And.intro hl5 (And.intro hl8 hn8)))))
  clear hp hz8 hl4 hl5 hl8 hn8 hn4 hn5 hb8 HP8 H7
  go_wp2_with fail
  refine HP9.out.mono ?_
  rintro e w9 ⟨A9, c9, p9, rfl, hl9, hb9⟩
  have hz9 := H8.out.1.call hb9
  have hn8 := H8.out.2.2.2.2.2
  have hp := mixed_at (H8.out.2.2.2.2.1.below hb9) hl9 (by omega) (by rw [Nat.add_mul, Nat.mul_add, Nat.mul_add]; omega) mixed_is
  have HP10 := Lib.hid hp
  have H9 := Lib.hid (And.intro hz9 (And.intro H8.out.2.1 (And.intro (H8.out.2.2.1.below hb9) (H8.out.2.2.2.1.below hb9))))
  clear hp hz9 hl9 hb9 hn8 HP9 H8
  go_wp2_with fail
  refine HP10.out.mono ?_
  rintro e w10 ⟨A10, c10, p10, rfl, hl10, hb10, hf10⟩
  have hz10 := H9.out.1.call hb10
  have HA10 := Lib.hid (H9.out.1.above hf10 (Nat.le_refl _))
  clear hf10
  have hp := hz10.inc 0 (n + m + 1) (Nat.zero_le _) (by omega) (H9.out.2.2.1.below hb10) H9.out.2.1.1 (by rw [Nat.zero_add, Nat.pow_zero, Nat.one_mul]; exact HV.out.2.2.1)
  rw [Nat.zero_add, Nat.pow_zero, Nat.one_mul] at hp
  have HP11 := Lib.hid hp
  have H10 := Lib.hid (And.intro (And.intro H9.out.2.1.2 HA10.out) (And.intro (H9.out.2.2.2.below hb10) hl10))
  clear hp hz10 HA10 hl10 hb10 HP10 H9
  go_wp2_with fail
  refine HP11.out.mono ?_
  rintro e w11 ⟨rfl, ⟨cur11, z11, hz11⟩, hg11⟩
  have hl5 := H10.out.2.1.grownAbove hg11 H10.out.1.1
  have hl10 := H10.out.2.2.grownAbove hg11 H10.out.1.2
  have hp := hz11.inc s (n + m + 1 - s) (by omega) (by omega) hl10 H10.out.1.2 HV.out.2.2.2.1
  have HP12 := Lib.hid hp
  have H11 := Lib.hid (And.intro H10.out.1 (And.intro hl5 hl10))
  have g1 : (s : Int) ≤ (n : Int) + (m : Int) + 1 := by omega
  have g2 : ¬ n + m + 1 = s := by omega
  have g3 : s ≤ n + m + 1 := by omega
  clear hp hl5 hl10 hg11 hz11 HP11 H10
  go_wp2_with fail
  refine HP12.out.mono ?_
  rintro e w12 ⟨rfl, ⟨cur12, z12, hz12⟩, hg12⟩
  have hl5 := H11.out.2.1.grownAbove hg12 H11.out.1.1
  have hp := hz12.inc (2 * s) (n + m + 1 - 2 * s) (by omega) (by omega) hl5 H11.out.1.1 (by rw [Nat.two_mul, Nat.pow_add]; exact HV.out.2.2.2.2)
  rw [show B32 ^ (2 * s) = B32 ^ s * B32 ^ s by rw [Nat.two_mul, Nat.pow_add]] at hp
  have HP13 := Lib.hid hp
  have g4 : 2 * (s : Int) ≤ (n : Int) + (m : Int) + 1 := by omega
  have g5 : ¬ n + m + 1 = 2 * s := by omega
  have g6 : 2 * s ≤ n + m + 1 := by omega
  have g7 : (2 * (s : Int)).toNat = 2 * s := by omega
  clear hp hl5 hg12 hz12 HP12 H11
  go_wp2_with fail
  refine HP13.out.mono ?_
  rintro e w13 ⟨rfl, ⟨cur13, z13, hz13⟩, hg13⟩
  clear hg13 HP13
  have hlen := hz13.len
  have htr := trim_any (some ⟨w.heap.size, 0, none⟩) (n + m + 1) z13 w13 hz13.seg.nums (by rw [hlen]; omega) (by rw [hlen]; exact Nat.le_refl _)
  rw [hlen] at htr
  have HT := Lib.hid (And.intro htr hz13)
  clear htr hz13 hlen
  go_wp2_with fail
  refine HT.out.1.mono ?_
  rintro e w99 ⟨rfl, k, rfl, hk, hz, hp⟩
  have HQ := Lib.hid (And.intro hk (And.intro hz hp))
  clear hk hz hp
  go_wp2
  go_ret
  exact limsN_of_trim (fun _ => ⟨_, rfl, Nat.le_refl _⟩) ⟨k, rfl, HQ.out⟩ HT.out.2.seg.nums HT.out.2.ok (by rw [HT.out.2.len]; exact Nat.le_refl _) (by rw [HT.out.2.num, HXY.out.1, HCD.out.2.2.2.2.2.2, halves_four]) HT.out.2.below

set_option maxRecDepth 100000 in
set_option maxHeartbeats 4000000 in
theorem product_lo_short (n m s : Nat) (A : Option Addr) (c : Nat) (xs : List Nat) (A' : Option Addr) (c' : Nat) (ys : List Nat) (w : World) (ih : ProductTo (n + m)) (hx : Nums w .u32 A xs) (hy : Nums w .u32 A' ys)
    (ox : Lm.Ok B32 xs) (oy : Lm.Ok B32 ys) (hn : xs.length = n) (hm : ys.length = m) (hc : n ≤ c) (hc' : m ≤ c') (hl : n ≤ 400000) (hle : m < n) (h40 : 40 ≤ m) (hh : (n + 1) / 2 = s) (hmh : m ≤ s) :
    Calls Try.prog 91 #[.slice A' m c', .slice A n c] w fun e w' => IsLimsN w w' (Lm.val B32 xs * Lm.val B32 ys) e := by
  obtain ⟨ax, rfl, hxb, hxc⟩ := hx.at_ (j := 0) (by omega)
  obtain ⟨ay, rfl, hyb, hyc⟩ := hy.at_ (j := 0) (by omega)
  clear hxb hxc hyb hyc
  have hh1 : 0 < s := by omega
  have hh2 : s < n := by omega
  have hh3 : 2 * s ≤ n + 1 := by omega
  have hh4 : n ≤ 2 * s := by omega
  obtain ⟨i0, hi0, hz0, hz1, hz2⟩ := info_parts Try.info99
  have HI := Lib.hid (And.intro hi0 (And.intro hz0 (And.intro hz1 hz2)))
  have HM := Lib.hid (show i0.bytes * (n + m + 1) ≤ 281474976710656 ∧ n + m + 1 ≤ maxLen from ⟨by rw [hz2]; omega, by unfold maxLen; omega⟩)
  clear hi0 hz0 hz1 hz2
  obtain ⟨ka, hka, hva, hta⟩ := trim_to (xs.take s)
  have hla : (xs.take s).length = s := by rw [List.length_take]; omega
  rw [hla] at hka hta
  have HA := Lib.hid (And.intro hva hta)
  have hq : ((n : Int) + 1) / 2 = (s : Int) := by omega
  have hqt : ((n : Int) + 1).tdiv 2 = (s : Int) := by rw [Int.tdiv_eq_ediv_of_nonneg (by omega)]; exact hq
  have H := Lib.hid (And.intro ih (And.intro hx (And.intro hy (And.intro ox (And.intro oy (And.intro hn (And.intro hm hla)))))))
  have HH := Lib.hid (And.intro hq hqt)
  have hf1 : (s : Int) ≤ (c : Int) := by omega
  have hf2 : (s : Int) ≤ (n : Int) := by omega
  have hf3 : (n : Int) ≤ (c : Int) := by omega
  have hf4 : (s : Int) ≤ 400000 := by omega
  have hf5 : (0 : Int) ≤ (s : Int) := by omega
  clear hva hta ih hx hy ox oy hn hm hh hq hqt hla
  go_enter Try.func91, Try.ntmps91
  go_upto_region 5 with fail
  have hqt := HH.out.2
  have hq := HH.out.1
  go_wp2_with (at_make; go_loud (refine wpList_make_full _ rfl _ _ 22 rfl w.heap.size 99 i0 (.int .u32 0) 1 Try.underlying22 HI.out.1 HI.out.2.1 HI.out.2.2.1 _ _ _ _ (n + m + 1) rfl rfl (by omega) (by omega) HM.out.1 HM.out.2 (Nat.le_refl _) ?_); intro w1 hown1 hg1; rw [made_zero] at hown1; have HB := Lib.hid (own_block hown1); have hb1 : Below w.heap.size w w1 := (Below.refl _ _).grown hg1 (Nat.le_refl _) (fun k hk => by cases hk); clear hown1 hg1)
  have hz0 : Half w w1 (n + m + 1) _ (List.replicate (n + m + 1) 0) 0 := ⟨seg_of_block HB.out, by simp, Lm.Ok.zeros B32_pos _, Lm.val_zeros _ _, hb1⟩
  have hxa := (H.out.2.1.take s).below hb1
  have HX := Lib.hid hxa
  clear hxa
  go_quiet ((go_at_call 116; go_loud (exact Calls.quiet_of_same (HA.out.2 (some ax) c _ (HX.out.drewN _) (by omega) (by omega)))))
  have hz2 := hz0.drewN nq
  obtain ⟨w2, hw2⟩ : ∃ x, w1.drewN nq = x := ⟨_, rfl⟩
  rw [hw2] at hz2 ⊢
  clear hw2 HX HB hz0 hb1
  have la : ((xs.take s).take ka).length = ka := by rw [List.length_take, H.out.2.2.2.2.2.2.2]; omega
  have lb : (xs.drop s).length = n - s := by rw [List.length_drop, H.out.2.2.2.2.2.1]
  have hxs := Lm.val_split B32 xs s (by rw [H.out.2.2.2.2.2.1]; omega)
  rw [← HA.out.1] at hxs
  have hXY : Lm.val B32 xs * Lm.val B32 ys < B32 ^ (n + m + 1) := by
    have h1 := Lm.val_lt H.out.2.2.2.1
    have h2 := Lm.val_lt H.out.2.2.2.2.1
    rw [H.out.2.2.2.2.2.1] at h1
    rw [H.out.2.2.2.2.2.2.1] at h2
    rw [Nat.pow_succ, Nat.pow_add]
    exact Nat.lt_of_lt_of_le (Nat.mul_lt_mul'' h1 h2) (Nat.le_mul_of_pos_right _ B32_pos)
  have oa : Lm.Ok B32 ((xs.take s).take ka) := (H.out.2.2.2.1.take s).take ka
  have ob : Lm.Ok B32 (xs.drop s) := H.out.2.2.2.1.drop s
  have na : Nums w .u32 (some ax) ((xs.take s).take ka) := (H.out.2.1.take s).take ka
  have nb : Nums w .u32 (some (ax.add s)) (xs.drop s) := H.out.2.1.drop s
  obtain ⟨a, ha⟩ : ∃ a, (xs.take s).take ka = a := ⟨_, rfl⟩
  obtain ⟨b, hb⟩ : ∃ a, xs.drop s = a := ⟨_, rfl⟩
  rw [ha] at la hxs oa na
  rw [hb] at lb hxs ob nb
  have HXY := Lib.hid (And.intro hxs hXY)
  clear hxs hXY ha hb
  have HAB := Lib.hid (And.intro la (And.intro lb (And.intro oa (And.intro ob (And.intro na nb)))))
  have lbn : n - s < n := by omega
  clear la lb oa ob na nb
  have hp := H.out.1 (some ax) c a (some ay) c' ys w2 (HAB.out.2.2.2.2.1.below hz2.below) (H.out.2.2.1.below hz2.below) HAB.out.2.2.1 H.out.2.2.2.2.1 (by rw [HAB.out.1]; omega) (by rw [H.out.2.2.2.2.2.2.1]; omega) (by rw [HAB.out.1]; omega) (by rw [H.out.2.2.2.2.2.2.1]; omega) (by rw [HAB.out.1, H.out.2.2.2.2.2.2.1]; omega)
  rw [HAB.out.1, H.out.2.2.2.2.2.2.1] at hp
  have HP := Lib.hid hp
  have HZ2 := Lib.hid hz2
  clear hp hz2
  go_wp2_with fail
  refine HP.out.mono ?_
  rintro e w3 ⟨A3, c3, p3, rfl, hl3, hb3, hf3⟩
  have hz3 := HZ2.out.call hb3
  have hi3 := hz3.inc 0 (n + m + 1) (Nat.zero_le _) (by omega) hl3 (HZ2.out.above hf3 (Nat.le_refl _)) (by rw [Nat.zero_add, Nat.pow_zero, Nat.one_mul]; refine Nat.lt_of_le_of_lt (Nat.mul_le_mul_right _ ?_) HXY.out.2; rw [HXY.out.1]; exact Nat.le_add_right _ _)
  rw [Nat.zero_add, Nat.pow_zero, Nat.one_mul] at hi3
  have HI3 := Lib.hid hi3
  clear hi3 hz3 hl3 hb3 hf3 HP HZ2
  go_wp2_with fail
  refine HI3.out.mono ?_
  rintro e w4 ⟨rfl, ⟨cur4, z4, hz4⟩, _⟩
  have hbd : Lm.val B32 a * Lm.val B32 ys + B32 ^ s * (Lm.val B32 b * Lm.val B32 ys) < B32 ^ (n + m + 1) := by rw [← halves_two, ← HXY.out.1]; exact HXY.out.2
  have HZ4 := Lib.hid (And.intro hz4 hbd)
  clear hz4 HI3 hbd
  have hpb : ∀ wk, Nums wk .u32 (some (ax.add s)) b → Nums wk .u32 (some ay) ys → Calls Try.prog 91 #[.slice (some (ax.add s)) (n - s) (c - s), .slice (some ay) m c'] wk fun e w' => IsLimsN wk w' (Lm.val B32 b * Lm.val B32 ys) e := by
    intro wk k1 k2
    have hp := H.out.1 (some (ax.add s)) (c - s) b (some ay) c' ys wk k1 k2 HAB.out.2.2.2.1 H.out.2.2.2.2.1 (by rw [HAB.out.2.1]; omega) (by rw [H.out.2.2.2.2.2.2.1]; omega) (by rw [HAB.out.2.1]; omega) (by rw [H.out.2.2.2.2.2.2.1]; omega) (by rw [HAB.out.2.1, H.out.2.2.2.2.2.2.1]; omega)
    rw [HAB.out.2.1, H.out.2.2.2.2.2.2.1] at hp
    exact hp
  have HPB := Lib.hid (And.intro hpb (And.intro (HAB.out.2.2.2.2.2.below HZ4.out.1.below) (H.out.2.2.1.below HZ4.out.1.below)))
  clear hpb
  have g1 : (s : Int) ≤ (n : Int) + (m : Int) + 1 := by omega
  have g2 : ¬ n + m + 1 = s := by omega
  have g3 : s ≤ n + m + 1 := by omega
  go_wp2_with fail
  go_region_held3 (fun _ => True) ((trivial)) ((first | (go_at_call 91; go_loud (refine (HPB.out.1 _ (by exact HPB.out.2.1) (by exact HPB.out.2.2)).mono ?_); rintro e w5 ⟨A5, c5, p5, rfl, hl5, hb5, hf5⟩; have hz5 := HZ4.out.1.drew.call hb5; have ha5 := HZ4.out.1.drew.above hf5 (Nat.le_refl _)) | (go_at_call 122; go_loud (refine (hz5.inc s (n + m + 1 - s) (by omega) (by omega) hl5 ha5 HZ4.out.2).mono ?_); rintro e w6 ⟨rfl, ⟨cur6, z6, hz6⟩, _⟩)))
  have hlen := hz6.len
  have htr := trim_any (some ⟨w.heap.size, 0, none⟩) (n + m + 1) z6 w6 hz6.seg.nums (by rw [hlen]; omega) (by rw [hlen]; exact Nat.le_refl _)
  rw [hlen] at htr
  have HT := Lib.hid (And.intro htr hz6)
  clear htr hz6 hlen
  go_wp2_with fail
  refine HT.out.1.mono ?_
  rintro e w99 ⟨rfl, k, rfl, hk, hz, hp⟩
  have HQ := Lib.hid (And.intro hk (And.intro hz hp))
  clear hk hz hp
  go_wp2
  go_ret
  exact limsN_of_trim (fun _ => ⟨_, rfl, Nat.le_refl _⟩) ⟨k, rfl, HQ.out⟩ HT.out.2.seg.nums HT.out.2.ok (by rw [HT.out.2.len]; exact Nat.le_refl _) (by rw [HT.out.2.num, ← halves_two, ← HXY.out.1]) HT.out.2.below

set_option maxRecDepth 100000 in
set_option maxHeartbeats 4000000 in
theorem product_hi_short (n m s : Nat) (A : Option Addr) (c : Nat) (xs : List Nat) (A' : Option Addr) (c' : Nat) (ys : List Nat) (w : World) (ih : ProductTo (n + m)) (hx : Nums w .u32 A xs) (hy : Nums w .u32 A' ys)
    (ox : Lm.Ok B32 xs) (oy : Lm.Ok B32 ys) (hn : xs.length = n) (hm : ys.length = m) (hc : n ≤ c) (hc' : m ≤ c') (hl : n ≤ 400000) (hle : m < n) (h40 : 40 ≤ m) (hh : (n + 1) / 2 = s) (hmh : s < m) :
    Calls Try.prog 91 #[.slice A' m c', .slice A n c] w fun e w' => IsLimsN w w' (Lm.val B32 xs * Lm.val B32 ys) e := by
  obtain ⟨ax, rfl, hxb, hxc⟩ := hx.at_ (j := 0) (by omega)
  obtain ⟨ay, rfl, hyb, hyc⟩ := hy.at_ (j := 0) (by omega)
  clear hxb hxc hyb hyc
  have hh1 : 0 < s := by omega
  have hh2 : s < n := by omega
  have hh3 : 2 * s ≤ n + 1 := by omega
  have hh4 : n ≤ 2 * s := by omega
  obtain ⟨i0, hi0, hz0, hz1, hz2⟩ := info_parts Try.info99
  have HI := Lib.hid (And.intro hi0 (And.intro hz0 (And.intro hz1 hz2)))
  have HM := Lib.hid (show i0.bytes * (n + m + 1) ≤ 281474976710656 ∧ n + m + 1 ≤ maxLen from ⟨by rw [hz2]; omega, by unfold maxLen; omega⟩)
  clear hi0 hz0 hz1 hz2
  obtain ⟨ka, hka, hva, hta⟩ := trim_to (xs.take s)
  have hla : (xs.take s).length = s := by rw [List.length_take]; omega
  rw [hla] at hka hta
  have HA := Lib.hid (And.intro hva hta)
  have hq : ((n : Int) + 1) / 2 = (s : Int) := by omega
  have hqt : ((n : Int) + 1).tdiv 2 = (s : Int) := by rw [Int.tdiv_eq_ediv_of_nonneg (by omega)]; exact hq
  have H := Lib.hid (And.intro ih (And.intro hx (And.intro hy (And.intro ox (And.intro oy (And.intro hn (And.intro hm hla)))))))
  have HH := Lib.hid (And.intro hq hqt)
  have hf1 : (s : Int) ≤ (c : Int) := by omega
  have hf2 : (s : Int) ≤ (n : Int) := by omega
  have hf3 : (n : Int) ≤ (c : Int) := by omega
  have hf4 : (s : Int) ≤ 400000 := by omega
  have hf5 : (0 : Int) ≤ (s : Int) := by omega
  clear hva hta ih hx hy ox oy hn hm hh hq hqt hla
  go_enter Try.func91, Try.ntmps91
  go_upto_region 5 with fail
  have hqt := HH.out.2
  have hq := HH.out.1
  go_wp2_with (at_make; go_loud (refine wpList_make_full _ rfl _ _ 22 rfl w.heap.size 99 i0 (.int .u32 0) 1 Try.underlying22 HI.out.1 HI.out.2.1 HI.out.2.2.1 _ _ _ _ (n + m + 1) rfl rfl (by omega) (by omega) HM.out.1 HM.out.2 (Nat.le_refl _) ?_); intro w1 hown1 hg1; rw [made_zero] at hown1; have HB := Lib.hid (own_block hown1); have hb1 : Below w.heap.size w w1 := (Below.refl _ _).grown hg1 (Nat.le_refl _) (fun k hk => by cases hk); clear hown1 hg1)
  have hz0 : Half w w1 (n + m + 1) _ (List.replicate (n + m + 1) 0) 0 := ⟨seg_of_block HB.out, by simp, Lm.Ok.zeros B32_pos _, Lm.val_zeros _ _, hb1⟩
  have hxa := (H.out.2.1.take s).below hb1
  have HX := Lib.hid hxa
  clear hxa
  go_quiet ((go_at_call 116; go_loud (exact Calls.quiet_of_same (HA.out.2 (some ax) c _ (HX.out.drewN _) (by omega) (by omega)))))
  have hz2 := hz0.drewN nq
  obtain ⟨w2, hw2⟩ : ∃ x, w1.drewN nq = x := ⟨_, rfl⟩
  rw [hw2] at hz2 ⊢
  clear hw2 HX HB hz0 hb1
  have la : ((xs.take s).take ka).length = ka := by rw [List.length_take, H.out.2.2.2.2.2.2.2]; omega
  have lb : (xs.drop s).length = n - s := by rw [List.length_drop, H.out.2.2.2.2.2.1]
  have hxs := Lm.val_split B32 xs s (by rw [H.out.2.2.2.2.2.1]; omega)
  rw [← HA.out.1] at hxs
  have hXY : Lm.val B32 xs * Lm.val B32 ys < B32 ^ (n + m + 1) := by
    have h1 := Lm.val_lt H.out.2.2.2.1
    have h2 := Lm.val_lt H.out.2.2.2.2.1
    rw [H.out.2.2.2.2.2.1] at h1
    rw [H.out.2.2.2.2.2.2.1] at h2
    rw [Nat.pow_succ, Nat.pow_add]
    exact Nat.lt_of_lt_of_le (Nat.mul_lt_mul'' h1 h2) (Nat.le_mul_of_pos_right _ B32_pos)
  have oa : Lm.Ok B32 ((xs.take s).take ka) := (H.out.2.2.2.1.take s).take ka
  have ob : Lm.Ok B32 (xs.drop s) := H.out.2.2.2.1.drop s
  have na : Nums w .u32 (some ax) ((xs.take s).take ka) := (H.out.2.1.take s).take ka
  have nb : Nums w .u32 (some (ax.add s)) (xs.drop s) := H.out.2.1.drop s
  obtain ⟨a, ha⟩ : ∃ a, (xs.take s).take ka = a := ⟨_, rfl⟩
  obtain ⟨b, hb⟩ : ∃ a, xs.drop s = a := ⟨_, rfl⟩
  rw [ha] at la hxs oa na
  rw [hb] at lb hxs ob nb
  have HXY := Lib.hid (And.intro hxs hXY)
  clear hxs hXY ha hb
  have HAB := Lib.hid (And.intro la (And.intro lb (And.intro oa (And.intro ob (And.intro na nb)))))
  have lbn : n - s < n := by omega
  clear la lb oa ob na nb
  obtain ⟨kc, hkc, hvc, htc⟩ := trim_to (ys.take s)
  have hlc : (ys.take s).length = s := by rw [List.length_take, H.out.2.2.2.2.2.2.1]; omega
  rw [hlc] at hkc htc
  have hys := Lm.val_split B32 ys s (by rw [H.out.2.2.2.2.2.2.1]; omega)
  rw [← hvc] at hys
  have lc : ((ys.take s).take kc).length = kc := by rw [List.length_take, hlc]; omega
  have ld : (ys.drop s).length = m - s := by rw [List.length_drop, H.out.2.2.2.2.2.2.1]
  have oc : Lm.Ok B32 ((ys.take s).take kc) := (H.out.2.2.2.2.1.take s).take kc
  have od : Lm.Ok B32 (ys.drop s) := H.out.2.2.2.2.1.drop s
  have nc : Nums w .u32 (some ay) ((ys.take s).take kc) := (H.out.2.2.1.take s).take kc
  have nd : Nums w .u32 (some (ay.add s)) (ys.drop s) := H.out.2.2.1.drop s
  have hyc : Nums w2 .u32 (some ay) (ys.take s) := (H.out.2.2.1.take s).below hz2.below
  have HTC := Lib.hid (And.intro htc hyc)
  obtain ⟨cc, hcc⟩ : ∃ a, (ys.take s).take kc = a := ⟨_, rfl⟩
  obtain ⟨dd, hdd⟩ : ∃ a, ys.drop s = a := ⟨_, rfl⟩
  rw [hcc] at lc hys oc nc
  rw [hdd] at ld hys od nd
  have HCD := Lib.hid (And.intro lc (And.intro ld (And.intro oc (And.intro od (And.intro nc (And.intro nd hys))))))
  have HZ2 := Lib.hid hz2
  clear hz2 hys lc ld oc od nc nd hyc hcc hdd htc hvc hlc
  have e1 : (s : Int) ≤ (c' : Int) := by omega
  have e2 : (s : Int) ≤ (m : Int) := by omega
  have e3 : (m : Int) ≤ (c' : Int) := by omega
  go_wp2_with fail
  go_quiet ((go_at_call 116; go_loud (exact Calls.quiet_of_same (HTC.out.1 (some ay) c' _ (HTC.out.2.drewN _) (by omega) (by omega)))))
  have hz3 := HZ2.out.drewN nq
  obtain ⟨w3, hw3⟩ : ∃ x, w2.drewN nq = x := ⟨_, rfl⟩
  rw [hw3] at hz3 ⊢
  have va := val_lt_up HAB.out.2.2.1 HAB.out.1 (s := s) (by omega)
  have vb := val_lt_up HAB.out.2.2.2.1 HAB.out.2.1 (s := s) (by omega)
  have vc := val_lt_up HCD.out.2.2.1 HCD.out.1 (s := s) (by omega)
  have vd := val_lt_up HCD.out.2.2.2.1 HCD.out.2.1 (s := s) (by omega)
  have hbd := HXY.out.2
  rw [HXY.out.1, HCD.out.2.2.2.2.2.2] at hbd
  have hbd4 := four_bounds hbd
  have HV := Lib.hid (And.intro (And.intro va vb) (And.intro (And.intro vc vd) hbd4))
  have HZ3 := Lib.hid hz3
  have hp := product_at H.out.1 (some ax) c a (some ay) c' cc w3 (HAB.out.2.2.2.2.1.below hz3.below) (HCD.out.2.2.2.2.1.below hz3.below) HAB.out.2.2.1 HCD.out.2.2.1 HAB.out.1 HCD.out.1 (by omega) (by omega) (by omega) (by omega) (by omega)
  have HP4 := Lib.hid hp
  clear hw3 HZ2 HTC hz3 hp va vb vc vd hbd hbd4
  go_wp2_with fail
  refine HP4.out.mono ?_
  rintro e w4 ⟨A4, c4, p4, rfl, hl4, hb4, hf4⟩
  have hz4 := HZ3.out.call hb4
  have HA4 := Lib.hid (HZ3.out.above hf4 (Nat.le_refl _))
  clear hf4
  have hp := product_at H.out.1 (some (ax.add s)) (c - s) b (some (ay.add s)) (c' - s) dd w4 (HAB.out.2.2.2.2.2.below hz4.below) (HCD.out.2.2.2.2.2.1.below hz4.below) HAB.out.2.2.2.1 HCD.out.2.2.2.1 HAB.out.2.1 HCD.out.2.1 (by omega) (by omega) (by omega) (by omega) (by omega)
  have HP5 := Lib.hid hp
  have H4 := Lib.hid (And.intro hz4 (And.intro HA4.out hl4))
  clear hp hz4 HA4 hl4 hb4 HP4 HZ3
  go_wp2_with fail
  refine HP5.out.mono ?_
  rintro e w5 ⟨A5, c5, p5, rfl, hl5, hb5, hf5⟩
  have hz5 := H4.out.1.call hb5
  have HA5 := Lib.hid (H4.out.1.above hf5 (Nat.le_refl _))
  clear hf5
  have hl4 := H4.out.2.2.below hb5
  have hp := sum_long_at (some ax) c a (some (ax.add s)) (c - s) b w5 (HAB.out.2.2.2.2.1.below hz5.below) (HAB.out.2.2.2.2.2.below hz5.below) HAB.out.2.2.1 HAB.out.2.2.2.1 HAB.out.1 HAB.out.2.1 (by omega) (by omega)
  have HP6 := Lib.hid hp
  have H5 := Lib.hid (And.intro hz5 (And.intro (And.intro H4.out.2.1 HA5.out) (And.intro hl4 hl5)))
  clear hp hz5 HA5 hl4 hl5 hb5 HP5 H4
  go_wp2_with fail
  refine HP6.out.mono ?_
  rintro e w6 ⟨A6, c6, p6, rfl, hl6, hb6⟩
  have hz6 := H5.out.1.call hb6
  have hp := sum_long_at (some ay) c' cc (some (ay.add s)) (c' - s) dd w6 (HCD.out.2.2.2.2.1.below hz6.below) (HCD.out.2.2.2.2.2.1.below hz6.below) HCD.out.2.2.1 HCD.out.2.2.2.1 HCD.out.1 HCD.out.2.1 (by omega) (by omega)
  have HP7 := Lib.hid hp
  have hn6 := hl6.len (two_fit HV.out.1.1 HV.out.1.2)
  have H6 := Lib.hid (And.intro hz6 (And.intro H5.out.2.1 (And.intro (H5.out.2.2.1.below hb6) (And.intro (H5.out.2.2.2.below hb6) (And.intro hl6 hn6)))))
  clear hp hz6 hl6 hb6 hn6 HP6 H5
  go_wp2_with fail
  refine HP7.out.mono ?_
  rintro e w7 ⟨A7, c7, p7, rfl, hl7, hb7⟩
  have hz7 := H6.out.1.call hb7
  have hn7 := hl7.len (two_fit HV.out.2.1.1 HV.out.2.1.2)
  have hn6 := H6.out.2.2.2.2.2
  have hp := product_limbs H.out.1 (H6.out.2.2.2.2.1.below hb7) hl7 (by omega) (by omega) (by omega)
  have HP8 := Lib.hid hp
  have H7 := Lib.hid (And.intro hz7 (And.intro H6.out.2.1 (And.intro (H6.out.2.2.1.below hb7) (And.intro (H6.out.2.2.2.1.below hb7) (And.intro hn6 hn7)))))
  clear hp hz7 hl7 hb7 hn7 hn6 HP7 H6
  go_wp2_with fail
  refine HP8.out.mono ?_
  rintro e w8 ⟨A8, c8, p8, rfl, hl8, hb8, hf8⟩
  clear hf8
  have hz8 := H7.out.1.call hb8
  have hl4 := H7.out.2.2.1.below hb8
  have hl5 := H7.out.2.2.2.1.below hb8
  have hn4 := hl4.len (m := s + s) (by rw [Nat.pow_add]; exact Nat.mul_lt_mul'' HV.out.1.1 HV.out.2.1.1)
  have hn5 := hl5.len (m := s + s) (by rw [Nat.pow_add]; exact Nat.mul_lt_mul'' HV.out.1.2 HV.out.2.1.2)
  have hn8 := hl8.len (m := (s + 1) + (s + 1)) (by rw [Nat.pow_add]; exact Nat.mul_lt_mul'' (two_fit HV.out.1.1 HV.out.1.2) (two_fit HV.out.2.1.1 HV.out.2.1.2))
  have hp := sum_any A4 c4 p4 A5 c5 p5 w8 hl4.2.1 hl5.2.1 hl4.2.2.1 hl5.2.2.1 (by omega) (by omega)
  rw [hl4.2.2.2.2, hl5.2.2.2.2] at hp
  have HP9 := Lib.hid hp
  have H8 := Lib.hid (And.intro hz8 (And.intro H7.out.2.1 (And.intro hl4 (And.intro hl5 (And.intro hl8 hn8)))))
  clear hp hz8 hl4 hl5 hl8 hn8 hn4 hn5 hb8 HP8 H7
  go_wp2_with fail
  refine HP9.out.mono ?_
  rintro e w9 ⟨A9, c9, p9, rfl, hl9, hb9⟩
  have hz9 := H8.out.1.call hb9
  have hn8 := H8.out.2.2.2.2.2
  have hp := mixed_at (H8.out.2.2.2.2.1.below hb9) hl9 (by omega) (by rw [Nat.add_mul, Nat.mul_add, Nat.mul_add]; omega) mixed_is
  have HP10 := Lib.hid hp
  have H9 := Lib.hid (And.intro hz9 (And.intro H8.out.2.1 (And.intro (H8.out.2.2.1.below hb9) (H8.out.2.2.2.1.below hb9))))
  clear hp hz9 hl9 hb9 hn8 HP9 H8
  go_wp2_with fail
  refine HP10.out.mono ?_
  rintro e w10 ⟨A10, c10, p10, rfl, hl10, hb10, hf10⟩
  have hz10 := H9.out.1.call hb10
  have HA10 := Lib.hid (H9.out.1.above hf10 (Nat.le_refl _))
  clear hf10
  have hp := hz10.inc 0 (n + m + 1) (Nat.zero_le _) (by omega) (H9.out.2.2.1.below hb10) H9.out.2.1.1 (by rw [Nat.zero_add, Nat.pow_zero, Nat.one_mul]; exact HV.out.2.2.1)
  rw [Nat.zero_add, Nat.pow_zero, Nat.one_mul] at hp
  have HP11 := Lib.hid hp
  have H10 := Lib.hid (And.intro (And.intro H9.out.2.1.2 HA10.out) (And.intro (H9.out.2.2.2.below hb10) hl10))
  clear hp hz10 HA10 hl10 hb10 HP10 H9
  go_wp2_with fail
  refine HP11.out.mono ?_
  rintro e w11 ⟨rfl, ⟨cur11, z11, hz11⟩, hg11⟩
  have hl5 := H10.out.2.1.grownAbove hg11 H10.out.1.1
  have hl10 := H10.out.2.2.grownAbove hg11 H10.out.1.2
  have hp := hz11.inc s (n + m + 1 - s) (by omega) (by omega) hl10 H10.out.1.2 HV.out.2.2.2.1
  have HP12 := Lib.hid hp
  have H11 := Lib.hid (And.intro H10.out.1 (And.intro hl5 hl10))
  have g1 : (s : Int) ≤ (n : Int) + (m : Int) + 1 := by omega
  have g2 : ¬ n + m + 1 = s := by omega
  have g3 : s ≤ n + m + 1 := by omega
  clear hp hl5 hl10 hg11 hz11 HP11 H10
  go_wp2_with fail
  refine HP12.out.mono ?_
  rintro e w12 ⟨rfl, ⟨cur12, z12, hz12⟩, hg12⟩
  have hl5 := H11.out.2.1.grownAbove hg12 H11.out.1.1
  have hp := hz12.inc (2 * s) (n + m + 1 - 2 * s) (by omega) (by omega) hl5 H11.out.1.1 (by rw [Nat.two_mul, Nat.pow_add]; exact HV.out.2.2.2.2)
  rw [show B32 ^ (2 * s) = B32 ^ s * B32 ^ s by rw [Nat.two_mul, Nat.pow_add]] at hp
  have HP13 := Lib.hid hp
  have g4 : 2 * (s : Int) ≤ (n : Int) + (m : Int) + 1 := by omega
  have g5 : ¬ n + m + 1 = 2 * s := by omega
  have g6 : 2 * s ≤ n + m + 1 := by omega
  have g7 : (2 * (s : Int)).toNat = 2 * s := by omega
  clear hp hl5 hg12 hz12 HP12 H11
  go_wp2_with fail
  refine HP13.out.mono ?_
  rintro e w13 ⟨rfl, ⟨cur13, z13, hz13⟩, hg13⟩
  clear hg13 HP13
  have hlen := hz13.len
  have htr := trim_any (some ⟨w.heap.size, 0, none⟩) (n + m + 1) z13 w13 hz13.seg.nums (by rw [hlen]; omega) (by rw [hlen]; exact Nat.le_refl _)
  rw [hlen] at htr
  have HT := Lib.hid (And.intro htr hz13)
  clear htr hz13 hlen
  go_wp2_with fail
  refine HT.out.1.mono ?_
  rintro e w99 ⟨rfl, k, rfl, hk, hz, hp⟩
  have HQ := Lib.hid (And.intro hk (And.intro hz hp))
  clear hk hz hp
  go_wp2
  go_ret
  exact limsN_of_trim (fun _ => ⟨_, rfl, Nat.le_refl _⟩) ⟨k, rfl, HQ.out⟩ HT.out.2.seg.nums HT.out.2.ok (by rw [HT.out.2.len]; exact Nat.le_refl _) (by rw [HT.out.2.num, HXY.out.1, HCD.out.2.2.2.2.2.2, halves_four]) HT.out.2.below

theorem product_all : ∀ N, ProductTo N := by
  intro N
  induction N with
  | zero => intro A c xs A' c' ys w _ _ _ _ _ _ _ _ h; exact absurd h (Nat.not_lt_zero _)
  | succ N ih =>
    intro A c xs A' c' ys w hx hy ox oy hc hc' hl hl' hs
    by_cases h0 : xs.length + ys.length < N
    · exact ih A c xs A' c' ys w hx hy ox oy hc hc' hl hl' h0
    · have hN : N = xs.length + ys.length := by omega
      subst hN
      by_cases h40 : xs.length < 40 ∨ ys.length < 40
      · exact product_rows A c xs A' c' ys w hx hy ox oy hl hl' h40
      · by_cases hle : ys.length ≤ xs.length
        · by_cases hm : ys.length ≤ (xs.length + 1) / 2
          · exact product_lo_long _ _ _ A c xs A' c' ys w ih hx hy ox oy rfl rfl hc hc' hl hle (by omega) rfl hm
          · exact product_hi_long _ _ _ A c xs A' c' ys w ih hx hy ox oy rfl rfl hc hc' hl hle (by omega) rfl (by omega)
        · rw [Nat.add_comm] at ih
          rw [Nat.mul_comm]
          by_cases hm : xs.length ≤ (ys.length + 1) / 2
          · exact product_lo_short _ _ _ A' c' ys A c xs w ih hy hx oy ox rfl rfl hc' hc hl' (by omega) (by omega) rfl hm
          · exact product_hi_short _ _ _ A' c' ys A c xs w ih hy hx oy ox rfl rfl hc' hc hl' (by omega) (by omega) rfl (by omega)

/-- product of any two numbers. -/
theorem product_any {A : Option Addr} {c : Nat} {xs : List Nat} {A' : Option Addr} {c' : Nat} {ys : List Nat} {w : World} {x y : Nat} (hx : Limbs w A c xs x) (hy : Limbs w A' c' ys y)
    (hl : xs.length ≤ 400000) (hl' : ys.length ≤ 400000) :
    Calls Try.prog 91 #[.slice A xs.length c, .slice A' ys.length c'] w fun e w' => IsLimsN w w' (x * y) e :=
  product_limbs (product_all (xs.length + ys.length + 1)) hx hy hl hl' (Nat.lt_succ_self _)

theorem product_nums (A : Option Addr) (c : Nat) (xs : List Nat) (A' : Option Addr) (c' : Nat) (ys : List Nat) (w : World) (hx : Nums w .u32 A xs) (hy : Nums w .u32 A' ys)
    (ox : Lm.Ok B32 xs) (oy : Lm.Ok B32 ys) (hc : xs.length ≤ c) (hc' : ys.length ≤ c') (hl : xs.length ≤ 400000) (hl' : ys.length ≤ 400000) :
    Calls Try.prog 91 #[.slice A xs.length c, .slice A' ys.length c'] w fun e w' => IsLims w w' (Lm.val B32 xs * Lm.val B32 ys) e :=
  (product_all (xs.length + ys.length + 1) A c xs A' c' ys w hx hy ox oy hc hc' hl hl' (Nat.lt_succ_self _)).mono fun _ _ h => h.lims

set_option maxRecDepth 100000 in
set_option maxHeartbeats 2000000 in
theorem mulA_false_false (A1 : Option Addr) (c1 : Nat) (zs1 : List Nat) (A2 : Option Addr) (c2 : Nat) (zs2 : List Nat) (x y : Int) (w : World) (hs1 : SignOf false x) (hs2 : SignOf false y)
    (h1 : Limbs w A1 c1 zs1 x.natAbs) (h2 : Limbs w A2 c2 zs2 y.natAbs) (hl1 : zs1.length ≤ 400000) (hl2 : zs2.length ≤ 400000) :
    Calls Try.prog 42 #[.agg #[.bool false, .slice A1 zs1.length c1], .agg #[.bool false, .slice A2 zs2.length c2]] w fun e w' => IsInt w w' (x * y) e := by
  have hbb := begun2_below w (.bool false) (.slice A1 zs1.length c1) (.bool false) (.slice A2 zs2.length c2) 28
  have hx0 := begun2_x w (.bool false) (.slice A1 zs1.length c1) (.bool false) (.slice A2 zs2.length c2) 28
  have hy0 := begun2_y w (.bool false) (.slice A1 zs1.length c1) (.bool false) (.slice A2 zs2.length c2) 28
  have hr0 := begun2_r w (.bool false) (.slice A1 zs1.length c1) (.bool false) (.slice A2 zs2.length c2) 28
  have hsz := begun2_size w (.bool false) (.slice A1 zs1.length c1) (.bool false) (.slice A2 zs2.length c2) 28
  have hn1 := h1.2.1.below hbb
  have hn2 := h2.2.1.below hbb
  have H := Lib.hid (And.intro hbb (And.intro hx0 (And.intro hy0 (And.intro hr0 hsz))))
  clear hbb hx0 hy0 hr0 hsz
  go_enter Try.func42, Try.ntmps42
  go_wp2_with fail
  go_region_held3 (fun w' => w'.cell? ⟨w.heap.size, 0, none⟩ = some (.bool false) ∧ w'.cell? ⟨w.heap.size, 1, none⟩ = some (.slice A1 zs1.length c1) ∧ w'.cell? ⟨w.heap.size + 1, 0, none⟩ = some (.bool false) ∧ w'.cell? ⟨w.heap.size + 1, 1, none⟩ = some (.slice A2 zs2.length c2))
    (((try dsimp only); (repeat' apply And.intro) <;> (first | (with_reducible assumption) | go_keep)))
    ((first | (go_at_call 91; refine (product_nums A1 c1 zs1 A2 c2 zs2 _ (by exact hn1) (by exact hn2) h1.2.2.1 h2.2.2.1 h1.1 h2.1 hl1 hl2).mono ?_; rintro e w1 ⟨A3, c3, zs3, rfl, hl3, hb1⟩; have k1x := H.out.2.1.step hb1 rfl (by rw [H.out.2.2.2.2]; omega); have k1y := H.out.2.2.1.step hb1 rfl (by rw [H.out.2.2.2.2]; omega); have k1r := H.out.2.2.2.1.step hb1 rfl (by rw [H.out.2.2.2.2]; omega); obtain ⟨px0, px1⟩ := id k1x; obtain ⟨py0, py1⟩ := id k1y; have hle3 := mul_len hl3 h1.2.2.1 h2.2.2.1 hl1 hl2; have hs1' : w.heap.size + 3 ≤ w1.heap.size := Nat.le_trans (Nat.le_of_eq H.out.2.2.2.2.symm) hb1.size) | (go_at_call 70; refine (signed_to false A3 c3 zs3 (x * y) _ (by exact hl3.2.1) hl3.2.2.1 hle3 hl3.1 (by rw [hl3.2.2.2.2, h1.2.2.2.2, h2.2.2.2.2]; exact mul_parts hs1 hs2 rfl)).mono ?_; rintro e w2 ⟨v2, rfl, ⟨b4, A4, c4, zs4, rfl, hsg4, hl4⟩, hb2⟩; have k2x := k1x.step hb2 rfl (by omega); have k2y := k1y.step hb2 rfl (by omega); have k2r := k1r.step hb2 rfl (by omega); obtain ⟨hx0, hx1⟩ := id k2x; obtain ⟨hy0, hy1⟩ := id k2y; obtain ⟨⟨hr0, hr1⟩, hf0, hf1⟩ := id k2r; obtain ⟨qx0, qx1⟩ := k2x.far (r := w.heap.size + 1 + 1) (by omega) (.bool b4) (.slice A4 zs4.length c4); obtain ⟨qy0, qy1⟩ := k2y.far (r := w.heap.size + 1 + 1) (by omega) (.bool b4) (.slice A4 zs4.length c4))))
  go_wp2
  refine bodyPost_ret (v := .agg #[.bool b4, .slice A4 zs4.length c4]) (by simp [results, Try.results42, go_sem, hr0, hr1]) rfl ?_
  exact res_stored k2r hsg4 hl4 (below_then (below_then H.out.1.drew hb1) hb2) (by omega)

set_option maxRecDepth 100000 in
set_option maxHeartbeats 2000000 in
theorem mulA_false_true (A1 : Option Addr) (c1 : Nat) (zs1 : List Nat) (A2 : Option Addr) (c2 : Nat) (zs2 : List Nat) (x y : Int) (w : World) (hs1 : SignOf false x) (hs2 : SignOf true y)
    (h1 : Limbs w A1 c1 zs1 x.natAbs) (h2 : Limbs w A2 c2 zs2 y.natAbs) (hl1 : zs1.length ≤ 400000) (hl2 : zs2.length ≤ 400000) :
    Calls Try.prog 42 #[.agg #[.bool false, .slice A1 zs1.length c1], .agg #[.bool true, .slice A2 zs2.length c2]] w fun e w' => IsInt w w' (x * y) e := by
  have hbb := begun2_below w (.bool false) (.slice A1 zs1.length c1) (.bool true) (.slice A2 zs2.length c2) 28
  have hx0 := begun2_x w (.bool false) (.slice A1 zs1.length c1) (.bool true) (.slice A2 zs2.length c2) 28
  have hy0 := begun2_y w (.bool false) (.slice A1 zs1.length c1) (.bool true) (.slice A2 zs2.length c2) 28
  have hr0 := begun2_r w (.bool false) (.slice A1 zs1.length c1) (.bool true) (.slice A2 zs2.length c2) 28
  have hsz := begun2_size w (.bool false) (.slice A1 zs1.length c1) (.bool true) (.slice A2 zs2.length c2) 28
  have hn1 := h1.2.1.below hbb
  have hn2 := h2.2.1.below hbb
  have H := Lib.hid (And.intro hbb (And.intro hx0 (And.intro hy0 (And.intro hr0 hsz))))
  clear hbb hx0 hy0 hr0 hsz
  go_enter Try.func42, Try.ntmps42
  go_wp2_with fail
  go_region_held3 (fun w' => w'.cell? ⟨w.heap.size, 0, none⟩ = some (.bool false) ∧ w'.cell? ⟨w.heap.size, 1, none⟩ = some (.slice A1 zs1.length c1) ∧ w'.cell? ⟨w.heap.size + 1, 0, none⟩ = some (.bool true) ∧ w'.cell? ⟨w.heap.size + 1, 1, none⟩ = some (.slice A2 zs2.length c2))
    (((try dsimp only); (repeat' apply And.intro) <;> (first | (with_reducible assumption) | go_keep)))
    ((first | (go_at_call 91; refine (product_nums A1 c1 zs1 A2 c2 zs2 _ (by exact hn1) (by exact hn2) h1.2.2.1 h2.2.2.1 h1.1 h2.1 hl1 hl2).mono ?_; rintro e w1 ⟨A3, c3, zs3, rfl, hl3, hb1⟩; have k1x := H.out.2.1.step hb1 rfl (by rw [H.out.2.2.2.2]; omega); have k1y := H.out.2.2.1.step hb1 rfl (by rw [H.out.2.2.2.2]; omega); have k1r := H.out.2.2.2.1.step hb1 rfl (by rw [H.out.2.2.2.2]; omega); obtain ⟨px0, px1⟩ := id k1x; obtain ⟨py0, py1⟩ := id k1y; have hle3 := mul_len hl3 h1.2.2.1 h2.2.2.1 hl1 hl2; have hs1' : w.heap.size + 3 ≤ w1.heap.size := Nat.le_trans (Nat.le_of_eq H.out.2.2.2.2.symm) hb1.size) | (go_at_call 70; refine (signed_to true A3 c3 zs3 (x * y) _ (by exact hl3.2.1) hl3.2.2.1 hle3 hl3.1 (by rw [hl3.2.2.2.2, h1.2.2.2.2, h2.2.2.2.2]; exact mul_parts hs1 hs2 rfl)).mono ?_; rintro e w2 ⟨v2, rfl, ⟨b4, A4, c4, zs4, rfl, hsg4, hl4⟩, hb2⟩; have k2x := k1x.step hb2 rfl (by omega); have k2y := k1y.step hb2 rfl (by omega); have k2r := k1r.step hb2 rfl (by omega); obtain ⟨hx0, hx1⟩ := id k2x; obtain ⟨hy0, hy1⟩ := id k2y; obtain ⟨⟨hr0, hr1⟩, hf0, hf1⟩ := id k2r; obtain ⟨qx0, qx1⟩ := k2x.far (r := w.heap.size + 1 + 1) (by omega) (.bool b4) (.slice A4 zs4.length c4); obtain ⟨qy0, qy1⟩ := k2y.far (r := w.heap.size + 1 + 1) (by omega) (.bool b4) (.slice A4 zs4.length c4))))
  go_wp2
  refine bodyPost_ret (v := .agg #[.bool b4, .slice A4 zs4.length c4]) (by simp [results, Try.results42, go_sem, hr0, hr1]) rfl ?_
  exact res_stored k2r hsg4 hl4 (below_then (below_then H.out.1.drew hb1) hb2) (by omega)

set_option maxRecDepth 100000 in
set_option maxHeartbeats 2000000 in
theorem mulA_true_false (A1 : Option Addr) (c1 : Nat) (zs1 : List Nat) (A2 : Option Addr) (c2 : Nat) (zs2 : List Nat) (x y : Int) (w : World) (hs1 : SignOf true x) (hs2 : SignOf false y)
    (h1 : Limbs w A1 c1 zs1 x.natAbs) (h2 : Limbs w A2 c2 zs2 y.natAbs) (hl1 : zs1.length ≤ 400000) (hl2 : zs2.length ≤ 400000) :
    Calls Try.prog 42 #[.agg #[.bool true, .slice A1 zs1.length c1], .agg #[.bool false, .slice A2 zs2.length c2]] w fun e w' => IsInt w w' (x * y) e := by
  have hbb := begun2_below w (.bool true) (.slice A1 zs1.length c1) (.bool false) (.slice A2 zs2.length c2) 28
  have hx0 := begun2_x w (.bool true) (.slice A1 zs1.length c1) (.bool false) (.slice A2 zs2.length c2) 28
  have hy0 := begun2_y w (.bool true) (.slice A1 zs1.length c1) (.bool false) (.slice A2 zs2.length c2) 28
  have hr0 := begun2_r w (.bool true) (.slice A1 zs1.length c1) (.bool false) (.slice A2 zs2.length c2) 28
  have hsz := begun2_size w (.bool true) (.slice A1 zs1.length c1) (.bool false) (.slice A2 zs2.length c2) 28
  have hn1 := h1.2.1.below hbb
  have hn2 := h2.2.1.below hbb
  have H := Lib.hid (And.intro hbb (And.intro hx0 (And.intro hy0 (And.intro hr0 hsz))))
  clear hbb hx0 hy0 hr0 hsz
  go_enter Try.func42, Try.ntmps42
  go_wp2_with fail
  go_region_held3 (fun w' => w'.cell? ⟨w.heap.size, 0, none⟩ = some (.bool true) ∧ w'.cell? ⟨w.heap.size, 1, none⟩ = some (.slice A1 zs1.length c1) ∧ w'.cell? ⟨w.heap.size + 1, 0, none⟩ = some (.bool false) ∧ w'.cell? ⟨w.heap.size + 1, 1, none⟩ = some (.slice A2 zs2.length c2))
    (((try dsimp only); (repeat' apply And.intro) <;> (first | (with_reducible assumption) | go_keep)))
    ((first | (go_at_call 91; refine (product_nums A1 c1 zs1 A2 c2 zs2 _ (by exact hn1) (by exact hn2) h1.2.2.1 h2.2.2.1 h1.1 h2.1 hl1 hl2).mono ?_; rintro e w1 ⟨A3, c3, zs3, rfl, hl3, hb1⟩; have k1x := H.out.2.1.step hb1 rfl (by rw [H.out.2.2.2.2]; omega); have k1y := H.out.2.2.1.step hb1 rfl (by rw [H.out.2.2.2.2]; omega); have k1r := H.out.2.2.2.1.step hb1 rfl (by rw [H.out.2.2.2.2]; omega); obtain ⟨px0, px1⟩ := id k1x; obtain ⟨py0, py1⟩ := id k1y; have hle3 := mul_len hl3 h1.2.2.1 h2.2.2.1 hl1 hl2; have hs1' : w.heap.size + 3 ≤ w1.heap.size := Nat.le_trans (Nat.le_of_eq H.out.2.2.2.2.symm) hb1.size) | (go_at_call 70; refine (signed_to true A3 c3 zs3 (x * y) _ (by exact hl3.2.1) hl3.2.2.1 hle3 hl3.1 (by rw [hl3.2.2.2.2, h1.2.2.2.2, h2.2.2.2.2]; exact mul_parts hs1 hs2 rfl)).mono ?_; rintro e w2 ⟨v2, rfl, ⟨b4, A4, c4, zs4, rfl, hsg4, hl4⟩, hb2⟩; have k2x := k1x.step hb2 rfl (by omega); have k2y := k1y.step hb2 rfl (by omega); have k2r := k1r.step hb2 rfl (by omega); obtain ⟨hx0, hx1⟩ := id k2x; obtain ⟨hy0, hy1⟩ := id k2y; obtain ⟨⟨hr0, hr1⟩, hf0, hf1⟩ := id k2r; obtain ⟨qx0, qx1⟩ := k2x.far (r := w.heap.size + 1 + 1) (by omega) (.bool b4) (.slice A4 zs4.length c4); obtain ⟨qy0, qy1⟩ := k2y.far (r := w.heap.size + 1 + 1) (by omega) (.bool b4) (.slice A4 zs4.length c4))))
  go_wp2
  refine bodyPost_ret (v := .agg #[.bool b4, .slice A4 zs4.length c4]) (by simp [results, Try.results42, go_sem, hr0, hr1]) rfl ?_
  exact res_stored k2r hsg4 hl4 (below_then (below_then H.out.1.drew hb1) hb2) (by omega)

set_option maxRecDepth 100000 in
set_option maxHeartbeats 2000000 in
theorem mulA_true_true (A1 : Option Addr) (c1 : Nat) (zs1 : List Nat) (A2 : Option Addr) (c2 : Nat) (zs2 : List Nat) (x y : Int) (w : World) (hs1 : SignOf true x) (hs2 : SignOf true y)
    (h1 : Limbs w A1 c1 zs1 x.natAbs) (h2 : Limbs w A2 c2 zs2 y.natAbs) (hl1 : zs1.length ≤ 400000) (hl2 : zs2.length ≤ 400000) :
    Calls Try.prog 42 #[.agg #[.bool true, .slice A1 zs1.length c1], .agg #[.bool true, .slice A2 zs2.length c2]] w fun e w' => IsInt w w' (x * y) e := by
  have hbb := begun2_below w (.bool true) (.slice A1 zs1.length c1) (.bool true) (.slice A2 zs2.length c2) 28
  have hx0 := begun2_x w (.bool true) (.slice A1 zs1.length c1) (.bool true) (.slice A2 zs2.length c2) 28
  have hy0 := begun2_y w (.bool true) (.slice A1 zs1.length c1) (.bool true) (.slice A2 zs2.length c2) 28
  have hr0 := begun2_r w (.bool true) (.slice A1 zs1.length c1) (.bool true) (.slice A2 zs2.length c2) 28
  have hsz := begun2_size w (.bool true) (.slice A1 zs1.length c1) (.bool true) (.slice A2 zs2.length c2) 28
  have hn1 := h1.2.1.below hbb
  have hn2 := h2.2.1.below hbb
  have H := Lib.hid (And.intro hbb (And.intro hx0 (And.intro hy0 (And.intro hr0 hsz))))
  clear hbb hx0 hy0 hr0 hsz
  go_enter Try.func42, Try.ntmps42
  go_wp2_with fail
  go_region_held3 (fun w' => w'.cell? ⟨w.heap.size, 0, none⟩ = some (.bool true) ∧ w'.cell? ⟨w.heap.size, 1, none⟩ = some (.slice A1 zs1.length c1) ∧ w'.cell? ⟨w.heap.size + 1, 0, none⟩ = some (.bool true) ∧ w'.cell? ⟨w.heap.size + 1, 1, none⟩ = some (.slice A2 zs2.length c2))
    (((try dsimp only); (repeat' apply And.intro) <;> (first | (with_reducible assumption) | go_keep)))
    ((first | (go_at_call 91; refine (product_nums A1 c1 zs1 A2 c2 zs2 _ (by exact hn1) (by exact hn2) h1.2.2.1 h2.2.2.1 h1.1 h2.1 hl1 hl2).mono ?_; rintro e w1 ⟨A3, c3, zs3, rfl, hl3, hb1⟩; have k1x := H.out.2.1.step hb1 rfl (by rw [H.out.2.2.2.2]; omega); have k1y := H.out.2.2.1.step hb1 rfl (by rw [H.out.2.2.2.2]; omega); have k1r := H.out.2.2.2.1.step hb1 rfl (by rw [H.out.2.2.2.2]; omega); obtain ⟨px0, px1⟩ := id k1x; obtain ⟨py0, py1⟩ := id k1y; have hle3 := mul_len hl3 h1.2.2.1 h2.2.2.1 hl1 hl2; have hs1' : w.heap.size + 3 ≤ w1.heap.size := Nat.le_trans (Nat.le_of_eq H.out.2.2.2.2.symm) hb1.size) | (go_at_call 70; refine (signed_to false A3 c3 zs3 (x * y) _ (by exact hl3.2.1) hl3.2.2.1 hle3 hl3.1 (by rw [hl3.2.2.2.2, h1.2.2.2.2, h2.2.2.2.2]; exact mul_parts hs1 hs2 rfl)).mono ?_; rintro e w2 ⟨v2, rfl, ⟨b4, A4, c4, zs4, rfl, hsg4, hl4⟩, hb2⟩; have k2x := k1x.step hb2 rfl (by omega); have k2y := k1y.step hb2 rfl (by omega); have k2r := k1r.step hb2 rfl (by omega); obtain ⟨hx0, hx1⟩ := id k2x; obtain ⟨hy0, hy1⟩ := id k2y; obtain ⟨⟨hr0, hr1⟩, hf0, hf1⟩ := id k2r; obtain ⟨qx0, qx1⟩ := k2x.far (r := w.heap.size + 1 + 1) (by omega) (.bool b4) (.slice A4 zs4.length c4); obtain ⟨qy0, qy1⟩ := k2y.far (r := w.heap.size + 1 + 1) (by omega) (.bool b4) (.slice A4 zs4.length c4))))
  go_wp2
  refine bodyPost_ret (v := .agg #[.bool b4, .slice A4 zs4.length c4]) (by simp [results, Try.results42, go_sem, hr0, hr1]) rfl ?_
  exact res_stored k2r hsg4 hl4 (below_then (below_then H.out.1.drew hb1) hb2) (by omega)

theorem mulA_signs (b1 b2 : Bool) (A1 : Option Addr) (c1 : Nat) (zs1 : List Nat) (A2 : Option Addr) (c2 : Nat) (zs2 : List Nat) (x y : Int) (w : World) (hs1 : SignOf b1 x) (hs2 : SignOf b2 y)
    (h1 : Limbs w A1 c1 zs1 x.natAbs) (h2 : Limbs w A2 c2 zs2 y.natAbs) (hl1 : zs1.length ≤ 400000) (hl2 : zs2.length ≤ 400000) :
    Calls Try.prog 42 #[.agg #[.bool b1, .slice A1 zs1.length c1], .agg #[.bool b2, .slice A2 zs2.length c2]] w fun e w' => IsInt w w' (x * y) e := by
  cases b1 <;> cases b2
  · exact mulA_false_false A1 c1 zs1 A2 c2 zs2 x y w hs1 hs2 h1 h2 hl1 hl2
  · exact mulA_false_true A1 c1 zs1 A2 c2 zs2 x y w hs1 hs2 h1 h2 hl1 hl2
  · exact mulA_true_false A1 c1 zs1 A2 c2 zs2 x y w hs1 hs2 h1 h2 hl1 hl2
  · exact mulA_true_true A1 c1 zs1 A2 c2 zs2 x y w hs1 hs2 h1 h2 hl1 hl2

/-- x y, of any length. -/
theorem Mul_any (v1 v2 : Value) (x y : Int) (m k : Nat) (w : World) (h1 : IntAt w v1 x) (h2 : IntAt w v2 y) (hm : m ≤ 400000) (hx : x.natAbs < B32 ^ m) (hk : k ≤ 400000) (hy : y.natAbs < B32 ^ k) :
    Calls Try.prog 42 #[v1, v2] w fun e w' => IsInt w w' (x * y) e := by
  obtain ⟨b1, A1, c1, zs1, rfl, hs1, hl1⟩ := h1
  obtain ⟨b2, A2, c2, zs2, rfl, hs2, hl2⟩ := h2
  have k1 := Nat.le_trans (hl1.len hx) hm
  have k2 := Nat.le_trans (hl2.len hy) hk
  exact mulA_signs b1 b2 A1 c1 zs1 A2 c2 zs2 x y w hs1 hs2 hl1 hl2 k1 k2

theorem i64_and1 (n : Int) : bits .and .i64 n 1 = n % 2 := by
  have h1 : (BitVec.ofInt 64 1).toNat = 2 ^ 1 - 1 := by decide
  have key : (BitVec.ofInt 64 n &&& BitVec.ofInt 64 1).toNat = (n % ((2 ^ 64 : Nat) : Int)).toNat % 2 ^ 1 := by
    rw [BitVec.toNat_and, BitVec.toNat_ofInt, h1, Nat.and_two_pow_sub_one_eq_mod]
  show IntKind.i64.wrap ((BitVec.ofInt 64 n &&& BitVec.ofInt 64 1).toNat : Nat) = n % 2
  rw [key, IntKind.wrap_i64]
  omega
theorem half_bit (n b : Nat) : n / 2 ^ b = 2 * (n / 2 ^ (b + 1)) + (n / 2 ^ b) % 2 := by
  rw [Nat.pow_succ, ← Nat.div_div_eq_div_mul]
  omega
theorem bl_none (n : Nat) : n / 2 ^ bl n = 0 := Nat.div_eq_of_lt (by
  unfold bl
  by_cases h : n = 0
  · subst h; simp
  · rw [if_neg h]; exact Nat.lt_log2_self)
theorem pow_le_to {X n e : Nat} (hX : 0 < X) (h : e ≤ n) : X ^ e ≤ X ^ n := Nat.pow_le_pow_right hX h

set_option maxRecDepth 100000 in
set_option maxHeartbeats 2000000 in
theorem raised_any (A : Option Addr) (c : Nat) (xs : List Nat) (X n : Nat) (w : World) (hx : Limbs w A c xs X) (hX : 0 < X) (hl : xs.length ≤ 300000) (hn : n ≤ 1000000) (hb : X ^ n < B32 ^ 300000) :
    Calls Try.prog 95 #[.slice A xs.length c, .int .i64 (n : Int)] w fun e w' => IsLims w w' (X ^ n) e := by
  obtain ⟨M, hM⟩ : ∃ M, 300000 = M := ⟨_, rfl⟩
  rw [hM] at hb
  have h1 := word_any 1 w (by decide)
  have H := Lib.hid (And.intro h1 (And.intro hx (And.intro hX (And.intro hb hM))))
  have i1 : (n : Int) % 18446744073709551616 = (n : Int) := by omega
  have i2 : (n : Int) ≤ 1000000 := by omega
  clear h1 hx hX hb hM
  go_enter Try.func95, Try.ntmps95
  go_wp2_with fail
  refine H.out.1.mono ?_
  rintro e w1 ⟨A1, c1, p1, rfl, hl1, hb1⟩
  have h2 := word_any n w1 (by omega)
  have H2 := Lib.hid (And.intro h2 (And.intro hl1 hb1))
  clear h2 hl1 hb1
  go_wp2_with fail
  refine H2.out.1.mono ?_
  rintro e w2 ⟨A2, c2, p2, rfl, hl2, hb2⟩
  have hln : p2.length ≤ 1000000 := Nat.le_trans (hl2.len (m := 2) (by unfold B32; omega)) (by decide)
  have h3 := width_any A2 c2 n p2 w2 hl2 hln
  have hbl : bl n ≤ 40 := by
    unfold bl
    by_cases h : n = 0
    · rw [if_pos h]; omega
    · rw [if_neg h]
      have := (Nat.log2_lt h (k := 39)).2 (by omega)
      omega
  have H3 := Lib.hid (And.intro h3 (And.intro (H2.out.2.1.below hb2) (below_then H2.out.2.2 hb2)))
  clear h3 hl2 hb2 hln H2
  go_wp2_with fail
  refine H3.out.1.mono ?_
  rintro e w' ⟨rfl, rfl⟩
  go_wp2_with fail
  go_loopw [5, 6] (fun pv iv wr => ∃ (b : Nat) (Ap : Option Addr) (cp : Nat) (ps : List Nat), iv = .int .i64 ((b : Int) - 1) ∧ pv = .slice Ap ps.length cp ∧ b ≤ bl n ∧ Limbs wr Ap cp ps (X ^ (n / 2 ^ b)) ∧ Below w.heap.size w wr) (fun _ iv _ => (intOf iv + 1).toNat)
  case atStart => exact ⟨bl n, A1, c1, p1, rfl, rfl, Nat.le_refl _, by rw [bl_none, Nat.pow_zero]; exact H3.out.2.1, H3.out.2.2⟩
  case round =>
    obtain ⟨b, Ap, cp, ps, rfl, rfl, hbb, hps, hbw⟩ := hrel
    rcases Nat.eq_zero_or_pos b with rfl | hpos
    · rw [Nat.pow_zero, Nat.div_one] at hps
      have HE := Lib.hid (And.intro hps hbw)
      clear hps hbw
      go_wp2
      go_ret
      exact ⟨Ap, cp, ps, rfl, HE.out.1, HE.out.2⟩
    · obtain ⟨k, rfl⟩ : ∃ k, b = k + 1 := ⟨b - 1, by omega⟩
      rw [show ((k + 1 : Nat) : Int) - 1 = (k : Int) by omega]
      have hstep := half_bit n k
      have hle : n / 2 ^ k ≤ n := Nat.div_le_self _ _
      obtain ⟨q, hq⟩ : ∃ q, n / 2 ^ k = q := ⟨_, rfl⟩
      obtain ⟨r, hr⟩ : ∃ r, n / 2 ^ (k + 1) = r := ⟨_, rfl⟩
      have hqI : (n : Int) / 2 ^ k = (q : Int) := by rw [← hq]; simp
      rw [hr] at hps
      rw [hq, hr] at hstep
      rw [hq] at hle
      have hk : k < 40 := by omega
      have hpl := hps.len (m := M) (Nat.lt_of_le_of_lt (pow_le_to H.out.2.2.1 (by omega)) H.out.2.2.2.1)
      have hM := H.out.2.2.2.2
      have hp := product_any hps hps (by omega) (by omega)
      rw [← Nat.pow_add, ← Nat.two_mul] at hp
      have HP := Lib.hid hp
      have HS := Lib.hid (And.intro hstep (And.intro hle (And.intro hbw (And.intro hq hr))))
      clear hp hps hstep hle hbw hq hr hpl hM
      go_wp2_with fail
      refine HP.out.mono ?_
      rintro e w3 ⟨A3, c3, p3, rfl, hl3, hb3, hf3⟩
      clear hf3
      have hbk : k ≤ bl n := by omega
      by_cases hodd : q % 2 = 1
      · have hbit : (bits .and .i64 (q : Int) 1 == 1) = true := by rw [i64_and1, beq_iff_eq]; omega
        have hx3 : Limbs w3 A c xs X := (H.out.2.1.below HS.out.2.2.1).below hb3
        have hpl := hl3.len (m := M) (Nat.lt_of_le_of_lt (pow_le_to H.out.2.2.1 (show 2 * r ≤ n by have := HS.out.1; have := HS.out.2.1; omega)) H.out.2.2.2.1)
        have hM := H.out.2.2.2.2
        have hp := product_any hl3 hx3 (by omega) (by omega)
        rw [← Nat.pow_succ, show (2 * r).succ = q by have := HS.out.1; omega] at hp
        have HP2 := Lib.hid (And.intro hp (below_then HS.out.2.2.1 hb3))
        clear hp hpl hM hx3 hl3 hb3
        go_wp2_with fail
        refine HP2.out.1.mono ?_
        rintro e w4 ⟨A4, c4, p4, rfl, hl4, hb4, hf4⟩
        clear hf4
        go_wp2
        go_roundw
        case rel => exact ⟨k, A4, c4, p4, rfl, rfl, hbk, by rw [HS.out.2.2.2.1]; exact hl4, below_then HP2.out.2 hb4⟩
        case measure => simp [intOf]
      · have hbit : (bits .and .i64 (q : Int) 1 == 1) = false := by rw [i64_and1, beq_eq_false_iff_ne]; omega
        rw [show 2 * r = q by have := HS.out.1; omega] at hl3
        go_wp2
        go_roundw
        case rel => exact ⟨k, A3, c3, p3, rfl, rfl, hbk, by rw [HS.out.2.2.2.1]; exact hl3, below_then HS.out.2.2.1 hb3⟩
        case measure => simp [intOf]

/-- r is not below the root of x. -/
def Above (x r : Nat) : Prop := 0 < r ∧ x < (r + 1) * (r + 1)
/-- r is the root of x. -/
def IsRoot (x r : Nat) : Prop := r * r ≤ x ∧ x < (r + 1) * (r + 1)

theorem four_mul_le (u v : Nat) : 4 * (u * v) ≤ (u + v) * (u + v) := by
  rcases Nat.le_total u v with h | h
  · obtain ⟨d, rfl⟩ : ∃ d, v = u + d := ⟨v - u, by omega⟩
    have e1 : (u + (u + d)) * (u + (u + d)) = 4 * (u * u) + 4 * (u * d) + d * d := by
      simp only [Nat.add_mul, Nat.mul_add, Nat.mul_comm d u]; omega
    rw [e1, Nat.mul_add]; omega
  · obtain ⟨d, rfl⟩ : ∃ d, u = v + d := ⟨u - v, by omega⟩
    have e1 : (v + d + v) * (v + d + v) = 4 * (v * v) + 4 * (d * v) + d * d := by
      simp only [Nat.add_mul, Nat.mul_add, Nat.mul_comm v d]; omega
    rw [e1, Nat.add_mul]; omega

theorem newton_low {x r : Nat} (h0 : 0 < r) (h : r ≤ (r + x / r) / 2) : r * r ≤ x := by
  have h1 : r ≤ x / r := by omega
  exact (Nat.le_div_iff_mul_le h0).1 h1
theorem newton_next {x r : Nat} (h0 : 0 < r) (hx : 0 < x) : Above x ((r + x / r) / 2) := by
  have hlt : x < r * (x / r + 1) := by rw [Nat.mul_add, Nat.mul_one]; have := Nat.div_add_mod x r; have := Nat.mod_lt x h0; omega
  obtain ⟨q, hq⟩ : ∃ q, x / r = q := ⟨_, rfl⟩
  rw [hq] at hlt ⊢
  obtain ⟨n, hn⟩ : ∃ n, (r + q) / 2 = n := ⟨_, rfl⟩
  rw [hn]
  refine ⟨?_, ?_⟩
  · rcases Nat.eq_zero_or_pos n with e | e
    · exfalso
      have hr1 : r = 1 := by omega
      have hq0 : q = 0 := by omega
      subst hr1
      subst hq0
      omega
    · exact e
  · have h2 : r + (q + 1) ≤ 2 * (n + 1) := by omega
    have h3 := Nat.mul_le_mul h2 h2
    have h4 := four_mul_le r (q + 1)
    have h5 : 2 * (n + 1) * (2 * (n + 1)) = 4 * ((n + 1) * (n + 1)) := by
      rw [Nat.mul_mul_mul_comm]
    omega
theorem newton_start {x s : Nat} (hs : (bl x + 1) / 2 = s) : Above x (2 ^ s) := by
  refine ⟨Nat.pow_pos (by decide), ?_⟩
  have h1 : x < 2 ^ bl x := by
    unfold bl
    by_cases h : x = 0
    · subst h; simp
    · rw [if_neg h]; exact Nat.lt_log2_self
  have h2 : 2 ^ bl x ≤ 2 ^ (s + s) := Nat.pow_le_pow_right (by decide) (by omega)
  rw [Nat.pow_add] at h2
  have h3 : 2 ^ s * 2 ^ s ≤ (2 ^ s + 1) * (2 ^ s + 1) := Nat.mul_le_mul (Nat.le_succ _) (Nat.le_succ _)
  omega
theorem start_fits {x s m : Nat} (hs : (bl x + 1) / 2 = s) (hx : x < B32 ^ m) (h0 : 0 < x) : 2 ^ s < B32 ^ (m + 1) := by
  have h1 : 2 ^ (bl x - 1) ≤ x := by
    unfold bl
    rw [if_neg (by omega)]
    exact Nat.log2_self_le (by omega)
  have h2 : 2 ^ s ≤ 2 ^ (bl x - 1 + 1) := Nat.pow_le_pow_right (by decide) (by omega)
  rw [Nat.pow_succ] at h2
  rw [Nat.pow_succ]
  have h3 : B32 ^ m * 2 ≤ B32 ^ m * B32 := Nat.mul_le_mul_left _ (by decide)
  omega

set_option maxRecDepth 100000 in
set_option maxHeartbeats 1000000 in
theorem root_neg (A : Option Addr) (c : Nat) (zs : List Nat) (w : World) :
    Calls Try.prog 48 #[.agg #[.bool true, .slice A zs.length c]] w fun e w' => IsIE w w' 0 1 e := by
  have hb0 := begun1_below w (.bool true) (.slice A zs.length c) 28
  have hT := begun1_x w (.bool true) (.slice A zs.length c) 28
  have hR := begun1_r w (.bool true) (.slice A zs.length c) 28
  obtain ⟨W, hW⟩ : ∃ W, begun1 w (.bool true) (.slice A zs.length c) 28 = W := ⟨_, rfl⟩
  rw [hW] at hb0 hT hR
  unfold begun1 at hW
  have H := Lib.hid (And.intro hb0 (And.intro hR hW))
  obtain ⟨px0, px1⟩ := id hT
  obtain ⟨⟨hr0, hr1⟩, hf0, hf1⟩ := id hR
  clear hb0 hT hR hW
  go_enter Try.func48, Try.ntmps48
  go_upto_region 1 with fail
  rw [H.out.2.2]
  go_wp2
  have q := H.out.2.1.1.stored (.bool false) (.slice none 0 0)
  obtain ⟨q0, q1⟩ := id q
  refine bodyPost_ret (v := .tuple #[.agg #[.bool false, .slice none 0 0], .int .i64 1]) (by simp [results, Try.results48, go_sem, q0, q1]) rfl ?_
  exact intE_stored (zs := []) H.out.2.1 (by simp [SignOf]) ⟨Nat.le_refl _, Nums.nil _ _ _, Lm.Ok.nil _, Lm.Top.nil, rfl⟩ H.out.1 (by omega)

set_option maxRecDepth 100000 in
set_option maxHeartbeats 1000000 in
theorem root_zero (A : Option Addr) (c : Nat) (zs : List Nat) (w : World) (h : Limbs w A c zs 0) (hs : SignOf false 0) :
    Calls Try.prog 48 #[.agg #[.bool false, .slice A zs.length c]] w fun e w' => IsIE w w' 0 0 e := by
  have hb0 := begun1_below w (.bool false) (.slice A zs.length c) 28
  have hT := begun1_x w (.bool false) (.slice A zs.length c) 28
  have hR := begun1_r w (.bool false) (.slice A zs.length c) 28
  have hi : IntAt (begun1 w (.bool false) (.slice A zs.length c) 28) (.agg #[.bool false, .slice A zs.length c]) 0 := ⟨false, A, c, zs, rfl, hs, h.below hb0⟩
  have hsg := Sign_any _ 0 1 _ hi (by decide) (by decide)
  have H := Lib.hid (And.intro hb0 (And.intro hR hsg))
  obtain ⟨px0, px1⟩ := id hT
  unfold begun1 at px0 px1
  clear hb0 hT hR hi hsg h hs
  go_enter Try.func48, Try.ntmps48
  go_wp2_with fail
  refine H.out.2.2.mono ?_
  rintro e w1 ⟨rfl, hb1⟩
  have r1 := H.out.2.1.step hb1 rfl (by rw [begun1_size]; omega)
  rw [show (0 : Int).sign = 0 from rfl]
  obtain ⟨⟨hr0, hr1⟩, hf0, hf1⟩ := id r1
  clear px0 px1
  go_wp2
  refine bodyPost_ret (v := .tuple #[.agg #[.bool false, .slice none 0 0], .int .i64 0]) (by simp [results, Try.results48, go_sem, hr0, hr1]) rfl ?_
  exact intE_stored (zs := []) r1 (by simp [SignOf]) ⟨Nat.le_refl _, Nums.nil _ _ _, Lm.Ok.nil _, Lm.Top.nil, rfl⟩ (below_then H.out.1 hb1) (by omega)

set_option maxRecDepth 100000 in
set_option maxHeartbeats 2000000 in
theorem root_pos (A : Option Addr) (c : Nat) (zs : List Nat) (x m : Nat) (w : World) (h : Limbs w A c zs x) (h0 : 0 < x) (hm : m ≤ 200000) (hxm : x < B32 ^ m) :
    Calls Try.prog 48 #[.agg #[.bool false, .slice A zs.length c]] w fun e w' => ∃ r : Nat, IsRoot x r ∧ IsIE w w' r 0 e := by
  have hb0 := begun1_below w (.bool false) (.slice A zs.length c) 28
  have hT := begun1_x w (.bool false) (.slice A zs.length c) 28
  have hR := begun1_r w (.bool false) (.slice A zs.length c) 28
  have hz := begun1_size w (.bool false) (.slice A zs.length c) 28
  have hlen : zs.length ≤ m := h.len hxm
  obtain ⟨W, hW⟩ : ∃ W, begun1 w (.bool false) (.slice A zs.length c) 28 = W := ⟨_, rfl⟩
  rw [hW] at hb0 hT hR hz
  unfold begun1 at hW
  have hx0 := h.below hb0
  have hi : IntAt W (.agg #[.bool false, .slice A zs.length c]) (x : Int) := ⟨false, A, c, zs, rfl, by unfold SignOf; simp, by simpa using hx0⟩
  have hsg := Sign_any _ (x : Int) m _ hi (by omega) (by simpa using hxm)
  rw [Int.sign_eq_one_of_pos (by omega)] at hsg
  have hbl : bl x ≤ 32 * zs.length := by have := bl_limbs h; omega
  obtain ⟨bx, hbx⟩ : ∃ b, bl x = b := ⟨_, rfl⟩
  obtain ⟨s, hs⟩ : ∃ b, (bx + 1) / 2 = b := ⟨_, rfl⟩
  have hst : Above x (2 ^ s) := newton_start (by rw [hbx]; exact hs)
  have hfit := start_fits (s := s) (by rw [hbx]; exact hs) hxm h0
  obtain ⟨R, hRv⟩ : ∃ b, 2 ^ s = b := ⟨_, rfl⟩
  rw [hRv] at hst hfit
  rw [hbx] at hbl
  have H := Lib.hid (And.intro hb0 (And.intro hR (And.intro hT (And.intro hW (And.intro hx0 (And.intro hsg (And.intro hst (And.intro hfit (And.intro hxm (And.intro hbx (And.intro hRv hz)))))))))))
  have hq : ((bx : Int) + 1) / 2 = (s : Int) := by omega
  have hqt : ((bx : Int) + 1).tdiv 2 = (s : Int) := by rw [Int.tdiv_eq_ediv_of_nonneg (by omega)]; exact hq
  have hs1 : s ≤ 12000000 := by omega
  have hb1 : (bx : Int) ≤ 10000000 := by omega
  have hw1 : IntKind.i64.wrap ((bx : Int) + 1) = (bx : Int) + 1 := IntWalk.i64_in _ (by omega)
  have hw2 : IntKind.i64.wrap (s : Int) = (s : Int) := IntWalk.i64_in _ (by omega)
  have hl1 : zs.length ≤ 200000 := by omega
  clear hb0 hT hR hW hx0 hi hsg hbl hst hfit hxm hbx hRv hs h hlen hz
  go_enter Try.func48, Try.ntmps48
  go_upto_region 1 with fail
  rw [H.out.2.2.2.1]
  obtain ⟨px0, px1⟩ := id H.out.2.2.1
  go_wp2_with fail
  refine H.out.2.2.2.2.2.1.mono ?_
  rintro e w1 ⟨rfl, hb1'⟩
  have k1 := H.out.2.2.1.step hb1' rfl (by rw [H.out.2.2.2.2.2.2.2.2.2.2.2]; omega)
  have r1 := H.out.2.1.step hb1' rfl (by rw [H.out.2.2.2.2.2.2.2.2.2.2.2]; omega)
  have x1 := H.out.2.2.2.2.1.below hb1'
  have H1 := Lib.hid (And.intro k1 (And.intro r1 (And.intro x1 (And.intro (below_then H.out.1 hb1') (Nat.le_trans (Nat.le_of_eq H.out.2.2.2.2.2.2.2.2.2.2.2.symm) hb1'.size)))))
  clear px0 px1
  obtain ⟨px0, px1⟩ := id k1
  clear k1 r1 x1 hb1'
  go_wp2_with fail
  go_region_held3 (fun w' => w'.cell? ⟨w.heap.size, 1, none⟩ = some (.slice A zs.length c))
    (((try dsimp only); (repeat' apply And.intro) <;> (first | (with_reducible assumption) | go_keep)))
    ((first | (go_at_call 71; refine (word_any 1 _ (by decide)).mono ?_; rintro e w2 ⟨A2, c2, p2, rfl, hl2, hb2⟩; have k2 := H1.out.1.step hb2 rfl (by have := H1.out.2.2.2.2; omega); have r2 := H1.out.2.1.step hb2 rfl (by have := H1.out.2.2.2.2; omega); have x2 := H1.out.2.2.1.step hb2 rfl; have b2 := below_then H1.out.2.2.2.1.drew hb2; have s2 : w.heap.size + 2 ≤ w2.heap.size := Nat.le_trans H1.out.2.2.2.2 hb2.size; obtain ⟨qx0, qx1⟩ := id k2) | (go_at_call 77; go_loud (refine (width_any A c x zs _ (by exact x2) (by omega)).mono ?_); rw [H.out.2.2.2.2.2.2.2.2.2.1]; rintro e w' ⟨rfl, rfl⟩) | (go_at_call 96; go_loud (refine (left_any A2 c2 1 p2 s _ (by exact hl2) (by have := hl2.len (m := 1) (by decide); omega) hs1).mono ?_); rintro e w3 ⟨A3, c3, p3, rfl, hl3, hb3⟩; rw [Nat.one_mul, H.out.2.2.2.2.2.2.2.2.2.2.1] at hl3; have k3 := k2.step hb3 rfl (by omega); obtain ⟨sx0, sx1⟩ := id k3)))
  have r3 := r2.step hb3 rfl (by omega)
  have x3 := x2.step hb3 rfl
  have b3 : Below w.heap.size w w3 := by first | exact below_then b2 hb3 | exact below_then b2.drew hb3
  have s3 : w.heap.size + 2 ≤ w3.heap.size := Nat.le_trans s2 hb3.size
  have H3 := Lib.hid (And.intro k3 (And.intro r3 (And.intro x3 (And.intro b3 hl3))))
  clear hb2 hb3 hl2 hl3 k2 k3 r2 r3 x2 x3 b2 b3 H1 px0 px1 qx0 qx1 sx0 sx1 s2
  go_wp2_with fail
  go_loopg [4] R (fun k pv wr => ∃ (Ap : Option Addr) (cp : Nat) (ps : List Nat), pv = .slice Ap ps.length cp ∧ k ≤ R ∧ Above x k ∧ Limbs wr Ap cp ps k ∧ Two wr w.heap.size (.bool false) (.slice A zs.length c) ∧ Res wr (w.heap.size + 1) ∧ Limbs wr A c zs x ∧ Below w.heap.size w wr ∧ w.heap.size + 2 ≤ wr.heap.size)
  case atStart => exact ⟨A3, c3, p3, rfl, Nat.le_refl _, H.out.2.2.2.2.2.2.1, H3.out.2.2.2.2, H3.out.1, H3.out.2.1, H3.out.2.2.1, H3.out.2.2.2.1, s3⟩
  case round =>
    obtain ⟨Ap, cp, ps, rfl, hkR, hab, hps, hk, hr, hx, hb, hz⟩ := hrel
    have hfk : gk < B32 ^ (m + 1) := Nat.lt_of_le_of_lt hkR H.out.2.2.2.2.2.2.2.1
    have hpl := hps.len hfk
    have hdv := divide_all A c zs Ap cp ps x gk wr hx hps (by omega) hab.1
    have HD := Lib.hid hdv
    have HA := Lib.hid (And.intro hab (And.intro hfk hkR))
    have HR := Lib.hid (And.intro hk (And.intro hr (And.intro hx (And.intro hps hb))))
    obtain ⟨px0, px1⟩ := id hk
    clear hdv hab hfk hk hr hx hps hb hkR
    go_wp2_with fail
    refine HD.out.mono ?_
    rintro e w1 ⟨Aq, cq, zq, Ar, cr, zr, rfl, hq1, hr1, hb1⟩
    have k1 := HR.out.1.step hb1 rfl (by omega)
    have r1 := HR.out.2.1.step hb1 rfl (by omega)
    have x1 := HR.out.2.2.1.below hb1
    have p1 := HR.out.2.2.2.1.below hb1
    have b1 := below_then HR.out.2.2.2.2 hb1
    have z1 : w.heap.size + 2 ≤ w1.heap.size := Nat.le_trans hz hb1.size
    have hqf : x / gk < B32 ^ (m + 1) := Nat.lt_of_le_of_lt (Nat.div_le_self _ _) (Nat.lt_of_lt_of_le H.out.2.2.2.2.2.2.2.2.1 (Nat.pow_le_pow_right B32_pos (Nat.le_succ _)))
    have hql := hq1.len hqf
    have hsm := sum_any Ap cp ps Aq cq zq w1 p1.2.1 hq1.2.1 p1.2.2.1 hq1.2.2.1 (by omega) (by omega)
    rw [p1.2.2.2.2, hq1.2.2.2.2] at hsm
    have hsf := two_fit HA.out.2.1 hqf
    have HS := Lib.hid (And.intro hsm hsf)
    have HR1 := Lib.hid (And.intro k1 (And.intro r1 (And.intro x1 (And.intro p1 b1))))
    clear HD HR k1 r1 x1 p1 b1 hq1 hr1 hb1 hqf hql hsm hsf px0 px1 hz
    go_wp2_with fail
    refine HS.out.1.mono ?_
    rintro e w2 ⟨As, cs, ss, rfl, hs2, hb2⟩
    have hsl := hs2.len HS.out.2
    have hrt := right_any As cs _ ss 1 w2 hs2 (by omega) (by omega)
    rw [Nat.pow_one] at hrt
    have hlow := fun hle => newton_low (x := x) (r := gk) HA.out.1.1 hle
    have hnx := newton_next (x := x) (r := gk) HA.out.1.1 h0
    obtain ⟨n, hn⟩ : ∃ n, (gk + x / gk) / 2 = n := ⟨_, rfl⟩
    rw [hn] at hrt hlow hnx
    have hnf : n < B32 ^ (m + 1 + 1) := by rw [← hn]; exact Nat.lt_of_le_of_lt (Nat.div_le_self _ _) HS.out.2
    have HT := Lib.hid (And.intro hrt (And.intro hlow (And.intro hnx hnf)))
    have HR2 := Lib.hid (And.intro (HR1.out.1.step hb2 rfl (by omega)) (And.intro (HR1.out.2.1.step hb2 rfl (by omega)) (And.intro (HR1.out.2.2.1.below hb2) (And.intro (HR1.out.2.2.2.1.below hb2) (below_then HR1.out.2.2.2.2 hb2)))))
    have z2 : w.heap.size + 2 ≤ w2.heap.size := Nat.le_trans z1 hb2.size
    clear hs2 hsl hrt hlow hnx hn hnf HS HR1 hb2 z1
    go_wp2_with fail
    refine HT.out.1.mono ?_
    rintro e w3 ⟨An, cn, ns, rfl, hn3, hb3⟩
    have hnl := hn3.len HT.out.2.2.2
    have k3 := HR2.out.1.step hb3 rfl (by omega)
    have r3 := HR2.out.2.1.step hb3 rfl (by omega)
    have x3 := HR2.out.2.2.1.below hb3
    have p3 := HR2.out.2.2.2.1.below hb3
    have b3 := below_then HR2.out.2.2.2.2 hb3
    have z3 : w.heap.size + 2 ≤ w3.heap.size := Nat.le_trans z2 hb3.size
    by_cases hle : gk ≤ n
    · have hcm := compare_ge An cn ns Ap cp ps w3 hn3.2.1 p3.2.1 hn3.2.2.1 p3.2.2.1 hn3.2.2.2.1 p3.2.2.2.1 (by omega) (by rw [hn3.2.2.2.2, p3.2.2.2.2]; exact hle)
      have HC := Lib.hid (And.intro hcm (And.intro r3 (And.intro p3 (And.intro b3 (HT.out.2.1 hle)))))
      clear HR2 k3 r3 x3 p3 b3 hn3 hnl hb3 hcm
      go_wp2_with fail
      refine HC.out.1.mono ?_
      rintro e w' ⟨⟨dn, rfl⟩, kk, hkk, rfl⟩
      have hsg := signed_to false Ap cp ps (gk : Int) (w3.drewN dn) (HC.out.2.2.1.2.1.drewN dn) HC.out.2.2.1.2.2.1 (by omega) HC.out.2.2.1.1 (by unfold ofSign; rw [HC.out.2.2.1.2.2.2.2]; rfl)
      have HG := Lib.hid hsg
      clear hsg
      go_wp2_with fail
      refine HG.out.mono ?_
      rintro e w4 ⟨v4, rfl, ⟨b4, A4, c4, zs4, rfl, hsg4, hl4⟩, hb4⟩
      have r4 := HC.out.2.1.step hb4 rfl (by omega)
      have b4' : Below w.heap.size w w4 := below_then (show Below w.heap.size w (w3.drewN dn) from ⟨HC.out.2.2.2.1.os, HC.out.2.2.2.1.tape, HC.out.2.2.2.1.output, HC.out.2.2.2.1.size, HC.out.2.2.2.1.block⟩) hb4
      have z4 : w.heap.size + 2 ≤ w4.heap.size := Nat.le_trans z3 hb4.size
      obtain ⟨⟨hr0, hr1⟩, hf0, hf1⟩ := id r4
      go_wp2
      have q := r4.1.stored (.bool b4) (.slice A4 zs4.length c4)
      obtain ⟨q0, q1⟩ := id q
      refine bodyPost_ret (v := .tuple #[.agg #[.bool b4, .slice A4 zs4.length c4], .int .i64 0]) (by simp [results, Try.results48, go_sem, q0, q1]) rfl ?_
      exact ⟨gk, ⟨HC.out.2.2.2.2, HA.out.1.2⟩, intE_stored r4 hsg4 hl4 b4' (by omega)⟩
    · have hcm := compare_lt An cn ns Ap cp ps w3 hn3.2.1 p3.2.1 hn3.2.2.1 p3.2.2.1 hn3.2.2.2.1 p3.2.2.2.1 (by omega) (by rw [hn3.2.2.2.2, p3.2.2.2.2]; omega)
      have hkR := HA.out.2.2
      have HC := Lib.hid (And.intro hcm (And.intro r3 (And.intro k3 (And.intro x3 (And.intro b3 hn3)))))
      clear HR2 k3 r3 x3 p3 b3 hn3 hnl hb3 hcm
      go_wp2_with fail
      refine HC.out.1.mono ?_
      rintro e w' ⟨⟨dn, rfl⟩, rfl⟩
      go_wp2
      go_roundg n
      case rel =>
        have hbd := HC.out.2.2.2.2.1
        exact ⟨An, cn, ns, rfl, by omega, HT.out.2.2.1, HC.out.2.2.2.2.2, HC.out.2.2.1, HC.out.2.1, HC.out.2.2.2.1, ⟨hbd.os, hbd.tape, hbd.output, hbd.size, hbd.block⟩, z3⟩
      case measure => omega

set_option maxRecDepth 100000 in
set_option maxHeartbeats 1000000 in
theorem Abs_any (v : Value) (z : Int) (m : Nat) (w : World) (h : IntAt w v z) (hz : z.natAbs < B32 ^ m) (hm : m ≤ 1000000) :
    Calls Try.prog 36 #[v] w fun e w' => IsInt w w' (z.natAbs : Int) e := by
  obtain ⟨b, A, c, zs, rfl, hsg, hlim⟩ := h
  have hlen : zs.length ≤ 1000000 := Nat.le_trans (hlim.len hz) hm
  have hb0 := begun1_below w (.bool b) (.slice A zs.length c) 28
  have hT := begun1_x w (.bool b) (.slice A zs.length c) 28
  have hR := begun1_r w (.bool b) (.slice A zs.length c) 28
  have hs := begun1_size w (.bool b) (.slice A zs.length c) 28
  obtain ⟨W, hW⟩ : ∃ W, begun1 w (.bool b) (.slice A zs.length c) 28 = W := ⟨_, rfl⟩
  rw [hW] at hb0 hT hR hs
  unfold begun1 at hW
  have hx0 := hlim.below hb0
  have hsz : w.heap.size + 2 ≤ W.heap.size := by omega
  have H := Lib.hid (And.intro hb0 (And.intro hR (And.intro hT (And.intro hW hx0))))
  clear hb0 hT hR hs hW hx0 hlim hz
  go_enter Try.func36, Try.ntmps36
  go_upto_region 1 with fail
  rw [H.out.2.2.2.1]
  obtain ⟨px0, px1⟩ := id H.out.2.2.1
  have hcp := copied_any A c zs W H.out.2.2.2.2.2.1 hlen H.out.2.2.2.2.1
  have HC := Lib.hid hcp
  clear hcp
  go_wp2_with fail
  refine HC.out.mono ?_
  intro e w1 hc1
  obtain ⟨A', c', rfl, hown1, hlim1, hb1⟩ := copied_limbs H.out.2.2.2.2 hc1
  have r1 := H.out.2.1.step hb1 rfl (by omega)
  have hsz1 : w.heap.size + 2 ≤ w1.heap.size := Nat.le_trans hsz hb1.size
  have hsn := signed_to false A' c' zs (z.natAbs : Int) w1 hlim1.2.1 hlim1.2.2.1 hlen hlim1.1 (by rw [hlim1.2.2.2.2]; rfl)
  have HS := Lib.hid hsn
  clear hsn hlim1 hown1 HC px0 px1 hc1
  go_wp2_with fail
  refine HS.out.mono ?_
  rintro e w2 ⟨v2, rfl, ⟨b2, A2, c2, zs2, rfl, hsg2, hlim2⟩, hb2⟩
  have r2 := r1.step hb2 rfl (by omega)
  obtain ⟨⟨hr0, hr1⟩, hf0, hf1⟩ := id r2
  go_wp2
  have q := r2.1.stored (.bool b2) (.slice A2 zs2.length c2)
  obtain ⟨q0, q1⟩ := id q
  refine bodyPost_ret (v := .agg #[.bool b2, .slice A2 zs2.length c2]) (by simp [results, Try.results36, go_sem, q0, q1]) rfl ?_
  exact res_stored r2 hsg2 hlim2 (below_then (below_then H.out.1 hb1) hb2) (by omega)

set_option maxRecDepth 100000 in
set_option maxHeartbeats 1000000 in
theorem unit_one (b : Bool) (A : Option Addr) (c : Nat) (zs : List Nat) (n : Nat) (w : World) (hn : n = 0 ∨ (b = true ∧ n % 2 = 0)) (hn2 : n ≤ 1000000) :
    Calls Try.prog 94 #[.agg #[.bool b, .slice A zs.length c], .int .i64 (n : Int)] w fun e w' => IsInt w w' 1 e := by
  have hb0 := begun1_below w (.bool b) (.slice A zs.length c) 28
  have hT := begun1_x w (.bool b) (.slice A zs.length c) 28
  have hR := begun1_r w (.bool b) (.slice A zs.length c) 28
  have hs := begun1_size w (.bool b) (.slice A zs.length c) 28
  obtain ⟨W, hW⟩ : ∃ W, begun1 w (.bool b) (.slice A zs.length c) 28 = W := ⟨_, rfl⟩
  rw [hW] at hb0 hT hR hs
  unfold begun1 at hW
  have hsz : w.heap.size + 2 ≤ W.heap.size := by omega
  have hnw := New_pos 1 W (by decide)
  have H := Lib.hid (And.intro hb0 (And.intro hR (And.intro hT (And.intro hW hnw))))
  clear hb0 hT hR hs hW hnw
  rcases Nat.eq_zero_or_pos n with rfl | hpos
  · clear hn
    go_enter Try.func94, Try.ntmps94
    go_upto_region 1 with fail
    rw [H.out.2.2.2.1]
    go_wp2_with fail
    refine H.out.2.2.2.2.mono ?_
    rintro e w2 ⟨v2, rfl, ⟨b2, A2, c2, zs2, rfl, hsg2, hlim2⟩, hb2⟩
    have r2 := H.out.2.1.step hb2 rfl (by omega)
    obtain ⟨⟨hr0, hr1⟩, hf0, hf1⟩ := id r2
    go_wp2
    have q := r2.1.stored (.bool b2) (.slice A2 zs2.length c2)
    obtain ⟨q0, q1⟩ := id q
    refine bodyPost_ret (v := .agg #[.bool b2, .slice A2 zs2.length c2]) (by simp [results, Try.results94, go_sem, q0, q1]) rfl ?_
    exact res_stored r2 hsg2 hlim2 (below_then H.out.1 hb2) (by omega)
  · obtain ⟨rfl, he⟩ : b = true ∧ n % 2 = 0 := by rcases hn with h | h; omega; exact h
    have hne : ((n : Int) == 0) = false := by rw [beq_eq_false_iff_ne]; omega
    have hev : (bits .and .i64 (n : Int) 1 == 0) = true := by rw [i64_and1, beq_iff_eq]; omega
    obtain ⟨px0, px1⟩ := id H.out.2.2.1
    clear hn he
    go_enter Try.func94, Try.ntmps94
    go_upto_region 1 with fail
    rw [H.out.2.2.2.1]
    go_wp2_with fail
    refine H.out.2.2.2.2.mono ?_
    rintro e w2 ⟨v2, rfl, ⟨b2, A2, c2, zs2, rfl, hsg2, hlim2⟩, hb2⟩
    have r2 := H.out.2.1.step hb2 rfl (by omega)
    obtain ⟨⟨hr0, hr1⟩, hf0, hf1⟩ := id r2
    clear px0 px1
    go_wp2
    have q := r2.1.stored (.bool b2) (.slice A2 zs2.length c2)
    obtain ⟨q0, q1⟩ := id q
    refine bodyPost_ret (v := .agg #[.bool b2, .slice A2 zs2.length c2]) (by simp [results, Try.results94, go_sem, q0, q1]) rfl ?_
    exact res_stored r2 hsg2 hlim2 (below_then H.out.1 hb2) (by omega)

theorem sign_same {z : Int} {b : Bool} (hb : SignOf b z) : ofSign b z.natAbs = z := by
  unfold SignOf at hb
  subst hb
  unfold ofSign
  by_cases h : z < 0 <;> simp [h] <;> omega

set_option maxRecDepth 100000 in
set_option maxHeartbeats 1000000 in
theorem unit_self_false (A : Option Addr) (c : Nat) (zs : List Nat) (z : Int) (n : Nat) (w : World) (hs : SignOf false z) (h : Limbs w A c zs z.natAbs) (hl : zs.length ≤ 1000000) (hn : 0 < n) :
    Calls Try.prog 94 #[.agg #[.bool false, .slice A zs.length c], .int .i64 (n : Int)] w fun e w' => IsInt w w' z e := by
  have hb0 := begun1_below w (.bool false) (.slice A zs.length c) 28
  have hT := begun1_x w (.bool false) (.slice A zs.length c) 28
  have hR := begun1_r w (.bool false) (.slice A zs.length c) 28
  have hsz0 := begun1_size w (.bool false) (.slice A zs.length c) 28
  obtain ⟨W, hW⟩ : ∃ W, begun1 w (.bool false) (.slice A zs.length c) 28 = W := ⟨_, rfl⟩
  rw [hW] at hb0 hT hR hsz0
  unfold begun1 at hW
  have hx0 := h.below hb0
  have hsz : w.heap.size + 2 ≤ W.heap.size := by omega
  have H := Lib.hid (And.intro hb0 (And.intro hR (And.intro hT (And.intro hW (And.intro hx0 hs)))))
  have hne : ((n : Int) == 0) = false := by rw [beq_eq_false_iff_ne]; omega
  obtain ⟨px0, px1⟩ := id H.out.2.2.1
  clear hb0 hT hR hsz0 hW hx0 h hs
  go_enter Try.func94, Try.ntmps94
  go_upto_region 1 with fail
  rw [H.out.2.2.2.1]
  go_wp2_with fail
  go_region_held3 (fun w' => w'.cell? ⟨w.heap.size, 0, none⟩ = some (.bool false) ∧ w'.cell? ⟨w.heap.size, 1, none⟩ = some (.slice A zs.length c))
    (((try dsimp only); (repeat' apply And.intro) <;> (first | (with_reducible assumption) | go_keep)))
    ((first | (go_at_call 85; refine (copied_any A c zs _ (by exact H.out.2.2.2.2.1.2.1) hl H.out.2.2.2.2.1.1).mono ?_; intro e w1 hc1; obtain ⟨A', c', rfl, hown1, hlim1, hb1⟩ := copied_limbs (by exact ⟨H.out.2.2.2.2.1.1, H.out.2.2.2.2.1.2.1, H.out.2.2.2.2.1.2.2⟩) hc1; have k1 := H.out.2.2.1.step hb1 rfl (by omega); have r1 := H.out.2.1.step hb1 rfl (by omega); have z1 : w.heap.size + 2 ≤ w1.heap.size := Nat.le_trans hsz hb1.size; obtain ⟨qx0, qx1⟩ := id k1) | (go_at_call 70; refine (signed_to false A' c' zs z _ (by exact hlim1.2.1) hlim1.2.2.1 hl hlim1.1 (by rw [hlim1.2.2.2.2]; exact sign_same H.out.2.2.2.2.2)).mono ?_; rintro e w2 ⟨v2, rfl, ⟨b2, A2, c2, zs2, rfl, hsg2, hlim2⟩, hb2⟩; have k2 := k1.step hb2 rfl (by omega); have r2 := r1.step hb2 rfl (by omega); obtain ⟨sx0, sx1⟩ := id k2; obtain ⟨⟨hr0, hr1⟩, hf0, hf1⟩ := id r2; obtain ⟨fx0, fx1⟩ := k2.far (r := w.heap.size + 1) (by omega) (.bool b2) (.slice A2 zs2.length c2))))
  go_wp2
  refine bodyPost_ret (v := .agg #[.bool b2, .slice A2 zs2.length c2]) (by simp [results, Try.results94, go_sem, hr0, hr1]) rfl ?_
  exact res_stored r2 hsg2 hlim2 (below_then (below_then H.out.1.drew hb1) hb2) (by omega)

set_option maxRecDepth 100000 in
set_option maxHeartbeats 1000000 in
theorem unit_self_true (A : Option Addr) (c : Nat) (zs : List Nat) (z : Int) (n : Nat) (w : World) (hs : SignOf true z) (h : Limbs w A c zs z.natAbs) (hl : zs.length ≤ 1000000) (ho : n % 2 = 1) :
    Calls Try.prog 94 #[.agg #[.bool true, .slice A zs.length c], .int .i64 (n : Int)] w fun e w' => IsInt w w' z e := by
  have hb0 := begun1_below w (.bool true) (.slice A zs.length c) 28
  have hT := begun1_x w (.bool true) (.slice A zs.length c) 28
  have hR := begun1_r w (.bool true) (.slice A zs.length c) 28
  have hsz0 := begun1_size w (.bool true) (.slice A zs.length c) 28
  obtain ⟨W, hW⟩ : ∃ W, begun1 w (.bool true) (.slice A zs.length c) 28 = W := ⟨_, rfl⟩
  rw [hW] at hb0 hT hR hsz0
  unfold begun1 at hW
  have hx0 := h.below hb0
  have hsz : w.heap.size + 2 ≤ W.heap.size := by omega
  have H := Lib.hid (And.intro hb0 (And.intro hR (And.intro hT (And.intro hW (And.intro hx0 hs)))))
  have hne : ((n : Int) == 0) = false := by rw [beq_eq_false_iff_ne]; omega
  have hev : (bits .and .i64 (n : Int) 1 == 0) = false := by rw [i64_and1, beq_eq_false_iff_ne]; omega
  obtain ⟨px0, px1⟩ := id H.out.2.2.1
  clear hb0 hT hR hsz0 hW hx0 h hs
  go_enter Try.func94, Try.ntmps94
  go_upto_region 1 with fail
  rw [H.out.2.2.2.1]
  go_wp2_with fail
  go_region_held3 (fun w' => w'.cell? ⟨w.heap.size, 0, none⟩ = some (.bool true) ∧ w'.cell? ⟨w.heap.size, 1, none⟩ = some (.slice A zs.length c))
    (((try dsimp only); (repeat' apply And.intro) <;> (first | (with_reducible assumption) | go_keep)))
    ((first | (go_at_call 85; refine (copied_any A c zs _ (by exact H.out.2.2.2.2.1.2.1) hl H.out.2.2.2.2.1.1).mono ?_; intro e w1 hc1; obtain ⟨A', c', rfl, hown1, hlim1, hb1⟩ := copied_limbs (by exact ⟨H.out.2.2.2.2.1.1, H.out.2.2.2.2.1.2.1, H.out.2.2.2.2.1.2.2⟩) hc1; have k1 := H.out.2.2.1.step hb1 rfl (by omega); have r1 := H.out.2.1.step hb1 rfl (by omega); have z1 : w.heap.size + 2 ≤ w1.heap.size := Nat.le_trans hsz hb1.size; obtain ⟨qx0, qx1⟩ := id k1) | (go_at_call 70; refine (signed_to true A' c' zs z _ (by exact hlim1.2.1) hlim1.2.2.1 hl hlim1.1 (by rw [hlim1.2.2.2.2]; exact sign_same H.out.2.2.2.2.2)).mono ?_; rintro e w2 ⟨v2, rfl, ⟨b2, A2, c2, zs2, rfl, hsg2, hlim2⟩, hb2⟩; have k2 := k1.step hb2 rfl (by omega); have r2 := r1.step hb2 rfl (by omega); obtain ⟨sx0, sx1⟩ := id k2; obtain ⟨⟨hr0, hr1⟩, hf0, hf1⟩ := id r2; obtain ⟨fx0, fx1⟩ := k2.far (r := w.heap.size + 1) (by omega) (.bool b2) (.slice A2 zs2.length c2))))
  go_wp2
  refine bodyPost_ret (v := .agg #[.bool b2, .slice A2 zs2.length c2]) (by simp [results, Try.results94, go_sem, hr0, hr1]) rfl ?_
  exact res_stored r2 hsg2 hlim2 (below_then (below_then H.out.1.drew hb1) hb2) (by omega)

theorem neg_one_even {n : Nat} (h : n % 2 = 0) : (-1 : Int) ^ n = 1 := by
  obtain ⟨k, rfl⟩ : ∃ k, n = 2 * k := ⟨n / 2, by omega⟩
  rw [Int.pow_mul, show (-1 : Int) ^ 2 = 1 from by decide]
  exact Int.one_pow
theorem neg_one_odd {n : Nat} (h : n % 2 = 1) : (-1 : Int) ^ n = -1 := by
  obtain ⟨k, rfl⟩ : ∃ k, n = 2 * k + 1 := ⟨n / 2, by omega⟩
  rw [Int.pow_succ, neg_one_even (by omega)]
  simp
theorem unitPower_any (b : Bool) (A : Option Addr) (c : Nat) (zs : List Nat) (z : Int) (n : Nat) (w : World) (hs : SignOf b z) (h : Limbs w A c zs z.natAbs) (hl : zs.length ≤ 1000000) (hz : z.natAbs ≤ 1) (hn : n ≤ 1000000) :
    Calls Try.prog 94 #[.agg #[.bool b, .slice A zs.length c], .int .i64 (n : Int)] w fun e w' => IsInt w w' (z ^ n) e := by
  rcases Nat.eq_zero_or_pos n with rfl | hpos
  · rw [Int.pow_zero]
    exact unit_one b A c zs 0 w (.inl rfl) hn
  · cases b with
    | false =>
      have h0 : z = 0 ∨ z = 1 := by unfold SignOf at hs; simp at hs; omega
      have e : z ^ n = z := by
        rcases h0 with rfl | rfl
        · exact Int.zero_pow (by omega)
        · exact Int.one_pow
      rw [e]
      exact unit_self_false A c zs z n w hs h hl hpos
    | true =>
      have h0 : z = -1 := by unfold SignOf at hs; simp at hs; omega
      subst h0
      by_cases ho : n % 2 = 1
      · rw [neg_one_odd ho]
        exact unit_self_true A c zs (-1) n w hs h hl ho
      · rw [neg_one_even (by omega)]
        exact unit_one true A c zs n w (.inr ⟨rfl, by omega⟩) hn

theorem compare_limbs {A : Option Addr} {c : Nat} {xs : List Nat} {A' : Option Addr} {c' : Nat} {ys : List Nat} {w : World} {x y : Nat} (g : Int) (hx : Limbs w A c xs x) (hy : Limbs w A' c' ys y) (hl : xs.length ≤ 1000000) (hg : ordOf x y = g) :
    Calls Try.prog 84 #[.slice A xs.length c, .slice A' ys.length c'] w fun e w' => Drew w w' ∧ e = .returned (.int .i64 g) := by
  have h := compare_any A c xs A' c' ys w hx.2.1 hy.2.1 hx.2.2.1 hy.2.2.1 hx.2.2.2.1 hy.2.2.2.1 hl
  rw [hx.2.2.2.2, hy.2.2.2.2] at h
  exact h.mono fun _ _ ⟨hd, he⟩ => ⟨hd, by rw [he, hg]⟩

set_option maxRecDepth 100000 in
set_option maxHeartbeats 1000000 in
theorem power_unit (b : Bool) (A : Option Addr) (c : Nat) (zs : List Nat) (z : Int) (n : Nat) (w : World) (hs : SignOf b z) (h : Limbs w A c zs z.natAbs) (hl : zs.length ≤ 300000) (hz : z.natAbs ≤ 1) (hn : n ≤ 1000000) :
    Calls Try.prog 46 #[.agg #[.bool b, .slice A zs.length c], .int .i64 (n : Int)] w fun e w' => IsIE w w' (z ^ n) 0 e := by
  have hb0 := begun1_below w (.bool b) (.slice A zs.length c) 28
  have hT := begun1_x w (.bool b) (.slice A zs.length c) 28
  have hR := begun1_r w (.bool b) (.slice A zs.length c) 28
  have hsz0 := begun1_size w (.bool b) (.slice A zs.length c) 28
  obtain ⟨W, hW⟩ : ∃ W, begun1 w (.bool b) (.slice A zs.length c) 28 = W := ⟨_, rfl⟩
  rw [hW] at hb0 hT hR hsz0
  unfold begun1 at hW
  have hx0 := h.below hb0
  have hsz : w.heap.size + 2 ≤ W.heap.size := by omega
  have hord : ordOf z.natAbs 1 ≤ 0 := by unfold ordOf; split; omega; split; omega; omega
  obtain ⟨g, hg⟩ : ∃ g, ordOf z.natAbs 1 = g := ⟨_, rfl⟩
  rw [hg] at hord
  have H := Lib.hid (And.intro hb0 (And.intro hR (And.intro hT (And.intro hW (And.intro hx0 (And.intro hs (And.intro hz hg)))))))
  have hn0 : (0 : Int) ≤ (n : Int) := Int.natCast_nonneg _
  obtain ⟨px0, px1⟩ := id H.out.2.2.1
  clear hb0 hT hR hsz0 hW hx0 h hs hz hg
  go_enter Try.func46, Try.ntmps46
  go_upto_region 1 with fail
  rw [H.out.2.2.2.1]
  go_wp2_with fail
  go_region_held3 (fun w' => w'.cell? ⟨w.heap.size, 1, none⟩ = some (.slice A zs.length c))
    (((try dsimp only); (repeat' apply And.intro) <;> (first | (with_reducible assumption) | go_keep)))
    ((first | (go_at_call 71; refine (word_any 1 _ (by decide)).mono ?_; rintro e w2 ⟨A2, c2, p2, rfl, hl2, hb2⟩; have k2 := H.out.2.2.1.step hb2 rfl (by omega); have r2 := H.out.2.1.step hb2 rfl (by omega); have x2 := H.out.2.2.2.2.1.step hb2 rfl; have b2 := below_then H.out.1.drew hb2; have s2 : w.heap.size + 2 ≤ w2.heap.size := Nat.le_trans hsz hb2.size; obtain ⟨qx0, qx1⟩ := id k2) | (go_at_call 84; go_loud (refine (compare_limbs g (by exact x2) (by exact hl2) (by omega) H.out.2.2.2.2.2.2.2).mono ?_); rintro e w' ⟨⟨dn, rfl⟩, rfl⟩)))
  have k3 : Two (w2.drewN dn) w.heap.size (.bool b) (.slice A zs.length c) := k2
  have r3 : Res (w2.drewN dn) (w.heap.size + 1) := r2
  have x3 : Limbs (w2.drewN dn) A c zs z.natAbs := x2
  have b3 : Below w.heap.size w (w2.drewN dn) := ⟨b2.os, b2.tape, b2.output, b2.size, b2.block⟩
  have s3 : w.heap.size + 2 ≤ (w2.drewN dn).heap.size := s2
  obtain ⟨w3, hw3⟩ : ∃ x, w2.drewN dn = x := ⟨_, rfl⟩
  rw [hw3] at k3 r3 x3 b3 s3 ⊢
  clear hw3 k2 r2 x2 b2 s2 qx0 qx1 hl2 hb2 px0 px1
  obtain ⟨px0, px1⟩ := id k3
  have hup := unitPower_any b A c zs z n w3 H.out.2.2.2.2.2.1 x3 (by omega) H.out.2.2.2.2.2.2.1 hn
  have HU := Lib.hid (And.intro hup (And.intro r3 b3))
  clear hup x3 k3 r3 b3
  go_wp2_with fail
  refine HU.out.1.mono ?_
  rintro e w4 ⟨v4, rfl, ⟨b4, A4, c4, zs4, rfl, hsg4, hl4⟩, hb4⟩
  have r4 := HU.out.2.1.step hb4 rfl (by omega)
  obtain ⟨⟨hr0, hr1⟩, hf0, hf1⟩ := id r4
  clear px0 px1
  go_wp2
  have q := r4.1.stored (.bool b4) (.slice A4 zs4.length c4)
  obtain ⟨q0, q1⟩ := id q
  refine bodyPost_ret (v := .tuple #[.agg #[.bool b4, .slice A4 zs4.length c4], .int .i64 0]) (by simp [results, Try.results46, go_sem, q0, q1]) rfl ?_
  exact intE_stored r4 hsg4 hl4 (below_then HU.out.2.2 hb4) (by omega)

theorem pow_false {z : Int} {n : Nat} (h : SignOf false z) : ofSign false (z.natAbs ^ n) = z ^ n := by
  unfold SignOf at h
  simp at h
  obtain ⟨k, rfl⟩ : ∃ k : Nat, z = k := ⟨z.natAbs, by omega⟩
  unfold ofSign
  simp
theorem natAbs_neg_pow {z : Int} (h : z < 0) (n : Nat) : z ^ n = (-1) ^ n * ((z.natAbs ^ n : Nat) : Int) := by
  obtain ⟨k, rfl⟩ : ∃ k : Nat, z = -(k : Int) := ⟨z.natAbs, by omega⟩
  rw [Int.natAbs_neg, Int.natAbs_natCast, show -(k : Int) = (-1) * (k : Int) by omega, Int.mul_pow, Int.natCast_pow]
theorem pow_odd {z : Int} {n : Nat} (h : SignOf true z) (ho : n % 2 = 1) : ofSign true (z.natAbs ^ n) = z ^ n := by
  unfold SignOf at h
  simp at h
  rw [natAbs_neg_pow h, neg_one_odd ho]
  unfold ofSign
  rw [if_pos rfl, Int.neg_mul, Int.one_mul]
theorem pow_even {z : Int} {n : Nat} (h : SignOf true z) (ho : n % 2 = 0) : ofSign false (z.natAbs ^ n) = z ^ n := by
  unfold SignOf at h
  simp at h
  rw [natAbs_neg_pow h, neg_one_even ho, Int.one_mul]
  rfl
theorem pow_false0 {z : Int} (_ : SignOf false z) : ofSign false (z.natAbs ^ 0) = z ^ 0 := by simp [ofSign]
theorem pow_true0 {z : Int} (_ : SignOf true z) : ofSign false (z.natAbs ^ 0) = z ^ 0 := by simp [ofSign]
theorem pow_lt_two {X b n K : Nat} (h : X < 2 ^ b) (hn : n * b ≤ K) (hK : 0 < K) : X ^ n < 2 ^ K := by
  rcases Nat.eq_zero_or_pos n with rfl | hpos
  · rw [Nat.pow_zero]; exact Nat.one_lt_two_pow (by omega)
  · have h1 := Nat.pow_lt_pow_left h (show n ≠ 0 by omega)
    rw [← Nat.pow_mul, Nat.mul_comm] at h1
    exact Nat.lt_of_lt_of_le h1 (Nat.pow_le_pow_right (by decide) hn)
theorem pow_fits {X n M : Nat} (hM : 2048 ≤ M) (hn : n * bl X ≤ 65536) : X ^ n < B32 ^ M ∧ bl (X ^ n) ≤ 65536 := by
  have h := pow_lt_two (K := 65536) (bl_le.1 (Nat.le_refl (bl X))) hn (by decide)
  obtain ⟨K, hK⟩ : ∃ K, 65536 = K := ⟨_, rfl⟩
  rw [hK] at h ⊢
  refine ⟨?_, bl_le.2 h⟩
  rw [B32_pow]
  exact Nat.lt_of_lt_of_le h (Nat.pow_le_pow_right (by decide) (by omega))
theorem mag_fits {z : Int} {k : Nat} (h : bl z.natAbs ≤ k) : bl (magOf z) ≤ k :=
  bl_le.2 (Nat.lt_of_le_of_lt (by unfold magOf; split <;> omega) (bl_le.1 h))

set_option maxRecDepth 100000 in
set_option maxHeartbeats 1000000 in
theorem power_false (A : Option Addr) (c : Nat) (zs : List Nat) (z : Int) (n : Nat) (w : World) (hs : SignOf false z) (h : Limbs w A c zs z.natAbs) (hl : zs.length ≤ 300000) (hz : 1 < z.natAbs) (hpos : 0 < n) (hn : n ≤ 1000000) (hnb : n * bl z.natAbs ≤ 65536) :
    Calls Try.prog 46 #[.agg #[.bool false, .slice A zs.length c], .int .i64 (n : Int)] w fun e w' => IsIE w w' (z ^ n) 0 e := by
  have hb0 := begun1_below w (.bool false) (.slice A zs.length c) 28
  have hT := begun1_x w (.bool false) (.slice A zs.length c) 28
  have hR := begun1_r w (.bool false) (.slice A zs.length c) 28
  have hsz0 := begun1_size w (.bool false) (.slice A zs.length c) 28
  obtain ⟨W, hW⟩ : ∃ W, begun1 w (.bool false) (.slice A zs.length c) 28 = W := ⟨_, rfl⟩
  rw [hW] at hb0 hT hR hsz0
  unfold begun1 at hW
  have hx0 := h.below hb0
  have hsz : w.heap.size + 2 ≤ W.heap.size := by omega
  have hord : 0 < ordOf z.natAbs 1 := by rw [ord_gt hz]; decide
  obtain ⟨g, hg⟩ : ∃ g, ordOf z.natAbs 1 = g := ⟨_, rfl⟩
  rw [hg] at hord
  have hfit := pow_fits (M := 300000) (by decide) hnb
  obtain ⟨bx, hbx⟩ : ∃ x, bl z.natAbs = x := ⟨_, rfl⟩
  rw [hbx] at hnb
  have hne : ((n : Int) == 0) = false := by rw [beq_eq_false_iff_ne]; omega
  have hne' : ¬ (n : Int) = 0 := by omega
  obtain ⟨d, hd⟩ : ∃ d, 65536 / n = d := ⟨_, rfl⟩
  have hdq : (65536 : Int) / (n : Int) = (d : Int) := by rw [← hd]; simp
  have hdt : (65536 : Int).tdiv (n : Int) = (d : Int) := by rw [Int.tdiv_eq_ediv_of_nonneg (by decide)]; exact hdq
  have hle : bx ≤ d := by rw [← hd]; exact (Nat.le_div_iff_mul_le hpos).2 (by rw [Nat.mul_comm]; exact hnb)
  have hbl : (bx : Int) - 1 ≤ (d : Int) := by omega
  have hbl2 : (bx : Int) ≤ 65536 := by have := Nat.le_mul_of_pos_left bx hpos; omega
  have hd2 : (d : Int) ≤ 65536 := by rw [← hd]; have := Nat.div_le_self 65536 n; omega
  have hposI : (0 : Int) < (n : Int) := by omega
  clear hd hle hnb
  have H := Lib.hid (And.intro hb0 (And.intro hR (And.intro hT (And.intro hW (And.intro hx0 (And.intro hs (And.intro hz (And.intro hg (And.intro hbx hfit)))))))))
  have hn0 : (0 : Int) ≤ (n : Int) := Int.natCast_nonneg _
  obtain ⟨px0, px1⟩ := id H.out.2.2.1
  clear hb0 hT hR hsz0 hW hx0 h hs hz hg hbx hfit
  go_enter Try.func46, Try.ntmps46
  go_upto_region 1 with fail
  rw [H.out.2.2.2.1]
  go_wp2_with fail
  go_region_held3 (fun w' => w'.cell? ⟨w.heap.size, 1, none⟩ = some (.slice A zs.length c))
    (((try dsimp only); (repeat' apply And.intro) <;> (first | (with_reducible assumption) | go_keep)))
    ((first | (go_at_call 71; refine (word_any 1 _ (by decide)).mono ?_; rintro e w2 ⟨A2, c2, p2, rfl, hl2, hb2⟩; have k2 := H.out.2.2.1.step hb2 rfl (by omega); have r2 := H.out.2.1.step hb2 rfl (by omega); have x2 := H.out.2.2.2.2.1.step hb2 rfl; have b2 := below_then H.out.1.drew hb2; have s2 : w.heap.size + 2 ≤ w2.heap.size := Nat.le_trans hsz hb2.size; obtain ⟨qx0, qx1⟩ := id k2) | (go_at_call 84; go_loud (refine (compare_limbs g (by exact x2) (by exact hl2) (by omega) H.out.2.2.2.2.2.2.2.1).mono ?_); rintro e w' ⟨⟨dn, rfl⟩, rfl⟩)))
  have k3 : Two (w2.drewN dn) w.heap.size (.bool false) (.slice A zs.length c) := k2
  have r3 : Res (w2.drewN dn) (w.heap.size + 1) := r2
  have x3 : Limbs (w2.drewN dn) A c zs z.natAbs := x2
  have b3 : Below w.heap.size w (w2.drewN dn) := ⟨b2.os, b2.tape, b2.output, b2.size, b2.block⟩
  have s3 : w.heap.size + 2 ≤ (w2.drewN dn).heap.size := s2
  obtain ⟨w3, hw3⟩ : ∃ x, w2.drewN dn = x := ⟨_, rfl⟩
  rw [hw3] at k3 r3 x3 b3 s3 ⊢
  clear hw3 k2 r2 x2 b2 s2 qx0 qx1 hl2 hb2 px0 px1
  obtain ⟨px0, px1⟩ := id k3
  have hwd := width_any A c z.natAbs zs w3 x3 (by omega)
  rw [H.out.2.2.2.2.2.2.2.2.1] at hwd
  have hrs := raised_any A c zs z.natAbs n w3 x3 (by have := H.out.2.2.2.2.2.2.1; omega) hl (by omega) H.out.2.2.2.2.2.2.2.2.2.1
  have HW := Lib.hid (And.intro hwd (And.intro hrs (And.intro r3 (And.intro b3 k3))))
  clear hwd hrs r3 b3 x3 k3
  go_wp2_with fail
  refine HW.out.1.mono ?_
  rintro e w' ⟨rfl, rfl⟩
  go_wp2_with fail
  refine HW.out.2.1.mono ?_
  rintro e w5 ⟨A5, c5, p5, rfl, hl5, hb5⟩
  have k5 := HW.out.2.2.2.2.step hb5 rfl (by omega)
  have r5 := HW.out.2.2.1.step hb5 rfl (by omega)
  have b5 := below_then HW.out.2.2.2.1 hb5
  have s5 : w.heap.size + 2 ≤ w5.heap.size := Nat.le_trans s3 hb5.size
  have hn5 := hl5.len H.out.2.2.2.2.2.2.2.2.2.1
  have hsn := signed_to false A5 c5 p5 (z ^ n) w5 hl5.2.1 hl5.2.2.1 (by omega) hl5.1 (by rw [hl5.2.2.2.2]; exact pow_false H.out.2.2.2.2.2.1)
  have HS := Lib.hid (And.intro hsn (And.intro r5 (And.intro b5 k5)))
  clear hsn r5 b5 k5 hl5 hb5 HW hn5 px0 px1
  obtain ⟨px0, px1⟩ := id HS.out.2.2.2
  go_wp2_with fail
  refine HS.out.1.mono ?_
  rintro e w6 ⟨v6, rfl, ⟨b6, A6, c6, zs6, rfl, hsg6, hl6⟩, hb6⟩
  have k6 := HS.out.2.2.2.step hb6 rfl (by omega)
  have r6 := HS.out.2.1.step hb6 rfl (by omega)
  have b6' := below_then HS.out.2.2.1 hb6
  have s6 : w.heap.size + 2 ≤ w6.heap.size := Nat.le_trans s5 hb6.size
  have H6 := Lib.hid (And.intro k6 (And.intro r6 (And.intro b6' (And.intro hl6 hsg6))))
  clear k6 r6 b6' hl6 hb6 HS px0 px1 hsg6
  have hal : Below w6.heap.size w6 (w6.alloc (.cells #[.bool b6, .slice A6 zs6.length c6] 28)) := (Below.refl _ _).alloc (Nat.le_refl _) _
  have hi7 : IntAt (w6.alloc (.cells #[.bool b6, .slice A6 zs6.length c6] 28)) (.agg #[.bool b6, .slice A6 zs6.length c6]) (z ^ n) := ⟨b6, A6, c6, zs6, rfl, H6.out.2.2.2.2, H6.out.2.2.2.1.below hal⟩
  have hln := Length_any _ (z ^ n) 300000 _ hi7 (by decide) (by rw [Int.natAbs_pow]; exact H.out.2.2.2.2.2.2.2.2.2.1)
  have hbm := mag_fits (z := z ^ n) (by rw [Int.natAbs_pow]; exact H.out.2.2.2.2.2.2.2.2.2.2)
  obtain ⟨bz, hbz⟩ : ∃ x, bl (magOf (z ^ n)) = x := ⟨_, rfl⟩
  rw [hbz] at hln hbm
  have hbmI : (bz : Int) ≤ 65536 := by omega
  have r7 := H6.out.2.1.step hal rfl (by omega)
  have H7 := Lib.hid (And.intro hln (And.intro hal (And.intro r7 (And.intro hi7 (Two.new w6 (.bool b6) (.slice A6 zs6.length c6) 28)))))
  have s7 : w6.heap.size + 1 ≤ (w6.alloc (.cells #[.bool b6, .slice A6 zs6.length c6] 28)).heap.size := by rw [size_alloc]; omega
  clear hal hi7 hln hbm hbz r7
  go_wp2_with fail
  refine H7.out.1.mono ?_
  rintro e w8 ⟨rfl, hb8⟩
  have k8 := H7.out.2.2.2.2.step hb8 rfl (by omega)
  have r8 := H7.out.2.2.1.step hb8 rfl (by omega)
  have b8 := below_then (below_then H6.out.2.2.1 H7.out.2.1) hb8
  have l8 := (H6.out.2.2.2.1.below H7.out.2.1).below hb8
  have hg6 := H6.out.2.2.2.2
  clear s7
  obtain ⟨px0, px1⟩ := id k8
  obtain ⟨⟨hr0, hr1⟩, hf0, hf1⟩ := id r8
  go_wp2
  have q := r8.1.stored (.bool b6) (.slice A6 zs6.length c6)
  obtain ⟨q0, q1⟩ := id q
  refine bodyPost_ret (v := .tuple #[.agg #[.bool b6, .slice A6 zs6.length c6], .int .i64 0]) (by simp [results, Try.results46, go_sem, q0, q1]) rfl ?_
  exact intE_stored r8 hg6 l8 b8 (by omega)

set_option maxRecDepth 100000 in
set_option maxHeartbeats 1000000 in
theorem power_odd (A : Option Addr) (c : Nat) (zs : List Nat) (z : Int) (n : Nat) (w : World) (hs : SignOf true z) (h : Limbs w A c zs z.natAbs) (hl : zs.length ≤ 300000) (hz : 1 < z.natAbs) (hpos : 0 < n) (hn : n ≤ 1000000) (hnb : n * bl z.natAbs ≤ 65536) (ho : n % 2 = 1) :
    Calls Try.prog 46 #[.agg #[.bool true, .slice A zs.length c], .int .i64 (n : Int)] w fun e w' => IsIE w w' (z ^ n) 0 e := by
  have hb0 := begun1_below w (.bool true) (.slice A zs.length c) 28
  have hT := begun1_x w (.bool true) (.slice A zs.length c) 28
  have hR := begun1_r w (.bool true) (.slice A zs.length c) 28
  have hsz0 := begun1_size w (.bool true) (.slice A zs.length c) 28
  obtain ⟨W, hW⟩ : ∃ W, begun1 w (.bool true) (.slice A zs.length c) 28 = W := ⟨_, rfl⟩
  rw [hW] at hb0 hT hR hsz0
  unfold begun1 at hW
  have hx0 := h.below hb0
  have hsz : w.heap.size + 2 ≤ W.heap.size := by omega
  have hord : 0 < ordOf z.natAbs 1 := by rw [ord_gt hz]; decide
  obtain ⟨g, hg⟩ : ∃ g, ordOf z.natAbs 1 = g := ⟨_, rfl⟩
  rw [hg] at hord
  have hfit := pow_fits (M := 300000) (by decide) hnb
  obtain ⟨bx, hbx⟩ : ∃ x, bl z.natAbs = x := ⟨_, rfl⟩
  rw [hbx] at hnb
  have hne : ((n : Int) == 0) = false := by rw [beq_eq_false_iff_ne]; omega
  have hne' : ¬ (n : Int) = 0 := by omega
  obtain ⟨d, hd⟩ : ∃ d, 65536 / n = d := ⟨_, rfl⟩
  have hdq : (65536 : Int) / (n : Int) = (d : Int) := by rw [← hd]; simp
  have hdt : (65536 : Int).tdiv (n : Int) = (d : Int) := by rw [Int.tdiv_eq_ediv_of_nonneg (by decide)]; exact hdq
  have hle : bx ≤ d := by rw [← hd]; exact (Nat.le_div_iff_mul_le hpos).2 (by rw [Nat.mul_comm]; exact hnb)
  have hbl : (bx : Int) - 1 ≤ (d : Int) := by omega
  have hbl2 : (bx : Int) ≤ 65536 := by have := Nat.le_mul_of_pos_left bx hpos; omega
  have hd2 : (d : Int) ≤ 65536 := by rw [← hd]; have := Nat.div_le_self 65536 n; omega
  have hposI : (0 : Int) < (n : Int) := by omega
  clear hd hle hnb
  have hbit : (bits .and .i64 (n : Int) 1 == 1) = true := by rw [i64_and1, beq_iff_eq]; omega
  have H := Lib.hid (And.intro hb0 (And.intro hR (And.intro hT (And.intro hW (And.intro hx0 (And.intro hs (And.intro hz (And.intro hg (And.intro hbx hfit)))))))))
  have hn0 : (0 : Int) ≤ (n : Int) := Int.natCast_nonneg _
  obtain ⟨px0, px1⟩ := id H.out.2.2.1
  clear hb0 hT hR hsz0 hW hx0 h hs hz hg hbx hfit
  go_enter Try.func46, Try.ntmps46
  go_upto_region 1 with fail
  rw [H.out.2.2.2.1]
  go_wp2_with fail
  go_region_held3 (fun w' => w'.cell? ⟨w.heap.size, 1, none⟩ = some (.slice A zs.length c))
    (((try dsimp only); (repeat' apply And.intro) <;> (first | (with_reducible assumption) | go_keep)))
    ((first | (go_at_call 71; refine (word_any 1 _ (by decide)).mono ?_; rintro e w2 ⟨A2, c2, p2, rfl, hl2, hb2⟩; have k2 := H.out.2.2.1.step hb2 rfl (by omega); have r2 := H.out.2.1.step hb2 rfl (by omega); have x2 := H.out.2.2.2.2.1.step hb2 rfl; have b2 := below_then H.out.1.drew hb2; have s2 : w.heap.size + 2 ≤ w2.heap.size := Nat.le_trans hsz hb2.size; obtain ⟨qx0, qx1⟩ := id k2) | (go_at_call 84; go_loud (refine (compare_limbs g (by exact x2) (by exact hl2) (by omega) H.out.2.2.2.2.2.2.2.1).mono ?_); rintro e w' ⟨⟨dn, rfl⟩, rfl⟩)))
  have k3 : Two (w2.drewN dn) w.heap.size (.bool true) (.slice A zs.length c) := k2
  have r3 : Res (w2.drewN dn) (w.heap.size + 1) := r2
  have x3 : Limbs (w2.drewN dn) A c zs z.natAbs := x2
  have b3 : Below w.heap.size w (w2.drewN dn) := ⟨b2.os, b2.tape, b2.output, b2.size, b2.block⟩
  have s3 : w.heap.size + 2 ≤ (w2.drewN dn).heap.size := s2
  obtain ⟨w3, hw3⟩ : ∃ x, w2.drewN dn = x := ⟨_, rfl⟩
  rw [hw3] at k3 r3 x3 b3 s3 ⊢
  clear hw3 k2 r2 x2 b2 s2 qx0 qx1 hl2 hb2 px0 px1
  obtain ⟨px0, px1⟩ := id k3
  have hwd := width_any A c z.natAbs zs w3 x3 (by omega)
  rw [H.out.2.2.2.2.2.2.2.2.1] at hwd
  have hrs := raised_any A c zs z.natAbs n w3 x3 (by have := H.out.2.2.2.2.2.2.1; omega) hl (by omega) H.out.2.2.2.2.2.2.2.2.2.1
  have HW := Lib.hid (And.intro hwd (And.intro hrs (And.intro r3 (And.intro b3 k3))))
  clear hwd hrs r3 b3 x3 k3
  go_wp2_with fail
  refine HW.out.1.mono ?_
  rintro e w' ⟨rfl, rfl⟩
  go_wp2_with fail
  refine HW.out.2.1.mono ?_
  rintro e w5 ⟨A5, c5, p5, rfl, hl5, hb5⟩
  have k5 := HW.out.2.2.2.2.step hb5 rfl (by omega)
  have r5 := HW.out.2.2.1.step hb5 rfl (by omega)
  have b5 := below_then HW.out.2.2.2.1 hb5
  have s5 : w.heap.size + 2 ≤ w5.heap.size := Nat.le_trans s3 hb5.size
  have hn5 := hl5.len H.out.2.2.2.2.2.2.2.2.2.1
  have hsn := signed_to true A5 c5 p5 (z ^ n) w5 hl5.2.1 hl5.2.2.1 (by omega) hl5.1 (by rw [hl5.2.2.2.2]; exact pow_odd H.out.2.2.2.2.2.1 ho)
  have HS := Lib.hid (And.intro hsn (And.intro r5 (And.intro b5 k5)))
  clear hsn r5 b5 k5 hl5 hb5 HW hn5 px0 px1
  obtain ⟨px0, px1⟩ := id HS.out.2.2.2
  go_wp2_with fail
  refine HS.out.1.mono ?_
  rintro e w6 ⟨v6, rfl, ⟨b6, A6, c6, zs6, rfl, hsg6, hl6⟩, hb6⟩
  have k6 := HS.out.2.2.2.step hb6 rfl (by omega)
  have r6 := HS.out.2.1.step hb6 rfl (by omega)
  have b6' := below_then HS.out.2.2.1 hb6
  have s6 : w.heap.size + 2 ≤ w6.heap.size := Nat.le_trans s5 hb6.size
  have H6 := Lib.hid (And.intro k6 (And.intro r6 (And.intro b6' (And.intro hl6 hsg6))))
  clear k6 r6 b6' hl6 hb6 HS px0 px1 hsg6
  have hal : Below w6.heap.size w6 (w6.alloc (.cells #[.bool b6, .slice A6 zs6.length c6] 28)) := (Below.refl _ _).alloc (Nat.le_refl _) _
  have hi7 : IntAt (w6.alloc (.cells #[.bool b6, .slice A6 zs6.length c6] 28)) (.agg #[.bool b6, .slice A6 zs6.length c6]) (z ^ n) := ⟨b6, A6, c6, zs6, rfl, H6.out.2.2.2.2, H6.out.2.2.2.1.below hal⟩
  have hln := Length_any _ (z ^ n) 300000 _ hi7 (by decide) (by rw [Int.natAbs_pow]; exact H.out.2.2.2.2.2.2.2.2.2.1)
  have hbm := mag_fits (z := z ^ n) (by rw [Int.natAbs_pow]; exact H.out.2.2.2.2.2.2.2.2.2.2)
  obtain ⟨bz, hbz⟩ : ∃ x, bl (magOf (z ^ n)) = x := ⟨_, rfl⟩
  rw [hbz] at hln hbm
  have hbmI : (bz : Int) ≤ 65536 := by omega
  have r7 := H6.out.2.1.step hal rfl (by omega)
  have H7 := Lib.hid (And.intro hln (And.intro hal (And.intro r7 (And.intro hi7 (Two.new w6 (.bool b6) (.slice A6 zs6.length c6) 28)))))
  have s7 : w6.heap.size + 1 ≤ (w6.alloc (.cells #[.bool b6, .slice A6 zs6.length c6] 28)).heap.size := by rw [size_alloc]; omega
  clear hal hi7 hln hbm hbz r7
  go_wp2_with fail
  refine H7.out.1.mono ?_
  rintro e w8 ⟨rfl, hb8⟩
  have k8 := H7.out.2.2.2.2.step hb8 rfl (by omega)
  have r8 := H7.out.2.2.1.step hb8 rfl (by omega)
  have b8 := below_then (below_then H6.out.2.2.1 H7.out.2.1) hb8
  have l8 := (H6.out.2.2.2.1.below H7.out.2.1).below hb8
  have hg6 := H6.out.2.2.2.2
  clear s7
  obtain ⟨px0, px1⟩ := id k8
  obtain ⟨⟨hr0, hr1⟩, hf0, hf1⟩ := id r8
  go_wp2
  have q := r8.1.stored (.bool b6) (.slice A6 zs6.length c6)
  obtain ⟨q0, q1⟩ := id q
  refine bodyPost_ret (v := .tuple #[.agg #[.bool b6, .slice A6 zs6.length c6], .int .i64 0]) (by simp [results, Try.results46, go_sem, q0, q1]) rfl ?_
  exact intE_stored r8 hg6 l8 b8 (by omega)

set_option maxRecDepth 100000 in
set_option maxHeartbeats 1000000 in
theorem power_even (A : Option Addr) (c : Nat) (zs : List Nat) (z : Int) (n : Nat) (w : World) (hs : SignOf true z) (h : Limbs w A c zs z.natAbs) (hl : zs.length ≤ 300000) (hz : 1 < z.natAbs) (hpos : 0 < n) (hn : n ≤ 1000000) (hnb : n * bl z.natAbs ≤ 65536) (ho : n % 2 = 0) :
    Calls Try.prog 46 #[.agg #[.bool true, .slice A zs.length c], .int .i64 (n : Int)] w fun e w' => IsIE w w' (z ^ n) 0 e := by
  have hb0 := begun1_below w (.bool true) (.slice A zs.length c) 28
  have hT := begun1_x w (.bool true) (.slice A zs.length c) 28
  have hR := begun1_r w (.bool true) (.slice A zs.length c) 28
  have hsz0 := begun1_size w (.bool true) (.slice A zs.length c) 28
  obtain ⟨W, hW⟩ : ∃ W, begun1 w (.bool true) (.slice A zs.length c) 28 = W := ⟨_, rfl⟩
  rw [hW] at hb0 hT hR hsz0
  unfold begun1 at hW
  have hx0 := h.below hb0
  have hsz : w.heap.size + 2 ≤ W.heap.size := by omega
  have hord : 0 < ordOf z.natAbs 1 := by rw [ord_gt hz]; decide
  obtain ⟨g, hg⟩ : ∃ g, ordOf z.natAbs 1 = g := ⟨_, rfl⟩
  rw [hg] at hord
  have hfit := pow_fits (M := 300000) (by decide) hnb
  obtain ⟨bx, hbx⟩ : ∃ x, bl z.natAbs = x := ⟨_, rfl⟩
  rw [hbx] at hnb
  have hne : ((n : Int) == 0) = false := by rw [beq_eq_false_iff_ne]; omega
  have hne' : ¬ (n : Int) = 0 := by omega
  obtain ⟨d, hd⟩ : ∃ d, 65536 / n = d := ⟨_, rfl⟩
  have hdq : (65536 : Int) / (n : Int) = (d : Int) := by rw [← hd]; simp
  have hdt : (65536 : Int).tdiv (n : Int) = (d : Int) := by rw [Int.tdiv_eq_ediv_of_nonneg (by decide)]; exact hdq
  have hle : bx ≤ d := by rw [← hd]; exact (Nat.le_div_iff_mul_le hpos).2 (by rw [Nat.mul_comm]; exact hnb)
  have hbl : (bx : Int) - 1 ≤ (d : Int) := by omega
  have hbl2 : (bx : Int) ≤ 65536 := by have := Nat.le_mul_of_pos_left bx hpos; omega
  have hd2 : (d : Int) ≤ 65536 := by rw [← hd]; have := Nat.div_le_self 65536 n; omega
  have hposI : (0 : Int) < (n : Int) := by omega
  clear hd hle hnb
  have hbit : (bits .and .i64 (n : Int) 1 == 1) = false := by rw [i64_and1, beq_eq_false_iff_ne]; omega
  have H := Lib.hid (And.intro hb0 (And.intro hR (And.intro hT (And.intro hW (And.intro hx0 (And.intro hs (And.intro hz (And.intro hg (And.intro hbx hfit)))))))))
  have hn0 : (0 : Int) ≤ (n : Int) := Int.natCast_nonneg _
  obtain ⟨px0, px1⟩ := id H.out.2.2.1
  clear hb0 hT hR hsz0 hW hx0 h hs hz hg hbx hfit
  go_enter Try.func46, Try.ntmps46
  go_upto_region 1 with fail
  rw [H.out.2.2.2.1]
  go_wp2_with fail
  go_region_held3 (fun w' => w'.cell? ⟨w.heap.size, 1, none⟩ = some (.slice A zs.length c))
    (((try dsimp only); (repeat' apply And.intro) <;> (first | (with_reducible assumption) | go_keep)))
    ((first | (go_at_call 71; refine (word_any 1 _ (by decide)).mono ?_; rintro e w2 ⟨A2, c2, p2, rfl, hl2, hb2⟩; have k2 := H.out.2.2.1.step hb2 rfl (by omega); have r2 := H.out.2.1.step hb2 rfl (by omega); have x2 := H.out.2.2.2.2.1.step hb2 rfl; have b2 := below_then H.out.1.drew hb2; have s2 : w.heap.size + 2 ≤ w2.heap.size := Nat.le_trans hsz hb2.size; obtain ⟨qx0, qx1⟩ := id k2) | (go_at_call 84; go_loud (refine (compare_limbs g (by exact x2) (by exact hl2) (by omega) H.out.2.2.2.2.2.2.2.1).mono ?_); rintro e w' ⟨⟨dn, rfl⟩, rfl⟩)))
  have k3 : Two (w2.drewN dn) w.heap.size (.bool true) (.slice A zs.length c) := k2
  have r3 : Res (w2.drewN dn) (w.heap.size + 1) := r2
  have x3 : Limbs (w2.drewN dn) A c zs z.natAbs := x2
  have b3 : Below w.heap.size w (w2.drewN dn) := ⟨b2.os, b2.tape, b2.output, b2.size, b2.block⟩
  have s3 : w.heap.size + 2 ≤ (w2.drewN dn).heap.size := s2
  obtain ⟨w3, hw3⟩ : ∃ x, w2.drewN dn = x := ⟨_, rfl⟩
  rw [hw3] at k3 r3 x3 b3 s3 ⊢
  clear hw3 k2 r2 x2 b2 s2 qx0 qx1 hl2 hb2 px0 px1
  obtain ⟨px0, px1⟩ := id k3
  have hwd := width_any A c z.natAbs zs w3 x3 (by omega)
  rw [H.out.2.2.2.2.2.2.2.2.1] at hwd
  have hrs := raised_any A c zs z.natAbs n w3 x3 (by have := H.out.2.2.2.2.2.2.1; omega) hl (by omega) H.out.2.2.2.2.2.2.2.2.2.1
  have HW := Lib.hid (And.intro hwd (And.intro hrs (And.intro r3 (And.intro b3 k3))))
  clear hwd hrs r3 b3 x3 k3
  go_wp2_with fail
  refine HW.out.1.mono ?_
  rintro e w' ⟨rfl, rfl⟩
  go_wp2_with fail
  refine HW.out.2.1.mono ?_
  rintro e w5 ⟨A5, c5, p5, rfl, hl5, hb5⟩
  have k5 := HW.out.2.2.2.2.step hb5 rfl (by omega)
  have r5 := HW.out.2.2.1.step hb5 rfl (by omega)
  have b5 := below_then HW.out.2.2.2.1 hb5
  have s5 : w.heap.size + 2 ≤ w5.heap.size := Nat.le_trans s3 hb5.size
  have hn5 := hl5.len H.out.2.2.2.2.2.2.2.2.2.1
  have hsn := signed_to false A5 c5 p5 (z ^ n) w5 hl5.2.1 hl5.2.2.1 (by omega) hl5.1 (by rw [hl5.2.2.2.2]; exact pow_even H.out.2.2.2.2.2.1 ho)
  have HS := Lib.hid (And.intro hsn (And.intro r5 (And.intro b5 k5)))
  clear hsn r5 b5 k5 hl5 hb5 HW hn5 px0 px1
  obtain ⟨px0, px1⟩ := id HS.out.2.2.2
  go_wp2_with fail
  refine HS.out.1.mono ?_
  rintro e w6 ⟨v6, rfl, ⟨b6, A6, c6, zs6, rfl, hsg6, hl6⟩, hb6⟩
  have k6 := HS.out.2.2.2.step hb6 rfl (by omega)
  have r6 := HS.out.2.1.step hb6 rfl (by omega)
  have b6' := below_then HS.out.2.2.1 hb6
  have s6 : w.heap.size + 2 ≤ w6.heap.size := Nat.le_trans s5 hb6.size
  have H6 := Lib.hid (And.intro k6 (And.intro r6 (And.intro b6' (And.intro hl6 hsg6))))
  clear k6 r6 b6' hl6 hb6 HS px0 px1 hsg6
  have hal : Below w6.heap.size w6 (w6.alloc (.cells #[.bool b6, .slice A6 zs6.length c6] 28)) := (Below.refl _ _).alloc (Nat.le_refl _) _
  have hi7 : IntAt (w6.alloc (.cells #[.bool b6, .slice A6 zs6.length c6] 28)) (.agg #[.bool b6, .slice A6 zs6.length c6]) (z ^ n) := ⟨b6, A6, c6, zs6, rfl, H6.out.2.2.2.2, H6.out.2.2.2.1.below hal⟩
  have hln := Length_any _ (z ^ n) 300000 _ hi7 (by decide) (by rw [Int.natAbs_pow]; exact H.out.2.2.2.2.2.2.2.2.2.1)
  have hbm := mag_fits (z := z ^ n) (by rw [Int.natAbs_pow]; exact H.out.2.2.2.2.2.2.2.2.2.2)
  obtain ⟨bz, hbz⟩ : ∃ x, bl (magOf (z ^ n)) = x := ⟨_, rfl⟩
  rw [hbz] at hln hbm
  have hbmI : (bz : Int) ≤ 65536 := by omega
  have r7 := H6.out.2.1.step hal rfl (by omega)
  have H7 := Lib.hid (And.intro hln (And.intro hal (And.intro r7 (And.intro hi7 (Two.new w6 (.bool b6) (.slice A6 zs6.length c6) 28)))))
  have s7 : w6.heap.size + 1 ≤ (w6.alloc (.cells #[.bool b6, .slice A6 zs6.length c6] 28)).heap.size := by rw [size_alloc]; omega
  clear hal hi7 hln hbm hbz r7
  go_wp2_with fail
  refine H7.out.1.mono ?_
  rintro e w8 ⟨rfl, hb8⟩
  have k8 := H7.out.2.2.2.2.step hb8 rfl (by omega)
  have r8 := H7.out.2.2.1.step hb8 rfl (by omega)
  have b8 := below_then (below_then H6.out.2.2.1 H7.out.2.1) hb8
  have l8 := (H6.out.2.2.2.1.below H7.out.2.1).below hb8
  have hg6 := H6.out.2.2.2.2
  clear s7
  obtain ⟨px0, px1⟩ := id k8
  obtain ⟨⟨hr0, hr1⟩, hf0, hf1⟩ := id r8
  go_wp2
  have q := r8.1.stored (.bool b6) (.slice A6 zs6.length c6)
  obtain ⟨q0, q1⟩ := id q
  refine bodyPost_ret (v := .tuple #[.agg #[.bool b6, .slice A6 zs6.length c6], .int .i64 0]) (by simp [results, Try.results46, go_sem, q0, q1]) rfl ?_
  exact intE_stored r8 hg6 l8 b8 (by omega)

set_option maxRecDepth 100000 in
set_option maxHeartbeats 1000000 in
theorem power_false0 (A : Option Addr) (c : Nat) (zs : List Nat) (z : Int) (w : World) (hs : SignOf false z) (h : Limbs w A c zs z.natAbs) (hl : zs.length ≤ 300000) (hz : 1 < z.natAbs) :
    Calls Try.prog 46 #[.agg #[.bool false, .slice A zs.length c], .int .i64 ((0 : Nat) : Int)] w fun e w' => IsIE w w' (z ^ 0) 0 e := by
  have hb0 := begun1_below w (.bool false) (.slice A zs.length c) 28
  have hT := begun1_x w (.bool false) (.slice A zs.length c) 28
  have hR := begun1_r w (.bool false) (.slice A zs.length c) 28
  have hsz0 := begun1_size w (.bool false) (.slice A zs.length c) 28
  obtain ⟨W, hW⟩ : ∃ W, begun1 w (.bool false) (.slice A zs.length c) 28 = W := ⟨_, rfl⟩
  rw [hW] at hb0 hT hR hsz0
  unfold begun1 at hW
  have hx0 := h.below hb0
  have hsz : w.heap.size + 2 ≤ W.heap.size := by omega
  have hord : 0 < ordOf z.natAbs 1 := by rw [ord_gt hz]; decide
  obtain ⟨g, hg⟩ : ∃ g, ordOf z.natAbs 1 = g := ⟨_, rfl⟩
  rw [hg] at hord
  have hnb : 0 * bl z.natAbs ≤ 65536 := by omega
  have hfit := pow_fits (M := 300000) (by decide) hnb
  obtain ⟨bx, hbx⟩ : ∃ x, bl z.natAbs = x := ⟨_, rfl⟩
  clear hnb
  have H := Lib.hid (And.intro hb0 (And.intro hR (And.intro hT (And.intro hW (And.intro hx0 (And.intro hs (And.intro hz (And.intro hg (And.intro hbx hfit)))))))))
  obtain ⟨px0, px1⟩ := id H.out.2.2.1
  clear hb0 hT hR hsz0 hW hx0 h hs hz hg hbx hfit
  go_enter Try.func46, Try.ntmps46
  go_upto_region 1 with fail
  rw [H.out.2.2.2.1]
  go_wp2_with fail
  go_region_held3 (fun w' => w'.cell? ⟨w.heap.size, 1, none⟩ = some (.slice A zs.length c))
    (((try dsimp only); (repeat' apply And.intro) <;> (first | (with_reducible assumption) | go_keep)))
    ((first | (go_at_call 71; refine (word_any 1 _ (by decide)).mono ?_; rintro e w2 ⟨A2, c2, p2, rfl, hl2, hb2⟩; have k2 := H.out.2.2.1.step hb2 rfl (by omega); have r2 := H.out.2.1.step hb2 rfl (by omega); have x2 := H.out.2.2.2.2.1.step hb2 rfl; have b2 := below_then H.out.1.drew hb2; have s2 : w.heap.size + 2 ≤ w2.heap.size := Nat.le_trans hsz hb2.size; obtain ⟨qx0, qx1⟩ := id k2) | (go_at_call 84; go_loud (refine (compare_limbs g (by exact x2) (by exact hl2) (by omega) H.out.2.2.2.2.2.2.2.1).mono ?_); rintro e w' ⟨⟨dn, rfl⟩, rfl⟩)))
  have k3 : Two (w2.drewN dn) w.heap.size (.bool false) (.slice A zs.length c) := k2
  have r3 : Res (w2.drewN dn) (w.heap.size + 1) := r2
  have x3 : Limbs (w2.drewN dn) A c zs z.natAbs := x2
  have b3 : Below w.heap.size w (w2.drewN dn) := ⟨b2.os, b2.tape, b2.output, b2.size, b2.block⟩
  have s3 : w.heap.size + 2 ≤ (w2.drewN dn).heap.size := s2
  obtain ⟨w3, hw3⟩ : ∃ x, w2.drewN dn = x := ⟨_, rfl⟩
  rw [hw3] at k3 r3 x3 b3 s3 ⊢
  clear hw3 k2 r2 x2 b2 s2 qx0 qx1 hl2 hb2 px0 px1
  obtain ⟨px0, px1⟩ := id k3
  have hwd := width_any A c z.natAbs zs w3 x3 (by omega)
  rw [H.out.2.2.2.2.2.2.2.2.1] at hwd
  have hrs := raised_any A c zs z.natAbs 0 w3 x3 (by have := H.out.2.2.2.2.2.2.1; omega) hl (by omega) H.out.2.2.2.2.2.2.2.2.2.1
  have HW := Lib.hid (And.intro hwd (And.intro hrs (And.intro r3 (And.intro b3 k3))))
  clear hwd hrs r3 b3 x3 k3
  go_wp2_with fail
  refine HW.out.1.mono ?_
  rintro e w' ⟨rfl, rfl⟩
  go_wp2_with fail
  refine HW.out.2.1.mono ?_
  rintro e w5 ⟨A5, c5, p5, rfl, hl5, hb5⟩
  have k5 := HW.out.2.2.2.2.step hb5 rfl (by omega)
  have r5 := HW.out.2.2.1.step hb5 rfl (by omega)
  have b5 := below_then HW.out.2.2.2.1 hb5
  have s5 : w.heap.size + 2 ≤ w5.heap.size := Nat.le_trans s3 hb5.size
  have hn5 := hl5.len H.out.2.2.2.2.2.2.2.2.2.1
  have hsn := signed_to false A5 c5 p5 (z ^ 0) w5 hl5.2.1 hl5.2.2.1 (by omega) hl5.1 (by rw [hl5.2.2.2.2]; exact pow_false0 H.out.2.2.2.2.2.1)
  have HS := Lib.hid (And.intro hsn (And.intro r5 (And.intro b5 k5)))
  clear hsn r5 b5 k5 hl5 hb5 HW hn5 px0 px1
  obtain ⟨px0, px1⟩ := id HS.out.2.2.2
  go_wp2_with fail
  refine HS.out.1.mono ?_
  rintro e w6 ⟨v6, rfl, ⟨b6, A6, c6, zs6, rfl, hsg6, hl6⟩, hb6⟩
  have k6 := HS.out.2.2.2.step hb6 rfl (by omega)
  have r6 := HS.out.2.1.step hb6 rfl (by omega)
  have b6' := below_then HS.out.2.2.1 hb6
  have s6 : w.heap.size + 2 ≤ w6.heap.size := Nat.le_trans s5 hb6.size
  have H6 := Lib.hid (And.intro k6 (And.intro r6 (And.intro b6' (And.intro hl6 hsg6))))
  clear k6 r6 b6' hl6 hb6 HS px0 px1 hsg6
  have hal : Below w6.heap.size w6 (w6.alloc (.cells #[.bool b6, .slice A6 zs6.length c6] 28)) := (Below.refl _ _).alloc (Nat.le_refl _) _
  have hi7 : IntAt (w6.alloc (.cells #[.bool b6, .slice A6 zs6.length c6] 28)) (.agg #[.bool b6, .slice A6 zs6.length c6]) (z ^ 0) := ⟨b6, A6, c6, zs6, rfl, H6.out.2.2.2.2, H6.out.2.2.2.1.below hal⟩
  have hln := Length_any _ (z ^ 0) 300000 _ hi7 (by decide) (by rw [Int.natAbs_pow]; exact H.out.2.2.2.2.2.2.2.2.2.1)
  have hbm := mag_fits (z := z ^ 0) (by rw [Int.natAbs_pow]; exact H.out.2.2.2.2.2.2.2.2.2.2)
  obtain ⟨bz, hbz⟩ : ∃ x, bl (magOf (z ^ 0)) = x := ⟨_, rfl⟩
  rw [hbz] at hln hbm
  have hbmI : (bz : Int) ≤ 65536 := by omega
  have r7 := H6.out.2.1.step hal rfl (by omega)
  have H7 := Lib.hid (And.intro hln (And.intro hal (And.intro r7 (And.intro hi7 (Two.new w6 (.bool b6) (.slice A6 zs6.length c6) 28)))))
  have s7 : w6.heap.size + 1 ≤ (w6.alloc (.cells #[.bool b6, .slice A6 zs6.length c6] 28)).heap.size := by rw [size_alloc]; omega
  clear hal hi7 hln hbm hbz r7
  go_wp2_with fail
  refine H7.out.1.mono ?_
  rintro e w8 ⟨rfl, hb8⟩
  have k8 := H7.out.2.2.2.2.step hb8 rfl (by omega)
  have r8 := H7.out.2.2.1.step hb8 rfl (by omega)
  have b8 := below_then (below_then H6.out.2.2.1 H7.out.2.1) hb8
  have l8 := (H6.out.2.2.2.1.below H7.out.2.1).below hb8
  have hg6 := H6.out.2.2.2.2
  clear s7
  obtain ⟨px0, px1⟩ := id k8
  obtain ⟨⟨hr0, hr1⟩, hf0, hf1⟩ := id r8
  go_wp2
  have q := r8.1.stored (.bool b6) (.slice A6 zs6.length c6)
  obtain ⟨q0, q1⟩ := id q
  refine bodyPost_ret (v := .tuple #[.agg #[.bool b6, .slice A6 zs6.length c6], .int .i64 0]) (by simp [results, Try.results46, go_sem, q0, q1]) rfl ?_
  exact intE_stored r8 hg6 l8 b8 (by omega)

set_option maxRecDepth 100000 in
set_option maxHeartbeats 1000000 in
theorem power_true0 (A : Option Addr) (c : Nat) (zs : List Nat) (z : Int) (w : World) (hs : SignOf true z) (h : Limbs w A c zs z.natAbs) (hl : zs.length ≤ 300000) (hz : 1 < z.natAbs) :
    Calls Try.prog 46 #[.agg #[.bool true, .slice A zs.length c], .int .i64 ((0 : Nat) : Int)] w fun e w' => IsIE w w' (z ^ 0) 0 e := by
  have hb0 := begun1_below w (.bool true) (.slice A zs.length c) 28
  have hT := begun1_x w (.bool true) (.slice A zs.length c) 28
  have hR := begun1_r w (.bool true) (.slice A zs.length c) 28
  have hsz0 := begun1_size w (.bool true) (.slice A zs.length c) 28
  obtain ⟨W, hW⟩ : ∃ W, begun1 w (.bool true) (.slice A zs.length c) 28 = W := ⟨_, rfl⟩
  rw [hW] at hb0 hT hR hsz0
  unfold begun1 at hW
  have hx0 := h.below hb0
  have hsz : w.heap.size + 2 ≤ W.heap.size := by omega
  have hord : 0 < ordOf z.natAbs 1 := by rw [ord_gt hz]; decide
  obtain ⟨g, hg⟩ : ∃ g, ordOf z.natAbs 1 = g := ⟨_, rfl⟩
  rw [hg] at hord
  have hnb : 0 * bl z.natAbs ≤ 65536 := by omega
  have hfit := pow_fits (M := 300000) (by decide) hnb
  obtain ⟨bx, hbx⟩ : ∃ x, bl z.natAbs = x := ⟨_, rfl⟩
  clear hnb
  have hbit : (bits .and .i64 ((0 : Nat) : Int) 1 == 1) = false := by decide
  have H := Lib.hid (And.intro hb0 (And.intro hR (And.intro hT (And.intro hW (And.intro hx0 (And.intro hs (And.intro hz (And.intro hg (And.intro hbx hfit)))))))))
  obtain ⟨px0, px1⟩ := id H.out.2.2.1
  clear hb0 hT hR hsz0 hW hx0 h hs hz hg hbx hfit
  go_enter Try.func46, Try.ntmps46
  go_upto_region 1 with fail
  rw [H.out.2.2.2.1]
  go_wp2_with fail
  go_region_held3 (fun w' => w'.cell? ⟨w.heap.size, 1, none⟩ = some (.slice A zs.length c))
    (((try dsimp only); (repeat' apply And.intro) <;> (first | (with_reducible assumption) | go_keep)))
    ((first | (go_at_call 71; refine (word_any 1 _ (by decide)).mono ?_; rintro e w2 ⟨A2, c2, p2, rfl, hl2, hb2⟩; have k2 := H.out.2.2.1.step hb2 rfl (by omega); have r2 := H.out.2.1.step hb2 rfl (by omega); have x2 := H.out.2.2.2.2.1.step hb2 rfl; have b2 := below_then H.out.1.drew hb2; have s2 : w.heap.size + 2 ≤ w2.heap.size := Nat.le_trans hsz hb2.size; obtain ⟨qx0, qx1⟩ := id k2) | (go_at_call 84; go_loud (refine (compare_limbs g (by exact x2) (by exact hl2) (by omega) H.out.2.2.2.2.2.2.2.1).mono ?_); rintro e w' ⟨⟨dn, rfl⟩, rfl⟩)))
  have k3 : Two (w2.drewN dn) w.heap.size (.bool true) (.slice A zs.length c) := k2
  have r3 : Res (w2.drewN dn) (w.heap.size + 1) := r2
  have x3 : Limbs (w2.drewN dn) A c zs z.natAbs := x2
  have b3 : Below w.heap.size w (w2.drewN dn) := ⟨b2.os, b2.tape, b2.output, b2.size, b2.block⟩
  have s3 : w.heap.size + 2 ≤ (w2.drewN dn).heap.size := s2
  obtain ⟨w3, hw3⟩ : ∃ x, w2.drewN dn = x := ⟨_, rfl⟩
  rw [hw3] at k3 r3 x3 b3 s3 ⊢
  clear hw3 k2 r2 x2 b2 s2 qx0 qx1 hl2 hb2 px0 px1
  obtain ⟨px0, px1⟩ := id k3
  have hwd := width_any A c z.natAbs zs w3 x3 (by omega)
  rw [H.out.2.2.2.2.2.2.2.2.1] at hwd
  have hrs := raised_any A c zs z.natAbs 0 w3 x3 (by have := H.out.2.2.2.2.2.2.1; omega) hl (by omega) H.out.2.2.2.2.2.2.2.2.2.1
  have HW := Lib.hid (And.intro hwd (And.intro hrs (And.intro r3 (And.intro b3 k3))))
  clear hwd hrs r3 b3 x3 k3
  go_wp2_with fail
  refine HW.out.1.mono ?_
  rintro e w' ⟨rfl, rfl⟩
  go_wp2_with fail
  refine HW.out.2.1.mono ?_
  rintro e w5 ⟨A5, c5, p5, rfl, hl5, hb5⟩
  have k5 := HW.out.2.2.2.2.step hb5 rfl (by omega)
  have r5 := HW.out.2.2.1.step hb5 rfl (by omega)
  have b5 := below_then HW.out.2.2.2.1 hb5
  have s5 : w.heap.size + 2 ≤ w5.heap.size := Nat.le_trans s3 hb5.size
  have hn5 := hl5.len H.out.2.2.2.2.2.2.2.2.2.1
  have hsn := signed_to false A5 c5 p5 (z ^ 0) w5 hl5.2.1 hl5.2.2.1 (by omega) hl5.1 (by rw [hl5.2.2.2.2]; exact pow_true0 H.out.2.2.2.2.2.1)
  have HS := Lib.hid (And.intro hsn (And.intro r5 (And.intro b5 k5)))
  clear hsn r5 b5 k5 hl5 hb5 HW hn5 px0 px1
  obtain ⟨px0, px1⟩ := id HS.out.2.2.2
  go_wp2_with fail
  refine HS.out.1.mono ?_
  rintro e w6 ⟨v6, rfl, ⟨b6, A6, c6, zs6, rfl, hsg6, hl6⟩, hb6⟩
  have k6 := HS.out.2.2.2.step hb6 rfl (by omega)
  have r6 := HS.out.2.1.step hb6 rfl (by omega)
  have b6' := below_then HS.out.2.2.1 hb6
  have s6 : w.heap.size + 2 ≤ w6.heap.size := Nat.le_trans s5 hb6.size
  have H6 := Lib.hid (And.intro k6 (And.intro r6 (And.intro b6' (And.intro hl6 hsg6))))
  clear k6 r6 b6' hl6 hb6 HS px0 px1 hsg6
  have hal : Below w6.heap.size w6 (w6.alloc (.cells #[.bool b6, .slice A6 zs6.length c6] 28)) := (Below.refl _ _).alloc (Nat.le_refl _) _
  have hi7 : IntAt (w6.alloc (.cells #[.bool b6, .slice A6 zs6.length c6] 28)) (.agg #[.bool b6, .slice A6 zs6.length c6]) (z ^ 0) := ⟨b6, A6, c6, zs6, rfl, H6.out.2.2.2.2, H6.out.2.2.2.1.below hal⟩
  have hln := Length_any _ (z ^ 0) 300000 _ hi7 (by decide) (by rw [Int.natAbs_pow]; exact H.out.2.2.2.2.2.2.2.2.2.1)
  have hbm := mag_fits (z := z ^ 0) (by rw [Int.natAbs_pow]; exact H.out.2.2.2.2.2.2.2.2.2.2)
  obtain ⟨bz, hbz⟩ : ∃ x, bl (magOf (z ^ 0)) = x := ⟨_, rfl⟩
  rw [hbz] at hln hbm
  have hbmI : (bz : Int) ≤ 65536 := by omega
  have r7 := H6.out.2.1.step hal rfl (by omega)
  have H7 := Lib.hid (And.intro hln (And.intro hal (And.intro r7 (And.intro hi7 (Two.new w6 (.bool b6) (.slice A6 zs6.length c6) 28)))))
  have s7 : w6.heap.size + 1 ≤ (w6.alloc (.cells #[.bool b6, .slice A6 zs6.length c6] 28)).heap.size := by rw [size_alloc]; omega
  clear hal hi7 hln hbm hbz r7
  go_wp2_with fail
  refine H7.out.1.mono ?_
  rintro e w8 ⟨rfl, hb8⟩
  have k8 := H7.out.2.2.2.2.step hb8 rfl (by omega)
  have r8 := H7.out.2.2.1.step hb8 rfl (by omega)
  have b8 := below_then (below_then H6.out.2.2.1 H7.out.2.1) hb8
  have l8 := (H6.out.2.2.2.1.below H7.out.2.1).below hb8
  have hg6 := H6.out.2.2.2.2
  clear s7
  obtain ⟨px0, px1⟩ := id k8
  obtain ⟨⟨hr0, hr1⟩, hf0, hf1⟩ := id r8
  go_wp2
  have q := r8.1.stored (.bool b6) (.slice A6 zs6.length c6)
  obtain ⟨q0, q1⟩ := id q
  refine bodyPost_ret (v := .tuple #[.agg #[.bool b6, .slice A6 zs6.length c6], .int .i64 0]) (by simp [results, Try.results46, go_sem, q0, q1]) rfl ?_
  exact intE_stored r8 hg6 l8 b8 (by omega)

/-- Power, where the result is surely not too long. -/
theorem Power_low (v : Value) (z : Int) (n M : Nat) (w : World) (h : IntAt w v z) (hM : M ≤ 300000) (hz : z.natAbs < B32 ^ M) (hn : n ≤ 1000000) (hnb : n * bl z.natAbs ≤ 65536) :
    Calls Try.prog 46 #[v, .int .i64 (n : Int)] w fun e w' => IsIE w w' (z ^ n) 0 e := by
  obtain ⟨b, A, c, zs, rfl, hs, hl⟩ := h
  have hlen : zs.length ≤ 300000 := Nat.le_trans (hl.len hz) hM
  by_cases h1 : z.natAbs ≤ 1
  · exact power_unit b A c zs z n w hs hl hlen h1 hn
  · have h2 : 1 < z.natAbs := by omega
    rcases Nat.eq_zero_or_pos n with rfl | hpos
    · cases b with
      | false => exact power_false0 A c zs z w hs hl hlen h2
      | true => exact power_true0 A c zs z w hs hl hlen h2
    · cases b with
      | false => exact power_false A c zs z n w hs hl hlen h2 hpos hn hnb
      | true =>
        by_cases ho : n % 2 = 1
        · exact power_odd A c zs z n w hs hl hlen h2 hpos hn hnb ho
        · exact power_even A c zs z n w hs hl hlen h2 hpos hn hnb (by omega)
/-- Root of what is not negative. -/
theorem Root_some (v : Value) (z : Int) (m : Nat) (w : World) (h : IntAt w v z) (hz : z.natAbs < B32 ^ m) (hm : m ≤ 200000) (h0 : 0 ≤ z) :
    Calls Try.prog 48 #[v] w fun e w' => ∃ r : Nat, IsRoot z.natAbs r ∧ IsIE w w' r 0 e := by
  obtain ⟨b, A, c, zs, rfl, hs, hl⟩ := h
  have hb : b = false := by unfold SignOf at hs; rw [hs]; simp; omega
  subst hb
  by_cases hp : 0 < z.natAbs
  · exact root_pos A c zs z.natAbs m w hl hp hm hz
  · have e : z = 0 := by omega
    subst e
    exact (root_zero A c zs w hl hs).mono fun _ _ h => ⟨0, ⟨Nat.le_refl _, by decide⟩, h⟩
theorem Root_none (v : Value) (z : Int) (w : World) (h : IntAt w v z) (h0 : z < 0) :
    Calls Try.prog 48 #[v] w fun e w' => IsIE w w' 0 1 e := by
  obtain ⟨b, A, c, zs, rfl, hs, hl⟩ := h
  have hb : b = true := by unfold SignOf at hs; rw [hs]; simp; omega
  subst hb
  exact root_neg A c zs w
end Go.Proofs.Ytagocllbfbbneaa
