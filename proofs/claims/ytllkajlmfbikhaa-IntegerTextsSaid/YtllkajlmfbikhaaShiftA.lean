/- Shifts, fields and deposits: what left, right, shifted, Shift, Field and Deposit of package integer do. -/
import Derived.Test.YtllkajlmfbikhaaBoolA
namespace Go.Proofs.Ytllkajlmfbikhaa
open Go.RowKit
set_option linter.unusedSimpArgs false

/-- z times 2 to the power of n, rounded down. -/
def shZ (z n : Int) : Int := if 0 ≤ n then z * ((2 ^ n.toNat : Nat) : Int) else z / ((2 ^ (-n).toNat : Nat) : Int)

theorem neg_div (m k : Nat) (hk : 0 < k) : (-1 - (m : Int)) / (k : Int) = -1 - ((m / k : Nat) : Int) := by
  have h := Nat.div_add_mod m k
  have hl := Nat.mod_lt m hk
  refine ((Int.ediv_emod_unique (a := -1 - (m : Int)) (b := (k : Int)) (q := -1 - ((m / k : Nat) : Int)) (r := (k : Int) - 1 - ((m % k : Nat) : Int)) (by omega)).mpr ⟨?_, by omega, by omega⟩).1
  have h2 : (k : Int) * ((m / k : Nat) : Int) + ((m % k : Nat) : Int) = (m : Int) := by exact_mod_cast h
  rw [Int.mul_sub, Int.mul_neg, Int.mul_one]
  omega
theorem magz_neg {z : Int} (h : z < 0) : z = -1 - (magOf z : Int) := by unfold magOf; rw [if_pos h]; omega
theorem magz_pos {z : Int} (h : ¬ z < 0) : z = (magOf z : Int) := by unfold magOf; rw [if_neg h]; omega
theorem magz_opp (z : Int) : magOf (-1 - z) = magOf z := by
  unfold magOf
  by_cases h : z < 0
  · rw [if_pos h, if_neg (by omega)]; omega
  · rw [if_neg h, if_pos (by omega)]; omega
theorem two_pos (k : Nat) : (0 : Int) < ((2 ^ k : Nat) : Int) := by have := Nat.two_pow_pos k; omega

/-- A bit, by division. -/
theorem bitZ_div (z : Int) (i : Nat) : bitZ z i = decide (z / ((2 ^ i : Nat) : Int) % 2 = 1) := by
  unfold bitZ
  rw [bitB_test, Nat.testBit_eq_decide_div_mod_eq]
  by_cases h : z < 0
  · obtain ⟨m, hm⟩ : ∃ m, magOf z = m := ⟨_, rfl⟩
    have e := magz_neg h
    rw [hm] at e ⊢
    rw [decide_eq_true h, e, neg_div m _ (Nat.two_pow_pos i)]
    generalize m / 2 ^ i = q
    by_cases hq : q % 2 = 1
    · rw [decide_eq_true hq, decide_eq_false (by omega)]; rfl
    · rw [decide_eq_false hq, decide_eq_true (by omega)]; rfl
  · obtain ⟨m, hm⟩ : ∃ m, magOf z = m := ⟨_, rfl⟩
    have e := magz_pos h
    rw [hm] at e ⊢
    have ed : z / ((2 ^ i : Nat) : Int) = ((m / 2 ^ i : Nat) : Int) := by rw [e]; exact_mod_cast rfl
    rw [decide_eq_false h, ed]
    generalize m / 2 ^ i = q
    by_cases hq : q % 2 = 1
    · rw [decide_eq_true hq, decide_eq_true (by omega)]; rfl
    · rw [decide_eq_false hq, decide_eq_false (by omega)]; rfl
theorem bit_down (z : Int) (k i : Nat) : bitZ (z / ((2 ^ k : Nat) : Int)) i = bitZ z (k + i) := by
  rw [bitZ_div, bitZ_div, Int.ediv_ediv_of_nonneg (Int.le_of_lt (two_pos k)), ← Int.natCast_mul, ← Nat.pow_add]
theorem bit_up (z : Int) (k i : Nat) : bitZ (z * ((2 ^ k : Nat) : Int)) i = if i < k then false else bitZ z (i - k) := by
  rw [bitZ_div]
  by_cases h : i < k
  · rw [if_pos h]
    have e : 2 ^ k = 2 ^ i * (2 ^ (k - i - 1) * 2) := by rw [← Nat.pow_succ, ← Nat.pow_add]; congr 1; omega
    rw [e, Int.natCast_mul (2 ^ i), Int.mul_comm ((2 ^ i : Nat) : Int), ← Int.mul_assoc, Int.mul_ediv_cancel _ (Int.ne_of_gt (two_pos i)), Int.natCast_mul, ← Int.mul_assoc]
    generalize z * ((2 ^ (k - i - 1) : Nat) : Int) = t
    exact decide_eq_false (by omega)
  · rw [if_neg h, bitZ_div]
    have e : 2 ^ i = 2 ^ (i - k) * 2 ^ k := by rw [← Nat.pow_add]; congr 1; omega
    rw [e, Int.natCast_mul, Int.mul_ediv_mul_of_pos_left _ _ (two_pos k)]

/-- An integer by its bits. -/
theorem bits_self (z : Int) (n : Nat) (h : bl (magOf z) ≤ n) : ofBits (bitZ z) n (decide (z < 0)) = z := by
  have hm := bl_le.mp h
  by_cases hz : z < 0
  · rw [decide_eq_true hz, bits_neg_of]
    have e : (fun i => !bitZ z i) = fun i => (magOf z).testBit i := by
      funext i
      unfold bitZ
      rw [bitB_test, decide_eq_true hz]
      cases (magOf z).testBit i <;> rfl
    rw [e, sum_of_test n _ hm]
    exact (magz_neg hz).symm
  · rw [decide_eq_false hz, bits_pos_of]
    have e : bitZ z = fun i => (magOf z).testBit i := by
      funext i
      unfold bitZ
      rw [bitB_test, decide_eq_false hz]
      cases (magOf z).testBit i <;> rfl
    rw [e, sum_of_test n _ hm]
    exact (magz_pos hz).symm
theorem bits_ext {x y : Int} (h : ∀ i, bitZ x i = bitZ y i) : x = y := by
  have hs : decide (x < 0) = decide (y < 0) := by
    rw [← bitZ_far (z := x) (i := max (bl (magOf x)) (bl (magOf y))) (by omega), ← bitZ_far (z := y) (i := max (bl (magOf x)) (bl (magOf y))) (by omega)]
    exact h _
  have e1 := bits_self x (max (bl (magOf x)) (bl (magOf y))) (by omega)
  have e2 := bits_self y (max (bl (magOf x)) (bl (magOf y))) (by omega)
  rw [hs, funext h] at e1
  exact e1.symm.trans e2
theorem sum_at (f : Nat → Bool) (n i : Nat) : (sumBits f n).testBit i = (decide (i < n) && f i) := by
  by_cases h : i < n
  · have := sum_lt f n
    have e : ∀ m, i < m → (sumBits f m).testBit i = f i := by
      intro m
      induction m with
      | zero => intro h; omega
      | succ m ih =>
        intro hm
        rw [sumBits, Nat.add_comm, Nat.testBit_two_pow_mul_add _ (sum_lt f m)]
        by_cases h2 : i < m
        · rw [if_pos h2, ih h2]
        · obtain rfl : i = m := by omega
          rw [if_neg h2, Nat.sub_self]
          cases f i <;> rfl
    rw [e n h, decide_eq_true h, Bool.true_and]
  · rw [decide_eq_false h, Bool.false_and]
    exact Nat.testBit_lt_two_pow (Nat.lt_of_lt_of_le (sum_lt f n) (Nat.pow_le_pow_right (by decide) (by omega)))
theorem bit_ofBits (f : Nat → Bool) (n : Nat) (s : Bool) (i : Nat) : bitZ (ofBits f n s) i = if i < n then f i else s := by
  cases s
  · rw [bits_pos_of]
    have hn : ¬ ((sumBits f n : Nat) : Int) < 0 := by omega
    unfold bitZ
    rw [bitB_test, decide_eq_false hn, show magOf ((sumBits f n : Nat) : Int) = sumBits f n from by unfold magOf; rw [if_neg hn]; omega, sum_at]
    by_cases h : i < n
    · rw [decide_eq_true h, if_pos h]; cases f i <;> rfl
    · rw [decide_eq_false h, if_neg h]; rfl
  · rw [bits_neg_of]
    obtain ⟨S, hS⟩ : ∃ S, sumBits (fun i => !f i) n = S := ⟨_, rfl⟩
    have hn : (-1 - (S : Int)) < 0 := by omega
    unfold bitZ
    rw [hS, bitB_test, decide_eq_true hn, show magOf (-1 - (S : Int)) = S from by unfold magOf; rw [if_pos hn]; omega, ← hS, sum_at]
    by_cases h : i < n
    · rw [decide_eq_true h, if_pos h]; cases f i <;> rfl
    · rw [decide_eq_false h, if_neg h]; rfl
theorem bit_boole (op : Nat) (x y : Int) (i : Nat) : bitZ (booleZ op x y) i = cho op (bitZ x i) (bitZ y i) := by
  unfold booleZ
  rw [bit_ofBits]
  by_cases h : i < max (bl (magOf x)) (bl (magOf y))
  · rw [if_pos h]
  · rw [if_neg h, bitZ_far (by omega), bitZ_far (by omega)]

/-- Some bits of z as a number. -/
def fieldZ (z : Int) (size pos : Nat) : Int := ofBits (fun i => bitZ z (pos + i)) size false
theorem bit_field (z : Int) (size pos i : Nat) : bitZ (fieldZ z size pos) i = if i < size then bitZ z (pos + i) else false := bit_ofBits ..
theorem field_pos (z : Int) (size pos : Nat) : fieldZ z size pos = ((sumBits (fun i => bitZ z (pos + i)) size : Nat) : Int) := bits_pos_of
theorem field_lt (z : Int) (size pos : Nat) : (fieldZ z size pos).natAbs < 2 ^ size := by
  rw [field_pos, Int.natAbs_natCast]
  exact sum_lt _ _
/-- z with some bits replaced by those of p. -/
def depZ (z p : Int) (size pos : Nat) : Int := ofBits (fun i => if pos ≤ i ∧ i < pos + size then bitZ p (i - pos) else bitZ z i) (max (bl (magOf z)) (pos + size)) (decide (z < 0))
theorem bit_dep (z p : Int) (size pos i : Nat) : bitZ (depZ z p size pos) i = if pos ≤ i ∧ i < pos + size then bitZ p (i - pos) else bitZ z i := by
  unfold depZ
  rw [bit_ofBits]
  by_cases h : i < max (bl (magOf z)) (pos + size)
  · rw [if_pos h]
  · rw [if_neg h, if_neg (by omega), bitZ_far (by omega)]
theorem ofBits_size (f : Nat → Bool) (n : Nat) (s : Bool) : (ofBits f n s).natAbs ≤ 2 ^ n := by
  cases s
  · rw [bits_pos_of, Int.natAbs_natCast]; exact Nat.le_of_lt (sum_lt f n)
  · rw [bits_neg_of]
    have := sum_lt (fun i => !f i) n
    omega
theorem dep_size (z p : Int) (size pos n : Nat) (hz : bl (magOf z) ≤ n) (hp : pos + size ≤ n) : (depZ z p size pos).natAbs ≤ 2 ^ n :=
  Nat.le_trans (ofBits_size _ _ _) (Nat.pow_le_pow_right (by decide) (by omega))
theorem cho6 (a b : Bool) : cho 6 a b = (a != b) := by cases a <;> cases b <;> rfl
theorem cho8 (a b : Bool) : cho 8 a b = (a && b) := by cases a <;> cases b <;> rfl
/-- What Deposit reckons. -/
theorem dep_is (x p : Int) (size pos : Nat) : booleZ 6 x (booleZ 6 (fieldZ x size pos) (fieldZ p size 0) * ((2 ^ pos : Nat) : Int)) = depZ x p size pos := by
  apply bits_ext
  intro i
  rw [bit_boole, bit_up, bit_dep, cho6]
  by_cases h1 : i < pos
  · rw [if_pos h1, if_neg (by omega)]; cases bitZ x i <;> rfl
  · rw [if_neg h1, bit_boole, cho6, bit_field, bit_field, show pos + (i - pos) = i by omega, Nat.zero_add]
    by_cases h2 : i < pos + size
    · rw [if_pos (by omega), if_pos (by omega), if_pos (by omega)]
      cases bitZ x i <;> cases bitZ p (i - pos) <;> rfl
    · rw [if_neg (by omega), if_neg (by omega), if_neg (by omega)]
      cases bitZ x i <;> rfl
theorem field_dep (x y : Int) (k at_ : Nat) : fieldZ (depZ x y k at_) k at_ = fieldZ y k 0 := by
  apply bits_ext
  intro i
  rw [bit_field, bit_field]
  by_cases h : i < k
  · rw [if_pos h, if_pos h, bit_dep, if_pos (by omega), show at_ + i - at_ = 0 + i by omega]
  · rw [if_neg h, if_neg h]
theorem dep_field (x : Int) (k at_ : Nat) : depZ x (fieldZ x k at_) k at_ = x := by
  apply bits_ext
  intro i
  rw [bit_dep]
  by_cases h : at_ ≤ i ∧ i < at_ + k
  · rw [if_pos h, bit_field, if_pos (by omega), show at_ + (i - at_) = i by omega]
  · rw [if_neg h]
theorem sum_xor_and (f g : Nat → Bool) (n : Nat) : sumBits (fun i => f i != g i) n + 2 * sumBits (fun i => f i && g i) n = sumBits f n + sumBits g n := by
  induction n with
  | zero => rfl
  | succ n ih =>
    simp only [sumBits]
    generalize 2 ^ n = p at *
    cases f n <;> cases g n <;> simp <;> omega
theorem xor_and (x y : Int) : booleZ 6 x y + booleZ 8 x y + booleZ 8 x y = x + y := by
  have hx := bits_self x (max (bl (magOf x)) (bl (magOf y))) (by omega)
  have hy := bits_self y (max (bl (magOf x)) (bl (magOf y))) (by omega)
  have hs := sum_xor_and (bitZ x) (bitZ y) (max (bl (magOf x)) (bl (magOf y)))
  unfold booleZ
  generalize max (bl (magOf x)) (bl (magOf y)) = n at *
  have e6 : (fun i => cho 6 (bitZ x i) (bitZ y i)) = fun i => bitZ x i != bitZ y i := funext fun i => cho6 _ _
  have e8 : (fun i => cho 8 (bitZ x i) (bitZ y i)) = fun i => bitZ x i && bitZ y i := funext fun i => cho8 _ _
  rw [e6, e8, cho6, cho8]
  generalize decide (x < 0) = s at *
  generalize decide (y < 0) = t at *
  unfold ofBits at *
  generalize ((2 ^ n : Nat) : Int) = p at *
  cases s <;> cases t <;> simp at * <;> omega
theorem sh_back (x : Int) (k : Nat) : shZ (shZ x k) (-(k : Int)) = x := by
  unfold shZ
  rw [if_pos (Int.natCast_nonneg k), Int.toNat_natCast]
  by_cases h : k = 0
  · subst h; simp
  · rw [if_neg (by omega), Int.neg_neg, Int.toNat_natCast, Int.mul_ediv_cancel _ (Int.ne_of_gt (two_pos k))]
theorem bl_opp (x : Int) : bl (magOf (-1 - x)) = bl (magOf x) := by rw [magz_opp]
theorem ones_opp (x : Int) : ones (magOf (-1 - x)) = ones (magOf x) := by rw [magz_opp]
theorem sh_pos (x : Int) (k : Nat) : shZ x k = x * ((2 ^ k : Nat) : Int) := by unfold shZ; rw [if_pos (Int.natCast_nonneg k), Int.toNat_natCast]
theorem sh_neg (x : Int) (k : Nat) : shZ x (-(k : Int)) = x / ((2 ^ k : Nat) : Int) := by
  unfold shZ
  by_cases h : k = 0
  · subst h; simp
  · rw [if_neg (by omega), Int.neg_neg, Int.toNat_natCast]

/-- Limbs moved up by l limbs and s digits, as far as i. -/
structure LeftAt (xs zs : List Nat) (l s i : Nat) : Prop where
  len : zs.length = xs.length + l + 1
  ok : Lm.Ok B32 zs
  zero : ∀ k, l + i < k → zs.getD k 0 = 0
  top : zs.getD (l + i) 0 < 2 ^ s
  num : Lm.val B32 zs = Lm.val B32 (xs.take i) * (B32 ^ l * 2 ^ s)

theorem B32_split (s : Nat) (hs : s < 32) : B32 = 2 ^ s * 2 ^ (32 - s) := by
  rw [← Nat.pow_add, show s + (32 - s) = 32 by omega]; rfl
theorem moved_low (x s : Nat) (hs : s < 32) : x * 2 ^ s % B32 = 2 ^ s * (x % 2 ^ (32 - s)) := by
  rw [B32_split s hs, Nat.mul_comm x, Nat.mul_mod_mul_left]
theorem moved_high (x s : Nat) (hx : x < 4294967296) : x * 2 ^ s / B32 < 2 ^ s := by
  rw [Nat.div_lt_iff_lt_mul B32_pos, Nat.mul_comm (2 ^ s)]
  exact Nat.mul_lt_mul_of_pos_right hx (Nat.two_pow_pos s)
theorem moved_or (x d s : Nat) (hs : s < 32) (hd : d < 2 ^ s) : d ||| x * 2 ^ s % B32 = d + x * 2 ^ s % B32 := by
  rw [moved_low x s hs, Nat.or_comm, Nat.add_comm d]
  exact (Nat.two_pow_add_eq_or_of_lt hd _).symm
theorem moved_lt (x d s : Nat) (hs : s < 32) (hd : d < 2 ^ s) : d + x * 2 ^ s % B32 < B32 := by
  rw [moved_low x s hs]
  have h : x % 2 ^ (32 - s) < 2 ^ (32 - s) := Nat.mod_lt _ (Nat.two_pow_pos _)
  have h2 : 2 ^ s * (x % 2 ^ (32 - s) + 1) ≤ 2 ^ s * 2 ^ (32 - s) := Nat.mul_le_mul_left _ h
  rw [← B32_split s hs, Nat.mul_add] at h2
  omega
theorem getD_set2 (zs : List Nat) (a b u v k : Nat) (ha : a ≠ k) (hb : b ≠ k) : ((zs.set a u).set b v).getD k 0 = zs.getD k 0 := by
  rw [Lm.getD_set_ne _ _ _ _ hb, Lm.getD_set_ne _ _ _ _ ha]
theorem left_start (xs : List Nat) (l s : Nat) : LeftAt xs (List.replicate (xs.length + l + 1) 0) l s 0 := by
  have hz : ∀ k, (List.replicate (xs.length + l + 1) 0).getD k 0 = 0 := fun k => by
    rw [List.getD_eq_getElem?_getD]
    by_cases hk : k < xs.length + l + 1 <;> simp [hk]
  exact ⟨by simp, Lm.Ok.zeros B32_pos _, fun k _ => hz k, by rw [hz]; exact Nat.two_pow_pos s, by rw [Lm.val_zeros]; simp [Lm.val]⟩
theorem left_step {xs zs : List Nat} {l s i x d : Nat} (h : LeftAt xs zs l s i) (hi : i < xs.length) (hs : s < 32) (hx : xs.getD i 0 = x) (hxl : x < 4294967296) (hd : zs.getD (l + i) 0 = d) :
    LeftAt xs ((zs.set (l + i) (d + x * 2 ^ s % B32)).set (l + i + 1) (x * 2 ^ s / B32)) l s (i + 1) := by
  have hdl : d < 2 ^ s := hd ▸ h.top
  have hh := moved_high x s hxl
  have h32 : 2 ^ s < B32 := by rw [B32_split s hs]; exact (Nat.lt_mul_iff_one_lt_right (Nat.two_pow_pos s)).mpr (Nat.one_lt_two_pow (by omega))
  refine ⟨by simpa using h.len, (h.ok.set _ _ (moved_lt x d s hs hdl)).set _ _ (by omega), fun k hk => ?_, ?_, ?_⟩
  · rw [getD_set2 _ _ _ _ _ _ (by omega) (by omega)]
    exact h.zero k (by omega)
  · rw [show l + (i + 1) = l + i + 1 by omega, getD_set_eq _ _ _ (by rw [List.length_set, h.len]; omega)]
    exact hh
  · have e1 := Lm.val_set B32 zs (l + i) (d + x * 2 ^ s % B32) (by rw [h.len]; omega)
    have e2 := Lm.val_set B32 (zs.set (l + i) (d + x * 2 ^ s % B32)) (l + i + 1) (x * 2 ^ s / B32) (by rw [List.length_set, h.len]; omega)
    rw [Lm.getD_set_ne _ _ _ _ (by omega), h.zero (l + i + 1) (by omega), Nat.mul_zero, Nat.add_zero] at e2
    rw [hd] at e1
    rw [e2, Lm.val_take_succ _ _ _ hi, hx, Nat.add_mul, ← h.num]
    have e3 : B32 ^ (l + i) * (x * 2 ^ s % B32) + B32 ^ (l + i + 1) * (x * 2 ^ s / B32) = B32 ^ (l + i) * (x * 2 ^ s) := by
      rw [Nat.pow_succ, Nat.mul_assoc, ← Nat.mul_add, Nat.mod_add_div]
    have e4 : B32 ^ i * x * (B32 ^ l * 2 ^ s) = B32 ^ (l + i) * (x * 2 ^ s) := by
      rw [Nat.pow_add]; ac_rfl
    rw [e4, ← e3]
    rw [Nat.mul_add] at e1
    omega
theorem left_end {xs zs : List Nat} {n : Nat} (h : LeftAt xs zs (n / 32) (n % 32) xs.length) : Lm.val B32 zs = Lm.val B32 xs * 2 ^ n := by
  rw [h.num, List.take_length, B32_pow, ← Nat.pow_add, show 32 * (n / 32) + n % 32 = n by omega]

/-- Limbs moved down by l limbs and s digits, as far as i. -/
structure RightAt (xs zs : List Nat) (l s i : Nat) : Prop where
  len : zs.length = xs.length - l
  ok : Lm.Ok B32 zs
  done_ : ∀ j, j < i → zs.getD j 0 = Lm.val B32 ((xs.drop (l + j)).take 2) / 2 ^ s % B32
theorem right_start (xs : List Nat) (l s : Nat) : RightAt xs (List.replicate (xs.length - l) 0) l s 0 := ⟨by simp, Lm.Ok.zeros B32_pos _, fun j hj => absurd hj (Nat.not_lt_zero _)⟩
theorem right_step {xs zs : List Nat} {l s i t : Nat} (h : RightAt xs zs l s i) (hi : i < xs.length - l) (ht : Lm.val B32 ((xs.drop (l + i)).take 2) = t) : RightAt xs (zs.set i (t / 2 ^ s % B32)) l s (i + 1) := by
  refine ⟨by simpa using h.len, h.ok.set _ _ (Nat.mod_lt _ B32_pos), fun j hj => ?_⟩
  by_cases e : j = i
  · subst e
    rw [getD_set_eq _ _ _ (by rw [h.len]; exact hi), ht]
  · rw [Lm.getD_set_ne _ _ _ _ (by omega)]
    exact h.done_ j (by omega)
theorem getD_take2 (xs : List Nat) (a q : Nat) (hq : q < 2) : ((xs.drop a).take 2).getD q 0 = xs.getD (a + q) 0 := by
  rw [List.getD_eq_getElem?_getD, List.getD_eq_getElem?_getD, List.getElem?_take, if_pos hq, List.getElem?_drop]
theorem right_end {xs zs : List Nat} {n : Nat} (h : RightAt xs zs (n / 32) (n % 32) (xs.length - n / 32)) (ho : Lm.Ok B32 xs) : Lm.val B32 zs = Lm.val B32 xs / 2 ^ n := by
  apply Nat.eq_of_testBit_eq
  intro i
  rw [limb_test h.ok, Nat.testBit_div_two_pow, limb_test ho]
  by_cases hj : i / 32 < xs.length - n / 32
  · rw [h.done_ _ hj, show B32 = 2 ^ 32 from rfl, Nat.testBit_mod_two_pow, decide_eq_true (Nat.mod_lt i (by decide)), Bool.true_and, Nat.testBit_div_two_pow, show 2 ^ 32 = B32 from rfl, limb_test ((ho.drop _).take _),
      getD_take2 _ _ _ (by omega), show n / 32 + i / 32 + (i % 32 + n % 32) / 32 = (i + n) / 32 by omega, show (i % 32 + n % 32) % 32 = (i + n) % 32 by omega]
  · rw [List.getD_eq_getElem?_getD, List.getElem?_eq_none (by rw [h.len]; omega), List.getD_eq_getElem?_getD, List.getElem?_eq_none (by omega)]
    simp
theorem right_far {xs : List Nat} {n : Nat} (ho : Lm.Ok B32 xs) (h : xs.length ≤ n / 32) : Lm.val B32 xs / 2 ^ n = 0 := by
  apply Nat.div_eq_of_lt
  refine Nat.lt_of_lt_of_le (Lm.val_lt ho) ?_
  rw [B32_pow]
  exact Nat.pow_le_pow_right (by decide) (by omega)

theorem moved_64 (x s : Nat) (hs : s < 32) (hx : x < 4294967296) : IntKind.u64.wrap ((x : Int) * 2 ^ s) = ((x * 2 ^ s : Nat) : Int) := by
  have h1 : 2 ^ s ≤ 2 ^ 31 := Nat.pow_le_pow_right (by decide) (by omega)
  have h2 : x * 2 ^ s ≤ 4294967295 * 2 ^ 31 := Nat.mul_le_mul (by omega) h1
  have e : (x : Int) * 2 ^ s = ((x * 2 ^ s : Nat) : Int) := by norm_cast
  rw [e]
  generalize x * 2 ^ s = t at *
  rw [IntKind.wrap_u64]
  omega
theorem left_low (d x s : Nat) (hs : s < 32) (hd : d < 2 ^ s) (hx : x < 4294967296) : bits .or .u32 (d : Int) (IntKind.u64.wrap ((x : Int) * 2 ^ s) % 4294967296) = ((d + x * 2 ^ s % B32 : Nat) : Int) := by
  have h32 : 2 ^ s ≤ 2 ^ 31 := Nat.pow_le_pow_right (by decide) (by omega)
  have hm := Nat.mod_lt (x * 2 ^ s) B32_pos
  rw [moved_64 x s hs hx, limb_mod (x * 2 ^ s) _ rfl, u32_or_nat d (x * 2 ^ s % B32) (by omega) hm, moved_or x d s hs hd]
theorem left_high (x s : Nat) (hs : s < 32) (hx : x < 4294967296) : IntKind.u64.wrap ((x : Int) * 2 ^ s) / 4294967296 % 4294967296 = ((x * 2 ^ s / B32 : Nat) : Int) := by
  have h := moved_high x s hx
  have h32 : 2 ^ s ≤ 2 ^ 31 := Nat.pow_le_pow_right (by decide) (by omega)
  rw [moved_64 x s hs hx, limb_div (x * 2 ^ s) _ rfl]
  generalize x * 2 ^ s / B32 = t at *
  omega

set_option maxRecDepth 100000 in
set_option maxHeartbeats 2000000 in
theorem left_some (A : Option Addr) (c m : Nat) (xs : List Nat) (n : Nat) (w : World) (h : Limbs w A c xs m) (hl : xs.length ≤ 400000) (hn : n ≤ 12000000) (h0 : 0 < xs.length) :
    Calls Try.prog 96 #[.slice A xs.length c, .int .i64 (n : Int)] w fun e w' => IsLims w w' (m * 2 ^ n) e := by
  obtain ⟨i0, hi0, hz0, hz1, hz2⟩ := info_parts Try.info99
  have HI := Lib.hid (And.intro hi0 (And.intro hz0 (And.intro hz1 hz2)))
  have HM := Lib.hid (show i0.bytes * (xs.length + n / 32 + 1) ≤ 281474976710656 ∧ xs.length + n / 32 + 1 ≤ maxLen from ⟨by rw [hz2]; omega, by unfold maxLen; omega⟩)
  clear hi0 hz0 hz1 hz2
  have hne : ((xs.length : Int) == 0) = false := by rw [beq_eq_false_iff_ne]; omega
  obtain ⟨l, hl0⟩ : ∃ l, n / 32 = l := ⟨_, rfl⟩
  obtain ⟨s, hs0⟩ : ∃ s, n % 32 = s := ⟨_, rfl⟩
  have hq : (n : Int) / 32 = (l : Int) := by omega
  have hr : (n : Int) % 32 = (s : Int) := by omega
  have hl1 : l ≤ 375000 := by omega
  have hs1 : s < 32 := by omega
  rw [hl0] at HM
  have hx := h.2.1
  have ox := h.2.2.1
  have hend : ∀ zs, LeftAt xs zs l s xs.length → Lm.val B32 zs = m * 2 ^ n := fun zs hz => by
    have := left_end (n := n) (by rw [hl0, hs0]; exact hz)
    rw [this, h.2.2.2.2]
  have HE := Lib.hid hend
  have HN := Lib.hid (And.intro hl0 hs0)
  clear hl0 hs0 hend h
  go_enter Try.func96, Try.ntmps96
  go_wp2_with (at_make; go_loud (refine wpList_make_full _ rfl _ _ 22 rfl w.heap.size 99 i0 (.int .u32 0) 1 Try.underlying22 HI.out.1 HI.out.2.1 HI.out.2.2.1 _ _ _ _ (xs.length + l + 1) rfl rfl (by omega) (by omega) HM.out.1 HM.out.2 (Nat.le_refl _) ?_); intro w1 hown1 hg1; rw [made_zero] at hown1; have HB := Lib.hid (own_block hown1); have hb1 : Below w.heap.size w w1 := (Below.refl _ _).grown hg1 (Nat.le_refl _) (fun k hk => by cases hk); clear hown1)
  have hz0 : Seg w1 w.heap.size 0 .u32 99 _ (List.replicate (xs.length + l + 1) 0) := seg_of_block HB.out
  have hx1 := hx.below hb1
  have hoffx : 0 < xs.length → Off A w.heap.size := fun hn => off_below hx hn (Nat.le_refl _)
  clear hx HB HI HM
  go_loopw [26] (fun iv wr => ∃ (i : Nat) (zs : List Nat), iv = .int .i64 i ∧ i ≤ xs.length ∧ LeftAt xs zs l s i ∧ SegTo wr w.heap.size 0 .u32 99 (cellsOf .u32 (List.replicate (xs.length + l + 1) 0)).toArray zs ∧ w1.grownBy wr (some w.heap.size)) (fun iv _ => xs.length - (intOf iv).toNat)
  case atStart => exact ⟨0, _, rfl, Nat.zero_le _, left_start xs l s, .refl hz0, World.grownBy.refl _ _⟩
  case round =>
    obtain ⟨i, zs, rfl, hi, hat, hseg, hgr⟩ := hrel
    by_cases hiy : i < xs.length
    · have hxr := hx1.grown hgr hoffx
      obtain ⟨ad, rfl, _, hcell⟩ := hxr.at_ hiy
      have hcx := hcell i hiy
      have hxl := limb_lt ox i
      obtain ⟨x, hxv⟩ : ∃ x, xs.getD i 0 = x := ⟨_, rfl⟩
      rw [hxv] at hcx hxl
      obtain ⟨cur', hs1', hs2, hs3⟩ := id hseg
      have hcz := hs1'.cell (j := l + i) (by rw [hat.len]; omega)
      have hcz1 := hs1'.cell (j := l + i + 1) (by rw [hat.len]; omega)
      have hfz := hs1'.frozen (0 + (l + i))
      have hfz1 := hs1'.frozen (0 + (l + i + 1))
      have hdl := hat.top
      obtain ⟨d, hd⟩ : ∃ d, zs.getD (l + i) 0 = d := ⟨_, rfl⟩
      obtain ⟨d1, hd1⟩ : ∃ d, zs.getD (l + i + 1) 0 = d := ⟨_, rfl⟩
      rw [hd] at hcz hdl
      rw [hd1] at hcz1
      simp only [Nat.zero_add] at hcz hfz hcz1 hfz1
      have HD := Lib.hid (And.intro hd hxv)
      clear hd hxv hs1' hs2 hs3 hcell hd1
      go_wp2
      go_roundw
      case rel =>
        have e1 := left_low d x s hs1 hdl hxl
        have e2 := left_high x s hs1 hxl
        refine ⟨i + 1, _, by go_num, by omega, left_step hat hiy hs1 HD.out.2 hxl HD.out.1, ?_, ?_⟩
        · rw [e1, e2]
          exact (hseg.set0 (j := l + i) (by rw [hat.len]; omega) _).set0 (j := l + i + 1) (by rw [List.length_set, hat.len]; omega) _
        · exact grown_trans (grown_trans hgr (grown_store _ _ _ _)) (grown_store _ _ _ _)
      case measure => simp [intOf]; omega
    · have hie : i = xs.length := by omega
      subst hie
      have hnum := HE.out zs hat
      have htr := trim_any (some ⟨w.heap.size, 0, none⟩) (xs.length + l + 1) zs wr (by obtain ⟨cur', hs1, _⟩ := hseg; exact hs1.nums) (by rw [hat.len]; omega) (by rw [hat.len]; exact Nat.le_refl _)
      rw [hat.len] at htr
      have HT := Lib.hid htr
      have HX := Lib.hid hnum
      clear htr hnum
      go_wp2_with fail
      refine HT.out.mono ?_
      rintro e w4 ⟨rfl, k, rfl, hk, hz, hp⟩
      have HP := Lib.hid (And.intro hk (And.intro hz hp))
      clear hk hz hp
      go_wp2
      go_ret
      exact lims_of_trim ⟨k, rfl, HP.out⟩ (by obtain ⟨cur', hs1, _⟩ := hseg; exact hs1.nums) hat.ok (by rw [hat.len]; exact Nat.le_refl _) HX.out (hb1.trans (grown_below hgr (Nat.le_refl _) hb1.size))
theorem left_none (c n : Nat) (A : Option Addr) (w : World) : Calls Try.prog 96 #[.slice A 0 c, .int .i64 (n : Int)] w fun e w' => IsLims w w' 0 e := by
  go_enter Try.func96, Try.ntmps96
  go_wp2
  go_ret
  exact ⟨none, 0, [], rfl, ⟨Nat.le_refl _, Nums.nil _ _ _, Lm.Ok.nil _, Lm.Top.nil, rfl⟩, Below.refl _ _⟩
theorem left_any (A : Option Addr) (c m : Nat) (xs : List Nat) (n : Nat) (w : World) (h : Limbs w A c xs m) (hl : xs.length ≤ 400000) (hn : n ≤ 12000000) :
    Calls Try.prog 96 #[.slice A xs.length c, .int .i64 (n : Int)] w fun e w' => IsLims w w' (m * 2 ^ n) e := by
  rcases Nat.eq_zero_or_pos xs.length with h0 | h0
  · have hx : xs = [] := List.eq_nil_of_length_eq_zero h0
    subst hx
    have hm : m = 0 := h.2.2.2.2.symm
    subst hm
    rw [Nat.zero_mul]
    exact left_none c n A w
  · exact left_some A c m xs n w h hl hn h0

set_option maxRecDepth 100000 in
set_option maxHeartbeats 1000000 in
theorem low_long (A : Option Addr) (c : Nat) (zs : List Nat) (w : World) (h : Nums w .u32 A zs) (ho : Lm.Ok B32 zs) (hl : 2 < zs.length) :
    Calls Try.prog 73 #[.slice A zs.length c] w fun e w' => e = .returned (.int .u64 ((Lm.val B32 (zs.take 2) : Nat) : Int)) ∧ w = w' := by
  have HL := Lib.hid (And.intro h ho)
  have hpos : (2 : Int) < (zs.length : Int) := by omega
  clear h ho
  go_enter Try.func73, Try.ntmps73
  go_wp2
  go_loop [3, 8] (fun nv iv => LowAt (zs.take 2) nv iv) (fun _ iv => 2 - (intOf iv).toNat)
  case atStart => exact ⟨0, Nat.zero_le _, rfl, rfl⟩
  case round =>
    obtain ⟨i, hi, rfl, rfl⟩ := hrel
    have hi2 : i ≤ 2 := by rw [List.length_take] at hi; omega
    have htt : ∀ j, j ≤ 2 → (zs.take 2).take j = zs.take j := fun j hj => by rw [List.take_take, Nat.min_eq_left hj]
    rw [htt i hi2]
    by_cases hlt : i < 2
    · obtain ⟨ad, rfl, _, hcell⟩ := HL.out.1.at_ (j := i) (by omega)
      have hcd := hcell i (by omega)
      have hlim := last_lt HL.out.2 i
      have hst := Lm.val_take_succ B32 zs i (by omega)
      clear hcell
      obtain ⟨d, hd⟩ : ∃ d, zs.getD i 0 = d := ⟨_, rfl⟩
      rw [hd] at hcd hlim hst
      rcases (show i = 0 ∨ i = 1 by omega) with rfl | rfl
      · rw [show ad.add 0 = ad from by unfold Addr.add; simp] at hcd
        have hor := or_zero64 d hlim
        have h0 : Lm.val B32 (zs.take 0) = 0 := rfl
        rw [h0] at hst
        have HS := Lib.hid (And.intro hst (htt 1 (by decide)))
        have d0 : (0 : Int) ≤ (d : Int) := Int.natCast_nonneg d
        have d1 : (d : Int) ≤ 4294967295 := by unfold B32 at hlim; omega
        have hp0 : (0 : Int) < (zs.length : Int) := by omega
        clear hst hd h0 hlim htt hi
        go_wp2
        go_round
        case rel => exact ⟨1, by rw [List.length_take]; omega, rfl, congrArg (Value.int IntKind.u64) (by rw [HS.out.2, show Lm.val B32 [] = 0 from rfl]; rw [HS.out.1]; exact hor.trans (by simp))⟩
        case measure => simp [intOf]
      · rw [show ad.add 1 = ⟨ad.block, ad.off + 1, none⟩ from rfl] at hcd
        have h0 : Lm.val B32 (zs.take 1) < B32 := by
          have := Lm.val_lt (HL.out.2.take 1)
          rw [List.length_take, Nat.min_eq_left (by omega)] at this
          simpa using this
        obtain ⟨a, ha⟩ : ∃ a, Lm.val B32 (zs.take 1) = a := ⟨_, rfl⟩
        rw [ha] at hst h0 ⊢
        have hor := or_join64 a d h0 hlim
        have HS := Lib.hid (And.intro hst (htt 2 (by decide)))
        have d0 : (0 : Int) ≤ (d : Int) := Int.natCast_nonneg d
        have d1 : (d : Int) ≤ 4294967295 := by unfold B32 at hlim; omega
        have hp1 : (1 : Int) < (zs.length : Int) := by omega
        clear hst hd h0 hlim ha htt hi
        go_wp2
        go_round
        case rel => exact ⟨2, by rw [List.length_take]; omega, rfl, congrArg (Value.int IntKind.u64) (by rw [HS.out.2, HS.out.1]; unfold B32; omega)⟩
        case measure => simp [intOf]
    · have hie : i = 2 := by omega
      subst hie
      go_wp2
      go_ret
      exact ⟨rfl, rfl⟩

theorem Nums.drop {w : World} {k : IntKind} {ad : Addr} {xs : List Nat} (h : Nums w k (some ad) xs) (a : Nat) : Nums w k (some (ad.add a)) (xs.drop a) := fun hn => by
  rw [List.length_drop] at hn
  obtain ⟨ad', e, hb, hc⟩ := h (by omega)
  injection e with e
  subst e
  refine ⟨_, rfl, by rw [block_of_add]; exact hb, fun j hj => ?_⟩
  rw [List.length_drop] at hj
  rw [add_of_add, hc (a + j) (by omega), List.getD_eq_getElem?_getD, List.getD_eq_getElem?_getD, List.getElem?_drop]
theorem top_drop {xs : List Nat} (h : Lm.Top xs) (a : Nat) (ha : a < xs.length) : Lm.Top (xs.drop a) := by
  unfold Lm.Top at *
  rw [List.getLast?_drop, if_neg (by omega)]
  exact h
theorem low_part (ad : Addr) (c a : Nat) (xs : List Nat) (w : World) (h : Nums w .u32 (some ad) xs) (ho : Lm.Ok B32 xs) (ht : Lm.Top xs) (ha : a < xs.length) (hc : xs.length ≤ c) :
    Calls Try.prog 73 #[.slice (some (ad.add a)) (xs.length - a) (c - a)] w fun e w' => e = .returned (.int .u64 ((Lm.val B32 ((xs.drop a).take 2) : Nat) : Int)) ∧ w = w' := by
  have hl : (xs.drop a).length = xs.length - a := List.length_drop ..
  rw [← hl]
  rcases Nat.lt_or_ge 2 (xs.drop a).length with h2 | h2
  · exact low_long _ _ (xs.drop a) w (h.drop a) (ho.drop a) h2
  · have := low_any (some (ad.add a)) (c - a) _ (xs.drop a) w ⟨by rw [hl]; omega, h.drop a, ho.drop a, top_drop ht a ha, rfl⟩ h2
    rw [List.take_of_length_le h2]
    exact this
theorem low_two {xs : List Nat} (ho : Lm.Ok B32 xs) (a : Nat) : Lm.val B32 ((xs.drop a).take 2) < 18446744073709551616 := by
  have h := Lm.val_lt ((ho.drop a).take 2)
  refine Nat.lt_of_lt_of_le h (Nat.le_trans (Nat.pow_le_pow_right B32_pos (List.length_take_le _ _)) (by decide))

theorem shr_limb (t s : Nat) : ((t : Int) / 2 ^ s) % 4294967296 = ((t / 2 ^ s % B32 : Nat) : Int) := by
  have e : ((2 : Int) ^ s) = ((2 ^ s : Nat) : Int) := by norm_cast
  rw [e, ← Int.natCast_ediv]
  exact limb_mod _ _ rfl

set_option maxRecDepth 100000 in
set_option maxHeartbeats 2000000 in
theorem right_some (A : Option Addr) (c m : Nat) (xs : List Nat) (n : Nat) (w : World) (h : Limbs w A c xs m) (hl : xs.length ≤ 900000) (hn : n ≤ 100000000) (h0 : n / 32 < xs.length) :
    Calls Try.prog 97 #[.slice A xs.length c, .int .i64 (n : Int)] w fun e w' => IsLims w w' (m / 2 ^ n) e := by
  obtain ⟨i0, hi0, hz0, hz1, hz2⟩ := info_parts Try.info99
  have HI := Lib.hid (And.intro hi0 (And.intro hz0 (And.intro hz1 hz2)))
  obtain ⟨l, hl0⟩ : ∃ l, n / 32 = l := ⟨_, rfl⟩
  obtain ⟨s, hs0⟩ : ∃ s, n % 32 = s := ⟨_, rfl⟩
  rw [hl0] at h0
  have HM := Lib.hid (show i0.bytes * (xs.length - l) ≤ 281474976710656 ∧ xs.length - l ≤ maxLen from ⟨by rw [hz2]; omega, by unfold maxLen; omega⟩)
  clear hi0 hz0 hz1 hz2
  have hq : (n : Int) / 32 = (l : Int) := by omega
  have hr : (n : Int) % 32 = (s : Int) := by omega
  have hs1 : s < 32 := by omega
  have hlt : ¬ (xs.length : Int) ≤ (l : Int) := by omega
  have hsub : (xs.length : Int) - (l : Int) = ((xs.length - l : Nat) : Int) := by omega
  have hend : ∀ zs, RightAt xs zs l s (xs.length - l) → Lm.val B32 zs = m / 2 ^ n := fun zs hz => by
    have := right_end (n := n) (by rw [hl0, hs0]; exact hz) h.2.2.1
    rw [this, h.2.2.2.2]
  obtain ⟨ad, rfl, hadl, _⟩ := h.2.1 (by omega)
  have HE := Lib.hid (And.intro hend h)
  have HS := Lib.hid hsub
  clear hl0 hs0 hend hsub
  go_enter Try.func97, Try.ntmps97
  go_wp2_with (at_make; go_loud (rw [HS.out]; refine wpList_make_full _ rfl _ _ 22 rfl w.heap.size 99 i0 (.int .u32 0) 1 Try.underlying22 HI.out.1 HI.out.2.1 HI.out.2.2.1 _ _ _ _ (xs.length - l) rfl rfl (by omega) (by omega) HM.out.1 HM.out.2 (Nat.le_refl _) ?_); intro w1 hown1 hg1; rw [made_zero] at hown1; have HB := Lib.hid (own_block hown1); have hb1 : Below w.heap.size w w1 := (Below.refl _ _).grown hg1 (Nat.le_refl _) (fun k hk => by cases hk); clear hown1)
  have hz0 : Seg w1 w.heap.size 0 .u32 99 _ (List.replicate (xs.length - l) 0) := seg_of_block HB.out
  have hx1 := h.2.1.below hb1
  have hoffx : 0 < xs.length → Off (some ad) w.heap.size := fun hn => off_below h.2.1 hn (Nat.le_refl _)
  have hcap := h.1
  clear HB HI HM h
  go_loopw [24] (fun iv wr => ∃ (i : Nat) (zs : List Nat), iv = .int .i64 i ∧ i ≤ xs.length - l ∧ RightAt xs zs l s i ∧ SegTo wr w.heap.size 0 .u32 99 (cellsOf .u32 (List.replicate (xs.length - l) 0)).toArray zs ∧ w1.grownBy wr (some w.heap.size)) (fun iv _ => xs.length - l - (intOf iv).toNat)
  case atStart => exact ⟨0, _, rfl, Nat.zero_le _, right_start xs l s, .refl hz0, World.grownBy.refl _ _⟩
  case round =>
    obtain ⟨i, zs, rfl, hi, hat, hseg, hgr⟩ := hrel
    by_cases hiy : i < xs.length - l
    · have hxr := hx1.grown hgr hoffx
      have hlo := low_part ad c (l + i) xs wr hxr HE.out.2.2.2.1 HE.out.2.2.2.2.1 (by omega) hcap
      obtain ⟨t, ht⟩ : ∃ t, Lm.val B32 ((xs.drop (l + i)).take 2) = t := ⟨_, rfl⟩
      have htl := low_two HE.out.2.2.2.1 (l + i)
      rw [ht] at hlo htl
      obtain ⟨cur', hs1', hs2, hs3⟩ := id hseg
      have hcz := hs1'.cell (j := i) (by rw [hat.len]; omega)
      have hfz := hs1'.frozen (0 + i)
      obtain ⟨d, hd⟩ : ∃ d, zs.getD i 0 = d := ⟨_, rfl⟩
      rw [hd] at hcz
      simp only [Nat.zero_add] at hcz hfz
      have HD := Lib.hid (And.intro hlo (And.intro ht htl))
      have hiy' : (l : Int) + (i : Int) < (xs.length : Int) := by omega
      clear hd hs1' hs2 hs3 hlo ht htl hxr hx1
      go_wp2_with fail
      refine HD.out.1.mono ?_
      rintro e w' ⟨rfl, rfl⟩
      go_wp2
      go_roundw
      case rel =>
        have e1 := shr_limb t s
        refine ⟨i + 1, _, by go_num, by omega, right_step hat hiy HD.out.2.1, ?_, ?_⟩
        · rw [e1]
          exact hseg.set0 (j := i) (by rw [hat.len]; omega) _
        · exact grown_trans hgr (grown_store _ _ _ _)
      case measure => simp [intOf]; omega
    · have hie : i = xs.length - l := by omega
      subst hie
      have hnum := HE.out.1 zs hat
      have htr := trim_any (some ⟨w.heap.size, 0, none⟩) (xs.length - l) zs wr (by obtain ⟨cur', hs1, _⟩ := hseg; exact hs1.nums) (by rw [hat.len]; omega) (by rw [hat.len]; exact Nat.le_refl _)
      rw [hat.len] at htr
      have HT := Lib.hid htr
      have HX := Lib.hid hnum
      clear htr hnum
      go_wp2_with fail
      refine HT.out.mono ?_
      rintro e w4 ⟨rfl, k, rfl, hk, hz, hp⟩
      have HP := Lib.hid (And.intro hk (And.intro hz hp))
      clear hk hz hp
      go_wp2
      go_ret
      exact lims_of_trim ⟨k, rfl, HP.out⟩ (by obtain ⟨cur', hs1, _⟩ := hseg; exact hs1.nums) hat.ok (by rw [hat.len]; exact Nat.le_refl _) HX.out (hb1.trans (grown_below hgr (Nat.le_refl _) hb1.size))

set_option maxRecDepth 100000 in
theorem right_none (A : Option Addr) (c m : Nat) (xs : List Nat) (n : Nat) (w : World) (h : Limbs w A c xs m) (hn : n ≤ 9223372036854775807) (h0 : xs.length ≤ n / 32) :
    Calls Try.prog 97 #[.slice A xs.length c, .int .i64 (n : Int)] w fun e w' => IsLims w w' (m / 2 ^ n) e := by
  have hv := right_far h.2.2.1 h0
  rw [h.2.2.2.2] at hv
  rw [hv]
  have hle : (xs.length : Int) ≤ (n : Int) / 32 := by omega
  clear h hv h0
  go_enter Try.func97, Try.ntmps97
  go_wp2
  go_ret
  exact ⟨none, 0, [], rfl, ⟨Nat.le_refl _, Nums.nil _ _ _, Lm.Ok.nil _, Lm.Top.nil, rfl⟩, Below.refl _ _⟩
theorem right_any (A : Option Addr) (c m : Nat) (xs : List Nat) (n : Nat) (w : World) (h : Limbs w A c xs m) (hl : xs.length ≤ 900000) (hn : n ≤ 9223372036854775807) :
    Calls Try.prog 97 #[.slice A xs.length c, .int .i64 (n : Int)] w fun e w' => IsLims w w' (m / 2 ^ n) e := by
  rcases Nat.lt_or_ge (n / 32) xs.length with h0 | h0
  · exact right_some A c m xs n w h hl (by omega) h0
  · exact right_none A c m xs n w h hn h0

theorem bl_limbs {w : World} {A : Option Addr} {c n : Nat} {zs : List Nat} (h : Limbs w A c zs n) : bl n ≤ 32 * zs.length := by
  rw [bl_le, ← B32_pow, ← h.2.2.2.2]
  exact Lm.val_lt h.2.2.1
theorem lims_len {w : World} {A : Option Addr} {c n m : Nat} {zs : List Nat} (h : Limbs w A c zs n) (hn : n < B32 ^ m) (hm : m ≤ 1000000) : zs.length ≤ 1000000 := Nat.le_trans (h.len hn) hm
/-- The world of a method with one integer and an integer result. -/
def begun1 (w : World) (a b : Value) (t : TypeId) : World := (w.alloc (.cells #[a, b] t)).alloc (.cells #[.bool false, .slice none 0 0] t)
theorem begun1_size (w : World) (a b : Value) (t : TypeId) : (begun1 w a b t).heap.size = w.heap.size + 2 := by simp [begun1]
theorem begun1_below (w : World) (a b : Value) (t : TypeId) : Below w.heap.size w (begun1 w a b t) := ((Below.refl _ _).alloc (Nat.le_refl _) _).alloc (by simp) _
theorem begun1_x (w : World) (a b : Value) (t : TypeId) : Two (begun1 w a b t) w.heap.size a b := (Two.new w a b t).alloc (by simp) _
theorem begun1_r (w : World) (a b : Value) (t : TypeId) : Res (begun1 w a b t) (w.heap.size + 1) := by
  have h := Res.new (w.alloc (.cells #[a, b] t)) t
  rw [size_alloc] at h
  exact h

theorem sh_neg_lim {z : Int} (h : z < 0) (k : Nat) : -1 - ((magOf z / 2 ^ k : Nat) : Int) = shZ z (-(k : Int)) := by
  rw [sh_neg]
  obtain ⟨m, hm⟩ : ∃ m, magOf z = m := ⟨_, rfl⟩
  have e := magz_neg h
  rw [hm] at e ⊢
  rw [e, neg_div m _ (Nat.two_pow_pos k)]
theorem sh_pos_lim {z : Int} (h : ¬ z < 0) (k : Nat) : ((z.natAbs / 2 ^ k : Nat) : Int) = shZ z (-(k : Int)) := by
  rw [sh_neg]
  obtain ⟨m, hm⟩ : ∃ m, z.natAbs = m := ⟨_, rfl⟩
  have e : z = (m : Int) := by omega
  rw [hm, e, Int.natCast_ediv]
theorem sh_far_neg {z : Int} (h : z < 0) (k : Nat) (hk : bl z.natAbs ≤ k) : shZ z (-(k : Int)) = -1 := by
  have h1 := bl_le.mp hk
  rw [← sh_neg_lim h, Nat.div_eq_of_lt (Nat.lt_of_le_of_lt (mag_le z) h1)]
  rfl
theorem sh_far_pos {z : Int} (h : ¬ z < 0) (k : Nat) (hk : bl z.natAbs ≤ k) : shZ z (-(k : Int)) = 0 := by
  rw [← sh_pos_lim h, Nat.div_eq_of_lt (bl_le.mp hk)]
  rfl
theorem sh_left {b : Bool} {z : Int} (hs : SignOf b z) (k : Nat) : ofSign b (z.natAbs * 2 ^ k) = shZ z (k : Int) := by
  rw [sh_pos]
  unfold SignOf at hs
  subst hs
  unfold ofSign
  by_cases h : z < 0
  · rw [decide_eq_true h, if_pos rfl, Int.natCast_mul, ← Int.neg_mul]; congr 1; omega
  · rw [decide_eq_false h, if_neg (by decide), Int.natCast_mul]; congr 1; omega

theorem left_len {w' : World} {A' : Option Addr} {c' n k : Nat} {zs xs : List Nat} (h1 : Limbs w' A' c' zs (n * 2 ^ k)) (ho : Lm.Ok B32 xs) (hv : Lm.val B32 xs = n) (hl : xs.length ≤ 400000) (hk : k ≤ 12000000) : zs.length ≤ 1000000 := by
  obtain ⟨M, hM⟩ : ∃ M, M = 1000000 := ⟨_, rfl⟩
  rw [← hM]
  refine h1.len (m := M) ?_
  have h2 := Lm.val_lt ho
  rw [hv, B32_pow] at h2
  have h3 : n * 2 ^ k < 2 ^ (32 * xs.length) * 2 ^ k := Nat.mul_lt_mul_of_pos_right h2 (Nat.two_pow_pos k)
  rw [← Nat.pow_add] at h3
  rw [B32_pow]
  exact Nat.lt_of_lt_of_le h3 (Nat.pow_le_pow_right (by decide) (by omega))

set_option maxRecDepth 100000 in
set_option maxHeartbeats 1000000 in
theorem shifted_up (b : Bool) (A : Option Addr) (c : Nat) (zs : List Nat) (z : Int) (k : Nat) (w : World) (hs : SignOf b z) (h : Limbs w A c zs z.natAbs) (hl : zs.length ≤ 400000) (hk : k ≤ 12000000) :
    Calls Try.prog 99 #[.agg #[.bool b, .slice A zs.length c], .int .i64 (k : Int)] w fun e w' => IsInt w w' (shZ z (k : Int)) e := by
  have hb0 := begun1_below w (.bool b) (.slice A zs.length c) 28
  have hT := begun1_x w (.bool b) (.slice A zs.length c) 28
  have hR := begun1_r w (.bool b) (.slice A zs.length c) 28
  have hq := h.below hb0
  have hpos : (0 : Int) ≤ (k : Int) := Int.natCast_nonneg k
  have H := Lib.hid (And.intro hb0 (And.intro hT (And.intro hR hq)))
  clear hb0 hT hR hq
  go_enter Try.func99, Try.ntmps99
  go_wp2_with fail
  go_region_held3 (fun w' => w'.cell? ⟨w.heap.size, 0, none⟩ = some (.bool b) ∧ w'.cell? ⟨w.heap.size, 1, none⟩ = some (.slice A zs.length c))
    (((try dsimp only); (repeat' apply And.intro) <;> (first | (with_reducible assumption) | go_keep)))
    ((first
      | (go_at_call 96; go_loud (refine (left_any A c z.natAbs zs k _ (by exact H.out.2.2.2) hl hk).mono ?_); go_loud (rintro e w1 ⟨A1, c1, zs1, rfl, hl1, hb1⟩); go_loud (have k1 := H.out.2.1.step hb1 rfl (by rw [begun1_size]; omega)); go_loud (have r1 := H.out.2.2.1.step hb1 rfl (by rw [begun1_size]; omega)); go_loud (have hsz1 : w.heap.size + 2 ≤ w1.heap.size := by (have := hb1.size; simp at this; omega)); go_loud (obtain ⟨px0, px1⟩ := id k1); go_loud (have hle1 : zs1.length ≤ 1000000 := left_len hl1 h.2.2.1 h.2.2.2.2 hl hk))
      | (go_at_call 70; go_loud (refine (signed_to b A1 c1 zs1 (shZ z (k : Int)) w1 hl1.2.1 hl1.2.2.1 hle1 hl1.1 (by rw [hl1.2.2.2.2]; exact sh_left hs k)).mono ?_); rintro e w2 ⟨v2, rfl, ⟨b2, A2, c2, zs2, rfl, hsg2, hl2⟩, hb2⟩; have k2 := k1.step hb2 rfl (by omega); have r2 := r1.step hb2 rfl (by omega); obtain ⟨qx0, qx1⟩ := id k2; obtain ⟨⟨hr0, hr1⟩, hf0, hf1⟩ := id r2)))
  go_wp2
  refine bodyPost_ret (v := .agg #[.bool b2, .slice A2 zs2.length c2]) (by simp [results, Try.results99, go_sem, hr0, hr1]) rfl ?_
  exact res_stored r2 hsg2 hl2 (below_then (begun_then H.out.1 hb1 rfl rfl rfl rfl) hb2) (by simp)

set_option maxRecDepth 100000 in
set_option maxHeartbeats 1000000 in
theorem shifted_far (b : Bool) (A : Option Addr) (c : Nat) (zs : List Nat) (z : Int) (k : Nat) (w : World) (hs : SignOf b z) (h : Limbs w A c zs z.natAbs) (hl : zs.length ≤ 400000) (hk : k ≤ 9223372036854775808) (h0 : 0 < k) (hfar : bl z.natAbs ≤ k) :
    Calls Try.prog 99 #[.agg #[.bool b, .slice A zs.length c], .int .i64 (-(k : Int))] w fun e w' => IsInt w w' (shZ z (-(k : Int))) e := by
  have hb0 := begun1_below w (.bool b) (.slice A zs.length c) 28
  have hT := begun1_x w (.bool b) (.slice A zs.length c) 28
  have hR := begun1_r w (.bool b) (.slice A zs.length c) 28
  have hq := h.below hb0
  have H := Lib.hid (And.intro hb0 (And.intro hT (And.intro hR (And.intro hq hs))))
  have hneg : ¬ (0 : Int) ≤ -(k : Int) := by omega
  have hc0 : (0 : Int) ≤ (bl z.natAbs : Int) := Int.natCast_nonneg _
  have hbl := bl_limbs h
  have hc1 : (bl z.natAbs : Int) ≤ 9223372036854775807 := by omega
  have hle : -(k : Int) ≤ -(bl z.natAbs : Int) := by omega
  clear hb0 hT hR hq hs h
  cases b
  · have hz : shZ z (-(k : Int)) = 0 := sh_far_pos (by have := H.out.2.2.2.2; unfold SignOf at this; simpa using this) k hfar
    rw [hz]
    clear hz hfar
    go_enter Try.func99, Try.ntmps99
    go_wp2_with (go_at_call 77; refine (width_any A c z.natAbs zs _ (by exact H.out.2.2.2.1) (by omega)).mono ?_; rintro e w1 ⟨rfl, rfl⟩)
    refine bodyPost_ret (v := .agg #[.bool false, .slice none 0 0]) (by simp [results, Try.results99, go_sem]) rfl ?_
    exact ⟨_, rfl, int_zero _, H.out.1⟩
  · have hz : shZ z (-(k : Int)) = -1 := sh_far_neg (by have := H.out.2.2.2.2; unfold SignOf at this; simpa using this) k hfar
    rw [hz]
    clear hz hfar
    go_enter Try.func99, Try.ntmps99
    go_wp2_with (go_at_call 77; refine (width_any A c z.natAbs zs _ (by exact H.out.2.2.2.1) (by omega)).mono ?_; rintro e w1 ⟨rfl, rfl⟩)
    refine (New_all (-1) _ (by decide) (by decide)).mono ?_
    rintro e w1 ⟨v1, rfl, ⟨b2, A2, c2, zs2, rfl, hsg2, hl2⟩, hb1⟩
    have r1 := H.out.2.2.1.step hb1 rfl (by rw [begun1_size]; omega)
    obtain ⟨⟨hr0, hr1⟩, hf0, hf1⟩ := id r1
    go_wp2
    refine bodyPost_ret (v := .agg #[.bool b2, .slice A2 zs2.length c2]) (by simp [results, Try.results99, go_sem, hr0, hr1]) rfl ?_
    exact res_stored r1 hsg2 hl2 (below_then H.out.1 hb1) (by omega)

set_option maxRecDepth 100000 in
set_option maxHeartbeats 1000000 in
theorem shifted_near (b : Bool) (A : Option Addr) (c : Nat) (zs : List Nat) (z : Int) (k : Nat) (w : World) (hs : SignOf b z) (h : Limbs w A c zs z.natAbs) (hl : zs.length ≤ 400000) (hk : k < 9223372036854775808) (h0 : 0 < k) (hfar : k < bl z.natAbs) :
    Calls Try.prog 99 #[.agg #[.bool b, .slice A zs.length c], .int .i64 (-(k : Int))] w fun e w' => IsInt w w' (shZ z (-(k : Int))) e := by
  have hb0 := begun1_below w (.bool b) (.slice A zs.length c) 28
  have hT := begun1_x w (.bool b) (.slice A zs.length c) 28
  have hR := begun1_r w (.bool b) (.slice A zs.length c) 28
  have hq := h.below hb0
  have H := Lib.hid (And.intro hb0 (And.intro hT (And.intro hR (And.intro hq hs))))
  have hneg : ¬ (0 : Int) ≤ -(k : Int) := by omega
  have hc0 : (0 : Int) ≤ (bl z.natAbs : Int) := Int.natCast_nonneg _
  have hbl := bl_limbs h
  have hc1 : (bl z.natAbs : Int) ≤ 9223372036854775807 := by omega
  have hle : ¬ -(k : Int) ≤ -(bl z.natAbs : Int) := by omega
  have hk1 : (k : Int) ≤ 12800000 := by omega
  have hz0 : (0 : Int) - -(k : Int) = (k : Int) := by omega
  clear hb0 hT hR hq hs h
  cases b
  · have hz := sh_pos_lim (z := z) (by have := H.out.2.2.2.2; unfold SignOf at this; simpa using this) k
    have HZ := Lib.hid hz
    clear hz hfar
    go_enter Try.func99, Try.ntmps99
    go_wp2_with (go_at_call 77; refine (width_any A c z.natAbs zs _ (by exact H.out.2.2.2.1) (by omega)).mono ?_; rintro e w1 ⟨rfl, rfl⟩)
    refine (right_any A c z.natAbs zs k _ (by exact H.out.2.2.2.1) (by omega) (by omega)).mono ?_
    rintro e w1 ⟨A1, c1, zs1, rfl, hl1, hb1⟩
    have r1 := H.out.2.2.1.step hb1 rfl (by rw [begun1_size]; omega)
    have hle1 : zs1.length ≤ 1000000 := Nat.le_trans (hl1.len (Nat.lt_of_le_of_lt (Nat.div_le_self _ _) (by rw [← H.out.2.2.2.1.2.2.2.2]; exact Lm.val_lt H.out.2.2.2.1.2.2.1))) (by omega)
    have hsz1 : w.heap.size + 2 ≤ w1.heap.size := by (have := hb1.size; simp at this; omega)
    go_wp2_with fail
    refine (signed_to false A1 c1 zs1 (shZ z (-(k : Int))) w1 hl1.2.1 hl1.2.2.1 hle1 hl1.1 (by rw [hl1.2.2.2.2]; exact HZ.out)).mono ?_
    rintro e w2 ⟨v2, rfl, ⟨b2, A2, c2, zs2, rfl, hsg2, hl2⟩, hb2⟩
    have r2 := r1.step hb2 rfl (by omega)
    obtain ⟨⟨hr0, hr1⟩, hf0, hf1⟩ := id r2
    go_wp2
    refine bodyPost_ret (v := .agg #[.bool b2, .slice A2 zs2.length c2]) (by simp [results, Try.results99, go_sem, hr0, hr1]) rfl ?_
    exact res_stored r2 hsg2 hl2 (below_then (below_then H.out.1 hb1) hb2) (by omega)
  · have hz := sh_neg_lim (z := z) (by have := H.out.2.2.2.2; unfold SignOf at this; simpa using this) k
    have HZ := Lib.hid hz
    have hsgn := H.out.2.2.2.2
    have HS := Lib.hid hsgn
    clear hz hfar hsgn
    go_enter Try.func99, Try.ntmps99
    go_wp2_with (go_at_call 77; refine (width_any A c z.natAbs zs _ (by exact H.out.2.2.2.1) (by omega)).mono ?_; rintro e w1 ⟨rfl, rfl⟩)
    refine (magnitude_ints true A c zs z _ HS.out (by exact H.out.2.2.2.1) (by omega)).mono ?_
    rintro e w1 ⟨A1, c1, zs1, rfl, hl1, hb1⟩
    have r1 := H.out.2.2.1.step hb1 rfl (by rw [begun1_size]; omega)
    have hsz1 : w.heap.size + 2 ≤ w1.heap.size := by (have := hb1.size; simp at this; omega)
    have hmm : magOf z < B32 ^ zs.length := Nat.lt_of_le_of_lt (mag_le z) (by rw [← H.out.2.2.2.1.2.2.2.2]; exact Lm.val_lt H.out.2.2.2.1.2.2.1)
    have hlz1 : zs1.length ≤ 400000 := Nat.le_trans (hl1.len hmm) hl
    have HM := Lib.hid hmm
    clear hmm
    go_wp2_with fail
    refine (right_any A1 c1 (magOf z) zs1 k w1 hl1 (by omega) (by omega)).mono ?_
    rintro e w2 ⟨A2, c2, zs2, rfl, hl2, hb2⟩
    have r2 := r1.step hb2 rfl (by omega)
    have hle2 : zs2.length ≤ zs.length := hl2.len (Nat.lt_of_le_of_lt (Nat.div_le_self _ _) HM.out)
    go_wp2_with fail
    refine (signed_to false A2 c2 zs2 ((magOf z / 2 ^ k : Nat) : Int) w2 hl2.2.1 hl2.2.2.1 (by omega) hl2.1 (by rw [hl2.2.2.2.2]; rfl)).mono ?_
    rintro e w3 ⟨v3, rfl, hi3, hb3⟩
    have hsz2 : w1.heap.size ≤ w2.heap.size := hb2.size
    have hsz3 : w2.heap.size ≤ w3.heap.size := hb3.size
    have r3 := r2.step hb3 rfl (by omega)
    have hm3 : ((magOf z / 2 ^ k : Nat) : Int).natAbs < B32 ^ (zs.length + 1) := by
      rw [Int.natAbs_natCast]
      exact Nat.lt_of_lt_of_le (Nat.lt_of_le_of_lt (Nat.div_le_self _ _) HM.out) (Nat.pow_le_pow_right B32_pos (by omega))
    have HM3 := Lib.hid hm3
    clear hm3
    go_wp2_with fail
    refine (opposite_any v3 ((magOf z / 2 ^ k : Nat) : Int) (zs.length + 1) w3 hi3 HM3.out (by omega) (by omega)).mono ?_
    rintro e w4 ⟨v4, rfl, ⟨b4, A4, c4, zs4, rfl, hsg4, hl4⟩, hb4⟩
    rw [HZ.out] at hsg4 hl4
    have r4 := r3.step hb4 rfl (by omega)
    obtain ⟨⟨hr0, hr1⟩, hf0, hf1⟩ := id r4
    go_wp2
    refine bodyPost_ret (v := .agg #[.bool b4, .slice A4 zs4.length c4]) (by simp [results, Try.results99, go_sem, hr0, hr1]) rfl ?_
    exact res_stored r4 hsg4 hl4 (below_then (below_then (below_then (below_then H.out.1 hb1) hb2) hb3) hb4) (by omega)

theorem shifted_ints (b : Bool) (A : Option Addr) (c : Nat) (zs : List Nat) (z n : Int) (w : World) (hs : SignOf b z) (h : Limbs w A c zs z.natAbs) (hl : zs.length ≤ 400000) (hn : n ≤ 12000000) (hn0 : -9223372036854775808 ≤ n) :
    Calls Try.prog 99 #[.agg #[.bool b, .slice A zs.length c], .int .i64 n] w fun e w' => IsInt w w' (shZ z n) e := by
  by_cases h0 : 0 ≤ n
  · obtain ⟨k, rfl⟩ := Int.eq_ofNat_of_zero_le h0
    exact shifted_up b A c zs z k w hs h hl (by omega)
  · obtain ⟨k, hk⟩ : ∃ k : Nat, n = -(k : Int) := ⟨n.natAbs, by omega⟩
    subst hk
    rcases Nat.lt_or_ge k (bl z.natAbs) with hb | hb
    · exact shifted_near b A c zs z k w hs h hl (by have := bl_limbs h; omega) (by omega) hb
    · exact shifted_far b A c zs z k w hs h hl (by omega) (by omega) hb
theorem shifted_any (v : Value) (z n : Int) (m : Nat) (w : World) (h : IntAt w v z) (hz : z.natAbs < B32 ^ m) (hm : m ≤ 400000) (hn : n ≤ 12000000) (hn0 : -9223372036854775808 ≤ n) :
    Calls Try.prog 99 #[v, .int .i64 n] w fun e w' => IsInt w w' (shZ z n) e := by
  obtain ⟨b, A, c, zs, rfl, hs, hd⟩ := h
  exact shifted_ints b A c zs z n w hs hd (Nat.le_trans (hd.len hz) hm) hn hn0

/-- Is the result too large? -/
def shBig (z n : Int) : Prop := 0 < n ∧ z ≠ 0 ∧ 65536 - (bl (magOf z) : Int) < n
instance (z n : Int) : Decidable (shBig z n) := by unfold shBig; exact inferInstance
def shAns (z n : Int) : Int := if shBig z n then 0 else shZ z n
def shErr (z n : Int) : Int := if shBig z n then 14 else 0
/-- An integer and an error code. -/
def IsIE (w w' : World) (z k : Int) (e : Ending) : Prop := ∃ v, e = .returned (.tuple #[v, .int .i64 k]) ∧ IntAt w' v z ∧ Below w.heap.size w w'
theorem sh_zero (n : Int) : shZ 0 n = 0 := by unfold shZ; split <;> simp
theorem intE_stored {w w2 : World} {r : Nat} {s : Bool} {A : Option Addr} {c : Nat} {zs : List Nat} {z k : Int} (hk : Res w2 r) (hs : SignOf s z) (hl : Limbs w2 A c zs z.natAbs) (hb : Below w.heap.size w w2) (hr : w.heap.size ≤ r) :
    IsIE w ((w2.setCell ⟨r, 0, none⟩ (.bool s)).setCell ⟨r, 1, none⟩ (.slice A zs.length c)) z k (.returned (.tuple #[.agg #[.bool s, .slice A zs.length c], .int .i64 k])) := by
  obtain ⟨v5, he5, hi5, hb5⟩ := res_stored hk hs hl hb hr
  injection he5 with he5
  subst he5
  exact ⟨_, rfl, hi5, hb5⟩
theorem sgn_zero {z : Int} (h : z = 0) : z.sign = 0 := by subst h; rfl
theorem sgn_some {z : Int} (h : z ≠ 0) : (z.sign == 0) = false := by rw [beq_eq_false_iff_ne]; exact fun e => h (Int.sign_eq_zero_iff_zero.mp e)

set_option maxRecDepth 100000 in
set_option maxHeartbeats 1000000 in
theorem shift_zero (b : Bool) (A : Option Addr) (c : Nat) (zs : List Nat) (z n : Int) (m : Nat) (w : World) (hs : SignOf b z) (h : Limbs w A c zs z.natAbs) (hm : m ≤ 400000) (hz : z.natAbs < B32 ^ m) (h0 : z = 0) :
    Calls Try.prog 50 #[.agg #[.bool b, .slice A zs.length c], .int .i64 n] w fun e w' => IsIE w w' 0 0 e := by
  have hb0 := begun1_below w (.bool b) (.slice A zs.length c) 28
  have hT := begun1_x w (.bool b) (.slice A zs.length c) 28
  have hR := begun1_r w (.bool b) (.slice A zs.length c) 28
  have hi : IntAt (begun1 w (.bool b) (.slice A zs.length c) 28) (.agg #[.bool b, .slice A zs.length c]) z := ⟨b, A, c, zs, rfl, hs, h.below hb0⟩
  have H := Lib.hid (And.intro hb0 (And.intro hT (And.intro hR (And.intro hi hz))))
  have HS := Lib.hid (sgn_zero h0)
  clear hb0 hT hR hs h hi hz h0
  by_cases hn : 0 < n
  · go_enter Try.func50, Try.ntmps50
    go_wp2_with fail
    refine (Sign_any _ z m _ (by exact H.out.2.2.2.1) (by omega) H.out.2.2.2.2).mono ?_
    rw [HS.out]
    rintro e w1 ⟨rfl, hb1⟩
    have k1 := H.out.2.1.step hb1 rfl (by rw [begun1_size]; omega)
    have r1 := H.out.2.2.1.step hb1 rfl (by rw [begun1_size]; omega)
    have i1 := H.out.2.2.2.1.step hb1 rfl
    have hsz1 : w.heap.size + 2 ≤ w1.heap.size := by (have := hb1.size; simp at this; omega)
    obtain ⟨px0, px1⟩ := id k1
    go_wp2_with fail
    refine (Sign_any _ z m _ (by exact i1) (by omega) H.out.2.2.2.2).mono ?_
    rw [HS.out]
    rintro e w2 ⟨rfl, hb2⟩
    have r2 := r1.step hb2 rfl (by omega)
    obtain ⟨⟨hr0, hr1⟩, hf0, hf1⟩ := id r2
    clear px0 px1
    go_wp2
    refine bodyPost_ret (v := .tuple #[.agg #[.bool false, .slice none 0 0], .int .i64 0]) (by simp [results, Try.results50, go_sem, hr0, hr1]) rfl ?_
    exact intE_stored (zs := []) r2 (by simp [SignOf]) ⟨Nat.le_refl _, Nums.nil _ _ _, Lm.Ok.nil _, Lm.Top.nil, rfl⟩ (below_then (below_then H.out.1 hb1) hb2) (by omega)
  · go_enter Try.func50, Try.ntmps50
    go_wp2_with fail
    refine (Sign_any _ z m _ (by exact H.out.2.2.2.1) (by omega) H.out.2.2.2.2).mono ?_
    rw [HS.out]
    rintro e w1 ⟨rfl, hb1⟩
    have r1 := H.out.2.2.1.step hb1 rfl (by rw [begun1_size]; omega)
    have hsz1 : w.heap.size + 2 ≤ w1.heap.size := by (have := hb1.size; simp at this; omega)
    obtain ⟨⟨hr0, hr1⟩, hf0, hf1⟩ := id r1
    go_wp2
    refine bodyPost_ret (v := .tuple #[.agg #[.bool false, .slice none 0 0], .int .i64 0]) (by simp [results, Try.results50, go_sem, hr0, hr1]) rfl ?_
    exact intE_stored (zs := []) r1 (by simp [SignOf]) ⟨Nat.le_refl _, Nums.nil _ _ _, Lm.Ok.nil _, Lm.Top.nil, rfl⟩ (below_then H.out.1 hb1) (by omega)

set_option maxRecDepth 100000 in
set_option maxHeartbeats 1000000 in
theorem shift_down (b : Bool) (A : Option Addr) (c : Nat) (zs : List Nat) (z n : Int) (m : Nat) (w : World) (hs : SignOf b z) (h : Limbs w A c zs z.natAbs) (hm : m ≤ 400000) (hz : z.natAbs < B32 ^ m) (h0 : z ≠ 0) (hn : ¬ 0 < n) (hn0 : -9223372036854775808 ≤ n) :
    Calls Try.prog 50 #[.agg #[.bool b, .slice A zs.length c], .int .i64 n] w fun e w' => IsIE w w' (shZ z n) 0 e := by
  have hb0 := begun1_below w (.bool b) (.slice A zs.length c) 28
  have hT := begun1_x w (.bool b) (.slice A zs.length c) 28
  have hR := begun1_r w (.bool b) (.slice A zs.length c) 28
  have hi : IntAt (begun1 w (.bool b) (.slice A zs.length c) 28) (.agg #[.bool b, .slice A zs.length c]) z := ⟨b, A, c, zs, rfl, hs, h.below hb0⟩
  have H := Lib.hid (And.intro hb0 (And.intro hT (And.intro hR (And.intro hi hz))))
  have hsg := sgn_some h0
  have hsg' : (z.sign != 0) = true := by rw [bne, hsg]; rfl
  obtain ⟨g, hg⟩ : ∃ g, z.sign = g := ⟨_, rfl⟩
  rw [hg] at hsg hsg'
  have HS := Lib.hid hg
  clear hb0 hT hR hs h hi hz h0 hg
  go_enter Try.func50, Try.ntmps50
  go_wp2_with fail
  refine (Sign_any _ z m _ (by exact H.out.2.2.2.1) (by omega) H.out.2.2.2.2).mono ?_
  rw [HS.out]
  rintro e w1 ⟨rfl, hb1⟩
  have k1 := H.out.2.1.step hb1 rfl (by rw [begun1_size]; omega)
  have r1 := H.out.2.2.1.step hb1 rfl (by rw [begun1_size]; omega)
  have i1 := H.out.2.2.2.1.step hb1 rfl
  have hsz1 : w.heap.size + 2 ≤ w1.heap.size := by (have := hb1.size; simp at this; omega)
  obtain ⟨px0, px1⟩ := id k1
  go_wp2_with fail
  refine (shifted_any _ z n m w1 i1 H.out.2.2.2.2 hm (by omega) hn0).mono ?_
  rintro e w2 ⟨v2, rfl, ⟨b2, A2, c2, zs2, rfl, hsg2, hl2⟩, hb2⟩
  have r2 := r1.step hb2 rfl (by omega)
  obtain ⟨⟨hr0, hr1⟩, hf0, hf1⟩ := id r2
  clear px0 px1
  go_wp2
  have q := r2.1.stored (.bool b2) (.slice A2 zs2.length c2)
  obtain ⟨q0, q1⟩ := id q
  refine bodyPost_ret (v := .tuple #[.agg #[.bool b2, .slice A2 zs2.length c2], .int .i64 0]) (by simp [results, Try.results50, go_sem, q0, q1]) rfl ?_
  exact intE_stored r2 hsg2 hl2 (below_then (below_then H.out.1 hb1) hb2) (by omega)

set_option maxRecDepth 100000 in
set_option maxHeartbeats 1000000 in
theorem shift_up (b : Bool) (A : Option Addr) (c : Nat) (zs : List Nat) (z n : Int) (m : Nat) (w : World) (hs : SignOf b z) (h : Limbs w A c zs z.natAbs) (hm : m ≤ 400000) (hz : z.natAbs < B32 ^ m) (h0 : z ≠ 0) (hn : 0 < n) (hbig : ¬ 65536 - (bl (magOf z) : Int) < n) :
    Calls Try.prog 50 #[.agg #[.bool b, .slice A zs.length c], .int .i64 n] w fun e w' => IsIE w w' (shZ z n) 0 e := by
  have hb0 := begun1_below w (.bool b) (.slice A zs.length c) 28
  have hT := begun1_x w (.bool b) (.slice A zs.length c) 28
  have hR := begun1_r w (.bool b) (.slice A zs.length c) 28
  have hi : IntAt (begun1 w (.bool b) (.slice A zs.length c) 28) (.agg #[.bool b, .slice A zs.length c]) z := ⟨b, A, c, zs, rfl, hs, h.below hb0⟩
  have H := Lib.hid (And.intro hb0 (And.intro hT (And.intro hR (And.intro hi hz))))
  have hsg := sgn_some h0
  have hsg' : (z.sign != 0) = true := by rw [bne, hsg]; rfl
  have hbl0 : (0 : Int) ≤ (bl (magOf z) : Int) := Int.natCast_nonneg _
  have hnb : n ≤ 65536 - (bl (magOf z) : Int) := by omega
  have hbl1 : (bl (magOf z) : Int) ≤ 65536 := by omega
  obtain ⟨g, hg⟩ : ∃ g, z.sign = g := ⟨_, rfl⟩
  rw [hg] at hsg hsg'
  have HS := Lib.hid hg
  clear hb0 hT hR hs h hi hz h0 hg
  go_enter Try.func50, Try.ntmps50
  go_wp2_with fail
  refine (Sign_any _ z m _ (by exact H.out.2.2.2.1) (by omega) H.out.2.2.2.2).mono ?_
  rw [HS.out]
  rintro e w1 ⟨rfl, hb1⟩
  have k1 := H.out.2.1.step hb1 rfl (by rw [begun1_size]; omega)
  have r1 := H.out.2.2.1.step hb1 rfl (by rw [begun1_size]; omega)
  have i1 := H.out.2.2.2.1.step hb1 rfl
  have hsz1 : w.heap.size + 2 ≤ w1.heap.size := by (have := hb1.size; simp at this; omega)
  obtain ⟨px0, px1⟩ := id k1
  go_wp2_with fail
  refine (Length_any _ z m w1 i1 (by omega) H.out.2.2.2.2).mono ?_
  rintro e w2 ⟨rfl, hb2⟩
  have k2 := k1.step hb2 rfl (by omega)
  have r2 := r1.step hb2 rfl (by omega)
  have i2 := i1.step hb2 rfl
  have hsz2 : w1.heap.size ≤ w2.heap.size := hb2.size
  clear px0 px1
  obtain ⟨px0, px1⟩ := id k2
  go_wp2_with fail
  refine (Sign_any _ z m w2 i2 (by omega) H.out.2.2.2.2).mono ?_
  rw [HS.out]
  rintro e w3 ⟨rfl, hb3⟩
  have k3 := k2.step hb3 rfl (by omega)
  have r3 := r2.step hb3 rfl (by omega)
  have i3 := i2.step hb3 rfl
  have hsz3 : w2.heap.size ≤ w3.heap.size := hb3.size
  clear px0 px1
  obtain ⟨px0, px1⟩ := id k3
  go_wp2_with fail
  refine (shifted_any _ z n m w3 i3 H.out.2.2.2.2 hm (by omega) (by omega)).mono ?_
  rintro e w4 ⟨v4, rfl, ⟨b4, A4, c4, zs4, rfl, hsg4, hl4⟩, hb4⟩
  have r4 := r3.step hb4 rfl (by omega)
  obtain ⟨⟨hr0, hr1⟩, hf0, hf1⟩ := id r4
  clear px0 px1
  go_wp2
  have q := r4.1.stored (.bool b4) (.slice A4 zs4.length c4)
  obtain ⟨q0, q1⟩ := id q
  refine bodyPost_ret (v := .tuple #[.agg #[.bool b4, .slice A4 zs4.length c4], .int .i64 0]) (by simp [results, Try.results50, go_sem, q0, q1]) rfl ?_
  exact intE_stored r4 hsg4 hl4 (below_then (below_then (below_then (below_then H.out.1 hb1) hb2) hb3) hb4) (by omega)

set_option maxRecDepth 100000 in
set_option maxHeartbeats 1000000 in
theorem shift_big (b : Bool) (A : Option Addr) (c : Nat) (zs : List Nat) (z n : Int) (m : Nat) (w : World) (hs : SignOf b z) (h : Limbs w A c zs z.natAbs) (hm : m ≤ 400000) (hz : z.natAbs < B32 ^ m) (h0 : z ≠ 0) (hn : 0 < n) (hbig : 65536 - (bl (magOf z) : Int) < n) :
    Calls Try.prog 50 #[.agg #[.bool b, .slice A zs.length c], .int .i64 n] w fun e w' => IsIE w w' 0 14 e := by
  have hb0 := begun1_below w (.bool b) (.slice A zs.length c) 28
  have hT := begun1_x w (.bool b) (.slice A zs.length c) 28
  have hR := begun1_r w (.bool b) (.slice A zs.length c) 28
  have hi : IntAt (begun1 w (.bool b) (.slice A zs.length c) 28) (.agg #[.bool b, .slice A zs.length c]) z := ⟨b, A, c, zs, rfl, hs, h.below hb0⟩
  have H := Lib.hid (And.intro hb0 (And.intro hT (And.intro hR (And.intro hi hz))))
  have hsg := sgn_some h0
  have hsg' : (z.sign != 0) = true := by rw [bne, hsg]; rfl
  have hbl0 : (0 : Int) ≤ (bl (magOf z) : Int) := Int.natCast_nonneg _
  have hbl1 : (bl (magOf z) : Int) ≤ 12800000 := by
    have h1 := bl_limbs h
    have h2 := h.len hz
    have h3 : bl (magOf z) ≤ bl z.natAbs := bl_le.mpr (Nat.lt_of_le_of_lt (mag_le z) (lt_bl _))
    omega
  obtain ⟨g, hg⟩ : ∃ g, z.sign = g := ⟨_, rfl⟩
  rw [hg] at hsg hsg'
  have HS := Lib.hid hg
  clear hb0 hT hR hs h hi hz h0 hg
  go_enter Try.func50, Try.ntmps50
  go_wp2_with fail
  refine (Sign_any _ z m _ (by exact H.out.2.2.2.1) (by omega) H.out.2.2.2.2).mono ?_
  rw [HS.out]
  rintro e w1 ⟨rfl, hb1⟩
  have k1 := H.out.2.1.step hb1 rfl (by rw [begun1_size]; omega)
  have r1 := H.out.2.2.1.step hb1 rfl (by rw [begun1_size]; omega)
  have i1 := H.out.2.2.2.1.step hb1 rfl
  have hsz1 : w.heap.size + 2 ≤ w1.heap.size := by (have := hb1.size; simp at this; omega)
  obtain ⟨px0, px1⟩ := id k1
  go_wp2_with fail
  refine (Length_any _ z m w1 i1 (by omega) H.out.2.2.2.2).mono ?_
  rintro e w2 ⟨rfl, hb2⟩
  have r2 := r1.step hb2 rfl (by omega)
  obtain ⟨⟨hr0, hr1⟩, hf0, hf1⟩ := id r2
  clear px0 px1
  go_wp2
  refine bodyPost_ret (v := .tuple #[.agg #[.bool false, .slice none 0 0], .int .i64 14]) (by simp [results, Try.results50, go_sem, hr0, hr1]) rfl ?_
  exact intE_stored (zs := []) r2 (by simp [SignOf]) ⟨Nat.le_refl _, Nums.nil _ _ _, Lm.Ok.nil _, Lm.Top.nil, rfl⟩ (below_then (below_then H.out.1 hb1) hb2) (by omega)

theorem Shift_any (v : Value) (z n : Int) (m : Nat) (w : World) (h : IntAt w v z) (hz : z.natAbs < B32 ^ m) (hm : m ≤ 400000) (hn0 : -9223372036854775808 ≤ n) :
    Calls Try.prog 50 #[v, .int .i64 n] w fun e w' => IsIE w w' (shAns z n) (shErr z n) e := by
  obtain ⟨b, A, c, zs, rfl, hs, hd⟩ := h
  by_cases h0 : z = 0
  · have e1 : ¬ shBig z n := fun hb => hb.2.1 h0
    unfold shAns shErr
    rw [if_neg e1, if_neg e1, h0, sh_zero]
    exact shift_zero b A c zs z n m w hs hd hm hz h0
  · by_cases hn : 0 < n
    · by_cases hb : 65536 - (bl (magOf z) : Int) < n
      · have e1 : shBig z n := ⟨hn, h0, hb⟩
        unfold shAns shErr
        rw [if_pos e1, if_pos e1]
        exact shift_big b A c zs z n m w hs hd hm hz h0 hn hb
      · have e1 : ¬ shBig z n := fun h => hb h.2.2
        unfold shAns shErr
        rw [if_neg e1, if_neg e1]
        exact shift_up b A c zs z n m w hs hd hm hz h0 hn hb
    · have e1 : ¬ shBig z n := fun h => hn h.1
      unfold shAns shErr
      rw [if_neg e1, if_neg e1]
      exact shift_down b A c zs z n m w hs hd hm hz h0 hn hn0

/-- May a size or a position be this number? -/
def okSize (n : Int) : Prop := 0 ≤ n ∧ n ≤ 65536
instance (n : Int) : Decidable (okSize n) := by unfold okSize; exact inferInstance

set_option maxHeartbeats 400000 in
theorem check_ok (a b : Int) (w : World) (ha : okSize a) (hb : okSize b) : Calls Try.prog 107 #[.int .i64 a, .int .i64 b] w fun e w' => e = .returned (.int .i64 0) ∧ w = w' := by
  obtain ⟨a0, a1⟩ := ha
  obtain ⟨b0, b1⟩ := hb
  have h1 : ¬ a < 0 := by omega
  have h2 : ¬ 65536 < a := by omega
  have h3 : ¬ b < 0 := by omega
  have h4 : ¬ 65536 < b := by omega
  go_enter Try.func107, Try.ntmps107
  go_wp2
  go_ret
  exact ⟨rfl, rfl⟩
set_option maxHeartbeats 400000 in
theorem check_out (a b : Int) (w : World) (h : ¬ (okSize a ∧ okSize b)) : Calls Try.prog 107 #[.int .i64 a, .int .i64 b] w fun e w' => e = .returned (.int .i64 1) ∧ w = w' := by
  unfold okSize at h
  by_cases h1 : a < 0
  · clear h
    go_enter Try.func107, Try.ntmps107
    go_wp2
    go_ret
    exact ⟨rfl, rfl⟩
  · by_cases h2 : 65536 < a
    · clear h
      go_enter Try.func107, Try.ntmps107
      go_wp2
      go_ret
      exact ⟨rfl, rfl⟩
    · by_cases h3 : b < 0
      · clear h
        go_enter Try.func107, Try.ntmps107
        go_wp2
        go_ret
        exact ⟨rfl, rfl⟩
      · have h4 : 65536 < b := by omega
        clear h
        go_enter Try.func107, Try.ntmps107
        go_wp2
        go_ret
        exact ⟨rfl, rfl⟩

theorem sh_down_le (z : Int) (k : Nat) : (shZ z (-(k : Int))).natAbs ≤ z.natAbs := by
  by_cases h : z < 0
  · rw [← sh_neg_lim h]
    have h1 : magOf z / 2 ^ k ≤ magOf z := Nat.div_le_self _ _
    have h2 := magz_neg h
    generalize magOf z / 2 ^ k = t at *
    omega
  · rw [← sh_pos_lim h, Int.natAbs_natCast]
    exact Nat.div_le_self _ _
/-- The lowest k bits of limbs in two's complement. -/
theorem field_val {y : Int} {xs zs : List Nat} {k : Nat} (ht : Turned xs zs (turnOf (decide (y < 0))) (k / 32 + 1) (k / 32 + 1)) (ho : Lm.Ok B32 xs) (hv : Lm.val B32 xs = magOf y) :
    Lm.val B32 (zs.set (k / 32) (zs.getD (k / 32) 0 &&& (2 ^ (k % 32) - 1))) = sumBits (bitZ y) k := by
  have hl := ht.len
  have hok : Lm.Ok B32 (zs.set (k / 32) (zs.getD (k / 32) 0 &&& (2 ^ (k % 32) - 1))) := ht.ok.set _ _ (Nat.lt_of_le_of_lt Nat.and_le_left (limb_lt ht.ok _))
  apply Nat.eq_of_testBit_eq
  intro i
  rw [limb_test hok, sum_at]
  by_cases h1 : i / 32 < k / 32
  · rw [Lm.getD_set_ne _ _ _ _ (by omega), comp_bit ht ho hv (by omega) (Nat.mod_lt _ (by decide)), decide_eq_true (show i < k by omega), Bool.true_and, show 32 * (i / 32) + i % 32 = i by omega]
  · by_cases h2 : i / 32 = k / 32
    · rw [h2, getD_set_eq _ _ _ (by rw [hl]; omega), Nat.testBit_and, Nat.testBit_two_pow_sub_one, comp_bit ht ho hv (by omega) (Nat.mod_lt _ (by decide)), ← h2, show 32 * (i / 32) + i % 32 = i by omega, Bool.and_comm]
      congr 1
      exact decide_eq_decide.mpr (by omega)
    · rw [List.getD_eq_getElem?_getD, List.getElem?_eq_none (by rw [List.length_set, hl]; omega), decide_eq_false (by omega)]
      simp
theorem mask_int (s : Nat) (hs : s < 32) : ((2 : Int) ^ s - 1) % 4294967296 = ((2 ^ s - 1 : Nat) : Int) := by
  have h1 : 2 ^ s ≤ 2 ^ 31 := Nat.pow_le_pow_right (by decide) (by omega)
  have h2 := Nat.two_pow_pos s
  have e : (2 : Int) ^ s = ((2 ^ s : Nat) : Int) := by norm_cast
  rw [e]
  generalize 2 ^ s = p at *
  omega

set_option maxRecDepth 100000 in
set_option maxHeartbeats 1000000 in
theorem field_out (v : Value) (z size pos : Int) (w : World) (h : IntAt w v z) (hout : ¬ (okSize size ∧ okSize pos)) :
    Calls Try.prog 56 #[v, .int .i64 size, .int .i64 pos] w fun e w' => IsIE w w' 0 1 e := by
  obtain ⟨b, A, c, zs, rfl, hs, hd⟩ := h
  have hb0 := begun1_below w (.bool b) (.slice A zs.length c) 28
  have hR := begun1_r w (.bool b) (.slice A zs.length c) 28
  have H := Lib.hid (And.intro hb0 (And.intro hR hout))
  clear hb0 hR hs hd hout
  go_enter Try.func56, Try.ntmps56
  go_wp2_with (go_at_call 107; refine (check_out size pos _ H.out.2.2).mono ?_; rintro e w1 ⟨rfl, rfl⟩)
  refine bodyPost_ret (v := .tuple #[.agg #[.bool false, .slice none 0 0], .int .i64 1]) (by simp [results, Try.results56, go_sem]) rfl ?_
  exact ⟨_, rfl, int_zero _, H.out.1⟩

set_option maxRecDepth 100000 in
set_option maxHeartbeats 2000000 in
theorem field_in (v : Value) (z : Int) (k p m : Nat) (w : World) (h : IntAt w v z) (hz : z.natAbs < B32 ^ m) (hm : m ≤ 400000) (hk : k ≤ 65536) (hp : p ≤ 65536) :
    Calls Try.prog 56 #[v, .int .i64 (k : Int), .int .i64 (p : Int)] w fun e w' => IsIE w w' (fieldZ z k p) 0 e := by
  obtain ⟨b, A, c, zs, rfl, hs, hd⟩ := h
  have hb0 := begun1_below w (.bool b) (.slice A zs.length c) 28
  have hR := begun1_r w (.bool b) (.slice A zs.length c) 28
  have hi : IntAt (begun1 w (.bool b) (.slice A zs.length c) 28) (.agg #[.bool b, .slice A zs.length c]) z := ⟨b, A, c, zs, rfl, hs, hd.below hb0⟩
  have H := Lib.hid (And.intro hb0 (And.intro hR (And.intro hi hz)))
  obtain ⟨q, hq⟩ : ∃ q, k / 32 = q := ⟨_, rfl⟩
  obtain ⟨s, hs0⟩ : ∃ s, k % 32 = s := ⟨_, rfl⟩
  have hq1 : (k : Int) / 32 = (q : Int) := by omega
  have hs1 : (k : Int) % 32 = (s : Int) := by omega
  have hq2 : q ≤ 2048 := by omega
  have hs2 : s < 32 := by omega
  obtain ⟨y, hy⟩ : ∃ y, shZ z (-(p : Int)) = y := ⟨_, rfl⟩
  have hyz : y.natAbs < B32 ^ m := by rw [← hy]; exact Nat.lt_of_le_of_lt (sh_down_le z p) hz
  have hfy : fieldZ z k p = ((sumBits (bitZ y) k : Nat) : Int) := by
    rw [field_pos, ← hy, sh_neg]
    exact congrArg (fun f => ((sumBits f k : Nat) : Int)) (funext fun i => (bit_down z p i).symm)
  have hsh := shifted_any _ z (-(p : Int)) m _ hi hz hm (by omega) (by omega)
  rw [hy] at hsh
  have HK := Lib.hid (And.intro hq (And.intro hs0 (And.intro hyz (And.intro hfy hsh))))
  clear hb0 hR hi hs hd hz hq hs0 hy hyz hfy hsh
  go_enter Try.func56, Try.ntmps56
  go_wp2_with (go_at_call 107; refine (check_ok k p _ ⟨by omega, by omega⟩ ⟨by omega, by omega⟩).mono ?_; rintro e w1 ⟨rfl, rfl⟩)
  refine (show Calls Try.prog 99 #[_, .int .i64 (-(p : Int))] _ _ from HK.out.2.2.2.2).mono ?_
  rintro e w1 ⟨v1, rfl, ⟨b1, A1, c1, zs1, rfl, hs1', hl1⟩, hb1⟩
  have r1 := H.out.2.1.step hb1 rfl (by rw [begun1_size]; omega)
  have hsz1 : w.heap.size + 2 ≤ w1.heap.size := by (have := hb1.size; simp [begun1] at this; omega)
  go_wp2_with fail
  refine (complement_any b1 A1 c1 zs1 y (q + 1) w1 hs1' hl1 (Nat.le_trans (hl1.len HK.out.2.2.1) (by omega)) (by omega)).mono ?_
  rintro e w2 ⟨g, xs, ys, cur, rfl, hg, oxs, -, vxs, hturn, hseg, hb2⟩
  have r2 := r1.step hb2 rfl (by omega)
  have hlen := hturn.len
  have hok := hturn.ok
  have hcz := hseg.cell (j := q) (by omega)
  have hfz := hseg.frozen (0 + q)
  have hdl := limb_lt hok q
  obtain ⟨d, hd⟩ : ∃ d, ys.getD q 0 = d := ⟨_, rfl⟩
  rw [hd] at hcz hdl
  simp only [Nat.zero_add] at hcz hfz
  have hval : Lm.val B32 (ys.set q (d &&& (2 ^ s - 1))) = sumBits (bitZ y) k := by
    have h1 := HK.out.1
    have h2 := HK.out.2.1
    have := field_val (k := k) (y := y) (xs := xs) (zs := ys) (by rw [h1]; exact hturn) oxs vxs
    rw [h1, h2, hd] at this
    exact this
  have hp32 : 2 ^ s ≤ 2 ^ 31 := Nat.pow_le_pow_right (by decide) (by omega)
  have hand : bits .and .u32 (d : Int) (((2 : Int) ^ s - 1) % 4294967296) = ((d &&& (2 ^ s - 1) : Nat) : Int) := by
    rw [mask_int s hs2, u32_and_nat _ _ hdl (by omega)]
  have hseg3 := (SegTo.refl hseg).set0 (j := q) (by omega) (d &&& (2 ^ s - 1))
  have hbel3 : Below w1.heap.size w1 (w2.setCell ⟨g, q, none⟩ (.int .u32 ((d &&& (2 ^ s - 1) : Nat) : Int))) := hb2.setCell (p := ⟨g, q, none⟩) hg _
  have r3 : Res (w2.setCell ⟨g, q, none⟩ (.int .u32 ((d &&& (2 ^ s - 1) : Nat) : Int))) (w.heap.size + 1) := r1.step hbel3 rfl (by omega)
  have hsig := signed_to false (some ⟨g, 0, none⟩) (q + 1) (ys.set q (d &&& (2 ^ s - 1))) (fieldZ z k p) (w2.setCell ⟨g, q, none⟩ (.int .u32 ((d &&& (2 ^ s - 1) : Nat) : Int))).drew (by obtain ⟨cur', h1, _⟩ := hseg3; exact h1.nums) (hok.set _ _ (Nat.lt_of_le_of_lt Nat.and_le_left hdl)) (by rw [List.length_set, hlen]; omega) (by rw [List.length_set, hlen]; exact Nat.le_refl _) (by rw [hval]; exact HK.out.2.2.2.1.symm)
  rw [List.length_set, hlen] at hsig
  have HS := Lib.hid (And.intro hsig (And.intro hbel3 r3))
  have hsz3 : w.heap.size + 1 < (w2.setCell ⟨g, q, none⟩ (.int .u32 ((d &&& (2 ^ s - 1) : Nat) : Int))).heap.size := by have := hbel3.size; omega
  have HZ := Lib.hid hsz3
  clear hseg3 hbel3 r3 hsig hsz3 r2
  have HV := Lib.hid (And.intro hval (And.intro hand (And.intro hseg (And.intro oxs (And.intro hturn hok)))))
  clear hd hval hand hseg oxs hturn vxs hok hp32
  go_wp2
  go_region
  go_wp2_with fail
  rw [HV.out.2.1]
  refine HS.out.1.mono ?_
  rintro e w4 ⟨v4, rfl, ⟨b4, A4, c4, zs4, rfl, hsg4, hl4⟩, hb4⟩
  have r4 := HS.out.2.2.step hb4 rfl HZ.out
  obtain ⟨⟨hr0, hr1⟩, hf0, hf1⟩ := id r4
  go_wp2
  have q := r4.1.stored (.bool b4) (.slice A4 zs4.length c4)
  obtain ⟨q0, q1⟩ := id q
  refine bodyPost_ret (v := .tuple #[.agg #[.bool b4, .slice A4 zs4.length c4], .int .i64 0]) (by simp [results, Try.results56, go_sem, q0, q1]) rfl ?_
  exact intE_stored r4 hsg4 hl4 (begun_then (below_then (below_then H.out.1 hb1) HS.out.2.1) hb4 rfl rfl rfl rfl) (by omega)

theorem Field_any (v : Value) (z size pos : Int) (m : Nat) (w : World) (h : IntAt w v z) (hz : z.natAbs < B32 ^ m) (hm : m ≤ 400000) :
    Calls Try.prog 56 #[v, .int .i64 size, .int .i64 pos] w fun e w' => IsIE w w' (if okSize size ∧ okSize pos then fieldZ z size.toNat pos.toNat else 0) (if okSize size ∧ okSize pos then 0 else 1) e := by
  by_cases ho : okSize size ∧ okSize pos
  · rw [if_pos ho, if_pos ho]
    obtain ⟨⟨a0, a1⟩, b0, b1⟩ := ho
    obtain ⟨k, rfl⟩ := Int.eq_ofNat_of_zero_le a0
    obtain ⟨p, rfl⟩ := Int.eq_ofNat_of_zero_le b0
    exact field_in v z k p m w h hz hm (by omega) (by omega)
  · rw [if_neg ho, if_neg ho]
    exact field_out v z size pos w h ho

theorem pow_b32 {n k m : Nat} (h : n ≤ 2 ^ k) (hk : k < 32 * m) : n < B32 ^ m := by
  rw [B32_pow]
  exact Nat.lt_of_le_of_lt h (Nat.pow_lt_pow_right (by decide) hk)
theorem boole_size (op : Nat) (x y : Int) (n : Nat) (hx : bl (magOf x) ≤ n) (hy : bl (magOf y) ≤ n) : (booleZ op x y).natAbs ≤ 2 ^ n :=
  Nat.le_trans (ofBits_size _ _ _) (Nat.pow_le_pow_right (by decide) (by omega))
theorem field_bl (z : Int) (k p : Nat) : bl (magOf (fieldZ z k p)) ≤ k := bl_le.mpr (Nat.lt_of_le_of_lt (mag_le _) (field_lt z k p))
theorem up_size {z : Int} {a : Nat} (h : z.natAbs ≤ 2 ^ a) (k : Nat) : (shZ z (k : Int)).natAbs ≤ 2 ^ (a + k) := by
  rw [sh_pos, Int.natAbs_mul, Int.natAbs_natCast, Nat.pow_add]
  exact Nat.mul_le_mul_right _ h
theorem b32_up {n m : Nat} (h : n < B32 ^ m) (k : Nat) : n < B32 ^ (m + k) := Nat.lt_of_lt_of_le h (Nat.pow_le_pow_right B32_pos (by omega))

set_option maxRecDepth 100000 in
set_option maxHeartbeats 2000000 in
theorem deposit_in (v1 v2 : Value) (x y : Int) (k p m : Nat) (w : World) (h1 : IntAt w v1 x) (h2 : IntAt w v2 y) (hx : x.natAbs < B32 ^ m) (hy : y.natAbs < B32 ^ m) (hm : m ≤ 400000) (hk : k ≤ 65536) (hp : p ≤ 65536) :
    Calls Try.prog 58 #[v1, v2, .int .i64 (k : Int), .int .i64 (p : Int)] w fun e w' => IsIE w w' (depZ x y k p) 0 e := by
  obtain ⟨b1, A1, c1, zs1, rfl, hs1, hd1⟩ := h1
  obtain ⟨b2, A2, c2, zs2, rfl, hs2, hd2⟩ := h2
  have hb0 := begun2_below w (.bool b1) (.slice A1 zs1.length c1) (.bool b2) (.slice A2 zs2.length c2) 28
  have hX := begun2_x w (.bool b1) (.slice A1 zs1.length c1) (.bool b2) (.slice A2 zs2.length c2) 28
  have hY := begun2_y w (.bool b1) (.slice A1 zs1.length c1) (.bool b2) (.slice A2 zs2.length c2) 28
  have hR := begun2_r w (.bool b1) (.slice A1 zs1.length c1) (.bool b2) (.slice A2 zs2.length c2) 28
  have hi1 : IntAt (begun2 w (.bool b1) (.slice A1 zs1.length c1) (.bool b2) (.slice A2 zs2.length c2) 28) (.agg #[.bool b1, .slice A1 zs1.length c1]) x := ⟨b1, A1, c1, zs1, rfl, hs1, hd1.below hb0⟩
  have hi2 : IntAt (begun2 w (.bool b1) (.slice A1 zs1.length c1) (.bool b2) (.slice A2 zs2.length c2) 28) (.agg #[.bool b2, .slice A2 zs2.length c2]) y := ⟨b2, A2, c2, zs2, rfl, hs2, hd2.below hb0⟩
  have hsz := begun2_size w (.bool b1) (.slice A1 zs1.length c1) (.bool b2) (.slice A2 zs2.length c2) 28
  have H := Lib.hid (And.intro hb0 (And.intro hX (And.intro hY (And.intro hR (And.intro hi1 (And.intro hi2 (And.intro hsz (And.intro hx hy))))))))
  obtain ⟨f, hf⟩ : ∃ f, fieldZ x k p = f := ⟨_, rfl⟩
  obtain ⟨g, hg⟩ : ∃ g, fieldZ y k 0 = g := ⟨_, rfl⟩
  obtain ⟨t, ht⟩ : ∃ t, booleZ 6 f g = t := ⟨_, rfl⟩
  obtain ⟨u, hu⟩ : ∃ u, shZ t (p : Int) = u := ⟨_, rfl⟩
  have hans : booleZ 6 x u = depZ x y k p := by rw [← hu, sh_pos, ← ht, ← hf, ← hg]; exact dep_is x y k p
  obtain ⟨M, hM⟩ : ∃ M, M = 2049 := ⟨_, rfl⟩
  have hff : f.natAbs < B32 ^ M := by rw [← hf]; exact pow_b32 (Nat.le_of_lt (field_lt x k p)) (by omega)
  have hgg : g.natAbs < B32 ^ M := by rw [← hg]; exact pow_b32 (Nat.le_of_lt (field_lt y k 0)) (by omega)
  have htt0 : t.natAbs ≤ 2 ^ k := by rw [← ht, ← hf, ← hg]; exact boole_size 6 _ _ k (field_bl _ _ _) (field_bl _ _ _)
  have htt : t.natAbs < B32 ^ M := pow_b32 htt0 (by omega)
  have huu : u.natAbs < B32 ^ (m + 2 * M) := by rw [← hu, Nat.add_comm]; exact b32_up (pow_b32 (up_size htt0 p) (by omega)) m
  have HF := Lib.hid (And.intro hf (And.intro hg (And.intro ht (And.intro hu (And.intro hans (And.intro hff (And.intro hgg (And.intro htt (And.intro huu (b32_up hx (2 * M)))))))))))
  clear hb0 hX hY hR hi1 hi2 hsz hs1 hd1 hs2 hd2 hx hy hf hg ht hu hans hff hgg htt0 htt huu
  go_enter Try.func58, Try.ntmps58
  go_wp2_with fail
  refine (field_in _ x k p m _ (by exact H.out.2.2.2.2.1) H.out.2.2.2.2.2.2.2.1 hm hk hp).mono ?_
  rw [HF.out.1]
  rintro e w1 ⟨v1, rfl, ⟨d1, B1, e1, ys1, rfl, g1, l1⟩, hb1⟩
  have sz1 : w.heap.size + 3 ≤ w1.heap.size := by (have := hb1.size; simp at this; omega)
  have hbW : Below w1.heap.size w1 (w1.alloc (.cells #[.bool d1, .slice B1 ys1.length e1] 28)) := (Below.refl _ _).alloc (Nat.le_refl _) _
  have hb1' : Below (begun2 w (.bool b1) (.slice A1 zs1.length c1) (.bool b2) (.slice A2 zs2.length c2) 28).heap.size (begun2 w (.bool b1) (.slice A1 zs1.length c1) (.bool b2) (.slice A2 zs2.length c2) 28) (w1.alloc (.cells #[.bool d1, .slice B1 ys1.length e1] 28)) := below_then hb1 hbW
  have t1 := Two.new w1 (.bool d1) (.slice B1 ys1.length e1) 28
  have z1 : (w1.alloc (.cells #[.bool d1, .slice B1 ys1.length e1] 28)).heap.size = w1.heap.size + 1 := size_alloc _ _
  obtain ⟨W1, hW1⟩ : ∃ W1 : World, W1 = w1.alloc (.cells #[.bool d1, .slice B1 ys1.length e1] 28) := ⟨_, rfl⟩
  have f1 : IntAt (w1.alloc (.cells #[.bool d1, .slice B1 ys1.length e1] 28)) (.agg #[.bool d1, .slice B1 ys1.length e1]) f := ⟨d1, B1, e1, ys1, rfl, g1, l1.below hbW⟩
  rw [← hW1] at hbW hb1' t1 z1 f1
  have kx := H.out.2.1.step hb1' rfl (by rw [begun2_size]; omega)
  have ky := H.out.2.2.1.step hb1' rfl (by rw [begun2_size]; omega)
  have kr := H.out.2.2.2.1.step hb1' rfl (by rw [begun2_size]; omega)
  have ix := H.out.2.2.2.2.1.step hb1' rfl
  have iy := H.out.2.2.2.2.2.1.step hb1' rfl
  have bl1 := below_then H.out.1 hb1'
  have sw1 : w.heap.size + 4 ≤ W1.heap.size := by omega
  have H1 := Lib.hid (And.intro kx (And.intro kr (And.intro ix (And.intro bl1 (And.intro t1 (And.intro f1 z1))))))
  have HW1 := Lib.hid hW1
  obtain ⟨py0, py1⟩ := id ky
  clear hbW hb1' t1 z1 hW1 f1 kx kr ix bl1 g1 l1 hb1
  go_upto_region 4 with fail
  rw [← HW1.out]
  go_wp2_with fail
  refine (field_in _ y k 0 m _ iy H.out.2.2.2.2.2.2.2.2 hm hk (by omega)).mono ?_
  rw [HF.out.2.1]
  rintro e w2 ⟨v2, rfl, ⟨d2, B2, e2, ys2, rfl, g2, l2⟩, hb2⟩
  have sz2 : W1.heap.size ≤ w2.heap.size := hb2.size
  have hbW : Below w2.heap.size w2 (w2.alloc (.cells #[.bool d2, .slice B2 ys2.length e2] 28)) := (Below.refl _ _).alloc (Nat.le_refl _) _
  have hb2' : Below W1.heap.size W1 (w2.alloc (.cells #[.bool d2, .slice B2 ys2.length e2] 28)) := below_then hb2 hbW
  have t2 := Two.new w2 (.bool d2) (.slice B2 ys2.length e2) 28
  have z2 : (w2.alloc (.cells #[.bool d2, .slice B2 ys2.length e2] 28)).heap.size = w2.heap.size + 1 := size_alloc _ _
  obtain ⟨W2, hW2⟩ : ∃ W2 : World, W2 = w2.alloc (.cells #[.bool d2, .slice B2 ys2.length e2] 28) := ⟨_, rfl⟩
  have f2 : IntAt (w2.alloc (.cells #[.bool d2, .slice B2 ys2.length e2] 28)) (.agg #[.bool d2, .slice B2 ys2.length e2]) g := ⟨d2, B2, e2, ys2, rfl, g2, l2.below hbW⟩
  rw [← hW2] at hbW hb2' t2 z2 f2
  have hz1 := H1.out.2.2.2.2.2.2
  have kx := H1.out.1.step hb2' rfl (by omega)
  have kr := H1.out.2.1.step hb2' rfl (by omega)
  have ix := H1.out.2.2.1.step hb2' rfl
  have bl2 := below_then H1.out.2.2.2.1 hb2'
  have t1 := H1.out.2.2.2.2.1.step hb2' rfl (by omega)
  have f1 := H1.out.2.2.2.2.2.1.step hb2' rfl
  have sw2 : w.heap.size + 5 ≤ W2.heap.size := by omega
  have H2 := Lib.hid (And.intro kx (And.intro kr (And.intro ix (And.intro bl2 (And.intro f1 (And.intro f2 z2))))))
  have HW2 := Lib.hid hW2
  clear py0 py1
  obtain ⟨py0, py1⟩ := id t1
  obtain ⟨pz0, pz1⟩ := id t2
  clear hbW hb2' t2 z2 hW2 f2 kx kr ix bl2 g2 l2 hb2 t1 f1 iy ky hz1 H1
  go_upto_region 7 with fail
  rw [← HW2.out]
  go_wp2_with fail
  refine (Boole_any 6 _ _ f g M _ (by decide) H2.out.2.2.2.2.1 H2.out.2.2.2.2.2.1 (by omega) HF.out.2.2.2.2.2.1 HF.out.2.2.2.2.2.2.1).mono ?_
  rw [HF.out.2.2.1]
  rintro e w3 ⟨v3, rfl, ⟨d3, B3, e3, ys3, rfl, g3, l3⟩, hb3⟩
  have sz3 : W2.heap.size ≤ w3.heap.size := hb3.size
  have hbW : Below w3.heap.size w3 (w3.alloc (.cells #[.bool d3, .slice B3 ys3.length e3] 28)) := (Below.refl _ _).alloc (Nat.le_refl _) _
  have hb3' : Below W2.heap.size W2 (w3.alloc (.cells #[.bool d3, .slice B3 ys3.length e3] 28)) := below_then hb3 hbW
  have t3 := Two.new w3 (.bool d3) (.slice B3 ys3.length e3) 28
  have z3 : (w3.alloc (.cells #[.bool d3, .slice B3 ys3.length e3] 28)).heap.size = w3.heap.size + 1 := size_alloc _ _
  obtain ⟨W3, hW3⟩ : ∃ W3 : World, W3 = w3.alloc (.cells #[.bool d3, .slice B3 ys3.length e3] 28) := ⟨_, rfl⟩
  have f3 : IntAt (w3.alloc (.cells #[.bool d3, .slice B3 ys3.length e3] 28)) (.agg #[.bool d3, .slice B3 ys3.length e3]) t := ⟨d3, B3, e3, ys3, rfl, g3, l3.below hbW⟩
  rw [← hW3] at hbW hb3' t3 z3 f3
  have hz2 := H2.out.2.2.2.2.2.2
  have kx := H2.out.1.step hb3' rfl (by omega)
  have kr := H2.out.2.1.step hb3' rfl (by omega)
  have ix := H2.out.2.2.1.step hb3' rfl
  have bl3 := below_then H2.out.2.2.2.1 hb3'
  have sz0 : w.heap.size + 5 ≤ w3.heap.size := by omega
  have H3 := Lib.hid (And.intro kx (And.intro kr (And.intro ix (And.intro bl3 (And.intro t3 (And.intro f3 (And.intro z3 sz0)))))))
  have sw3 := sz0
  have HW3 := Lib.hid hW3
  obtain ⟨px0, px1⟩ := id kx
  clear py0 py1 pz0 pz1
  obtain ⟨py0, py1⟩ := id t3
  clear hbW hb3' t3 z3 hW3 f3 kx kr ix bl3 g3 l3 hb3 hz2 H2 sz0 sz1 sz2 sz3
  go_upto_region 10 with fail
  rw [← HW3.out]
  go_region_held3 (fun w' => w'.cell? ⟨w.heap.size, 0, none⟩ = some (.bool b1) ∧ w'.cell? ⟨w.heap.size, 1, none⟩ = some (.slice A1 zs1.length c1) ∧ w'.cell? ⟨w3.heap.size, 0, none⟩ = some (.bool d3) ∧ w'.cell? ⟨w3.heap.size, 1, none⟩ = some (.slice B3 ys3.length e3))
    (((try dsimp only); (repeat' apply And.intro) <;> (first | (with_reducible assumption) | go_keep)))
    ((first
      | (go_at_call 99; go_loud (refine (shifted_any _ t (p : Int) M _ (by exact H3.out.2.2.2.2.2.1) HF.out.2.2.2.2.2.2.2.1 (by omega) (by omega) (by omega)).mono ?_); (rw [HF.out.2.2.2.1]); go_loud (rintro e w4 ⟨v4, rfl, ⟨d4, B4, e4, ys4, rfl, g4, l4⟩, hb4⟩); go_loud (have kx4 := H3.out.1.step hb4 rfl (by have := H3.out.2.2.2.2.2.2; omega)); go_loud (have kr4 := H3.out.2.1.step hb4 rfl (by have := H3.out.2.2.2.2.2.2; omega)); go_loud (have t4 := H3.out.2.2.2.2.1.step hb4 rfl (by have := H3.out.2.2.2.2.2.2; omega)); go_loud (have ix4 := H3.out.2.2.1.step hb4 rfl); go_loud (have sz4 : w.heap.size + 3 ≤ w4.heap.size := Nat.le_trans (by have := H3.out.2.2.2.2.2.2; show w.heap.size + 3 ≤ W3.heap.size; omega) hb4.size); go_loud (obtain ⟨qx0, qx1⟩ := id kx4); go_loud (obtain ⟨qy0, qy1⟩ := id t4))
      | (go_at_call 51; go_loud (refine (Boole_any 6 _ _ x u (m + 2 * M) _ (by decide) ix4 ⟨d4, B4, e4, ys4, rfl, g4, l4⟩ (by omega) HF.out.2.2.2.2.2.2.2.2.2 HF.out.2.2.2.2.2.2.2.2.1).mono ?_); (rw [HF.out.2.2.2.2.1]); go_loud (rintro e w5 ⟨v5, rfl, ⟨d5, B5, e5, ys5, rfl, g5, l5⟩, hb5⟩); go_loud (have kx5 := kx4.step hb5 rfl (by omega)); go_loud (have kr5 := kr4.step hb5 rfl (by omega)); go_loud (have t5 := t4.step hb5 rfl (by have := hb4.size; have := H3.out.2.2.2.2.2.2; simp at *; omega)); go_loud (obtain ⟨rx0, rx1⟩ := id kx5); go_loud (obtain ⟨ry0, ry1⟩ := id t5); go_loud (obtain ⟨⟨hr0, hr1⟩, hf0, hf1⟩ := id kr5); go_loud (obtain ⟨ux0, ux1⟩ := kx5.far (r := w.heap.size + 1 + 1) (by omega) (.bool d5) (.slice B5 ys5.length e5)); go_loud (obtain ⟨uy0, uy1⟩ := t5.far (r := w.heap.size + 1 + 1) (by omega) (.bool d5) (.slice B5 ys5.length e5)))))
  go_wp2
  have q := kr5.1.stored (.bool d5) (.slice B5 ys5.length e5)
  obtain ⟨q0, q1⟩ := id q
  refine bodyPost_ret (v := .tuple #[.agg #[.bool d5, .slice B5 ys5.length e5], .int .i64 0]) (by simp [results, Try.results58, go_sem, q0, q1]) rfl ?_
  exact intE_stored kr5 g5 l5 (below_then (begun_then H3.out.2.2.2.1 hb4 rfl rfl rfl rfl) hb5) (by omega)

set_option maxRecDepth 100000 in
set_option maxHeartbeats 1000000 in
theorem deposit_out (v1 v2 : Value) (x y size pos : Int) (w : World) (h1 : IntAt w v1 x) (h2 : IntAt w v2 y) (hout : ¬ (okSize size ∧ okSize pos)) :
    Calls Try.prog 58 #[v1, v2, .int .i64 size, .int .i64 pos] w fun e w' => IsIE w w' 0 1 e := by
  obtain ⟨b1, A1, c1, zs1, rfl, hs1, hd1⟩ := h1
  obtain ⟨b2, A2, c2, zs2, rfl, hs2, hd2⟩ := h2
  have hb0 := begun2_below w (.bool b1) (.slice A1 zs1.length c1) (.bool b2) (.slice A2 zs2.length c2) 28
  have hR := begun2_r w (.bool b1) (.slice A1 zs1.length c1) (.bool b2) (.slice A2 zs2.length c2) 28
  have hi1 : IntAt (begun2 w (.bool b1) (.slice A1 zs1.length c1) (.bool b2) (.slice A2 zs2.length c2) 28) (.agg #[.bool b1, .slice A1 zs1.length c1]) x := ⟨b1, A1, c1, zs1, rfl, hs1, hd1.below hb0⟩
  have H := Lib.hid (And.intro hb0 (And.intro hR (And.intro hi1 hout)))
  clear hb0 hR hi1 hs1 hd1 hs2 hd2 hout
  go_enter Try.func58, Try.ntmps58
  go_wp2_with fail
  refine (field_out _ x size pos _ (by exact H.out.2.2.1) H.out.2.2.2).mono ?_
  rintro e w1 ⟨v1, rfl, ⟨d1, B1, e1, ys1, rfl, g1, l1⟩, hb1⟩
  have sz1 : w.heap.size + 3 ≤ w1.heap.size := by (have := hb1.size; simp at this; omega)
  have hbW : Below w1.heap.size w1 (w1.alloc (.cells #[.bool d1, .slice B1 ys1.length e1] 28)) := (Below.refl _ _).alloc (Nat.le_refl _) _
  have kr := H.out.2.1.step (below_then hb1 hbW) rfl (by rw [begun2_size]; omega)
  obtain ⟨⟨hr0, hr1⟩, hf0, hf1⟩ := id kr
  have HB := Lib.hid (below_then H.out.1 (below_then hb1 hbW))
  have HR := Lib.hid kr
  clear hb1 hbW g1 l1 kr
  go_wp2
  refine bodyPost_ret (v := .tuple #[.agg #[.bool false, .slice none 0 0], .int .i64 1]) (by simp [results, Try.results58, go_sem, hr0, hr1]) rfl ?_
  exact intE_stored (zs := []) HR.out (by simp [SignOf]) ⟨Nat.le_refl _, Nums.nil _ _ _, Lm.Ok.nil _, Lm.Top.nil, rfl⟩ HB.out (by omega)

theorem Deposit_any (v1 v2 : Value) (x y size pos : Int) (m : Nat) (w : World) (h1 : IntAt w v1 x) (h2 : IntAt w v2 y) (hx : x.natAbs < B32 ^ m) (hy : y.natAbs < B32 ^ m) (hm : m ≤ 400000) :
    Calls Try.prog 58 #[v1, v2, .int .i64 size, .int .i64 pos] w fun e w' => IsIE w w' (if okSize size ∧ okSize pos then depZ x y size.toNat pos.toNat else 0) (if okSize size ∧ okSize pos then 0 else 1) e := by
  by_cases ho : okSize size ∧ okSize pos
  · rw [if_pos ho, if_pos ho]
    obtain ⟨⟨a0, a1⟩, b0, b1⟩ := ho
    obtain ⟨k, rfl⟩ := Int.eq_ofNat_of_zero_le a0
    obtain ⟨p, rfl⟩ := Int.eq_ofNat_of_zero_le b0
    exact deposit_in v1 v2 x y k p m w h1 h2 hx hy hm (by omega) (by omega)
  · rw [if_neg ho, if_neg ho]
    exact deposit_out v1 v2 x y size pos w h1 h2 ho
end Go.Proofs.Ytllkajlmfbikhaa
