/- Boole and Bit of package integer. -/
import Derived.Test.YtllkajlmfbikhaaRCount
import Derived.Test.YtllkajlmfbikhaaBoole
import Derived.Test.YtllkajlmfbikhaaNumbers
namespace Go.Proofs.Ytllkajlmfbikhaa
open Go.RowKit
set_option linter.unusedSimpArgs false

theorem bitB_test (n i : Nat) : bitB n i = n.testBit i := by
  unfold bitB
  rw [Nat.testBit_eq_decide_div_mod_eq]

/-- The number with the bits f below n. -/
def sumBits (f : Nat → Bool) : Nat → Nat
  | 0 => 0
  | n + 1 => sumBits f n + 2 ^ n * (f n).toNat
theorem sum_lt (f : Nat → Bool) (n : Nat) : sumBits f n < 2 ^ n := by
  induction n with
  | zero => show 0 < 1; omega
  | succ n ih =>
    rw [sumBits, Nat.pow_succ]
    have : (f n).toNat ≤ 1 := Bool.toNat_le _
    have : 2 ^ n * (f n).toNat ≤ 2 ^ n * 1 := Nat.mul_le_mul_left _ this
    omega
theorem sum_of_test (n : Nat) : ∀ (m : Nat), m < 2 ^ n → sumBits (fun i => m.testBit i) n = m := by
  induction n with
  | zero => intro m h; simp at h; subst h; rfl
  | succ n ih =>
    intro m h
    have h1 := ih (m % 2 ^ n) (Nat.mod_lt _ (Nat.two_pow_pos n))
    have h2 : sumBits (fun i => (m % 2 ^ n).testBit i) n = sumBits (fun i => m.testBit i) n := by
      have : ∀ k, k ≤ n → sumBits (fun i => (m % 2 ^ n).testBit i) k = sumBits (fun i => m.testBit i) k := by
        intro k
        induction k with
        | zero => intro _; rfl
        | succ k ihk =>
          intro hk
          rw [sumBits, sumBits, ihk (by omega)]
          simp only [Nat.testBit_mod_two_pow]
          rw [show decide (k < n) = true from decide_eq_true (by omega)]
          simp
      exact this n (Nat.le_refl _)
    rw [sumBits, ← h2, h1]
    have h3 : (m.testBit n).toNat = m / 2 ^ n := by
      rw [Nat.testBit_eq_decide_div_mod_eq]
      have hd : m / 2 ^ n < 2 := by
        rw [Nat.div_lt_iff_lt_mul (Nat.two_pow_pos n)]
        rw [Nat.pow_succ] at h
        omega
      generalize m / 2 ^ n = q at hd ⊢
      by_cases h4 : q % 2 = 1
      · rw [decide_eq_true h4]
        simp
        omega
      · rw [decide_eq_false h4]
        simp
        omega
    rw [h3]
    exact Nat.mod_add_div m (2 ^ n)
theorem sum_congr {f g : Nat → Bool} {n : Nat} (h : ∀ i, i < n → f i = g i) : sumBits f n = sumBits g n := by
  induction n with
  | zero => rfl
  | succ n ih => rw [sumBits, sumBits, ih (fun i hi => h i (by omega)), h n (by omega)]
theorem sum_not (f : Nat → Bool) (n : Nat) : sumBits f n + sumBits (fun i => !f i) n + 1 = 2 ^ n := by
  induction n with
  | zero => rfl
  | succ n ih =>
    rw [sumBits, sumBits, Nat.pow_succ]
    cases f n <;> simp <;> omega
theorem val_is_sum {m n : Nat} {f : Nat → Bool} (hm : m < 2 ^ n) (h : ∀ i, i < n → m.testBit i = f i) : m = sumBits f n := by
  rw [← sum_of_test n m hm]
  exact sum_congr h

/-- The integer with the bits f below n, and the sign s from there on. -/
def ofBits (f : Nat → Bool) (n : Nat) (s : Bool) : Int := (sumBits f n : Int) - if s then ((2 ^ n : Nat) : Int) else 0
theorem bits_up {f : Nat → Bool} {n : Nat} {s : Bool} (h : f n = s) : ofBits f (n + 1) s = ofBits f n s := by
  unfold ofBits
  rw [sumBits, h]
  have : 2 ^ (n + 1) = 2 ^ n * 2 := Nat.pow_succ ..
  cases s <;> simp <;> omega
theorem bits_more {f : Nat → Bool} {n : Nat} {s : Bool} (h : ∀ i, n ≤ i → f i = s) (k : Nat) : ofBits f (n + k) s = ofBits f n s := by
  induction k with
  | zero => rfl
  | succ k ih => rw [← Nat.add_assoc, bits_up (h (n + k) (by omega)), ih]
theorem bits_any {f : Nat → Bool} {n m : Nat} {s : Bool} (h : ∀ i, n ≤ i → f i = s) (hm : n ≤ m) : ofBits f m s = ofBits f n s := by
  obtain ⟨k, rfl⟩ : ∃ k, m = n + k := ⟨m - n, by omega⟩
  exact bits_more h k
theorem bits_neg_of {f : Nat → Bool} {n : Nat} : ofBits f n true = -1 - ((sumBits (fun i => !f i) n : Nat) : Int) := by
  have := sum_not f n
  unfold ofBits
  rw [if_pos rfl]
  generalize 2 ^ n = p at this
  omega
theorem bits_pos_of {f : Nat → Bool} {n : Nat} : ofBits f n false = ((sumBits f n : Nat) : Int) := by
  unfold ofBits
  simp

/-- A bit of an integer in two's complement. -/
def bitZ (z : Int) (i : Nat) : Bool := bitB (magOf z) i != decide (z < 0)
theorem bitZ_far {z : Int} {i : Nat} (h : bl (magOf z) ≤ i) : bitZ z i = decide (z < 0) := by
  unfold bitZ
  rw [bit_far (bl_le.mp h)]
  simp
/-- The bit of an operation for two bits. -/
def cho (op : Nat) (a b : Bool) : Bool := op.testBit (2 * a.toNat + b.toNat)
/-- x and y, combined bit by bit. -/
def booleZ (op : Nat) (x y : Int) : Int := ofBits (fun i => cho op (bitZ x i) (bitZ y i)) (max (bl (magOf x)) (bl (magOf y))) (cho op (decide (x < 0)) (decide (y < 0)))
theorem boole_far {op : Nat} {x y : Int} {i : Nat} (h : max (bl (magOf x)) (bl (magOf y)) ≤ i) : cho op (bitZ x i) (bitZ y i) = cho op (decide (x < 0)) (decide (y < 0)) := by
  rw [bitZ_far (by omega), bitZ_far (by omega)]
theorem boole_any (op : Nat) (x y : Int) (n : Nat) (h : max (bl (magOf x)) (bl (magOf y)) ≤ n) :
    ofBits (fun i => cho op (bitZ x i) (bitZ y i)) n (cho op (decide (x < 0)) (decide (y < 0))) = booleZ op x y :=
  bits_any (fun _ hi => boole_far hi) h

/-- A bit of a number by its limbs. -/
theorem limb_test {xs : List Nat} (ho : Lm.Ok B32 xs) (i : Nat) : (Lm.val B32 xs).testBit i = (xs.getD (i / 32) 0).testBit (i % 32) := by
  induction xs generalizing i with
  | nil => simp [Lm.val]
  | cons x xs ih =>
    have hx := ho.head
    rw [Lm.val_cons]
    have e : x + B32 * Lm.val B32 xs = 2 ^ 32 * Lm.val B32 xs + x := by unfold B32; omega
    rw [e, Nat.testBit_two_pow_mul_add _ hx]
    by_cases h : i < 32
    · rw [if_pos h, Nat.div_eq_of_lt h, Nat.mod_eq_of_lt h]
      rfl
    · rw [if_neg h, ih ho.tail (i - 32)]
      have e1 : i / 32 = (i - 32) / 32 + 1 := by omega
      have e2 : i % 32 = (i - 32) % 32 := by omega
      rw [e1, e2]
      rfl
theorem mask_sub {a r : Nat} (ha : a < B32) (hr : r < 32) : (4294967295 - a).testBit r = !a.testBit r := by
  have h := Nat.testBit_two_pow_sub_succ (n := 32) (x := a) ha r
  rw [show 2 ^ 32 - (a + 1) = 4294967295 - a by omega] at h
  rw [h, decide_eq_true hr]
  rfl
theorem mask_test {r : Nat} (hr : r < 32) : (4294967295 : Nat).testBit r = true := by
  have h := Nat.testBit_two_pow_sub_one 32 r
  rw [show 2 ^ 32 - 1 = 4294967295 by decide] at h
  rw [h, decide_eq_true hr]
/-- The table's entry j for an operation. -/
def tab (op j : Nat) : Nat := if op.testBit j then 4294967295 else 0
theorem tab_test (op j : Nat) {r : Nat} (hr : r < 32) : (tab op j).testBit r = op.testBit j := by
  unfold tab
  cases op.testBit j
  · simp
  · simp [mask_test hr]
theorem tab_lt (op j : Nat) : tab op j < B32 := by unfold tab B32; split <;> omega
theorem comb_test (op a b r : Nat) (ha : a < B32) (hb : b < B32) (hr : r < 32) : (comb (tab op 0) (tab op 1) (tab op 2) (tab op 3) a b).testBit r = cho op (a.testBit r) (b.testBit r) := by
  unfold comb cho
  simp only [Nat.testBit_or, Nat.testBit_and, mask_sub ha hr, mask_sub hb hr, tab_test op _ hr]
  cases a.testBit r <;> cases b.testBit r <;> simp

/-- The closure that op gives, and its table. -/
def IsTab (op : Nat) (w w' : World) (e : Ending) : Prop :=
  ∃ g, e = .returned (.func (.func 128) #[] #[.pointer (some ⟨g, 0, none⟩)]) ∧ Four w' g (tab op 0) (tab op 1) (tab op 2) (tab op 3) ∧ w.heap.size ≤ g ∧ g < w'.heap.size ∧ Below w.heap.size w w'

/-- The world with the table of op, as far as i. -/
def tableOf (w : World) (op i : Nat) : World :=
  w.alloc (.cells #[.int .u32 (if 0 < i then (tab op 0 : Nat) else (0 : Nat) : Nat), .int .u32 (if 1 < i then (tab op 1 : Nat) else (0 : Nat) : Nat), .int .u32 (if 2 < i then (tab op 2 : Nat) else (0 : Nat) : Nat), .int .u32 (if 3 < i then (tab op 3 : Nat) else (0 : Nat) : Nat)] 143)

theorem tb0 : ∀ op : Nat, op < 16 → (bits .and .i64 (op : Int) 1 == 1) = op.testBit 0 := by decide
theorem tb1 : ∀ op : Nat, op < 16 → (bits .and .i64 ((op : Int) / 2) 1 == 1) = op.testBit 1 := by decide
theorem tb2 : ∀ op : Nat, op < 16 → (bits .and .i64 ((op : Int) / 4) 1 == 1) = op.testBit 2 := by decide
theorem tb3 : ∀ op : Nat, op < 16 → (bits .and .i64 ((op : Int) / 8) 1 == 1) = op.testBit 3 := by decide
theorem tab_on {op i : Nat} (h : op.testBit i = true) : tab op i = 4294967295 := by unfold tab; rw [h]; rfl
theorem tab_off {op i : Nat} (h : op.testBit i = false) : tab op i = 0 := by unfold tab; rw [h]; rfl

set_option maxRecDepth 100000 in
set_option maxHeartbeats 1000000 in
theorem operation_any (op : Nat) (hop : op < 16) (w : World) : Calls Try.prog 100 #[.int .i64 op] w fun e w' => IsTab op w w' e := by
  go_enter Try.func100, Try.ntmps100
  go_wp2
  go_loopw [5] (fun iv wr => ∃ i : Nat, iv = .int .i64 i ∧ i ≤ 4 ∧ wr = tableOf w op i) (fun iv _ => 4 - (intOf iv).toNat)
  case atStart => exact ⟨0, rfl, by omega, rfl⟩
  case round =>
    obtain ⟨i, rfl, hi, rfl⟩ := hrel
    rcases (show i = 0 ∨ i = 1 ∨ i = 2 ∨ i = 3 ∨ i = 4 from by omega) with rfl | rfl | rfl | rfl | rfl
    · rw [show tableOf w op 0 = w.alloc (.cells #[.int .u32 0, .int .u32 0, .int .u32 0, .int .u32 0] 143) from rfl]
      go_wp2
      all_goals
        go_roundw
        case rel =>
          refine ⟨1, rfl, by omega, ?_⟩
          rw [show tableOf w op 1 = w.alloc (.cells #[.int .u32 (tab op 0 : Nat), .int .u32 0, .int .u32 0, .int .u32 0] 143) from rfl]
          rename_i h
          rw [tb0 op hop] at h
          first
            | rw [tab_on (op := op) (i := 0) h]; rfl
            | rw [tab_off (op := op) (i := 0) h]; rfl
        case measure => simp [intOf]
    · rw [show tableOf w op 1 = w.alloc (.cells #[.int .u32 (tab op 0 : Nat), .int .u32 0, .int .u32 0, .int .u32 0] 143) from rfl]
      go_wp2
      all_goals
        go_roundw
        case rel =>
          refine ⟨2, rfl, by omega, ?_⟩
          rw [show tableOf w op 2 = w.alloc (.cells #[.int .u32 (tab op 0 : Nat), .int .u32 (tab op 1 : Nat), .int .u32 0, .int .u32 0] 143) from rfl]
          rename_i h
          rw [tb1 op hop] at h
          first
            | rw [tab_on (op := op) (i := 1) h]; rfl
            | rw [tab_off (op := op) (i := 1) h]; rfl
        case measure => simp [intOf]
    · rw [show tableOf w op 2 = w.alloc (.cells #[.int .u32 (tab op 0 : Nat), .int .u32 (tab op 1 : Nat), .int .u32 0, .int .u32 0] 143) from rfl]
      go_wp2
      all_goals
        go_roundw
        case rel =>
          refine ⟨3, rfl, by omega, ?_⟩
          rw [show tableOf w op 3 = w.alloc (.cells #[.int .u32 (tab op 0 : Nat), .int .u32 (tab op 1 : Nat), .int .u32 (tab op 2 : Nat), .int .u32 0] 143) from rfl]
          rename_i h
          rw [tb2 op hop] at h
          first
            | rw [tab_on (op := op) (i := 2) h]; rfl
            | rw [tab_off (op := op) (i := 2) h]; rfl
        case measure => simp [intOf]
    · rw [show tableOf w op 3 = w.alloc (.cells #[.int .u32 (tab op 0 : Nat), .int .u32 (tab op 1 : Nat), .int .u32 (tab op 2 : Nat), .int .u32 0] 143) from rfl]
      go_wp2
      all_goals
        go_roundw
        case rel =>
          refine ⟨4, rfl, by omega, ?_⟩
          rw [show tableOf w op 4 = w.alloc (.cells #[.int .u32 (tab op 0 : Nat), .int .u32 (tab op 1 : Nat), .int .u32 (tab op 2 : Nat), .int .u32 (tab op 3 : Nat)] 143) from rfl]
          rename_i h
          rw [tb3 op hop] at h
          first
            | rw [tab_on (op := op) (i := 3) h]; rfl
            | rw [tab_off (op := op) (i := 3) h]; rfl
        case measure => simp [intOf]
    · rw [show tableOf w op 4 = w.alloc (.cells #[.int .u32 (tab op 0 : Nat), .int .u32 (tab op 1 : Nat), .int .u32 (tab op 2 : Nat), .int .u32 (tab op 3 : Nat)] 143) from rfl]
      go_wp2
      go_ret
      refine ⟨w.heap.size, rfl, ?_, Nat.le_refl _, by simp, (Below.refl _ _).alloc (Nat.le_refl _) _⟩
      refine ⟨?_, ?_, ?_, ?_⟩ <;> go_simp

set_option maxRecDepth 100000 in
set_option maxHeartbeats 1000000 in
theorem opposite_any (v : Value) (z : Int) (m : Nat) (w : World) (h : IntAt w v z) (hs : z.natAbs < B32 ^ m) (hm : m ≤ 900000) (h0 : 0 < m) :
    Calls Try.prog 127 #[v] w fun e w' => IsInt w w' (-1 - z) e := by
  have hone : (-1 : Int).natAbs < B32 ^ m := Nat.lt_of_lt_of_le (show 1 < B32 ^ 1 by decide) (Nat.pow_le_pow_right B32_pos h0)
  obtain ⟨b, A, c, zs, rfl, hsg, hlim⟩ := h
  have hi0 : IntAt (((w.alloc (.cells #[.bool b, .slice A zs.length c] 28)).alloc (.cells #[.bool false, .slice none 0 0] 28)).drew) (.agg #[.bool b, .slice A zs.length c]) z :=
    ⟨b, A, c, zs, rfl, hsg, hlim.1, ((hlim.2.1.alloc _).alloc _).drew, hlim.2.2⟩
  have H := Lib.hid (And.intro hi0 hone)
  clear hi0 hone
  go_enter Try.func127, Try.ntmps127
  go_wp2_with fail
  go_region_held3 (fun w' => w'.cell? ⟨w.heap.size, 0, none⟩ = some (.bool b) ∧ w'.cell? ⟨w.heap.size, 1, none⟩ = some (.slice A zs.length c))
    (first | go_keep | exact ⟨hk1.1, hk1.2.1⟩)
    ((first | (go_at_call 17; refine (New_all (-1) _ (by decide) (by decide)).mono ?_; rintro e w1 ⟨v1, rfl, hi1, hb1⟩; have hk1 := held_first hb1; have hiz := H.out.1.step hb1 rfl) | (go_at_call 40; refine (Sub_any v1 _ (-1) z m w1 hi1 hiz hm H.out.2 hs).mono ?_; rintro e w2 ⟨v2, rfl, ⟨b2, A2, c2, zs2, rfl, hsg2, hlim2⟩, hb2⟩; have hk2 := held_below hk1 hb2 (by have := hb1.size; simp at this; omega) (by have := hb1.size; simp at this; omega); obtain ⟨hd0, hd1, hd2, hd3, hd4, hd5⟩ := id hk2)))
  go_wp2
  refine bodyPost_ret (v := .agg #[.bool b2, .slice A2 zs2.length c2]) (by simp [results, Try.results127, go_sem, hd2, hd3]) rfl ?_
  exact int_stored hk2 hsg2 hlim2 (below_then (below_then ((((Below.refl _ _).alloc (Nat.le_refl _) _).alloc (by simp) _).drew) hb1) hb2) (by simp)

/-- An integer's value, and only what lies in g and beyond has changed. -/
def IsIntAbove (g : Nat) (w w' : World) (z : Int) (e : Ending) : Prop := ∃ v, e = .returned v ∧ IntAt w' v z ∧ Below g w w'

theorem far_bit {a r : Nat} (ha : a < 4294967296) (hr : ¬r < 32) : a.testBit r = false := Nat.testBit_lt_two_pow (Nat.lt_of_lt_of_le ha (show 2 ^ 32 ≤ 2 ^ r from Nat.pow_le_pow_right (by omega) (by omega)))
theorem mask_xor {a : Nat} (ha : a < 4294967296) : 4294967295 ^^^ a = 4294967295 - a := by
  apply Nat.eq_of_testBit_eq
  intro r
  rw [Nat.testBit_xor]
  by_cases hr : r < 32
  · rw [mask_sub ha hr, mask_test hr]; cases a.testBit r <;> rfl
  · rw [far_bit (a := 4294967295) (by decide) hr, far_bit ha hr, far_bit (by omega) hr]; rfl
theorem not32 {d : Nat} (hd : d < 4294967296) : bits .xor .u32 (if IntKind.u32.signed = true then -1 else IntKind.u32.max) (d : Int) = ((4294967295 - d : Nat) : Int) := by
  have e : (if IntKind.u32.signed = true then -1 else IntKind.u32.max) = ((4294967295 : Nat) : Int) := by decide
  rw [e, u32_xor_nat _ _ (by decide) hd, mask_xor hd]

theorem Res.grown {a b : World} {r g : Nat} (t : Res a r) (h : a.grownBy b (some g)) (hr : r < a.heap.size) (hne : r ≠ g) : Res b r := by
  have e := h.block r hr (fun e => by injection e with e; exact hne e)
  have e1 : ∀ o, b.cell? ⟨r, o, none⟩ = a.cell? ⟨r, o, none⟩ := fun o => World.cell?_of_block e
  have e2 : ∀ o, b.frozen? ⟨r, o, none⟩ = a.frozen? ⟨r, o, none⟩ := fun o => by simp only [World.frozen?, e]
  exact ⟨⟨(e1 0).trans t.1.1, (e1 1).trans t.1.2⟩, (e2 0).trans t.2.1, (e2 1).trans t.2.2⟩
theorem at_stored {w2 : World} {r : Nat} {s : Bool} {A : Option Addr} {c : Nat} {zs : List Nat} {z : Int} (hk : Res w2 r) (hs : SignOf s z) (hl : Limbs w2 A c zs z.natAbs) :
    IntAt ((w2.setCell ⟨r, 0, none⟩ (.bool s)).setCell ⟨r, 1, none⟩ (.slice A zs.length c)) (.agg #[.bool s, .slice A zs.length c]) z := by
  refine ⟨s, A, c, zs, rfl, hs, hl.1, ?_, hl.2.2⟩
  refine (hl.2.1.store hk.1.1 (fun n e => by cases e) _).store (u := .slice none 0 0) ?_ (fun n e => by cases e) _
  rw [World.cell?_setCell_other _ _ _ _ (by simp)]
  exact hk.1.2

/-- The limbs turned over as far as i. -/
structure Flip (xs zs : List Nat) (i : Nat) : Prop where
  len : zs.length = xs.length
  ok : Lm.Ok B32 zs
  done_ : ∀ j, j < i → zs.getD j 0 = 4294967295 - xs.getD j 0
  rest : ∀ j, i ≤ j → zs.getD j 0 = xs.getD j 0
theorem flip_step {xs zs : List Nat} {i d : Nat} (h : Flip xs zs i) (hi : i < xs.length) (hd : zs.getD i 0 = d) : Flip xs (zs.set i (4294967295 - d)) (i + 1) := by
  refine ⟨by simpa using h.len, h.ok.set _ _ (by unfold B32; omega), fun j hj => ?_, fun j hj => ?_⟩
  · by_cases e : j = i
    · subst e
      rw [getD_set_eq _ _ _ (by rw [h.len]; exact hi), ← h.rest j (Nat.le_refl _), hd]
    · rw [Lm.getD_set_ne _ _ _ _ (by omega)]
      exact h.done_ j (by omega)
  · rw [Lm.getD_set_ne _ _ _ _ (by omega)]
    exact h.rest j (by omega)

set_option maxRecDepth 100000 in
set_option maxHeartbeats 1000000 in
theorem ofComplement_neg (g c : Nat) (cur : Array Value) (xs : List Nat) (w : World) (h : Seg w g 0 .u32 99 cur xs) (ho : Lm.Ok B32 xs) (hl : xs.length < 900000) (hc : xs.length ≤ c) :
    Calls Try.prog 102 #[.bool true, .slice (some ⟨g, 0, none⟩) xs.length c] w fun e w' => ∃ zs, Flip xs zs xs.length ∧ IsIntAbove g w w' (-1 - (Lm.val B32 zs : Int)) e := by
  have hr0 := Res.new w 28
  have hn := h.keep ((Below.refl w.heap.size w).alloc (Nat.le_refl _) (.cells #[.bool false, .slice none 0 0] 28) |>.block g h.lt)
  have H := Lib.hid hr0
  clear hr0
  go_enter Try.func102, Try.ntmps102
  go_wp2
  go_loopw [12] (fun iv wr => ∃ (i : Nat) (ys : List Nat), iv = .int .i64 i ∧ i ≤ xs.length ∧ Flip xs ys i ∧ SegTo wr g 0 .u32 99 cur ys ∧ (w.alloc (.cells #[.bool false, .slice none 0 0] 28)).grownBy wr (some g)) (fun iv _ => xs.length - (intOf iv).toNat)
  case atStart => exact ⟨0, xs, rfl, Nat.zero_le _, ⟨rfl, ho, fun j hj => absurd hj (Nat.not_lt_zero _), fun _ _ => rfl⟩, .refl hn, World.grownBy.refl _ _⟩
  case round =>
    obtain ⟨i, ys, rfl, hi, hfl, hseg, hgr⟩ := hrel
    by_cases hlt : i < xs.length
    · obtain ⟨cur', hs1, hs2, hs3⟩ := id hseg
      have hcz := hs1.cell (j := i) (by rw [hfl.len]; exact hlt)
      have hfz := hs1.frozen (0 + i)
      have hdl := limb_lt hfl.ok i
      obtain ⟨d, hd⟩ : ∃ d, ys.getD i 0 = d := ⟨_, rfl⟩
      rw [hd] at hcz hdl
      simp only [Nat.zero_add] at hcz hfz
      have HD := Lib.hid hd
      clear hd hs1 hs2 hs3
      have hx := Lib.hid (not32 hdl)
      go_wp2
      go_roundw
      case rel => exact ⟨i + 1, ys.set i (4294967295 - d), by go_num, by omega, flip_step hfl hlt HD.out, by rw [hx.out]; exact hseg.set0 (j := i) (by rw [hfl.len]; exact hlt) _, by rw [hx.out]; exact grown_trans hgr (grown_store _ _ _ _)⟩
      case measure => simp [intOf]; omega
    · have hie : i = xs.length := by omega
      subst hie
      obtain ⟨cur', hs1, _, _⟩ := hseg
      have hnw := hs1.nums
      have hgl : g < w.heap.size := h.lt
      have kr := H.out.grown hgr (by simp) (by omega)
      have hb1 : Below g w wr := ((Below.refl _ _).alloc (Nat.le_of_lt hgl) _).trans (grown_below hgr (Nat.le_refl g) (by simp; omega))
      have hwr : w.heap.size < wr.heap.size := by have := hgr.size; simp at this; omega
      have HY := Lib.hid (And.intro hfl (And.intro hb1 (And.intro hgl hwr)))
      have hlen := hfl.len
      have hok := hfl.ok
      have hv : (Lm.val B32 ys : Int).natAbs < B32 ^ (xs.length + 1) := by
        rw [Int.natAbs_natCast]
        refine Nat.lt_of_lt_of_le (Lm.val_lt hok) ?_
        rw [hlen]
        exact Nat.pow_le_pow_right B32_pos (by omega)
      have hsig := signed_to false (some ⟨g, 0, none⟩) c ys (Lm.val B32 ys : Int) wr hnw hok (by omega) (by omega) rfl
      rw [hlen] at hsig
      clear hb1 hgl hwr hs1 hn hfl
      go_wp2_with fail
      refine hsig.mono ?_
      rintro e w2 ⟨v2, rfl, hi2, hb2⟩
      have k2 := kr.step hb2 rfl HY.out.2.2.2
      go_wp2_with fail
      refine (opposite_any v2 (Lm.val B32 ys : Int) (xs.length + 1) w2 hi2 hv (by omega) (by omega)).mono ?_
      rintro e w3 ⟨v3, rfl, ⟨b4, A4, c4, zs4, rfl, hsg4, hl4⟩, hb3⟩
      have k3 := k2.step hb3 rfl (Nat.lt_of_lt_of_le HY.out.2.2.2 hb2.size)
      obtain ⟨⟨hr0, hr1⟩, hf0, hf1⟩ := id k3
      go_wp2
      refine bodyPost_ret (v := .agg #[.bool b4, .slice A4 zs4.length c4]) (by simp [results, Try.results102, go_sem, hr0, hr1]) rfl ?_
      have hgl := HY.out.2.2.1
      have hwr := HY.out.2.2.2
      have hs2 := hb2.size
      exact ⟨ys, HY.out.1, _, rfl, at_stored k3 hsg4 hl4, (((HY.out.2.1.trans (hb2.mono (by omega))).trans (hb3.mono (by omega))).setCell (p := ⟨w.heap.size, 0, none⟩) (Nat.le_of_lt hgl) _).setCell (p := ⟨w.heap.size, 1, none⟩) (Nat.le_of_lt hgl) _⟩

/-- Combined as far as i. -/
structure Combed (op : Nat) (xs ys zs : List Nat) (n i : Nat) : Prop where
  len : zs.length = n
  ok : Lm.Ok B32 zs
  done_ : ∀ j, j < i → zs.getD j 0 = comb (tab op 0) (tab op 1) (tab op 2) (tab op 3) (xs.getD j 0) (ys.getD j 0)
  rest : ∀ j, i ≤ j → zs.getD j 0 = xs.getD j 0
theorem combed_step {op : Nat} {xs ys zs : List Nat} {n i a b : Nat} (h : Combed op xs ys zs n i) (hi : i < n) (ha : zs.getD i 0 = a) (hb : ys.getD i 0 = b) (hbl : b < 4294967296) :
    Combed op xs ys (zs.set i (comb (tab op 0) (tab op 1) (tab op 2) (tab op 3) a b)) n (i + 1) := by
  refine ⟨by simpa using h.len, h.ok.set _ _ (comb_lt _ _ _ _ _ _ hbl), fun j hj => ?_, fun j hj => ?_⟩
  · by_cases e : j = i
    · subst e
      rw [getD_set_eq _ _ _ (by rw [h.len]; exact hi), ← h.rest j (Nat.le_refl _), ha, hb]
    · rw [Lm.getD_set_ne _ _ _ _ (by omega)]
      exact h.done_ j (by omega)
  · rw [Lm.getD_set_ne _ _ _ _ (by omega)]
    exact h.rest j (by omega)
theorem comp_bit {xs za : List Nat} {z : Int} {n : Nat} (ht : Turned xs za (turnOf (decide (z < 0))) n n) (ho : Lm.Ok B32 xs) (hv : Lm.val B32 xs = magOf z) {j r : Nat} (hj : j < n) (hr : r < 32) :
    (za.getD j 0).testBit r = bitZ z (32 * j + r) := by
  rw [ht.done_ j hj, Nat.testBit_xor]
  unfold bitZ
  rw [bitB_test, ← hv, limb_test ho, show (32 * j + r) / 32 = j by omega, show (32 * j + r) % 32 = r by omega]
  unfold turnOf
  by_cases h : z < 0
  · rw [decide_eq_true h, if_pos rfl, mask_test hr]
  · rw [decide_eq_false h, if_neg (by decide), Nat.zero_testBit]
theorem combed_bit {op n : Nat} {x y : Int} {xs ys za zb zs : List Nat} (ha : Turned xs za (turnOf (decide (x < 0))) n n) (hb : Turned ys zb (turnOf (decide (y < 0))) n n)
    (ox : Lm.Ok B32 xs) (oy : Lm.Ok B32 ys) (vx : Lm.val B32 xs = magOf x) (vy : Lm.val B32 ys = magOf y) (h : Combed op za zb zs n n) {j r : Nat} (hj : j < n) (hr : r < 32) :
    (zs.getD j 0).testBit r = cho op (bitZ x (32 * j + r)) (bitZ y (32 * j + r)) := by
  rw [h.done_ j hj, comb_test op _ _ r (limb_lt ha.ok j) (limb_lt hb.ok j) hr, comp_bit ha ox vx hj hr, comp_bit hb oy vy hj hr]
theorem limb_ext {a b : Nat} (ha : a < 4294967296) (hb : b < 4294967296) (h : ∀ r, r < 32 → a.testBit r = b.testBit r) : a = b := by
  apply Nat.eq_of_testBit_eq
  intro r
  by_cases hr : r < 32
  · exact h r hr
  · rw [far_bit ha hr, far_bit hb hr]
theorem pow32 (n : Nat) : B32 ^ n = 2 ^ (32 * n) := by rw [Nat.pow_mul]; rfl
/-- All that is known of combined limbs. -/
structure Comb (op n : Nat) (x y : Int) (zs : List Nat) : Prop where
  len : zs.length = n
  ok : Lm.Ok B32 zs
  bit : ∀ j r, j < n → r < 32 → (zs.getD j 0).testBit r = cho op (bitZ x (32 * j + r)) (bitZ y (32 * j + r))
  bx : bl (magOf x) ≤ 32 * (n - 1)
  by_ : bl (magOf y) ≤ 32 * (n - 1)
  pos : 0 < n
theorem Comb.top {op n : Nat} {x y : Int} {zs : List Nat} (h : Comb op n x y zs) : zs.getD (n - 1) 0 = turnOf (cho op (decide (x < 0)) (decide (y < 0))) := by
  have hp := h.pos
  refine limb_ext (limb_lt h.ok _) (by unfold turnOf; split <;> omega) (fun r hr => ?_)
  rw [h.bit (n - 1) r (by omega) hr, bitZ_far (by have := h.bx; omega), bitZ_far (by have := h.by_; omega)]
  unfold turnOf
  cases cho op (decide (x < 0)) (decide (y < 0))
  · simp
  · simp [mask_test hr]
theorem Comb.test {op n : Nat} {x y : Int} {zs : List Nat} (h : Comb op n x y zs) (i : Nat) (hi : i < 32 * n) : (Lm.val B32 zs).testBit i = cho op (bitZ x i) (bitZ y i) := by
  rw [limb_test h.ok, h.bit (i / 32) (i % 32) (by omega) (by omega), show 32 * (i / 32) + i % 32 = i by omega]
theorem Comb.sum {op n : Nat} {x y : Int} {zs : List Nat} (h : Comb op n x y zs) : Lm.val B32 zs = sumBits (fun i => cho op (bitZ x i) (bitZ y i)) (32 * n) :=
  val_is_sum (by rw [← pow32, ← h.len]; exact Lm.val_lt h.ok) (h.test)
theorem Comb.pos_ {op n : Nat} {x y : Int} {zs : List Nat} (h : Comb op n x y zs) (hs : cho op (decide (x < 0)) (decide (y < 0)) = false) : (Lm.val B32 zs : Int) = booleZ op x y := by
  rw [← boole_any op x y (32 * n) (by have := h.bx; have := h.by_; omega), hs, bits_pos_of, h.sum]
theorem Comb.neg_ {op n : Nat} {x y : Int} {zs ws : List Nat} (h : Comb op n x y zs) (hs : cho op (decide (x < 0)) (decide (y < 0)) = true) (hf : Flip zs ws zs.length) : -1 - (Lm.val B32 ws : Int) = booleZ op x y := by
  have hl := h.len
  have e : Lm.val B32 ws = sumBits (fun i => !cho op (bitZ x i) (bitZ y i)) (32 * n) := by
    refine val_is_sum (by rw [← pow32, ← hl, ← hf.len]; exact Lm.val_lt hf.ok) (fun i hi => ?_)
    rw [limb_test hf.ok, hf.done_ _ (by omega), mask_sub (limb_lt h.ok _) (by omega), ← limb_test h.ok, h.test i hi]
  rw [← boole_any op x y (32 * n) (by have := h.bx; have := h.by_; omega), hs, bits_neg_of, e]
theorem mag_bl {z : Int} {zs : List Nat} {m : Nat} (ho : Lm.Ok B32 zs) (hv : Lm.val B32 zs = z.natAbs) (hm : zs.length ≤ m) : bl (magOf z) ≤ 32 * m := by
  rw [bl_le, ← pow32]
  refine Nat.lt_of_le_of_lt ?_ (Nat.lt_of_lt_of_le (Lm.val_lt ho) (Nat.pow_le_pow_right B32_pos hm))
  rw [hv]
  unfold magOf
  split <;> omega
theorem complement_any (b : Bool) (A : Option Addr) (c : Nat) (zs : List Nat) (z : Int) (n : Nat) (w : World) (hs : SignOf b z) (h : Limbs w A c zs z.natAbs) (hl : zs.length ≤ 900000) (hn : n ≤ 900000) :
    Calls Try.prog 101 #[.agg #[.bool b, .slice A zs.length c], .int .i64 n] w fun e w' => IsComp w w' z n e := by
  cases b
  · exact complement_false A c zs z n w hs h hl hn
  · exact complement_true A c zs z n w hs h hl hn

set_option maxRecDepth 100000 in
set_option maxHeartbeats 4000000 in
theorem boole_ints (op : Nat) (b1 b2 : Bool) (A1 : Option Addr) (c1 : Nat) (zs1 : List Nat) (A2 : Option Addr) (c2 : Nat) (zs2 : List Nat) (x y : Int) (m : Nat) (w : World) (hop : op < 16) (hs1 : SignOf b1 x) (hs2 : SignOf b2 y)
    (h1 : Limbs w A1 c1 zs1 x.natAbs) (h2 : Limbs w A2 c2 zs2 y.natAbs) (hm : m ≤ 800000) (hl1 : zs1.length ≤ m) (hl2 : zs2.length ≤ m) :
    Calls Try.prog 51 #[.agg #[.bool b1, .slice A1 zs1.length c1], .int .i64 op, .agg #[.bool b2, .slice A2 zs2.length c2]] w fun e w' => IsIntOk w w' (booleZ op x y) e := by
  have hbb := begun2_below w (.bool b1) (.slice A1 zs1.length c1) (.bool b2) (.slice A2 zs2.length c2) 28
  have hx0 := begun2_x w (.bool b1) (.slice A1 zs1.length c1) (.bool b2) (.slice A2 zs2.length c2) 28
  have hy0 := begun2_y w (.bool b1) (.slice A1 zs1.length c1) (.bool b2) (.slice A2 zs2.length c2) 28
  have hr0 := begun2_r w (.bool b1) (.slice A1 zs1.length c1) (.bool b2) (.slice A2 zs2.length c2) 28
  have hsz := begun2_size w (.bool b1) (.slice A1 zs1.length c1) (.bool b2) (.slice A2 zs2.length c2) 28
  have hq1 := h1.below hbb
  have hq2 := h2.below hbb
  have H := Lib.hid (And.intro hbb (And.intro hx0 (And.intro hy0 (And.intro hr0 hsz))))
  clear hbb hx0 hy0 hr0 hsz
  go_enter Try.func51, Try.ntmps51
  go_wp2_with fail
  refine (operation_any op hop _).mono ?_
  rintro e w1 ⟨gt, rfl, hfour, hgt, hgt', hb1⟩
  have j1 : w.heap.size + 3 ≤ w1.heap.size := Nat.le_trans (Nat.le_of_eq H.out.2.2.2.2.symm) hb1.size
  have k1x := H.out.2.1.step hb1 rfl (Nat.lt_of_lt_of_eq (m := w.heap.size + 3) (by omega) H.out.2.2.2.2.symm)
  have k1y := H.out.2.2.1.step hb1 rfl (Nat.lt_of_lt_of_eq (m := w.heap.size + 3) (by omega) H.out.2.2.2.2.symm)
  have k1r := H.out.2.2.2.1.step hb1 rfl (Nat.lt_of_lt_of_eq (m := w.heap.size + 3) (by omega) H.out.2.2.2.2.symm)
  have m1 := hq1.step hb1 rfl
  have m2 := hq2.step hb1 rfl
  obtain ⟨px0, px1⟩ := id k1x
  obtain ⟨py0, py1⟩ := id k1y
  clear hq1 hq2
  have tok1 : True := trivial
  go_wp2_with fail
  case inr h =>
    obtain ⟨L, hL⟩ : ∃ L, L = zs1.length := ⟨_, rfl⟩
    rw [← hL]
    have e1 : zs1.length ≤ L := by omega
    have e2 : zs2.length ≤ L := by omega
    have hLm : L ≤ 800000 := by omega
    clear h hL
    go_region_held3 (fun w' => w'.cell? ⟨w.heap.size, 0, none⟩ = some (.bool b1) ∧ w'.cell? ⟨w.heap.size, 1, none⟩ = some (.slice A1 zs1.length c1) ∧ w'.cell? ⟨w.heap.size + 1, 0, none⟩ = some (.bool b2) ∧ w'.cell? ⟨w.heap.size + 1, 1, none⟩ = some (.slice A2 zs2.length c2))
      (((try dsimp only); (repeat' apply And.intro) <;> (first | (with_reducible assumption) | go_keep)))
      ((first | (go_at_call 101; have _t := tok1; refine (complement_any b1 A1 c1 zs1 x (L + 1) _ hs1 (by exact m1) (by omega) (by omega)).mono ?_; rintro e w2 ⟨ga, xa, za, cura, rfl, hga, oxa, txa, vxa, hta, hsa, hb2⟩; clear tok1; have j2 : w.heap.size + 3 ≤ w2.heap.size := Nat.le_trans j1 hb2.size; have k2x := k1x.step hb2 rfl (by omega); have k2y := k1y.step hb2 rfl (by omega); have k2r := k1r.step hb2 rfl (by omega); have n2 := m2.step hb2 rfl; obtain ⟨qx0, qx1⟩ := id k2x; obtain ⟨qy0, qy1⟩ := id k2y) | (go_at_call 101; refine (complement_any b2 A2 c2 zs2 y (L + 1) _ hs2 (by exact n2) (by omega) (by omega)).mono ?_; rintro e w3 ⟨gb, xb, zb, curb, rfl, hgb, oxb, txb, vxb, htb, hsb, hb3⟩; have k3x := k2x.step hb3 rfl (by omega); have k3y := k2y.step hb3 rfl (by omega); have k3r := k2r.step hb3 rfl (by omega); obtain ⟨sx0, sx1⟩ := id k3x; obtain ⟨sy0, sy1⟩ := id k3y)))
    have hsa3 := hsa.keep (hb3.block ga hsa.lt)
    have hab : ga < gb := Nat.lt_of_lt_of_le hsa.lt hgb
    have hta' : gt < ga := Nat.lt_of_lt_of_le hgt' hga
    have hb13 : Below w1.heap.size w1 w3 := begun_then (W0 := w1) (Below.refl _ _) (below_then (w := w1.drew) hb2 hb3) rfl rfl rfl rfl
    have f3 : Four w3 gt (tab op 0) (tab op 1) (tab op 2) (tab op 3) := ⟨(hb13.cell (p := ⟨gt, 0, none⟩) hgt').trans hfour.1, (hb13.cell (p := ⟨gt, 1, none⟩) hgt').trans hfour.2.1, (hb13.cell (p := ⟨gt, 2, none⟩) hgt').trans hfour.2.2.1, (hb13.cell (p := ⟨gt, 3, none⟩) hgt').trans hfour.2.2.2⟩
    have HX := Lib.hid (And.intro m1 (And.intro k3r hb13))
    clear px0 px1 py0 py1 qx0 qx1 qy0 qy1 sx0 sx1 sy0 sy1 k1x k1y k1r k2x k2y k2r k3x k3y m1 m2 n2 hsa hfour
    go_wp2
    go_loopw [38] (fun iv wr => ∃ (i : Nat) (zs : List Nat), iv = .int .i64 i ∧ i ≤ L + 1 ∧ Combed op za zb zs (L + 1) i ∧ SegTo wr ga 0 .u32 99 cura zs ∧ w3.grownBy wr (some ga)) (fun iv _ => L + 1 - (intOf iv).toNat)
    case atStart => exact ⟨0, za, rfl, by omega, ⟨hta.len, hta.ok, fun j hj => absurd hj (Nat.not_lt_zero _), fun _ _ => rfl⟩, .refl hsa3, World.grownBy.refl _ _⟩
    case round =>
      obtain ⟨i, zs, rfl, hi, hand, hseg, hgr⟩ := hrel
      by_cases hlt : i < L + 1
      · obtain ⟨cur', hs1, hs2, hs3⟩ := id hseg
        have hca := hs1.cell (j := i) (by rw [hand.len]; exact hlt)
        have hfz := hs1.frozen (0 + i)
        have hsbr := hsb.grown hgr (fun e => by injection e; omega)
        have hcb := hsbr.cell (j := i) (by rw [htb.len]; exact hlt)
        have hal := limb_lt hand.ok i
        have hbl := limb_lt htb.ok i
        obtain ⟨a, ha⟩ : ∃ a, zs.getD i 0 = a := ⟨_, rfl⟩
        obtain ⟨b, hb⟩ : ∃ b, zb.getD i 0 = b := ⟨_, rfl⟩
        rw [ha] at hca hal
        rw [hb] at hcb hbl
        simp only [Nat.zero_add] at hca hcb hfz
        have hfr : Four wr gt (tab op 0) (tab op 1) (tab op 2) (tab op 3) := by
          have e : ∀ o, wr.cell? ⟨gt, o, none⟩ = w3.cell? ⟨gt, o, none⟩ := fun o => World.cell?_of_block (hgr.block gt (by have := hb13.size; omega) (fun e => by injection e; omega))
          exact ⟨(e 0).trans f3.1, (e 1).trans f3.2.1, (e 2).trans f3.2.2.1, (e 3).trans f3.2.2.2⟩
        have HD := Lib.hid (And.intro ha hb)
        clear ha hb hs1 hs2 hs3 hsbr
        go_wp2_with fail
        go_still_tail 13, (by kernel_rfl)
        still_call ((comb_any gt (tab op 0) (tab op 1) (tab op 2) (tab op 3) a b _ (by exact hfr) (tab_lt op 0) (tab_lt op 1) (tab_lt op 2) (tab_lt op 3) hal hbl).mono fun _ _ h => ⟨h.2, h.1.symm⟩)
        repeat still_step
        refine wpStill_nil ?_
        go_wp2
        go_roundw
        case rel =>
          refine ⟨i + 1, zs.set i (comb (tab op 0) (tab op 1) (tab op 2) (tab op 3) a b), by go_num, by omega, combed_step hand hlt HD.out.1 HD.out.2 hbl, ?_, ?_⟩
          · exact (hseg.set0 (j := i) (by rw [hand.len]; exact hlt) _).drew
          · exact grown_drew (grown_trans hgr (grown_store _ _ _ _))
        case measure => simp [intOf]; omega
      · have hie : i = L + 1 := by omega
        subst hie
        have hcomb : Comb op (L + 1) x y zs := ⟨hand.len, hand.ok, fun j r hj hr => combed_bit hta htb oxa oxb vxa vxb hand hj hr, mag_bl h1.2.2.1 h1.2.2.2.2 e1, mag_bl h2.2.2.1 h2.2.2.2.2 e2, Nat.succ_pos L⟩
        obtain ⟨cur', hs1, _, _⟩ := hseg
        have hc1 := hs1.cell (j := L) (by rw [hand.len]; omega)
        have htop : zs.getD L 0 = turnOf (cho op (decide (x < 0)) (decide (y < 0))) := hcomb.top
        have hn := hs1.nums
        have hga' : w1.heap.size ≤ ga := hga
        have hb3r : Below w1.heap.size w1 wr := hb13.trans (grown_below hgr hga' hb13.size)
        have kr := HX.out.2.1.far (grown_below hgr (Nat.le_refl ga) (Nat.le_of_lt hsa3.lt)) (by omega)
        have jr : w.heap.size + 3 ≤ wr.heap.size := Nat.le_trans j1 hb3r.size
        simp only [Nat.zero_add] at hc1
        rw [htop] at hc1
        have hlen := hand.len
        have hok := hand.ok
        have HC := Lib.hid (And.intro hcomb (And.intro hb3r (And.intro hs1 hn)))
        have r2 : w.heap.size + 2 < ga := by omega
        clear hcomb hb3r hs1 hn htop hand hgr f3 hta htb hsb
        have HB := Lib.hid (begun_then H.out.1 hb1 rfl rfl rfl rfl)
        clear hb1 hb13 hsa3 hb2 hb3
        by_cases hs : cho op (decide (x < 0)) (decide (y < 0)) = false
        · rw [hs] at hc1
          have hc2 : wr.cell? ⟨ga, L, none⟩ = some (.int .u32 0) := hc1
          have hof := ofComplement_pos (some ⟨ga, 0, none⟩) (L + 1) zs wr HC.out.2.2.2 hok (by omega) (by omega)
          rw [HC.out.1.pos_ hs, hlen] at hof
          clear hc1
          go_wp2_with fail
          refine hof.mono ?_
          rintro e w4 ⟨v4, rfl, ⟨b4, A4, c4, zs4, rfl, hsg4, hl4⟩, hb4⟩
          have k4 := kr.step hb4 rfl (by omega)
          obtain ⟨⟨hr0, hr1⟩, hf0, hf1⟩ := id k4
          go_wp2
          have hst := res_stored k4 hsg4 hl4 (below_then (below_then HB.out HC.out.2.1) hb4) (by omega)
          obtain ⟨v5, he5, hi5, hb5⟩ := hst
          injection he5 with he5
          subst he5
          have q := k4.1.stored (.bool b4) (.slice A4 zs4.length c4)
          obtain ⟨q0, q1⟩ := id q
          refine bodyPost_ret (v := .tuple #[.agg #[.bool b4, .slice A4 zs4.length c4], .int .i64 0]) (by simp [results, Try.results51, go_sem, q0, q1]) rfl ?_
          exact ⟨_, rfl, hi5, hb5⟩
        · have hs' : cho op (decide (x < 0)) (decide (y < 0)) = true := by revert hs; cases cho op (decide (x < 0)) (decide (y < 0)) <;> simp
          rw [hs'] at hc1
          have hc2 : wr.cell? ⟨ga, L, none⟩ = some (.int .u32 4294967295) := hc1
          have hof : Calls Try.prog 102 #[.bool true, .slice (some ⟨ga, 0, none⟩) (L + 1) (L + 1)] wr fun e w' => IsIntAbove ga wr w' (booleZ op x y) e := by
            have h0 := ofComplement_neg ga (L + 1) cur' zs wr HC.out.2.2.1 hok (by omega) (by omega)
            rw [hlen] at h0
            refine h0.mono ?_
            rintro e w4 ⟨ws, hf, h⟩
            rw [HC.out.1.neg_ hs' (by rw [hlen]; exact hf)] at h
            exact h
          clear hc1
          go_wp2_with fail
          refine hof.mono ?_
          rintro e w4 ⟨v4, rfl, ⟨b4, A4, c4, zs4, rfl, hsg4, hl4⟩, hb4⟩
          have k4 := kr.far hb4 r2
          obtain ⟨⟨hr0, hr1⟩, hf0, hf1⟩ := id k4
          go_wp2
          have hst := res_stored k4 hsg4 hl4 ((below_then HB.out HC.out.2.1).trans (hb4.mono (by omega))) (by omega)
          obtain ⟨v5, he5, hi5, hb5⟩ := hst
          injection he5 with he5
          subst he5
          have q := k4.1.stored (.bool b4) (.slice A4 zs4.length c4)
          obtain ⟨q0, q1⟩ := id q
          refine bodyPost_ret (v := .tuple #[.agg #[.bool b4, .slice A4 zs4.length c4], .int .i64 0]) (by simp [results, Try.results51, go_sem, q0, q1]) rfl ?_
          exact ⟨_, rfl, hi5, hb5⟩
  case inl h =>
    obtain ⟨L, hL⟩ : ∃ L, L = zs2.length := ⟨_, rfl⟩
    rw [← hL]
    have e1 : zs1.length ≤ L := by omega
    have e2 : zs2.length ≤ L := by omega
    have hLm : L ≤ 800000 := by omega
    clear h hL
    go_region_held3 (fun w' => w'.cell? ⟨w.heap.size, 0, none⟩ = some (.bool b1) ∧ w'.cell? ⟨w.heap.size, 1, none⟩ = some (.slice A1 zs1.length c1) ∧ w'.cell? ⟨w.heap.size + 1, 0, none⟩ = some (.bool b2) ∧ w'.cell? ⟨w.heap.size + 1, 1, none⟩ = some (.slice A2 zs2.length c2))
      (((try dsimp only); (repeat' apply And.intro) <;> (first | (with_reducible assumption) | go_keep)))
      ((first | (go_at_call 101; have _t := tok1; refine (complement_any b1 A1 c1 zs1 x (L + 1) _ hs1 (by exact m1) (by omega) (by omega)).mono ?_; rintro e w2 ⟨ga, xa, za, cura, rfl, hga, oxa, txa, vxa, hta, hsa, hb2⟩; clear tok1; have j2 : w.heap.size + 3 ≤ w2.heap.size := Nat.le_trans j1 hb2.size; have k2x := k1x.step hb2 rfl (by omega); have k2y := k1y.step hb2 rfl (by omega); have k2r := k1r.step hb2 rfl (by omega); have n2 := m2.step hb2 rfl; obtain ⟨qx0, qx1⟩ := id k2x; obtain ⟨qy0, qy1⟩ := id k2y) | (go_at_call 101; refine (complement_any b2 A2 c2 zs2 y (L + 1) _ hs2 (by exact n2) (by omega) (by omega)).mono ?_; rintro e w3 ⟨gb, xb, zb, curb, rfl, hgb, oxb, txb, vxb, htb, hsb, hb3⟩; have k3x := k2x.step hb3 rfl (by omega); have k3y := k2y.step hb3 rfl (by omega); have k3r := k2r.step hb3 rfl (by omega); obtain ⟨sx0, sx1⟩ := id k3x; obtain ⟨sy0, sy1⟩ := id k3y)))
    have hsa3 := hsa.keep (hb3.block ga hsa.lt)
    have hab : ga < gb := Nat.lt_of_lt_of_le hsa.lt hgb
    have hta' : gt < ga := Nat.lt_of_lt_of_le hgt' hga
    have hb13 : Below w1.heap.size w1 w3 := begun_then (W0 := w1) (Below.refl _ _) (below_then (w := w1.drew) hb2 hb3) rfl rfl rfl rfl
    have f3 : Four w3 gt (tab op 0) (tab op 1) (tab op 2) (tab op 3) := ⟨(hb13.cell (p := ⟨gt, 0, none⟩) hgt').trans hfour.1, (hb13.cell (p := ⟨gt, 1, none⟩) hgt').trans hfour.2.1, (hb13.cell (p := ⟨gt, 2, none⟩) hgt').trans hfour.2.2.1, (hb13.cell (p := ⟨gt, 3, none⟩) hgt').trans hfour.2.2.2⟩
    have HX := Lib.hid (And.intro m1 (And.intro k3r hb13))
    clear px0 px1 py0 py1 qx0 qx1 qy0 qy1 sx0 sx1 sy0 sy1 k1x k1y k1r k2x k2y k2r k3x k3y m1 m2 n2 hsa hfour
    go_wp2
    go_loopw [38] (fun iv wr => ∃ (i : Nat) (zs : List Nat), iv = .int .i64 i ∧ i ≤ L + 1 ∧ Combed op za zb zs (L + 1) i ∧ SegTo wr ga 0 .u32 99 cura zs ∧ w3.grownBy wr (some ga)) (fun iv _ => L + 1 - (intOf iv).toNat)
    case atStart => exact ⟨0, za, rfl, by omega, ⟨hta.len, hta.ok, fun j hj => absurd hj (Nat.not_lt_zero _), fun _ _ => rfl⟩, .refl hsa3, World.grownBy.refl _ _⟩
    case round =>
      obtain ⟨i, zs, rfl, hi, hand, hseg, hgr⟩ := hrel
      by_cases hlt : i < L + 1
      · obtain ⟨cur', hs1, hs2, hs3⟩ := id hseg
        have hca := hs1.cell (j := i) (by rw [hand.len]; exact hlt)
        have hfz := hs1.frozen (0 + i)
        have hsbr := hsb.grown hgr (fun e => by injection e; omega)
        have hcb := hsbr.cell (j := i) (by rw [htb.len]; exact hlt)
        have hal := limb_lt hand.ok i
        have hbl := limb_lt htb.ok i
        obtain ⟨a, ha⟩ : ∃ a, zs.getD i 0 = a := ⟨_, rfl⟩
        obtain ⟨b, hb⟩ : ∃ b, zb.getD i 0 = b := ⟨_, rfl⟩
        rw [ha] at hca hal
        rw [hb] at hcb hbl
        simp only [Nat.zero_add] at hca hcb hfz
        have hfr : Four wr gt (tab op 0) (tab op 1) (tab op 2) (tab op 3) := by
          have e : ∀ o, wr.cell? ⟨gt, o, none⟩ = w3.cell? ⟨gt, o, none⟩ := fun o => World.cell?_of_block (hgr.block gt (by have := hb13.size; omega) (fun e => by injection e; omega))
          exact ⟨(e 0).trans f3.1, (e 1).trans f3.2.1, (e 2).trans f3.2.2.1, (e 3).trans f3.2.2.2⟩
        have HD := Lib.hid (And.intro ha hb)
        clear ha hb hs1 hs2 hs3 hsbr
        go_wp2_with fail
        go_still_tail 13, (by kernel_rfl)
        still_call ((comb_any gt (tab op 0) (tab op 1) (tab op 2) (tab op 3) a b _ (by exact hfr) (tab_lt op 0) (tab_lt op 1) (tab_lt op 2) (tab_lt op 3) hal hbl).mono fun _ _ h => ⟨h.2, h.1.symm⟩)
        repeat still_step
        refine wpStill_nil ?_
        go_wp2
        go_roundw
        case rel =>
          refine ⟨i + 1, zs.set i (comb (tab op 0) (tab op 1) (tab op 2) (tab op 3) a b), by go_num, by omega, combed_step hand hlt HD.out.1 HD.out.2 hbl, ?_, ?_⟩
          · exact (hseg.set0 (j := i) (by rw [hand.len]; exact hlt) _).drew
          · exact grown_drew (grown_trans hgr (grown_store _ _ _ _))
        case measure => simp [intOf]; omega
      · have hie : i = L + 1 := by omega
        subst hie
        have hcomb : Comb op (L + 1) x y zs := ⟨hand.len, hand.ok, fun j r hj hr => combed_bit hta htb oxa oxb vxa vxb hand hj hr, mag_bl h1.2.2.1 h1.2.2.2.2 e1, mag_bl h2.2.2.1 h2.2.2.2.2 e2, Nat.succ_pos L⟩
        obtain ⟨cur', hs1, _, _⟩ := hseg
        have hc1 := hs1.cell (j := L) (by rw [hand.len]; omega)
        have htop : zs.getD L 0 = turnOf (cho op (decide (x < 0)) (decide (y < 0))) := hcomb.top
        have hn := hs1.nums
        have hga' : w1.heap.size ≤ ga := hga
        have hb3r : Below w1.heap.size w1 wr := hb13.trans (grown_below hgr hga' hb13.size)
        have kr := HX.out.2.1.far (grown_below hgr (Nat.le_refl ga) (Nat.le_of_lt hsa3.lt)) (by omega)
        have jr : w.heap.size + 3 ≤ wr.heap.size := Nat.le_trans j1 hb3r.size
        simp only [Nat.zero_add] at hc1
        rw [htop] at hc1
        have hlen := hand.len
        have hok := hand.ok
        have HC := Lib.hid (And.intro hcomb (And.intro hb3r (And.intro hs1 hn)))
        have r2 : w.heap.size + 2 < ga := by omega
        clear hcomb hb3r hs1 hn htop hand hgr f3 hta htb hsb
        have HB := Lib.hid (begun_then H.out.1 hb1 rfl rfl rfl rfl)
        clear hb1 hb13 hsa3 hb2 hb3
        by_cases hs : cho op (decide (x < 0)) (decide (y < 0)) = false
        · rw [hs] at hc1
          have hc2 : wr.cell? ⟨ga, L, none⟩ = some (.int .u32 0) := hc1
          have hof := ofComplement_pos (some ⟨ga, 0, none⟩) (L + 1) zs wr HC.out.2.2.2 hok (by omega) (by omega)
          rw [HC.out.1.pos_ hs, hlen] at hof
          clear hc1
          go_wp2_with fail
          refine hof.mono ?_
          rintro e w4 ⟨v4, rfl, ⟨b4, A4, c4, zs4, rfl, hsg4, hl4⟩, hb4⟩
          have k4 := kr.step hb4 rfl (by omega)
          obtain ⟨⟨hr0, hr1⟩, hf0, hf1⟩ := id k4
          go_wp2
          have hst := res_stored k4 hsg4 hl4 (below_then (below_then HB.out HC.out.2.1) hb4) (by omega)
          obtain ⟨v5, he5, hi5, hb5⟩ := hst
          injection he5 with he5
          subst he5
          have q := k4.1.stored (.bool b4) (.slice A4 zs4.length c4)
          obtain ⟨q0, q1⟩ := id q
          refine bodyPost_ret (v := .tuple #[.agg #[.bool b4, .slice A4 zs4.length c4], .int .i64 0]) (by simp [results, Try.results51, go_sem, q0, q1]) rfl ?_
          exact ⟨_, rfl, hi5, hb5⟩
        · have hs' : cho op (decide (x < 0)) (decide (y < 0)) = true := by revert hs; cases cho op (decide (x < 0)) (decide (y < 0)) <;> simp
          rw [hs'] at hc1
          have hc2 : wr.cell? ⟨ga, L, none⟩ = some (.int .u32 4294967295) := hc1
          have hof : Calls Try.prog 102 #[.bool true, .slice (some ⟨ga, 0, none⟩) (L + 1) (L + 1)] wr fun e w' => IsIntAbove ga wr w' (booleZ op x y) e := by
            have h0 := ofComplement_neg ga (L + 1) cur' zs wr HC.out.2.2.1 hok (by omega) (by omega)
            rw [hlen] at h0
            refine h0.mono ?_
            rintro e w4 ⟨ws, hf, h⟩
            rw [HC.out.1.neg_ hs' (by rw [hlen]; exact hf)] at h
            exact h
          clear hc1
          go_wp2_with fail
          refine hof.mono ?_
          rintro e w4 ⟨v4, rfl, ⟨b4, A4, c4, zs4, rfl, hsg4, hl4⟩, hb4⟩
          have k4 := kr.far hb4 r2
          obtain ⟨⟨hr0, hr1⟩, hf0, hf1⟩ := id k4
          go_wp2
          have hst := res_stored k4 hsg4 hl4 ((below_then HB.out HC.out.2.1).trans (hb4.mono (by omega))) (by omega)
          obtain ⟨v5, he5, hi5, hb5⟩ := hst
          injection he5 with he5
          subst he5
          have q := k4.1.stored (.bool b4) (.slice A4 zs4.length c4)
          obtain ⟨q0, q1⟩ := id q
          refine bodyPost_ret (v := .tuple #[.agg #[.bool b4, .slice A4 zs4.length c4], .int .i64 0]) (by simp [results, Try.results51, go_sem, q0, q1]) rfl ?_
          exact ⟨_, rfl, hi5, hb5⟩

/-- Boole of the numbers x and y. -/
theorem Boole_any (op : Nat) (v1 v2 : Value) (x y : Int) (m : Nat) (w : World) (hop : op < 16) (h1 : IntAt w v1 x) (h2 : IntAt w v2 y) (hm : m ≤ 800000) (hx : x.natAbs < B32 ^ m) (hy : y.natAbs < B32 ^ m) :
    Calls Try.prog 51 #[v1, .int .i64 op, v2] w fun e w' => IsIntOk w w' (booleZ op x y) e := by
  obtain ⟨b1, A1, c1, zs1, rfl, hs1, hl1⟩ := h1
  obtain ⟨b2, A2, c2, zs2, rfl, hs2, hl2⟩ := h2
  exact boole_ints op b1 b2 A1 c1 zs1 A2 c2 zs2 x y m w hop hs1 hs2 hl1 hl2 hm (hl1.len hx) (hl2.len hy)

theorem bit_one (d r : Nat) (hd : d < 4294967296) : (bits .and .u32 ((d : Int) / 2 ^ r) 1 == 1) = d.testBit r := by
  have e : (d : Int) / 2 ^ r = ((d / 2 ^ r : Nat) : Int) := by norm_cast
  have hq : d / 2 ^ r < 4294967296 := Nat.lt_of_le_of_lt (Nat.div_le_self _ _) hd
  have h2 : bits .and .u32 ((d / 2 ^ r : Nat) : Int) ((1 : Nat) : Int) = _ := u32_and_nat (d / 2 ^ r) 1 hq (by decide)
  rw [Nat.and_one_is_mod] at h2
  rw [e, Nat.testBit_eq_decide_div_mod_eq]
  rw [show bits .and .u32 ((d / 2 ^ r : Nat) : Int) 1 = _ from h2]
  generalize d / 2 ^ r = q
  by_cases h : q % 2 = 1
  · rw [h, decide_eq_true rfl]; rfl
  · rw [decide_eq_false h, beq_eq_false_iff_ne]; omega

set_option maxRecDepth 100000 in
set_option maxHeartbeats 1000000 in
theorem Bit_below (v : Value) (z i : Int) (w : World) (h : IntAt w v z) (hi : i < 0) : Calls Try.prog 53 #[v, .int .i64 i] w fun e w' => IsBool w w' false e := by
  obtain ⟨b, A, c, zs, rfl, hs, hd⟩ := h
  have hbel : Below w.heap.size w (w.alloc (.cells #[.bool b, .slice A zs.length c] 28)) := (Below.refl _ _).alloc (Nat.le_refl _) _
  have H := Lib.hid hbel
  clear hbel hd hs
  go_enter Try.func53, Try.ntmps53
  go_wp2
  go_ret
  exact ⟨rfl, H.out⟩

set_option maxRecDepth 100000 in
set_option maxHeartbeats 1000000 in
theorem Bit_ints (b : Bool) (A : Option Addr) (c : Nat) (zs : List Nat) (z : Int) (i : Nat) (w : World) (hs : SignOf b z) (h : Limbs w A c zs z.natAbs) (hl : zs.length ≤ 800000) (hi : i < 9223372036854775808) :
    Calls Try.prog 53 #[.agg #[.bool b, .slice A zs.length c], .int .i64 i] w fun e w' => IsBool w w' (bitZ z i) e := by
  have i0 : (0 : Int) ≤ (i : Int) := Int.natCast_nonneg i
  have i1 : (i : Int) ≤ 9223372036854775807 := by omega
  have hbel : Below w.heap.size w (w.alloc (.cells #[.bool b, .slice A zs.length c] 28)) := (Below.refl _ _).alloc (Nat.le_refl _) _
  have hx0 := Two.new w (.bool b) (.slice A zs.length c) 28
  have hm := magnitude_ints b A c zs z _ hs (h.below hbel) (by omega)
  have H := Lib.hid (And.intro hbel (And.intro hx0 hm))
  clear hbel hx0 hm
  go_enter Try.func53, Try.ntmps53
  go_wp2_with fail
  refine H.out.2.2.mono ?_
  rintro e w1 ⟨A1, c1, xs, rfl, hlim, hb1⟩
  have k1 := H.out.2.1.step hb1 rfl (by simp)
  obtain ⟨px0, px1⟩ := id k1
  by_cases hq : i / 32 < xs.length
  · obtain ⟨ad, rfl, hblk, hcell⟩ := hlim.2.1 (by omega)
    have hcd := hcell (i / 32) hq
    have hlm := limb_lt hlim.2.2.1 (i / 32)
    have hlt : (i : Int) / 32 < (xs.length : Int) := by omega
    have hidx : ((i : Int) / 32).toNat = i / 32 := by omega
    have hq0 : (0 : Int) ≤ (i : Int) / 32 := by omega
    have hr0 : (0 : Int) ≤ (i : Int) % 32 := by omega
    have hrn : ((i : Int) % 32).toNat = i % 32 := by omega
    obtain ⟨d, hd⟩ : ∃ d, xs.getD (i / 32) 0 = d := ⟨_, rfl⟩
    rw [hd] at hcd hlm
    have hv : Ending.returned (Value.bool (!((bits .and .u32 ((d : Int) / 2 ^ (i % 32)) 1 == 1) == b))) = .returned (.bool (bitZ z i)) := by
      rw [bit_one d (i % 32) hlm]
      unfold bitZ
      rw [bitB_test, ← hlim.2.2.2.2, limb_test hlim.2.2.1, hd, ← show b = decide (z < 0) from hs]
      rfl
    have HV := Lib.hid hv
    clear hd hcell hlim hv
    go_wp2
    go_region
    all_goals go_wp2
    go_ret
    exact ⟨HV.out, below_then H.out.1 ⟨hb1.os, hb1.tape, hb1.output, hb1.size, hb1.block⟩⟩
  · have hge : (xs.length : Int) ≤ (i : Int) / 32 := by omega
    have hfar : bitZ z i = b := by
      rw [bitZ_far, ← show b = decide (z < 0) from hs]
      rw [bl_le, ← hlim.2.2.2.2]
      refine Nat.lt_of_lt_of_le (Lm.val_lt hlim.2.2.1) ?_
      rw [pow32]
      exact Nat.pow_le_pow_right (by decide) (by omega)
    have HF := Lib.hid hfar
    clear hfar hlim
    go_wp2
    go_ret
    exact ⟨by rw [HF.out]; rfl, below_then H.out.1 hb1⟩
theorem Bit_any (v : Value) (z : Int) (i m : Nat) (w : World) (h : IntAt w v z) (hz : z.natAbs < B32 ^ m) (hm : m ≤ 800000) (hi : i < 9223372036854775808) :
    Calls Try.prog 53 #[v, .int .i64 i] w fun e w' => IsBool w w' (bitZ z i) e := by
  obtain ⟨b, A, c, zs, rfl, hs, hd⟩ := h
  exact Bit_ints b A c zs z i w hs hd (Nat.le_trans (hd.len hz) hm) hi
end Go.Proofs.Ytllkajlmfbikhaa
