/- Boole, Of and Bit of the reference; both for any operation. -/
import Derived.Test.YtagocllbfbbneaaBoolA
namespace Go.Proofs.Ytagocllbfbbneaa
open Go.RowKit
set_option linter.unusedSimpArgs false

set_option maxRecDepth 100000 in
set_option maxHeartbeats 1000000 in
theorem chosen00 (op : Nat) (w : World) (hop : op < 16) : Calls Try.prog 103 #[.int .i64 op, .bool false, .bool false] w fun e w' => e = .returned (.bool (cho op false false)) ∧ w = w' := by
  go_enter Try.func103, Try.ntmps103
  go_wp2
  go_loop [0, 8] (fun ov jv => ∃ j : Nat, j ≤ 0 ∧ ov = .int .i64 ((op / 2 ^ j : Nat) : Int) ∧ jv = .int .i64 j) (fun _ jv => 0 - (intOf jv).toNat)
  case atStart => exact ⟨0, Nat.zero_le _, by simp, rfl⟩
  case round =>
    obtain ⟨j, hj, rfl, rfl⟩ := hrel
    have hlt : op / 2 ^ j < 16 := Nat.lt_of_le_of_lt (Nat.div_le_self _ _) hop
    have hnext : op / 2 ^ (j + 1) = op / 2 ^ j / 2 := by rw [Nat.pow_succ, Nat.div_div_eq_div_mul]
    obtain rfl : j = 0 := by omega
    have hb : cho op false false = decide (op / 2 ^ 0 % 2 = 1) := by unfold cho; rw [Nat.testBit_eq_decide_div_mod_eq]; rfl
    obtain ⟨t, ht⟩ : ∃ t, op / 2 ^ 0 = t := ⟨_, rfl⟩
    rw [ht] at hlt hb ⊢
    have t0 : (0 : Int) ≤ (t : Int) := Int.natCast_nonneg t
    have t1 : (t : Int) ≤ 15 := by omega
    clear ht hlt hnext
    by_cases h1 : t % 2 = 1
    · have HT := Lib.hid (hb.trans (decide_eq_true h1))
      have hbt : ((t : Int) % 2 == 1) = true := by rw [beq_iff_eq]; omega
      clear h1 hb
      go_wp2
      go_ret
      exact ⟨by rw [HT.out]; rfl, rfl⟩
    · have HT := Lib.hid (hb.trans (decide_eq_false h1))
      have hbt : ((t : Int) % 2 == 1) = false := by rw [beq_eq_false_iff_ne]; omega
      clear h1 hb
      go_wp2
      go_ret
      exact ⟨by rw [HT.out]; rfl, rfl⟩
set_option maxRecDepth 100000 in
set_option maxHeartbeats 1000000 in
theorem chosen01 (op : Nat) (w : World) (hop : op < 16) : Calls Try.prog 103 #[.int .i64 op, .bool false, .bool true] w fun e w' => e = .returned (.bool (cho op false true)) ∧ w = w' := by
  go_enter Try.func103, Try.ntmps103
  go_wp2
  go_loop [0, 8] (fun ov jv => ∃ j : Nat, j ≤ 1 ∧ ov = .int .i64 ((op / 2 ^ j : Nat) : Int) ∧ jv = .int .i64 j) (fun _ jv => 1 - (intOf jv).toNat)
  case atStart => exact ⟨0, Nat.zero_le _, by simp, rfl⟩
  case round =>
    obtain ⟨j, hj, rfl, rfl⟩ := hrel
    have hlt : op / 2 ^ j < 16 := Nat.lt_of_le_of_lt (Nat.div_le_self _ _) hop
    have hnext : op / 2 ^ (j + 1) = op / 2 ^ j / 2 := by rw [Nat.pow_succ, Nat.div_div_eq_div_mul]
    by_cases hjj : j < 1
    · obtain ⟨t, ht⟩ : ∃ t, op / 2 ^ j = t := ⟨_, rfl⟩
      rw [ht] at hlt hnext ⊢
      have t0 : (0 : Int) ≤ (t : Int) := Int.natCast_nonneg t
      have t1 : (t : Int) ≤ 15 := by omega
      have HN := Lib.hid hnext
      clear ht hlt hnext
      go_wp2
      go_round
      case rel => exact ⟨j + 1, by omega, congrArg (Value.int IntKind.i64) (by rw [HN.out]; omega), by go_num⟩
      case measure => simp [intOf]; omega
    · obtain rfl : j = 1 := by omega
      have hb : cho op false true = decide (op / 2 ^ 1 % 2 = 1) := by unfold cho; rw [Nat.testBit_eq_decide_div_mod_eq]; rfl
      obtain ⟨t, ht⟩ : ∃ t, op / 2 ^ 1 = t := ⟨_, rfl⟩
      rw [ht] at hlt hb ⊢
      have t0 : (0 : Int) ≤ (t : Int) := Int.natCast_nonneg t
      have t1 : (t : Int) ≤ 15 := by omega
      clear ht hlt hnext
      by_cases h1 : t % 2 = 1
      · have HT := Lib.hid (hb.trans (decide_eq_true h1))
        have hbt : ((t : Int) % 2 == 1) = true := by rw [beq_iff_eq]; omega
        clear h1 hb
        go_wp2
        go_ret
        exact ⟨by rw [HT.out]; rfl, rfl⟩
      · have HT := Lib.hid (hb.trans (decide_eq_false h1))
        have hbt : ((t : Int) % 2 == 1) = false := by rw [beq_eq_false_iff_ne]; omega
        clear h1 hb
        go_wp2
        go_ret
        exact ⟨by rw [HT.out]; rfl, rfl⟩
set_option maxRecDepth 100000 in
set_option maxHeartbeats 1000000 in
theorem chosen10 (op : Nat) (w : World) (hop : op < 16) : Calls Try.prog 103 #[.int .i64 op, .bool true, .bool false] w fun e w' => e = .returned (.bool (cho op true false)) ∧ w = w' := by
  go_enter Try.func103, Try.ntmps103
  go_wp2
  go_loop [0, 8] (fun ov jv => ∃ j : Nat, j ≤ 2 ∧ ov = .int .i64 ((op / 2 ^ j : Nat) : Int) ∧ jv = .int .i64 j) (fun _ jv => 2 - (intOf jv).toNat)
  case atStart => exact ⟨0, Nat.zero_le _, by simp, rfl⟩
  case round =>
    obtain ⟨j, hj, rfl, rfl⟩ := hrel
    have hlt : op / 2 ^ j < 16 := Nat.lt_of_le_of_lt (Nat.div_le_self _ _) hop
    have hnext : op / 2 ^ (j + 1) = op / 2 ^ j / 2 := by rw [Nat.pow_succ, Nat.div_div_eq_div_mul]
    by_cases hjj : j < 2
    · obtain ⟨t, ht⟩ : ∃ t, op / 2 ^ j = t := ⟨_, rfl⟩
      rw [ht] at hlt hnext ⊢
      have t0 : (0 : Int) ≤ (t : Int) := Int.natCast_nonneg t
      have t1 : (t : Int) ≤ 15 := by omega
      have HN := Lib.hid hnext
      clear ht hlt hnext
      go_wp2
      go_round
      case rel => exact ⟨j + 1, by omega, congrArg (Value.int IntKind.i64) (by rw [HN.out]; omega), by go_num⟩
      case measure => simp [intOf]; omega
    · obtain rfl : j = 2 := by omega
      have hb : cho op true false = decide (op / 2 ^ 2 % 2 = 1) := by unfold cho; rw [Nat.testBit_eq_decide_div_mod_eq]; rfl
      obtain ⟨t, ht⟩ : ∃ t, op / 2 ^ 2 = t := ⟨_, rfl⟩
      rw [ht] at hlt hb ⊢
      have t0 : (0 : Int) ≤ (t : Int) := Int.natCast_nonneg t
      have t1 : (t : Int) ≤ 15 := by omega
      clear ht hlt hnext
      by_cases h1 : t % 2 = 1
      · have HT := Lib.hid (hb.trans (decide_eq_true h1))
        have hbt : ((t : Int) % 2 == 1) = true := by rw [beq_iff_eq]; omega
        clear h1 hb
        go_wp2
        go_ret
        exact ⟨by rw [HT.out]; rfl, rfl⟩
      · have HT := Lib.hid (hb.trans (decide_eq_false h1))
        have hbt : ((t : Int) % 2 == 1) = false := by rw [beq_eq_false_iff_ne]; omega
        clear h1 hb
        go_wp2
        go_ret
        exact ⟨by rw [HT.out]; rfl, rfl⟩
set_option maxRecDepth 100000 in
set_option maxHeartbeats 1000000 in
theorem chosen11 (op : Nat) (w : World) (hop : op < 16) : Calls Try.prog 103 #[.int .i64 op, .bool true, .bool true] w fun e w' => e = .returned (.bool (cho op true true)) ∧ w = w' := by
  go_enter Try.func103, Try.ntmps103
  go_wp2
  go_loop [0, 8] (fun ov jv => ∃ j : Nat, j ≤ 3 ∧ ov = .int .i64 ((op / 2 ^ j : Nat) : Int) ∧ jv = .int .i64 j) (fun _ jv => 3 - (intOf jv).toNat)
  case atStart => exact ⟨0, Nat.zero_le _, by simp, rfl⟩
  case round =>
    obtain ⟨j, hj, rfl, rfl⟩ := hrel
    have hlt : op / 2 ^ j < 16 := Nat.lt_of_le_of_lt (Nat.div_le_self _ _) hop
    have hnext : op / 2 ^ (j + 1) = op / 2 ^ j / 2 := by rw [Nat.pow_succ, Nat.div_div_eq_div_mul]
    by_cases hjj : j < 3
    · obtain ⟨t, ht⟩ : ∃ t, op / 2 ^ j = t := ⟨_, rfl⟩
      rw [ht] at hlt hnext ⊢
      have t0 : (0 : Int) ≤ (t : Int) := Int.natCast_nonneg t
      have t1 : (t : Int) ≤ 15 := by omega
      have HN := Lib.hid hnext
      clear ht hlt hnext
      go_wp2
      go_round
      case rel => exact ⟨j + 1, by omega, congrArg (Value.int IntKind.i64) (by rw [HN.out]; omega), by go_num⟩
      case measure => simp [intOf]; omega
    · obtain rfl : j = 3 := by omega
      have hb : cho op true true = decide (op / 2 ^ 3 % 2 = 1) := by unfold cho; rw [Nat.testBit_eq_decide_div_mod_eq]; rfl
      obtain ⟨t, ht⟩ : ∃ t, op / 2 ^ 3 = t := ⟨_, rfl⟩
      rw [ht] at hlt hb ⊢
      have t0 : (0 : Int) ≤ (t : Int) := Int.natCast_nonneg t
      have t1 : (t : Int) ≤ 15 := by omega
      clear ht hlt hnext
      by_cases h1 : t % 2 = 1
      · have HT := Lib.hid (hb.trans (decide_eq_true h1))
        have hbt : ((t : Int) % 2 == 1) = true := by rw [beq_iff_eq]; omega
        clear h1 hb
        go_wp2
        go_ret
        exact ⟨by rw [HT.out]; rfl, rfl⟩
      · have HT := Lib.hid (hb.trans (decide_eq_false h1))
        have hbt : ((t : Int) % 2 == 1) = false := by rw [beq_eq_false_iff_ne]; omega
        clear h1 hb
        go_wp2
        go_ret
        exact ⟨by rw [HT.out]; rfl, rfl⟩
theorem chosen_any (op : Nat) (a b : Bool) (w : World) (hop : op < 16) : Calls Try.prog 103 #[.int .i64 op, .bool a, .bool b] w fun e w' => e = .returned (.bool (cho op a b)) ∧ w = w' := by
  cases a <;> cases b
  · exact chosen00 op w hop
  · exact chosen01 op w hop
  · exact chosen10 op w hop
  · exact chosen11 op w hop

theorem sum_test (g : Nat → Bool) (n i : Nat) (hi : i < n) : (sumBits g n).testBit i = g i := by
  induction n with
  | zero => omega
  | succ n ih =>
    rw [sumBits, Nat.add_comm, Nat.testBit_two_pow_mul_add _ (sum_lt g n)]
    by_cases h : i < n
    · rw [if_pos h, ih h]
    · obtain rfl : i = n := by omega
      rw [if_neg h, Nat.sub_self]
      cases g i <;> rfl
/-- Digit q, once the bits from k on have gone in. -/
def digK (S k q : Nat) : Nat := S / 2 ^ (max k (16 * q)) % 2 ^ (16 * (q + 1) - max k (16 * q))
structure DigAt (S n k : Nat) (ds : List Nat) : Prop where
  len : ds.length = n / 16 + 1
  ok : Lm.Ok BD ds
  at_ : ∀ q, q < n / 16 + 1 → ds.getD q 0 = digK S k q
theorem digK_lt (S k q : Nat) (h : 16 * q ≤ k) : digK S (k + 1) q * 2 + 1 < 65536 := by
  have h1 : digK S (k + 1) q < 2 ^ (16 * (q + 1) - max (k + 1) (16 * q)) := Nat.mod_lt _ (Nat.two_pow_pos _)
  have h2 : 2 ^ (16 * (q + 1) - max (k + 1) (16 * q)) ≤ 2 ^ 15 := Nat.pow_le_pow_right (by decide) (by omega)
  omega
theorem digK_step (S k q : Nat) (h : 16 * q ≤ k) (h2 : k < 16 * (q + 1)) : digK S k q = digK S (k + 1) q * 2 + (S.testBit k).toNat := by
  unfold digK
  rw [show max k (16 * q) = k by omega, show max (k + 1) (16 * q) = k + 1 by omega]
  obtain ⟨e, he⟩ : ∃ e, 16 * (q + 1) - k = e + 1 := ⟨16 * (q + 1) - k - 1, by omega⟩
  rw [he, show 16 * (q + 1) - (k + 1) = e by omega, Nat.pow_succ 2 k, ← Nat.div_div_eq_div_mul, Nat.testBit_eq_decide_div_mod_eq]
  generalize S / 2 ^ k = t
  rw [Nat.pow_succ, Nat.mul_comm (2 ^ e) 2, Nat.mod_mul]
  have : (decide (t % 2 = 1)).toNat = t % 2 := by
    by_cases h : t % 2 = 1
    · rw [decide_eq_true h, h]; rfl
    · rw [decide_eq_false h]; simp; omega
  rw [this]
  omega
theorem digK_same (S k q : Nat) (h : k < 16 * q ∨ 16 * (q + 1) ≤ k) : digK S k q = digK S (k + 1) q := by
  unfold digK
  rcases h with h | h
  · rw [show max k (16 * q) = 16 * q by omega, show max (k + 1) (16 * q) = 16 * q by omega]
  · rw [show 16 * (q + 1) - max k (16 * q) = 0 by omega, show 16 * (q + 1) - max (k + 1) (16 * q) = 0 by omega, Nat.pow_zero, Nat.mod_one, Nat.mod_one]
theorem dig_start {S n : Nat} (h : S < 2 ^ n) : DigAt S n n (List.replicate (n / 16 + 1) 0) := by
  refine ⟨by simp, Lm.Ok.zeros BD_pos _, fun q hq => ?_⟩
  rw [List.getD_eq_getElem?_getD, List.getElem?_replicate, if_pos hq]
  unfold digK
  rw [Nat.div_eq_of_lt (Nat.lt_of_lt_of_le h (Nat.pow_le_pow_right (by decide) (Nat.le_max_left _ _))), Nat.zero_mod]
  rfl
theorem dig_step {S n k d v : Nat} {ds : List Nat} (h : DigAt S n (k + 1) ds) (hk : k < n) (hd : ds.getD (k / 16) 0 = d) (hv : v = d * 2 + (S.testBit k).toNat) : DigAt S n k (ds.set (k / 16) v) := by
  have hq : k / 16 < n / 16 + 1 := by omega
  have hd' : d = digK S (k + 1) (k / 16) := hd.symm.trans (h.at_ _ hq)
  have hb := digK_lt S k (k / 16) (by omega)
  have hv' : v = digK S k (k / 16) := by rw [hv, hd', digK_step S k (k / 16) (by omega) (by omega)]
  have ht : (S.testBit k).toNat ≤ 1 := Bool.toNat_le _
  refine ⟨by simpa using h.len, h.ok.set _ _ (by unfold BD; omega), fun q h1 => ?_⟩
  by_cases e : q = k / 16
  · subst e
    rw [getD_set_eq _ _ _ (by rw [h.len]; exact hq), hv']
  · rw [Lm.getD_set_ne _ _ _ _ (by omega), h.at_ q h1, digK_same S k q (by omega)]
theorem dig_test {ds : List Nat} (ho : Lm.Ok BD ds) (i : Nat) : (Lm.val BD ds).testBit i = (ds.getD (i / 16) 0).testBit (i % 16) := by
  induction ds generalizing i with
  | nil => simp [Lm.val]
  | cons x xs ih =>
    have hx := ho.head
    rw [Lm.val_cons]
    have e : x + BD * Lm.val BD xs = 2 ^ 16 * Lm.val BD xs + x := by unfold BD; omega
    rw [e, Nat.testBit_two_pow_mul_add _ hx]
    by_cases h : i < 16
    · rw [if_pos h, Nat.div_eq_of_lt h, Nat.mod_eq_of_lt h]
      rfl
    · rw [if_neg h, ih ho.tail (i - 16)]
      have e1 : i / 16 = (i - 16) / 16 + 1 := by omega
      have e2 : i % 16 = (i - 16) % 16 := by omega
      rw [e1, e2]
      rfl
theorem dig_end {S n : Nat} {ds : List Nat} (h : DigAt S n 0 ds) (hS : S < 2 ^ n) : Lm.val BD ds = S := by
  apply Nat.eq_of_testBit_eq
  intro i
  rw [dig_test h.ok]
  by_cases hq : i / 16 < n / 16 + 1
  · rw [h.at_ _ hq]
    unfold digK
    rw [show max 0 (16 * (i / 16)) = 16 * (i / 16) by omega, show 16 * (i / 16 + 1) - 16 * (i / 16) = 16 by omega, Nat.testBit_mod_two_pow, Nat.testBit_div_two_pow, decide_eq_true (Nat.mod_lt _ (by decide)), Bool.true_and]
    rw [show i % 16 + 16 * (i / 16) = i by omega]
  · rw [List.getD_eq_getElem?_getD, List.getElem?_eq_none (by rw [h.len]; omega)]
    rw [Nat.testBit_lt_two_pow (Nat.lt_of_lt_of_le hS (Nat.pow_le_pow_right (by decide) (by omega)))]
    simp
theorem dig_bits {S n k d : Nat} {ds : List Nat} (h : DigAt S n (k + 1) ds) (hk : k < n) (hd : ds.getD (k / 16) 0 = d) : d * 2 + 1 < 65536 := by
  have hq : k / 16 < n / 16 + 1 := by omega
  rw [← hd, h.at_ _ hq]
  exact digK_lt S k (k / 16) (by omega)

theorem made_ints (n : Nat) : (madeCells (Value.int .i64 0).cells (n * 1)).toList = cellsOf .i64 (List.replicate n 0) := by
  rw [show (Value.int .i64 0).cells = #[Value.int .i64 0] from rfl, toList_madeCells_one, Nat.mul_one]
  unfold cellsOf
  rw [List.map_replicate]
  rfl
theorem BoolsAt.below {w w' : World} {A : Option Addr} {f : Nat → Bool} {n : Nat} (h : BoolsAt w A f n) (hb : Below w.heap.size w w') : BoolsAt w' A f n := fun hn => by
  obtain ⟨ad, ea, hlt, hc⟩ := h hn
  exact ⟨ad, ea, Nat.lt_of_lt_of_le hlt hb.size, fun j hj => (hb.cell (by rw [block_of_add]; exact hlt)).trans (hc j hj)⟩

set_option maxRecDepth 100000 in
set_option maxHeartbeats 2000000 in
theorem rof_false (A : Option Addr) (c n : Nat) (f : Nat → Bool) (w : World) (h : BoolsAt w A f n) (hn : n ≤ 12000000) :
    Calls Try.prog 104 #[.slice A n c, .bool false] w fun e w' => IsRef w w' (ofBits f n false) e := by
  obtain ⟨S, hS⟩ : ∃ S, S = sumBits (fun i => f i != false) n := ⟨_, rfl⟩
  have hSl : S < 2 ^ n := by rw [hS]; exact sum_lt _ _
  have hSt : ∀ i, i < n → S.testBit i = (f i != false) := fun i hi => by rw [hS]; exact sum_test _ n i hi
  obtain ⟨i0, hi0, hz0, hz1, hz2⟩ := info_parts Try.info3
  have HI := Lib.hid (And.intro hi0 (And.intro hz0 (And.intro hz1 hz2)))
  have HM := Lib.hid (show i0.bytes * (n / 16 + 1) ≤ 281474976710656 ∧ n / 16 + 1 ≤ maxLen from ⟨by rw [hz2]; omega, by unfold maxLen; omega⟩)
  clear hi0 hz0 hz1 hz2
  have hr0 := Res.new w 31
  have hb0 : Below w.heap.size w (w.alloc (.cells #[.bool false, .slice none 0 0] 31)) := (Below.refl _ _).alloc (Nat.le_refl _) _
  have H := Lib.hid (And.intro hr0 (And.intro hb0 (And.intro hS (And.intro hSl hSt))))
  clear hr0 hb0 hS hSl hSt
  go_enter Try.func104, Try.ntmps104
  go_wp2_with (at_make; go_loud (refine wpList_make_full _ rfl _ _ 29 rfl (w.heap.size + 1) 3 i0 (.int .i64 0) 1 Try.underlying29 HI.out.1 HI.out.2.1 HI.out.2.2.1 _ _ _ _ (n / 16 + 1) rfl rfl rfl rfl HM.out.1 HM.out.2 (by simp) ?_); intro w1 hown1 hg1; rw [made_ints] at hown1; have HB := Lib.hid (own_block hown1); clear hown1)
  have hg2 : w.heap.size + 1 < w1.heap.size := (Array.getElem?_eq_some_iff.1 (by simpa using HB.out)).1
  have hsg0 : Seg w1 (w.heap.size + 1) 0 .i64 3 _ (List.replicate (n / 16 + 1) 0) := seg_of_block (by simpa using HB.out)
  have hb1 : Below (w.alloc (.cells #[.bool false, .slice none 0 0] 31)).heap.size (w.alloc (.cells #[.bool false, .slice none 0 0] 31)) w1 := (Below.refl _ _).grown hg1 (Nat.le_refl _) (fun k hk => by cases hk)
  have k1 := H.out.1.step hb1 rfl (by simp)
  have hbo := (h.below H.out.2.1).below hb1
  have hbw : Below w.heap.size w w1 := below_then H.out.2.1 hb1
  have HW := Lib.hid (And.intro hbw (And.intro k1 hbo))
  clear HB HM HI k1 hb1 hg1 hbo hbw
  go_wp2
  go_loopw [6] (fun iv wr => ∃ (k : Nat) (ds : List Nat), iv = .int .i64 ((k : Int) - 1) ∧ k ≤ n ∧ DigAt S n k ds ∧ SegTo wr (w.heap.size + 1) 0 .i64 3 (cellsOf .i64 (List.replicate (n / 16 + 1) 0)).toArray ds ∧ w1.grownBy wr (some (w.heap.size + 1))) (fun iv _ => (intOf iv + 1).toNat)
  case atStart => exact ⟨n, _, by go_num, Nat.le_refl _, dig_start H.out.2.2.2.1, .refl hsg0, World.grownBy.refl _ _⟩
  case round =>
    obtain ⟨k, ds, rfl, hk, hdig, hseg, hgr⟩ := hrel
    cases k with
    | succ j =>
      rw [show ((j + 1 : Nat) : Int) - 1 = (j : Int) by omega]
      have hq : j / 16 < ds.length := by rw [hdig.len]; omega
      obtain ⟨cur', hs1, hs2, hs3⟩ := id hseg
      have hcz := hs1.cell (j := j / 16) hq
      have hfz := hs1.frozen (0 + j / 16)
      obtain ⟨d, hd⟩ : ∃ d, ds.getD (j / 16) 0 = d := ⟨_, rfl⟩
      have hdl := dig_bits hdig (by omega) hd
      have hlen := hdig.len
      rw [hd] at hcz
      simp only [Nat.zero_add] at hcz hfz
      have hbr : Below w.heap.size w wr := HW.out.1.trans (grown_below hgr (by omega) (by omega))
      obtain ⟨ad, rfl, hadw, hcell⟩ := h (by omega)
      have hadj : (ad.add j).block < w.heap.size := by rw [block_of_add]; exact hadw
      have hcb := (hbr.cell (p := ad.add j) hadj).trans (hcell j (by omega))
      have hcb2 : (wr.setCell ⟨w.heap.size + 1, j / 16, none⟩ (.int .i64 ((d : Int) * 2))).cell? (ad.add j) = some (.bool (f j)) := by
        rw [World.cell?_setCell_other _ _ _ _ (fun e => by rw [← e] at hadj; simp at hadj; omega)]
        exact hcb
      have hbit := H.out.2.2.2.2 j (by omega)
      have e0 : (0 : Int) ≤ (j : Int) := Int.natCast_nonneg j
      have e1 : (j : Int) ≤ 12000000 := by omega
      have e2 : ((j : Int) / 16).toNat = j / 16 := by omega
      have e3 : (j : Int) / 16 < (n : Int) / 16 + 1 := by omega
      have e4 : (0 : Int) ≤ (j : Int) / 16 := by omega
      have e5 : (0 : Int) ≤ (d : Int) := Int.natCast_nonneg d
      have e6 : (d : Int) * 2 + 1 ≤ 65535 := by omega
      have HD := Lib.hid (And.intro hd (And.intro hdig (And.intro hseg (And.intro hgr hq))))
      clear hd hdig hseg hs1 hs2 hs3 hgr hbr hcell hcb hdl hlen hq hsg0
      cases hfj : f j
      all_goals
        rw [hfj] at hcb2 hbit
        have HBit := Lib.hid hbit
        clear hbit hfj
        go_wp2
        go_roundw
        case rel =>
          first
            | exact ⟨j, ds.set (j / 16) (d * 2), rfl, by omega, dig_step HD.out.2.1 (by omega) HD.out.1 (by rw [HBit.out]; rfl), HD.out.2.2.1.set0 HD.out.2.2.2.2 (d * 2), grown_trans HD.out.2.2.2.1 (grown_store _ _ _ _)⟩
            | exact ⟨j, ds.set (j / 16) (d * 2 + 1), rfl, by omega, dig_step HD.out.2.1 (by omega) HD.out.1 (by rw [HBit.out]; rfl), by (have q := (HD.out.2.2.1.set0 HD.out.2.2.2.2 (d * 2)).set0 (j := j / 16) (by rw [List.length_set]; exact HD.out.2.2.2.2) (d * 2 + 1)); rw [List.set_set] at q; exact q, grown_trans (grown_trans HD.out.2.2.2.1 (grown_store _ _ _ _)) (grown_store _ _ _ _)⟩
        case measure => simp [intOf] <;> omega
    | zero =>
      rw [show ((0 : Nat) : Int) - 1 = -1 by omega]
      obtain ⟨cur', hs1, _, _⟩ := hseg
      have hv : Lm.val BD ds = S := dig_end hdig H.out.2.2.2.1
      have hm := made_any false (some ⟨w.heap.size + 1, 0, none⟩) (n / 16 + 1) ds wr hs1.nums hdig.ok (by rw [hdig.len]; omega) (by rw [hdig.len]; omega)
      rw [hv, hdig.len, show ofSign false S = (S : Int) from rfl] at hm
      have hbr : Below w.heap.size w wr := HW.out.1.trans (grown_below hgr (by omega) (by omega))
      have kr := HW.out.2.1.grown hgr (by omega) (by omega)
      have hsr : w.heap.size + 1 < wr.heap.size := Nat.lt_of_lt_of_le hg2 hgr.size
      have HR := Lib.hid (And.intro hbr (And.intro hsr hv))
      clear hbr hs1 hv hdig hgr hsg0 hg2
      go_wp2_with fail
      refine hm.mono ?_
      rintro e w2 ⟨v2, rfl, ⟨b4, A4, c4, ds4, rfl, hsg4, hd4⟩, hb2⟩
      have k2 := kr.step hb2 rfl (by have := HR.out.2.1; omega)
      have hr2 : w.heap.size < w2.heap.size := Nat.lt_of_lt_of_le (Nat.lt_of_succ_lt HR.out.2.1) hb2.size
      have hb3 : Below w2.heap.size w2 (w2.alloc (.cells #[.bool b4, .slice A4 ds4.length c4] 31)) := (Below.refl w2.heap.size w2).alloc (Nat.le_refl _) _
      have k3 := k2.step hb3 rfl hr2
      have hT := Two.new w2 (.bool b4) (.slice A4 ds4.length c4) 31
      have hd3 := hd4.step hb3 rfl
      obtain ⟨⟨hr0, hr1⟩, hf0, hf1⟩ := id k3
      obtain ⟨hx0, hx1⟩ := id hT
      have HZ := Lib.hid (And.intro k3 (And.intro hd3 (And.intro hsg4 (below_then (below_then HR.out.1 hb2) hb3))))
      clear k2 k3 hb3 hd3 hd4 hb2
      clear hr2
      go_wp2
      refine bodyPost_ret (v := .agg #[.bool b4, .slice A4 ds4.length c4]) (by simp [results, Try.results104, go_sem, hr0, hr1]) rfl ?_
      have hz : ofBits f n false = (S : Int) := by
        rw [bits_pos_of, H.out.2.2.1]
        exact congrArg (fun g => ((sumBits g n : Nat) : Int)) (funext fun i => by cases f i <;> rfl)
      rw [hz]
      exact ref_stored HZ.out.1 HZ.out.2.2.1 HZ.out.2.1 HZ.out.2.2.2 (Nat.le_refl _)
set_option maxRecDepth 100000 in
set_option maxHeartbeats 2000000 in
theorem rof_true (A : Option Addr) (c n : Nat) (f : Nat → Bool) (w : World) (h : BoolsAt w A f n) (hn : n ≤ 12000000) :
    Calls Try.prog 104 #[.slice A n c, .bool true] w fun e w' => IsRef w w' (ofBits f n true) e := by
  obtain ⟨S, hS⟩ : ∃ S, S = sumBits (fun i => f i != true) n := ⟨_, rfl⟩
  have hSl : S < 2 ^ n := by rw [hS]; exact sum_lt _ _
  have hSt : ∀ i, i < n → S.testBit i = (f i != true) := fun i hi => by rw [hS]; exact sum_test _ n i hi
  obtain ⟨i0, hi0, hz0, hz1, hz2⟩ := info_parts Try.info3
  have HI := Lib.hid (And.intro hi0 (And.intro hz0 (And.intro hz1 hz2)))
  have HM := Lib.hid (show i0.bytes * (n / 16 + 1) ≤ 281474976710656 ∧ n / 16 + 1 ≤ maxLen from ⟨by rw [hz2]; omega, by unfold maxLen; omega⟩)
  clear hi0 hz0 hz1 hz2
  have hr0 := Res.new w 31
  have hb0 : Below w.heap.size w (w.alloc (.cells #[.bool false, .slice none 0 0] 31)) := (Below.refl _ _).alloc (Nat.le_refl _) _
  have H := Lib.hid (And.intro hr0 (And.intro hb0 (And.intro hS (And.intro hSl hSt))))
  clear hr0 hb0 hS hSl hSt
  go_enter Try.func104, Try.ntmps104
  go_wp2_with (at_make; go_loud (refine wpList_make_full _ rfl _ _ 29 rfl (w.heap.size + 1) 3 i0 (.int .i64 0) 1 Try.underlying29 HI.out.1 HI.out.2.1 HI.out.2.2.1 _ _ _ _ (n / 16 + 1) rfl rfl rfl rfl HM.out.1 HM.out.2 (by simp) ?_); intro w1 hown1 hg1; rw [made_ints] at hown1; have HB := Lib.hid (own_block hown1); clear hown1)
  have hg2 : w.heap.size + 1 < w1.heap.size := (Array.getElem?_eq_some_iff.1 (by simpa using HB.out)).1
  have hsg0 : Seg w1 (w.heap.size + 1) 0 .i64 3 _ (List.replicate (n / 16 + 1) 0) := seg_of_block (by simpa using HB.out)
  have hb1 : Below (w.alloc (.cells #[.bool false, .slice none 0 0] 31)).heap.size (w.alloc (.cells #[.bool false, .slice none 0 0] 31)) w1 := (Below.refl _ _).grown hg1 (Nat.le_refl _) (fun k hk => by cases hk)
  have k1 := H.out.1.step hb1 rfl (by simp)
  have hbo := (h.below H.out.2.1).below hb1
  have hbw : Below w.heap.size w w1 := below_then H.out.2.1 hb1
  have HW := Lib.hid (And.intro hbw (And.intro k1 hbo))
  clear HB HM HI k1 hb1 hg1 hbo hbw
  go_wp2
  go_loopw [6] (fun iv wr => ∃ (k : Nat) (ds : List Nat), iv = .int .i64 ((k : Int) - 1) ∧ k ≤ n ∧ DigAt S n k ds ∧ SegTo wr (w.heap.size + 1) 0 .i64 3 (cellsOf .i64 (List.replicate (n / 16 + 1) 0)).toArray ds ∧ w1.grownBy wr (some (w.heap.size + 1))) (fun iv _ => (intOf iv + 1).toNat)
  case atStart => exact ⟨n, _, by go_num, Nat.le_refl _, dig_start H.out.2.2.2.1, .refl hsg0, World.grownBy.refl _ _⟩
  case round =>
    obtain ⟨k, ds, rfl, hk, hdig, hseg, hgr⟩ := hrel
    cases k with
    | succ j =>
      rw [show ((j + 1 : Nat) : Int) - 1 = (j : Int) by omega]
      have hq : j / 16 < ds.length := by rw [hdig.len]; omega
      obtain ⟨cur', hs1, hs2, hs3⟩ := id hseg
      have hcz := hs1.cell (j := j / 16) hq
      have hfz := hs1.frozen (0 + j / 16)
      obtain ⟨d, hd⟩ : ∃ d, ds.getD (j / 16) 0 = d := ⟨_, rfl⟩
      have hdl := dig_bits hdig (by omega) hd
      have hlen := hdig.len
      rw [hd] at hcz
      simp only [Nat.zero_add] at hcz hfz
      have hbr : Below w.heap.size w wr := HW.out.1.trans (grown_below hgr (by omega) (by omega))
      obtain ⟨ad, rfl, hadw, hcell⟩ := h (by omega)
      have hadj : (ad.add j).block < w.heap.size := by rw [block_of_add]; exact hadw
      have hcb := (hbr.cell (p := ad.add j) hadj).trans (hcell j (by omega))
      have hcb2 : (wr.setCell ⟨w.heap.size + 1, j / 16, none⟩ (.int .i64 ((d : Int) * 2))).cell? (ad.add j) = some (.bool (f j)) := by
        rw [World.cell?_setCell_other _ _ _ _ (fun e => by rw [← e] at hadj; simp at hadj; omega)]
        exact hcb
      have hbit := H.out.2.2.2.2 j (by omega)
      have e0 : (0 : Int) ≤ (j : Int) := Int.natCast_nonneg j
      have e1 : (j : Int) ≤ 12000000 := by omega
      have e2 : ((j : Int) / 16).toNat = j / 16 := by omega
      have e3 : (j : Int) / 16 < (n : Int) / 16 + 1 := by omega
      have e4 : (0 : Int) ≤ (j : Int) / 16 := by omega
      have e5 : (0 : Int) ≤ (d : Int) := Int.natCast_nonneg d
      have e6 : (d : Int) * 2 + 1 ≤ 65535 := by omega
      have HD := Lib.hid (And.intro hd (And.intro hdig (And.intro hseg (And.intro hgr hq))))
      clear hd hdig hseg hs1 hs2 hs3 hgr hbr hcell hcb hdl hlen hq hsg0
      cases hfj : f j
      all_goals
        rw [hfj] at hcb2 hbit
        have HBit := Lib.hid hbit
        clear hbit hfj
        go_wp2
        go_roundw
        case rel =>
          first
            | exact ⟨j, ds.set (j / 16) (d * 2), rfl, by omega, dig_step HD.out.2.1 (by omega) HD.out.1 (by rw [HBit.out]; rfl), HD.out.2.2.1.set0 HD.out.2.2.2.2 (d * 2), grown_trans HD.out.2.2.2.1 (grown_store _ _ _ _)⟩
            | exact ⟨j, ds.set (j / 16) (d * 2 + 1), rfl, by omega, dig_step HD.out.2.1 (by omega) HD.out.1 (by rw [HBit.out]; rfl), by (have q := (HD.out.2.2.1.set0 HD.out.2.2.2.2 (d * 2)).set0 (j := j / 16) (by rw [List.length_set]; exact HD.out.2.2.2.2) (d * 2 + 1)); rw [List.set_set] at q; exact q, grown_trans (grown_trans HD.out.2.2.2.1 (grown_store _ _ _ _)) (grown_store _ _ _ _)⟩
        case measure => simp [intOf] <;> omega
    | zero =>
      rw [show ((0 : Nat) : Int) - 1 = -1 by omega]
      obtain ⟨cur', hs1, _, _⟩ := hseg
      have hv : Lm.val BD ds = S := dig_end hdig H.out.2.2.2.1
      have hm := made_any false (some ⟨w.heap.size + 1, 0, none⟩) (n / 16 + 1) ds wr hs1.nums hdig.ok (by rw [hdig.len]; omega) (by rw [hdig.len]; omega)
      rw [hv, hdig.len, show ofSign false S = (S : Int) from rfl] at hm
      have hbr : Below w.heap.size w wr := HW.out.1.trans (grown_below hgr (by omega) (by omega))
      have kr := HW.out.2.1.grown hgr (by omega) (by omega)
      have hsr : w.heap.size + 1 < wr.heap.size := Nat.lt_of_lt_of_le hg2 hgr.size
      have HR := Lib.hid (And.intro hbr (And.intro hsr hv))
      clear hbr hs1 hv hdig hgr hsg0 hg2
      go_wp2_with fail
      refine hm.mono ?_
      rintro e w2 ⟨v2, rfl, ⟨b4, A4, c4, ds4, rfl, hsg4, hd4⟩, hb2⟩
      have k2 := kr.step hb2 rfl (by have := HR.out.2.1; omega)
      have hr2 : w.heap.size < w2.heap.size := Nat.lt_of_lt_of_le (Nat.lt_of_succ_lt HR.out.2.1) hb2.size
      have hb3 : Below w2.heap.size w2 (w2.alloc (.cells #[.bool b4, .slice A4 ds4.length c4] 31)) := (Below.refl w2.heap.size w2).alloc (Nat.le_refl _) _
      have k3 := k2.step hb3 rfl hr2
      have hT := Two.new w2 (.bool b4) (.slice A4 ds4.length c4) 31
      have hd3 := hd4.step hb3 rfl
      obtain ⟨⟨hr0, hr1⟩, hf0, hf1⟩ := id k3
      obtain ⟨hx0, hx1⟩ := id hT
      have HZ := Lib.hid (And.intro k3 (And.intro hd3 (And.intro hsg4 (below_then (below_then HR.out.1 hb2) hb3))))
      clear k2 k3 hb3 hd3 hd4 hb2
      have hS16 : (S : Int).natAbs < BD ^ (n / 16 + 1) := by
        rw [Int.natAbs_natCast]
        refine Nat.lt_of_lt_of_le H.out.2.2.2.1 ?_
        rw [BD_two]
        exact Nat.pow_le_pow_right (by decide) (by omega)
      have h116 : (-1 : Int).natAbs < BD ^ (n / 16 + 1) := Nat.lt_of_lt_of_le (show 1 < BD ^ 1 by decide) (Nat.pow_le_pow_right BD_pos (by omega))
      have hi0 : RefAt (w2.alloc (.cells #[.bool b4, .slice A4 ds4.length c4] 31)) (.agg #[.bool b4, .slice A4 ds4.length c4]) S := ⟨b4, A4, c4, ds4, rfl, HZ.out.2.2.1, HZ.out.2.1⟩
      have HM := Lib.hid (And.intro hS16 (And.intro h116 hi0))
      clear hS16 h116 hi0
      go_wp2_with fail
      go_region_held3 (fun w' => w'.cell? ⟨w2.heap.size, 0, none⟩ = some (.bool b4) ∧ w'.cell? ⟨w2.heap.size, 1, none⟩ = some (.slice A4 ds4.length c4))
        (((try dsimp only); (repeat' apply And.intro) <;> (first | (with_reducible assumption) | go_keep)))
        ((first | (go_at_call 18; refine (RNew_all (-1) _ (by decide) (by decide)).mono ?_; rintro e w3 ⟨v3, rfl, hi3, hb3⟩; have k4 := HZ.out.1.step hb3 rfl (by simp; omega); have t4 := hT.step hb3 rfl (by simp); have hiz := HM.out.2.2.step hb3 rfl; obtain ⟨px0, px1⟩ := id t4; have hs3 : w2.heap.size + 1 ≤ w3.heap.size := by (have := hb3.size; simp at this; omega)) | (go_at_call 41; refine (RSub_any v3 _ (-1) S (n / 16 + 1) w3 hi3 hiz (by omega) HM.out.2.1 HM.out.1).mono ?_; rintro e w4 ⟨v4, rfl, ⟨b5, A5, c5, ds5, rfl, hsg5, hd5⟩, hb4⟩; have k5 := k4.step hb4 rfl (by omega); have t5 := t4.step hb4 rfl (by omega); obtain ⟨qx0, qx1⟩ := id t5; obtain ⟨⟨hs0, hs1⟩, hg0, hg1⟩ := id k5; obtain ⟨ux0, ux1⟩ := t5.far (r := w.heap.size) (by omega) (.bool b5) (.slice A5 ds5.length c5))))
      go_wp2
      refine bodyPost_ret (v := .agg #[.bool b5, .slice A5 ds5.length c5]) (by simp [results, Try.results104, go_sem, hs0, hs1]) rfl ?_
      have hz : ofBits f n true = -1 - (S : Int) := by
        rw [bits_neg_of, H.out.2.2.1]
        exact congrArg (fun g => -1 - ((sumBits g n : Nat) : Int)) (funext fun i => by cases f i <;> rfl)
      rw [hz]
      exact ref_stored k5 hsg5 hd5 (below_then (begun_then HZ.out.2.2.2 hb3 rfl rfl rfl rfl) hb4) (Nat.le_refl _)
theorem ROf_any (A : Option Addr) (c n : Nat) (f : Nat → Bool) (s : Bool) (w : World) (h : BoolsAt w A f n) (hn : n ≤ 12000000) :
    Calls Try.prog 104 #[.slice A n c, .bool s] w fun e w' => IsRef w w' (ofBits f n s) e := by
  cases s
  · exact rof_false A c n f w h hn
  · exact rof_true A c n f w h hn

set_option maxRecDepth 100000 in
set_option maxHeartbeats 2000000 in
theorem Rset_all (v : Value) (z : Int) (i m : Nat) (w : World) (h : RefAt w v z) (hm : m ≤ 1000000) (hz : z.natAbs < BD ^ m) (hi : i < 9223372036854775808) : Calls Try.prog 105 #[v, .int .i64 (i : Int)] w fun e w' => IsBool w w' (bitB z.natAbs i) e := by
  obtain ⟨b, A, c, ds, rfl, hs, hd⟩ := h
  have hlen := Nat.le_trans (hd.len hz) hm
  have hbel : Below w.heap.size w (w.alloc (.cells #[.bool b, .slice A ds.length c] 31)) := (Below.refl _ _).alloc (Nat.le_refl _) _
  have i0 : (0 : Int) ≤ (i : Int) := Int.natCast_nonneg i
  have i1 : (i : Int) ≤ 9223372036854775807 := by omega
  by_cases hq : i / 16 < ds.length
  · obtain ⟨ad, rfl, hblk, hcell⟩ := hd.2.1 (by omega)
    have hcd0 := hcell (i / 16) hq
    have hcd := (World.cell?_alloc_lt w (.cells #[.bool b, .slice (some ad) ds.length c] 31) (ad.add (i / 16)) (by rw [block_of_add]; exact hblk)).trans hcd0
    have hlim := dig_lt hd.2.2.1 (i / 16)
    clear hcell hcd0
    obtain ⟨d, hdd⟩ : ∃ d, ds.getD (i / 16) 0 = d := ⟨_, rfl⟩
    have hbit := bit_digit (r := i % 16) hq hd.2.2.1 (Nat.mod_lt _ (by decide)) hdd
    rw [hd.2.2.2.2, Nat.div_add_mod] at hbit
    rw [hdd] at hcd hlim
    have hlt : (i : Int) / 16 < (ds.length : Int) := by omega
    have hidx : ((i : Int) / 16).toNat = i / 16 := by omega
    have hq0 : (0 : Int) ≤ (i : Int) / 16 := by omega
    have H := Lib.hid (And.intro hbit (And.intro hbel hlim))
    clear hdd hbit hlim hbel hd hs hz
    go_enter Try.func105, Try.ntmps105
    go_wp2
    go_loop [5, 6] (fun tv kv => ∃ k : Nat, k ≤ i % 16 ∧ tv = .int .i64 ((d / 2 ^ k : Nat) : Int) ∧ kv = .int .i64 k) (fun _ kv => i % 16 - (intOf kv).toNat)
    case atStart => exact ⟨0, Nat.zero_le _, by simp, rfl⟩
    case round =>
      obtain ⟨k, hk, rfl, rfl⟩ := hrel
      have htd : d / 2 ^ k < BD := Nat.lt_of_le_of_lt (Nat.div_le_self _ _) H.out.2.2
      have hnext : d / 2 ^ (k + 1) = d / 2 ^ k / 2 := by rw [Nat.pow_succ, Nat.div_div_eq_div_mul]
      by_cases hkk : k < i % 16
      · obtain ⟨t, ht⟩ : ∃ t, d / 2 ^ k = t := ⟨_, rfl⟩
        rw [ht] at htd hnext ⊢
        have t0 : (0 : Int) ≤ (t : Int) := Int.natCast_nonneg t
        have t1 : (t : Int) ≤ 65535 := by unfold BD at htd; omega
        have HN := Lib.hid hnext
        have hk2 : (k : Int) < (i : Int) % 16 := by omega
        clear ht htd hnext
        go_wp2
        go_round
        case rel => exact ⟨k + 1, by omega, congrArg (Value.int IntKind.i64) (by rw [HN.out]; omega), by go_num⟩
        case measure => simp [intOf]; omega
      · obtain rfl : k = i % 16 := by omega
        obtain ⟨t, ht⟩ : ∃ t, d / 2 ^ (i % 16) = t := ⟨_, rfl⟩
        have hb := H.out.1
        rw [ht] at htd hb ⊢
        have t0 : (0 : Int) ≤ (t : Int) := Int.natCast_nonneg t
        have t1 : (t : Int) ≤ 65535 := by unfold BD at htd; omega
        have hge : ¬ (((i % 16 : Nat) : Int) < (i : Int) % 16) := by omega
        clear ht htd hnext
        by_cases h1 : t % 2 = 1
        · have HT := Lib.hid (show bitB z.natAbs i = true from decide_eq_true (hb.trans h1))
          have hbt : ((t : Int) % 2 == 1) = true := by rw [beq_iff_eq]; omega
          clear h1 hb
          go_wp2
          go_ret
          exact ⟨by rw [HT.out]; rfl, H.out.2.1⟩
        · have HT := Lib.hid (show bitB z.natAbs i = false from decide_eq_false (fun e => h1 (hb.symm.trans e)))
          have hbt : ((t : Int) % 2 == 1) = false := by rw [beq_eq_false_iff_ne]; omega
          clear h1 hb
          go_wp2
          go_ret
          exact ⟨by rw [HT.out]; rfl, H.out.2.1⟩
  · have hle : (ds.length : Int) ≤ (i : Int) / 16 := by omega
    have hfar : bitB z.natAbs i = false := by
      refine bit_far ?_
      have := Lm.val_lt hd.2.2.1
      rw [hd.2.2.2.2, BD_two] at this
      exact Nat.lt_of_lt_of_le this (Nat.pow_le_pow_right (by decide) (by omega))
    have H := Lib.hid (And.intro hfar hbel)
    clear hfar hbel hd hs hz hq
    go_enter Try.func105, Try.ntmps105
    go_wp2
    go_ret
    exact ⟨by rw [H.out.1]; rfl, H.out.2⟩
set_option maxRecDepth 100000 in
set_option maxHeartbeats 1000000 in
theorem RBit_below (v : Value) (z i : Int) (w : World) (h : RefAt w v z) (hi : i < 0) : Calls Try.prog 54 #[v, .int .i64 i] w fun e w' => IsBool w w' false e := by
  obtain ⟨b, A, c, ds, rfl, hs, hd⟩ := h
  have hbel : Below w.heap.size w (w.alloc (.cells #[.bool b, .slice A ds.length c] 31)) := (Below.refl _ _).alloc (Nat.le_refl _) _
  have H := Lib.hid hbel
  clear hbel hd hs
  go_enter Try.func54, Try.ntmps54
  go_wp2
  go_ret
  exact ⟨rfl, H.out⟩

set_option maxRecDepth 100000 in
set_option maxHeartbeats 1000000 in
theorem rbit_pos (A : Option Addr) (c : Nat) (ds : List Nat) (z : Int) (i m : Nat) (w : World) (hs : SignOf false z) (hd : Digs w A c ds z.natAbs) (hm : m ≤ 900000) (hz : z.natAbs < BD ^ m) (hi : i < 9223372036854775808) :
    Calls Try.prog 54 #[.agg #[.bool false, .slice A ds.length c], .int .i64 i] w fun e w' => IsBool w w' (bitZ z i) e := by
  have i0 : (0 : Int) ≤ (i : Int) := Int.natCast_nonneg i
  have i1 : (i : Int) ≤ 9223372036854775807 := by omega
  have hbel : Below w.heap.size w (w.alloc (.cells #[.bool false, .slice A ds.length c] 31)) := (Below.refl _ _).alloc (Nat.le_refl _) _
  have hat : RefAt (w.alloc (.cells #[.bool false, .slice A ds.length c] 31)) (.agg #[.bool false, .slice A ds.length c]) z := ⟨false, A, c, ds, rfl, hs, hd.below hbel⟩
  have hset := Rset_all _ z i m _ hat (by omega) hz hi
  have hb : bitB z.natAbs i = bitZ z i := by
    have h0 := sign_of_pos hs
    unfold bitZ
    rw [mag_pos h0, decide_eq_false (by omega)]
    simp
  rw [hb] at hset
  have H := Lib.hid (And.intro hbel hset)
  clear hbel hat hset hb hd hs hz
  go_enter Try.func54, Try.ntmps54
  go_wp2_with fail
  refine H.out.2.mono ?_
  rintro e w1 ⟨rfl, hb1⟩
  go_wp2
  go_ret
  exact ⟨rfl, below_then H.out.1 hb1⟩

set_option maxRecDepth 100000 in
set_option maxHeartbeats 1000000 in
theorem rbit_neg (A : Option Addr) (c : Nat) (ds : List Nat) (z : Int) (i m : Nat) (w : World) (hs : SignOf true z) (hd : Digs w A c ds z.natAbs) (hm : m ≤ 900000) (hm0 : 0 < m) (hz : z.natAbs < BD ^ m) (hi : i < 9223372036854775808) :
    Calls Try.prog 54 #[.agg #[.bool true, .slice A ds.length c], .int .i64 i] w fun e w' => IsBool w w' (bitZ z i) e := by
  have i0 : (0 : Int) ≤ (i : Int) := Int.natCast_nonneg i
  have i1 : (i : Int) ≤ 9223372036854775807 := by omega
  have hneg := sign_of_neg hs
  have hbel : Below w.heap.size w (w.alloc (.cells #[.bool true, .slice A ds.length c] 31)) := (Below.refl _ _).alloc (Nat.le_refl _) _
  have hat : RefAt (w.alloc (.cells #[.bool true, .slice A ds.length c] 31)) (.agg #[.bool true, .slice A ds.length c]) z := ⟨true, A, c, ds, rfl, hs, hd.below hbel⟩
  have hx0 := Two.new w (.bool true) (.slice A ds.length c) 31
  have h1 : (-1 : Int).natAbs < BD ^ m := Nat.lt_of_lt_of_le (show 1 < BD ^ 1 by decide) (Nat.pow_le_pow_right BD_pos hm0)
  have hmag := mag_opp z hneg
  have hb : (!bitB (-1 - z).natAbs i) = bitZ z i := by
    unfold bitZ
    rw [hmag, decide_eq_true hneg]
    simp
  have H := Lib.hid (And.intro hbel (And.intro hat (And.intro hx0 (And.intro h1 (And.intro hb (And.intro hz (show (-1 - z).natAbs < BD ^ m from by rw [hmag]; exact mag_fit hz)))))))
  clear hbel hat hx0 h1 hmag hb hd hs hz hneg
  go_enter Try.func54, Try.ntmps54
  go_wp2_with fail
  go_region_held3 (fun w' => w'.cell? ⟨w.heap.size, 0, none⟩ = some (.bool true) ∧ w'.cell? ⟨w.heap.size, 1, none⟩ = some (.slice A ds.length c))
    (((try dsimp only); (repeat' apply And.intro) <;> (first | (with_reducible assumption) | go_keep)))
    ((first | (go_at_call 18; refine (RNew_all (-1) _ (by decide) (by decide)).mono ?_; rintro e w1 ⟨v1, rfl, hi1, hb1⟩; have k1 := H.out.2.2.1.step hb1 rfl (by simp); have hiz := H.out.2.1.step hb1 rfl; obtain ⟨px0, px1⟩ := id k1; have hs1 : w.heap.size + 1 ≤ w1.heap.size := (by have := hb1.size; simp at this; omega)) | (go_at_call 41; refine (RSub_any v1 _ (-1) z m w1 hi1 hiz hm H.out.2.2.2.1 H.out.2.2.2.2.2.1).mono ?_; rintro e w2 ⟨v2, rfl, hi2, hb2⟩; have k2 := k1.step hb2 rfl (by omega); obtain ⟨qx0, qx1⟩ := id k2) | (go_at_call 105; refine (Rset_all v2 (-1 - z) i m w2 hi2 (by omega) H.out.2.2.2.2.2.2 hi).mono ?_; rintro e w3 ⟨rfl, hb3⟩; have k3 := k2.step hb3 rfl (by have := hb2.size; omega); obtain ⟨rx0, rx1⟩ := id k3)))
  go_wp2
  go_ret
  exact ⟨by rw [← H.out.2.2.2.2.1]; rfl, below_then (below_then (begun_then H.out.1 hb1 rfl rfl rfl rfl) hb2) hb3⟩
theorem RBit_any (v : Value) (z : Int) (i m : Nat) (w : World) (h : RefAt w v z) (hm : m ≤ 900000) (hm0 : 0 < m) (hz : z.natAbs < BD ^ m) (hi : i < 9223372036854775808) :
    Calls Try.prog 54 #[v, .int .i64 i] w fun e w' => IsBool w w' (bitZ z i) e := by
  obtain ⟨b, A, c, ds, rfl, hs, hd⟩ := h
  cases b
  · exact rbit_pos A c ds z i m w hs hd hm hz hi
  · exact rbit_neg A c ds z i m w hs hd hm hm0 hz hi

theorem rbits_all (v : Value) (z : Int) (n m : Nat) (w : World) (h : RefAt w v z) (hm0 : 0 < m) (hm : m ≤ 900000) (hz : z.natAbs < BD ^ m) (hn : n ≤ 20000000) :
    Calls Try.prog 81 #[v, .int .i64 (n : Int)] w fun e w' => IsBits w w' (bitZ z) n e := RBits_any v z n m w h hm0 hm hz hn
theorem BoolsAt.step {W0 W w1 : World} {A : Option Addr} {f : Nat → Bool} {n : Nat} (t : BoolsAt W0 A f n) (hb : Below W.heap.size W w1) (hh : W.heap = W0.heap) : BoolsAt w1 A f n := fun hn => by
  obtain ⟨ad, ea, hlt, hc⟩ := t hn
  have e : ∀ p, W.cell? p = W0.cell? p := fun p => by simp [World.cell?, hh]
  have hl : ad.block < W.heap.size := by rw [hh]; exact hlt
  exact ⟨ad, ea, Nat.lt_of_lt_of_le hl hb.size, fun j hj => ((hb.cell (by rw [block_of_add]; exact hl)).trans (e _)).trans (hc j hj)⟩
/-- Both rows of bits. -/
structure XY (w : World) (A B : Option Addr) (f g : Nat → Bool) (n : Nat) : Prop where
  fx : BoolsAt w A f n
  fy : BoolsAt w B g n
theorem XY.step {W0 W w1 : World} {A B : Option Addr} {f g : Nat → Bool} {n : Nat} (t : XY W0 A B f g n) (hb : Below W.heap.size W w1) (hh : W.heap = W0.heap) : XY w1 A B f g n := ⟨t.fx.step hb hh, t.fy.step hb hh⟩
theorem XY.alloc {w : World} {A B : Option Addr} {f g : Nat → Bool} {n : Nat} (t : XY w A B f g n) (o : Obj) : XY (w.alloc o) A B f g n := t.step ((Below.refl _ _).alloc (Nat.le_refl _) o) rfl
theorem XY.cells {w : World} {a b : Addr} {f g : Nat → Bool} {n i : Nat} (t : XY w (some a) (some b) f g n) (hi : i < n) : w.cell? (a.add i) = some (.bool (f i)) ∧ w.cell? (b.add i) = some (.bool (g i)) := by
  obtain ⟨a', ea, _, ha⟩ := t.fx (by omega)
  obtain ⟨b', eb, _, hb⟩ := t.fy (by omega)
  injection ea with ea
  injection eb with eb
  subst ea
  subst eb
  exact ⟨ha i hi, hb i hi⟩
def IsRefOk (w w' : World) (z : Int) (e : Ending) : Prop := ∃ v, e = .returned (.tuple #[v, .int .i64 0]) ∧ RefAt w' v z ∧ Below w.heap.size w w'

set_option maxRecDepth 100000 in
set_option maxHeartbeats 4000000 in
theorem rboole_ints (op : Nat) (b1 b2 : Bool) (A1 : Option Addr) (c1 : Nat) (zs1 : List Nat) (A2 : Option Addr) (c2 : Nat) (zs2 : List Nat) (x y : Int) (m : Nat) (w : World) (hop : op < 16) (hs1 : SignOf b1 x) (hs2 : SignOf b2 y)
    (h1 : Digs w A1 c1 zs1 x.natAbs) (h2 : Digs w A2 c2 zs2 y.natAbs) (hm0 : 0 < m) (hm : m ≤ 700000) (hx : x.natAbs < BD ^ m) (hy : y.natAbs < BD ^ m) :
    Calls Try.prog 52 #[.int .i64 op, .agg #[.bool b1, .slice A1 zs1.length c1], .agg #[.bool b2, .slice A2 zs2.length c2]] w fun e w' => IsRefOk w w' (booleZ op x y) e := by
  have hbx : bl (magOf x) ≤ 16 * m := bl_le.mpr (by rw [← BD_two]; exact mag_fit hx)
  have hby : bl (magOf y) ≤ 16 * m := bl_le.mpr (by rw [← BD_two]; exact mag_fit hy)
  have hbb := begun2_below w (.bool b1) (.slice A1 zs1.length c1) (.bool b2) (.slice A2 zs2.length c2) 31
  have hx0 := begun2_x w (.bool b1) (.slice A1 zs1.length c1) (.bool b2) (.slice A2 zs2.length c2) 31
  have hy0 := begun2_y w (.bool b1) (.slice A1 zs1.length c1) (.bool b2) (.slice A2 zs2.length c2) 31
  have hr0 := begun2_r w (.bool b1) (.slice A1 zs1.length c1) (.bool b2) (.slice A2 zs2.length c2) 31
  have hsz := begun2_size w (.bool b1) (.slice A1 zs1.length c1) (.bool b2) (.slice A2 zs2.length c2) 31
  have hi1 : RefAt (begun2 w (.bool b1) (.slice A1 zs1.length c1) (.bool b2) (.slice A2 zs2.length c2) 31) (.agg #[.bool b1, .slice A1 zs1.length c1]) x := ⟨b1, A1, c1, zs1, rfl, hs1, h1.below hbb⟩
  have hi2 : RefAt (begun2 w (.bool b1) (.slice A1 zs1.length c1) (.bool b2) (.slice A2 zs2.length c2) 31) (.agg #[.bool b2, .slice A2 zs2.length c2]) y := ⟨b2, A2, c2, zs2, rfl, hs2, h2.below hbb⟩
  have H := Lib.hid (And.intro hbb (And.intro hx0 (And.intro hy0 (And.intro hr0 hsz))))
  have HI := Lib.hid (And.intro hi1 (And.intro hi2 (And.intro hbx (And.intro hby (And.intro hx (And.intro hy (And.intro h1 h2)))))))
  clear hbb hx0 hy0 hr0 hsz hi1 hi2 hbx hby hx hy h1 h2
  go_enter Try.func52, Try.ntmps52
  go_wp2_with fail
  have tok1 : True := trivial
  go_region_held3 (fun w' => w'.cell? ⟨w.heap.size, 0, none⟩ = some (.bool b1) ∧ w'.cell? ⟨w.heap.size, 1, none⟩ = some (.slice A1 zs1.length c1) ∧ w'.cell? ⟨w.heap.size + 1, 0, none⟩ = some (.bool b2) ∧ w'.cell? ⟨w.heap.size + 1, 1, none⟩ = some (.slice A2 zs2.length c2))
    (((try dsimp only); (repeat' apply And.intro) <;> (first | (with_reducible assumption) | go_keep)))
    ((first | (go_at_call 27; have _t := tok1; refine (RLength_any _ x m _ (by exact HI.out.1) hm0 (by omega) HI.out.2.2.2.2.1).mono ?_; rintro e w1 ⟨rfl, hb1⟩; clear tok1; have k1x := H.out.2.1.step hb1 rfl (by rw [H.out.2.2.2.2]; omega); have k1y := H.out.2.2.1.step hb1 rfl (by rw [H.out.2.2.2.2]; omega); have k1r := H.out.2.2.2.1.step hb1 rfl (by rw [H.out.2.2.2.2]; omega); have j1 : w.heap.size + 3 ≤ w1.heap.size := Nat.le_trans (Nat.le_of_eq H.out.2.2.2.2.symm) hb1.size; have i1y := HI.out.2.1.step hb1 rfl; obtain ⟨px0, px1⟩ := id k1x; obtain ⟨py0, py1⟩ := id k1y) | (go_at_call 27; refine (RLength_any _ y m _ (by exact i1y) hm0 (by omega) HI.out.2.2.2.2.2.1).mono ?_; rintro e w2 ⟨rfl, hb2⟩; have k2x := k1x.step hb2 rfl (by omega); have k2y := k1y.step hb2 rfl (by omega); have k2r := k1r.step hb2 rfl (by omega); have j2 : w.heap.size + 3 ≤ w2.heap.size := Nat.le_trans j1 hb2.size; obtain ⟨qx0, qx1⟩ := id k2x; obtain ⟨qy0, qy1⟩ := id k2y)))
  obtain ⟨n, hn⟩ : ∃ n : Nat, n = if bl (magOf x) < bl (magOf y) then bl (magOf y) else bl (magOf x) := ⟨_, rfl⟩
  have hmax : (if bl (magOf x) < bl (magOf y) then ((bl (magOf y) : Nat) : Int) else ((bl (magOf x) : Nat) : Int)) = (n : Int) := by rw [hn]; split <;> rfl
  rw [hmax]
  have hnx : bl (magOf x) ≤ n := by rw [hn]; split <;> omega
  have hny : bl (magOf y) ≤ n := by rw [hn]; split <;> omega
  have hnm : n ≤ 16 * m := by have := HI.out.2.2.1; have := HI.out.2.2.2.1; rw [hn]; split <;> omega
  have hnl : n ≤ 12000000 := by omega
  have i2x := (HI.out.1.step hb1 rfl).step hb2 rfl
  have i2y := i1y.step hb2 rfl
  have bl2 := begun_then (begun_then H.out.1 hb1 rfl rfl rfl rfl) hb2 rfl rfl rfl rfl
  have HN := Lib.hid (And.intro hnx (And.intro hny bl2))
  clear hn hmax hnx hny bl2 hb1 hb2 px0 px1 py0 py1 qx0 qx1 qy0 qy1 k1x k1y k1r i1y
  obtain ⟨rx0, rx1⟩ := id k2x
  obtain ⟨ry0, ry1⟩ := id k2y
  have tok2 : True := trivial
  go_wp2_with fail
  go_region_held3 (fun w' => w'.cell? ⟨w.heap.size, 0, none⟩ = some (.bool b1) ∧ w'.cell? ⟨w.heap.size, 1, none⟩ = some (.slice A1 zs1.length c1) ∧ w'.cell? ⟨w.heap.size + 1, 0, none⟩ = some (.bool b2) ∧ w'.cell? ⟨w.heap.size + 1, 1, none⟩ = some (.slice A2 zs2.length c2))
    (((try dsimp only); (repeat' apply And.intro) <;> (first | (with_reducible assumption) | go_keep)))
    ((first | (go_at_call 81; have _t := tok2; refine (rbits_all _ x n m _ (by exact i2x) hm0 (by omega) HI.out.2.2.2.2.1 (by omega)).mono ?_; rintro e w3 ⟨A3, c3, rfl, hbx3, hb3⟩; clear tok2; have k3x := k2x.step hb3 rfl (by omega); have k3y := k2y.step hb3 rfl (by omega); have k3r := k2r.step hb3 rfl (by omega); have j3 : w.heap.size + 3 ≤ w3.heap.size := Nat.le_trans j2 hb3.size; have i3y := i2y.step hb3 rfl; obtain ⟨px0, px1⟩ := id k3x; obtain ⟨py0, py1⟩ := id k3y) | (go_at_call 81; refine (rbits_all _ y n m _ (by exact i3y) hm0 (by omega) HI.out.2.2.2.2.2.1 (by omega)).mono ?_; rintro e w4 ⟨A4, c4, rfl, hby4, hb4⟩; have k4x := k3x.step hb4 rfl (by omega); have k4y := k3y.step hb4 rfl (by omega); have k4r := k3r.step hb4 rfl (by omega); have j4 : w.heap.size + 3 ≤ w4.heap.size := Nat.le_trans j3 hb4.size; obtain ⟨qx0, qx1⟩ := id k4x; obtain ⟨qy0, qy1⟩ := id k4y)))
  have hT : XY w4 A3 A4 (bitZ x) (bitZ y) n := ⟨hbx3.step hb4 rfl, hby4⟩
  have bl4 := begun_then (begun_then HN.out.2.2 hb3 rfl rfl rfl rfl) hb4 rfl rfl rfl rfl
  obtain ⟨f, hf⟩ : ∃ f : Nat → Bool, f = fun i => cho op (bitZ x i) (bitZ y i) := ⟨_, rfl⟩
  have HT := Lib.hid (And.intro hT (And.intro bl4 (And.intro k4x (And.intro k4y (And.intro k4r hf)))))
  obtain ⟨i0, hi0, hz0, hz1, hz2⟩ := info_parts Try.info4
  have HJ := Lib.hid (And.intro hi0 (And.intro hz0 (And.intro hz1 hz2)))
  clear hi0 hz0 hz1 hz2 hT bl4 k4x k4y k4r hf k3x k3y k3r k2x k2y k2r px0 px1 py0 py1 qx0 qx1 qy0 qy1 rx0 rx1 ry0 ry1 hb3 hb4 hbx3 hby4 i2x i2y i3y
  go_wp2
  go_loopw [11, 12] (fun ov iv wr => ∃ i : Nat, wr.ownsRow w4.heap.size 4 1 ov i (boolCells f i) ∧ iv = .int .i64 i ∧ i ≤ n ∧ Below w4.heap.size w4 wr) (fun _ iv _ => n - (intOf iv).toNat)
  case atStart => exact ⟨0, World.ownsRow_nil _ _ _ _, rfl, Nat.zero_le _, Below.refl _ _⟩
  case round =>
    obtain ⟨i, hown, rfl, hi, hbel⟩ := hrel
    obtain ⟨A5, c5, rfl, hle⟩ := own_form hown
    have hsz : w4.heap.size ≤ wr.heap.size := hbel.size
    have T := HT.out.1.step hbel rfl
    by_cases hlt : i < n
    · obtain ⟨a3, rfl, _, _⟩ := T.fx (by omega)
      obtain ⟨a4, rfl, _, _⟩ := T.fy (by omega)
      have hfi : f i = cho op (bitZ x i) (bitZ y i) := by rw [HT.out.2.2.2.2.2]
      have HB := Lib.hid (And.intro hbel hfi)
      have C := T.cells hlt
      obtain ⟨cx, cy⟩ := id C
      clear hbel hfi
      go_wp2_with fail
      refine wp_region_held_drew (S := (fun w' => w'.cell? (a3.add i) = some (.bool (bitZ x i)) ∧ w'.cell? (a4.add i) = some (.bool (bitZ y i)))) (by kernel_rfl) (C) (fun hH0 => ?_)
      refine wpAnyH_take (i := 0) (v := ?v1) rfl (by kernel_rfl) (by kernel_rfl) (by kernel_rfl) (fun _ _ _ h => h) (Or.inl ⟨by rfl, ?y1⟩) hH0 ?r1
      case y1 => (intro w0 hS0; (try dsimp only at hS0); go_simp <;> with_reducible rfl)
      change wpAnyH _ _ _ _ _ _ _ (Act.put _ (some 36) _) _
      simp only [Act.put, List.setIfInBounds_toArray, List.set_cons_zero, List.set_cons_succ]
      refine wpAnyH_take (i := 1) (v := ?v2) rfl (by kernel_rfl) (by kernel_rfl) (by kernel_rfl) (fun _ _ _ h => h) (Or.inl ⟨by rfl, ?y2⟩) hH0 ?r2
      case y2 => (intro w0 hS0; (try dsimp only at hS0); go_simp <;> with_reducible rfl)
      change wpAnyH _ _ _ _ _ _ _ (Act.put _ (some 37) _) _
      simp only [Act.put, List.setIfInBounds_toArray, List.set_cons_zero, List.set_cons_succ]
      refine wpAnyH_take (i := 2) (v := ?v3) rfl (by kernel_rfl) (by kernel_rfl) (by kernel_rfl) (fun _ _ _ h => h) (Or.inl ⟨by rfl, ?y3⟩) hH0 ?r3
      case y3 => (intro w0 hS0; (try dsimp only at hS0); go_simp <;> with_reducible rfl)
      change wpAnyH _ _ _ _ _ _ _ (Act.put _ (some 38) _) _
      simp only [Act.put, List.setIfInBounds_toArray, List.set_cons_zero, List.set_cons_succ]
      refine wpAnyH_take (i := 3) (v := ?v4) rfl (by kernel_rfl) (by kernel_rfl) (by kernel_rfl) (fun _ _ _ h => h) (Or.inl ⟨by rfl, ?y4⟩) hH0 ?r4
      case y4 => (intro w0 hS0; (try dsimp only at hS0); go_simp <;> with_reducible rfl)
      change wpAnyH _ _ _ _ _ _ _ (Act.put _ (some 39) _) _
      simp only [Act.put, List.setIfInBounds_toArray, List.set_cons_zero, List.set_cons_succ]
      refine wpAnyH_take (i := 4) (v := ?v5) rfl (by kernel_rfl) (by kernel_rfl) (by kernel_rfl) (fun _ _ _ h => h) (Or.inl ⟨by rfl, ?y5⟩) hH0 ?r5
      case y5 => (intro w0 hS0; (try dsimp only at hS0); go_simp <;> with_reducible rfl)
      change wpAnyH _ _ _ _ _ _ _ (Act.put _ (some 40) _) _
      simp only [Act.put, List.setIfInBounds_toArray, List.set_cons_zero, List.set_cons_succ]
      refine wpAnyH_take (i := 5) (v := ?v6) rfl (by kernel_rfl) (by kernel_rfl) (by kernel_rfl) (fun _ _ _ h => h) (Or.inl ⟨by rfl, ?y6⟩) hH0 ?r6
      case y6 => (intro w0 hS0; (try dsimp only at hS0); go_simp <;> with_reducible rfl)
      change wpAnyH _ _ _ _ _ _ _ (Act.put _ (some 41) _) _
      simp only [Act.put, List.setIfInBounds_toArray, List.set_cons_zero, List.set_cons_succ]
      refine wpAnyH_take (i := 6) (v := ?v7) rfl (by kernel_rfl) (by kernel_rfl) (by kernel_rfl) (fun _ _ _ h => h) (Or.inl ⟨by rfl, ?y7⟩) hH0 ?r7
      case y7 => (intro w0 hS0; (try dsimp only at hS0); go_simp <;> with_reducible rfl)
      change wpAnyH _ _ _ _ _ _ _ (Act.put _ (some 42) _) _
      simp only [Act.put, List.setIfInBounds_toArray, List.set_cons_zero, List.set_cons_succ]
      refine wpAnyH_take (i := 7) (v := ?v8) rfl (by kernel_rfl) (by kernel_rfl) (by kernel_rfl) (fun _ _ _ h => h) (Or.inl ⟨by rfl, ?y8⟩) hH0 ?r8
      case y8 => (intro w0 hS0; (try dsimp only at hS0); go_simp <;> with_reducible rfl)
      change wpAnyH _ _ _ _ _ _ _ (Act.put _ (some 43) _) _
      simp only [Act.put, List.setIfInBounds_toArray, List.set_cons_zero, List.set_cons_succ]
      refine wpAnyH_take (i := 8) (v := ?v9) rfl (by kernel_rfl) (by kernel_rfl) (by kernel_rfl) (fun _ _ _ h => h) (Or.inl ⟨by rfl, ?y9⟩) hH0 ?r9
      case y9 => (intro w0 hS0; (try dsimp only at hS0); go_simp <;> with_reducible rfl)
      change wpAnyH _ _ _ _ _ _ _ (Act.put _ (some 44) _) _
      simp only [Act.put, List.setIfInBounds_toArray, List.set_cons_zero, List.set_cons_succ]
      refine wpAnyH_take (i := 9) (v := ?v10) rfl (by kernel_rfl) (by kernel_rfl) (by kernel_rfl) (fun _ _ _ h => h) (Or.inl ⟨by rfl, ?y10⟩) hH0 ?r10
      case y10 => (intro w0 hS0; (try dsimp only at hS0); go_simp <;> with_reducible rfl)
      change wpAnyH _ _ _ _ _ _ _ (Act.put _ (some 45) _) _
      simp only [Act.put, List.setIfInBounds_toArray, List.set_cons_zero, List.set_cons_succ]
      refine wpAnyH_ready (rs := [10]) (by kernel_rfl) (by simp) ?_
      refine AllReadyH.cons rfl (fun K hK0 => ?_) AllReadyH.nil
      have hK := hK0.out
      clear hK0
      rw [if_pos (by rfl)]
      go_simp
      refine (chosen_any op (bitZ x i) (bitZ y i) _ hop).mono ?_
      rintro e w5 ⟨rfl, rfl⟩
      have hbr : Below wr.heap.size wr wr.drew := ⟨rfl, rfl, rfl, Nat.le_refl _, fun _ _ => rfl⟩
      have T1 := T.step hbr rfl
      have hown1 := own_below hown hbr
      (try dsimp only)
      refine hK _ _ (T1.cells hlt) (fun hH1 => ?_)
      clear hK K hH0
      (try simp only [Act.put, List.setIfInBounds_toArray, List.set_cons_zero, List.set_cons_succ])
      refine wpAnyH_ready (rs := [11]) (by kernel_rfl) (by simp) ?_
      refine AllReadyH.cons rfl (fun K hK0 => ?_) AllReadyH.nil
      have hK := hK0.out
      clear hK0
      rw [if_pos (by rfl)]
      go_simp
      (try dsimp only)
      refine hK _ _ ((T1.alloc _).cells hlt) (fun hH2 => ?_)
      clear hK K hH1
      (try simp only [Act.put, List.setIfInBounds_toArray, List.set_cons_zero, List.set_cons_succ])
      refine wpAnyH_ready (rs := [12]) (by kernel_rfl) (by simp) ?_
      refine AllReadyH.cons rfl (fun K hK0 => ?_) AllReadyH.nil
      have hK := hK0.out
      clear hK0
      rw [if_pos (by rfl)]
      refine wp_append_own _ (.tmp 36) (.tmp 47) 104 ?eho w4.heap.size 4 i0 (.bool false) 1 1 Try.underlying104 HJ.out.1 HJ.out.2.1 HJ.out.2.2.1 HJ.out.2.2.2 rfl (by decide) (.slice A5 i c5) i (boolCells f i) ?ehs (hown1.alloc _) ⟨wr.heap.size, 0, none⟩ 1 1 [.bool (cho op (bitZ x i) (bitZ y i))] ?ehx rfl (cell_one_new _ _ _) (by simp [Value.oneCell']) (by unfold maxLen; omega) (by omega) (by simp; omega) ?ego
      case eho => rfl
      case ehs => rfl
      case ehx => rfl
      intro v3 w3 hown3 hg3 _
      have hb3 : Below w4.heap.size w4 w3 := (((HB.out.1.trans (hbr.mono hsz)).alloc hsz _).grown hg3 (by simp; omega) (fun k hk => (hown1.lt k hk).1))
      have T3 := HT.out.1.step hb3 rfl
      (try dsimp only)
      refine hK _ _ (T3.cells hlt) (fun hH3 => ?_)
      clear hK K hH2
      (try simp only [Act.put, List.setIfInBounds_toArray, List.set_cons_zero, List.set_cons_succ])
      refine wpAnyH_take (i := 13) (v := ?v11) rfl (by kernel_rfl) (by kernel_rfl) (by kernel_rfl) (fun _ _ _ h => h) (Or.inl ⟨by rfl, ?y11⟩) hH3 ?r11
      case y11 => (intro w0 hS0; (try dsimp only at hS0); go_simp <;> with_reducible rfl)
      change wpAnyH _ _ _ _ _ _ _ (Act.put _ (some 11) _) _
      simp only [Act.put, List.setIfInBounds_toArray, List.set_cons_zero, List.set_cons_succ]
      refine wpAnyH_done (by kernel_rfl) ?_ _
      go_wp2
      go_roundw
      case rel => exact ⟨i + 1, by rw [boolCells_succ, HB.out.2]; exact hown3, by go_num, by omega, hb3⟩
      case measure => simp [intOf]; omega
    · obtain rfl : i = n := by omega
      have kx := HT.out.2.2.1.step hbel rfl (by omega)
      have ky := HT.out.2.2.2.1.step hbel rfl (by omega)
      have kr := HT.out.2.2.2.2.1.step hbel rfl (by omega)
      obtain ⟨sx0, sx1⟩ := id kx
      obtain ⟨sy0, sy1⟩ := id ky
      have hof := ROf_any A5 c5 i f (cho op b1 b2) wr (bools_of_own hown) hnl
      have hval : ofBits f i (cho op b1 b2) = booleZ op x y := by
        rw [HT.out.2.2.2.2.2, show b1 = decide (x < 0) from hs1, show b2 = decide (y < 0) from hs2]
        exact boole_any op x y i (by have := HN.out.1; have := HN.out.2.1; omega)
      rw [hval] at hof
      have HE := Lib.hid (And.intro hof (below_then HT.out.2.1 hbel))
      clear hof hval hbel hown T
      go_wp2_with fail
      refine (chosen_any op b1 b2 _ hop).mono ?_
      rintro e w5 ⟨rfl, rfl⟩
      go_wp2_with fail
      refine HE.out.1.mono ?_
      rintro e w6 ⟨v6, rfl, ⟨b6, A6, c6, ds6, rfl, hsg6, hd6⟩, hb6⟩
      have k6 := kr.step hb6 rfl (by omega)
      obtain ⟨⟨hr0, hr1⟩, hf0, hf1⟩ := id k6
      go_wp2
      have hst := ref_stored k6 hsg6 hd6 (below_then HE.out.2 hb6) (by omega)
      obtain ⟨v7, he7, hi7, hb7⟩ := hst
      injection he7 with he7
      subst he7
      have q := k6.1.stored (.bool b6) (.slice A6 ds6.length c6)
      obtain ⟨q0, q1⟩ := id q
      refine bodyPost_ret (v := .tuple #[.agg #[.bool b6, .slice A6 ds6.length c6], .int .i64 0]) (by simp [results, Try.results52, go_sem, q0, q1]) rfl ?_
      exact ⟨_, rfl, hi7, hb7⟩

def IsIntE (w w' : World) (z k : Int) (e : Ending) : Prop := ∃ v, e = .returned (.tuple #[v, .int .i64 k]) ∧ IntAt w' v z ∧ Below w.heap.size w w'
def IsRefE (w w' : World) (z k : Int) (e : Ending) : Prop := ∃ v, e = .returned (.tuple #[v, .int .i64 k]) ∧ RefAt w' v z ∧ Below w.heap.size w w'
theorem bits_size (f : Nat → Bool) (n : Nat) (s : Bool) : (ofBits f n s).natAbs ≤ 2 ^ n := by
  cases s
  · rw [bits_pos_of]
    have := sum_lt f n
    omega
  · rw [bits_neg_of]
    have := sum_lt (fun i => !f i) n
    omega
theorem boole_sizeB (op : Nat) (x y : Int) (m : Nat) (hx : x.natAbs < B32 ^ m) (hy : y.natAbs < B32 ^ m) : (booleZ op x y).natAbs < B32 ^ (m + 1) := by
  have bx : bl (magOf x) ≤ 32 * m := bl_le.mpr (by rw [← pow32]; exact Nat.lt_of_le_of_lt (mag_le x) hx)
  have by_ : bl (magOf y) ≤ 32 * m := bl_le.mpr (by rw [← pow32]; exact Nat.lt_of_le_of_lt (mag_le y) hy)
  rw [← boole_any op x y (32 * m) (by omega)]
  refine Nat.lt_of_le_of_lt (bits_size _ _ _) ?_
  rw [pow32]
  exact Nat.pow_lt_pow_right (by decide) (by omega)

set_option maxRecDepth 100000 in
set_option maxHeartbeats 1000000 in
theorem boole_out (op : Int) (v1 v2 : Value) (x y : Int) (w : World) (hop : ¬ (0 ≤ op ∧ op ≤ 15)) (h1 : IntAt w v1 x) (h2 : IntAt w v2 y) :
    Calls Try.prog 51 #[v1, .int .i64 op, v2] w fun e w' => IsIntE w w' 0 1 e := by
  obtain ⟨b1, A1, c1, zs1, rfl, hs1, hl1⟩ := h1
  obtain ⟨b2, A2, c2, zs2, rfl, hs2, hl2⟩ := h2
  clear hs1 hs2 hl1 hl2
  have hbb := begun2_below w (.bool b1) (.slice A1 zs1.length c1) (.bool b2) (.slice A2 zs2.length c2) 28
  have hr0 := begun2_r w (.bool b1) (.slice A1 zs1.length c1) (.bool b2) (.slice A2 zs2.length c2) 28
  have H := Lib.hid (And.intro hbb hr0)
  obtain ⟨⟨hr0, hr1⟩, hf0, hf1⟩ := id hr0
  clear hbb
  by_cases h0 : op < 0
  · clear hop
    go_enter Try.func51, Try.ntmps51
    go_wp2
    obtain ⟨⟨q0, q1⟩, _⟩ := H.out.2
    refine bodyPost_ret (v := .tuple #[.agg #[.bool false, .slice none 0 0], .int .i64 1]) (by simp [results, Try.results51, go_sem, q0, q1]) rfl ?_
    exact ⟨_, rfl, int_zero _, H.out.1⟩
  · have h15 : 15 < op := by omega
    clear hop
    go_enter Try.func51, Try.ntmps51
    go_wp2
    obtain ⟨⟨q0, q1⟩, _⟩ := H.out.2
    refine bodyPost_ret (v := .tuple #[.agg #[.bool false, .slice none 0 0], .int .i64 1]) (by simp [results, Try.results51, go_sem, q0, q1]) rfl ?_
    exact ⟨_, rfl, int_zero _, H.out.1⟩

set_option maxRecDepth 100000 in
set_option maxHeartbeats 1000000 in
theorem rboole_out (op : Int) (v1 v2 : Value) (x y : Int) (w : World) (hop : ¬ (0 ≤ op ∧ op ≤ 15)) (h1 : RefAt w v1 x) (h2 : RefAt w v2 y) :
    Calls Try.prog 52 #[.int .i64 op, v1, v2] w fun e w' => IsRefE w w' 0 1 e := by
  obtain ⟨b1, A1, c1, zs1, rfl, hs1, hl1⟩ := h1
  obtain ⟨b2, A2, c2, zs2, rfl, hs2, hl2⟩ := h2
  clear hs1 hs2 hl1 hl2
  have hbb := begun2_below w (.bool b1) (.slice A1 zs1.length c1) (.bool b2) (.slice A2 zs2.length c2) 31
  have hr0 := begun2_r w (.bool b1) (.slice A1 zs1.length c1) (.bool b2) (.slice A2 zs2.length c2) 31
  have H := Lib.hid (And.intro hbb hr0)
  obtain ⟨⟨hr0, hr1⟩, hf0, hf1⟩ := id hr0
  clear hbb
  by_cases h0 : op < 0
  · clear hop
    go_enter Try.func52, Try.ntmps52
    go_wp2
    obtain ⟨⟨q0, q1⟩, _⟩ := H.out.2
    refine bodyPost_ret (v := .tuple #[.agg #[.bool false, .slice none 0 0], .int .i64 1]) (by simp [results, Try.results52, go_sem, q0, q1]) rfl ?_
    exact ⟨_, rfl, ref_zero _ none 0, H.out.1⟩
  · have h15 : 15 < op := by omega
    clear hop
    go_enter Try.func52, Try.ntmps52
    go_wp2
    obtain ⟨⟨q0, q1⟩, _⟩ := H.out.2
    refine bodyPost_ret (v := .tuple #[.agg #[.bool false, .slice none 0 0], .int .i64 1]) (by simp [results, Try.results52, go_sem, q0, q1]) rfl ?_
    exact ⟨_, rfl, ref_zero _ none 0, H.out.1⟩

/-- What Boole answers: the number, and the error's number. -/
def boAns (op x y : Int) : Int := if 0 ≤ op ∧ op ≤ 15 then booleZ op.toNat x y else 0
def boErr (op : Int) : Int := if 0 ≤ op ∧ op ≤ 15 then 0 else 1
theorem Boole_all (op : Int) (v1 v2 : Value) (x y : Int) (m : Nat) (w : World) (h1 : IntAt w v1 x) (h2 : IntAt w v2 y) (hm : m ≤ 800000) (hx : x.natAbs < B32 ^ m) (hy : y.natAbs < B32 ^ m) :
    Calls Try.prog 51 #[v1, .int .i64 op, v2] w fun e w' => IsIntE w w' (boAns op x y) (boErr op) e := by
  unfold boAns boErr
  by_cases h : 0 ≤ op ∧ op ≤ 15
  · rw [if_pos h, if_pos h]
    obtain ⟨k, rfl⟩ : ∃ k : Nat, op = k := ⟨op.toNat, by omega⟩
    exact Boole_any k v1 v2 x y m w (by omega) h1 h2 hm hx hy
  · rw [if_neg h, if_neg h]
    exact boole_out op v1 v2 x y w h h1 h2
theorem RBoole_all (op : Int) (v1 v2 : Value) (x y : Int) (m : Nat) (w : World) (h1 : RefAt w v1 x) (h2 : RefAt w v2 y) (hm0 : 0 < m) (hm : m ≤ 700000) (hx : x.natAbs < BD ^ m) (hy : y.natAbs < BD ^ m) :
    Calls Try.prog 52 #[.int .i64 op, v1, v2] w fun e w' => IsRefE w w' (boAns op x y) (boErr op) e := by
  unfold boAns boErr
  by_cases h : 0 ≤ op ∧ op ≤ 15
  · rw [if_pos h, if_pos h]
    obtain ⟨k, rfl⟩ : ∃ k : Nat, op = k := ⟨op.toNat, by omega⟩
    obtain ⟨b1, A1, c1, zs1, rfl, hs1, hl1⟩ := h1
    obtain ⟨b2, A2, c2, zs2, rfl, hs2, hl2⟩ := h2
    exact rboole_ints k b1 b2 A1 c1 zs1 A2 c2 zs2 x y m w (by omega) hs1 hs2 hl1 hl2 hm0 hm hx hy
  · rw [if_neg h, if_neg h]
    exact rboole_out op v1 v2 x y w h h1 h2
theorem ans_size (op x y : Int) (m : Nat) (hx : x.natAbs < B32 ^ m) (hy : y.natAbs < B32 ^ m) : (boAns op x y).natAbs < B32 ^ (m + 1) := by
  unfold boAns
  split
  · exact boole_sizeB _ x y m hx hy
  · exact Nat.pow_pos B32_pos
/-- Bit, at any place. -/
def bitAll (z i : Int) : Bool := if i < 0 then false else bitZ z i.toNat
theorem Bit_all (v : Value) (z i : Int) (m : Nat) (w : World) (h : IntAt w v z) (hz : z.natAbs < B32 ^ m) (hm : m ≤ 800000) (hi : i < 9223372036854775808) :
    Calls Try.prog 53 #[v, .int .i64 i] w fun e w' => IsBool w w' (bitAll z i) e := by
  unfold bitAll
  by_cases h0 : i < 0
  · rw [if_pos h0]
    exact Bit_below v z i w h h0
  · rw [if_neg h0]
    obtain ⟨k, rfl⟩ : ∃ k : Nat, i = k := ⟨i.toNat, by omega⟩
    exact Bit_any v z k m w h hz hm (by omega)
theorem RBit_all (v : Value) (z i : Int) (m : Nat) (w : World) (h : RefAt w v z) (hm : m ≤ 900000) (hm0 : 0 < m) (hz : z.natAbs < BD ^ m) (hi : i < 9223372036854775808) :
    Calls Try.prog 54 #[v, .int .i64 i] w fun e w' => IsBool w w' (bitAll z i) e := by
  unfold bitAll
  by_cases h0 : i < 0
  · rw [if_pos h0]
    exact RBit_below v z i w h h0
  · rw [if_neg h0]
    obtain ⟨k, rfl⟩ : ∃ k : Nat, i = k := ⟨i.toNat, by omega⟩
    exact RBit_any v z k m w h hm hm0 hz (by omega)
end Go.Proofs.Ytagocllbfbbneaa
