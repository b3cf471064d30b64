/- apply: the steps carried out on the whole numbers. -/
import Derived.Test.YtagocllbfbbneaaAhead
import Derived.Test.YtagocllbfbbneaaMixed
namespace Go.Proofs.Ytagocllbfbbneaa
open Go.RowKit Gcd
set_option linter.unusedSimpArgs false

theorem five_on {W0 W w1 : World} {h : Nat} {a b c d e : Value} (k : Five W0 h a b c d e) (hb : Below W.heap.size W w1) (hh : W.heap = W0.heap) (hl : h < W0.heap.size) : Five w1 h a b c d e := by
  have e1 : ∀ p, W.cell? p = W0.cell? p := fun p => by simp [World.cell?, hh]
  have e2 : ∀ p, W.frozen? p = W0.frozen? p := fun p => by simp [World.frozen?, hh]
  obtain ⟨k0, k1, k2, k3, k4, k5, k6, k7, k8, k9⟩ := k
  refine five_below (w := W) ⟨(e1 _).trans k0, (e1 _).trans k1, (e1 _).trans k2, (e1 _).trans k3, (e1 _).trans k4, (e2 _).trans k5, (e2 _).trans k6, (e2 _).trans k7, (e2 _).trans k8, (e2 _).trans k9⟩ hb (by rw [hh]; exact hl)
/-- Two rows of limbs are handed back. -/
def IsTwo (w w' : World) (a b : Nat) (e : Ending) : Prop :=
  ∃ A c zs A' c' zs', e = .returned (.tuple #[.slice A zs.length c, .slice A' zs'.length c']) ∧ Limbs w' A c zs a ∧ Limbs w' A' c' zs' b ∧ Below w.heap.size w w'

set_option maxRecDepth 100000 in
set_option maxHeartbeats 4000000 in
theorem apply_odd (a0 b0 a1 b1 : Nat) (A : Option Addr) (c1 a : Nat) (xs : List Nat) (B : Option Addr) (c2 b : Nat) (ys : List Nat) (X Y : Nat) (w : World) (ha : Limbs w A c1 xs a) (hb : Limbs w B c2 ys b) (hl : xs.length ≤ 400000) (hl' : ys.length ≤ 400000) (h0 : 0 < ys.length) (h0' : 0 < xs.length)
    (hg : Gcd.Good a b a0 b0 a1 b1 true X Y) : Calls Try.prog 126 #[stepsV a0 b0 a1 b1 true, .slice A xs.length c1, .slice B ys.length c2] w fun e w' => IsTwo w w' X Y e := by
  unfold stepsV
  obtain ⟨hr, hle, hlB, _, _, s1, s2, s3, s4⟩ := hg
  simp only [if_true] at hr
  obtain ⟨hr1, hr2⟩ := hr
  have e1 : a0 ≤ 4294967295 := by omega
  have e2 : b0 ≤ 4294967295 := by omega
  have e3 : a1 ≤ 4294967295 := by omega
  have e4 : b1 ≤ 4294967295 := by omega
  have hXl : X < B32 ^ ys.length := by
    have := Lm.val_lt hb.2.2.1
    rw [hb.2.2.2.2] at this
    exact Nat.lt_of_le_of_lt hlB this
  have hYl : Y < B32 ^ ys.length := Nat.lt_of_le_of_lt hle hXl
  obtain ⟨W, hW⟩ : ∃ W, W = w.alloc (.cells #[.int .u64 a0, .int .u64 b0, .int .u64 a1, .int .u64 b1, .bool true] 140) := ⟨_, rfl⟩
  have h5 : Five W w.heap.size (.int .u64 a0) (.int .u64 b0) (.int .u64 a1) (.int .u64 b1) (.bool true) := by rw [hW]; exact five_new _ _ _ _ _ _ _
  have hbW : Below w.heap.size w W := by rw [hW]; exact (Below.refl _ _).alloc (Nat.le_refl _) _
  have hWs : w.heap.size < W.heap.size := by rw [hW]; simp
  have hla : Limbs W A c1 xs a := by rw [hW]; exact ⟨ha.1, ha.2.1.alloc _, ha.2.2⟩
  have hlb : Limbs W B c2 ys b := by rw [hW]; exact ⟨hb.1, hb.2.1.alloc _, hb.2.2⟩
  have hx : Nums W .u32 A xs := hla.2.1
  have hy : Nums W .u32 B ys := hlb.2.1
  rw [← ha.2.2.2.2, ← hb.2.2.2.2] at hr1 hr2
  have ox := ha.2.2.1
  have oy := hb.2.2.1
  have H := Lib.hid (And.intro h5 (And.intro hbW (And.intro hWs (And.intro hla (And.intro hlb (And.intro hr1 (And.intro hr2 (And.intro hXl hYl))))))))
  obtain ⟨g0, g1, g2, g3, g4, _⟩ := id h5
  clear h5 hbW hWs hla hlb ha hb hr1 hr2 hXl hYl hlB hle s1 s2 s3 s4
  go_enter Try.func126, Try.ntmps126
  go_wp2_with fail
  rw [← hW]
  clear hW
  go_wp2_with fail
  have tok1 : True := trivial
  go_region_held3 (fun w' => w'.cell? ⟨w.heap.size, 0, none⟩ = some (.int .u64 a0) ∧ w'.cell? ⟨w.heap.size, 1, none⟩ = some (.int .u64 b0) ∧ w'.cell? ⟨w.heap.size, 2, none⟩ = some (.int .u64 a1) ∧ w'.cell? ⟨w.heap.size, 3, none⟩ = some (.int .u64 b1))
    (((try dsimp only); (repeat' apply And.intro) <;> (first | (with_reducible assumption) | go_keep)))
    ((first | (go_at_call 137; have _t := tok1; refine (mixed_any B c2 ys b0 A c1 xs a0 X _ (by exact hy) (by exact hx) oy ox hl' hl e2 e1 h0' H.out.2.2.2.2.2.1 (.inl H.out.2.2.2.2.2.2.2.1)).mono ?_; rintro e w1 ⟨A3, c3, zs3, rfl, hl3, hb1⟩; clear tok1; obtain ⟨p0, p1, p2, p3, p4, _⟩ := five_on H.out.1 hb1 rfl H.out.2.2.1; have hs1 : w.heap.size < w1.heap.size := Nat.lt_of_lt_of_le H.out.2.2.1 hb1.size) | (go_at_call 137; refine (mixed_any A c1 xs a1 B c2 ys b1 Y _ (by exact (H.out.2.2.2.1.step hb1 rfl).2.1) (by exact (H.out.2.2.2.2.1.step hb1 rfl).2.1) ox oy hl hl' e3 e4 h0 H.out.2.2.2.2.2.2.1 (.inr H.out.2.2.2.2.2.2.2.2)).mono ?_; rintro e w2 ⟨A4, c4, zs4, rfl, hl4, hb2⟩; obtain ⟨q0, q1, q2, q3, q4, _⟩ := five_on (five_on H.out.1 hb1 rfl H.out.2.2.1) hb2 rfl hs1)))
  go_wp2
  go_ret2
  exact ⟨A3, c3, zs3, A4, c4, zs4, rfl, hl3.step hb2 rfl, hl4, below_then (below_then H.out.2.1.drew hb1) hb2⟩

set_option maxRecDepth 100000 in
set_option maxHeartbeats 4000000 in
theorem apply_even (a0 b0 a1 b1 : Nat) (A : Option Addr) (c1 a : Nat) (xs : List Nat) (B : Option Addr) (c2 b : Nat) (ys : List Nat) (X Y : Nat) (w : World) (ha : Limbs w A c1 xs a) (hb : Limbs w B c2 ys b) (hl : xs.length ≤ 400000) (hl' : ys.length ≤ 400000) (h0 : 0 < ys.length) (h0' : 0 < xs.length)
    (hg : Gcd.Good a b a0 b0 a1 b1 false X Y) : Calls Try.prog 126 #[stepsV a0 b0 a1 b1 false, .slice A xs.length c1, .slice B ys.length c2] w fun e w' => IsTwo w w' X Y e := by
  unfold stepsV
  obtain ⟨hr, hle, hlB, _, _, s1, s2, s3, s4⟩ := hg
  simp only [Bool.false_eq_true, if_false] at hr
  obtain ⟨hr1, hr2⟩ := hr
  have e1 : a0 ≤ 4294967295 := by omega
  have e2 : b0 ≤ 4294967295 := by omega
  have e3 : a1 ≤ 4294967295 := by omega
  have e4 : b1 ≤ 4294967295 := by omega
  have hXl : X < B32 ^ ys.length := by
    have := Lm.val_lt hb.2.2.1
    rw [hb.2.2.2.2] at this
    exact Nat.lt_of_le_of_lt hlB this
  have hYl : Y < B32 ^ ys.length := Nat.lt_of_le_of_lt hle hXl
  obtain ⟨W, hW⟩ : ∃ W, W = w.alloc (.cells #[.int .u64 a0, .int .u64 b0, .int .u64 a1, .int .u64 b1, .bool false] 140) := ⟨_, rfl⟩
  have h5 : Five W w.heap.size (.int .u64 a0) (.int .u64 b0) (.int .u64 a1) (.int .u64 b1) (.bool false) := by rw [hW]; exact five_new _ _ _ _ _ _ _
  have hbW : Below w.heap.size w W := by rw [hW]; exact (Below.refl _ _).alloc (Nat.le_refl _) _
  have hWs : w.heap.size < W.heap.size := by rw [hW]; simp
  have hla : Limbs W A c1 xs a := by rw [hW]; exact ⟨ha.1, ha.2.1.alloc _, ha.2.2⟩
  have hlb : Limbs W B c2 ys b := by rw [hW]; exact ⟨hb.1, hb.2.1.alloc _, hb.2.2⟩
  have hx : Nums W .u32 A xs := hla.2.1
  have hy : Nums W .u32 B ys := hlb.2.1
  rw [← ha.2.2.2.2, ← hb.2.2.2.2] at hr1 hr2
  have ox := ha.2.2.1
  have oy := hb.2.2.1
  have H := Lib.hid (And.intro h5 (And.intro hbW (And.intro hWs (And.intro hla (And.intro hlb (And.intro hr1 (And.intro hr2 (And.intro hXl hYl))))))))
  obtain ⟨g0, g1, g2, g3, g4, _⟩ := id h5
  clear h5 hbW hWs hla hlb ha hb hr1 hr2 hXl hYl hlB hle s1 s2 s3 s4
  go_enter Try.func126, Try.ntmps126
  go_wp2_with fail
  rw [← hW]
  clear hW
  go_wp2_with fail
  have tok1 : True := trivial
  go_region_held3 (fun w' => w'.cell? ⟨w.heap.size, 0, none⟩ = some (.int .u64 a0) ∧ w'.cell? ⟨w.heap.size, 1, none⟩ = some (.int .u64 b0) ∧ w'.cell? ⟨w.heap.size, 2, none⟩ = some (.int .u64 a1) ∧ w'.cell? ⟨w.heap.size, 3, none⟩ = some (.int .u64 b1))
    (((try dsimp only); (repeat' apply And.intro) <;> (first | (with_reducible assumption) | go_keep)))
    ((first | (go_at_call 137; have _t := tok1; refine (mixed_any A c1 xs a0 B c2 ys b0 X _ (by exact hx) (by exact hy) ox oy hl hl' e1 e2 h0 H.out.2.2.2.2.2.1 (.inr H.out.2.2.2.2.2.2.2.1)).mono ?_; rintro e w1 ⟨A3, c3, zs3, rfl, hl3, hb1⟩; clear tok1; obtain ⟨p0, p1, p2, p3, p4, _⟩ := five_on H.out.1 hb1 rfl H.out.2.2.1; have hs1 : w.heap.size < w1.heap.size := Nat.lt_of_lt_of_le H.out.2.2.1 hb1.size) | (go_at_call 137; refine (mixed_any B c2 ys b1 A c1 xs a1 Y _ (by exact (H.out.2.2.2.2.1.step hb1 rfl).2.1) (by exact (H.out.2.2.2.1.step hb1 rfl).2.1) oy ox hl' hl e4 e3 h0' H.out.2.2.2.2.2.2.1 (.inl H.out.2.2.2.2.2.2.2.2)).mono ?_; rintro e w2 ⟨A4, c4, zs4, rfl, hl4, hb2⟩; obtain ⟨q0, q1, q2, q3, q4, _⟩ := five_on (five_on H.out.1 hb1 rfl H.out.2.2.1) hb2 rfl hs1)))
  go_wp2
  go_ret2
  exact ⟨A3, c3, zs3, A4, c4, zs4, rfl, hl3.step hb2 rfl, hl4, below_then (below_then H.out.2.1.drew hb1) hb2⟩

theorem apply_any (a0 b0 a1 b1 : Nat) (odd : Bool) (A : Option Addr) (c1 a : Nat) (xs : List Nat) (B : Option Addr) (c2 b : Nat) (ys : List Nat) (X Y : Nat) (w : World) (ha : Limbs w A c1 xs a) (hb : Limbs w B c2 ys b) (hl : xs.length ≤ 400000) (hl' : ys.length ≤ 400000) (h0 : 0 < ys.length) (h0' : 0 < xs.length)
    (hg : Gcd.Good a b a0 b0 a1 b1 odd X Y) : Calls Try.prog 126 #[stepsV a0 b0 a1 b1 odd, .slice A xs.length c1, .slice B ys.length c2] w fun e w' => IsTwo w w' X Y e := by
  cases odd
  · exact apply_even a0 b0 a1 b1 A c1 a xs B c2 b ys X Y w ha hb hl hl' h0 h0' hg
  · exact apply_odd a0 b0 a1 b1 A c1 a xs B c2 b ys X Y w ha hb hl hl' h0 h0' hg
end Go.Proofs.Ytagocllbfbbneaa
