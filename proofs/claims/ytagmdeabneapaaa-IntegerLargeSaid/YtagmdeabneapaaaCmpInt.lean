/- What Sign, Cmp of package integer and the law's same do. -/
import Derived.Test.YtagmdeabneapaaaSubInt
namespace Go.Proofs.Ytagmdeabneapaaa
open Go.RowKit

/-- The order of two integers, as Cmp tells it. -/
def cmpZ (x y : Int) : Int := if x < y then -1 else if y < x then 1 else 0
/-- A number is handed back; what was there is as it was. -/
def IsNum (w w' : World) (n : Int) (e : Ending) : Prop := e = .returned (.int .i64 n) ∧ Below w.heap.size w w'
/-- An answer is handed back; what was there is as it was. -/
def IsBool (w w' : World) (b : Bool) (e : Ending) : Prop := e = .returned (.bool b) ∧ Below w.heap.size w w'

theorem cmp_signs1 {x y : Int} (hx : SignOf true x) (hy : SignOf false y) : cmpZ x y = -1 := by
  simp [SignOf] at hx hy
  unfold cmpZ
  rw [if_pos (by omega)]
theorem cmp_signs2 {x y : Int} (hx : SignOf false x) (hy : SignOf true y) : cmpZ x y = 1 := by
  simp [SignOf] at hx hy
  unfold cmpZ
  rw [if_neg (by omega), if_pos (by omega)]
theorem cmp_pos {x y : Int} (hx : SignOf false x) (hy : SignOf false y) : ordOf x.natAbs y.natAbs = cmpZ x y := by
  simp [SignOf] at hx hy
  have e1 : (x.natAbs < y.natAbs) = (x < y) := propext ⟨fun _ => by omega, fun _ => by omega⟩
  have e2 : (y.natAbs < x.natAbs) = (y < x) := propext ⟨fun _ => by omega, fun _ => by omega⟩
  simp only [ordOf, cmpZ, e1, e2]
theorem cmp_neg {x y : Int} (hx : SignOf true x) (hy : SignOf true y) : ordOf y.natAbs x.natAbs = cmpZ x y := by
  simp [SignOf] at hx hy
  have e1 : (x.natAbs < y.natAbs) = (y < x) := propext ⟨fun _ => by omega, fun _ => by omega⟩
  have e2 : (y.natAbs < x.natAbs) = (x < y) := propext ⟨fun _ => by omega, fun _ => by omega⟩
  simp only [ordOf, cmpZ, e1, e2]
theorem sign_of_neg {z : Int} (h : SignOf true z) : z < 0 := by simpa [SignOf] using h
theorem sign_of_pos {z : Int} (h : SignOf false z) : 0 ≤ z := by simpa [SignOf] using h

theorem boxed2_below (w : World) (o o' : Obj) : Below w.heap.size w ((w.alloc o).alloc o') := ((Below.refl _ _).alloc (Nat.le_refl _) _).alloc (by simp) _

set_option maxRecDepth 100000 in
set_option maxHeartbeats 1000000 in
theorem cmp_ints (b1 b2 : Bool) (A1 : Option Addr) (c1 : Nat) (zs1 : List Nat) (A2 : Option Addr) (c2 : Nat) (zs2 : List Nat) (x y : Int) (w : World) (hs1 : SignOf b1 x) (hs2 : SignOf b2 y)
    (h1 : Limbs w A1 c1 zs1 x.natAbs) (h2 : Limbs w A2 c2 zs2 y.natAbs) (hl1 : zs1.length ≤ 900000) (hl2 : zs2.length ≤ 900000) :
    Calls Try.prog 32 #[.agg #[.bool b1, .slice A1 zs1.length c1], .agg #[.bool b2, .slice A2 zs2.length c2]] w fun e w' => IsNum w w' (cmpZ x y) e := by
  cases b1 <;> cases b2
  · have hn1 := h1.2.1.below (boxed2_below w (.cells #[.bool false, .slice A1 zs1.length c1] 28) (.cells #[.bool false, .slice A2 zs2.length c2] 28))
    have hn2 := h2.2.1.below (boxed2_below w (.cells #[.bool false, .slice A1 zs1.length c1] 28) (.cells #[.bool false, .slice A2 zs2.length c2] 28))
    go_enter Try.func32, Try.ntmps32
    go_wp2_with fail
    refine (compare_any A1 c1 zs1 A2 c2 zs2 _ hn1 hn2 h1.2.2.1 h2.2.2.1 h1.2.2.2.1 h2.2.2.2.1 (by omega)).mono ?_
    rintro e w' ⟨hd, rfl⟩
    go_wp2
    go_ret
    exact ⟨by rw [← cmp_pos hs1 hs2, ← h1.2.2.2.2, ← h2.2.2.2.2]; rfl, (boxed2_below _ _ _).trans (hd.below _)⟩
  · go_enter Try.func32, Try.ntmps32
    go_wp2
    go_ret
    exact ⟨by rw [cmp_signs2 hs1 hs2]; rfl, boxed2_below _ _ _⟩
  · go_enter Try.func32, Try.ntmps32
    go_wp2
    go_ret
    exact ⟨by rw [cmp_signs1 hs1 hs2]; rfl, boxed2_below _ _ _⟩
  · have hn1 := h1.2.1.below (boxed2_below w (.cells #[.bool true, .slice A1 zs1.length c1] 28) (.cells #[.bool true, .slice A2 zs2.length c2] 28))
    have hn2 := h2.2.1.below (boxed2_below w (.cells #[.bool true, .slice A1 zs1.length c1] 28) (.cells #[.bool true, .slice A2 zs2.length c2] 28))
    go_enter Try.func32, Try.ntmps32
    go_wp2_with fail
    refine (compare_any A2 c2 zs2 A1 c1 zs1 _ hn2 hn1 h2.2.2.1 h1.2.2.1 h2.2.2.2.1 h1.2.2.2.1 (by omega)).mono ?_
    rintro e w' ⟨hd, rfl⟩
    go_wp2
    go_ret
    exact ⟨by rw [← cmp_neg hs1 hs2, ← h1.2.2.2.2, ← h2.2.2.2.2]; rfl, (boxed2_below _ _ _).trans (hd.below _)⟩

/-- x against y. -/
theorem Cmp_any (v1 v2 : Value) (x y : Int) (m : Nat) (w : World) (h1 : IntAt w v1 x) (h2 : IntAt w v2 y) (hm : m ≤ 900000) (hx : x.natAbs < B32 ^ m) (hy : y.natAbs < B32 ^ m) :
    Calls Try.prog 32 #[v1, v2] w fun e w' => IsNum w w' (cmpZ x y) e := by
  obtain ⟨b1, A1, c1, zs1, rfl, hs1, hl1⟩ := h1
  obtain ⟨b2, A2, c2, zs2, rfl, hs2, hl2⟩ := h2
  exact cmp_ints b1 b2 A1 c1 zs1 A2 c2 zs2 x y w hs1 hs2 hl1 hl2 (Nat.le_trans (hl1.len hx) hm) (Nat.le_trans (hl2.len hy) hm)

theorem sign_zero {w : World} {A : Option Addr} {c : Nat} {zs : List Nat} {z : Int} (h : Limbs w A c zs z.natAbs) (h0 : zs.length = 0) : z.sign = 0 := by
  have hz : zs = [] := List.eq_nil_of_length_eq_zero h0
  subst hz
  have hv : 0 = z.natAbs := h.2.2.2.2
  have hz : z = 0 := by omega
  rw [hz]
  rfl
theorem sign_pos {w : World} {A : Option Addr} {c : Nat} {zs : List Nat} {z : Int} (h : Limbs w A c zs z.natAbs) (h0 : 0 < zs.length) : z ≠ 0 := by
  have := Lm.val_pos B32_pos h0 h.2.2.2.1
  rw [h.2.2.2.2] at this
  omega

set_option maxRecDepth 100000 in
set_option maxHeartbeats 1000000 in
theorem Sign_any (v : Value) (z : Int) (m : Nat) (w : World) (h : IntAt w v z) (hm : m ≤ 900000) (hz : z.natAbs < B32 ^ m) :
    Calls Try.prog 22 #[v] w fun e w' => IsNum w w' z.sign e := by
  obtain ⟨b, A, c, zs, rfl, hs, hl⟩ := h
  have hlen := Nat.le_trans (hl.len hz) hm
  rcases Nat.eq_zero_or_pos zs.length with h0 | h0
  · have H := Lib.hid (sign_zero hl h0)
    rw [h0]
    clear hl h0
    go_enter Try.func22, Try.ntmps22
    go_wp2
    go_ret
    exact ⟨by rw [H.out]; rfl, (Below.refl _ _).alloc (Nat.le_refl _) _⟩
  · have hne := sign_pos hl h0
    have hf : ((zs.length : Int) == 0) = false := by rw [beq_eq_false_iff_ne]; omega
    cases b
    · have hp : z.sign = 1 := Int.sign_eq_one_of_pos (by have := sign_of_pos hs; omega)
      have H := Lib.hid hp
      clear hp hl hne hs
      go_enter Try.func22, Try.ntmps22
      go_wp2
      go_ret
      exact ⟨by rw [H.out]; rfl, (Below.refl _ _).alloc (Nat.le_refl _) _⟩
    · have hp : z.sign = -1 := Int.sign_eq_neg_one_of_neg (sign_of_neg hs)
      have H := Lib.hid hp
      clear hp hl hne hs
      go_enter Try.func22, Try.ntmps22
      go_wp2
      go_ret
      exact ⟨by rw [H.out]; rfl, (Below.refl _ _).alloc (Nat.le_refl _) _⟩

theorem cmp_eq (x y : Int) : (cmpZ x y == 0) = decide (x = y) := by
  unfold cmpZ
  by_cases h : x < y
  · rw [if_pos h]
    simp; omega
  · rw [if_neg h]
    by_cases h' : y < x
    · rw [if_pos h']
      simp; omega
    · rw [if_neg h']
      simp; omega

set_option maxRecDepth 100000 in
set_option maxHeartbeats 1000000 in
theorem same_ints (b1 b2 : Bool) (A1 : Option Addr) (c1 : Nat) (zs1 : List Nat) (A2 : Option Addr) (c2 : Nat) (zs2 : List Nat) (x y : Int) (m : Nat) (w : World)
    (h1 : IntAt w (.agg #[.bool b1, .slice A1 zs1.length c1]) x) (h2 : IntAt w (.agg #[.bool b2, .slice A2 zs2.length c2]) y) (hm : m ≤ 900000) (hx : x.natAbs < B32 ^ m) (hy : y.natAbs < B32 ^ m) :
    Calls Try.prog 65 #[.agg #[.bool b1, .slice A1 zs1.length c1], .agg #[.bool b2, .slice A2 zs2.length c2]] w fun e w' => IsBool w w' (decide (x = y)) e := by
  have hi1 := h1.below (boxed2_below w (.cells #[.bool b1, .slice A1 zs1.length c1] 28) (.cells #[.bool b2, .slice A2 zs2.length c2] 28))
  have hi2 := h2.below (boxed2_below w (.cells #[.bool b1, .slice A1 zs1.length c1] 28) (.cells #[.bool b2, .slice A2 zs2.length c2] 28))
  have hc := Cmp_any _ _ x y m _ hi1 hi2 hm hx hy
  have HC := Lib.hid hc
  clear hc hi1 hi2
  go_enter Try.func65, Try.ntmps65
  go_wp2_with fail
  refine HC.out.mono ?_
  rintro e w' ⟨rfl, hb⟩
  go_wp2
  go_ret
  exact ⟨by rw [← cmp_eq]; rfl, below_then (boxed2_below _ _ _) hb⟩
end Go.Proofs.Ytagmdeabneapaaa
