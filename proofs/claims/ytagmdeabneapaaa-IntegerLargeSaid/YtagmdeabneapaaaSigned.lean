/- What signed, Make, New, word of package integer do: the program's integers as numbers. -/
import Derived.Test.YtagmdeabneapaaaClone
namespace Go.Proofs.Ytagmdeabneapaaa
open Go.RowKit

/-- The slice value holds the limbs of n, without zeros at the top. -/
def Limbs (w : World) (A : Option Addr) (c : Nat) (zs : List Nat) (n : Nat) : Prop :=
  zs.length ≤ c ∧ Nums w .u32 A zs ∧ Lm.Ok B32 zs ∧ Lm.Top zs ∧ Lm.val B32 zs = n

/-- The flag of an integer. -/
def SignOf (b : Bool) (z : Int) : Prop := b = decide (z < 0)
/-- The value is the program's integer z. -/
def IntAt (w : World) (v : Value) (z : Int) : Prop :=
  ∃ b A c zs, v = .agg #[.bool b, .slice A zs.length c] ∧ SignOf b z ∧ Limbs w A c zs z.natAbs

theorem Limbs.below {w w' : World} {A : Option Addr} {c : Nat} {zs : List Nat} {n : Nat} (h : Limbs w A c zs n) (hb : Below w.heap.size w w') : Limbs w' A c zs n :=
  ⟨h.1, h.2.1.below hb, h.2.2⟩
theorem IntAt.below {w w' : World} {v : Value} {z : Int} (h : IntAt w v z) (hb : Below w.heap.size w w') : IntAt w' v z := by
  obtain ⟨b, A, c, zs, e, hs, hl⟩ := h
  exact ⟨b, A, c, zs, e, hs, hl.below hb⟩

/-- The number that a sign and digits make. -/
def ofSign (b : Bool) (n : Nat) : Int := if b then -(n : Int) else n

theorem top_take {xs : List Nat} {n : Nat} (hn : n ≤ xs.length) (hp : 0 < n → xs.getD (n - 1) 0 ≠ 0) : Lm.Top (xs.take n) := by
  rcases Nat.eq_zero_or_pos n with rfl | h
  · simp [Lm.Top]
  · refine Lm.top_of_last ?_
    rw [List.length_take, Nat.min_eq_left hn, List.getD_eq_getElem?_getD, List.getElem?_take, if_pos (by omega), ← List.getD_eq_getElem?_getD]
    exact hp h

/-- A cut of digits at their last one that is not 0. -/
theorem limbs_take {w : World} {A : Option Addr} {c : Nat} {xs : List Nat} {n : Nat} (h : Nums w .u32 A xs) (ho : Lm.Ok B32 xs) (hc : xs.length ≤ c) (hn : n ≤ xs.length) (hz : ZeroFrom xs n) (hp : 0 < n → xs.getD (n - 1) 0 ≠ 0) :
    Limbs w A c (xs.take n) (Lm.val B32 xs) :=
  ⟨by rw [List.length_take]; omega, h.take n, ho.take n, top_take hn hp, Lm.val_cut n hn hz⟩

theorem int_of {w : World} {A : Option Addr} {c : Nat} {zs : List Nat} {n : Nat} (b : Bool) (h : Limbs w A c zs n) (hn : 0 < n) :
    IntAt w (.agg #[.bool b, .slice A zs.length c]) (ofSign b n) := by
  refine ⟨b, A, c, zs, rfl, ?_, ?_⟩
  · unfold SignOf
    cases b <;> simp [ofSign] <;> omega
  · have e : (ofSign b n).natAbs = n := by cases b <;> simp [ofSign]
    rw [e]
    exact h

theorem int_zero (w : World) : IntAt w (.agg #[.bool false, .slice none 0 0]) 0 := ⟨false, none, 0, [], rfl, by simp [SignOf], by simp, Nums.nil _ _ _, Lm.Ok.nil _, Lm.Top.nil, rfl⟩

def IsInt (w w' : World) (z : Int) (e : Ending) : Prop := ∃ v, e = .returned v ∧ IntAt w' v z ∧ Below w.heap.size w w'

set_option maxHeartbeats 400000 in
theorem signed_any (b : Bool) (A : Option Addr) (c : Nat) (xs : List Nat) (w : World) (h : Nums w .u32 A xs) (ho : Lm.Ok B32 xs) (hl : xs.length ≤ 1000000) (hc : xs.length ≤ c) :
    Calls Try.prog 70 #[.bool b, .slice A xs.length c] w fun e w' => IsInt w w' (ofSign b (Lm.val B32 xs)) e := by
  go_enter Try.func70, Try.ntmps70
  go_wp2_with fail
  refine (trim_any A c xs _ (h.alloc _) hl hc).mono ?_
  rintro e w' ⟨rfl, n, rfl, hn, hz, hp⟩
  have HZ := Lib.hid (And.intro hz hp)
  clear hz hp
  by_cases h0 : 0 < n
  · have hne : ((n : Int) == 0) = false := by simp; omega
    go_wp2
    refine bodyPost_ret (v := .agg #[.bool b, .slice A n c]) (by simp [results, Try.results70, go_sem]) rfl ⟨_, rfl, ?_, (Below.refl _ _).alloc (Nat.le_refl _) _⟩
    have hlim := (limbs_take (h.alloc (.cells #[.bool b, .slice A n c] 28)) ho hc hn HZ.out.1 HZ.out.2)
    have hlen : (xs.take n).length = n := by rw [List.length_take]; omega
    have hpos : 0 < Lm.val B32 xs := by
      rw [← hlim.2.2.2.2]
      exact Lm.val_pos B32_pos (by omega) hlim.2.2.2.1
    have hi := int_of b hlim hpos
    rw [hlen] at hi
    exact hi
  · obtain rfl : n = 0 := by omega
    go_wp2
    refine bodyPost_ret (v := .agg #[.bool false, .slice none 0 0]) (by simp [results, Try.results70, go_sem]) rfl ⟨_, rfl, ?_, (Below.refl _ _).alloc (Nat.le_refl _) _⟩
    have hv : Lm.val B32 xs = 0 := by
      rw [← Lm.val_cut 0 (Nat.zero_le _) HZ.out.1]
      rfl
    have e : ofSign b 0 = 0 := by cases b <;> rfl
    rw [hv, e]
    exact int_zero _

theorem signed_to (b : Bool) (A : Option Addr) (c : Nat) (xs : List Nat) (z : Int) (w : World) (h : Nums w .u32 A xs) (ho : Lm.Ok B32 xs) (hl : xs.length ≤ 1000000) (hc : xs.length ≤ c) (hz : ofSign b (Lm.val B32 xs) = z) :
    Calls Try.prog 70 #[.bool b, .slice A xs.length c] w fun e w' => IsInt w w' z e := by
  subst hz
  exact signed_any b A c xs w h ho hl hc
end Go.Proofs.Ytagmdeabneapaaa
