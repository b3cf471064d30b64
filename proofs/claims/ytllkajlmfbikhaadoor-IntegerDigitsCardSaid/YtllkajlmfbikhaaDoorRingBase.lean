/- The three integers of the law IntegerRing, and the bounds of what is reckoned of them. -/
import Derived.Test.YtllkajlmfbikhaaDoorRing
namespace Go.Proofs.YtllkajlmfbikhaaDoor
open Go.RowKit

/-- x, y, z lie in three variables. -/
structure XYZ (w : World) (r8 r9 r10 : Nat) (X1 X2 Y1 Y2 Z1 Z2 : Value) (x y z : Int) : Prop where
  lx : r8 < w.heap.size
  ly : r9 < w.heap.size
  lz : r10 < w.heap.size
  cx : Two w r8 X1 X2
  cy : Two w r9 Y1 Y2
  cz : Two w r10 Z1 Z2
  ix : IntAt w (.agg #[X1, X2]) x
  iy : IntAt w (.agg #[Y1, Y2]) y
  iz : IntAt w (.agg #[Z1, Z2]) z

theorem XYZ.step {W0 W w1 : World} {r8 r9 r10 : Nat} {X1 X2 Y1 Y2 Z1 Z2 : Value} {x y z : Int} (t : XYZ W0 r8 r9 r10 X1 X2 Y1 Y2 Z1 Z2 x y z) (hb : Below W.heap.size W w1) (hh : W.heap = W0.heap) :
    XYZ w1 r8 r9 r10 X1 X2 Y1 Y2 Z1 Z2 x y z := by
  have hs : W0.heap.size ≤ w1.heap.size := by rw [← hh]; exact hb.size
  exact ⟨Nat.lt_of_lt_of_le t.lx hs, Nat.lt_of_lt_of_le t.ly hs, Nat.lt_of_lt_of_le t.lz hs, t.cx.step hb hh t.lx, t.cy.step hb hh t.ly, t.cz.step hb hh t.lz, t.ix.step hb hh, t.iy.step hb hh, t.iz.step hb hh⟩

theorem XYZ.cells {w : World} {r8 r9 r10 : Nat} {X1 X2 Y1 Y2 Z1 Z2 : Value} {x y z : Int} (t : XYZ w r8 r9 r10 X1 X2 Y1 Y2 Z1 Z2 x y z) :
    w.cell? ⟨r8, 0, none⟩ = some X1 ∧ w.cell? ⟨r8, 1, none⟩ = some X2 ∧ w.cell? ⟨r9, 0, none⟩ = some Y1 ∧ w.cell? ⟨r9, 1, none⟩ = some Y2 ∧ w.cell? ⟨r10, 0, none⟩ = some Z1 ∧ w.cell? ⟨r10, 1, none⟩ = some Z2 :=
  ⟨t.cx.1, t.cx.2, t.cy.1, t.cy.2, t.cz.1, t.cz.2⟩

/-- Of at most m limbs. -/
def Fits (x : Int) (m : Nat) : Prop := x.natAbs < B32 ^ m

theorem fits_zero (m : Nat) : Fits 0 m := Nat.pow_pos B32_pos
theorem Fits.up {x : Int} {m n : Nat} (h : Fits x m) (hmn : m ≤ n) : Fits x n := Nat.lt_of_lt_of_le h (Nat.pow_le_pow_right B32_pos hmn)
theorem Fits.neg {x : Int} {m : Nat} (h : Fits x m) : Fits (-x) m := by unfold Fits; rw [Int.natAbs_neg]; exact h
theorem Fits.add {x y : Int} {m : Nat} (hx : Fits x m) (hy : Fits y m) : Fits (x + y) (m + 1) := by
  unfold Fits at *
  have h1 := Int.natAbs_add_le x y
  have h2 : B32 ^ (m + 1) = B32 ^ m * B32 := Nat.pow_succ _ _
  have h3 : B32 ^ m * 2 ≤ B32 ^ m * B32 := Nat.mul_le_mul_left _ (by decide)
  omega
theorem Fits.sub {x y : Int} {m : Nat} (hx : Fits x m) (hy : Fits y m) : Fits (x - y) (m + 1) := by
  rw [Int.sub_eq_add_neg]
  exact hx.add hy.neg
theorem Fits.mul {x y : Int} {m n : Nat} (hx : Fits x m) (hy : Fits y n) : Fits (x * y) (m + n) := by
  unfold Fits at *
  rw [Int.natAbs_mul, Nat.pow_add]
  exact Nat.mul_lt_mul'' hx hy

theorem same_true (v1 v2 : Value) (x y : Int) (m : Nat) (w : World) (h1 : IntAt w v1 x) (h2 : IntAt w v2 y) (hm : m ≤ 900000) (hx : Fits x m) (hy : Fits y m) (hxy : x = y) :
    Calls Tryd.prog 13 #[v1, v2] w fun e w' => IsBool w w' true e := by
  obtain ⟨b1, A1, c1, zs1, rfl, hs1, hl1⟩ := h1
  obtain ⟨b2, A2, c2, zs2, rfl, hs2, hl2⟩ := h2
  refine (same_ints b1 b2 A1 c1 zs1 A2 c2 zs2 x y m w ⟨b1, A1, c1, zs1, rfl, hs1, hl1⟩ ⟨b2, A2, c2, zs2, rfl, hs2, hl2⟩ hm hx hy).mono fun e w' h => ?_
  rw [decide_eq_true hxy] at h
  exact h
end Go.Proofs.YtllkajlmfbikhaaDoor
