/- The acts of the program and of the reference have the same answers: for the law IntegerActs. -/
import Derived.Test.YtagocllbfbbneaaGcd
import Derived.Test.YtagocllbfbbneaaRGcd
import Derived.Test.YtagocllbfbbneaaPowerNeg
import Derived.Test.YtagocllbfbbneaaMixKit
namespace Go.Proofs.Ytagocllbfbbneaa.RK
open Go.RowKit
set_option linter.unusedSimpArgs false

structure ActB (x y q r er c n a s m p g : Int) : Prop where
  fq : FitD q 40
  fr : FitD r 40
  pd : ∀ v v2 w, IntAt w v x → IntAt w v2 y → Calls Try.prog 30 #[v, v2] w fun e w' => IsDivE w w' q r er e
  qd : ∀ v v2 w, RefAt w v x → RefAt w v2 y → Calls Try.prog 31 #[v, v2] w fun e w' => IsDivR w w' q r er e
  pc : ∀ v v2 w, IntAt w v x → IntAt w v2 y → Calls Try.prog 32 #[v, v2] w fun e w' => IsNum w w' c e
  qc : ∀ v v2 w, RefAt w v x → RefAt w v2 y → Calls Try.prog 33 #[v, v2] w fun e w' => IsNum w w' c e
  fn : FitD n 40
  pn : ∀ v w, IntAt w v x → Calls Try.prog 34 #[v] w fun e w' => IsInt w w' n e
  qn : ∀ v w, RefAt w v x → Calls Try.prog 35 #[v] w fun e w' => IsRef w w' n e
  fa : FitD a 40
  pa : ∀ v w, IntAt w v x → Calls Try.prog 36 #[v] w fun e w' => IsInt w w' a e
  qa : ∀ v w, RefAt w v x → Calls Try.prog 37 #[v] w fun e w' => IsRef w w' a e
  fs : FitD s 40
  ps : ∀ v v2 w, IntAt w v x → IntAt w v2 y → Calls Try.prog 38 #[v, v2] w fun e w' => IsInt w w' s e
  qs : ∀ v v2 w, RefAt w v x → RefAt w v2 y → Calls Try.prog 39 #[v, v2] w fun e w' => IsRef w w' s e
  fm : FitD m 40
  pm : ∀ v v2 w, IntAt w v x → IntAt w v2 y → Calls Try.prog 40 #[v, v2] w fun e w' => IsInt w w' m e
  qm : ∀ v v2 w, RefAt w v x → RefAt w v2 y → Calls Try.prog 41 #[v, v2] w fun e w' => IsRef w w' m e
  fp : FitD p 40
  pp : ∀ v v2 w, IntAt w v x → IntAt w v2 y → Calls Try.prog 42 #[v, v2] w fun e w' => IsInt w w' p e
  qp : ∀ v v2 w, RefAt w v x → RefAt w v2 y → Calls Try.prog 43 #[v, v2] w fun e w' => IsRef w w' p e
  fg : FitD g 40
  pg : ∀ v v2 w, IntAt w v x → IntAt w v2 y → Calls Try.prog 44 #[v, v2] w fun e w' => IsInt w w' g e
  qg : ∀ v v2 w, RefAt w v x → RefAt w v2 y → Calls Try.prog 45 #[v, v2] w fun e w' => IsRef w w' g e
theorem bd_b32A {a m : Nat} (h : a < B32 ^ m) : a < BD ^ (2 * m) := by
  rw [Nat.pow_mul]
  exact h
theorem fit_sum {u : Int} {a b M : Nat} (h : u.natAbs ≤ a + b) (ha : a < BD ^ M) (hb : b < BD ^ M) : FitD u (M + 1) := by
  unfold FitD
  rw [Nat.pow_succ]
  have : BD ^ M * 2 ≤ BD ^ M * BD := Nat.mul_le_mul_left _ (by decide)
  omega
theorem acts_same (x y : Int) (hx : x.natAbs < B32 ^ 8) (hy : y.natAbs < B32 ^ 8) : ∃ q r er c n a s m p g, Hid (ActB x y q r er c n a s m p g) := by
  have zx : FitD x 16 := bd_b32A hx
  have zy : FitD y 16 := bd_b32A hy
  have fn : FitD (-x) 40 := FitD.up (m := 16) (by unfold FitD; rw [Int.natAbs_neg]; exact zx) (by omega)
  have fa : FitD (x.natAbs : Int) 40 := FitD.up (m := 16) (by unfold FitD; rw [Int.natAbs_natCast]; exact zx) (by omega)
  have fs : FitD (x + y) 40 := FitD.up (m := 17) (fit_sum (Int.natAbs_add_le x y) zx zy) (by omega)
  have fd : FitD (x - y) 40 := FitD.up (m := 17) (fit_sum (Int.natAbs_sub_le x y) zx zy) (by omega)
  have fp : FitD (x * y) 40 := FitD.up (m := 16 + 16) (zx.mul zy) (by omega)
  have fg : FitD ((Int.gcd x y : Nat) : Int) 40 := by
    refine FitD.up (m := 16) ?_ (by omega)
    unfold FitD
    rw [Int.natAbs_natCast]
    rcases Nat.eq_zero_or_pos x.natAbs with e | e
    · unfold Int.gcd; rw [e, Nat.gcd_zero_left]; exact zy
    · exact Nat.lt_of_le_of_lt (Nat.gcd_le_left _ e) zx
  have pc : ∀ v v2 w, IntAt w v x → IntAt w v2 y → Calls Try.prog 32 #[v, v2] w fun e w' => IsNum w w' (cmpZ x y) e := fun v v2 w h h2 => Cmp_any v v2 x y 8 w h h2 (by decide) hx hy
  have qc : ∀ v v2 w, RefAt w v x → RefAt w v2 y → Calls Try.prog 33 #[v, v2] w fun e w' => IsNum w w' (cmpZ x y) e := fun v v2 w h h2 => rcmp_is v v2 x y _ 16 w h h2 (by decide) zx zy rfl
  have pn : ∀ v w, IntAt w v x → Calls Try.prog 34 #[v] w fun e w' => IsInt w w' (-x) e := fun v w h => Neg_any v x 8 w h hx (by decide)
  have qn : ∀ v w, RefAt w v x → Calls Try.prog 35 #[v] w fun e w' => IsRef w w' (-x) e := fun v w h => RNeg_any v x 16 w h zx (by decide)
  have pa : ∀ v w, IntAt w v x → Calls Try.prog 36 #[v] w fun e w' => IsInt w w' (x.natAbs : Int) e := fun v w h => Abs_any v x 8 w h hx (by decide)
  have qa : ∀ v w, RefAt w v x → Calls Try.prog 37 #[v] w fun e w' => IsRef w w' (x.natAbs : Int) e := fun v w h => RAbs_any v x w h
  have ps : ∀ v v2 w, IntAt w v x → IntAt w v2 y → Calls Try.prog 38 #[v, v2] w fun e w' => IsInt w w' (x + y) e := fun v v2 w h h2 => Add_any v v2 x y 8 w h h2 (by decide) hx hy
  have qs : ∀ v v2 w, RefAt w v x → RefAt w v2 y → Calls Try.prog 39 #[v, v2] w fun e w' => IsRef w w' (x + y) e := fun v v2 w h h2 => RAdd_any v v2 x y 16 w h h2 (by decide) zx zy
  have pd : ∀ v v2 w, IntAt w v x → IntAt w v2 y → Calls Try.prog 40 #[v, v2] w fun e w' => IsInt w w' (x - y) e := fun v v2 w h h2 => Sub_any v v2 x y 8 w h h2 (by decide) hx hy
  have qd : ∀ v v2 w, RefAt w v x → RefAt w v2 y → Calls Try.prog 41 #[v, v2] w fun e w' => IsRef w w' (x - y) e := fun v v2 w h h2 => RSub_any v v2 x y 16 w h h2 (by decide) zx zy
  have pp : ∀ v v2 w, IntAt w v x → IntAt w v2 y → Calls Try.prog 42 #[v, v2] w fun e w' => IsInt w w' (x * y) e := fun v v2 w h h2 => Mul_any v v2 x y 8 8 w h h2 (by decide) hx (by decide) hy
  have qp : ∀ v v2 w, RefAt w v x → RefAt w v2 y → Calls Try.prog 43 #[v, v2] w fun e w' => IsRef w w' (x * y) e := fun v v2 w h h2 => rmul_is v v2 x y _ 16 16 w h h2 (by decide) zx (by decide) zy rfl
  have pg : ∀ v v2 w, IntAt w v x → IntAt w v2 y → Calls Try.prog 44 #[v, v2] w fun e w' => IsInt w w' ((Int.gcd x y : Nat) : Int) e := fun v v2 w h h2 => Gcd_any v v2 x y 8 w h h2 (by decide) hx hy
  have qg : ∀ v v2 w, RefAt w v x → RefAt w v2 y → Calls Try.prog 45 #[v, v2] w fun e w' => IsRef w w' ((Int.gcd x y : Nat) : Int) e := fun v v2 w h h2 => RGcd_any v v2 x y 16 w h h2 (by decide) zx zy
  by_cases h0 : y = 0
  · subst h0
    have f0 : FitD 0 40 := by unfold FitD; exact Nat.pow_pos BD_pos
    exact ⟨0, 0, 6, _, _, _, _, _, _, _, Lib.hid ⟨f0, f0, fun v v2 w h h2 => divide_none v v2 x w h h2, fun v v2 w h h2 => rdivide_none v v2 x w h h2, pc, qc, fn, pn, qn, fa, pa, qa, fs, ps, qs, fd, pd, qd, fp, pp, qp, fg, pg, qg⟩⟩
  · have fq : FitD (x.tdiv y) 40 := FitD.up (m := 16) (by unfold FitD; rw [Int.natAbs_tdiv]; exact Nat.lt_of_le_of_lt (Nat.div_le_self _ _) zx) (by omega)
    have fr : FitD (x.tmod y) 40 := FitD.up (m := 16) (by unfold FitD; rw [Int.natAbs_tmod]; exact Nat.lt_of_le_of_lt (Nat.mod_le _ _) zx) (by omega)
    exact ⟨x.tdiv y, x.tmod y, 0, _, _, _, _, _, _, _, Lib.hid ⟨fq, fr, fun v v2 w h h2 => divide_some v v2 x y 8 w h h2 (by decide) hx hy h0, fun v v2 w h h2 => rdivide_some v v2 x y 16 w h h2 (by decide) zx zy h0, pc, qc, fn, pn, qn, fa, pa, qa, fs, ps, qs, fd, pd, qd, fp, pp, qp, fg, pg, qg⟩⟩
end Go.Proofs.Ytagocllbfbbneaa.RK
