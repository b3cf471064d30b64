/- What compare of package integer does. -/
import Derived.Test.YtagmdeabneapaaaSigned
namespace Go.Proofs.Ytagmdeabneapaaa
open Go.RowKit

/-- The order of two numbers, as compare tells it. -/
def ordOf (a b : Nat) : Int := if a < b then -1 else if b < a then 1 else 0

/-- Nothing but answers have been drawn. -/
def Drew (w w' : World) : Prop := ∃ n, w' = w.drewN n
theorem Drew.refl (w : World) : Drew w w := ⟨0, rfl⟩
theorem Drew.mk (w : World) (n : Nat) : Drew w (w.drewN n) := ⟨n, rfl⟩
theorem Drew.more {w w' : World} (h : Drew w w') (n : Nat) : Drew w (w'.drewN n) := by
  obtain ⟨m, rfl⟩ := h
  exact ⟨m + n, by rw [World.drewN_drewN]⟩
theorem Drew.below {w w' : World} (h : Drew w w') (B : Nat) : Below B w w' := by
  obtain ⟨m, rfl⟩ := h
  exact ⟨rfl, rfl, rfl, Nat.le_refl _, fun _ _ => rfl⟩

def IsOrd (w w' : World) (a b : Nat) (e : Ending) : Prop := Drew w w' ∧ e = .returned (.int .i64 (ordOf a b))

theorem ord_lt {a b : Nat} (h : a < b) : ordOf a b = -1 := by simp [ordOf, h]
theorem ord_gt {a b : Nat} (h : b < a) : ordOf a b = 1 := by simp [ordOf, h]; omega
theorem ord_eq {a b : Nat} (h : a = b) : ordOf a b = 0 := by simp [ordOf, h]

theorem shorter_lt {xs ys : List Nat} (hx : Lm.Ok B32 xs) (ty : Lm.Top ys) (h : xs.length < ys.length) : Lm.val B32 xs < Lm.val B32 ys := by
  have h1 := Lm.val_lt hx
  have h2 := Lm.val_ge (b := B32) (by omega) ty
  have h3 : B32 ^ xs.length ≤ B32 ^ (ys.length - 1) := Nat.pow_le_pow_right B32_pos (by omega)
  omega

/-- Equal from k on. -/
def SameFrom (xs ys : List Nat) (k : Nat) : Prop := xs.drop k = ys.drop k
theorem same_down {xs ys : List Nat} {k d : Nat} (hl : xs.length = ys.length) (h0 : 0 < k) (hk : k ≤ xs.length) (h : SameFrom xs ys k) (hx : xs.getD (k - 1) 0 = d) (hy : ys.getD (k - 1) 0 = d) : SameFrom xs ys (k - 1) := by
  unfold SameFrom at *
  have hkx : k - 1 < xs.length := by omega
  have hky : k - 1 < ys.length := by omega
  rw [List.drop_eq_getElem_cons hkx, List.drop_eq_getElem_cons hky, show k - 1 + 1 = k from by omega, h]
  rw [List.getD_eq_getElem?_getD, List.getElem?_eq_getElem hkx] at hx
  rw [List.getD_eq_getElem?_getD, List.getElem?_eq_getElem hky] at hy
  simp at hx hy
  rw [hx, hy]

/-- Behind j both are equal. -/
def IsFirst (xs ys : List Nat) (j : Nat) : Prop := j < xs.length ∧ j < ys.length ∧ xs.drop (j + 1) = ys.drop (j + 1)

set_option maxHeartbeats 1000000 in
theorem compare_any (A : Option Addr) (c : Nat) (xs : List Nat) (A' : Option Addr) (c' : Nat) (ys : List Nat) (w : World) (hx : Nums w .u32 A xs) (hy : Nums w .u32 A' ys)
    (ox : Lm.Ok B32 xs) (oy : Lm.Ok B32 ys) (tx : Lm.Top xs) (ty : Lm.Top ys) (hl : xs.length ≤ 1000000) :
    Calls Try.prog 84 #[.slice A xs.length c, .slice A' ys.length c'] w fun e w' => IsOrd w w' (Lm.val B32 xs) (Lm.val B32 ys) e := by
  by_cases h1 : xs.length < ys.length
  · have ho := ord_lt (shorter_lt ox ty h1)
    have HO := Lib.hid ho
    clear ho
    go_enter Try.func84, Try.ntmps84
    go_wp2
    go_ret
    exact ⟨.refl _, by rw [HO.out]; rfl⟩
  by_cases h2 : ys.length < xs.length
  · have ho := ord_gt (shorter_lt oy tx h2)
    have HO := Lib.hid ho
    clear ho
    go_enter Try.func84, Try.ntmps84
    go_wp2
    go_ret
    exact ⟨.refl _, by rw [HO.out]; rfl⟩
  have hln : ys.length = xs.length := by omega
  have HL := Lib.hid hln
  rw [hln]
  clear hln h1 h2
  go_enter Try.func84, Try.ntmps84
  go_wp2
  go_loopw [5] (fun iv wr => ∃ k : Nat, iv = .int .i64 ((k : Int) - 1) ∧ k ≤ xs.length ∧ SameFrom xs ys k ∧ ∃ n, wr = w.drewN n) (fun iv _ => (intOf iv + 1).toNat)
  case atStart => exact ⟨xs.length, rfl, Nat.le_refl _, by unfold SameFrom; rw [List.drop_length, ← HL.out, List.drop_length], 0, rfl⟩
  case round =>
    obtain ⟨k, rfl, hk, hs, n, rfl⟩ := hrel
    by_cases h0 : 0 < k
    · obtain ⟨ad, rfl, _, hcx⟩ := hx.at_ (j := k - 1) (by omega)
      obtain ⟨ad', rfl, _, hcy⟩ := hy.at_ (j := k - 1) (by rw [HL.out]; omega)
      have hdx := hcx (k - 1) (by omega)
      have hdy := hcy (k - 1) (by rw [HL.out]; omega)
      clear hcx hcy
      obtain ⟨d, hd⟩ : ∃ d, xs.getD (k - 1) 0 = d := ⟨_, rfl⟩
      obtain ⟨y, hyd⟩ : ∃ y, ys.getD (k - 1) 0 = y := ⟨_, rfl⟩
      rw [hd] at hdx
      rw [hyd] at hdy
      have HD := Lib.hid hd
      have HY := Lib.hid hyd
      clear hd hyd
      obtain ⟨j, hj⟩ : ∃ j, k = j + 1 := ⟨k - 1, by omega⟩
      subst hj
      simp only [Nat.add_sub_cancel] at hdx hdy HD HY
      rw [show (((j + 1 : Nat) : Int) - 1) = (j : Int) from by omega]
      have hord : IsFirst xs ys j := ⟨by omega, by rw [HL.out]; omega, hs⟩
      clear hs
      by_cases hlt : d < y
      · go_wp2
        go_quiet (fail)
        go_wp2
        go_ret
        exact ⟨(Drew.mk _ _).more _, by rw [ord_lt (Lm.val_lt_of_top ox j hord.1 hord.2.1 hord.2.2 (by rw [HD.out, HY.out]; exact hlt))]; rfl⟩
      · by_cases hgt : y < d
        · go_wp2
          go_quiet (fail)
          go_wp2
          go_quiet (fail)
          go_wp2
          go_ret
          exact ⟨((Drew.mk _ _).more _).more _, by rw [ord_gt (Lm.val_lt_of_top oy j hord.2.1 hord.1 hord.2.2.symm (by rw [HD.out, HY.out]; exact hgt))]; rfl⟩
        · have heq : d = y := by omega
          subst heq
          go_wp2
          go_quiet (fail)
          go_wp2
          go_quiet (fail)
          go_wp2
          go_roundw
          case rel => exact ⟨j, rfl, by omega, same_down HL.out.symm (by omega) (k := j + 1) (by omega) hord.2.2 HD.out HY.out, _, rfl⟩
          case measure => simp [intOf]
    · obtain rfl : k = 0 := by omega
      have he : xs = ys := by simpa [SameFrom] using hs
      have HE := Lib.hid he
      clear he hs
      go_wp2
      go_ret
      exact ⟨.mk _ _, by rw [ord_eq (by rw [HE.out])]; rfl⟩
end Go.Proofs.Ytagmdeabneapaaa
