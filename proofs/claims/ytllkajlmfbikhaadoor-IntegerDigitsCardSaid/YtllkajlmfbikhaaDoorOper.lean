/- What operation of package integer does for the number 8 (and), and the function that it returns. -/
import Derived.Test.YtllkajlmfbikhaaDoorMag
namespace Go.Proofs.YtllkajlmfbikhaaDoor
open Go.RowKit

/-- The bits of a and b, combined by the table t0, t1, t2, t3. -/
def comb (t0 t1 t2 t3 a b : Nat) : Nat :=
  (t0 &&& (4294967295 - a) &&& (4294967295 - b)) ||| (t1 &&& (4294967295 - a) &&& b) ||| (t2 &&& a &&& (4294967295 - b)) ||| (t3 &&& a &&& b)

theorem comb_lt (t0 t1 t2 t3 a b : Nat) (hb : b < 4294967296) : comb t0 t1 t2 t3 a b < 4294967296 := by
  unfold comb
  exact or_lt32 (or_lt32 (or_lt32 (and_lt32 (by omega)) (and_lt32 hb)) (and_lt32 (by omega))) (and_lt32 hb)

theorem comb_int (t0 t1 t2 t3 a b : Nat) (h0 : t0 < 4294967296) (h1 : t1 < 4294967296) (h2 : t2 < 4294967296) (h3 : t3 < 4294967296) (ha : a < 4294967296) (hb : b < 4294967296) :
    bits .or .u32 (bits .or .u32 (bits .or .u32 (bits .andNot .u32 (bits .andNot .u32 (t0 : Int) (a : Int)) (b : Int)) (bits .and .u32 (bits .andNot .u32 (t1 : Int) (a : Int)) (b : Int)))
      (bits .andNot .u32 (bits .and .u32 (t2 : Int) (a : Int)) (b : Int))) (bits .and .u32 (bits .and .u32 (t3 : Int) (a : Int)) (b : Int)) = ((comb t0 t1 t2 t3 a b : Nat) : Int) := by
  have na : 4294967295 - a < 4294967296 := by omega
  have nb : 4294967295 - b < 4294967296 := by omega
  unfold comb
  rw [u32_andNot_nat _ _ h0 ha, u32_andNot_nat _ _ (and_lt32 na) hb, u32_andNot_nat _ _ h1 ha, u32_and_nat _ _ (and_lt32 na) hb, u32_or_nat _ _ (and_lt32 nb) (and_lt32 hb),
    u32_and_nat _ _ h2 ha, u32_andNot_nat _ _ (and_lt32 ha) hb, u32_or_nat _ _ (or_lt32 (and_lt32 nb) (and_lt32 hb)) (and_lt32 nb), u32_and_nat _ _ h3 ha, u32_and_nat _ _ (and_lt32 ha) hb,
    u32_or_nat _ _ (or_lt32 (or_lt32 (and_lt32 nb) (and_lt32 hb)) (and_lt32 nb)) (and_lt32 hb)]

/-- A table of four lies at g. -/
def Four (w : World) (g t0 t1 t2 t3 : Nat) : Prop :=
  w.cell? ⟨g, 0, none⟩ = some (.int .u32 (t0 : Int)) ∧ w.cell? ⟨g, 1, none⟩ = some (.int .u32 (t1 : Int)) ∧ w.cell? ⟨g, 2, none⟩ = some (.int .u32 (t2 : Int)) ∧ w.cell? ⟨g, 3, none⟩ = some (.int .u32 (t3 : Int))

set_option maxRecDepth 100000 in
set_option maxHeartbeats 1000000 in
theorem comb_any (g t0 t1 t2 t3 a b : Nat) (w : World) (hf : Four w g t0 t1 t2 t3) (h0 : t0 < 4294967296) (h1 : t1 < 4294967296) (h2 : t2 < 4294967296) (h3 : t3 < 4294967296) (ha : a < 4294967296) (hb : b < 4294967296) :
    Calls Tryd.prog 70 #[.int .u32 a, .int .u32 b, .pointer (some ⟨g, 0, none⟩)] w fun e w' => w = w' ∧ e = .returned (.int .u32 ((comb t0 t1 t2 t3 a b : Nat) : Int)) := by
  have H := Lib.hid (comb_int t0 t1 t2 t3 a b h0 h1 h2 h3 ha hb)
  obtain ⟨f0, f1, f2, f3⟩ := hf
  clear h0 h1 h2 h3
  go_enter Tryd.func70, Tryd.ntmps70
  go_wp2
  go_ret
  exact ⟨rfl, by rw [← H.out]; rfl⟩

/-- The closure that 8 gives, and its table. -/
def IsAnd (w w' : World) (e : Ending) : Prop :=
  ∃ g, e = .returned (.func (.func 70) #[] #[.pointer (some ⟨g, 0, none⟩)]) ∧ Four w' g 0 0 0 4294967295 ∧ w.heap.size ≤ g ∧ g < w'.heap.size ∧ Below w.heap.size w w'

/-- The world with the table, as far as i. -/
def tableAt (w : World) (i : Nat) : World := w.alloc (.cells #[.int .u32 0, .int .u32 0, .int .u32 0, .int .u32 (if i = 4 then 4294967295 else 0)] 114)

set_option maxRecDepth 100000 in
set_option maxHeartbeats 1000000 in
theorem operation8 (w : World) : Calls Tryd.prog 42 #[.int .i64 8] w fun e w' => IsAnd w w' e := by
  have b0 : bits .and .i64 8 1 = 0 := by decide
  have b1 : bits .and .i64 4 1 = 0 := by decide
  have b2 : bits .and .i64 2 1 = 0 := by decide
  have b3 : bits .and .i64 1 1 = 1 := by decide
  go_enter Tryd.func42, Tryd.ntmps42
  go_wp2
  go_loopw [5] (fun iv wr => ∃ i : Nat, iv = .int .i64 i ∧ i ≤ 4 ∧ wr = tableAt w i) (fun iv _ => 4 - (intOf iv).toNat)
  case atStart => exact ⟨0, rfl, by omega, rfl⟩
  case round =>
    obtain ⟨i, rfl, hi, rfl⟩ := hrel
    rcases (show i = 0 ∨ i = 1 ∨ i = 2 ∨ i = 3 ∨ i = 4 from by omega) with rfl | rfl | rfl | rfl | rfl
    · rw [show tableAt w 0 = w.alloc (.cells #[.int .u32 0, .int .u32 0, .int .u32 0, .int .u32 0] 114) from rfl]
      go_wp2
      go_roundw
      case rel => exact ⟨1, rfl, by omega, rfl⟩
      case measure => simp [intOf]
    · rw [show tableAt w 1 = w.alloc (.cells #[.int .u32 0, .int .u32 0, .int .u32 0, .int .u32 0] 114) from rfl]
      go_wp2
      go_roundw
      case rel => exact ⟨2, rfl, by omega, rfl⟩
      case measure => simp [intOf]
    · rw [show tableAt w 2 = w.alloc (.cells #[.int .u32 0, .int .u32 0, .int .u32 0, .int .u32 0] 114) from rfl]
      go_wp2
      go_roundw
      case rel => exact ⟨3, rfl, by omega, rfl⟩
      case measure => simp [intOf]
    · rw [show tableAt w 3 = w.alloc (.cells #[.int .u32 0, .int .u32 0, .int .u32 0, .int .u32 0] 114) from rfl]
      go_wp2
      go_roundw
      case rel => exact ⟨4, rfl, by omega, rfl⟩
      case measure => simp [intOf]
    · rw [show tableAt w 4 = w.alloc (.cells #[.int .u32 0, .int .u32 0, .int .u32 0, .int .u32 4294967295] 114) from rfl]
      go_wp2
      go_ret
      refine ⟨w.heap.size, rfl, ?_, Nat.le_refl _, by simp, (Below.refl _ _).alloc (Nat.le_refl _) _⟩
      refine ⟨?_, ?_, ?_, ?_⟩ <;> go_simp
end Go.Proofs.YtllkajlmfbikhaaDoor
