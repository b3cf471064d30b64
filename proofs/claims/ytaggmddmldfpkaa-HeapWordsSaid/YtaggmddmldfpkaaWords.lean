/- The law HeapWords answers true. -/
import Derived.Test.YtaggmddmldfpkaaHeapC
namespace Go.Proofs.Ytaggmddmldfpkaa
open Go.RowKit
set_option linter.unusedSimpArgs false

/-- What the functions say of a word. -/
structure Says (y a d : Int) (b1 b2 b3 : Bool) : Prop where
  f1 : ∀ W, Calls Try.prog 12 #[.int .u64 y] W fun e W' => IsTwo W W' (.int .i64 a) (.bool b1) e
  f2 : ∀ W, Calls Try.prog 13 #[.int .u64 y] W fun e W' => IsTwo W W' (.int .i64 a) (.bool b1) e
  f3 : ∀ W, Calls Try.prog 14 #[.int .u64 y] W fun e W' => IsTwo W W' (.int .i32 d) (.bool b2) e
  f4 : ∀ W, Calls Try.prog 15 #[.int .u64 y] W fun e W' => IsTwo W W' (.int .i32 d) (.bool b2) e
  f5 : ∀ W, Calls Try.prog 16 #[.int .u64 y] W fun e W' => IsOne W W' (.bool b3) e
  f6 : ∀ W, Calls Try.prog 17 #[.int .u64 y] W fun e W' => IsOne W W' (.bool b3) e
theorem says (y : Int) (h0 : 0 ≤ y) (h1 : y ≤ 18446744073709551615) : ∃ a d b1 b2 b3, Hid (Says y a d b1 b2 b3) ∧ ((b1 = true ∧ b2 = false ∧ b3 = false) ∨ (b1 = false ∧ b2 = true ∧ b3 = false) ∨ (b1 = false ∧ b2 = false ∧ b3 = true) ∨ (b1 = false ∧ b2 = false ∧ b3 = false)) := by
  refine ⟨_, _, _, _, _, Lib.hid ⟨fun W => fixnum_any y W h0 h1, fun W => rfixnum_any y W h0 h1, fun W => character_any y W h0 h1, fun W => rcharacter_any y W h0 h1, fun W => isref_any y W h0 h1, fun W => risref_any y W h0 h1⟩, ?_⟩
  unfold chB
  by_cases k0 : y % 8 = 0
  · refine .inl ⟨decide_eq_true k0, decide_eq_false fun q => ?_, ?_⟩
    · have := q.1; omega
    · rw [k0]; rfl
  · by_cases k1 : y % 8 = 1 ∧ okCode (y / 8)
    · refine .inr (.inl ⟨decide_eq_false k0, decide_eq_true k1, ?_⟩)
      rw [k1.1]; rfl
    · by_cases k3 : y % 8 = 3
      · refine .inr (.inr (.inl ⟨decide_eq_false k0, decide_eq_false k1, ?_⟩))
        rw [k3]; rfl
      · refine .inr (.inr (.inr ⟨decide_eq_false k0, decide_eq_false k1, ?_⟩))
        simpa using k3
theorem chW_in (c : Int) : 0 ≤ chW c ∧ chW c ≤ 18446744073709551615 := by
  unfold chW
  split
  · next h => have := h.1; have := h.2.1; omega
  · omega

set_option maxRecDepth 100000 in
set_option maxHeartbeats 4000000 in
theorem words_any (n c x : Int) (w : World) (c0 : -2147483648 ≤ c) (c1 : c ≤ 2147483647) (x0 : 0 ≤ x) (x1 : x ≤ 18446744073709551615) :
    Calls Try.prog 3 #[.int .i64 n, .int .i32 c, .int .u64 x] w fun e w' => IsBool w w' true e := by
  obtain ⟨y, hy⟩ : ∃ y, chW c = y := ⟨_, rfl⟩
  have hy0 : 0 ≤ y ∧ y ≤ 18446744073709551615 := by rw [← hy]; exact chW_in c
  have a1 := fix_any n w
  have a2 := rfix_any n w
  have a3 := char_any c w c0 c1
  have a4 := rchar_any c w c0 c1
  rw [hy] at a3 a4
  obtain ⟨p, hp⟩ : ∃ p, fixW n = p := ⟨_, rfl⟩
  obtain ⟨q, hq⟩ : ∃ q, fixE n = q := ⟨_, rfl⟩
  obtain ⟨r, hr⟩ : ∃ r, chE c = r := ⟨_, rfl⟩
  rw [hp, hq] at a1 a2
  rw [hr] at a3 a4
  have HY := Lib.hid (And.intro hy0 (And.intro x0 x1))
  have H := Lib.hid (And.intro a1 (And.intro a2 (And.intro a3 a4)))
  have hal : Below w.heap.size w (w.alloc (.cells #[.int .u64 y, .int .u64 x] 23)) := (Below.refl _ _).alloc (Nat.le_refl _) _
  have m0 : (w.alloc (.cells #[.int .u64 y, .int .u64 x] 23)).cell? ⟨w.heap.size, 0, none⟩ = some (.int .u64 y) := by go_simp
  have m1 : (w.alloc (.cells #[.int .u64 y, .int .u64 x] 23)).cell? ⟨w.heap.size, 1, none⟩ = some (.int .u64 x) := by go_simp
  obtain ⟨V, hV⟩ : ∃ V, w.alloc (.cells #[.int .u64 y, .int .u64 x] 23) = V := ⟨_, rfl⟩
  rw [hV] at hal m0 m1
  have HV := Lib.hid (And.intro hV hal)
  have HM := Lib.hid (And.intro m0 m1)
  clear a1 a2 a3 a4 hp hq hr hy hy0 hV hal m0 m1
  go_enter Try.func3, Try.ntmps3
  go_wp2_with fail
  refine H.out.1.mono ?_
  rintro e w1 ⟨rfl, rfl⟩
  go_wp2_with fail
  refine H.out.2.1.mono ?_
  rintro e w1 ⟨rfl, rfl⟩
  go_wp2_with fail
  refine H.out.2.2.1.mono ?_
  rintro e w1 ⟨rfl, rfl⟩
  go_wp2_with fail
  refine H.out.2.2.2.mono ?_
  rintro e w1 ⟨rfl, rfl⟩
  go_wp2_with fail
  rw [HV.out.1]
  obtain ⟨px0, px1⟩ := HM.out
  go_loop [61] (fun iv => ∃ k : Nat, iv = .int .i64 k ∧ k ≤ 2) (fun iv => 2 - (intOf iv).toNat)
  case atStart => exact ⟨0, rfl, by omega⟩
  case round =>
    obtain ⟨k, rfl, hk⟩ := hrel
    rcases (show k = 0 ∨ k = 1 ∨ k = 2 by omega) with rfl | rfl | rfl
    · obtain ⟨a, d, b1, b2, b3, hs, hb⟩ := says y (by have := HY.out; omega) (by have := HY.out; omega)
      rcases hb with ⟨rfl, rfl, rfl⟩ | ⟨rfl, rfl, rfl⟩ | ⟨rfl, rfl, rfl⟩ | ⟨rfl, rfl, rfl⟩
      · go_wp2_with fail
        refine (hs.out.f1 _).mono ?_
        rintro e w1 ⟨rfl, rfl⟩
        go_wp2_with fail
        refine (hs.out.f2 _).mono ?_
        rintro e w1 ⟨rfl, rfl⟩
        go_wp2_with fail
        refine (hs.out.f3 _).mono ?_
        rintro e w1 ⟨rfl, rfl⟩
        go_wp2_with fail
        refine (hs.out.f4 _).mono ?_
        rintro e w1 ⟨rfl, rfl⟩
        go_wp2_with fail
        refine (hs.out.f5 _).mono ?_
        rintro e w1 ⟨rfl, rfl⟩
        go_wp2_with fail
        refine (hs.out.f6 _).mono ?_
        rintro e w1 ⟨rfl, rfl⟩
        go_wp2_with fail
        refine (hs.out.f5 _).mono ?_
        rintro e w1 ⟨rfl, rfl⟩
        go_wp2
        go_round
        case rel => exact ⟨1, by go_num, by omega⟩
        case measure => simp [intOf]
      · go_wp2_with fail
        refine (hs.out.f1 _).mono ?_
        rintro e w1 ⟨rfl, rfl⟩
        go_wp2_with fail
        refine (hs.out.f2 _).mono ?_
        rintro e w1 ⟨rfl, rfl⟩
        go_wp2_with fail
        refine (hs.out.f3 _).mono ?_
        rintro e w1 ⟨rfl, rfl⟩
        go_wp2_with fail
        refine (hs.out.f4 _).mono ?_
        rintro e w1 ⟨rfl, rfl⟩
        go_wp2_with fail
        refine (hs.out.f5 _).mono ?_
        rintro e w1 ⟨rfl, rfl⟩
        go_wp2_with fail
        refine (hs.out.f6 _).mono ?_
        rintro e w1 ⟨rfl, rfl⟩
        go_wp2_with fail
        refine (hs.out.f5 _).mono ?_
        rintro e w1 ⟨rfl, rfl⟩
        go_wp2
        go_round
        case rel => exact ⟨1, by go_num, by omega⟩
        case measure => simp [intOf]
      · go_wp2_with fail
        refine (hs.out.f1 _).mono ?_
        rintro e w1 ⟨rfl, rfl⟩
        go_wp2_with fail
        refine (hs.out.f2 _).mono ?_
        rintro e w1 ⟨rfl, rfl⟩
        go_wp2_with fail
        refine (hs.out.f3 _).mono ?_
        rintro e w1 ⟨rfl, rfl⟩
        go_wp2_with fail
        refine (hs.out.f4 _).mono ?_
        rintro e w1 ⟨rfl, rfl⟩
        go_wp2_with fail
        refine (hs.out.f5 _).mono ?_
        rintro e w1 ⟨rfl, rfl⟩
        go_wp2_with fail
        refine (hs.out.f6 _).mono ?_
        rintro e w1 ⟨rfl, rfl⟩
        go_wp2
        go_round
        case rel => exact ⟨1, by go_num, by omega⟩
        case measure => simp [intOf]
      · go_wp2_with fail
        refine (hs.out.f1 _).mono ?_
        rintro e w1 ⟨rfl, rfl⟩
        go_wp2_with fail
        refine (hs.out.f2 _).mono ?_
        rintro e w1 ⟨rfl, rfl⟩
        go_wp2_with fail
        refine (hs.out.f3 _).mono ?_
        rintro e w1 ⟨rfl, rfl⟩
        go_wp2_with fail
        refine (hs.out.f4 _).mono ?_
        rintro e w1 ⟨rfl, rfl⟩
        go_wp2_with fail
        refine (hs.out.f5 _).mono ?_
        rintro e w1 ⟨rfl, rfl⟩
        go_wp2_with fail
        refine (hs.out.f6 _).mono ?_
        rintro e w1 ⟨rfl, rfl⟩
        go_wp2
        go_round
        case rel => exact ⟨1, by go_num, by omega⟩
        case measure => simp [intOf]
    · obtain ⟨a, d, b1, b2, b3, hs, hb⟩ := says x (by have := HY.out; omega) (by have := HY.out; omega)
      rcases hb with ⟨rfl, rfl, rfl⟩ | ⟨rfl, rfl, rfl⟩ | ⟨rfl, rfl, rfl⟩ | ⟨rfl, rfl, rfl⟩
      · go_wp2_with fail
        refine (hs.out.f1 _).mono ?_
        rintro e w1 ⟨rfl, rfl⟩
        go_wp2_with fail
        refine (hs.out.f2 _).mono ?_
        rintro e w1 ⟨rfl, rfl⟩
        go_wp2_with fail
        refine (hs.out.f3 _).mono ?_
        rintro e w1 ⟨rfl, rfl⟩
        go_wp2_with fail
        refine (hs.out.f4 _).mono ?_
        rintro e w1 ⟨rfl, rfl⟩
        go_wp2_with fail
        refine (hs.out.f5 _).mono ?_
        rintro e w1 ⟨rfl, rfl⟩
        go_wp2_with fail
        refine (hs.out.f6 _).mono ?_
        rintro e w1 ⟨rfl, rfl⟩
        go_wp2_with fail
        refine (hs.out.f5 _).mono ?_
        rintro e w1 ⟨rfl, rfl⟩
        go_wp2
        go_round
        case rel => exact ⟨2, by go_num, by omega⟩
        case measure => simp [intOf]
      · go_wp2_with fail
        refine (hs.out.f1 _).mono ?_
        rintro e w1 ⟨rfl, rfl⟩
        go_wp2_with fail
        refine (hs.out.f2 _).mono ?_
        rintro e w1 ⟨rfl, rfl⟩
        go_wp2_with fail
        refine (hs.out.f3 _).mono ?_
        rintro e w1 ⟨rfl, rfl⟩
        go_wp2_with fail
        refine (hs.out.f4 _).mono ?_
        rintro e w1 ⟨rfl, rfl⟩
        go_wp2_with fail
        refine (hs.out.f5 _).mono ?_
        rintro e w1 ⟨rfl, rfl⟩
        go_wp2_with fail
        refine (hs.out.f6 _).mono ?_
        rintro e w1 ⟨rfl, rfl⟩
        go_wp2_with fail
        refine (hs.out.f5 _).mono ?_
        rintro e w1 ⟨rfl, rfl⟩
        go_wp2
        go_round
        case rel => exact ⟨2, by go_num, by omega⟩
        case measure => simp [intOf]
      · go_wp2_with fail
        refine (hs.out.f1 _).mono ?_
        rintro e w1 ⟨rfl, rfl⟩
        go_wp2_with fail
        refine (hs.out.f2 _).mono ?_
        rintro e w1 ⟨rfl, rfl⟩
        go_wp2_with fail
        refine (hs.out.f3 _).mono ?_
        rintro e w1 ⟨rfl, rfl⟩
        go_wp2_with fail
        refine (hs.out.f4 _).mono ?_
        rintro e w1 ⟨rfl, rfl⟩
        go_wp2_with fail
        refine (hs.out.f5 _).mono ?_
        rintro e w1 ⟨rfl, rfl⟩
        go_wp2_with fail
        refine (hs.out.f6 _).mono ?_
        rintro e w1 ⟨rfl, rfl⟩
        go_wp2
        go_round
        case rel => exact ⟨2, by go_num, by omega⟩
        case measure => simp [intOf]
      · go_wp2_with fail
        refine (hs.out.f1 _).mono ?_
        rintro e w1 ⟨rfl, rfl⟩
        go_wp2_with fail
        refine (hs.out.f2 _).mono ?_
        rintro e w1 ⟨rfl, rfl⟩
        go_wp2_with fail
        refine (hs.out.f3 _).mono ?_
        rintro e w1 ⟨rfl, rfl⟩
        go_wp2_with fail
        refine (hs.out.f4 _).mono ?_
        rintro e w1 ⟨rfl, rfl⟩
        go_wp2_with fail
        refine (hs.out.f5 _).mono ?_
        rintro e w1 ⟨rfl, rfl⟩
        go_wp2_with fail
        refine (hs.out.f6 _).mono ?_
        rintro e w1 ⟨rfl, rfl⟩
        go_wp2
        go_round
        case rel => exact ⟨2, by go_num, by omega⟩
        case measure => simp [intOf]
    · have ha := awake_any V
      have HA := Lib.hid ha
      clear ha
      go_wp2_with fail
      refine HA.out.mono ?_
      rintro e w1 ⟨rfl, hb1⟩
      go_wp2
      go_ret
      exact ⟨rfl, below_then HV.out.2 hb1⟩
end Go.Proofs.Ytaggmddmldfpkaa
