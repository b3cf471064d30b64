/- Fix, Char, Character of package heap and of the reference. -/
import Derived.Test.YtaggmddmldfpkaaWMath
namespace Go.Proofs.Ytaggmddmldfpkaa
open Go.RowKit

theorem wrap_fix (n : Int) : IntKind.u64.wrap n * 8 % 18446744073709551616 = n * 8 % 18446744073709551616 := by rw [IntKind.wrap_u64]; omega

set_option maxRecDepth 100000 in
theorem fix_any (n : Int) (w : World) : Calls Try.prog 8 #[.int .i64 n] w fun e w' => IsTwo w w' (.int .u64 (fixW n)) (.int .i64 (fixE n)) e := by
  by_cases h1 : -1152921504606846976 ≤ n
  · by_cases h2 : n < 1152921504606846976
    · have hok : okFix n := ⟨h1, h2⟩
      rw [show fixW n = n * 8 % 18446744073709551616 from if_pos hok, show fixE n = 0 from if_pos hok]
      have ht := tagged_any 0 (IntKind.u64.wrap n) w (by decide) (by decide)
      rw [wrap_fix, Int.add_zero] at ht
      obtain ⟨y, hy⟩ : ∃ y, n * 8 % 18446744073709551616 = y := ⟨_, rfl⟩
      rw [hy] at ht ⊢
      have h3 : n ≤ 1152921504606846975 := by omega
      clear hok hy h2
      go_enter Try.func8, Try.ntmps8
      go_wp2_with fail
      refine ht.mono ?_
      rintro e w1 ⟨rfl, rfl⟩
      go_wp2
      go_ret2
      exact ⟨rfl, rfl⟩
    · have hok : ¬ okFix n := fun k => h2 k.2
      rw [show fixW n = 0 from if_neg hok, show fixE n = 3 from if_neg hok]
      have h3 : 1152921504606846975 < n := by omega
      clear hok h2
      go_enter Try.func8, Try.ntmps8
      go_wp2
      go_ret2
      exact ⟨rfl, rfl⟩
  · have hok : ¬ okFix n := fun k => h1 k.1
    rw [show fixW n = 0 from if_neg hok, show fixE n = 3 from if_neg hok]
    have h3 : n < -1152921504606846976 := by omega
    clear hok h1
    go_enter Try.func8, Try.ntmps8
    go_wp2
    go_ret2
    exact ⟨rfl, rfl⟩

set_option maxRecDepth 100000 in
theorem rfix_any (n : Int) (w : World) : Calls Try.prog 9 #[.int .i64 n] w fun e w' => IsTwo w w' (.int .u64 (fixW n)) (.int .i64 (fixE n)) e := by
  by_cases h1 : -1152921504606846976 ≤ n
  · by_cases h2 : n < 1152921504606846976
    · have hok : okFix n := ⟨h1, h2⟩
      rw [show fixW n = n * 8 % 18446744073709551616 from if_pos hok, show fixE n = 0 from if_pos hok]
      have ht : IntKind.u64.wrap (IntKind.u64.wrap n * 8) = n * 8 % 18446744073709551616 := (IntKind.wrap_u64 _).trans (wrap_fix n)
      obtain ⟨y, hy⟩ : ∃ y, n * 8 % 18446744073709551616 = y := ⟨_, rfl⟩
      rw [hy] at ht ⊢
      clear hok hy
      go_enter Try.func9, Try.ntmps9
      go_wp2
      go_ret2
      exact ⟨rfl, rfl⟩
    · have hok : ¬ okFix n := fun k => h2 k.2
      rw [show fixW n = 0 from if_neg hok, show fixE n = 3 from if_neg hok]
      have h3 : 1152921504606846976 ≤ n := by omega
      clear hok h2
      go_enter Try.func9, Try.ntmps9
      go_wp2
      go_ret2
      exact ⟨rfl, rfl⟩
  · have hok : ¬ okFix n := fun k => h1 k.1
    rw [show fixW n = 0 from if_neg hok, show fixE n = 3 from if_neg hok]
    have h3 : n < -1152921504606846976 := by omega
    clear hok h1
    go_enter Try.func9, Try.ntmps9
    go_wp2
    go_ret2
    exact ⟨rfl, rfl⟩

set_option maxRecDepth 100000 in
theorem char_any (c : Int) (w : World) (h1 : -2147483648 ≤ c) (h2 : c ≤ 2147483647) : Calls Try.prog 10 #[.int .i32 c] w fun e w' => IsTwo w w' (.int .u64 (chW c)) (.int .i64 (chE c)) e := by
  have hc := iscode_any c w
  have hi := IntWalk.i64_in c (by omega)
  by_cases h : okCode c
  · rw [decide_eq_true h] at hc
    rw [show chW c = c * 8 + 1 from if_pos h, show chE c = 0 from if_pos h]
    have hu := IntWalk.u64_in c (by have := h.1; have := h.2.1; omega)
    have ht := tagged_any 1 c w (by decide) (by decide)
    rw [show c * 8 % 18446744073709551616 = c * 8 by have := h.1; have := h.2.1; omega] at ht
    obtain ⟨y, hy⟩ : ∃ y, c * 8 + 1 = y := ⟨_, rfl⟩
    rw [hy] at ht ⊢
    have H := Lib.hid (And.intro hc ht)
    clear hc ht hy h h1 h2
    go_enter Try.func10, Try.ntmps10
    go_wp2_with fail
    refine H.out.1.mono ?_
    rintro e w1 ⟨rfl, rfl⟩
    go_wp2_with fail
    refine H.out.2.mono ?_
    rintro e w1 ⟨rfl, rfl⟩
    go_wp2
    go_ret2
    exact ⟨rfl, rfl⟩
  · rw [decide_eq_false h] at hc
    rw [show chW c = 0 from if_neg h, show chE c = 3 from if_neg h]
    have H := Lib.hid hc
    clear hc h h1 h2
    go_enter Try.func10, Try.ntmps10
    go_wp2_with fail
    refine H.out.mono ?_
    rintro e w1 ⟨rfl, rfl⟩
    go_wp2
    go_ret2
    exact ⟨rfl, rfl⟩

set_option maxRecDepth 100000 in
theorem rchar_any (c : Int) (w : World) (h1 : -2147483648 ≤ c) (h2 : c ≤ 2147483647) : Calls Try.prog 11 #[.int .i32 c] w fun e w' => IsTwo w w' (.int .u64 (chW c)) (.int .i64 (chE c)) e := by
  have hc := rcode_any c w
  have hi := IntWalk.i64_in c (by omega)
  by_cases h : okCode c
  · rw [decide_eq_true h] at hc
    rw [show chW c = c * 8 + 1 from if_pos h, show chE c = 0 from if_pos h]
    have hu := IntWalk.u64_in c (by have := h.1; have := h.2.1; omega)
    have hv := IntWalk.u64_in (c * 8) (by have := h.1; have := h.2.1; omega)
    have ho := u64_or_low (c * 8) 1 (by have := h.1; omega) (by have := h.2.1; omega) (by omega) (by decide) (by decide)
    obtain ⟨y, hy⟩ : ∃ y, c * 8 + 1 = y := ⟨_, rfl⟩
    rw [hy] at ho ⊢
    have H := Lib.hid hc
    clear hc hy h h1 h2
    go_enter Try.func11, Try.ntmps11
    go_wp2_with fail
    refine H.out.mono ?_
    rintro e w1 ⟨rfl, rfl⟩
    go_wp2
    go_ret2
    exact ⟨rfl, rfl⟩
  · rw [decide_eq_false h] at hc
    rw [show chW c = 0 from if_neg h, show chE c = 3 from if_neg h]
    have H := Lib.hid hc
    clear hc h h1 h2
    go_enter Try.func11, Try.ntmps11
    go_wp2_with fail
    refine H.out.mono ?_
    rintro e w1 ⟨rfl, rfl⟩
    go_wp2
    go_ret2
    exact ⟨rfl, rfl⟩

set_option maxRecDepth 100000 in
theorem character_any (x : Int) (w : World) (h0 : 0 ≤ x) (h1 : x ≤ 18446744073709551615) : Calls Try.prog 14 #[.int .u64 x] w fun e w' => IsTwo w w' (.int .i32 (chN x)) (.bool (chB x)) e := by
  have ht := tag_any x w h0 h1
  have hc := iscode_any (x / 8) w
  have hi := IntWalk.i64_in (x / 8) (by omega)
  by_cases h : x % 8 = 1
  · rw [h] at ht
    by_cases k : okCode (x / 8)
    · rw [decide_eq_true k] at hc
      have hb : chB x = true := decide_eq_true ⟨h, k⟩
      rw [show chN x = x / 8 by unfold chN; rw [if_pos hb], hb]
      have h32 := IntWalk.i32_in (x / 8) (by have := k.1; have := k.2.1; omega)
      have H := Lib.hid (And.intro ht hc)
      clear hb h k ht hc
      go_enter Try.func14, Try.ntmps14
      go_wp2_with fail
      refine H.out.1.mono ?_
      rintro e w1 ⟨rfl, rfl⟩
      go_wp2_with fail
      refine H.out.2.mono ?_
      rintro e w1 ⟨rfl, rfl⟩
      go_wp2
      go_ret2
      exact ⟨rfl, rfl⟩
    · rw [decide_eq_false k] at hc
      have hb : chB x = false := decide_eq_false fun q => k q.2
      rw [show chN x = 0 by unfold chN; rw [hb]; rfl, hb]
      have H := Lib.hid (And.intro ht hc)
      clear hb h k ht hc
      go_enter Try.func14, Try.ntmps14
      go_wp2_with fail
      refine H.out.1.mono ?_
      rintro e w1 ⟨rfl, rfl⟩
      go_wp2_with fail
      refine H.out.2.mono ?_
      rintro e w1 ⟨rfl, rfl⟩
      go_wp2
      go_ret2
      exact ⟨rfl, rfl⟩
  · have hb : chB x = false := decide_eq_false fun q => h q.1
    rw [show chN x = 0 by unfold chN; rw [hb]; rfl, hb]
    have H := Lib.hid ht
    clear hb ht hc
    go_enter Try.func14, Try.ntmps14
    go_wp2_with fail
    refine H.out.mono ?_
    rintro e w1 ⟨rfl, rfl⟩
    go_wp2
    go_ret2
    exact ⟨rfl, rfl⟩

set_option maxRecDepth 100000 in
theorem rcharacter_any (x : Int) (w : World) (h0 : 0 ≤ x) (h1 : x ≤ 18446744073709551615) : Calls Try.prog 15 #[.int .u64 x] w fun e w' => IsTwo w w' (.int .i32 (chN x)) (.bool (chB x)) e := by
  have ha := u64_and7 x h0 (by omega)
  have hc := rcode_any (x / 8) w
  have hi := IntWalk.i64_in (x / 8) (by omega)
  by_cases h : x % 8 = 1
  · rw [h] at ha
    by_cases g : x / 8 ≤ 1114111
    · by_cases k : okCode (x / 8)
      · rw [decide_eq_true k] at hc
        have hb : chB x = true := decide_eq_true ⟨h, k⟩
        rw [show chN x = x / 8 by unfold chN; rw [if_pos hb], hb]
        have h32 := IntWalk.i32_in (x / 8) (by have := k.1; have := k.2.1; omega)
        have H := Lib.hid hc
        clear hb h k hc
        go_enter Try.func15, Try.ntmps15
        go_wp2_with fail
        refine H.out.mono ?_
        rintro e w1 ⟨rfl, rfl⟩
        go_wp2
        go_ret2
        exact ⟨rfl, rfl⟩
      · rw [decide_eq_false k] at hc
        have hb : chB x = false := decide_eq_false fun q => k q.2
        rw [show chN x = 0 by unfold chN; rw [hb]; rfl, hb]
        have H := Lib.hid hc
        clear hb h k hc
        go_enter Try.func15, Try.ntmps15
        go_wp2_with fail
        refine H.out.mono ?_
        rintro e w1 ⟨rfl, rfl⟩
        go_wp2
        go_ret2
        exact ⟨rfl, rfl⟩
    · have hb : chB x = false := decide_eq_false fun q => g q.2.2.1
      rw [show chN x = 0 by unfold chN; rw [hb]; rfl, hb]
      have g2 : 1114111 < x / 8 := by omega
      clear hb h hc g
      go_enter Try.func15, Try.ntmps15
      go_wp2
      go_ret2
      exact ⟨rfl, rfl⟩
  · have hb : chB x = false := decide_eq_false fun q => h q.1
    rw [show chN x = 0 by unfold chN; rw [hb]; rfl, hb]
    clear hb hc
    go_enter Try.func15, Try.ntmps15
    go_wp2
    go_ret2
    exact ⟨rfl, rfl⟩
end Go.Proofs.Ytaggmddmldfpkaa
