/- mixed: m x - n y, for factors of 32 bits. -/
import Derived.Test.YtagocllbfbbneaaBaseB
namespace Go.Proofs.Ytagocllbfbbneaa
open Go.RowKit
set_option linter.unusedSimpArgs false

theorem mix_take (xs : List Nat) (i : Nat) : Lm.val B32 (xs.take (i + 1)) = Lm.val B32 (xs.take i) + B32 ^ i * xs.getD i 0 := by
  rcases Nat.lt_or_ge i xs.length with h | h
  · rw [Lm.val_take_succ _ _ _ h]
  · rw [List.take_of_length_le h, List.take_of_length_le (by omega), List.getD_eq_getElem?_getD, List.getElem?_eq_none h]
    simp
structure Mixing (L m n : Nat) (xs ys zs : List Nat) (i P M q : Nat) : Prop where
  len : zs.length = L
  ok : Lm.Ok B32 zs
  rest : ∀ j, i ≤ j → zs.getD j 0 = 0
  num : Lm.val B32 zs + n * Lm.val B32 (ys.take i) + B32 ^ i * P = m * Lm.val B32 (xs.take i) + B32 ^ i * (M + q)
  hP : P ≤ 4294967295
  hM : M ≤ 4294967295
  hq : q ≤ 1
theorem carry_parts {P m x : Nat} (hP : P ≤ 4294967295) (hm : m ≤ 4294967295) (hx : x < 4294967296) : ∃ a s p P' : Nat, m * x = a ∧ (m : Int) * (x : Int) = (a : Int) ∧ P + a = s ∧ s ≤ 18446744073709551615 ∧ s % 4294967296 = p ∧ s / 4294967296 = P' ∧ P + m * x = p + 4294967296 * P' ∧ p < 4294967296 ∧ P' ≤ 4294967295 := by
  refine ⟨m * x, P + m * x, (P + m * x) % 4294967296, (P + m * x) / 4294967296, rfl, (Int.natCast_mul _ _).symm, rfl, ?_, rfl, rfl, by omega, by omega, ?_⟩
  all_goals
    have h : m * x ≤ 4294967295 * 4294967295 := Nat.mul_le_mul hm (by omega)
    omega
theorem mixing_step {L m n : Nat} {xs ys zs : List Nat} {i P M q p P' mm M' d q' : Nat} (h : Mixing L m n xs ys zs i P M q) (hi : i < L) (h1 : P + m * xs.getD i 0 = p + 4294967296 * P') (h2 : M + n * ys.getD i 0 = mm + 4294967296 * M')
    (h3 : d + mm + q = p + 4294967296 * q') (hd : d < 4294967296) (hP : P' ≤ 4294967295) (hM : M' ≤ 4294967295) (hq : q' ≤ 1) : Mixing L m n xs ys (zs.set i d) (i + 1) P' M' q' := by
  have hs := Lm.val_set B32 zs i d (by rw [h.len]; exact hi)
  rw [h.rest i (Nat.le_refl _)] at hs
  refine ⟨by simpa using h.len, h.ok.set _ _ hd, fun j hj => ?_, ?_, hP, hM, hq⟩
  · rw [List.getD_eq_getElem?_getD, List.getElem?_set, if_neg (by omega), ← List.getD_eq_getElem?_getD]
    exact h.rest j (by omega)
  · have hn := h.num
    rw [mix_take, mix_take, Nat.pow_succ]
    generalize B32 ^ i = T at *
    generalize xs.getD i 0 = x at *
    generalize ys.getD i 0 = y at *
    generalize Lm.val B32 (xs.take i) = X at *
    generalize Lm.val B32 (ys.take i) = Y at *
    have e : B32 = 4294967296 := rfl
    rw [e]
    grind
theorem mixing_start (L m n : Nat) (xs ys : List Nat) : Mixing L m n xs ys (List.replicate L 0) 0 0 0 0 :=
  ⟨by simp, Lm.Ok.zeros B32_pos _, fun k _ => by rw [List.getD_eq_getElem?_getD]; by_cases hk : k < L <;> simp [hk], by rw [Lm.val_zeros]; simp [Lm.val], by omega, by omega, by omega⟩
theorem mixing_end {L m n : Nat} {xs ys zs : List Nat} {P M q R : Nat} (h : Mixing L m n xs ys zs L P M q) (hx : xs.length ≤ L) (hy : ys.length ≤ L) (hR : R + n * Lm.val B32 ys = m * Lm.val B32 xs) (hRL : R < B32 ^ L) : Lm.val B32 zs = R := by
  have hn := h.num
  rw [List.take_of_length_le hx, List.take_of_length_le hy] at hn
  have hz := Lm.val_lt h.ok
  rw [h.len] at hz
  have e : Lm.val B32 zs + B32 ^ L * P = R + B32 ^ L * (M + q) := by omega
  rcases Nat.lt_trichotomy P (M + q) with hlt | heq | hgt
  · have : B32 ^ L * (P + 1) ≤ B32 ^ L * (M + q) := Nat.mul_le_mul_left _ hlt
    rw [Nat.mul_succ] at this
    omega
  · rw [heq] at e; omega
  · have : B32 ^ L * (M + q + 1) ≤ B32 ^ L * P := Nat.mul_le_mul_left _ hgt
    rw [Nat.mul_succ] at this
    omega

set_option maxRecDepth 100000 in
set_option maxHeartbeats 2000000 in
theorem mixed_x (A : Option Addr) (c : Nat) (xs : List Nat) (m : Nat) (A' : Option Addr) (c' : Nat) (ys : List Nat) (n R : Nat) (w : World) (hx : Nums w .u32 A xs) (hy : Nums w .u32 A' ys)
    (ox : Lm.Ok B32 xs) (oy : Lm.Ok B32 ys) (hl : xs.length ≤ 400000) (hm : m ≤ 4294967295) (hn : n ≤ 4294967295) (hmax : ¬ xs.length < ys.length) (h0 : 0 < xs.length) (hR : R + n * Lm.val B32 ys = m * Lm.val B32 xs) (hRL : R < B32 ^ xs.length) :
    Calls Try.prog 137 #[.slice A xs.length c, .int .u64 m, .slice A' ys.length c', .int .u64 n] w fun e w' => IsLims w w' R e := by
  have HR := Lib.hid (And.intro hR hRL)
  obtain ⟨i0, hi0, hz0, hz1, hz2⟩ := info_parts Try.info99
  have HI := Lib.hid (And.intro hi0 (And.intro hz0 (And.intro hz1 hz2)))
  have HM := Lib.hid (show i0.bytes * xs.length ≤ 281474976710656 ∧ xs.length ≤ maxLen from ⟨by rw [hz2]; omega, by unfold maxLen; omega⟩)
  clear hi0 hz0 hz1 hz2 hR hRL
  go_enter Try.func137, Try.ntmps137
  go_wp2_with (at_make; go_loud (refine wpList_make_full _ rfl _ _ 22 rfl w.heap.size 99 i0 (.int .u32 0) 1 Try.underlying22 HI.out.1 HI.out.2.1 HI.out.2.2.1 _ _ _ _ xs.length rfl rfl (by omega) (by omega) HM.out.1 HM.out.2 (Nat.le_refl _) ?_); intro w1 hown1 hg1; rw [made_zero] at hown1; have HB := Lib.hid (own_block hown1); have hb1 : Below w.heap.size w w1 := (Below.refl _ _).grown hg1 (Nat.le_refl _) (fun k hk => by cases hk); clear hown1)
  have hz0 : Seg w1 w.heap.size 0 .u32 99 _ (List.replicate xs.length 0) := seg_of_block HB.out
  have hx1 := hx.below hb1
  have hy1 := hy.below hb1
  have hoffx : 0 < xs.length → Off A w.heap.size := fun hn => off_below hx hn (Nat.le_refl _)
  have hoffy : 0 < ys.length → Off A' w.heap.size := fun hn => off_below hy hn (Nat.le_refl _)
  clear hx hy HB HI HM
  go_loopw [10, 11, 12, 22] (fun pv mv qv iv wr => ∃ (i P M q : Nat) (zs : List Nat), iv = .int .i64 i ∧ pv = .int .u64 P ∧ mv = .int .u64 M ∧ qv = .int .u32 q ∧ i ≤ xs.length ∧ Mixing xs.length m n xs ys zs i P M q ∧ SegTo wr w.heap.size 0 .u32 99 (cellsOf .u32 (List.replicate xs.length 0)).toArray zs ∧ w1.grownBy wr (some w.heap.size)) (fun _ _ _ iv _ => xs.length - (intOf iv).toNat)
  case atStart =>
    exact ⟨0, 0, 0, 0, _, rfl, rfl, rfl, rfl, Nat.zero_le _, mixing_start _ _ _ _ _, .refl hz0, World.grownBy.refl _ _⟩
  case round =>
    obtain ⟨i, P, M, q, zs, rfl, rfl, rfl, rfl, hi, hmix, hseg, hgr⟩ := hrel
    have hP := hmix.hP
    have hM := hmix.hM
    have hq := hmix.hq
    by_cases hiL : i < xs.length
    · obtain ⟨cur', hs1, hs2, hs3⟩ := id hseg
      have hcz := hs1.cell (j := i) (by rw [hmix.len]; omega)
      have hfz := hs1.frozen (0 + i)
      rw [hmix.rest i (Nat.le_refl _)] at hcz
      simp only [Nat.zero_add] at hcz hfz
      have hxr := hx1.grown hgr hoffx
      have hyr := hy1.grown hgr hoffy
      clear hs1 hs2 hs3
      have hix : i < xs.length := hiL
      by_cases hiy : i < ys.length
      · obtain ⟨ax, rfl, _, hcell⟩ := hxr.at_ hix
        have hcx := hcell i hix
        have hxl := limb_lt ox i
        clear hcell
        obtain ⟨ay, rfl, _, hcell⟩ := hyr.at_ hiy
        have hcy := hcell i hiy
        have hyl := limb_lt oy i
        clear hcell
        obtain ⟨x, hxd⟩ : ∃ x, xs.getD i 0 = x := ⟨_, rfl⟩
        obtain ⟨y, hyd⟩ : ∃ y, ys.getD i 0 = y := ⟨_, rfl⟩
        rw [hxd] at hxl hcx
        rw [hyd] at hyl hcy
        obtain ⟨a, s, p, P1, ha, ha2, hs, hsl, hp1, hp2, hp3, hp4, hp5⟩ := carry_parts hP hm hxl
        obtain ⟨b, t, r, M1, hb, hb2, ht, htl, hr1, hr2, hr3, hr4, hr5⟩ := carry_parts hM hn hyl
        have HD := Lib.hid (And.intro hxd (And.intro hyd (And.intro hp3 hr3)))
        have c1 : (((P : Int) + (a : Int)) % 4294967296 : Int) = (p : Int) := by omega
        have c2 : (((M : Int) + (b : Int)) % 4294967296 : Int) = (r : Int) := by omega
        clear hxd hyd hp3 hr3 ha hb
        go_wp2_with fail
        try rw [c1]
        try rw [c2]
        refine (sub32_any p r q _ hp4 hr4 hq).mono ?_
        rintro e w' ⟨rfl, d, q1, rfl, hd, hq1, he⟩
        have HE := Lib.hid he
        clear he
        go_wp2
        go_roundw
        case rel =>
          refine ⟨i + 1, P1, M1, q1, _, by go_num, ?_, ?_, rfl, by omega, mixing_step hmix hiL (by rw [HD.out.1]; exact HD.out.2.2.1) (by rw [HD.out.2.1]; exact HD.out.2.2.2) HE.out hd hp5 hr5 hq1, ?_, ?_⟩
          · congr 1; omega
          · congr 1; omega
          · simpa using hseg.set_ (j := i) (by rw [hmix.len]; omega) d
          · exact grown_trans hgr (grown_store _ _ _ _)
        case measure => simp [intOf]; omega
      · obtain ⟨ax, rfl, _, hcell⟩ := hxr.at_ hix
        have hcx := hcell i hix
        have hxl := limb_lt ox i
        clear hcell
        have hye : ys.getD i 0 = 0 := by rw [List.getD_eq_getElem?_getD, List.getElem?_eq_none (by omega)]; rfl
        have hyl : ys.getD i 0 < 4294967296 := by rw [hye]; decide
        obtain ⟨x, hxd⟩ : ∃ x, xs.getD i 0 = x := ⟨_, rfl⟩
        obtain ⟨y, hyd⟩ : ∃ y, ys.getD i 0 = y := ⟨_, rfl⟩
        rw [hxd] at hxl hcx
        rw [hyd] at hyl hye
        obtain ⟨a, s, p, P1, ha, ha2, hs, hsl, hp1, hp2, hp3, hp4, hp5⟩ := carry_parts hP hm hxl
        obtain ⟨b, t, r, M1, hb, hb2, ht, htl, hr1, hr2, hr3, hr4, hr5⟩ := carry_parts hM hn hyl
        obtain rfl : b = 0 := by rw [← hb, hye, Nat.mul_zero]
        obtain rfl : t = M := by omega
        obtain rfl : r = t := by omega
        have HD := Lib.hid (And.intro hxd (And.intro hyd (And.intro hp3 hr3)))
        have c1 : (((P : Int) + (a : Int)) % 4294967296 : Int) = (p : Int) := by omega
        clear hxd hyd hp3 hr3 ha hb
        clear hb2 hye
        go_wp2_with fail
        try rw [c1]
        try rw [c2]
        refine (sub32_any p r q _ hp4 hr4 hq).mono ?_
        rintro e w' ⟨rfl, d, q1, rfl, hd, hq1, he⟩
        have HE := Lib.hid he
        clear he
        go_wp2
        go_roundw
        case rel =>
          refine ⟨i + 1, P1, M1, q1, _, by go_num, ?_, ?_, rfl, by omega, mixing_step hmix hiL (by rw [HD.out.1]; exact HD.out.2.2.1) (by rw [HD.out.2.1]; exact HD.out.2.2.2) HE.out hd hp5 hr5 hq1, ?_, ?_⟩
          · congr 1; omega
          · congr 1; omega
          · simpa using hseg.set_ (j := i) (by rw [hmix.len]; omega) d
          · exact grown_trans hgr (grown_store _ _ _ _)
        case measure => simp [intOf]; omega
    · have hie : i = xs.length := by omega
      subst hie
      have htr := trim_any (some ⟨w.heap.size, 0, none⟩) xs.length zs wr (by obtain ⟨cur', hs1, _⟩ := hseg; exact hs1.nums) (by rw [hmix.len]; omega) (by rw [hmix.len]; exact Nat.le_refl _)
      rw [hmix.len] at htr
      have HT := Lib.hid htr
      clear htr
      go_wp2_with fail
      refine HT.out.mono ?_
      rintro e w4 ⟨rfl, k, rfl, hk, hz, hp⟩
      have HP := Lib.hid (And.intro hk (And.intro hz hp))
      clear hk hz hp
      go_wp2
      go_ret
      exact lims_of_trim ⟨k, rfl, HP.out⟩ (by obtain ⟨cur', hs1, _⟩ := hseg; exact hs1.nums) hmix.ok (by rw [hmix.len]; exact Nat.le_refl _) (mixing_end hmix (by omega) (by omega) HR.out.1 HR.out.2) (hb1.trans (grown_below hgr (Nat.le_refl _) hb1.size))

set_option maxRecDepth 100000 in
set_option maxHeartbeats 2000000 in
theorem mixed_y (A : Option Addr) (c : Nat) (xs : List Nat) (m : Nat) (A' : Option Addr) (c' : Nat) (ys : List Nat) (n R : Nat) (w : World) (hx : Nums w .u32 A xs) (hy : Nums w .u32 A' ys)
    (ox : Lm.Ok B32 xs) (oy : Lm.Ok B32 ys) (hl' : ys.length ≤ 400000) (hm : m ≤ 4294967295) (hn : n ≤ 4294967295) (hmax : xs.length < ys.length) (h0 : 0 < ys.length) (hR : R + n * Lm.val B32 ys = m * Lm.val B32 xs) (hRL : R < B32 ^ ys.length) :
    Calls Try.prog 137 #[.slice A xs.length c, .int .u64 m, .slice A' ys.length c', .int .u64 n] w fun e w' => IsLims w w' R e := by
  have HR := Lib.hid (And.intro hR hRL)
  obtain ⟨i0, hi0, hz0, hz1, hz2⟩ := info_parts Try.info99
  have HI := Lib.hid (And.intro hi0 (And.intro hz0 (And.intro hz1 hz2)))
  have HM := Lib.hid (show i0.bytes * ys.length ≤ 281474976710656 ∧ ys.length ≤ maxLen from ⟨by rw [hz2]; omega, by unfold maxLen; omega⟩)
  clear hi0 hz0 hz1 hz2 hR hRL
  go_enter Try.func137, Try.ntmps137
  go_wp2_with (at_make; go_loud (refine wpList_make_full _ rfl _ _ 22 rfl w.heap.size 99 i0 (.int .u32 0) 1 Try.underlying22 HI.out.1 HI.out.2.1 HI.out.2.2.1 _ _ _ _ ys.length rfl rfl (by omega) (by omega) HM.out.1 HM.out.2 (Nat.le_refl _) ?_); intro w1 hown1 hg1; rw [made_zero] at hown1; have HB := Lib.hid (own_block hown1); have hb1 : Below w.heap.size w w1 := (Below.refl _ _).grown hg1 (Nat.le_refl _) (fun k hk => by cases hk); clear hown1)
  have hz0 : Seg w1 w.heap.size 0 .u32 99 _ (List.replicate ys.length 0) := seg_of_block HB.out
  have hx1 := hx.below hb1
  have hy1 := hy.below hb1
  have hoffx : 0 < xs.length → Off A w.heap.size := fun hn => off_below hx hn (Nat.le_refl _)
  have hoffy : 0 < ys.length → Off A' w.heap.size := fun hn => off_below hy hn (Nat.le_refl _)
  clear hx hy HB HI HM
  go_loopw [10, 11, 12, 22] (fun pv mv qv iv wr => ∃ (i P M q : Nat) (zs : List Nat), iv = .int .i64 i ∧ pv = .int .u64 P ∧ mv = .int .u64 M ∧ qv = .int .u32 q ∧ i ≤ ys.length ∧ Mixing ys.length m n xs ys zs i P M q ∧ SegTo wr w.heap.size 0 .u32 99 (cellsOf .u32 (List.replicate ys.length 0)).toArray zs ∧ w1.grownBy wr (some w.heap.size)) (fun _ _ _ iv _ => ys.length - (intOf iv).toNat)
  case atStart =>
    exact ⟨0, 0, 0, 0, _, rfl, rfl, rfl, rfl, Nat.zero_le _, mixing_start _ _ _ _ _, .refl hz0, World.grownBy.refl _ _⟩
  case round =>
    obtain ⟨i, P, M, q, zs, rfl, rfl, rfl, rfl, hi, hmix, hseg, hgr⟩ := hrel
    have hP := hmix.hP
    have hM := hmix.hM
    have hq := hmix.hq
    by_cases hiL : i < ys.length
    · obtain ⟨cur', hs1, hs2, hs3⟩ := id hseg
      have hcz := hs1.cell (j := i) (by rw [hmix.len]; omega)
      have hfz := hs1.frozen (0 + i)
      rw [hmix.rest i (Nat.le_refl _)] at hcz
      simp only [Nat.zero_add] at hcz hfz
      have hxr := hx1.grown hgr hoffx
      have hyr := hy1.grown hgr hoffy
      clear hs1 hs2 hs3
      have hiy : i < ys.length := hiL
      by_cases hix : i < xs.length
      · obtain ⟨ax, rfl, _, hcell⟩ := hxr.at_ hix
        have hcx := hcell i hix
        have hxl := limb_lt ox i
        clear hcell
        obtain ⟨ay, rfl, _, hcell⟩ := hyr.at_ hiy
        have hcy := hcell i hiy
        have hyl := limb_lt oy i
        clear hcell
        obtain ⟨x, hxd⟩ : ∃ x, xs.getD i 0 = x := ⟨_, rfl⟩
        obtain ⟨y, hyd⟩ : ∃ y, ys.getD i 0 = y := ⟨_, rfl⟩
        rw [hxd] at hxl hcx
        rw [hyd] at hyl hcy
        obtain ⟨a, s, p, P1, ha, ha2, hs, hsl, hp1, hp2, hp3, hp4, hp5⟩ := carry_parts hP hm hxl
        obtain ⟨b, t, r, M1, hb, hb2, ht, htl, hr1, hr2, hr3, hr4, hr5⟩ := carry_parts hM hn hyl
        have HD := Lib.hid (And.intro hxd (And.intro hyd (And.intro hp3 hr3)))
        have c1 : (((P : Int) + (a : Int)) % 4294967296 : Int) = (p : Int) := by omega
        have c2 : (((M : Int) + (b : Int)) % 4294967296 : Int) = (r : Int) := by omega
        clear hxd hyd hp3 hr3 ha hb
        go_wp2_with fail
        try rw [c1]
        try rw [c2]
        refine (sub32_any p r q _ hp4 hr4 hq).mono ?_
        rintro e w' ⟨rfl, d, q1, rfl, hd, hq1, he⟩
        have HE := Lib.hid he
        clear he
        go_wp2
        go_roundw
        case rel =>
          refine ⟨i + 1, P1, M1, q1, _, by go_num, ?_, ?_, rfl, by omega, mixing_step hmix hiL (by rw [HD.out.1]; exact HD.out.2.2.1) (by rw [HD.out.2.1]; exact HD.out.2.2.2) HE.out hd hp5 hr5 hq1, ?_, ?_⟩
          · congr 1; omega
          · congr 1; omega
          · simpa using hseg.set_ (j := i) (by rw [hmix.len]; omega) d
          · exact grown_trans hgr (grown_store _ _ _ _)
        case measure => simp [intOf]; omega
      · have hxe : xs.getD i 0 = 0 := by rw [List.getD_eq_getElem?_getD, List.getElem?_eq_none (by omega)]; rfl
        have hxl : xs.getD i 0 < 4294967296 := by rw [hxe]; decide
        obtain ⟨ay, rfl, _, hcell⟩ := hyr.at_ hiy
        have hcy := hcell i hiy
        have hyl := limb_lt oy i
        clear hcell
        obtain ⟨x, hxd⟩ : ∃ x, xs.getD i 0 = x := ⟨_, rfl⟩
        obtain ⟨y, hyd⟩ : ∃ y, ys.getD i 0 = y := ⟨_, rfl⟩
        rw [hxd] at hxl hxe
        rw [hyd] at hyl hcy
        obtain ⟨a, s, p, P1, ha, ha2, hs, hsl, hp1, hp2, hp3, hp4, hp5⟩ := carry_parts hP hm hxl
        obtain ⟨b, t, r, M1, hb, hb2, ht, htl, hr1, hr2, hr3, hr4, hr5⟩ := carry_parts hM hn hyl
        obtain rfl : a = 0 := by rw [← ha, hxe, Nat.mul_zero]
        obtain rfl : s = P := by omega
        obtain rfl : p = s := by omega
        have HD := Lib.hid (And.intro hxd (And.intro hyd (And.intro hp3 hr3)))
        have c2 : (((M : Int) + (b : Int)) % 4294967296 : Int) = (r : Int) := by omega
        clear hxd hyd hp3 hr3 ha hb
        clear ha2 hxe
        go_wp2_with fail
        try rw [c1]
        try rw [c2]
        refine (sub32_any p r q _ hp4 hr4 hq).mono ?_
        rintro e w' ⟨rfl, d, q1, rfl, hd, hq1, he⟩
        have HE := Lib.hid he
        clear he
        go_wp2
        go_roundw
        case rel =>
          refine ⟨i + 1, P1, M1, q1, _, by go_num, ?_, ?_, rfl, by omega, mixing_step hmix hiL (by rw [HD.out.1]; exact HD.out.2.2.1) (by rw [HD.out.2.1]; exact HD.out.2.2.2) HE.out hd hp5 hr5 hq1, ?_, ?_⟩
          · congr 1; omega
          · congr 1; omega
          · simpa using hseg.set_ (j := i) (by rw [hmix.len]; omega) d
          · exact grown_trans hgr (grown_store _ _ _ _)
        case measure => simp [intOf]; omega
    · have hie : i = ys.length := by omega
      subst hie
      have htr := trim_any (some ⟨w.heap.size, 0, none⟩) ys.length zs wr (by obtain ⟨cur', hs1, _⟩ := hseg; exact hs1.nums) (by rw [hmix.len]; omega) (by rw [hmix.len]; exact Nat.le_refl _)
      rw [hmix.len] at htr
      have HT := Lib.hid htr
      clear htr
      go_wp2_with fail
      refine HT.out.mono ?_
      rintro e w4 ⟨rfl, k, rfl, hk, hz, hp⟩
      have HP := Lib.hid (And.intro hk (And.intro hz hp))
      clear hk hz hp
      go_wp2
      go_ret
      exact lims_of_trim ⟨k, rfl, HP.out⟩ (by obtain ⟨cur', hs1, _⟩ := hseg; exact hs1.nums) hmix.ok (by rw [hmix.len]; exact Nat.le_refl _) (mixing_end hmix (by omega) (by omega) HR.out.1 HR.out.2) (hb1.trans (grown_below hgr (Nat.le_refl _) hb1.size))

theorem mixed_any (A : Option Addr) (c : Nat) (xs : List Nat) (m : Nat) (A' : Option Addr) (c' : Nat) (ys : List Nat) (n R : Nat) (w : World) (hx : Nums w .u32 A xs) (hy : Nums w .u32 A' ys)
    (ox : Lm.Ok B32 xs) (oy : Lm.Ok B32 ys) (hl : xs.length ≤ 400000) (hl' : ys.length ≤ 400000) (hm : m ≤ 4294967295) (hn : n ≤ 4294967295) (h0 : 0 < ys.length) (hR : R + n * Lm.val B32 ys = m * Lm.val B32 xs) (hRL : R < B32 ^ xs.length ∨ R < B32 ^ ys.length) :
    Calls Try.prog 137 #[.slice A xs.length c, .int .u64 m, .slice A' ys.length c', .int .u64 n] w fun e w' => IsLims w w' R e := by
  rcases Nat.lt_or_ge xs.length ys.length with h | h
  · exact mixed_y A c xs m A' c' ys n R w hx hy ox oy hl' hm hn h h0 hR (hRL.elim (fun g => Nat.lt_of_lt_of_le g (Nat.pow_le_pow_right B32_pos (by omega))) id)
  · exact mixed_x A c xs m A' c' ys n R w hx hy ox oy hl hm hn (by omega) (by omega) hR (hRL.elim id (fun g => Nat.lt_of_lt_of_le g (Nat.pow_le_pow_right B32_pos (by omega))))
end Go.Proofs.Ytagocllbfbbneaa
