/- What bits.Sub32 and difference of package integer do. -/
import Derived.Test.YtagmdeabneapaaaSum
namespace Go.Proofs.Ytagmdeabneapaaa
open Go.RowKit

theorem top_bit (n : Nat) (h : n < 4294967296) : n / 2147483648 = (n.testBit 31).toNat := by
  have e : n.testBit 31 = decide (n / 2147483648 % 2 = 1) := Nat.testBit_eq_decide_div_mod_eq
  rw [e]
  have h2 : n / 2147483648 < 2 := by omega
  rcases Nat.lt_or_ge (n / 2147483648) 1 with h3 | h3
  · have : n / 2147483648 = 0 := by omega
    simp [this]
  · have : n / 2147483648 = 1 := by omega
    simp [this]
theorem bit31 (n : Nat) (h : n < 4294967296) : n.testBit 31 = decide (2147483648 ≤ n) := by
  have e : n.testBit 31 = decide (n / 2147483648 % 2 = 1) := Nat.testBit_eq_decide_div_mod_eq
  rw [e]
  congr 1
  apply propext
  omega
theorem or_lt32 {a b : Nat} (ha : a < 4294967296) (hb : b < 4294967296) : a ||| b < 4294967296 := Nat.or_lt_two_pow (n := 32) ha hb
theorem and_lt32 {a b : Nat} (hb : b < 4294967296) : a &&& b < 4294967296 := Nat.and_lt_two_pow (n := 32) a hb
theorem xor_lt32 {a b : Nat} (ha : a < 4294967296) (hb : b < 4294967296) : a ^^^ b < 4294967296 := Nat.xor_lt_two_pow (n := 32) ha hb
theorem borrow_bit (x y d q b : Nat) (hx : x < 4294967296) (hy : y < 4294967296) (hd : d < 4294967296) (hb : b ≤ 1) (hq : q ≤ 1) (h : d + y + b = x + 4294967296 * q) :
    (((4294967295 ^^^ x) &&& y) ||| ((4294967295 ^^^ (x ^^^ y)) &&& d)) / 2147483648 = q := by
  rw [top_bit _ (or_lt32 (and_lt32 hy) (and_lt32 hd))]
  simp only [Nat.testBit_or, Nat.testBit_and, Nat.testBit_xor, bit31 x hx, bit31 y hy, bit31 d hd, show Nat.testBit 4294967295 31 = true from by decide]
  by_cases h1 : 2147483648 ≤ x <;> by_cases h2 : 2147483648 ≤ y <;> by_cases h3 : 2147483648 ≤ d <;> simp [h1, h2, h3] <;> omega

theorem max_u32 : IntKind.u32.max = ((4294967295 : Nat) : Int) := by decide
theorem borrow_int (x y d q b : Nat) (hx : x < 4294967296) (hy : y < 4294967296) (hd : d < 4294967296) (hb : b ≤ 1) (hq : q ≤ 1) (h : d + y + b = x + 4294967296 * q) :
    bits .or .u32 (bits .and .u32 (bits .xor .u32 IntKind.u32.max (x : Int)) (y : Int)) (bits .and .u32 (bits .xor .u32 IntKind.u32.max (bits .xor .u32 (x : Int) (y : Int))) (((x : Int) - (y : Int) - (b : Int)) % 4294967296)) / 2147483648 = ((q : Nat) : Int) := by
  have e : ((x : Int) - (y : Int) - (b : Int)) % 4294967296 = ((d : Nat) : Int) := by omega
  have hm : 4294967295 < 4294967296 := by decide
  rw [e, max_u32, u32_xor_nat _ _ hm hx, u32_and_nat _ _ (xor_lt32 hm hx) hy, u32_xor_nat _ _ hx hy, u32_xor_nat _ _ hm (xor_lt32 hx hy), u32_and_nat _ _ (xor_lt32 hm (xor_lt32 hx hy)) hd,
    u32_or_nat _ _ (and_lt32 hy) (and_lt32 hd)]
  have := borrow_bit x y d q b hx hy hd hb hq h
  omega

theorem sub_parts (x y b : Nat) (hx : x < 4294967296) (hy : y < 4294967296) (hb : b ≤ 1) : ∃ d q : Nat, d < 4294967296 ∧ q ≤ 1 ∧ d + y + b = x + 4294967296 * q := by
  by_cases h : x < y + b
  · exact ⟨x + 4294967296 - y - b, 1, by omega, by omega, by omega⟩
  · exact ⟨x - y - b, 0, by omega, by omega, by omega⟩

def IsSub (w w' : World) (x y b : Nat) (e : Ending) : Prop := w = w' ∧ ∃ d q : Nat, e = .returned (.tuple #[.int .u32 d, .int .u32 q]) ∧ d < 4294967296 ∧ q ≤ 1 ∧ d + y + b = x + 4294967296 * q

set_option maxHeartbeats 1000000 in
theorem sub32_any (x y b : Nat) (w : World) (hx : x < 4294967296) (hy : y < 4294967296) (hb : b ≤ 1) :
    Calls Try.prog 123 #[.int .u32 x, .int .u32 y, .int .u32 b] w fun e w' => IsSub w w' x y b e := by
  obtain ⟨d, q, hd, hq, h⟩ := sub_parts x y b hx hy hb
  have h1 := borrow_int x y d q b hx hy hd hb hq h
  have h2 : ((x : Int) - (y : Int) - (b : Int)) % 4294967296 = ((d : Nat) : Int) := by omega
  have H := Lib.hid (And.intro h (And.intro h1 h2))
  clear h h1 h2
  go_enter Try.func123, Try.ntmps123
  go_wp2
  go_ret2
  refine ⟨rfl, d, q, ?_, hd, hq, H.out.1⟩
  have e : Ending.returned (.tuple #[.int .u32 (((x : Int) - (y : Int) - (b : Int)) % 4294967296), .int .u32 (bits .or .u32 (bits .and .u32 (bits .xor .u32 IntKind.u32.max (x : Int)) (y : Int)) (bits .and .u32 (bits .xor .u32 IntKind.u32.max (bits .xor .u32 (x : Int) (y : Int))) (((x : Int) - (y : Int) - (b : Int)) % 4294967296)) / 2147483648)]) = .returned (.tuple #[.int .u32 d, .int .u32 q]) := by
    rw [H.out.2.1, H.out.2.2]
  exact e

/-- The digits of a difference, as far as i: the digits zs, and a borrow q. -/
structure Dif (xs ys zs : List Nat) (i q : Nat) : Prop where
  len : zs.length = xs.length
  ok : Lm.Ok B32 zs
  rest : ∀ j, i ≤ j → zs.getD j 0 = xs.getD j 0
  num : Lm.val B32 zs + Lm.val B32 (ys.take i) = Lm.val B32 xs + B32 ^ i * q
  borrow : q ≤ 1

theorem dif_step {xs ys zs : List Nat} {i q d y r q' : Nat} (h : Dif xs ys zs i q) (hi : i < xs.length) (hd : zs.getD i 0 = d) (hr : r < 4294967296) (hq : q' ≤ 1) (he : r + y + q = d + 4294967296 * q')
    (hy : Lm.val B32 (ys.take (i + 1)) = Lm.val B32 (ys.take i) + B32 ^ i * y) : Dif xs ys (zs.set i r) (i + 1) q' := by
  have hs := Lm.val_set B32 zs i r (by rw [h.len]; exact hi)
  rw [hd] at hs
  refine ⟨by simpa using h.len, h.ok.set _ _ hr, fun j hj => ?_, ?_, hq⟩
  · rw [← h.rest j (by omega), List.getD_eq_getElem?_getD, List.getElem?_set, if_neg (by omega), ← List.getD_eq_getElem?_getD]
  · rw [hy, Nat.pow_succ]
    exact Lm.sub_step B32 (B32 ^ i) (Lm.val B32 zs) _ q d y r q' he hs _ _ h.num

theorem dif_end {xs ys zs : List Nat} {i : Nat} (h : Dif xs ys zs i 0) (hi : ys.length ≤ i) : Lm.val B32 zs = Lm.val B32 xs - Lm.val B32 ys := by
  have hn := h.num
  rw [List.take_of_length_le hi] at hn
  omega

theorem dif_room {xs ys zs : List Nat} {i q : Nat} (h : Dif xs ys zs i q) (hq : 0 < q) (hi : ys.length ≤ i) (hv : Lm.val B32 ys ≤ Lm.val B32 xs) : i < xs.length := by
  rcases Nat.lt_or_ge i xs.length with hlt | hge
  · exact hlt
  · have hn := h.num
    rw [List.take_of_length_le hi] at hn
    have h0 := Lm.val_lt h.ok
    rw [h.len] at h0
    have h1 : B32 ^ xs.length ≤ B32 ^ i := Nat.pow_le_pow_right B32_pos hge
    have h2 : B32 ^ i * 1 ≤ B32 ^ i * q := Nat.mul_le_mul_left _ hq
    omega

set_option maxRecDepth 100000 in
set_option maxHeartbeats 1000000 in
theorem difference_some (A : Option Addr) (c : Nat) (xs : List Nat) (A' : Option Addr) (c' : Nat) (ys : List Nat) (w : World) (hx : Nums w .u32 A xs) (hy : Nums w .u32 A' ys)
    (ox : Lm.Ok B32 xs) (oy : Lm.Ok B32 ys) (hl : xs.length ≤ 900000) (hle : ys.length ≤ xs.length) (hv : Lm.val B32 ys ≤ Lm.val B32 xs) (h0 : 0 < xs.length) :
    Calls Try.prog 87 #[.slice A xs.length c, .slice A' ys.length c'] w fun e w' => IsLims w w' (Lm.val B32 xs - Lm.val B32 ys) e := by
  have HV := Lib.hid hv
  clear hv
  go_enter Try.func87, Try.ntmps87
  go_wp2_with fail
  refine (clone_any A c xs w hx (by omega)).mono ?_
  rintro e w1 ⟨A1, c1, rfl, hown, hb1⟩
  obtain ⟨A2, c2, e2, hle2⟩ := own_form hown
  obtain ⟨rfl, rfl⟩ : A1 = A2 ∧ c1 = c2 := by injection e2 with a b c; exact ⟨a, c⟩
  clear e2
  obtain ⟨g, cur, rfl, hg, hseg0⟩ := seg_of_own hown h0
  have hy1 := hy.below hb1
  have hoff : 0 < ys.length → Off A' g := fun hn => off_below hy hn hg
  clear hown hx hy
  go_wp2_with fail
  go_loopw [6, 7, 8] (fun bv iv _ wr => ∃ (i q : Nat) (zs : List Nat), iv = .int .i64 i ∧ bv = .int .u32 q ∧ i ≤ xs.length ∧ Dif xs ys zs i q ∧ SegTo wr g 0 .u32 99 cur zs ∧ w1.grownBy wr (some g)) (fun _ iv _ _ => xs.length - (intOf iv).toNat)
  case atStart =>
    exact ⟨0, 0, xs, rfl, rfl, Nat.zero_le _, ⟨rfl, ox, fun _ _ => rfl, by simp [Lm.val], by omega⟩, .refl hseg0, World.grownBy.refl _ _⟩
  case round =>
    obtain ⟨i, q, zs, rfl, rfl, hi, hdif, hseg, hgr⟩ := hrel
    have hyr := hy1.grown hgr hoff
    have hq := hdif.borrow
    by_cases hiy : i < ys.length
    · obtain ⟨ad, rfl, _, hcell⟩ := hyr.at_ hiy
      have hcy := hcell i hiy
      clear hcell
      obtain ⟨cur', hs1, hs2, hs3⟩ := id hseg
      have hcz := hs1.cell (j := i) (by rw [hdif.len]; omega)
      have hfz := hs1.frozen (0 + i)
      have hdl := limb_lt hdif.ok i
      have hyl := limb_lt oy i
      obtain ⟨d, hd⟩ : ∃ d, zs.getD i 0 = d := ⟨_, rfl⟩
      obtain ⟨y, hyd⟩ : ∃ y, ys.getD i 0 = y := ⟨_, rfl⟩
      rw [hd] at hcz hdl
      rw [hyd] at hcy hyl
      simp only [Nat.zero_add] at hcz hfz
      have HD := Lib.hid hd
      have HY := Lib.hid hyd
      clear hd hyd hs1 hs2 hs3 hseg0
      go_wp2_with fail
      refine (sub32_any d y q _ hdl hyl hq).mono ?_
      rintro e w' ⟨rfl, r, q', rfl, hr, hq', he⟩
      have HE := Lib.hid he
      clear he
      go_wp2
      go_roundw
      case rel =>
        refine ⟨i + 1, _, _, by go_num, rfl, by omega, dif_step hdif (by omega) HD.out hr hq' HE.out (by rw [Lm.val_take_succ _ _ _ hiy, HY.out]), ?_, ?_⟩
        · simpa using hseg.set_ (j := i) (by rw [hdif.len]; omega) r
        · exact grown_trans hgr (grown_store _ _ _ _)
      case measure => simp [intOf]; omega
    · by_cases hq0 : q = 0
      · subst hq0
        have htr := trim_any (some ⟨g, 0, none⟩) c1 zs wr (by obtain ⟨cur', hs1, _⟩ := hseg; exact hs1.nums) (by rw [hdif.len]; omega) (by rw [hdif.len]; exact hle2)
        rw [hdif.len] at htr
        have HT := Lib.hid htr
        clear htr
        go_wp2_with fail
        refine HT.out.mono ?_
        rintro e w4 ⟨rfl, k, rfl, hk, hz, hp⟩
        have HP := Lib.hid (And.intro hk (And.intro hz hp))
        clear hk hz hp
        go_wp2
        go_ret
        exact lims_of_trim ⟨k, rfl, HP.out⟩ (by obtain ⟨cur', hs1, _⟩ := hseg; exact hs1.nums) hdif.ok (by rw [hdif.len]; exact hle2) (dif_end hdif (by omega)) (hb1.trans (grown_below hgr hg hb1.size))
      · have hroom := dif_room hdif (by omega) (by omega) HV.out
        obtain ⟨cur', hs1, hs2, hs3⟩ := id hseg
        have hcz := hs1.cell (j := i) (by rw [hdif.len]; omega)
        have hfz := hs1.frozen (0 + i)
        have hdl := limb_lt hdif.ok i
        obtain ⟨d, hd⟩ : ∃ d, zs.getD i 0 = d := ⟨_, rfl⟩
        rw [hd] at hcz hdl
        simp only [Nat.zero_add] at hcz hfz
        have HD := Lib.hid hd
        have hqp : 0 < q := by omega
        clear hd hs1 hs2 hs3 hseg0 hq0
        have h32 := sub32_any d 0 q wr hdl (by omega) hq
        have H32 := Lib.hid h32
        clear h32
        go_wp2_with fail
        refine H32.out.mono ?_
        rintro e w' ⟨rfl, r, q', rfl, hr, hq', he⟩
        have HE := Lib.hid he
        clear he
        go_wp2
        go_roundw
        case rel =>
          refine ⟨i + 1, _, _, by go_num, rfl, by omega, dif_step hdif (by omega) HD.out hr hq' HE.out (by rw [List.take_of_length_le (by omega), List.take_of_length_le (by omega)]; simp), ?_, ?_⟩
          · simpa using hseg.set_ (j := i) (by rw [hdif.len]; omega) r
          · exact grown_trans hgr (grown_store _ _ _ _)
        case measure => simp [intOf]; omega

set_option maxRecDepth 100000 in
set_option maxHeartbeats 1000000 in
theorem difference_none (A : Option Addr) (c : Nat) (A' : Option Addr) (c' : Nat) (w : World) :
    Calls Try.prog 87 #[.slice A 0 c, .slice A' 0 c'] w fun e w' => IsLims w w' 0 e := by
  have hcl := clone_any A c [] w (Nums.nil _ _ _) (by simp)
  have HC := Lib.hid hcl
  clear hcl
  go_enter Try.func87, Try.ntmps87
  go_wp2_with fail
  refine HC.out.mono ?_
  rintro e w1 ⟨A1, c1, rfl, hown, hb1⟩
  clear hown HC
  have htr := trim_any A1 c1 [] w1 (Nums.nil _ _ _) (by simp) (by simp)
  have HT := Lib.hid htr
  clear htr
  simp only [List.length_nil]
  go_wp2_with fail
  go_loop [6, 7] (fun q i => q = .int .u32 0 ∧ i = .int .i64 0) (fun _ _ => 0)
  case atStart => exact ⟨rfl, rfl⟩
  case round =>
    obtain ⟨rfl, rfl⟩ := hrel
    go_wp2_with fail
    refine HT.out.mono ?_
    rintro e w4 ⟨rfl, k, rfl, hk, hz, hp⟩
    have HP := Lib.hid (And.intro hk (And.intro hz hp))
    clear hk hz hp
    go_wp2
    go_ret
    exact lims_of_trim ⟨k, rfl, HP.out⟩ (Nums.nil _ _ _) (Lm.Ok.nil _) (by simp) rfl hb1

theorem difference_any (A : Option Addr) (c : Nat) (xs : List Nat) (A' : Option Addr) (c' : Nat) (ys : List Nat) (w : World) (hx : Nums w .u32 A xs) (hy : Nums w .u32 A' ys)
    (ox : Lm.Ok B32 xs) (oy : Lm.Ok B32 ys) (hl : xs.length ≤ 900000) (hle : ys.length ≤ xs.length) (hv : Lm.val B32 ys ≤ Lm.val B32 xs) :
    Calls Try.prog 87 #[.slice A xs.length c, .slice A' ys.length c'] w fun e w' => IsLims w w' (Lm.val B32 xs - Lm.val B32 ys) e := by
  rcases Nat.eq_zero_or_pos xs.length with h0 | h0
  · have hx0 : xs = [] := List.eq_nil_of_length_eq_zero h0
    have hy0 : ys = [] := List.eq_nil_of_length_eq_zero (by omega)
    subst hx0
    subst hy0
    exact difference_none A c A' c' w
  · exact difference_some A c xs A' c' ys w hx hy ox oy hl hle hv h0
end Go.Proofs.Ytagmdeabneapaaa
