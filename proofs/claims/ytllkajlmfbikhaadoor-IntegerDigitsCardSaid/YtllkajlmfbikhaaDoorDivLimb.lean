/- What bits.Div32 and divideByLimb of package integer do. -/
import Derived.Test.YtllkajlmfbikhaaDoorBaseB
namespace Go.Proofs.YtllkajlmfbikhaaDoor
open Go.RowKit

theorem SegTo.drewN {w : World} {g off : Nat} {k : IntKind} {e : TypeId} {cur : Array Value} {xs : List Nat} (h : SegTo w g off k e cur xs) (n : Nat) : SegTo (w.drewN n) g off k e cur xs := by
  obtain ⟨c, h1, h2, h3⟩ := h
  exact ⟨c, ⟨h1.blk, h1.fit, h1.at_⟩, h2, h3⟩
theorem grown_drewN {a w : World} {row : Option Nat} (h : a.grownBy w row) (n : Nat) : a.grownBy (w.drewN n) row := ⟨h.os, h.tape, h.output, h.size, h.block⟩

theorem join_limbs (hi lo : Nat) (hlo : lo < 4294967296) : hi * 4294967296 ||| lo = hi * 4294967296 + lo := by
  have h := Nat.two_pow_add_eq_or_of_lt (i := 32) (b := lo) hlo hi
  rw [Nat.mul_comm] at h
  exact h.symm
theorem join_int (hi lo : Nat) (hhi : hi < 4294967296) (hlo : lo < 4294967296) : bits .or .u64 ((hi : Int) * 4294967296) (lo : Int) = ((hi * 4294967296 + lo : Nat) : Int) := by
  rw [show ((hi : Int) * 4294967296) = ((hi * 4294967296 : Nat) : Int) from by omega, u64_or_nat _ _ (by omega) (by omega), join_limbs hi lo hlo]

/-- A limb of a quotient, and the rest. -/
def IsDiv (w w' : World) (n y : Nat) (e : Ending) : Prop := Drew w w' ∧ e = .returned (.tuple #[.int .u32 ((n / y : Nat) : Int), .int .u32 ((n % y : Nat) : Int)])

set_option maxRecDepth 100000 in
set_option maxHeartbeats 1000000 in
theorem div32_any (hi lo y : Nat) (w : World) (hlo : lo < 4294967296) (hy : y < 4294967296) (h : hi < y) :
    Calls Tryd.prog 74 #[.int .u32 hi, .int .u32 lo, .int .u32 y] w fun e w' => IsDiv w w' (hi * 4294967296 + lo) y e := by
  obtain ⟨n, hn⟩ : ∃ n, hi * 4294967296 + lo = n := ⟨_, rfl⟩
  have hj := join_int hi lo (by omega) hlo
  rw [hn] at hj ⊢
  have hq : n / y < 4294967296 := by
    rw [Nat.div_lt_iff_lt_mul (by omega)]
    have := Nat.mul_le_mul_left 4294967296 (show hi + 1 ≤ y from h)
    omega
  have hr : n % y < 4294967296 := Nat.lt_trans (Nat.mod_lt _ (by omega)) hy
  have q1 : (0 : Int) ≤ (n : Int) / (y : Int) := Int.ediv_nonneg (by omega) (by omega)
  have q2 : (n : Int) / (y : Int) ≤ 4294967295 := by rw [← Int.natCast_ediv]; omega
  have r1 : (0 : Int) ≤ (n : Int) % (y : Int) := Int.emod_nonneg _ (by omega)
  have r2 : (n : Int) % (y : Int) ≤ 4294967295 := by rw [← Int.natCast_emod]; omega
  have hy1 : (1 : Int) ≤ (y : Int) := by omega
  have hne : ((y : Int) != 0) = true := by rw [bne_iff_ne]; omega
  have hne' : ¬ (y : Int) = 0 := by omega
  clear hn hq hr
  go_enter Tryd.func74, Tryd.ntmps74
  go_wp2
  go_quiet (fail)
  go_wp2
  go_ret2
  exact ⟨.mk _ _, rfl⟩

/-- The digits of a quotient by one limb, from the top down to i: the digits zs from i on, and the rest r. -/
structure Quo (xs zs : List Nat) (y i r : Nat) : Prop where
  len : zs.length = xs.length
  ok : Lm.Ok B32 zs
  num : y * Lm.val B32 (zs.drop i) + r = Lm.val B32 (xs.drop i)
  rest : r < y

theorem quo_step {xs zs : List Nat} {y i r x : Nat} (h : Quo xs zs y (i + 1) r) (hi : i < xs.length) (hx : xs.getD i 0 = x) (hxl : x < 4294967296) (hy : y < 4294967296) :
    Quo xs (zs.set i ((r * 4294967296 + x) / y)) y i ((r * 4294967296 + x) % y) := by
  have hr := h.rest
  have hq : (r * 4294967296 + x) / y < 4294967296 := by
    rw [Nat.div_lt_iff_lt_mul (by omega)]
    have := Nat.mul_le_mul_left 4294967296 (show r + 1 ≤ y from hr)
    omega
  refine ⟨by simpa using h.len, h.ok.set _ _ hq, ?_, Nat.mod_lt _ (by omega)⟩
  have hl := h.len
  rw [Lm.val_drop_pred _ _ i (by simpa using (by omega : i < zs.length)), Lm.val_drop_pred _ _ i hi, hx, List.drop_set, if_pos (by omega)]
  have hg : (zs.set i ((r * 4294967296 + x) / y)).getD i 0 = (r * 4294967296 + x) / y := by
    rw [List.getD_eq_getElem?_getD, List.getElem?_set, if_pos rfl, if_pos (by omega)]; rfl
  rw [hg, ← h.num]
  have hd := Nat.div_add_mod (r * 4294967296 + x) y
  rw [Nat.mul_add, Nat.mul_add, Nat.mul_left_comm y B32]
  unfold B32 at *
  omega

theorem quo_end {xs zs : List Nat} {y r : Nat} (h : Quo xs zs y 0 r) : Lm.val B32 zs = Lm.val B32 xs / y ∧ r = Lm.val B32 xs % y := by
  have hn := h.num
  have hr := h.rest
  simp only [List.drop_zero] at hn
  rw [← hn]
  constructor
  · rw [Nat.mul_add_div (by omega), Nat.div_eq_of_lt hr, Nat.add_zero]
  · rw [Nat.mul_add_mod, Nat.mod_eq_of_lt hr]

/-- A quotient and a rest of one limb. -/
def IsQuo (w w' : World) (n y : Nat) (e : Ending) : Prop := ∃ A c zs, e = .returned (.tuple #[.slice A zs.length c, .int .u32 ((n % y : Nat) : Int)]) ∧ Limbs w' A c zs (n / y) ∧ Below w.heap.size w w'

set_option maxRecDepth 100000 in
set_option maxHeartbeats 1000000 in
theorem divideByLimb_any (A : Option Addr) (c : Nat) (xs : List Nat) (y : Nat) (w : World) (hx : Nums w .u32 A xs) (ox : Lm.Ok B32 xs) (hl : xs.length ≤ 900000) (hy0 : 0 < y) (hy : y < 4294967296) :
    Calls Tryd.prog 51 #[.slice A xs.length c, .int .u32 y] w fun e w' => IsQuo w w' (Lm.val B32 xs) y e := by
  obtain ⟨i0, hi0, hz0, hz1, hz2⟩ := info_parts Tryd.info86
  have HI := Lib.hid (And.intro hi0 (And.intro hz0 (And.intro hz1 hz2)))
  have HM := Lib.hid (show i0.bytes * xs.length ≤ 281474976710656 ∧ xs.length ≤ maxLen from ⟨by rw [hz2]; omega, by unfold maxLen; omega⟩)
  clear hi0 hz0 hz1 hz2
  go_enter Tryd.func51, Tryd.ntmps51
  go_wp2_with (at_make; go_loud (refine wpList_make_full _ rfl _ _ 22 rfl w.heap.size 86 i0 (.int .u32 0) 1 Tryd.underlying22 HI.out.1 HI.out.2.1 HI.out.2.2.1 _ _ _ _ xs.length rfl rfl (by omega) (by omega) HM.out.1 HM.out.2 (Nat.le_refl _) ?_); intro w1 hown1 hg1; rw [made_zero] at hown1; have HB := Lib.hid (own_block hown1); have hb1 : Below w.heap.size w w1 := (Below.refl _ _).grown hg1 (Nat.le_refl _) (fun k hk => by cases hk); clear hown1)
  have hz0 : Seg w1 w.heap.size 0 .u32 86 _ (List.replicate xs.length 0) := seg_of_block HB.out
  have hx1 := hx.below hb1
  have hoffx : 0 < xs.length → Off A w.heap.size := fun hn => off_below hx hn (Nat.le_refl _)
  clear hx HB HI HM
  go_loopw [7, 8] (fun rv iv wr => ∃ (i r : Nat) (zs : List Nat), iv = .int .i64 ((i : Int) - 1) ∧ rv = .int .u32 r ∧ i ≤ xs.length ∧ Quo xs zs y i r ∧ SegTo wr w.heap.size 0 .u32 86 (cellsOf .u32 (List.replicate xs.length 0)).toArray zs ∧ w1.grownBy wr (some w.heap.size)) (fun _ iv _ => (intOf iv + 1).toNat)
  case atStart =>
    exact ⟨xs.length, 0, _, rfl, rfl, Nat.le_refl _, ⟨by simp, Lm.Ok.zeros B32_pos _, by simp [Lm.val], hy0⟩, .refl hz0, World.grownBy.refl _ _⟩
  case round =>
    obtain ⟨i, r, zs, rfl, rfl, hi, hquo, hseg, hgr⟩ := hrel
    by_cases h0 : 0 < i
    · obtain ⟨j, rfl⟩ : ∃ j, i = j + 1 := ⟨i - 1, by omega⟩
      rw [show (((j + 1 : Nat) : Int) - 1) = (j : Int) from by omega]
      have hxr := hx1.grown hgr hoffx
      obtain ⟨ax, rfl, _, hcell⟩ := hxr.at_ (j := j) (by omega)
      have hcx := hcell j (by omega)
      have hxl := limb_lt ox j
      obtain ⟨x, hxd⟩ : ∃ x, xs.getD j 0 = x := ⟨_, rfl⟩
      rw [hxd] at hcx hxl
      obtain ⟨cur', hs1, hs2, hs3⟩ := id hseg
      have hcz := hs1.cell (j := j) (by rw [hquo.len]; omega)
      have hfz := hs1.frozen (0 + j)
      simp only [Nat.zero_add] at hcz hfz
      have hrl := hquo.rest
      have HD := Lib.hid hxd
      clear hxd hs1 hs2 hs3 hcell hz0
      go_wp2_with fail
      refine (div32_any r x y _ hxl hy hrl).mono ?_
      rintro e w' ⟨⟨n, rfl⟩, rfl⟩
      go_wp2
      go_roundw
      case rel =>
        refine ⟨j, _, _, rfl, rfl, by omega, quo_step hquo (by omega) HD.out hxl hy, ?_, ?_⟩
        · exact (hseg.drewN n).set0 (j := j) (by rw [hquo.len]; omega) _
        · exact grown_trans (grown_drewN hgr n) (grown_store (wr.drewN n) _ _ _)
      case measure => simp [intOf]
    · obtain rfl : i = 0 := by omega
      obtain ⟨hnum, rfl⟩ := quo_end hquo
      have htr := trim_any (some ⟨w.heap.size, 0, none⟩) xs.length zs wr (by obtain ⟨cur', hs1, _⟩ := hseg; exact hs1.nums) (by rw [hquo.len]; omega) (by rw [hquo.len]; exact Nat.le_refl _)
      rw [hquo.len] at htr
      have HT := Lib.hid (And.intro htr hnum)
      clear htr hnum
      go_wp2_with fail
      refine HT.out.1.mono ?_
      rintro e w4 ⟨rfl, k, rfl, hk, hz, hp⟩
      have HP := Lib.hid (And.intro hk (And.intro hz hp))
      clear hk hz hp
      go_wp2
      go_ret2
      obtain ⟨A3, c3, zs3, he, hl3, hb3⟩ := lims_of_trim (w := w) (n := Lm.val B32 xs / y) ⟨k, rfl, HP.out⟩ (by obtain ⟨cur', hs1, _⟩ := hseg; exact hs1.nums) hquo.ok (by rw [hquo.len]; exact Nat.le_refl _) HT.out.2 (hb1.trans (grown_below hgr (Nat.le_refl _) hb1.size))
      injection he with he
      injection he with h1 h2 h3
      exact ⟨A3, c3, zs3, by rw [← h1, ← h2, ← h3]; rfl, hl3, hb3⟩
end Go.Proofs.YtllkajlmfbikhaaDoor
