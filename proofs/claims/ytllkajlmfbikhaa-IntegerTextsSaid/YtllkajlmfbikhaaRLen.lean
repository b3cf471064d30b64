/- What width and Length of the reference do. -/
import Derived.Test.YtllkajlmfbikhaaRSub
namespace Go.Proofs.Ytllkajlmfbikhaa
open Go.RowKit
set_option linter.unusedSimpArgs false

theorem BD_two (k : Nat) : BD ^ k = 2 ^ (16 * k) := by rw [Nat.pow_mul]; rfl
theorem rval_last {xs : List Nat} (h : 0 < xs.length) : Lm.val BD xs = Lm.val BD (xs.take (xs.length - 1)) + 2 ^ (16 * (xs.length - 1)) * xs.getD (xs.length - 1) 0 := by
  rw [Lm.val_split BD xs (xs.length - 1) (by omega), Lm.drop_last_one h, BD_two]
  simp [Lm.val]
theorem rbl_val {xs : List Nat} (h : 0 < xs.length) (ho : Lm.Ok BD xs) (ht : Lm.Top xs) : bl (Lm.val BD xs) = 16 * (xs.length - 1) + bl (xs.getD (xs.length - 1) 0) := by
  rw [rval_last h]
  refine bl_shift _ _ _ ?_ (Lm.last_of_top h ht)
  have := Lm.val_lt (ho.take (xs.length - 1))
  rw [List.length_take, Nat.min_eq_left (by omega), BD_two] at this
  exact this

set_option maxRecDepth 100000 in
set_option maxHeartbeats 2000000 in
theorem Rwidth_any (v : Value) (z : Int) (m : Nat) (w : World) (h : RefAt w v z) (hm : m ≤ 1000000) (hz : z.natAbs < BD ^ m) : Calls Try.prog 79 #[v] w fun e w' => IsNum w w' (bl z.natAbs) e := by
  obtain ⟨b, A, c, ds, rfl, hs, hd⟩ := h
  have hlen := Nat.le_trans (hd.len hz) hm
  have hbel : Below w.heap.size w (w.alloc (.cells #[.bool b, .slice A ds.length c] 31)) := (Below.refl _ _).alloc (Nat.le_refl _) _
  by_cases h0 : 0 < ds.length
  · obtain ⟨ad, rfl, hblk, hcell⟩ := hd.2.1 h0
    have hcd0 := hcell (ds.length - 1) (by omega)
    have hcd := (World.cell?_alloc_lt w (.cells #[.bool b, .slice (some ad) ds.length c] 31) (ad.add (ds.length - 1)) (by rw [block_of_add]; exact hblk)).trans hcd0
    have hlim := dig_lt hd.2.2.1 (ds.length - 1)
    have hbl := rbl_val h0 hd.2.2.1 hd.2.2.2.1
    rw [hd.2.2.2.2] at hbl
    clear hcell hcd0
    obtain ⟨d, hdd⟩ : ∃ d, ds.getD (ds.length - 1) 0 = d := ⟨_, rfl⟩
    rw [hdd] at hcd hlim hbl
    have hne : ((ds.length : Int) == 0) = false := by rw [beq_eq_false_iff_ne]; omega
    have hidx : ((ds.length : Int) - 1).toNat = ds.length - 1 := by omega
    have hi0 : (0 : Int) ≤ (ds.length : Int) - 1 := by omega
    have hb16 : bl d ≤ 16 := bl_le.mpr hlim
    have H := Lib.hid (And.intro hbl (And.intro hbel (And.intro hlim hb16)))
    clear hdd hbl hlim hbel hb16 hd hs hz
    go_enter Try.func79, Try.ntmps79
    go_wp2
    go_loop [3, 4] (fun nv tv => ∃ n t : Nat, nv = .int .i64 n ∧ tv = .int .i64 t ∧ n + bl t = bl z.natAbs ∧ t < BD) (fun _ tv => (intOf tv).toNat)
    case atStart => exact ⟨16 * (ds.length - 1), d, congrArg (Value.int IntKind.i64) (by omega), rfl, by rw [H.out.1], H.out.2.2.1⟩
    case round =>
      obtain ⟨n, t, rfl, rfl, hsum, hlt⟩ := hrel
      have htot : bl z.natAbs ≤ 16000016 := by have := H.out.1; have := H.out.2.2.2; omega
      have n0 : (0 : Int) ≤ (n : Int) := Int.natCast_nonneg n
      have n1 : (n : Int) ≤ 16000016 := by omega
      have t0 : (0 : Int) ≤ (t : Int) := Int.natCast_nonneg t
      have t1 : (t : Int) ≤ 65535 := by unfold BD at hlt; omega
      by_cases hp : 0 < t
      · have HS := Lib.hid (And.intro hsum (And.intro hlt (bl_half (show t ≠ 0 by omega))))
        have hp' : (0 : Int) < (t : Int) := by omega
        clear hsum hlt htot
        go_wp2
        go_round
        case rel => exact ⟨n + 1, t / 2, by go_num, congrArg (Value.int IntKind.i64) (by omega), by have := HS.out.1; have := HS.out.2.2; omega, Nat.lt_of_le_of_lt (Nat.div_le_self _ _) HS.out.2.1⟩
        case measure => simp [intOf]; omega
      · obtain rfl : t = 0 := by omega
        have HS := Lib.hid hsum
        clear hsum hlt htot
        go_wp2
        go_ret
        refine ⟨congrArg Ending.returned (congrArg (Value.int IntKind.i64) ?_), H.out.2.1⟩
        have := HS.out
        rw [bl_zero] at this
        omega
  · have hz0 : ds = [] := by cases ds with
      | nil => rfl
      | cons a l => simp at h0
    subst hz0
    have hn : z.natAbs = 0 := hd.2.2.2.2.symm
    have H := Lib.hid (And.intro hn hbel)
    clear hn hbel hd hs hz
    go_enter Try.func79, Try.ntmps79
    go_wp2
    go_ret
    exact ⟨by rw [H.out.1]; rfl, H.out.2⟩

theorem mag_neg {z : Int} (h : z < 0) : (z + 1).natAbs = magOf z := by unfold magOf; rw [if_pos h]; omega
theorem mag_pos {z : Int} (h : 0 ≤ z) : z.natAbs = magOf z := by unfold magOf; rw [if_neg (by omega)]

set_option maxRecDepth 100000 in
set_option maxHeartbeats 2000000 in
theorem RLength_any (v : Value) (z : Int) (m : Nat) (w : World) (h : RefAt w v z) (hm0 : 0 < m) (hm : m ≤ 900000) (hz : z.natAbs < BD ^ m) : Calls Try.prog 27 #[v] w fun e w' => IsNum w w' (bl (magOf z)) e := by
  obtain ⟨b, A, c, ds, rfl, hs, hd⟩ := h
  have hbel : Below w.heap.size w (w.alloc (.cells #[.bool b, .slice A ds.length c] 31)) := (Below.refl _ _).alloc (Nat.le_refl _) _
  have hx0 := Two.new w (.bool b) (.slice A ds.length c) 31
  have hat : RefAt (w.alloc (.cells #[.bool b, .slice A ds.length c] 31)) (.agg #[.bool b, .slice A ds.length c]) z := ⟨b, A, c, ds, rfl, hs, hd.below hbel⟩
  cases b
  · have hp := mag_pos (sign_of_pos hs)
    have H := Lib.hid (And.intro (Rwidth_any _ z m _ hat (by omega) hz) (And.intro hbel hp))
    clear hp hbel hx0 hat hd hs hz
    go_enter Try.func27, Try.ntmps27
    go_wp2_with fail
    refine H.out.1.mono ?_
    rintro e w1 ⟨rfl, hb1⟩
    go_wp2
    go_ret
    exact ⟨by rw [← H.out.2.2]; rfl, below_then H.out.2.1 hb1⟩
  · have hneg := sign_of_neg hs
    have hp := mag_neg hneg
    have hfit : (z + 1).natAbs < BD ^ m := by omega
    have hfit2 : (1 : Int).natAbs < BD ^ m := Nat.lt_of_lt_of_le (by decide : (1 : Int).natAbs < BD ^ 1) (Nat.pow_le_pow_right BD_pos hm0)
    have hfit1 : (z + 1).natAbs < BD ^ m := hfit
    have H := Lib.hid (And.intro hz (And.intro hbel (And.intro hp (And.intro hfit1 (And.intro hfit2 hm)))))
    obtain ⟨c0, c1⟩ := id hx0
    clear hp hbel hd hs hz hneg hfit hfit1 hfit2 hm0
    go_enter Try.func27, Try.ntmps27
    go_wp2_with fail
    go_region_held3 (fun w' => w'.cell? ⟨w.heap.size, 0, none⟩ = some (.bool true) ∧ w'.cell? ⟨w.heap.size, 1, none⟩ = some (.slice A ds.length c))
      (((try dsimp only); (repeat' apply And.intro) <;> (first | (with_reducible assumption) | go_keep)))
      ((first
        | (go_at_call 18; refine (RNew_pos 1 _ (by decide)).mono ?_; rintro e w1 ⟨v1, rfl, hi1, hb1⟩; have hat1 := hat.step hb1 rfl; have k1 := hx0.step hb1 rfl (by simp); have bl1 := begun_then H.out.2.1 hb1 rfl rfl rfl rfl; have hsz1 : w.heap.size < w1.heap.size := Nat.lt_of_lt_of_le (show w.heap.size < _ from (by simp)) hb1.size; obtain ⟨p0, p1⟩ := id k1)
        | (go_at_call 39; refine (RAdd_any _ _ z 1 m _ (by exact hat1) (by exact hi1) H.out.2.2.2.2.2 H.out.1 H.out.2.2.2.2.1).mono ?_; rintro e w2 ⟨v2, rfl, hi2, hb2⟩; have k2 := k1.step hb2 rfl hsz1; have bl2 := begun_then bl1 hb2 rfl rfl rfl rfl; have hsz2 := Nat.lt_of_lt_of_le hsz1 hb2.size; obtain ⟨q0, q1⟩ := id k2)
        | (go_at_call 79; refine (Rwidth_any _ (z + 1) m _ (by exact hi2) (Nat.le_trans H.out.2.2.2.2.2 (by decide)) H.out.2.2.2.1).mono ?_; rintro e w3 ⟨rfl, hb3⟩; have k3 := k2.step hb3 rfl hsz2; have bl3 := begun_then bl2 hb3 rfl rfl rfl rfl; obtain ⟨r0, r1⟩ := id k3)))
    go_wp2
    go_ret
    exact ⟨by rw [← H.out.2.2.1]; rfl, bl3⟩
end Go.Proofs.Ytllkajlmfbikhaa
