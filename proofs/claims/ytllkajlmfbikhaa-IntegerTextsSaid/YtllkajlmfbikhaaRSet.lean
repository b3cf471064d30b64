/- What set of the reference does: one binary digit. -/
import Derived.Test.YtllkajlmfbikhaaRLen
namespace Go.Proofs.Ytllkajlmfbikhaa
open Go.RowKit
set_option linter.unusedSimpArgs false

/-- Is the binary digit i of n set? -/
def bitB (n i : Nat) : Bool := decide (n / 2 ^ i % 2 = 1)

theorem bit_far {n i : Nat} (h : n < 2 ^ i) : bitB n i = false := decide_eq_false (by rw [Nat.div_eq_of_lt h]; decide)
theorem bit_digit {ds : List Nat} {q r d : Nat} (hq : q < ds.length) (ho : Lm.Ok BD ds) (hr : r < 16) (hd : ds.getD q 0 = d) : Lm.val BD ds / 2 ^ (16 * q + r) % 2 = d / 2 ^ r % 2 := by
  have h1 := Lm.val_split BD ds q (by omega)
  have h2 := Lm.val_drop_pred BD ds q hq
  have h3 : Lm.val BD (ds.take q) < 2 ^ (16 * q) := by
    have := Lm.val_lt (ho.take q)
    rw [List.length_take, Nat.min_eq_left (by omega), BD_two] at this
    exact this
  rw [hd] at h2
  rw [BD_two] at h1
  have h4 : Lm.val BD ds / 2 ^ (16 * q) = Lm.val BD (ds.drop q) := by
    rw [h1, Nat.add_mul_div_left _ _ (Nat.two_pow_pos _), Nat.div_eq_of_lt h3, Nat.zero_add]
  rw [Nat.pow_add, ← Nat.div_div_eq_div_mul, h4, h2]
  have h5 : BD = 2 ^ r * (2 * 2 ^ (15 - r)) := by
    rw [← Nat.pow_succ', ← Nat.pow_add, show r + (15 - r + 1) = 16 by omega]
    rfl
  rw [h5, Nat.mul_assoc, Nat.add_mul_div_left _ _ (Nat.two_pow_pos r), Nat.mul_assoc]
  omega

set_option maxRecDepth 100000 in
set_option maxHeartbeats 2000000 in
theorem Rset_any (v : Value) (z : Int) (i m : Nat) (w : World) (h : RefAt w v z) (hm : m ≤ 1000000) (hz : z.natAbs < BD ^ m) (hi : i ≤ 20000000) : Calls Try.prog 105 #[v, .int .i64 (i : Int)] w fun e w' => IsBool w w' (bitB z.natAbs i) e := by
  obtain ⟨b, A, c, ds, rfl, hs, hd⟩ := h
  have hlen := Nat.le_trans (hd.len hz) hm
  have hbel : Below w.heap.size w (w.alloc (.cells #[.bool b, .slice A ds.length c] 31)) := (Below.refl _ _).alloc (Nat.le_refl _) _
  have i0 : (0 : Int) ≤ (i : Int) := Int.natCast_nonneg i
  have i1 : (i : Int) ≤ 20000000 := by omega
  by_cases hq : i / 16 < ds.length
  · obtain ⟨ad, rfl, hblk, hcell⟩ := hd.2.1 (by omega)
    have hcd0 := hcell (i / 16) hq
    have hcd := (World.cell?_alloc_lt w (.cells #[.bool b, .slice (some ad) ds.length c] 31) (ad.add (i / 16)) (by rw [block_of_add]; exact hblk)).trans hcd0
    have hlim := dig_lt hd.2.2.1 (i / 16)
    clear hcell hcd0
    obtain ⟨d, hdd⟩ : ∃ d, ds.getD (i / 16) 0 = d := ⟨_, rfl⟩
    have hbit := bit_digit (r := i % 16) hq hd.2.2.1 (Nat.mod_lt _ (by decide)) hdd
    rw [hd.2.2.2.2, Nat.div_add_mod] at hbit
    rw [hdd] at hcd hlim
    have hlt : (i : Int) / 16 < (ds.length : Int) := by omega
    have hidx : ((i : Int) / 16).toNat = i / 16 := by omega
    have hq0 : (0 : Int) ≤ (i : Int) / 16 := by omega
    have H := Lib.hid (And.intro hbit (And.intro hbel hlim))
    clear hdd hbit hlim hbel hd hs hz
    go_enter Try.func105, Try.ntmps105
    go_wp2
    go_loop [5, 6] (fun tv kv => ∃ k : Nat, k ≤ i % 16 ∧ tv = .int .i64 ((d / 2 ^ k : Nat) : Int) ∧ kv = .int .i64 k) (fun _ kv => i % 16 - (intOf kv).toNat)
    case atStart => exact ⟨0, Nat.zero_le _, by simp, rfl⟩
    case round =>
      obtain ⟨k, hk, rfl, rfl⟩ := hrel
      have htd : d / 2 ^ k < BD := Nat.lt_of_le_of_lt (Nat.div_le_self _ _) H.out.2.2
      have hnext : d / 2 ^ (k + 1) = d / 2 ^ k / 2 := by rw [Nat.pow_succ, Nat.div_div_eq_div_mul]
      by_cases hkk : k < i % 16
      · obtain ⟨t, ht⟩ : ∃ t, d / 2 ^ k = t := ⟨_, rfl⟩
        rw [ht] at htd hnext ⊢
        have t0 : (0 : Int) ≤ (t : Int) := Int.natCast_nonneg t
        have t1 : (t : Int) ≤ 65535 := by unfold BD at htd; omega
        have HN := Lib.hid hnext
        have hk2 : (k : Int) < (i : Int) % 16 := by omega
        clear ht htd hnext
        go_wp2
        go_round
        case rel => exact ⟨k + 1, by omega, congrArg (Value.int IntKind.i64) (by rw [HN.out]; omega), by go_num⟩
        case measure => simp [intOf]; omega
      · obtain rfl : k = i % 16 := by omega
        obtain ⟨t, ht⟩ : ∃ t, d / 2 ^ (i % 16) = t := ⟨_, rfl⟩
        have hb := H.out.1
        rw [ht] at htd hb ⊢
        have t0 : (0 : Int) ≤ (t : Int) := Int.natCast_nonneg t
        have t1 : (t : Int) ≤ 65535 := by unfold BD at htd; omega
        have hge : ¬ (((i % 16 : Nat) : Int) < (i : Int) % 16) := by omega
        clear ht htd hnext
        by_cases h1 : t % 2 = 1
        · have HT := Lib.hid (show bitB z.natAbs i = true from decide_eq_true (hb.trans h1))
          have hbt : ((t : Int) % 2 == 1) = true := by rw [beq_iff_eq]; omega
          clear h1 hb
          go_wp2
          go_ret
          exact ⟨by rw [HT.out]; rfl, H.out.2.1⟩
        · have HT := Lib.hid (show bitB z.natAbs i = false from decide_eq_false (fun e => h1 (hb.symm.trans e)))
          have hbt : ((t : Int) % 2 == 1) = false := by rw [beq_eq_false_iff_ne]; omega
          clear h1 hb
          go_wp2
          go_ret
          exact ⟨by rw [HT.out]; rfl, H.out.2.1⟩
  · have hle : (ds.length : Int) ≤ (i : Int) / 16 := by omega
    have hfar : bitB z.natAbs i = false := by
      refine bit_far ?_
      have := Lm.val_lt hd.2.2.1
      rw [hd.2.2.2.2, BD_two] at this
      exact Nat.lt_of_lt_of_le this (Nat.pow_le_pow_right (by decide) (by omega))
    have H := Lib.hid (And.intro hfar hbel)
    clear hfar hbel hd hs hz hq
    go_enter Try.func105, Try.ntmps105
    go_wp2
    go_ret
    exact ⟨by rw [H.out.1]; rfl, H.out.2⟩
end Go.Proofs.Ytllkajlmfbikhaa
