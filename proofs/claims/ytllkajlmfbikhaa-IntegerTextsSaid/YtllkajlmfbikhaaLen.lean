/- What width, Length, Count and Odd of package integer do. -/
import Derived.Test.YtllkajlmfbikhaaBits
import Derived.Test.YtllkajlmfbikhaaMag
namespace Go.Proofs.Ytllkajlmfbikhaa
open Go.RowKit

theorem B32_pow (k : Nat) : B32 ^ k = 2 ^ (32 * k) := by rw [Nat.pow_mul]; rfl
theorem last_lt {xs : List Nat} (ho : Lm.Ok B32 xs) (k : Nat) : xs.getD k 0 < B32 := ho.getD B32_pos k
theorem val_last {xs : List Nat} (h : 0 < xs.length) : Lm.val B32 xs = Lm.val B32 (xs.take (xs.length - 1)) + 2 ^ (32 * (xs.length - 1)) * xs.getD (xs.length - 1) 0 := by
  rw [Lm.val_split B32 xs (xs.length - 1) (by omega), Lm.drop_last_one h, B32_pow]
  simp [Lm.val]
theorem bl_val {xs : List Nat} (h : 0 < xs.length) (ho : Lm.Ok B32 xs) (ht : Lm.Top xs) : bl (Lm.val B32 xs) = 32 * (xs.length - 1) + bl (xs.getD (xs.length - 1) 0) := by
  rw [val_last h]
  refine bl_shift _ _ _ ?_ (Lm.last_of_top h ht)
  have := Lm.val_lt (ho.take (xs.length - 1))
  rw [List.length_take, Nat.min_eq_left (by omega), B32_pow] at this
  exact this
theorem ones_take {xs : List Nat} {k : Nat} (ho : Lm.Ok B32 xs) (hk : k < xs.length) : ones (Lm.val B32 (xs.take (k + 1))) = ones (Lm.val B32 (xs.take k)) + ones (xs.getD k 0) := by
  rw [Lm.val_take_succ B32 xs k hk, B32_pow]
  refine ones_join _ _ _ ?_
  have := Lm.val_lt (ho.take k)
  rw [List.length_take, Nat.min_eq_left (by omega), B32_pow] at this
  exact this
theorem ones_part {xs : List Nat} {k : Nat} (ho : Lm.Ok B32 xs) (hk : k ≤ xs.length) : ones (Lm.val B32 (xs.take k)) ≤ 32 * k := by
  refine ones_le ?_
  have := Lm.val_lt (ho.take k)
  rw [List.length_take, Nat.min_eq_left hk, B32_pow] at this
  exact this

set_option maxRecDepth 100000 in
set_option maxHeartbeats 1000000 in
theorem width_any (A : Option Addr) (c n : Nat) (zs : List Nat) (w : World) (h : Limbs w A c zs n) (hl : zs.length ≤ 1000000) :
    Calls Try.prog 77 #[.slice A zs.length c] w fun e w' => e = .returned (.int .i64 (bl n : Int)) ∧ w = w' := by
  by_cases h0 : 0 < zs.length
  · obtain ⟨ad, rfl, _, hcell⟩ := h.2.1 h0
    have hcd := hcell (zs.length - 1) (by omega)
    have hlim := last_lt h.2.2.1 (zs.length - 1)
    have hbl := bl_val h0 h.2.2.1 h.2.2.2.1
    rw [h.2.2.2.2] at hbl
    clear hcell
    obtain ⟨d, hd⟩ : ∃ d, zs.getD (zs.length - 1) 0 = d := ⟨_, rfl⟩
    rw [hd] at hcd hlim hbl
    have hb32 : bl d ≤ 32 := bl_le.mpr hlim
    have HD := Lib.hid (And.intro hbl (len32_any d w hlim))
    have hne : ((zs.length : Int) == 0) = false := by rw [beq_eq_false_iff_ne]; omega
    have hb0 : (0 : Int) ≤ (bl d : Int) := Int.natCast_nonneg _
    have hb1 : (bl d : Int) ≤ 32 := by omega
    have hidx : ((zs.length : Int) - 1).toNat = zs.length - 1 := by omega
    have hi0 : (0 : Int) ≤ (zs.length : Int) - 1 := by omega
    clear hd hbl hlim h hb32
    go_enter Try.func77, Try.ntmps77
    go_wp2_with fail
    refine HD.out.2.mono ?_
    rintro e w' ⟨rfl, rfl⟩
    go_wp2
    go_ret
    refine ⟨congrArg Ending.returned (congrArg (Value.int IntKind.i64) ?_), rfl⟩
    rw [HD.out.1]
    omega
  · have hz : zs = [] := by cases zs with
      | nil => rfl
      | cons a l => simp at h0
    subst hz
    have hn : n = 0 := h.2.2.2.2.symm
    subst hn
    go_enter Try.func77, Try.ntmps77
    go_wp2
    go_ret
    exact ⟨rfl, rfl⟩

theorem mag_le (z : Int) : magOf z ≤ z.natAbs := by unfold magOf; split <;> omega

set_option maxRecDepth 100000 in
set_option maxHeartbeats 1000000 in
theorem Length_any (v : Value) (z : Int) (m : Nat) (w : World) (h : IntAt w v z) (hm : m ≤ 900000) (hz : z.natAbs < B32 ^ m) : Calls Try.prog 26 #[v] w fun e w' => IsNum w w' (bl (magOf z)) e := by
  obtain ⟨b, A, c, zs, rfl, hs, hl⟩ := h
  have hlen := Nat.le_trans (hl.len hz) hm
  have hbelow : Below w.heap.size w (w.alloc (.cells #[.bool b, .slice A zs.length c] 28)) := (Below.refl _ _).alloc (Nat.le_refl _) _
  have H := Lib.hid (And.intro (magnitude_ints b A c zs z _ hs (hl.below hbelow) hlen) hbelow)
  have HZ := Lib.hid hz
  clear hbelow hz
  go_enter Try.func26, Try.ntmps26
  go_wp2_with fail
  refine H.out.1.mono ?_
  rintro e w1 ⟨A1, c1, zs1, rfl, hl1, hb1⟩
  go_wp2_with fail
  refine (width_any A1 c1 _ zs1 w1 hl1 (Nat.le_trans (hl1.len (Nat.lt_of_le_of_lt (mag_le z) HZ.out)) (by omega))).mono ?_
  rintro e w' ⟨rfl, rfl⟩
  go_wp2
  go_ret
  exact ⟨rfl, below_then H.out.2 hb1⟩

set_option maxRecDepth 100000 in
set_option maxHeartbeats 1000000 in
theorem Count_any (v : Value) (z : Int) (m : Nat) (w : World) (h : IntAt w v z) (hm : m ≤ 900000) (hz : z.natAbs < B32 ^ m) : Calls Try.prog 28 #[v] w fun e w' => IsNum w w' (ones (magOf z)) e := by
  obtain ⟨b, A, c, zs, rfl, hs, hl⟩ := h
  have hlen := Nat.le_trans (hl.len hz) hm
  have hbelow : Below w.heap.size w (w.alloc (.cells #[.bool b, .slice A zs.length c] 28)) := (Below.refl _ _).alloc (Nat.le_refl _) _
  have H := Lib.hid (And.intro (magnitude_ints b A c zs z _ hs (hl.below hbelow) hlen) hbelow)
  have HZ := Lib.hid hz
  clear hbelow hz
  go_enter Try.func28, Try.ntmps28
  go_wp2_with fail
  refine H.out.1.mono ?_
  rintro e w1 ⟨A1, c1, zs1, rfl, hl1, hb1⟩
  have hlen1 := Nat.le_trans (hl1.len (Nat.lt_of_le_of_lt (mag_le z) HZ.out)) hm
  have HB := Lib.hid (below_then H.out.2 hb1)
  have HL := Lib.hid hl1
  clear hb1 hl1 hl
  go_wp2
  go_loopw [3, 9] (fun nv iv wr => ∃ k n : Nat, iv = .int .i64 k ∧ k ≤ zs1.length ∧ nv = .int .i64 ((ones (Lm.val B32 (zs1.take k)) : Nat) : Int) ∧ wr = w1.drewN n) (fun _ iv _ => zs1.length - (intOf iv).toNat)
  case atStart => exact ⟨0, 0, rfl, Nat.zero_le _, by simp [Lm.val, ones, bl, Lib.popAux], rfl⟩
  case round =>
    obtain ⟨k, n, rfl, hk, rfl, rfl⟩ := hrel
    have ho := HL.out.2.2.1
    by_cases hlt : k < zs1.length
    · obtain ⟨ad, rfl, _, hcell⟩ := HL.out.2.1.at_ hlt
      have hcd := hcell k hlt
      have hlim := last_lt ho k
      have hstep := ones_take ho hlt
      have hpart := ones_part ho hk
      clear hcell ho
      obtain ⟨d, hd⟩ : ∃ d, zs1.getD k 0 = d := ⟨_, rfl⟩
      obtain ⟨s, hsv⟩ : ∃ s, ones (Lm.val B32 (zs1.take k)) = s := ⟨_, rfl⟩
      rw [hd] at hcd hlim hstep
      rw [hsv] at hstep hpart ⊢
      have ho32 : ones d ≤ 32 := ones_le hlim
      have HS := Lib.hid (And.intro hstep (ones32_any d (w1.drewN n) hlim))
      have p0 : (0 : Int) ≤ (s : Int) := Int.natCast_nonneg _
      have p1 : (s : Int) ≤ 28800000 := by omega
      have p2 : (0 : Int) ≤ (ones d : Int) := Int.natCast_nonneg _
      have p3 : (ones d : Int) ≤ 32 := by omega
      clear hd hsv hstep hlim hpart ho32
      go_wp2_with fail
      refine HS.out.2.mono ?_
      rintro e w' ⟨rfl, n', rfl⟩
      go_wp2
      go_roundw
      case rel => exact ⟨k + 1, _, by go_num, by omega, by rw [HS.out.1]; go_num, rfl⟩
      case measure => simp [intOf]; omega
    · have hie : k = zs1.length := by omega
      subst hie
      go_wp2
      go_ret
      refine ⟨congrArg Ending.returned (congrArg (Value.int IntKind.i64) ?_), ?_⟩
      · rw [List.take_length, HL.out.2.2.2.2]
      · exact ⟨HB.out.os, HB.out.tape, HB.out.output, HB.out.size, HB.out.block⟩

theorem odd_val {zs : List Nat} (h : 0 < zs.length) : Lm.val B32 zs % 2 = zs.getD 0 0 % 2 := by
  cases zs with
  | nil => simp at h
  | cons x xs =>
    rw [Lm.val_cons]
    have : B32 * Lm.val B32 xs = 2 * (2147483648 * Lm.val B32 xs) := by unfold B32; omega
    rw [this]
    simp

/-- Is the number odd? -/
def oddB (z : Int) : Bool := decide (z.natAbs % 2 = 1)
theorem and_one (d : Nat) (h : d < B32) : bits .and .u32 (d : Int) 1 = ((d % 2 : Nat) : Int) := by
  unfold B32 at h
  rw [u32_and (d : Int) 1 (Int.natCast_nonneg d) (by omega) (by omega) (by omega)]
  rw [Int.toNat_natCast, show (1 : Int).toNat = 1 from rfl, Nat.and_one_is_mod]

set_option maxRecDepth 100000 in
set_option maxHeartbeats 1000000 in
theorem Odd_any (v : Value) (z : Int) (w : World) (h : IntAt w v z) : Calls Try.prog 24 #[v] w fun e w' => IsBool w w' (oddB z) e := by
  obtain ⟨b, A, c, zs, rfl, hs, hl⟩ := h
  by_cases h0 : 0 < zs.length
  · obtain ⟨ad, rfl, hblk, hcell⟩ := hl.2.1 h0
    have hcd0 := hcell 0 h0
    have hcd := (World.cell?_alloc_lt w (.cells #[.bool b, .slice (some ad) zs.length c] 28) (ad.add 0) (by rw [block_of_add]; exact hblk)).trans hcd0
    have hlim := last_lt hl.2.2.1 0
    have hodd := odd_val h0
    rw [hl.2.2.2.2] at hodd
    clear hcell hcd0
    obtain ⟨d, hd⟩ : ∃ d, zs.getD 0 0 = d := ⟨_, rfl⟩
    rw [hd] at hcd hlim hodd
    have hpos : (0 : Int) < (zs.length : Int) := by omega
    have ha := and_one d hlim
    have hadd : ad.add 0 = ad := by unfold Addr.add; simp
    rw [hadd] at hcd
    have hx : ((d % 2 : Nat) : Int) = (d : Int) % 2 := by omega
    rw [hx] at ha
    have HO := Lib.hid hodd
    clear hodd hd hadd hx hl
    by_cases h1 : d % 2 = 1
    · have hb : ((d : Int) % 2 == 1) = true := by rw [beq_iff_eq]; omega
      have HT := Lib.hid (show oddB z = true from decide_eq_true (HO.out.trans h1))
      clear h1
      go_enter Try.func24, Try.ntmps24
      go_wp2
      go_ret
      rw [HT.out]
      exact ⟨rfl, (Below.refl _ _).alloc (Nat.le_refl _) _⟩
    · have hb : ((d : Int) % 2 == 1) = false := by rw [beq_eq_false_iff_ne]; omega
      have HT := Lib.hid (show oddB z = false from decide_eq_false (fun e => h1 (HO.out.symm.trans e)))
      clear h1
      go_enter Try.func24, Try.ntmps24
      go_wp2
      go_ret
      rw [HT.out]
      exact ⟨rfl, (Below.refl _ _).alloc (Nat.le_refl _) _⟩
  · have hz : zs = [] := by cases zs with
      | nil => rfl
      | cons a l => simp at h0
    subst hz
    have hn : z.natAbs = 0 := hl.2.2.2.2.symm
    have HT := Lib.hid (show oddB z = false from decide_eq_false (by rw [hn]; decide))
    clear hn h0
    go_enter Try.func24, Try.ntmps24
    go_wp2
    go_ret
    rw [HT.out]
    exact ⟨rfl, (Below.refl _ _).alloc (Nat.le_refl _) _⟩
end Go.Proofs.Ytllkajlmfbikhaa
