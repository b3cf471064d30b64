/- What Count of the reference does. -/
import Derived.Test.YtllkajlmfbikhaaRBits
namespace Go.Proofs.Ytllkajlmfbikhaa
open Go.RowKit
set_option linter.unusedSimpArgs false

theorem pop_snoc (k m : Nat) : Lib.popAux (k + 1) m = Lib.popAux k m + if bitB m k then 1 else 0 := by
  rw [pop_add, show Lib.popAux 1 (m / 2 ^ k) = m / 2 ^ k % 2 from rfl]
  unfold bitB
  by_cases h : m / 2 ^ k % 2 = 1
  · simp [h]
  · have : m / 2 ^ k % 2 = 0 := by omega
    simp [this]
theorem bl_fit {n m : Nat} (h : n < BD ^ m) : bl n ≤ 16 * m := by rw [bl_le, ← BD_two]; exact h
theorem RBits_any (v : Value) (z : Int) (n m : Nat) (w : World) (h : RefAt w v z) (hm0 : 0 < m) (hm : m ≤ 900000) (hz : z.natAbs < BD ^ m) (hn : n ≤ 20000000) :
    Calls Try.prog 81 #[v, .int .i64 (n : Int)] w fun e w' => IsBits w w' (fun j => bitB (magOf z) j != decide (z < 0)) n e := by
  obtain ⟨b, A, c, ds, rfl, hs, hd⟩ := h
  cases b
  · have := sign_of_pos hs
    rw [show (fun j => bitB (magOf z) j != decide (z < 0)) = fun j => bitB (magOf z) j from by funext j; rw [decide_eq_false (by omega)]; simp]
    exact bits_pos A c ds z n m w hs hd hm0 hm hz hn
  · have := sign_of_neg hs
    rw [show (fun j => bitB (magOf z) j != decide (z < 0)) = fun j => !bitB (magOf z) j from by funext j; rw [decide_eq_true this]; simp]
    exact bits_neg A c ds z n m w hs hd hm0 hm hz hn

set_option maxRecDepth 100000 in
set_option maxHeartbeats 4000000 in
theorem rcount_pos (A : Option Addr) (c : Nat) (ds : List Nat) (z : Int) (m : Nat) (w : World) (hs : SignOf false z) (hd : Digs w A c ds z.natAbs) (hm0 : 0 < m) (hm : m ≤ 900000) (hz : z.natAbs < BD ^ m) :
    Calls Try.prog 29 #[.agg #[.bool false, .slice A ds.length c]] w fun e w' => IsNum w w' (ones (magOf z)) e := by
  have hbel : Below w.heap.size w (w.alloc (.cells #[.bool false, .slice A ds.length c] 31)) := (Below.refl _ _).alloc (Nat.le_refl _) _
  have hx0 := Two.new w (.bool false) (.slice A ds.length c) 31
  have hat : RefAt (w.alloc (.cells #[.bool false, .slice A ds.length c] 31)) (.agg #[.bool false, .slice A ds.length c]) z := ⟨false, A, c, ds, rfl, hs, hd.below hbel⟩
  have hsz0 : w.heap.size < (w.alloc (.cells #[.bool false, .slice A ds.length c] 31)).heap.size := by simp
  have hblm := Nat.le_trans (bl_fit (mag_fit hz)) (Nat.mul_le_mul_left 16 hm)
  obtain ⟨mz, hmz⟩ : ∃ mz, magOf z = mz := ⟨_, rfl⟩
  rw [hmz] at hblm
  obtain ⟨n, hn⟩ : ∃ n, bl mz = n := ⟨_, rfl⟩
  rw [hn] at hblm
  have hf : (fun j => bitB (magOf z) j != decide (z < 0)) = fun j => bitB mz j != false := by
    funext j
    rw [hmz]
    congr 1
    exact decide_eq_false (by have := sign_of_pos hs; omega)
  have H := Lib.hid (And.intro hz (And.intro hm (And.intro hm0 (And.intro hbel (And.intro hmz (And.intro hn hf))))))
  obtain ⟨c0, c1⟩ := id hx0
  clear hbel hs hd hz hm0 hm hmz hn hf
  go_enter Try.func29, Try.ntmps29
  go_wp2_with fail
  go_region_held3 (fun w' => w'.cell? ⟨w.heap.size, 0, none⟩ = some (.bool false) ∧ w'.cell? ⟨w.heap.size, 1, none⟩ = some (.slice A ds.length c))
    (((try dsimp only); (repeat' apply And.intro) <;> (first | (with_reducible assumption) | go_keep)))
    ((first
      | (go_at_call 27; refine (RLength_any _ z m _ (by exact hat) H.out.2.2.1 H.out.2.1 H.out.1).mono ?_; rintro e w1 ⟨rfl, hb1⟩; rw [H.out.2.2.2.2.1, H.out.2.2.2.2.2.1]; have hat1 := hat.step hb1 rfl; have k1 := hx0.step hb1 rfl hsz0; have bl1 := begun_then H.out.2.2.2.1 hb1 rfl rfl rfl rfl; have hsz1 := Nat.lt_of_lt_of_le hsz0 hb1.size; obtain ⟨p0, p1⟩ := id k1)
      | (go_at_call 81; refine (RBits_any _ z n m _ (by exact hat1) H.out.2.2.1 H.out.2.1 H.out.1 (by omega)).mono ?_; rintro e w2 ⟨A2, c2, rfl, hbits, hb2⟩; have k2 := k1.step hb2 rfl hsz1; have bl2 := begun_then bl1 hb2 rfl rfl rfl rfl; obtain ⟨q0, q1⟩ := id k2)))
  have HB := Lib.hid (And.intro hbits bl2)
  clear hbits bl2 bl1 hb1 hb2 hat hat1 p0 p1 q0 q1 c0 c1 hx0 k1
  go_wp2
  go_loopw [4, 5] (fun nv iv wr => ∃ k q : Nat, iv = .int .i64 k ∧ k ≤ n ∧ nv = .int .i64 ((Lib.popAux k mz : Nat) : Int) ∧ wr = w2.drewN q) (fun _ iv _ => n - (intOf iv).toNat)
  case atStart => exact ⟨0, 0, rfl, Nat.zero_le _, rfl, rfl⟩
  case round =>
    obtain ⟨k, q, rfl, hk, rfl, rfl⟩ := hrel
    have hple := pop_le k mz
    by_cases hlt : k < n
    · obtain ⟨ad, rfl, _, hcell⟩ := HB.out.1 (by omega)
      have hcd := hcell k hlt
      have hsn := pop_snoc k mz
      rw [show (fun j => bitB (magOf z) j != decide (z < 0)) k = (bitB mz k != false) from congrFun H.out.2.2.2.2.2.2 k] at hcd
      obtain ⟨q0, q1⟩ := id k2
      clear hcell
      obtain ⟨s, hsv⟩ : ∃ s, Lib.popAux k mz = s := ⟨_, rfl⟩
      rw [hsv] at hsn hple ⊢
      have p0 : (0 : Int) ≤ (s : Int) := Int.natCast_nonneg _
      have p1 : (s : Int) ≤ 20000000 := by omega
      rcases hbit : bitB mz k with _ | _
      · rw [hbit] at hcd hsn
        simp at hcd hsn
        have HS := Lib.hid hsn
        clear hsn hsv hple hbit
        go_wp2
        go_quiet (fail)
        go_wp2
        go_roundw
        case rel => exact ⟨k + 1, _, by go_num, by omega, by rw [HS.out], rfl⟩
        case measure => simp [intOf]; omega
      · rw [hbit] at hcd hsn
        simp at hcd hsn
        have HS := Lib.hid hsn
        clear hsn hsv hple hbit
        go_wp2
        go_quiet (fail)
        go_wp2
        go_roundw
        case rel => exact ⟨k + 1, _, by go_num, by omega, by rw [HS.out]; go_num, rfl⟩
        case measure => simp [intOf]; omega
    · have hie : k = n := by omega
      subst hie
      go_wp2
      go_ret
      refine ⟨congrArg Ending.returned (congrArg (Value.int IntKind.i64) ?_), ?_⟩
      · rw [H.out.2.2.2.2.1]
        unfold ones
        rw [H.out.2.2.2.2.2.1]
      · exact ⟨HB.out.2.os, HB.out.2.tape, HB.out.2.output, HB.out.2.size, HB.out.2.block⟩

set_option maxRecDepth 100000 in
set_option maxHeartbeats 4000000 in
theorem rcount_neg (A : Option Addr) (c : Nat) (ds : List Nat) (z : Int) (m : Nat) (w : World) (hs : SignOf true z) (hd : Digs w A c ds z.natAbs) (hm0 : 0 < m) (hm : m ≤ 900000) (hz : z.natAbs < BD ^ m) :
    Calls Try.prog 29 #[.agg #[.bool true, .slice A ds.length c]] w fun e w' => IsNum w w' (ones (magOf z)) e := by
  have hbel : Below w.heap.size w (w.alloc (.cells #[.bool true, .slice A ds.length c] 31)) := (Below.refl _ _).alloc (Nat.le_refl _) _
  have hx0 := Two.new w (.bool true) (.slice A ds.length c) 31
  have hat : RefAt (w.alloc (.cells #[.bool true, .slice A ds.length c] 31)) (.agg #[.bool true, .slice A ds.length c]) z := ⟨true, A, c, ds, rfl, hs, hd.below hbel⟩
  have hsz0 : w.heap.size < (w.alloc (.cells #[.bool true, .slice A ds.length c] 31)).heap.size := by simp
  have hblm := Nat.le_trans (bl_fit (mag_fit hz)) (Nat.mul_le_mul_left 16 hm)
  obtain ⟨mz, hmz⟩ : ∃ mz, magOf z = mz := ⟨_, rfl⟩
  rw [hmz] at hblm
  obtain ⟨n, hn⟩ : ∃ n, bl mz = n := ⟨_, rfl⟩
  rw [hn] at hblm
  have hf : (fun j => bitB (magOf z) j != decide (z < 0)) = fun j => bitB mz j != true := by
    funext j
    rw [hmz]
    congr 1
    exact decide_eq_true (by have := sign_of_neg hs; omega)
  have H := Lib.hid (And.intro hz (And.intro hm (And.intro hm0 (And.intro hbel (And.intro hmz (And.intro hn hf))))))
  obtain ⟨c0, c1⟩ := id hx0
  clear hbel hs hd hz hm0 hm hmz hn hf
  go_enter Try.func29, Try.ntmps29
  go_wp2_with fail
  go_region_held3 (fun w' => w'.cell? ⟨w.heap.size, 0, none⟩ = some (.bool true) ∧ w'.cell? ⟨w.heap.size, 1, none⟩ = some (.slice A ds.length c))
    (((try dsimp only); (repeat' apply And.intro) <;> (first | (with_reducible assumption) | go_keep)))
    ((first
      | (go_at_call 27; refine (RLength_any _ z m _ (by exact hat) H.out.2.2.1 H.out.2.1 H.out.1).mono ?_; rintro e w1 ⟨rfl, hb1⟩; rw [H.out.2.2.2.2.1, H.out.2.2.2.2.2.1]; have hat1 := hat.step hb1 rfl; have k1 := hx0.step hb1 rfl hsz0; have bl1 := begun_then H.out.2.2.2.1 hb1 rfl rfl rfl rfl; have hsz1 := Nat.lt_of_lt_of_le hsz0 hb1.size; obtain ⟨p0, p1⟩ := id k1)
      | (go_at_call 81; refine (RBits_any _ z n m _ (by exact hat1) H.out.2.2.1 H.out.2.1 H.out.1 (by omega)).mono ?_; rintro e w2 ⟨A2, c2, rfl, hbits, hb2⟩; have k2 := k1.step hb2 rfl hsz1; have bl2 := begun_then bl1 hb2 rfl rfl rfl rfl; obtain ⟨q0, q1⟩ := id k2)))
  have HB := Lib.hid (And.intro hbits bl2)
  clear hbits bl2 bl1 hb1 hb2 hat hat1 p0 p1 q0 q1 c0 c1 hx0 k1
  go_wp2
  go_loopw [4, 5] (fun nv iv wr => ∃ k q : Nat, iv = .int .i64 k ∧ k ≤ n ∧ nv = .int .i64 ((Lib.popAux k mz : Nat) : Int) ∧ wr = w2.drewN q) (fun _ iv _ => n - (intOf iv).toNat)
  case atStart => exact ⟨0, 0, rfl, Nat.zero_le _, rfl, rfl⟩
  case round =>
    obtain ⟨k, q, rfl, hk, rfl, rfl⟩ := hrel
    have hple := pop_le k mz
    by_cases hlt : k < n
    · obtain ⟨ad, rfl, _, hcell⟩ := HB.out.1 (by omega)
      have hcd := hcell k hlt
      have hsn := pop_snoc k mz
      rw [show (fun j => bitB (magOf z) j != decide (z < 0)) k = (bitB mz k != true) from congrFun H.out.2.2.2.2.2.2 k] at hcd
      obtain ⟨q0, q1⟩ := id k2
      clear hcell
      obtain ⟨s, hsv⟩ : ∃ s, Lib.popAux k mz = s := ⟨_, rfl⟩
      rw [hsv] at hsn hple ⊢
      have p0 : (0 : Int) ≤ (s : Int) := Int.natCast_nonneg _
      have p1 : (s : Int) ≤ 20000000 := by omega
      rcases hbit : bitB mz k with _ | _
      · rw [hbit] at hcd hsn
        simp at hcd hsn
        have HS := Lib.hid hsn
        clear hsn hsv hple hbit
        go_wp2
        go_quiet (fail)
        go_wp2
        go_roundw
        case rel => exact ⟨k + 1, _, by go_num, by omega, by rw [HS.out], rfl⟩
        case measure => simp [intOf]; omega
      · rw [hbit] at hcd hsn
        simp at hcd hsn
        have HS := Lib.hid hsn
        clear hsn hsv hple hbit
        go_wp2
        go_quiet (fail)
        go_wp2
        go_roundw
        case rel => exact ⟨k + 1, _, by go_num, by omega, by rw [HS.out]; go_num, rfl⟩
        case measure => simp [intOf]; omega
    · have hie : k = n := by omega
      subst hie
      go_wp2
      go_ret
      refine ⟨congrArg Ending.returned (congrArg (Value.int IntKind.i64) ?_), ?_⟩
      · rw [H.out.2.2.2.2.1]
        unfold ones
        rw [H.out.2.2.2.2.2.1]
      · exact ⟨HB.out.2.os, HB.out.2.tape, HB.out.2.output, HB.out.2.size, HB.out.2.block⟩

theorem RCount_any (v : Value) (z : Int) (m : Nat) (w : World) (h : RefAt w v z) (hm0 : 0 < m) (hm : m ≤ 900000) (hz : z.natAbs < BD ^ m) : Calls Try.prog 29 #[v] w fun e w' => IsNum w w' (ones (magOf z)) e := by
  obtain ⟨b, A, c, ds, rfl, hs, hd⟩ := h
  cases b
  · exact rcount_pos A c ds z m w hs hd hm0 hm hz
  · exact rcount_neg A c ds z m w hs hd hm0 hm hz
end Go.Proofs.Ytllkajlmfbikhaa
