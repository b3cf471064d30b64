/- What Make, word, New of package integer do. -/
import Derived.Test.YtagmdeabneapaaaCmpInt
namespace Go.Proofs.Ytagmdeabneapaaa
open Go.RowKit

theorem copied_lims (A : Option Addr) (c : Nat) (xs : List Nat) (w : World) (h : Nums w .u32 A xs) (ho : Lm.Ok B32 xs) (hl : xs.length ≤ 1000000) (hc : xs.length ≤ c) :
    Calls Try.prog 85 #[.slice A xs.length c] w fun e w' => IsLims w w' (Lm.val B32 xs) e :=
  (copied_any A c xs w h hl hc).mono fun _ _ ⟨k, ⟨A1, c1, he, hown, hb⟩, hk, hz, hp⟩ =>
    ⟨A1, c1, xs.take k, he, ⟨by obtain ⟨A2, c2, e2, hle⟩ := own_form hown; injection e2 with _ _ e3; omega, Nums.of_own hown rfl, ho.take k, top_take hk hp, Lm.val_cut k hk hz⟩, hb⟩

set_option maxRecDepth 100000 in
set_option maxHeartbeats 1000000 in
theorem Make_any (b : Bool) (A : Option Addr) (c : Nat) (xs : List Nat) (w : World) (h : Nums w .u32 A xs) (ho : Lm.Ok B32 xs) (hl : xs.length ≤ 900000) (hc : xs.length ≤ c) :
    Calls Try.prog 68 #[.bool b, .slice A xs.length c] w fun e w' => IsInt w w' (ofSign b (Lm.val B32 xs)) e := by
  have hr0 := Res.new w 28
  have H := Lib.hid hr0
  clear hr0
  have hn := h.alloc (.cells #[.bool false, .slice none 0 0] 28)
  go_enter Try.func68, Try.ntmps68
  go_wp2_with fail
  refine (copied_lims A c xs _ hn ho (by omega) hc).mono ?_
  rintro e w1 ⟨A1, c1, zs, rfl, hlim, hb1⟩
  have hlen : zs.length ≤ 1000000 := by have := hlim.len (Lm.val_lt ho); omega
  have hsz : w.heap.size + 1 ≤ w1.heap.size := by have := hb1.size; simpa using this
  have k1 := H.out.step hb1 rfl (by simp)
  clear hn
  go_wp2_with fail
  refine (signed_to b A1 c1 zs (ofSign b (Lm.val B32 xs)) w1 hlim.2.1 hlim.2.2.1 hlen hlim.1 (by rw [hlim.2.2.2.2])).mono ?_
  rintro e w2 ⟨v2, rfl, ⟨b4, A4, c4, zs4, rfl, hsg4, hl4⟩, hb2⟩
  have k2 := k1.step hb2 rfl (by omega)
  obtain ⟨⟨hr0, hr1⟩, hf0, hf1⟩ := id k2
  go_wp2
  refine bodyPost_ret (v := .agg #[.bool b4, .slice A4 zs4.length c4]) (by simp [results, Try.results68, go_sem, hr0, hr1]) rfl ?_
  exact res_stored k2 hsg4 hl4 (below_then (below_then ((Below.refl _ _).alloc (Nat.le_refl _) _) hb1) hb2) (Nat.le_refl _)

theorem nums2 (w : World) (a b : Nat) : Nums (w.alloc (.cells #[.int .u32 a, .int .u32 b] 99)) .u32 (some ⟨w.heap.size, 0, none⟩) [a, b] := fun _ => by
  refine ⟨_, rfl, by simp, fun j hj => ?_⟩
  match j, hj with
  | 0, _ => exact (cell2 w (.int .u32 a) (.int .u32 b) 99).1
  | 1, _ => exact (cell2 w (.int .u32 a) (.int .u32 b) 99).2

set_option maxRecDepth 100000 in
set_option maxHeartbeats 1000000 in
theorem word_any (n : Nat) (w : World) (h : n < 18446744073709551616) : Calls Try.prog 71 #[.int .u64 n] w fun e w' => IsLims w w' n e := by
  have ho : Lm.Ok B32 [n % B32, n / B32] := .cons (Nat.mod_lt _ B32_pos) (.cons (by unfold B32; omega) (.nil _))
  have hv : Lm.val B32 [n % B32, n / B32] = n := by
    simp only [Lm.val, Nat.mul_zero, Nat.add_zero]
    exact Nat.mod_add_div n B32
  have hn := nums2 w (n % B32) (n / B32)
  have ht := trim_any (some ⟨w.heap.size, 0, none⟩) 2 [n % B32, n / B32] _ hn (by simp) (by simp)
  rw [← limb_mod n n rfl, ← limb_div n n rfl] at ht
  simp only [List.length_cons, List.length_nil, Nat.zero_add, Nat.reduceAdd] at ht
  have HT := Lib.hid (And.intro ht (And.intro ho (And.intro hv hn)))
  clear ht ho hv hn
  go_enter Try.func71, Try.ntmps71
  go_wp2_with fail
  refine HT.out.1.mono ?_
  rintro e w4 ⟨rfl, k, rfl, hk, hz, hp⟩
  have HP := Lib.hid (And.intro hk (And.intro hz hp))
  clear hk hz hp
  go_wp2
  go_ret
  refine lims_of_trim ⟨k, rfl, HP.out⟩ ?_ HT.out.2.1 (by simp) HT.out.2.2.1 ((Below.refl _ _).alloc (Nat.le_refl _) _)
  have := HT.out.2.2.2
  rwa [← limb_mod n n rfl, ← limb_div n n rfl] at this

theorem wrap_neg (n : Nat) (h : 0 < n) (h1 : n ≤ 9223372036854775808) : IntKind.u64.wrap (-IntKind.u64.wrap (-(n : Int))) = (n : Int) := by
  rw [IntKind.wrap_u64, IntKind.wrap_u64]
  omega
theorem wrap_pos (n : Nat) (h1 : n < 9223372036854775808) : IntKind.u64.wrap (n : Int) = (n : Int) := by
  rw [IntKind.wrap_u64]
  omega

set_option maxRecDepth 100000 in
set_option maxHeartbeats 1000000 in
theorem New_neg (n : Nat) (w : World) (h : 0 < n) (h1 : n ≤ 9223372036854775808) : Calls Try.prog 17 #[.int .i64 (-(n : Int))] w fun e w' => IsInt w w' (-(n : Int)) e := by
  have hr0 := Res.new w 28
  have H := Lib.hid hr0
  have HN := Lib.hid (And.intro h1 (wrap_neg n h h1))
  clear hr0 h1
  go_enter Try.func17, Try.ntmps17
  go_wp2_with fail
  rw [HN.out.2]
  refine (word_any n _ (by have := HN.out.1; omega)).mono ?_
  rintro e w1 ⟨A1, c1, zs, rfl, hlim, hb1⟩
  have hlen : zs.length ≤ 2 := hlim.len (by have := HN.out.1; unfold B32; omega)
  have hsz : w.heap.size + 1 ≤ w1.heap.size := by have := hb1.size; simpa using this
  have k1 := H.out.step hb1 rfl (by simp)
  go_wp2_with fail
  refine (signed_to true A1 c1 zs (-(n : Int)) w1 hlim.2.1 hlim.2.2.1 (by omega) hlim.1 (by rw [hlim.2.2.2.2]; rfl)).mono ?_
  rintro e w2 ⟨v2, rfl, ⟨b4, A4, c4, zs4, rfl, hsg4, hl4⟩, hb2⟩
  have k2 := k1.step hb2 rfl (by omega)
  obtain ⟨⟨hr0, hr1⟩, hf0, hf1⟩ := id k2
  go_wp2
  refine bodyPost_ret (v := .agg #[.bool b4, .slice A4 zs4.length c4]) (by simp [results, Try.results17, go_sem, hr0, hr1]) rfl ?_
  exact res_stored k2 hsg4 hl4 (below_then (below_then ((Below.refl _ _).alloc (Nat.le_refl _) _) hb1) hb2) (Nat.le_refl _)

set_option maxRecDepth 100000 in
set_option maxHeartbeats 1000000 in
theorem New_pos (n : Nat) (w : World) (h1 : n < 9223372036854775808) : Calls Try.prog 17 #[.int .i64 (n : Int)] w fun e w' => IsInt w w' (n : Int) e := by
  have hr0 := Res.new w 28
  have H := Lib.hid hr0
  have HN := Lib.hid (And.intro h1 (wrap_pos n h1))
  have h0 : (0 : Int) ≤ (n : Int) := Int.natCast_nonneg n
  clear hr0 h1
  go_enter Try.func17, Try.ntmps17
  go_wp2_with fail
  go_show
  rw [HN.out.2]
  refine (word_any n _ (by have := HN.out.1; omega)).mono ?_
  rintro e w1 ⟨A1, c1, zs, rfl, hlim, hb1⟩
  have hlen : zs.length ≤ 2 := hlim.len (by have := HN.out.1; unfold B32; omega)
  have hsz : w.heap.size + 1 ≤ w1.heap.size := by have := hb1.size; simpa using this
  have k1 := H.out.step hb1 rfl (by simp)
  go_wp2_with fail
  refine (signed_to false A1 c1 zs (n : Int) w1 hlim.2.1 hlim.2.2.1 (by omega) hlim.1 (by rw [hlim.2.2.2.2]; rfl)).mono ?_
  rintro e w2 ⟨v2, rfl, ⟨b4, A4, c4, zs4, rfl, hsg4, hl4⟩, hb2⟩
  have k2 := k1.step hb2 rfl (by omega)
  obtain ⟨⟨hr0, hr1⟩, hf0, hf1⟩ := id k2
  go_wp2
  refine bodyPost_ret (v := .agg #[.bool b4, .slice A4 zs4.length c4]) (by simp [results, Try.results17, go_sem, hr0, hr1]) rfl ?_
  exact res_stored k2 hsg4 hl4 (below_then (below_then ((Below.refl _ _).alloc (Nat.le_refl _) _) hb1) hb2) (Nat.le_refl _)
end Go.Proofs.Ytagmdeabneapaaa
