/- What New of the reference does. -/
import Derived.Test.YtagmdeabneapaaaRef
import Derived.Maps.AppendAt
namespace Go.Proofs.Ytagmdeabneapaaa
open Go.RowKit

theorem Try.info3 : (Try.prog.info? 3).map (fun i => (i.zero, i.size, i.bytes)) = some (some (.int .i64 0), 1, 8) := by kernel_rfl

/-- The digits of n that have been told, and what is left of it. -/
def Told (n u : Nat) (ds : List Nat) : Prop := Lm.Ok BD ds ∧ Lm.val BD ds + BD ^ ds.length * u = n

theorem told_step {n u : Nat} {ds : List Nat} (h : Told n u ds) : Told n (u / BD) (ds ++ [u % BD]) := by
  refine ⟨h.1.append (.cons (Nat.mod_lt _ BD_pos) (.nil _)), ?_⟩
  rw [Lm.val_snoc, List.length_append, List.length_singleton, Nat.pow_succ, Nat.add_assoc, Nat.mul_assoc, ← Nat.mul_add, Nat.mod_add_div]
  exact h.2
theorem told_len {n u : Nat} {ds : List Nat} (h : Told n u ds) (hu : 0 < u) (hn : n < 18446744073709551616) : ds.length < 4 := by
  rcases Nat.lt_or_ge ds.length 4 with hlt | hge
  · exact hlt
  · have h1 : BD ^ 4 ≤ BD ^ ds.length := Nat.pow_le_pow_right BD_pos hge
    have h2 : BD ^ ds.length * 1 ≤ BD ^ ds.length * u := Nat.mul_le_mul_left _ hu
    have h3 : BD ^ 4 = 18446744073709551616 := by decide
    have := h.2
    omega
theorem told_end {n : Nat} {ds : List Nat} (h : Told n 0 ds) : Lm.val BD ds = n := by simpa using h.2
theorem cells_snoc (k : IntKind) (ds : List Nat) (d : Nat) (x : Int) (h : x = (d : Int)) : cellsOf k ds ++ [.int k x] = cellsOf k (ds ++ [d]) := by
  subst h
  simp [cellsOf]
theorem digit_mod (u : Nat) : (u : Int) % 65536 = ((u % BD : Nat) : Int) := by unfold BD; omega
theorem digit_div (u : Nat) : (u : Int) / 65536 = ((u / BD : Nat) : Int) := by unfold BD; omega

theorem ref_stored {w w2 : World} {r : Nat} {s : Bool} {A : Option Addr} {c : Nat} {zs : List Nat} {z : Int} (hk : Res w2 r) (hs : SignOf s z) (hl : Digs w2 A c zs z.natAbs)
    (hb : Below w.heap.size w w2) (hr : w.heap.size ≤ r) :
    IsRef w ((w2.setCell ⟨r, 0, none⟩ (.bool s)).setCell ⟨r, 1, none⟩ (.slice A zs.length c)) z (.returned (.agg #[.bool s, .slice A zs.length c])) :=
  ⟨_, rfl, ⟨s, A, c, zs, rfl, hs, hl.1, hl.2.1.res hk.1 _ _, hl.2.2⟩, (hb.setCell (p := ⟨r, 0, none⟩) hr _).setCell (p := ⟨r, 1, none⟩) hr _⟩

set_option maxRecDepth 100000 in
set_option maxHeartbeats 1000000 in
theorem RNew_neg (n : Nat) (w : World) (h : 0 < n) (h1 : n ≤ 9223372036854775808) : Calls Try.prog 18 #[.int .i64 (-(n : Int))] w fun e w' => IsRef w w' (-(n : Int)) e := by
  obtain ⟨i0, hi0, hz0, hz1, hz2⟩ := info_parts Try.info3
  have HI := Lib.hid (And.intro hi0 (And.intro hz0 (And.intro hz1 hz2)))
  have hr0 := Res.new w 31
  have H := Lib.hid hr0
  have HN := Lib.hid (And.intro h1 (wrap_neg n h h1))
  clear hr0 h1 hi0 hz0 hz1 hz2
  go_enter Try.func18, Try.ntmps18
  go_wp2
  rw [HN.out.2]
  go_loopw [3, 4] (fun uv dv wr => ∃ (u : Nat) (ds : List Nat), uv = .int .u64 u ∧ wr.ownsRow (w.heap.size + 1) 3 1 dv ds.length (cellsOf .i64 ds) ∧ Told n u ds ∧ u ≤ n ∧ ds.length ≤ 4 ∧ Below (w.heap.size + 1) (w.alloc (.cells #[.bool false, .slice none 0 0] 31)) wr) (fun uv _ _ => (intOf uv).toNat)
  case atStart => exact ⟨n, [], rfl, World.ownsRow_nil _ _ _ _, ⟨.nil _, by simp [Lm.val]⟩, Nat.le_refl _, by simp, Below.refl _ _⟩
  case round =>
    obtain ⟨u, ds, rfl, hown, htold, hun, hl4, hbel⟩ := hrel
    obtain ⟨A, c, rfl, hle⟩ := own_form hown
    have hsz : w.heap.size + 1 ≤ wr.heap.size := by have := hbel.size; simpa using this
    by_cases hu : 0 < u
    · have hlen := told_len htold hu (by have := HN.out.1; omega)
      have hub : u ≤ 9223372036854775808 := Nat.le_trans hun HN.out.1
      have HU := Lib.hid hub
      clear hub
      have hpos : (0 : Int) < (u : Int) := by omega
      go_wp2_with (at_builtin; refine wpList_append_own _ rfl _ _ 29 rfl (w.heap.size + 1) 3 i0 (.int .i64 0) 1 8 Try.underlying29 HI.out.1 HI.out.2.1 HI.out.2.2.1 HI.out.2.2.2 rfl (by decide) _ ds.length (cellsOf .i64 ds) rfl (hown.alloc _) ⟨wr.heap.size, 0, none⟩ 1 1 [.int .i64 ((u : Int) % 65536)] rfl rfl (cell_one_new _ _ _) (by simp [Value.oneCell']) (by unfold maxLen; omega) (by omega) (by simp; omega) ?_; intro v1 w1 hown1 hg1 _)
      go_roundw
      case rel =>
        refine ⟨u / BD, ds ++ [u % BD], ?_, ?_, told_step htold, Nat.le_trans (Nat.div_le_self _ _) hun, by simp; omega, (hbel.alloc hsz _).grown hg1 (by simp; omega) (fun k hk => (hown.lt k hk).1)⟩
        · have := HU.out
          rw [IntWalk.u64_in _ (by omega), digit_div]
        · rw [List.length_append, List.length_singleton, ← cells_snoc .i64 ds (u % BD) _ (digit_mod u)]
          exact hown1
      case measure => have := HU.out; rw [IntWalk.u64_in _ (by omega)]; simp [intOf]; omega
    · obtain rfl : u = 0 := by omega
      have hbel' : Below (w.alloc (.cells #[.bool false, .slice none 0 0] 31)).heap.size (w.alloc (.cells #[.bool false, .slice none 0 0] 31)) wr := by rw [size_alloc]; exact hbel
      have k1 := H.out.step hbel' rfl (by simp)
      have hm := made_any true A c ds wr (Nums.of_own hown rfl) htold.1 (by omega) hle
      have HM := Lib.hid (And.intro hm htold)
      clear hm
      go_wp2_with fail
      refine HM.out.1.mono ?_
      rintro e w2 ⟨v2, rfl, ⟨b4, A4, c4, zs4, rfl, hsg4, hl4⟩, hb2⟩
      have k2 := k1.step hb2 rfl (by omega)
      obtain ⟨⟨hr0, hr1⟩, hf0, hf1⟩ := id k2
      go_wp2
      refine bodyPost_ret (v := .agg #[.bool b4, .slice A4 zs4.length c4]) (by simp [results, Try.results18, go_sem, hr0, hr1]) rfl ?_
      have hz : ofSign true (Lm.val BD ds) = -(n : Int) := by rw [told_end HM.out.2]; rfl
      rw [hz] at hsg4 hl4
      exact ref_stored k2 hsg4 hl4 (below_then (below_then ((Below.refl _ _).alloc (Nat.le_refl _) _) hbel') hb2) (Nat.le_refl _)

set_option maxRecDepth 100000 in
set_option maxHeartbeats 1000000 in
theorem RNew_pos (n : Nat) (w : World) (h1 : n < 9223372036854775808) : Calls Try.prog 18 #[.int .i64 (n : Int)] w fun e w' => IsRef w w' (n : Int) e := by
  obtain ⟨i0, hi0, hz0, hz1, hz2⟩ := info_parts Try.info3
  have HI := Lib.hid (And.intro hi0 (And.intro hz0 (And.intro hz1 hz2)))
  have hr0 := Res.new w 31
  have H := Lib.hid hr0
  have HN := Lib.hid (And.intro (Nat.le_of_lt h1) (wrap_pos n h1))
  have h0 : (0 : Int) ≤ (n : Int) := Int.natCast_nonneg n
  clear hr0 h1 hi0 hz0 hz1 hz2
  go_enter Try.func18, Try.ntmps18
  go_wp2
  rw [HN.out.2]
  go_loopw [3, 4] (fun uv dv wr => ∃ (u : Nat) (ds : List Nat), uv = .int .u64 u ∧ wr.ownsRow (w.heap.size + 1) 3 1 dv ds.length (cellsOf .i64 ds) ∧ Told n u ds ∧ u ≤ n ∧ ds.length ≤ 4 ∧ Below (w.heap.size + 1) (w.alloc (.cells #[.bool false, .slice none 0 0] 31)) wr) (fun uv _ _ => (intOf uv).toNat)
  case atStart => exact ⟨n, [], rfl, World.ownsRow_nil _ _ _ _, ⟨.nil _, by simp [Lm.val]⟩, Nat.le_refl _, by simp, Below.refl _ _⟩
  case round =>
    obtain ⟨u, ds, rfl, hown, htold, hun, hl4, hbel⟩ := hrel
    obtain ⟨A, c, rfl, hle⟩ := own_form hown
    have hsz : w.heap.size + 1 ≤ wr.heap.size := by have := hbel.size; simpa using this
    by_cases hu : 0 < u
    · have hlen := told_len htold hu (by have := HN.out.1; omega)
      have hub : u ≤ 9223372036854775808 := Nat.le_trans hun HN.out.1
      have HU := Lib.hid hub
      clear hub
      have hpos : (0 : Int) < (u : Int) := by omega
      go_wp2_with (at_builtin; refine wpList_append_own _ rfl _ _ 29 rfl (w.heap.size + 1) 3 i0 (.int .i64 0) 1 8 Try.underlying29 HI.out.1 HI.out.2.1 HI.out.2.2.1 HI.out.2.2.2 rfl (by decide) _ ds.length (cellsOf .i64 ds) rfl (hown.alloc _) ⟨wr.heap.size, 0, none⟩ 1 1 [.int .i64 ((u : Int) % 65536)] rfl rfl (cell_one_new _ _ _) (by simp [Value.oneCell']) (by unfold maxLen; omega) (by omega) (by simp; omega) ?_; intro v1 w1 hown1 hg1 _)
      go_roundw
      case rel =>
        refine ⟨u / BD, ds ++ [u % BD], ?_, ?_, told_step htold, Nat.le_trans (Nat.div_le_self _ _) hun, by simp; omega, (hbel.alloc hsz _).grown hg1 (by simp; omega) (fun k hk => (hown.lt k hk).1)⟩
        · have := HU.out
          rw [IntWalk.u64_in _ (by omega), digit_div]
        · rw [List.length_append, List.length_singleton, ← cells_snoc .i64 ds (u % BD) _ (digit_mod u)]
          exact hown1
      case measure => have := HU.out; rw [IntWalk.u64_in _ (by omega)]; simp [intOf]; omega
    · obtain rfl : u = 0 := by omega
      have hbel' : Below (w.alloc (.cells #[.bool false, .slice none 0 0] 31)).heap.size (w.alloc (.cells #[.bool false, .slice none 0 0] 31)) wr := by rw [size_alloc]; exact hbel
      have k1 := H.out.step hbel' rfl (by simp)
      have hm := made_any false A c ds wr (Nums.of_own hown rfl) htold.1 (by omega) hle
      have HM := Lib.hid (And.intro hm htold)
      clear hm
      go_wp2_with fail
      refine HM.out.1.mono ?_
      rintro e w2 ⟨v2, rfl, ⟨b4, A4, c4, zs4, rfl, hsg4, hl4⟩, hb2⟩
      have k2 := k1.step hb2 rfl (by omega)
      obtain ⟨⟨hr0, hr1⟩, hf0, hf1⟩ := id k2
      go_wp2
      refine bodyPost_ret (v := .agg #[.bool b4, .slice A4 zs4.length c4]) (by simp [results, Try.results18, go_sem, hr0, hr1]) rfl ?_
      have hz : ofSign false (Lm.val BD ds) = (n : Int) := by rw [told_end HM.out.2]; rfl
      rw [hz] at hsg4 hl4
      exact ref_stored k2 hsg4 hl4 (below_then (below_then ((Below.refl _ _).alloc (Nat.le_refl _) _) hbel') hb2) (Nat.le_refl _)

end Go.Proofs.Ytagmdeabneapaaa
