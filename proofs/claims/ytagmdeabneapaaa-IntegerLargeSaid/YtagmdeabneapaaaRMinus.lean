/- What minus of the reference does. -/
import Derived.Test.YtagmdeabneapaaaRDigs
namespace Go.Proofs.Ytagmdeabneapaaa
open Go.RowKit

structure Minus (xs ys ds : List Nat) (i q : Nat) : Prop where
  len : ds.length = i
  ok : Lm.Ok BD ds
  borrow : q ≤ 1
  sum : Lm.val BD ds + Lm.val BD (ys.take i) = Lm.val BD (xs.take i) + BD ^ i * q

theorem Minus.step {xs ys ds : List Nat} {i q x y d r : Nat} (h : Minus xs ys ds i q) (hx : xs.getD i 0 = x) (hy : ys.getD i 0 = y) (hd : d + q + y = x + BD * r) (ld : d < BD) (lr : r ≤ 1) : Minus xs ys (ds ++ [d]) (i + 1) r := by
  refine ⟨by rw [List.length_append, List.length_singleton, h.len], h.ok.append (.cons ld (.nil _)), lr, ?_⟩
  rw [val_take_any, val_take_any, hx, hy, Lm.val_snoc, h.len, Nat.pow_succ, Nat.mul_assoc]
  have h1 : BD ^ i * (d + q + y) = BD ^ i * (x + BD * r) := by rw [hd]
  rw [Nat.mul_add, Nat.mul_add, Nat.mul_add] at h1
  have := h.sum
  omega

theorem Minus.done_ {xs ys ds : List Nat} {q : Nat} (h : Minus xs ys ds xs.length q) (hl : ys.length ≤ xs.length) (hv : Lm.val BD ys ≤ Lm.val BD xs) : Lm.val BD ds = Lm.val BD xs - Lm.val BD ys := by
  have h1 := h.sum
  rw [List.take_length, List.take_of_length_le hl] at h1
  have h2 := Lm.val_lt h.ok
  rw [h.len] at h2
  have h3 := h.borrow
  rcases (show q = 0 ∨ q = 1 by omega) with rfl | rfl
  · omega
  · omega

/-- A row of digits of the number n, without zeros at the top. -/
def IsDigs (w w' : World) (n l : Nat) (e : Ending) : Prop :=
  ∃ A c ds, e = .returned (.slice A (List.length ds) c) ∧ Digs w' A c ds n ∧ ds.length ≤ l ∧ Below w.heap.size w w'

set_option maxRecDepth 100000 in
set_option maxHeartbeats 4000000 in
theorem minus_any (A : Option Addr) (c : Nat) (xs : List Nat) (A' : Option Addr) (c' : Nat) (ys : List Nat) (w : World) (hx : Nums w .i64 A xs) (hy : Nums w .i64 A' ys)
    (ox : Lm.Ok BD xs) (oy : Lm.Ok BD ys) (hl : ys.length ≤ xs.length) (hL : xs.length ≤ 1000000) (hv : Lm.val BD ys ≤ Lm.val BD xs) :
    Calls Try.prog 90 #[.slice A xs.length c, .slice A' ys.length c'] w fun e w' => IsDigs w w' (Lm.val BD xs - Lm.val BD ys) xs.length e := by
  obtain ⟨i0, hi0, hz0, hz1, hz2⟩ := info_parts Try.info3
  have HI := Lib.hid (And.intro hi0 (And.intro hz0 (And.intro hz1 hz2)))
  have HX := Lib.hid (And.intro hx (And.intro hy (And.intro ox (And.intro oy hv))))
  clear hi0 hz0 hz1 hz2 hx hy ox oy hv
  go_enter Try.func90, Try.ntmps90
  go_wp2
  go_loopw [5, 6, 7] (fun ov cv iv wr => ∃ (i q : Nat) (ds : List Nat), wr.ownsRow w.heap.size 3 1 ov ds.length (cellsOf .i64 ds) ∧ cv = .int .i64 q ∧ iv = .int .i64 i ∧ Minus xs ys ds i q ∧ i ≤ xs.length ∧ Below w.heap.size w wr) (fun _ _ iv _ => xs.length - (intOf iv).toNat)
  case atStart => exact ⟨0, 0, [], World.ownsRow_nil _ _ _ _, rfl, rfl, ⟨rfl, .nil _, by omega, by simp [Lm.val]⟩, Nat.zero_le _, Below.refl _ _⟩
  case round =>
    obtain ⟨i, q, ds, hown, rfl, rfl, hminus, hi, hbel⟩ := hrel
    obtain ⟨A5, c5, rfl, hle⟩ := own_form hown
    have hsz : w.heap.size ≤ wr.heap.size := hbel.size
    have hdl : ds.length ≤ 1000000 := by rw [hminus.len]; omega
    have q0 : (0 : Int) ≤ (q : Int) := Int.natCast_nonneg q
    have q1 : (q : Int) ≤ 1 := by have := hminus.borrow; omega
    have HPL := Lib.hid (And.intro hminus hbel)
    clear hminus hbel
    by_cases hxi : i < xs.length
    · obtain ⟨ad, rfl, _, hcx⟩ := (HX.out.1.below HPL.out.2).at_ hxi
      have hdx := hcx i hxi
      have hlx := dig_lt HX.out.2.2.1 i
      clear hcx
      obtain ⟨x, hx⟩ : ∃ x, xs.getD i 0 = x := ⟨_, rfl⟩
      rw [hx] at hdx hlx
      have x0 : (0 : Int) ≤ (x : Int) := Int.natCast_nonneg x
      have x1 : (x : Int) ≤ 65535 := by unfold BD at hlx; omega
      have HXD := Lib.hid (And.intro hx hlx)
      clear hx hlx
      by_cases hyi : i < ys.length
      · obtain ⟨ad', rfl, _, hcy⟩ := (HX.out.2.1.below HPL.out.2).at_ hyi
        have hdy := hcy i hyi
        have hly := dig_lt HX.out.2.2.2.1 i
        clear hcy
        obtain ⟨y, hy⟩ : ∃ y, ys.getD i 0 = y := ⟨_, rfl⟩
        rw [hy] at hdy hly
        have y0 : (0 : Int) ≤ (y : Int) := Int.natCast_nonneg y
        have y1 : (y : Int) ≤ 65535 := by unfold BD at hly; omega
        have HYD := Lib.hid (And.intro hy hly)
        clear hy hly
        by_cases hneg : ((x : Int) - (q : Int) - (y : Int)) < 0
        · have HN := Lib.hid (show x < q + y by omega)
          go_wp2_with (at_builtin; refine wpList_append_own _ rfl _ _ 29 rfl w.heap.size 3 i0 (.int .i64 0) 1 8 Try.underlying29 HI.out.1 HI.out.2.1 HI.out.2.2.1 HI.out.2.2.2 rfl (by decide) _ ds.length (cellsOf .i64 ds) rfl (hown.alloc _) ⟨wr.heap.size, 0, none⟩ 1 1 [.int .i64 (((x : Int) - (q : Int) - (y : Int)) + 65536)] rfl rfl (cell_one_new _ _ _) (by simp [Value.oneCell']) (by unfold maxLen; omega) (by omega) (by simp; omega) ?_; intro v1 w1 hown1 hg1 _)
          go_roundw
          case rel =>
            have hst := HPL.out.1.step HXD.out.1 HYD.out.1 (d := (x + BD - q - y)) (r := 1) (by (try unfold BD); have := HN.out; have := HXD.out.2; have := HYD.out.2; unfold BD at *; omega) (by (try unfold BD); have := HN.out; have := HXD.out.2; have := HYD.out.2; unfold BD at *; omega) (by omega)
            refine ⟨i + 1, 1, ds ++ [(x + BD - q - y)], ?_, rfl, by go_num, hst, by omega, (HPL.out.2.alloc hsz _).grown hg1 (by simp; omega) (fun k hk => (hown.lt k hk).1)⟩
            rw [List.length_append, List.length_singleton, ← cells_snoc .i64 ds (x + BD - q - y) (((x : Int) - (q : Int) - (y : Int)) + 65536) (by (try unfold BD); have := HN.out; have := HXD.out.2; have := HYD.out.2; unfold BD at *; omega)]
            exact hown1
          case measure => simp [intOf]; omega
        · have hneg' : (0 : Int) ≤ ((x : Int) - (q : Int) - (y : Int)) := by omega
          have HN := Lib.hid (show q + y ≤ x by omega)
          go_wp2_with (at_builtin; refine wpList_append_own _ rfl _ _ 29 rfl w.heap.size 3 i0 (.int .i64 0) 1 8 Try.underlying29 HI.out.1 HI.out.2.1 HI.out.2.2.1 HI.out.2.2.2 rfl (by decide) _ ds.length (cellsOf .i64 ds) rfl (hown.alloc _) ⟨wr.heap.size, 0, none⟩ 1 1 [.int .i64 ((x : Int) - (q : Int) - (y : Int))] rfl rfl (cell_one_new _ _ _) (by simp [Value.oneCell']) (by unfold maxLen; omega) (by omega) (by simp; omega) ?_; intro v1 w1 hown1 hg1 _)
          go_roundw
          case rel =>
            have hst := HPL.out.1.step HXD.out.1 HYD.out.1 (d := (x - q - y)) (r := 0) (by (try unfold BD); have := HN.out; have := HXD.out.2; have := HYD.out.2; unfold BD at *; omega) (by (try unfold BD); have := HN.out; have := HXD.out.2; have := HYD.out.2; unfold BD at *; omega) (by omega)
            refine ⟨i + 1, 0, ds ++ [(x - q - y)], ?_, rfl, by go_num, hst, by omega, (HPL.out.2.alloc hsz _).grown hg1 (by simp; omega) (fun k hk => (hown.lt k hk).1)⟩
            rw [List.length_append, List.length_singleton, ← cells_snoc .i64 ds (x - q - y) ((x : Int) - (q : Int) - (y : Int)) (by (try unfold BD); have := HN.out; have := HXD.out.2; have := HYD.out.2; unfold BD at *; omega)]
            exact hown1
          case measure => simp [intOf]; omega
      · have hfy := far_zero hyi
        have HYD := Lib.hid (And.intro hfy BD_pos)
        clear hfy
        by_cases hneg : ((x : Int) - (q : Int)) < 0
        · have HN := Lib.hid (show x < q + 0 by omega)
          go_wp2_with (at_builtin; refine wpList_append_own _ rfl _ _ 29 rfl w.heap.size 3 i0 (.int .i64 0) 1 8 Try.underlying29 HI.out.1 HI.out.2.1 HI.out.2.2.1 HI.out.2.2.2 rfl (by decide) _ ds.length (cellsOf .i64 ds) rfl (hown.alloc _) ⟨wr.heap.size, 0, none⟩ 1 1 [.int .i64 (((x : Int) - (q : Int)) + 65536)] rfl rfl (cell_one_new _ _ _) (by simp [Value.oneCell']) (by unfold maxLen; omega) (by omega) (by simp; omega) ?_; intro v1 w1 hown1 hg1 _)
          go_roundw
          case rel =>
            have hst := HPL.out.1.step HXD.out.1 HYD.out.1 (d := (x + BD - q - 0)) (r := 1) (by (try unfold BD); have := HN.out; have := HXD.out.2; have := HYD.out.2; unfold BD at *; omega) (by (try unfold BD); have := HN.out; have := HXD.out.2; have := HYD.out.2; unfold BD at *; omega) (by omega)
            refine ⟨i + 1, 1, ds ++ [(x + BD - q - 0)], ?_, rfl, by go_num, hst, by omega, (HPL.out.2.alloc hsz _).grown hg1 (by simp; omega) (fun k hk => (hown.lt k hk).1)⟩
            rw [List.length_append, List.length_singleton, ← cells_snoc .i64 ds (x + BD - q - 0) (((x : Int) - (q : Int)) + 65536) (by (try unfold BD); have := HN.out; have := HXD.out.2; have := HYD.out.2; unfold BD at *; omega)]
            exact hown1
          case measure => simp [intOf]; omega
        · have hneg' : (0 : Int) ≤ ((x : Int) - (q : Int)) := by omega
          have HN := Lib.hid (show q + 0 ≤ x by omega)
          go_wp2_with (at_builtin; refine wpList_append_own _ rfl _ _ 29 rfl w.heap.size 3 i0 (.int .i64 0) 1 8 Try.underlying29 HI.out.1 HI.out.2.1 HI.out.2.2.1 HI.out.2.2.2 rfl (by decide) _ ds.length (cellsOf .i64 ds) rfl (hown.alloc _) ⟨wr.heap.size, 0, none⟩ 1 1 [.int .i64 ((x : Int) - (q : Int))] rfl rfl (cell_one_new _ _ _) (by simp [Value.oneCell']) (by unfold maxLen; omega) (by omega) (by simp; omega) ?_; intro v1 w1 hown1 hg1 _)
          go_roundw
          case rel =>
            have hst := HPL.out.1.step HXD.out.1 HYD.out.1 (d := (x - q - 0)) (r := 0) (by (try unfold BD); have := HN.out; have := HXD.out.2; have := HYD.out.2; unfold BD at *; omega) (by (try unfold BD); have := HN.out; have := HXD.out.2; have := HYD.out.2; unfold BD at *; omega) (by omega)
            refine ⟨i + 1, 0, ds ++ [(x - q - 0)], ?_, rfl, by go_num, hst, by omega, (HPL.out.2.alloc hsz _).grown hg1 (by simp; omega) (fun k hk => (hown.lt k hk).1)⟩
            rw [List.length_append, List.length_singleton, ← cells_snoc .i64 ds (x - q - 0) ((x : Int) - (q : Int)) (by (try unfold BD); have := HN.out; have := HXD.out.2; have := HYD.out.2; unfold BD at *; omega)]
            exact hown1
          case measure => simp [intOf]; omega
    · obtain rfl : i = xs.length := by omega
      have htr := trimmed_any A5 c5 ds wr (Nums.of_own hown rfl) (by omega) hle
      have HT := Lib.hid (And.intro htr (Nums.of_own hown rfl : Nums wr .i64 A5 ds))
      have HLE := Lib.hid hle
      clear htr hle
      go_wp2_with fail
      refine HT.out.1.mono ?_
      rintro e w' ⟨rfl, n, rfl, hn, hz, hp⟩
      have HZ := Lib.hid (And.intro hz hp)
      clear hz hp
      go_wp2
      go_ret
      have hd := digs_take HT.out.2 HPL.out.1.ok HLE.out hn HZ.out.1 HZ.out.2
      rw [HPL.out.1.done_ hl HX.out.2.2.2.2] at hd
      have hlen : (ds.take n).length = n := by rw [List.length_take]; omega
      refine ⟨A5, c5, ds.take n, by rw [hlen]; rfl, hd, by have := HPL.out.1.len; rw [hlen]; omega, HPL.out.2⟩
end Go.Proofs.Ytagmdeabneapaaa
