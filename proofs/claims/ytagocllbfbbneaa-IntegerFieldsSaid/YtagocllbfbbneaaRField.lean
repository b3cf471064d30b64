/- What Field of the reference does. -/
import Derived.Test.YtagocllbfbbneaaRShift
import Derived.Test.YtagocllbfbbneaaRBitsO
import Derived.Test.YtagocllbfbbneaaBoolB
namespace Go.Proofs.Ytagocllbfbbneaa.RK
open Go.RowKit
set_option linter.unusedSimpArgs false

set_option maxRecDepth 100000 in
theorem within_any (n : Int) (w : World) : Calls Try.prog 108 #[.int .i64 n] w fun e w' => e = .returned (.bool (decide (okSize n))) ∧ w = w' := by
  by_cases h0 : 0 ≤ n
  · by_cases h1 : n ≤ 65536
    · rw [decide_eq_true (show okSize n from ⟨h0, h1⟩)]
      go_enter Try.func108, Try.ntmps108
      go_wp2
      go_ret
      exact ⟨rfl, rfl⟩
    · rw [decide_eq_false (show ¬ okSize n from fun h => h1 h.2)]
      go_enter Try.func108, Try.ntmps108
      go_wp2
      go_ret
      exact ⟨rfl, rfl⟩
  · rw [decide_eq_false (show ¬ okSize n from fun h => h0 h.1)]
    go_enter Try.func108, Try.ntmps108
    go_wp2
    go_ret
    exact ⟨rfl, rfl⟩
theorem within_is (n : Int) (b : Bool) (w : World) (h : decide (okSize n) = b) : Calls Try.prog 108 #[.int .i64 n] w fun e w' => e = .returned (.bool b) ∧ w = w' := by
  subst h
  exact within_any n w

set_option maxRecDepth 100000 in
set_option maxHeartbeats 4000000 in
theorem rfield_out (v : Value) (z k p : Int) (w : World) (h : RefAt w v z) (ho : ¬ (okSize k ∧ okSize p)) : Calls Try.prog 57 #[v, .int .i64 k, .int .i64 p] w fun e w' => IsRE w w' 0 1 e := by
  obtain ⟨b, A, c, ds, rfl, hs, hd⟩ := h
  have hb0 := begun1_below w (.bool b) (.slice A ds.length c) 31
  have hR := begun1_r w (.bool b) (.slice A ds.length c) 31
  obtain ⟨W, hW⟩ : ∃ W, begun1 w (.bool b) (.slice A ds.length c) 31 = W := ⟨_, rfl⟩
  rw [hW] at hb0 hR
  unfold begun1 at hW
  have H := Lib.hid (And.intro hb0 (And.intro hR hW))
  obtain ⟨⟨hr0, hr1⟩, hf0, hf1⟩ := id hR
  clear hb0 hR hW hs hd
  by_cases h1 : okSize k
  · have h2 : ¬ okSize p := fun h => ho ⟨h1, h⟩
    have a1 := within_is k true W (decide_eq_true h1)
    have a2 := within_is p false W (decide_eq_false h2)
    have HA := Lib.hid (And.intro a1 a2)
    clear a1 a2 h1 h2 ho
    go_enter Try.func57, Try.ntmps57
    go_upto_region 1 with fail
    rw [H.out.2.2]
    go_wp2_with fail
    refine HA.out.1.mono ?_
    rintro e w1 ⟨rfl, rfl⟩
    go_wp2_with fail
    refine HA.out.2.mono ?_
    rintro e w1 ⟨rfl, rfl⟩
    go_wp2
    obtain ⟨s0, s1⟩ := H.out.2.1.1.stored (.bool false) (.slice none 0 0)
    refine bodyPost_ret (v := .tuple #[.agg #[.bool false, .slice none 0 0], .int .i64 1]) (by simp [results, Try.results57, go_sem, s0, s1]) rfl ?_
    exact refE_stored (zs := []) H.out.2.1 (by simp [SignOf]) ⟨Nat.le_refl _, Nums.nil _ _ _, Lm.Ok.nil _, Lm.Top.nil, rfl⟩ H.out.1 (by omega)
  · have a1 := within_is k false W (decide_eq_false h1)
    have HA := Lib.hid a1
    clear a1 h1 ho
    go_enter Try.func57, Try.ntmps57
    go_upto_region 1 with fail
    rw [H.out.2.2]
    go_wp2_with fail
    refine HA.out.mono ?_
    rintro e w1 ⟨rfl, rfl⟩
    go_wp2
    obtain ⟨s0, s1⟩ := H.out.2.1.1.stored (.bool false) (.slice none 0 0)
    refine bodyPost_ret (v := .tuple #[.agg #[.bool false, .slice none 0 0], .int .i64 1]) (by simp [results, Try.results57, go_sem, s0, s1]) rfl ?_
    exact refE_stored (zs := []) H.out.2.1 (by simp [SignOf]) ⟨Nat.le_refl _, Nums.nil _ _ _, Lm.Ok.nil _, Lm.Top.nil, rfl⟩ H.out.1 (by omega)

theorem bools_from {w : World} {base g n c : Nat} {f : Nat → Bool} (h : w.ownsRow base 4 1 (.slice (some ⟨g, 0, none⟩) n c) n (boolCells f n)) (p k : Nat) (hpk : p + k = n) : BoolsAt w (some ⟨g, p, none⟩) (fun i => f (p + i)) k := fun _ => by
  refine ⟨_, rfl, (h.lt g rfl).2, fun j hj => ?_⟩
  have := h.cells (g := g) rfl (p + j) (.bool (f (p + j))) (by
    unfold boolCells
    rw [List.getElem?_map, List.getElem?_range (by omega)]
    rfl)
  rw [← this]
  congr 1
  unfold Addr.add
  by_cases hj0 : j = 0
  · subst hj0
    by_cases hp0 : p = 0
    · subst hp0; rfl
    · simp [hp0]
  · by_cases hp0 : p = 0
    · subst hp0; simp
    · simp [hj0, hp0]

theorem rof_is (A : Option Addr) (c N k : Nat) (f : Nat → Bool) (s : Bool) (z : Int) (w : World) (hN : N = k) (h : BoolsAt w A f k) (hn : k ≤ 12000000) (hz : ofBits f k s = z) :
    Calls Try.prog 104 #[.slice A N c, .bool s] w fun e w' => IsRef w w' z e := by
  subst hN
  subst hz
  exact ROf_any A c N f s w h hn

set_option maxRecDepth 100000 in
set_option maxHeartbeats 4000000 in
theorem rfield_in (v : Value) (z : Int) (k p m : Nat) (w : World) (h : RefAt w v z) (hz : FitD z m) (hm0 : 0 < m) (hm : m ≤ 4000) (hk : k ≤ 65536) (hp : p ≤ 65536) :
    Calls Try.prog 57 #[v, .int .i64 (k : Int), .int .i64 (p : Int)] w fun e w' => IsRE w w' (fieldZ z k p) 0 e := by
  obtain ⟨b, A, c, ds, rfl, hs, hd⟩ := h
  have hb0 := begun1_below w (.bool b) (.slice A ds.length c) 31
  have hT := begun1_x w (.bool b) (.slice A ds.length c) 31
  have hR := begun1_r w (.bool b) (.slice A ds.length c) 31
  have hsz := begun1_size w (.bool b) (.slice A ds.length c) 31
  obtain ⟨W, hW⟩ : ∃ W, begun1 w (.bool b) (.slice A ds.length c) 31 = W := ⟨_, rfl⟩
  rw [hW] at hb0 hT hR hsz
  unfold begun1 at hW
  obtain ⟨n, hn⟩ : ∃ n, p + k = n := ⟨_, rfl⟩
  have hbits := bitsO_any _ z n m W ⟨b, A, c, ds, rfl, hs, hd.below hb0⟩ hm0 (by omega) hz (by omega)
  have a1 := within_is (k : Int) true W (decide_eq_true ⟨by omega, by omega⟩)
  have a2 := within_is (p : Int) true W (decide_eq_true ⟨by omega, by omega⟩)
  have H := Lib.hid (And.intro hb0 (And.intro hR (And.intro hW (And.intro hbits (And.intro a1 (And.intro a2 hn))))))
  have hs2 : w.heap.size + 2 ≤ W.heap.size := by omega
  have k0 : (0 : Int) ≤ (k : Int) := Int.natCast_nonneg k
  have p0 : (0 : Int) ≤ (p : Int) := Int.natCast_nonneg p
  have k1 : (k : Int) ≤ 65536 := by omega
  have p1 : (p : Int) ≤ 65536 := by omega
  have hsum : (p : Int) + (k : Int) = (n : Int) := by omega
  have n1 : (n : Int) ≤ 131072 := by omega
  have n0 : (0 : Int) ≤ (n : Int) := Int.natCast_nonneg n
  have hpn : (p : Int) ≤ (n : Int) := by omega
  have hsub : (n : Int) - (p : Int) = (k : Int) := by omega
  obtain ⟨px0, px1⟩ := id hT
  clear hb0 hT hR hW hs hd hsz hbits a1 a2 hk hp
  go_enter Try.func57, Try.ntmps57
  go_upto_region 1 with fail
  rw [H.out.2.2.1]
  go_wp2_with fail
  refine H.out.2.2.2.2.1.mono ?_
  rintro e w1 ⟨rfl, rfl⟩
  go_wp2_with fail
  refine H.out.2.2.2.2.2.1.mono ?_
  rintro e w1 ⟨rfl, rfl⟩
  go_wp2_with fail
  refine H.out.2.2.2.1.mono ?_
  rintro e w1 ⟨A1, c1, rfl, base, hbase, hown, hb1⟩
  have hr1 := H.out.2.1.step hb1 rfl (by omega)
  have HO := Lib.hid (And.intro hown (And.intro hr1 (below_then H.out.1 hb1)))
  have hs3 : w.heap.size + 2 ≤ w1.heap.size := Nat.le_trans hs2 hb1.size
  clear px0 px1 hb1 hr1
  rcases hown.2 with ⟨he, hn0⟩ | ⟨g, cap, cur, he, _, _, hcap, hcm, _⟩
  · injection he with e1 _ e3
    subst e1 e3
    subst hn0
    clear hown
    have hk0 : k = 0 := by have := H.out.2.2.2.2.2.2; omega
    have hp0 : p = 0 := by have := H.out.2.2.2.2.2.2; omega
    subst hk0
    subst hp0
    go_wp2_with fail
    · refine (rof_is _ _ _ 0 (fun i => bitZ z (0 + i)) false (fieldZ z 0 0) w1 (by simp) (fun h => absurd h (by simp)) (by simp) rfl).mono ?_
      rintro e w2 ⟨v2, rfl, hv2, hb2⟩
      have hr2 := HO.out.2.1.step hb2 rfl (by omega)
      have hl2 := below_then HO.out.2.2 hb2
      obtain ⟨b6, A6, c6, d6, rfl, g6, l6⟩ := id hv2
      have HE := Lib.hid (And.intro hr2 hl2)
      obtain ⟨⟨hr0, hr1⟩, hf0, hf1⟩ := id hr2
      clear hr2 hl2 hb2
      go_wp2
      obtain ⟨s0, s1⟩ := HE.out.1.1.stored (.bool b6) (.slice A6 d6.length c6)
      refine bodyPost_ret (v := .tuple #[.agg #[.bool b6, .slice A6 d6.length c6], .int .i64 0]) (by simp [results, Try.results57, go_sem, s0, s1]) rfl ?_
      exact refE_stored HE.out.1 g6 l6 HE.out.2 (by omega)
  · injection he with e1 _ e3
    subst e1 e3
    clear hown
    have hcapI : (n : Int) ≤ (c1 : Int) := by omega
    have hcmI : (c1 : Int) ≤ 9223372036854775807 := by unfold maxLen at hcm; omega
    have HC := Lib.hid hcap
    clear hcap hcm
    go_wp2_with fail
    · refine (rof_is _ _ _ k (fun i => bitZ z (p + i)) false (fieldZ z k p) w1 (by have := H.out.2.2.2.2.2.2; omega) (fun h => absurd h (by have := H.out.2.2.2.2.2.2; have := HC.out; omega)) (by omega) rfl).mono ?_
      rintro e w2 ⟨v2, rfl, hv2, hb2⟩
      have hr2 := HO.out.2.1.step hb2 rfl (by omega)
      have hl2 := below_then HO.out.2.2 hb2
      obtain ⟨b6, A6, c6, d6, rfl, g6, l6⟩ := id hv2
      have HE := Lib.hid (And.intro hr2 hl2)
      obtain ⟨⟨hr0, hr1⟩, hf0, hf1⟩ := id hr2
      clear hr2 hl2 hb2
      go_wp2
      obtain ⟨s0, s1⟩ := HE.out.1.1.stored (.bool b6) (.slice A6 d6.length c6)
      refine bodyPost_ret (v := .tuple #[.agg #[.bool b6, .slice A6 d6.length c6], .int .i64 0]) (by simp [results, Try.results57, go_sem, s0, s1]) rfl ?_
      exact refE_stored HE.out.1 g6 l6 HE.out.2 (by omega)
    · refine (rof_is _ _ _ k (fun i => bitZ z (p + i)) false (fieldZ z k p) w1 (by have := H.out.2.2.2.2.2.2; omega) (bools_from HO.out.1 p k H.out.2.2.2.2.2.2) (by omega) rfl).mono ?_
      rintro e w2 ⟨v2, rfl, hv2, hb2⟩
      have hr2 := HO.out.2.1.step hb2 rfl (by omega)
      have hl2 := below_then HO.out.2.2 hb2
      obtain ⟨b6, A6, c6, d6, rfl, g6, l6⟩ := id hv2
      have HE := Lib.hid (And.intro hr2 hl2)
      obtain ⟨⟨hr0, hr1⟩, hf0, hf1⟩ := id hr2
      clear hr2 hl2 hb2
      go_wp2
      obtain ⟨s0, s1⟩ := HE.out.1.1.stored (.bool b6) (.slice A6 d6.length c6)
      refine bodyPost_ret (v := .tuple #[.agg #[.bool b6, .slice A6 d6.length c6], .int .i64 0]) (by simp [results, Try.results57, go_sem, s0, s1]) rfl ?_
      exact refE_stored HE.out.1 g6 l6 HE.out.2 (by omega)
end Go.Proofs.Ytagocllbfbbneaa.RK
