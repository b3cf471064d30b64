/- What Int64 of the reference does. -/
import Derived.Test.YtllkajlmfbikhaaRCount
import Derived.Test.YtllkajlmfbikhaaInt64
namespace Go.Proofs.Ytllkajlmfbikhaa
open Go.RowKit
set_option linter.unusedSimpArgs false

theorem rnew_min (w : World) : Calls Try.prog 18 #[.int .i64 (-9223372036854775808)] w fun e w' => IsRef w w' (-9223372036854775808) e := RNew_neg 9223372036854775808 w (by decide) (by decide)
theorem rnew_max (w : World) : Calls Try.prog 18 #[.int .i64 9223372036854775807] w fun e w' => IsRef w w' 9223372036854775807 e := RNew_pos 9223372036854775807 w (by decide)
theorem rcmp_is (v1 v2 : Value) (x y p : Int) (m : Nat) (w : World) (h1 : RefAt w v1 x) (h2 : RefAt w v2 y) (hm : m < 900000) (hx : x.natAbs < BD ^ m) (hy : y.natAbs < BD ^ m) (hp : cmpZ x y = p) :
    Calls Try.prog 33 #[v1, v2] w fun e w' => IsNum w w' p e := by
  subst hp
  exact RCmp_any v1 v2 x y m w h1 h2 hm hx hy
theorem fit_min {m : Nat} (h : 4 ≤ m) : (-9223372036854775808 : Int).natAbs < BD ^ m := Nat.lt_of_lt_of_le (by decide : (-9223372036854775808 : Int).natAbs < BD ^ 4) (Nat.pow_le_pow_right BD_pos h)
theorem fit_max {m : Nat} (h : 4 ≤ m) : (9223372036854775807 : Int).natAbs < BD ^ m := Nat.lt_of_lt_of_le (by decide : (9223372036854775807 : Int).natAbs < BD ^ 4) (Nat.pow_le_pow_right BD_pos h)
theorem cmp_lt0 {x y : Int} (h : x < y) : cmpZ x y = -1 := by unfold cmpZ; rw [if_pos h]
theorem cmp_gt0 {x y : Int} (h : y < x) : cmpZ x y = 1 := by unfold cmpZ; rw [if_neg (by omega), if_pos h]
theorem cmp_ge0 {x y : Int} (h : ¬ x < y) : 0 ≤ cmpZ x y := by unfold cmpZ; rw [if_neg h]; split <;> omega
theorem cmp_le0 {x y : Int} (h : ¬ y < x) : cmpZ x y ≤ 0 := by unfold cmpZ; split <;> (try split) <;> omega

set_option maxRecDepth 100000 in
set_option maxHeartbeats 4000000 in
theorem rint64_a (b : Bool) (A : Option Addr) (c : Nat) (ds : List Nat) (z : Int) (m : Nat) (w : World) (hs : SignOf b z) (hd : Digs w A c ds z.natAbs) (hm4 : 4 ≤ m) (hm : m < 900000) (hz : z.natAbs < BD ^ m) (hc : z < -9223372036854775808) :
    Calls Try.prog 20 #[.agg #[.bool b, .slice A ds.length c]] w fun e w' => Is64 w w' z e := by
  have hbel : Below w.heap.size w (w.alloc (.cells #[.bool b, .slice A ds.length c] 31)) := (Below.refl _ _).alloc (Nat.le_refl _) _
  have hx0 := Two.new w (.bool b) (.slice A ds.length c) 31
  have hat : RefAt (w.alloc (.cells #[.bool b, .slice A ds.length c] 31)) (.agg #[.bool b, .slice A ds.length c]) z := ⟨b, A, c, ds, rfl, hs, hd.below hbel⟩
  have H := Lib.hid (And.intro hat (And.intro hx0 (And.intro hbel (And.intro hm (And.intro hz (And.intro hm4 (And.intro hs hd)))))))
  clear hat hx0 hbel hm hz hm4 hd
  obtain ⟨p, hp⟩ : ∃ p, p = (-1 : Int) := ⟨_, rfl⟩
  have HP := Lib.hid (And.intro ((cmp_lt0 hc).trans hp.symm) trivial)
  have hlt : decide (p < (0 : Int)) = true := decide_eq_true (by omega)
  have hp0 : p < 0 := by omega
  have HF := Lib.hid (show fits64 z = false from decide_eq_false (by omega))
  clear hp hc hs
  go_enter Try.func20, Try.ntmps20
  go_wp2_with fail
  refine wp_region_held_drew (S := (fun w' => w'.cell? ⟨w.heap.size, 0, none⟩ = some (.bool b) ∧ w'.cell? ⟨w.heap.size, 1, none⟩ = some (.slice A ds.length c))) (by kernel_rfl) (H.out.2.1) (fun hH0 => ?_)
  refine wpAnyH_take (i := 0) (v := ?v1) rfl (by kernel_rfl) (by kernel_rfl) (by kernel_rfl) (fun _ _ _ h => h) (Or.inl ⟨by rfl, ?y1⟩) hH0 ?r1
  case y1 => (intro w0 hS0; (try dsimp only at hS0); go_simp <;> with_reducible rfl)
  change wpAnyH _ _ _ _ _ _ _ (Act.put _ (some 6) _) _
  simp only [Act.put, List.setIfInBounds_toArray, List.set_cons_zero, List.set_cons_succ]
  refine wpAnyH_ready (rs := [1]) (by kernel_rfl) (by simp) ?_
  refine AllReadyH.cons rfl (fun K hK0 => ?_) AllReadyH.nil
  have hK := hK0.out
  clear hK0
  rw [if_pos (by rfl)]
  go_simp
  refine (rnew_min _).mono ?_
  rintro e w1 ⟨v1, rfl, hi1, hb1⟩
  have hat1 := H.out.1.step hb1 rfl
  have k1 := H.out.2.1.step hb1 rfl (by simp)
  have bl1 := begun_then H.out.2.2.1 hb1 rfl rfl rfl rfl
  have hs1 : w.heap.size < w1.heap.size := Nat.lt_of_lt_of_le (show w.heap.size < _ from by simp) hb1.size
  (try dsimp only)
  refine hK _ _ (k1) (fun hH1 => ?_)
  clear hK K hH0
  (try simp only [Act.put, List.setIfInBounds_toArray, List.set_cons_zero, List.set_cons_succ])
  refine wpAnyH_ready (rs := [2]) (by kernel_rfl) (by simp) ?_
  refine AllReadyH.cons rfl (fun K hK0 => ?_) AllReadyH.nil
  have hK := hK0.out
  clear hK0
  rw [if_pos (by rfl)]
  go_simp
  refine (rcmp_is _ _ z (-9223372036854775808) p m _ (by exact hat1) (by exact hi1) H.out.2.2.2.1 H.out.2.2.2.2.1 (fit_min H.out.2.2.2.2.2.1) HP.out.1).mono ?_
  rintro e w2 ⟨rfl, hb2⟩
  have hat2 := hat1.step hb2 rfl
  have k2 := k1.step hb2 rfl hs1
  have bl2 := begun_then bl1 hb2 rfl rfl rfl rfl
  have hs2 := Nat.lt_of_lt_of_le hs1 hb2.size
  (try dsimp only)
  refine hK _ _ (k2) (fun hH2 => ?_)
  clear hK K hH1
  (try simp only [Act.put, List.setIfInBounds_toArray, List.set_cons_zero, List.set_cons_succ])
  refine wpAnyH_take (i := 3) (v := ?v2) rfl (by kernel_rfl) (by kernel_rfl) (by kernel_rfl) (fun _ _ _ h => h) (Or.inl ⟨by rfl, ?y2⟩) hH2 ?r2
  case y2 => (intro w0 hS0; (try dsimp only at hS0); go_simp <;> with_reducible rfl)
  change wpAnyH _ _ _ _ _ _ _ (Act.put _ (some 9) _) _
  simp only [Act.put, List.setIfInBounds_toArray, List.set_cons_zero, List.set_cons_succ]
  refine wpAnyH_take (i := 4) (v := ?v3) rfl (by kernel_rfl) (by kernel_rfl) (by kernel_rfl) (fun _ _ _ h => h) (Or.inl ⟨by rfl, ?y3⟩) hH2 ?r3
  case y3 => (intro w0 hS0; (try dsimp only at hS0); go_simp <;> with_reducible rfl)
  change wpAnyH _ _ _ _ _ _ _ (Act.put _ (some 10) _) _
  simp only [Act.put, List.setIfInBounds_toArray, List.set_cons_zero, List.set_cons_succ]
  refine wpAnyH_take (i := 5) (v := undef) rfl (by kernel_rfl) (by kernel_rfl) (by kernel_rfl) (fun _ _ _ h => h) (Or.inr ⟨by rfl, rfl⟩) hH2 ?_
  change wpAnyH _ _ _ _ _ _ _ (Act.put _ (some 11) undef) _
  simp only [Act.put, List.setIfInBounds_toArray, List.set_cons_zero, List.set_cons_succ]
  refine wpAnyH_take (i := 6) (v := undef) rfl (by kernel_rfl) (by kernel_rfl) (by kernel_rfl) (fun _ _ _ h => h) (Or.inr ⟨by rfl, rfl⟩) hH2 ?_
  change wpAnyH _ _ _ _ _ _ _ (Act.put _ (some 12) undef) _
  simp only [Act.put, List.setIfInBounds_toArray, List.set_cons_zero, List.set_cons_succ]
  refine wpAnyH_take (i := 7) (v := undef) rfl (by kernel_rfl) (by kernel_rfl) (by kernel_rfl) (fun _ _ _ h => h) (Or.inr ⟨by rfl, rfl⟩) hH2 ?_
  change wpAnyH _ _ _ _ _ _ _ (Act.put _ (some 13) undef) _
  simp only [Act.put, List.setIfInBounds_toArray, List.set_cons_zero, List.set_cons_succ]
  refine wpAnyH_take (i := 8) (v := undef) rfl (by kernel_rfl) (by kernel_rfl) (by kernel_rfl) (fun _ _ _ h => h) (Or.inr ⟨by rfl, rfl⟩) hH2 ?_
  change wpAnyH _ _ _ _ _ _ _ (Act.put _ (some 14) undef) _
  simp only [Act.put, List.setIfInBounds_toArray, List.set_cons_zero, List.set_cons_succ]
  refine wpAnyH_take (i := 9) (v := ?v4) rfl (by kernel_rfl) (by kernel_rfl) (by kernel_rfl) (fun _ _ _ h => h) (Or.inl ⟨by rfl, ?y4⟩) hH2 ?r4
  case y4 => (intro w0 hS0; (try dsimp only at hS0); go_simp <;> with_reducible rfl)
  change wpAnyH _ _ _ _ _ _ _ (Act.put _ (some 15) _) _
  simp only [Act.put, List.setIfInBounds_toArray, List.set_cons_zero, List.set_cons_succ]
  refine wpAnyH_done (by kernel_rfl) ?_ _
  go_wp2
  go_ret2
  exact ⟨by rw [HF.out]; rfl, bl2⟩

set_option maxRecDepth 100000 in
set_option maxHeartbeats 4000000 in
theorem rint64_b (b : Bool) (A : Option Addr) (c : Nat) (ds : List Nat) (z : Int) (m : Nat) (w : World) (hs : SignOf b z) (hd : Digs w A c ds z.natAbs) (hm4 : 4 ≤ m) (hm : m < 900000) (hz : z.natAbs < BD ^ m) (hc0 : ¬ z < -9223372036854775808) (hc : 9223372036854775807 < z) :
    Calls Try.prog 20 #[.agg #[.bool b, .slice A ds.length c]] w fun e w' => Is64 w w' z e := by
  have hbel : Below w.heap.size w (w.alloc (.cells #[.bool b, .slice A ds.length c] 31)) := (Below.refl _ _).alloc (Nat.le_refl _) _
  have hx0 := Two.new w (.bool b) (.slice A ds.length c) 31
  have hat : RefAt (w.alloc (.cells #[.bool b, .slice A ds.length c] 31)) (.agg #[.bool b, .slice A ds.length c]) z := ⟨b, A, c, ds, rfl, hs, hd.below hbel⟩
  have H := Lib.hid (And.intro hat (And.intro hx0 (And.intro hbel (And.intro hm (And.intro hz (And.intro hm4 (And.intro hs hd)))))))
  clear hat hx0 hbel hm hz hm4 hd
  obtain ⟨p, hp⟩ : ∃ p, p = cmpZ z (-9223372036854775808) := ⟨_, rfl⟩
  obtain ⟨q, hq⟩ : ∃ q, q = (1 : Int) := ⟨_, rfl⟩
  have hp1 : 0 ≤ p := by rw [hp]; exact cmp_ge0 hc0
  have HP := Lib.hid (And.intro hp.symm ((cmp_gt0 hc).trans hq.symm))
  have hlt : decide (p < (0 : Int)) = false := decide_eq_false (by omega)
  have hq0 : 0 < q := by omega
  have hgt : decide ((0 : Int) < q) = true := decide_eq_true (by omega)
  clear hq
  have HF := Lib.hid (show fits64 z = false from decide_eq_false (by omega))
  clear hp hc hc0 hs
  go_enter Try.func20, Try.ntmps20
  go_wp2_with fail
  refine wp_region_held_drew (S := (fun w' => w'.cell? ⟨w.heap.size, 0, none⟩ = some (.bool b) ∧ w'.cell? ⟨w.heap.size, 1, none⟩ = some (.slice A ds.length c))) (by kernel_rfl) (H.out.2.1) (fun hH0 => ?_)
  refine wpAnyH_take (i := 0) (v := ?v5) rfl (by kernel_rfl) (by kernel_rfl) (by kernel_rfl) (fun _ _ _ h => h) (Or.inl ⟨by rfl, ?y5⟩) hH0 ?r5
  case y5 => (intro w0 hS0; (try dsimp only at hS0); go_simp <;> with_reducible rfl)
  change wpAnyH _ _ _ _ _ _ _ (Act.put _ (some 6) _) _
  simp only [Act.put, List.setIfInBounds_toArray, List.set_cons_zero, List.set_cons_succ]
  refine wpAnyH_ready (rs := [1]) (by kernel_rfl) (by simp) ?_
  refine AllReadyH.cons rfl (fun K hK0 => ?_) AllReadyH.nil
  have hK := hK0.out
  clear hK0
  rw [if_pos (by rfl)]
  go_simp
  refine (rnew_min _).mono ?_
  rintro e w1 ⟨v1, rfl, hi1, hb1⟩
  have hat1 := H.out.1.step hb1 rfl
  have k1 := H.out.2.1.step hb1 rfl (by simp)
  have bl1 := begun_then H.out.2.2.1 hb1 rfl rfl rfl rfl
  have hs1 : w.heap.size < w1.heap.size := Nat.lt_of_lt_of_le (show w.heap.size < _ from by simp) hb1.size
  (try dsimp only)
  refine hK _ _ (k1) (fun hH1 => ?_)
  clear hK K hH0
  (try simp only [Act.put, List.setIfInBounds_toArray, List.set_cons_zero, List.set_cons_succ])
  refine wpAnyH_ready (rs := [2]) (by kernel_rfl) (by simp) ?_
  refine AllReadyH.cons rfl (fun K hK0 => ?_) AllReadyH.nil
  have hK := hK0.out
  clear hK0
  rw [if_pos (by rfl)]
  go_simp
  refine (rcmp_is _ _ z (-9223372036854775808) p m _ (by exact hat1) (by exact hi1) H.out.2.2.2.1 H.out.2.2.2.2.1 (fit_min H.out.2.2.2.2.2.1) HP.out.1).mono ?_
  rintro e w2 ⟨rfl, hb2⟩
  have hat2 := hat1.step hb2 rfl
  have k2 := k1.step hb2 rfl hs1
  have bl2 := begun_then bl1 hb2 rfl rfl rfl rfl
  have hs2 := Nat.lt_of_lt_of_le hs1 hb2.size
  (try dsimp only)
  refine hK _ _ (k2) (fun hH2 => ?_)
  clear hK K hH1
  (try simp only [Act.put, List.setIfInBounds_toArray, List.set_cons_zero, List.set_cons_succ])
  refine wpAnyH_take (i := 3) (v := ?v6) rfl (by kernel_rfl) (by kernel_rfl) (by kernel_rfl) (fun _ _ _ h => h) (Or.inl ⟨by rfl, ?y6⟩) hH2 ?r6
  case y6 => (intro w0 hS0; (try dsimp only at hS0); go_simp <;> with_reducible rfl)
  change wpAnyH _ _ _ _ _ _ _ (Act.put _ (some 9) _) _
  simp only [Act.put, List.setIfInBounds_toArray, List.set_cons_zero, List.set_cons_succ]
  refine wpAnyH_take (i := 4) (v := ?v7) rfl (by kernel_rfl) (by kernel_rfl) (by kernel_rfl) (fun _ _ _ h => h) (Or.inl ⟨by rfl, ?y7⟩) hH2 ?r7
  case y7 => (intro w0 hS0; (try dsimp only at hS0); go_simp <;> with_reducible rfl)
  change wpAnyH _ _ _ _ _ _ _ (Act.put _ (some 10) _) _
  simp only [Act.put, List.setIfInBounds_toArray, List.set_cons_zero, List.set_cons_succ]
  refine wpAnyH_take (i := 5) (v := ?v8) rfl (by kernel_rfl) (by kernel_rfl) (by kernel_rfl) (fun _ _ _ h => h) (Or.inl ⟨by rfl, ?y8⟩) hH2 ?r8
  case y8 => (intro w0 hS0; (try dsimp only at hS0); go_simp <;> with_reducible rfl)
  change wpAnyH _ _ _ _ _ _ _ (Act.put _ (some 11) _) _
  simp only [Act.put, List.setIfInBounds_toArray, List.set_cons_zero, List.set_cons_succ]
  refine wpAnyH_ready (rs := [6]) (by kernel_rfl) (by simp) ?_
  refine AllReadyH.cons rfl (fun K hK0 => ?_) AllReadyH.nil
  have hK := hK0.out
  clear hK0
  rw [if_pos (by rfl)]
  go_simp
  refine (rnew_max _).mono ?_
  rintro e w3 ⟨v3, rfl, hi3, hb3⟩
  have hat3 := hat2.step hb3 rfl
  have k3 := k2.step hb3 rfl hs2
  have bl3 := begun_then bl2 hb3 rfl rfl rfl rfl
  have hs3 := Nat.lt_of_lt_of_le hs2 hb3.size
  (try dsimp only)
  refine hK _ _ (k3) (fun hH3 => ?_)
  clear hK K hH2
  (try simp only [Act.put, List.setIfInBounds_toArray, List.set_cons_zero, List.set_cons_succ])
  refine wpAnyH_ready (rs := [7]) (by kernel_rfl) (by simp) ?_
  refine AllReadyH.cons rfl (fun K hK0 => ?_) AllReadyH.nil
  have hK := hK0.out
  clear hK0
  rw [if_pos (by rfl)]
  go_simp
  refine (rcmp_is _ _ z 9223372036854775807 q m _ (by exact hat3) (by exact hi3) H.out.2.2.2.1 H.out.2.2.2.2.1 (fit_max H.out.2.2.2.2.2.1) HP.out.2).mono ?_
  rintro e w4 ⟨rfl, hb4⟩
  have hat4 := hat3.step hb4 rfl
  have k4 := k3.step hb4 rfl hs3
  have bl4 := begun_then bl3 hb4 rfl rfl rfl rfl
  have hs4 := Nat.lt_of_lt_of_le hs3 hb4.size
  (try dsimp only)
  refine hK _ _ (k4) (fun hH4 => ?_)
  clear hK K hH3
  (try simp only [Act.put, List.setIfInBounds_toArray, List.set_cons_zero, List.set_cons_succ])
  refine wpAnyH_take (i := 8) (v := ?v9) rfl (by kernel_rfl) (by kernel_rfl) (by kernel_rfl) (fun _ _ _ h => h) (Or.inl ⟨by rfl, ?y9⟩) hH4 ?r9
  case y9 => (intro w0 hS0; (try dsimp only at hS0); go_simp <;> with_reducible rfl)
  change wpAnyH _ _ _ _ _ _ _ (Act.put _ (some 14) _) _
  simp only [Act.put, List.setIfInBounds_toArray, List.set_cons_zero, List.set_cons_succ]
  refine wpAnyH_take (i := 9) (v := ?v10) rfl (by kernel_rfl) (by kernel_rfl) (by kernel_rfl) (fun _ _ _ h => h) (Or.inl ⟨by rfl, ?y10⟩) hH4 ?r10
  case y10 => (intro w0 hS0; (try dsimp only at hS0); go_simp <;> with_reducible rfl)
  change wpAnyH _ _ _ _ _ _ _ (Act.put _ (some 15) _) _
  simp only [Act.put, List.setIfInBounds_toArray, List.set_cons_zero, List.set_cons_succ]
  refine wpAnyH_done (by kernel_rfl) ?_ _
  go_wp2
  go_ret2
  exact ⟨by rw [HF.out]; rfl, bl4⟩

theorem drop_le (ds : List Nat) (k : Nat) (hk : k ≤ ds.length) : Lm.val BD (ds.drop k) ≤ Lm.val BD ds := by
  rw [Lm.val_split BD ds k hk]
  have : 1 * Lm.val BD (ds.drop k) ≤ BD ^ k * Lm.val BD (ds.drop k) := Nat.mul_le_mul_right _ (Nat.pow_pos BD_pos)
  omega

set_option maxRecDepth 100000 in
set_option maxHeartbeats 4000000 in
theorem rint64_c_false (A : Option Addr) (c : Nat) (ds : List Nat) (z : Int) (m : Nat) (w : World) (hs : SignOf false z) (hd : Digs w A c ds z.natAbs) (hm4 : 4 ≤ m) (hm : m < 900000) (hz : z.natAbs < BD ^ m) (hc0 : ¬ z < -9223372036854775808) (hc : ¬ 9223372036854775807 < z) :
    Calls Try.prog 20 #[.agg #[.bool false, .slice A ds.length c]] w fun e w' => Is64 w w' z e := by
  have hbel : Below w.heap.size w (w.alloc (.cells #[.bool false, .slice A ds.length c] 31)) := (Below.refl _ _).alloc (Nat.le_refl _) _
  have hx0 := Two.new w (.bool false) (.slice A ds.length c) 31
  have hat : RefAt (w.alloc (.cells #[.bool false, .slice A ds.length c] 31)) (.agg #[.bool false, .slice A ds.length c]) z := ⟨false, A, c, ds, rfl, hs, hd.below hbel⟩
  have H := Lib.hid (And.intro hat (And.intro hx0 (And.intro hbel (And.intro hm (And.intro hz (And.intro hm4 (And.intro hs hd)))))))
  clear hat hx0 hbel hm hz hm4 hd
  obtain ⟨p, hp⟩ : ∃ p, p = cmpZ z (-9223372036854775808) := ⟨_, rfl⟩
  obtain ⟨q, hq⟩ : ∃ q, q = cmpZ z 9223372036854775807 := ⟨_, rfl⟩
  have hp1 : 0 ≤ p := by rw [hp]; exact cmp_ge0 hc0
  have hq1 : q ≤ 0 := by rw [hq]; exact cmp_le0 hc
  have HP := Lib.hid (And.intro hp.symm hq.symm)
  have hlt : decide (p < (0 : Int)) = false := decide_eq_false (by omega)
  have hgt : decide ((0 : Int) < q) = false := decide_eq_false (by omega)
  have hsg := sign_of_pos hs
  have HF := Lib.hid (And.intro (show fits64 z = true from decide_eq_true (by omega)) (And.intro (show z.natAbs ≤ 9223372036854775808 by omega) hsg))
  clear hp hc hc0 hq hs hsg
  go_enter Try.func20, Try.ntmps20
  go_wp2_with fail
  refine wp_region_held_drew (S := (fun w' => w'.cell? ⟨w.heap.size, 0, none⟩ = some (.bool false) ∧ w'.cell? ⟨w.heap.size, 1, none⟩ = some (.slice A ds.length c))) (by kernel_rfl) (H.out.2.1) (fun hH0 => ?_)
  refine wpAnyH_take (i := 0) (v := ?v11) rfl (by kernel_rfl) (by kernel_rfl) (by kernel_rfl) (fun _ _ _ h => h) (Or.inl ⟨by rfl, ?y11⟩) hH0 ?r11
  case y11 => (intro w0 hS0; (try dsimp only at hS0); go_simp <;> with_reducible rfl)
  change wpAnyH _ _ _ _ _ _ _ (Act.put _ (some 6) _) _
  simp only [Act.put, List.setIfInBounds_toArray, List.set_cons_zero, List.set_cons_succ]
  refine wpAnyH_ready (rs := [1]) (by kernel_rfl) (by simp) ?_
  refine AllReadyH.cons rfl (fun K hK0 => ?_) AllReadyH.nil
  have hK := hK0.out
  clear hK0
  rw [if_pos (by rfl)]
  go_simp
  refine (rnew_min _).mono ?_
  rintro e w1 ⟨v1, rfl, hi1, hb1⟩
  have hat1 := H.out.1.step hb1 rfl
  have k1 := H.out.2.1.step hb1 rfl (by simp)
  have bl1 := begun_then H.out.2.2.1 hb1 rfl rfl rfl rfl
  have hs1 : w.heap.size < w1.heap.size := Nat.lt_of_lt_of_le (show w.heap.size < _ from by simp) hb1.size
  (try dsimp only)
  refine hK _ _ (k1) (fun hH1 => ?_)
  clear hK K hH0
  (try simp only [Act.put, List.setIfInBounds_toArray, List.set_cons_zero, List.set_cons_succ])
  refine wpAnyH_ready (rs := [2]) (by kernel_rfl) (by simp) ?_
  refine AllReadyH.cons rfl (fun K hK0 => ?_) AllReadyH.nil
  have hK := hK0.out
  clear hK0
  rw [if_pos (by rfl)]
  go_simp
  refine (rcmp_is _ _ z (-9223372036854775808) p m _ (by exact hat1) (by exact hi1) H.out.2.2.2.1 H.out.2.2.2.2.1 (fit_min H.out.2.2.2.2.2.1) HP.out.1).mono ?_
  rintro e w2 ⟨rfl, hb2⟩
  have hat2 := hat1.step hb2 rfl
  have k2 := k1.step hb2 rfl hs1
  have bl2 := begun_then bl1 hb2 rfl rfl rfl rfl
  have hs2 := Nat.lt_of_lt_of_le hs1 hb2.size
  (try dsimp only)
  refine hK _ _ (k2) (fun hH2 => ?_)
  clear hK K hH1
  (try simp only [Act.put, List.setIfInBounds_toArray, List.set_cons_zero, List.set_cons_succ])
  refine wpAnyH_take (i := 3) (v := ?v12) rfl (by kernel_rfl) (by kernel_rfl) (by kernel_rfl) (fun _ _ _ h => h) (Or.inl ⟨by rfl, ?y12⟩) hH2 ?r12
  case y12 => (intro w0 hS0; (try dsimp only at hS0); go_simp <;> with_reducible rfl)
  change wpAnyH _ _ _ _ _ _ _ (Act.put _ (some 9) _) _
  simp only [Act.put, List.setIfInBounds_toArray, List.set_cons_zero, List.set_cons_succ]
  refine wpAnyH_take (i := 4) (v := ?v13) rfl (by kernel_rfl) (by kernel_rfl) (by kernel_rfl) (fun _ _ _ h => h) (Or.inl ⟨by rfl, ?y13⟩) hH2 ?r13
  case y13 => (intro w0 hS0; (try dsimp only at hS0); go_simp <;> with_reducible rfl)
  change wpAnyH _ _ _ _ _ _ _ (Act.put _ (some 10) _) _
  simp only [Act.put, List.setIfInBounds_toArray, List.set_cons_zero, List.set_cons_succ]
  refine wpAnyH_take (i := 5) (v := ?v14) rfl (by kernel_rfl) (by kernel_rfl) (by kernel_rfl) (fun _ _ _ h => h) (Or.inl ⟨by rfl, ?y14⟩) hH2 ?r14
  case y14 => (intro w0 hS0; (try dsimp only at hS0); go_simp <;> with_reducible rfl)
  change wpAnyH _ _ _ _ _ _ _ (Act.put _ (some 11) _) _
  simp only [Act.put, List.setIfInBounds_toArray, List.set_cons_zero, List.set_cons_succ]
  refine wpAnyH_ready (rs := [6]) (by kernel_rfl) (by simp) ?_
  refine AllReadyH.cons rfl (fun K hK0 => ?_) AllReadyH.nil
  have hK := hK0.out
  clear hK0
  rw [if_pos (by rfl)]
  go_simp
  refine (rnew_max _).mono ?_
  rintro e w3 ⟨v3, rfl, hi3, hb3⟩
  have hat3 := hat2.step hb3 rfl
  have k3 := k2.step hb3 rfl hs2
  have bl3 := begun_then bl2 hb3 rfl rfl rfl rfl
  have hs3 := Nat.lt_of_lt_of_le hs2 hb3.size
  (try dsimp only)
  refine hK _ _ (k3) (fun hH3 => ?_)
  clear hK K hH2
  (try simp only [Act.put, List.setIfInBounds_toArray, List.set_cons_zero, List.set_cons_succ])
  refine wpAnyH_ready (rs := [7]) (by kernel_rfl) (by simp) ?_
  refine AllReadyH.cons rfl (fun K hK0 => ?_) AllReadyH.nil
  have hK := hK0.out
  clear hK0
  rw [if_pos (by rfl)]
  go_simp
  refine (rcmp_is _ _ z 9223372036854775807 q m _ (by exact hat3) (by exact hi3) H.out.2.2.2.1 H.out.2.2.2.2.1 (fit_max H.out.2.2.2.2.2.1) HP.out.2).mono ?_
  rintro e w4 ⟨rfl, hb4⟩
  have hat4 := hat3.step hb4 rfl
  have k4 := k3.step hb4 rfl hs3
  have bl4 := begun_then bl3 hb4 rfl rfl rfl rfl
  have hs4 := Nat.lt_of_lt_of_le hs3 hb4.size
  (try dsimp only)
  refine hK _ _ (k4) (fun hH4 => ?_)
  clear hK K hH3
  (try simp only [Act.put, List.setIfInBounds_toArray, List.set_cons_zero, List.set_cons_succ])
  refine wpAnyH_take (i := 8) (v := ?v15) rfl (by kernel_rfl) (by kernel_rfl) (by kernel_rfl) (fun _ _ _ h => h) (Or.inl ⟨by rfl, ?y15⟩) hH4 ?r15
  case y15 => (intro w0 hS0; (try dsimp only at hS0); go_simp <;> with_reducible rfl)
  change wpAnyH _ _ _ _ _ _ _ (Act.put _ (some 14) _) _
  simp only [Act.put, List.setIfInBounds_toArray, List.set_cons_zero, List.set_cons_succ]
  refine wpAnyH_take (i := 9) (v := ?v16) rfl (by kernel_rfl) (by kernel_rfl) (by kernel_rfl) (fun _ _ _ h => h) (Or.inl ⟨by rfl, ?y16⟩) hH4 ?r16
  case y16 => (intro w0 hS0; (try dsimp only at hS0); go_simp <;> with_reducible rfl)
  change wpAnyH _ _ _ _ _ _ _ (Act.put _ (some 15) _) _
  simp only [Act.put, List.setIfInBounds_toArray, List.set_cons_zero, List.set_cons_succ]
  refine wpAnyH_done (by kernel_rfl) ?_ _
  have hlen := hat4
  obtain ⟨b5, A5, c5, ds5, he5, _, hd5⟩ := hat4
  have hd4 := H.out.2.2.2.2.2.2.2.step bl4 rfl
  have hlen : ds.length ≤ 900000 := Nat.le_trans (hd4.len H.out.2.2.2.2.1) (Nat.le_of_lt H.out.2.2.2.1)
  have HD := Lib.hid (And.intro hd4 bl4)
  obtain ⟨x0, x1⟩ := id k4
  clear hd4 bl4 hd5 he5 k4 hs4 HP
  go_wp2
  go_loop [4, 5] (fun uv iv => ∃ k : Nat, k ≤ ds.length ∧ iv = .int .i64 ((k : Int) - 1) ∧ uv = .int .u64 ((Lm.val BD (ds.drop k) : Nat) : Int)) (fun _ iv => (intOf iv + 1).toNat)
  case atStart => exact ⟨ds.length, Nat.le_refl _, congrArg (Value.int IntKind.i64) (by omega), by rw [List.drop_length]; rfl⟩
  case round =>
    obtain ⟨k, hk, rfl, rfl⟩ := hrel
    have hule := drop_le ds k hk
    rw [HD.out.1.2.2.2.2] at hule
    have hle := HF.out.2.1
    by_cases h0 : 0 < k
    · obtain ⟨j, hj⟩ : ∃ j, k = j + 1 := ⟨k - 1, by omega⟩
      subst hj
      obtain ⟨ad, rfl, _, hcell⟩ := HD.out.1.2.1 (by omega)
      have hcd := hcell j (by omega)
      have hlim := dig_lt HD.out.1.2.2.1 j
      have hst := Lm.val_drop_pred BD ds j (by omega)
      have hule2 := drop_le ds j (by omega)
      rw [HD.out.1.2.2.2.2] at hule2
      clear hcell
      obtain ⟨d, hd⟩ : ∃ d, ds.getD j 0 = d := ⟨_, rfl⟩
      obtain ⟨u, hu⟩ : ∃ u, Lm.val BD (ds.drop (j + 1)) = u := ⟨_, rfl⟩
      rw [hd] at hcd hlim hst
      rw [hu] at hst hule ⊢
      rw [hst] at hule2
      rw [show (((j + 1 : Nat) : Int) - 1) = (j : Int) from by omega]
      have d0 : (0 : Int) ≤ (d : Int) := Int.natCast_nonneg d
      have d1 : (d : Int) ≤ 65535 := by unfold BD at hlim; omega
      have u0 : (0 : Int) ≤ (u : Int) := Int.natCast_nonneg u
      have u1 : (u : Int) ≤ 140737488355328 := by unfold BD at hule2; omega
      have e1 : IntKind.u64.wrap ((u : Int) * 65536) = (u : Int) * 65536 := IntWalk.u64_in _ (by omega)
      have e2 : IntKind.u64.wrap ((u : Int) * 65536 + (d : Int)) = (u : Int) * 65536 + (d : Int) := IntWalk.u64_in _ (by omega)
      have HS := Lib.hid hst
      clear hd hu hst hule hule2 hlim hle
      go_wp2
      go_round
      case rel => exact ⟨j, by omega, rfl, congrArg (Value.int IntKind.u64) (by rw [HS.out]; unfold BD; omega)⟩
      case measure => simp [intOf]
    · obtain rfl : k = 0 := by omega
      rw [List.drop_zero, HD.out.1.2.2.2.2]
      obtain ⟨n, hn⟩ : ∃ n, z.natAbs = n := ⟨_, rfl⟩
      have HN := Lib.hid (And.intro hn (show n ≤ 9223372036854775808 by omega))
      rw [hn]
      clear hule hn hle
      go_wp2
      go_ret2
      have hfit := HF.out.1
      unfold fits64 at hfit
      have hfit := of_decide_eq_true hfit
      have ez : z = wrap64 (n : Int) := by
        have := HN.out.1
        have := HF.out.2.2
        unfold wrap64
        omega
      refine ⟨?_, HD.out.2⟩
      rw [HF.out.1, if_pos rfl, ez]
      rfl

set_option maxRecDepth 100000 in
set_option maxHeartbeats 4000000 in
theorem rint64_c_true (A : Option Addr) (c : Nat) (ds : List Nat) (z : Int) (m : Nat) (w : World) (hs : SignOf true z) (hd : Digs w A c ds z.natAbs) (hm4 : 4 ≤ m) (hm : m < 900000) (hz : z.natAbs < BD ^ m) (hc0 : ¬ z < -9223372036854775808) (hc : ¬ 9223372036854775807 < z) :
    Calls Try.prog 20 #[.agg #[.bool true, .slice A ds.length c]] w fun e w' => Is64 w w' z e := by
  have hbel : Below w.heap.size w (w.alloc (.cells #[.bool true, .slice A ds.length c] 31)) := (Below.refl _ _).alloc (Nat.le_refl _) _
  have hx0 := Two.new w (.bool true) (.slice A ds.length c) 31
  have hat : RefAt (w.alloc (.cells #[.bool true, .slice A ds.length c] 31)) (.agg #[.bool true, .slice A ds.length c]) z := ⟨true, A, c, ds, rfl, hs, hd.below hbel⟩
  have H := Lib.hid (And.intro hat (And.intro hx0 (And.intro hbel (And.intro hm (And.intro hz (And.intro hm4 (And.intro hs hd)))))))
  clear hat hx0 hbel hm hz hm4 hd
  obtain ⟨p, hp⟩ : ∃ p, p = cmpZ z (-9223372036854775808) := ⟨_, rfl⟩
  obtain ⟨q, hq⟩ : ∃ q, q = cmpZ z 9223372036854775807 := ⟨_, rfl⟩
  have hp1 : 0 ≤ p := by rw [hp]; exact cmp_ge0 hc0
  have hq1 : q ≤ 0 := by rw [hq]; exact cmp_le0 hc
  have HP := Lib.hid (And.intro hp.symm hq.symm)
  have hlt : decide (p < (0 : Int)) = false := decide_eq_false (by omega)
  have hgt : decide ((0 : Int) < q) = false := decide_eq_false (by omega)
  have hsg := sign_of_neg hs
  have HF := Lib.hid (And.intro (show fits64 z = true from decide_eq_true (by omega)) (And.intro (show z.natAbs ≤ 9223372036854775808 by omega) hsg))
  clear hp hc hc0 hq hs hsg
  go_enter Try.func20, Try.ntmps20
  go_wp2_with fail
  refine wp_region_held_drew (S := (fun w' => w'.cell? ⟨w.heap.size, 0, none⟩ = some (.bool true) ∧ w'.cell? ⟨w.heap.size, 1, none⟩ = some (.slice A ds.length c))) (by kernel_rfl) (H.out.2.1) (fun hH0 => ?_)
  refine wpAnyH_take (i := 0) (v := ?v17) rfl (by kernel_rfl) (by kernel_rfl) (by kernel_rfl) (fun _ _ _ h => h) (Or.inl ⟨by rfl, ?y17⟩) hH0 ?r17
  case y17 => (intro w0 hS0; (try dsimp only at hS0); go_simp <;> with_reducible rfl)
  change wpAnyH _ _ _ _ _ _ _ (Act.put _ (some 6) _) _
  simp only [Act.put, List.setIfInBounds_toArray, List.set_cons_zero, List.set_cons_succ]
  refine wpAnyH_ready (rs := [1]) (by kernel_rfl) (by simp) ?_
  refine AllReadyH.cons rfl (fun K hK0 => ?_) AllReadyH.nil
  have hK := hK0.out
  clear hK0
  rw [if_pos (by rfl)]
  go_simp
  refine (rnew_min _).mono ?_
  rintro e w1 ⟨v1, rfl, hi1, hb1⟩
  have hat1 := H.out.1.step hb1 rfl
  have k1 := H.out.2.1.step hb1 rfl (by simp)
  have bl1 := begun_then H.out.2.2.1 hb1 rfl rfl rfl rfl
  have hs1 : w.heap.size < w1.heap.size := Nat.lt_of_lt_of_le (show w.heap.size < _ from by simp) hb1.size
  (try dsimp only)
  refine hK _ _ (k1) (fun hH1 => ?_)
  clear hK K hH0
  (try simp only [Act.put, List.setIfInBounds_toArray, List.set_cons_zero, List.set_cons_succ])
  refine wpAnyH_ready (rs := [2]) (by kernel_rfl) (by simp) ?_
  refine AllReadyH.cons rfl (fun K hK0 => ?_) AllReadyH.nil
  have hK := hK0.out
  clear hK0
  rw [if_pos (by rfl)]
  go_simp
  refine (rcmp_is _ _ z (-9223372036854775808) p m _ (by exact hat1) (by exact hi1) H.out.2.2.2.1 H.out.2.2.2.2.1 (fit_min H.out.2.2.2.2.2.1) HP.out.1).mono ?_
  rintro e w2 ⟨rfl, hb2⟩
  have hat2 := hat1.step hb2 rfl
  have k2 := k1.step hb2 rfl hs1
  have bl2 := begun_then bl1 hb2 rfl rfl rfl rfl
  have hs2 := Nat.lt_of_lt_of_le hs1 hb2.size
  (try dsimp only)
  refine hK _ _ (k2) (fun hH2 => ?_)
  clear hK K hH1
  (try simp only [Act.put, List.setIfInBounds_toArray, List.set_cons_zero, List.set_cons_succ])
  refine wpAnyH_take (i := 3) (v := ?v18) rfl (by kernel_rfl) (by kernel_rfl) (by kernel_rfl) (fun _ _ _ h => h) (Or.inl ⟨by rfl, ?y18⟩) hH2 ?r18
  case y18 => (intro w0 hS0; (try dsimp only at hS0); go_simp <;> with_reducible rfl)
  change wpAnyH _ _ _ _ _ _ _ (Act.put _ (some 9) _) _
  simp only [Act.put, List.setIfInBounds_toArray, List.set_cons_zero, List.set_cons_succ]
  refine wpAnyH_take (i := 4) (v := ?v19) rfl (by kernel_rfl) (by kernel_rfl) (by kernel_rfl) (fun _ _ _ h => h) (Or.inl ⟨by rfl, ?y19⟩) hH2 ?r19
  case y19 => (intro w0 hS0; (try dsimp only at hS0); go_simp <;> with_reducible rfl)
  change wpAnyH _ _ _ _ _ _ _ (Act.put _ (some 10) _) _
  simp only [Act.put, List.setIfInBounds_toArray, List.set_cons_zero, List.set_cons_succ]
  refine wpAnyH_take (i := 5) (v := ?v20) rfl (by kernel_rfl) (by kernel_rfl) (by kernel_rfl) (fun _ _ _ h => h) (Or.inl ⟨by rfl, ?y20⟩) hH2 ?r20
  case y20 => (intro w0 hS0; (try dsimp only at hS0); go_simp <;> with_reducible rfl)
  change wpAnyH _ _ _ _ _ _ _ (Act.put _ (some 11) _) _
  simp only [Act.put, List.setIfInBounds_toArray, List.set_cons_zero, List.set_cons_succ]
  refine wpAnyH_ready (rs := [6]) (by kernel_rfl) (by simp) ?_
  refine AllReadyH.cons rfl (fun K hK0 => ?_) AllReadyH.nil
  have hK := hK0.out
  clear hK0
  rw [if_pos (by rfl)]
  go_simp
  refine (rnew_max _).mono ?_
  rintro e w3 ⟨v3, rfl, hi3, hb3⟩
  have hat3 := hat2.step hb3 rfl
  have k3 := k2.step hb3 rfl hs2
  have bl3 := begun_then bl2 hb3 rfl rfl rfl rfl
  have hs3 := Nat.lt_of_lt_of_le hs2 hb3.size
  (try dsimp only)
  refine hK _ _ (k3) (fun hH3 => ?_)
  clear hK K hH2
  (try simp only [Act.put, List.setIfInBounds_toArray, List.set_cons_zero, List.set_cons_succ])
  refine wpAnyH_ready (rs := [7]) (by kernel_rfl) (by simp) ?_
  refine AllReadyH.cons rfl (fun K hK0 => ?_) AllReadyH.nil
  have hK := hK0.out
  clear hK0
  rw [if_pos (by rfl)]
  go_simp
  refine (rcmp_is _ _ z 9223372036854775807 q m _ (by exact hat3) (by exact hi3) H.out.2.2.2.1 H.out.2.2.2.2.1 (fit_max H.out.2.2.2.2.2.1) HP.out.2).mono ?_
  rintro e w4 ⟨rfl, hb4⟩
  have hat4 := hat3.step hb4 rfl
  have k4 := k3.step hb4 rfl hs3
  have bl4 := begun_then bl3 hb4 rfl rfl rfl rfl
  have hs4 := Nat.lt_of_lt_of_le hs3 hb4.size
  (try dsimp only)
  refine hK _ _ (k4) (fun hH4 => ?_)
  clear hK K hH3
  (try simp only [Act.put, List.setIfInBounds_toArray, List.set_cons_zero, List.set_cons_succ])
  refine wpAnyH_take (i := 8) (v := ?v21) rfl (by kernel_rfl) (by kernel_rfl) (by kernel_rfl) (fun _ _ _ h => h) (Or.inl ⟨by rfl, ?y21⟩) hH4 ?r21
  case y21 => (intro w0 hS0; (try dsimp only at hS0); go_simp <;> with_reducible rfl)
  change wpAnyH _ _ _ _ _ _ _ (Act.put _ (some 14) _) _
  simp only [Act.put, List.setIfInBounds_toArray, List.set_cons_zero, List.set_cons_succ]
  refine wpAnyH_take (i := 9) (v := ?v22) rfl (by kernel_rfl) (by kernel_rfl) (by kernel_rfl) (fun _ _ _ h => h) (Or.inl ⟨by rfl, ?y22⟩) hH4 ?r22
  case y22 => (intro w0 hS0; (try dsimp only at hS0); go_simp <;> with_reducible rfl)
  change wpAnyH _ _ _ _ _ _ _ (Act.put _ (some 15) _) _
  simp only [Act.put, List.setIfInBounds_toArray, List.set_cons_zero, List.set_cons_succ]
  refine wpAnyH_done (by kernel_rfl) ?_ _
  have hlen := hat4
  obtain ⟨b5, A5, c5, ds5, he5, _, hd5⟩ := hat4
  have hd4 := H.out.2.2.2.2.2.2.2.step bl4 rfl
  have hlen : ds.length ≤ 900000 := Nat.le_trans (hd4.len H.out.2.2.2.2.1) (Nat.le_of_lt H.out.2.2.2.1)
  have HD := Lib.hid (And.intro hd4 bl4)
  obtain ⟨x0, x1⟩ := id k4
  clear hd4 bl4 hd5 he5 k4 hs4 HP
  go_wp2
  go_loop [4, 5] (fun uv iv => ∃ k : Nat, k ≤ ds.length ∧ iv = .int .i64 ((k : Int) - 1) ∧ uv = .int .u64 ((Lm.val BD (ds.drop k) : Nat) : Int)) (fun _ iv => (intOf iv + 1).toNat)
  case atStart => exact ⟨ds.length, Nat.le_refl _, congrArg (Value.int IntKind.i64) (by omega), by rw [List.drop_length]; rfl⟩
  case round =>
    obtain ⟨k, hk, rfl, rfl⟩ := hrel
    have hule := drop_le ds k hk
    rw [HD.out.1.2.2.2.2] at hule
    have hle := HF.out.2.1
    by_cases h0 : 0 < k
    · obtain ⟨j, hj⟩ : ∃ j, k = j + 1 := ⟨k - 1, by omega⟩
      subst hj
      obtain ⟨ad, rfl, _, hcell⟩ := HD.out.1.2.1 (by omega)
      have hcd := hcell j (by omega)
      have hlim := dig_lt HD.out.1.2.2.1 j
      have hst := Lm.val_drop_pred BD ds j (by omega)
      have hule2 := drop_le ds j (by omega)
      rw [HD.out.1.2.2.2.2] at hule2
      clear hcell
      obtain ⟨d, hd⟩ : ∃ d, ds.getD j 0 = d := ⟨_, rfl⟩
      obtain ⟨u, hu⟩ : ∃ u, Lm.val BD (ds.drop (j + 1)) = u := ⟨_, rfl⟩
      rw [hd] at hcd hlim hst
      rw [hu] at hst hule ⊢
      rw [hst] at hule2
      rw [show (((j + 1 : Nat) : Int) - 1) = (j : Int) from by omega]
      have d0 : (0 : Int) ≤ (d : Int) := Int.natCast_nonneg d
      have d1 : (d : Int) ≤ 65535 := by unfold BD at hlim; omega
      have u0 : (0 : Int) ≤ (u : Int) := Int.natCast_nonneg u
      have u1 : (u : Int) ≤ 140737488355328 := by unfold BD at hule2; omega
      have e1 : IntKind.u64.wrap ((u : Int) * 65536) = (u : Int) * 65536 := IntWalk.u64_in _ (by omega)
      have e2 : IntKind.u64.wrap ((u : Int) * 65536 + (d : Int)) = (u : Int) * 65536 + (d : Int) := IntWalk.u64_in _ (by omega)
      have HS := Lib.hid hst
      clear hd hu hst hule hule2 hlim hle
      go_wp2
      go_round
      case rel => exact ⟨j, by omega, rfl, congrArg (Value.int IntKind.u64) (by rw [HS.out]; unfold BD; omega)⟩
      case measure => simp [intOf]
    · obtain rfl : k = 0 := by omega
      rw [List.drop_zero, HD.out.1.2.2.2.2]
      obtain ⟨n, hn⟩ : ∃ n, z.natAbs = n := ⟨_, rfl⟩
      have HN := Lib.hid (And.intro hn (show n ≤ 9223372036854775808 by omega))
      rw [hn]
      clear hule hn hle
      go_wp2
      go_ret2
      have hv := wrap64_neg n (by have := HN.out.1; have := HF.out.2.2; omega) HN.out.2
      have ez : z = wrap64 (IntKind.u64.wrap (-(n : Int))) := (show z = -(n : Int) by have := HN.out.1; have := HF.out.2.2; omega).trans hv.symm
      refine ⟨?_, HD.out.2⟩
      rw [HF.out.1, if_pos rfl, ez]
      rfl

theorem RInt64_any (v : Value) (z : Int) (m : Nat) (w : World) (h : RefAt w v z) (hm4 : 4 ≤ m) (hm : m < 900000) (hz : z.natAbs < BD ^ m) : Calls Try.prog 20 #[v] w fun e w' => Is64 w w' z e := by
  obtain ⟨b, A, c, ds, rfl, hs, hd⟩ := h
  by_cases h1 : z < -9223372036854775808
  · exact rint64_a b A c ds z m w hs hd hm4 hm hz h1
  · by_cases h2 : 9223372036854775807 < z
    · exact rint64_b b A c ds z m w hs hd hm4 hm hz h1 h2
    · cases b
      · exact rint64_c_false A c ds z m w hs hd hm4 hm hz h1 h2
      · exact rint64_c_true A c ds z m w hs hd hm4 hm hz h1 h2
end Go.Proofs.Ytllkajlmfbikhaa
