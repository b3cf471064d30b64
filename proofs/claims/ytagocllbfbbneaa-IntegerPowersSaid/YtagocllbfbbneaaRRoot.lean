/- What Root of the reference does: the greatest number whose square is not greater. -/
import Derived.Test.YtagocllbfbbneaaRKit
namespace Go.Proofs.Ytagocllbfbbneaa.RK
open Go.RowKit
set_option linter.unusedSimpArgs false

/-- r is the root so far: the digits from i on are told. -/
def SoFar (z : Int) (r i : Nat) : Prop := (r : Int) * r ≤ z ∧ z < ((r + 2 ^ i : Nat) : Int) * ((r + 2 ^ i : Nat) : Int)
theorem sofar_start (n : Nat) : SoFar (n : Int) 0 (bl n / 2 + 1) := by
  refine ⟨by simp, ?_⟩
  have h := bl_le.1 (Nat.le_refl (bl n))
  have h2 : 2 ^ bl n ≤ 2 ^ (bl n / 2 + 1) * 2 ^ (bl n / 2 + 1) := by rw [← Nat.pow_add]; exact Nat.pow_le_pow_right (by decide) (by omega)
  rw [Nat.zero_add]
  have h3 : n < 2 ^ (bl n / 2 + 1) * 2 ^ (bl n / 2 + 1) := Nat.lt_of_lt_of_le h h2
  have h4 : (((2 ^ (bl n / 2 + 1) * 2 ^ (bl n / 2 + 1) : Nat)) : Int) = ((2 ^ (bl n / 2 + 1) : Nat) : Int) * ((2 ^ (bl n / 2 + 1) : Nat) : Int) := by simp
  rw [← h4]
  omega
theorem sofar_yes {z : Int} {r j : Nat} (h : SoFar z r (j + 1)) (k : ((r + 2 ^ j : Nat) : Int) * ((r + 2 ^ j : Nat) : Int) ≤ z) : SoFar z (r + 2 ^ j) j := by
  refine ⟨k, ?_⟩
  have e : r + 2 ^ (j + 1) = r + 2 ^ j + 2 ^ j := by rw [Nat.pow_succ]; omega
  rw [← e]
  exact h.2
theorem sofar_no {z : Int} {r j : Nat} (h : SoFar z r (j + 1)) (k : z < ((r + 2 ^ j : Nat) : Int) * ((r + 2 ^ j : Nat) : Int)) : SoFar z r j := ⟨h.1, k⟩
theorem cmp_not {x y : Int} (h : y < x) : 0 < cmpZ x y := by
  unfold cmpZ
  rw [if_neg (by omega)]
  split <;> omega
theorem cmp_leq {x y : Int} (h : x ≤ y) : cmpZ x y ≤ 0 := by
  unfold cmpZ
  split
  · decide
  · split <;> omega
/-- The numbers of a round. -/
structure RootR (z : Int) (k r j : Nat) (t n nn c : Int) : Prop where
  t_ : (2 : Int) ^ j = t
  n_ : (r : Int) + t = n
  nn_ : n * n = nn
  c_ : cmpZ nn z = c
  fr : FitD (r : Int) (k + 1)
  ft : FitD t (k + 1)
  fn : FitD n (k + 2)
  fnn : FitD nn (2 * k + 4)
  fz : FitD z (2 * k + 4)
theorem rootR (z : Int) (k r j : Nat) (hz : FitD z k) (hr : (r : Int) * r ≤ z) (hj : j ≤ 8 * k + 1) (hk : 1 ≤ k) : ∃ t n nn c, Hid (RootR z k r j t n nn c) ∧ n = ((r + 2 ^ j : Nat) : Int) := by
  have hrz : r ≤ z.natAbs := by
    rcases Nat.eq_zero_or_pos r with e | e
    · omega
    · have h1 : r * 1 ≤ r * r := Nat.mul_le_mul_left _ e
      have h2 : ((r * r : Nat) : Int) ≤ z := by simpa using hr
      omega
  have fr : FitD (r : Int) k := by unfold FitD; rw [Int.natAbs_natCast]; exact Nat.lt_of_le_of_lt hrz hz
  have ft : FitD ((2 : Int) ^ j) (k + 1) := by
    unfold FitD
    rw [Int.natAbs_pow, show (2 : Int).natAbs = 2 from rfl, show BD = 2 ^ 16 from rfl, ← Nat.pow_mul]
    exact Nat.pow_lt_pow_right (by decide) (by omega)
  have hn : (r : Int) + (2 : Int) ^ j = ((r + 2 ^ j : Nat) : Int) := by simp
  have fn : FitD ((r : Int) + (2 : Int) ^ j) (k + 2) := by
    have a1 : r < BD ^ (k + 1) := Nat.lt_of_lt_of_le (show r < BD ^ k from by have := fr; unfold FitD at this; simpa using this) (Nat.pow_le_pow_right BD_pos (by omega))
    have a2 : 2 ^ j < BD ^ (k + 1) := by have := ft; unfold FitD at this; rw [Int.natAbs_pow] at this; exact this
    unfold FitD
    rw [hn, Int.natAbs_natCast, show k + 2 = k + 1 + 1 from rfl, Nat.pow_succ BD (k + 1)]
    have : BD ^ (k + 1) * 2 ≤ BD ^ (k + 1) * BD := Nat.mul_le_mul_left _ (by decide)
    omega
  exact ⟨_, _, _, _, Lib.hid ⟨rfl, rfl, rfl, rfl, fr.up (by omega), ft, fn, (fn.mul fn).up (by omega), hz.up (by omega)⟩, hn⟩
/-- An integer of the reference and no error: a root. -/
def IsRootR (w w' : World) (z : Int) (e : Ending) : Prop := ∃ r : Nat, SoFar z r 0 ∧ IsRE w w' (r : Int) 0 e

set_option maxRecDepth 100000 in
set_option maxHeartbeats 8000000 in
theorem RRoot_some (v : Value) (z : Int) (k : Nat) (w : World) (h : RefAt w v z) (h0 : 0 ≤ z) (hk : k ≤ 40) (hk1 : 1 ≤ k) (hz : FitD z k) : Calls Try.prog 49 #[v] w fun e w' => IsRootR w w' z e := by
  obtain ⟨b, A, c, ds, rfl, hs, hd⟩ := h
  have hb0 := begun1_below w (.bool b) (.slice A ds.length c) 31
  have hT := begun1_x w (.bool b) (.slice A ds.length c) 31
  have hR := begun1_r w (.bool b) (.slice A ds.length c) 31
  have hsz := begun1_size w (.bool b) (.slice A ds.length c) 31
  obtain ⟨W, hW⟩ : ∃ W, begun1 w (.bool b) (.slice A ds.length c) 31 = W := ⟨_, rfl⟩
  rw [hW] at hb0 hT hR hsz
  unfold begun1 at hW
  have hdW := hd.below hb0
  obtain ⟨sg, hsg⟩ : ∃ s, z.sign = s := ⟨_, rfl⟩
  have hsn : 0 ≤ sg := by
    rw [← hsg]
    rcases (show z = 0 ∨ 0 < z by omega) with e | e
    · rw [e]; decide
    · rw [Int.sign_eq_one_of_pos e]; decide
  have hsig := rsign_is (.agg #[.bool b, .slice A ds.length c]) z sg k W ⟨b, A, c, ds, rfl, hs, hdW⟩ (by omega) hz hsg
  have H := Lib.hid (And.intro hb0 (And.intro hR (And.intro hW (And.intro hT (And.intro hs (And.intro hdW (And.intro hsig (And.intro hz (And.intro h0 hk1)))))))))
  have hs2 : w.heap.size + 2 ≤ W.heap.size := by omega
  obtain ⟨px0, px1⟩ := id hT
  clear hb0 hT hR hW hs hd hsz hdW hsig hsg hz h0 hk1
  go_enter Try.func49, Try.ntmps49
  go_upto_region 1 with fail
  rw [H.out.2.2.1]
  go_wp2_with fail
  refine H.out.2.2.2.2.2.2.1.mono ?_
  rintro e w1 ⟨rfl, hb1⟩
  have HP := Lib.hid (And.intro (H.out.2.2.2.1.step hb1 rfl (by omega)) (And.intro (H.out.2.1.step hb1 rfl (by omega)) (And.intro (H.out.2.2.2.2.2.1.below hb1) (And.intro (below_then H.out.1 hb1) (RNew_pos 0 w1 (by decide))))))
  have hs3 : w.heap.size + 2 ≤ w1.heap.size := Nat.le_trans hs2 hb1.size
  clear px0 px1 hb1 hs2
  go_wp2_with fail
  refine HP.out.2.2.2.2.mono ?_
  rintro e w2 ⟨v2, rfl, ⟨b2, A2, c2, ds2, rfl, hs2, hd2⟩, hb2⟩
  have hal : Below w2.heap.size w2 (w2.alloc (.cells #[.bool b2, .slice A2 ds2.length c2] 31)) := (Below.refl _ _).alloc (Nat.le_refl _) _
  have ho := Held2.new hs2 hd2
  have k1 := (HP.out.1.step hb2 rfl (by omega)).step hal rfl (by have := hb2.size; omega)
  have r1 := (HP.out.2.1.step hb2 rfl (by omega)).step hal rfl (by have := hb2.size; omega)
  have d1 := (HP.out.2.2.1.below hb2).below hal
  have b1' := below_then (below_then HP.out.2.2.2.1 hb2) hal
  have hz1 : w.heap.size + 2 ≤ w2.heap.size := Nat.le_trans hs3 hb2.size
  obtain ⟨W1, hW1⟩ : ∃ X : World, X = w2.alloc (.cells #[.bool b2, .slice A2 ds2.length c2] 31) := ⟨_, rfl⟩
  obtain ⟨ro, hro⟩ : ∃ r : Nat, r = w2.heap.size := ⟨_, rfl⟩
  rw [← hW1] at ho k1 r1 d1 b1'
  rw [← hro] at ho hz1
  obtain ⟨Z, hZ⟩ : ∃ n, bl z.natAbs = n := ⟨_, rfl⟩
  have hwd := rwidth_is (.agg #[.bool b, .slice A ds.length c]) z Z k W1 ⟨b, A, c, ds, rfl, H.out.2.2.2.2.1, d1⟩ (by omega) H.out.2.2.2.2.2.2.2.1 hZ
  have hZ8 : Z ≤ 16 * k := by
    rw [← hZ]
    refine bl_le.2 ?_
    have h := H.out.2.2.2.2.2.2.2.1
    unfold FitD at h
    rw [show BD = 2 ^ 16 from rfl, ← Nat.pow_mul] at h
    exact h
  have hst : SoFar z 0 (Z / 2 + 1) := by
    have h := sofar_start z.natAbs
    rw [hZ] at h
    rw [show z = (z.natAbs : Int) by have := H.out.2.2.2.2.2.2.2.2.1; omega]
    exact h
  have HO := Lib.hid (And.intro ho (And.intro k1 (And.intro r1 (And.intro d1 (And.intro b1' (And.intro hwd hst))))))
  have HW1 := Lib.hid (And.intro hW1 hro)
  obtain ⟨px0, px1⟩ := id k1
  clear hal ho k1 r1 d1 b1' hW1 hro hs2 hd2 hb2 HP hZ hwd hst
  go_upto_region 4 with fail
  rw [← HW1.out.1, ← HW1.out.2]
  clear HW1
  have z0 : (0 : Int) ≤ (Z : Int) := Int.natCast_nonneg Z
  have z1 : (Z : Int) ≤ 640 := by omega
  go_wp2_with fail
  refine HO.out.2.2.2.2.2.1.mono ?_
  rintro e w3 ⟨rfl, hb3⟩
  have HQ := Lib.hid (And.intro (HO.out.1.step hb3 rfl) (And.intro (HO.out.2.1.step hb3 rfl (by have := HO.out.1.lt; omega)) (And.intro (HO.out.2.2.1.step hb3 rfl (by have := HO.out.1.lt; omega)) (And.intro (HO.out.2.2.2.1.below hb3) (And.intro (below_then HO.out.2.2.2.2.1 hb3) HO.out.2.2.2.2.2.2)))))
  clear HO px0 px1 hb3
  go_wp2_with fail
  go_loopw [5] (fun iv wr => ∃ (i r : Nat) (bo : Bool) (Ao : Option Addr) (co : Nat) (dso : List Nat), iv = .int .i64 ((i : Int) - 1) ∧ i ≤ 8 * k + 1 ∧ SoFar z r i ∧ Held2 wr ro bo Ao co dso (r : Int) ∧ Two wr w.heap.size (.bool b) (.slice A ds.length c) ∧ Res wr (w.heap.size + 1) ∧ Digs wr A c ds z.natAbs ∧ Below w.heap.size w wr) (fun iv _ => (intOf iv + 1).toNat)
  case atStart => exact ⟨Z / 2 + 1, 0, b2, A2, c2, ds2, congrArg (Value.int IntKind.i64) (by omega), by omega, HQ.out.2.2.2.2.2, HQ.out.1, HQ.out.2.1, HQ.out.2.2.1, HQ.out.2.2.2.1, HQ.out.2.2.2.2.1⟩
  case round =>
    clear HQ
    obtain ⟨i, r, bo, Ao, co, dso, rfl, hi, hsf, ho, hx, hr, hdx, hbw⟩ := hrel
    cases i with
    | zero =>
      rw [show ((0 : Nat) : Int) - 1 = -1 from rfl]
      have HE := Lib.hid (And.intro ho (And.intro hr (And.intro hbw hsf)))
      obtain ⟨q0, q1⟩ := id ho.two
      obtain ⟨⟨hr0, hr1⟩, hf0, hf1⟩ := id hr
      clear ho hx hr hdx hbw hsf
      go_wp2
      have q := HE.out.2.1.1.stored (.bool bo) (.slice Ao dso.length co)
      obtain ⟨s0, s1⟩ := id q
      refine bodyPost_ret (v := .tuple #[.agg #[.bool bo, .slice Ao dso.length co], .int .i64 0]) (by simp [results, Try.results49, go_sem, s0, s1]) rfl ?_
      exact ⟨r, HE.out.2.2.2, refE_stored HE.out.2.1 HE.out.1.sg HE.out.1.dg HE.out.2.2.1 (by omega)⟩
    | succ j =>
      rw [show (((j + 1 : Nat)) : Int) - 1 = (j : Int) by omega]
      have hj : j ≤ 8 * k := by omega
      have j0 : (0 : Int) ≤ (j : Int) := Int.natCast_nonneg j
      have j1 : (j : Int) ≤ 320 := by omega
      obtain ⟨t, n, nn, c9, HZ, hn9⟩ := rootR z k r j H.out.2.2.2.2.2.2.2.1 hsf.1 (by omega) H.out.2.2.2.2.2.2.2.2.2
      have HN9 := Lib.hid hn9
      have hv0 : Vars wr [⟨true, ro, bo, Ao, dso.length, co, (r : Int)⟩, ⟨true, w.heap.size, b, A, ds.length, c, z⟩] :=
        ((Vars.nil wr).cons ⟨fun _ => by have := ho.lt; show w.heap.size < _; omega, fun _ => hx, b, A, c, ds, rfl, H.out.2.2.2.2.1, hdx⟩).cons ⟨fun _ => ho.lt, fun _ => ho.two, ho.at_⟩
      have HC := Lib.hid (And.intro hv0 (Below.refl wr.heap.size wr))
      have HB := Lib.hid (And.intro ho (And.intro hx (And.intro hr (And.intro hdx (And.intro hbw hsf)))))
      clear hv0 ho hx hr hdx hbw hsf hn9
      go_upto_region 7 with fail
      go_cut [6] (fun s wx => ∃ (rn : Nat) (bn : Bool) (An : Option Addr) (nl cn : Nat) (W : World), W = wx ∧ s = .pointer (some ⟨rn, 0, none⟩) ∧ Vars W (⟨true, rn, bn, An, nl, cn, n⟩ :: [⟨true, ro, bo, Ao, dso.length, co, (r : Int)⟩, ⟨true, w.heap.size, b, A, ds.length, c, z⟩]) ∧ Below wr.heap.size wr W)
      case first => as_aux_lemma =>
        have HD1 := Lib.hid (And.intro HC.out.1.drew HC.out.2.drew)
        refine wp_region_held_drew (S := Cells [⟨true, ro, bo, Ao, dso.length, co, (r : Int)⟩, ⟨true, w.heap.size, b, A, ds.length, c, z⟩]) (by kernel_rfl) (HD1.out.1.cells) (fun hH0 => ?_)
        refine wpAnyH_take (i := 0) (v := (.agg #[.bool bo, .slice Ao dso.length co])) rfl (by kernel_rfl) (by kernel_rfl) (by kernel_rfl) (fun _ _ _ h => h) (Or.inl ⟨by kernel_rfl, fun w0 hS0 => run_load (hS0 0 _ rfl rfl) (.tmp 4) (by kernel_rfl) (by kernel_rfl)⟩) hH0 ?r1
        change wpAnyH _ _ _ _ _ _ _ (Act.put _ (some 19) _) _
        simp only [Act.put, List.setIfInBounds_toArray, List.set_cons_zero, List.set_cons_succ]
        refine wpAnyH_take (i := 1) (v := (.int .i64 (j : Int))) rfl (by kernel_rfl) (by kernel_rfl) (by kernel_rfl) (fun _ _ _ h => h) (Or.inl ⟨by kernel_rfl, fun _ _ => by kernel_rfl⟩) hH0 ?r2
        change wpAnyH _ _ _ _ _ _ _ (Act.put _ (some 20) _) _
        simp only [Act.put, List.setIfInBounds_toArray, List.set_cons_zero, List.set_cons_succ]
        refine wpAnyH_ready (rs := [2, 4]) (by kernel_rfl) (by simp) ?_
        refine AllReadyH.cons rfl (fun K hK0 => ?d3) (AllReadyH.cons rfl (fun K hK0 => ?d4) (AllReadyH.nil))
        case d3 =>
          have hK := hK0.out
          clear hK0
          rw [if_pos (by kernel_rfl)]
          refine wp_go_call 98 #[(.int .i64 (j : Int))] (fun _ => by kernel_rfl) ((rtwo_is j t _ (by omega) HZ.out.t_).mono ?_)
          rintro e wq2 ⟨qv2, rfl, ⟨qb2, qA2, qc2, qs2, rfl, qg2, ql2⟩, hb2⟩
          have HD2 := Lib.hid (And.intro ((HD1.out.1.step hb2 rfl).told qg2 ql2) (below_then HD1.out.2 hb2))
          refine ⟨(.agg #[.bool qb2, .slice qA2 qs2.length qc2]), rfl, hK _ _ (HD2.out.1.tail.cells) (fun hH2 => ?_)⟩
          clear hK K hH0
          change wpAnyH _ _ _ _ _ _ _ (Act.put _ (some 21) _) _
          simp only [Act.put, List.setIfInBounds_toArray, List.set_cons_zero, List.set_cons_succ]
          refine wpAnyH_ready (rs := [3, 4]) (by kernel_rfl) (by simp) ?_
          refine AllReadyH.cons rfl (fun K hK0 => ?d5) (AllReadyH.cons rfl (fun K hK0 => ?d6) (AllReadyH.nil))
          case d5 =>
            have hK := hK0.out
            clear hK0
            rw [if_pos (by kernel_rfl)]
            refine wp_go_call 39 #[(.agg #[.bool bo, .slice Ao dso.length co]), (.agg #[.bool qb2, .slice qA2 qs2.length qc2])] (fun _ => by kernel_rfl) ((radd_is _ _ (r : Int) t n (k + 1) _ ((HD2.out.1 1 _ rfl).at_) ((HD2.out.1 0 _ rfl).at_) (by omega) HZ.out.fr HZ.out.ft HZ.out.n_).mono ?_)
            rintro e wq3 ⟨qv3, rfl, ⟨qb3, qA3, qc3, qs3, rfl, qg3, ql3⟩, hb3⟩
            have HD3 := Lib.hid (And.intro ((HD2.out.1.step hb3 rfl).told qg3 ql3) (below_then HD2.out.2 hb3))
            refine ⟨(.agg #[.bool qb3, .slice qA3 qs3.length qc3]), rfl, hK _ _ (HD3.out.1.tail.tail.cells) (fun hH3 => ?_)⟩
            clear hK K hH2
            change wpAnyH _ _ _ _ _ _ _ (Act.put _ (some 22) _) _
            simp only [Act.put, List.setIfInBounds_toArray, List.set_cons_zero, List.set_cons_succ]
            refine wpAnyH_ready (rs := [4]) (by kernel_rfl) (by simp) ?_
            refine AllReadyH.cons rfl (fun K hK0 => ?d7) (AllReadyH.nil)
            have hK := hK0.out
            clear hK0
            rw [if_pos (by kernel_rfl)]
            refine wp_go_val (.pointer (some ⟨(wq3).heap.size, 0, none⟩)) (run_alloc _ _ _ (by kernel_rfl)) ?_
            have HD4 := Lib.hid (And.intro (HD3.out.1.alloc (.cells #[.bool false, .slice none 0 0] 31)) (HD3.out.2.alloc HD3.out.2.size (.cells #[.bool false, .slice none 0 0] 31)))
            have hr4 := Res.new (wq3) 31
            have hr4_lt : (wq3).heap.size < ((wq3).alloc (.cells #[.bool false, .slice none 0 0] 31)).heap.size := by rw [size_alloc]; omega
            refine hK _ _ (HD4.out.1.tail.tail.cells) (fun hH4 => ?_)
            clear hK K hH3
            change wpAnyH _ _ _ _ _ _ _ (Act.put _ (some 6) _) _
            simp only [Act.put, List.setIfInBounds_toArray, List.set_cons_zero, List.set_cons_succ]
            refine wpAnyH_ready (rs := [5]) (by kernel_rfl) (by simp) ?_
            refine AllReadyH.cons rfl (fun K hK0 => ?d8) (AllReadyH.nil)
            have hK := hK0.out
            clear hK0
            rw [if_pos (by kernel_rfl)]
            refine wp_go_skip (run_store _ _ (wq3) qb3 qA3 qs3.length qc3 (.tmp 6) (.tmp 22) (by kernel_rfl) (by kernel_rfl) (by kernel_rfl)) ?_
            have HD5 := Lib.hid (And.intro ((HD3.out.1.skip).laid 31) (HD3.out.2.alloc HD3.out.2.size (.cells #[.bool qb3, .slice qA3 qs3.length qc3] 31)))
            refine hK _ _ (HD5.out.1.tail.cells) (fun hH5 => ?_)
            clear hK K hH4
            change wpAnyH _ _ _ _ _ _ _ (Act.put _ none _) _
            simp only [Act.put]
            refine wpAnyH_done (by kernel_rfl) ?_ _
            go_wp2
            go_meet
            exact ⟨(wq3).heap.size, qb3, qA3, qs3.length, qc3, _, rfl, rfl, HD5.out.1, HD5.out.2⟩
          case d6 =>
            have hK := hK0.out
            clear hK0
            rw [if_pos (by kernel_rfl)]
            refine wp_go_val (.pointer (some ⟨(wq2).heap.size, 0, none⟩)) (run_alloc _ _ _ (by kernel_rfl)) ?_
            have HD6 := Lib.hid (And.intro (HD2.out.1.alloc (.cells #[.bool false, .slice none 0 0] 31)) (HD2.out.2.alloc HD2.out.2.size (.cells #[.bool false, .slice none 0 0] 31)))
            have hr6 := Res.new (wq2) 31
            have hr6_lt : (wq2).heap.size < ((wq2).alloc (.cells #[.bool false, .slice none 0 0] 31)).heap.size := by rw [size_alloc]; omega
            refine hK _ _ (HD6.out.1.tail.cells) (fun hH6 => ?_)
            clear hK K hH2
            change wpAnyH _ _ _ _ _ _ _ (Act.put _ (some 6) _) _
            simp only [Act.put, List.setIfInBounds_toArray, List.set_cons_zero, List.set_cons_succ]
            refine wpAnyH_ready (rs := [3]) (by kernel_rfl) (by simp) ?_
            refine AllReadyH.cons rfl (fun K hK0 => ?d9) (AllReadyH.nil)
            have hK := hK0.out
            clear hK0
            rw [if_pos (by kernel_rfl)]
            refine wp_go_call 39 #[(.agg #[.bool bo, .slice Ao dso.length co]), (.agg #[.bool qb2, .slice qA2 qs2.length qc2])] (fun _ => by kernel_rfl) ((radd_is _ _ (r : Int) t n (k + 1) _ ((HD6.out.1 1 _ rfl).at_) ((HD6.out.1 0 _ rfl).at_) (by omega) HZ.out.fr HZ.out.ft HZ.out.n_).mono ?_)
            rintro e wq7 ⟨qv7, rfl, ⟨qb7, qA7, qc7, qs7, rfl, qg7, ql7⟩, hb7⟩
            have HD7 := Lib.hid (And.intro ((HD6.out.1.step hb7 rfl).told qg7 ql7) (below_then HD6.out.2 hb7))
            have hr7_4 := hr6.step hb7 rfl hr6_lt
            have hr7_4_lt := Nat.lt_of_lt_of_le hr6_lt hb7.size
            refine ⟨(.agg #[.bool qb7, .slice qA7 qs7.length qc7]), rfl, hK _ _ (HD7.out.1.tail.tail.cells) (fun hH7 => ?_)⟩
            clear hK K hH6
            change wpAnyH _ _ _ _ _ _ _ (Act.put _ (some 22) _) _
            simp only [Act.put, List.setIfInBounds_toArray, List.set_cons_zero, List.set_cons_succ]
            refine wpAnyH_ready (rs := [5]) (by kernel_rfl) (by simp) ?_
            refine AllReadyH.cons rfl (fun K hK0 => ?d10) (AllReadyH.nil)
            have hK := hK0.out
            clear hK0
            rw [if_pos (by kernel_rfl)]
            refine wp_go_skip (run_store2 hr7_4 qb7 qA7 qs7.length qc7 (.tmp 6) (.tmp 22) (by kernel_rfl) (by kernel_rfl) (by kernel_rfl)) ?_
            have hv8 := Vars.put (HD2.out.1.tail) (HD7.out.1.skip) hr7_4 (Nat.le_refl _) hr7_4_lt
            have HD8 := Lib.hid (And.intro hv8 ((HD7.out.2.setCell (p := ⟨(wq2).heap.size, 0, none⟩) HD2.out.2.size (.bool qb7)).setCell (p := ⟨(wq2).heap.size, 1, none⟩) HD2.out.2.size (.slice qA7 qs7.length qc7)))
            refine hK _ _ (HD8.out.1.tail.cells) (fun hH8 => ?_)
            clear hK K hH7
            change wpAnyH _ _ _ _ _ _ _ (Act.put _ none _) _
            simp only [Act.put]
            refine wpAnyH_done (by kernel_rfl) ?_ _
            go_wp2
            go_meet
            exact ⟨(wq2).heap.size, qb7, qA7, qs7.length, qc7, _, rfl, rfl, HD8.out.1, HD8.out.2⟩
        case d4 =>
          have hK := hK0.out
          clear hK0
          rw [if_pos (by kernel_rfl)]
          refine wp_go_val (.pointer (some ⟨(wr.drew).heap.size, 0, none⟩)) (run_alloc _ _ _ (by kernel_rfl)) ?_
          have HD9 := Lib.hid (And.intro (HD1.out.1.alloc (.cells #[.bool false, .slice none 0 0] 31)) (HD1.out.2.alloc HD1.out.2.size (.cells #[.bool false, .slice none 0 0] 31)))
          have hr9 := Res.new (wr.drew) 31
          have hr9_lt : (wr.drew).heap.size < ((wr.drew).alloc (.cells #[.bool false, .slice none 0 0] 31)).heap.size := by rw [size_alloc]; omega
          refine hK _ _ (HD9.out.1.cells) (fun hH9 => ?_)
          clear hK K hH0
          change wpAnyH _ _ _ _ _ _ _ (Act.put _ (some 6) _) _
          simp only [Act.put, List.setIfInBounds_toArray, List.set_cons_zero, List.set_cons_succ]
          refine wpAnyH_ready (rs := [2]) (by kernel_rfl) (by simp) ?_
          refine AllReadyH.cons rfl (fun K hK0 => ?d11) (AllReadyH.nil)
          have hK := hK0.out
          clear hK0
          rw [if_pos (by kernel_rfl)]
          refine wp_go_call 98 #[(.int .i64 (j : Int))] (fun _ => by kernel_rfl) ((rtwo_is j t _ (by omega) HZ.out.t_).mono ?_)
          rintro e wq10 ⟨qv10, rfl, ⟨qb10, qA10, qc10, qs10, rfl, qg10, ql10⟩, hb10⟩
          have HD10 := Lib.hid (And.intro ((HD9.out.1.step hb10 rfl).told qg10 ql10) (below_then HD9.out.2 hb10))
          have hr10_4 := hr9.step hb10 rfl hr9_lt
          have hr10_4_lt := Nat.lt_of_lt_of_le hr9_lt hb10.size
          refine ⟨(.agg #[.bool qb10, .slice qA10 qs10.length qc10]), rfl, hK _ _ (HD10.out.1.tail.cells) (fun hH10 => ?_)⟩
          clear hK K hH9
          change wpAnyH _ _ _ _ _ _ _ (Act.put _ (some 21) _) _
          simp only [Act.put, List.setIfInBounds_toArray, List.set_cons_zero, List.set_cons_succ]
          refine wpAnyH_ready (rs := [3]) (by kernel_rfl) (by simp) ?_
          refine AllReadyH.cons rfl (fun K hK0 => ?d12) (AllReadyH.nil)
          have hK := hK0.out
          clear hK0
          rw [if_pos (by kernel_rfl)]
          refine wp_go_call 39 #[(.agg #[.bool bo, .slice Ao dso.length co]), (.agg #[.bool qb10, .slice qA10 qs10.length qc10])] (fun _ => by kernel_rfl) ((radd_is _ _ (r : Int) t n (k + 1) _ ((HD10.out.1 1 _ rfl).at_) ((HD10.out.1 0 _ rfl).at_) (by omega) HZ.out.fr HZ.out.ft HZ.out.n_).mono ?_)
          rintro e wq11 ⟨qv11, rfl, ⟨qb11, qA11, qc11, qs11, rfl, qg11, ql11⟩, hb11⟩
          have HD11 := Lib.hid (And.intro ((HD10.out.1.step hb11 rfl).told qg11 ql11) (below_then HD10.out.2 hb11))
          have hr11_4 := hr10_4.step hb11 rfl hr10_4_lt
          have hr11_4_lt := Nat.lt_of_lt_of_le hr10_4_lt hb11.size
          refine ⟨(.agg #[.bool qb11, .slice qA11 qs11.length qc11]), rfl, hK _ _ (HD11.out.1.tail.tail.cells) (fun hH11 => ?_)⟩
          clear hK K hH10
          change wpAnyH _ _ _ _ _ _ _ (Act.put _ (some 22) _) _
          simp only [Act.put, List.setIfInBounds_toArray, List.set_cons_zero, List.set_cons_succ]
          refine wpAnyH_ready (rs := [5]) (by kernel_rfl) (by simp) ?_
          refine AllReadyH.cons rfl (fun K hK0 => ?d13) (AllReadyH.nil)
          have hK := hK0.out
          clear hK0
          rw [if_pos (by kernel_rfl)]
          refine wp_go_skip (run_store2 hr11_4 qb11 qA11 qs11.length qc11 (.tmp 6) (.tmp 22) (by kernel_rfl) (by kernel_rfl) (by kernel_rfl)) ?_
          have hv12 := Vars.put (HD1.out.1) (HD11.out.1.skip) hr11_4 (Nat.le_refl _) hr11_4_lt
          have HD12 := Lib.hid (And.intro hv12 ((HD11.out.2.setCell (p := ⟨(wr.drew).heap.size, 0, none⟩) HD1.out.2.size (.bool qb11)).setCell (p := ⟨(wr.drew).heap.size, 1, none⟩) HD1.out.2.size (.slice qA11 qs11.length qc11)))
          refine hK _ _ (HD12.out.1.tail.cells) (fun hH12 => ?_)
          clear hK K hH11
          change wpAnyH _ _ _ _ _ _ _ (Act.put _ none _) _
          simp only [Act.put]
          refine wpAnyH_done (by kernel_rfl) ?_ _
          go_wp2
          go_meet
          exact ⟨(wr.drew).heap.size, qb11, qA11, qs11.length, qc11, _, rfl, rfl, HD12.out.1, HD12.out.2⟩
      case rest =>
        obtain ⟨rn, bn, An, nl, cn, W7, rfl, rfl, hvs, hbl⟩ := hcut
        have HC7 := Lib.hid (And.intro hvs hbl)
        clear hvs hbl HC
        go_upto_region 8 with fail
        by_cases hle : nn ≤ z
        · have hc9 : c9 ≤ 0 := by rw [← HZ.out.c_]; exact cmp_leq hle
          have HL := Lib.hid hle
          clear hle
          have HD13 := Lib.hid (And.intro HC7.out.1.drew HC7.out.2.drew)
          refine wp_region_held_drew (S := Cells [⟨true, rn, bn, An, nl, cn, n⟩, ⟨true, ro, bo, Ao, dso.length, co, (r : Int)⟩, ⟨true, w.heap.size, b, A, ds.length, c, z⟩]) (by kernel_rfl) (HD13.out.1.cells) (fun hH0 => ?_)
          refine wpAnyH_take (i := 0) (v := (.agg #[.bool bn, .slice An nl cn])) rfl (by kernel_rfl) (by kernel_rfl) (by kernel_rfl) (fun _ _ _ h => h) (Or.inl ⟨by kernel_rfl, fun w0 hS0 => run_load (hS0 0 _ rfl rfl) (.tmp 6) (by kernel_rfl) (by kernel_rfl)⟩) hH0 ?r14
          change wpAnyH _ _ _ _ _ _ _ (Act.put _ (some 23) _) _
          simp only [Act.put, List.setIfInBounds_toArray, List.set_cons_zero, List.set_cons_succ]
          refine wpAnyH_take (i := 1) (v := (.agg #[.bool bn, .slice An nl cn])) rfl (by kernel_rfl) (by kernel_rfl) (by kernel_rfl) (fun _ _ _ h => h) (Or.inl ⟨by kernel_rfl, fun w0 hS0 => run_load (hS0 0 _ rfl rfl) (.tmp 6) (by kernel_rfl) (by kernel_rfl)⟩) hH0 ?r15
          change wpAnyH _ _ _ _ _ _ _ (Act.put _ (some 24) _) _
          simp only [Act.put, List.setIfInBounds_toArray, List.set_cons_zero, List.set_cons_succ]
          refine wpAnyH_take (i := 3) (v := (.agg #[.bool b, .slice A ds.length c])) rfl (by kernel_rfl) (by kernel_rfl) (by kernel_rfl) (fun _ _ _ h => h) (Or.inl ⟨by kernel_rfl, fun w0 hS0 => run_load (hS0 2 _ rfl rfl) (.tmp 1) (by kernel_rfl) (by kernel_rfl)⟩) hH0 ?r16
          change wpAnyH _ _ _ _ _ _ _ (Act.put _ (some 26) _) _
          simp only [Act.put, List.setIfInBounds_toArray, List.set_cons_zero, List.set_cons_succ]
          refine wpAnyH_ready (rs := [2]) (by kernel_rfl) (by simp) ?_
          refine AllReadyH.cons rfl (fun K hK0 => ?d17) (AllReadyH.nil)
          have hK := hK0.out
          clear hK0
          rw [if_pos (by kernel_rfl)]
          refine wp_go_call 43 #[(.agg #[.bool bn, .slice An nl cn]), (.agg #[.bool bn, .slice An nl cn])] (fun _ => by kernel_rfl) ((rmul_is _ _ n n nn (k + 2) (k + 2) _ ((HD13.out.1 0 _ rfl).at_) ((HD13.out.1 0 _ rfl).at_) (by omega) HZ.out.fn (by omega) HZ.out.fn HZ.out.nn_).mono ?_)
          rintro e wq14 ⟨qv14, rfl, ⟨qb14, qA14, qc14, qs14, rfl, qg14, ql14⟩, hb14⟩
          have HD14 := Lib.hid (And.intro ((HD13.out.1.step hb14 rfl).told qg14 ql14) (below_then HD13.out.2 hb14))
          refine ⟨(.agg #[.bool qb14, .slice qA14 qs14.length qc14]), rfl, hK _ _ (HD14.out.1.tail.cells) (fun hH14 => ?_)⟩
          clear hK K hH0
          change wpAnyH _ _ _ _ _ _ _ (Act.put _ (some 25) _) _
          simp only [Act.put, List.setIfInBounds_toArray, List.set_cons_zero, List.set_cons_succ]
          refine wpAnyH_ready (rs := [4]) (by kernel_rfl) (by simp) ?_
          refine AllReadyH.cons rfl (fun K hK0 => ?d18) (AllReadyH.nil)
          have hK := hK0.out
          clear hK0
          rw [if_pos (by kernel_rfl)]
          refine wp_go_call 33 #[(.agg #[.bool qb14, .slice qA14 qs14.length qc14]), (.agg #[.bool b, .slice A ds.length c])] (fun _ => by kernel_rfl) ((rcmp_is _ _ nn z c9 (2 * k + 4) _ ((HD14.out.1 0 _ rfl).at_) ((HD14.out.1 3 _ rfl).at_) (by omega) HZ.out.fnn HZ.out.fz HZ.out.c_).mono ?_)
          rintro e wq15 ⟨rfl, hb15⟩
          have HD15 := Lib.hid (And.intro (HD14.out.1.step hb15 rfl) (below_then HD14.out.2 hb15))
          refine ⟨(.int .i64 c9), rfl, hK _ _ (HD15.out.1.tail.cells) (fun hH15 => ?_)⟩
          clear hK K hH14
          change wpAnyH _ _ _ _ _ _ _ (Act.put _ (some 27) _) _
          simp only [Act.put, List.setIfInBounds_toArray, List.set_cons_zero, List.set_cons_succ]
          refine wpAnyH_take (i := 5) (v := (.bool true)) rfl (by kernel_rfl) (by kernel_rfl) (by kernel_rfl) (fun _ _ _ h => h) (Or.inl ⟨by kernel_rfl, fun w0 hS0 => by go_simp⟩) hH15 ?r19
          change wpAnyH _ _ _ _ _ _ _ (Act.put _ (some 28) _) _
          simp only [Act.put, List.setIfInBounds_toArray, List.set_cons_zero, List.set_cons_succ]
          refine wpAnyH_done (by kernel_rfl) ?_ _
          have HE := Lib.hid (And.intro HD15.out.1.tail HD15.out.2)
          clear HD15
          have o8 := HB.out.1.step HE.out.2 rfl
          have x8 := HB.out.2.1.step HE.out.2 rfl (by have := HB.out.1.lt; omega)
          have r8 := HB.out.2.2.1.step HE.out.2 rfl (by have := HB.out.1.lt; omega)
          have d8 := HB.out.2.2.2.1.below HE.out.2
          have b8 := below_then HB.out.2.2.2.2.1 HE.out.2
          obtain ⟨bb, AA, cc, dn, hae, hsg, hdg⟩ := (HE.out.1 0 _ rfl).at_
          have t8 := (HE.out.1 0 _ rfl).two rfl
          have q1 : bn = bb ∧ Value.slice An nl cn = .slice AA dn.length cc := by
            injection hae with hae
            have e1 := congrArg (fun a : Array Value => a[0]?) hae
            have e2 := congrArg (fun a : Array Value => a[1]?) hae
            simp at e1 e2
            exact ⟨e1, by rw [e2.1, e2.2.1, e2.2.2]⟩
          obtain ⟨q1, q2⟩ := q1
          injection q2 with q2 q3 q4
          subst q1 q2 q3 q4
          obtain ⟨p0, p1⟩ := id t8
          obtain ⟨o0, o1⟩ := id o8.two
          obtain ⟨f0, f1⟩ := id o8.fz
          have HF := Lib.hid (And.intro o8 (And.intro x8 (And.intro r8 (And.intro d8 (And.intro b8 (And.intro hsg hdg))))))
          clear o8 x8 r8 d8 b8 hsg hdg hae t8 HE
          go_wp2
          have o9 := HF.out.1.over HF.out.2.2.2.2.2.1 HF.out.2.2.2.2.2.2
          have k9 := HF.out.2.1.far (r := ro) (by omega) (.bool bn) (.slice An dn.length cn)
          have r9 := HF.out.2.2.1.farther (q := ro) (by omega) (.bool bn) (.slice An dn.length cn)
          have x9 := HF.out.2.2.2.1.over2 HF.out.1.two (.bool bn) (.slice An dn.length cn)
          have hle9 : w.heap.size ≤ ro := by omega
          have b9 := (HF.out.2.2.2.2.1.setCell (p := ⟨ro, 0, none⟩) hle9 (.bool bn)).setCell (p := ⟨ro, 1, none⟩) hle9 (.slice An dn.length cn)
          rw [HN9.out] at o9
          go_roundw
          case rel => exact ⟨j, r + 2 ^ j, bn, An, cn, dn, rfl, by omega, sofar_yes HB.out.2.2.2.2.2 (by rw [← HN9.out, HZ.out.nn_]; exact HL.out), o9, k9, r9, x9, b9⟩
          case measure => simp [intOf]
        · have hc9 : 0 < c9 := by rw [← HZ.out.c_]; exact cmp_not (by omega)
          have hc9f : ¬ c9 ≤ 0 := by omega
          have HL := Lib.hid hle
          clear hle
          have HD16 := Lib.hid (And.intro HC7.out.1.drew HC7.out.2.drew)
          refine wp_region_held_drew (S := Cells [⟨true, rn, bn, An, nl, cn, n⟩, ⟨true, ro, bo, Ao, dso.length, co, (r : Int)⟩, ⟨true, w.heap.size, b, A, ds.length, c, z⟩]) (by kernel_rfl) (HD16.out.1.cells) (fun hH0 => ?_)
          refine wpAnyH_take (i := 0) (v := (.agg #[.bool bn, .slice An nl cn])) rfl (by kernel_rfl) (by kernel_rfl) (by kernel_rfl) (fun _ _ _ h => h) (Or.inl ⟨by kernel_rfl, fun w0 hS0 => run_load (hS0 0 _ rfl rfl) (.tmp 6) (by kernel_rfl) (by kernel_rfl)⟩) hH0 ?r20
          change wpAnyH _ _ _ _ _ _ _ (Act.put _ (some 23) _) _
          simp only [Act.put, List.setIfInBounds_toArray, List.set_cons_zero, List.set_cons_succ]
          refine wpAnyH_take (i := 1) (v := (.agg #[.bool bn, .slice An nl cn])) rfl (by kernel_rfl) (by kernel_rfl) (by kernel_rfl) (fun _ _ _ h => h) (Or.inl ⟨by kernel_rfl, fun w0 hS0 => run_load (hS0 0 _ rfl rfl) (.tmp 6) (by kernel_rfl) (by kernel_rfl)⟩) hH0 ?r21
          change wpAnyH _ _ _ _ _ _ _ (Act.put _ (some 24) _) _
          simp only [Act.put, List.setIfInBounds_toArray, List.set_cons_zero, List.set_cons_succ]
          refine wpAnyH_take (i := 3) (v := (.agg #[.bool b, .slice A ds.length c])) rfl (by kernel_rfl) (by kernel_rfl) (by kernel_rfl) (fun _ _ _ h => h) (Or.inl ⟨by kernel_rfl, fun w0 hS0 => run_load (hS0 2 _ rfl rfl) (.tmp 1) (by kernel_rfl) (by kernel_rfl)⟩) hH0 ?r22
          change wpAnyH _ _ _ _ _ _ _ (Act.put _ (some 26) _) _
          simp only [Act.put, List.setIfInBounds_toArray, List.set_cons_zero, List.set_cons_succ]
          refine wpAnyH_ready (rs := [2]) (by kernel_rfl) (by simp) ?_
          refine AllReadyH.cons rfl (fun K hK0 => ?d23) (AllReadyH.nil)
          have hK := hK0.out
          clear hK0
          rw [if_pos (by kernel_rfl)]
          refine wp_go_call 43 #[(.agg #[.bool bn, .slice An nl cn]), (.agg #[.bool bn, .slice An nl cn])] (fun _ => by kernel_rfl) ((rmul_is _ _ n n nn (k + 2) (k + 2) _ ((HD16.out.1 0 _ rfl).at_) ((HD16.out.1 0 _ rfl).at_) (by omega) HZ.out.fn (by omega) HZ.out.fn HZ.out.nn_).mono ?_)
          rintro e wq17 ⟨qv17, rfl, ⟨qb17, qA17, qc17, qs17, rfl, qg17, ql17⟩, hb17⟩
          have HD17 := Lib.hid (And.intro ((HD16.out.1.step hb17 rfl).told qg17 ql17) (below_then HD16.out.2 hb17))
          refine ⟨(.agg #[.bool qb17, .slice qA17 qs17.length qc17]), rfl, hK _ _ (HD17.out.1.tail.cells) (fun hH17 => ?_)⟩
          clear hK K hH0
          change wpAnyH _ _ _ _ _ _ _ (Act.put _ (some 25) _) _
          simp only [Act.put, List.setIfInBounds_toArray, List.set_cons_zero, List.set_cons_succ]
          refine wpAnyH_ready (rs := [4]) (by kernel_rfl) (by simp) ?_
          refine AllReadyH.cons rfl (fun K hK0 => ?d24) (AllReadyH.nil)
          have hK := hK0.out
          clear hK0
          rw [if_pos (by kernel_rfl)]
          refine wp_go_call 33 #[(.agg #[.bool qb17, .slice qA17 qs17.length qc17]), (.agg #[.bool b, .slice A ds.length c])] (fun _ => by kernel_rfl) ((rcmp_is _ _ nn z c9 (2 * k + 4) _ ((HD17.out.1 0 _ rfl).at_) ((HD17.out.1 3 _ rfl).at_) (by omega) HZ.out.fnn HZ.out.fz HZ.out.c_).mono ?_)
          rintro e wq18 ⟨rfl, hb18⟩
          have HD18 := Lib.hid (And.intro (HD17.out.1.step hb18 rfl) (below_then HD17.out.2 hb18))
          refine ⟨(.int .i64 c9), rfl, hK _ _ (HD18.out.1.tail.cells) (fun hH18 => ?_)⟩
          clear hK K hH17
          change wpAnyH _ _ _ _ _ _ _ (Act.put _ (some 27) _) _
          simp only [Act.put, List.setIfInBounds_toArray, List.set_cons_zero, List.set_cons_succ]
          refine wpAnyH_take (i := 5) (v := (.bool false)) rfl (by kernel_rfl) (by kernel_rfl) (by kernel_rfl) (fun _ _ _ h => h) (Or.inl ⟨by kernel_rfl, fun w0 hS0 => by go_simp⟩) hH18 ?r25
          change wpAnyH _ _ _ _ _ _ _ (Act.put _ (some 28) _) _
          simp only [Act.put, List.setIfInBounds_toArray, List.set_cons_zero, List.set_cons_succ]
          refine wpAnyH_done (by kernel_rfl) ?_ _
          have HE := Lib.hid (And.intro HD18.out.1.tail HD18.out.2)
          clear HD18
          have o8 := HB.out.1.step HE.out.2 rfl
          have x8 := HB.out.2.1.step HE.out.2 rfl (by have := HB.out.1.lt; omega)
          have r8 := HB.out.2.2.1.step HE.out.2 rfl (by have := HB.out.1.lt; omega)
          have d8 := HB.out.2.2.2.1.below HE.out.2
          have b8 := below_then HB.out.2.2.2.2.1 HE.out.2
          have HF := Lib.hid (And.intro o8 (And.intro x8 (And.intro r8 (And.intro d8 b8))))
          clear o8 x8 r8 d8 b8 HE
          go_wp2
          go_roundw
          case rel => exact ⟨j, r, bo, Ao, co, dso, rfl, by omega, sofar_no HB.out.2.2.2.2.2 (by rw [← HN9.out, HZ.out.nn_]; have := HL.out; omega), HF.out.1, HF.out.2.1, HF.out.2.2.1, HF.out.2.2.2.1, HF.out.2.2.2.2⟩
          case measure => simp [intOf]
end Go.Proofs.Ytagocllbfbbneaa.RK
