/- Joined texts: QBetween, QSimplest, TextMath, Cut, Chunk, Backwards, MulAdd, ParseP, ParseQ, QParse. -/
import Derived.Test.YtpgbnegppehckaaGreatJ4
import Derived.Test.YtpgbnegppehckaaGreatJ5
import Derived.Test.YtpgbnegppehckaaGreatJ1
import Derived.Laws.Externs
import Derived.Deep.LoopGhost
import Derived.Maps.AppendAt
import Derived.Laws.OwnMore
import Derived.Test.YtpgbnegppehckaaGreatJ2
set_option linter.unusedSimpArgs false
set_option maxRecDepth 100000
set_option maxHeartbeats 8000000
namespace Go.Proofs.YtpgbnegppehckaaGreat.FK
open Go.RowKit Go.Proofs.YtpgbnegppehckaaGreat.RK
structure Trace (x d y e : Int) (T m : Nat) (N E M C : Nat → Int) (L : Nat → List Int) : Prop where
  hT : T ≤ 100000
  hm0 : 0 < m
  hm : m ≤ 30000
  n0 : N 0 = x
  e0 : E 0 = d
  m0 : M 0 = y
  c0 : C 0 = e
  l0 : L 0 = []
  fN : ∀ t, t ≤ T → (N t).natAbs < B32 ^ m
  fE : ∀ t, t ≤ T → (E t).natAbs < B32 ^ m
  fM : ∀ t, t ≤ T → (M t).natAbs < B32 ^ m
  fC : ∀ t, t ≤ T → (C t).natAbs < B32 ^ m
  pE : ∀ t, t ≤ T → 0 < E t
  pC : ∀ t, t ≤ T → 0 < C t
  len : ∀ t, t ≤ T → (L t).length = t
  go : ∀ t, t < T → N t % E t ≠ 0 ∧ ¬ N t / E t < M t / C t ∧ N (t + 1) = C t ∧ E (t + 1) = M t % C t ∧ M (t + 1) = E t ∧ C (t + 1) = N t % E t ∧ L (t + 1) = L t ++ [N t / E t]
def Last (N E M C : Int) (z : Int) : Prop := (N % E = 0 ∧ z = N / E) ∨ (N % E ≠ 0 ∧ N / E < M / C ∧ z = N / E + 1)
theorem cmp_neg {a b : Int} (h : a < b) : cmpZ a b = -1 := by unfold cmpZ; rw [if_pos h]
theorem cmp_nonneg {a b : Int} (h : ¬ a < b) : 0 ≤ cmpZ a b := by unfold cmpZ; rw [if_neg h]; split <;> decide
theorem fit_ediv {n d : Int} {K : Nat} (h : n.natAbs < K) : (n / d).natAbs < K := Nat.lt_of_le_of_lt (Int.natAbs_ediv_le_natAbs _ _) h
theorem fit_emod {n d : Int} {K : Nat} (h : d.natAbs < K) (h0 : 0 < d) : (n % d).natAbs < K := by
  have h1 := Int.emod_lt_of_pos n h0
  have h2 := Int.emod_nonneg n (Int.ne_of_gt h0)
  omega
theorem between_is (v1 v2 : Value) (x d y e X D z : Int) (T m : Nat) (N E M C : Nat → Int) (L : Nat → List Int) (w : World) (h1 : RatAt w v1 x d) (h2 : RatAt w v2 y e) (tr : Trace x d y e T m N E M C L) (la : Last (N T) (E T) (M T) (C T) z)
    (hcon : ∀ v w, IRow w v (L T ++ [z]) → Calls Tryz.prog 52 #[v] w fun e w' => IsRatE w w' X D 0 e) :
    Calls Tryz.prog 105 #[v1, v2] w fun e w' => IsRat w w' X D e := by
  obtain ⟨b1, A1, n1, c1, bb1, AA1, nn1, cc1, rfl, h1⟩ := open3 h1
  obtain ⟨b2, A2, n2, c2, bb2, AA2, nn2, cc2, rfl, h2⟩ := open3 h2
  have gh0 := (FVars.told (FVars.nil w.heap.size w) (t := ⟨false, 0, b1, A1, n1, c1, bb1, AA1, nn1, cc1, x, d, 3⟩) (At.step (t := ⟨false, 0, b1, A1, n1, c1, bb1, AA1, nn1, cc1, x, d, 3⟩) (h1) (Below.refl w.heap.size w) rfl) rfl).laid4 38 (show 3 ≤ 3 from by decide) (by exact Nat.le_refl _)
  have gh1 := (FVars.told gh0 (t := ⟨false, 0, b2, A2, n2, c2, bb2, AA2, nn2, cc2, y, e, 3⟩) (At.step (t := ⟨false, 0, b2, A2, n2, c2, bb2, AA2, nn2, cc2, y, e, 3⟩) (h2) ((Below.refl w.heap.size w).alloc (by exact Nat.le_refl _) (.cells #[.bool b1, .slice A1 n1 c1, .bool bb1, .slice AA1 nn1 cc1] 38)) rfl) rfl).laid4 38 (show 3 ≤ 3 from by decide) (by simp only [size_alloc]; omega)
  have gh2 := (FVars.told gh1 (t := ⟨false, 0, false, none, 0, 0, false, none, 0, 0, 0, 1, 3⟩) ((zero3 _)) rfl).laid4 38 (show 3 ≤ 3 from by decide) (by simp only [size_alloc]; omega)
  have gb : Below w.heap.size w (((w.alloc (.cells #[.bool b1, .slice A1 n1 c1, .bool bb1, .slice AA1 nn1 cc1] 38)).alloc (.cells #[.bool b2, .slice A2 n2 c2, .bool bb2, .slice AA2 nn2 cc2] 38)).alloc (.cells #[.bool false, .slice none 0 0, .bool false, .slice none 0 0] 38)) := ((((Below.refl w.heap.size w).alloc (by exact Nat.le_refl _) (.cells #[.bool b1, .slice A1 n1 c1, .bool bb1, .slice AA1 nn1 cc1] 38)).alloc (by simp only [size_alloc]; omega) (.cells #[.bool b2, .slice A2 n2 c2, .bool bb2, .slice AA2 nn2 cc2] 38)).alloc (by simp only [size_alloc]; omega) (.cells #[.bool false, .slice none 0 0, .bool false, .slice none 0 0] 38))
  simp only [size_alloc] at gh2
  obtain ⟨W, hW⟩ : ∃ W : World, (((w.alloc (.cells #[.bool b1, .slice A1 n1 c1, .bool bb1, .slice AA1 nn1 cc1] 38)).alloc (.cells #[.bool b2, .slice A2 n2 c2, .bool bb2, .slice AA2 nn2 cc2] 38)).alloc (.cells #[.bool false, .slice none 0 0, .bool false, .slice none 0 0] 38)) = W := ⟨_, rfl⟩
  rw [hW] at gh2 gb
  have HC := Lib.hid (And.intro gh2 gb)
  have HW := Lib.hid hW
  clear gb hW gh0 gh1 gh2
  have HTR := Lib.hid tr
  have HLA := Lib.hid la
  have HCN := Lib.hid hcon
  have HDD := Lib.hid (And.intro (show ∀ v w, RatAt w v x d → Calls Tryz.prog 67 #[v] w fun e w' => IsInt w w' d e from fun v w k => QDenominator_any v x d m w k (by have := tr.hm; omega) (by rw [← tr.e0]; exact tr.fE 0 (Nat.zero_le _))) (show ∀ v w, RatAt w v y e → Calls Tryz.prog 67 #[v] w fun f w' => IsInt w w' e f from fun v w k => QDenominator_any v y e m w k (by have := tr.hm; omega) (by rw [← tr.c0]; exact tr.fC 0 (Nat.zero_le _))))
  clear h1 h2 tr la hcon
  go_enter Tryz.func105, Tryz.ntmps105
  go_upto_region 1 with fail
  rw [HW.out]
  clear HW
  go_cut [5, 6] (fun s1 s2 wx => ∃ (rn : Nat) (bn : Bool) (An : Option Addr) (nn cn : Nat) (rd : Nat) (bd : Bool) (Ad : Option Addr) (nd cd : Nat), s1 = .pointer (some ⟨rn, 0, none⟩) ∧ s2 = .pointer (some ⟨rd, 0, none⟩) ∧ FVars w.heap.size wx [⟨true, rd, bd, Ad, nd, cd, false, none, 0, 0, d, 0, 0⟩, ⟨true, rn, bn, An, nn, cn, false, none, 0, 0, x, 0, 0⟩, ⟨true, (w.heap.size + 1 + 1), false, none, 0, 0, false, none, 0, 0, 0, 1, 3⟩, ⟨true, (w.heap.size + 1), b2, A2, n2, c2, bb2, AA2, nn2, cc2, y, e, 3⟩, ⟨true, w.heap.size, b1, A1, n1, c1, bb1, AA1, nn1, cc1, x, d, 3⟩] ∧ Below w.heap.size w wx)
  case first => as_aux_lemma =>
   have HD1 := Lib.hid (And.intro HC.out.1.drew HC.out.2.drew)
   refine wp_region_held_drew (S := fun w' => Quad w' w.heap.size (.bool b1) (.slice A1 n1 c1) (.bool bb1) (.slice AA1 nn1 cc1)) (by kernel_rfl) ((HD1.out.1.all 2 _ rfl).lies rfl) (fun hH0 => ?_)
   refine wpAnyH_take (i := 0) (v := (.pointer (some ⟨w.heap.size, 0, none⟩))) rfl (by kernel_rfl) (by kernel_rfl) (by kernel_rfl) (fun _ _ _ h => h) (Or.inl ⟨by kernel_rfl, ?y1⟩) hH0 ?r2
   case y1 => (intro w0 hS0; go_simp <;> with_reducible rfl)
   change wpAnyH _ _ _ _ _ _ _ (Act.put _ (some 16) _) _
   simp only [Act.put, lyA, lyZ, lyS]
   refine wpAnyH_take (i := 1) (v := (.agg #[.bool b1, .slice A1 n1 c1])) rfl (by kernel_rfl) (by kernel_rfl) (by kernel_rfl) (fun _ _ _ h => h) (Or.inl ⟨by kernel_rfl, fun w0 hS0 => loadlo3 (hS0) (.tmp 16) (by kernel_rfl) (by kernel_rfl)⟩) hH0 ?r3
   change wpAnyH _ _ _ _ _ _ _ (Act.put _ (some 17) _) _
   simp only [Act.put, lyA, lyZ, lyS]
   refine wpAnyH_take (i := 2) (v := (.agg #[.bool b1, .slice A1 n1 c1, .bool bb1, .slice AA1 nn1 cc1])) rfl (by kernel_rfl) (by kernel_rfl) (by kernel_rfl) (fun _ _ _ h => h) (Or.inl ⟨by kernel_rfl, fun w0 hS0 => load3 (hS0) (.tmp 2) (by kernel_rfl) (by kernel_rfl)⟩) hH0 ?r4
   change wpAnyH _ _ _ _ _ _ _ (Act.put _ (some 18) _) _
   simp only [Act.put, lyA, lyZ, lyS]
   refine wpAnyH_ready (rs := [3, 4, 5]) (by kernel_rfl) (by simp) ?_
   refine AllReadyH.cons rfl (fun K hK0 => ?d5) (AllReadyH.cons rfl (fun K hK0 => ?d6) (AllReadyH.cons rfl (fun K hK0 => ?d7) (AllReadyH.nil)))
   case d5 =>
    have hK := hK0.out
    clear hK0
    rw [if_pos (by kernel_rfl)]
    refine wp_go_call 67 #[(.agg #[.bool b1, .slice A1 n1 c1, .bool bb1, .slice AA1 nn1 cc1])] (fun _ => by kernel_rfl) ((HDD.out.1 _ _ ((HD1.out.1.all 2 _ rfl).at_)).mono ?_)
    rintro e wq2 ⟨qv2, rfl, hq2, hb2⟩
    obtain ⟨qb2, qA2, qn2, qc2, rfl, hq2⟩ := open0 hq2
    have HD2 := Lib.hid (And.intro (FVars.told (HD1.out.1.step hb2 rfl) (t := ⟨false, 0, qb2, qA2, qn2, qc2, false, none, 0, 0, d, 0, 0⟩) hq2 rfl) (below_then HD1.out.2 hb2))
    clear hq2 hb2 HD1
    refine ⟨(.agg #[.bool qb2, .slice qA2 qn2 qc2]), rfl, hK _ _ ((HD2.out.1.all 3 _ rfl).lies rfl) (fun hH2 => ?_)⟩
    clear hK K hH0
    change wpAnyH _ _ _ _ _ _ _ (Act.put _ (some 19) _) _
    simp only [Act.put, lyA, lyZ, lyS]
    refine wpAnyH_ready (rs := [4, 5]) (by kernel_rfl) (by simp) ?_
    refine AllReadyH.cons rfl (fun K hK0 => ?d8) (AllReadyH.cons rfl (fun K hK0 => ?d9) (AllReadyH.nil))
    case d8 =>
     have hK := hK0.out
     clear hK0
     rw [if_pos (by kernel_rfl)]
     refine wp_go_val (.pointer (some ⟨(wq2).heap.size, 0, none⟩)) (alloc0 _ _ _ (by kernel_rfl)) ?_
     have HD3 := Lib.hid (And.intro ((FVars.told HD2.out.1 (t := ⟨false, 0, false, none, 0, 0, false, none, 0, 0, 0, 0, 0⟩) (zero0 _) rfl).laid2 31 lyK HD2.out.2.size) (HD2.out.2.alloc HD2.out.2.size (.cells #[.bool false, .slice none 0 0] 31)))
     refine hK _ _ ((HD3.out.1.all 4 _ rfl).lies rfl) (fun hH3 => ?_)
     clear hK K hH2
     change wpAnyH _ _ _ _ _ _ _ (Act.put _ (some 5) _) _
     simp only [Act.put, lyA, lyZ, lyS]
     refine wpAnyH_ready (rs := [5]) (by kernel_rfl) (by simp) ?_
     refine AllReadyH.cons rfl (fun K hK0 => ?d10) (AllReadyH.nil)
     have hK := hK0.out
     clear hK0
     rw [if_pos (by kernel_rfl)]
     refine wp_go_val (.pointer (some ⟨(((wq2).alloc (.cells #[.bool false, .slice none 0 0] 31))).heap.size, 0, none⟩)) (alloc0 _ _ _ (by kernel_rfl)) ?_
     have HD4 := Lib.hid (And.intro ((FVars.told HD3.out.1 (t := ⟨false, 0, false, none, 0, 0, false, none, 0, 0, 0, 0, 0⟩) (zero0 _) rfl).laid2 31 lyK HD3.out.2.size) (HD3.out.2.alloc HD3.out.2.size (.cells #[.bool false, .slice none 0 0] 31)))
     refine hK _ _ ((HD4.out.1.all 5 _ rfl).lies rfl) (fun hH4 => ?_)
     clear hK K hH3
     change wpAnyH _ _ _ _ _ _ _ (Act.put _ (some 6) _) _
     simp only [Act.put, lyA, lyZ, lyS]
     refine wpAnyH_ready (rs := [6]) (by kernel_rfl) (by simp) ?_
     refine AllReadyH.cons rfl (fun K hK0 => ?d11) (AllReadyH.nil)
     have hK := hK0.out
     clear hK0
     rw [if_pos (by kernel_rfl)]
     refine wp_go_skip (store0 ((HD4.out.1.all 1 _ rfl).lies rfl) ((HD4.out.1.all 1 _ rfl).frz rfl) b1 A1 n1 c1 (.tmp 5) (.tmp 17) (by kernel_rfl) (by kernel_rfl) (by kernel_rfl)) ?_
     have hu5 := FVars.over2 HD4.out.1 1 (s := ⟨true, (wq2).heap.size, false, none, 0, 0, false, none, 0, 0, 0, 0, 0⟩) (t := ⟨false, 0, b1, A1, n1, c1, false, none, 0, 0, x, 0, 0⟩) rfl rfl lyK lyK (rat_lo (HD4.out.1.all 5 _ rfl).at_)
     have hv5 : FVars w.heap.size (put2 (((((wq2).alloc (.cells #[.bool false, .slice none 0 0] 31))).alloc (.cells #[.bool false, .slice none 0 0] 31))) (wq2).heap.size (.bool b1) (.slice A1 n1 c1)) [⟨true, (((wq2).alloc (.cells #[.bool false, .slice none 0 0] 31))).heap.size, false, none, 0, 0, false, none, 0, 0, 0, 0, 0⟩, ⟨true, (wq2).heap.size, b1, A1, n1, c1, false, none, 0, 0, x, 0, 0⟩, ⟨false, 0, qb2, qA2, qn2, qc2, false, none, 0, 0, d, 0, 0⟩, ⟨true, (w.heap.size + 1 + 1), false, none, 0, 0, false, none, 0, 0, 0, 1, 3⟩, ⟨true, (w.heap.size + 1), b2, A2, n2, c2, bb2, AA2, nn2, cc2, y, e, 3⟩, ⟨true, w.heap.size, b1, A1, n1, c1, bb1, AA1, nn1, cc1, x, d, 3⟩] := hu5
     clear hu5
     have hl5 : Below w.heap.size w (put2 (((((wq2).alloc (.cells #[.bool false, .slice none 0 0] 31))).alloc (.cells #[.bool false, .slice none 0 0] 31))) (wq2).heap.size (.bool b1) (.slice A1 n1 c1)) := (HD4.out.2.setCell (p := ⟨(wq2).heap.size, 0, none⟩) (HD4.out.1.up 1 _ rfl rfl) _).setCell (p := ⟨(wq2).heap.size, 1, none⟩) (HD4.out.1.up 1 _ rfl rfl) _
     generalize (put2 (((((wq2).alloc (.cells #[.bool false, .slice none 0 0] 31))).alloc (.cells #[.bool false, .slice none 0 0] 31))) (wq2).heap.size (.bool b1) (.slice A1 n1 c1)) = Wn5 at hv5 hl5 ⊢
     have HD5 := Lib.hid (And.intro hv5 hl5)
     clear hv5 hl5
     refine hK _ _ ((HD5.out.1.all 5 _ rfl).lies rfl) (fun hH5 => ?_)
     clear hK K hH4
     change wpAnyH _ _ _ _ _ _ _ (Act.put _ none _) _
     simp only [Act.put]
     refine wpAnyH_ready (rs := [7]) (by kernel_rfl) (by simp) ?_
     refine AllReadyH.cons rfl (fun K hK0 => ?d12) (AllReadyH.nil)
     have hK := hK0.out
     clear hK0
     rw [if_pos (by kernel_rfl)]
     refine wp_go_skip (store0 ((HD5.out.1.all 0 _ rfl).lies rfl) ((HD5.out.1.all 0 _ rfl).frz rfl) qb2 qA2 qn2 qc2 (.tmp 6) (.tmp 19) (by kernel_rfl) (by kernel_rfl) (by kernel_rfl)) ?_
     have hu6 := FVars.over2 HD5.out.1 0 (s := ⟨true, (((wq2).alloc (.cells #[.bool false, .slice none 0 0] 31))).heap.size, false, none, 0, 0, false, none, 0, 0, 0, 0, 0⟩) (t := ⟨false, 0, qb2, qA2, qn2, qc2, false, none, 0, 0, d, 0, 0⟩) rfl rfl lyK lyK ((HD5.out.1.all 2 _ rfl).at_)
     have hv6 : FVars w.heap.size (put2 (Wn5) (((wq2).alloc (.cells #[.bool false, .slice none 0 0] 31))).heap.size (.bool qb2) (.slice qA2 qn2 qc2)) [⟨true, (((wq2).alloc (.cells #[.bool false, .slice none 0 0] 31))).heap.size, qb2, qA2, qn2, qc2, false, none, 0, 0, d, 0, 0⟩, ⟨true, (wq2).heap.size, b1, A1, n1, c1, false, none, 0, 0, x, 0, 0⟩, ⟨false, 0, qb2, qA2, qn2, qc2, false, none, 0, 0, d, 0, 0⟩, ⟨true, (w.heap.size + 1 + 1), false, none, 0, 0, false, none, 0, 0, 0, 1, 3⟩, ⟨true, (w.heap.size + 1), b2, A2, n2, c2, bb2, AA2, nn2, cc2, y, e, 3⟩, ⟨true, w.heap.size, b1, A1, n1, c1, bb1, AA1, nn1, cc1, x, d, 3⟩] := hu6
     clear hu6
     have hl6 : Below w.heap.size w (put2 (Wn5) (((wq2).alloc (.cells #[.bool false, .slice none 0 0] 31))).heap.size (.bool qb2) (.slice qA2 qn2 qc2)) := (HD5.out.2.setCell (p := ⟨(((wq2).alloc (.cells #[.bool false, .slice none 0 0] 31))).heap.size, 0, none⟩) (HD5.out.1.up 0 _ rfl rfl) _).setCell (p := ⟨(((wq2).alloc (.cells #[.bool false, .slice none 0 0] 31))).heap.size, 1, none⟩) (HD5.out.1.up 0 _ rfl rfl) _
     generalize (put2 (Wn5) (((wq2).alloc (.cells #[.bool false, .slice none 0 0] 31))).heap.size (.bool qb2) (.slice qA2 qn2 qc2)) = Wn6 at hv6 hl6 ⊢
     have HD6 := Lib.hid (And.intro hv6 hl6)
     clear hv6 hl6
     refine hK _ _ ((HD6.out.1.all 5 _ rfl).lies rfl) (fun hH6 => ?_)
     clear hK K hH5
     change wpAnyH _ _ _ _ _ _ _ (Act.put _ none _) _
     simp only [Act.put]
     refine wpAnyH_done (by kernel_rfl) ?_ _
     have HZ := HD6.out
     try simp only [size_alloc] at HZ
     go_wp2_with fail
     go_meet
     exact ⟨wq2.heap.size, b1, A1, n1, c1, (wq2.heap.size + 1), qb2, qA2, qn2, qc2, (by first | rfl | simp), (by first | rfl | simp), FVars.pick HZ.1 [0, 1, 3, 4, 5] (by decide) rfl, HZ.2⟩
    case d9 =>
     have hK := hK0.out
     clear hK0
     rw [if_pos (by kernel_rfl)]
     refine wp_go_val (.pointer (some ⟨(wq2).heap.size, 0, none⟩)) (alloc0 _ _ _ (by kernel_rfl)) ?_
     have HD7 := Lib.hid (And.intro ((FVars.told HD2.out.1 (t := ⟨false, 0, false, none, 0, 0, false, none, 0, 0, 0, 0, 0⟩) (zero0 _) rfl).laid2 31 lyK HD2.out.2.size) (HD2.out.2.alloc HD2.out.2.size (.cells #[.bool false, .slice none 0 0] 31)))
     refine hK _ _ ((HD7.out.1.all 4 _ rfl).lies rfl) (fun hH7 => ?_)
     clear hK K hH2
     change wpAnyH _ _ _ _ _ _ _ (Act.put _ (some 6) _) _
     simp only [Act.put, lyA, lyZ, lyS]
     refine wpAnyH_ready (rs := [4]) (by kernel_rfl) (by simp) ?_
     refine AllReadyH.cons rfl (fun K hK0 => ?d13) (AllReadyH.nil)
     have hK := hK0.out
     clear hK0
     rw [if_pos (by kernel_rfl)]
     refine wp_go_val (.pointer (some ⟨(((wq2).alloc (.cells #[.bool false, .slice none 0 0] 31))).heap.size, 0, none⟩)) (alloc0 _ _ _ (by kernel_rfl)) ?_
     have HD8 := Lib.hid (And.intro ((FVars.told HD7.out.1 (t := ⟨false, 0, false, none, 0, 0, false, none, 0, 0, 0, 0, 0⟩) (zero0 _) rfl).laid2 31 lyK HD7.out.2.size) (HD7.out.2.alloc HD7.out.2.size (.cells #[.bool false, .slice none 0 0] 31)))
     refine hK _ _ ((HD8.out.1.all 5 _ rfl).lies rfl) (fun hH8 => ?_)
     clear hK K hH7
     change wpAnyH _ _ _ _ _ _ _ (Act.put _ (some 5) _) _
     simp only [Act.put, lyA, lyZ, lyS]
     refine wpAnyH_ready (rs := [6]) (by kernel_rfl) (by simp) ?_
     refine AllReadyH.cons rfl (fun K hK0 => ?d14) (AllReadyH.nil)
     have hK := hK0.out
     clear hK0
     rw [if_pos (by kernel_rfl)]
     refine wp_go_skip (store0 ((HD8.out.1.all 0 _ rfl).lies rfl) ((HD8.out.1.all 0 _ rfl).frz rfl) b1 A1 n1 c1 (.tmp 5) (.tmp 17) (by kernel_rfl) (by kernel_rfl) (by kernel_rfl)) ?_
     have hu9 := FVars.over2 HD8.out.1 0 (s := ⟨true, (((wq2).alloc (.cells #[.bool false, .slice none 0 0] 31))).heap.size, false, none, 0, 0, false, none, 0, 0, 0, 0, 0⟩) (t := ⟨false, 0, b1, A1, n1, c1, false, none, 0, 0, x, 0, 0⟩) rfl rfl lyK lyK (rat_lo (HD8.out.1.all 5 _ rfl).at_)
     have hv9 : FVars w.heap.size (put2 (((((wq2).alloc (.cells #[.bool false, .slice none 0 0] 31))).alloc (.cells #[.bool false, .slice none 0 0] 31))) (((wq2).alloc (.cells #[.bool false, .slice none 0 0] 31))).heap.size (.bool b1) (.slice A1 n1 c1)) [⟨true, (((wq2).alloc (.cells #[.bool false, .slice none 0 0] 31))).heap.size, b1, A1, n1, c1, false, none, 0, 0, x, 0, 0⟩, ⟨true, (wq2).heap.size, false, none, 0, 0, false, none, 0, 0, 0, 0, 0⟩, ⟨false, 0, qb2, qA2, qn2, qc2, false, none, 0, 0, d, 0, 0⟩, ⟨true, (w.heap.size + 1 + 1), false, none, 0, 0, false, none, 0, 0, 0, 1, 3⟩, ⟨true, (w.heap.size + 1), b2, A2, n2, c2, bb2, AA2, nn2, cc2, y, e, 3⟩, ⟨true, w.heap.size, b1, A1, n1, c1, bb1, AA1, nn1, cc1, x, d, 3⟩] := hu9
     clear hu9
     have hl9 : Below w.heap.size w (put2 (((((wq2).alloc (.cells #[.bool false, .slice none 0 0] 31))).alloc (.cells #[.bool false, .slice none 0 0] 31))) (((wq2).alloc (.cells #[.bool false, .slice none 0 0] 31))).heap.size (.bool b1) (.slice A1 n1 c1)) := (HD8.out.2.setCell (p := ⟨(((wq2).alloc (.cells #[.bool false, .slice none 0 0] 31))).heap.size, 0, none⟩) (HD8.out.1.up 0 _ rfl rfl) _).setCell (p := ⟨(((wq2).alloc (.cells #[.bool false, .slice none 0 0] 31))).heap.size, 1, none⟩) (HD8.out.1.up 0 _ rfl rfl) _
     generalize (put2 (((((wq2).alloc (.cells #[.bool false, .slice none 0 0] 31))).alloc (.cells #[.bool false, .slice none 0 0] 31))) (((wq2).alloc (.cells #[.bool false, .slice none 0 0] 31))).heap.size (.bool b1) (.slice A1 n1 c1)) = Wn9 at hv9 hl9 ⊢
     have HD9 := Lib.hid (And.intro hv9 hl9)
     clear hv9 hl9
     refine hK _ _ ((HD9.out.1.all 5 _ rfl).lies rfl) (fun hH9 => ?_)
     clear hK K hH8
     change wpAnyH _ _ _ _ _ _ _ (Act.put _ none _) _
     simp only [Act.put]
     refine wpAnyH_ready (rs := [7]) (by kernel_rfl) (by simp) ?_
     refine AllReadyH.cons rfl (fun K hK0 => ?d15) (AllReadyH.nil)
     have hK := hK0.out
     clear hK0
     rw [if_pos (by kernel_rfl)]
     refine wp_go_skip (store0 ((HD9.out.1.all 1 _ rfl).lies rfl) ((HD9.out.1.all 1 _ rfl).frz rfl) qb2 qA2 qn2 qc2 (.tmp 6) (.tmp 19) (by kernel_rfl) (by kernel_rfl) (by kernel_rfl)) ?_
     have hu10 := FVars.over2 HD9.out.1 1 (s := ⟨true, (wq2).heap.size, false, none, 0, 0, false, none, 0, 0, 0, 0, 0⟩) (t := ⟨false, 0, qb2, qA2, qn2, qc2, false, none, 0, 0, d, 0, 0⟩) rfl rfl lyK lyK ((HD9.out.1.all 2 _ rfl).at_)
     have hv10 : FVars w.heap.size (put2 (Wn9) (wq2).heap.size (.bool qb2) (.slice qA2 qn2 qc2)) [⟨true, (((wq2).alloc (.cells #[.bool false, .slice none 0 0] 31))).heap.size, b1, A1, n1, c1, false, none, 0, 0, x, 0, 0⟩, ⟨true, (wq2).heap.size, qb2, qA2, qn2, qc2, false, none, 0, 0, d, 0, 0⟩, ⟨false, 0, qb2, qA2, qn2, qc2, false, none, 0, 0, d, 0, 0⟩, ⟨true, (w.heap.size + 1 + 1), false, none, 0, 0, false, none, 0, 0, 0, 1, 3⟩, ⟨true, (w.heap.size + 1), b2, A2, n2, c2, bb2, AA2, nn2, cc2, y, e, 3⟩, ⟨true, w.heap.size, b1, A1, n1, c1, bb1, AA1, nn1, cc1, x, d, 3⟩] := hu10
     clear hu10
     have hl10 : Below w.heap.size w (put2 (Wn9) (wq2).heap.size (.bool qb2) (.slice qA2 qn2 qc2)) := (HD9.out.2.setCell (p := ⟨(wq2).heap.size, 0, none⟩) (HD9.out.1.up 1 _ rfl rfl) _).setCell (p := ⟨(wq2).heap.size, 1, none⟩) (HD9.out.1.up 1 _ rfl rfl) _
     generalize (put2 (Wn9) (wq2).heap.size (.bool qb2) (.slice qA2 qn2 qc2)) = Wn10 at hv10 hl10 ⊢
     have HD10 := Lib.hid (And.intro hv10 hl10)
     clear hv10 hl10
     refine hK _ _ ((HD10.out.1.all 5 _ rfl).lies rfl) (fun hH10 => ?_)
     clear hK K hH9
     change wpAnyH _ _ _ _ _ _ _ (Act.put _ none _) _
     simp only [Act.put]
     refine wpAnyH_done (by kernel_rfl) ?_ _
     have HZ := HD10.out
     try simp only [size_alloc] at HZ
     go_wp2_with fail
     go_meet
     exact ⟨(wq2.heap.size + 1), b1, A1, n1, c1, wq2.heap.size, qb2, qA2, qn2, qc2, (by first | rfl | simp), (by first | rfl | simp), FVars.pick HZ.1 [1, 0, 3, 4, 5] (by decide) rfl, HZ.2⟩
   case d6 =>
    have hK := hK0.out
    clear hK0
    rw [if_pos (by kernel_rfl)]
    refine wp_go_val (.pointer (some ⟨(W.drew).heap.size, 0, none⟩)) (alloc0 _ _ _ (by kernel_rfl)) ?_
    have HD11 := Lib.hid (And.intro ((FVars.told HD1.out.1 (t := ⟨false, 0, false, none, 0, 0, false, none, 0, 0, 0, 0, 0⟩) (zero0 _) rfl).laid2 31 lyK HD1.out.2.size) (HD1.out.2.alloc HD1.out.2.size (.cells #[.bool false, .slice none 0 0] 31)))
    refine hK _ _ ((HD11.out.1.all 3 _ rfl).lies rfl) (fun hH11 => ?_)
    clear hK K hH0
    change wpAnyH _ _ _ _ _ _ _ (Act.put _ (some 5) _) _
    simp only [Act.put, lyA, lyZ, lyS]
    refine wpAnyH_ready (rs := [3, 5]) (by kernel_rfl) (by simp) ?_
    refine AllReadyH.cons rfl (fun K hK0 => ?d16) (AllReadyH.cons rfl (fun K hK0 => ?d17) (AllReadyH.nil))
    case d16 =>
     have hK := hK0.out
     clear hK0
     rw [if_pos (by kernel_rfl)]
     refine wp_go_call 67 #[(.agg #[.bool b1, .slice A1 n1 c1, .bool bb1, .slice AA1 nn1 cc1])] (fun _ => by kernel_rfl) ((HDD.out.1 _ _ ((HD11.out.1.all 3 _ rfl).at_)).mono ?_)
     rintro e wq12 ⟨qv12, rfl, hq12, hb12⟩
     obtain ⟨qb12, qA12, qn12, qc12, rfl, hq12⟩ := open0 hq12
     have HD12 := Lib.hid (And.intro (FVars.told (HD11.out.1.step hb12 rfl) (t := ⟨false, 0, qb12, qA12, qn12, qc12, false, none, 0, 0, d, 0, 0⟩) hq12 rfl) (below_then HD11.out.2 hb12))
     clear hq12 hb12 HD11
     refine ⟨(.agg #[.bool qb12, .slice qA12 qn12 qc12]), rfl, hK _ _ ((HD12.out.1.all 4 _ rfl).lies rfl) (fun hH12 => ?_)⟩
     clear hK K hH11
     change wpAnyH _ _ _ _ _ _ _ (Act.put _ (some 19) _) _
     simp only [Act.put, lyA, lyZ, lyS]
     refine wpAnyH_ready (rs := [5]) (by kernel_rfl) (by simp) ?_
     refine AllReadyH.cons rfl (fun K hK0 => ?d18) (AllReadyH.nil)
     have hK := hK0.out
     clear hK0
     rw [if_pos (by kernel_rfl)]
     refine wp_go_val (.pointer (some ⟨(wq12).heap.size, 0, none⟩)) (alloc0 _ _ _ (by kernel_rfl)) ?_
     have HD13 := Lib.hid (And.intro ((FVars.told HD12.out.1 (t := ⟨false, 0, false, none, 0, 0, false, none, 0, 0, 0, 0, 0⟩) (zero0 _) rfl).laid2 31 lyK HD12.out.2.size) (HD12.out.2.alloc HD12.out.2.size (.cells #[.bool false, .slice none 0 0] 31)))
     refine hK _ _ ((HD13.out.1.all 5 _ rfl).lies rfl) (fun hH13 => ?_)
     clear hK K hH12
     change wpAnyH _ _ _ _ _ _ _ (Act.put _ (some 6) _) _
     simp only [Act.put, lyA, lyZ, lyS]
     refine wpAnyH_ready (rs := [6]) (by kernel_rfl) (by simp) ?_
     refine AllReadyH.cons rfl (fun K hK0 => ?d19) (AllReadyH.nil)
     have hK := hK0.out
     clear hK0
     rw [if_pos (by kernel_rfl)]
     refine wp_go_skip (store0 ((HD13.out.1.all 2 _ rfl).lies rfl) ((HD13.out.1.all 2 _ rfl).frz rfl) b1 A1 n1 c1 (.tmp 5) (.tmp 17) (by kernel_rfl) (by kernel_rfl) (by kernel_rfl)) ?_
     have hu14 := FVars.over2 HD13.out.1 2 (s := ⟨true, (W.drew).heap.size, false, none, 0, 0, false, none, 0, 0, 0, 0, 0⟩) (t := ⟨false, 0, b1, A1, n1, c1, false, none, 0, 0, x, 0, 0⟩) rfl rfl lyK lyK (rat_lo (HD13.out.1.all 5 _ rfl).at_)
     have hv14 : FVars w.heap.size (put2 (((wq12).alloc (.cells #[.bool false, .slice none 0 0] 31))) (W.drew).heap.size (.bool b1) (.slice A1 n1 c1)) [⟨true, (wq12).heap.size, false, none, 0, 0, false, none, 0, 0, 0, 0, 0⟩, ⟨false, 0, qb12, qA12, qn12, qc12, false, none, 0, 0, d, 0, 0⟩, ⟨true, (W.drew).heap.size, b1, A1, n1, c1, false, none, 0, 0, x, 0, 0⟩, ⟨true, (w.heap.size + 1 + 1), false, none, 0, 0, false, none, 0, 0, 0, 1, 3⟩, ⟨true, (w.heap.size + 1), b2, A2, n2, c2, bb2, AA2, nn2, cc2, y, e, 3⟩, ⟨true, w.heap.size, b1, A1, n1, c1, bb1, AA1, nn1, cc1, x, d, 3⟩] := hu14
     clear hu14
     have hl14 : Below w.heap.size w (put2 (((wq12).alloc (.cells #[.bool false, .slice none 0 0] 31))) (W.drew).heap.size (.bool b1) (.slice A1 n1 c1)) := (HD13.out.2.setCell (p := ⟨(W.drew).heap.size, 0, none⟩) (HD13.out.1.up 2 _ rfl rfl) _).setCell (p := ⟨(W.drew).heap.size, 1, none⟩) (HD13.out.1.up 2 _ rfl rfl) _
     generalize (put2 (((wq12).alloc (.cells #[.bool false, .slice none 0 0] 31))) (W.drew).heap.size (.bool b1) (.slice A1 n1 c1)) = Wn14 at hv14 hl14 ⊢
     have HD14 := Lib.hid (And.intro hv14 hl14)
     clear hv14 hl14
     refine hK _ _ ((HD14.out.1.all 5 _ rfl).lies rfl) (fun hH14 => ?_)
     clear hK K hH13
     change wpAnyH _ _ _ _ _ _ _ (Act.put _ none _) _
     simp only [Act.put]
     refine wpAnyH_ready (rs := [7]) (by kernel_rfl) (by simp) ?_
     refine AllReadyH.cons rfl (fun K hK0 => ?d20) (AllReadyH.nil)
     have hK := hK0.out
     clear hK0
     rw [if_pos (by kernel_rfl)]
     refine wp_go_skip (store0 ((HD14.out.1.all 0 _ rfl).lies rfl) ((HD14.out.1.all 0 _ rfl).frz rfl) qb12 qA12 qn12 qc12 (.tmp 6) (.tmp 19) (by kernel_rfl) (by kernel_rfl) (by kernel_rfl)) ?_
     have hu15 := FVars.over2 HD14.out.1 0 (s := ⟨true, (wq12).heap.size, false, none, 0, 0, false, none, 0, 0, 0, 0, 0⟩) (t := ⟨false, 0, qb12, qA12, qn12, qc12, false, none, 0, 0, d, 0, 0⟩) rfl rfl lyK lyK ((HD14.out.1.all 1 _ rfl).at_)
     have hv15 : FVars w.heap.size (put2 (Wn14) (wq12).heap.size (.bool qb12) (.slice qA12 qn12 qc12)) [⟨true, (wq12).heap.size, qb12, qA12, qn12, qc12, false, none, 0, 0, d, 0, 0⟩, ⟨false, 0, qb12, qA12, qn12, qc12, false, none, 0, 0, d, 0, 0⟩, ⟨true, (W.drew).heap.size, b1, A1, n1, c1, false, none, 0, 0, x, 0, 0⟩, ⟨true, (w.heap.size + 1 + 1), false, none, 0, 0, false, none, 0, 0, 0, 1, 3⟩, ⟨true, (w.heap.size + 1), b2, A2, n2, c2, bb2, AA2, nn2, cc2, y, e, 3⟩, ⟨true, w.heap.size, b1, A1, n1, c1, bb1, AA1, nn1, cc1, x, d, 3⟩] := hu15
     clear hu15
     have hl15 : Below w.heap.size w (put2 (Wn14) (wq12).heap.size (.bool qb12) (.slice qA12 qn12 qc12)) := (HD14.out.2.setCell (p := ⟨(wq12).heap.size, 0, none⟩) (HD14.out.1.up 0 _ rfl rfl) _).setCell (p := ⟨(wq12).heap.size, 1, none⟩) (HD14.out.1.up 0 _ rfl rfl) _
     generalize (put2 (Wn14) (wq12).heap.size (.bool qb12) (.slice qA12 qn12 qc12)) = Wn15 at hv15 hl15 ⊢
     have HD15 := Lib.hid (And.intro hv15 hl15)
     clear hv15 hl15
     refine hK _ _ ((HD15.out.1.all 5 _ rfl).lies rfl) (fun hH15 => ?_)
     clear hK K hH14
     change wpAnyH _ _ _ _ _ _ _ (Act.put _ none _) _
     simp only [Act.put]
     refine wpAnyH_done (by kernel_rfl) ?_ _
     have HZ := HD15.out
     try simp only [size_alloc] at HZ
     go_wp2_with fail
     go_meet
     exact ⟨W.heap.size, b1, A1, n1, c1, wq12.heap.size, qb12, qA12, qn12, qc12, (by first | rfl | simp), (by first | rfl | simp), FVars.pick HZ.1 [0, 2, 3, 4, 5] (by decide) rfl, HZ.2⟩
    case d17 =>
     have hK := hK0.out
     clear hK0
     rw [if_pos (by kernel_rfl)]
     refine wp_go_val (.pointer (some ⟨(((W.drew).alloc (.cells #[.bool false, .slice none 0 0] 31))).heap.size, 0, none⟩)) (alloc0 _ _ _ (by kernel_rfl)) ?_
     have HD16 := Lib.hid (And.intro ((FVars.told HD11.out.1 (t := ⟨false, 0, false, none, 0, 0, false, none, 0, 0, 0, 0, 0⟩) (zero0 _) rfl).laid2 31 lyK HD11.out.2.size) (HD11.out.2.alloc HD11.out.2.size (.cells #[.bool false, .slice none 0 0] 31)))
     refine hK _ _ ((HD16.out.1.all 4 _ rfl).lies rfl) (fun hH16 => ?_)
     clear hK K hH11
     change wpAnyH _ _ _ _ _ _ _ (Act.put _ (some 6) _) _
     simp only [Act.put, lyA, lyZ, lyS]
     refine wpAnyH_ready (rs := [3]) (by kernel_rfl) (by simp) ?_
     refine AllReadyH.cons rfl (fun K hK0 => ?d21) (AllReadyH.nil)
     have hK := hK0.out
     clear hK0
     rw [if_pos (by kernel_rfl)]
     refine wp_go_call 67 #[(.agg #[.bool b1, .slice A1 n1 c1, .bool bb1, .slice AA1 nn1 cc1])] (fun _ => by kernel_rfl) ((HDD.out.1 _ _ ((HD16.out.1.all 4 _ rfl).at_)).mono ?_)
     rintro e wq17 ⟨qv17, rfl, hq17, hb17⟩
     obtain ⟨qb17, qA17, qn17, qc17, rfl, hq17⟩ := open0 hq17
     have HD17 := Lib.hid (And.intro (FVars.told (HD16.out.1.step hb17 rfl) (t := ⟨false, 0, qb17, qA17, qn17, qc17, false, none, 0, 0, d, 0, 0⟩) hq17 rfl) (below_then HD16.out.2 hb17))
     clear hq17 hb17 HD16
     refine ⟨(.agg #[.bool qb17, .slice qA17 qn17 qc17]), rfl, hK _ _ ((HD17.out.1.all 5 _ rfl).lies rfl) (fun hH17 => ?_)⟩
     clear hK K hH16
     change wpAnyH _ _ _ _ _ _ _ (Act.put _ (some 19) _) _
     simp only [Act.put, lyA, lyZ, lyS]
     refine wpAnyH_ready (rs := [6]) (by kernel_rfl) (by simp) ?_
     refine AllReadyH.cons rfl (fun K hK0 => ?d22) (AllReadyH.nil)
     have hK := hK0.out
     clear hK0
     rw [if_pos (by kernel_rfl)]
     refine wp_go_skip (store0 ((HD17.out.1.all 2 _ rfl).lies rfl) ((HD17.out.1.all 2 _ rfl).frz rfl) b1 A1 n1 c1 (.tmp 5) (.tmp 17) (by kernel_rfl) (by kernel_rfl) (by kernel_rfl)) ?_
     have hu18 := FVars.over2 HD17.out.1 2 (s := ⟨true, (W.drew).heap.size, false, none, 0, 0, false, none, 0, 0, 0, 0, 0⟩) (t := ⟨false, 0, b1, A1, n1, c1, false, none, 0, 0, x, 0, 0⟩) rfl rfl lyK lyK (rat_lo (HD17.out.1.all 5 _ rfl).at_)
     have hv18 : FVars w.heap.size (put2 (wq17) (W.drew).heap.size (.bool b1) (.slice A1 n1 c1)) [⟨false, 0, qb17, qA17, qn17, qc17, false, none, 0, 0, d, 0, 0⟩, ⟨true, (((W.drew).alloc (.cells #[.bool false, .slice none 0 0] 31))).heap.size, false, none, 0, 0, false, none, 0, 0, 0, 0, 0⟩, ⟨true, (W.drew).heap.size, b1, A1, n1, c1, false, none, 0, 0, x, 0, 0⟩, ⟨true, (w.heap.size + 1 + 1), false, none, 0, 0, false, none, 0, 0, 0, 1, 3⟩, ⟨true, (w.heap.size + 1), b2, A2, n2, c2, bb2, AA2, nn2, cc2, y, e, 3⟩, ⟨true, w.heap.size, b1, A1, n1, c1, bb1, AA1, nn1, cc1, x, d, 3⟩] := hu18
     clear hu18
     have hl18 : Below w.heap.size w (put2 (wq17) (W.drew).heap.size (.bool b1) (.slice A1 n1 c1)) := (HD17.out.2.setCell (p := ⟨(W.drew).heap.size, 0, none⟩) (HD17.out.1.up 2 _ rfl rfl) _).setCell (p := ⟨(W.drew).heap.size, 1, none⟩) (HD17.out.1.up 2 _ rfl rfl) _
     generalize (put2 (wq17) (W.drew).heap.size (.bool b1) (.slice A1 n1 c1)) = Wn18 at hv18 hl18 ⊢
     have HD18 := Lib.hid (And.intro hv18 hl18)
     clear hv18 hl18
     refine hK _ _ ((HD18.out.1.all 5 _ rfl).lies rfl) (fun hH18 => ?_)
     clear hK K hH17
     change wpAnyH _ _ _ _ _ _ _ (Act.put _ none _) _
     simp only [Act.put]
     refine wpAnyH_ready (rs := [7]) (by kernel_rfl) (by simp) ?_
     refine AllReadyH.cons rfl (fun K hK0 => ?d23) (AllReadyH.nil)
     have hK := hK0.out
     clear hK0
     rw [if_pos (by kernel_rfl)]
     refine wp_go_skip (store0 ((HD18.out.1.all 1 _ rfl).lies rfl) ((HD18.out.1.all 1 _ rfl).frz rfl) qb17 qA17 qn17 qc17 (.tmp 6) (.tmp 19) (by kernel_rfl) (by kernel_rfl) (by kernel_rfl)) ?_
     have hu19 := FVars.over2 HD18.out.1 1 (s := ⟨true, (((W.drew).alloc (.cells #[.bool false, .slice none 0 0] 31))).heap.size, false, none, 0, 0, false, none, 0, 0, 0, 0, 0⟩) (t := ⟨false, 0, qb17, qA17, qn17, qc17, false, none, 0, 0, d, 0, 0⟩) rfl rfl lyK lyK ((HD18.out.1.all 0 _ rfl).at_)
     have hv19 : FVars w.heap.size (put2 (Wn18) (((W.drew).alloc (.cells #[.bool false, .slice none 0 0] 31))).heap.size (.bool qb17) (.slice qA17 qn17 qc17)) [⟨false, 0, qb17, qA17, qn17, qc17, false, none, 0, 0, d, 0, 0⟩, ⟨true, (((W.drew).alloc (.cells #[.bool false, .slice none 0 0] 31))).heap.size, qb17, qA17, qn17, qc17, false, none, 0, 0, d, 0, 0⟩, ⟨true, (W.drew).heap.size, b1, A1, n1, c1, false, none, 0, 0, x, 0, 0⟩, ⟨true, (w.heap.size + 1 + 1), false, none, 0, 0, false, none, 0, 0, 0, 1, 3⟩, ⟨true, (w.heap.size + 1), b2, A2, n2, c2, bb2, AA2, nn2, cc2, y, e, 3⟩, ⟨true, w.heap.size, b1, A1, n1, c1, bb1, AA1, nn1, cc1, x, d, 3⟩] := hu19
     clear hu19
     have hl19 : Below w.heap.size w (put2 (Wn18) (((W.drew).alloc (.cells #[.bool false, .slice none 0 0] 31))).heap.size (.bool qb17) (.slice qA17 qn17 qc17)) := (HD18.out.2.setCell (p := ⟨(((W.drew).alloc (.cells #[.bool false, .slice none 0 0] 31))).heap.size, 0, none⟩) (HD18.out.1.up 1 _ rfl rfl) _).setCell (p := ⟨(((W.drew).alloc (.cells #[.bool false, .slice none 0 0] 31))).heap.size, 1, none⟩) (HD18.out.1.up 1 _ rfl rfl) _
     generalize (put2 (Wn18) (((W.drew).alloc (.cells #[.bool false, .slice none 0 0] 31))).heap.size (.bool qb17) (.slice qA17 qn17 qc17)) = Wn19 at hv19 hl19 ⊢
     have HD19 := Lib.hid (And.intro hv19 hl19)
     clear hv19 hl19
     refine hK _ _ ((HD19.out.1.all 5 _ rfl).lies rfl) (fun hH19 => ?_)
     clear hK K hH18
     change wpAnyH _ _ _ _ _ _ _ (Act.put _ none _) _
     simp only [Act.put]
     refine wpAnyH_done (by kernel_rfl) ?_ _
     have HZ := HD19.out
     try simp only [size_alloc] at HZ
     go_wp2_with fail
     go_meet
     exact ⟨W.heap.size, b1, A1, n1, c1, (W.heap.size + 1), qb17, qA17, qn17, qc17, (by first | rfl | simp), (by first | rfl | simp), FVars.pick HZ.1 [1, 2, 3, 4, 5] (by decide) rfl, HZ.2⟩
   case d7 =>
    have hK := hK0.out
    clear hK0
    rw [if_pos (by kernel_rfl)]
    refine wp_go_val (.pointer (some ⟨(W.drew).heap.size, 0, none⟩)) (alloc0 _ _ _ (by kernel_rfl)) ?_
    have HD20 := Lib.hid (And.intro ((FVars.told HD1.out.1 (t := ⟨false, 0, false, none, 0, 0, false, none, 0, 0, 0, 0, 0⟩) (zero0 _) rfl).laid2 31 lyK HD1.out.2.size) (HD1.out.2.alloc HD1.out.2.size (.cells #[.bool false, .slice none 0 0] 31)))
    refine hK _ _ ((HD20.out.1.all 3 _ rfl).lies rfl) (fun hH20 => ?_)
    clear hK K hH0
    change wpAnyH _ _ _ _ _ _ _ (Act.put _ (some 6) _) _
    simp only [Act.put, lyA, lyZ, lyS]
    refine wpAnyH_ready (rs := [3, 4]) (by kernel_rfl) (by simp) ?_
    refine AllReadyH.cons rfl (fun K hK0 => ?d24) (AllReadyH.cons rfl (fun K hK0 => ?d25) (AllReadyH.nil))
    case d24 =>
     have hK := hK0.out
     clear hK0
     rw [if_pos (by kernel_rfl)]
     refine wp_go_call 67 #[(.agg #[.bool b1, .slice A1 n1 c1, .bool bb1, .slice AA1 nn1 cc1])] (fun _ => by kernel_rfl) ((HDD.out.1 _ _ ((HD20.out.1.all 3 _ rfl).at_)).mono ?_)
     rintro e wq21 ⟨qv21, rfl, hq21, hb21⟩
     obtain ⟨qb21, qA21, qn21, qc21, rfl, hq21⟩ := open0 hq21
     have HD21 := Lib.hid (And.intro (FVars.told (HD20.out.1.step hb21 rfl) (t := ⟨false, 0, qb21, qA21, qn21, qc21, false, none, 0, 0, d, 0, 0⟩) hq21 rfl) (below_then HD20.out.2 hb21))
     clear hq21 hb21 HD20
     refine ⟨(.agg #[.bool qb21, .slice qA21 qn21 qc21]), rfl, hK _ _ ((HD21.out.1.all 4 _ rfl).lies rfl) (fun hH21 => ?_)⟩
     clear hK K hH20
     change wpAnyH _ _ _ _ _ _ _ (Act.put _ (some 19) _) _
     simp only [Act.put, lyA, lyZ, lyS]
     refine wpAnyH_ready (rs := [4]) (by kernel_rfl) (by simp) ?_
     refine AllReadyH.cons rfl (fun K hK0 => ?d26) (AllReadyH.nil)
     have hK := hK0.out
     clear hK0
     rw [if_pos (by kernel_rfl)]
     refine wp_go_val (.pointer (some ⟨(wq21).heap.size, 0, none⟩)) (alloc0 _ _ _ (by kernel_rfl)) ?_
     have HD22 := Lib.hid (And.intro ((FVars.told HD21.out.1 (t := ⟨false, 0, false, none, 0, 0, false, none, 0, 0, 0, 0, 0⟩) (zero0 _) rfl).laid2 31 lyK HD21.out.2.size) (HD21.out.2.alloc HD21.out.2.size (.cells #[.bool false, .slice none 0 0] 31)))
     refine hK _ _ ((HD22.out.1.all 5 _ rfl).lies rfl) (fun hH22 => ?_)
     clear hK K hH21
     change wpAnyH _ _ _ _ _ _ _ (Act.put _ (some 5) _) _
     simp only [Act.put, lyA, lyZ, lyS]
     refine wpAnyH_ready (rs := [6]) (by kernel_rfl) (by simp) ?_
     refine AllReadyH.cons rfl (fun K hK0 => ?d27) (AllReadyH.nil)
     have hK := hK0.out
     clear hK0
     rw [if_pos (by kernel_rfl)]
     refine wp_go_skip (store0 ((HD22.out.1.all 0 _ rfl).lies rfl) ((HD22.out.1.all 0 _ rfl).frz rfl) b1 A1 n1 c1 (.tmp 5) (.tmp 17) (by kernel_rfl) (by kernel_rfl) (by kernel_rfl)) ?_
     have hu23 := FVars.over2 HD22.out.1 0 (s := ⟨true, (wq21).heap.size, false, none, 0, 0, false, none, 0, 0, 0, 0, 0⟩) (t := ⟨false, 0, b1, A1, n1, c1, false, none, 0, 0, x, 0, 0⟩) rfl rfl lyK lyK (rat_lo (HD22.out.1.all 5 _ rfl).at_)
     have hv23 : FVars w.heap.size (put2 (((wq21).alloc (.cells #[.bool false, .slice none 0 0] 31))) (wq21).heap.size (.bool b1) (.slice A1 n1 c1)) [⟨true, (wq21).heap.size, b1, A1, n1, c1, false, none, 0, 0, x, 0, 0⟩, ⟨false, 0, qb21, qA21, qn21, qc21, false, none, 0, 0, d, 0, 0⟩, ⟨true, (W.drew).heap.size, false, none, 0, 0, false, none, 0, 0, 0, 0, 0⟩, ⟨true, (w.heap.size + 1 + 1), false, none, 0, 0, false, none, 0, 0, 0, 1, 3⟩, ⟨true, (w.heap.size + 1), b2, A2, n2, c2, bb2, AA2, nn2, cc2, y, e, 3⟩, ⟨true, w.heap.size, b1, A1, n1, c1, bb1, AA1, nn1, cc1, x, d, 3⟩] := hu23
     clear hu23
     have hl23 : Below w.heap.size w (put2 (((wq21).alloc (.cells #[.bool false, .slice none 0 0] 31))) (wq21).heap.size (.bool b1) (.slice A1 n1 c1)) := (HD22.out.2.setCell (p := ⟨(wq21).heap.size, 0, none⟩) (HD22.out.1.up 0 _ rfl rfl) _).setCell (p := ⟨(wq21).heap.size, 1, none⟩) (HD22.out.1.up 0 _ rfl rfl) _
     generalize (put2 (((wq21).alloc (.cells #[.bool false, .slice none 0 0] 31))) (wq21).heap.size (.bool b1) (.slice A1 n1 c1)) = Wn23 at hv23 hl23 ⊢
     have HD23 := Lib.hid (And.intro hv23 hl23)
     clear hv23 hl23
     refine hK _ _ ((HD23.out.1.all 5 _ rfl).lies rfl) (fun hH23 => ?_)
     clear hK K hH22
     change wpAnyH _ _ _ _ _ _ _ (Act.put _ none _) _
     simp only [Act.put]
     refine wpAnyH_ready (rs := [7]) (by kernel_rfl) (by simp) ?_
     refine AllReadyH.cons rfl (fun K hK0 => ?d28) (AllReadyH.nil)
     have hK := hK0.out
     clear hK0
     rw [if_pos (by kernel_rfl)]
     refine wp_go_skip (store0 ((HD23.out.1.all 2 _ rfl).lies rfl) ((HD23.out.1.all 2 _ rfl).frz rfl) qb21 qA21 qn21 qc21 (.tmp 6) (.tmp 19) (by kernel_rfl) (by kernel_rfl) (by kernel_rfl)) ?_
     have hu24 := FVars.over2 HD23.out.1 2 (s := ⟨true, (W.drew).heap.size, false, none, 0, 0, false, none, 0, 0, 0, 0, 0⟩) (t := ⟨false, 0, qb21, qA21, qn21, qc21, false, none, 0, 0, d, 0, 0⟩) rfl rfl lyK lyK ((HD23.out.1.all 1 _ rfl).at_)
     have hv24 : FVars w.heap.size (put2 (Wn23) (W.drew).heap.size (.bool qb21) (.slice qA21 qn21 qc21)) [⟨true, (wq21).heap.size, b1, A1, n1, c1, false, none, 0, 0, x, 0, 0⟩, ⟨false, 0, qb21, qA21, qn21, qc21, false, none, 0, 0, d, 0, 0⟩, ⟨true, (W.drew).heap.size, qb21, qA21, qn21, qc21, false, none, 0, 0, d, 0, 0⟩, ⟨true, (w.heap.size + 1 + 1), false, none, 0, 0, false, none, 0, 0, 0, 1, 3⟩, ⟨true, (w.heap.size + 1), b2, A2, n2, c2, bb2, AA2, nn2, cc2, y, e, 3⟩, ⟨true, w.heap.size, b1, A1, n1, c1, bb1, AA1, nn1, cc1, x, d, 3⟩] := hu24
     clear hu24
     have hl24 : Below w.heap.size w (put2 (Wn23) (W.drew).heap.size (.bool qb21) (.slice qA21 qn21 qc21)) := (HD23.out.2.setCell (p := ⟨(W.drew).heap.size, 0, none⟩) (HD23.out.1.up 2 _ rfl rfl) _).setCell (p := ⟨(W.drew).heap.size, 1, none⟩) (HD23.out.1.up 2 _ rfl rfl) _
     generalize (put2 (Wn23) (W.drew).heap.size (.bool qb21) (.slice qA21 qn21 qc21)) = Wn24 at hv24 hl24 ⊢
     have HD24 := Lib.hid (And.intro hv24 hl24)
     clear hv24 hl24
     refine hK _ _ ((HD24.out.1.all 5 _ rfl).lies rfl) (fun hH24 => ?_)
     clear hK K hH23
     change wpAnyH _ _ _ _ _ _ _ (Act.put _ none _) _
     simp only [Act.put]
     refine wpAnyH_done (by kernel_rfl) ?_ _
     have HZ := HD24.out
     try simp only [size_alloc] at HZ
     go_wp2_with fail
     go_meet
     exact ⟨wq21.heap.size, b1, A1, n1, c1, W.heap.size, qb21, qA21, qn21, qc21, (by first | rfl | simp), (by first | rfl | simp), FVars.pick HZ.1 [2, 0, 3, 4, 5] (by decide) rfl, HZ.2⟩
    case d25 =>
     have hK := hK0.out
     clear hK0
     rw [if_pos (by kernel_rfl)]
     refine wp_go_val (.pointer (some ⟨(((W.drew).alloc (.cells #[.bool false, .slice none 0 0] 31))).heap.size, 0, none⟩)) (alloc0 _ _ _ (by kernel_rfl)) ?_
     have HD25 := Lib.hid (And.intro ((FVars.told HD20.out.1 (t := ⟨false, 0, false, none, 0, 0, false, none, 0, 0, 0, 0, 0⟩) (zero0 _) rfl).laid2 31 lyK HD20.out.2.size) (HD20.out.2.alloc HD20.out.2.size (.cells #[.bool false, .slice none 0 0] 31)))
     refine hK _ _ ((HD25.out.1.all 4 _ rfl).lies rfl) (fun hH25 => ?_)
     clear hK K hH20
     change wpAnyH _ _ _ _ _ _ _ (Act.put _ (some 5) _) _
     simp only [Act.put, lyA, lyZ, lyS]
     refine wpAnyH_ready (rs := [3]) (by kernel_rfl) (by simp) ?_
     refine AllReadyH.cons rfl (fun K hK0 => ?d29) (AllReadyH.nil)
     have hK := hK0.out
     clear hK0
     rw [if_pos (by kernel_rfl)]
     refine wp_go_call 67 #[(.agg #[.bool b1, .slice A1 n1 c1, .bool bb1, .slice AA1 nn1 cc1])] (fun _ => by kernel_rfl) ((HDD.out.1 _ _ ((HD25.out.1.all 4 _ rfl).at_)).mono ?_)
     rintro e wq26 ⟨qv26, rfl, hq26, hb26⟩
     obtain ⟨qb26, qA26, qn26, qc26, rfl, hq26⟩ := open0 hq26
     have HD26 := Lib.hid (And.intro (FVars.told (HD25.out.1.step hb26 rfl) (t := ⟨false, 0, qb26, qA26, qn26, qc26, false, none, 0, 0, d, 0, 0⟩) hq26 rfl) (below_then HD25.out.2 hb26))
     clear hq26 hb26 HD25
     refine ⟨(.agg #[.bool qb26, .slice qA26 qn26 qc26]), rfl, hK _ _ ((HD26.out.1.all 5 _ rfl).lies rfl) (fun hH26 => ?_)⟩
     clear hK K hH25
     change wpAnyH _ _ _ _ _ _ _ (Act.put _ (some 19) _) _
     simp only [Act.put, lyA, lyZ, lyS]
     refine wpAnyH_ready (rs := [6]) (by kernel_rfl) (by simp) ?_
     refine AllReadyH.cons rfl (fun K hK0 => ?d30) (AllReadyH.nil)
     have hK := hK0.out
     clear hK0
     rw [if_pos (by kernel_rfl)]
     refine wp_go_skip (store0 ((HD26.out.1.all 1 _ rfl).lies rfl) ((HD26.out.1.all 1 _ rfl).frz rfl) b1 A1 n1 c1 (.tmp 5) (.tmp 17) (by kernel_rfl) (by kernel_rfl) (by kernel_rfl)) ?_
     have hu27 := FVars.over2 HD26.out.1 1 (s := ⟨true, (((W.drew).alloc (.cells #[.bool false, .slice none 0 0] 31))).heap.size, false, none, 0, 0, false, none, 0, 0, 0, 0, 0⟩) (t := ⟨false, 0, b1, A1, n1, c1, false, none, 0, 0, x, 0, 0⟩) rfl rfl lyK lyK (rat_lo (HD26.out.1.all 5 _ rfl).at_)
     have hv27 : FVars w.heap.size (put2 (wq26) (((W.drew).alloc (.cells #[.bool false, .slice none 0 0] 31))).heap.size (.bool b1) (.slice A1 n1 c1)) [⟨false, 0, qb26, qA26, qn26, qc26, false, none, 0, 0, d, 0, 0⟩, ⟨true, (((W.drew).alloc (.cells #[.bool false, .slice none 0 0] 31))).heap.size, b1, A1, n1, c1, false, none, 0, 0, x, 0, 0⟩, ⟨true, (W.drew).heap.size, false, none, 0, 0, false, none, 0, 0, 0, 0, 0⟩, ⟨true, (w.heap.size + 1 + 1), false, none, 0, 0, false, none, 0, 0, 0, 1, 3⟩, ⟨true, (w.heap.size + 1), b2, A2, n2, c2, bb2, AA2, nn2, cc2, y, e, 3⟩, ⟨true, w.heap.size, b1, A1, n1, c1, bb1, AA1, nn1, cc1, x, d, 3⟩] := hu27
     clear hu27
     have hl27 : Below w.heap.size w (put2 (wq26) (((W.drew).alloc (.cells #[.bool false, .slice none 0 0] 31))).heap.size (.bool b1) (.slice A1 n1 c1)) := (HD26.out.2.setCell (p := ⟨(((W.drew).alloc (.cells #[.bool false, .slice none 0 0] 31))).heap.size, 0, none⟩) (HD26.out.1.up 1 _ rfl rfl) _).setCell (p := ⟨(((W.drew).alloc (.cells #[.bool false, .slice none 0 0] 31))).heap.size, 1, none⟩) (HD26.out.1.up 1 _ rfl rfl) _
     generalize (put2 (wq26) (((W.drew).alloc (.cells #[.bool false, .slice none 0 0] 31))).heap.size (.bool b1) (.slice A1 n1 c1)) = Wn27 at hv27 hl27 ⊢
     have HD27 := Lib.hid (And.intro hv27 hl27)
     clear hv27 hl27
     refine hK _ _ ((HD27.out.1.all 5 _ rfl).lies rfl) (fun hH27 => ?_)
     clear hK K hH26
     change wpAnyH _ _ _ _ _ _ _ (Act.put _ none _) _
     simp only [Act.put]
     refine wpAnyH_ready (rs := [7]) (by kernel_rfl) (by simp) ?_
     refine AllReadyH.cons rfl (fun K hK0 => ?d31) (AllReadyH.nil)
     have hK := hK0.out
     clear hK0
     rw [if_pos (by kernel_rfl)]
     refine wp_go_skip (store0 ((HD27.out.1.all 2 _ rfl).lies rfl) ((HD27.out.1.all 2 _ rfl).frz rfl) qb26 qA26 qn26 qc26 (.tmp 6) (.tmp 19) (by kernel_rfl) (by kernel_rfl) (by kernel_rfl)) ?_
     have hu28 := FVars.over2 HD27.out.1 2 (s := ⟨true, (W.drew).heap.size, false, none, 0, 0, false, none, 0, 0, 0, 0, 0⟩) (t := ⟨false, 0, qb26, qA26, qn26, qc26, false, none, 0, 0, d, 0, 0⟩) rfl rfl lyK lyK ((HD27.out.1.all 0 _ rfl).at_)
     have hv28 : FVars w.heap.size (put2 (Wn27) (W.drew).heap.size (.bool qb26) (.slice qA26 qn26 qc26)) [⟨false, 0, qb26, qA26, qn26, qc26, false, none, 0, 0, d, 0, 0⟩, ⟨true, (((W.drew).alloc (.cells #[.bool false, .slice none 0 0] 31))).heap.size, b1, A1, n1, c1, false, none, 0, 0, x, 0, 0⟩, ⟨true, (W.drew).heap.size, qb26, qA26, qn26, qc26, false, none, 0, 0, d, 0, 0⟩, ⟨true, (w.heap.size + 1 + 1), false, none, 0, 0, false, none, 0, 0, 0, 1, 3⟩, ⟨true, (w.heap.size + 1), b2, A2, n2, c2, bb2, AA2, nn2, cc2, y, e, 3⟩, ⟨true, w.heap.size, b1, A1, n1, c1, bb1, AA1, nn1, cc1, x, d, 3⟩] := hu28
     clear hu28
     have hl28 : Below w.heap.size w (put2 (Wn27) (W.drew).heap.size (.bool qb26) (.slice qA26 qn26 qc26)) := (HD27.out.2.setCell (p := ⟨(W.drew).heap.size, 0, none⟩) (HD27.out.1.up 2 _ rfl rfl) _).setCell (p := ⟨(W.drew).heap.size, 1, none⟩) (HD27.out.1.up 2 _ rfl rfl) _
     generalize (put2 (Wn27) (W.drew).heap.size (.bool qb26) (.slice qA26 qn26 qc26)) = Wn28 at hv28 hl28 ⊢
     have HD28 := Lib.hid (And.intro hv28 hl28)
     clear hv28 hl28
     refine hK _ _ ((HD28.out.1.all 5 _ rfl).lies rfl) (fun hH28 => ?_)
     clear hK K hH27
     change wpAnyH _ _ _ _ _ _ _ (Act.put _ none _) _
     simp only [Act.put]
     refine wpAnyH_done (by kernel_rfl) ?_ _
     have HZ := HD28.out
     try simp only [size_alloc] at HZ
     go_wp2_with fail
     go_meet
     exact ⟨(W.heap.size + 1), b1, A1, n1, c1, W.heap.size, qb26, qA26, qn26, qc26, (by first | rfl | simp), (by first | rfl | simp), FVars.pick HZ.1 [2, 1, 3, 4, 5] (by decide) rfl, HZ.2⟩
  case rest =>
  obtain ⟨rn, bn, An, nn, cn, rd, bd, Ad, nd, cd, rfl, rfl, hv, hb⟩ := hcut
  have HV29 := Lib.hid (And.intro hv hb)
  clear hv hb HC
  go_upto_region 2 with fail
  go_cut [7, 8] (fun s1 s2 wx => ∃ (rm : Nat) (bm : Bool) (Am : Option Addr) (nm cm : Nat) (rc : Nat) (bc : Bool) (Ac : Option Addr) (nc cc : Nat), s1 = .pointer (some ⟨rm, 0, none⟩) ∧ s2 = .pointer (some ⟨rc, 0, none⟩) ∧ FVars w.heap.size wx [⟨true, rc, bc, Ac, nc, cc, false, none, 0, 0, e, 0, 0⟩, ⟨true, rm, bm, Am, nm, cm, false, none, 0, 0, y, 0, 0⟩, ⟨true, rd, bd, Ad, nd, cd, false, none, 0, 0, d, 0, 0⟩, ⟨true, rn, bn, An, nn, cn, false, none, 0, 0, x, 0, 0⟩, ⟨true, (w.heap.size + 1 + 1), false, none, 0, 0, false, none, 0, 0, 0, 1, 3⟩, ⟨true, (w.heap.size + 1), b2, A2, n2, c2, bb2, AA2, nn2, cc2, y, e, 3⟩, ⟨true, w.heap.size, b1, A1, n1, c1, bb1, AA1, nn1, cc1, x, d, 3⟩] ∧ Below w.heap.size w wx)
  case first => as_aux_lemma =>
   have HD30 := Lib.hid (And.intro HV29.out.1.drew HV29.out.2.drew)
   refine wp_region_held_drew (S := fun w' => Quad w' (w.heap.size + 1) (.bool b2) (.slice A2 n2 c2) (.bool bb2) (.slice AA2 nn2 cc2)) (by kernel_rfl) ((HD30.out.1.all 3 _ rfl).lies rfl) (fun hH0 => ?_)
   refine wpAnyH_take (i := 0) (v := (.pointer (some ⟨(w.heap.size + 1), 0, none⟩))) rfl (by kernel_rfl) (by kernel_rfl) (by kernel_rfl) (fun _ _ _ h => h) (Or.inl ⟨by kernel_rfl, ?y32⟩) hH0 ?r33
   case y32 => (intro w0 hS0; go_simp <;> with_reducible rfl)
   change wpAnyH _ _ _ _ _ _ _ (Act.put _ (some 20) _) _
   simp only [Act.put, lyA, lyZ, lyS]
   refine wpAnyH_take (i := 1) (v := (.agg #[.bool b2, .slice A2 n2 c2])) rfl (by kernel_rfl) (by kernel_rfl) (by kernel_rfl) (fun _ _ _ h => h) (Or.inl ⟨by kernel_rfl, fun w0 hS0 => loadlo3 (hS0) (.tmp 20) (by kernel_rfl) (by kernel_rfl)⟩) hH0 ?r34
   change wpAnyH _ _ _ _ _ _ _ (Act.put _ (some 21) _) _
   simp only [Act.put, lyA, lyZ, lyS]
   refine wpAnyH_take (i := 2) (v := (.agg #[.bool b2, .slice A2 n2 c2, .bool bb2, .slice AA2 nn2 cc2])) rfl (by kernel_rfl) (by kernel_rfl) (by kernel_rfl) (fun _ _ _ h => h) (Or.inl ⟨by kernel_rfl, fun w0 hS0 => load3 (hS0) (.tmp 3) (by kernel_rfl) (by kernel_rfl)⟩) hH0 ?r35
   change wpAnyH _ _ _ _ _ _ _ (Act.put _ (some 22) _) _
   simp only [Act.put, lyA, lyZ, lyS]
   refine wpAnyH_ready (rs := [3, 4, 5]) (by kernel_rfl) (by simp) ?_
   refine AllReadyH.cons rfl (fun K hK0 => ?d36) (AllReadyH.cons rfl (fun K hK0 => ?d37) (AllReadyH.cons rfl (fun K hK0 => ?d38) (AllReadyH.nil)))
   case d36 =>
    have hK := hK0.out
    clear hK0
    rw [if_pos (by kernel_rfl)]
    refine wp_go_call 67 #[(.agg #[.bool b2, .slice A2 n2 c2, .bool bb2, .slice AA2 nn2 cc2])] (fun _ => by kernel_rfl) ((HDD.out.2 _ _ ((HD30.out.1.all 3 _ rfl).at_)).mono ?_)
    rintro e wq31 ⟨qv31, rfl, hq31, hb31⟩
    obtain ⟨qb31, qA31, qn31, qc31, rfl, hq31⟩ := open0 hq31
    have HD31 := Lib.hid (And.intro (FVars.told (HD30.out.1.step hb31 rfl) (t := ⟨false, 0, qb31, qA31, qn31, qc31, false, none, 0, 0, e, 0, 0⟩) hq31 rfl) (below_then HD30.out.2 hb31))
    clear hq31 hb31 HD30
    refine ⟨(.agg #[.bool qb31, .slice qA31 qn31 qc31]), rfl, hK _ _ ((HD31.out.1.all 4 _ rfl).lies rfl) (fun hH31 => ?_)⟩
    clear hK K hH0
    change wpAnyH _ _ _ _ _ _ _ (Act.put _ (some 23) _) _
    simp only [Act.put, lyA, lyZ, lyS]
    refine wpAnyH_ready (rs := [4, 5]) (by kernel_rfl) (by simp) ?_
    refine AllReadyH.cons rfl (fun K hK0 => ?d39) (AllReadyH.cons rfl (fun K hK0 => ?d40) (AllReadyH.nil))
    case d39 =>
     have hK := hK0.out
     clear hK0
     rw [if_pos (by kernel_rfl)]
     refine wp_go_val (.pointer (some ⟨(wq31).heap.size, 0, none⟩)) (alloc0 _ _ _ (by kernel_rfl)) ?_
     have HD32 := Lib.hid (And.intro ((FVars.told HD31.out.1 (t := ⟨false, 0, false, none, 0, 0, false, none, 0, 0, 0, 0, 0⟩) (zero0 _) rfl).laid2 31 lyK HD31.out.2.size) (HD31.out.2.alloc HD31.out.2.size (.cells #[.bool false, .slice none 0 0] 31)))
     refine hK _ _ ((HD32.out.1.all 5 _ rfl).lies rfl) (fun hH32 => ?_)
     clear hK K hH31
     change wpAnyH _ _ _ _ _ _ _ (Act.put _ (some 7) _) _
     simp only [Act.put, lyA, lyZ, lyS]
     refine wpAnyH_ready (rs := [5]) (by kernel_rfl) (by simp) ?_
     refine AllReadyH.cons rfl (fun K hK0 => ?d41) (AllReadyH.nil)
     have hK := hK0.out
     clear hK0
     rw [if_pos (by kernel_rfl)]
     refine wp_go_val (.pointer (some ⟨(((wq31).alloc (.cells #[.bool false, .slice none 0 0] 31))).heap.size, 0, none⟩)) (alloc0 _ _ _ (by kernel_rfl)) ?_
     have HD33 := Lib.hid (And.intro ((FVars.told HD32.out.1 (t := ⟨false, 0, false, none, 0, 0, false, none, 0, 0, 0, 0, 0⟩) (zero0 _) rfl).laid2 31 lyK HD32.out.2.size) (HD32.out.2.alloc HD32.out.2.size (.cells #[.bool false, .slice none 0 0] 31)))
     refine hK _ _ ((HD33.out.1.all 6 _ rfl).lies rfl) (fun hH33 => ?_)
     clear hK K hH32
     change wpAnyH _ _ _ _ _ _ _ (Act.put _ (some 8) _) _
     simp only [Act.put, lyA, lyZ, lyS]
     refine wpAnyH_ready (rs := [6]) (by kernel_rfl) (by simp) ?_
     refine AllReadyH.cons rfl (fun K hK0 => ?d42) (AllReadyH.nil)
     have hK := hK0.out
     clear hK0
     rw [if_pos (by kernel_rfl)]
     refine wp_go_skip (store0 ((HD33.out.1.all 1 _ rfl).lies rfl) ((HD33.out.1.all 1 _ rfl).frz rfl) b2 A2 n2 c2 (.tmp 7) (.tmp 21) (by kernel_rfl) (by kernel_rfl) (by kernel_rfl)) ?_
     have hu34 := FVars.over2 HD33.out.1 1 (s := ⟨true, (wq31).heap.size, false, none, 0, 0, false, none, 0, 0, 0, 0, 0⟩) (t := ⟨false, 0, b2, A2, n2, c2, false, none, 0, 0, y, 0, 0⟩) rfl rfl lyK lyK (rat_lo (HD33.out.1.all 6 _ rfl).at_)
     have hv34 : FVars w.heap.size (put2 (((((wq31).alloc (.cells #[.bool false, .slice none 0 0] 31))).alloc (.cells #[.bool false, .slice none 0 0] 31))) (wq31).heap.size (.bool b2) (.slice A2 n2 c2)) [⟨true, (((wq31).alloc (.cells #[.bool false, .slice none 0 0] 31))).heap.size, false, none, 0, 0, false, none, 0, 0, 0, 0, 0⟩, ⟨true, (wq31).heap.size, b2, A2, n2, c2, false, none, 0, 0, y, 0, 0⟩, ⟨false, 0, qb31, qA31, qn31, qc31, false, none, 0, 0, e, 0, 0⟩, ⟨true, rd, bd, Ad, nd, cd, false, none, 0, 0, d, 0, 0⟩, ⟨true, rn, bn, An, nn, cn, false, none, 0, 0, x, 0, 0⟩, ⟨true, (w.heap.size + 1 + 1), false, none, 0, 0, false, none, 0, 0, 0, 1, 3⟩, ⟨true, (w.heap.size + 1), b2, A2, n2, c2, bb2, AA2, nn2, cc2, y, e, 3⟩, ⟨true, w.heap.size, b1, A1, n1, c1, bb1, AA1, nn1, cc1, x, d, 3⟩] := hu34
     clear hu34
     have hl34 : Below w.heap.size w (put2 (((((wq31).alloc (.cells #[.bool false, .slice none 0 0] 31))).alloc (.cells #[.bool false, .slice none 0 0] 31))) (wq31).heap.size (.bool b2) (.slice A2 n2 c2)) := (HD33.out.2.setCell (p := ⟨(wq31).heap.size, 0, none⟩) (HD33.out.1.up 1 _ rfl rfl) _).setCell (p := ⟨(wq31).heap.size, 1, none⟩) (HD33.out.1.up 1 _ rfl rfl) _
     generalize (put2 (((((wq31).alloc (.cells #[.bool false, .slice none 0 0] 31))).alloc (.cells #[.bool false, .slice none 0 0] 31))) (wq31).heap.size (.bool b2) (.slice A2 n2 c2)) = Wn34 at hv34 hl34 ⊢
     have HD34 := Lib.hid (And.intro hv34 hl34)
     clear hv34 hl34
     refine hK _ _ ((HD34.out.1.all 6 _ rfl).lies rfl) (fun hH34 => ?_)
     clear hK K hH33
     change wpAnyH _ _ _ _ _ _ _ (Act.put _ none _) _
     simp only [Act.put]
     refine wpAnyH_ready (rs := [7]) (by kernel_rfl) (by simp) ?_
     refine AllReadyH.cons rfl (fun K hK0 => ?d43) (AllReadyH.nil)
     have hK := hK0.out
     clear hK0
     rw [if_pos (by kernel_rfl)]
     refine wp_go_skip (store0 ((HD34.out.1.all 0 _ rfl).lies rfl) ((HD34.out.1.all 0 _ rfl).frz rfl) qb31 qA31 qn31 qc31 (.tmp 8) (.tmp 23) (by kernel_rfl) (by kernel_rfl) (by kernel_rfl)) ?_
     have hu35 := FVars.over2 HD34.out.1 0 (s := ⟨true, (((wq31).alloc (.cells #[.bool false, .slice none 0 0] 31))).heap.size, false, none, 0, 0, false, none, 0, 0, 0, 0, 0⟩) (t := ⟨false, 0, qb31, qA31, qn31, qc31, false, none, 0, 0, e, 0, 0⟩) rfl rfl lyK lyK ((HD34.out.1.all 2 _ rfl).at_)
     have hv35 : FVars w.heap.size (put2 (Wn34) (((wq31).alloc (.cells #[.bool false, .slice none 0 0] 31))).heap.size (.bool qb31) (.slice qA31 qn31 qc31)) [⟨true, (((wq31).alloc (.cells #[.bool false, .slice none 0 0] 31))).heap.size, qb31, qA31, qn31, qc31, false, none, 0, 0, e, 0, 0⟩, ⟨true, (wq31).heap.size, b2, A2, n2, c2, false, none, 0, 0, y, 0, 0⟩, ⟨false, 0, qb31, qA31, qn31, qc31, false, none, 0, 0, e, 0, 0⟩, ⟨true, rd, bd, Ad, nd, cd, false, none, 0, 0, d, 0, 0⟩, ⟨true, rn, bn, An, nn, cn, false, none, 0, 0, x, 0, 0⟩, ⟨true, (w.heap.size + 1 + 1), false, none, 0, 0, false, none, 0, 0, 0, 1, 3⟩, ⟨true, (w.heap.size + 1), b2, A2, n2, c2, bb2, AA2, nn2, cc2, y, e, 3⟩, ⟨true, w.heap.size, b1, A1, n1, c1, bb1, AA1, nn1, cc1, x, d, 3⟩] := hu35
     clear hu35
     have hl35 : Below w.heap.size w (put2 (Wn34) (((wq31).alloc (.cells #[.bool false, .slice none 0 0] 31))).heap.size (.bool qb31) (.slice qA31 qn31 qc31)) := (HD34.out.2.setCell (p := ⟨(((wq31).alloc (.cells #[.bool false, .slice none 0 0] 31))).heap.size, 0, none⟩) (HD34.out.1.up 0 _ rfl rfl) _).setCell (p := ⟨(((wq31).alloc (.cells #[.bool false, .slice none 0 0] 31))).heap.size, 1, none⟩) (HD34.out.1.up 0 _ rfl rfl) _
     generalize (put2 (Wn34) (((wq31).alloc (.cells #[.bool false, .slice none 0 0] 31))).heap.size (.bool qb31) (.slice qA31 qn31 qc31)) = Wn35 at hv35 hl35 ⊢
     have HD35 := Lib.hid (And.intro hv35 hl35)
     clear hv35 hl35
     refine hK _ _ ((HD35.out.1.all 6 _ rfl).lies rfl) (fun hH35 => ?_)
     clear hK K hH34
     change wpAnyH _ _ _ _ _ _ _ (Act.put _ none _) _
     simp only [Act.put]
     refine wpAnyH_done (by kernel_rfl) ?_ _
     have HZ := HD35.out
     try simp only [size_alloc] at HZ
     go_wp2_with fail
     go_meet
     exact ⟨wq31.heap.size, b2, A2, n2, c2, (wq31.heap.size + 1), qb31, qA31, qn31, qc31, (by first | rfl | simp), (by first | rfl | simp), FVars.pick HZ.1 [0, 1, 3, 4, 5, 6, 7] (by decide) rfl, HZ.2⟩
    case d40 =>
     have hK := hK0.out
     clear hK0
     rw [if_pos (by kernel_rfl)]
     refine wp_go_val (.pointer (some ⟨(wq31).heap.size, 0, none⟩)) (alloc0 _ _ _ (by kernel_rfl)) ?_
     have HD36 := Lib.hid (And.intro ((FVars.told HD31.out.1 (t := ⟨false, 0, false, none, 0, 0, false, none, 0, 0, 0, 0, 0⟩) (zero0 _) rfl).laid2 31 lyK HD31.out.2.size) (HD31.out.2.alloc HD31.out.2.size (.cells #[.bool false, .slice none 0 0] 31)))
     refine hK _ _ ((HD36.out.1.all 5 _ rfl).lies rfl) (fun hH36 => ?_)
     clear hK K hH31
     change wpAnyH _ _ _ _ _ _ _ (Act.put _ (some 8) _) _
     simp only [Act.put, lyA, lyZ, lyS]
     refine wpAnyH_ready (rs := [4]) (by kernel_rfl) (by simp) ?_
     refine AllReadyH.cons rfl (fun K hK0 => ?d44) (AllReadyH.nil)
     have hK := hK0.out
     clear hK0
     rw [if_pos (by kernel_rfl)]
     refine wp_go_val (.pointer (some ⟨(((wq31).alloc (.cells #[.bool false, .slice none 0 0] 31))).heap.size, 0, none⟩)) (alloc0 _ _ _ (by kernel_rfl)) ?_
     have HD37 := Lib.hid (And.intro ((FVars.told HD36.out.1 (t := ⟨false, 0, false, none, 0, 0, false, none, 0, 0, 0, 0, 0⟩) (zero0 _) rfl).laid2 31 lyK HD36.out.2.size) (HD36.out.2.alloc HD36.out.2.size (.cells #[.bool false, .slice none 0 0] 31)))
     refine hK _ _ ((HD37.out.1.all 6 _ rfl).lies rfl) (fun hH37 => ?_)
     clear hK K hH36
     change wpAnyH _ _ _ _ _ _ _ (Act.put _ (some 7) _) _
     simp only [Act.put, lyA, lyZ, lyS]
     refine wpAnyH_ready (rs := [6]) (by kernel_rfl) (by simp) ?_
     refine AllReadyH.cons rfl (fun K hK0 => ?d45) (AllReadyH.nil)
     have hK := hK0.out
     clear hK0
     rw [if_pos (by kernel_rfl)]
     refine wp_go_skip (store0 ((HD37.out.1.all 0 _ rfl).lies rfl) ((HD37.out.1.all 0 _ rfl).frz rfl) b2 A2 n2 c2 (.tmp 7) (.tmp 21) (by kernel_rfl) (by kernel_rfl) (by kernel_rfl)) ?_
     have hu38 := FVars.over2 HD37.out.1 0 (s := ⟨true, (((wq31).alloc (.cells #[.bool false, .slice none 0 0] 31))).heap.size, false, none, 0, 0, false, none, 0, 0, 0, 0, 0⟩) (t := ⟨false, 0, b2, A2, n2, c2, false, none, 0, 0, y, 0, 0⟩) rfl rfl lyK lyK (rat_lo (HD37.out.1.all 6 _ rfl).at_)
     have hv38 : FVars w.heap.size (put2 (((((wq31).alloc (.cells #[.bool false, .slice none 0 0] 31))).alloc (.cells #[.bool false, .slice none 0 0] 31))) (((wq31).alloc (.cells #[.bool false, .slice none 0 0] 31))).heap.size (.bool b2) (.slice A2 n2 c2)) [⟨true, (((wq31).alloc (.cells #[.bool false, .slice none 0 0] 31))).heap.size, b2, A2, n2, c2, false, none, 0, 0, y, 0, 0⟩, ⟨true, (wq31).heap.size, false, none, 0, 0, false, none, 0, 0, 0, 0, 0⟩, ⟨false, 0, qb31, qA31, qn31, qc31, false, none, 0, 0, e, 0, 0⟩, ⟨true, rd, bd, Ad, nd, cd, false, none, 0, 0, d, 0, 0⟩, ⟨true, rn, bn, An, nn, cn, false, none, 0, 0, x, 0, 0⟩, ⟨true, (w.heap.size + 1 + 1), false, none, 0, 0, false, none, 0, 0, 0, 1, 3⟩, ⟨true, (w.heap.size + 1), b2, A2, n2, c2, bb2, AA2, nn2, cc2, y, e, 3⟩, ⟨true, w.heap.size, b1, A1, n1, c1, bb1, AA1, nn1, cc1, x, d, 3⟩] := hu38
     clear hu38
     have hl38 : Below w.heap.size w (put2 (((((wq31).alloc (.cells #[.bool false, .slice none 0 0] 31))).alloc (.cells #[.bool false, .slice none 0 0] 31))) (((wq31).alloc (.cells #[.bool false, .slice none 0 0] 31))).heap.size (.bool b2) (.slice A2 n2 c2)) := (HD37.out.2.setCell (p := ⟨(((wq31).alloc (.cells #[.bool false, .slice none 0 0] 31))).heap.size, 0, none⟩) (HD37.out.1.up 0 _ rfl rfl) _).setCell (p := ⟨(((wq31).alloc (.cells #[.bool false, .slice none 0 0] 31))).heap.size, 1, none⟩) (HD37.out.1.up 0 _ rfl rfl) _
     generalize (put2 (((((wq31).alloc (.cells #[.bool false, .slice none 0 0] 31))).alloc (.cells #[.bool false, .slice none 0 0] 31))) (((wq31).alloc (.cells #[.bool false, .slice none 0 0] 31))).heap.size (.bool b2) (.slice A2 n2 c2)) = Wn38 at hv38 hl38 ⊢
     have HD38 := Lib.hid (And.intro hv38 hl38)
     clear hv38 hl38
     refine hK _ _ ((HD38.out.1.all 6 _ rfl).lies rfl) (fun hH38 => ?_)
     clear hK K hH37
     change wpAnyH _ _ _ _ _ _ _ (Act.put _ none _) _
     simp only [Act.put]
     refine wpAnyH_ready (rs := [7]) (by kernel_rfl) (by simp) ?_
     refine AllReadyH.cons rfl (fun K hK0 => ?d46) (AllReadyH.nil)
     have hK := hK0.out
     clear hK0
     rw [if_pos (by kernel_rfl)]
     refine wp_go_skip (store0 ((HD38.out.1.all 1 _ rfl).lies rfl) ((HD38.out.1.all 1 _ rfl).frz rfl) qb31 qA31 qn31 qc31 (.tmp 8) (.tmp 23) (by kernel_rfl) (by kernel_rfl) (by kernel_rfl)) ?_
     have hu39 := FVars.over2 HD38.out.1 1 (s := ⟨true, (wq31).heap.size, false, none, 0, 0, false, none, 0, 0, 0, 0, 0⟩) (t := ⟨false, 0, qb31, qA31, qn31, qc31, false, none, 0, 0, e, 0, 0⟩) rfl rfl lyK lyK ((HD38.out.1.all 2 _ rfl).at_)
     have hv39 : FVars w.heap.size (put2 (Wn38) (wq31).heap.size (.bool qb31) (.slice qA31 qn31 qc31)) [⟨true, (((wq31).alloc (.cells #[.bool false, .slice none 0 0] 31))).heap.size, b2, A2, n2, c2, false, none, 0, 0, y, 0, 0⟩, ⟨true, (wq31).heap.size, qb31, qA31, qn31, qc31, false, none, 0, 0, e, 0, 0⟩, ⟨false, 0, qb31, qA31, qn31, qc31, false, none, 0, 0, e, 0, 0⟩, ⟨true, rd, bd, Ad, nd, cd, false, none, 0, 0, d, 0, 0⟩, ⟨true, rn, bn, An, nn, cn, false, none, 0, 0, x, 0, 0⟩, ⟨true, (w.heap.size + 1 + 1), false, none, 0, 0, false, none, 0, 0, 0, 1, 3⟩, ⟨true, (w.heap.size + 1), b2, A2, n2, c2, bb2, AA2, nn2, cc2, y, e, 3⟩, ⟨true, w.heap.size, b1, A1, n1, c1, bb1, AA1, nn1, cc1, x, d, 3⟩] := hu39
     clear hu39
     have hl39 : Below w.heap.size w (put2 (Wn38) (wq31).heap.size (.bool qb31) (.slice qA31 qn31 qc31)) := (HD38.out.2.setCell (p := ⟨(wq31).heap.size, 0, none⟩) (HD38.out.1.up 1 _ rfl rfl) _).setCell (p := ⟨(wq31).heap.size, 1, none⟩) (HD38.out.1.up 1 _ rfl rfl) _
     generalize (put2 (Wn38) (wq31).heap.size (.bool qb31) (.slice qA31 qn31 qc31)) = Wn39 at hv39 hl39 ⊢
     have HD39 := Lib.hid (And.intro hv39 hl39)
     clear hv39 hl39
     refine hK _ _ ((HD39.out.1.all 6 _ rfl).lies rfl) (fun hH39 => ?_)
     clear hK K hH38
     change wpAnyH _ _ _ _ _ _ _ (Act.put _ none _) _
     simp only [Act.put]
     refine wpAnyH_done (by kernel_rfl) ?_ _
     have HZ := HD39.out
     try simp only [size_alloc] at HZ
     go_wp2_with fail
     go_meet
     exact ⟨(wq31.heap.size + 1), b2, A2, n2, c2, wq31.heap.size, qb31, qA31, qn31, qc31, (by first | rfl | simp), (by first | rfl | simp), FVars.pick HZ.1 [1, 0, 3, 4, 5, 6, 7] (by decide) rfl, HZ.2⟩
   case d37 =>
    have hK := hK0.out
    clear hK0
    rw [if_pos (by kernel_rfl)]
    refine wp_go_val (.pointer (some ⟨(wc.drew).heap.size, 0, none⟩)) (alloc0 _ _ _ (by kernel_rfl)) ?_
    have HD40 := Lib.hid (And.intro ((FVars.told HD30.out.1 (t := ⟨false, 0, false, none, 0, 0, false, none, 0, 0, 0, 0, 0⟩) (zero0 _) rfl).laid2 31 lyK HD30.out.2.size) (HD30.out.2.alloc HD30.out.2.size (.cells #[.bool false, .slice none 0 0] 31)))
    refine hK _ _ ((HD40.out.1.all 4 _ rfl).lies rfl) (fun hH40 => ?_)
    clear hK K hH0
    change wpAnyH _ _ _ _ _ _ _ (Act.put _ (some 7) _) _
    simp only [Act.put, lyA, lyZ, lyS]
    refine wpAnyH_ready (rs := [3, 5]) (by kernel_rfl) (by simp) ?_
    refine AllReadyH.cons rfl (fun K hK0 => ?d47) (AllReadyH.cons rfl (fun K hK0 => ?d48) (AllReadyH.nil))
    case d47 =>
     have hK := hK0.out
     clear hK0
     rw [if_pos (by kernel_rfl)]
     refine wp_go_call 67 #[(.agg #[.bool b2, .slice A2 n2 c2, .bool bb2, .slice AA2 nn2 cc2])] (fun _ => by kernel_rfl) ((HDD.out.2 _ _ ((HD40.out.1.all 4 _ rfl).at_)).mono ?_)
     rintro e wq41 ⟨qv41, rfl, hq41, hb41⟩
     obtain ⟨qb41, qA41, qn41, qc41, rfl, hq41⟩ := open0 hq41
     have HD41 := Lib.hid (And.intro (FVars.told (HD40.out.1.step hb41 rfl) (t := ⟨false, 0, qb41, qA41, qn41, qc41, false, none, 0, 0, e, 0, 0⟩) hq41 rfl) (below_then HD40.out.2 hb41))
     clear hq41 hb41 HD40
     refine ⟨(.agg #[.bool qb41, .slice qA41 qn41 qc41]), rfl, hK _ _ ((HD41.out.1.all 5 _ rfl).lies rfl) (fun hH41 => ?_)⟩
     clear hK K hH40
     change wpAnyH _ _ _ _ _ _ _ (Act.put _ (some 23) _) _
     simp only [Act.put, lyA, lyZ, lyS]
     refine wpAnyH_ready (rs := [5]) (by kernel_rfl) (by simp) ?_
     refine AllReadyH.cons rfl (fun K hK0 => ?d49) (AllReadyH.nil)
     have hK := hK0.out
     clear hK0
     rw [if_pos (by kernel_rfl)]
     refine wp_go_val (.pointer (some ⟨(wq41).heap.size, 0, none⟩)) (alloc0 _ _ _ (by kernel_rfl)) ?_
     have HD42 := Lib.hid (And.intro ((FVars.told HD41.out.1 (t := ⟨false, 0, false, none, 0, 0, false, none, 0, 0, 0, 0, 0⟩) (zero0 _) rfl).laid2 31 lyK HD41.out.2.size) (HD41.out.2.alloc HD41.out.2.size (.cells #[.bool false, .slice none 0 0] 31)))
     refine hK _ _ ((HD42.out.1.all 6 _ rfl).lies rfl) (fun hH42 => ?_)
     clear hK K hH41
     change wpAnyH _ _ _ _ _ _ _ (Act.put _ (some 8) _) _
     simp only [Act.put, lyA, lyZ, lyS]
     refine wpAnyH_ready (rs := [6]) (by kernel_rfl) (by simp) ?_
     refine AllReadyH.cons rfl (fun K hK0 => ?d50) (AllReadyH.nil)
     have hK := hK0.out
     clear hK0
     rw [if_pos (by kernel_rfl)]
     refine wp_go_skip (store0 ((HD42.out.1.all 2 _ rfl).lies rfl) ((HD42.out.1.all 2 _ rfl).frz rfl) b2 A2 n2 c2 (.tmp 7) (.tmp 21) (by kernel_rfl) (by kernel_rfl) (by kernel_rfl)) ?_
     have hu43 := FVars.over2 HD42.out.1 2 (s := ⟨true, (wc.drew).heap.size, false, none, 0, 0, false, none, 0, 0, 0, 0, 0⟩) (t := ⟨false, 0, b2, A2, n2, c2, false, none, 0, 0, y, 0, 0⟩) rfl rfl lyK lyK (rat_lo (HD42.out.1.all 6 _ rfl).at_)
     have hv43 : FVars w.heap.size (put2 (((wq41).alloc (.cells #[.bool false, .slice none 0 0] 31))) (wc.drew).heap.size (.bool b2) (.slice A2 n2 c2)) [⟨true, (wq41).heap.size, false, none, 0, 0, false, none, 0, 0, 0, 0, 0⟩, ⟨false, 0, qb41, qA41, qn41, qc41, false, none, 0, 0, e, 0, 0⟩, ⟨true, (wc.drew).heap.size, b2, A2, n2, c2, false, none, 0, 0, y, 0, 0⟩, ⟨true, rd, bd, Ad, nd, cd, false, none, 0, 0, d, 0, 0⟩, ⟨true, rn, bn, An, nn, cn, false, none, 0, 0, x, 0, 0⟩, ⟨true, (w.heap.size + 1 + 1), false, none, 0, 0, false, none, 0, 0, 0, 1, 3⟩, ⟨true, (w.heap.size + 1), b2, A2, n2, c2, bb2, AA2, nn2, cc2, y, e, 3⟩, ⟨true, w.heap.size, b1, A1, n1, c1, bb1, AA1, nn1, cc1, x, d, 3⟩] := hu43
     clear hu43
     have hl43 : Below w.heap.size w (put2 (((wq41).alloc (.cells #[.bool false, .slice none 0 0] 31))) (wc.drew).heap.size (.bool b2) (.slice A2 n2 c2)) := (HD42.out.2.setCell (p := ⟨(wc.drew).heap.size, 0, none⟩) (HD42.out.1.up 2 _ rfl rfl) _).setCell (p := ⟨(wc.drew).heap.size, 1, none⟩) (HD42.out.1.up 2 _ rfl rfl) _
     generalize (put2 (((wq41).alloc (.cells #[.bool false, .slice none 0 0] 31))) (wc.drew).heap.size (.bool b2) (.slice A2 n2 c2)) = Wn43 at hv43 hl43 ⊢
     have HD43 := Lib.hid (And.intro hv43 hl43)
     clear hv43 hl43
     refine hK _ _ ((HD43.out.1.all 6 _ rfl).lies rfl) (fun hH43 => ?_)
     clear hK K hH42
     change wpAnyH _ _ _ _ _ _ _ (Act.put _ none _) _
     simp only [Act.put]
     refine wpAnyH_ready (rs := [7]) (by kernel_rfl) (by simp) ?_
     refine AllReadyH.cons rfl (fun K hK0 => ?d51) (AllReadyH.nil)
     have hK := hK0.out
     clear hK0
     rw [if_pos (by kernel_rfl)]
     refine wp_go_skip (store0 ((HD43.out.1.all 0 _ rfl).lies rfl) ((HD43.out.1.all 0 _ rfl).frz rfl) qb41 qA41 qn41 qc41 (.tmp 8) (.tmp 23) (by kernel_rfl) (by kernel_rfl) (by kernel_rfl)) ?_
     have hu44 := FVars.over2 HD43.out.1 0 (s := ⟨true, (wq41).heap.size, false, none, 0, 0, false, none, 0, 0, 0, 0, 0⟩) (t := ⟨false, 0, qb41, qA41, qn41, qc41, false, none, 0, 0, e, 0, 0⟩) rfl rfl lyK lyK ((HD43.out.1.all 1 _ rfl).at_)
     have hv44 : FVars w.heap.size (put2 (Wn43) (wq41).heap.size (.bool qb41) (.slice qA41 qn41 qc41)) [⟨true, (wq41).heap.size, qb41, qA41, qn41, qc41, false, none, 0, 0, e, 0, 0⟩, ⟨false, 0, qb41, qA41, qn41, qc41, false, none, 0, 0, e, 0, 0⟩, ⟨true, (wc.drew).heap.size, b2, A2, n2, c2, false, none, 0, 0, y, 0, 0⟩, ⟨true, rd, bd, Ad, nd, cd, false, none, 0, 0, d, 0, 0⟩, ⟨true, rn, bn, An, nn, cn, false, none, 0, 0, x, 0, 0⟩, ⟨true, (w.heap.size + 1 + 1), false, none, 0, 0, false, none, 0, 0, 0, 1, 3⟩, ⟨true, (w.heap.size + 1), b2, A2, n2, c2, bb2, AA2, nn2, cc2, y, e, 3⟩, ⟨true, w.heap.size, b1, A1, n1, c1, bb1, AA1, nn1, cc1, x, d, 3⟩] := hu44
     clear hu44
     have hl44 : Below w.heap.size w (put2 (Wn43) (wq41).heap.size (.bool qb41) (.slice qA41 qn41 qc41)) := (HD43.out.2.setCell (p := ⟨(wq41).heap.size, 0, none⟩) (HD43.out.1.up 0 _ rfl rfl) _).setCell (p := ⟨(wq41).heap.size, 1, none⟩) (HD43.out.1.up 0 _ rfl rfl) _
     generalize (put2 (Wn43) (wq41).heap.size (.bool qb41) (.slice qA41 qn41 qc41)) = Wn44 at hv44 hl44 ⊢
     have HD44 := Lib.hid (And.intro hv44 hl44)
     clear hv44 hl44
     refine hK _ _ ((HD44.out.1.all 6 _ rfl).lies rfl) (fun hH44 => ?_)
     clear hK K hH43
     change wpAnyH _ _ _ _ _ _ _ (Act.put _ none _) _
     simp only [Act.put]
     refine wpAnyH_done (by kernel_rfl) ?_ _
     have HZ := HD44.out
     try simp only [size_alloc] at HZ
     go_wp2_with fail
     go_meet
     exact ⟨wc.heap.size, b2, A2, n2, c2, wq41.heap.size, qb41, qA41, qn41, qc41, (by first | rfl | simp), (by first | rfl | simp), FVars.pick HZ.1 [0, 2, 3, 4, 5, 6, 7] (by decide) rfl, HZ.2⟩
    case d48 =>
     have hK := hK0.out
     clear hK0
     rw [if_pos (by kernel_rfl)]
     refine wp_go_val (.pointer (some ⟨(((wc.drew).alloc (.cells #[.bool false, .slice none 0 0] 31))).heap.size, 0, none⟩)) (alloc0 _ _ _ (by kernel_rfl)) ?_
     have HD45 := Lib.hid (And.intro ((FVars.told HD40.out.1 (t := ⟨false, 0, false, none, 0, 0, false, none, 0, 0, 0, 0, 0⟩) (zero0 _) rfl).laid2 31 lyK HD40.out.2.size) (HD40.out.2.alloc HD40.out.2.size (.cells #[.bool false, .slice none 0 0] 31)))
     refine hK _ _ ((HD45.out.1.all 5 _ rfl).lies rfl) (fun hH45 => ?_)
     clear hK K hH40
     change wpAnyH _ _ _ _ _ _ _ (Act.put _ (some 8) _) _
     simp only [Act.put, lyA, lyZ, lyS]
     refine wpAnyH_ready (rs := [3]) (by kernel_rfl) (by simp) ?_
     refine AllReadyH.cons rfl (fun K hK0 => ?d52) (AllReadyH.nil)
     have hK := hK0.out
     clear hK0
     rw [if_pos (by kernel_rfl)]
     refine wp_go_call 67 #[(.agg #[.bool b2, .slice A2 n2 c2, .bool bb2, .slice AA2 nn2 cc2])] (fun _ => by kernel_rfl) ((HDD.out.2 _ _ ((HD45.out.1.all 5 _ rfl).at_)).mono ?_)
     rintro e wq46 ⟨qv46, rfl, hq46, hb46⟩
     obtain ⟨qb46, qA46, qn46, qc46, rfl, hq46⟩ := open0 hq46
     have HD46 := Lib.hid (And.intro (FVars.told (HD45.out.1.step hb46 rfl) (t := ⟨false, 0, qb46, qA46, qn46, qc46, false, none, 0, 0, e, 0, 0⟩) hq46 rfl) (below_then HD45.out.2 hb46))
     clear hq46 hb46 HD45
     refine ⟨(.agg #[.bool qb46, .slice qA46 qn46 qc46]), rfl, hK _ _ ((HD46.out.1.all 6 _ rfl).lies rfl) (fun hH46 => ?_)⟩
     clear hK K hH45
     change wpAnyH _ _ _ _ _ _ _ (Act.put _ (some 23) _) _
     simp only [Act.put, lyA, lyZ, lyS]
     refine wpAnyH_ready (rs := [6]) (by kernel_rfl) (by simp) ?_
     refine AllReadyH.cons rfl (fun K hK0 => ?d53) (AllReadyH.nil)
     have hK := hK0.out
     clear hK0
     rw [if_pos (by kernel_rfl)]
     refine wp_go_skip (store0 ((HD46.out.1.all 2 _ rfl).lies rfl) ((HD46.out.1.all 2 _ rfl).frz rfl) b2 A2 n2 c2 (.tmp 7) (.tmp 21) (by kernel_rfl) (by kernel_rfl) (by kernel_rfl)) ?_
     have hu47 := FVars.over2 HD46.out.1 2 (s := ⟨true, (wc.drew).heap.size, false, none, 0, 0, false, none, 0, 0, 0, 0, 0⟩) (t := ⟨false, 0, b2, A2, n2, c2, false, none, 0, 0, y, 0, 0⟩) rfl rfl lyK lyK (rat_lo (HD46.out.1.all 6 _ rfl).at_)
     have hv47 : FVars w.heap.size (put2 (wq46) (wc.drew).heap.size (.bool b2) (.slice A2 n2 c2)) [⟨false, 0, qb46, qA46, qn46, qc46, false, none, 0, 0, e, 0, 0⟩, ⟨true, (((wc.drew).alloc (.cells #[.bool false, .slice none 0 0] 31))).heap.size, false, none, 0, 0, false, none, 0, 0, 0, 0, 0⟩, ⟨true, (wc.drew).heap.size, b2, A2, n2, c2, false, none, 0, 0, y, 0, 0⟩, ⟨true, rd, bd, Ad, nd, cd, false, none, 0, 0, d, 0, 0⟩, ⟨true, rn, bn, An, nn, cn, false, none, 0, 0, x, 0, 0⟩, ⟨true, (w.heap.size + 1 + 1), false, none, 0, 0, false, none, 0, 0, 0, 1, 3⟩, ⟨true, (w.heap.size + 1), b2, A2, n2, c2, bb2, AA2, nn2, cc2, y, e, 3⟩, ⟨true, w.heap.size, b1, A1, n1, c1, bb1, AA1, nn1, cc1, x, d, 3⟩] := hu47
     clear hu47
     have hl47 : Below w.heap.size w (put2 (wq46) (wc.drew).heap.size (.bool b2) (.slice A2 n2 c2)) := (HD46.out.2.setCell (p := ⟨(wc.drew).heap.size, 0, none⟩) (HD46.out.1.up 2 _ rfl rfl) _).setCell (p := ⟨(wc.drew).heap.size, 1, none⟩) (HD46.out.1.up 2 _ rfl rfl) _
     generalize (put2 (wq46) (wc.drew).heap.size (.bool b2) (.slice A2 n2 c2)) = Wn47 at hv47 hl47 ⊢
     have HD47 := Lib.hid (And.intro hv47 hl47)
     clear hv47 hl47
     refine hK _ _ ((HD47.out.1.all 6 _ rfl).lies rfl) (fun hH47 => ?_)
     clear hK K hH46
     change wpAnyH _ _ _ _ _ _ _ (Act.put _ none _) _
     simp only [Act.put]
     refine wpAnyH_ready (rs := [7]) (by kernel_rfl) (by simp) ?_
     refine AllReadyH.cons rfl (fun K hK0 => ?d54) (AllReadyH.nil)
     have hK := hK0.out
     clear hK0
     rw [if_pos (by kernel_rfl)]
     refine wp_go_skip (store0 ((HD47.out.1.all 1 _ rfl).lies rfl) ((HD47.out.1.all 1 _ rfl).frz rfl) qb46 qA46 qn46 qc46 (.tmp 8) (.tmp 23) (by kernel_rfl) (by kernel_rfl) (by kernel_rfl)) ?_
     have hu48 := FVars.over2 HD47.out.1 1 (s := ⟨true, (((wc.drew).alloc (.cells #[.bool false, .slice none 0 0] 31))).heap.size, false, none, 0, 0, false, none, 0, 0, 0, 0, 0⟩) (t := ⟨false, 0, qb46, qA46, qn46, qc46, false, none, 0, 0, e, 0, 0⟩) rfl rfl lyK lyK ((HD47.out.1.all 0 _ rfl).at_)
     have hv48 : FVars w.heap.size (put2 (Wn47) (((wc.drew).alloc (.cells #[.bool false, .slice none 0 0] 31))).heap.size (.bool qb46) (.slice qA46 qn46 qc46)) [⟨false, 0, qb46, qA46, qn46, qc46, false, none, 0, 0, e, 0, 0⟩, ⟨true, (((wc.drew).alloc (.cells #[.bool false, .slice none 0 0] 31))).heap.size, qb46, qA46, qn46, qc46, false, none, 0, 0, e, 0, 0⟩, ⟨true, (wc.drew).heap.size, b2, A2, n2, c2, false, none, 0, 0, y, 0, 0⟩, ⟨true, rd, bd, Ad, nd, cd, false, none, 0, 0, d, 0, 0⟩, ⟨true, rn, bn, An, nn, cn, false, none, 0, 0, x, 0, 0⟩, ⟨true, (w.heap.size + 1 + 1), false, none, 0, 0, false, none, 0, 0, 0, 1, 3⟩, ⟨true, (w.heap.size + 1), b2, A2, n2, c2, bb2, AA2, nn2, cc2, y, e, 3⟩, ⟨true, w.heap.size, b1, A1, n1, c1, bb1, AA1, nn1, cc1, x, d, 3⟩] := hu48
     clear hu48
     have hl48 : Below w.heap.size w (put2 (Wn47) (((wc.drew).alloc (.cells #[.bool false, .slice none 0 0] 31))).heap.size (.bool qb46) (.slice qA46 qn46 qc46)) := (HD47.out.2.setCell (p := ⟨(((wc.drew).alloc (.cells #[.bool false, .slice none 0 0] 31))).heap.size, 0, none⟩) (HD47.out.1.up 1 _ rfl rfl) _).setCell (p := ⟨(((wc.drew).alloc (.cells #[.bool false, .slice none 0 0] 31))).heap.size, 1, none⟩) (HD47.out.1.up 1 _ rfl rfl) _
     generalize (put2 (Wn47) (((wc.drew).alloc (.cells #[.bool false, .slice none 0 0] 31))).heap.size (.bool qb46) (.slice qA46 qn46 qc46)) = Wn48 at hv48 hl48 ⊢
     have HD48 := Lib.hid (And.intro hv48 hl48)
     clear hv48 hl48
     refine hK _ _ ((HD48.out.1.all 6 _ rfl).lies rfl) (fun hH48 => ?_)
     clear hK K hH47
     change wpAnyH _ _ _ _ _ _ _ (Act.put _ none _) _
     simp only [Act.put]
     refine wpAnyH_done (by kernel_rfl) ?_ _
     have HZ := HD48.out
     try simp only [size_alloc] at HZ
     go_wp2_with fail
     go_meet
     exact ⟨wc.heap.size, b2, A2, n2, c2, (wc.heap.size + 1), qb46, qA46, qn46, qc46, (by first | rfl | simp), (by first | rfl | simp), FVars.pick HZ.1 [1, 2, 3, 4, 5, 6, 7] (by decide) rfl, HZ.2⟩
   case d38 =>
    have hK := hK0.out
    clear hK0
    rw [if_pos (by kernel_rfl)]
    refine wp_go_val (.pointer (some ⟨(wc.drew).heap.size, 0, none⟩)) (alloc0 _ _ _ (by kernel_rfl)) ?_
    have HD49 := Lib.hid (And.intro ((FVars.told HD30.out.1 (t := ⟨false, 0, false, none, 0, 0, false, none, 0, 0, 0, 0, 0⟩) (zero0 _) rfl).laid2 31 lyK HD30.out.2.size) (HD30.out.2.alloc HD30.out.2.size (.cells #[.bool false, .slice none 0 0] 31)))
    refine hK _ _ ((HD49.out.1.all 4 _ rfl).lies rfl) (fun hH49 => ?_)
    clear hK K hH0
    change wpAnyH _ _ _ _ _ _ _ (Act.put _ (some 8) _) _
    simp only [Act.put, lyA, lyZ, lyS]
    refine wpAnyH_ready (rs := [3, 4]) (by kernel_rfl) (by simp) ?_
    refine AllReadyH.cons rfl (fun K hK0 => ?d55) (AllReadyH.cons rfl (fun K hK0 => ?d56) (AllReadyH.nil))
    case d55 =>
     have hK := hK0.out
     clear hK0
     rw [if_pos (by kernel_rfl)]
     refine wp_go_call 67 #[(.agg #[.bool b2, .slice A2 n2 c2, .bool bb2, .slice AA2 nn2 cc2])] (fun _ => by kernel_rfl) ((HDD.out.2 _ _ ((HD49.out.1.all 4 _ rfl).at_)).mono ?_)
     rintro e wq50 ⟨qv50, rfl, hq50, hb50⟩
     obtain ⟨qb50, qA50, qn50, qc50, rfl, hq50⟩ := open0 hq50
     have HD50 := Lib.hid (And.intro (FVars.told (HD49.out.1.step hb50 rfl) (t := ⟨false, 0, qb50, qA50, qn50, qc50, false, none, 0, 0, e, 0, 0⟩) hq50 rfl) (below_then HD49.out.2 hb50))
     clear hq50 hb50 HD49
     refine ⟨(.agg #[.bool qb50, .slice qA50 qn50 qc50]), rfl, hK _ _ ((HD50.out.1.all 5 _ rfl).lies rfl) (fun hH50 => ?_)⟩
     clear hK K hH49
     change wpAnyH _ _ _ _ _ _ _ (Act.put _ (some 23) _) _
     simp only [Act.put, lyA, lyZ, lyS]
     refine wpAnyH_ready (rs := [4]) (by kernel_rfl) (by simp) ?_
     refine AllReadyH.cons rfl (fun K hK0 => ?d57) (AllReadyH.nil)
     have hK := hK0.out
     clear hK0
     rw [if_pos (by kernel_rfl)]
     refine wp_go_val (.pointer (some ⟨(wq50).heap.size, 0, none⟩)) (alloc0 _ _ _ (by kernel_rfl)) ?_
     have HD51 := Lib.hid (And.intro ((FVars.told HD50.out.1 (t := ⟨false, 0, false, none, 0, 0, false, none, 0, 0, 0, 0, 0⟩) (zero0 _) rfl).laid2 31 lyK HD50.out.2.size) (HD50.out.2.alloc HD50.out.2.size (.cells #[.bool false, .slice none 0 0] 31)))
     refine hK _ _ ((HD51.out.1.all 6 _ rfl).lies rfl) (fun hH51 => ?_)
     clear hK K hH50
     change wpAnyH _ _ _ _ _ _ _ (Act.put _ (some 7) _) _
     simp only [Act.put, lyA, lyZ, lyS]
     refine wpAnyH_ready (rs := [6]) (by kernel_rfl) (by simp) ?_
     refine AllReadyH.cons rfl (fun K hK0 => ?d58) (AllReadyH.nil)
     have hK := hK0.out
     clear hK0
     rw [if_pos (by kernel_rfl)]
     refine wp_go_skip (store0 ((HD51.out.1.all 0 _ rfl).lies rfl) ((HD51.out.1.all 0 _ rfl).frz rfl) b2 A2 n2 c2 (.tmp 7) (.tmp 21) (by kernel_rfl) (by kernel_rfl) (by kernel_rfl)) ?_
     have hu52 := FVars.over2 HD51.out.1 0 (s := ⟨true, (wq50).heap.size, false, none, 0, 0, false, none, 0, 0, 0, 0, 0⟩) (t := ⟨false, 0, b2, A2, n2, c2, false, none, 0, 0, y, 0, 0⟩) rfl rfl lyK lyK (rat_lo (HD51.out.1.all 6 _ rfl).at_)
     have hv52 : FVars w.heap.size (put2 (((wq50).alloc (.cells #[.bool false, .slice none 0 0] 31))) (wq50).heap.size (.bool b2) (.slice A2 n2 c2)) [⟨true, (wq50).heap.size, b2, A2, n2, c2, false, none, 0, 0, y, 0, 0⟩, ⟨false, 0, qb50, qA50, qn50, qc50, false, none, 0, 0, e, 0, 0⟩, ⟨true, (wc.drew).heap.size, false, none, 0, 0, false, none, 0, 0, 0, 0, 0⟩, ⟨true, rd, bd, Ad, nd, cd, false, none, 0, 0, d, 0, 0⟩, ⟨true, rn, bn, An, nn, cn, false, none, 0, 0, x, 0, 0⟩, ⟨true, (w.heap.size + 1 + 1), false, none, 0, 0, false, none, 0, 0, 0, 1, 3⟩, ⟨true, (w.heap.size + 1), b2, A2, n2, c2, bb2, AA2, nn2, cc2, y, e, 3⟩, ⟨true, w.heap.size, b1, A1, n1, c1, bb1, AA1, nn1, cc1, x, d, 3⟩] := hu52
     clear hu52
     have hl52 : Below w.heap.size w (put2 (((wq50).alloc (.cells #[.bool false, .slice none 0 0] 31))) (wq50).heap.size (.bool b2) (.slice A2 n2 c2)) := (HD51.out.2.setCell (p := ⟨(wq50).heap.size, 0, none⟩) (HD51.out.1.up 0 _ rfl rfl) _).setCell (p := ⟨(wq50).heap.size, 1, none⟩) (HD51.out.1.up 0 _ rfl rfl) _
     generalize (put2 (((wq50).alloc (.cells #[.bool false, .slice none 0 0] 31))) (wq50).heap.size (.bool b2) (.slice A2 n2 c2)) = Wn52 at hv52 hl52 ⊢
     have HD52 := Lib.hid (And.intro hv52 hl52)
     clear hv52 hl52
     refine hK _ _ ((HD52.out.1.all 6 _ rfl).lies rfl) (fun hH52 => ?_)
     clear hK K hH51
     change wpAnyH _ _ _ _ _ _ _ (Act.put _ none _) _
     simp only [Act.put]
     refine wpAnyH_ready (rs := [7]) (by kernel_rfl) (by simp) ?_
     refine AllReadyH.cons rfl (fun K hK0 => ?d59) (AllReadyH.nil)
     have hK := hK0.out
     clear hK0
     rw [if_pos (by kernel_rfl)]
     refine wp_go_skip (store0 ((HD52.out.1.all 2 _ rfl).lies rfl) ((HD52.out.1.all 2 _ rfl).frz rfl) qb50 qA50 qn50 qc50 (.tmp 8) (.tmp 23) (by kernel_rfl) (by kernel_rfl) (by kernel_rfl)) ?_
     have hu53 := FVars.over2 HD52.out.1 2 (s := ⟨true, (wc.drew).heap.size, false, none, 0, 0, false, none, 0, 0, 0, 0, 0⟩) (t := ⟨false, 0, qb50, qA50, qn50, qc50, false, none, 0, 0, e, 0, 0⟩) rfl rfl lyK lyK ((HD52.out.1.all 1 _ rfl).at_)
     have hv53 : FVars w.heap.size (put2 (Wn52) (wc.drew).heap.size (.bool qb50) (.slice qA50 qn50 qc50)) [⟨true, (wq50).heap.size, b2, A2, n2, c2, false, none, 0, 0, y, 0, 0⟩, ⟨false, 0, qb50, qA50, qn50, qc50, false, none, 0, 0, e, 0, 0⟩, ⟨true, (wc.drew).heap.size, qb50, qA50, qn50, qc50, false, none, 0, 0, e, 0, 0⟩, ⟨true, rd, bd, Ad, nd, cd, false, none, 0, 0, d, 0, 0⟩, ⟨true, rn, bn, An, nn, cn, false, none, 0, 0, x, 0, 0⟩, ⟨true, (w.heap.size + 1 + 1), false, none, 0, 0, false, none, 0, 0, 0, 1, 3⟩, ⟨true, (w.heap.size + 1), b2, A2, n2, c2, bb2, AA2, nn2, cc2, y, e, 3⟩, ⟨true, w.heap.size, b1, A1, n1, c1, bb1, AA1, nn1, cc1, x, d, 3⟩] := hu53
     clear hu53
     have hl53 : Below w.heap.size w (put2 (Wn52) (wc.drew).heap.size (.bool qb50) (.slice qA50 qn50 qc50)) := (HD52.out.2.setCell (p := ⟨(wc.drew).heap.size, 0, none⟩) (HD52.out.1.up 2 _ rfl rfl) _).setCell (p := ⟨(wc.drew).heap.size, 1, none⟩) (HD52.out.1.up 2 _ rfl rfl) _
     generalize (put2 (Wn52) (wc.drew).heap.size (.bool qb50) (.slice qA50 qn50 qc50)) = Wn53 at hv53 hl53 ⊢
     have HD53 := Lib.hid (And.intro hv53 hl53)
     clear hv53 hl53
     refine hK _ _ ((HD53.out.1.all 6 _ rfl).lies rfl) (fun hH53 => ?_)
     clear hK K hH52
     change wpAnyH _ _ _ _ _ _ _ (Act.put _ none _) _
     simp only [Act.put]
     refine wpAnyH_done (by kernel_rfl) ?_ _
     have HZ := HD53.out
     try simp only [size_alloc] at HZ
     go_wp2_with fail
     go_meet
     exact ⟨wq50.heap.size, b2, A2, n2, c2, wc.heap.size, qb50, qA50, qn50, qc50, (by first | rfl | simp), (by first | rfl | simp), FVars.pick HZ.1 [2, 0, 3, 4, 5, 6, 7] (by decide) rfl, HZ.2⟩
    case d56 =>
     have hK := hK0.out
     clear hK0
     rw [if_pos (by kernel_rfl)]
     refine wp_go_val (.pointer (some ⟨(((wc.drew).alloc (.cells #[.bool false, .slice none 0 0] 31))).heap.size, 0, none⟩)) (alloc0 _ _ _ (by kernel_rfl)) ?_
     have HD54 := Lib.hid (And.intro ((FVars.told HD49.out.1 (t := ⟨false, 0, false, none, 0, 0, false, none, 0, 0, 0, 0, 0⟩) (zero0 _) rfl).laid2 31 lyK HD49.out.2.size) (HD49.out.2.alloc HD49.out.2.size (.cells #[.bool false, .slice none 0 0] 31)))
     refine hK _ _ ((HD54.out.1.all 5 _ rfl).lies rfl) (fun hH54 => ?_)
     clear hK K hH49
     change wpAnyH _ _ _ _ _ _ _ (Act.put _ (some 7) _) _
     simp only [Act.put, lyA, lyZ, lyS]
     refine wpAnyH_ready (rs := [3]) (by kernel_rfl) (by simp) ?_
     refine AllReadyH.cons rfl (fun K hK0 => ?d60) (AllReadyH.nil)
     have hK := hK0.out
     clear hK0
     rw [if_pos (by kernel_rfl)]
     refine wp_go_call 67 #[(.agg #[.bool b2, .slice A2 n2 c2, .bool bb2, .slice AA2 nn2 cc2])] (fun _ => by kernel_rfl) ((HDD.out.2 _ _ ((HD54.out.1.all 5 _ rfl).at_)).mono ?_)
     rintro e wq55 ⟨qv55, rfl, hq55, hb55⟩
     obtain ⟨qb55, qA55, qn55, qc55, rfl, hq55⟩ := open0 hq55
     have HD55 := Lib.hid (And.intro (FVars.told (HD54.out.1.step hb55 rfl) (t := ⟨false, 0, qb55, qA55, qn55, qc55, false, none, 0, 0, e, 0, 0⟩) hq55 rfl) (below_then HD54.out.2 hb55))
     clear hq55 hb55 HD54
     refine ⟨(.agg #[.bool qb55, .slice qA55 qn55 qc55]), rfl, hK _ _ ((HD55.out.1.all 6 _ rfl).lies rfl) (fun hH55 => ?_)⟩
     clear hK K hH54
     change wpAnyH _ _ _ _ _ _ _ (Act.put _ (some 23) _) _
     simp only [Act.put, lyA, lyZ, lyS]
     refine wpAnyH_ready (rs := [6]) (by kernel_rfl) (by simp) ?_
     refine AllReadyH.cons rfl (fun K hK0 => ?d61) (AllReadyH.nil)
     have hK := hK0.out
     clear hK0
     rw [if_pos (by kernel_rfl)]
     refine wp_go_skip (store0 ((HD55.out.1.all 1 _ rfl).lies rfl) ((HD55.out.1.all 1 _ rfl).frz rfl) b2 A2 n2 c2 (.tmp 7) (.tmp 21) (by kernel_rfl) (by kernel_rfl) (by kernel_rfl)) ?_
     have hu56 := FVars.over2 HD55.out.1 1 (s := ⟨true, (((wc.drew).alloc (.cells #[.bool false, .slice none 0 0] 31))).heap.size, false, none, 0, 0, false, none, 0, 0, 0, 0, 0⟩) (t := ⟨false, 0, b2, A2, n2, c2, false, none, 0, 0, y, 0, 0⟩) rfl rfl lyK lyK (rat_lo (HD55.out.1.all 6 _ rfl).at_)
     have hv56 : FVars w.heap.size (put2 (wq55) (((wc.drew).alloc (.cells #[.bool false, .slice none 0 0] 31))).heap.size (.bool b2) (.slice A2 n2 c2)) [⟨false, 0, qb55, qA55, qn55, qc55, false, none, 0, 0, e, 0, 0⟩, ⟨true, (((wc.drew).alloc (.cells #[.bool false, .slice none 0 0] 31))).heap.size, b2, A2, n2, c2, false, none, 0, 0, y, 0, 0⟩, ⟨true, (wc.drew).heap.size, false, none, 0, 0, false, none, 0, 0, 0, 0, 0⟩, ⟨true, rd, bd, Ad, nd, cd, false, none, 0, 0, d, 0, 0⟩, ⟨true, rn, bn, An, nn, cn, false, none, 0, 0, x, 0, 0⟩, ⟨true, (w.heap.size + 1 + 1), false, none, 0, 0, false, none, 0, 0, 0, 1, 3⟩, ⟨true, (w.heap.size + 1), b2, A2, n2, c2, bb2, AA2, nn2, cc2, y, e, 3⟩, ⟨true, w.heap.size, b1, A1, n1, c1, bb1, AA1, nn1, cc1, x, d, 3⟩] := hu56
     clear hu56
     have hl56 : Below w.heap.size w (put2 (wq55) (((wc.drew).alloc (.cells #[.bool false, .slice none 0 0] 31))).heap.size (.bool b2) (.slice A2 n2 c2)) := (HD55.out.2.setCell (p := ⟨(((wc.drew).alloc (.cells #[.bool false, .slice none 0 0] 31))).heap.size, 0, none⟩) (HD55.out.1.up 1 _ rfl rfl) _).setCell (p := ⟨(((wc.drew).alloc (.cells #[.bool false, .slice none 0 0] 31))).heap.size, 1, none⟩) (HD55.out.1.up 1 _ rfl rfl) _
     generalize (put2 (wq55) (((wc.drew).alloc (.cells #[.bool false, .slice none 0 0] 31))).heap.size (.bool b2) (.slice A2 n2 c2)) = Wn56 at hv56 hl56 ⊢
     have HD56 := Lib.hid (And.intro hv56 hl56)
     clear hv56 hl56
     refine hK _ _ ((HD56.out.1.all 6 _ rfl).lies rfl) (fun hH56 => ?_)
     clear hK K hH55
     change wpAnyH _ _ _ _ _ _ _ (Act.put _ none _) _
     simp only [Act.put]
     refine wpAnyH_ready (rs := [7]) (by kernel_rfl) (by simp) ?_
     refine AllReadyH.cons rfl (fun K hK0 => ?d62) (AllReadyH.nil)
     have hK := hK0.out
     clear hK0
     rw [if_pos (by kernel_rfl)]
     refine wp_go_skip (store0 ((HD56.out.1.all 2 _ rfl).lies rfl) ((HD56.out.1.all 2 _ rfl).frz rfl) qb55 qA55 qn55 qc55 (.tmp 8) (.tmp 23) (by kernel_rfl) (by kernel_rfl) (by kernel_rfl)) ?_
     have hu57 := FVars.over2 HD56.out.1 2 (s := ⟨true, (wc.drew).heap.size, false, none, 0, 0, false, none, 0, 0, 0, 0, 0⟩) (t := ⟨false, 0, qb55, qA55, qn55, qc55, false, none, 0, 0, e, 0, 0⟩) rfl rfl lyK lyK ((HD56.out.1.all 0 _ rfl).at_)
     have hv57 : FVars w.heap.size (put2 (Wn56) (wc.drew).heap.size (.bool qb55) (.slice qA55 qn55 qc55)) [⟨false, 0, qb55, qA55, qn55, qc55, false, none, 0, 0, e, 0, 0⟩, ⟨true, (((wc.drew).alloc (.cells #[.bool false, .slice none 0 0] 31))).heap.size, b2, A2, n2, c2, false, none, 0, 0, y, 0, 0⟩, ⟨true, (wc.drew).heap.size, qb55, qA55, qn55, qc55, false, none, 0, 0, e, 0, 0⟩, ⟨true, rd, bd, Ad, nd, cd, false, none, 0, 0, d, 0, 0⟩, ⟨true, rn, bn, An, nn, cn, false, none, 0, 0, x, 0, 0⟩, ⟨true, (w.heap.size + 1 + 1), false, none, 0, 0, false, none, 0, 0, 0, 1, 3⟩, ⟨true, (w.heap.size + 1), b2, A2, n2, c2, bb2, AA2, nn2, cc2, y, e, 3⟩, ⟨true, w.heap.size, b1, A1, n1, c1, bb1, AA1, nn1, cc1, x, d, 3⟩] := hu57
     clear hu57
     have hl57 : Below w.heap.size w (put2 (Wn56) (wc.drew).heap.size (.bool qb55) (.slice qA55 qn55 qc55)) := (HD56.out.2.setCell (p := ⟨(wc.drew).heap.size, 0, none⟩) (HD56.out.1.up 2 _ rfl rfl) _).setCell (p := ⟨(wc.drew).heap.size, 1, none⟩) (HD56.out.1.up 2 _ rfl rfl) _
     generalize (put2 (Wn56) (wc.drew).heap.size (.bool qb55) (.slice qA55 qn55 qc55)) = Wn57 at hv57 hl57 ⊢
     have HD57 := Lib.hid (And.intro hv57 hl57)
     clear hv57 hl57
     refine hK _ _ ((HD57.out.1.all 6 _ rfl).lies rfl) (fun hH57 => ?_)
     clear hK K hH56
     change wpAnyH _ _ _ _ _ _ _ (Act.put _ none _) _
     simp only [Act.put]
     refine wpAnyH_done (by kernel_rfl) ?_ _
     have HZ := HD57.out
     try simp only [size_alloc] at HZ
     go_wp2_with fail
     go_meet
     exact ⟨(wc.heap.size + 1), b2, A2, n2, c2, wc.heap.size, qb55, qA55, qn55, qc55, (by first | rfl | simp), (by first | rfl | simp), FVars.pick HZ.1 [2, 1, 3, 4, 5, 6, 7] (by decide) rfl, HZ.2⟩
  case rest =>
  obtain ⟨rm, bm, Am, nm, cm, rc, bc, Ac, nc, cc, rfl, rfl, hv, hb⟩ := hcut
  have HV58 := Lib.hid (And.intro hv hb)
  clear hv hb HV29
  go_upto_region 3 with fail
  go_wp2
  go_loopw [9] (fun sv wr => ∃ (ov : Value) (t : Nat) (xs : List Value) (bc : Bool) (Ac : Option Addr) (nc cc : Nat) (bm : Bool) (Am : Option Addr) (nm cm : Nat) (bd : Bool) (Ad : Option Addr) (nd cd : Nat) (bn : Bool) (An : Option Addr) (nn cn : Nat), ov = sv ∧ t ≤ T ∧ OwnC wr w.heap.size 31 2 ov t xs ∧ Ints wr xs (L t) ∧ Away ov [⟨true, rc, bc, Ac, nc, cc, false, none, 0, 0, (C t), 0, 0⟩, ⟨true, rm, bm, Am, nm, cm, false, none, 0, 0, (M t), 0, 0⟩, ⟨true, rd, bd, Ad, nd, cd, false, none, 0, 0, (E t), 0, 0⟩, ⟨true, rn, bn, An, nn, cn, false, none, 0, 0, (N t), 0, 0⟩, ⟨true, (w.heap.size + 1 + 1), false, none, 0, 0, false, none, 0, 0, 0, 1, 3⟩, ⟨true, (w.heap.size + 1), b2, A2, n2, c2, bb2, AA2, nn2, cc2, y, e, 3⟩, ⟨true, w.heap.size, b1, A1, n1, c1, bb1, AA1, nn1, cc1, x, d, 3⟩] ∧ FVars w.heap.size wr [⟨true, rc, bc, Ac, nc, cc, false, none, 0, 0, (C t), 0, 0⟩, ⟨true, rm, bm, Am, nm, cm, false, none, 0, 0, (M t), 0, 0⟩, ⟨true, rd, bd, Ad, nd, cd, false, none, 0, 0, (E t), 0, 0⟩, ⟨true, rn, bn, An, nn, cn, false, none, 0, 0, (N t), 0, 0⟩, ⟨true, (w.heap.size + 1 + 1), false, none, 0, 0, false, none, 0, 0, 0, 1, 3⟩, ⟨true, (w.heap.size + 1), b2, A2, n2, c2, bb2, AA2, nn2, cc2, y, e, 3⟩, ⟨true, w.heap.size, b1, A1, n1, c1, bb1, AA1, nn1, cc1, x, d, 3⟩] ∧ Below w.heap.size w wr) (fun ov _ => T - slen ov)
  case atStart => exact ⟨_, 0, [], bc, Ac, nc, cc, bm, Am, nm, cm, bd, Ad, nd, cd, bn, An, nn, cn, rfl, Nat.zero_le _, OwnC.nil _ _ _ _, (by rw [HTR.out.l0]; exact Ints.nil _), Away.nil _, (by rw [HTR.out.n0, HTR.out.e0, HTR.out.m0, HTR.out.c0]; exact HV58.out.1), HV58.out.2⟩
  case round =>
   obtain ⟨ov, t, xs, bc, Ac, nc, cc, bm, Am, nm, cm, bd, Ad, nd, cd, bn, An, nn, cn, rfl, ht, ho, hi, ha, hv, hb⟩ := hrel
   clear HV58
   have hm0 := HTR.out.hm0
   have hm := HTR.out.hm
   have fN := HTR.out.fN t ht
   have fE := HTR.out.fE t ht
   have fM := HTR.out.fM t ht
   have fC := HTR.out.fC t ht
   have pE := HTR.out.pE t ht
   have pC := HTR.out.pC t ht
   have hlen := HTR.out.len t ht
   have hgo := HTR.out.go t
   have hT := HTR.out.hT
   have hsl := ho.slen
   have HLT := Lib.hid (show t = T → Last (N t) (E t) (M t) (C t) z from fun q => by rw [q]; exact HLA.out)
   obtain ⟨n0, hn0⟩ : ∃ q, N t = q := ⟨_, rfl⟩
   obtain ⟨e0, he0⟩ : ∃ q, E t = q := ⟨_, rfl⟩
   obtain ⟨y0, hy0⟩ : ∃ q, M t = q := ⟨_, rfl⟩
   obtain ⟨k0, hk0⟩ : ∃ q, C t = q := ⟨_, rfl⟩
   rw [hn0] at fN hv ha hgo HLT
   rw [he0] at fE pE hv ha hgo HLT
   rw [hy0] at fM hv ha hgo HLT
   rw [hk0] at fC pC hv ha hgo HLT
   obtain ⟨q1, hq1⟩ : ∃ q, n0 / e0 = q := ⟨_, rfl⟩
   obtain ⟨r1, hr1⟩ : ∃ q, n0 % e0 = q := ⟨_, rfl⟩
   obtain ⟨q2, hq2⟩ : ∃ q, y0 / k0 = q := ⟨_, rfl⟩
   obtain ⟨r2, hr2⟩ : ∃ q, y0 % k0 = q := ⟨_, rfl⟩
   obtain ⟨q3, hq3⟩ : ∃ q, q1 + 1 = q := ⟨_, rfl⟩
   have fq1 : q1.natAbs < B32 ^ m := by rw [← hq1]; exact fit_ediv fN
   have fq2 : q2.natAbs < B32 ^ m := by rw [← hq2]; exact fit_ediv fM
   have fr1 : r1.natAbs < B32 ^ m := by rw [← hr1]; exact fit_emod fE pE
   have pr1 : 0 ≤ r1 := by rw [← hr1]; exact Int.emod_nonneg _ (Int.ne_of_gt pE)
   have HA := Lib.hid (And.intro (show ∀ v1 v2 w, IntAt w v1 n0 → IntAt w v2 e0 → Calls Tryz.prog 133 #[v1, v2] w fun e w' => IsTwoI w w' q1 r1 e from fun v1 v2 w k1 k2 => by rw [← hq1, ← hr1]; exact floor_any v1 v2 n0 e0 m w k1 k2 hm0 (by omega) fN fE pE)
     (show ∀ v1 v2 w, IntAt w v1 y0 → IntAt w v2 k0 → Calls Tryz.prog 133 #[v1, v2] w fun e w' => IsTwoI w w' q2 r2 e from fun v1 v2 w k1 k2 => by rw [← hq2, ← hr2]; exact floor_any v1 v2 y0 k0 m w k1 k2 hm0 (by omega) fM fC pC))
   have HS := Lib.hid (And.intro (show ∀ v w, IntAt w v r1 → Calls Tryz.prog 64 #[v] w fun e w' => IsNum w w' r1.sign e from fun v w k => Sign_any v r1 m w k (by omega) fr1)
     (And.intro (show ∀ v1 v2 w, IntAt w v1 q1 → IntAt w v2 q2 → Calls Tryz.prog 63 #[v1, v2] w fun e w' => IsNum w w' (cmpZ q1 q2) e from fun v1 v2 w k1 k2 => Cmp_any v1 v2 q1 q2 m w k1 k2 (by omega) fq1 fq2)
       (And.intro (show ∀ v1 v2 w, IntAt w v1 q1 → IntAt w v2 1 → Calls Tryz.prog 97 #[v1, v2] w fun e w' => IsInt w w' q3 e from fun v1 v2 w k1 k2 => by rw [← hq3]; exact Add_any v1 v2 q1 1 m w k1 k2 (by omega) fq1 (fit_one hm0))
         (show ∀ v w, IntAt w v 0 → Calls Tryz.prog 64 #[v] w fun e w' => IsNum w w' 0 e from fun v w k => Sign_any v 0 m w k (by omega) (Nat.pow_pos B32_pos)))))
   rw [hq1, hr1, hq2, hr2] at hgo
   have HGO := Lib.hid (And.intro hgo (And.intro hn0 (And.intro he0 (And.intro hy0 hk0))))
   have HQ := Lib.hid (And.intro hq1 (And.intro hr1 (And.intro hq2 hr2)))
   have HO := Lib.hid (And.intro ho hi)
   have HAW := Lib.hid ha
   have HBW := Lib.hid hb
   have HSL := Lib.hid (And.intro hsl (And.intro hlen (And.intro ht hT)))
   have hWr : w.heap.size ≤ wr.heap.size := hb.size
   have HC0 := Lib.hid (And.intro hv (Below.refl wr.heap.size wr))
   have HPR := Lib.hid (And.intro pr1 hgo)
   have HQ3 := Lib.hid hq3
   clear hn0 he0 hy0 hk0 hq1 hr1 hq2 hr2 hq3 fq1 fq2 fr1 hgo ho hi ha hv hb hsl hlen ht hT hm0 hm fN fE fM fC pE pC
   rcases (show (r1 ≠ 0 ∧ ¬ q1 < q2 ∧ t < T) ∨ (r1 = 0 ∧ z = q1 ∧ t = T) ∨ (r1 ≠ 0 ∧ q1 < q2 ∧ z = q1 + 1 ∧ t = T) from by
     have hle := HSL.out.2.2.1
     by_cases q : t < T
     · exact .inl ⟨(HPR.out.2 q).1, (HPR.out.2 q).2.1, q⟩
     · have ht : t = T := by omega
       have la := HLT.out ht
       unfold Last at la
       rw [HQ.out.1, HQ.out.2.1, HQ.out.2.2.1] at la
       rcases la with ⟨l1, l2⟩ | ⟨l1, l2, l3⟩
       · exact .inr (.inl ⟨l1, l2, ht⟩)
       · exact .inr (.inr ⟨l1, l2, l3, ht⟩)) with ⟨g1, g2, g3⟩ | ⟨g1, g2, g3⟩ | ⟨g1, g2, g3, g4⟩
   ·
     have hs1 : r1.sign = 1 := Int.sign_eq_one_of_pos (by have := HPR.out.1; omega)
     have hc2 := cmp_nonneg g2
     obtain ⟨cz, hcc⟩ : ∃ q, cmpZ q1 q2 = q := ⟨_, rfl⟩
     rw [hcc] at hc2
     have hc3 : ¬ cz < 0 := by omega
     have HS1 := Lib.hid (And.intro (show ∀ v w, IntAt w v r1 → Calls Tryz.prog 64 #[v] w fun e w' => IsNum w w' 1 e from hs1 ▸ HS.out.1) (show ∀ v1 v2 w, IntAt w v1 q1 → IntAt w v2 q2 → Calls Tryz.prog 63 #[v1, v2] w fun e w' => IsNum w w' cz e from hcc ▸ HS.out.2.1))
     have HG := Lib.hid (And.intro g1 (And.intro g2 g3))
     clear g1 g2 g3 hs1 hcc hc2
     obtain ⟨pn0, pn1⟩ : Two wr rn (.bool bn) (.slice An nn cn) := (HC0.out.1.all 3 _ rfl).lies rfl
     obtain ⟨pd0, pd1⟩ : Two wr rd (.bool bd) (.slice Ad nd cd) := (HC0.out.1.all 2 _ rfl).lies rfl
     go_wp2_with fail
     refine (HA.out.1 _ _ _ ((HC0.out.1.all 3 _ rfl).at_) ((HC0.out.1.all 2 _ rfl).at_)).mono ?_
     rintro e wq59 ⟨qv59, rv59, rfl, hq59, hr59, hb59⟩
     obtain ⟨qb59, qA59, qn59, qc59, rfl, hq59⟩ := open0 hq59
     obtain ⟨rb59, rA59, rn59, rc59, rfl, hr59⟩ := open0 hr59
     have hv59 := (((FVars.told (FVars.told (FVars.step HC0.out.1 hb59 rfl) (t := ⟨false, 0, rb59, rA59, rn59, rc59, false, none, 0, 0, r1, 0, 0⟩) hr59 rfl) (t := ⟨false, 0, qb59, qA59, qn59, qc59, false, none, 0, 0, q1, 0, 0⟩) hq59 rfl).laid2 31 lyK (Nat.le_trans hWr (Nat.le_trans HC0.out.2.size hb59.size))).swap).laid2 31 lyK (Nat.le_trans hWr (Nat.le_trans (Nat.le_trans HC0.out.2.size hb59.size) (by simp)))
     rw [size_alloc] at hv59
     have hl59 : Below wr.heap.size wr ((wq59.alloc (.cells #[.bool qb59, .slice qA59 qn59 qc59] 31)).alloc (.cells #[.bool rb59, .slice rA59 rn59 rc59] 31)) := (((below_then HC0.out.2 hb59).alloc (Nat.le_trans HC0.out.2.size hb59.size) (.cells #[.bool qb59, .slice qA59 qn59 qc59] 31)).alloc (Nat.le_trans (Nat.le_trans HC0.out.2.size hb59.size) (by simp)) (.cells #[.bool rb59, .slice rA59 rn59 rc59] 31))
     obtain ⟨Wq59, hW59⟩ : ∃ W : World, W = (wq59.alloc (.cells #[.bool qb59, .slice qA59 qn59 qc59] 31)).alloc (.cells #[.bool rb59, .slice rA59 rn59 rc59] 31) := ⟨_, rfl⟩
     obtain ⟨rrq59, hsq59⟩ : ∃ r : Nat, r = wq59.heap.size := ⟨_, rfl⟩
     obtain ⟨rrr59, hsr59⟩ : ∃ r : Nat, r = wq59.heap.size + 1 := ⟨_, rfl⟩
     rw [← hW59] at hv59 hl59
     rw [← hsr59] at hv59
     rw [← hsq59] at hv59
     have HC59 := Lib.hid (And.intro hv59 hl59)
     have HW59 := Lib.hid hW59
     have HRq59 := Lib.hid hsq59
     have HRr59 := Lib.hid hsr59
     have GEq59 := Lib.hid (show wr.heap.size ≤ rrq59 from by rw [hsq59]; exact Nat.le_trans HC0.out.2.size hb59.size)
     have GEr59 := Lib.hid (show wr.heap.size ≤ rrr59 from by rw [hsr59]; exact Nat.le_succ_of_le (Nat.le_trans HC0.out.2.size hb59.size))
     clear pn0 pn1 pd0 pd1
     clear hv59 hl59 hW59 hb59 hsq59 hq59 hsr59 hr59 HC0
     go_upto_region 5 with fail
     rw [← HW59.out]
     rw [← HRr59.out]
     rw [← HRq59.out]
     clear HW59 HRq59 HRr59
     obtain ⟨pm0, pm1⟩ : Two Wq59 rm (.bool bm) (.slice Am nm cm) := (HC59.out.1.all 3 _ rfl).lies rfl
     obtain ⟨pc0, pc1⟩ : Two Wq59 rc (.bool bc) (.slice Ac nc cc) := (HC59.out.1.all 2 _ rfl).lies rfl
     go_wp2_with fail
     refine (HA.out.2 _ _ _ ((HC59.out.1.all 3 _ rfl).at_) ((HC59.out.1.all 2 _ rfl).at_)).mono ?_
     rintro e wq60 ⟨qv60, rv60, rfl, hq60, hr60, hb60⟩
     obtain ⟨qb60, qA60, qn60, qc60, rfl, hq60⟩ := open0 hq60
     obtain ⟨rb60, rA60, rn60, rc60, rfl, hr60⟩ := open0 hr60
     have hv60 := (((FVars.told (FVars.told (FVars.step HC59.out.1 hb60 rfl) (t := ⟨false, 0, rb60, rA60, rn60, rc60, false, none, 0, 0, r2, 0, 0⟩) hr60 rfl) (t := ⟨false, 0, qb60, qA60, qn60, qc60, false, none, 0, 0, q2, 0, 0⟩) hq60 rfl).laid2 31 lyK (Nat.le_trans hWr (Nat.le_trans HC59.out.2.size hb60.size))).swap).laid2 31 lyK (Nat.le_trans hWr (Nat.le_trans (Nat.le_trans HC59.out.2.size hb60.size) (by simp)))
     rw [size_alloc] at hv60
     have hl60 : Below wr.heap.size wr ((wq60.alloc (.cells #[.bool qb60, .slice qA60 qn60 qc60] 31)).alloc (.cells #[.bool rb60, .slice rA60 rn60 rc60] 31)) := (((below_then HC59.out.2 hb60).alloc (Nat.le_trans HC59.out.2.size hb60.size) (.cells #[.bool qb60, .slice qA60 qn60 qc60] 31)).alloc (Nat.le_trans (Nat.le_trans HC59.out.2.size hb60.size) (by simp)) (.cells #[.bool rb60, .slice rA60 rn60 rc60] 31))
     obtain ⟨Wq60, hW60⟩ : ∃ W : World, W = (wq60.alloc (.cells #[.bool qb60, .slice qA60 qn60 qc60] 31)).alloc (.cells #[.bool rb60, .slice rA60 rn60 rc60] 31) := ⟨_, rfl⟩
     obtain ⟨rrq60, hsq60⟩ : ∃ r : Nat, r = wq60.heap.size := ⟨_, rfl⟩
     obtain ⟨rrr60, hsr60⟩ : ∃ r : Nat, r = wq60.heap.size + 1 := ⟨_, rfl⟩
     rw [← hW60] at hv60 hl60
     rw [← hsr60] at hv60
     rw [← hsq60] at hv60
     have HC60 := Lib.hid (And.intro hv60 hl60)
     have HW60 := Lib.hid hW60
     have HRq60 := Lib.hid hsq60
     have HRr60 := Lib.hid hsr60
     have GEq60 := Lib.hid (show wr.heap.size ≤ rrq60 from by rw [hsq60]; exact Nat.le_trans HC59.out.2.size hb60.size)
     have GEr60 := Lib.hid (show wr.heap.size ≤ rrr60 from by rw [hsr60]; exact Nat.le_succ_of_le (Nat.le_trans HC59.out.2.size hb60.size))
     clear pm0 pm1 pc0 pc1
     clear hv60 hl60 hW60 hb60 hsq60 hq60 hsr60 hr60 HC59
     go_upto_region 6 with fail
     rw [← HW60.out]
     rw [← HRr60.out]
     rw [← HRq60.out]
     clear HW60 HRq60 HRr60
     obtain ⟨prest0, prest1⟩ : Two Wq60 rrr59 (.bool rb59) (.slice rA59 rn59 rc59) := (HC60.out.1.all 2 _ rfl).lies rfl
     go_wp2_with fail
     refine (HS1.out.1 _ _ ((HC60.out.1.all 2 _ rfl).at_)).mono ?_
     rintro e wq61 ⟨rfl, hb61⟩
     have HC61 := Lib.hid (And.intro (HC60.out.1.step hb61 rfl) (below_then HC60.out.2 hb61))
     clear prest0 prest1
     clear hb61 HC60
     obtain ⟨pleast0, pleast1⟩ : Two wq61 rrq59 (.bool qb59) (.slice qA59 qn59 qc59) := (HC61.out.1.all 3 _ rfl).lies rfl
     obtain ⟨pgreat0, pgreat1⟩ : Two wq61 rrq60 (.bool qb60) (.slice qA60 qn60 qc60) := (HC61.out.1.all 1 _ rfl).lies rfl
     go_wp2_with fail
     refine (HS1.out.2 _ _ _ ((HC61.out.1.all 3 _ rfl).at_) ((HC61.out.1.all 1 _ rfl).at_)).mono ?_
     rintro e wq62 ⟨rfl, hb62⟩
     have HC62 := Lib.hid (And.intro (HC61.out.1.step hb62 rfl) (below_then HC61.out.2 hb62))
     clear pleast0 pleast1 pgreat0 pgreat1
     clear hb62 HC61
     obtain ⟨pl0, pl1⟩ : Two wq62 rrq59 (.bool qb59) (.slice qA59 qn59 qc59) := (HC62.out.1.all 3 _ rfl).lies rfl
     have ho8 := (HO.out.1.step HC62.out.2 rfl).alloc (.cells #[.bool qb59, .slice qA59 qn59 qc59] 31)
     have hi8 := (HO.out.2.step HC62.out.2 rfl).alloc (.cells #[.bool qb59, .slice qA59 qn59 qc59] 31)
     have ha8 : Away ov [⟨true, rrr60, rb60, rA60, rn60, rc60, false, none, 0, 0, r2, 0, 0⟩, ⟨true, rrq60, qb60, qA60, qn60, qc60, false, none, 0, 0, q2, 0, 0⟩, ⟨true, rrr59, rb59, rA59, rn59, rc59, false, none, 0, 0, r1, 0, 0⟩, ⟨true, rrq59, qb59, qA59, qn59, qc59, false, none, 0, 0, q1, 0, 0⟩, ⟨true, rc, bc, Ac, nc, cc, false, none, 0, 0, k0, 0, 0⟩, ⟨true, rm, bm, Am, nm, cm, false, none, 0, 0, y0, 0, 0⟩, ⟨true, rd, bd, Ad, nd, cd, false, none, 0, 0, e0, 0, 0⟩, ⟨true, rn, bn, An, nn, cn, false, none, 0, 0, n0, 0, 0⟩, ⟨true, (w.heap.size + 1 + 1), false, none, 0, 0, false, none, 0, 0, 0, 1, 3⟩, ⟨true, (w.heap.size + 1), b2, A2, n2, c2, bb2, AA2, nn2, cc2, y, e, 3⟩, ⟨true, w.heap.size, b1, A1, n1, c1, bb1, AA1, nn1, cc1, x, d, 3⟩] := (((HAW.out.new HO.out.1 GEq59.out).new HO.out.1 GEr59.out).new HO.out.1 GEq60.out).new HO.out.1 GEr60.out
     obtain ⟨z0, zi, z1, z2, z3⟩ := info_parts info_Int
     have H8 := Lib.hid (And.intro ho8 (And.intro hi8 ha8))
     have hsz8 : w.heap.size ≤ wq62.heap.size := Nat.le_trans hWr HC62.out.2.size
     have ht8 : t ≤ 100000 := by have := HSL.out.2.2; omega
     have HI := Lib.hid (And.intro zi (And.intro z1 (And.intro z2 z3)))
     clear ho8 hi8 ha8 zi z1 z2 z3
     go_upto_region 9 with (at_builtin; go_loud (refine wpList_append_c rfl _ _ 78 rfl w.heap.size 31 z0 (.agg #[.bool false, .slice none 0 0]) 2 32 und_Ints HI.out.1 HI.out.2.1 HI.out.2.2.1 HI.out.2.2.2 rfl (by decide) _ t xs rfl H8.out.1 ⟨wq62.heap.size, 0, none⟩ 1 1 [.bool qb59, .slice qA59 qn59 qc59] rfl rfl (two_new _ _ _ _) (by simp [Value.oneCell']) (by unfold maxLen; omega) (by omega) (by simp; omega) (by decide) (noint2 _ _ _ _) (noint2 _ _ _ _) ?_); intro v3 w3 hown3 hg3 hat3)
     have fv3 : FVars w.heap.size w3 [⟨true, rrr60, rb60, rA60, rn60, rc60, false, none, 0, 0, r2, 0, 0⟩, ⟨true, rrq60, qb60, qA60, qn60, qc60, false, none, 0, 0, q2, 0, 0⟩, ⟨true, rrr59, rb59, rA59, rn59, rc59, false, none, 0, 0, r1, 0, 0⟩, ⟨true, rrq59, qb59, qA59, qn59, qc59, false, none, 0, 0, q1, 0, 0⟩, ⟨true, rc, bc, Ac, nc, cc, false, none, 0, 0, k0, 0, 0⟩, ⟨true, rm, bm, Am, nm, cm, false, none, 0, 0, y0, 0, 0⟩, ⟨true, rd, bd, Ad, nd, cd, false, none, 0, 0, e0, 0, 0⟩, ⟨true, rn, bn, An, nn, cn, false, none, 0, 0, n0, 0, 0⟩, ⟨true, (w.heap.size + 1 + 1), false, none, 0, 0, false, none, 0, 0, 0, 1, 3⟩, ⟨true, (w.heap.size + 1), b2, A2, n2, c2, bb2, AA2, nn2, cc2, y, e, 3⟩, ⟨true, w.heap.size, b1, A1, n1, c1, bb1, AA1, nn1, cc1, x, d, 3⟩] := (HC62.out.1.alloc _).grown H8.out.1 hg3 H8.out.2.2
     have in3 : Ints w3 (xs ++ [.bool qb59, .slice qA59 qn59 qc59]) (L t ++ [q1]) := (H8.out.2.1.safe (grown_safe H8.out.1 hg3)).snoc (fv3.all 3 _ rfl).at_
     have aw3 : Away v3 [⟨true, rrr60, rb60, rA60, rn60, rc60, false, none, 0, 0, r2, 0, 0⟩, ⟨true, rrq60, qb60, qA60, qn60, qc60, false, none, 0, 0, q2, 0, 0⟩, ⟨true, rrr59, rb59, rA59, rn59, rc59, false, none, 0, 0, r1, 0, 0⟩, ⟨true, rrq59, qb59, qA59, qn59, qc59, false, none, 0, 0, q1, 0, 0⟩, ⟨true, rc, bc, Ac, nc, cc, false, none, 0, 0, k0, 0, 0⟩, ⟨true, rm, bm, Am, nm, cm, false, none, 0, 0, y0, 0, 0⟩, ⟨true, rd, bd, Ad, nd, cd, false, none, 0, 0, e0, 0, 0⟩, ⟨true, rn, bn, An, nn, cn, false, none, 0, 0, n0, 0, 0⟩, ⟨true, (w.heap.size + 1 + 1), false, none, 0, 0, false, none, 0, 0, 0, 1, 3⟩, ⟨true, (w.heap.size + 1), b2, A2, n2, c2, bb2, AA2, nn2, cc2, y, e, 3⟩, ⟨true, w.heap.size, b1, A1, n1, c1, bb1, AA1, nn1, cc1, x, d, 3⟩] := Away.grown (HC62.out.1.alloc _) H8.out.2.2 hat3
     have bw3 : Below w.heap.size w w3 := ((below_then HBW.out HC62.out.2).alloc hsz8 _).grown hg3 (by simp; omega) (fun k hk => (H8.out.1.1.lt k hk).1)
     have hW3 : w.heap.size ≤ w3.heap.size := bw3.size
     have HO3 := Lib.hid (And.intro hown3 in3)
     have HAW3 := Lib.hid aw3
     have HB3 := Lib.hid bw3
     have HC3 := Lib.hid (And.intro fv3 (Below.refl w3.heap.size w3))
     clear fv3 in3 aw3 bw3 hown3 hg3 hat3 H8 hsz8 HI pl0 pl1 HC62
     obtain ⟨prest0, prest1⟩ : Two w3 rrr59 (.bool rb59) (.slice rA59 rn59 rc59) := (HC3.out.1.all 2 _ rfl).lies rfl
     go_wp2_with fail
     refine (HS1.out.1 _ _ ((HC3.out.1.all 2 _ rfl).at_)).mono ?_
     rintro e wq64 ⟨rfl, hb64⟩
     have HC64 := Lib.hid (And.intro (HC3.out.1.step hb64 rfl) (below_then HC3.out.2 hb64))
     clear prest0 prest1
     clear hb64 HC3
     go_upto_region 12 with fail
     have HW965 := Lib.hid (And.intro HC64.out.1 (below_then HB3.out HC64.out.2))
     have HOA := Lib.hid (And.intro (HO3.out.1.step HC64.out.2 rfl) (HO3.out.2.step HC64.out.2 rfl))
     have HO0 := Lib.hid (And.intro (HOA.out.1.step (Below.refl _ wq64.drew) rfl) (HOA.out.2.step (Below.refl _ wq64.drew) rfl))
     have HD66 := Lib.hid (And.intro HW965.out.1.drew HW965.out.2.drew)
     refine wp_region_held_drew (S := fun w' => Two w' rrr60 (.bool rb60) (.slice rA60 rn60 rc60) ∧ Two w' rrr59 (.bool rb59) (.slice rA59 rn59 rc59)) (by kernel_rfl) (⟨(HD66.out.1.all 0 _ rfl).lies rfl, (HD66.out.1.all 2 _ rfl).lies rfl⟩) (fun hH0 => ?_)
     refine wpAnyH_take (i := 1) (v := (.agg #[.bool rb60, .slice rA60 rn60 rc60])) rfl (by kernel_rfl) (by kernel_rfl) (by kernel_rfl) (fun _ _ _ h => h) (Or.inl ⟨by kernel_rfl, fun w0 hS0 => load0 (hS0.1) (.tmp 13) (by kernel_rfl) (by kernel_rfl)⟩) hH0 ?r63
     change wpAnyH _ _ _ _ _ _ _ (Act.put _ (some 63) _) _
     simp only [Act.put, lyA, lyZ, lyS]
     refine wpAnyH_take (i := 3) (v := (.agg #[.bool rb59, .slice rA59 rn59 rc59])) rfl (by kernel_rfl) (by kernel_rfl) (by kernel_rfl) (fun _ _ _ h => h) (Or.inl ⟨by kernel_rfl, fun w0 hS0 => load0 (hS0.2) (.tmp 11) (by kernel_rfl) (by kernel_rfl)⟩) hH0 ?r64
     change wpAnyH _ _ _ _ _ _ _ (Act.put _ (some 65) _) _
     simp only [Act.put, lyA, lyZ, lyS]
     refine wpAnyH_ready (rs := [0, 2]) (by kernel_rfl) (by simp) ?_
     refine AllReadyH.cons rfl (fun K hK0 => ?d65) (AllReadyH.cons rfl (fun K hK0 => ?d66) (AllReadyH.nil))
     case d65 =>
      have hK := hK0.out
      clear hK0
      rw [if_pos (by kernel_rfl)]
      refine wp_go_val (.agg #[.bool bc, .slice Ac nc cc]) (load0 ((HD66.out.1.all 4 _ rfl).lies rfl) (.tmp 8) (by kernel_rfl) (by kernel_rfl)) ?_
      have HD67 := Lib.hid (And.intro (FVars.told HD66.out.1 (t := ⟨false, 0, bc, Ac, nc, cc, false, none, 0, 0, k0, 0, 0⟩) (HD66.out.1.all 4 _ rfl).at_ rfl) HD66.out.2)
      refine hK _ _ (⟨(HD67.out.1.all 1 _ rfl).lies rfl, (HD67.out.1.all 3 _ rfl).lies rfl⟩) (fun hH67 => ?_)
      clear hK K hH0
      change wpAnyH _ _ _ _ _ _ _ (Act.put _ (some 62) _) _
      simp only [Act.put, lyA, lyZ, lyS]
      refine wpAnyH_ready (rs := [2]) (by kernel_rfl) (by simp) ?_
      refine AllReadyH.cons rfl (fun K hK0 => ?d67) (AllReadyH.nil)
      have hK := hK0.out
      clear hK0
      rw [if_pos (by kernel_rfl)]
      refine wp_go_val (.agg #[.bool bd, .slice Ad nd cd]) (load0 ((HD67.out.1.all 7 _ rfl).lies rfl) (.tmp 6) (by kernel_rfl) (by kernel_rfl)) ?_
      have HD68 := Lib.hid (And.intro (FVars.told HD67.out.1 (t := ⟨false, 0, bd, Ad, nd, cd, false, none, 0, 0, e0, 0, 0⟩) (HD67.out.1.all 7 _ rfl).at_ rfl) HD67.out.2)
      refine hK _ _ (⟨(HD68.out.1.all 2 _ rfl).lies rfl, (HD68.out.1.all 4 _ rfl).lies rfl⟩) (fun hH68 => ?_)
      clear hK K hH67
      change wpAnyH _ _ _ _ _ _ _ (Act.put _ (some 64) _) _
      simp only [Act.put, lyA, lyZ, lyS]
      refine wpAnyH_ready (rs := [4]) (by kernel_rfl) (by simp) ?_
      refine AllReadyH.cons rfl (fun K hK0 => ?d68) (AllReadyH.nil)
      have hK := hK0.out
      clear hK0
      rw [if_pos (by kernel_rfl)]
      refine wp_go_skip (store0 ((HD68.out.1.all 9 _ rfl).lies rfl) ((HD68.out.1.all 9 _ rfl).frz rfl) bc Ac nc cc (.tmp 5) (.tmp 62) (by kernel_rfl) (by kernel_rfl) (by kernel_rfl)) ?_
      have hu69 := FVars.over2 HD68.out.1 9 (s := ⟨true, rn, bn, An, nn, cn, false, none, 0, 0, n0, 0, 0⟩) (t := ⟨false, 0, bc, Ac, nc, cc, false, none, 0, 0, k0, 0, 0⟩) rfl rfl lyK lyK ((HD68.out.1.all 1 _ rfl).at_)
      have hv69 : FVars w.heap.size (put2 (wq64.drew) rn (.bool bc) (.slice Ac nc cc)) [⟨false, 0, bd, Ad, nd, cd, false, none, 0, 0, e0, 0, 0⟩, ⟨false, 0, bc, Ac, nc, cc, false, none, 0, 0, k0, 0, 0⟩, ⟨true, rrr60, rb60, rA60, rn60, rc60, false, none, 0, 0, r2, 0, 0⟩, ⟨true, rrq60, qb60, qA60, qn60, qc60, false, none, 0, 0, q2, 0, 0⟩, ⟨true, rrr59, rb59, rA59, rn59, rc59, false, none, 0, 0, r1, 0, 0⟩, ⟨true, rrq59, qb59, qA59, qn59, qc59, false, none, 0, 0, q1, 0, 0⟩, ⟨true, rc, bc, Ac, nc, cc, false, none, 0, 0, k0, 0, 0⟩, ⟨true, rm, bm, Am, nm, cm, false, none, 0, 0, y0, 0, 0⟩, ⟨true, rd, bd, Ad, nd, cd, false, none, 0, 0, e0, 0, 0⟩, ⟨true, rn, bc, Ac, nc, cc, false, none, 0, 0, k0, 0, 0⟩, ⟨true, (w.heap.size + 1 + 1), false, none, 0, 0, false, none, 0, 0, 0, 1, 3⟩, ⟨true, (w.heap.size + 1), b2, A2, n2, c2, bb2, AA2, nn2, cc2, y, e, 3⟩, ⟨true, w.heap.size, b1, A1, n1, c1, bb1, AA1, nn1, cc1, x, d, 3⟩] := hu69
      clear hu69
      have hl69 : Below w.heap.size w (put2 (wq64.drew) rn (.bool bc) (.slice Ac nc cc)) := (HD68.out.2.setCell (p := ⟨rn, 0, none⟩) (HD68.out.1.up 9 _ rfl rfl) _).setCell (p := ⟨rn, 1, none⟩) (HD68.out.1.up 9 _ rfl rfl) _
      have ho69 := (own_put HO0.out (show Two (wq64.drew) rn (.bool bn) (.slice An nn cn) from (HD68.out.1.all 9 _ rfl).lies rfl) (fun e => HAW3.out 7 _ rfl rfl e.symm) (.bool bc) (.slice Ac nc cc))
      generalize (put2 (wq64.drew) rn (.bool bc) (.slice Ac nc cc)) = Wn69 at hv69 hl69 ho69 ⊢
      have HD69 := Lib.hid (And.intro hv69 hl69)
      clear hv69 hl69
      have HO69 := Lib.hid ho69
      clear ho69
      refine hK _ _ (⟨(HD69.out.1.all 2 _ rfl).lies rfl, (HD69.out.1.all 4 _ rfl).lies rfl⟩) (fun hH69 => ?_)
      clear hK K hH68
      change wpAnyH _ _ _ _ _ _ _ (Act.put _ none _) _
      simp only [Act.put]
      refine wpAnyH_ready (rs := [5]) (by kernel_rfl) (by simp) ?_
      refine AllReadyH.cons rfl (fun K hK0 => ?d69) (AllReadyH.nil)
      have hK := hK0.out
      clear hK0
      rw [if_pos (by kernel_rfl)]
      refine wp_go_skip (store0 ((HD69.out.1.all 8 _ rfl).lies rfl) ((HD69.out.1.all 8 _ rfl).frz rfl) rb60 rA60 rn60 rc60 (.tmp 6) (.tmp 63) (by kernel_rfl) (by kernel_rfl) (by kernel_rfl)) ?_
      have hu70 := FVars.over2 HD69.out.1 8 (s := ⟨true, rd, bd, Ad, nd, cd, false, none, 0, 0, e0, 0, 0⟩) (t := ⟨false, 0, rb60, rA60, rn60, rc60, false, none, 0, 0, r2, 0, 0⟩) rfl rfl lyK lyK ((HD69.out.1.all 2 _ rfl).at_)
      have hv70 : FVars w.heap.size (put2 (Wn69) rd (.bool rb60) (.slice rA60 rn60 rc60)) [⟨false, 0, bd, Ad, nd, cd, false, none, 0, 0, e0, 0, 0⟩, ⟨false, 0, bc, Ac, nc, cc, false, none, 0, 0, k0, 0, 0⟩, ⟨true, rrr60, rb60, rA60, rn60, rc60, false, none, 0, 0, r2, 0, 0⟩, ⟨true, rrq60, qb60, qA60, qn60, qc60, false, none, 0, 0, q2, 0, 0⟩, ⟨true, rrr59, rb59, rA59, rn59, rc59, false, none, 0, 0, r1, 0, 0⟩, ⟨true, rrq59, qb59, qA59, qn59, qc59, false, none, 0, 0, q1, 0, 0⟩, ⟨true, rc, bc, Ac, nc, cc, false, none, 0, 0, k0, 0, 0⟩, ⟨true, rm, bm, Am, nm, cm, false, none, 0, 0, y0, 0, 0⟩, ⟨true, rd, rb60, rA60, rn60, rc60, false, none, 0, 0, r2, 0, 0⟩, ⟨true, rn, bc, Ac, nc, cc, false, none, 0, 0, k0, 0, 0⟩, ⟨true, (w.heap.size + 1 + 1), false, none, 0, 0, false, none, 0, 0, 0, 1, 3⟩, ⟨true, (w.heap.size + 1), b2, A2, n2, c2, bb2, AA2, nn2, cc2, y, e, 3⟩, ⟨true, w.heap.size, b1, A1, n1, c1, bb1, AA1, nn1, cc1, x, d, 3⟩] := hu70
      clear hu70
      have hl70 : Below w.heap.size w (put2 (Wn69) rd (.bool rb60) (.slice rA60 rn60 rc60)) := (HD69.out.2.setCell (p := ⟨rd, 0, none⟩) (HD69.out.1.up 8 _ rfl rfl) _).setCell (p := ⟨rd, 1, none⟩) (HD69.out.1.up 8 _ rfl rfl) _
      have ho70 := (own_put HO69.out (show Two (Wn69) rd (.bool bd) (.slice Ad nd cd) from (HD69.out.1.all 8 _ rfl).lies rfl) (fun e => HAW3.out 6 _ rfl rfl e.symm) (.bool rb60) (.slice rA60 rn60 rc60))
      generalize (put2 (Wn69) rd (.bool rb60) (.slice rA60 rn60 rc60)) = Wn70 at hv70 hl70 ho70 ⊢
      have HD70 := Lib.hid (And.intro hv70 hl70)
      clear hv70 hl70
      have HO70 := Lib.hid ho70
      clear ho70
      refine hK _ _ (⟨(HD70.out.1.all 2 _ rfl).lies rfl, (HD70.out.1.all 4 _ rfl).lies rfl⟩) (fun hH70 => ?_)
      clear hK K hH69
      change wpAnyH _ _ _ _ _ _ _ (Act.put _ none _) _
      simp only [Act.put]
      refine wpAnyH_ready (rs := [6]) (by kernel_rfl) (by simp) ?_
      refine AllReadyH.cons rfl (fun K hK0 => ?d70) (AllReadyH.nil)
      have hK := hK0.out
      clear hK0
      rw [if_pos (by kernel_rfl)]
      refine wp_go_skip (store0 ((HD70.out.1.all 7 _ rfl).lies rfl) ((HD70.out.1.all 7 _ rfl).frz rfl) bd Ad nd cd (.tmp 7) (.tmp 64) (by kernel_rfl) (by kernel_rfl) (by kernel_rfl)) ?_
      have hu71 := FVars.over2 HD70.out.1 7 (s := ⟨true, rm, bm, Am, nm, cm, false, none, 0, 0, y0, 0, 0⟩) (t := ⟨false, 0, bd, Ad, nd, cd, false, none, 0, 0, e0, 0, 0⟩) rfl rfl lyK lyK ((HD70.out.1.all 0 _ rfl).at_)
      have hv71 : FVars w.heap.size (put2 (Wn70) rm (.bool bd) (.slice Ad nd cd)) [⟨false, 0, bd, Ad, nd, cd, false, none, 0, 0, e0, 0, 0⟩, ⟨false, 0, bc, Ac, nc, cc, false, none, 0, 0, k0, 0, 0⟩, ⟨true, rrr60, rb60, rA60, rn60, rc60, false, none, 0, 0, r2, 0, 0⟩, ⟨true, rrq60, qb60, qA60, qn60, qc60, false, none, 0, 0, q2, 0, 0⟩, ⟨true, rrr59, rb59, rA59, rn59, rc59, false, none, 0, 0, r1, 0, 0⟩, ⟨true, rrq59, qb59, qA59, qn59, qc59, false, none, 0, 0, q1, 0, 0⟩, ⟨true, rc, bc, Ac, nc, cc, false, none, 0, 0, k0, 0, 0⟩, ⟨true, rm, bd, Ad, nd, cd, false, none, 0, 0, e0, 0, 0⟩, ⟨true, rd, rb60, rA60, rn60, rc60, false, none, 0, 0, r2, 0, 0⟩, ⟨true, rn, bc, Ac, nc, cc, false, none, 0, 0, k0, 0, 0⟩, ⟨true, (w.heap.size + 1 + 1), false, none, 0, 0, false, none, 0, 0, 0, 1, 3⟩, ⟨true, (w.heap.size + 1), b2, A2, n2, c2, bb2, AA2, nn2, cc2, y, e, 3⟩, ⟨true, w.heap.size, b1, A1, n1, c1, bb1, AA1, nn1, cc1, x, d, 3⟩] := hu71
      clear hu71
      have hl71 : Below w.heap.size w (put2 (Wn70) rm (.bool bd) (.slice Ad nd cd)) := (HD70.out.2.setCell (p := ⟨rm, 0, none⟩) (HD70.out.1.up 7 _ rfl rfl) _).setCell (p := ⟨rm, 1, none⟩) (HD70.out.1.up 7 _ rfl rfl) _
      have ho71 := (own_put HO70.out (show Two (Wn70) rm (.bool bm) (.slice Am nm cm) from (HD70.out.1.all 7 _ rfl).lies rfl) (fun e => HAW3.out 5 _ rfl rfl e.symm) (.bool bd) (.slice Ad nd cd))
      generalize (put2 (Wn70) rm (.bool bd) (.slice Ad nd cd)) = Wn71 at hv71 hl71 ho71 ⊢
      have HD71 := Lib.hid (And.intro hv71 hl71)
      clear hv71 hl71
      have HO71 := Lib.hid ho71
      clear ho71
      refine hK _ _ (⟨(HD71.out.1.all 2 _ rfl).lies rfl, (HD71.out.1.all 4 _ rfl).lies rfl⟩) (fun hH71 => ?_)
      clear hK K hH70
      change wpAnyH _ _ _ _ _ _ _ (Act.put _ none _) _
      simp only [Act.put]
      refine wpAnyH_ready (rs := [7]) (by kernel_rfl) (by simp) ?_
      refine AllReadyH.cons rfl (fun K hK0 => ?d71) (AllReadyH.nil)
      have hK := hK0.out
      clear hK0
      rw [if_pos (by kernel_rfl)]
      refine wp_go_skip (store0 ((HD71.out.1.all 6 _ rfl).lies rfl) ((HD71.out.1.all 6 _ rfl).frz rfl) rb59 rA59 rn59 rc59 (.tmp 8) (.tmp 65) (by kernel_rfl) (by kernel_rfl) (by kernel_rfl)) ?_
      have hu72 := FVars.over2 HD71.out.1 6 (s := ⟨true, rc, bc, Ac, nc, cc, false, none, 0, 0, k0, 0, 0⟩) (t := ⟨false, 0, rb59, rA59, rn59, rc59, false, none, 0, 0, r1, 0, 0⟩) rfl rfl lyK lyK ((HD71.out.1.all 4 _ rfl).at_)
      have hv72 : FVars w.heap.size (put2 (Wn71) rc (.bool rb59) (.slice rA59 rn59 rc59)) [⟨false, 0, bd, Ad, nd, cd, false, none, 0, 0, e0, 0, 0⟩, ⟨false, 0, bc, Ac, nc, cc, false, none, 0, 0, k0, 0, 0⟩, ⟨true, rrr60, rb60, rA60, rn60, rc60, false, none, 0, 0, r2, 0, 0⟩, ⟨true, rrq60, qb60, qA60, qn60, qc60, false, none, 0, 0, q2, 0, 0⟩, ⟨true, rrr59, rb59, rA59, rn59, rc59, false, none, 0, 0, r1, 0, 0⟩, ⟨true, rrq59, qb59, qA59, qn59, qc59, false, none, 0, 0, q1, 0, 0⟩, ⟨true, rc, rb59, rA59, rn59, rc59, false, none, 0, 0, r1, 0, 0⟩, ⟨true, rm, bd, Ad, nd, cd, false, none, 0, 0, e0, 0, 0⟩, ⟨true, rd, rb60, rA60, rn60, rc60, false, none, 0, 0, r2, 0, 0⟩, ⟨true, rn, bc, Ac, nc, cc, false, none, 0, 0, k0, 0, 0⟩, ⟨true, (w.heap.size + 1 + 1), false, none, 0, 0, false, none, 0, 0, 0, 1, 3⟩, ⟨true, (w.heap.size + 1), b2, A2, n2, c2, bb2, AA2, nn2, cc2, y, e, 3⟩, ⟨true, w.heap.size, b1, A1, n1, c1, bb1, AA1, nn1, cc1, x, d, 3⟩] := hu72
      clear hu72
      have hl72 : Below w.heap.size w (put2 (Wn71) rc (.bool rb59) (.slice rA59 rn59 rc59)) := (HD71.out.2.setCell (p := ⟨rc, 0, none⟩) (HD71.out.1.up 6 _ rfl rfl) _).setCell (p := ⟨rc, 1, none⟩) (HD71.out.1.up 6 _ rfl rfl) _
      have ho72 := (own_put HO71.out (show Two (Wn71) rc (.bool bc) (.slice Ac nc cc) from (HD71.out.1.all 6 _ rfl).lies rfl) (fun e => HAW3.out 4 _ rfl rfl e.symm) (.bool rb59) (.slice rA59 rn59 rc59))
      generalize (put2 (Wn71) rc (.bool rb59) (.slice rA59 rn59 rc59)) = Wn72 at hv72 hl72 ho72 ⊢
      have HD72 := Lib.hid (And.intro hv72 hl72)
      clear hv72 hl72
      have HO72 := Lib.hid ho72
      clear ho72
      refine hK _ _ (⟨(HD72.out.1.all 2 _ rfl).lies rfl, (HD72.out.1.all 4 _ rfl).lies rfl⟩) (fun hH72 => ?_)
      clear hK K hH71
      change wpAnyH _ _ _ _ _ _ _ (Act.put _ none _) _
      simp only [Act.put]
      refine wpAnyH_done (by kernel_rfl) ?_ _
      obtain ⟨_, _, p1, p2, p3, p4, p5⟩ := HGO.out.1 HG.out.2.2
      have HP := Lib.hid (And.intro p1 (And.intro p2 (And.intro p3 (And.intro p4 p5))))
      clear p1 p2 p3 p4 p5
      go_wp2
      go_roundw
      case rel =>
       refine ⟨_, t + 1, _, rb59, rA59, rn59, rc59, bd, Ad, nd, cd, rb60, rA60, rn60, rc60, bc, Ac, nc, cc, rfl, HG.out.2.2, HO72.out.1, ?_, ?_, ?_, HD72.out.2⟩
       · rw [HP.out.2.2.2.2]; exact HO72.out.2
       · exact Away.same HAW3.out.tail.tail.tail.tail rfl
       · rw [HP.out.1, HP.out.2.1, HP.out.2.2.1, HP.out.2.2.2.1]; exact FVars.pick HD72.out.1 [6, 7, 8, 9, 10, 11, 12] (by decide) rfl
      case measure => (rw [HO3.out.1.slen, HSL.out.1]; have := HG.out.2.2; omega)
     case d66 =>
      have hK := hK0.out
      clear hK0
      rw [if_pos (by kernel_rfl)]
      refine wp_go_val (.agg #[.bool bd, .slice Ad nd cd]) (load0 ((HD66.out.1.all 6 _ rfl).lies rfl) (.tmp 6) (by kernel_rfl) (by kernel_rfl)) ?_
      have HD73 := Lib.hid (And.intro (FVars.told HD66.out.1 (t := ⟨false, 0, bd, Ad, nd, cd, false, none, 0, 0, e0, 0, 0⟩) (HD66.out.1.all 6 _ rfl).at_ rfl) HD66.out.2)
      refine hK _ _ (⟨(HD73.out.1.all 1 _ rfl).lies rfl, (HD73.out.1.all 3 _ rfl).lies rfl⟩) (fun hH73 => ?_)
      clear hK K hH0
      change wpAnyH _ _ _ _ _ _ _ (Act.put _ (some 64) _) _
      simp only [Act.put, lyA, lyZ, lyS]
      refine wpAnyH_ready (rs := [0]) (by kernel_rfl) (by simp) ?_
      refine AllReadyH.cons rfl (fun K hK0 => ?d72) (AllReadyH.nil)
      have hK := hK0.out
      clear hK0
      rw [if_pos (by kernel_rfl)]
      refine wp_go_val (.agg #[.bool bc, .slice Ac nc cc]) (load0 ((HD73.out.1.all 5 _ rfl).lies rfl) (.tmp 8) (by kernel_rfl) (by kernel_rfl)) ?_
      have HD74 := Lib.hid (And.intro (FVars.told HD73.out.1 (t := ⟨false, 0, bc, Ac, nc, cc, false, none, 0, 0, k0, 0, 0⟩) (HD73.out.1.all 5 _ rfl).at_ rfl) HD73.out.2)
      refine hK _ _ (⟨(HD74.out.1.all 2 _ rfl).lies rfl, (HD74.out.1.all 4 _ rfl).lies rfl⟩) (fun hH74 => ?_)
      clear hK K hH73
      change wpAnyH _ _ _ _ _ _ _ (Act.put _ (some 62) _) _
      simp only [Act.put, lyA, lyZ, lyS]
      refine wpAnyH_ready (rs := [4]) (by kernel_rfl) (by simp) ?_
      refine AllReadyH.cons rfl (fun K hK0 => ?d73) (AllReadyH.nil)
      have hK := hK0.out
      clear hK0
      rw [if_pos (by kernel_rfl)]
      refine wp_go_skip (store0 ((HD74.out.1.all 9 _ rfl).lies rfl) ((HD74.out.1.all 9 _ rfl).frz rfl) bc Ac nc cc (.tmp 5) (.tmp 62) (by kernel_rfl) (by kernel_rfl) (by kernel_rfl)) ?_
      have hu75 := FVars.over2 HD74.out.1 9 (s := ⟨true, rn, bn, An, nn, cn, false, none, 0, 0, n0, 0, 0⟩) (t := ⟨false, 0, bc, Ac, nc, cc, false, none, 0, 0, k0, 0, 0⟩) rfl rfl lyK lyK ((HD74.out.1.all 0 _ rfl).at_)
      have hv75 : FVars w.heap.size (put2 (wq64.drew) rn (.bool bc) (.slice Ac nc cc)) [⟨false, 0, bc, Ac, nc, cc, false, none, 0, 0, k0, 0, 0⟩, ⟨false, 0, bd, Ad, nd, cd, false, none, 0, 0, e0, 0, 0⟩, ⟨true, rrr60, rb60, rA60, rn60, rc60, false, none, 0, 0, r2, 0, 0⟩, ⟨true, rrq60, qb60, qA60, qn60, qc60, false, none, 0, 0, q2, 0, 0⟩, ⟨true, rrr59, rb59, rA59, rn59, rc59, false, none, 0, 0, r1, 0, 0⟩, ⟨true, rrq59, qb59, qA59, qn59, qc59, false, none, 0, 0, q1, 0, 0⟩, ⟨true, rc, bc, Ac, nc, cc, false, none, 0, 0, k0, 0, 0⟩, ⟨true, rm, bm, Am, nm, cm, false, none, 0, 0, y0, 0, 0⟩, ⟨true, rd, bd, Ad, nd, cd, false, none, 0, 0, e0, 0, 0⟩, ⟨true, rn, bc, Ac, nc, cc, false, none, 0, 0, k0, 0, 0⟩, ⟨true, (w.heap.size + 1 + 1), false, none, 0, 0, false, none, 0, 0, 0, 1, 3⟩, ⟨true, (w.heap.size + 1), b2, A2, n2, c2, bb2, AA2, nn2, cc2, y, e, 3⟩, ⟨true, w.heap.size, b1, A1, n1, c1, bb1, AA1, nn1, cc1, x, d, 3⟩] := hu75
      clear hu75
      have hl75 : Below w.heap.size w (put2 (wq64.drew) rn (.bool bc) (.slice Ac nc cc)) := (HD74.out.2.setCell (p := ⟨rn, 0, none⟩) (HD74.out.1.up 9 _ rfl rfl) _).setCell (p := ⟨rn, 1, none⟩) (HD74.out.1.up 9 _ rfl rfl) _
      have ho75 := (own_put HO0.out (show Two (wq64.drew) rn (.bool bn) (.slice An nn cn) from (HD74.out.1.all 9 _ rfl).lies rfl) (fun e => HAW3.out 7 _ rfl rfl e.symm) (.bool bc) (.slice Ac nc cc))
      generalize (put2 (wq64.drew) rn (.bool bc) (.slice Ac nc cc)) = Wn75 at hv75 hl75 ho75 ⊢
      have HD75 := Lib.hid (And.intro hv75 hl75)
      clear hv75 hl75
      have HO75 := Lib.hid ho75
      clear ho75
      refine hK _ _ (⟨(HD75.out.1.all 2 _ rfl).lies rfl, (HD75.out.1.all 4 _ rfl).lies rfl⟩) (fun hH75 => ?_)
      clear hK K hH74
      change wpAnyH _ _ _ _ _ _ _ (Act.put _ none _) _
      simp only [Act.put]
      refine wpAnyH_ready (rs := [5]) (by kernel_rfl) (by simp) ?_
      refine AllReadyH.cons rfl (fun K hK0 => ?d74) (AllReadyH.nil)
      have hK := hK0.out
      clear hK0
      rw [if_pos (by kernel_rfl)]
      refine wp_go_skip (store0 ((HD75.out.1.all 8 _ rfl).lies rfl) ((HD75.out.1.all 8 _ rfl).frz rfl) rb60 rA60 rn60 rc60 (.tmp 6) (.tmp 63) (by kernel_rfl) (by kernel_rfl) (by kernel_rfl)) ?_
      have hu76 := FVars.over2 HD75.out.1 8 (s := ⟨true, rd, bd, Ad, nd, cd, false, none, 0, 0, e0, 0, 0⟩) (t := ⟨false, 0, rb60, rA60, rn60, rc60, false, none, 0, 0, r2, 0, 0⟩) rfl rfl lyK lyK ((HD75.out.1.all 2 _ rfl).at_)
      have hv76 : FVars w.heap.size (put2 (Wn75) rd (.bool rb60) (.slice rA60 rn60 rc60)) [⟨false, 0, bc, Ac, nc, cc, false, none, 0, 0, k0, 0, 0⟩, ⟨false, 0, bd, Ad, nd, cd, false, none, 0, 0, e0, 0, 0⟩, ⟨true, rrr60, rb60, rA60, rn60, rc60, false, none, 0, 0, r2, 0, 0⟩, ⟨true, rrq60, qb60, qA60, qn60, qc60, false, none, 0, 0, q2, 0, 0⟩, ⟨true, rrr59, rb59, rA59, rn59, rc59, false, none, 0, 0, r1, 0, 0⟩, ⟨true, rrq59, qb59, qA59, qn59, qc59, false, none, 0, 0, q1, 0, 0⟩, ⟨true, rc, bc, Ac, nc, cc, false, none, 0, 0, k0, 0, 0⟩, ⟨true, rm, bm, Am, nm, cm, false, none, 0, 0, y0, 0, 0⟩, ⟨true, rd, rb60, rA60, rn60, rc60, false, none, 0, 0, r2, 0, 0⟩, ⟨true, rn, bc, Ac, nc, cc, false, none, 0, 0, k0, 0, 0⟩, ⟨true, (w.heap.size + 1 + 1), false, none, 0, 0, false, none, 0, 0, 0, 1, 3⟩, ⟨true, (w.heap.size + 1), b2, A2, n2, c2, bb2, AA2, nn2, cc2, y, e, 3⟩, ⟨true, w.heap.size, b1, A1, n1, c1, bb1, AA1, nn1, cc1, x, d, 3⟩] := hu76
      clear hu76
      have hl76 : Below w.heap.size w (put2 (Wn75) rd (.bool rb60) (.slice rA60 rn60 rc60)) := (HD75.out.2.setCell (p := ⟨rd, 0, none⟩) (HD75.out.1.up 8 _ rfl rfl) _).setCell (p := ⟨rd, 1, none⟩) (HD75.out.1.up 8 _ rfl rfl) _
      have ho76 := (own_put HO75.out (show Two (Wn75) rd (.bool bd) (.slice Ad nd cd) from (HD75.out.1.all 8 _ rfl).lies rfl) (fun e => HAW3.out 6 _ rfl rfl e.symm) (.bool rb60) (.slice rA60 rn60 rc60))
      generalize (put2 (Wn75) rd (.bool rb60) (.slice rA60 rn60 rc60)) = Wn76 at hv76 hl76 ho76 ⊢
      have HD76 := Lib.hid (And.intro hv76 hl76)
      clear hv76 hl76
      have HO76 := Lib.hid ho76
      clear ho76
      refine hK _ _ (⟨(HD76.out.1.all 2 _ rfl).lies rfl, (HD76.out.1.all 4 _ rfl).lies rfl⟩) (fun hH76 => ?_)
      clear hK K hH75
      change wpAnyH _ _ _ _ _ _ _ (Act.put _ none _) _
      simp only [Act.put]
      refine wpAnyH_ready (rs := [6]) (by kernel_rfl) (by simp) ?_
      refine AllReadyH.cons rfl (fun K hK0 => ?d75) (AllReadyH.nil)
      have hK := hK0.out
      clear hK0
      rw [if_pos (by kernel_rfl)]
      refine wp_go_skip (store0 ((HD76.out.1.all 7 _ rfl).lies rfl) ((HD76.out.1.all 7 _ rfl).frz rfl) bd Ad nd cd (.tmp 7) (.tmp 64) (by kernel_rfl) (by kernel_rfl) (by kernel_rfl)) ?_
      have hu77 := FVars.over2 HD76.out.1 7 (s := ⟨true, rm, bm, Am, nm, cm, false, none, 0, 0, y0, 0, 0⟩) (t := ⟨false, 0, bd, Ad, nd, cd, false, none, 0, 0, e0, 0, 0⟩) rfl rfl lyK lyK ((HD76.out.1.all 1 _ rfl).at_)
      have hv77 : FVars w.heap.size (put2 (Wn76) rm (.bool bd) (.slice Ad nd cd)) [⟨false, 0, bc, Ac, nc, cc, false, none, 0, 0, k0, 0, 0⟩, ⟨false, 0, bd, Ad, nd, cd, false, none, 0, 0, e0, 0, 0⟩, ⟨true, rrr60, rb60, rA60, rn60, rc60, false, none, 0, 0, r2, 0, 0⟩, ⟨true, rrq60, qb60, qA60, qn60, qc60, false, none, 0, 0, q2, 0, 0⟩, ⟨true, rrr59, rb59, rA59, rn59, rc59, false, none, 0, 0, r1, 0, 0⟩, ⟨true, rrq59, qb59, qA59, qn59, qc59, false, none, 0, 0, q1, 0, 0⟩, ⟨true, rc, bc, Ac, nc, cc, false, none, 0, 0, k0, 0, 0⟩, ⟨true, rm, bd, Ad, nd, cd, false, none, 0, 0, e0, 0, 0⟩, ⟨true, rd, rb60, rA60, rn60, rc60, false, none, 0, 0, r2, 0, 0⟩, ⟨true, rn, bc, Ac, nc, cc, false, none, 0, 0, k0, 0, 0⟩, ⟨true, (w.heap.size + 1 + 1), false, none, 0, 0, false, none, 0, 0, 0, 1, 3⟩, ⟨true, (w.heap.size + 1), b2, A2, n2, c2, bb2, AA2, nn2, cc2, y, e, 3⟩, ⟨true, w.heap.size, b1, A1, n1, c1, bb1, AA1, nn1, cc1, x, d, 3⟩] := hu77
      clear hu77
      have hl77 : Below w.heap.size w (put2 (Wn76) rm (.bool bd) (.slice Ad nd cd)) := (HD76.out.2.setCell (p := ⟨rm, 0, none⟩) (HD76.out.1.up 7 _ rfl rfl) _).setCell (p := ⟨rm, 1, none⟩) (HD76.out.1.up 7 _ rfl rfl) _
      have ho77 := (own_put HO76.out (show Two (Wn76) rm (.bool bm) (.slice Am nm cm) from (HD76.out.1.all 7 _ rfl).lies rfl) (fun e => HAW3.out 5 _ rfl rfl e.symm) (.bool bd) (.slice Ad nd cd))
      generalize (put2 (Wn76) rm (.bool bd) (.slice Ad nd cd)) = Wn77 at hv77 hl77 ho77 ⊢
      have HD77 := Lib.hid (And.intro hv77 hl77)
      clear hv77 hl77
      have HO77 := Lib.hid ho77
      clear ho77
      refine hK _ _ (⟨(HD77.out.1.all 2 _ rfl).lies rfl, (HD77.out.1.all 4 _ rfl).lies rfl⟩) (fun hH77 => ?_)
      clear hK K hH76
      change wpAnyH _ _ _ _ _ _ _ (Act.put _ none _) _
      simp only [Act.put]
      refine wpAnyH_ready (rs := [7]) (by kernel_rfl) (by simp) ?_
      refine AllReadyH.cons rfl (fun K hK0 => ?d76) (AllReadyH.nil)
      have hK := hK0.out
      clear hK0
      rw [if_pos (by kernel_rfl)]
      refine wp_go_skip (store0 ((HD77.out.1.all 6 _ rfl).lies rfl) ((HD77.out.1.all 6 _ rfl).frz rfl) rb59 rA59 rn59 rc59 (.tmp 8) (.tmp 65) (by kernel_rfl) (by kernel_rfl) (by kernel_rfl)) ?_
      have hu78 := FVars.over2 HD77.out.1 6 (s := ⟨true, rc, bc, Ac, nc, cc, false, none, 0, 0, k0, 0, 0⟩) (t := ⟨false, 0, rb59, rA59, rn59, rc59, false, none, 0, 0, r1, 0, 0⟩) rfl rfl lyK lyK ((HD77.out.1.all 4 _ rfl).at_)
      have hv78 : FVars w.heap.size (put2 (Wn77) rc (.bool rb59) (.slice rA59 rn59 rc59)) [⟨false, 0, bc, Ac, nc, cc, false, none, 0, 0, k0, 0, 0⟩, ⟨false, 0, bd, Ad, nd, cd, false, none, 0, 0, e0, 0, 0⟩, ⟨true, rrr60, rb60, rA60, rn60, rc60, false, none, 0, 0, r2, 0, 0⟩, ⟨true, rrq60, qb60, qA60, qn60, qc60, false, none, 0, 0, q2, 0, 0⟩, ⟨true, rrr59, rb59, rA59, rn59, rc59, false, none, 0, 0, r1, 0, 0⟩, ⟨true, rrq59, qb59, qA59, qn59, qc59, false, none, 0, 0, q1, 0, 0⟩, ⟨true, rc, rb59, rA59, rn59, rc59, false, none, 0, 0, r1, 0, 0⟩, ⟨true, rm, bd, Ad, nd, cd, false, none, 0, 0, e0, 0, 0⟩, ⟨true, rd, rb60, rA60, rn60, rc60, false, none, 0, 0, r2, 0, 0⟩, ⟨true, rn, bc, Ac, nc, cc, false, none, 0, 0, k0, 0, 0⟩, ⟨true, (w.heap.size + 1 + 1), false, none, 0, 0, false, none, 0, 0, 0, 1, 3⟩, ⟨true, (w.heap.size + 1), b2, A2, n2, c2, bb2, AA2, nn2, cc2, y, e, 3⟩, ⟨true, w.heap.size, b1, A1, n1, c1, bb1, AA1, nn1, cc1, x, d, 3⟩] := hu78
      clear hu78
      have hl78 : Below w.heap.size w (put2 (Wn77) rc (.bool rb59) (.slice rA59 rn59 rc59)) := (HD77.out.2.setCell (p := ⟨rc, 0, none⟩) (HD77.out.1.up 6 _ rfl rfl) _).setCell (p := ⟨rc, 1, none⟩) (HD77.out.1.up 6 _ rfl rfl) _
      have ho78 := (own_put HO77.out (show Two (Wn77) rc (.bool bc) (.slice Ac nc cc) from (HD77.out.1.all 6 _ rfl).lies rfl) (fun e => HAW3.out 4 _ rfl rfl e.symm) (.bool rb59) (.slice rA59 rn59 rc59))
      generalize (put2 (Wn77) rc (.bool rb59) (.slice rA59 rn59 rc59)) = Wn78 at hv78 hl78 ho78 ⊢
      have HD78 := Lib.hid (And.intro hv78 hl78)
      clear hv78 hl78
      have HO78 := Lib.hid ho78
      clear ho78
      refine hK _ _ (⟨(HD78.out.1.all 2 _ rfl).lies rfl, (HD78.out.1.all 4 _ rfl).lies rfl⟩) (fun hH78 => ?_)
      clear hK K hH77
      change wpAnyH _ _ _ _ _ _ _ (Act.put _ none _) _
      simp only [Act.put]
      refine wpAnyH_done (by kernel_rfl) ?_ _
      obtain ⟨_, _, p1, p2, p3, p4, p5⟩ := HGO.out.1 HG.out.2.2
      have HP := Lib.hid (And.intro p1 (And.intro p2 (And.intro p3 (And.intro p4 p5))))
      clear p1 p2 p3 p4 p5
      go_wp2
      go_roundw
      case rel =>
       refine ⟨_, t + 1, _, rb59, rA59, rn59, rc59, bd, Ad, nd, cd, rb60, rA60, rn60, rc60, bc, Ac, nc, cc, rfl, HG.out.2.2, HO78.out.1, ?_, ?_, ?_, HD78.out.2⟩
       · rw [HP.out.2.2.2.2]; exact HO78.out.2
       · exact Away.same HAW3.out.tail.tail.tail.tail rfl
       · rw [HP.out.1, HP.out.2.1, HP.out.2.2.1, HP.out.2.2.2.1]; exact FVars.pick HD78.out.1 [6, 7, 8, 9, 10, 11, 12] (by decide) rfl
      case measure => (rw [HO3.out.1.slen, HSL.out.1]; have := HG.out.2.2; omega)
   ·
     have hs1 : r1.sign = 0 := by rw [g1]; rfl
     have HS1 := Lib.hid (show ∀ v w, IntAt w v r1 → Calls Tryz.prog 64 #[v] w fun e w' => IsNum w w' 0 e from hs1 ▸ HS.out.1)
     have HG := Lib.hid (And.intro g1 (And.intro g2 g3))
     clear g1 g2 g3 hs1
     obtain ⟨pn0, pn1⟩ : Two wr rn (.bool bn) (.slice An nn cn) := (HC0.out.1.all 3 _ rfl).lies rfl
     obtain ⟨pd0, pd1⟩ : Two wr rd (.bool bd) (.slice Ad nd cd) := (HC0.out.1.all 2 _ rfl).lies rfl
     go_wp2_with fail
     refine (HA.out.1 _ _ _ ((HC0.out.1.all 3 _ rfl).at_) ((HC0.out.1.all 2 _ rfl).at_)).mono ?_
     rintro e wq79 ⟨qv79, rv79, rfl, hq79, hr79, hb79⟩
     obtain ⟨qb79, qA79, qn79, qc79, rfl, hq79⟩ := open0 hq79
     obtain ⟨rb79, rA79, rn79, rc79, rfl, hr79⟩ := open0 hr79
     have hv79 := (((FVars.told (FVars.told (FVars.step HC0.out.1 hb79 rfl) (t := ⟨false, 0, rb79, rA79, rn79, rc79, false, none, 0, 0, r1, 0, 0⟩) hr79 rfl) (t := ⟨false, 0, qb79, qA79, qn79, qc79, false, none, 0, 0, q1, 0, 0⟩) hq79 rfl).laid2 31 lyK (Nat.le_trans hWr (Nat.le_trans HC0.out.2.size hb79.size))).swap).laid2 31 lyK (Nat.le_trans hWr (Nat.le_trans (Nat.le_trans HC0.out.2.size hb79.size) (by simp)))
     rw [size_alloc] at hv79
     have hl79 : Below wr.heap.size wr ((wq79.alloc (.cells #[.bool qb79, .slice qA79 qn79 qc79] 31)).alloc (.cells #[.bool rb79, .slice rA79 rn79 rc79] 31)) := (((below_then HC0.out.2 hb79).alloc (Nat.le_trans HC0.out.2.size hb79.size) (.cells #[.bool qb79, .slice qA79 qn79 qc79] 31)).alloc (Nat.le_trans (Nat.le_trans HC0.out.2.size hb79.size) (by simp)) (.cells #[.bool rb79, .slice rA79 rn79 rc79] 31))
     obtain ⟨Wq79, hW79⟩ : ∃ W : World, W = (wq79.alloc (.cells #[.bool qb79, .slice qA79 qn79 qc79] 31)).alloc (.cells #[.bool rb79, .slice rA79 rn79 rc79] 31) := ⟨_, rfl⟩
     obtain ⟨rrq79, hsq79⟩ : ∃ r : Nat, r = wq79.heap.size := ⟨_, rfl⟩
     obtain ⟨rrr79, hsr79⟩ : ∃ r : Nat, r = wq79.heap.size + 1 := ⟨_, rfl⟩
     rw [← hW79] at hv79 hl79
     rw [← hsr79] at hv79
     rw [← hsq79] at hv79
     have HC79 := Lib.hid (And.intro hv79 hl79)
     have HW79 := Lib.hid hW79
     have HRq79 := Lib.hid hsq79
     have HRr79 := Lib.hid hsr79
     have GEq79 := Lib.hid (show wr.heap.size ≤ rrq79 from by rw [hsq79]; exact Nat.le_trans HC0.out.2.size hb79.size)
     have GEr79 := Lib.hid (show wr.heap.size ≤ rrr79 from by rw [hsr79]; exact Nat.le_succ_of_le (Nat.le_trans HC0.out.2.size hb79.size))
     clear pn0 pn1 pd0 pd1
     clear hv79 hl79 hW79 hb79 hsq79 hq79 hsr79 hr79 HC0
     go_upto_region 5 with fail
     rw [← HW79.out]
     rw [← HRr79.out]
     rw [← HRq79.out]
     clear HW79 HRq79 HRr79
     obtain ⟨pm0, pm1⟩ : Two Wq79 rm (.bool bm) (.slice Am nm cm) := (HC79.out.1.all 3 _ rfl).lies rfl
     obtain ⟨pc0, pc1⟩ : Two Wq79 rc (.bool bc) (.slice Ac nc cc) := (HC79.out.1.all 2 _ rfl).lies rfl
     go_wp2_with fail
     refine (HA.out.2 _ _ _ ((HC79.out.1.all 3 _ rfl).at_) ((HC79.out.1.all 2 _ rfl).at_)).mono ?_
     rintro e wq80 ⟨qv80, rv80, rfl, hq80, hr80, hb80⟩
     obtain ⟨qb80, qA80, qn80, qc80, rfl, hq80⟩ := open0 hq80
     obtain ⟨rb80, rA80, rn80, rc80, rfl, hr80⟩ := open0 hr80
     have hv80 := (((FVars.told (FVars.told (FVars.step HC79.out.1 hb80 rfl) (t := ⟨false, 0, rb80, rA80, rn80, rc80, false, none, 0, 0, r2, 0, 0⟩) hr80 rfl) (t := ⟨false, 0, qb80, qA80, qn80, qc80, false, none, 0, 0, q2, 0, 0⟩) hq80 rfl).laid2 31 lyK (Nat.le_trans hWr (Nat.le_trans HC79.out.2.size hb80.size))).swap).laid2 31 lyK (Nat.le_trans hWr (Nat.le_trans (Nat.le_trans HC79.out.2.size hb80.size) (by simp)))
     rw [size_alloc] at hv80
     have hl80 : Below wr.heap.size wr ((wq80.alloc (.cells #[.bool qb80, .slice qA80 qn80 qc80] 31)).alloc (.cells #[.bool rb80, .slice rA80 rn80 rc80] 31)) := (((below_then HC79.out.2 hb80).alloc (Nat.le_trans HC79.out.2.size hb80.size) (.cells #[.bool qb80, .slice qA80 qn80 qc80] 31)).alloc (Nat.le_trans (Nat.le_trans HC79.out.2.size hb80.size) (by simp)) (.cells #[.bool rb80, .slice rA80 rn80 rc80] 31))
     obtain ⟨Wq80, hW80⟩ : ∃ W : World, W = (wq80.alloc (.cells #[.bool qb80, .slice qA80 qn80 qc80] 31)).alloc (.cells #[.bool rb80, .slice rA80 rn80 rc80] 31) := ⟨_, rfl⟩
     obtain ⟨rrq80, hsq80⟩ : ∃ r : Nat, r = wq80.heap.size := ⟨_, rfl⟩
     obtain ⟨rrr80, hsr80⟩ : ∃ r : Nat, r = wq80.heap.size + 1 := ⟨_, rfl⟩
     rw [← hW80] at hv80 hl80
     rw [← hsr80] at hv80
     rw [← hsq80] at hv80
     have HC80 := Lib.hid (And.intro hv80 hl80)
     have HW80 := Lib.hid hW80
     have HRq80 := Lib.hid hsq80
     have HRr80 := Lib.hid hsr80
     have GEq80 := Lib.hid (show wr.heap.size ≤ rrq80 from by rw [hsq80]; exact Nat.le_trans HC79.out.2.size hb80.size)
     have GEr80 := Lib.hid (show wr.heap.size ≤ rrr80 from by rw [hsr80]; exact Nat.le_succ_of_le (Nat.le_trans HC79.out.2.size hb80.size))
     clear pm0 pm1 pc0 pc1
     clear hv80 hl80 hW80 hb80 hsq80 hq80 hsr80 hr80 HC79
     go_upto_region 6 with fail
     rw [← HW80.out]
     rw [← HRr80.out]
     rw [← HRq80.out]
     clear HW80 HRq80 HRr80
     obtain ⟨prest0, prest1⟩ : Two Wq80 rrr79 (.bool rb79) (.slice rA79 rn79 rc79) := (HC80.out.1.all 2 _ rfl).lies rfl
     go_wp2_with fail
     refine (HS1.out _ _ ((HC80.out.1.all 2 _ rfl).at_)).mono ?_
     rintro e wq81 ⟨rfl, hb81⟩
     have HC81 := Lib.hid (And.intro (HC80.out.1.step hb81 rfl) (below_then HC80.out.2 hb81))
     clear prest0 prest1
     clear hb81 HC80
     obtain ⟨pl0, pl1⟩ : Two wq81 rrq79 (.bool qb79) (.slice qA79 qn79 qc79) := (HC81.out.1.all 3 _ rfl).lies rfl
     have ho8 := (HO.out.1.step HC81.out.2 rfl).alloc (.cells #[.bool qb79, .slice qA79 qn79 qc79] 31)
     have hi8 := (HO.out.2.step HC81.out.2 rfl).alloc (.cells #[.bool qb79, .slice qA79 qn79 qc79] 31)
     have ha8 : Away ov [⟨true, rrr80, rb80, rA80, rn80, rc80, false, none, 0, 0, r2, 0, 0⟩, ⟨true, rrq80, qb80, qA80, qn80, qc80, false, none, 0, 0, q2, 0, 0⟩, ⟨true, rrr79, rb79, rA79, rn79, rc79, false, none, 0, 0, r1, 0, 0⟩, ⟨true, rrq79, qb79, qA79, qn79, qc79, false, none, 0, 0, q1, 0, 0⟩, ⟨true, rc, bc, Ac, nc, cc, false, none, 0, 0, k0, 0, 0⟩, ⟨true, rm, bm, Am, nm, cm, false, none, 0, 0, y0, 0, 0⟩, ⟨true, rd, bd, Ad, nd, cd, false, none, 0, 0, e0, 0, 0⟩, ⟨true, rn, bn, An, nn, cn, false, none, 0, 0, n0, 0, 0⟩, ⟨true, (w.heap.size + 1 + 1), false, none, 0, 0, false, none, 0, 0, 0, 1, 3⟩, ⟨true, (w.heap.size + 1), b2, A2, n2, c2, bb2, AA2, nn2, cc2, y, e, 3⟩, ⟨true, w.heap.size, b1, A1, n1, c1, bb1, AA1, nn1, cc1, x, d, 3⟩] := (((HAW.out.new HO.out.1 GEq79.out).new HO.out.1 GEr79.out).new HO.out.1 GEq80.out).new HO.out.1 GEr80.out
     obtain ⟨z0, zi, z1, z2, z3⟩ := info_parts info_Int
     have H8 := Lib.hid (And.intro ho8 (And.intro hi8 ha8))
     have hsz8 : w.heap.size ≤ wq81.heap.size := Nat.le_trans hWr HC81.out.2.size
     have ht8 : t ≤ 100000 := by have := HSL.out.2.2; omega
     have HI := Lib.hid (And.intro zi (And.intro z1 (And.intro z2 z3)))
     clear ho8 hi8 ha8 zi z1 z2 z3
     go_upto_region 9 with (at_builtin; go_loud (refine wpList_append_c rfl _ _ 78 rfl w.heap.size 31 z0 (.agg #[.bool false, .slice none 0 0]) 2 32 und_Ints HI.out.1 HI.out.2.1 HI.out.2.2.1 HI.out.2.2.2 rfl (by decide) _ t xs rfl H8.out.1 ⟨wq81.heap.size, 0, none⟩ 1 1 [.bool qb79, .slice qA79 qn79 qc79] rfl rfl (two_new _ _ _ _) (by simp [Value.oneCell']) (by unfold maxLen; omega) (by omega) (by simp; omega) (by decide) (noint2 _ _ _ _) (noint2 _ _ _ _) ?_); intro v3 w3 hown3 hg3 hat3)
     have fv3 : FVars w.heap.size w3 [⟨true, rrr80, rb80, rA80, rn80, rc80, false, none, 0, 0, r2, 0, 0⟩, ⟨true, rrq80, qb80, qA80, qn80, qc80, false, none, 0, 0, q2, 0, 0⟩, ⟨true, rrr79, rb79, rA79, rn79, rc79, false, none, 0, 0, r1, 0, 0⟩, ⟨true, rrq79, qb79, qA79, qn79, qc79, false, none, 0, 0, q1, 0, 0⟩, ⟨true, rc, bc, Ac, nc, cc, false, none, 0, 0, k0, 0, 0⟩, ⟨true, rm, bm, Am, nm, cm, false, none, 0, 0, y0, 0, 0⟩, ⟨true, rd, bd, Ad, nd, cd, false, none, 0, 0, e0, 0, 0⟩, ⟨true, rn, bn, An, nn, cn, false, none, 0, 0, n0, 0, 0⟩, ⟨true, (w.heap.size + 1 + 1), false, none, 0, 0, false, none, 0, 0, 0, 1, 3⟩, ⟨true, (w.heap.size + 1), b2, A2, n2, c2, bb2, AA2, nn2, cc2, y, e, 3⟩, ⟨true, w.heap.size, b1, A1, n1, c1, bb1, AA1, nn1, cc1, x, d, 3⟩] := (HC81.out.1.alloc _).grown H8.out.1 hg3 H8.out.2.2
     have in3 : Ints w3 (xs ++ [.bool qb79, .slice qA79 qn79 qc79]) (L t ++ [q1]) := (H8.out.2.1.safe (grown_safe H8.out.1 hg3)).snoc (fv3.all 3 _ rfl).at_
     have aw3 : Away v3 [⟨true, rrr80, rb80, rA80, rn80, rc80, false, none, 0, 0, r2, 0, 0⟩, ⟨true, rrq80, qb80, qA80, qn80, qc80, false, none, 0, 0, q2, 0, 0⟩, ⟨true, rrr79, rb79, rA79, rn79, rc79, false, none, 0, 0, r1, 0, 0⟩, ⟨true, rrq79, qb79, qA79, qn79, qc79, false, none, 0, 0, q1, 0, 0⟩, ⟨true, rc, bc, Ac, nc, cc, false, none, 0, 0, k0, 0, 0⟩, ⟨true, rm, bm, Am, nm, cm, false, none, 0, 0, y0, 0, 0⟩, ⟨true, rd, bd, Ad, nd, cd, false, none, 0, 0, e0, 0, 0⟩, ⟨true, rn, bn, An, nn, cn, false, none, 0, 0, n0, 0, 0⟩, ⟨true, (w.heap.size + 1 + 1), false, none, 0, 0, false, none, 0, 0, 0, 1, 3⟩, ⟨true, (w.heap.size + 1), b2, A2, n2, c2, bb2, AA2, nn2, cc2, y, e, 3⟩, ⟨true, w.heap.size, b1, A1, n1, c1, bb1, AA1, nn1, cc1, x, d, 3⟩] := Away.grown (HC81.out.1.alloc _) H8.out.2.2 hat3
     have bw3 : Below w.heap.size w w3 := ((below_then HBW.out HC81.out.2).alloc hsz8 _).grown hg3 (by simp; omega) (fun k hk => (H8.out.1.1.lt k hk).1)
     have hW3 : w.heap.size ≤ w3.heap.size := bw3.size
     have HO3 := Lib.hid (And.intro hown3 in3)
     have HAW3 := Lib.hid aw3
     have HB3 := Lib.hid bw3
     have HC3 := Lib.hid (And.intro fv3 (Below.refl w3.heap.size w3))
     clear fv3 in3 aw3 bw3 hown3 hg3 hat3 H8 hsz8 HI pl0 pl1 HC81
     obtain ⟨prest0, prest1⟩ : Two w3 rrr79 (.bool rb79) (.slice rA79 rn79 rc79) := (HC3.out.1.all 2 _ rfl).lies rfl
     go_wp2_with fail
     refine (HS1.out _ _ ((HC3.out.1.all 2 _ rfl).at_)).mono ?_
     rintro e wq83 ⟨rfl, hb83⟩
     have HC83 := Lib.hid (And.intro (HC3.out.1.step hb83 rfl) (below_then HC3.out.2 hb83))
     clear prest0 prest1
     clear hb83 HC3
     have IR := Lib.hid (show IRow wq83 v3 (L T ++ [z]) from by rw [HG.out.2.1, ← HG.out.2.2]; exact (HO3.out.1.step HC83.out.2 rfl).row (HO3.out.2.step HC83.out.2 rfl) (by simp [HSL.out.2.1]) (by omega))
     go_wp2_with fail
     refine (HCN.out _ _ IR.out).mono ?_
     rintro e wq84 ⟨qv84, rfl, hq84, hb84⟩
     obtain ⟨qb84, qA84, qn84, qc84, qbb84, qAA84, qnn84, qcc84, rfl, hq84⟩ := open3 hq84
     have hv84 := (FVars.told (FVars.step HC83.out.1 hb84 rfl) (t := ⟨false, 0, qb84, qA84, qn84, qc84, qbb84, qAA84, qnn84, qcc84, X, D, 3⟩) hq84 rfl).laid4 38 (show 3 ≤ 3 from by decide) (Nat.le_trans hW3 (Nat.le_trans HC83.out.2.size hb84.size))
     have hl84 : Below w3.heap.size w3 (wq84.alloc (.cells #[.bool qb84, .slice qA84 qn84 qc84, .bool qbb84, .slice qAA84 qnn84 qcc84] 38)) := ((below_then HC83.out.2 hb84).alloc (Nat.le_trans HC83.out.2.size hb84.size) (.cells #[.bool qb84, .slice qA84 qn84 qc84, .bool qbb84, .slice qAA84 qnn84 qcc84] 38))
     obtain ⟨Wq84, hW84⟩ : ∃ W : World, W = wq84.alloc (.cells #[.bool qb84, .slice qA84 qn84 qc84, .bool qbb84, .slice qAA84 qnn84 qcc84] 38) := ⟨_, rfl⟩
     obtain ⟨rrq84, hsq84⟩ : ∃ r : Nat, r = wq84.heap.size := ⟨_, rfl⟩
     rw [← hW84] at hv84 hl84
     rw [← hsq84] at hv84
     have HC84 := Lib.hid (And.intro hv84 hl84)
     have HW84 := Lib.hid hW84
     have HRq84 := Lib.hid hsq84
     clear hv84 hl84 hW84 hb84 hsq84 hq84 HC83
     go_upto_region 11 with fail
     rw [← HW84.out]
     rw [← HRq84.out]
     clear HW84 HRq84
     have HW985 := Lib.hid (And.intro HC84.out.1 (below_then HB3.out HC84.out.2))
     obtain ⟨px0, px1, px2, px3⟩ : Quad Wq84 rrq84 (.bool qb84) (.slice qA84 qn84 qc84) (.bool qbb84) (.slice qAA84 qnn84 qcc84) := (HW985.out.1.all 0 _ rfl).lies rfl
     obtain ⟨ka0, ka1, ka2, ka3⟩ : Quad Wq84 (w.heap.size + 1 + 1) (.bool false) (.slice none 0 0) (.bool false) (.slice none 0 0) := (HW985.out.1.all 9 _ rfl).lies rfl
     have kf0 := (HW985.out.1.all 9 _ rfl).frz rfl 0
     have kf1 := (HW985.out.1.all 9 _ rfl).frz rfl 1
     have kf2 := (HW985.out.1.all 9 _ rfl).frz rfl 2
     have kf3 := (HW985.out.1.all 9 _ rfl).frz rfl 3
     have hu86 := FVars.over4 HW985.out.1 9 (s := ⟨true, (w.heap.size + 1 + 1), false, none, 0, 0, false, none, 0, 0, 0, 1, 3⟩) (t := ⟨false, 0, qb84, qA84, qn84, qc84, qbb84, qAA84, qnn84, qcc84, X, D, 3⟩) rfl rfl (show 3 ≤ 3 from by decide) (show 3 ≤ 3 from by decide) ((HW985.out.1.all 0 _ rfl).at_)
     have HE : Hid (FVars w.heap.size (put4 Wq84 (w.heap.size + 1 + 1) (.bool qb84) (.slice qA84 qn84 qc84) (.bool qbb84) (.slice qAA84 qnn84 qcc84)) [⟨true, rrq84, qb84, qA84, qn84, qc84, qbb84, qAA84, qnn84, qcc84, X, D, 3⟩, ⟨true, rrr80, rb80, rA80, rn80, rc80, false, none, 0, 0, r2, 0, 0⟩, ⟨true, rrq80, qb80, qA80, qn80, qc80, false, none, 0, 0, q2, 0, 0⟩, ⟨true, rrr79, rb79, rA79, rn79, rc79, false, none, 0, 0, r1, 0, 0⟩, ⟨true, rrq79, qb79, qA79, qn79, qc79, false, none, 0, 0, q1, 0, 0⟩, ⟨true, rc, bc, Ac, nc, cc, false, none, 0, 0, k0, 0, 0⟩, ⟨true, rm, bm, Am, nm, cm, false, none, 0, 0, y0, 0, 0⟩, ⟨true, rd, bd, Ad, nd, cd, false, none, 0, 0, e0, 0, 0⟩, ⟨true, rn, bn, An, nn, cn, false, none, 0, 0, n0, 0, 0⟩, ⟨true, (w.heap.size + 1 + 1), qb84, qA84, qn84, qc84, qbb84, qAA84, qnn84, qcc84, X, D, 3⟩, ⟨true, (w.heap.size + 1), b2, A2, n2, c2, bb2, AA2, nn2, cc2, y, e, 3⟩, ⟨true, w.heap.size, b1, A1, n1, c1, bb1, AA1, nn1, cc1, x, d, 3⟩] ∧ Below w.heap.size w (put4 Wq84 (w.heap.size + 1 + 1) (.bool qb84) (.slice qA84 qn84 qc84) (.bool qbb84) (.slice qAA84 qnn84 qcc84))) := Lib.hid (And.intro hu86 ((((HW985.out.2.setCell (p := ⟨(w.heap.size + 1 + 1), 0, none⟩) (HW985.out.1.up 9 _ rfl rfl) _).setCell (p := ⟨(w.heap.size + 1 + 1), 1, none⟩) (HW985.out.1.up 9 _ rfl rfl) _).setCell (p := ⟨(w.heap.size + 1 + 1), 2, none⟩) (HW985.out.1.up 9 _ rfl rfl) _).setCell (p := ⟨(w.heap.size + 1 + 1), 3, none⟩) (HW985.out.1.up 9 _ rfl rfl) _))
     clear hu86
     go_wp2
     obtain ⟨e0, e1, e2, e3⟩ : Quad (put4 Wq84 (w.heap.size + 1 + 1) (.bool qb84) (.slice qA84 qn84 qc84) (.bool qbb84) (.slice qAA84 qnn84 qcc84)) (w.heap.size + 1 + 1) (.bool qb84) (.slice qA84 qn84 qc84) (.bool qbb84) (.slice qAA84 qnn84 qcc84) := (HE.out.1.all 9 _ rfl).lies rfl
     unfold put4 at e0 e1 e2 e3
     refine bodyPost_ret (v := (.agg #[.bool qb84, .slice qA84 qn84 qc84, .bool qbb84, .slice qAA84 qnn84 qcc84])) (by simp [results, Tryz.results105, go_sem, e0, e1, e2, e3]) rfl ?_
     exact ⟨_, rfl, (HE.out.1.all 9 _ rfl).at_, HE.out.2⟩
   ·
     have hs1 : r1.sign = 1 := Int.sign_eq_one_of_pos (by have := HPR.out.1; omega)
     have hcc := cmp_neg g2
     have HS1 := Lib.hid (And.intro (show ∀ v w, IntAt w v r1 → Calls Tryz.prog 64 #[v] w fun e w' => IsNum w w' 1 e from hs1 ▸ HS.out.1) (show ∀ v1 v2 w, IntAt w v1 q1 → IntAt w v2 q2 → Calls Tryz.prog 63 #[v1, v2] w fun e w' => IsNum w w' (-1) e from hcc ▸ HS.out.2.1))
     have HG := Lib.hid (And.intro g1 (And.intro g2 (And.intro g3 g4)))
     clear g1 g2 g3 hs1 g4 hcc
     obtain ⟨pn0, pn1⟩ : Two wr rn (.bool bn) (.slice An nn cn) := (HC0.out.1.all 3 _ rfl).lies rfl
     obtain ⟨pd0, pd1⟩ : Two wr rd (.bool bd) (.slice Ad nd cd) := (HC0.out.1.all 2 _ rfl).lies rfl
     go_wp2_with fail
     refine (HA.out.1 _ _ _ ((HC0.out.1.all 3 _ rfl).at_) ((HC0.out.1.all 2 _ rfl).at_)).mono ?_
     rintro e wq87 ⟨qv87, rv87, rfl, hq87, hr87, hb87⟩
     obtain ⟨qb87, qA87, qn87, qc87, rfl, hq87⟩ := open0 hq87
     obtain ⟨rb87, rA87, rn87, rc87, rfl, hr87⟩ := open0 hr87
     have hv87 := (((FVars.told (FVars.told (FVars.step HC0.out.1 hb87 rfl) (t := ⟨false, 0, rb87, rA87, rn87, rc87, false, none, 0, 0, r1, 0, 0⟩) hr87 rfl) (t := ⟨false, 0, qb87, qA87, qn87, qc87, false, none, 0, 0, q1, 0, 0⟩) hq87 rfl).laid2 31 lyK (Nat.le_trans hWr (Nat.le_trans HC0.out.2.size hb87.size))).swap).laid2 31 lyK (Nat.le_trans hWr (Nat.le_trans (Nat.le_trans HC0.out.2.size hb87.size) (by simp)))
     rw [size_alloc] at hv87
     have hl87 : Below wr.heap.size wr ((wq87.alloc (.cells #[.bool qb87, .slice qA87 qn87 qc87] 31)).alloc (.cells #[.bool rb87, .slice rA87 rn87 rc87] 31)) := (((below_then HC0.out.2 hb87).alloc (Nat.le_trans HC0.out.2.size hb87.size) (.cells #[.bool qb87, .slice qA87 qn87 qc87] 31)).alloc (Nat.le_trans (Nat.le_trans HC0.out.2.size hb87.size) (by simp)) (.cells #[.bool rb87, .slice rA87 rn87 rc87] 31))
     obtain ⟨Wq87, hW87⟩ : ∃ W : World, W = (wq87.alloc (.cells #[.bool qb87, .slice qA87 qn87 qc87] 31)).alloc (.cells #[.bool rb87, .slice rA87 rn87 rc87] 31) := ⟨_, rfl⟩
     obtain ⟨rrq87, hsq87⟩ : ∃ r : Nat, r = wq87.heap.size := ⟨_, rfl⟩
     obtain ⟨rrr87, hsr87⟩ : ∃ r : Nat, r = wq87.heap.size + 1 := ⟨_, rfl⟩
     rw [← hW87] at hv87 hl87
     rw [← hsr87] at hv87
     rw [← hsq87] at hv87
     have HC87 := Lib.hid (And.intro hv87 hl87)
     have HW87 := Lib.hid hW87
     have HRq87 := Lib.hid hsq87
     have HRr87 := Lib.hid hsr87
     have GEq87 := Lib.hid (show wr.heap.size ≤ rrq87 from by rw [hsq87]; exact Nat.le_trans HC0.out.2.size hb87.size)
     have GEr87 := Lib.hid (show wr.heap.size ≤ rrr87 from by rw [hsr87]; exact Nat.le_succ_of_le (Nat.le_trans HC0.out.2.size hb87.size))
     clear pn0 pn1 pd0 pd1
     clear hv87 hl87 hW87 hb87 hsq87 hq87 hsr87 hr87 HC0
     go_upto_region 5 with fail
     rw [← HW87.out]
     rw [← HRr87.out]
     rw [← HRq87.out]
     clear HW87 HRq87 HRr87
     obtain ⟨pm0, pm1⟩ : Two Wq87 rm (.bool bm) (.slice Am nm cm) := (HC87.out.1.all 3 _ rfl).lies rfl
     obtain ⟨pc0, pc1⟩ : Two Wq87 rc (.bool bc) (.slice Ac nc cc) := (HC87.out.1.all 2 _ rfl).lies rfl
     go_wp2_with fail
     refine (HA.out.2 _ _ _ ((HC87.out.1.all 3 _ rfl).at_) ((HC87.out.1.all 2 _ rfl).at_)).mono ?_
     rintro e wq88 ⟨qv88, rv88, rfl, hq88, hr88, hb88⟩
     obtain ⟨qb88, qA88, qn88, qc88, rfl, hq88⟩ := open0 hq88
     obtain ⟨rb88, rA88, rn88, rc88, rfl, hr88⟩ := open0 hr88
     have hv88 := (((FVars.told (FVars.told (FVars.step HC87.out.1 hb88 rfl) (t := ⟨false, 0, rb88, rA88, rn88, rc88, false, none, 0, 0, r2, 0, 0⟩) hr88 rfl) (t := ⟨false, 0, qb88, qA88, qn88, qc88, false, none, 0, 0, q2, 0, 0⟩) hq88 rfl).laid2 31 lyK (Nat.le_trans hWr (Nat.le_trans HC87.out.2.size hb88.size))).swap).laid2 31 lyK (Nat.le_trans hWr (Nat.le_trans (Nat.le_trans HC87.out.2.size hb88.size) (by simp)))
     rw [size_alloc] at hv88
     have hl88 : Below wr.heap.size wr ((wq88.alloc (.cells #[.bool qb88, .slice qA88 qn88 qc88] 31)).alloc (.cells #[.bool rb88, .slice rA88 rn88 rc88] 31)) := (((below_then HC87.out.2 hb88).alloc (Nat.le_trans HC87.out.2.size hb88.size) (.cells #[.bool qb88, .slice qA88 qn88 qc88] 31)).alloc (Nat.le_trans (Nat.le_trans HC87.out.2.size hb88.size) (by simp)) (.cells #[.bool rb88, .slice rA88 rn88 rc88] 31))
     obtain ⟨Wq88, hW88⟩ : ∃ W : World, W = (wq88.alloc (.cells #[.bool qb88, .slice qA88 qn88 qc88] 31)).alloc (.cells #[.bool rb88, .slice rA88 rn88 rc88] 31) := ⟨_, rfl⟩
     obtain ⟨rrq88, hsq88⟩ : ∃ r : Nat, r = wq88.heap.size := ⟨_, rfl⟩
     obtain ⟨rrr88, hsr88⟩ : ∃ r : Nat, r = wq88.heap.size + 1 := ⟨_, rfl⟩
     rw [← hW88] at hv88 hl88
     rw [← hsr88] at hv88
     rw [← hsq88] at hv88
     have HC88 := Lib.hid (And.intro hv88 hl88)
     have HW88 := Lib.hid hW88
     have HRq88 := Lib.hid hsq88
     have HRr88 := Lib.hid hsr88
     have GEq88 := Lib.hid (show wr.heap.size ≤ rrq88 from by rw [hsq88]; exact Nat.le_trans HC87.out.2.size hb88.size)
     have GEr88 := Lib.hid (show wr.heap.size ≤ rrr88 from by rw [hsr88]; exact Nat.le_succ_of_le (Nat.le_trans HC87.out.2.size hb88.size))
     clear pm0 pm1 pc0 pc1
     clear hv88 hl88 hW88 hb88 hsq88 hq88 hsr88 hr88 HC87
     go_upto_region 6 with fail
     rw [← HW88.out]
     rw [← HRr88.out]
     rw [← HRq88.out]
     clear HW88 HRq88 HRr88
     obtain ⟨prest0, prest1⟩ : Two Wq88 rrr87 (.bool rb87) (.slice rA87 rn87 rc87) := (HC88.out.1.all 2 _ rfl).lies rfl
     go_wp2_with fail
     refine (HS1.out.1 _ _ ((HC88.out.1.all 2 _ rfl).at_)).mono ?_
     rintro e wq89 ⟨rfl, hb89⟩
     have HC89 := Lib.hid (And.intro (HC88.out.1.step hb89 rfl) (below_then HC88.out.2 hb89))
     clear prest0 prest1
     clear hb89 HC88
     obtain ⟨pleast0, pleast1⟩ : Two wq89 rrq87 (.bool qb87) (.slice qA87 qn87 qc87) := (HC89.out.1.all 3 _ rfl).lies rfl
     obtain ⟨pgreat0, pgreat1⟩ : Two wq89 rrq88 (.bool qb88) (.slice qA88 qn88 qc88) := (HC89.out.1.all 1 _ rfl).lies rfl
     go_wp2_with fail
     refine (HS1.out.2 _ _ _ ((HC89.out.1.all 3 _ rfl).at_) ((HC89.out.1.all 1 _ rfl).at_)).mono ?_
     rintro e wq90 ⟨rfl, hb90⟩
     have HC90 := Lib.hid (And.intro (HC89.out.1.step hb90 rfl) (below_then HC89.out.2 hb90))
     clear pleast0 pleast1 pgreat0 pgreat1
     clear hb90 HC89
     go_upto_region 7 with fail
     go_cut [9] from 24 to 65 (fun s9 wx => ov = s9 ∧ ∃ (bl : Bool) (Al : Option Addr) (nl cl : Nat), FVars w.heap.size wx [⟨true, rrr88, rb88, rA88, rn88, rc88, false, none, 0, 0, r2, 0, 0⟩, ⟨true, rrq88, qb88, qA88, qn88, qc88, false, none, 0, 0, q2, 0, 0⟩, ⟨true, rrr87, false, none, 0, 0, false, none, 0, 0, 0, 0, 0⟩, ⟨true, rrq87, bl, Al, nl, cl, false, none, 0, 0, q3, 0, 0⟩, ⟨true, rc, bc, Ac, nc, cc, false, none, 0, 0, k0, 0, 0⟩, ⟨true, rm, bm, Am, nm, cm, false, none, 0, 0, y0, 0, 0⟩, ⟨true, rd, bd, Ad, nd, cd, false, none, 0, 0, e0, 0, 0⟩, ⟨true, rn, bn, An, nn, cn, false, none, 0, 0, n0, 0, 0⟩, ⟨true, (w.heap.size + 1 + 1), false, none, 0, 0, false, none, 0, 0, 0, 1, 3⟩, ⟨true, (w.heap.size + 1), b2, A2, n2, c2, bb2, AA2, nn2, cc2, y, e, 3⟩, ⟨true, w.heap.size, b1, A1, n1, c1, bb1, AA1, nn1, cc1, x, d, 3⟩] ∧ Below wr.heap.size wr wx)
     case first => as_aux_lemma =>
      have HD91 := Lib.hid (And.intro HC90.out.1.drew HC90.out.2.drew)
      refine wp_region_held_drew (S := fun w' => True) (by kernel_rfl) (trivial) (fun hH0 => ?_)
      refine wpAnyH_take (i := 3) (v := (.agg #[.bool false, .slice none 0 0])) rfl (by kernel_rfl) (by kernel_rfl) (by kernel_rfl) (fun _ _ _ h => h) (Or.inl ⟨by kernel_rfl, ?y77⟩) hH0 ?r78
      case y77 => (intro w0 hS0; go_simp <;> with_reducible rfl)
      change wpAnyH _ _ _ _ _ _ _ (Act.put _ (some 48) _) _
      simp only [Act.put, lyA, lyZ, lyS]
      refine wpAnyH_ready (rs := [0, 1]) (by kernel_rfl) (by simp) ?_
      refine AllReadyH.cons rfl (fun K hK0 => ?d79) (AllReadyH.cons rfl (fun K hK0 => ?d80) (AllReadyH.nil))
      case d79 =>
       have hK := hK0.out
       clear hK0
       rw [if_pos (by kernel_rfl)]
       refine wp_go_val (.agg #[.bool qb87, .slice qA87 qn87 qc87]) (load0 ((HD91.out.1.all 3 _ rfl).lies rfl) (.tmp 10) (by kernel_rfl) (by kernel_rfl)) ?_
       have HD92 := Lib.hid (And.intro (FVars.told HD91.out.1 (t := ⟨false, 0, qb87, qA87, qn87, qc87, false, none, 0, 0, q1, 0, 0⟩) (HD91.out.1.all 3 _ rfl).at_ rfl) HD91.out.2)
       refine hK _ _ (trivial) (fun hH92 => ?_)
       clear hK K hH0
       change wpAnyH _ _ _ _ _ _ _ (Act.put _ (some 45) _) _
       simp only [Act.put, lyA, lyZ, lyS]
       refine wpAnyH_ready (rs := [1]) (by kernel_rfl) (by simp) ?_
       refine AllReadyH.cons rfl (fun K hK0 => ?d81) (AllReadyH.nil)
       have hK := hK0.out
       clear hK0
       rw [if_pos (by kernel_rfl)]
       refine wp_go_call 65 #[(Value.int IntKind.i64 1)] (fun _ => by kernel_rfl) ((New_pos 1 _ (by decide)).mono ?_)
       rintro e wq93 ⟨qv93, rfl, hq93, hb93⟩
       obtain ⟨qb93, qA93, qn93, qc93, rfl, hq93⟩ := open0 hq93
       have HD93 := Lib.hid (And.intro (FVars.told (HD92.out.1.step hb93 rfl) (t := ⟨false, 0, qb93, qA93, qn93, qc93, false, none, 0, 0, 1, 0, 0⟩) hq93 rfl) (below_then HD92.out.2 hb93))
       clear hq93 hb93 HD92
       refine ⟨(.agg #[.bool qb93, .slice qA93 qn93 qc93]), rfl, hK _ _ (trivial) (fun hH93 => ?_)⟩
       clear hK K hH92
       change wpAnyH _ _ _ _ _ _ _ (Act.put _ (some 46) _) _
       simp only [Act.put, lyA, lyZ, lyS]
       refine wpAnyH_ready (rs := [2]) (by kernel_rfl) (by simp) ?_
       refine AllReadyH.cons rfl (fun K hK0 => ?d82) (AllReadyH.nil)
       have hK := hK0.out
       clear hK0
       rw [if_pos (by kernel_rfl)]
       refine wp_go_call 97 #[(.agg #[.bool qb87, .slice qA87 qn87 qc87]), (.agg #[.bool qb93, .slice qA93 qn93 qc93])] (fun _ => by kernel_rfl) ((HS.out.2.2.1 _ _ _ ((HD93.out.1.all 5 _ rfl).at_) ((HD93.out.1.all 0 _ rfl).at_)).mono ?_)
       rintro e wq94 ⟨qv94, rfl, hq94, hb94⟩
       obtain ⟨qb94, qA94, qn94, qc94, rfl, hq94⟩ := open0 hq94
       have HD94 := Lib.hid (And.intro (FVars.told (HD93.out.1.step hb94 rfl) (t := ⟨false, 0, qb94, qA94, qn94, qc94, false, none, 0, 0, q3, 0, 0⟩) hq94 rfl) (below_then HD93.out.2 hb94))
       clear hq94 hb94 HD93
       refine ⟨(.agg #[.bool qb94, .slice qA94 qn94 qc94]), rfl, hK _ _ (trivial) (fun hH94 => ?_)⟩
       clear hK K hH93
       change wpAnyH _ _ _ _ _ _ _ (Act.put _ (some 47) _) _
       simp only [Act.put, lyA, lyZ, lyS]
       refine wpAnyH_ready (rs := [4]) (by kernel_rfl) (by simp) ?_
       refine AllReadyH.cons rfl (fun K hK0 => ?d83) (AllReadyH.nil)
       have hK := hK0.out
       clear hK0
       rw [if_pos (by kernel_rfl)]
       refine wp_go_skip (store0 ((HD94.out.1.all 6 _ rfl).lies rfl) ((HD94.out.1.all 6 _ rfl).frz rfl) qb94 qA94 qn94 qc94 (.tmp 10) (.tmp 47) (by kernel_rfl) (by kernel_rfl) (by kernel_rfl)) ?_
       have hu95 := FVars.over2 HD94.out.1 6 (s := ⟨true, rrq87, qb87, qA87, qn87, qc87, false, none, 0, 0, q1, 0, 0⟩) (t := ⟨false, 0, qb94, qA94, qn94, qc94, false, none, 0, 0, q3, 0, 0⟩) rfl rfl lyK lyK ((HD94.out.1.all 0 _ rfl).at_)
       have hv95 : FVars w.heap.size (put2 (wq94) rrq87 (.bool qb94) (.slice qA94 qn94 qc94)) [⟨false, 0, qb94, qA94, qn94, qc94, false, none, 0, 0, q3, 0, 0⟩, ⟨false, 0, qb93, qA93, qn93, qc93, false, none, 0, 0, 1, 0, 0⟩, ⟨false, 0, qb87, qA87, qn87, qc87, false, none, 0, 0, q1, 0, 0⟩, ⟨true, rrr88, rb88, rA88, rn88, rc88, false, none, 0, 0, r2, 0, 0⟩, ⟨true, rrq88, qb88, qA88, qn88, qc88, false, none, 0, 0, q2, 0, 0⟩, ⟨true, rrr87, rb87, rA87, rn87, rc87, false, none, 0, 0, r1, 0, 0⟩, ⟨true, rrq87, qb94, qA94, qn94, qc94, false, none, 0, 0, q3, 0, 0⟩, ⟨true, rc, bc, Ac, nc, cc, false, none, 0, 0, k0, 0, 0⟩, ⟨true, rm, bm, Am, nm, cm, false, none, 0, 0, y0, 0, 0⟩, ⟨true, rd, bd, Ad, nd, cd, false, none, 0, 0, e0, 0, 0⟩, ⟨true, rn, bn, An, nn, cn, false, none, 0, 0, n0, 0, 0⟩, ⟨true, (w.heap.size + 1 + 1), false, none, 0, 0, false, none, 0, 0, 0, 1, 3⟩, ⟨true, (w.heap.size + 1), b2, A2, n2, c2, bb2, AA2, nn2, cc2, y, e, 3⟩, ⟨true, w.heap.size, b1, A1, n1, c1, bb1, AA1, nn1, cc1, x, d, 3⟩] := hu95
       clear hu95
       have hl95 : Below wr.heap.size wr (put2 (wq94) rrq87 (.bool qb94) (.slice qA94 qn94 qc94)) := (HD94.out.2.setCell (p := ⟨rrq87, 0, none⟩) GEq87.out _).setCell (p := ⟨rrq87, 1, none⟩) GEq87.out _
       generalize (put2 (wq94) rrq87 (.bool qb94) (.slice qA94 qn94 qc94)) = Wn95 at hv95 hl95 ⊢
       have HD95 := Lib.hid (And.intro hv95 hl95)
       clear hv95 hl95
       refine hK _ _ (trivial) (fun hH95 => ?_)
       clear hK K hH94
       change wpAnyH _ _ _ _ _ _ _ (Act.put _ none _) _
       simp only [Act.put]
       refine wpAnyH_ready (rs := [5]) (by kernel_rfl) (by simp) ?_
       refine AllReadyH.cons rfl (fun K hK0 => ?d84) (AllReadyH.nil)
       have hK := hK0.out
       clear hK0
       rw [if_pos (by kernel_rfl)]
       refine wp_go_skip (store0 ((HD95.out.1.all 5 _ rfl).lies rfl) ((HD95.out.1.all 5 _ rfl).frz rfl) false none 0 0 (.tmp 11) (.tmp 48) (by kernel_rfl) (by kernel_rfl) (by kernel_rfl)) ?_
       have hu96 := FVars.over2 HD95.out.1 5 (s := ⟨true, rrr87, rb87, rA87, rn87, rc87, false, none, 0, 0, r1, 0, 0⟩) (t := ⟨false, 0, false, none, 0, 0, false, none, 0, 0, 0, 0, 0⟩) rfl rfl lyK lyK (zero0 _)
       have hv96 : FVars w.heap.size (put2 (Wn95) rrr87 (.bool false) (.slice none 0 0)) [⟨false, 0, qb94, qA94, qn94, qc94, false, none, 0, 0, q3, 0, 0⟩, ⟨false, 0, qb93, qA93, qn93, qc93, false, none, 0, 0, 1, 0, 0⟩, ⟨false, 0, qb87, qA87, qn87, qc87, false, none, 0, 0, q1, 0, 0⟩, ⟨true, rrr88, rb88, rA88, rn88, rc88, false, none, 0, 0, r2, 0, 0⟩, ⟨true, rrq88, qb88, qA88, qn88, qc88, false, none, 0, 0, q2, 0, 0⟩, ⟨true, rrr87, false, none, 0, 0, false, none, 0, 0, 0, 0, 0⟩, ⟨true, rrq87, qb94, qA94, qn94, qc94, false, none, 0, 0, q3, 0, 0⟩, ⟨true, rc, bc, Ac, nc, cc, false, none, 0, 0, k0, 0, 0⟩, ⟨true, rm, bm, Am, nm, cm, false, none, 0, 0, y0, 0, 0⟩, ⟨true, rd, bd, Ad, nd, cd, false, none, 0, 0, e0, 0, 0⟩, ⟨true, rn, bn, An, nn, cn, false, none, 0, 0, n0, 0, 0⟩, ⟨true, (w.heap.size + 1 + 1), false, none, 0, 0, false, none, 0, 0, 0, 1, 3⟩, ⟨true, (w.heap.size + 1), b2, A2, n2, c2, bb2, AA2, nn2, cc2, y, e, 3⟩, ⟨true, w.heap.size, b1, A1, n1, c1, bb1, AA1, nn1, cc1, x, d, 3⟩] := hu96
       clear hu96
       have hl96 : Below wr.heap.size wr (put2 (Wn95) rrr87 (.bool false) (.slice none 0 0)) := (HD95.out.2.setCell (p := ⟨rrr87, 0, none⟩) GEr87.out _).setCell (p := ⟨rrr87, 1, none⟩) GEr87.out _
       generalize (put2 (Wn95) rrr87 (.bool false) (.slice none 0 0)) = Wn96 at hv96 hl96 ⊢
       have HD96 := Lib.hid (And.intro hv96 hl96)
       clear hv96 hl96
       refine hK _ _ (trivial) (fun hH96 => ?_)
       clear hK K hH95
       change wpAnyH _ _ _ _ _ _ _ (Act.put _ none _) _
       simp only [Act.put]
       refine wpAnyH_done (by kernel_rfl) ?_ _
       go_wp2_with fail
       go_meet
       exact ⟨rfl, qb94, qA94, qn94, qc94, FVars.pick HD96.out.1 [3, 4, 5, 6, 7, 8, 9, 10, 11, 12, 13] (by decide) rfl, HD96.out.2⟩
      case d80 =>
       have hK := hK0.out
       clear hK0
       rw [if_pos (by kernel_rfl)]
       refine wp_go_call 65 #[(Value.int IntKind.i64 1)] (fun _ => by kernel_rfl) ((New_pos 1 _ (by decide)).mono ?_)
       rintro e wq97 ⟨qv97, rfl, hq97, hb97⟩
       obtain ⟨qb97, qA97, qn97, qc97, rfl, hq97⟩ := open0 hq97
       have HD97 := Lib.hid (And.intro (FVars.told (HD91.out.1.step hb97 rfl) (t := ⟨false, 0, qb97, qA97, qn97, qc97, false, none, 0, 0, 1, 0, 0⟩) hq97 rfl) (below_then HD91.out.2 hb97))
       clear hq97 hb97 HD91
       refine ⟨(.agg #[.bool qb97, .slice qA97 qn97 qc97]), rfl, hK _ _ (trivial) (fun hH97 => ?_)⟩
       clear hK K hH0
       change wpAnyH _ _ _ _ _ _ _ (Act.put _ (some 46) _) _
       simp only [Act.put, lyA, lyZ, lyS]
       refine wpAnyH_ready (rs := [0]) (by kernel_rfl) (by simp) ?_
       refine AllReadyH.cons rfl (fun K hK0 => ?d85) (AllReadyH.nil)
       have hK := hK0.out
       clear hK0
       rw [if_pos (by kernel_rfl)]
       refine wp_go_val (.agg #[.bool qb87, .slice qA87 qn87 qc87]) (load0 ((HD97.out.1.all 4 _ rfl).lies rfl) (.tmp 10) (by kernel_rfl) (by kernel_rfl)) ?_
       have HD98 := Lib.hid (And.intro (FVars.told HD97.out.1 (t := ⟨false, 0, qb87, qA87, qn87, qc87, false, none, 0, 0, q1, 0, 0⟩) (HD97.out.1.all 4 _ rfl).at_ rfl) HD97.out.2)
       refine hK _ _ (trivial) (fun hH98 => ?_)
       clear hK K hH97
       change wpAnyH _ _ _ _ _ _ _ (Act.put _ (some 45) _) _
       simp only [Act.put, lyA, lyZ, lyS]
       refine wpAnyH_ready (rs := [2]) (by kernel_rfl) (by simp) ?_
       refine AllReadyH.cons rfl (fun K hK0 => ?d86) (AllReadyH.nil)
       have hK := hK0.out
       clear hK0
       rw [if_pos (by kernel_rfl)]
       refine wp_go_call 97 #[(.agg #[.bool qb87, .slice qA87 qn87 qc87]), (.agg #[.bool qb97, .slice qA97 qn97 qc97])] (fun _ => by kernel_rfl) ((HS.out.2.2.1 _ _ _ ((HD98.out.1.all 5 _ rfl).at_) ((HD98.out.1.all 1 _ rfl).at_)).mono ?_)
       rintro e wq99 ⟨qv99, rfl, hq99, hb99⟩
       obtain ⟨qb99, qA99, qn99, qc99, rfl, hq99⟩ := open0 hq99
       have HD99 := Lib.hid (And.intro (FVars.told (HD98.out.1.step hb99 rfl) (t := ⟨false, 0, qb99, qA99, qn99, qc99, false, none, 0, 0, q3, 0, 0⟩) hq99 rfl) (below_then HD98.out.2 hb99))
       clear hq99 hb99 HD98
       refine ⟨(.agg #[.bool qb99, .slice qA99 qn99 qc99]), rfl, hK _ _ (trivial) (fun hH99 => ?_)⟩
       clear hK K hH98
       change wpAnyH _ _ _ _ _ _ _ (Act.put _ (some 47) _) _
       simp only [Act.put, lyA, lyZ, lyS]
       refine wpAnyH_ready (rs := [4]) (by kernel_rfl) (by simp) ?_
       refine AllReadyH.cons rfl (fun K hK0 => ?d87) (AllReadyH.nil)
       have hK := hK0.out
       clear hK0
       rw [if_pos (by kernel_rfl)]
       refine wp_go_skip (store0 ((HD99.out.1.all 6 _ rfl).lies rfl) ((HD99.out.1.all 6 _ rfl).frz rfl) qb99 qA99 qn99 qc99 (.tmp 10) (.tmp 47) (by kernel_rfl) (by kernel_rfl) (by kernel_rfl)) ?_
       have hu100 := FVars.over2 HD99.out.1 6 (s := ⟨true, rrq87, qb87, qA87, qn87, qc87, false, none, 0, 0, q1, 0, 0⟩) (t := ⟨false, 0, qb99, qA99, qn99, qc99, false, none, 0, 0, q3, 0, 0⟩) rfl rfl lyK lyK ((HD99.out.1.all 0 _ rfl).at_)
       have hv100 : FVars w.heap.size (put2 (wq99) rrq87 (.bool qb99) (.slice qA99 qn99 qc99)) [⟨false, 0, qb99, qA99, qn99, qc99, false, none, 0, 0, q3, 0, 0⟩, ⟨false, 0, qb87, qA87, qn87, qc87, false, none, 0, 0, q1, 0, 0⟩, ⟨false, 0, qb97, qA97, qn97, qc97, false, none, 0, 0, 1, 0, 0⟩, ⟨true, rrr88, rb88, rA88, rn88, rc88, false, none, 0, 0, r2, 0, 0⟩, ⟨true, rrq88, qb88, qA88, qn88, qc88, false, none, 0, 0, q2, 0, 0⟩, ⟨true, rrr87, rb87, rA87, rn87, rc87, false, none, 0, 0, r1, 0, 0⟩, ⟨true, rrq87, qb99, qA99, qn99, qc99, false, none, 0, 0, q3, 0, 0⟩, ⟨true, rc, bc, Ac, nc, cc, false, none, 0, 0, k0, 0, 0⟩, ⟨true, rm, bm, Am, nm, cm, false, none, 0, 0, y0, 0, 0⟩, ⟨true, rd, bd, Ad, nd, cd, false, none, 0, 0, e0, 0, 0⟩, ⟨true, rn, bn, An, nn, cn, false, none, 0, 0, n0, 0, 0⟩, ⟨true, (w.heap.size + 1 + 1), false, none, 0, 0, false, none, 0, 0, 0, 1, 3⟩, ⟨true, (w.heap.size + 1), b2, A2, n2, c2, bb2, AA2, nn2, cc2, y, e, 3⟩, ⟨true, w.heap.size, b1, A1, n1, c1, bb1, AA1, nn1, cc1, x, d, 3⟩] := hu100
       clear hu100
       have hl100 : Below wr.heap.size wr (put2 (wq99) rrq87 (.bool qb99) (.slice qA99 qn99 qc99)) := (HD99.out.2.setCell (p := ⟨rrq87, 0, none⟩) GEq87.out _).setCell (p := ⟨rrq87, 1, none⟩) GEq87.out _
       generalize (put2 (wq99) rrq87 (.bool qb99) (.slice qA99 qn99 qc99)) = Wn100 at hv100 hl100 ⊢
       have HD100 := Lib.hid (And.intro hv100 hl100)
       clear hv100 hl100
       refine hK _ _ (trivial) (fun hH100 => ?_)
       clear hK K hH99
       change wpAnyH _ _ _ _ _ _ _ (Act.put _ none _) _
       simp only [Act.put]
       refine wpAnyH_ready (rs := [5]) (by kernel_rfl) (by simp) ?_
       refine AllReadyH.cons rfl (fun K hK0 => ?d88) (AllReadyH.nil)
       have hK := hK0.out
       clear hK0
       rw [if_pos (by kernel_rfl)]
       refine wp_go_skip (store0 ((HD100.out.1.all 5 _ rfl).lies rfl) ((HD100.out.1.all 5 _ rfl).frz rfl) false none 0 0 (.tmp 11) (.tmp 48) (by kernel_rfl) (by kernel_rfl) (by kernel_rfl)) ?_
       have hu101 := FVars.over2 HD100.out.1 5 (s := ⟨true, rrr87, rb87, rA87, rn87, rc87, false, none, 0, 0, r1, 0, 0⟩) (t := ⟨false, 0, false, none, 0, 0, false, none, 0, 0, 0, 0, 0⟩) rfl rfl lyK lyK (zero0 _)
       have hv101 : FVars w.heap.size (put2 (Wn100) rrr87 (.bool false) (.slice none 0 0)) [⟨false, 0, qb99, qA99, qn99, qc99, false, none, 0, 0, q3, 0, 0⟩, ⟨false, 0, qb87, qA87, qn87, qc87, false, none, 0, 0, q1, 0, 0⟩, ⟨false, 0, qb97, qA97, qn97, qc97, false, none, 0, 0, 1, 0, 0⟩, ⟨true, rrr88, rb88, rA88, rn88, rc88, false, none, 0, 0, r2, 0, 0⟩, ⟨true, rrq88, qb88, qA88, qn88, qc88, false, none, 0, 0, q2, 0, 0⟩, ⟨true, rrr87, false, none, 0, 0, false, none, 0, 0, 0, 0, 0⟩, ⟨true, rrq87, qb99, qA99, qn99, qc99, false, none, 0, 0, q3, 0, 0⟩, ⟨true, rc, bc, Ac, nc, cc, false, none, 0, 0, k0, 0, 0⟩, ⟨true, rm, bm, Am, nm, cm, false, none, 0, 0, y0, 0, 0⟩, ⟨true, rd, bd, Ad, nd, cd, false, none, 0, 0, e0, 0, 0⟩, ⟨true, rn, bn, An, nn, cn, false, none, 0, 0, n0, 0, 0⟩, ⟨true, (w.heap.size + 1 + 1), false, none, 0, 0, false, none, 0, 0, 0, 1, 3⟩, ⟨true, (w.heap.size + 1), b2, A2, n2, c2, bb2, AA2, nn2, cc2, y, e, 3⟩, ⟨true, w.heap.size, b1, A1, n1, c1, bb1, AA1, nn1, cc1, x, d, 3⟩] := hu101
       clear hu101
       have hl101 : Below wr.heap.size wr (put2 (Wn100) rrr87 (.bool false) (.slice none 0 0)) := (HD100.out.2.setCell (p := ⟨rrr87, 0, none⟩) GEr87.out _).setCell (p := ⟨rrr87, 1, none⟩) GEr87.out _
       generalize (put2 (Wn100) rrr87 (.bool false) (.slice none 0 0)) = Wn101 at hv101 hl101 ⊢
       have HD101 := Lib.hid (And.intro hv101 hl101)
       clear hv101 hl101
       refine hK _ _ (trivial) (fun hH101 => ?_)
       clear hK K hH100
       change wpAnyH _ _ _ _ _ _ _ (Act.put _ none _) _
       simp only [Act.put]
       refine wpAnyH_done (by kernel_rfl) ?_ _
       go_wp2_with fail
       go_meet
       exact ⟨rfl, qb99, qA99, qn99, qc99, FVars.pick HD101.out.1 [3, 4, 5, 6, 7, 8, 9, 10, 11, 12, 13] (by decide) rfl, HD101.out.2⟩
     case rest =>
     obtain ⟨rfl, bl, Al, nl, cl, hv, hb⟩ := hcut
     have HV102 := Lib.hid (And.intro hv hb)
     clear hv hb HC90
     obtain ⟨pl0, pl1⟩ : Two wc rrq87 (.bool bl) (.slice Al nl cl) := (HV102.out.1.all 3 _ rfl).lies rfl
     have ho8 := (HO.out.1.step HV102.out.2 rfl).alloc (.cells #[.bool bl, .slice Al nl cl] 31)
     have hi8 := (HO.out.2.step HV102.out.2 rfl).alloc (.cells #[.bool bl, .slice Al nl cl] 31)
     have ha8 : Away ov [⟨true, rrr88, rb88, rA88, rn88, rc88, false, none, 0, 0, r2, 0, 0⟩, ⟨true, rrq88, qb88, qA88, qn88, qc88, false, none, 0, 0, q2, 0, 0⟩, ⟨true, rrr87, false, none, 0, 0, false, none, 0, 0, 0, 0, 0⟩, ⟨true, rrq87, bl, Al, nl, cl, false, none, 0, 0, q3, 0, 0⟩, ⟨true, rc, bc, Ac, nc, cc, false, none, 0, 0, k0, 0, 0⟩, ⟨true, rm, bm, Am, nm, cm, false, none, 0, 0, y0, 0, 0⟩, ⟨true, rd, bd, Ad, nd, cd, false, none, 0, 0, e0, 0, 0⟩, ⟨true, rn, bn, An, nn, cn, false, none, 0, 0, n0, 0, 0⟩, ⟨true, (w.heap.size + 1 + 1), false, none, 0, 0, false, none, 0, 0, 0, 1, 3⟩, ⟨true, (w.heap.size + 1), b2, A2, n2, c2, bb2, AA2, nn2, cc2, y, e, 3⟩, ⟨true, w.heap.size, b1, A1, n1, c1, bb1, AA1, nn1, cc1, x, d, 3⟩] := (((HAW.out.new HO.out.1 GEq87.out).new HO.out.1 GEr87.out).new HO.out.1 GEq88.out).new HO.out.1 GEr88.out
     obtain ⟨z0, zi, z1, z2, z3⟩ := info_parts info_Int
     have H8 := Lib.hid (And.intro ho8 (And.intro hi8 ha8))
     have hsz8 : w.heap.size ≤ wc.heap.size := Nat.le_trans hWr HV102.out.2.size
     have ht8 : t ≤ 100000 := by have := HSL.out.2.2; omega
     have HI := Lib.hid (And.intro zi (And.intro z1 (And.intro z2 z3)))
     clear ho8 hi8 ha8 zi z1 z2 z3
     go_upto_region 9 with (at_builtin; go_loud (refine wpList_append_c rfl _ _ 78 rfl w.heap.size 31 z0 (.agg #[.bool false, .slice none 0 0]) 2 32 und_Ints HI.out.1 HI.out.2.1 HI.out.2.2.1 HI.out.2.2.2 rfl (by decide) _ t xs rfl H8.out.1 ⟨wc.heap.size, 0, none⟩ 1 1 [.bool bl, .slice Al nl cl] rfl rfl (two_new _ _ _ _) (by simp [Value.oneCell']) (by unfold maxLen; omega) (by omega) (by simp; omega) (by decide) (noint2 _ _ _ _) (noint2 _ _ _ _) ?_); intro v3 w3 hown3 hg3 hat3)
     have fv3 : FVars w.heap.size w3 [⟨true, rrr88, rb88, rA88, rn88, rc88, false, none, 0, 0, r2, 0, 0⟩, ⟨true, rrq88, qb88, qA88, qn88, qc88, false, none, 0, 0, q2, 0, 0⟩, ⟨true, rrr87, false, none, 0, 0, false, none, 0, 0, 0, 0, 0⟩, ⟨true, rrq87, bl, Al, nl, cl, false, none, 0, 0, q3, 0, 0⟩, ⟨true, rc, bc, Ac, nc, cc, false, none, 0, 0, k0, 0, 0⟩, ⟨true, rm, bm, Am, nm, cm, false, none, 0, 0, y0, 0, 0⟩, ⟨true, rd, bd, Ad, nd, cd, false, none, 0, 0, e0, 0, 0⟩, ⟨true, rn, bn, An, nn, cn, false, none, 0, 0, n0, 0, 0⟩, ⟨true, (w.heap.size + 1 + 1), false, none, 0, 0, false, none, 0, 0, 0, 1, 3⟩, ⟨true, (w.heap.size + 1), b2, A2, n2, c2, bb2, AA2, nn2, cc2, y, e, 3⟩, ⟨true, w.heap.size, b1, A1, n1, c1, bb1, AA1, nn1, cc1, x, d, 3⟩] := (HV102.out.1.alloc _).grown H8.out.1 hg3 H8.out.2.2
     have in3 : Ints w3 (xs ++ [.bool bl, .slice Al nl cl]) (L t ++ [q3]) := (H8.out.2.1.safe (grown_safe H8.out.1 hg3)).snoc (fv3.all 3 _ rfl).at_
     have aw3 : Away v3 [⟨true, rrr88, rb88, rA88, rn88, rc88, false, none, 0, 0, r2, 0, 0⟩, ⟨true, rrq88, qb88, qA88, qn88, qc88, false, none, 0, 0, q2, 0, 0⟩, ⟨true, rrr87, false, none, 0, 0, false, none, 0, 0, 0, 0, 0⟩, ⟨true, rrq87, bl, Al, nl, cl, false, none, 0, 0, q3, 0, 0⟩, ⟨true, rc, bc, Ac, nc, cc, false, none, 0, 0, k0, 0, 0⟩, ⟨true, rm, bm, Am, nm, cm, false, none, 0, 0, y0, 0, 0⟩, ⟨true, rd, bd, Ad, nd, cd, false, none, 0, 0, e0, 0, 0⟩, ⟨true, rn, bn, An, nn, cn, false, none, 0, 0, n0, 0, 0⟩, ⟨true, (w.heap.size + 1 + 1), false, none, 0, 0, false, none, 0, 0, 0, 1, 3⟩, ⟨true, (w.heap.size + 1), b2, A2, n2, c2, bb2, AA2, nn2, cc2, y, e, 3⟩, ⟨true, w.heap.size, b1, A1, n1, c1, bb1, AA1, nn1, cc1, x, d, 3⟩] := Away.grown (HV102.out.1.alloc _) H8.out.2.2 hat3
     have bw3 : Below w.heap.size w w3 := ((below_then HBW.out HV102.out.2).alloc hsz8 _).grown hg3 (by simp; omega) (fun k hk => (H8.out.1.1.lt k hk).1)
     have hW3 : w.heap.size ≤ w3.heap.size := bw3.size
     have HO3 := Lib.hid (And.intro hown3 in3)
     have HAW3 := Lib.hid aw3
     have HB3 := Lib.hid bw3
     have HC3 := Lib.hid (And.intro fv3 (Below.refl w3.heap.size w3))
     clear fv3 in3 aw3 bw3 hown3 hg3 hat3 H8 hsz8 HI pl0 pl1 HV102
     obtain ⟨prest0, prest1⟩ : Two w3 rrr87 (.bool false) (.slice none 0 0) := (HC3.out.1.all 2 _ rfl).lies rfl
     go_wp2_with fail
     refine (HS.out.2.2.2 _ _ ((HC3.out.1.all 2 _ rfl).at_)).mono ?_
     rintro e wq104 ⟨rfl, hb104⟩
     have HC104 := Lib.hid (And.intro (HC3.out.1.step hb104 rfl) (below_then HC3.out.2 hb104))
     clear prest0 prest1
     clear hb104 HC3
     have IR := Lib.hid (show IRow wq104 v3 (L T ++ [z]) from by rw [HG.out.2.2.1, ← HG.out.2.2.2, HQ3.out]; exact (HO3.out.1.step HC104.out.2 rfl).row (HO3.out.2.step HC104.out.2 rfl) (by simp [HSL.out.2.1]) (by omega))
     go_wp2_with fail
     refine (HCN.out _ _ IR.out).mono ?_
     rintro e wq105 ⟨qv105, rfl, hq105, hb105⟩
     obtain ⟨qb105, qA105, qn105, qc105, qbb105, qAA105, qnn105, qcc105, rfl, hq105⟩ := open3 hq105
     have hv105 := (FVars.told (FVars.step HC104.out.1 hb105 rfl) (t := ⟨false, 0, qb105, qA105, qn105, qc105, qbb105, qAA105, qnn105, qcc105, X, D, 3⟩) hq105 rfl).laid4 38 (show 3 ≤ 3 from by decide) (Nat.le_trans hW3 (Nat.le_trans HC104.out.2.size hb105.size))
     have hl105 : Below w3.heap.size w3 (wq105.alloc (.cells #[.bool qb105, .slice qA105 qn105 qc105, .bool qbb105, .slice qAA105 qnn105 qcc105] 38)) := ((below_then HC104.out.2 hb105).alloc (Nat.le_trans HC104.out.2.size hb105.size) (.cells #[.bool qb105, .slice qA105 qn105 qc105, .bool qbb105, .slice qAA105 qnn105 qcc105] 38))
     obtain ⟨Wq105, hW105⟩ : ∃ W : World, W = wq105.alloc (.cells #[.bool qb105, .slice qA105 qn105 qc105, .bool qbb105, .slice qAA105 qnn105 qcc105] 38) := ⟨_, rfl⟩
     obtain ⟨rrq105, hsq105⟩ : ∃ r : Nat, r = wq105.heap.size := ⟨_, rfl⟩
     rw [← hW105] at hv105 hl105
     rw [← hsq105] at hv105
     have HC105 := Lib.hid (And.intro hv105 hl105)
     have HW105 := Lib.hid hW105
     have HRq105 := Lib.hid hsq105
     clear hv105 hl105 hW105 hb105 hsq105 hq105 HC104
     go_upto_region 11 with fail
     rw [← HW105.out]
     rw [← HRq105.out]
     clear HW105 HRq105
     have HW1006 := Lib.hid (And.intro HC105.out.1 (below_then HB3.out HC105.out.2))
     obtain ⟨px0, px1, px2, px3⟩ : Quad Wq105 rrq105 (.bool qb105) (.slice qA105 qn105 qc105) (.bool qbb105) (.slice qAA105 qnn105 qcc105) := (HW1006.out.1.all 0 _ rfl).lies rfl
     obtain ⟨ka0, ka1, ka2, ka3⟩ : Quad Wq105 (w.heap.size + 1 + 1) (.bool false) (.slice none 0 0) (.bool false) (.slice none 0 0) := (HW1006.out.1.all 9 _ rfl).lies rfl
     have kf0 := (HW1006.out.1.all 9 _ rfl).frz rfl 0
     have kf1 := (HW1006.out.1.all 9 _ rfl).frz rfl 1
     have kf2 := (HW1006.out.1.all 9 _ rfl).frz rfl 2
     have kf3 := (HW1006.out.1.all 9 _ rfl).frz rfl 3
     have hu107 := FVars.over4 HW1006.out.1 9 (s := ⟨true, (w.heap.size + 1 + 1), false, none, 0, 0, false, none, 0, 0, 0, 1, 3⟩) (t := ⟨false, 0, qb105, qA105, qn105, qc105, qbb105, qAA105, qnn105, qcc105, X, D, 3⟩) rfl rfl (show 3 ≤ 3 from by decide) (show 3 ≤ 3 from by decide) ((HW1006.out.1.all 0 _ rfl).at_)
     have HE : Hid (FVars w.heap.size (put4 Wq105 (w.heap.size + 1 + 1) (.bool qb105) (.slice qA105 qn105 qc105) (.bool qbb105) (.slice qAA105 qnn105 qcc105)) [⟨true, rrq105, qb105, qA105, qn105, qc105, qbb105, qAA105, qnn105, qcc105, X, D, 3⟩, ⟨true, rrr88, rb88, rA88, rn88, rc88, false, none, 0, 0, r2, 0, 0⟩, ⟨true, rrq88, qb88, qA88, qn88, qc88, false, none, 0, 0, q2, 0, 0⟩, ⟨true, rrr87, false, none, 0, 0, false, none, 0, 0, 0, 0, 0⟩, ⟨true, rrq87, bl, Al, nl, cl, false, none, 0, 0, q3, 0, 0⟩, ⟨true, rc, bc, Ac, nc, cc, false, none, 0, 0, k0, 0, 0⟩, ⟨true, rm, bm, Am, nm, cm, false, none, 0, 0, y0, 0, 0⟩, ⟨true, rd, bd, Ad, nd, cd, false, none, 0, 0, e0, 0, 0⟩, ⟨true, rn, bn, An, nn, cn, false, none, 0, 0, n0, 0, 0⟩, ⟨true, (w.heap.size + 1 + 1), qb105, qA105, qn105, qc105, qbb105, qAA105, qnn105, qcc105, X, D, 3⟩, ⟨true, (w.heap.size + 1), b2, A2, n2, c2, bb2, AA2, nn2, cc2, y, e, 3⟩, ⟨true, w.heap.size, b1, A1, n1, c1, bb1, AA1, nn1, cc1, x, d, 3⟩] ∧ Below w.heap.size w (put4 Wq105 (w.heap.size + 1 + 1) (.bool qb105) (.slice qA105 qn105 qc105) (.bool qbb105) (.slice qAA105 qnn105 qcc105))) := Lib.hid (And.intro hu107 ((((HW1006.out.2.setCell (p := ⟨(w.heap.size + 1 + 1), 0, none⟩) (HW1006.out.1.up 9 _ rfl rfl) _).setCell (p := ⟨(w.heap.size + 1 + 1), 1, none⟩) (HW1006.out.1.up 9 _ rfl rfl) _).setCell (p := ⟨(w.heap.size + 1 + 1), 2, none⟩) (HW1006.out.1.up 9 _ rfl rfl) _).setCell (p := ⟨(w.heap.size + 1 + 1), 3, none⟩) (HW1006.out.1.up 9 _ rfl rfl) _))
     clear hu107
     go_wp2
     obtain ⟨e0, e1, e2, e3⟩ : Quad (put4 Wq105 (w.heap.size + 1 + 1) (.bool qb105) (.slice qA105 qn105 qc105) (.bool qbb105) (.slice qAA105 qnn105 qcc105)) (w.heap.size + 1 + 1) (.bool qb105) (.slice qA105 qn105 qc105) (.bool qbb105) (.slice qAA105 qnn105 qcc105) := (HE.out.1.all 9 _ rfl).lies rfl
     unfold put4 at e0 e1 e2 e3
     refine bodyPost_ret (v := (.agg #[.bool qb105, .slice qA105 qn105 qc105, .bool qbb105, .slice qAA105 qnn105 qcc105])) (by simp [results, Tryz.results105, go_sem, e0, e1, e2, e3]) rfl ?_
     exact ⟨_, rfl, (HE.out.1.all 9 _ rfl).at_, HE.out.2⟩
end Go.Proofs.YtpgbnegppehckaaGreat.FK
namespace Go.Proofs.YtpgbnegppehckaaGreat.FK
open Go.RowKit Go.Proofs.YtpgbnegppehckaaGreat.RK
theorem simplest_pos (v1 v2 : Value) (x d y e X D c : Int) (m : Nat) (w : World) (h1 : RatAt w v1 x d) (h2 : RatAt w v2 y e) (hm : m ≤ 39) (hx : x.natAbs < B32 ^ m) (hd : d.natAbs < B32 ^ m) (hy : y.natAbs < B32 ^ m) (he : e.natAbs < B32 ^ m)
    (hc : cmpZ (x * e) (y * d) = c) (hcn : ¬ 0 < c) (hs : x.sign = 1) (hb : ∀ v1 v2 w, RatAt w v1 x d → RatAt w v2 y e → Calls Tryz.prog 105 #[v1, v2] w fun e w' => IsRat w w' X D e) :
    Calls Tryz.prog 54 #[v1, v2] w fun e w' => IsRatE w w' X D 0 e := by
  obtain ⟨b1, A1, n1, c1, bb1, AA1, nn1, cc1, rfl, h1⟩ := open3 h1
  obtain ⟨b2, A2, n2, c2, bb2, AA2, nn2, cc2, rfl, h2⟩ := open3 h2
  have gh0 := (FVars.told (FVars.nil w.heap.size w) (t := ⟨false, 0, b1, A1, n1, c1, bb1, AA1, nn1, cc1, x, d, 3⟩) (At.step (t := ⟨false, 0, b1, A1, n1, c1, bb1, AA1, nn1, cc1, x, d, 3⟩) (h1) (Below.refl w.heap.size w) rfl) rfl).laid4 38 (show 3 ≤ 3 from by decide) (by exact Nat.le_refl _)
  have gh1 := (FVars.told gh0 (t := ⟨false, 0, b2, A2, n2, c2, bb2, AA2, nn2, cc2, y, e, 3⟩) (At.step (t := ⟨false, 0, b2, A2, n2, c2, bb2, AA2, nn2, cc2, y, e, 3⟩) (h2) ((Below.refl w.heap.size w).alloc (by exact Nat.le_refl _) (.cells #[.bool b1, .slice A1 n1 c1, .bool bb1, .slice AA1 nn1 cc1] 38)) rfl) rfl).laid4 38 (show 3 ≤ 3 from by decide) (by simp only [size_alloc]; omega)
  have gh2 := (FVars.told gh1 (t := ⟨false, 0, false, none, 0, 0, false, none, 0, 0, 0, 1, 3⟩) ((zero3 _)) rfl).laid4 38 (show 3 ≤ 3 from by decide) (by simp only [size_alloc]; omega)
  have gb : Below w.heap.size w (((w.alloc (.cells #[.bool b1, .slice A1 n1 c1, .bool bb1, .slice AA1 nn1 cc1] 38)).alloc (.cells #[.bool b2, .slice A2 n2 c2, .bool bb2, .slice AA2 nn2 cc2] 38)).alloc (.cells #[.bool false, .slice none 0 0, .bool false, .slice none 0 0] 38)) := ((((Below.refl w.heap.size w).alloc (by exact Nat.le_refl _) (.cells #[.bool b1, .slice A1 n1 c1, .bool bb1, .slice AA1 nn1 cc1] 38)).alloc (by simp only [size_alloc]; omega) (.cells #[.bool b2, .slice A2 n2 c2, .bool bb2, .slice AA2 nn2 cc2] 38)).alloc (by simp only [size_alloc]; omega) (.cells #[.bool false, .slice none 0 0, .bool false, .slice none 0 0] 38))
  simp only [size_alloc] at gh2
  obtain ⟨W, hW⟩ : ∃ W : World, (((w.alloc (.cells #[.bool b1, .slice A1 n1 c1, .bool bb1, .slice AA1 nn1 cc1] 38)).alloc (.cells #[.bool b2, .slice A2 n2 c2, .bool bb2, .slice AA2 nn2 cc2] 38)).alloc (.cells #[.bool false, .slice none 0 0, .bool false, .slice none 0 0] 38)) = W := ⟨_, rfl⟩
  rw [hW] at gh2 gb
  have HC := Lib.hid (And.intro gh2 gb)
  have HW := Lib.hid hW
  clear gb hW gh0 gh1 gh2
  have HA := Lib.hid (And.intro (show ∀ v1 v2 w, RatAt w v1 x d → RatAt w v2 y e → Calls Tryz.prog 26 #[v1, v2] w fun e w' => IsNum w w' c e from fun v1 v2 w k1 k2 => by rw [← hc]; exact QCmp_any v1 v2 x d y e m w k1 k2 hm hx hd hy he)
    (And.intro (show ∀ v w, RatAt w v x d → Calls Tryz.prog 24 #[v] w fun e w' => IsNum w w' 1 e from fun v w k => by rw [← hs]; exact QSign_any v x d m w k (by omega) hx) hb))
  clear h1 h2 hm hx hd hy he hc hs hb
  go_enter Tryz.func54, Tryz.ntmps54
  go_upto_region 1 with fail
  rw [HW.out]
  clear HW
  obtain ⟨plow0, plow1, plow2, plow3⟩ : Quad W w.heap.size (.bool b1) (.slice A1 n1 c1) (.bool bb1) (.slice AA1 nn1 cc1) := (HC.out.1.all 2 _ rfl).lies rfl
  obtain ⟨phigh0, phigh1, phigh2, phigh3⟩ : Quad W (w.heap.size + 1) (.bool b2) (.slice A2 n2 c2) (.bool bb2) (.slice AA2 nn2 cc2) := (HC.out.1.all 1 _ rfl).lies rfl
  go_wp2_with fail
  refine (HA.out.1 _ _ _ ((HC.out.1.all 2 _ rfl).at_) ((HC.out.1.all 1 _ rfl).at_)).mono ?_
  rintro e wq1 ⟨rfl, hb1⟩
  have HC1 := Lib.hid (And.intro (HC.out.1.step hb1 rfl) (below_then HC.out.2 hb1))
  clear plow0 plow1 plow2 plow3 phigh0 phigh1 phigh2 phigh3
  clear hb1 HC
  obtain ⟨plow0, plow1, plow2, plow3⟩ : Quad wq1 w.heap.size (.bool b1) (.slice A1 n1 c1) (.bool bb1) (.slice AA1 nn1 cc1) := (HC1.out.1.all 2 _ rfl).lies rfl
  go_wp2_with fail
  refine (HA.out.2.1 _ _ ((HC1.out.1.all 2 _ rfl).at_)).mono ?_
  rintro e wq2 ⟨rfl, hb2⟩
  have HC2 := Lib.hid (And.intro (HC1.out.1.step hb2 rfl) (below_then HC1.out.2 hb2))
  clear plow0 plow1 plow2 plow3
  clear hb2 HC1
  obtain ⟨plow0, plow1, plow2, plow3⟩ : Quad wq2 w.heap.size (.bool b1) (.slice A1 n1 c1) (.bool bb1) (.slice AA1 nn1 cc1) := (HC2.out.1.all 2 _ rfl).lies rfl
  obtain ⟨phigh0, phigh1, phigh2, phigh3⟩ : Quad wq2 (w.heap.size + 1) (.bool b2) (.slice A2 n2 c2) (.bool bb2) (.slice AA2 nn2 cc2) := (HC2.out.1.all 1 _ rfl).lies rfl
  go_wp2_with fail
  refine (HA.out.2.2 _ _ _ ((HC2.out.1.all 2 _ rfl).at_) ((HC2.out.1.all 1 _ rfl).at_)).mono ?_
  rintro e wq3 ⟨qv3, rfl, hq3, hb3⟩
  obtain ⟨qb3, qA3, qn3, qc3, qbb3, qAA3, qnn3, qcc3, rfl, hq3⟩ := open3 hq3
  have HC3 := Lib.hid (And.intro (FVars.told (HC2.out.1.step hb3 rfl) (t := ⟨false, 0, qb3, qA3, qn3, qc3, qbb3, qAA3, qnn3, qcc3, X, D, 3⟩) hq3 rfl) (below_then HC2.out.2 hb3))
  clear plow0 plow1 plow2 plow3 phigh0 phigh1 phigh2 phigh3
  clear hb3 hq3 HC2
  obtain ⟨ka0, ka1, ka2, ka3⟩ : Quad wq3 (w.heap.size + 1 + 1) (.bool false) (.slice none 0 0) (.bool false) (.slice none 0 0) := (HC3.out.1.all 1 _ rfl).lies rfl
  have kf0 := (HC3.out.1.all 1 _ rfl).frz rfl 0
  have kf1 := (HC3.out.1.all 1 _ rfl).frz rfl 1
  have kf2 := (HC3.out.1.all 1 _ rfl).frz rfl 2
  have kf3 := (HC3.out.1.all 1 _ rfl).frz rfl 3
  have hu4 := FVars.over4 HC3.out.1 1 (s := ⟨true, (w.heap.size + 1 + 1), false, none, 0, 0, false, none, 0, 0, 0, 1, 3⟩) (t := ⟨false, 0, qb3, qA3, qn3, qc3, qbb3, qAA3, qnn3, qcc3, X, D, 3⟩) rfl rfl (show 3 ≤ 3 from by decide) (show 3 ≤ 3 from by decide) ((HC3.out.1.all 0 _ rfl).at_)
  have HE : Hid (FVars w.heap.size (put4 wq3 (w.heap.size + 1 + 1) (.bool qb3) (.slice qA3 qn3 qc3) (.bool qbb3) (.slice qAA3 qnn3 qcc3)) [⟨false, 0, qb3, qA3, qn3, qc3, qbb3, qAA3, qnn3, qcc3, X, D, 3⟩, ⟨true, (w.heap.size + 1 + 1), qb3, qA3, qn3, qc3, qbb3, qAA3, qnn3, qcc3, X, D, 3⟩, ⟨true, (w.heap.size + 1), b2, A2, n2, c2, bb2, AA2, nn2, cc2, y, e, 3⟩, ⟨true, w.heap.size, b1, A1, n1, c1, bb1, AA1, nn1, cc1, x, d, 3⟩] ∧ Below w.heap.size w (put4 wq3 (w.heap.size + 1 + 1) (.bool qb3) (.slice qA3 qn3 qc3) (.bool qbb3) (.slice qAA3 qnn3 qcc3))) := Lib.hid (And.intro hu4 ((((HC3.out.2.setCell (p := ⟨(w.heap.size + 1 + 1), 0, none⟩) (HC3.out.1.up 1 _ rfl rfl) _).setCell (p := ⟨(w.heap.size + 1 + 1), 1, none⟩) (HC3.out.1.up 1 _ rfl rfl) _).setCell (p := ⟨(w.heap.size + 1 + 1), 2, none⟩) (HC3.out.1.up 1 _ rfl rfl) _).setCell (p := ⟨(w.heap.size + 1 + 1), 3, none⟩) (HC3.out.1.up 1 _ rfl rfl) _))
  clear hu4
  go_wp2
  obtain ⟨e0, e1, e2, e3⟩ : Quad (put4 wq3 (w.heap.size + 1 + 1) (.bool qb3) (.slice qA3 qn3 qc3) (.bool qbb3) (.slice qAA3 qnn3 qcc3)) (w.heap.size + 1 + 1) (.bool qb3) (.slice qA3 qn3 qc3) (.bool qbb3) (.slice qAA3 qnn3 qcc3) := (HE.out.1.all 1 _ rfl).lies rfl
  unfold put4 at e0 e1 e2 e3
  refine bodyPost_ret (v := (.tuple #[.agg #[.bool qb3, .slice qA3 qn3 qc3, .bool qbb3, .slice qAA3 qnn3 qcc3], .int .i64 0])) (by simp [results, Tryz.results54, go_sem, e0, e1, e2, e3]) rfl ?_
  exact ⟨_, rfl, (HE.out.1.all 1 _ rfl).at_, HE.out.2⟩
end Go.Proofs.YtpgbnegppehckaaGreat.FK
namespace Go.Proofs.YtpgbnegppehckaaGreat
open Go.RowKit
namespace Tx
def chr (d : Nat) : Nat := if d < 10 then 48 + d else 55 + d
def dig (c : Nat) : Nat := if 48 ≤ c ∧ c ≤ 57 then c - 48 else if 65 ≤ c ∧ c ≤ 90 then c - 55 else if 97 ≤ c ∧ c ≤ 122 then c - 87 else 36
theorem chr_le {d : Nat} (h : d < 36) : chr d ≤ 90 := by unfold chr; split <;> omega
theorem chr_zero {d : Nat} (h : chr d = 48) : d = 0 := by unfold chr at h; split at h <;> omega
theorem dig_le (c : Nat) : dig c ≤ 36 := by unfold dig; (repeat' split) <;> omega
def TextOf (r : Nat) (z : Int) (bs : List Nat) : Prop :=
  (z = 0 ∧ bs = [48]) ∨ ∃ ds, z ≠ 0 ∧ Lm.Ok r ds ∧ Lm.Top ds ∧ Lm.val r ds = z.natAbs ∧ bs = (if z < 0 then [45] else []) ++ (ds.map chr).reverse
theorem TextOf.uniq {r : Nat} {z : Int} {us bs : List Nat} (hr : 1 < r) (h : TextOf r z us) (k : TextOf r z bs) : us = bs := by
  rcases h with ⟨h0, rfl⟩ | ⟨ds, h0, h1, h2, h3, rfl⟩ <;> rcases k with ⟨k0, rfl⟩ | ⟨es, k0, k1, k2, k3, rfl⟩
  · rfl
  · exact absurd h0 k0
  · exact absurd k0 h0
  · rw [Lm.uniq hr h1 k1 h2 k2 (h3.trans k3.symm)]
theorem rev_ind {p : List Nat → Prop} (h0 : p []) (h1 : ∀ l c, p l → p (l ++ [c])) (l : List Nat) : p l := by
  have h : ∀ l : List Nat, p l.reverse := by
    intro l
    induction l with
    | nil => exact h0
    | cons c l ih => rw [List.reverse_cons]; exact h1 _ _ ih
  have := h l.reverse
  rwa [List.reverse_reverse] at this
def numOf (r : Nat) (l : List Nat) : Nat := l.foldl (fun a c => a * r + dig c) 0
theorem numOf_nil (r : Nat) : numOf r [] = 0 := rfl
theorem numOf_snoc (r : Nat) (l : List Nat) (c : Nat) : numOf r (l ++ [c]) = numOf r l * r + dig c := by
  unfold numOf; rw [List.foldl_append]; rfl
theorem numOf_append (r : Nat) (l : List Nat) : ∀ m : List Nat, numOf r (l ++ m) = numOf r l * r ^ m.length + numOf r m := by
  refine rev_ind (by simp [numOf_nil]) fun m c ih => ?_
  · rw [← List.append_assoc, numOf_snoc, ih, numOf_snoc, List.length_append, List.length_singleton, Nat.pow_succ]
    grind
def AllDig (r : Nat) (l : List Nat) : Prop := ∀ c ∈ l, dig c < r
theorem AllDig.append {r : Nat} {l m : List Nat} (h : AllDig r l) (k : AllDig r m) : AllDig r (l ++ m) := by
  intro c hc
  rcases List.mem_append.1 hc with hc | hc
  · exact h c hc
  · exact k c hc
theorem numOf_lt {r : Nat} : ∀ {l : List Nat}, AllDig r l → numOf r l < r ^ l.length := by
  intro l
  refine rev_ind (p := fun l => AllDig r l → numOf r l < r ^ l.length) (fun _ => by simp [numOf_nil]) (fun m c ih h => ?_) l
  · skip
    have h1 := ih (fun x hx => h x (List.mem_append_left _ hx))
    have h2 := h c (List.mem_append_right _ (List.mem_singleton.2 rfl))
    rw [numOf_snoc, List.length_append, List.length_singleton, Nat.pow_succ]
    have h3 : (numOf r m + 1) * r ≤ r ^ m.length * r := Nat.mul_le_mul_right r h1
    rw [Nat.add_mul] at h3
    omega
def bts (s : ByteArray) : List Nat := s.data.toList.map UInt8.toNat
theorem bts_length (s : ByteArray) : (bts s).length = s.size := by unfold bts; rw [List.length_map, Array.length_toList]; rfl
theorem bts_at (s : ByteArray) (k : Nat) (h : k < s.size) : s[k].toNat = (bts s).getD k 0 := by
  rw [List.getD_eq_getElem?_getD]
  unfold bts
  rw [List.getElem?_map, List.getElem?_eq_getElem (by simpa using h)]
  rfl
theorem bts_extract (s : ByteArray) (a b : Nat) : bts (s.extract a b) = ((bts s).take b).drop a := by
  unfold bts
  rw [ByteArray.data_extract, Array.toList_extract]
  show List.map _ ((s.data.toList.drop a).take (b - a)) = _
  rw [List.map_take, List.map_drop, List.drop_take]
theorem bts_inj {s t : ByteArray} (h : bts s = bts t) : s = t := by
  unfold bts at h
  have h1 := (List.map_inj_right (fun a b => UInt8.toNat_inj.1)).1 h
  cases s; cases t
  simp_all
def str (l : List Nat) : ByteArray := strOfNums (l.map fun c => ((c : Nat) : Int))
theorem bts_str {l : List Nat} (h : ∀ c ∈ l, c < 256) : bts (str l) = l := by
  unfold bts str strOfNums
  simp only [List.map_map]
  conv => rhs; rw [← List.map_id l]
  refine List.map_congr_left fun c hc => ?_
  have := h c hc
  simp [UInt8.toNat_ofNat']
  omega
theorem bts_append (s t : ByteArray) : bts (s ++ t) = bts s ++ bts t := by
  unfold bts
  rw [ByteArray.data_append, Array.toList_append, List.map_append]
structure MA (b : Nat) (xs zs : List Nat) (f a i q : Nat) : Prop where
  len : zs.length = xs.length
  ok : Lm.Ok b zs
  rest : zs.drop i = xs.drop i
  num : Lm.val b (zs.take i) + b ^ i * q = Lm.val b (xs.take i) * f + a
theorem MA.start {b : Nat} {xs : List Nat} {f a : Nat} (ox : Lm.Ok b xs) : MA b xs xs f a 0 a := ⟨rfl, ox, rfl, by simp [Lm.val]⟩
theorem MA.step {b : Nat} {xs zs : List Nat} {f a i q x t : Nat} (h : MA b xs zs f a i q) (hb : 0 < b) (hi : i < xs.length) (hx : zs.getD i 0 = x) (ht : t = q + x * f) :
    MA b xs (zs.set i (t % b)) f a (i + 1) (t / b) := by
  have hl := h.len
  have hxx : xs.getD i 0 = x := by
    have h1 := congrArg (fun l => l.getD 0 0) h.rest
    simp only [List.getD_eq_getElem?_getD, List.getElem?_drop, Nat.add_zero] at h1 hx ⊢
    rw [← h1]; exact hx
  refine ⟨by simpa using hl, h.ok.set _ _ (Nat.mod_lt _ hb), ?_, ?_⟩
  · rw [List.drop_set, if_pos (by omega)]
    have h1 := congrArg (List.drop 1) h.rest
    simpa [List.drop_drop] using h1
  · have hg : (zs.set i (t % b)).getD i 0 = t % b := by
      rw [List.getD_eq_getElem?_getD, List.getElem?_set, if_pos rfl, if_pos (by omega)]; rfl
    rw [Lm.val_take_succ _ _ _ (by simpa using (by omega : i < zs.length)), Lm.val_take_succ _ _ _ hi, hg, hxx, List.take_set_of_le (Nat.le_refl _), Nat.pow_succ]
    have hn := h.num
    have hm := Nat.div_add_mod t b
    generalize t % b = m at *
    generalize t / b = d at *
    generalize b ^ i = P at *
    generalize Lm.val b (zs.take i) = v at *
    generalize Lm.val b (xs.take i) = u at *
    grind
theorem MA.end_ {b : Nat} {xs zs : List Nat} {f a q : Nat} (h : MA b xs zs f a xs.length q) : Lm.val b zs + b ^ xs.length * q = Lm.val b xs * f + a := by
  have hn := h.num
  rw [List.take_of_length_le (by rw [h.len]; exact Nat.le_refl _), List.take_of_length_le (Nat.le_refl _)] at hn
  exact hn
theorem MA.top0 {b : Nat} {xs zs : List Nat} {f a : Nat} (h : MA b xs zs f a xs.length 0) (hf : 0 < f) (tx : Lm.Top xs) : Lm.Top zs := by
  rcases Nat.eq_zero_or_pos xs.length with h0 | h0
  · have : zs = [] := List.eq_nil_of_length_eq_zero (by rw [h.len]; exact h0)
    rw [this]; exact Lm.Top.nil
  · refine Lm.top_of_last fun hz => ?_
    have h1 := Lm.val_ge (b := b) h0 tx
    have h2 := h.end_
    rw [Nat.mul_zero, Nat.add_zero] at h2
    have h3 : Lm.val b (zs.take (zs.length - 1)) = Lm.val b zs := Lm.val_cut _ (Nat.sub_le _ _) (fun i h4 h5 => by
      obtain rfl : i = zs.length - 1 := by omega
      exact hz)
    have h4 := Lm.val_lt (h.ok.take (zs.length - 1))
    rw [h3, List.length_take, h.len, Nat.min_eq_left (Nat.sub_le _ _)] at h4
    have h5 : Lm.val b xs ≤ Lm.val b xs * f := Nat.le_mul_of_pos_right _ hf
    omega
theorem MA.top1 {b : Nat} {xs zs : List Nat} {f a q : Nat} (_ : MA b xs zs f a xs.length q) (hq : 0 < q) : Lm.Top (zs ++ [q]) := by
  refine Lm.top_of_last ?_
  rw [List.length_append, List.length_singleton, Nat.add_sub_cancel, List.getD_eq_getElem?_getD, List.getElem?_append_right (Nat.le_refl _)]
  simp; omega
theorem MA.val1 {b : Nat} {xs zs : List Nat} {f a q : Nat} (h : MA b xs zs f a xs.length q) : Lm.val b (zs ++ [q]) = Lm.val b xs * f + a := by
  rw [Lm.val_snoc, h.len]; exact h.end_
theorem MA.val0 {b : Nat} {xs zs : List Nat} {f a : Nat} (h : MA b xs zs f a xs.length 0) : Lm.val b zs = Lm.val b xs * f + a := by
  have := h.end_
  rw [Nat.mul_zero, Nat.add_zero] at this
  exact this
end Tx
end Go.Proofs.YtpgbnegppehckaaGreat
namespace Go.Proofs.YtpgbnegppehckaaGreat.FK
open Go.RowKit
theorem run_ibs (s : ByteArray) (c : Int) (w : World) : (callFunc 184 #[.string s, .int .u8 c]).run Tryz.prog w = .ok (.value (.int .i64 (firstIdx s c.toNat.toUInt8))) w := by
  rw [run_callFunc_extern Tryz.func184 (by kernel_rfl) (by kernel_rfl) (by kernel_rfl) (e := Extern.BytealgIndexByte.indexByte) (by kernel_rfl), run_indexByte_string]
  rfl
theorem indexByte_is (s : ByteArray) (k : Int) (w : World) (hk : firstIdx s 47 = k) : Calls Tryz.prog 177 #[.string s, .int .u8 47] w fun e w' => e = .returned (.int .i64 k) ∧ w = w' := by
  have h : ∀ w, (callFunc 184 #[.string s, .int .u8 47]).run Tryz.prog w = .ok (.value (.int .i64 k)) w := fun w => by
    rw [← hk]
    exact run_ibs s 47 w
  clear hk
  go_enter Tryz.func177, Tryz.ntmps177
  go_wp2
  go_ret
  exact ⟨rfl, rfl⟩
theorem index_is (s : ByteArray) (k : Int) (w : World) (hk : firstIdx s 47 = k) (hs : ([47] == s.toList) = false) : Calls Tryz.prog 169 #[.string s, .string ⟨#[47]⟩] w fun e w' => e = .returned (.int .i64 k) ∧ w = w' := by
  have H := Lib.hid (fun w => indexByte_is s k w hk)
  clear hk
  go_enter Tryz.func169, Tryz.ntmps169
  go_wp2_with fail
  refine (H.out _).mono ?_
  rintro e w1 ⟨rfl, rfl⟩
  go_wp2
  go_ret
  exact ⟨rfl, rfl⟩
theorem cutL_some (s a b : ByteArray) (k : Nat) (w : World) (hk : firstIdx s 47 = (k : Int)) (hs : ([47] == s.toList) = false) (hl : k < s.size) (hz : s.size ≤ 1000000) (ha : s.extract 0 k = a) (hb : s.extract (k + 1) s.size = b) :
    Calls Tryz.prog 147 #[.string s, .string ⟨#[47]⟩] w fun e w' => e = .returned (.tuple #[.string a, .string b, .bool true]) ∧ Below w.heap.size w w' := by
  have H := Lib.hid (fun w => index_is s k w hk hs)
  have hl2 : ((k : Int) + 1).toNat = k + 1 := by omega
  have hl3 : (k : Int) + 1 ≤ (s.size : Int) := by omega
  have hl4 : (k : Int) ≤ (s.size : Int) := by omega
  have hl5 : k ≤ s.size := by omega
  have hl6 : k + 1 ≤ s.size := by omega
  have hl7 : (0 : Int) ≤ (k : Int) + 1 := by omega
  clear hk hs
  go_enter Tryz.func147, Tryz.ntmps147
  go_wp2_with fail
  refine (H.out _).mono ?_
  rintro e w1 ⟨rfl, rfl⟩
  go_wp2
  go_region
  all_goals go_wp2
  refine bodyPost_ret (v := .tuple #[.string a, .string b, .bool true]) (by simp [results, Tryz.results147, go_sem, ha, hb]) rfl ?_
  exact ⟨rfl, (Below.refl _ _).drew⟩
theorem cut_some (s a b : ByteArray) (k : Nat) (w : World) (hk : firstIdx s 47 = (k : Int)) (hs : ([47] == s.toList) = false) (hl : k < s.size) (hz : s.size ≤ 1000000) (ha : s.extract 0 k = a) (hb : s.extract (k + 1) s.size = b) :
    Calls Tryz.prog 110 #[.string s, .string ⟨#[47]⟩] w fun e w' => e = .returned (.tuple #[.string a, .string b, .bool true]) ∧ Below w.heap.size w w' := by
  have H := Lib.hid (fun w => cutL_some s a b k w hk hs hl hz ha hb)
  clear hk hs hl hz ha hb
  go_enter Tryz.func110, Tryz.ntmps110
  go_wp2_with fail
  refine (H.out _).mono ?_
  rintro e w1 ⟨rfl, hb1⟩
  go_wp2
  refine bodyPost_ret (v := .tuple #[.string a, .string b, .bool true]) (by simp [results, Tryz.results110, go_sem]) rfl ?_
  exact ⟨rfl, hb1⟩
end Go.Proofs.YtpgbnegppehckaaGreat.FK
namespace Go.Proofs.YtpgbnegppehckaaGreat
open Go.RowKit
theorem radix_yes (r : Nat) (w : World) (h2 : 2 ≤ r) (h36 : r ≤ 36) : Calls Tryz.prog 142 #[.int .i64 r] w fun e w' => e = .returned (.bool true) ∧ w = w' := by
  have k2 : (2 : Int) ≤ r := by omega
  have k36 : (r : Int) ≤ 36 := by omega
  clear h2 h36
  go_enter Tryz.func142, Tryz.ntmps142
  go_wp2
  go_ret
  exact ⟨rfl, rfl⟩
def chunkIn (w : World) (i p : Nat) : World := (w.alloc (.cells #[.int .i64 0, .int .u32 0] 190)).alloc (.cells #[.int .i64 i, .int .u32 p] 190)
def IsChunkOf (w w' : World) (r : Nat) (e : Ending) : Prop := ∃ k p : Nat, e = .returned (.agg #[.int .i64 k, .int .u32 p]) ∧ p = r ^ k ∧ 6 ≤ k ∧ k ≤ 31 ∧ 2 ≤ p ∧ p ≤ 4294967295 ∧ Below w.heap.size w w'
theorem chunk_less {r i p : Nat} (h2 : 2 ≤ r) (hp : p = r ^ i) (h : p ≤ 4294967295) : i ≤ 31 := by
  have h1 : 2 ^ i ≤ r ^ i := Nat.pow_le_pow_left h2 i
  have h3 : 2 ^ i < 2 ^ 32 := Nat.lt_of_le_of_lt (Nat.le_trans h1 (hp ▸ h)) (by decide)
  have := (Nat.pow_lt_pow_iff_right (by decide : 1 < 2)).1 h3
  omega
theorem chunk_more {r i p : Nat} (h36 : r ≤ 36) (hp : p = r ^ i) (h : ¬ p * r ≤ 4294967295) : 6 ≤ i := by
  refine Nat.not_lt.1 fun hi => h ?_
  rw [hp, ← Nat.pow_succ]
  have h0 : r ^ (i + 1) ≤ 36 ^ (i + 1) := Nat.pow_le_pow_left h36 _
  have h1 : 36 ^ (i + 1) ≤ 36 ^ 6 := Nat.pow_le_pow_right (by decide) hi
  exact Nat.le_trans h0 (Nat.le_trans h1 (by decide))
theorem chunk_any (r : Nat) (w : World) (h2 : 2 ≤ r) (h36 : r ≤ 36) : Calls Tryz.prog 165 #[.int .i64 r] w fun e w' => IsChunkOf w w' r e := by
  have k2 : (2 : Int) ≤ r := by omega
  have k36 : (r : Int) ≤ 36 := by omega
  have HR := Lib.hid (And.intro h2 h36)
  clear h2 h36
  go_enter Tryz.func165, Tryz.ntmps165
  go_wp2
  go_loopg [] 31 (fun k wr => ∃ i p : Nat, Hid (p = r ^ i) ∧ (p : Int) ≤ 4294967295 ∧ i + k = 31 ∧ wr = chunkIn w i p)
  case atStart => exact ⟨0, 1, Lib.hid (by simp), by omega, rfl, rfl⟩
  case round =>
   obtain ⟨i, p, hp, hpl, hi, rfl⟩ := hrel
   unfold chunkIn
   by_cases hlt : p * r ≤ 4294967295
   · obtain ⟨q, hq⟩ : ∃ q, p * r = q := ⟨_, rfl⟩
     have hq' : (p : Int) * (r : Int) = (q : Int) := by rw [← hq]; simp
     have hql : (q : Int) ≤ 4294967295 := by omega
     have hi1 := chunk_less HR.out.1 (show q = r ^ (i + 1) from by rw [← hq, hp.out, Nat.pow_succ]) (by omega)
     have HQ := Lib.hid (show q = r ^ (i + 1) from by rw [← hq, hp.out, Nat.pow_succ])
     clear hq hlt
     go_wp2
     go_roundg (gk - 1)
     case rel => exact ⟨i + 1, q, HQ, hql, by omega, rfl⟩
     case measure => omega
   · have hk := chunk_more HR.out.2 hp.out hlt
     obtain ⟨q, hq⟩ : ∃ q, p * r = q := ⟨_, rfl⟩
     have hq' : (p : Int) * (r : Int) = (q : Int) := by rw [← hq]; simp
     have hql : ¬ (q : Int) ≤ 4294967295 := by omega
     have hqt : (q : Int) ≤ 154618822620 := by
       rw [← hq']
       have : (p : Int) * (r : Int) ≤ 4294967295 * 36 := Int.mul_le_mul hpl k36 (by omega) (by omega)
       omega
     have hp2 : 2 ≤ p := by
       rw [hp.out]
       have h1 : r ^ 1 ≤ r ^ i := Nat.pow_le_pow_right (by have := HR.out.1; omega) (by omega)
       have h2 := HR.out.1
       rw [Nat.pow_one] at h1
       omega
     clear hq hlt
     go_wp2
     refine bodyPost_ret (v := .agg #[.int .i64 i, .int .u32 p]) (by simp [results, Tryz.results165, go_sem]) rfl ?_
     exact ⟨i, p, rfl, hp.out, hk, by omega, hp2, by omega, boxed2_below _ _ _⟩
theorem digitValue_any (c : Nat) (w : World) (hc : c < 256) : Calls Tryz.prog 167 #[.int .u8 c] w fun e w' => e = .returned (.int .i64 ((Tx.dig c : Nat) : Int)) ∧ w = w' := by
  have hc' : (c : Int) ≤ 255 := by omega
  rcases (show c < 48 ∨ (48 ≤ c ∧ c ≤ 57) ∨ (58 ≤ c ∧ c ≤ 64) ∨ (65 ≤ c ∧ c ≤ 90) ∨ (91 ≤ c ∧ c ≤ 96) ∨ (97 ≤ c ∧ c ≤ 122) ∨ 123 ≤ c from by omega) with h | ⟨h, k⟩ | ⟨h, k⟩ | ⟨h, k⟩ | ⟨h, k⟩ | ⟨h, k⟩ | h
  · obtain ⟨d, hd⟩ : ∃ d, Tx.dig c = d := ⟨_, rfl⟩
    have he : d = 36 := by rw [← hd]; unfold Tx.dig; (repeat' split) <;> omega
    rw [hd, he]
    have h1 : (c : Int) < 48 := by omega
    clear h hd he
    go_enter Tryz.func167, Tryz.ntmps167
    go_wp2
    go_ret
    exact ⟨rfl, rfl⟩
  · have he : ((Tx.dig c : Nat) : Int) = (c : Int) - 48 := by unfold Tx.dig; (repeat' split) <;> omega
    rw [he]
    have h1 : 48 ≤ (c : Int) := by omega
    have h2 : (c : Int) ≤ 57 := by omega
    clear h k he
    go_enter Tryz.func167, Tryz.ntmps167
    go_wp2
    go_ret
    exact ⟨rfl, rfl⟩
  · have he : ((Tx.dig c : Nat) : Int) = 36 := by unfold Tx.dig; (repeat' split) <;> omega
    rw [he]
    have h1 : 58 ≤ (c : Int) := by omega
    have h2 : (c : Int) ≤ 64 := by omega
    clear h k he
    go_enter Tryz.func167, Tryz.ntmps167
    go_wp2
    go_ret
    exact ⟨rfl, rfl⟩
  · have he : ((Tx.dig c : Nat) : Int) = (c : Int) - 65 + 10 := by unfold Tx.dig; (repeat' split) <;> omega
    rw [he]
    have h1 : 65 ≤ (c : Int) := by omega
    have h2 : (c : Int) ≤ 90 := by omega
    clear h k he
    go_enter Tryz.func167, Tryz.ntmps167
    go_wp2
    go_ret
    exact ⟨rfl, rfl⟩
  · have he : ((Tx.dig c : Nat) : Int) = 36 := by unfold Tx.dig; (repeat' split) <;> omega
    rw [he]
    have h1 : 91 ≤ (c : Int) := by omega
    have h2 : (c : Int) ≤ 96 := by omega
    clear h k he
    go_enter Tryz.func167, Tryz.ntmps167
    go_wp2
    go_ret
    exact ⟨rfl, rfl⟩
  · have he : ((Tx.dig c : Nat) : Int) = (c : Int) - 97 + 10 := by unfold Tx.dig; (repeat' split) <;> omega
    rw [he]
    have h1 : 97 ≤ (c : Int) := by omega
    have h2 : (c : Int) ≤ 122 := by omega
    clear h k he
    go_enter Tryz.func167, Tryz.ntmps167
    go_wp2
    go_ret
    exact ⟨rfl, rfl⟩
  · have he : ((Tx.dig c : Nat) : Int) = 36 := by unfold Tx.dig; (repeat' split) <;> omega
    rw [he]
    have h1 : 123 ≤ (c : Int) := by omega
    clear h he
    go_enter Tryz.func167, Tryz.ntmps167
    go_wp2
    go_ret
    exact ⟨rfl, rfl⟩
end Go.Proofs.YtpgbnegppehckaaGreat
namespace Go.Proofs.YtpgbnegppehckaaGreat
open Go.RowKit
theorem infoTx : (Tryz.prog.info? 5).map (fun i => (i.zero, i.size, i.bytes)) = some (some (.int .u8 0), 1, 1) := by kernel_rfl
def IsBack (w w' : World) (r n L : Nat) (e : Ending) : Prop := ∃ v ds, e = .returned v ∧ w'.ownsRow w.heap.size 5 1 v ds.length (cellsOf .u8 (ds.map Tx.chr)) ∧ Lm.Ok r ds ∧ Lm.val r ds = n ∧ ds.length ≤ 31 * (32 * L + 1) ∧ Below w.heap.size w w'
theorem back_rounds {n m j L : Nat} (h : m * 2 ^ j ≤ n) (hm : 0 < m) (hn : n < B32 ^ L) : j ≤ 32 * L := by
  have h1 : 2 ^ j ≤ n := Nat.le_trans (Nat.le_mul_of_pos_left _ hm) h
  have h2 : (2 : Nat) ^ j < 2 ^ (32 * L) := by
    have : B32 ^ L = 2 ^ (32 * L) := by rw [Nat.pow_mul]; rfl
    omega
  have := (Nat.pow_lt_pow_iff_right (by decide : 1 < 2)).1 h2
  omega
theorem back_halve {n m j p : Nat} (h : m * 2 ^ j ≤ n) (hp : 2 ≤ p) : m / p * 2 ^ (j + 1) ≤ n := by
  have h1 : m / p ≤ m / 2 := Nat.div_le_div_left hp (by decide)
  have h2 : m / 2 * 2 ≤ m := Nat.div_mul_le_self m 2
  have h3 : m / p * 2 ≤ m := Nat.le_trans (Nat.mul_le_mul_right 2 h1) h2
  rw [Nat.pow_succ, ← Nat.mul_assoc, Nat.mul_right_comm]
  exact Nat.le_trans (Nat.mul_le_mul_right _ h3) h
theorem back_less {m p : Nat} (hm : 0 < m) (hp : 2 ≤ p) : m / p < m := Nat.div_lt_self hm hp
def Low (r rest : Nat) (i : Nat) (es : List Nat) : Prop := es.length = i ∧ Lm.Ok r es ∧ Lm.val r es + r ^ i * (rest / r ^ i) = rest
theorem Low.zero (r rest : Nat) : Low r rest 0 [] := ⟨rfl, Lm.Ok.nil _, by simp [Lm.val]⟩
theorem Low.succ {r rest i u : Nat} {es : List Nat} (h : Low r rest i es) (hu : rest / r ^ i = u) (hr : 0 < r) : Low r rest (i + 1) (es ++ [u % r]) ∧ rest / r ^ (i + 1) = u / r := by
  obtain ⟨h1, h2, h3⟩ := h
  have hd : rest / r ^ (i + 1) = u / r := by rw [Nat.pow_succ, ← Nat.div_div_eq_div_mul, hu]
  refine ⟨⟨by simp [h1], h2.append (Lm.Ok.cons (Nat.mod_lt _ hr) (Lm.Ok.nil _)), ?_⟩, hd⟩
  rw [hd, Lm.val_snoc, h1]
  rw [hu] at h3
  have hm := Nat.div_add_mod u r
  have : r ^ i * u = r ^ i * (r * (u / r)) + r ^ i * (u % r) := by rw [← Nat.mul_add, hm]
  rw [Nat.pow_succ, Nat.mul_assoc]
  omega
theorem Low.end_ {r rest k p : Nat} {es : List Nat} (h : Low r rest k es) (hp : p = r ^ k) (hl : rest < p) : Lm.val r es = rest := by
  have h3 := h.2.2
  rw [Nat.div_eq_of_lt (by rw [← hp]; exact hl), Nat.mul_zero, Nat.add_zero] at h3
  exact h3
def IsQuoN (w w' : World) (n y : Nat) (e : Ending) : Prop := ∃ c zs, e = .returned (.tuple #[.slice (some ⟨w.heap.size, 0, none⟩) zs.length c, .int .u32 ((n % y : Nat) : Int)]) ∧ Limbs w' (some ⟨w.heap.size, 0, none⟩) c zs (n / y) ∧ Below w.heap.size w w'
theorem divideByLimb_new (A : Option Addr) (c : Nat) (xs : List Nat) (y : Nat) (w : World) (hx : Nums w .u32 A xs) (ox : Lm.Ok B32 xs) (hl : xs.length ≤ 900000) (hy0 : 0 < y) (hy : y < 4294967296) :
    Calls Tryz.prog 166 #[.slice A xs.length c, .int .u32 y] w fun e w' => IsQuoN w w' (Lm.val B32 xs) y e := by
  obtain ⟨i0, hi0, hz0, hz1, hz2⟩ := info_parts Tryz.info132
  have HI := Lib.hid (And.intro hi0 (And.intro hz0 (And.intro hz1 hz2)))
  have HM := Lib.hid (show i0.bytes * xs.length ≤ 281474976710656 ∧ xs.length ≤ maxLen from ⟨by rw [hz2]; omega, by unfold maxLen; omega⟩)
  clear hi0 hz0 hz1 hz2
  go_enter Tryz.func166, Tryz.ntmps166
  go_wp2_with (at_make; go_loud (refine wpList_make_full _ rfl _ _ 22 rfl w.heap.size 132 i0 (.int .u32 0) 1 Tryz.underlying22 HI.out.1 HI.out.2.1 HI.out.2.2.1 _ _ _ _ xs.length rfl rfl (by omega) (by omega) HM.out.1 HM.out.2 (Nat.le_refl _) ?_); intro w1 hown1 hg1; rw [made_zero] at hown1; have HB := Lib.hid (own_block hown1); have hb1 : Below w.heap.size w w1 := (Below.refl _ _).grown hg1 (Nat.le_refl _) (fun k hk => by cases hk); clear hown1)
  have hz0 : Seg w1 w.heap.size 0 .u32 132 _ (List.replicate xs.length 0) := seg_of_block HB.out
  have hx1 := hx.below hb1
  have hoffx : 0 < xs.length → Off A w.heap.size := fun hn => off_below hx hn (Nat.le_refl _)
  clear hx HB HI HM
  go_loopw [7, 8] (fun rv iv wr => ∃ (i r : Nat) (zs : List Nat), iv = .int .i64 ((i : Int) - 1) ∧ rv = .int .u32 r ∧ i ≤ xs.length ∧ Quo xs zs y i r ∧ SegTo wr w.heap.size 0 .u32 132 (cellsOf .u32 (List.replicate xs.length 0)).toArray zs ∧ w1.grownBy wr (some w.heap.size)) (fun _ iv _ => (intOf iv + 1).toNat)
  case atStart =>
   exact ⟨xs.length, 0, _, rfl, rfl, Nat.le_refl _, ⟨by simp, Lm.Ok.zeros B32_pos _, by simp [Lm.val], hy0⟩, .refl hz0, World.grownBy.refl _ _⟩
  case round =>
   obtain ⟨i, r, zs, rfl, rfl, hi, hquo, hseg, hgr⟩ := hrel
   by_cases h0 : 0 < i
   · obtain ⟨j, rfl⟩ : ∃ j, i = j + 1 := ⟨i - 1, by omega⟩
     rw [show (((j + 1 : Nat) : Int) - 1) = (j : Int) from by omega]
     have hxr := hx1.grown hgr hoffx
     obtain ⟨ax, rfl, _, hcell⟩ := hxr.at_ (j := j) (by omega)
     have hcx := hcell j (by omega)
     have hxl := limb_lt ox j
     obtain ⟨x, hxd⟩ : ∃ x, xs.getD j 0 = x := ⟨_, rfl⟩
     rw [hxd] at hcx hxl
     obtain ⟨cur', hs1, hs2, hs3⟩ := id hseg
     have hcz := hs1.cell (j := j) (by rw [hquo.len]; omega)
     have hfz := hs1.frozen (0 + j)
     simp only [Nat.zero_add] at hcz hfz
     have hrl := hquo.rest
     have HD := Lib.hid hxd
     clear hxd hs1 hs2 hs3 hcell hz0
     go_wp2_with fail
     refine (div32_any r x y _ hxl hy hrl).mono ?_
     rintro e w' ⟨⟨n, rfl⟩, rfl⟩
     go_wp2
     go_roundw
     case rel =>
      refine ⟨j, _, _, rfl, rfl, by omega, quo_step hquo (by omega) HD.out hxl hy, ?_, ?_⟩
      · exact (hseg.drewN n).set0 (j := j) (by rw [hquo.len]; omega) _
      · exact grown_trans (grown_drewN hgr n) (grown_store (wr.drewN n) _ _ _)
     case measure => simp [intOf]
   · obtain rfl : i = 0 := by omega
     obtain ⟨hnum, rfl⟩ := quo_end hquo
     have htr := trim_any (some ⟨w.heap.size, 0, none⟩) xs.length zs wr (by obtain ⟨cur', hs1, _⟩ := hseg; exact hs1.nums) (by rw [hquo.len]; omega) (by rw [hquo.len]; exact Nat.le_refl _)
     rw [hquo.len] at htr
     have HT := Lib.hid (And.intro htr hnum)
     clear htr hnum
     go_wp2_with fail
     refine HT.out.1.mono ?_
     rintro e w4 ⟨rfl, k, rfl, hk, hz, hp⟩
     have HP := Lib.hid (And.intro hk (And.intro hz hp))
     clear hk hz hp
     go_wp2
     go_ret2
     obtain ⟨A3, c3, zs3, he, hl3, hb3⟩ := lims_of_trim (w := w) (n := Lm.val B32 xs / y) ⟨k, rfl, HP.out⟩ (by obtain ⟨cur', hs1, _⟩ := hseg; exact hs1.nums) hquo.ok (by rw [hquo.len]; exact Nat.le_refl _) HT.out.2 (hb1.trans (grown_below hgr (Nat.le_refl _) hb1.size))
     injection he with he
     injection he with h1 h2 h3
     subst h1
     exact ⟨c3, zs3, by rw [← h2, ← h3]; rfl, hl3, hb3⟩
theorem own_kept {w w' : World} {base : Nat} {e : TypeId} {size n : Nat} {v : Value} {xs : List Value} (h : w.ownsRow base e size v n xs) (hb : Below w.heap.size w w') : w'.ownsRow base e size v n xs :=
  h.kept (below_grown hb none) (by cases v.ownBlock <;> simp)
theorem own_down {w : World} {B B' : Nat} {e : TypeId} {size n : Nat} {v : Value} {xs : List Value} (h : w.ownsRow B' e size v n xs) (hB : B ≤ B') : w.ownsRow B e size v n xs :=
  ⟨h.1, h.2.imp id fun ⟨g, cap, cur, h1, h2, h3⟩ => ⟨g, cap, cur, h1, Nat.le_trans hB h2, h3⟩⟩
theorem Limbs.grown_to {w w' : World} {A : Option Addr} {c n : Nat} {zs : List Nat} {row : Option Nat} (h : Limbs w A c zs n) (hg : w.grownBy w' row) (ho : ∀ ad, A = some ad → row ≠ some ad.block) : Limbs w' A c zs n := by
  refine ⟨h.1, fun hn => ?_, h.2.2⟩
  obtain ⟨ad, e, hb, hc⟩ := h.2.1 hn
  refine ⟨ad, e, Nat.lt_of_lt_of_le hb hg.size, fun j hj => ?_⟩
  rw [← hc j hj]
  exact World.cell?_of_block (hg.block _ (by rw [block_of_add]; exact hb) (fun h' => by rw [block_of_add] at h'; exact ho ad e h'.symm))
theorem Limbs.alloc {w : World} {A : Option Addr} {c n : Nat} {zs : List Nat} (h : Limbs w A c zs n) (o : Obj) : Limbs (w.alloc o) A c zs n := ⟨h.1, h.2.1.alloc o, h.2.2⟩
def Back (r n m j k : Nat) (ds : List Nat) : Prop := Lm.Ok r ds ∧ Lm.val r ds + r ^ ds.length * m = n ∧ m * 2 ^ j ≤ n ∧ ds.length = k * j
theorem Back.zero (r n k : Nat) : Back r n n 0 k [] := ⟨Lm.Ok.nil _, by simp [Lm.val], by simp, rfl⟩
theorem Back.succ {r n m j k p : Nat} {ds es : List Nat} (h : Back r n m j k ds) (hp : p = r ^ k) (hp2 : 2 ≤ p) (he : Low r (m % p) k es) : Back r n (m / p) (j + 1) k (ds ++ es) := by
  obtain ⟨h1, h2, h3, h4⟩ := h
  refine ⟨h1.append he.2.1, ?_, back_halve h3 hp2, by rw [List.length_append, h4, he.1, Nat.mul_succ]⟩
  rw [Lm.val_append, he.end_ hp (Nat.mod_lt _ (by omega)), List.length_append, he.1, Nat.pow_add, ← hp, ← h2]
  have hm := Nat.div_add_mod m p
  have : r ^ ds.length * m = r ^ ds.length * (p * (m / p)) + r ^ ds.length * (m % p) := by rw [← Nat.mul_add, hm]
  rw [Nat.mul_assoc]
  omega
theorem Back.room {r n m j k L : Nat} {ds : List Nat} (h : Back r n m j k ds) (hm : 0 < m) (hn : n < B32 ^ L) (hk : k ≤ 31) : ds.length + 31 ≤ 31 * (32 * L + 1) := by
  have h1 := back_rounds h.2.2.1 hm hn
  have h2 : ds.length ≤ 31 * j := by rw [h.2.2.2]; exact Nat.mul_le_mul_right _ hk
  omega
def digitBytes : ByteArray := ⟨#[48, 49, 50, 51, 52, 53, 54, 55, 56, 57, 65, 66, 67, 68, 69, 70, 71, 72, 73, 74, 75, 76, 77, 78, 79, 80, 81, 82, 83, 84, 85, 86, 87, 88, 89, 90]⟩
theorem digit_byte : ∀ d : Fin 36, (digitBytes.data[d.val]'(by have := d.isLt; exact this)).toNat = Tx.chr d.val := by decide
theorem digit_at (d : Nat) (h : d < digitBytes.size) : (digitBytes[d]'h).toNat = Tx.chr d := digit_byte ⟨d, h⟩
theorem backwards_any (A : Option Addr) (c r n L : Nat) (xs : List Nat) (w : World) (h : Limbs w A c xs n) (h2 : 2 ≤ r) (h36 : r ≤ 36) (hL : n < B32 ^ L) (hl : L ≤ 20000) :
    Calls Tryz.prog 143 #[.slice A xs.length c, .int .i64 r] w fun e w' => IsBack w w' r n L e := by
  obtain ⟨i0, hi0, hz0, hz1, hz2⟩ := info_parts infoTx
  have HI := Lib.hid (And.intro hi0 (And.intro hz0 (And.intro hz1 hz2)))
  have hxl : xs.length ≤ L := h.len hL
  have HR := Lib.hid (And.intro h2 (And.intro h36 (And.intro hL (And.intro hl hxl))))
  have k2 : (2 : Int) ≤ r := by omega
  have k36 : (r : Int) ≤ 36 := by omega
  have hck := chunk_any r w h2 h36
  have HK := Lib.hid hck
  clear hi0 hz0 hz1 hz2 h2 h36 hL hl hxl hck
  have HH := Lib.hid h
  clear h
  go_enter Tryz.func143, Tryz.ntmps143
  go_wp2_with fail
  refine HK.out.mono ?_
  rintro e w1 ⟨k, p, rfl, hp, hk6, hk31, hp2, hpl, hb1⟩
  have hb1' := hb1.alloc hb1.size (.cells #[.int .i64 k, .int .u32 p] 190)
  have hl1 := HH.out.below hb1'
  have HP := Lib.hid (And.intro hp (And.intro hk6 (And.intro hk31 (And.intro hp2 hpl))))
  have hcells : Two (w1.alloc (.cells #[.int .i64 k, .int .u32 p] 190)) w1.heap.size (.int .i64 k) (.int .u32 p) := Two.new _ _ _ _
  have hw1 : w.heap.size ≤ w1.heap.size := hb1.size
  have HC := Lib.hid (And.intro hcells (And.intro hb1' hl1))
  have hki : (k : Int) ≤ 31 := by omega
  have hpi : (p : Int) ≤ 4294967295 := by omega
  have hpj : (2 : Int) ≤ (p : Int) := by omega
  clear hp hk6 hk31 hp2 hpl hcells hb1' hl1 hb1 HK HH
  go_upto_region 2 with fail
  obtain ⟨W1, hW1⟩ : ∃ W : World, W = w1.alloc (.cells #[.int .i64 k, .int .u32 p] 190) := ⟨_, rfl⟩
  obtain ⟨b1, hB1⟩ : ∃ b : Nat, b = w1.heap.size := ⟨_, rfl⟩
  rw [← hW1, ← hB1] at HC
  rw [← hB1] at hw1
  rw [← hW1, ← hB1]
  have hsz1 : b1 + 1 = W1.heap.size := by rw [hW1, hB1]; simp
  have HS := Lib.hid hsz1
  clear hW1 hB1 hsz1
  go_wp2
  go_loopg [0, 6] n (fun m xv tv wr => ∃ (j : Nat) (A' : Option Addr) (c' : Nat) (zs ds : List Nat), xv = .slice A' zs.length c' ∧ Hid (Limbs wr A' c' zs m ∧ zs.length ≤ L) ∧ Hid (Back r n m j k ds ∧ ds.length ≤ 31 * (32 * L + 1)) ∧ wr.ownsRow (b1 + 1) 5 1 tv ds.length (cellsOf .u8 (ds.map Tx.chr)) ∧ Hid (Below W1.heap.size W1 wr))
  case atStart => exact ⟨0, A, c, xs, [], rfl, Lib.hid ⟨HC.out.2.2, HR.out.2.2.2.2⟩, Lib.hid ⟨Back.zero r n k, Nat.zero_le _⟩, World.ownsRow_nil _ _ _ _, Lib.hid (Below.refl _ _)⟩
  case round =>
   obtain ⟨j, A', c', zs, ds, rfl, HL, HB, hown, HW⟩ := hrel
   obtain ⟨At, ct, rfl, hle⟩ := own_form hown
   by_cases h0 : 0 < zs.length
   · have hm : 0 < gk := by
       rw [← HL.out.1.2.2.2.2]
       exact Lm.val_pos B32_pos h0 HL.out.1.2.2.2.1
     have hroom := HB.out.1.room hm HR.out.2.2.1 HP.out.2.2.1
     have hL2 := HR.out.2.2.2.1
     have hdsl : ds.length ≤ 20000000 := by omega
     have hd := divideByLimb_new A' c' zs p wr HL.out.1.2.1 HL.out.1.2.2.1 (by have := HL.out.2; omega) (by have := HP.out.2.2.2.1; omega) (by have := HP.out.2.2.2.2; omega)
     rw [HL.out.1.2.2.2.2] at hd
     have HD := Lib.hid (And.intro hd hroom)
     have HM := Lib.hid hm
     obtain ⟨q0, q1⟩ := Two.step HC.out.1 HW.out rfl (by have := HS.out; omega)
     clear hd hm hroom hL2 hle
     obtain ⟨bq, hbqe⟩ : ∃ bq, bq = wr.heap.size := ⟨_, rfl⟩
     have hlt := fun q hq => (hown.lt q hq).2
     rw [← hbqe] at hlt
     rw [hbqe] at hlt
     have HLT := Lib.hid hlt
     clear hlt
     go_wp2_with fail
     refine HD.out.1.mono ?_
     rintro e w3 ⟨cq, zq, rfl, hq, hbq⟩
     rw [← hbqe] at hq
     rw [← hbqe]
     have hown3 := own_kept hown hbq
     have hW3 := HW.out.trans (hbq.mono HW.out.size)
     have hql : zq.length ≤ L := Nat.le_trans (hq.len (m := zs.length) (Nat.lt_of_le_of_lt (Nat.div_le_self _ _) (by rw [← HL.out.1.2.2.2.2]; exact Lm.val_lt HL.out.1.2.2.1))) HL.out.2
     have hbl : bq < w3.heap.size ∨ zq = [] := by
       rcases Nat.eq_zero_or_pos zq.length with e0 | e0
       · exact .inr (List.eq_nil_of_length_eq_zero e0)
       · obtain ⟨ad, he, hlt, _⟩ := hq.2.1 e0
         injection he with he
         subst he
         exact .inl hlt
     have hoff : (Value.slice At ds.length ct).ownBlock ≠ some bq := fun e1 => by
       have := HLT.out bq e1
       omega
     have HQ := Lib.hid (And.intro hq (And.intro hql (And.intro hbl hoff)))
     obtain ⟨rest, hrest⟩ : ∃ rest, gk % p = rest := ⟨_, rfl⟩
     have hrl : rest ≤ 4294967295 := by have := Nat.mod_lt gk (show 0 < p by have := HP.out.2.2.2.1; omega); have := HP.out.2.2.2.2; omega
     rw [hrest]
     have HRE := Lib.hid (And.intro hrest hrl)
     obtain ⟨z0, z1⟩ := Two.step HC.out.1 hW3 rfl (by have := HS.out; omega)
     have HW3 := Lib.hid hW3
     clear q0 q1 hown hq hql hbl hoff hbq hrest hrl h0 hW3 hbqe
     go_wp2
     go_loopw [6, 8, 24] (fun tv rv iv wr => ∃ (i u : Nat) (es fs : List Nat), iv = .int .i64 i ∧ rv = .int .u32 u ∧ (u : Int) ≤ 4294967295 ∧ i ≤ k ∧ Hid (fs = ds ++ es ∧ Low r rest i es ∧ rest / r ^ i = u) ∧ wr.ownsRow (b1 + 1) 5 1 tv fs.length (cellsOf .u8 (fs.map Tx.chr)) ∧ Hid (Below W1.heap.size W1 wr ∧ Limbs wr (some ⟨bq, 0, none⟩) cq zq (gk / p) ∧ (zq = [] ∨ (bq < wr.heap.size ∧ tv.ownBlock ≠ some bq)))) (fun _ _ iv _ => k - (intOf iv).toNat)
     case atStart => exact ⟨0, rest, [], ds, rfl, rfl, by have := HRE.out.2; omega, Nat.zero_le _, Lib.hid ⟨by simp, Low.zero r rest, by simp⟩, hown3, Lib.hid ⟨HW3.out, HQ.out.1, HQ.out.2.2.1.elim (fun h => .inr ⟨h, HQ.out.2.2.2⟩) .inl⟩⟩
     case round =>
      clear hown3 z0 z1
      obtain ⟨i, u, es, fs, rfl, rfl, hu, hi, HLo, hown, HWi⟩ := hrel
      obtain ⟨At2, ct2, rfl, hle⟩ := own_form hown
      have hel : es.length = i := HLo.out.2.1.1
      have hlen : fs.length ≤ 20000031 := by rw [HLo.out.1, List.length_append]; omega
      have HEL := Lib.hid hel
      clear hel hle
      by_cases hik : i < k
      · obtain ⟨d, hd⟩ : ∃ d, u % r = d := ⟨_, rfl⟩
        obtain ⟨t, ht⟩ : ∃ t, u / r = t := ⟨_, rfl⟩
        have hr0 := HR.out.1
        have hdr : d < r := by rw [← hd]; exact Nat.mod_lt _ (by omega)
        have hr36 := HR.out.2.1
        have hd35 : (d : Int) ≤ 35 := by omega
        have hmod : (u : Int) % (r : Int) = (d : Int) := by rw [← hd]; simp
        have hdiv : (u : Int) / (r : Int) = (t : Int) := by rw [← ht]; simp
        have htl : t ≤ u := by rw [← ht]; exact Nat.div_le_self _ _
        have htl4 : (t : Int) ≤ 4294967295 := by omega
        have HDT := Lib.hid (And.intro hd (And.intro ht (And.intro hdr htl)))
        clear hd ht hdr hr0 hr36 htl
        have hsz : b1 + 1 ≤ wr.heap.size := by have := HWi.out.1.size; have := HS.out; omega
        go_wp2_with (at_builtin; refine wpList_append_own_at _ rfl _ _ 169 rfl (b1 + 1) 5 i0 (.int .u8 0) 1 1 Tryz.underlying169 HI.out.1 HI.out.2.1 HI.out.2.2.1 HI.out.2.2.2 rfl (by decide) _ fs.length (cellsOf .u8 (fs.map Tx.chr)) rfl (hown.alloc _) ⟨wr.heap.size, 0, none⟩ 1 1 [_] rfl rfl (cell_one_new _ _ _) (by simp [Value.oneCell']) (by unfold maxLen; omega) (by omega) (by simp; omega) ?_; intro v1 w4 hown1 hg1 _ hat1)
        go_roundw
        case rel =>
         obtain ⟨hlow, hdv⟩ := HLo.out.2.1.succ HLo.out.2.2 (by have := HR.out.1; omega)
         rw [HDT.out.1] at hlow
         rw [HDT.out.2.1] at hdv
         have hbel : Below W1.heap.size W1 w4 := (HWi.out.1.alloc HWi.out.1.size _).grown hg1 (by have := HWi.out.1.size; simp; omega) (fun q hq => by have := (hown.lt q hq).1; have := HS.out; omega)
         have e1 : cellsOf .u8 ((fs ++ [d]).map Tx.chr) = cellsOf .u8 (fs.map Tx.chr) ++ [.int .u8 ((Tx.chr d : Nat) : Int)] := by simp [cellsOf]
         have hsz2 : wr.heap.size + 1 ≤ w4.heap.size := by have := hg1.size; simpa using this
         refine ⟨i + 1, t, es ++ [d], fs ++ [d], by go_num, rfl, by have := HDT.out.2.2.2; omega, by omega, Lib.hid ⟨by rw [HLo.out.1, List.append_assoc], hlow, hdv⟩, ?_, Lib.hid ⟨hbel, ?_, ?_⟩⟩
         · rw [e1, List.length_append, List.length_singleton, ← digit_at d (by show d < 36; omega)]
           exact hown1
         · rcases HWi.out.2.2 with hb | ⟨hb, ho⟩
           · have hz := HWi.out.2.1
             rw [hb] at hz ⊢
             exact ⟨hz.1, Nums.nil _ _ _, hz.2.2⟩
           · exact (HWi.out.2.1.alloc _).grown_to hg1 (fun ad he e2 => by injection he with he; subst he; exact ho e2)
         · rcases HWi.out.2.2 with hb | ⟨hb, ho⟩
           · exact .inl hb
           · refine .inr ⟨by omega, ?_⟩
             rcases hat1 with h1 | h1
             · rw [h1]; exact ho
             · rw [h1]; intro e2; injection e2 with e2; simp at e2; omega
        case measure => simp [intOf]; omega
      · obtain rfl : i = k := by omega
        go_wp2
        go_roundg (gk / p)
        case rel =>
         have hp2 := HP.out.2.2.2.1
         have hlow := HLo.out.2.1
         rw [← HRE.out.1] at hlow
         refine ⟨j + 1, _, cq, zq, fs, rfl, Lib.hid ⟨HWi.out.2.1, HQ.out.2.1⟩, Lib.hid ⟨?_, ?_⟩, hown, Lib.hid HWi.out.1⟩
         · rw [HLo.out.1]; exact HB.out.1.succ HP.out.1 hp2 hlow
         · rw [HLo.out.1, List.length_append, HEL.out]; have := HD.out.2; have := HP.out.2.2.1; omega
        case measure => exact back_less HM.out HP.out.2.2.2.1
   · have hz : zs = [] := List.eq_nil_of_length_eq_zero (by omega)
     have hm : gk = 0 := by rw [← HL.out.1.2.2.2.2, hz]; rfl
     subst hz
     clear hle
     go_wp2
     go_ret
     refine ⟨_, ds, rfl, own_down hown (by omega), HB.out.1.1, ?_, HB.out.2, below_then HC.out.2.1 HW.out⟩
     have := HB.out.1.2.1
     rw [hm] at this
     simpa using this
end Go.Proofs.YtpgbnegppehckaaGreat
namespace Go.Proofs.YtpgbnegppehckaaGreat
open Go.RowKit
theorem own_set {w : World} {base : Nat} {e : TypeId} {k : IntKind} {g n c j : Nat} {zs : List Nat} (h : w.ownsRow base e 1 (.slice (some ⟨g, 0, none⟩) n c) n (cellsOf k zs)) (hj : j < n) (d : Nat) :
    (w.setCell ⟨g, j, none⟩ (.int k (d : Int))).ownsRow base e 1 (.slice (some ⟨g, 0, none⟩) n c) n (cellsOf k (zs.set j d)) := by
  have hl := h.1
  refine ⟨by rw [cellsOf_length, List.length_set, ← cellsOf_length k zs]; exact hl, .inr ?_⟩
  rcases h.2 with ⟨_, h0⟩ | ⟨g', cap, cur, hv, hb, hg, hnc, hcl, hcs, htake⟩
  · omega
  · simp only [Value.slice.injEq, Option.some.injEq, Addr.mk.injEq] at hv
    obtain ⟨⟨rfl, _, _⟩, _, rfl⟩ := hv
    refine ⟨g, c, cur.setIfInBounds j (.int k (d : Int)), rfl, hb, heap_setCell_same w g j cur e _ hg, hnc, hcl, by simpa using hcs, ?_⟩
    rw [Array.toList_setIfInBounds, List.take_set, htake]
    unfold cellsOf
    rw [List.map_set]
def IsOwnLim (base : Nat) (w w' : World) (n L : Nat) (e : Ending) : Prop := ∃ A c ys, e = .returned (.slice A ys.length c) ∧ w'.ownsRow base 132 1 (.slice A ys.length c) ys.length (cellsOf .u32 ys) ∧ Lm.Ok B32 ys ∧ Lm.Top ys ∧ Lm.val B32 ys = n ∧ ys.length ≤ L ∧ Below base w w'
theorem carry_lt {q x f t : Nat} (hq : q < 4294967296) (hx : x < 4294967296) (hf : f < 4294967296) (ht : t = q + x * f) : t / B32 < 4294967296 ∧ t ≤ 18446744073709551615 := by
  have h := limb_prod hx hf
  unfold B32
  omega
theorem multiplyAdd_any (base : Nat) (A : Option Addr) (c : Nat) (xs : List Nat) (f a : Nat) (w : World) (h : w.ownsRow base 132 1 (.slice A xs.length c) xs.length (cellsOf .u32 xs))
    (ox : Lm.Ok B32 xs) (tx : Lm.Top xs) (hl : xs.length ≤ 900000) (hf0 : 0 < f) (hf : f < 4294967296) (ha : a < 4294967296) (hB : base ≤ w.heap.size) :
    Calls Tryz.prog 168 #[.slice A xs.length c, .int .u32 f, .int .u32 a] w fun e w' => IsOwnLim base w w' (Lm.val B32 xs * f + a) (xs.length + 1) e := by
  obtain ⟨i0, hi0, hz0, hz1, hz2⟩ := info_parts Tryz.info132
  have HI := Lib.hid (And.intro hi0 (And.intro hz0 (And.intro hz1 hz2)))
  have hfi : (f : Int) ≤ 4294967295 := by omega
  have hai : (a : Int) ≤ 4294967295 := by omega
  have HX := Lib.hid (And.intro ox (And.intro tx (And.intro hf0 (And.intro hf (And.intro ha hB)))))
  have H := Lib.hid h
  clear hi0 hz0 hz1 hz2 ox tx hf0 hf ha hB h
  go_enter Tryz.func168, Tryz.ntmps168
  go_wp2
  go_loopw [7, 13] (fun cv iv wr => ∃ (i q : Nat) (zs : List Nat), iv = .int .i64 i ∧ cv = .int .u64 q ∧ i ≤ xs.length ∧ (q : Int) ≤ 4294967295 ∧ Hid (Tx.MA B32 xs zs f a i q ∧ wr.ownsRow base 132 1 (.slice A xs.length c) xs.length (cellsOf .u32 zs) ∧ Below base w wr)) (fun _ iv _ => xs.length - (intOf iv).toNat)
  case atStart => exact ⟨0, a, xs, rfl, rfl, Nat.zero_le _, hai, Lib.hid ⟨Tx.MA.start HX.out.1, H.out, Below.refl _ _⟩⟩
  case round =>
   obtain ⟨i, q, zs, rfl, rfl, hi, hq, HM⟩ := hrel
   by_cases hlt : i < xs.length
   · obtain ⟨g, cur, rfl, hg, hseg⟩ := seg_of_own HM.out.2.1 (by omega)
     have hzl := HM.out.1.len
     have hc := hseg.cell (j := i) (by omega)
     have hfz := hseg.frozen i
     obtain ⟨x, hx⟩ : ∃ x, zs.getD i 0 = x := ⟨_, rfl⟩
     have hxl := limb_lt HM.out.1.ok i
     rw [hx] at hc hxl
     rw [Nat.zero_add] at hc
     obtain ⟨p, hp⟩ : ∃ p, x * f = p := ⟨_, rfl⟩
     have hp' : (x : Int) * (f : Int) = (p : Int) := by rw [← hp, Int.natCast_mul]
     have hpl := limb_prod hxl HX.out.2.2.2.1
     rw [hp] at hpl
     have HD := Lib.hid (And.intro hx (And.intro hp (And.intro hxl (And.intro hg hseg.lt))))
     have hxi : (x : Int) ≤ 4294967295 := by omega
     clear hx hp hzl hseg hxl hg
     go_wp2
     go_roundw
     case rel =>
      have hct := carry_lt (q := q) (x := x) (f := f) (t := q + p) (by omega) HD.out.2.2.1 HX.out.2.2.2.1 (by rw [HD.out.2.1])
      have hst := HM.out.1.step B32_pos hlt HD.out.1 (t := q + p) (by rw [HD.out.2.1])
      have ho := own_set HM.out.2.1 hlt ((q + p) % B32)
      refine ⟨i + 1, (q + p) / B32, _, by go_num, by rw [limb_div (q + p) _ (by omega)], by omega, by have := hct.1; omega, Lib.hid ⟨hst, ?_, ?_⟩⟩
      · rw [limb_mod (q + p) _ (by omega)]; exact ho
      · exact HM.out.2.2.trans (grown_below (grown_store _ _ _ _) HD.out.2.2.2.1 (Nat.le_trans HX.out.2.2.2.2.2 HM.out.2.2.size))
     case measure => simp [intOf]; omega
   · obtain rfl : i = xs.length := by omega
     have hsz := Nat.le_trans HX.out.2.2.2.2.2 HM.out.2.2.size
     have hzl := HM.out.1.len
     by_cases hq0 : 0 < q
     · have hot := HM.out.2.1
       go_wp2_with (at_builtin; refine wpList_append_own _ rfl _ _ 22 rfl base 132 i0 (.int .u32 0) 1 4 Tryz.underlying22 HI.out.1 HI.out.2.1 HI.out.2.2.1 HI.out.2.2.2 rfl (by decide) _ xs.length (cellsOf .u32 zs) rfl (hot.alloc _) ⟨wr.heap.size, 0, none⟩ 1 1 [.int .u32 (q : Int)] rfl rfl (cell_one_new _ _ _) (by simp [Value.oneCell']) (by unfold maxLen; omega) (by omega) (by simp; omega) ?_; intro v1 w2 hown1 hg1 _)
       go_ret
       have hb2 : Below base wr w2 := ((Below.refl _ _).alloc hsz _).grown hg1 (by simp; omega) (fun k hk => (hot.lt k hk).1)
       rw [show cellsOf .u32 zs ++ [Value.int .u32 (q : Int)] = cellsOf .u32 (zs ++ [q]) from by simp [cellsOf]] at hown1
       obtain ⟨A2, c2, rfl, _⟩ := own_form hown1
       have hl2 : (zs ++ [q]).length = xs.length + 1 := by rw [List.length_append, List.length_singleton, hzl]
       refine ⟨A2, c2, zs ++ [q], by rw [hl2]; rfl, by rw [hl2]; exact hown1, HM.out.1.ok.append (Lm.Ok.cons (by unfold B32; omega) (Lm.Ok.nil _)), HM.out.1.top1 hq0, HM.out.1.val1, by omega, HM.out.2.2.trans hb2⟩
     · obtain rfl : q = 0 := by omega
       go_wp2
       go_ret
       exact ⟨A, c, zs, by rw [hzl]; rfl, by rw [hzl]; exact HM.out.2.1, HM.out.1.ok, HM.out.1.top0 HX.out.2.2.1 HX.out.2.1, HM.out.1.val0, by omega, HM.out.2.2⟩
end Go.Proofs.YtpgbnegppehckaaGreat
namespace Go.Proofs.YtpgbnegppehckaaGreat
open Go.RowKit
def IsPar (w w' : World) (r : Nat) (l : List Nat) (e : Ending) : Prop :=
  (Tx.AllDig r l ∧ ∃ A c ys, e = .returned (.tuple #[.slice A ys.length c, .bool true]) ∧ Limbs w' A c ys (Tx.numOf r l) ∧ ys.length ≤ l.length ∧ Below w.heap.size w w') ∨
  (¬ Tx.AllDig r l ∧ e = .returned (.tuple #[.slice none 0 0, .bool false]) ∧ Below w.heap.size w w')
def Part (r : Nat) (l : List Nat) (i u : Nat) : Prop := Tx.AllDig r (l.take i) ∧ Tx.numOf r (l.take i) = u
theorem Part.start (r : Nat) (l : List Nat) : Part r l 0 0 := ⟨fun c hc => by simp at hc, rfl⟩
theorem take_snoc (l : List Nat) (i : Nat) (h : i < l.length) : l.take (i + 1) = l.take i ++ [l.getD i 0] := by
  rw [List.take_succ_eq_append_getElem h, List.getD_eq_getElem?_getD, List.getElem?_eq_getElem h]; rfl
theorem Part.step {r i u d : Nat} {l : List Nat} (h : Part r l i u) (hi : i < l.length) (hd : Tx.dig (l.getD i 0) = d) (hr : d < r) : Part r l (i + 1) (u * r + d) := by
  refine ⟨?_, ?_⟩
  · rw [take_snoc l i hi]
    refine h.1.append fun c hc => ?_
    rw [List.mem_singleton.1 hc, hd]; exact hr
  · rw [take_snoc l i hi, Tx.numOf_snoc, h.2, hd]
theorem Part.lt {r i u k p : Nat} {l : List Nat} (h : Part r l i u) (hi : i ≤ k) (hr : 0 < r) (hp : p = r ^ k) : u < p := by
  have h1 := Tx.numOf_lt h.1
  rw [h.2] at h1
  have h2 : r ^ (l.take i).length ≤ r ^ k := Nat.pow_le_pow_right hr (by rw [List.length_take]; omega)
  omega
theorem not_dig {r i : Nat} {l : List Nat} (hi : i < l.length) (h : r ≤ Tx.dig (l.getD i 0)) : ¬ Tx.AllDig r l := fun h1 => by
  have := h1 (l.getD i 0) (by rw [List.getD_eq_getElem?_getD, List.getElem?_eq_getElem hi]; exact List.getElem_mem hi)
  omega
theorem Tx.AllDig.drop {r p : Nat} {l : List Nat} (h : Tx.AllDig r l) : Tx.AllDig r (l.drop p) := fun c hc => h c (List.mem_of_mem_drop hc)
structure Read (r k : Nat) (l : List Nat) (p : Nat) (ys : List Nat) : Prop where
  le : p ≤ l.length
  dig : Tx.AllDig r (l.take p)
  ok : Lm.Ok B32 ys
  top : Lm.Top ys
  num : Lm.val B32 ys = Tx.numOf r (l.take p)
  len : ys.length ≤ p
  first : p = 0 ∨ (l.length - p) % k = 0
theorem Read.start (r k : Nat) (l : List Nat) : Read r k l 0 [] := ⟨Nat.zero_le _, fun c hc => by simp at hc, Lm.Ok.nil _, Lm.Top.nil, rfl, Nat.zero_le _, .inl rfl⟩
theorem chunk_size {m k n : Nat} (hm : 0 < m) (hk : 0 < k) (hn : n = (m - 1) % k + 1) : n ≤ m ∧ n ≤ k ∧ 0 < n ∧ (m - n) % k = 0 ∧ (m % k = 0 → n = k) := by
  have h1 := Nat.mod_lt (m - 1) hk
  have h2 := Nat.mod_le (m - 1) k
  have h3 := Nat.div_add_mod (m - 1) k
  refine ⟨by omega, by omega, by omega, ?_, fun h => ?_⟩
  · rw [show m - n = k * ((m - 1) / k) from by omega]
    exact Nat.mul_mod_right _ _
  · have h4 := Nat.div_add_mod m k
    rw [h, Nat.add_zero] at h4
    refine Classical.byContradiction fun hne => ?_
    have h5 : (m - 1) % k + 1 < k := by omega
    have h6 : k * (m / k) = k * ((m - 1) / k) + n := by omega
    have h7 : (k * (m / k)) % k = (k * ((m - 1) / k) + n) % k := by rw [h6]
    rw [Nat.mul_mod_right, Nat.mul_add_mod, Nat.mod_eq_of_lt (by omega)] at h7
    omega
theorem Read.step {r k p n u P : Nat} {l ys zs : List Nat} (h : Read r k l p ys) (hk : 0 < k) (hP : P = r ^ k) (hp : p < l.length) (hn : n = (l.length - p - 1) % k + 1) (hpt : Part r (l.drop p) n u)
    (ho : Lm.Ok B32 zs) (ht : Lm.Top zs) (hv : Lm.val B32 zs = Lm.val B32 ys * P + u) (hz : zs.length ≤ ys.length + 1) : Read r k l (p + n) zs := by
  obtain ⟨c1, c2, c3, c4, c5⟩ := chunk_size (m := l.length - p) (by omega) hk hn
  have hta : l.take (p + n) = l.take p ++ (l.drop p).take n := List.take_add
  refine ⟨by omega, by rw [hta]; exact h.dig.append hpt.1, ho, ht, ?_, by have := h.len; omega, .inr (by rw [show l.length - (p + n) = l.length - p - n from by omega]; exact c4)⟩
  rw [hta, Tx.numOf_append, hpt.2, hv, h.num]
  have hln : ((l.drop p).take n).length = n := by rw [List.length_take, List.length_drop]; omega
  rw [hln]
  rcases h.first with h0 | h0
  · subst h0
    simp [Tx.numOf_nil]
  · rw [c5 h0, hP]
theorem Read.len_ok {r k p : Nat} {l ys : List Nat} (h : Read r k l p ys) (hl : l.length ≤ 20000) : ys.length ≤ 20000 := by have := h.le; have := h.len; omega
theorem parseDigits_any (s : ByteArray) (r : Nat) (w : World) (h2 : 2 ≤ r) (h36 : r ≤ 36) (hs : s.size ≤ 20000) : Calls Tryz.prog 146 #[.string s, .int .i64 r] w fun e w' => IsPar w w' r (Tx.bts s) e := by
  have k2 : (2 : Int) ≤ r := by omega
  have k36 : (r : Int) ≤ 36 := by omega
  have hck := chunk_any r w h2 h36
  have HK := Lib.hid hck
  have HR := Lib.hid (And.intro h2 h36)
  obtain ⟨l, hl⟩ : ∃ l, Tx.bts s = l := ⟨_, rfl⟩
  have hll : l.length = s.size := by rw [← hl, Tx.bts_length]
  have HL := Lib.hid (And.intro hl hll)
  rw [hl]
  clear hck h2 h36 hl hll
  go_enter Tryz.func146, Tryz.ntmps146
  go_wp2_with fail
  refine HK.out.mono ?_
  rintro e w1 ⟨k, P, rfl, hP, hk6, hk31, hP2, hPl, hb1⟩
  have hb1' := hb1.alloc hb1.size (.cells #[.int .i64 k, .int .u32 P] 190)
  have HP := Lib.hid (And.intro hP (And.intro hk6 (And.intro hk31 (And.intro hP2 hPl))))
  have hcells : Two (w1.alloc (.cells #[.int .i64 k, .int .u32 P] 190)) w1.heap.size (.int .i64 k) (.int .u32 P) := Two.new _ _ _ _
  have HC := Lib.hid (And.intro hcells (And.intro hb1' hb1.size))
  have hki : (k : Int) ≤ 31 := by omega
  have hkj : (6 : Int) ≤ k := by omega
  have hPi : (P : Int) ≤ 4294967295 := by omega
  have hPj : (2 : Int) ≤ (P : Int) := by omega
  clear hP hk6 hk31 hP2 hPl hcells hb1' hb1 HK
  go_upto_region 2 with fail
  obtain ⟨W1, hW1⟩ : ∃ W : World, W = w1.alloc (.cells #[.int .i64 k, .int .u32 P] 190) := ⟨_, rfl⟩
  obtain ⟨b1, hB1⟩ : ∃ b : Nat, b = w1.heap.size := ⟨_, rfl⟩
  rw [← hW1, ← hB1] at HC
  rw [← hW1, ← hB1]
  have hsz1 : b1 + 1 = W1.heap.size := by rw [hW1, hB1]; simp
  have HS := Lib.hid hsz1
  clear hW1 hB1 hsz1
  go_wp2
  go_loopw [0, 7] (fun sv lv wr => ∃ (p : Nat) (s' : ByteArray) (A : Option Addr) (c : Nat) (ys : List Nat), sv = .string s' ∧ lv = .slice A ys.length c ∧ s'.size ≤ 20000 ∧ Hid (Tx.bts s' = l.drop p ∧ Read r k l p ys ∧ wr.ownsRow (b1 + 1) 132 1 (.slice A ys.length c) ys.length (cellsOf .u32 ys) ∧ Below W1.heap.size W1 wr)) (fun sv _ _ => match sv with | .string s' => s'.size | _ => 0)
  case atStart => exact ⟨0, s, none, 0, [], rfl, rfl, hs, Lib.hid ⟨by rw [HL.out.1]; rfl, Read.start r k l, World.ownsRow_nil _ _ _ _, Below.refl _ _⟩⟩
  case round =>
   obtain ⟨p, s', A, c, ys, rfl, rfl, hs', HA⟩ := hrel
   have hsl : s'.size = l.length - p := by rw [← Tx.bts_length, HA.out.1, List.length_drop]
   have HSL := Lib.hid hsl
   clear hsl
   by_cases h0 : 0 < s'.size
   · obtain ⟨n0, hn0⟩ : ∃ n0, (s'.size - 1) % k = n0 := ⟨_, rfl⟩
     have hmod : ((s'.size : Int) - 1) % (k : Int) = (n0 : Int) := by
       rw [show ((s'.size : Int) - 1) = ((s'.size - 1 : Nat) : Int) from by omega, ← hn0]; simp
     have hcs := chunk_size (m := s'.size) (k := k) (n := n0 + 1) h0 (by have := HP.out.2.1; omega) (by rw [hn0])
     have hnm := hcs.1
     have hnk := hcs.2.1
     have HN := Lib.hid (And.intro hn0 hcs)
     obtain ⟨q0, q1⟩ := Two.step HC.out.1 HA.out.2.2.2 rfl (by have := HS.out; omega)
     have hk1 : ¬ (k : Int) = 0 := by omega
     clear hn0 hcs
     go_wp2
     rw [hmod]
     clear hmod
     go_loopw [9, 25] (fun uv iv wx => ∃ (i u : Nat), iv = .int .i64 i ∧ uv = .int .u32 u ∧ i ≤ n0 + 1 ∧ (u : Int) ≤ 4294967295 ∧ Hid (Part r (l.drop p) i u) ∧ wr = wx) (fun _ iv _ => n0 + 1 - (intOf iv).toNat)
     case atStart => exact ⟨0, 0, rfl, rfl, Nat.zero_le _, by omega, Lib.hid (Part.start r _), rfl⟩
     case round =>
      obtain ⟨i, u, rfl, rfl, hi, hu, HU, rfl⟩ := hrel
      by_cases hin : i < n0 + 1
      · have his : i < s'.size := by omega
        obtain ⟨d, hd⟩ : ∃ d, Tx.dig (s'[i].toNat) = d := ⟨_, rfl⟩
        have hdv := digitValue_any (s'[i].toNat) wr (UInt8.toNat_lt _)
        rw [hd] at hdv
        rw [Tx.bts_at s' i his, HA.out.1] at hd
        have hdl : d ≤ 36 := by rw [← hd]; exact Tx.dig_le _
        have HD := Lib.hid (And.intro hdv hd)
        clear hdv hd
        by_cases hdr : d < r
        · obtain ⟨q, hq⟩ : ∃ q, u * r = q := ⟨_, rfl⟩
          have hq' : (u : Int) * (r : Int) = (q : Int) := by rw [← hq, Int.natCast_mul]
          have hst := HU.out.step (by rw [List.length_drop, ← HSL.out]; exact his) HD.out.2 hdr
          rw [hq] at hst
          have hlt := hst.lt (k := k) (p := P) (by omega) (by omega) HP.out.1
          have hq1 : (q : Int) + (d : Int) ≤ 4294967295 := by omega
          have hq2 : (q : Int) ≤ 4294967295 := by omega
          have HST := Lib.hid hst
          clear hq hst hlt
          go_wp2_with fail
          refine HD.out.1.mono ?_
          rintro e w' ⟨rfl, rfl⟩
          go_wp2
          go_roundw
          case rel => exact ⟨i + 1, q + d, by go_num, by go_num, by omega, by omega, HST, trivial⟩
          case measure => simp [intOf]; omega
        · have hnd : ¬ Tx.AllDig r l := fun h => not_dig (l := l.drop p) (i := i) (r := r) (by rw [List.length_drop, ← HSL.out]; exact his) (by rw [HD.out.2]; omega) h.drop
          have HND := Lib.hid hnd
          clear hnd
          go_wp2_with fail
          refine HD.out.1.mono ?_
          rintro e w' ⟨rfl, rfl⟩
          go_wp2
          go_ret2
          exact .inr ⟨HND.out, rfl, below_then HC.out.2.1 HA.out.2.2.2⟩
      · obtain rfl : i = n0 + 1 := by omega
        have hma := multiplyAdd_any (b1 + 1) A c ys P u wr HA.out.2.2.1 HA.out.2.1.ok HA.out.2.1.top (by have := HA.out.2.1.len_ok (by have := HL.out.2; omega); omega) (by omega) (by omega) (by omega) (by have := HA.out.2.2.2.size; have := HS.out; omega)
        have HMA := Lib.hid hma
        clear hma
        go_wp2_with fail
        refine HMA.out.mono ?_
        rintro e w4 ⟨A4, c4, zs, rfl, hown4, ho4, ht4, hv4, hl4, hb4⟩
        have hst := HA.out.2.1.step (k := k) (n := n0 + 1) (P := P) (l := l) (by omega) HP.out.1 (by have := HSL.out; omega) (by rw [← HSL.out, HN.out.1]) HU.out ho4 ht4 hv4 hl4
        have hbt : Tx.bts (s'.extract (n0 + 1) s'.size) = l.drop (p + (n0 + 1)) := by
          rw [Tx.bts_extract, HA.out.1, ← Tx.bts_length, HA.out.1, List.take_of_length_le (Nat.le_refl _), List.drop_drop]
        have hsz4 : (s'.extract (n0 + 1) s'.size).size ≤ 20000 ∧ (s'.extract (n0 + 1) s'.size).size < s'.size := by rw [ByteArray.size_extract]; omega
        have hb5 : Below W1.heap.size W1 w4 := HA.out.2.2.2.trans (by rw [← HS.out]; exact hb4)
        have HG := Lib.hid (And.intro hst (And.intro hbt (And.intro hsz4 (And.intro hown4 hb5))))
        clear hst hbt hsz4 hown4 hb5 ho4 ht4 hv4 hl4 hb4
        go_wp2
        go_roundw
        case rel => exact ⟨p + (n0 + 1), _, A4, c4, zs, rfl, rfl, HG.out.2.2.1.1, Lib.hid ⟨HG.out.2.1, HG.out.1, HG.out.2.2.2.1, HG.out.2.2.2.2⟩⟩
        case measure => exact HG.out.2.2.1.2
   · have hz : l.drop p = [] := List.eq_nil_of_length_eq_zero (by rw [List.length_drop]; have := HSL.out; omega)
     have htk : l.take p = l := List.take_of_length_le (by have := HSL.out; have := HA.out.2.1.le; omega)
     have HT := Lib.hid htk
     clear hz htk
     go_wp2
     go_ret2
     have hrd := HA.out.2.1
     have hdg := hrd.dig
     have hnm := hrd.num
     rw [HT.out] at hdg hnm
     obtain ⟨A2, c2, e2, hle⟩ := own_form HA.out.2.2.1
     injection e2 with _ _ e3
     exact .inl ⟨hdg, A, c, ys, rfl, ⟨by omega, Nums.of_own HA.out.2.2.1 rfl, hrd.ok, hrd.top, hnm⟩, by have := hrd.len; have := hrd.le; omega, below_then HC.out.2.1 HA.out.2.2.2⟩
end Go.Proofs.YtpgbnegppehckaaGreat
namespace Go.Proofs.YtpgbnegppehckaaGreat
open Go.RowKit
theorem ne_empty {s : ByteArray} (h : 0 < s.size) : s.toList.isEmpty = false := by
  have hl := ByteArray.toList_eq s
  rw [hl]
  cases h1 : s.data.toList with
  | nil => exfalso; have : s.data.toList.length = s.size := Array.length_toList; rw [h1] at this; simp at this; omega
  | cons a l => rfl
theorem parse_plain (s : ByteArray) (r : Nat) (w : World) (h2 : 2 ≤ r) (h36 : r ≤ 36) (hs : s.size ≤ 20000) (h0 : 0 < s.size) (hm : s[0].toNat ≠ 45) (hp : s[0].toNat ≠ 43) :
    Calls Tryz.prog 109 #[.string s, .int .i64 r] w fun e w' => (Tx.AllDig r (Tx.bts s) ∧ IsIE w w' (ofSign false (Tx.numOf r (Tx.bts s))) 0 e) ∨ (¬ Tx.AllDig r (Tx.bts s) ∧ IsIE w w' 0 2 e) := by
  have hb0 : Below w.heap.size w (w.alloc (.cells #[.bool false, .slice none 0 0] 31)) := (Below.refl _ _).alloc (Nat.le_refl _) _
  have hR := Res.new w 31
  have hrd := radix_yes r (w.alloc (.cells #[.bool false, .slice none 0 0] 31)) h2 h36
  have hpd := parseDigits_any s r (w.alloc (.cells #[.bool false, .slice none 0 0] 31)) h2 h36 hs
  have hsl : (Tx.bts s).length ≤ 20000 := by rw [Tx.bts_length]; exact hs
  have H := Lib.hid (And.intro hrd (And.intro hR (And.intro hb0 hpd)))
  have hm' : ((s[0].toNat : Int) == 45) = false := by simp; omega
  have hp' : ((s[0].toNat : Int) == 43) = false := by simp; omega
  have hne := ne_empty h0
  clear hrd hR hb0 h2 h36 hpd hm hp
  go_enter Tryz.func109, Tryz.ntmps109
  go_wp2_with fail
  refine H.out.1.mono ?_
  rintro e w' ⟨rfl, rfl⟩
  obtain ⟨⟨hr0, hr1⟩, hf0, hf1⟩ := id H.out.2.1
  go_wp2_with fail
  refine H.out.2.2.2.mono ?_
  rintro e w1 (⟨hdig, A1, c1, ys, rfl, hl1, hyl, hb1⟩ | ⟨hdig, rfl, hb1⟩)
  · have r1 := H.out.2.1.step hb1 rfl (by simp)
    obtain ⟨⟨kr0, kr1⟩, kf0, kf1⟩ := id r1
    have hb2 := below_then H.out.2.2.1 hb1
    have hsg := signed_any false A1 c1 ys w1 hl1.2.1 hl1.2.2.1 (by omega) hl1.1
    rw [hl1.2.2.2.2] at hsg
    have HG := Lib.hid (And.intro hsg (And.intro r1 (And.intro hb2 hdig)))
    have hz1 := hb1.size
    rw [size_alloc] at hz1
    clear hsg r1 hb1 hb2 hdig hl1 hyl hr0 hr1 hf0 hf1
    go_wp2_with fail
    refine HG.out.1.mono ?_
    rintro e w2 ⟨v2, rfl, ⟨b2, A2, c2, zs2, rfl, hs2, hl2⟩, hb2⟩
    have r2 := HG.out.2.1.step hb2 rfl (by omega)
    obtain ⟨⟨hr0, hr1⟩, hf0, hf1⟩ := id r2
    have b4 := below_then HG.out.2.2.1 hb2
    go_wp2
    have q := r2.1.stored (.bool b2) (.slice A2 zs2.length c2)
    obtain ⟨q0, q1⟩ := id q
    refine bodyPost_ret (v := .tuple #[.agg #[.bool b2, .slice A2 zs2.length c2], .int .i64 0]) (by simp [results, Tryz.results109, go_sem, q0, q1]) rfl ?_
    exact .inl ⟨HG.out.2.2.2, intE_stored r2 hs2 hl2 b4 (by omega)⟩
  · have r1 := H.out.2.1.step hb1 rfl (by simp)
    obtain ⟨⟨kr0, kr1⟩, kf0, kf1⟩ := id r1
    have hb2 := below_then H.out.2.2.1 hb1
    have HG := Lib.hid (And.intro r1 (And.intro hb2 hdig))
    clear r1 hb1 hb2 hdig hr0 hr1 hf0 hf1
    go_wp2
    have q := HG.out.1.1.stored (.bool false) (.slice none 0 0)
    obtain ⟨q0, q1⟩ := id q
    refine bodyPost_ret (v := .tuple #[.agg #[.bool false, .slice none 0 0], .int .i64 2]) (by simp [results, Tryz.results109, go_sem, q0, q1]) rfl ?_
    exact .inr ⟨HG.out.2.2, intE_stored (z := 0) (zs := []) HG.out.1 (by simp [SignOf]) ⟨Nat.le_refl _, Nums.nil _ _ _, Lm.Ok.nil _, Lm.Top.nil, rfl⟩ HG.out.2.1 (by omega)⟩
theorem parse_minus (s t : ByteArray) (r : Nat) (w : World) (h2 : 2 ≤ r) (h36 : r ≤ 36) (hs : s.size ≤ 20000) (h0 : 0 < s.size) (hm : s[0].toNat = 45) (ht : s.extract 1 s.size = t) (h1 : 0 < t.size) :
    Calls Tryz.prog 109 #[.string s, .int .i64 r] w fun e w' => (Tx.AllDig r (Tx.bts t) ∧ IsIE w w' (ofSign true (Tx.numOf r (Tx.bts t))) 0 e) ∨ (¬ Tx.AllDig r (Tx.bts t) ∧ IsIE w w' 0 2 e) := by
  have hb0 : Below w.heap.size w (w.alloc (.cells #[.bool false, .slice none 0 0] 31)) := (Below.refl _ _).alloc (Nat.le_refl _) _
  have hR := Res.new w 31
  have hrd := radix_yes r (w.alloc (.cells #[.bool false, .slice none 0 0] 31)) h2 h36
  have htl : t.size ≤ 20000 := by rw [← ht, ByteArray.size_extract]; omega
  have hpd := parseDigits_any t r (w.alloc (.cells #[.bool false, .slice none 0 0] 31)) h2 h36 htl
  have hsl : (Tx.bts t).length ≤ 20000 := by rw [Tx.bts_length]; exact htl
  have H := Lib.hid (And.intro hrd (And.intro hR (And.intro hb0 hpd)))
  have hm' : (s[0].toNat : Int) = 45 := by omega
  have hne := ne_empty h0
  have hnt := ne_empty h1
  clear hrd hR hb0 h2 h36 hpd hm htl
  go_enter Tryz.func109, Tryz.ntmps109
  go_wp2_with fail
  refine H.out.1.mono ?_
  rintro e w' ⟨rfl, rfl⟩
  obtain ⟨⟨hr0, hr1⟩, hf0, hf1⟩ := id H.out.2.1
  go_wp2_with fail
  refine H.out.2.2.2.mono ?_
  rintro e w1 (⟨hdig, A1, c1, ys, rfl, hl1, hyl, hb1⟩ | ⟨hdig, rfl, hb1⟩)
  · have r1 := H.out.2.1.step hb1 rfl (by simp)
    obtain ⟨⟨kr0, kr1⟩, kf0, kf1⟩ := id r1
    have hb2 := below_then H.out.2.2.1 hb1
    have hsg := signed_any true A1 c1 ys w1 hl1.2.1 hl1.2.2.1 (by omega) hl1.1
    rw [hl1.2.2.2.2] at hsg
    have HG := Lib.hid (And.intro hsg (And.intro r1 (And.intro hb2 hdig)))
    have hz1 := hb1.size
    rw [size_alloc] at hz1
    clear hsg r1 hb1 hb2 hdig hl1 hyl hr0 hr1 hf0 hf1
    go_wp2_with fail
    refine HG.out.1.mono ?_
    rintro e w2 ⟨v2, rfl, ⟨b2, A2, c2, zs2, rfl, hs2, hl2⟩, hb2⟩
    have r2 := HG.out.2.1.step hb2 rfl (by omega)
    obtain ⟨⟨hr0, hr1⟩, hf0, hf1⟩ := id r2
    have b4 := below_then HG.out.2.2.1 hb2
    go_wp2
    have q := r2.1.stored (.bool b2) (.slice A2 zs2.length c2)
    obtain ⟨q0, q1⟩ := id q
    refine bodyPost_ret (v := .tuple #[.agg #[.bool b2, .slice A2 zs2.length c2], .int .i64 0]) (by simp [results, Tryz.results109, go_sem, q0, q1]) rfl ?_
    exact .inl ⟨HG.out.2.2.2, intE_stored r2 hs2 hl2 b4 (by omega)⟩
  · have r1 := H.out.2.1.step hb1 rfl (by simp)
    obtain ⟨⟨kr0, kr1⟩, kf0, kf1⟩ := id r1
    have hb2 := below_then H.out.2.2.1 hb1
    have HG := Lib.hid (And.intro r1 (And.intro hb2 hdig))
    clear r1 hb1 hb2 hdig hr0 hr1 hf0 hf1
    go_wp2
    have q := HG.out.1.1.stored (.bool false) (.slice none 0 0)
    obtain ⟨q0, q1⟩ := id q
    refine bodyPost_ret (v := .tuple #[.agg #[.bool false, .slice none 0 0], .int .i64 2]) (by simp [results, Tryz.results109, go_sem, q0, q1]) rfl ?_
    exact .inr ⟨HG.out.2.2, intE_stored (z := 0) (zs := []) HG.out.1 (by simp [SignOf]) ⟨Nat.le_refl _, Nums.nil _ _ _, Lm.Ok.nil _, Lm.Top.nil, rfl⟩ HG.out.2.1 (by omega)⟩
theorem parse_plus (s t : ByteArray) (r : Nat) (w : World) (h2 : 2 ≤ r) (h36 : r ≤ 36) (hs : s.size ≤ 20000) (h0 : 0 < s.size) (hm : s[0].toNat = 43) (ht : s.extract 1 s.size = t) (h1 : 0 < t.size) :
    Calls Tryz.prog 109 #[.string s, .int .i64 r] w fun e w' => (Tx.AllDig r (Tx.bts t) ∧ IsIE w w' (ofSign false (Tx.numOf r (Tx.bts t))) 0 e) ∨ (¬ Tx.AllDig r (Tx.bts t) ∧ IsIE w w' 0 2 e) := by
  have hb0 : Below w.heap.size w (w.alloc (.cells #[.bool false, .slice none 0 0] 31)) := (Below.refl _ _).alloc (Nat.le_refl _) _
  have hR := Res.new w 31
  have hrd := radix_yes r (w.alloc (.cells #[.bool false, .slice none 0 0] 31)) h2 h36
  have htl : t.size ≤ 20000 := by rw [← ht, ByteArray.size_extract]; omega
  have hpd := parseDigits_any t r (w.alloc (.cells #[.bool false, .slice none 0 0] 31)) h2 h36 htl
  have hsl : (Tx.bts t).length ≤ 20000 := by rw [Tx.bts_length]; exact htl
  have H := Lib.hid (And.intro hrd (And.intro hR (And.intro hb0 hpd)))
  have hm' : (s[0].toNat : Int) = 43 := by omega
  have hne := ne_empty h0
  have hnt := ne_empty h1
  clear hrd hR hb0 h2 h36 hpd hm htl
  go_enter Tryz.func109, Tryz.ntmps109
  go_wp2_with fail
  refine H.out.1.mono ?_
  rintro e w' ⟨rfl, rfl⟩
  obtain ⟨⟨hr0, hr1⟩, hf0, hf1⟩ := id H.out.2.1
  go_wp2_with fail
  refine H.out.2.2.2.mono ?_
  rintro e w1 (⟨hdig, A1, c1, ys, rfl, hl1, hyl, hb1⟩ | ⟨hdig, rfl, hb1⟩)
  · have r1 := H.out.2.1.step hb1 rfl (by simp)
    obtain ⟨⟨kr0, kr1⟩, kf0, kf1⟩ := id r1
    have hb2 := below_then H.out.2.2.1 hb1
    have hsg := signed_any false A1 c1 ys w1 hl1.2.1 hl1.2.2.1 (by omega) hl1.1
    rw [hl1.2.2.2.2] at hsg
    have HG := Lib.hid (And.intro hsg (And.intro r1 (And.intro hb2 hdig)))
    have hz1 := hb1.size
    rw [size_alloc] at hz1
    clear hsg r1 hb1 hb2 hdig hl1 hyl hr0 hr1 hf0 hf1
    go_wp2_with fail
    refine HG.out.1.mono ?_
    rintro e w2 ⟨v2, rfl, ⟨b2, A2, c2, zs2, rfl, hs2, hl2⟩, hb2⟩
    have r2 := HG.out.2.1.step hb2 rfl (by omega)
    obtain ⟨⟨hr0, hr1⟩, hf0, hf1⟩ := id r2
    have b4 := below_then HG.out.2.2.1 hb2
    go_wp2
    have q := r2.1.stored (.bool b2) (.slice A2 zs2.length c2)
    obtain ⟨q0, q1⟩ := id q
    refine bodyPost_ret (v := .tuple #[.agg #[.bool b2, .slice A2 zs2.length c2], .int .i64 0]) (by simp [results, Tryz.results109, go_sem, q0, q1]) rfl ?_
    exact .inl ⟨HG.out.2.2.2, intE_stored r2 hs2 hl2 b4 (by omega)⟩
  · have r1 := H.out.2.1.step hb1 rfl (by simp)
    obtain ⟨⟨kr0, kr1⟩, kf0, kf1⟩ := id r1
    have hb2 := below_then H.out.2.2.1 hb1
    have HG := Lib.hid (And.intro r1 (And.intro hb2 hdig))
    clear r1 hb1 hb2 hdig hr0 hr1 hf0 hf1
    go_wp2
    have q := HG.out.1.1.stored (.bool false) (.slice none 0 0)
    obtain ⟨q0, q1⟩ := id q
    refine bodyPost_ret (v := .tuple #[.agg #[.bool false, .slice none 0 0], .int .i64 2]) (by simp [results, Tryz.results109, go_sem, q0, q1]) rfl ?_
    exact .inr ⟨HG.out.2.2, intE_stored (z := 0) (zs := []) HG.out.1 (by simp [SignOf]) ⟨Nat.le_refl _, Nums.nil _ _ _, Lm.Ok.nil _, Lm.Top.nil, rfl⟩ HG.out.2.1 (by omega)⟩
end Go.Proofs.YtpgbnegppehckaaGreat
namespace Go.Proofs.YtpgbnegppehckaaGreat.FK
open Go.RowKit Go.Proofs.YtpgbnegppehckaaGreat.RK
theorem qparse_some (s a b : ByteArray) (r n d X D er : Int) (k m : Nat) (w : World) (hk : firstIdx s 47 = (k : Int)) (hs : ([47] == s.toList) = false) (hl : k < s.size) (hz : s.size ≤ 20000) (ha : s.extract 0 k = a) (hb : s.extract (k + 1) s.size = b)
    (pa : ∀ w, Calls Tryz.prog 109 #[.string a, .int .i64 r] w fun e w' => IsIE w w' n 0 e) (pb : ∀ w, Calls Tryz.prog 109 #[.string b, .int .i64 r] w fun e w' => IsIE w w' d 0 e)
    (h0 : 0 < b.size) (hm : ((b[0].toNat : Int) == 45) = false) (hp : ((b[0].toNat : Int) == 43) = false) (nb : Hid (NewB n d X D er m)) :
    Calls Tryz.prog 58 #[.string s, .int .i64 r] w fun e w' => IsRatE w w' X D er e := by
  have HU := Lib.hid (fun w => cut_some s a b k w hk hs hl (by omega) ha hb)
  have HP := Lib.hid (And.intro pa pb)
  have hz1 : (s.size : Int) ≤ 20000 := by omega
  have gh0 := (FVars.told (FVars.nil w.heap.size w) (t := ⟨false, 0, false, none, 0, 0, false, none, 0, 0, 0, 1, 3⟩) ((zero3 _)) rfl).laid4 38 (show 3 ≤ 3 from by decide) (by exact Nat.le_refl _)
  have gb : Below w.heap.size w (w.alloc (.cells #[.bool false, .slice none 0 0, .bool false, .slice none 0 0] 38)) := ((Below.refl w.heap.size w).alloc (by exact Nat.le_refl _) (.cells #[.bool false, .slice none 0 0, .bool false, .slice none 0 0] 38))
  simp only [size_alloc] at gh0
  obtain ⟨W, hW⟩ : ∃ W : World, (w.alloc (.cells #[.bool false, .slice none 0 0, .bool false, .slice none 0 0] 38)) = W := ⟨_, rfl⟩
  rw [hW] at gh0 gb
  have HC := Lib.hid (And.intro gh0 gb)
  have HW := Lib.hid hW
  clear gb hW gh0
  clear hk hs hl hz ha hb pa pb
  go_enter Tryz.func58, Tryz.ntmps58
  go_upto_region 1 with fail
  rw [HW.out]
  clear HW
  go_wp2_with fail
  refine (HU.out _).mono ?_
  rintro e wq1 ⟨rfl, hb1⟩
  have HC1 := Lib.hid (And.intro (HC.out.1.step hb1 rfl) (below_then HC.out.2 hb1))
  clear hb1 HC
  go_wp2_with fail
  refine (HP.out.1 _).mono ?_
  rintro e wq2 ⟨qv2, rfl, hq2, hb2⟩
  obtain ⟨qb2, qA2, qn2, qc2, rfl, hq2⟩ := open0 hq2
  have hv2 := (FVars.told (FVars.step HC1.out.1 hb2 rfl) (t := ⟨false, 0, qb2, qA2, qn2, qc2, false, none, 0, 0, n, 0, 0⟩) hq2 rfl).laid2 31 lyK (Nat.le_trans HC1.out.2.size hb2.size)
  have hl2 : Below w.heap.size w (wq2.alloc (.cells #[.bool qb2, .slice qA2 qn2 qc2] 31)) := ((below_then HC1.out.2 hb2).alloc (Nat.le_trans HC1.out.2.size hb2.size) (.cells #[.bool qb2, .slice qA2 qn2 qc2] 31))
  obtain ⟨Wq2, hW2⟩ : ∃ W : World, W = wq2.alloc (.cells #[.bool qb2, .slice qA2 qn2 qc2] 31) := ⟨_, rfl⟩
  obtain ⟨rrq2, hsq2⟩ : ∃ r : Nat, r = wq2.heap.size := ⟨_, rfl⟩
  rw [← hW2] at hv2 hl2
  rw [← hsq2] at hv2
  have HC2 := Lib.hid (And.intro hv2 hl2)
  have HW2 := Lib.hid hW2
  have HRq2 := Lib.hid hsq2
  clear hv2 hl2 hW2 hb2 hsq2 hq2 HC1
  go_upto_region 6 with fail
  rw [← HW2.out]
  rw [← HRq2.out]
  clear HW2 HRq2
  go_wp2_with fail
  refine (HP.out.2 _).mono ?_
  rintro e wq3 ⟨qv3, rfl, hq3, hb3⟩
  obtain ⟨qb3, qA3, qn3, qc3, rfl, hq3⟩ := open0 hq3
  have hv3 := (FVars.told (FVars.step HC2.out.1 hb3 rfl) (t := ⟨false, 0, qb3, qA3, qn3, qc3, false, none, 0, 0, d, 0, 0⟩) hq3 rfl).laid2 31 lyK (Nat.le_trans HC2.out.2.size hb3.size)
  have hl3 : Below w.heap.size w (wq3.alloc (.cells #[.bool qb3, .slice qA3 qn3 qc3] 31)) := ((below_then HC2.out.2 hb3).alloc (Nat.le_trans HC2.out.2.size hb3.size) (.cells #[.bool qb3, .slice qA3 qn3 qc3] 31))
  obtain ⟨Wq3, hW3⟩ : ∃ W : World, W = wq3.alloc (.cells #[.bool qb3, .slice qA3 qn3 qc3] 31) := ⟨_, rfl⟩
  obtain ⟨rrq3, hsq3⟩ : ∃ r : Nat, r = wq3.heap.size := ⟨_, rfl⟩
  rw [← hW3] at hv3 hl3
  rw [← hsq3] at hv3
  have HC3 := Lib.hid (And.intro hv3 hl3)
  have HW3 := Lib.hid hW3
  have HRq3 := Lib.hid hsq3
  clear hv3 hl3 hW3 hb3 hsq3 hq3 HC2
  go_upto_region 9 with fail
  rw [← HW3.out]
  rw [← HRq3.out]
  clear HW3 HRq3
  obtain ⟨pt0, pt1⟩ : Two Wq3 rrq2 (.bool qb2) (.slice qA2 qn2 qc2) := (HC3.out.1.all 1 _ rfl).lies rfl
  obtain ⟨pu0, pu1⟩ : Two Wq3 rrq3 (.bool qb3) (.slice qA3 qn3 qc3) := (HC3.out.1.all 0 _ rfl).lies rfl
  go_wp2_with fail
  refine (nb.out.p _ _ _ ((HC3.out.1.all 1 _ rfl).at_) ((HC3.out.1.all 0 _ rfl).at_)).mono ?_
  rintro e wq4 ⟨qv4, rfl, hq4, hb4⟩
  obtain ⟨qb4, qA4, qn4, qc4, qbb4, qAA4, qnn4, qcc4, rfl, hq4⟩ := open3 hq4
  have HC4 := Lib.hid (And.intro (FVars.told (HC3.out.1.step hb4 rfl) (t := ⟨false, 0, qb4, qA4, qn4, qc4, qbb4, qAA4, qnn4, qcc4, X, D, 3⟩) hq4 rfl) (below_then HC3.out.2 hb4))
  clear pt0 pt1 pu0 pu1
  clear hb4 hq4 HC3
  obtain ⟨ka0, ka1, ka2, ka3⟩ : Quad wq4 w.heap.size (.bool false) (.slice none 0 0) (.bool false) (.slice none 0 0) := (HC4.out.1.all 3 _ rfl).lies rfl
  have kf0 := (HC4.out.1.all 3 _ rfl).frz rfl 0
  have kf1 := (HC4.out.1.all 3 _ rfl).frz rfl 1
  have kf2 := (HC4.out.1.all 3 _ rfl).frz rfl 2
  have kf3 := (HC4.out.1.all 3 _ rfl).frz rfl 3
  have hu5 := FVars.over4 HC4.out.1 3 (s := ⟨true, w.heap.size, false, none, 0, 0, false, none, 0, 0, 0, 1, 3⟩) (t := ⟨false, 0, qb4, qA4, qn4, qc4, qbb4, qAA4, qnn4, qcc4, X, D, 3⟩) rfl rfl (show 3 ≤ 3 from by decide) (show 3 ≤ 3 from by decide) ((HC4.out.1.all 0 _ rfl).at_)
  have HE : Hid (FVars w.heap.size (put4 wq4 w.heap.size (.bool qb4) (.slice qA4 qn4 qc4) (.bool qbb4) (.slice qAA4 qnn4 qcc4)) [⟨false, 0, qb4, qA4, qn4, qc4, qbb4, qAA4, qnn4, qcc4, X, D, 3⟩, ⟨true, rrq3, qb3, qA3, qn3, qc3, false, none, 0, 0, d, 0, 0⟩, ⟨true, rrq2, qb2, qA2, qn2, qc2, false, none, 0, 0, n, 0, 0⟩, ⟨true, w.heap.size, qb4, qA4, qn4, qc4, qbb4, qAA4, qnn4, qcc4, X, D, 3⟩] ∧ Below w.heap.size w (put4 wq4 w.heap.size (.bool qb4) (.slice qA4 qn4 qc4) (.bool qbb4) (.slice qAA4 qnn4 qcc4))) := Lib.hid (And.intro hu5 ((((HC4.out.2.setCell (p := ⟨w.heap.size, 0, none⟩) (HC4.out.1.up 3 _ rfl rfl) _).setCell (p := ⟨w.heap.size, 1, none⟩) (HC4.out.1.up 3 _ rfl rfl) _).setCell (p := ⟨w.heap.size, 2, none⟩) (HC4.out.1.up 3 _ rfl rfl) _).setCell (p := ⟨w.heap.size, 3, none⟩) (HC4.out.1.up 3 _ rfl rfl) _))
  clear hu5
  go_wp2
  obtain ⟨e0, e1, e2, e3⟩ : Quad (put4 wq4 w.heap.size (.bool qb4) (.slice qA4 qn4 qc4) (.bool qbb4) (.slice qAA4 qnn4 qcc4)) w.heap.size (.bool qb4) (.slice qA4 qn4 qc4) (.bool qbb4) (.slice qAA4 qnn4 qcc4) := (HE.out.1.all 3 _ rfl).lies rfl
  unfold put4 at e0 e1 e2 e3
  refine bodyPost_ret (v := (.tuple #[.agg #[.bool qb4, .slice qA4 qn4 qc4, .bool qbb4, .slice qAA4 qnn4 qcc4], .int .i64 er])) (by simp [results, Tryz.results58, go_sem, e0, e1, e2, e3]) rfl ?_
  exact ⟨_, rfl, (HE.out.1.all 3 _ rfl).at_, HE.out.2⟩
end Go.Proofs.YtpgbnegppehckaaGreat.FK
