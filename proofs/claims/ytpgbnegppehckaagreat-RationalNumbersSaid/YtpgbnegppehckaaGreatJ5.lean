/- Contract of the fractions of the program: a row of integers, from its end on. -/
import Derived.Test.YtpgbnegppehckaaGreatJ4
set_option linter.unusedSimpArgs false
set_option maxRecDepth 100000
set_option maxHeartbeats 8000000
namespace Go.Proofs.YtpgbnegppehckaaGreat.FK
open Go.RowKit Go.Proofs.YtpgbnegppehckaaGreat.RK
structure Chain (zs : List Int) (k m : Nat) (Nf Df : Nat → Int) : Prop where
  len : zs.length = k + 1
  hk : k ≤ 100000
  hm0 : 0 < m
  hm : m ≤ 39
  fz : ∀ (j : Nat) (z : Int), zs[j]? = some z → z.natAbs < B32 ^ m
  fN : ∀ j, j ≤ k → (Nf j).natAbs < B32 ^ m
  fD : ∀ j, j ≤ k → (Df j).natAbs < B32 ^ m
  st : zs[k]? = some (Nf k)
  sd : Df k = 1
  go : ∀ j, j < k → ∀ z : Int, zs[j]? = some z → z * Nf (j + 1) + Df (j + 1) = Nf j ∧ Df j = Nf (j + 1)
  ne : ∀ j, j < k → Nf (j + 1) ≠ 0
theorem contract_is (v : Value) (zs : List Int) (k m : Nat) (Nf Df : Nat → Int) (X D er : Int) (w : World) (h : IRow w v zs) (ch : Chain zs k m Nf Df) (m2 : Nat) (nb : Hid (NewB (Nf 0) (Df 0) X D er m2)) :
    Calls Tryz.prog 52 #[v] w fun e w' => IsRatE w w' X D er e := by
  obtain ⟨g, c, rfl, hg, hc, hz⟩ := id h
  obtain ⟨bl, Al, nl, cl, pl, il, _⟩ := h.at_ ch.st
  have HR := Lib.hid (And.intro h (And.intro pl (And.intro il hg)))
  have HCH := Lib.hid ch
  rw [ch.len] at hc ⊢
  have hkk : k ≤ 100000 := ch.hk
  have i0 : (0 : Int) ≤ (k : Int) := Int.natCast_nonneg k
  have i1 : (k : Int) < (((k + 1 : Nat)) : Int) := by omega
  have gh0 := (FVars.told (FVars.nil w.heap.size w) (t := ⟨false, 0, false, none, 0, 0, false, none, 0, 0, 0, 1, 3⟩) ((zero3 _)) rfl).laid4 38 (show 3 ≤ 3 from by decide) (by exact Nat.le_refl _)
  have gb : Below w.heap.size w (w.alloc (.cells #[.bool false, .slice none 0 0, .bool false, .slice none 0 0] 38)) := ((Below.refl w.heap.size w).alloc (by exact Nat.le_refl _) (.cells #[.bool false, .slice none 0 0, .bool false, .slice none 0 0] 38))
  simp only [size_alloc] at gh0
  obtain ⟨W, hW⟩ : ∃ W : World, (w.alloc (.cells #[.bool false, .slice none 0 0, .bool false, .slice none 0 0] 38)) = W := ⟨_, rfl⟩
  rw [hW] at gh0 gb
  have HC := Lib.hid (And.intro gh0 gb)
  have HW := Lib.hid hW
  clear gb hW gh0
  clear h hg hz ch pl il
  go_enter Tryz.func52, Tryz.ntmps52
  go_upto_region 1 with fail
  rw [HW.out]
  clear HW
  go_upto_region 4 with fail
  go_cut [4, 5, 6] (fun s4 s5 s6 wx => ∃ (rn : Nat) (bn : Bool) (An : Option Addr) (nn cn : Nat) (rd : Nat) (bd : Bool) (Ad : Option Addr) (nd cd : Nat), s4 = .int .i64 (k : Int) ∧ s5 = .pointer (some ⟨rn, 0, none⟩) ∧ s6 = .pointer (some ⟨rd, 0, none⟩) ∧ FVars w.heap.size wx [⟨true, rd, bd, Ad, nd, cd, false, none, 0, 0, 1, 0, 0⟩, ⟨true, rn, bn, An, nn, cn, false, none, 0, 0, (Nf k), 0, 0⟩, ⟨true, w.heap.size, false, none, 0, 0, false, none, 0, 0, 0, 1, 3⟩] ∧ Below w.heap.size w wx)
  case first => as_aux_lemma =>
   have HD1 := Lib.hid (And.intro HC.out.1.drew HC.out.2.drew)
   refine wp_region_held_drew (S := fun w' => PairAt w' g (k * 2) (.bool bl) (.slice Al nl cl)) (by kernel_rfl) (HR.out.2.1.step HD1.out.2 rfl HR.out.2.2.2) (fun hH0 => ?_)
   refine wpAnyH_take (i := 0) (v := (.slice (some ⟨g, 0, none⟩) (k + 1) c)) rfl (by kernel_rfl) (by kernel_rfl) (by kernel_rfl) (fun _ _ _ h => h) (Or.inl ⟨by kernel_rfl, fun _ _ => by kernel_rfl⟩) hH0 ?r1
   change wpAnyH _ _ _ _ _ _ _ (Act.put _ (some 15) _) _
   simp only [Act.put, lyA, lyZ, lyS]
   refine wpAnyH_take (i := 1) (v := (.int .i64 (k : Int))) rfl (by kernel_rfl) (by kernel_rfl) (by kernel_rfl) (fun _ _ _ h => h) (Or.inl ⟨by kernel_rfl, fun _ _ => by kernel_rfl⟩) hH0 ?r2
   change wpAnyH _ _ _ _ _ _ _ (Act.put _ (some 16) _) _
   simp only [Act.put, lyA, lyZ, lyS]
   refine wpAnyH_take (i := 2) (v := (.pointer (some ⟨g, k * 2, none⟩))) rfl (by kernel_rfl) (by kernel_rfl) (by kernel_rfl) (fun _ _ _ h => h) (Or.inl ⟨by kernel_rfl, fun w0 hS0 => by go_simp <;> (intro hx; exfalso; omega)⟩) hH0 ?r3
   change wpAnyH _ _ _ _ _ _ _ (Act.put _ (some 17) _) _
   simp only [Act.put, lyA, lyZ, lyS]
   refine wpAnyH_take (i := 3) (v := (.agg #[.bool bl, .slice Al nl cl])) rfl (by kernel_rfl) (by kernel_rfl) (by kernel_rfl) (fun _ _ _ h => h) (Or.inl ⟨by kernel_rfl, fun w0 hS0 => loadat hS0 (.tmp 17) (by kernel_rfl) (by kernel_rfl)⟩) hH0 ?r4
   change wpAnyH _ _ _ _ _ _ _ (Act.put _ (some 18) _) _
   simp only [Act.put, lyA, lyZ, lyS]
   refine wpAnyH_ready (rs := [4, 5, 6]) (by kernel_rfl) (by simp) ?_
   refine AllReadyH.cons rfl (fun K hK0 => ?d5) (AllReadyH.cons rfl (fun K hK0 => ?d6) (AllReadyH.cons rfl (fun K hK0 => ?d7) (AllReadyH.nil)))
   case d5 =>
    have hK := hK0.out
    clear hK0
    rw [if_pos (by kernel_rfl)]
    refine wp_go_call 65 #[(Value.int IntKind.i64 1)] (fun _ => by kernel_rfl) ((New_pos 1 _ (by decide)).mono ?_)
    rintro e wq2 ⟨qv2, rfl, hq2, hb2⟩
    obtain ⟨qb2, qA2, qn2, qc2, rfl, hq2⟩ := open0 hq2
    have HD2 := Lib.hid (And.intro (FVars.told (HD1.out.1.step hb2 rfl) (t := ⟨false, 0, qb2, qA2, qn2, qc2, false, none, 0, 0, 1, 0, 0⟩) hq2 rfl) (below_then HD1.out.2 hb2))
    clear hq2 hb2 HD1
    refine ⟨(.agg #[.bool qb2, .slice qA2 qn2 qc2]), rfl, hK _ _ (HR.out.2.1.step HD2.out.2 rfl HR.out.2.2.2) (fun hH2 => ?_)⟩
    clear hK K hH0
    change wpAnyH _ _ _ _ _ _ _ (Act.put _ (some 19) _) _
    simp only [Act.put, lyA, lyZ, lyS]
    refine wpAnyH_ready (rs := [5, 6]) (by kernel_rfl) (by simp) ?_
    refine AllReadyH.cons rfl (fun K hK0 => ?d8) (AllReadyH.cons rfl (fun K hK0 => ?d9) (AllReadyH.nil))
    case d8 =>
     have hK := hK0.out
     clear hK0
     rw [if_pos (by kernel_rfl)]
     refine wp_go_val (.pointer (some ⟨(wq2).heap.size, 0, none⟩)) (alloc0 _ _ _ (by kernel_rfl)) ?_
     have HD3 := Lib.hid (And.intro ((FVars.told HD2.out.1 (t := ⟨false, 0, false, none, 0, 0, false, none, 0, 0, 0, 0, 0⟩) (zero0 _) rfl).laid2 31 lyK HD2.out.2.size) (HD2.out.2.alloc HD2.out.2.size (.cells #[.bool false, .slice none 0 0] 31)))
     refine hK _ _ (HR.out.2.1.step HD3.out.2 rfl HR.out.2.2.2) (fun hH3 => ?_)
     clear hK K hH2
     change wpAnyH _ _ _ _ _ _ _ (Act.put _ (some 5) _) _
     simp only [Act.put, lyA, lyZ, lyS]
     refine wpAnyH_ready (rs := [6]) (by kernel_rfl) (by simp) ?_
     refine AllReadyH.cons rfl (fun K hK0 => ?d10) (AllReadyH.nil)
     have hK := hK0.out
     clear hK0
     rw [if_pos (by kernel_rfl)]
     refine wp_go_val (.pointer (some ⟨(((wq2).alloc (.cells #[.bool false, .slice none 0 0] 31))).heap.size, 0, none⟩)) (alloc0 _ _ _ (by kernel_rfl)) ?_
     have HD4 := Lib.hid (And.intro ((FVars.told HD3.out.1 (t := ⟨false, 0, false, none, 0, 0, false, none, 0, 0, 0, 0, 0⟩) (zero0 _) rfl).laid2 31 lyK HD3.out.2.size) (HD3.out.2.alloc HD3.out.2.size (.cells #[.bool false, .slice none 0 0] 31)))
     refine hK _ _ (HR.out.2.1.step HD4.out.2 rfl HR.out.2.2.2) (fun hH4 => ?_)
     clear hK K hH3
     change wpAnyH _ _ _ _ _ _ _ (Act.put _ (some 6) _) _
     simp only [Act.put, lyA, lyZ, lyS]
     refine wpAnyH_ready (rs := [7]) (by kernel_rfl) (by simp) ?_
     refine AllReadyH.cons rfl (fun K hK0 => ?d11) (AllReadyH.nil)
     have hK := hK0.out
     clear hK0
     rw [if_pos (by kernel_rfl)]
     refine wp_go_skip (store0 ((HD4.out.1.all 1 _ rfl).lies rfl) ((HD4.out.1.all 1 _ rfl).frz rfl) bl Al nl cl (.tmp 5) (.tmp 18) (by kernel_rfl) (by kernel_rfl) (by kernel_rfl)) ?_
     have hu5 := FVars.over2 HD4.out.1 1 (s := ⟨true, (wq2).heap.size, false, none, 0, 0, false, none, 0, 0, 0, 0, 0⟩) (t := ⟨false, 0, bl, Al, nl, cl, false, none, 0, 0, (Nf k), 0, 0⟩) rfl rfl lyK lyK (HR.out.2.2.1.step HD4.out.2 rfl)
     have hv5 : FVars w.heap.size (put2 (((((wq2).alloc (.cells #[.bool false, .slice none 0 0] 31))).alloc (.cells #[.bool false, .slice none 0 0] 31))) (wq2).heap.size (.bool bl) (.slice Al nl cl)) [⟨true, (((wq2).alloc (.cells #[.bool false, .slice none 0 0] 31))).heap.size, false, none, 0, 0, false, none, 0, 0, 0, 0, 0⟩, ⟨true, (wq2).heap.size, bl, Al, nl, cl, false, none, 0, 0, (Nf k), 0, 0⟩, ⟨false, 0, qb2, qA2, qn2, qc2, false, none, 0, 0, 1, 0, 0⟩, ⟨true, w.heap.size, false, none, 0, 0, false, none, 0, 0, 0, 1, 3⟩] := hu5
     clear hu5
     have hl5 : Below w.heap.size w (put2 (((((wq2).alloc (.cells #[.bool false, .slice none 0 0] 31))).alloc (.cells #[.bool false, .slice none 0 0] 31))) (wq2).heap.size (.bool bl) (.slice Al nl cl)) := (HD4.out.2.setCell (p := ⟨(wq2).heap.size, 0, none⟩) (HD4.out.1.up 1 _ rfl rfl) _).setCell (p := ⟨(wq2).heap.size, 1, none⟩) (HD4.out.1.up 1 _ rfl rfl) _
     generalize (put2 (((((wq2).alloc (.cells #[.bool false, .slice none 0 0] 31))).alloc (.cells #[.bool false, .slice none 0 0] 31))) (wq2).heap.size (.bool bl) (.slice Al nl cl)) = Wn5 at hv5 hl5 ⊢
     have HD5 := Lib.hid (And.intro hv5 hl5)
     clear hv5 hl5
     refine hK _ _ (HR.out.2.1.step HD5.out.2 rfl HR.out.2.2.2) (fun hH5 => ?_)
     clear hK K hH4
     change wpAnyH _ _ _ _ _ _ _ (Act.put _ none _) _
     simp only [Act.put]
     refine wpAnyH_ready (rs := [8]) (by kernel_rfl) (by simp) ?_
     refine AllReadyH.cons rfl (fun K hK0 => ?d12) (AllReadyH.nil)
     have hK := hK0.out
     clear hK0
     rw [if_pos (by kernel_rfl)]
     refine wp_go_skip (store0 ((HD5.out.1.all 0 _ rfl).lies rfl) ((HD5.out.1.all 0 _ rfl).frz rfl) qb2 qA2 qn2 qc2 (.tmp 6) (.tmp 19) (by kernel_rfl) (by kernel_rfl) (by kernel_rfl)) ?_
     have hu6 := FVars.over2 HD5.out.1 0 (s := ⟨true, (((wq2).alloc (.cells #[.bool false, .slice none 0 0] 31))).heap.size, false, none, 0, 0, false, none, 0, 0, 0, 0, 0⟩) (t := ⟨false, 0, qb2, qA2, qn2, qc2, false, none, 0, 0, 1, 0, 0⟩) rfl rfl lyK lyK ((HD5.out.1.all 2 _ rfl).at_)
     have hv6 : FVars w.heap.size (put2 (Wn5) (((wq2).alloc (.cells #[.bool false, .slice none 0 0] 31))).heap.size (.bool qb2) (.slice qA2 qn2 qc2)) [⟨true, (((wq2).alloc (.cells #[.bool false, .slice none 0 0] 31))).heap.size, qb2, qA2, qn2, qc2, false, none, 0, 0, 1, 0, 0⟩, ⟨true, (wq2).heap.size, bl, Al, nl, cl, false, none, 0, 0, (Nf k), 0, 0⟩, ⟨false, 0, qb2, qA2, qn2, qc2, false, none, 0, 0, 1, 0, 0⟩, ⟨true, w.heap.size, false, none, 0, 0, false, none, 0, 0, 0, 1, 3⟩] := hu6
     clear hu6
     have hl6 : Below w.heap.size w (put2 (Wn5) (((wq2).alloc (.cells #[.bool false, .slice none 0 0] 31))).heap.size (.bool qb2) (.slice qA2 qn2 qc2)) := (HD5.out.2.setCell (p := ⟨(((wq2).alloc (.cells #[.bool false, .slice none 0 0] 31))).heap.size, 0, none⟩) (HD5.out.1.up 0 _ rfl rfl) _).setCell (p := ⟨(((wq2).alloc (.cells #[.bool false, .slice none 0 0] 31))).heap.size, 1, none⟩) (HD5.out.1.up 0 _ rfl rfl) _
     generalize (put2 (Wn5) (((wq2).alloc (.cells #[.bool false, .slice none 0 0] 31))).heap.size (.bool qb2) (.slice qA2 qn2 qc2)) = Wn6 at hv6 hl6 ⊢
     have HD6 := Lib.hid (And.intro hv6 hl6)
     clear hv6 hl6
     refine hK _ _ (HR.out.2.1.step HD6.out.2 rfl HR.out.2.2.2) (fun hH6 => ?_)
     clear hK K hH5
     change wpAnyH _ _ _ _ _ _ _ (Act.put _ none _) _
     simp only [Act.put]
     refine wpAnyH_done (by kernel_rfl) ?_ _
     have HZ := HD6.out
     try simp only [size_alloc] at HZ
     go_wp2_with fail
     go_meet
     exact ⟨wq2.heap.size, bl, Al, nl, cl, (wq2.heap.size + 1), qb2, qA2, qn2, qc2, rfl, (by first | rfl | simp), (by first | rfl | simp), FVars.pick HZ.1 [0, 1, 3] (by decide) rfl, HZ.2⟩
    case d9 =>
     have hK := hK0.out
     clear hK0
     rw [if_pos (by kernel_rfl)]
     refine wp_go_val (.pointer (some ⟨(wq2).heap.size, 0, none⟩)) (alloc0 _ _ _ (by kernel_rfl)) ?_
     have HD7 := Lib.hid (And.intro ((FVars.told HD2.out.1 (t := ⟨false, 0, false, none, 0, 0, false, none, 0, 0, 0, 0, 0⟩) (zero0 _) rfl).laid2 31 lyK HD2.out.2.size) (HD2.out.2.alloc HD2.out.2.size (.cells #[.bool false, .slice none 0 0] 31)))
     refine hK _ _ (HR.out.2.1.step HD7.out.2 rfl HR.out.2.2.2) (fun hH7 => ?_)
     clear hK K hH2
     change wpAnyH _ _ _ _ _ _ _ (Act.put _ (some 6) _) _
     simp only [Act.put, lyA, lyZ, lyS]
     refine wpAnyH_ready (rs := [5]) (by kernel_rfl) (by simp) ?_
     refine AllReadyH.cons rfl (fun K hK0 => ?d13) (AllReadyH.nil)
     have hK := hK0.out
     clear hK0
     rw [if_pos (by kernel_rfl)]
     refine wp_go_val (.pointer (some ⟨(((wq2).alloc (.cells #[.bool false, .slice none 0 0] 31))).heap.size, 0, none⟩)) (alloc0 _ _ _ (by kernel_rfl)) ?_
     have HD8 := Lib.hid (And.intro ((FVars.told HD7.out.1 (t := ⟨false, 0, false, none, 0, 0, false, none, 0, 0, 0, 0, 0⟩) (zero0 _) rfl).laid2 31 lyK HD7.out.2.size) (HD7.out.2.alloc HD7.out.2.size (.cells #[.bool false, .slice none 0 0] 31)))
     refine hK _ _ (HR.out.2.1.step HD8.out.2 rfl HR.out.2.2.2) (fun hH8 => ?_)
     clear hK K hH7
     change wpAnyH _ _ _ _ _ _ _ (Act.put _ (some 5) _) _
     simp only [Act.put, lyA, lyZ, lyS]
     refine wpAnyH_ready (rs := [7]) (by kernel_rfl) (by simp) ?_
     refine AllReadyH.cons rfl (fun K hK0 => ?d14) (AllReadyH.nil)
     have hK := hK0.out
     clear hK0
     rw [if_pos (by kernel_rfl)]
     refine wp_go_skip (store0 ((HD8.out.1.all 0 _ rfl).lies rfl) ((HD8.out.1.all 0 _ rfl).frz rfl) bl Al nl cl (.tmp 5) (.tmp 18) (by kernel_rfl) (by kernel_rfl) (by kernel_rfl)) ?_
     have hu9 := FVars.over2 HD8.out.1 0 (s := ⟨true, (((wq2).alloc (.cells #[.bool false, .slice none 0 0] 31))).heap.size, false, none, 0, 0, false, none, 0, 0, 0, 0, 0⟩) (t := ⟨false, 0, bl, Al, nl, cl, false, none, 0, 0, (Nf k), 0, 0⟩) rfl rfl lyK lyK (HR.out.2.2.1.step HD8.out.2 rfl)
     have hv9 : FVars w.heap.size (put2 (((((wq2).alloc (.cells #[.bool false, .slice none 0 0] 31))).alloc (.cells #[.bool false, .slice none 0 0] 31))) (((wq2).alloc (.cells #[.bool false, .slice none 0 0] 31))).heap.size (.bool bl) (.slice Al nl cl)) [⟨true, (((wq2).alloc (.cells #[.bool false, .slice none 0 0] 31))).heap.size, bl, Al, nl, cl, false, none, 0, 0, (Nf k), 0, 0⟩, ⟨true, (wq2).heap.size, false, none, 0, 0, false, none, 0, 0, 0, 0, 0⟩, ⟨false, 0, qb2, qA2, qn2, qc2, false, none, 0, 0, 1, 0, 0⟩, ⟨true, w.heap.size, false, none, 0, 0, false, none, 0, 0, 0, 1, 3⟩] := hu9
     clear hu9
     have hl9 : Below w.heap.size w (put2 (((((wq2).alloc (.cells #[.bool false, .slice none 0 0] 31))).alloc (.cells #[.bool false, .slice none 0 0] 31))) (((wq2).alloc (.cells #[.bool false, .slice none 0 0] 31))).heap.size (.bool bl) (.slice Al nl cl)) := (HD8.out.2.setCell (p := ⟨(((wq2).alloc (.cells #[.bool false, .slice none 0 0] 31))).heap.size, 0, none⟩) (HD8.out.1.up 0 _ rfl rfl) _).setCell (p := ⟨(((wq2).alloc (.cells #[.bool false, .slice none 0 0] 31))).heap.size, 1, none⟩) (HD8.out.1.up 0 _ rfl rfl) _
     generalize (put2 (((((wq2).alloc (.cells #[.bool false, .slice none 0 0] 31))).alloc (.cells #[.bool false, .slice none 0 0] 31))) (((wq2).alloc (.cells #[.bool false, .slice none 0 0] 31))).heap.size (.bool bl) (.slice Al nl cl)) = Wn9 at hv9 hl9 ⊢
     have HD9 := Lib.hid (And.intro hv9 hl9)
     clear hv9 hl9
     refine hK _ _ (HR.out.2.1.step HD9.out.2 rfl HR.out.2.2.2) (fun hH9 => ?_)
     clear hK K hH8
     change wpAnyH _ _ _ _ _ _ _ (Act.put _ none _) _
     simp only [Act.put]
     refine wpAnyH_ready (rs := [8]) (by kernel_rfl) (by simp) ?_
     refine AllReadyH.cons rfl (fun K hK0 => ?d15) (AllReadyH.nil)
     have hK := hK0.out
     clear hK0
     rw [if_pos (by kernel_rfl)]
     refine wp_go_skip (store0 ((HD9.out.1.all 1 _ rfl).lies rfl) ((HD9.out.1.all 1 _ rfl).frz rfl) qb2 qA2 qn2 qc2 (.tmp 6) (.tmp 19) (by kernel_rfl) (by kernel_rfl) (by kernel_rfl)) ?_
     have hu10 := FVars.over2 HD9.out.1 1 (s := ⟨true, (wq2).heap.size, false, none, 0, 0, false, none, 0, 0, 0, 0, 0⟩) (t := ⟨false, 0, qb2, qA2, qn2, qc2, false, none, 0, 0, 1, 0, 0⟩) rfl rfl lyK lyK ((HD9.out.1.all 2 _ rfl).at_)
     have hv10 : FVars w.heap.size (put2 (Wn9) (wq2).heap.size (.bool qb2) (.slice qA2 qn2 qc2)) [⟨true, (((wq2).alloc (.cells #[.bool false, .slice none 0 0] 31))).heap.size, bl, Al, nl, cl, false, none, 0, 0, (Nf k), 0, 0⟩, ⟨true, (wq2).heap.size, qb2, qA2, qn2, qc2, false, none, 0, 0, 1, 0, 0⟩, ⟨false, 0, qb2, qA2, qn2, qc2, false, none, 0, 0, 1, 0, 0⟩, ⟨true, w.heap.size, false, none, 0, 0, false, none, 0, 0, 0, 1, 3⟩] := hu10
     clear hu10
     have hl10 : Below w.heap.size w (put2 (Wn9) (wq2).heap.size (.bool qb2) (.slice qA2 qn2 qc2)) := (HD9.out.2.setCell (p := ⟨(wq2).heap.size, 0, none⟩) (HD9.out.1.up 1 _ rfl rfl) _).setCell (p := ⟨(wq2).heap.size, 1, none⟩) (HD9.out.1.up 1 _ rfl rfl) _
     generalize (put2 (Wn9) (wq2).heap.size (.bool qb2) (.slice qA2 qn2 qc2)) = Wn10 at hv10 hl10 ⊢
     have HD10 := Lib.hid (And.intro hv10 hl10)
     clear hv10 hl10
     refine hK _ _ (HR.out.2.1.step HD10.out.2 rfl HR.out.2.2.2) (fun hH10 => ?_)
     clear hK K hH9
     change wpAnyH _ _ _ _ _ _ _ (Act.put _ none _) _
     simp only [Act.put]
     refine wpAnyH_done (by kernel_rfl) ?_ _
     have HZ := HD10.out
     try simp only [size_alloc] at HZ
     go_wp2_with fail
     go_meet
     exact ⟨(wq2.heap.size + 1), bl, Al, nl, cl, wq2.heap.size, qb2, qA2, qn2, qc2, rfl, (by first | rfl | simp), (by first | rfl | simp), FVars.pick HZ.1 [1, 0, 3] (by decide) rfl, HZ.2⟩
   case d6 =>
    have hK := hK0.out
    clear hK0
    rw [if_pos (by kernel_rfl)]
    refine wp_go_val (.pointer (some ⟨(W.drew).heap.size, 0, none⟩)) (alloc0 _ _ _ (by kernel_rfl)) ?_
    have HD11 := Lib.hid (And.intro ((FVars.told HD1.out.1 (t := ⟨false, 0, false, none, 0, 0, false, none, 0, 0, 0, 0, 0⟩) (zero0 _) rfl).laid2 31 lyK HD1.out.2.size) (HD1.out.2.alloc HD1.out.2.size (.cells #[.bool false, .slice none 0 0] 31)))
    refine hK _ _ (HR.out.2.1.step HD11.out.2 rfl HR.out.2.2.2) (fun hH11 => ?_)
    clear hK K hH0
    change wpAnyH _ _ _ _ _ _ _ (Act.put _ (some 5) _) _
    simp only [Act.put, lyA, lyZ, lyS]
    refine wpAnyH_ready (rs := [4, 6]) (by kernel_rfl) (by simp) ?_
    refine AllReadyH.cons rfl (fun K hK0 => ?d16) (AllReadyH.cons rfl (fun K hK0 => ?d17) (AllReadyH.nil))
    case d16 =>
     have hK := hK0.out
     clear hK0
     rw [if_pos (by kernel_rfl)]
     refine wp_go_call 65 #[(Value.int IntKind.i64 1)] (fun _ => by kernel_rfl) ((New_pos 1 _ (by decide)).mono ?_)
     rintro e wq12 ⟨qv12, rfl, hq12, hb12⟩
     obtain ⟨qb12, qA12, qn12, qc12, rfl, hq12⟩ := open0 hq12
     have HD12 := Lib.hid (And.intro (FVars.told (HD11.out.1.step hb12 rfl) (t := ⟨false, 0, qb12, qA12, qn12, qc12, false, none, 0, 0, 1, 0, 0⟩) hq12 rfl) (below_then HD11.out.2 hb12))
     clear hq12 hb12 HD11
     refine ⟨(.agg #[.bool qb12, .slice qA12 qn12 qc12]), rfl, hK _ _ (HR.out.2.1.step HD12.out.2 rfl HR.out.2.2.2) (fun hH12 => ?_)⟩
     clear hK K hH11
     change wpAnyH _ _ _ _ _ _ _ (Act.put _ (some 19) _) _
     simp only [Act.put, lyA, lyZ, lyS]
     refine wpAnyH_ready (rs := [6]) (by kernel_rfl) (by simp) ?_
     refine AllReadyH.cons rfl (fun K hK0 => ?d18) (AllReadyH.nil)
     have hK := hK0.out
     clear hK0
     rw [if_pos (by kernel_rfl)]
     refine wp_go_val (.pointer (some ⟨(wq12).heap.size, 0, none⟩)) (alloc0 _ _ _ (by kernel_rfl)) ?_
     have HD13 := Lib.hid (And.intro ((FVars.told HD12.out.1 (t := ⟨false, 0, false, none, 0, 0, false, none, 0, 0, 0, 0, 0⟩) (zero0 _) rfl).laid2 31 lyK HD12.out.2.size) (HD12.out.2.alloc HD12.out.2.size (.cells #[.bool false, .slice none 0 0] 31)))
     refine hK _ _ (HR.out.2.1.step HD13.out.2 rfl HR.out.2.2.2) (fun hH13 => ?_)
     clear hK K hH12
     change wpAnyH _ _ _ _ _ _ _ (Act.put _ (some 6) _) _
     simp only [Act.put, lyA, lyZ, lyS]
     refine wpAnyH_ready (rs := [7]) (by kernel_rfl) (by simp) ?_
     refine AllReadyH.cons rfl (fun K hK0 => ?d19) (AllReadyH.nil)
     have hK := hK0.out
     clear hK0
     rw [if_pos (by kernel_rfl)]
     refine wp_go_skip (store0 ((HD13.out.1.all 2 _ rfl).lies rfl) ((HD13.out.1.all 2 _ rfl).frz rfl) bl Al nl cl (.tmp 5) (.tmp 18) (by kernel_rfl) (by kernel_rfl) (by kernel_rfl)) ?_
     have hu14 := FVars.over2 HD13.out.1 2 (s := ⟨true, (W.drew).heap.size, false, none, 0, 0, false, none, 0, 0, 0, 0, 0⟩) (t := ⟨false, 0, bl, Al, nl, cl, false, none, 0, 0, (Nf k), 0, 0⟩) rfl rfl lyK lyK (HR.out.2.2.1.step HD13.out.2 rfl)
     have hv14 : FVars w.heap.size (put2 (((wq12).alloc (.cells #[.bool false, .slice none 0 0] 31))) (W.drew).heap.size (.bool bl) (.slice Al nl cl)) [⟨true, (wq12).heap.size, false, none, 0, 0, false, none, 0, 0, 0, 0, 0⟩, ⟨false, 0, qb12, qA12, qn12, qc12, false, none, 0, 0, 1, 0, 0⟩, ⟨true, (W.drew).heap.size, bl, Al, nl, cl, false, none, 0, 0, (Nf k), 0, 0⟩, ⟨true, w.heap.size, false, none, 0, 0, false, none, 0, 0, 0, 1, 3⟩] := hu14
     clear hu14
     have hl14 : Below w.heap.size w (put2 (((wq12).alloc (.cells #[.bool false, .slice none 0 0] 31))) (W.drew).heap.size (.bool bl) (.slice Al nl cl)) := (HD13.out.2.setCell (p := ⟨(W.drew).heap.size, 0, none⟩) (HD13.out.1.up 2 _ rfl rfl) _).setCell (p := ⟨(W.drew).heap.size, 1, none⟩) (HD13.out.1.up 2 _ rfl rfl) _
     generalize (put2 (((wq12).alloc (.cells #[.bool false, .slice none 0 0] 31))) (W.drew).heap.size (.bool bl) (.slice Al nl cl)) = Wn14 at hv14 hl14 ⊢
     have HD14 := Lib.hid (And.intro hv14 hl14)
     clear hv14 hl14
     refine hK _ _ (HR.out.2.1.step HD14.out.2 rfl HR.out.2.2.2) (fun hH14 => ?_)
     clear hK K hH13
     change wpAnyH _ _ _ _ _ _ _ (Act.put _ none _) _
     simp only [Act.put]
     refine wpAnyH_ready (rs := [8]) (by kernel_rfl) (by simp) ?_
     refine AllReadyH.cons rfl (fun K hK0 => ?d20) (AllReadyH.nil)
     have hK := hK0.out
     clear hK0
     rw [if_pos (by kernel_rfl)]
     refine wp_go_skip (store0 ((HD14.out.1.all 0 _ rfl).lies rfl) ((HD14.out.1.all 0 _ rfl).frz rfl) qb12 qA12 qn12 qc12 (.tmp 6) (.tmp 19) (by kernel_rfl) (by kernel_rfl) (by kernel_rfl)) ?_
     have hu15 := FVars.over2 HD14.out.1 0 (s := ⟨true, (wq12).heap.size, false, none, 0, 0, false, none, 0, 0, 0, 0, 0⟩) (t := ⟨false, 0, qb12, qA12, qn12, qc12, false, none, 0, 0, 1, 0, 0⟩) rfl rfl lyK lyK ((HD14.out.1.all 1 _ rfl).at_)
     have hv15 : FVars w.heap.size (put2 (Wn14) (wq12).heap.size (.bool qb12) (.slice qA12 qn12 qc12)) [⟨true, (wq12).heap.size, qb12, qA12, qn12, qc12, false, none, 0, 0, 1, 0, 0⟩, ⟨false, 0, qb12, qA12, qn12, qc12, false, none, 0, 0, 1, 0, 0⟩, ⟨true, (W.drew).heap.size, bl, Al, nl, cl, false, none, 0, 0, (Nf k), 0, 0⟩, ⟨true, w.heap.size, false, none, 0, 0, false, none, 0, 0, 0, 1, 3⟩] := hu15
     clear hu15
     have hl15 : Below w.heap.size w (put2 (Wn14) (wq12).heap.size (.bool qb12) (.slice qA12 qn12 qc12)) := (HD14.out.2.setCell (p := ⟨(wq12).heap.size, 0, none⟩) (HD14.out.1.up 0 _ rfl rfl) _).setCell (p := ⟨(wq12).heap.size, 1, none⟩) (HD14.out.1.up 0 _ rfl rfl) _
     generalize (put2 (Wn14) (wq12).heap.size (.bool qb12) (.slice qA12 qn12 qc12)) = Wn15 at hv15 hl15 ⊢
     have HD15 := Lib.hid (And.intro hv15 hl15)
     clear hv15 hl15
     refine hK _ _ (HR.out.2.1.step HD15.out.2 rfl HR.out.2.2.2) (fun hH15 => ?_)
     clear hK K hH14
     change wpAnyH _ _ _ _ _ _ _ (Act.put _ none _) _
     simp only [Act.put]
     refine wpAnyH_done (by kernel_rfl) ?_ _
     have HZ := HD15.out
     try simp only [size_alloc] at HZ
     go_wp2_with fail
     go_meet
     exact ⟨W.heap.size, bl, Al, nl, cl, wq12.heap.size, qb12, qA12, qn12, qc12, rfl, (by first | rfl | simp), (by first | rfl | simp), FVars.pick HZ.1 [0, 2, 3] (by decide) rfl, HZ.2⟩
    case d17 =>
     have hK := hK0.out
     clear hK0
     rw [if_pos (by kernel_rfl)]
     refine wp_go_val (.pointer (some ⟨(((W.drew).alloc (.cells #[.bool false, .slice none 0 0] 31))).heap.size, 0, none⟩)) (alloc0 _ _ _ (by kernel_rfl)) ?_
     have HD16 := Lib.hid (And.intro ((FVars.told HD11.out.1 (t := ⟨false, 0, false, none, 0, 0, false, none, 0, 0, 0, 0, 0⟩) (zero0 _) rfl).laid2 31 lyK HD11.out.2.size) (HD11.out.2.alloc HD11.out.2.size (.cells #[.bool false, .slice none 0 0] 31)))
     refine hK _ _ (HR.out.2.1.step HD16.out.2 rfl HR.out.2.2.2) (fun hH16 => ?_)
     clear hK K hH11
     change wpAnyH _ _ _ _ _ _ _ (Act.put _ (some 6) _) _
     simp only [Act.put, lyA, lyZ, lyS]
     refine wpAnyH_ready (rs := [4]) (by kernel_rfl) (by simp) ?_
     refine AllReadyH.cons rfl (fun K hK0 => ?d21) (AllReadyH.nil)
     have hK := hK0.out
     clear hK0
     rw [if_pos (by kernel_rfl)]
     refine wp_go_call 65 #[(Value.int IntKind.i64 1)] (fun _ => by kernel_rfl) ((New_pos 1 _ (by decide)).mono ?_)
     rintro e wq17 ⟨qv17, rfl, hq17, hb17⟩
     obtain ⟨qb17, qA17, qn17, qc17, rfl, hq17⟩ := open0 hq17
     have HD17 := Lib.hid (And.intro (FVars.told (HD16.out.1.step hb17 rfl) (t := ⟨false, 0, qb17, qA17, qn17, qc17, false, none, 0, 0, 1, 0, 0⟩) hq17 rfl) (below_then HD16.out.2 hb17))
     clear hq17 hb17 HD16
     refine ⟨(.agg #[.bool qb17, .slice qA17 qn17 qc17]), rfl, hK _ _ (HR.out.2.1.step HD17.out.2 rfl HR.out.2.2.2) (fun hH17 => ?_)⟩
     clear hK K hH16
     change wpAnyH _ _ _ _ _ _ _ (Act.put _ (some 19) _) _
     simp only [Act.put, lyA, lyZ, lyS]
     refine wpAnyH_ready (rs := [7]) (by kernel_rfl) (by simp) ?_
     refine AllReadyH.cons rfl (fun K hK0 => ?d22) (AllReadyH.nil)
     have hK := hK0.out
     clear hK0
     rw [if_pos (by kernel_rfl)]
     refine wp_go_skip (store0 ((HD17.out.1.all 2 _ rfl).lies rfl) ((HD17.out.1.all 2 _ rfl).frz rfl) bl Al nl cl (.tmp 5) (.tmp 18) (by kernel_rfl) (by kernel_rfl) (by kernel_rfl)) ?_
     have hu18 := FVars.over2 HD17.out.1 2 (s := ⟨true, (W.drew).heap.size, false, none, 0, 0, false, none, 0, 0, 0, 0, 0⟩) (t := ⟨false, 0, bl, Al, nl, cl, false, none, 0, 0, (Nf k), 0, 0⟩) rfl rfl lyK lyK (HR.out.2.2.1.step HD17.out.2 rfl)
     have hv18 : FVars w.heap.size (put2 (wq17) (W.drew).heap.size (.bool bl) (.slice Al nl cl)) [⟨false, 0, qb17, qA17, qn17, qc17, false, none, 0, 0, 1, 0, 0⟩, ⟨true, (((W.drew).alloc (.cells #[.bool false, .slice none 0 0] 31))).heap.size, false, none, 0, 0, false, none, 0, 0, 0, 0, 0⟩, ⟨true, (W.drew).heap.size, bl, Al, nl, cl, false, none, 0, 0, (Nf k), 0, 0⟩, ⟨true, w.heap.size, false, none, 0, 0, false, none, 0, 0, 0, 1, 3⟩] := hu18
     clear hu18
     have hl18 : Below w.heap.size w (put2 (wq17) (W.drew).heap.size (.bool bl) (.slice Al nl cl)) := (HD17.out.2.setCell (p := ⟨(W.drew).heap.size, 0, none⟩) (HD17.out.1.up 2 _ rfl rfl) _).setCell (p := ⟨(W.drew).heap.size, 1, none⟩) (HD17.out.1.up 2 _ rfl rfl) _
     generalize (put2 (wq17) (W.drew).heap.size (.bool bl) (.slice Al nl cl)) = Wn18 at hv18 hl18 ⊢
     have HD18 := Lib.hid (And.intro hv18 hl18)
     clear hv18 hl18
     refine hK _ _ (HR.out.2.1.step HD18.out.2 rfl HR.out.2.2.2) (fun hH18 => ?_)
     clear hK K hH17
     change wpAnyH _ _ _ _ _ _ _ (Act.put _ none _) _
     simp only [Act.put]
     refine wpAnyH_ready (rs := [8]) (by kernel_rfl) (by simp) ?_
     refine AllReadyH.cons rfl (fun K hK0 => ?d23) (AllReadyH.nil)
     have hK := hK0.out
     clear hK0
     rw [if_pos (by kernel_rfl)]
     refine wp_go_skip (store0 ((HD18.out.1.all 1 _ rfl).lies rfl) ((HD18.out.1.all 1 _ rfl).frz rfl) qb17 qA17 qn17 qc17 (.tmp 6) (.tmp 19) (by kernel_rfl) (by kernel_rfl) (by kernel_rfl)) ?_
     have hu19 := FVars.over2 HD18.out.1 1 (s := ⟨true, (((W.drew).alloc (.cells #[.bool false, .slice none 0 0] 31))).heap.size, false, none, 0, 0, false, none, 0, 0, 0, 0, 0⟩) (t := ⟨false, 0, qb17, qA17, qn17, qc17, false, none, 0, 0, 1, 0, 0⟩) rfl rfl lyK lyK ((HD18.out.1.all 0 _ rfl).at_)
     have hv19 : FVars w.heap.size (put2 (Wn18) (((W.drew).alloc (.cells #[.bool false, .slice none 0 0] 31))).heap.size (.bool qb17) (.slice qA17 qn17 qc17)) [⟨false, 0, qb17, qA17, qn17, qc17, false, none, 0, 0, 1, 0, 0⟩, ⟨true, (((W.drew).alloc (.cells #[.bool false, .slice none 0 0] 31))).heap.size, qb17, qA17, qn17, qc17, false, none, 0, 0, 1, 0, 0⟩, ⟨true, (W.drew).heap.size, bl, Al, nl, cl, false, none, 0, 0, (Nf k), 0, 0⟩, ⟨true, w.heap.size, false, none, 0, 0, false, none, 0, 0, 0, 1, 3⟩] := hu19
     clear hu19
     have hl19 : Below w.heap.size w (put2 (Wn18) (((W.drew).alloc (.cells #[.bool false, .slice none 0 0] 31))).heap.size (.bool qb17) (.slice qA17 qn17 qc17)) := (HD18.out.2.setCell (p := ⟨(((W.drew).alloc (.cells #[.bool false, .slice none 0 0] 31))).heap.size, 0, none⟩) (HD18.out.1.up 1 _ rfl rfl) _).setCell (p := ⟨(((W.drew).alloc (.cells #[.bool false, .slice none 0 0] 31))).heap.size, 1, none⟩) (HD18.out.1.up 1 _ rfl rfl) _
     generalize (put2 (Wn18) (((W.drew).alloc (.cells #[.bool false, .slice none 0 0] 31))).heap.size (.bool qb17) (.slice qA17 qn17 qc17)) = Wn19 at hv19 hl19 ⊢
     have HD19 := Lib.hid (And.intro hv19 hl19)
     clear hv19 hl19
     refine hK _ _ (HR.out.2.1.step HD19.out.2 rfl HR.out.2.2.2) (fun hH19 => ?_)
     clear hK K hH18
     change wpAnyH _ _ _ _ _ _ _ (Act.put _ none _) _
     simp only [Act.put]
     refine wpAnyH_done (by kernel_rfl) ?_ _
     have HZ := HD19.out
     try simp only [size_alloc] at HZ
     go_wp2_with fail
     go_meet
     exact ⟨W.heap.size, bl, Al, nl, cl, (W.heap.size + 1), qb17, qA17, qn17, qc17, rfl, (by first | rfl | simp), (by first | rfl | simp), FVars.pick HZ.1 [1, 2, 3] (by decide) rfl, HZ.2⟩
   case d7 =>
    have hK := hK0.out
    clear hK0
    rw [if_pos (by kernel_rfl)]
    refine wp_go_val (.pointer (some ⟨(W.drew).heap.size, 0, none⟩)) (alloc0 _ _ _ (by kernel_rfl)) ?_
    have HD20 := Lib.hid (And.intro ((FVars.told HD1.out.1 (t := ⟨false, 0, false, none, 0, 0, false, none, 0, 0, 0, 0, 0⟩) (zero0 _) rfl).laid2 31 lyK HD1.out.2.size) (HD1.out.2.alloc HD1.out.2.size (.cells #[.bool false, .slice none 0 0] 31)))
    refine hK _ _ (HR.out.2.1.step HD20.out.2 rfl HR.out.2.2.2) (fun hH20 => ?_)
    clear hK K hH0
    change wpAnyH _ _ _ _ _ _ _ (Act.put _ (some 6) _) _
    simp only [Act.put, lyA, lyZ, lyS]
    refine wpAnyH_ready (rs := [4, 5]) (by kernel_rfl) (by simp) ?_
    refine AllReadyH.cons rfl (fun K hK0 => ?d24) (AllReadyH.cons rfl (fun K hK0 => ?d25) (AllReadyH.nil))
    case d24 =>
     have hK := hK0.out
     clear hK0
     rw [if_pos (by kernel_rfl)]
     refine wp_go_call 65 #[(Value.int IntKind.i64 1)] (fun _ => by kernel_rfl) ((New_pos 1 _ (by decide)).mono ?_)
     rintro e wq21 ⟨qv21, rfl, hq21, hb21⟩
     obtain ⟨qb21, qA21, qn21, qc21, rfl, hq21⟩ := open0 hq21
     have HD21 := Lib.hid (And.intro (FVars.told (HD20.out.1.step hb21 rfl) (t := ⟨false, 0, qb21, qA21, qn21, qc21, false, none, 0, 0, 1, 0, 0⟩) hq21 rfl) (below_then HD20.out.2 hb21))
     clear hq21 hb21 HD20
     refine ⟨(.agg #[.bool qb21, .slice qA21 qn21 qc21]), rfl, hK _ _ (HR.out.2.1.step HD21.out.2 rfl HR.out.2.2.2) (fun hH21 => ?_)⟩
     clear hK K hH20
     change wpAnyH _ _ _ _ _ _ _ (Act.put _ (some 19) _) _
     simp only [Act.put, lyA, lyZ, lyS]
     refine wpAnyH_ready (rs := [5]) (by kernel_rfl) (by simp) ?_
     refine AllReadyH.cons rfl (fun K hK0 => ?d26) (AllReadyH.nil)
     have hK := hK0.out
     clear hK0
     rw [if_pos (by kernel_rfl)]
     refine wp_go_val (.pointer (some ⟨(wq21).heap.size, 0, none⟩)) (alloc0 _ _ _ (by kernel_rfl)) ?_
     have HD22 := Lib.hid (And.intro ((FVars.told HD21.out.1 (t := ⟨false, 0, false, none, 0, 0, false, none, 0, 0, 0, 0, 0⟩) (zero0 _) rfl).laid2 31 lyK HD21.out.2.size) (HD21.out.2.alloc HD21.out.2.size (.cells #[.bool false, .slice none 0 0] 31)))
     refine hK _ _ (HR.out.2.1.step HD22.out.2 rfl HR.out.2.2.2) (fun hH22 => ?_)
     clear hK K hH21
     change wpAnyH _ _ _ _ _ _ _ (Act.put _ (some 5) _) _
     simp only [Act.put, lyA, lyZ, lyS]
     refine wpAnyH_ready (rs := [7]) (by kernel_rfl) (by simp) ?_
     refine AllReadyH.cons rfl (fun K hK0 => ?d27) (AllReadyH.nil)
     have hK := hK0.out
     clear hK0
     rw [if_pos (by kernel_rfl)]
     refine wp_go_skip (store0 ((HD22.out.1.all 0 _ rfl).lies rfl) ((HD22.out.1.all 0 _ rfl).frz rfl) bl Al nl cl (.tmp 5) (.tmp 18) (by kernel_rfl) (by kernel_rfl) (by kernel_rfl)) ?_
     have hu23 := FVars.over2 HD22.out.1 0 (s := ⟨true, (wq21).heap.size, false, none, 0, 0, false, none, 0, 0, 0, 0, 0⟩) (t := ⟨false, 0, bl, Al, nl, cl, false, none, 0, 0, (Nf k), 0, 0⟩) rfl rfl lyK lyK (HR.out.2.2.1.step HD22.out.2 rfl)
     have hv23 : FVars w.heap.size (put2 (((wq21).alloc (.cells #[.bool false, .slice none 0 0] 31))) (wq21).heap.size (.bool bl) (.slice Al nl cl)) [⟨true, (wq21).heap.size, bl, Al, nl, cl, false, none, 0, 0, (Nf k), 0, 0⟩, ⟨false, 0, qb21, qA21, qn21, qc21, false, none, 0, 0, 1, 0, 0⟩, ⟨true, (W.drew).heap.size, false, none, 0, 0, false, none, 0, 0, 0, 0, 0⟩, ⟨true, w.heap.size, false, none, 0, 0, false, none, 0, 0, 0, 1, 3⟩] := hu23
     clear hu23
     have hl23 : Below w.heap.size w (put2 (((wq21).alloc (.cells #[.bool false, .slice none 0 0] 31))) (wq21).heap.size (.bool bl) (.slice Al nl cl)) := (HD22.out.2.setCell (p := ⟨(wq21).heap.size, 0, none⟩) (HD22.out.1.up 0 _ rfl rfl) _).setCell (p := ⟨(wq21).heap.size, 1, none⟩) (HD22.out.1.up 0 _ rfl rfl) _
     generalize (put2 (((wq21).alloc (.cells #[.bool false, .slice none 0 0] 31))) (wq21).heap.size (.bool bl) (.slice Al nl cl)) = Wn23 at hv23 hl23 ⊢
     have HD23 := Lib.hid (And.intro hv23 hl23)
     clear hv23 hl23
     refine hK _ _ (HR.out.2.1.step HD23.out.2 rfl HR.out.2.2.2) (fun hH23 => ?_)
     clear hK K hH22
     change wpAnyH _ _ _ _ _ _ _ (Act.put _ none _) _
     simp only [Act.put]
     refine wpAnyH_ready (rs := [8]) (by kernel_rfl) (by simp) ?_
     refine AllReadyH.cons rfl (fun K hK0 => ?d28) (AllReadyH.nil)
     have hK := hK0.out
     clear hK0
     rw [if_pos (by kernel_rfl)]
     refine wp_go_skip (store0 ((HD23.out.1.all 2 _ rfl).lies rfl) ((HD23.out.1.all 2 _ rfl).frz rfl) qb21 qA21 qn21 qc21 (.tmp 6) (.tmp 19) (by kernel_rfl) (by kernel_rfl) (by kernel_rfl)) ?_
     have hu24 := FVars.over2 HD23.out.1 2 (s := ⟨true, (W.drew).heap.size, false, none, 0, 0, false, none, 0, 0, 0, 0, 0⟩) (t := ⟨false, 0, qb21, qA21, qn21, qc21, false, none, 0, 0, 1, 0, 0⟩) rfl rfl lyK lyK ((HD23.out.1.all 1 _ rfl).at_)
     have hv24 : FVars w.heap.size (put2 (Wn23) (W.drew).heap.size (.bool qb21) (.slice qA21 qn21 qc21)) [⟨true, (wq21).heap.size, bl, Al, nl, cl, false, none, 0, 0, (Nf k), 0, 0⟩, ⟨false, 0, qb21, qA21, qn21, qc21, false, none, 0, 0, 1, 0, 0⟩, ⟨true, (W.drew).heap.size, qb21, qA21, qn21, qc21, false, none, 0, 0, 1, 0, 0⟩, ⟨true, w.heap.size, false, none, 0, 0, false, none, 0, 0, 0, 1, 3⟩] := hu24
     clear hu24
     have hl24 : Below w.heap.size w (put2 (Wn23) (W.drew).heap.size (.bool qb21) (.slice qA21 qn21 qc21)) := (HD23.out.2.setCell (p := ⟨(W.drew).heap.size, 0, none⟩) (HD23.out.1.up 2 _ rfl rfl) _).setCell (p := ⟨(W.drew).heap.size, 1, none⟩) (HD23.out.1.up 2 _ rfl rfl) _
     generalize (put2 (Wn23) (W.drew).heap.size (.bool qb21) (.slice qA21 qn21 qc21)) = Wn24 at hv24 hl24 ⊢
     have HD24 := Lib.hid (And.intro hv24 hl24)
     clear hv24 hl24
     refine hK _ _ (HR.out.2.1.step HD24.out.2 rfl HR.out.2.2.2) (fun hH24 => ?_)
     clear hK K hH23
     change wpAnyH _ _ _ _ _ _ _ (Act.put _ none _) _
     simp only [Act.put]
     refine wpAnyH_done (by kernel_rfl) ?_ _
     have HZ := HD24.out
     try simp only [size_alloc] at HZ
     go_wp2_with fail
     go_meet
     exact ⟨wq21.heap.size, bl, Al, nl, cl, W.heap.size, qb21, qA21, qn21, qc21, rfl, (by first | rfl | simp), (by first | rfl | simp), FVars.pick HZ.1 [2, 0, 3] (by decide) rfl, HZ.2⟩
    case d25 =>
     have hK := hK0.out
     clear hK0
     rw [if_pos (by kernel_rfl)]
     refine wp_go_val (.pointer (some ⟨(((W.drew).alloc (.cells #[.bool false, .slice none 0 0] 31))).heap.size, 0, none⟩)) (alloc0 _ _ _ (by kernel_rfl)) ?_
     have HD25 := Lib.hid (And.intro ((FVars.told HD20.out.1 (t := ⟨false, 0, false, none, 0, 0, false, none, 0, 0, 0, 0, 0⟩) (zero0 _) rfl).laid2 31 lyK HD20.out.2.size) (HD20.out.2.alloc HD20.out.2.size (.cells #[.bool false, .slice none 0 0] 31)))
     refine hK _ _ (HR.out.2.1.step HD25.out.2 rfl HR.out.2.2.2) (fun hH25 => ?_)
     clear hK K hH20
     change wpAnyH _ _ _ _ _ _ _ (Act.put _ (some 5) _) _
     simp only [Act.put, lyA, lyZ, lyS]
     refine wpAnyH_ready (rs := [4]) (by kernel_rfl) (by simp) ?_
     refine AllReadyH.cons rfl (fun K hK0 => ?d29) (AllReadyH.nil)
     have hK := hK0.out
     clear hK0
     rw [if_pos (by kernel_rfl)]
     refine wp_go_call 65 #[(Value.int IntKind.i64 1)] (fun _ => by kernel_rfl) ((New_pos 1 _ (by decide)).mono ?_)
     rintro e wq26 ⟨qv26, rfl, hq26, hb26⟩
     obtain ⟨qb26, qA26, qn26, qc26, rfl, hq26⟩ := open0 hq26
     have HD26 := Lib.hid (And.intro (FVars.told (HD25.out.1.step hb26 rfl) (t := ⟨false, 0, qb26, qA26, qn26, qc26, false, none, 0, 0, 1, 0, 0⟩) hq26 rfl) (below_then HD25.out.2 hb26))
     clear hq26 hb26 HD25
     refine ⟨(.agg #[.bool qb26, .slice qA26 qn26 qc26]), rfl, hK _ _ (HR.out.2.1.step HD26.out.2 rfl HR.out.2.2.2) (fun hH26 => ?_)⟩
     clear hK K hH25
     change wpAnyH _ _ _ _ _ _ _ (Act.put _ (some 19) _) _
     simp only [Act.put, lyA, lyZ, lyS]
     refine wpAnyH_ready (rs := [7]) (by kernel_rfl) (by simp) ?_
     refine AllReadyH.cons rfl (fun K hK0 => ?d30) (AllReadyH.nil)
     have hK := hK0.out
     clear hK0
     rw [if_pos (by kernel_rfl)]
     refine wp_go_skip (store0 ((HD26.out.1.all 1 _ rfl).lies rfl) ((HD26.out.1.all 1 _ rfl).frz rfl) bl Al nl cl (.tmp 5) (.tmp 18) (by kernel_rfl) (by kernel_rfl) (by kernel_rfl)) ?_
     have hu27 := FVars.over2 HD26.out.1 1 (s := ⟨true, (((W.drew).alloc (.cells #[.bool false, .slice none 0 0] 31))).heap.size, false, none, 0, 0, false, none, 0, 0, 0, 0, 0⟩) (t := ⟨false, 0, bl, Al, nl, cl, false, none, 0, 0, (Nf k), 0, 0⟩) rfl rfl lyK lyK (HR.out.2.2.1.step HD26.out.2 rfl)
     have hv27 : FVars w.heap.size (put2 (wq26) (((W.drew).alloc (.cells #[.bool false, .slice none 0 0] 31))).heap.size (.bool bl) (.slice Al nl cl)) [⟨false, 0, qb26, qA26, qn26, qc26, false, none, 0, 0, 1, 0, 0⟩, ⟨true, (((W.drew).alloc (.cells #[.bool false, .slice none 0 0] 31))).heap.size, bl, Al, nl, cl, false, none, 0, 0, (Nf k), 0, 0⟩, ⟨true, (W.drew).heap.size, false, none, 0, 0, false, none, 0, 0, 0, 0, 0⟩, ⟨true, w.heap.size, false, none, 0, 0, false, none, 0, 0, 0, 1, 3⟩] := hu27
     clear hu27
     have hl27 : Below w.heap.size w (put2 (wq26) (((W.drew).alloc (.cells #[.bool false, .slice none 0 0] 31))).heap.size (.bool bl) (.slice Al nl cl)) := (HD26.out.2.setCell (p := ⟨(((W.drew).alloc (.cells #[.bool false, .slice none 0 0] 31))).heap.size, 0, none⟩) (HD26.out.1.up 1 _ rfl rfl) _).setCell (p := ⟨(((W.drew).alloc (.cells #[.bool false, .slice none 0 0] 31))).heap.size, 1, none⟩) (HD26.out.1.up 1 _ rfl rfl) _
     generalize (put2 (wq26) (((W.drew).alloc (.cells #[.bool false, .slice none 0 0] 31))).heap.size (.bool bl) (.slice Al nl cl)) = Wn27 at hv27 hl27 ⊢
     have HD27 := Lib.hid (And.intro hv27 hl27)
     clear hv27 hl27
     refine hK _ _ (HR.out.2.1.step HD27.out.2 rfl HR.out.2.2.2) (fun hH27 => ?_)
     clear hK K hH26
     change wpAnyH _ _ _ _ _ _ _ (Act.put _ none _) _
     simp only [Act.put]
     refine wpAnyH_ready (rs := [8]) (by kernel_rfl) (by simp) ?_
     refine AllReadyH.cons rfl (fun K hK0 => ?d31) (AllReadyH.nil)
     have hK := hK0.out
     clear hK0
     rw [if_pos (by kernel_rfl)]
     refine wp_go_skip (store0 ((HD27.out.1.all 2 _ rfl).lies rfl) ((HD27.out.1.all 2 _ rfl).frz rfl) qb26 qA26 qn26 qc26 (.tmp 6) (.tmp 19) (by kernel_rfl) (by kernel_rfl) (by kernel_rfl)) ?_
     have hu28 := FVars.over2 HD27.out.1 2 (s := ⟨true, (W.drew).heap.size, false, none, 0, 0, false, none, 0, 0, 0, 0, 0⟩) (t := ⟨false, 0, qb26, qA26, qn26, qc26, false, none, 0, 0, 1, 0, 0⟩) rfl rfl lyK lyK ((HD27.out.1.all 0 _ rfl).at_)
     have hv28 : FVars w.heap.size (put2 (Wn27) (W.drew).heap.size (.bool qb26) (.slice qA26 qn26 qc26)) [⟨false, 0, qb26, qA26, qn26, qc26, false, none, 0, 0, 1, 0, 0⟩, ⟨true, (((W.drew).alloc (.cells #[.bool false, .slice none 0 0] 31))).heap.size, bl, Al, nl, cl, false, none, 0, 0, (Nf k), 0, 0⟩, ⟨true, (W.drew).heap.size, qb26, qA26, qn26, qc26, false, none, 0, 0, 1, 0, 0⟩, ⟨true, w.heap.size, false, none, 0, 0, false, none, 0, 0, 0, 1, 3⟩] := hu28
     clear hu28
     have hl28 : Below w.heap.size w (put2 (Wn27) (W.drew).heap.size (.bool qb26) (.slice qA26 qn26 qc26)) := (HD27.out.2.setCell (p := ⟨(W.drew).heap.size, 0, none⟩) (HD27.out.1.up 2 _ rfl rfl) _).setCell (p := ⟨(W.drew).heap.size, 1, none⟩) (HD27.out.1.up 2 _ rfl rfl) _
     generalize (put2 (Wn27) (W.drew).heap.size (.bool qb26) (.slice qA26 qn26 qc26)) = Wn28 at hv28 hl28 ⊢
     have HD28 := Lib.hid (And.intro hv28 hl28)
     clear hv28 hl28
     refine hK _ _ (HR.out.2.1.step HD28.out.2 rfl HR.out.2.2.2) (fun hH28 => ?_)
     clear hK K hH27
     change wpAnyH _ _ _ _ _ _ _ (Act.put _ none _) _
     simp only [Act.put]
     refine wpAnyH_done (by kernel_rfl) ?_ _
     have HZ := HD28.out
     try simp only [size_alloc] at HZ
     go_wp2_with fail
     go_meet
     exact ⟨(W.heap.size + 1), bl, Al, nl, cl, W.heap.size, qb26, qA26, qn26, qc26, rfl, (by first | rfl | simp), (by first | rfl | simp), FVars.pick HZ.1 [2, 1, 3] (by decide) rfl, HZ.2⟩
  case rest =>
  obtain ⟨rn, bn, An, nn, cn, rd, bd, Ad, nd, cd, rfl, rfl, rfl, hv, hb⟩ := hcut
  have HV := Lib.hid (And.intro hv hb)
  clear hv hb HC i0 i1
  have hk1 : (k : Int) ≤ 100000 := by omega
  go_wp2
  go_loopw [7] (fun iv wr => ∃ (j : Nat) (bn : Bool) (An : Option Addr) (nn cn : Nat) (bd : Bool) (Ad : Option Addr) (nd cd : Nat), j ≤ k ∧ ((j = 0 ∧ iv = .int .i64 (-1)) ∨ ∃ i : Nat, j = i + 1 ∧ iv = .int .i64 (i : Int)) ∧ FVars w.heap.size wr [⟨true, rd, bd, Ad, nd, cd, false, none, 0, 0, (Df j), 0, 0⟩, ⟨true, rn, bn, An, nn, cn, false, none, 0, 0, (Nf j), 0, 0⟩, ⟨true, w.heap.size, false, none, 0, 0, false, none, 0, 0, 0, 1, 3⟩] ∧ Below w.heap.size w wr) (fun iv _ => (intOf iv + 1).toNat)
  case atStart =>
   refine ⟨k, bn, An, nn, cn, bd, Ad, nd, cd, Nat.le_refl _, ?_, ?_, HV.out.2⟩
   · rcases Nat.eq_zero_or_pos k with q | q
     · subst q; exact .inl ⟨rfl, by go_num⟩
     · obtain ⟨i, rfl⟩ : ∃ i, k = i + 1 := ⟨k - 1, by omega⟩
       exact .inr ⟨i, rfl, by go_num⟩
   · rw [HCH.out.sd]
     exact HV.out.1
  case round =>
   obtain ⟨j, bn, An, nn, cn, bd, Ad, nd, cd, hj, hiv, hv, hb⟩ := hrel
   clear HV
   rcases hiv with ⟨rfl, rfl⟩ | ⟨i, rfl, rfl⟩
   · have HV := Lib.hid (And.intro hv hb)
     clear hv hb hj
     obtain ⟨pn0, pn1⟩ : Two wr rn (.bool bn) (.slice An nn cn) := (HV.out.1.all 1 _ rfl).lies rfl
     obtain ⟨pd0, pd1⟩ : Two wr rd (.bool bd) (.slice Ad nd cd) := (HV.out.1.all 0 _ rfl).lies rfl
     go_wp2_with fail
     refine (nb.out.p _ _ _ ((HV.out.1.all 1 _ rfl).at_) ((HV.out.1.all 0 _ rfl).at_)).mono ?_
     rintro e wq29 ⟨qv29, rfl, hq29, hb29⟩
     obtain ⟨qb29, qA29, qn29, qc29, qbb29, qAA29, qnn29, qcc29, rfl, hq29⟩ := open3 hq29
     have HC29 := Lib.hid (And.intro (FVars.told (HV.out.1.step hb29 rfl) (t := ⟨false, 0, qb29, qA29, qn29, qc29, qbb29, qAA29, qnn29, qcc29, X, D, 3⟩) hq29 rfl) (below_then HV.out.2 hb29))
     clear pn0 pn1 pd0 pd1
     clear hb29 hq29 HV
     obtain ⟨ka0, ka1, ka2, ka3⟩ : Quad wq29 w.heap.size (.bool false) (.slice none 0 0) (.bool false) (.slice none 0 0) := (HC29.out.1.all 3 _ rfl).lies rfl
     have kf0 := (HC29.out.1.all 3 _ rfl).frz rfl 0
     have kf1 := (HC29.out.1.all 3 _ rfl).frz rfl 1
     have kf2 := (HC29.out.1.all 3 _ rfl).frz rfl 2
     have kf3 := (HC29.out.1.all 3 _ rfl).frz rfl 3
     have hu30 := FVars.over4 HC29.out.1 3 (s := ⟨true, w.heap.size, false, none, 0, 0, false, none, 0, 0, 0, 1, 3⟩) (t := ⟨false, 0, qb29, qA29, qn29, qc29, qbb29, qAA29, qnn29, qcc29, X, D, 3⟩) rfl rfl (show 3 ≤ 3 from by decide) (show 3 ≤ 3 from by decide) ((HC29.out.1.all 0 _ rfl).at_)
     have HE : Hid (FVars w.heap.size (put4 wq29 w.heap.size (.bool qb29) (.slice qA29 qn29 qc29) (.bool qbb29) (.slice qAA29 qnn29 qcc29)) [⟨false, 0, qb29, qA29, qn29, qc29, qbb29, qAA29, qnn29, qcc29, X, D, 3⟩, ⟨true, rd, bd, Ad, nd, cd, false, none, 0, 0, (Df 0), 0, 0⟩, ⟨true, rn, bn, An, nn, cn, false, none, 0, 0, (Nf 0), 0, 0⟩, ⟨true, w.heap.size, qb29, qA29, qn29, qc29, qbb29, qAA29, qnn29, qcc29, X, D, 3⟩] ∧ Below w.heap.size w (put4 wq29 w.heap.size (.bool qb29) (.slice qA29 qn29 qc29) (.bool qbb29) (.slice qAA29 qnn29 qcc29))) := Lib.hid (And.intro hu30 ((((HC29.out.2.setCell (p := ⟨w.heap.size, 0, none⟩) (HC29.out.1.up 3 _ rfl rfl) _).setCell (p := ⟨w.heap.size, 1, none⟩) (HC29.out.1.up 3 _ rfl rfl) _).setCell (p := ⟨w.heap.size, 2, none⟩) (HC29.out.1.up 3 _ rfl rfl) _).setCell (p := ⟨w.heap.size, 3, none⟩) (HC29.out.1.up 3 _ rfl rfl) _))
     clear hu30
     go_wp2
     obtain ⟨e0, e1, e2, e3⟩ : Quad (put4 wq29 w.heap.size (.bool qb29) (.slice qA29 qn29 qc29) (.bool qbb29) (.slice qAA29 qnn29 qcc29)) w.heap.size (.bool qb29) (.slice qA29 qn29 qc29) (.bool qbb29) (.slice qAA29 qnn29 qcc29) := (HE.out.1.all 3 _ rfl).lies rfl
     unfold put4 at e0 e1 e2 e3
     refine bodyPost_ret (v := (.tuple #[.agg #[.bool qb29, .slice qA29 qn29 qc29, .bool qbb29, .slice qAA29 qnn29 qcc29], .int .i64 er])) (by simp [results, Tryz.results52, go_sem, e0, e1, e2, e3]) rfl ?_
     exact ⟨_, rfl, (HE.out.1.all 3 _ rfl).at_, HE.out.2⟩
   · obtain ⟨z, hz⟩ : ∃ z, zs[i]? = some z := ⟨_, List.getElem?_eq_getElem (by rw [HCH.out.len]; omega)⟩
     obtain ⟨bz, Az, nz, cz, pz, iz, _⟩ := HR.out.1.at_ hz
     have hgo := HCH.out.go i (by omega) z hz
     have hne := HCH.out.ne i (by omega)
     have fz := HCH.out.fz i z hz
     have fN := HCH.out.fN (i + 1) hj
     have fD := HCH.out.fD (i + 1) hj
     have hm := HCH.out.hm
     obtain ⟨N, hN⟩ : ∃ N, Nf (i + 1) = N := ⟨_, rfl⟩
     obtain ⟨E, hE⟩ : ∃ E, Df (i + 1) = E := ⟨_, rfl⟩
     obtain ⟨c0, hc0⟩ : ∃ c0, N.sign = c0 := ⟨_, rfl⟩
     rw [hN, hE] at hv hgo
     rw [hN] at hne fN
     rw [hE] at fD
     have hcn : (c0 == 0) = false := by rw [beq_eq_false_iff_ne, ← hc0]; exact fun e => hne (Int.sign_eq_zero_iff_zero.1 e)
     obtain ⟨Q, hQ⟩ : ∃ Q, z * N = Q := ⟨_, rfl⟩
     obtain ⟨R, hR⟩ : ∃ R, Q + E = R := ⟨_, rfl⟩
     have HA := Lib.hid (And.intro (show ∀ v w, IntAt w v N → Calls Tryz.prog 64 #[v] w fun e w' => IsNum w w' c0 e from fun v w k => by rw [← hc0]; exact Sign_any v N m w k (by omega) fN)
       (And.intro (show ∀ v1 v2 w, IntAt w v1 z → IntAt w v2 N → Calls Tryz.prog 86 #[v1, v2] w fun e w' => IsInt w w' Q e from fun v1 v2 w k1 k2 => by rw [← hQ]; exact Mul_little v1 v2 z N m m w k1 k2 (by omega) fz (by omega) fN)
         (show ∀ v1 v2 w, IntAt w v1 Q → IntAt w v2 E → Calls Tryz.prog 97 #[v1, v2] w fun e w' => IsInt w w' R e from fun v1 v2 w k1 k2 => by rw [← hR]; exact Add_any v1 v2 Q E (m + m) w k1 k2 (by omega) (by rw [← hQ]; exact fit_mul fz fN) (Nat.lt_of_lt_of_le fD (Nat.pow_le_pow_right B32_pos (by omega))))))
     have HG := Lib.hid (And.intro hgo (And.intro hN (And.intro hQ hR)))
     have HZ := Lib.hid (And.intro pz iz)
     have HV := Lib.hid (And.intro hv hb)
     have HJ := Lib.hid hj
     have i0 : (0 : Int) ≤ (i : Int) := Int.natCast_nonneg i
     have i1 : (i : Int) < (((k + 1 : Nat)) : Int) := by omega
     have i2 : (i : Int) ≤ 100000 := by omega
     clear hz pz iz hgo hne fz fN fD hm hN hE hc0 hQ hR hv hb hj
     obtain ⟨pn0, pn1⟩ : Two wr rn (.bool bn) (.slice An nn cn) := (HV.out.1.all 1 _ rfl).lies rfl
     go_wp2_with fail
     refine (HA.out.1 _ _ ((HV.out.1.all 1 _ rfl).at_)).mono ?_
     rintro e wq31 ⟨rfl, hb31⟩
     have HC31 := Lib.hid (And.intro (HV.out.1.step hb31 rfl) (below_then HV.out.2 hb31))
     clear pn0 pn1
     clear hb31 HV
     go_upto_region 10 with fail
     have HD32 := Lib.hid (And.intro HC31.out.1.drew HC31.out.2.drew)
     refine wp_region_held_drew (S := fun w' => PairAt w' g (i * 2) (.bool bz) (.slice Az nz cz)) (by kernel_rfl) (HZ.out.1.step HD32.out.2 rfl HR.out.2.2.2) (fun hH0 => ?_)
     refine wpAnyH_take (i := 0) (v := (.slice (some ⟨g, 0, none⟩) (k + 1) c)) rfl (by kernel_rfl) (by kernel_rfl) (by kernel_rfl) (fun _ _ _ h => h) (Or.inl ⟨by kernel_rfl, fun _ _ => by kernel_rfl⟩) hH0 ?r32
     change wpAnyH _ _ _ _ _ _ _ (Act.put _ (some 30) _) _
     simp only [Act.put, lyA, lyZ, lyS]
     refine wpAnyH_take (i := 1) (v := (.int .i64 (i : Int))) rfl (by kernel_rfl) (by kernel_rfl) (by kernel_rfl) (fun _ _ _ h => h) (Or.inl ⟨by kernel_rfl, fun _ _ => by kernel_rfl⟩) hH0 ?r33
     change wpAnyH _ _ _ _ _ _ _ (Act.put _ (some 31) _) _
     simp only [Act.put, lyA, lyZ, lyS]
     refine wpAnyH_take (i := 2) (v := (.pointer (some ⟨g, i * 2, none⟩))) rfl (by kernel_rfl) (by kernel_rfl) (by kernel_rfl) (fun _ _ _ h => h) (Or.inl ⟨by kernel_rfl, fun w0 hS0 => by go_simp <;> (intro hx; exfalso; omega)⟩) hH0 ?r34
     change wpAnyH _ _ _ _ _ _ _ (Act.put _ (some 32) _) _
     simp only [Act.put, lyA, lyZ, lyS]
     refine wpAnyH_take (i := 3) (v := (.agg #[.bool bz, .slice Az nz cz])) rfl (by kernel_rfl) (by kernel_rfl) (by kernel_rfl) (fun _ _ _ h => h) (Or.inl ⟨by kernel_rfl, fun w0 hS0 => loadat hS0 (.tmp 32) (by kernel_rfl) (by kernel_rfl)⟩) hH0 ?r35
     change wpAnyH _ _ _ _ _ _ _ (Act.put _ (some 33) _) _
     simp only [Act.put, lyA, lyZ, lyS]
     refine wpAnyH_ready (rs := [4, 6, 8]) (by kernel_rfl) (by simp) ?_
     refine AllReadyH.cons rfl (fun K hK0 => ?d36) (AllReadyH.cons rfl (fun K hK0 => ?d37) (AllReadyH.cons rfl (fun K hK0 => ?d38) (AllReadyH.nil)))
     case d36 =>
      have hK := hK0.out
      clear hK0
      rw [if_pos (by kernel_rfl)]
      refine wp_go_val (.agg #[.bool bn, .slice An nn cn]) (load0 ((HD32.out.1.all 1 _ rfl).lies rfl) (.tmp 5) (by kernel_rfl) (by kernel_rfl)) ?_
      have HD33 := Lib.hid (And.intro (FVars.told HD32.out.1 (t := ⟨false, 0, bn, An, nn, cn, false, none, 0, 0, N, 0, 0⟩) (HD32.out.1.all 1 _ rfl).at_ rfl) HD32.out.2)
      refine hK _ _ (HZ.out.1.step HD33.out.2 rfl HR.out.2.2.2) (fun hH33 => ?_)
      clear hK K hH0
      change wpAnyH _ _ _ _ _ _ _ (Act.put _ (some 34) _) _
      simp only [Act.put, lyA, lyZ, lyS]
      refine wpAnyH_ready (rs := [5, 6, 8]) (by kernel_rfl) (by simp) ?_
      refine AllReadyH.cons rfl (fun K hK0 => ?d39) (AllReadyH.cons rfl (fun K hK0 => ?d40) (AllReadyH.cons rfl (fun K hK0 => ?d41) (AllReadyH.nil)))
      case d39 =>
       have hK := hK0.out
       clear hK0
       rw [if_pos (by kernel_rfl)]
       refine wp_go_call 86 #[(.agg #[.bool bz, .slice Az nz cz]), (.agg #[.bool bn, .slice An nn cn])] (fun _ => by kernel_rfl) ((HA.out.2.1 _ _ _ (HZ.out.2.step HD33.out.2 rfl) ((HD33.out.1.all 2 _ rfl).at_)).mono ?_)
       rintro e wq34 ⟨qv34, rfl, hq34, hb34⟩
       obtain ⟨qb34, qA34, qn34, qc34, rfl, hq34⟩ := open0 hq34
       have HD34 := Lib.hid (And.intro (FVars.told (HD33.out.1.step hb34 rfl) (t := ⟨false, 0, qb34, qA34, qn34, qc34, false, none, 0, 0, Q, 0, 0⟩) hq34 rfl) (below_then HD33.out.2 hb34))
       clear hq34 hb34 HD33
       refine ⟨(.agg #[.bool qb34, .slice qA34 qn34 qc34]), rfl, hK _ _ (HZ.out.1.step HD34.out.2 rfl HR.out.2.2.2) (fun hH34 => ?_)⟩
       clear hK K hH33
       change wpAnyH _ _ _ _ _ _ _ (Act.put _ (some 35) _) _
       simp only [Act.put, lyA, lyZ, lyS]
       refine wpAnyH_ready (rs := [6, 8]) (by kernel_rfl) (by simp) ?_
       refine AllReadyH.cons rfl (fun K hK0 => ?d42) (AllReadyH.cons rfl (fun K hK0 => ?d43) (AllReadyH.nil))
       case d42 =>
        have hK := hK0.out
        clear hK0
        rw [if_pos (by kernel_rfl)]
        refine wp_go_val (.agg #[.bool bd, .slice Ad nd cd]) (load0 ((HD34.out.1.all 2 _ rfl).lies rfl) (.tmp 6) (by kernel_rfl) (by kernel_rfl)) ?_
        have HD35 := Lib.hid (And.intro (FVars.told HD34.out.1 (t := ⟨false, 0, bd, Ad, nd, cd, false, none, 0, 0, E, 0, 0⟩) (HD34.out.1.all 2 _ rfl).at_ rfl) HD34.out.2)
        refine hK _ _ (HZ.out.1.step HD35.out.2 rfl HR.out.2.2.2) (fun hH35 => ?_)
        clear hK K hH34
        change wpAnyH _ _ _ _ _ _ _ (Act.put _ (some 36) _) _
        simp only [Act.put, lyA, lyZ, lyS]
        refine wpAnyH_ready (rs := [7, 8]) (by kernel_rfl) (by simp) ?_
        refine AllReadyH.cons rfl (fun K hK0 => ?d44) (AllReadyH.cons rfl (fun K hK0 => ?d45) (AllReadyH.nil))
        case d44 =>
         have hK := hK0.out
         clear hK0
         rw [if_pos (by kernel_rfl)]
         refine wp_go_call 97 #[(.agg #[.bool qb34, .slice qA34 qn34 qc34]), (.agg #[.bool bd, .slice Ad nd cd])] (fun _ => by kernel_rfl) ((HA.out.2.2 _ _ _ ((HD35.out.1.all 1 _ rfl).at_) ((HD35.out.1.all 3 _ rfl).at_)).mono ?_)
         rintro e wq36 ⟨qv36, rfl, hq36, hb36⟩
         obtain ⟨qb36, qA36, qn36, qc36, rfl, hq36⟩ := open0 hq36
         have HD36 := Lib.hid (And.intro (FVars.told (HD35.out.1.step hb36 rfl) (t := ⟨false, 0, qb36, qA36, qn36, qc36, false, none, 0, 0, R, 0, 0⟩) hq36 rfl) (below_then HD35.out.2 hb36))
         clear hq36 hb36 HD35
         refine ⟨(.agg #[.bool qb36, .slice qA36 qn36 qc36]), rfl, hK _ _ (HZ.out.1.step HD36.out.2 rfl HR.out.2.2.2) (fun hH36 => ?_)⟩
         clear hK K hH35
         change wpAnyH _ _ _ _ _ _ _ (Act.put _ (some 37) _) _
         simp only [Act.put, lyA, lyZ, lyS]
         refine wpAnyH_ready (rs := [8]) (by kernel_rfl) (by simp) ?_
         refine AllReadyH.cons rfl (fun K hK0 => ?d46) (AllReadyH.nil)
         have hK := hK0.out
         clear hK0
         rw [if_pos (by kernel_rfl)]
         refine wp_go_val (.agg #[.bool bn, .slice An nn cn]) (load0 ((HD36.out.1.all 5 _ rfl).lies rfl) (.tmp 5) (by kernel_rfl) (by kernel_rfl)) ?_
         have HD37 := Lib.hid (And.intro (FVars.told HD36.out.1 (t := ⟨false, 0, bn, An, nn, cn, false, none, 0, 0, N, 0, 0⟩) (HD36.out.1.all 5 _ rfl).at_ rfl) HD36.out.2)
         refine hK _ _ (HZ.out.1.step HD37.out.2 rfl HR.out.2.2.2) (fun hH37 => ?_)
         clear hK K hH36
         change wpAnyH _ _ _ _ _ _ _ (Act.put _ (some 38) _) _
         simp only [Act.put, lyA, lyZ, lyS]
         refine wpAnyH_ready (rs := [9]) (by kernel_rfl) (by simp) ?_
         refine AllReadyH.cons rfl (fun K hK0 => ?d47) (AllReadyH.nil)
         have hK := hK0.out
         clear hK0
         rw [if_pos (by kernel_rfl)]
         refine wp_go_skip (store0 ((HD37.out.1.all 6 _ rfl).lies rfl) ((HD37.out.1.all 6 _ rfl).frz rfl) qb36 qA36 qn36 qc36 (.tmp 5) (.tmp 37) (by kernel_rfl) (by kernel_rfl) (by kernel_rfl)) ?_
         have hu38 := FVars.over2 HD37.out.1 6 (s := ⟨true, rn, bn, An, nn, cn, false, none, 0, 0, N, 0, 0⟩) (t := ⟨false, 0, qb36, qA36, qn36, qc36, false, none, 0, 0, R, 0, 0⟩) rfl rfl lyK lyK ((HD37.out.1.all 1 _ rfl).at_)
         have hv38 : FVars w.heap.size (put2 (wq36) rn (.bool qb36) (.slice qA36 qn36 qc36)) [⟨false, 0, bn, An, nn, cn, false, none, 0, 0, N, 0, 0⟩, ⟨false, 0, qb36, qA36, qn36, qc36, false, none, 0, 0, R, 0, 0⟩, ⟨false, 0, bd, Ad, nd, cd, false, none, 0, 0, E, 0, 0⟩, ⟨false, 0, qb34, qA34, qn34, qc34, false, none, 0, 0, Q, 0, 0⟩, ⟨false, 0, bn, An, nn, cn, false, none, 0, 0, N, 0, 0⟩, ⟨true, rd, bd, Ad, nd, cd, false, none, 0, 0, E, 0, 0⟩, ⟨true, rn, qb36, qA36, qn36, qc36, false, none, 0, 0, R, 0, 0⟩, ⟨true, w.heap.size, false, none, 0, 0, false, none, 0, 0, 0, 1, 3⟩] := hu38
         clear hu38
         have hl38 : Below w.heap.size w (put2 (wq36) rn (.bool qb36) (.slice qA36 qn36 qc36)) := (HD37.out.2.setCell (p := ⟨rn, 0, none⟩) (HD37.out.1.up 6 _ rfl rfl) _).setCell (p := ⟨rn, 1, none⟩) (HD37.out.1.up 6 _ rfl rfl) _
         generalize (put2 (wq36) rn (.bool qb36) (.slice qA36 qn36 qc36)) = Wn38 at hv38 hl38 ⊢
         have HD38 := Lib.hid (And.intro hv38 hl38)
         clear hv38 hl38
         refine hK _ _ (HZ.out.1.step HD38.out.2 rfl HR.out.2.2.2) (fun hH38 => ?_)
         clear hK K hH37
         change wpAnyH _ _ _ _ _ _ _ (Act.put _ none _) _
         simp only [Act.put]
         refine wpAnyH_ready (rs := [10]) (by kernel_rfl) (by simp) ?_
         refine AllReadyH.cons rfl (fun K hK0 => ?d48) (AllReadyH.nil)
         have hK := hK0.out
         clear hK0
         rw [if_pos (by kernel_rfl)]
         refine wp_go_skip (store0 ((HD38.out.1.all 5 _ rfl).lies rfl) ((HD38.out.1.all 5 _ rfl).frz rfl) bn An nn cn (.tmp 6) (.tmp 38) (by kernel_rfl) (by kernel_rfl) (by kernel_rfl)) ?_
         have hu39 := FVars.over2 HD38.out.1 5 (s := ⟨true, rd, bd, Ad, nd, cd, false, none, 0, 0, E, 0, 0⟩) (t := ⟨false, 0, bn, An, nn, cn, false, none, 0, 0, N, 0, 0⟩) rfl rfl lyK lyK ((HD38.out.1.all 0 _ rfl).at_)
         have hv39 : FVars w.heap.size (put2 (Wn38) rd (.bool bn) (.slice An nn cn)) [⟨false, 0, bn, An, nn, cn, false, none, 0, 0, N, 0, 0⟩, ⟨false, 0, qb36, qA36, qn36, qc36, false, none, 0, 0, R, 0, 0⟩, ⟨false, 0, bd, Ad, nd, cd, false, none, 0, 0, E, 0, 0⟩, ⟨false, 0, qb34, qA34, qn34, qc34, false, none, 0, 0, Q, 0, 0⟩, ⟨false, 0, bn, An, nn, cn, false, none, 0, 0, N, 0, 0⟩, ⟨true, rd, bn, An, nn, cn, false, none, 0, 0, N, 0, 0⟩, ⟨true, rn, qb36, qA36, qn36, qc36, false, none, 0, 0, R, 0, 0⟩, ⟨true, w.heap.size, false, none, 0, 0, false, none, 0, 0, 0, 1, 3⟩] := hu39
         clear hu39
         have hl39 : Below w.heap.size w (put2 (Wn38) rd (.bool bn) (.slice An nn cn)) := (HD38.out.2.setCell (p := ⟨rd, 0, none⟩) (HD38.out.1.up 5 _ rfl rfl) _).setCell (p := ⟨rd, 1, none⟩) (HD38.out.1.up 5 _ rfl rfl) _
         generalize (put2 (Wn38) rd (.bool bn) (.slice An nn cn)) = Wn39 at hv39 hl39 ⊢
         have HD39 := Lib.hid (And.intro hv39 hl39)
         clear hv39 hl39
         refine hK _ _ (HZ.out.1.step HD39.out.2 rfl HR.out.2.2.2) (fun hH39 => ?_)
         clear hK K hH38
         change wpAnyH _ _ _ _ _ _ _ (Act.put _ none _) _
         simp only [Act.put]
         refine wpAnyH_done (by kernel_rfl) ?_ _
         go_wp2
         go_roundw
         case rel =>
          refine ⟨i, qb36, qA36, qn36, qc36, bn, An, nn, cn, Nat.le_of_succ_le HJ.out, ?_, ?_, HD39.out.2⟩
          · rcases Nat.eq_zero_or_pos i with q | q
            · subst q; exact .inl ⟨rfl, by go_num⟩
            · obtain ⟨i', rfl⟩ : ∃ i', i = i' + 1 := ⟨i - 1, by omega⟩
              exact .inr ⟨i', rfl, by go_num⟩
          · rw [HG.out.1.2, ← HG.out.1.1, HG.out.2.2.1, HG.out.2.2.2]
            exact FVars.pick HD39.out.1 [5, 6, 7] (by decide) rfl
         case measure => simp [intOf]
        case d45 =>
         have hK := hK0.out
         clear hK0
         rw [if_pos (by kernel_rfl)]
         refine wp_go_val (.agg #[.bool bn, .slice An nn cn]) (load0 ((HD35.out.1.all 4 _ rfl).lies rfl) (.tmp 5) (by kernel_rfl) (by kernel_rfl)) ?_
         have HD40 := Lib.hid (And.intro (FVars.told HD35.out.1 (t := ⟨false, 0, bn, An, nn, cn, false, none, 0, 0, N, 0, 0⟩) (HD35.out.1.all 4 _ rfl).at_ rfl) HD35.out.2)
         refine hK _ _ (HZ.out.1.step HD40.out.2 rfl HR.out.2.2.2) (fun hH40 => ?_)
         clear hK K hH35
         change wpAnyH _ _ _ _ _ _ _ (Act.put _ (some 38) _) _
         simp only [Act.put, lyA, lyZ, lyS]
         refine wpAnyH_ready (rs := [7]) (by kernel_rfl) (by simp) ?_
         refine AllReadyH.cons rfl (fun K hK0 => ?d49) (AllReadyH.nil)
         have hK := hK0.out
         clear hK0
         rw [if_pos (by kernel_rfl)]
         refine wp_go_call 97 #[(.agg #[.bool qb34, .slice qA34 qn34 qc34]), (.agg #[.bool bd, .slice Ad nd cd])] (fun _ => by kernel_rfl) ((HA.out.2.2 _ _ _ ((HD40.out.1.all 2 _ rfl).at_) ((HD40.out.1.all 4 _ rfl).at_)).mono ?_)
         rintro e wq41 ⟨qv41, rfl, hq41, hb41⟩
         obtain ⟨qb41, qA41, qn41, qc41, rfl, hq41⟩ := open0 hq41
         have HD41 := Lib.hid (And.intro (FVars.told (HD40.out.1.step hb41 rfl) (t := ⟨false, 0, qb41, qA41, qn41, qc41, false, none, 0, 0, R, 0, 0⟩) hq41 rfl) (below_then HD40.out.2 hb41))
         clear hq41 hb41 HD40
         refine ⟨(.agg #[.bool qb41, .slice qA41 qn41 qc41]), rfl, hK _ _ (HZ.out.1.step HD41.out.2 rfl HR.out.2.2.2) (fun hH41 => ?_)⟩
         clear hK K hH40
         change wpAnyH _ _ _ _ _ _ _ (Act.put _ (some 37) _) _
         simp only [Act.put, lyA, lyZ, lyS]
         refine wpAnyH_ready (rs := [9]) (by kernel_rfl) (by simp) ?_
         refine AllReadyH.cons rfl (fun K hK0 => ?d50) (AllReadyH.nil)
         have hK := hK0.out
         clear hK0
         rw [if_pos (by kernel_rfl)]
         refine wp_go_skip (store0 ((HD41.out.1.all 6 _ rfl).lies rfl) ((HD41.out.1.all 6 _ rfl).frz rfl) qb41 qA41 qn41 qc41 (.tmp 5) (.tmp 37) (by kernel_rfl) (by kernel_rfl) (by kernel_rfl)) ?_
         have hu42 := FVars.over2 HD41.out.1 6 (s := ⟨true, rn, bn, An, nn, cn, false, none, 0, 0, N, 0, 0⟩) (t := ⟨false, 0, qb41, qA41, qn41, qc41, false, none, 0, 0, R, 0, 0⟩) rfl rfl lyK lyK ((HD41.out.1.all 0 _ rfl).at_)
         have hv42 : FVars w.heap.size (put2 (wq41) rn (.bool qb41) (.slice qA41 qn41 qc41)) [⟨false, 0, qb41, qA41, qn41, qc41, false, none, 0, 0, R, 0, 0⟩, ⟨false, 0, bn, An, nn, cn, false, none, 0, 0, N, 0, 0⟩, ⟨false, 0, bd, Ad, nd, cd, false, none, 0, 0, E, 0, 0⟩, ⟨false, 0, qb34, qA34, qn34, qc34, false, none, 0, 0, Q, 0, 0⟩, ⟨false, 0, bn, An, nn, cn, false, none, 0, 0, N, 0, 0⟩, ⟨true, rd, bd, Ad, nd, cd, false, none, 0, 0, E, 0, 0⟩, ⟨true, rn, qb41, qA41, qn41, qc41, false, none, 0, 0, R, 0, 0⟩, ⟨true, w.heap.size, false, none, 0, 0, false, none, 0, 0, 0, 1, 3⟩] := hu42
         clear hu42
         have hl42 : Below w.heap.size w (put2 (wq41) rn (.bool qb41) (.slice qA41 qn41 qc41)) := (HD41.out.2.setCell (p := ⟨rn, 0, none⟩) (HD41.out.1.up 6 _ rfl rfl) _).setCell (p := ⟨rn, 1, none⟩) (HD41.out.1.up 6 _ rfl rfl) _
         generalize (put2 (wq41) rn (.bool qb41) (.slice qA41 qn41 qc41)) = Wn42 at hv42 hl42 ⊢
         have HD42 := Lib.hid (And.intro hv42 hl42)
         clear hv42 hl42
         refine hK _ _ (HZ.out.1.step HD42.out.2 rfl HR.out.2.2.2) (fun hH42 => ?_)
         clear hK K hH41
         change wpAnyH _ _ _ _ _ _ _ (Act.put _ none _) _
         simp only [Act.put]
         refine wpAnyH_ready (rs := [10]) (by kernel_rfl) (by simp) ?_
         refine AllReadyH.cons rfl (fun K hK0 => ?d51) (AllReadyH.nil)
         have hK := hK0.out
         clear hK0
         rw [if_pos (by kernel_rfl)]
         refine wp_go_skip (store0 ((HD42.out.1.all 5 _ rfl).lies rfl) ((HD42.out.1.all 5 _ rfl).frz rfl) bn An nn cn (.tmp 6) (.tmp 38) (by kernel_rfl) (by kernel_rfl) (by kernel_rfl)) ?_
         have hu43 := FVars.over2 HD42.out.1 5 (s := ⟨true, rd, bd, Ad, nd, cd, false, none, 0, 0, E, 0, 0⟩) (t := ⟨false, 0, bn, An, nn, cn, false, none, 0, 0, N, 0, 0⟩) rfl rfl lyK lyK ((HD42.out.1.all 1 _ rfl).at_)
         have hv43 : FVars w.heap.size (put2 (Wn42) rd (.bool bn) (.slice An nn cn)) [⟨false, 0, qb41, qA41, qn41, qc41, false, none, 0, 0, R, 0, 0⟩, ⟨false, 0, bn, An, nn, cn, false, none, 0, 0, N, 0, 0⟩, ⟨false, 0, bd, Ad, nd, cd, false, none, 0, 0, E, 0, 0⟩, ⟨false, 0, qb34, qA34, qn34, qc34, false, none, 0, 0, Q, 0, 0⟩, ⟨false, 0, bn, An, nn, cn, false, none, 0, 0, N, 0, 0⟩, ⟨true, rd, bn, An, nn, cn, false, none, 0, 0, N, 0, 0⟩, ⟨true, rn, qb41, qA41, qn41, qc41, false, none, 0, 0, R, 0, 0⟩, ⟨true, w.heap.size, false, none, 0, 0, false, none, 0, 0, 0, 1, 3⟩] := hu43
         clear hu43
         have hl43 : Below w.heap.size w (put2 (Wn42) rd (.bool bn) (.slice An nn cn)) := (HD42.out.2.setCell (p := ⟨rd, 0, none⟩) (HD42.out.1.up 5 _ rfl rfl) _).setCell (p := ⟨rd, 1, none⟩) (HD42.out.1.up 5 _ rfl rfl) _
         generalize (put2 (Wn42) rd (.bool bn) (.slice An nn cn)) = Wn43 at hv43 hl43 ⊢
         have HD43 := Lib.hid (And.intro hv43 hl43)
         clear hv43 hl43
         refine hK _ _ (HZ.out.1.step HD43.out.2 rfl HR.out.2.2.2) (fun hH43 => ?_)
         clear hK K hH42
         change wpAnyH _ _ _ _ _ _ _ (Act.put _ none _) _
         simp only [Act.put]
         refine wpAnyH_done (by kernel_rfl) ?_ _
         go_wp2
         go_roundw
         case rel =>
          refine ⟨i, qb41, qA41, qn41, qc41, bn, An, nn, cn, Nat.le_of_succ_le HJ.out, ?_, ?_, HD43.out.2⟩
          · rcases Nat.eq_zero_or_pos i with q | q
            · subst q; exact .inl ⟨rfl, by go_num⟩
            · obtain ⟨i', rfl⟩ : ∃ i', i = i' + 1 := ⟨i - 1, by omega⟩
              exact .inr ⟨i', rfl, by go_num⟩
          · rw [HG.out.1.2, ← HG.out.1.1, HG.out.2.2.1, HG.out.2.2.2]
            exact FVars.pick HD43.out.1 [5, 6, 7] (by decide) rfl
         case measure => simp [intOf]
       case d43 =>
        have hK := hK0.out
        clear hK0
        rw [if_pos (by kernel_rfl)]
        refine wp_go_val (.agg #[.bool bn, .slice An nn cn]) (load0 ((HD34.out.1.all 3 _ rfl).lies rfl) (.tmp 5) (by kernel_rfl) (by kernel_rfl)) ?_
        have HD44 := Lib.hid (And.intro (FVars.told HD34.out.1 (t := ⟨false, 0, bn, An, nn, cn, false, none, 0, 0, N, 0, 0⟩) (HD34.out.1.all 3 _ rfl).at_ rfl) HD34.out.2)
        refine hK _ _ (HZ.out.1.step HD44.out.2 rfl HR.out.2.2.2) (fun hH44 => ?_)
        clear hK K hH34
        change wpAnyH _ _ _ _ _ _ _ (Act.put _ (some 38) _) _
        simp only [Act.put, lyA, lyZ, lyS]
        refine wpAnyH_ready (rs := [6]) (by kernel_rfl) (by simp) ?_
        refine AllReadyH.cons rfl (fun K hK0 => ?d52) (AllReadyH.nil)
        have hK := hK0.out
        clear hK0
        rw [if_pos (by kernel_rfl)]
        refine wp_go_val (.agg #[.bool bd, .slice Ad nd cd]) (load0 ((HD44.out.1.all 3 _ rfl).lies rfl) (.tmp 6) (by kernel_rfl) (by kernel_rfl)) ?_
        have HD45 := Lib.hid (And.intro (FVars.told HD44.out.1 (t := ⟨false, 0, bd, Ad, nd, cd, false, none, 0, 0, E, 0, 0⟩) (HD44.out.1.all 3 _ rfl).at_ rfl) HD44.out.2)
        refine hK _ _ (HZ.out.1.step HD45.out.2 rfl HR.out.2.2.2) (fun hH45 => ?_)
        clear hK K hH44
        change wpAnyH _ _ _ _ _ _ _ (Act.put _ (some 36) _) _
        simp only [Act.put, lyA, lyZ, lyS]
        refine wpAnyH_ready (rs := [7]) (by kernel_rfl) (by simp) ?_
        refine AllReadyH.cons rfl (fun K hK0 => ?d53) (AllReadyH.nil)
        have hK := hK0.out
        clear hK0
        rw [if_pos (by kernel_rfl)]
        refine wp_go_call 97 #[(.agg #[.bool qb34, .slice qA34 qn34 qc34]), (.agg #[.bool bd, .slice Ad nd cd])] (fun _ => by kernel_rfl) ((HA.out.2.2 _ _ _ ((HD45.out.1.all 2 _ rfl).at_) ((HD45.out.1.all 4 _ rfl).at_)).mono ?_)
        rintro e wq46 ⟨qv46, rfl, hq46, hb46⟩
        obtain ⟨qb46, qA46, qn46, qc46, rfl, hq46⟩ := open0 hq46
        have HD46 := Lib.hid (And.intro (FVars.told (HD45.out.1.step hb46 rfl) (t := ⟨false, 0, qb46, qA46, qn46, qc46, false, none, 0, 0, R, 0, 0⟩) hq46 rfl) (below_then HD45.out.2 hb46))
        clear hq46 hb46 HD45
        refine ⟨(.agg #[.bool qb46, .slice qA46 qn46 qc46]), rfl, hK _ _ (HZ.out.1.step HD46.out.2 rfl HR.out.2.2.2) (fun hH46 => ?_)⟩
        clear hK K hH45
        change wpAnyH _ _ _ _ _ _ _ (Act.put _ (some 37) _) _
        simp only [Act.put, lyA, lyZ, lyS]
        refine wpAnyH_ready (rs := [9]) (by kernel_rfl) (by simp) ?_
        refine AllReadyH.cons rfl (fun K hK0 => ?d54) (AllReadyH.nil)
        have hK := hK0.out
        clear hK0
        rw [if_pos (by kernel_rfl)]
        refine wp_go_skip (store0 ((HD46.out.1.all 6 _ rfl).lies rfl) ((HD46.out.1.all 6 _ rfl).frz rfl) qb46 qA46 qn46 qc46 (.tmp 5) (.tmp 37) (by kernel_rfl) (by kernel_rfl) (by kernel_rfl)) ?_
        have hu47 := FVars.over2 HD46.out.1 6 (s := ⟨true, rn, bn, An, nn, cn, false, none, 0, 0, N, 0, 0⟩) (t := ⟨false, 0, qb46, qA46, qn46, qc46, false, none, 0, 0, R, 0, 0⟩) rfl rfl lyK lyK ((HD46.out.1.all 0 _ rfl).at_)
        have hv47 : FVars w.heap.size (put2 (wq46) rn (.bool qb46) (.slice qA46 qn46 qc46)) [⟨false, 0, qb46, qA46, qn46, qc46, false, none, 0, 0, R, 0, 0⟩, ⟨false, 0, bd, Ad, nd, cd, false, none, 0, 0, E, 0, 0⟩, ⟨false, 0, bn, An, nn, cn, false, none, 0, 0, N, 0, 0⟩, ⟨false, 0, qb34, qA34, qn34, qc34, false, none, 0, 0, Q, 0, 0⟩, ⟨false, 0, bn, An, nn, cn, false, none, 0, 0, N, 0, 0⟩, ⟨true, rd, bd, Ad, nd, cd, false, none, 0, 0, E, 0, 0⟩, ⟨true, rn, qb46, qA46, qn46, qc46, false, none, 0, 0, R, 0, 0⟩, ⟨true, w.heap.size, false, none, 0, 0, false, none, 0, 0, 0, 1, 3⟩] := hu47
        clear hu47
        have hl47 : Below w.heap.size w (put2 (wq46) rn (.bool qb46) (.slice qA46 qn46 qc46)) := (HD46.out.2.setCell (p := ⟨rn, 0, none⟩) (HD46.out.1.up 6 _ rfl rfl) _).setCell (p := ⟨rn, 1, none⟩) (HD46.out.1.up 6 _ rfl rfl) _
        generalize (put2 (wq46) rn (.bool qb46) (.slice qA46 qn46 qc46)) = Wn47 at hv47 hl47 ⊢
        have HD47 := Lib.hid (And.intro hv47 hl47)
        clear hv47 hl47
        refine hK _ _ (HZ.out.1.step HD47.out.2 rfl HR.out.2.2.2) (fun hH47 => ?_)
        clear hK K hH46
        change wpAnyH _ _ _ _ _ _ _ (Act.put _ none _) _
        simp only [Act.put]
        refine wpAnyH_ready (rs := [10]) (by kernel_rfl) (by simp) ?_
        refine AllReadyH.cons rfl (fun K hK0 => ?d55) (AllReadyH.nil)
        have hK := hK0.out
        clear hK0
        rw [if_pos (by kernel_rfl)]
        refine wp_go_skip (store0 ((HD47.out.1.all 5 _ rfl).lies rfl) ((HD47.out.1.all 5 _ rfl).frz rfl) bn An nn cn (.tmp 6) (.tmp 38) (by kernel_rfl) (by kernel_rfl) (by kernel_rfl)) ?_
        have hu48 := FVars.over2 HD47.out.1 5 (s := ⟨true, rd, bd, Ad, nd, cd, false, none, 0, 0, E, 0, 0⟩) (t := ⟨false, 0, bn, An, nn, cn, false, none, 0, 0, N, 0, 0⟩) rfl rfl lyK lyK ((HD47.out.1.all 2 _ rfl).at_)
        have hv48 : FVars w.heap.size (put2 (Wn47) rd (.bool bn) (.slice An nn cn)) [⟨false, 0, qb46, qA46, qn46, qc46, false, none, 0, 0, R, 0, 0⟩, ⟨false, 0, bd, Ad, nd, cd, false, none, 0, 0, E, 0, 0⟩, ⟨false, 0, bn, An, nn, cn, false, none, 0, 0, N, 0, 0⟩, ⟨false, 0, qb34, qA34, qn34, qc34, false, none, 0, 0, Q, 0, 0⟩, ⟨false, 0, bn, An, nn, cn, false, none, 0, 0, N, 0, 0⟩, ⟨true, rd, bn, An, nn, cn, false, none, 0, 0, N, 0, 0⟩, ⟨true, rn, qb46, qA46, qn46, qc46, false, none, 0, 0, R, 0, 0⟩, ⟨true, w.heap.size, false, none, 0, 0, false, none, 0, 0, 0, 1, 3⟩] := hu48
        clear hu48
        have hl48 : Below w.heap.size w (put2 (Wn47) rd (.bool bn) (.slice An nn cn)) := (HD47.out.2.setCell (p := ⟨rd, 0, none⟩) (HD47.out.1.up 5 _ rfl rfl) _).setCell (p := ⟨rd, 1, none⟩) (HD47.out.1.up 5 _ rfl rfl) _
        generalize (put2 (Wn47) rd (.bool bn) (.slice An nn cn)) = Wn48 at hv48 hl48 ⊢
        have HD48 := Lib.hid (And.intro hv48 hl48)
        clear hv48 hl48
        refine hK _ _ (HZ.out.1.step HD48.out.2 rfl HR.out.2.2.2) (fun hH48 => ?_)
        clear hK K hH47
        change wpAnyH _ _ _ _ _ _ _ (Act.put _ none _) _
        simp only [Act.put]
        refine wpAnyH_done (by kernel_rfl) ?_ _
        go_wp2
        go_roundw
        case rel =>
         refine ⟨i, qb46, qA46, qn46, qc46, bn, An, nn, cn, Nat.le_of_succ_le HJ.out, ?_, ?_, HD48.out.2⟩
         · rcases Nat.eq_zero_or_pos i with q | q
           · subst q; exact .inl ⟨rfl, by go_num⟩
           · obtain ⟨i', rfl⟩ : ∃ i', i = i' + 1 := ⟨i - 1, by omega⟩
             exact .inr ⟨i', rfl, by go_num⟩
         · rw [HG.out.1.2, ← HG.out.1.1, HG.out.2.2.1, HG.out.2.2.2]
           exact FVars.pick HD48.out.1 [5, 6, 7] (by decide) rfl
        case measure => simp [intOf]
      case d40 =>
       have hK := hK0.out
       clear hK0
       rw [if_pos (by kernel_rfl)]
       refine wp_go_val (.agg #[.bool bd, .slice Ad nd cd]) (load0 ((HD33.out.1.all 1 _ rfl).lies rfl) (.tmp 6) (by kernel_rfl) (by kernel_rfl)) ?_
       have HD49 := Lib.hid (And.intro (FVars.told HD33.out.1 (t := ⟨false, 0, bd, Ad, nd, cd, false, none, 0, 0, E, 0, 0⟩) (HD33.out.1.all 1 _ rfl).at_ rfl) HD33.out.2)
       refine hK _ _ (HZ.out.1.step HD49.out.2 rfl HR.out.2.2.2) (fun hH49 => ?_)
       clear hK K hH33
       change wpAnyH _ _ _ _ _ _ _ (Act.put _ (some 36) _) _
       simp only [Act.put, lyA, lyZ, lyS]
       refine wpAnyH_ready (rs := [5, 8]) (by kernel_rfl) (by simp) ?_
       refine AllReadyH.cons rfl (fun K hK0 => ?d56) (AllReadyH.cons rfl (fun K hK0 => ?d57) (AllReadyH.nil))
       case d56 =>
        have hK := hK0.out
        clear hK0
        rw [if_pos (by kernel_rfl)]
        refine wp_go_call 86 #[(.agg #[.bool bz, .slice Az nz cz]), (.agg #[.bool bn, .slice An nn cn])] (fun _ => by kernel_rfl) ((HA.out.2.1 _ _ _ (HZ.out.2.step HD49.out.2 rfl) ((HD49.out.1.all 3 _ rfl).at_)).mono ?_)
        rintro e wq50 ⟨qv50, rfl, hq50, hb50⟩
        obtain ⟨qb50, qA50, qn50, qc50, rfl, hq50⟩ := open0 hq50
        have HD50 := Lib.hid (And.intro (FVars.told (HD49.out.1.step hb50 rfl) (t := ⟨false, 0, qb50, qA50, qn50, qc50, false, none, 0, 0, Q, 0, 0⟩) hq50 rfl) (below_then HD49.out.2 hb50))
        clear hq50 hb50 HD49
        refine ⟨(.agg #[.bool qb50, .slice qA50 qn50 qc50]), rfl, hK _ _ (HZ.out.1.step HD50.out.2 rfl HR.out.2.2.2) (fun hH50 => ?_)⟩
        clear hK K hH49
        change wpAnyH _ _ _ _ _ _ _ (Act.put _ (some 35) _) _
        simp only [Act.put, lyA, lyZ, lyS]
        refine wpAnyH_ready (rs := [7, 8]) (by kernel_rfl) (by simp) ?_
        refine AllReadyH.cons rfl (fun K hK0 => ?d58) (AllReadyH.cons rfl (fun K hK0 => ?d59) (AllReadyH.nil))
        case d58 =>
         have hK := hK0.out
         clear hK0
         rw [if_pos (by kernel_rfl)]
         refine wp_go_call 97 #[(.agg #[.bool qb50, .slice qA50 qn50 qc50]), (.agg #[.bool bd, .slice Ad nd cd])] (fun _ => by kernel_rfl) ((HA.out.2.2 _ _ _ ((HD50.out.1.all 0 _ rfl).at_) ((HD50.out.1.all 3 _ rfl).at_)).mono ?_)
         rintro e wq51 ⟨qv51, rfl, hq51, hb51⟩
         obtain ⟨qb51, qA51, qn51, qc51, rfl, hq51⟩ := open0 hq51
         have HD51 := Lib.hid (And.intro (FVars.told (HD50.out.1.step hb51 rfl) (t := ⟨false, 0, qb51, qA51, qn51, qc51, false, none, 0, 0, R, 0, 0⟩) hq51 rfl) (below_then HD50.out.2 hb51))
         clear hq51 hb51 HD50
         refine ⟨(.agg #[.bool qb51, .slice qA51 qn51 qc51]), rfl, hK _ _ (HZ.out.1.step HD51.out.2 rfl HR.out.2.2.2) (fun hH51 => ?_)⟩
         clear hK K hH50
         change wpAnyH _ _ _ _ _ _ _ (Act.put _ (some 37) _) _
         simp only [Act.put, lyA, lyZ, lyS]
         refine wpAnyH_ready (rs := [8]) (by kernel_rfl) (by simp) ?_
         refine AllReadyH.cons rfl (fun K hK0 => ?d60) (AllReadyH.nil)
         have hK := hK0.out
         clear hK0
         rw [if_pos (by kernel_rfl)]
         refine wp_go_val (.agg #[.bool bn, .slice An nn cn]) (load0 ((HD51.out.1.all 5 _ rfl).lies rfl) (.tmp 5) (by kernel_rfl) (by kernel_rfl)) ?_
         have HD52 := Lib.hid (And.intro (FVars.told HD51.out.1 (t := ⟨false, 0, bn, An, nn, cn, false, none, 0, 0, N, 0, 0⟩) (HD51.out.1.all 5 _ rfl).at_ rfl) HD51.out.2)
         refine hK _ _ (HZ.out.1.step HD52.out.2 rfl HR.out.2.2.2) (fun hH52 => ?_)
         clear hK K hH51
         change wpAnyH _ _ _ _ _ _ _ (Act.put _ (some 38) _) _
         simp only [Act.put, lyA, lyZ, lyS]
         refine wpAnyH_ready (rs := [9]) (by kernel_rfl) (by simp) ?_
         refine AllReadyH.cons rfl (fun K hK0 => ?d61) (AllReadyH.nil)
         have hK := hK0.out
         clear hK0
         rw [if_pos (by kernel_rfl)]
         refine wp_go_skip (store0 ((HD52.out.1.all 6 _ rfl).lies rfl) ((HD52.out.1.all 6 _ rfl).frz rfl) qb51 qA51 qn51 qc51 (.tmp 5) (.tmp 37) (by kernel_rfl) (by kernel_rfl) (by kernel_rfl)) ?_
         have hu53 := FVars.over2 HD52.out.1 6 (s := ⟨true, rn, bn, An, nn, cn, false, none, 0, 0, N, 0, 0⟩) (t := ⟨false, 0, qb51, qA51, qn51, qc51, false, none, 0, 0, R, 0, 0⟩) rfl rfl lyK lyK ((HD52.out.1.all 1 _ rfl).at_)
         have hv53 : FVars w.heap.size (put2 (wq51) rn (.bool qb51) (.slice qA51 qn51 qc51)) [⟨false, 0, bn, An, nn, cn, false, none, 0, 0, N, 0, 0⟩, ⟨false, 0, qb51, qA51, qn51, qc51, false, none, 0, 0, R, 0, 0⟩, ⟨false, 0, qb50, qA50, qn50, qc50, false, none, 0, 0, Q, 0, 0⟩, ⟨false, 0, bd, Ad, nd, cd, false, none, 0, 0, E, 0, 0⟩, ⟨false, 0, bn, An, nn, cn, false, none, 0, 0, N, 0, 0⟩, ⟨true, rd, bd, Ad, nd, cd, false, none, 0, 0, E, 0, 0⟩, ⟨true, rn, qb51, qA51, qn51, qc51, false, none, 0, 0, R, 0, 0⟩, ⟨true, w.heap.size, false, none, 0, 0, false, none, 0, 0, 0, 1, 3⟩] := hu53
         clear hu53
         have hl53 : Below w.heap.size w (put2 (wq51) rn (.bool qb51) (.slice qA51 qn51 qc51)) := (HD52.out.2.setCell (p := ⟨rn, 0, none⟩) (HD52.out.1.up 6 _ rfl rfl) _).setCell (p := ⟨rn, 1, none⟩) (HD52.out.1.up 6 _ rfl rfl) _
         generalize (put2 (wq51) rn (.bool qb51) (.slice qA51 qn51 qc51)) = Wn53 at hv53 hl53 ⊢
         have HD53 := Lib.hid (And.intro hv53 hl53)
         clear hv53 hl53
         refine hK _ _ (HZ.out.1.step HD53.out.2 rfl HR.out.2.2.2) (fun hH53 => ?_)
         clear hK K hH52
         change wpAnyH _ _ _ _ _ _ _ (Act.put _ none _) _
         simp only [Act.put]
         refine wpAnyH_ready (rs := [10]) (by kernel_rfl) (by simp) ?_
         refine AllReadyH.cons rfl (fun K hK0 => ?d62) (AllReadyH.nil)
         have hK := hK0.out
         clear hK0
         rw [if_pos (by kernel_rfl)]
         refine wp_go_skip (store0 ((HD53.out.1.all 5 _ rfl).lies rfl) ((HD53.out.1.all 5 _ rfl).frz rfl) bn An nn cn (.tmp 6) (.tmp 38) (by kernel_rfl) (by kernel_rfl) (by kernel_rfl)) ?_
         have hu54 := FVars.over2 HD53.out.1 5 (s := ⟨true, rd, bd, Ad, nd, cd, false, none, 0, 0, E, 0, 0⟩) (t := ⟨false, 0, bn, An, nn, cn, false, none, 0, 0, N, 0, 0⟩) rfl rfl lyK lyK ((HD53.out.1.all 0 _ rfl).at_)
         have hv54 : FVars w.heap.size (put2 (Wn53) rd (.bool bn) (.slice An nn cn)) [⟨false, 0, bn, An, nn, cn, false, none, 0, 0, N, 0, 0⟩, ⟨false, 0, qb51, qA51, qn51, qc51, false, none, 0, 0, R, 0, 0⟩, ⟨false, 0, qb50, qA50, qn50, qc50, false, none, 0, 0, Q, 0, 0⟩, ⟨false, 0, bd, Ad, nd, cd, false, none, 0, 0, E, 0, 0⟩, ⟨false, 0, bn, An, nn, cn, false, none, 0, 0, N, 0, 0⟩, ⟨true, rd, bn, An, nn, cn, false, none, 0, 0, N, 0, 0⟩, ⟨true, rn, qb51, qA51, qn51, qc51, false, none, 0, 0, R, 0, 0⟩, ⟨true, w.heap.size, false, none, 0, 0, false, none, 0, 0, 0, 1, 3⟩] := hu54
         clear hu54
         have hl54 : Below w.heap.size w (put2 (Wn53) rd (.bool bn) (.slice An nn cn)) := (HD53.out.2.setCell (p := ⟨rd, 0, none⟩) (HD53.out.1.up 5 _ rfl rfl) _).setCell (p := ⟨rd, 1, none⟩) (HD53.out.1.up 5 _ rfl rfl) _
         generalize (put2 (Wn53) rd (.bool bn) (.slice An nn cn)) = Wn54 at hv54 hl54 ⊢
         have HD54 := Lib.hid (And.intro hv54 hl54)
         clear hv54 hl54
         refine hK _ _ (HZ.out.1.step HD54.out.2 rfl HR.out.2.2.2) (fun hH54 => ?_)
         clear hK K hH53
         change wpAnyH _ _ _ _ _ _ _ (Act.put _ none _) _
         simp only [Act.put]
         refine wpAnyH_done (by kernel_rfl) ?_ _
         go_wp2
         go_roundw
         case rel =>
          refine ⟨i, qb51, qA51, qn51, qc51, bn, An, nn, cn, Nat.le_of_succ_le HJ.out, ?_, ?_, HD54.out.2⟩
          · rcases Nat.eq_zero_or_pos i with q | q
            · subst q; exact .inl ⟨rfl, by go_num⟩
            · obtain ⟨i', rfl⟩ : ∃ i', i = i' + 1 := ⟨i - 1, by omega⟩
              exact .inr ⟨i', rfl, by go_num⟩
          · rw [HG.out.1.2, ← HG.out.1.1, HG.out.2.2.1, HG.out.2.2.2]
            exact FVars.pick HD54.out.1 [5, 6, 7] (by decide) rfl
         case measure => simp [intOf]
        case d59 =>
         have hK := hK0.out
         clear hK0
         rw [if_pos (by kernel_rfl)]
         refine wp_go_val (.agg #[.bool bn, .slice An nn cn]) (load0 ((HD50.out.1.all 4 _ rfl).lies rfl) (.tmp 5) (by kernel_rfl) (by kernel_rfl)) ?_
         have HD55 := Lib.hid (And.intro (FVars.told HD50.out.1 (t := ⟨false, 0, bn, An, nn, cn, false, none, 0, 0, N, 0, 0⟩) (HD50.out.1.all 4 _ rfl).at_ rfl) HD50.out.2)
         refine hK _ _ (HZ.out.1.step HD55.out.2 rfl HR.out.2.2.2) (fun hH55 => ?_)
         clear hK K hH50
         change wpAnyH _ _ _ _ _ _ _ (Act.put _ (some 38) _) _
         simp only [Act.put, lyA, lyZ, lyS]
         refine wpAnyH_ready (rs := [7]) (by kernel_rfl) (by simp) ?_
         refine AllReadyH.cons rfl (fun K hK0 => ?d63) (AllReadyH.nil)
         have hK := hK0.out
         clear hK0
         rw [if_pos (by kernel_rfl)]
         refine wp_go_call 97 #[(.agg #[.bool qb50, .slice qA50 qn50 qc50]), (.agg #[.bool bd, .slice Ad nd cd])] (fun _ => by kernel_rfl) ((HA.out.2.2 _ _ _ ((HD55.out.1.all 1 _ rfl).at_) ((HD55.out.1.all 4 _ rfl).at_)).mono ?_)
         rintro e wq56 ⟨qv56, rfl, hq56, hb56⟩
         obtain ⟨qb56, qA56, qn56, qc56, rfl, hq56⟩ := open0 hq56
         have HD56 := Lib.hid (And.intro (FVars.told (HD55.out.1.step hb56 rfl) (t := ⟨false, 0, qb56, qA56, qn56, qc56, false, none, 0, 0, R, 0, 0⟩) hq56 rfl) (below_then HD55.out.2 hb56))
         clear hq56 hb56 HD55
         refine ⟨(.agg #[.bool qb56, .slice qA56 qn56 qc56]), rfl, hK _ _ (HZ.out.1.step HD56.out.2 rfl HR.out.2.2.2) (fun hH56 => ?_)⟩
         clear hK K hH55
         change wpAnyH _ _ _ _ _ _ _ (Act.put _ (some 37) _) _
         simp only [Act.put, lyA, lyZ, lyS]
         refine wpAnyH_ready (rs := [9]) (by kernel_rfl) (by simp) ?_
         refine AllReadyH.cons rfl (fun K hK0 => ?d64) (AllReadyH.nil)
         have hK := hK0.out
         clear hK0
         rw [if_pos (by kernel_rfl)]
         refine wp_go_skip (store0 ((HD56.out.1.all 6 _ rfl).lies rfl) ((HD56.out.1.all 6 _ rfl).frz rfl) qb56 qA56 qn56 qc56 (.tmp 5) (.tmp 37) (by kernel_rfl) (by kernel_rfl) (by kernel_rfl)) ?_
         have hu57 := FVars.over2 HD56.out.1 6 (s := ⟨true, rn, bn, An, nn, cn, false, none, 0, 0, N, 0, 0⟩) (t := ⟨false, 0, qb56, qA56, qn56, qc56, false, none, 0, 0, R, 0, 0⟩) rfl rfl lyK lyK ((HD56.out.1.all 0 _ rfl).at_)
         have hv57 : FVars w.heap.size (put2 (wq56) rn (.bool qb56) (.slice qA56 qn56 qc56)) [⟨false, 0, qb56, qA56, qn56, qc56, false, none, 0, 0, R, 0, 0⟩, ⟨false, 0, bn, An, nn, cn, false, none, 0, 0, N, 0, 0⟩, ⟨false, 0, qb50, qA50, qn50, qc50, false, none, 0, 0, Q, 0, 0⟩, ⟨false, 0, bd, Ad, nd, cd, false, none, 0, 0, E, 0, 0⟩, ⟨false, 0, bn, An, nn, cn, false, none, 0, 0, N, 0, 0⟩, ⟨true, rd, bd, Ad, nd, cd, false, none, 0, 0, E, 0, 0⟩, ⟨true, rn, qb56, qA56, qn56, qc56, false, none, 0, 0, R, 0, 0⟩, ⟨true, w.heap.size, false, none, 0, 0, false, none, 0, 0, 0, 1, 3⟩] := hu57
         clear hu57
         have hl57 : Below w.heap.size w (put2 (wq56) rn (.bool qb56) (.slice qA56 qn56 qc56)) := (HD56.out.2.setCell (p := ⟨rn, 0, none⟩) (HD56.out.1.up 6 _ rfl rfl) _).setCell (p := ⟨rn, 1, none⟩) (HD56.out.1.up 6 _ rfl rfl) _
         generalize (put2 (wq56) rn (.bool qb56) (.slice qA56 qn56 qc56)) = Wn57 at hv57 hl57 ⊢
         have HD57 := Lib.hid (And.intro hv57 hl57)
         clear hv57 hl57
         refine hK _ _ (HZ.out.1.step HD57.out.2 rfl HR.out.2.2.2) (fun hH57 => ?_)
         clear hK K hH56
         change wpAnyH _ _ _ _ _ _ _ (Act.put _ none _) _
         simp only [Act.put]
         refine wpAnyH_ready (rs := [10]) (by kernel_rfl) (by simp) ?_
         refine AllReadyH.cons rfl (fun K hK0 => ?d65) (AllReadyH.nil)
         have hK := hK0.out
         clear hK0
         rw [if_pos (by kernel_rfl)]
         refine wp_go_skip (store0 ((HD57.out.1.all 5 _ rfl).lies rfl) ((HD57.out.1.all 5 _ rfl).frz rfl) bn An nn cn (.tmp 6) (.tmp 38) (by kernel_rfl) (by kernel_rfl) (by kernel_rfl)) ?_
         have hu58 := FVars.over2 HD57.out.1 5 (s := ⟨true, rd, bd, Ad, nd, cd, false, none, 0, 0, E, 0, 0⟩) (t := ⟨false, 0, bn, An, nn, cn, false, none, 0, 0, N, 0, 0⟩) rfl rfl lyK lyK ((HD57.out.1.all 1 _ rfl).at_)
         have hv58 : FVars w.heap.size (put2 (Wn57) rd (.bool bn) (.slice An nn cn)) [⟨false, 0, qb56, qA56, qn56, qc56, false, none, 0, 0, R, 0, 0⟩, ⟨false, 0, bn, An, nn, cn, false, none, 0, 0, N, 0, 0⟩, ⟨false, 0, qb50, qA50, qn50, qc50, false, none, 0, 0, Q, 0, 0⟩, ⟨false, 0, bd, Ad, nd, cd, false, none, 0, 0, E, 0, 0⟩, ⟨false, 0, bn, An, nn, cn, false, none, 0, 0, N, 0, 0⟩, ⟨true, rd, bn, An, nn, cn, false, none, 0, 0, N, 0, 0⟩, ⟨true, rn, qb56, qA56, qn56, qc56, false, none, 0, 0, R, 0, 0⟩, ⟨true, w.heap.size, false, none, 0, 0, false, none, 0, 0, 0, 1, 3⟩] := hu58
         clear hu58
         have hl58 : Below w.heap.size w (put2 (Wn57) rd (.bool bn) (.slice An nn cn)) := (HD57.out.2.setCell (p := ⟨rd, 0, none⟩) (HD57.out.1.up 5 _ rfl rfl) _).setCell (p := ⟨rd, 1, none⟩) (HD57.out.1.up 5 _ rfl rfl) _
         generalize (put2 (Wn57) rd (.bool bn) (.slice An nn cn)) = Wn58 at hv58 hl58 ⊢
         have HD58 := Lib.hid (And.intro hv58 hl58)
         clear hv58 hl58
         refine hK _ _ (HZ.out.1.step HD58.out.2 rfl HR.out.2.2.2) (fun hH58 => ?_)
         clear hK K hH57
         change wpAnyH _ _ _ _ _ _ _ (Act.put _ none _) _
         simp only [Act.put]
         refine wpAnyH_done (by kernel_rfl) ?_ _
         go_wp2
         go_roundw
         case rel =>
          refine ⟨i, qb56, qA56, qn56, qc56, bn, An, nn, cn, Nat.le_of_succ_le HJ.out, ?_, ?_, HD58.out.2⟩
          · rcases Nat.eq_zero_or_pos i with q | q
            · subst q; exact .inl ⟨rfl, by go_num⟩
            · obtain ⟨i', rfl⟩ : ∃ i', i = i' + 1 := ⟨i - 1, by omega⟩
              exact .inr ⟨i', rfl, by go_num⟩
          · rw [HG.out.1.2, ← HG.out.1.1, HG.out.2.2.1, HG.out.2.2.2]
            exact FVars.pick HD58.out.1 [5, 6, 7] (by decide) rfl
         case measure => simp [intOf]
       case d57 =>
        have hK := hK0.out
        clear hK0
        rw [if_pos (by kernel_rfl)]
        refine wp_go_val (.agg #[.bool bn, .slice An nn cn]) (load0 ((HD49.out.1.all 3 _ rfl).lies rfl) (.tmp 5) (by kernel_rfl) (by kernel_rfl)) ?_
        have HD59 := Lib.hid (And.intro (FVars.told HD49.out.1 (t := ⟨false, 0, bn, An, nn, cn, false, none, 0, 0, N, 0, 0⟩) (HD49.out.1.all 3 _ rfl).at_ rfl) HD49.out.2)
        refine hK _ _ (HZ.out.1.step HD59.out.2 rfl HR.out.2.2.2) (fun hH59 => ?_)
        clear hK K hH49
        change wpAnyH _ _ _ _ _ _ _ (Act.put _ (some 38) _) _
        simp only [Act.put, lyA, lyZ, lyS]
        refine wpAnyH_ready (rs := [5]) (by kernel_rfl) (by simp) ?_
        refine AllReadyH.cons rfl (fun K hK0 => ?d66) (AllReadyH.nil)
        have hK := hK0.out
        clear hK0
        rw [if_pos (by kernel_rfl)]
        refine wp_go_call 86 #[(.agg #[.bool bz, .slice Az nz cz]), (.agg #[.bool bn, .slice An nn cn])] (fun _ => by kernel_rfl) ((HA.out.2.1 _ _ _ (HZ.out.2.step HD59.out.2 rfl) ((HD59.out.1.all 4 _ rfl).at_)).mono ?_)
        rintro e wq60 ⟨qv60, rfl, hq60, hb60⟩
        obtain ⟨qb60, qA60, qn60, qc60, rfl, hq60⟩ := open0 hq60
        have HD60 := Lib.hid (And.intro (FVars.told (HD59.out.1.step hb60 rfl) (t := ⟨false, 0, qb60, qA60, qn60, qc60, false, none, 0, 0, Q, 0, 0⟩) hq60 rfl) (below_then HD59.out.2 hb60))
        clear hq60 hb60 HD59
        refine ⟨(.agg #[.bool qb60, .slice qA60 qn60 qc60]), rfl, hK _ _ (HZ.out.1.step HD60.out.2 rfl HR.out.2.2.2) (fun hH60 => ?_)⟩
        clear hK K hH59
        change wpAnyH _ _ _ _ _ _ _ (Act.put _ (some 35) _) _
        simp only [Act.put, lyA, lyZ, lyS]
        refine wpAnyH_ready (rs := [7]) (by kernel_rfl) (by simp) ?_
        refine AllReadyH.cons rfl (fun K hK0 => ?d67) (AllReadyH.nil)
        have hK := hK0.out
        clear hK0
        rw [if_pos (by kernel_rfl)]
        refine wp_go_call 97 #[(.agg #[.bool qb60, .slice qA60 qn60 qc60]), (.agg #[.bool bd, .slice Ad nd cd])] (fun _ => by kernel_rfl) ((HA.out.2.2 _ _ _ ((HD60.out.1.all 0 _ rfl).at_) ((HD60.out.1.all 4 _ rfl).at_)).mono ?_)
        rintro e wq61 ⟨qv61, rfl, hq61, hb61⟩
        obtain ⟨qb61, qA61, qn61, qc61, rfl, hq61⟩ := open0 hq61
        have HD61 := Lib.hid (And.intro (FVars.told (HD60.out.1.step hb61 rfl) (t := ⟨false, 0, qb61, qA61, qn61, qc61, false, none, 0, 0, R, 0, 0⟩) hq61 rfl) (below_then HD60.out.2 hb61))
        clear hq61 hb61 HD60
        refine ⟨(.agg #[.bool qb61, .slice qA61 qn61 qc61]), rfl, hK _ _ (HZ.out.1.step HD61.out.2 rfl HR.out.2.2.2) (fun hH61 => ?_)⟩
        clear hK K hH60
        change wpAnyH _ _ _ _ _ _ _ (Act.put _ (some 37) _) _
        simp only [Act.put, lyA, lyZ, lyS]
        refine wpAnyH_ready (rs := [9]) (by kernel_rfl) (by simp) ?_
        refine AllReadyH.cons rfl (fun K hK0 => ?d68) (AllReadyH.nil)
        have hK := hK0.out
        clear hK0
        rw [if_pos (by kernel_rfl)]
        refine wp_go_skip (store0 ((HD61.out.1.all 6 _ rfl).lies rfl) ((HD61.out.1.all 6 _ rfl).frz rfl) qb61 qA61 qn61 qc61 (.tmp 5) (.tmp 37) (by kernel_rfl) (by kernel_rfl) (by kernel_rfl)) ?_
        have hu62 := FVars.over2 HD61.out.1 6 (s := ⟨true, rn, bn, An, nn, cn, false, none, 0, 0, N, 0, 0⟩) (t := ⟨false, 0, qb61, qA61, qn61, qc61, false, none, 0, 0, R, 0, 0⟩) rfl rfl lyK lyK ((HD61.out.1.all 0 _ rfl).at_)
        have hv62 : FVars w.heap.size (put2 (wq61) rn (.bool qb61) (.slice qA61 qn61 qc61)) [⟨false, 0, qb61, qA61, qn61, qc61, false, none, 0, 0, R, 0, 0⟩, ⟨false, 0, qb60, qA60, qn60, qc60, false, none, 0, 0, Q, 0, 0⟩, ⟨false, 0, bn, An, nn, cn, false, none, 0, 0, N, 0, 0⟩, ⟨false, 0, bd, Ad, nd, cd, false, none, 0, 0, E, 0, 0⟩, ⟨false, 0, bn, An, nn, cn, false, none, 0, 0, N, 0, 0⟩, ⟨true, rd, bd, Ad, nd, cd, false, none, 0, 0, E, 0, 0⟩, ⟨true, rn, qb61, qA61, qn61, qc61, false, none, 0, 0, R, 0, 0⟩, ⟨true, w.heap.size, false, none, 0, 0, false, none, 0, 0, 0, 1, 3⟩] := hu62
        clear hu62
        have hl62 : Below w.heap.size w (put2 (wq61) rn (.bool qb61) (.slice qA61 qn61 qc61)) := (HD61.out.2.setCell (p := ⟨rn, 0, none⟩) (HD61.out.1.up 6 _ rfl rfl) _).setCell (p := ⟨rn, 1, none⟩) (HD61.out.1.up 6 _ rfl rfl) _
        generalize (put2 (wq61) rn (.bool qb61) (.slice qA61 qn61 qc61)) = Wn62 at hv62 hl62 ⊢
        have HD62 := Lib.hid (And.intro hv62 hl62)
        clear hv62 hl62
        refine hK _ _ (HZ.out.1.step HD62.out.2 rfl HR.out.2.2.2) (fun hH62 => ?_)
        clear hK K hH61
        change wpAnyH _ _ _ _ _ _ _ (Act.put _ none _) _
        simp only [Act.put]
        refine wpAnyH_ready (rs := [10]) (by kernel_rfl) (by simp) ?_
        refine AllReadyH.cons rfl (fun K hK0 => ?d69) (AllReadyH.nil)
        have hK := hK0.out
        clear hK0
        rw [if_pos (by kernel_rfl)]
        refine wp_go_skip (store0 ((HD62.out.1.all 5 _ rfl).lies rfl) ((HD62.out.1.all 5 _ rfl).frz rfl) bn An nn cn (.tmp 6) (.tmp 38) (by kernel_rfl) (by kernel_rfl) (by kernel_rfl)) ?_
        have hu63 := FVars.over2 HD62.out.1 5 (s := ⟨true, rd, bd, Ad, nd, cd, false, none, 0, 0, E, 0, 0⟩) (t := ⟨false, 0, bn, An, nn, cn, false, none, 0, 0, N, 0, 0⟩) rfl rfl lyK lyK ((HD62.out.1.all 2 _ rfl).at_)
        have hv63 : FVars w.heap.size (put2 (Wn62) rd (.bool bn) (.slice An nn cn)) [⟨false, 0, qb61, qA61, qn61, qc61, false, none, 0, 0, R, 0, 0⟩, ⟨false, 0, qb60, qA60, qn60, qc60, false, none, 0, 0, Q, 0, 0⟩, ⟨false, 0, bn, An, nn, cn, false, none, 0, 0, N, 0, 0⟩, ⟨false, 0, bd, Ad, nd, cd, false, none, 0, 0, E, 0, 0⟩, ⟨false, 0, bn, An, nn, cn, false, none, 0, 0, N, 0, 0⟩, ⟨true, rd, bn, An, nn, cn, false, none, 0, 0, N, 0, 0⟩, ⟨true, rn, qb61, qA61, qn61, qc61, false, none, 0, 0, R, 0, 0⟩, ⟨true, w.heap.size, false, none, 0, 0, false, none, 0, 0, 0, 1, 3⟩] := hu63
        clear hu63
        have hl63 : Below w.heap.size w (put2 (Wn62) rd (.bool bn) (.slice An nn cn)) := (HD62.out.2.setCell (p := ⟨rd, 0, none⟩) (HD62.out.1.up 5 _ rfl rfl) _).setCell (p := ⟨rd, 1, none⟩) (HD62.out.1.up 5 _ rfl rfl) _
        generalize (put2 (Wn62) rd (.bool bn) (.slice An nn cn)) = Wn63 at hv63 hl63 ⊢
        have HD63 := Lib.hid (And.intro hv63 hl63)
        clear hv63 hl63
        refine hK _ _ (HZ.out.1.step HD63.out.2 rfl HR.out.2.2.2) (fun hH63 => ?_)
        clear hK K hH62
        change wpAnyH _ _ _ _ _ _ _ (Act.put _ none _) _
        simp only [Act.put]
        refine wpAnyH_done (by kernel_rfl) ?_ _
        go_wp2
        go_roundw
        case rel =>
         refine ⟨i, qb61, qA61, qn61, qc61, bn, An, nn, cn, Nat.le_of_succ_le HJ.out, ?_, ?_, HD63.out.2⟩
         · rcases Nat.eq_zero_or_pos i with q | q
           · subst q; exact .inl ⟨rfl, by go_num⟩
           · obtain ⟨i', rfl⟩ : ∃ i', i = i' + 1 := ⟨i - 1, by omega⟩
             exact .inr ⟨i', rfl, by go_num⟩
         · rw [HG.out.1.2, ← HG.out.1.1, HG.out.2.2.1, HG.out.2.2.2]
           exact FVars.pick HD63.out.1 [5, 6, 7] (by decide) rfl
        case measure => simp [intOf]
      case d41 =>
       have hK := hK0.out
       clear hK0
       rw [if_pos (by kernel_rfl)]
       refine wp_go_val (.agg #[.bool bn, .slice An nn cn]) (load0 ((HD33.out.1.all 2 _ rfl).lies rfl) (.tmp 5) (by kernel_rfl) (by kernel_rfl)) ?_
       have HD64 := Lib.hid (And.intro (FVars.told HD33.out.1 (t := ⟨false, 0, bn, An, nn, cn, false, none, 0, 0, N, 0, 0⟩) (HD33.out.1.all 2 _ rfl).at_ rfl) HD33.out.2)
       refine hK _ _ (HZ.out.1.step HD64.out.2 rfl HR.out.2.2.2) (fun hH64 => ?_)
       clear hK K hH33
       change wpAnyH _ _ _ _ _ _ _ (Act.put _ (some 38) _) _
       simp only [Act.put, lyA, lyZ, lyS]
       refine wpAnyH_ready (rs := [5, 6]) (by kernel_rfl) (by simp) ?_
       refine AllReadyH.cons rfl (fun K hK0 => ?d70) (AllReadyH.cons rfl (fun K hK0 => ?d71) (AllReadyH.nil))
       case d70 =>
        have hK := hK0.out
        clear hK0
        rw [if_pos (by kernel_rfl)]
        refine wp_go_call 86 #[(.agg #[.bool bz, .slice Az nz cz]), (.agg #[.bool bn, .slice An nn cn])] (fun _ => by kernel_rfl) ((HA.out.2.1 _ _ _ (HZ.out.2.step HD64.out.2 rfl) ((HD64.out.1.all 3 _ rfl).at_)).mono ?_)
        rintro e wq65 ⟨qv65, rfl, hq65, hb65⟩
        obtain ⟨qb65, qA65, qn65, qc65, rfl, hq65⟩ := open0 hq65
        have HD65 := Lib.hid (And.intro (FVars.told (HD64.out.1.step hb65 rfl) (t := ⟨false, 0, qb65, qA65, qn65, qc65, false, none, 0, 0, Q, 0, 0⟩) hq65 rfl) (below_then HD64.out.2 hb65))
        clear hq65 hb65 HD64
        refine ⟨(.agg #[.bool qb65, .slice qA65 qn65 qc65]), rfl, hK _ _ (HZ.out.1.step HD65.out.2 rfl HR.out.2.2.2) (fun hH65 => ?_)⟩
        clear hK K hH64
        change wpAnyH _ _ _ _ _ _ _ (Act.put _ (some 35) _) _
        simp only [Act.put, lyA, lyZ, lyS]
        refine wpAnyH_ready (rs := [6]) (by kernel_rfl) (by simp) ?_
        refine AllReadyH.cons rfl (fun K hK0 => ?d72) (AllReadyH.nil)
        have hK := hK0.out
        clear hK0
        rw [if_pos (by kernel_rfl)]
        refine wp_go_val (.agg #[.bool bd, .slice Ad nd cd]) (load0 ((HD65.out.1.all 3 _ rfl).lies rfl) (.tmp 6) (by kernel_rfl) (by kernel_rfl)) ?_
        have HD66 := Lib.hid (And.intro (FVars.told HD65.out.1 (t := ⟨false, 0, bd, Ad, nd, cd, false, none, 0, 0, E, 0, 0⟩) (HD65.out.1.all 3 _ rfl).at_ rfl) HD65.out.2)
        refine hK _ _ (HZ.out.1.step HD66.out.2 rfl HR.out.2.2.2) (fun hH66 => ?_)
        clear hK K hH65
        change wpAnyH _ _ _ _ _ _ _ (Act.put _ (some 36) _) _
        simp only [Act.put, lyA, lyZ, lyS]
        refine wpAnyH_ready (rs := [7]) (by kernel_rfl) (by simp) ?_
        refine AllReadyH.cons rfl (fun K hK0 => ?d73) (AllReadyH.nil)
        have hK := hK0.out
        clear hK0
        rw [if_pos (by kernel_rfl)]
        refine wp_go_call 97 #[(.agg #[.bool qb65, .slice qA65 qn65 qc65]), (.agg #[.bool bd, .slice Ad nd cd])] (fun _ => by kernel_rfl) ((HA.out.2.2 _ _ _ ((HD66.out.1.all 1 _ rfl).at_) ((HD66.out.1.all 4 _ rfl).at_)).mono ?_)
        rintro e wq67 ⟨qv67, rfl, hq67, hb67⟩
        obtain ⟨qb67, qA67, qn67, qc67, rfl, hq67⟩ := open0 hq67
        have HD67 := Lib.hid (And.intro (FVars.told (HD66.out.1.step hb67 rfl) (t := ⟨false, 0, qb67, qA67, qn67, qc67, false, none, 0, 0, R, 0, 0⟩) hq67 rfl) (below_then HD66.out.2 hb67))
        clear hq67 hb67 HD66
        refine ⟨(.agg #[.bool qb67, .slice qA67 qn67 qc67]), rfl, hK _ _ (HZ.out.1.step HD67.out.2 rfl HR.out.2.2.2) (fun hH67 => ?_)⟩
        clear hK K hH66
        change wpAnyH _ _ _ _ _ _ _ (Act.put _ (some 37) _) _
        simp only [Act.put, lyA, lyZ, lyS]
        refine wpAnyH_ready (rs := [9]) (by kernel_rfl) (by simp) ?_
        refine AllReadyH.cons rfl (fun K hK0 => ?d74) (AllReadyH.nil)
        have hK := hK0.out
        clear hK0
        rw [if_pos (by kernel_rfl)]
        refine wp_go_skip (store0 ((HD67.out.1.all 6 _ rfl).lies rfl) ((HD67.out.1.all 6 _ rfl).frz rfl) qb67 qA67 qn67 qc67 (.tmp 5) (.tmp 37) (by kernel_rfl) (by kernel_rfl) (by kernel_rfl)) ?_
        have hu68 := FVars.over2 HD67.out.1 6 (s := ⟨true, rn, bn, An, nn, cn, false, none, 0, 0, N, 0, 0⟩) (t := ⟨false, 0, qb67, qA67, qn67, qc67, false, none, 0, 0, R, 0, 0⟩) rfl rfl lyK lyK ((HD67.out.1.all 0 _ rfl).at_)
        have hv68 : FVars w.heap.size (put2 (wq67) rn (.bool qb67) (.slice qA67 qn67 qc67)) [⟨false, 0, qb67, qA67, qn67, qc67, false, none, 0, 0, R, 0, 0⟩, ⟨false, 0, bd, Ad, nd, cd, false, none, 0, 0, E, 0, 0⟩, ⟨false, 0, qb65, qA65, qn65, qc65, false, none, 0, 0, Q, 0, 0⟩, ⟨false, 0, bn, An, nn, cn, false, none, 0, 0, N, 0, 0⟩, ⟨false, 0, bn, An, nn, cn, false, none, 0, 0, N, 0, 0⟩, ⟨true, rd, bd, Ad, nd, cd, false, none, 0, 0, E, 0, 0⟩, ⟨true, rn, qb67, qA67, qn67, qc67, false, none, 0, 0, R, 0, 0⟩, ⟨true, w.heap.size, false, none, 0, 0, false, none, 0, 0, 0, 1, 3⟩] := hu68
        clear hu68
        have hl68 : Below w.heap.size w (put2 (wq67) rn (.bool qb67) (.slice qA67 qn67 qc67)) := (HD67.out.2.setCell (p := ⟨rn, 0, none⟩) (HD67.out.1.up 6 _ rfl rfl) _).setCell (p := ⟨rn, 1, none⟩) (HD67.out.1.up 6 _ rfl rfl) _
        generalize (put2 (wq67) rn (.bool qb67) (.slice qA67 qn67 qc67)) = Wn68 at hv68 hl68 ⊢
        have HD68 := Lib.hid (And.intro hv68 hl68)
        clear hv68 hl68
        refine hK _ _ (HZ.out.1.step HD68.out.2 rfl HR.out.2.2.2) (fun hH68 => ?_)
        clear hK K hH67
        change wpAnyH _ _ _ _ _ _ _ (Act.put _ none _) _
        simp only [Act.put]
        refine wpAnyH_ready (rs := [10]) (by kernel_rfl) (by simp) ?_
        refine AllReadyH.cons rfl (fun K hK0 => ?d75) (AllReadyH.nil)
        have hK := hK0.out
        clear hK0
        rw [if_pos (by kernel_rfl)]
        refine wp_go_skip (store0 ((HD68.out.1.all 5 _ rfl).lies rfl) ((HD68.out.1.all 5 _ rfl).frz rfl) bn An nn cn (.tmp 6) (.tmp 38) (by kernel_rfl) (by kernel_rfl) (by kernel_rfl)) ?_
        have hu69 := FVars.over2 HD68.out.1 5 (s := ⟨true, rd, bd, Ad, nd, cd, false, none, 0, 0, E, 0, 0⟩) (t := ⟨false, 0, bn, An, nn, cn, false, none, 0, 0, N, 0, 0⟩) rfl rfl lyK lyK ((HD68.out.1.all 3 _ rfl).at_)
        have hv69 : FVars w.heap.size (put2 (Wn68) rd (.bool bn) (.slice An nn cn)) [⟨false, 0, qb67, qA67, qn67, qc67, false, none, 0, 0, R, 0, 0⟩, ⟨false, 0, bd, Ad, nd, cd, false, none, 0, 0, E, 0, 0⟩, ⟨false, 0, qb65, qA65, qn65, qc65, false, none, 0, 0, Q, 0, 0⟩, ⟨false, 0, bn, An, nn, cn, false, none, 0, 0, N, 0, 0⟩, ⟨false, 0, bn, An, nn, cn, false, none, 0, 0, N, 0, 0⟩, ⟨true, rd, bn, An, nn, cn, false, none, 0, 0, N, 0, 0⟩, ⟨true, rn, qb67, qA67, qn67, qc67, false, none, 0, 0, R, 0, 0⟩, ⟨true, w.heap.size, false, none, 0, 0, false, none, 0, 0, 0, 1, 3⟩] := hu69
        clear hu69
        have hl69 : Below w.heap.size w (put2 (Wn68) rd (.bool bn) (.slice An nn cn)) := (HD68.out.2.setCell (p := ⟨rd, 0, none⟩) (HD68.out.1.up 5 _ rfl rfl) _).setCell (p := ⟨rd, 1, none⟩) (HD68.out.1.up 5 _ rfl rfl) _
        generalize (put2 (Wn68) rd (.bool bn) (.slice An nn cn)) = Wn69 at hv69 hl69 ⊢
        have HD69 := Lib.hid (And.intro hv69 hl69)
        clear hv69 hl69
        refine hK _ _ (HZ.out.1.step HD69.out.2 rfl HR.out.2.2.2) (fun hH69 => ?_)
        clear hK K hH68
        change wpAnyH _ _ _ _ _ _ _ (Act.put _ none _) _
        simp only [Act.put]
        refine wpAnyH_done (by kernel_rfl) ?_ _
        go_wp2
        go_roundw
        case rel =>
         refine ⟨i, qb67, qA67, qn67, qc67, bn, An, nn, cn, Nat.le_of_succ_le HJ.out, ?_, ?_, HD69.out.2⟩
         · rcases Nat.eq_zero_or_pos i with q | q
           · subst q; exact .inl ⟨rfl, by go_num⟩
           · obtain ⟨i', rfl⟩ : ∃ i', i = i' + 1 := ⟨i - 1, by omega⟩
             exact .inr ⟨i', rfl, by go_num⟩
         · rw [HG.out.1.2, ← HG.out.1.1, HG.out.2.2.1, HG.out.2.2.2]
           exact FVars.pick HD69.out.1 [5, 6, 7] (by decide) rfl
        case measure => simp [intOf]
       case d71 =>
        have hK := hK0.out
        clear hK0
        rw [if_pos (by kernel_rfl)]
        refine wp_go_val (.agg #[.bool bd, .slice Ad nd cd]) (load0 ((HD64.out.1.all 2 _ rfl).lies rfl) (.tmp 6) (by kernel_rfl) (by kernel_rfl)) ?_
        have HD70 := Lib.hid (And.intro (FVars.told HD64.out.1 (t := ⟨false, 0, bd, Ad, nd, cd, false, none, 0, 0, E, 0, 0⟩) (HD64.out.1.all 2 _ rfl).at_ rfl) HD64.out.2)
        refine hK _ _ (HZ.out.1.step HD70.out.2 rfl HR.out.2.2.2) (fun hH70 => ?_)
        clear hK K hH64
        change wpAnyH _ _ _ _ _ _ _ (Act.put _ (some 36) _) _
        simp only [Act.put, lyA, lyZ, lyS]
        refine wpAnyH_ready (rs := [5]) (by kernel_rfl) (by simp) ?_
        refine AllReadyH.cons rfl (fun K hK0 => ?d76) (AllReadyH.nil)
        have hK := hK0.out
        clear hK0
        rw [if_pos (by kernel_rfl)]
        refine wp_go_call 86 #[(.agg #[.bool bz, .slice Az nz cz]), (.agg #[.bool bn, .slice An nn cn])] (fun _ => by kernel_rfl) ((HA.out.2.1 _ _ _ (HZ.out.2.step HD70.out.2 rfl) ((HD70.out.1.all 4 _ rfl).at_)).mono ?_)
        rintro e wq71 ⟨qv71, rfl, hq71, hb71⟩
        obtain ⟨qb71, qA71, qn71, qc71, rfl, hq71⟩ := open0 hq71
        have HD71 := Lib.hid (And.intro (FVars.told (HD70.out.1.step hb71 rfl) (t := ⟨false, 0, qb71, qA71, qn71, qc71, false, none, 0, 0, Q, 0, 0⟩) hq71 rfl) (below_then HD70.out.2 hb71))
        clear hq71 hb71 HD70
        refine ⟨(.agg #[.bool qb71, .slice qA71 qn71 qc71]), rfl, hK _ _ (HZ.out.1.step HD71.out.2 rfl HR.out.2.2.2) (fun hH71 => ?_)⟩
        clear hK K hH70
        change wpAnyH _ _ _ _ _ _ _ (Act.put _ (some 35) _) _
        simp only [Act.put, lyA, lyZ, lyS]
        refine wpAnyH_ready (rs := [7]) (by kernel_rfl) (by simp) ?_
        refine AllReadyH.cons rfl (fun K hK0 => ?d77) (AllReadyH.nil)
        have hK := hK0.out
        clear hK0
        rw [if_pos (by kernel_rfl)]
        refine wp_go_call 97 #[(.agg #[.bool qb71, .slice qA71 qn71 qc71]), (.agg #[.bool bd, .slice Ad nd cd])] (fun _ => by kernel_rfl) ((HA.out.2.2 _ _ _ ((HD71.out.1.all 0 _ rfl).at_) ((HD71.out.1.all 4 _ rfl).at_)).mono ?_)
        rintro e wq72 ⟨qv72, rfl, hq72, hb72⟩
        obtain ⟨qb72, qA72, qn72, qc72, rfl, hq72⟩ := open0 hq72
        have HD72 := Lib.hid (And.intro (FVars.told (HD71.out.1.step hb72 rfl) (t := ⟨false, 0, qb72, qA72, qn72, qc72, false, none, 0, 0, R, 0, 0⟩) hq72 rfl) (below_then HD71.out.2 hb72))
        clear hq72 hb72 HD71
        refine ⟨(.agg #[.bool qb72, .slice qA72 qn72 qc72]), rfl, hK _ _ (HZ.out.1.step HD72.out.2 rfl HR.out.2.2.2) (fun hH72 => ?_)⟩
        clear hK K hH71
        change wpAnyH _ _ _ _ _ _ _ (Act.put _ (some 37) _) _
        simp only [Act.put, lyA, lyZ, lyS]
        refine wpAnyH_ready (rs := [9]) (by kernel_rfl) (by simp) ?_
        refine AllReadyH.cons rfl (fun K hK0 => ?d78) (AllReadyH.nil)
        have hK := hK0.out
        clear hK0
        rw [if_pos (by kernel_rfl)]
        refine wp_go_skip (store0 ((HD72.out.1.all 6 _ rfl).lies rfl) ((HD72.out.1.all 6 _ rfl).frz rfl) qb72 qA72 qn72 qc72 (.tmp 5) (.tmp 37) (by kernel_rfl) (by kernel_rfl) (by kernel_rfl)) ?_
        have hu73 := FVars.over2 HD72.out.1 6 (s := ⟨true, rn, bn, An, nn, cn, false, none, 0, 0, N, 0, 0⟩) (t := ⟨false, 0, qb72, qA72, qn72, qc72, false, none, 0, 0, R, 0, 0⟩) rfl rfl lyK lyK ((HD72.out.1.all 0 _ rfl).at_)
        have hv73 : FVars w.heap.size (put2 (wq72) rn (.bool qb72) (.slice qA72 qn72 qc72)) [⟨false, 0, qb72, qA72, qn72, qc72, false, none, 0, 0, R, 0, 0⟩, ⟨false, 0, qb71, qA71, qn71, qc71, false, none, 0, 0, Q, 0, 0⟩, ⟨false, 0, bd, Ad, nd, cd, false, none, 0, 0, E, 0, 0⟩, ⟨false, 0, bn, An, nn, cn, false, none, 0, 0, N, 0, 0⟩, ⟨false, 0, bn, An, nn, cn, false, none, 0, 0, N, 0, 0⟩, ⟨true, rd, bd, Ad, nd, cd, false, none, 0, 0, E, 0, 0⟩, ⟨true, rn, qb72, qA72, qn72, qc72, false, none, 0, 0, R, 0, 0⟩, ⟨true, w.heap.size, false, none, 0, 0, false, none, 0, 0, 0, 1, 3⟩] := hu73
        clear hu73
        have hl73 : Below w.heap.size w (put2 (wq72) rn (.bool qb72) (.slice qA72 qn72 qc72)) := (HD72.out.2.setCell (p := ⟨rn, 0, none⟩) (HD72.out.1.up 6 _ rfl rfl) _).setCell (p := ⟨rn, 1, none⟩) (HD72.out.1.up 6 _ rfl rfl) _
        generalize (put2 (wq72) rn (.bool qb72) (.slice qA72 qn72 qc72)) = Wn73 at hv73 hl73 ⊢
        have HD73 := Lib.hid (And.intro hv73 hl73)
        clear hv73 hl73
        refine hK _ _ (HZ.out.1.step HD73.out.2 rfl HR.out.2.2.2) (fun hH73 => ?_)
        clear hK K hH72
        change wpAnyH _ _ _ _ _ _ _ (Act.put _ none _) _
        simp only [Act.put]
        refine wpAnyH_ready (rs := [10]) (by kernel_rfl) (by simp) ?_
        refine AllReadyH.cons rfl (fun K hK0 => ?d79) (AllReadyH.nil)
        have hK := hK0.out
        clear hK0
        rw [if_pos (by kernel_rfl)]
        refine wp_go_skip (store0 ((HD73.out.1.all 5 _ rfl).lies rfl) ((HD73.out.1.all 5 _ rfl).frz rfl) bn An nn cn (.tmp 6) (.tmp 38) (by kernel_rfl) (by kernel_rfl) (by kernel_rfl)) ?_
        have hu74 := FVars.over2 HD73.out.1 5 (s := ⟨true, rd, bd, Ad, nd, cd, false, none, 0, 0, E, 0, 0⟩) (t := ⟨false, 0, bn, An, nn, cn, false, none, 0, 0, N, 0, 0⟩) rfl rfl lyK lyK ((HD73.out.1.all 3 _ rfl).at_)
        have hv74 : FVars w.heap.size (put2 (Wn73) rd (.bool bn) (.slice An nn cn)) [⟨false, 0, qb72, qA72, qn72, qc72, false, none, 0, 0, R, 0, 0⟩, ⟨false, 0, qb71, qA71, qn71, qc71, false, none, 0, 0, Q, 0, 0⟩, ⟨false, 0, bd, Ad, nd, cd, false, none, 0, 0, E, 0, 0⟩, ⟨false, 0, bn, An, nn, cn, false, none, 0, 0, N, 0, 0⟩, ⟨false, 0, bn, An, nn, cn, false, none, 0, 0, N, 0, 0⟩, ⟨true, rd, bn, An, nn, cn, false, none, 0, 0, N, 0, 0⟩, ⟨true, rn, qb72, qA72, qn72, qc72, false, none, 0, 0, R, 0, 0⟩, ⟨true, w.heap.size, false, none, 0, 0, false, none, 0, 0, 0, 1, 3⟩] := hu74
        clear hu74
        have hl74 : Below w.heap.size w (put2 (Wn73) rd (.bool bn) (.slice An nn cn)) := (HD73.out.2.setCell (p := ⟨rd, 0, none⟩) (HD73.out.1.up 5 _ rfl rfl) _).setCell (p := ⟨rd, 1, none⟩) (HD73.out.1.up 5 _ rfl rfl) _
        generalize (put2 (Wn73) rd (.bool bn) (.slice An nn cn)) = Wn74 at hv74 hl74 ⊢
        have HD74 := Lib.hid (And.intro hv74 hl74)
        clear hv74 hl74
        refine hK _ _ (HZ.out.1.step HD74.out.2 rfl HR.out.2.2.2) (fun hH74 => ?_)
        clear hK K hH73
        change wpAnyH _ _ _ _ _ _ _ (Act.put _ none _) _
        simp only [Act.put]
        refine wpAnyH_done (by kernel_rfl) ?_ _
        go_wp2
        go_roundw
        case rel =>
         refine ⟨i, qb72, qA72, qn72, qc72, bn, An, nn, cn, Nat.le_of_succ_le HJ.out, ?_, ?_, HD74.out.2⟩
         · rcases Nat.eq_zero_or_pos i with q | q
           · subst q; exact .inl ⟨rfl, by go_num⟩
           · obtain ⟨i', rfl⟩ : ∃ i', i = i' + 1 := ⟨i - 1, by omega⟩
             exact .inr ⟨i', rfl, by go_num⟩
         · rw [HG.out.1.2, ← HG.out.1.1, HG.out.2.2.1, HG.out.2.2.2]
           exact FVars.pick HD74.out.1 [5, 6, 7] (by decide) rfl
        case measure => simp [intOf]
     case d37 =>
      have hK := hK0.out
      clear hK0
      rw [if_pos (by kernel_rfl)]
      refine wp_go_val (.agg #[.bool bd, .slice Ad nd cd]) (load0 ((HD32.out.1.all 0 _ rfl).lies rfl) (.tmp 6) (by kernel_rfl) (by kernel_rfl)) ?_
      have HD75 := Lib.hid (And.intro (FVars.told HD32.out.1 (t := ⟨false, 0, bd, Ad, nd, cd, false, none, 0, 0, E, 0, 0⟩) (HD32.out.1.all 0 _ rfl).at_ rfl) HD32.out.2)
      refine hK _ _ (HZ.out.1.step HD75.out.2 rfl HR.out.2.2.2) (fun hH75 => ?_)
      clear hK K hH0
      change wpAnyH _ _ _ _ _ _ _ (Act.put _ (some 36) _) _
      simp only [Act.put, lyA, lyZ, lyS]
      refine wpAnyH_ready (rs := [4, 8]) (by kernel_rfl) (by simp) ?_
      refine AllReadyH.cons rfl (fun K hK0 => ?d80) (AllReadyH.cons rfl (fun K hK0 => ?d81) (AllReadyH.nil))
      case d80 =>
       have hK := hK0.out
       clear hK0
       rw [if_pos (by kernel_rfl)]
       refine wp_go_val (.agg #[.bool bn, .slice An nn cn]) (load0 ((HD75.out.1.all 2 _ rfl).lies rfl) (.tmp 5) (by kernel_rfl) (by kernel_rfl)) ?_
       have HD76 := Lib.hid (And.intro (FVars.told HD75.out.1 (t := ⟨false, 0, bn, An, nn, cn, false, none, 0, 0, N, 0, 0⟩) (HD75.out.1.all 2 _ rfl).at_ rfl) HD75.out.2)
       refine hK _ _ (HZ.out.1.step HD76.out.2 rfl HR.out.2.2.2) (fun hH76 => ?_)
       clear hK K hH75
       change wpAnyH _ _ _ _ _ _ _ (Act.put _ (some 34) _) _
       simp only [Act.put, lyA, lyZ, lyS]
       refine wpAnyH_ready (rs := [5, 8]) (by kernel_rfl) (by simp) ?_
       refine AllReadyH.cons rfl (fun K hK0 => ?d82) (AllReadyH.cons rfl (fun K hK0 => ?d83) (AllReadyH.nil))
       case d82 =>
        have hK := hK0.out
        clear hK0
        rw [if_pos (by kernel_rfl)]
        refine wp_go_call 86 #[(.agg #[.bool bz, .slice Az nz cz]), (.agg #[.bool bn, .slice An nn cn])] (fun _ => by kernel_rfl) ((HA.out.2.1 _ _ _ (HZ.out.2.step HD76.out.2 rfl) ((HD76.out.1.all 3 _ rfl).at_)).mono ?_)
        rintro e wq77 ⟨qv77, rfl, hq77, hb77⟩
        obtain ⟨qb77, qA77, qn77, qc77, rfl, hq77⟩ := open0 hq77
        have HD77 := Lib.hid (And.intro (FVars.told (HD76.out.1.step hb77 rfl) (t := ⟨false, 0, qb77, qA77, qn77, qc77, false, none, 0, 0, Q, 0, 0⟩) hq77 rfl) (below_then HD76.out.2 hb77))
        clear hq77 hb77 HD76
        refine ⟨(.agg #[.bool qb77, .slice qA77 qn77 qc77]), rfl, hK _ _ (HZ.out.1.step HD77.out.2 rfl HR.out.2.2.2) (fun hH77 => ?_)⟩
        clear hK K hH76
        change wpAnyH _ _ _ _ _ _ _ (Act.put _ (some 35) _) _
        simp only [Act.put, lyA, lyZ, lyS]
        refine wpAnyH_ready (rs := [7, 8]) (by kernel_rfl) (by simp) ?_
        refine AllReadyH.cons rfl (fun K hK0 => ?d84) (AllReadyH.cons rfl (fun K hK0 => ?d85) (AllReadyH.nil))
        case d84 =>
         have hK := hK0.out
         clear hK0
         rw [if_pos (by kernel_rfl)]
         refine wp_go_call 97 #[(.agg #[.bool qb77, .slice qA77 qn77 qc77]), (.agg #[.bool bd, .slice Ad nd cd])] (fun _ => by kernel_rfl) ((HA.out.2.2 _ _ _ ((HD77.out.1.all 0 _ rfl).at_) ((HD77.out.1.all 3 _ rfl).at_)).mono ?_)
         rintro e wq78 ⟨qv78, rfl, hq78, hb78⟩
         obtain ⟨qb78, qA78, qn78, qc78, rfl, hq78⟩ := open0 hq78
         have HD78 := Lib.hid (And.intro (FVars.told (HD77.out.1.step hb78 rfl) (t := ⟨false, 0, qb78, qA78, qn78, qc78, false, none, 0, 0, R, 0, 0⟩) hq78 rfl) (below_then HD77.out.2 hb78))
         clear hq78 hb78 HD77
         refine ⟨(.agg #[.bool qb78, .slice qA78 qn78 qc78]), rfl, hK _ _ (HZ.out.1.step HD78.out.2 rfl HR.out.2.2.2) (fun hH78 => ?_)⟩
         clear hK K hH77
         change wpAnyH _ _ _ _ _ _ _ (Act.put _ (some 37) _) _
         simp only [Act.put, lyA, lyZ, lyS]
         refine wpAnyH_ready (rs := [8]) (by kernel_rfl) (by simp) ?_
         refine AllReadyH.cons rfl (fun K hK0 => ?d86) (AllReadyH.nil)
         have hK := hK0.out
         clear hK0
         rw [if_pos (by kernel_rfl)]
         refine wp_go_val (.agg #[.bool bn, .slice An nn cn]) (load0 ((HD78.out.1.all 5 _ rfl).lies rfl) (.tmp 5) (by kernel_rfl) (by kernel_rfl)) ?_
         have HD79 := Lib.hid (And.intro (FVars.told HD78.out.1 (t := ⟨false, 0, bn, An, nn, cn, false, none, 0, 0, N, 0, 0⟩) (HD78.out.1.all 5 _ rfl).at_ rfl) HD78.out.2)
         refine hK _ _ (HZ.out.1.step HD79.out.2 rfl HR.out.2.2.2) (fun hH79 => ?_)
         clear hK K hH78
         change wpAnyH _ _ _ _ _ _ _ (Act.put _ (some 38) _) _
         simp only [Act.put, lyA, lyZ, lyS]
         refine wpAnyH_ready (rs := [9]) (by kernel_rfl) (by simp) ?_
         refine AllReadyH.cons rfl (fun K hK0 => ?d87) (AllReadyH.nil)
         have hK := hK0.out
         clear hK0
         rw [if_pos (by kernel_rfl)]
         refine wp_go_skip (store0 ((HD79.out.1.all 6 _ rfl).lies rfl) ((HD79.out.1.all 6 _ rfl).frz rfl) qb78 qA78 qn78 qc78 (.tmp 5) (.tmp 37) (by kernel_rfl) (by kernel_rfl) (by kernel_rfl)) ?_
         have hu80 := FVars.over2 HD79.out.1 6 (s := ⟨true, rn, bn, An, nn, cn, false, none, 0, 0, N, 0, 0⟩) (t := ⟨false, 0, qb78, qA78, qn78, qc78, false, none, 0, 0, R, 0, 0⟩) rfl rfl lyK lyK ((HD79.out.1.all 1 _ rfl).at_)
         have hv80 : FVars w.heap.size (put2 (wq78) rn (.bool qb78) (.slice qA78 qn78 qc78)) [⟨false, 0, bn, An, nn, cn, false, none, 0, 0, N, 0, 0⟩, ⟨false, 0, qb78, qA78, qn78, qc78, false, none, 0, 0, R, 0, 0⟩, ⟨false, 0, qb77, qA77, qn77, qc77, false, none, 0, 0, Q, 0, 0⟩, ⟨false, 0, bn, An, nn, cn, false, none, 0, 0, N, 0, 0⟩, ⟨false, 0, bd, Ad, nd, cd, false, none, 0, 0, E, 0, 0⟩, ⟨true, rd, bd, Ad, nd, cd, false, none, 0, 0, E, 0, 0⟩, ⟨true, rn, qb78, qA78, qn78, qc78, false, none, 0, 0, R, 0, 0⟩, ⟨true, w.heap.size, false, none, 0, 0, false, none, 0, 0, 0, 1, 3⟩] := hu80
         clear hu80
         have hl80 : Below w.heap.size w (put2 (wq78) rn (.bool qb78) (.slice qA78 qn78 qc78)) := (HD79.out.2.setCell (p := ⟨rn, 0, none⟩) (HD79.out.1.up 6 _ rfl rfl) _).setCell (p := ⟨rn, 1, none⟩) (HD79.out.1.up 6 _ rfl rfl) _
         generalize (put2 (wq78) rn (.bool qb78) (.slice qA78 qn78 qc78)) = Wn80 at hv80 hl80 ⊢
         have HD80 := Lib.hid (And.intro hv80 hl80)
         clear hv80 hl80
         refine hK _ _ (HZ.out.1.step HD80.out.2 rfl HR.out.2.2.2) (fun hH80 => ?_)
         clear hK K hH79
         change wpAnyH _ _ _ _ _ _ _ (Act.put _ none _) _
         simp only [Act.put]
         refine wpAnyH_ready (rs := [10]) (by kernel_rfl) (by simp) ?_
         refine AllReadyH.cons rfl (fun K hK0 => ?d88) (AllReadyH.nil)
         have hK := hK0.out
         clear hK0
         rw [if_pos (by kernel_rfl)]
         refine wp_go_skip (store0 ((HD80.out.1.all 5 _ rfl).lies rfl) ((HD80.out.1.all 5 _ rfl).frz rfl) bn An nn cn (.tmp 6) (.tmp 38) (by kernel_rfl) (by kernel_rfl) (by kernel_rfl)) ?_
         have hu81 := FVars.over2 HD80.out.1 5 (s := ⟨true, rd, bd, Ad, nd, cd, false, none, 0, 0, E, 0, 0⟩) (t := ⟨false, 0, bn, An, nn, cn, false, none, 0, 0, N, 0, 0⟩) rfl rfl lyK lyK ((HD80.out.1.all 0 _ rfl).at_)
         have hv81 : FVars w.heap.size (put2 (Wn80) rd (.bool bn) (.slice An nn cn)) [⟨false, 0, bn, An, nn, cn, false, none, 0, 0, N, 0, 0⟩, ⟨false, 0, qb78, qA78, qn78, qc78, false, none, 0, 0, R, 0, 0⟩, ⟨false, 0, qb77, qA77, qn77, qc77, false, none, 0, 0, Q, 0, 0⟩, ⟨false, 0, bn, An, nn, cn, false, none, 0, 0, N, 0, 0⟩, ⟨false, 0, bd, Ad, nd, cd, false, none, 0, 0, E, 0, 0⟩, ⟨true, rd, bn, An, nn, cn, false, none, 0, 0, N, 0, 0⟩, ⟨true, rn, qb78, qA78, qn78, qc78, false, none, 0, 0, R, 0, 0⟩, ⟨true, w.heap.size, false, none, 0, 0, false, none, 0, 0, 0, 1, 3⟩] := hu81
         clear hu81
         have hl81 : Below w.heap.size w (put2 (Wn80) rd (.bool bn) (.slice An nn cn)) := (HD80.out.2.setCell (p := ⟨rd, 0, none⟩) (HD80.out.1.up 5 _ rfl rfl) _).setCell (p := ⟨rd, 1, none⟩) (HD80.out.1.up 5 _ rfl rfl) _
         generalize (put2 (Wn80) rd (.bool bn) (.slice An nn cn)) = Wn81 at hv81 hl81 ⊢
         have HD81 := Lib.hid (And.intro hv81 hl81)
         clear hv81 hl81
         refine hK _ _ (HZ.out.1.step HD81.out.2 rfl HR.out.2.2.2) (fun hH81 => ?_)
         clear hK K hH80
         change wpAnyH _ _ _ _ _ _ _ (Act.put _ none _) _
         simp only [Act.put]
         refine wpAnyH_done (by kernel_rfl) ?_ _
         go_wp2
         go_roundw
         case rel =>
          refine ⟨i, qb78, qA78, qn78, qc78, bn, An, nn, cn, Nat.le_of_succ_le HJ.out, ?_, ?_, HD81.out.2⟩
          · rcases Nat.eq_zero_or_pos i with q | q
            · subst q; exact .inl ⟨rfl, by go_num⟩
            · obtain ⟨i', rfl⟩ : ∃ i', i = i' + 1 := ⟨i - 1, by omega⟩
              exact .inr ⟨i', rfl, by go_num⟩
          · rw [HG.out.1.2, ← HG.out.1.1, HG.out.2.2.1, HG.out.2.2.2]
            exact FVars.pick HD81.out.1 [5, 6, 7] (by decide) rfl
         case measure => simp [intOf]
        case d85 =>
         have hK := hK0.out
         clear hK0
         rw [if_pos (by kernel_rfl)]
         refine wp_go_val (.agg #[.bool bn, .slice An nn cn]) (load0 ((HD77.out.1.all 4 _ rfl).lies rfl) (.tmp 5) (by kernel_rfl) (by kernel_rfl)) ?_
         have HD82 := Lib.hid (And.intro (FVars.told HD77.out.1 (t := ⟨false, 0, bn, An, nn, cn, false, none, 0, 0, N, 0, 0⟩) (HD77.out.1.all 4 _ rfl).at_ rfl) HD77.out.2)
         refine hK _ _ (HZ.out.1.step HD82.out.2 rfl HR.out.2.2.2) (fun hH82 => ?_)
         clear hK K hH77
         change wpAnyH _ _ _ _ _ _ _ (Act.put _ (some 38) _) _
         simp only [Act.put, lyA, lyZ, lyS]
         refine wpAnyH_ready (rs := [7]) (by kernel_rfl) (by simp) ?_
         refine AllReadyH.cons rfl (fun K hK0 => ?d89) (AllReadyH.nil)
         have hK := hK0.out
         clear hK0
         rw [if_pos (by kernel_rfl)]
         refine wp_go_call 97 #[(.agg #[.bool qb77, .slice qA77 qn77 qc77]), (.agg #[.bool bd, .slice Ad nd cd])] (fun _ => by kernel_rfl) ((HA.out.2.2 _ _ _ ((HD82.out.1.all 1 _ rfl).at_) ((HD82.out.1.all 4 _ rfl).at_)).mono ?_)
         rintro e wq83 ⟨qv83, rfl, hq83, hb83⟩
         obtain ⟨qb83, qA83, qn83, qc83, rfl, hq83⟩ := open0 hq83
         have HD83 := Lib.hid (And.intro (FVars.told (HD82.out.1.step hb83 rfl) (t := ⟨false, 0, qb83, qA83, qn83, qc83, false, none, 0, 0, R, 0, 0⟩) hq83 rfl) (below_then HD82.out.2 hb83))
         clear hq83 hb83 HD82
         refine ⟨(.agg #[.bool qb83, .slice qA83 qn83 qc83]), rfl, hK _ _ (HZ.out.1.step HD83.out.2 rfl HR.out.2.2.2) (fun hH83 => ?_)⟩
         clear hK K hH82
         change wpAnyH _ _ _ _ _ _ _ (Act.put _ (some 37) _) _
         simp only [Act.put, lyA, lyZ, lyS]
         refine wpAnyH_ready (rs := [9]) (by kernel_rfl) (by simp) ?_
         refine AllReadyH.cons rfl (fun K hK0 => ?d90) (AllReadyH.nil)
         have hK := hK0.out
         clear hK0
         rw [if_pos (by kernel_rfl)]
         refine wp_go_skip (store0 ((HD83.out.1.all 6 _ rfl).lies rfl) ((HD83.out.1.all 6 _ rfl).frz rfl) qb83 qA83 qn83 qc83 (.tmp 5) (.tmp 37) (by kernel_rfl) (by kernel_rfl) (by kernel_rfl)) ?_
         have hu84 := FVars.over2 HD83.out.1 6 (s := ⟨true, rn, bn, An, nn, cn, false, none, 0, 0, N, 0, 0⟩) (t := ⟨false, 0, qb83, qA83, qn83, qc83, false, none, 0, 0, R, 0, 0⟩) rfl rfl lyK lyK ((HD83.out.1.all 0 _ rfl).at_)
         have hv84 : FVars w.heap.size (put2 (wq83) rn (.bool qb83) (.slice qA83 qn83 qc83)) [⟨false, 0, qb83, qA83, qn83, qc83, false, none, 0, 0, R, 0, 0⟩, ⟨false, 0, bn, An, nn, cn, false, none, 0, 0, N, 0, 0⟩, ⟨false, 0, qb77, qA77, qn77, qc77, false, none, 0, 0, Q, 0, 0⟩, ⟨false, 0, bn, An, nn, cn, false, none, 0, 0, N, 0, 0⟩, ⟨false, 0, bd, Ad, nd, cd, false, none, 0, 0, E, 0, 0⟩, ⟨true, rd, bd, Ad, nd, cd, false, none, 0, 0, E, 0, 0⟩, ⟨true, rn, qb83, qA83, qn83, qc83, false, none, 0, 0, R, 0, 0⟩, ⟨true, w.heap.size, false, none, 0, 0, false, none, 0, 0, 0, 1, 3⟩] := hu84
         clear hu84
         have hl84 : Below w.heap.size w (put2 (wq83) rn (.bool qb83) (.slice qA83 qn83 qc83)) := (HD83.out.2.setCell (p := ⟨rn, 0, none⟩) (HD83.out.1.up 6 _ rfl rfl) _).setCell (p := ⟨rn, 1, none⟩) (HD83.out.1.up 6 _ rfl rfl) _
         generalize (put2 (wq83) rn (.bool qb83) (.slice qA83 qn83 qc83)) = Wn84 at hv84 hl84 ⊢
         have HD84 := Lib.hid (And.intro hv84 hl84)
         clear hv84 hl84
         refine hK _ _ (HZ.out.1.step HD84.out.2 rfl HR.out.2.2.2) (fun hH84 => ?_)
         clear hK K hH83
         change wpAnyH _ _ _ _ _ _ _ (Act.put _ none _) _
         simp only [Act.put]
         refine wpAnyH_ready (rs := [10]) (by kernel_rfl) (by simp) ?_
         refine AllReadyH.cons rfl (fun K hK0 => ?d91) (AllReadyH.nil)
         have hK := hK0.out
         clear hK0
         rw [if_pos (by kernel_rfl)]
         refine wp_go_skip (store0 ((HD84.out.1.all 5 _ rfl).lies rfl) ((HD84.out.1.all 5 _ rfl).frz rfl) bn An nn cn (.tmp 6) (.tmp 38) (by kernel_rfl) (by kernel_rfl) (by kernel_rfl)) ?_
         have hu85 := FVars.over2 HD84.out.1 5 (s := ⟨true, rd, bd, Ad, nd, cd, false, none, 0, 0, E, 0, 0⟩) (t := ⟨false, 0, bn, An, nn, cn, false, none, 0, 0, N, 0, 0⟩) rfl rfl lyK lyK ((HD84.out.1.all 1 _ rfl).at_)
         have hv85 : FVars w.heap.size (put2 (Wn84) rd (.bool bn) (.slice An nn cn)) [⟨false, 0, qb83, qA83, qn83, qc83, false, none, 0, 0, R, 0, 0⟩, ⟨false, 0, bn, An, nn, cn, false, none, 0, 0, N, 0, 0⟩, ⟨false, 0, qb77, qA77, qn77, qc77, false, none, 0, 0, Q, 0, 0⟩, ⟨false, 0, bn, An, nn, cn, false, none, 0, 0, N, 0, 0⟩, ⟨false, 0, bd, Ad, nd, cd, false, none, 0, 0, E, 0, 0⟩, ⟨true, rd, bn, An, nn, cn, false, none, 0, 0, N, 0, 0⟩, ⟨true, rn, qb83, qA83, qn83, qc83, false, none, 0, 0, R, 0, 0⟩, ⟨true, w.heap.size, false, none, 0, 0, false, none, 0, 0, 0, 1, 3⟩] := hu85
         clear hu85
         have hl85 : Below w.heap.size w (put2 (Wn84) rd (.bool bn) (.slice An nn cn)) := (HD84.out.2.setCell (p := ⟨rd, 0, none⟩) (HD84.out.1.up 5 _ rfl rfl) _).setCell (p := ⟨rd, 1, none⟩) (HD84.out.1.up 5 _ rfl rfl) _
         generalize (put2 (Wn84) rd (.bool bn) (.slice An nn cn)) = Wn85 at hv85 hl85 ⊢
         have HD85 := Lib.hid (And.intro hv85 hl85)
         clear hv85 hl85
         refine hK _ _ (HZ.out.1.step HD85.out.2 rfl HR.out.2.2.2) (fun hH85 => ?_)
         clear hK K hH84
         change wpAnyH _ _ _ _ _ _ _ (Act.put _ none _) _
         simp only [Act.put]
         refine wpAnyH_done (by kernel_rfl) ?_ _
         go_wp2
         go_roundw
         case rel =>
          refine ⟨i, qb83, qA83, qn83, qc83, bn, An, nn, cn, Nat.le_of_succ_le HJ.out, ?_, ?_, HD85.out.2⟩
          · rcases Nat.eq_zero_or_pos i with q | q
            · subst q; exact .inl ⟨rfl, by go_num⟩
            · obtain ⟨i', rfl⟩ : ∃ i', i = i' + 1 := ⟨i - 1, by omega⟩
              exact .inr ⟨i', rfl, by go_num⟩
          · rw [HG.out.1.2, ← HG.out.1.1, HG.out.2.2.1, HG.out.2.2.2]
            exact FVars.pick HD85.out.1 [5, 6, 7] (by decide) rfl
         case measure => simp [intOf]
       case d83 =>
        have hK := hK0.out
        clear hK0
        rw [if_pos (by kernel_rfl)]
        refine wp_go_val (.agg #[.bool bn, .slice An nn cn]) (load0 ((HD76.out.1.all 3 _ rfl).lies rfl) (.tmp 5) (by kernel_rfl) (by kernel_rfl)) ?_
        have HD86 := Lib.hid (And.intro (FVars.told HD76.out.1 (t := ⟨false, 0, bn, An, nn, cn, false, none, 0, 0, N, 0, 0⟩) (HD76.out.1.all 3 _ rfl).at_ rfl) HD76.out.2)
        refine hK _ _ (HZ.out.1.step HD86.out.2 rfl HR.out.2.2.2) (fun hH86 => ?_)
        clear hK K hH76
        change wpAnyH _ _ _ _ _ _ _ (Act.put _ (some 38) _) _
        simp only [Act.put, lyA, lyZ, lyS]
        refine wpAnyH_ready (rs := [5]) (by kernel_rfl) (by simp) ?_
        refine AllReadyH.cons rfl (fun K hK0 => ?d92) (AllReadyH.nil)
        have hK := hK0.out
        clear hK0
        rw [if_pos (by kernel_rfl)]
        refine wp_go_call 86 #[(.agg #[.bool bz, .slice Az nz cz]), (.agg #[.bool bn, .slice An nn cn])] (fun _ => by kernel_rfl) ((HA.out.2.1 _ _ _ (HZ.out.2.step HD86.out.2 rfl) ((HD86.out.1.all 4 _ rfl).at_)).mono ?_)
        rintro e wq87 ⟨qv87, rfl, hq87, hb87⟩
        obtain ⟨qb87, qA87, qn87, qc87, rfl, hq87⟩ := open0 hq87
        have HD87 := Lib.hid (And.intro (FVars.told (HD86.out.1.step hb87 rfl) (t := ⟨false, 0, qb87, qA87, qn87, qc87, false, none, 0, 0, Q, 0, 0⟩) hq87 rfl) (below_then HD86.out.2 hb87))
        clear hq87 hb87 HD86
        refine ⟨(.agg #[.bool qb87, .slice qA87 qn87 qc87]), rfl, hK _ _ (HZ.out.1.step HD87.out.2 rfl HR.out.2.2.2) (fun hH87 => ?_)⟩
        clear hK K hH86
        change wpAnyH _ _ _ _ _ _ _ (Act.put _ (some 35) _) _
        simp only [Act.put, lyA, lyZ, lyS]
        refine wpAnyH_ready (rs := [7]) (by kernel_rfl) (by simp) ?_
        refine AllReadyH.cons rfl (fun K hK0 => ?d93) (AllReadyH.nil)
        have hK := hK0.out
        clear hK0
        rw [if_pos (by kernel_rfl)]
        refine wp_go_call 97 #[(.agg #[.bool qb87, .slice qA87 qn87 qc87]), (.agg #[.bool bd, .slice Ad nd cd])] (fun _ => by kernel_rfl) ((HA.out.2.2 _ _ _ ((HD87.out.1.all 0 _ rfl).at_) ((HD87.out.1.all 4 _ rfl).at_)).mono ?_)
        rintro e wq88 ⟨qv88, rfl, hq88, hb88⟩
        obtain ⟨qb88, qA88, qn88, qc88, rfl, hq88⟩ := open0 hq88
        have HD88 := Lib.hid (And.intro (FVars.told (HD87.out.1.step hb88 rfl) (t := ⟨false, 0, qb88, qA88, qn88, qc88, false, none, 0, 0, R, 0, 0⟩) hq88 rfl) (below_then HD87.out.2 hb88))
        clear hq88 hb88 HD87
        refine ⟨(.agg #[.bool qb88, .slice qA88 qn88 qc88]), rfl, hK _ _ (HZ.out.1.step HD88.out.2 rfl HR.out.2.2.2) (fun hH88 => ?_)⟩
        clear hK K hH87
        change wpAnyH _ _ _ _ _ _ _ (Act.put _ (some 37) _) _
        simp only [Act.put, lyA, lyZ, lyS]
        refine wpAnyH_ready (rs := [9]) (by kernel_rfl) (by simp) ?_
        refine AllReadyH.cons rfl (fun K hK0 => ?d94) (AllReadyH.nil)
        have hK := hK0.out
        clear hK0
        rw [if_pos (by kernel_rfl)]
        refine wp_go_skip (store0 ((HD88.out.1.all 6 _ rfl).lies rfl) ((HD88.out.1.all 6 _ rfl).frz rfl) qb88 qA88 qn88 qc88 (.tmp 5) (.tmp 37) (by kernel_rfl) (by kernel_rfl) (by kernel_rfl)) ?_
        have hu89 := FVars.over2 HD88.out.1 6 (s := ⟨true, rn, bn, An, nn, cn, false, none, 0, 0, N, 0, 0⟩) (t := ⟨false, 0, qb88, qA88, qn88, qc88, false, none, 0, 0, R, 0, 0⟩) rfl rfl lyK lyK ((HD88.out.1.all 0 _ rfl).at_)
        have hv89 : FVars w.heap.size (put2 (wq88) rn (.bool qb88) (.slice qA88 qn88 qc88)) [⟨false, 0, qb88, qA88, qn88, qc88, false, none, 0, 0, R, 0, 0⟩, ⟨false, 0, qb87, qA87, qn87, qc87, false, none, 0, 0, Q, 0, 0⟩, ⟨false, 0, bn, An, nn, cn, false, none, 0, 0, N, 0, 0⟩, ⟨false, 0, bn, An, nn, cn, false, none, 0, 0, N, 0, 0⟩, ⟨false, 0, bd, Ad, nd, cd, false, none, 0, 0, E, 0, 0⟩, ⟨true, rd, bd, Ad, nd, cd, false, none, 0, 0, E, 0, 0⟩, ⟨true, rn, qb88, qA88, qn88, qc88, false, none, 0, 0, R, 0, 0⟩, ⟨true, w.heap.size, false, none, 0, 0, false, none, 0, 0, 0, 1, 3⟩] := hu89
        clear hu89
        have hl89 : Below w.heap.size w (put2 (wq88) rn (.bool qb88) (.slice qA88 qn88 qc88)) := (HD88.out.2.setCell (p := ⟨rn, 0, none⟩) (HD88.out.1.up 6 _ rfl rfl) _).setCell (p := ⟨rn, 1, none⟩) (HD88.out.1.up 6 _ rfl rfl) _
        generalize (put2 (wq88) rn (.bool qb88) (.slice qA88 qn88 qc88)) = Wn89 at hv89 hl89 ⊢
        have HD89 := Lib.hid (And.intro hv89 hl89)
        clear hv89 hl89
        refine hK _ _ (HZ.out.1.step HD89.out.2 rfl HR.out.2.2.2) (fun hH89 => ?_)
        clear hK K hH88
        change wpAnyH _ _ _ _ _ _ _ (Act.put _ none _) _
        simp only [Act.put]
        refine wpAnyH_ready (rs := [10]) (by kernel_rfl) (by simp) ?_
        refine AllReadyH.cons rfl (fun K hK0 => ?d95) (AllReadyH.nil)
        have hK := hK0.out
        clear hK0
        rw [if_pos (by kernel_rfl)]
        refine wp_go_skip (store0 ((HD89.out.1.all 5 _ rfl).lies rfl) ((HD89.out.1.all 5 _ rfl).frz rfl) bn An nn cn (.tmp 6) (.tmp 38) (by kernel_rfl) (by kernel_rfl) (by kernel_rfl)) ?_
        have hu90 := FVars.over2 HD89.out.1 5 (s := ⟨true, rd, bd, Ad, nd, cd, false, none, 0, 0, E, 0, 0⟩) (t := ⟨false, 0, bn, An, nn, cn, false, none, 0, 0, N, 0, 0⟩) rfl rfl lyK lyK ((HD89.out.1.all 2 _ rfl).at_)
        have hv90 : FVars w.heap.size (put2 (Wn89) rd (.bool bn) (.slice An nn cn)) [⟨false, 0, qb88, qA88, qn88, qc88, false, none, 0, 0, R, 0, 0⟩, ⟨false, 0, qb87, qA87, qn87, qc87, false, none, 0, 0, Q, 0, 0⟩, ⟨false, 0, bn, An, nn, cn, false, none, 0, 0, N, 0, 0⟩, ⟨false, 0, bn, An, nn, cn, false, none, 0, 0, N, 0, 0⟩, ⟨false, 0, bd, Ad, nd, cd, false, none, 0, 0, E, 0, 0⟩, ⟨true, rd, bn, An, nn, cn, false, none, 0, 0, N, 0, 0⟩, ⟨true, rn, qb88, qA88, qn88, qc88, false, none, 0, 0, R, 0, 0⟩, ⟨true, w.heap.size, false, none, 0, 0, false, none, 0, 0, 0, 1, 3⟩] := hu90
        clear hu90
        have hl90 : Below w.heap.size w (put2 (Wn89) rd (.bool bn) (.slice An nn cn)) := (HD89.out.2.setCell (p := ⟨rd, 0, none⟩) (HD89.out.1.up 5 _ rfl rfl) _).setCell (p := ⟨rd, 1, none⟩) (HD89.out.1.up 5 _ rfl rfl) _
        generalize (put2 (Wn89) rd (.bool bn) (.slice An nn cn)) = Wn90 at hv90 hl90 ⊢
        have HD90 := Lib.hid (And.intro hv90 hl90)
        clear hv90 hl90
        refine hK _ _ (HZ.out.1.step HD90.out.2 rfl HR.out.2.2.2) (fun hH90 => ?_)
        clear hK K hH89
        change wpAnyH _ _ _ _ _ _ _ (Act.put _ none _) _
        simp only [Act.put]
        refine wpAnyH_done (by kernel_rfl) ?_ _
        go_wp2
        go_roundw
        case rel =>
         refine ⟨i, qb88, qA88, qn88, qc88, bn, An, nn, cn, Nat.le_of_succ_le HJ.out, ?_, ?_, HD90.out.2⟩
         · rcases Nat.eq_zero_or_pos i with q | q
           · subst q; exact .inl ⟨rfl, by go_num⟩
           · obtain ⟨i', rfl⟩ : ∃ i', i = i' + 1 := ⟨i - 1, by omega⟩
             exact .inr ⟨i', rfl, by go_num⟩
         · rw [HG.out.1.2, ← HG.out.1.1, HG.out.2.2.1, HG.out.2.2.2]
           exact FVars.pick HD90.out.1 [5, 6, 7] (by decide) rfl
        case measure => simp [intOf]
      case d81 =>
       have hK := hK0.out
       clear hK0
       rw [if_pos (by kernel_rfl)]
       refine wp_go_val (.agg #[.bool bn, .slice An nn cn]) (load0 ((HD75.out.1.all 2 _ rfl).lies rfl) (.tmp 5) (by kernel_rfl) (by kernel_rfl)) ?_
       have HD91 := Lib.hid (And.intro (FVars.told HD75.out.1 (t := ⟨false, 0, bn, An, nn, cn, false, none, 0, 0, N, 0, 0⟩) (HD75.out.1.all 2 _ rfl).at_ rfl) HD75.out.2)
       refine hK _ _ (HZ.out.1.step HD91.out.2 rfl HR.out.2.2.2) (fun hH91 => ?_)
       clear hK K hH75
       change wpAnyH _ _ _ _ _ _ _ (Act.put _ (some 38) _) _
       simp only [Act.put, lyA, lyZ, lyS]
       refine wpAnyH_ready (rs := [4]) (by kernel_rfl) (by simp) ?_
       refine AllReadyH.cons rfl (fun K hK0 => ?d96) (AllReadyH.nil)
       have hK := hK0.out
       clear hK0
       rw [if_pos (by kernel_rfl)]
       refine wp_go_val (.agg #[.bool bn, .slice An nn cn]) (load0 ((HD91.out.1.all 3 _ rfl).lies rfl) (.tmp 5) (by kernel_rfl) (by kernel_rfl)) ?_
       have HD92 := Lib.hid (And.intro (FVars.told HD91.out.1 (t := ⟨false, 0, bn, An, nn, cn, false, none, 0, 0, N, 0, 0⟩) (HD91.out.1.all 3 _ rfl).at_ rfl) HD91.out.2)
       refine hK _ _ (HZ.out.1.step HD92.out.2 rfl HR.out.2.2.2) (fun hH92 => ?_)
       clear hK K hH91
       change wpAnyH _ _ _ _ _ _ _ (Act.put _ (some 34) _) _
       simp only [Act.put, lyA, lyZ, lyS]
       refine wpAnyH_ready (rs := [5]) (by kernel_rfl) (by simp) ?_
       refine AllReadyH.cons rfl (fun K hK0 => ?d97) (AllReadyH.nil)
       have hK := hK0.out
       clear hK0
       rw [if_pos (by kernel_rfl)]
       refine wp_go_call 86 #[(.agg #[.bool bz, .slice Az nz cz]), (.agg #[.bool bn, .slice An nn cn])] (fun _ => by kernel_rfl) ((HA.out.2.1 _ _ _ (HZ.out.2.step HD92.out.2 rfl) ((HD92.out.1.all 4 _ rfl).at_)).mono ?_)
       rintro e wq93 ⟨qv93, rfl, hq93, hb93⟩
       obtain ⟨qb93, qA93, qn93, qc93, rfl, hq93⟩ := open0 hq93
       have HD93 := Lib.hid (And.intro (FVars.told (HD92.out.1.step hb93 rfl) (t := ⟨false, 0, qb93, qA93, qn93, qc93, false, none, 0, 0, Q, 0, 0⟩) hq93 rfl) (below_then HD92.out.2 hb93))
       clear hq93 hb93 HD92
       refine ⟨(.agg #[.bool qb93, .slice qA93 qn93 qc93]), rfl, hK _ _ (HZ.out.1.step HD93.out.2 rfl HR.out.2.2.2) (fun hH93 => ?_)⟩
       clear hK K hH92
       change wpAnyH _ _ _ _ _ _ _ (Act.put _ (some 35) _) _
       simp only [Act.put, lyA, lyZ, lyS]
       refine wpAnyH_ready (rs := [7]) (by kernel_rfl) (by simp) ?_
       refine AllReadyH.cons rfl (fun K hK0 => ?d98) (AllReadyH.nil)
       have hK := hK0.out
       clear hK0
       rw [if_pos (by kernel_rfl)]
       refine wp_go_call 97 #[(.agg #[.bool qb93, .slice qA93 qn93 qc93]), (.agg #[.bool bd, .slice Ad nd cd])] (fun _ => by kernel_rfl) ((HA.out.2.2 _ _ _ ((HD93.out.1.all 0 _ rfl).at_) ((HD93.out.1.all 4 _ rfl).at_)).mono ?_)
       rintro e wq94 ⟨qv94, rfl, hq94, hb94⟩
       obtain ⟨qb94, qA94, qn94, qc94, rfl, hq94⟩ := open0 hq94
       have HD94 := Lib.hid (And.intro (FVars.told (HD93.out.1.step hb94 rfl) (t := ⟨false, 0, qb94, qA94, qn94, qc94, false, none, 0, 0, R, 0, 0⟩) hq94 rfl) (below_then HD93.out.2 hb94))
       clear hq94 hb94 HD93
       refine ⟨(.agg #[.bool qb94, .slice qA94 qn94 qc94]), rfl, hK _ _ (HZ.out.1.step HD94.out.2 rfl HR.out.2.2.2) (fun hH94 => ?_)⟩
       clear hK K hH93
       change wpAnyH _ _ _ _ _ _ _ (Act.put _ (some 37) _) _
       simp only [Act.put, lyA, lyZ, lyS]
       refine wpAnyH_ready (rs := [9]) (by kernel_rfl) (by simp) ?_
       refine AllReadyH.cons rfl (fun K hK0 => ?d99) (AllReadyH.nil)
       have hK := hK0.out
       clear hK0
       rw [if_pos (by kernel_rfl)]
       refine wp_go_skip (store0 ((HD94.out.1.all 6 _ rfl).lies rfl) ((HD94.out.1.all 6 _ rfl).frz rfl) qb94 qA94 qn94 qc94 (.tmp 5) (.tmp 37) (by kernel_rfl) (by kernel_rfl) (by kernel_rfl)) ?_
       have hu95 := FVars.over2 HD94.out.1 6 (s := ⟨true, rn, bn, An, nn, cn, false, none, 0, 0, N, 0, 0⟩) (t := ⟨false, 0, qb94, qA94, qn94, qc94, false, none, 0, 0, R, 0, 0⟩) rfl rfl lyK lyK ((HD94.out.1.all 0 _ rfl).at_)
       have hv95 : FVars w.heap.size (put2 (wq94) rn (.bool qb94) (.slice qA94 qn94 qc94)) [⟨false, 0, qb94, qA94, qn94, qc94, false, none, 0, 0, R, 0, 0⟩, ⟨false, 0, qb93, qA93, qn93, qc93, false, none, 0, 0, Q, 0, 0⟩, ⟨false, 0, bn, An, nn, cn, false, none, 0, 0, N, 0, 0⟩, ⟨false, 0, bn, An, nn, cn, false, none, 0, 0, N, 0, 0⟩, ⟨false, 0, bd, Ad, nd, cd, false, none, 0, 0, E, 0, 0⟩, ⟨true, rd, bd, Ad, nd, cd, false, none, 0, 0, E, 0, 0⟩, ⟨true, rn, qb94, qA94, qn94, qc94, false, none, 0, 0, R, 0, 0⟩, ⟨true, w.heap.size, false, none, 0, 0, false, none, 0, 0, 0, 1, 3⟩] := hu95
       clear hu95
       have hl95 : Below w.heap.size w (put2 (wq94) rn (.bool qb94) (.slice qA94 qn94 qc94)) := (HD94.out.2.setCell (p := ⟨rn, 0, none⟩) (HD94.out.1.up 6 _ rfl rfl) _).setCell (p := ⟨rn, 1, none⟩) (HD94.out.1.up 6 _ rfl rfl) _
       generalize (put2 (wq94) rn (.bool qb94) (.slice qA94 qn94 qc94)) = Wn95 at hv95 hl95 ⊢
       have HD95 := Lib.hid (And.intro hv95 hl95)
       clear hv95 hl95
       refine hK _ _ (HZ.out.1.step HD95.out.2 rfl HR.out.2.2.2) (fun hH95 => ?_)
       clear hK K hH94
       change wpAnyH _ _ _ _ _ _ _ (Act.put _ none _) _
       simp only [Act.put]
       refine wpAnyH_ready (rs := [10]) (by kernel_rfl) (by simp) ?_
       refine AllReadyH.cons rfl (fun K hK0 => ?d100) (AllReadyH.nil)
       have hK := hK0.out
       clear hK0
       rw [if_pos (by kernel_rfl)]
       refine wp_go_skip (store0 ((HD95.out.1.all 5 _ rfl).lies rfl) ((HD95.out.1.all 5 _ rfl).frz rfl) bn An nn cn (.tmp 6) (.tmp 38) (by kernel_rfl) (by kernel_rfl) (by kernel_rfl)) ?_
       have hu96 := FVars.over2 HD95.out.1 5 (s := ⟨true, rd, bd, Ad, nd, cd, false, none, 0, 0, E, 0, 0⟩) (t := ⟨false, 0, bn, An, nn, cn, false, none, 0, 0, N, 0, 0⟩) rfl rfl lyK lyK ((HD95.out.1.all 2 _ rfl).at_)
       have hv96 : FVars w.heap.size (put2 (Wn95) rd (.bool bn) (.slice An nn cn)) [⟨false, 0, qb94, qA94, qn94, qc94, false, none, 0, 0, R, 0, 0⟩, ⟨false, 0, qb93, qA93, qn93, qc93, false, none, 0, 0, Q, 0, 0⟩, ⟨false, 0, bn, An, nn, cn, false, none, 0, 0, N, 0, 0⟩, ⟨false, 0, bn, An, nn, cn, false, none, 0, 0, N, 0, 0⟩, ⟨false, 0, bd, Ad, nd, cd, false, none, 0, 0, E, 0, 0⟩, ⟨true, rd, bn, An, nn, cn, false, none, 0, 0, N, 0, 0⟩, ⟨true, rn, qb94, qA94, qn94, qc94, false, none, 0, 0, R, 0, 0⟩, ⟨true, w.heap.size, false, none, 0, 0, false, none, 0, 0, 0, 1, 3⟩] := hu96
       clear hu96
       have hl96 : Below w.heap.size w (put2 (Wn95) rd (.bool bn) (.slice An nn cn)) := (HD95.out.2.setCell (p := ⟨rd, 0, none⟩) (HD95.out.1.up 5 _ rfl rfl) _).setCell (p := ⟨rd, 1, none⟩) (HD95.out.1.up 5 _ rfl rfl) _
       generalize (put2 (Wn95) rd (.bool bn) (.slice An nn cn)) = Wn96 at hv96 hl96 ⊢
       have HD96 := Lib.hid (And.intro hv96 hl96)
       clear hv96 hl96
       refine hK _ _ (HZ.out.1.step HD96.out.2 rfl HR.out.2.2.2) (fun hH96 => ?_)
       clear hK K hH95
       change wpAnyH _ _ _ _ _ _ _ (Act.put _ none _) _
       simp only [Act.put]
       refine wpAnyH_done (by kernel_rfl) ?_ _
       go_wp2
       go_roundw
       case rel =>
        refine ⟨i, qb94, qA94, qn94, qc94, bn, An, nn, cn, Nat.le_of_succ_le HJ.out, ?_, ?_, HD96.out.2⟩
        · rcases Nat.eq_zero_or_pos i with q | q
          · subst q; exact .inl ⟨rfl, by go_num⟩
          · obtain ⟨i', rfl⟩ : ∃ i', i = i' + 1 := ⟨i - 1, by omega⟩
            exact .inr ⟨i', rfl, by go_num⟩
        · rw [HG.out.1.2, ← HG.out.1.1, HG.out.2.2.1, HG.out.2.2.2]
          exact FVars.pick HD96.out.1 [5, 6, 7] (by decide) rfl
       case measure => simp [intOf]
     case d38 =>
      have hK := hK0.out
      clear hK0
      rw [if_pos (by kernel_rfl)]
      refine wp_go_val (.agg #[.bool bn, .slice An nn cn]) (load0 ((HD32.out.1.all 1 _ rfl).lies rfl) (.tmp 5) (by kernel_rfl) (by kernel_rfl)) ?_
      have HD97 := Lib.hid (And.intro (FVars.told HD32.out.1 (t := ⟨false, 0, bn, An, nn, cn, false, none, 0, 0, N, 0, 0⟩) (HD32.out.1.all 1 _ rfl).at_ rfl) HD32.out.2)
      refine hK _ _ (HZ.out.1.step HD97.out.2 rfl HR.out.2.2.2) (fun hH97 => ?_)
      clear hK K hH0
      change wpAnyH _ _ _ _ _ _ _ (Act.put _ (some 38) _) _
      simp only [Act.put, lyA, lyZ, lyS]
      refine wpAnyH_ready (rs := [4, 6]) (by kernel_rfl) (by simp) ?_
      refine AllReadyH.cons rfl (fun K hK0 => ?d101) (AllReadyH.cons rfl (fun K hK0 => ?d102) (AllReadyH.nil))
      case d101 =>
       have hK := hK0.out
       clear hK0
       rw [if_pos (by kernel_rfl)]
       refine wp_go_val (.agg #[.bool bn, .slice An nn cn]) (load0 ((HD97.out.1.all 2 _ rfl).lies rfl) (.tmp 5) (by kernel_rfl) (by kernel_rfl)) ?_
       have HD98 := Lib.hid (And.intro (FVars.told HD97.out.1 (t := ⟨false, 0, bn, An, nn, cn, false, none, 0, 0, N, 0, 0⟩) (HD97.out.1.all 2 _ rfl).at_ rfl) HD97.out.2)
       refine hK _ _ (HZ.out.1.step HD98.out.2 rfl HR.out.2.2.2) (fun hH98 => ?_)
       clear hK K hH97
       change wpAnyH _ _ _ _ _ _ _ (Act.put _ (some 34) _) _
       simp only [Act.put, lyA, lyZ, lyS]
       refine wpAnyH_ready (rs := [5, 6]) (by kernel_rfl) (by simp) ?_
       refine AllReadyH.cons rfl (fun K hK0 => ?d103) (AllReadyH.cons rfl (fun K hK0 => ?d104) (AllReadyH.nil))
       case d103 =>
        have hK := hK0.out
        clear hK0
        rw [if_pos (by kernel_rfl)]
        refine wp_go_call 86 #[(.agg #[.bool bz, .slice Az nz cz]), (.agg #[.bool bn, .slice An nn cn])] (fun _ => by kernel_rfl) ((HA.out.2.1 _ _ _ (HZ.out.2.step HD98.out.2 rfl) ((HD98.out.1.all 3 _ rfl).at_)).mono ?_)
        rintro e wq99 ⟨qv99, rfl, hq99, hb99⟩
        obtain ⟨qb99, qA99, qn99, qc99, rfl, hq99⟩ := open0 hq99
        have HD99 := Lib.hid (And.intro (FVars.told (HD98.out.1.step hb99 rfl) (t := ⟨false, 0, qb99, qA99, qn99, qc99, false, none, 0, 0, Q, 0, 0⟩) hq99 rfl) (below_then HD98.out.2 hb99))
        clear hq99 hb99 HD98
        refine ⟨(.agg #[.bool qb99, .slice qA99 qn99 qc99]), rfl, hK _ _ (HZ.out.1.step HD99.out.2 rfl HR.out.2.2.2) (fun hH99 => ?_)⟩
        clear hK K hH98
        change wpAnyH _ _ _ _ _ _ _ (Act.put _ (some 35) _) _
        simp only [Act.put, lyA, lyZ, lyS]
        refine wpAnyH_ready (rs := [6]) (by kernel_rfl) (by simp) ?_
        refine AllReadyH.cons rfl (fun K hK0 => ?d105) (AllReadyH.nil)
        have hK := hK0.out
        clear hK0
        rw [if_pos (by kernel_rfl)]
        refine wp_go_val (.agg #[.bool bd, .slice Ad nd cd]) (load0 ((HD99.out.1.all 3 _ rfl).lies rfl) (.tmp 6) (by kernel_rfl) (by kernel_rfl)) ?_
        have HD100 := Lib.hid (And.intro (FVars.told HD99.out.1 (t := ⟨false, 0, bd, Ad, nd, cd, false, none, 0, 0, E, 0, 0⟩) (HD99.out.1.all 3 _ rfl).at_ rfl) HD99.out.2)
        refine hK _ _ (HZ.out.1.step HD100.out.2 rfl HR.out.2.2.2) (fun hH100 => ?_)
        clear hK K hH99
        change wpAnyH _ _ _ _ _ _ _ (Act.put _ (some 36) _) _
        simp only [Act.put, lyA, lyZ, lyS]
        refine wpAnyH_ready (rs := [7]) (by kernel_rfl) (by simp) ?_
        refine AllReadyH.cons rfl (fun K hK0 => ?d106) (AllReadyH.nil)
        have hK := hK0.out
        clear hK0
        rw [if_pos (by kernel_rfl)]
        refine wp_go_call 97 #[(.agg #[.bool qb99, .slice qA99 qn99 qc99]), (.agg #[.bool bd, .slice Ad nd cd])] (fun _ => by kernel_rfl) ((HA.out.2.2 _ _ _ ((HD100.out.1.all 1 _ rfl).at_) ((HD100.out.1.all 4 _ rfl).at_)).mono ?_)
        rintro e wq101 ⟨qv101, rfl, hq101, hb101⟩
        obtain ⟨qb101, qA101, qn101, qc101, rfl, hq101⟩ := open0 hq101
        have HD101 := Lib.hid (And.intro (FVars.told (HD100.out.1.step hb101 rfl) (t := ⟨false, 0, qb101, qA101, qn101, qc101, false, none, 0, 0, R, 0, 0⟩) hq101 rfl) (below_then HD100.out.2 hb101))
        clear hq101 hb101 HD100
        refine ⟨(.agg #[.bool qb101, .slice qA101 qn101 qc101]), rfl, hK _ _ (HZ.out.1.step HD101.out.2 rfl HR.out.2.2.2) (fun hH101 => ?_)⟩
        clear hK K hH100
        change wpAnyH _ _ _ _ _ _ _ (Act.put _ (some 37) _) _
        simp only [Act.put, lyA, lyZ, lyS]
        refine wpAnyH_ready (rs := [9]) (by kernel_rfl) (by simp) ?_
        refine AllReadyH.cons rfl (fun K hK0 => ?d107) (AllReadyH.nil)
        have hK := hK0.out
        clear hK0
        rw [if_pos (by kernel_rfl)]
        refine wp_go_skip (store0 ((HD101.out.1.all 6 _ rfl).lies rfl) ((HD101.out.1.all 6 _ rfl).frz rfl) qb101 qA101 qn101 qc101 (.tmp 5) (.tmp 37) (by kernel_rfl) (by kernel_rfl) (by kernel_rfl)) ?_
        have hu102 := FVars.over2 HD101.out.1 6 (s := ⟨true, rn, bn, An, nn, cn, false, none, 0, 0, N, 0, 0⟩) (t := ⟨false, 0, qb101, qA101, qn101, qc101, false, none, 0, 0, R, 0, 0⟩) rfl rfl lyK lyK ((HD101.out.1.all 0 _ rfl).at_)
        have hv102 : FVars w.heap.size (put2 (wq101) rn (.bool qb101) (.slice qA101 qn101 qc101)) [⟨false, 0, qb101, qA101, qn101, qc101, false, none, 0, 0, R, 0, 0⟩, ⟨false, 0, bd, Ad, nd, cd, false, none, 0, 0, E, 0, 0⟩, ⟨false, 0, qb99, qA99, qn99, qc99, false, none, 0, 0, Q, 0, 0⟩, ⟨false, 0, bn, An, nn, cn, false, none, 0, 0, N, 0, 0⟩, ⟨false, 0, bn, An, nn, cn, false, none, 0, 0, N, 0, 0⟩, ⟨true, rd, bd, Ad, nd, cd, false, none, 0, 0, E, 0, 0⟩, ⟨true, rn, qb101, qA101, qn101, qc101, false, none, 0, 0, R, 0, 0⟩, ⟨true, w.heap.size, false, none, 0, 0, false, none, 0, 0, 0, 1, 3⟩] := hu102
        clear hu102
        have hl102 : Below w.heap.size w (put2 (wq101) rn (.bool qb101) (.slice qA101 qn101 qc101)) := (HD101.out.2.setCell (p := ⟨rn, 0, none⟩) (HD101.out.1.up 6 _ rfl rfl) _).setCell (p := ⟨rn, 1, none⟩) (HD101.out.1.up 6 _ rfl rfl) _
        generalize (put2 (wq101) rn (.bool qb101) (.slice qA101 qn101 qc101)) = Wn102 at hv102 hl102 ⊢
        have HD102 := Lib.hid (And.intro hv102 hl102)
        clear hv102 hl102
        refine hK _ _ (HZ.out.1.step HD102.out.2 rfl HR.out.2.2.2) (fun hH102 => ?_)
        clear hK K hH101
        change wpAnyH _ _ _ _ _ _ _ (Act.put _ none _) _
        simp only [Act.put]
        refine wpAnyH_ready (rs := [10]) (by kernel_rfl) (by simp) ?_
        refine AllReadyH.cons rfl (fun K hK0 => ?d108) (AllReadyH.nil)
        have hK := hK0.out
        clear hK0
        rw [if_pos (by kernel_rfl)]
        refine wp_go_skip (store0 ((HD102.out.1.all 5 _ rfl).lies rfl) ((HD102.out.1.all 5 _ rfl).frz rfl) bn An nn cn (.tmp 6) (.tmp 38) (by kernel_rfl) (by kernel_rfl) (by kernel_rfl)) ?_
        have hu103 := FVars.over2 HD102.out.1 5 (s := ⟨true, rd, bd, Ad, nd, cd, false, none, 0, 0, E, 0, 0⟩) (t := ⟨false, 0, bn, An, nn, cn, false, none, 0, 0, N, 0, 0⟩) rfl rfl lyK lyK ((HD102.out.1.all 3 _ rfl).at_)
        have hv103 : FVars w.heap.size (put2 (Wn102) rd (.bool bn) (.slice An nn cn)) [⟨false, 0, qb101, qA101, qn101, qc101, false, none, 0, 0, R, 0, 0⟩, ⟨false, 0, bd, Ad, nd, cd, false, none, 0, 0, E, 0, 0⟩, ⟨false, 0, qb99, qA99, qn99, qc99, false, none, 0, 0, Q, 0, 0⟩, ⟨false, 0, bn, An, nn, cn, false, none, 0, 0, N, 0, 0⟩, ⟨false, 0, bn, An, nn, cn, false, none, 0, 0, N, 0, 0⟩, ⟨true, rd, bn, An, nn, cn, false, none, 0, 0, N, 0, 0⟩, ⟨true, rn, qb101, qA101, qn101, qc101, false, none, 0, 0, R, 0, 0⟩, ⟨true, w.heap.size, false, none, 0, 0, false, none, 0, 0, 0, 1, 3⟩] := hu103
        clear hu103
        have hl103 : Below w.heap.size w (put2 (Wn102) rd (.bool bn) (.slice An nn cn)) := (HD102.out.2.setCell (p := ⟨rd, 0, none⟩) (HD102.out.1.up 5 _ rfl rfl) _).setCell (p := ⟨rd, 1, none⟩) (HD102.out.1.up 5 _ rfl rfl) _
        generalize (put2 (Wn102) rd (.bool bn) (.slice An nn cn)) = Wn103 at hv103 hl103 ⊢
        have HD103 := Lib.hid (And.intro hv103 hl103)
        clear hv103 hl103
        refine hK _ _ (HZ.out.1.step HD103.out.2 rfl HR.out.2.2.2) (fun hH103 => ?_)
        clear hK K hH102
        change wpAnyH _ _ _ _ _ _ _ (Act.put _ none _) _
        simp only [Act.put]
        refine wpAnyH_done (by kernel_rfl) ?_ _
        go_wp2
        go_roundw
        case rel =>
         refine ⟨i, qb101, qA101, qn101, qc101, bn, An, nn, cn, Nat.le_of_succ_le HJ.out, ?_, ?_, HD103.out.2⟩
         · rcases Nat.eq_zero_or_pos i with q | q
           · subst q; exact .inl ⟨rfl, by go_num⟩
           · obtain ⟨i', rfl⟩ : ∃ i', i = i' + 1 := ⟨i - 1, by omega⟩
             exact .inr ⟨i', rfl, by go_num⟩
         · rw [HG.out.1.2, ← HG.out.1.1, HG.out.2.2.1, HG.out.2.2.2]
           exact FVars.pick HD103.out.1 [5, 6, 7] (by decide) rfl
        case measure => simp [intOf]
       case d104 =>
        have hK := hK0.out
        clear hK0
        rw [if_pos (by kernel_rfl)]
        refine wp_go_val (.agg #[.bool bd, .slice Ad nd cd]) (load0 ((HD98.out.1.all 2 _ rfl).lies rfl) (.tmp 6) (by kernel_rfl) (by kernel_rfl)) ?_
        have HD104 := Lib.hid (And.intro (FVars.told HD98.out.1 (t := ⟨false, 0, bd, Ad, nd, cd, false, none, 0, 0, E, 0, 0⟩) (HD98.out.1.all 2 _ rfl).at_ rfl) HD98.out.2)
        refine hK _ _ (HZ.out.1.step HD104.out.2 rfl HR.out.2.2.2) (fun hH104 => ?_)
        clear hK K hH98
        change wpAnyH _ _ _ _ _ _ _ (Act.put _ (some 36) _) _
        simp only [Act.put, lyA, lyZ, lyS]
        refine wpAnyH_ready (rs := [5]) (by kernel_rfl) (by simp) ?_
        refine AllReadyH.cons rfl (fun K hK0 => ?d109) (AllReadyH.nil)
        have hK := hK0.out
        clear hK0
        rw [if_pos (by kernel_rfl)]
        refine wp_go_call 86 #[(.agg #[.bool bz, .slice Az nz cz]), (.agg #[.bool bn, .slice An nn cn])] (fun _ => by kernel_rfl) ((HA.out.2.1 _ _ _ (HZ.out.2.step HD104.out.2 rfl) ((HD104.out.1.all 4 _ rfl).at_)).mono ?_)
        rintro e wq105 ⟨qv105, rfl, hq105, hb105⟩
        obtain ⟨qb105, qA105, qn105, qc105, rfl, hq105⟩ := open0 hq105
        have HD105 := Lib.hid (And.intro (FVars.told (HD104.out.1.step hb105 rfl) (t := ⟨false, 0, qb105, qA105, qn105, qc105, false, none, 0, 0, Q, 0, 0⟩) hq105 rfl) (below_then HD104.out.2 hb105))
        clear hq105 hb105 HD104
        refine ⟨(.agg #[.bool qb105, .slice qA105 qn105 qc105]), rfl, hK _ _ (HZ.out.1.step HD105.out.2 rfl HR.out.2.2.2) (fun hH105 => ?_)⟩
        clear hK K hH104
        change wpAnyH _ _ _ _ _ _ _ (Act.put _ (some 35) _) _
        simp only [Act.put, lyA, lyZ, lyS]
        refine wpAnyH_ready (rs := [7]) (by kernel_rfl) (by simp) ?_
        refine AllReadyH.cons rfl (fun K hK0 => ?d110) (AllReadyH.nil)
        have hK := hK0.out
        clear hK0
        rw [if_pos (by kernel_rfl)]
        refine wp_go_call 97 #[(.agg #[.bool qb105, .slice qA105 qn105 qc105]), (.agg #[.bool bd, .slice Ad nd cd])] (fun _ => by kernel_rfl) ((HA.out.2.2 _ _ _ ((HD105.out.1.all 0 _ rfl).at_) ((HD105.out.1.all 4 _ rfl).at_)).mono ?_)
        rintro e wq106 ⟨qv106, rfl, hq106, hb106⟩
        obtain ⟨qb106, qA106, qn106, qc106, rfl, hq106⟩ := open0 hq106
        have HD106 := Lib.hid (And.intro (FVars.told (HD105.out.1.step hb106 rfl) (t := ⟨false, 0, qb106, qA106, qn106, qc106, false, none, 0, 0, R, 0, 0⟩) hq106 rfl) (below_then HD105.out.2 hb106))
        clear hq106 hb106 HD105
        refine ⟨(.agg #[.bool qb106, .slice qA106 qn106 qc106]), rfl, hK _ _ (HZ.out.1.step HD106.out.2 rfl HR.out.2.2.2) (fun hH106 => ?_)⟩
        clear hK K hH105
        change wpAnyH _ _ _ _ _ _ _ (Act.put _ (some 37) _) _
        simp only [Act.put, lyA, lyZ, lyS]
        refine wpAnyH_ready (rs := [9]) (by kernel_rfl) (by simp) ?_
        refine AllReadyH.cons rfl (fun K hK0 => ?d111) (AllReadyH.nil)
        have hK := hK0.out
        clear hK0
        rw [if_pos (by kernel_rfl)]
        refine wp_go_skip (store0 ((HD106.out.1.all 6 _ rfl).lies rfl) ((HD106.out.1.all 6 _ rfl).frz rfl) qb106 qA106 qn106 qc106 (.tmp 5) (.tmp 37) (by kernel_rfl) (by kernel_rfl) (by kernel_rfl)) ?_
        have hu107 := FVars.over2 HD106.out.1 6 (s := ⟨true, rn, bn, An, nn, cn, false, none, 0, 0, N, 0, 0⟩) (t := ⟨false, 0, qb106, qA106, qn106, qc106, false, none, 0, 0, R, 0, 0⟩) rfl rfl lyK lyK ((HD106.out.1.all 0 _ rfl).at_)
        have hv107 : FVars w.heap.size (put2 (wq106) rn (.bool qb106) (.slice qA106 qn106 qc106)) [⟨false, 0, qb106, qA106, qn106, qc106, false, none, 0, 0, R, 0, 0⟩, ⟨false, 0, qb105, qA105, qn105, qc105, false, none, 0, 0, Q, 0, 0⟩, ⟨false, 0, bd, Ad, nd, cd, false, none, 0, 0, E, 0, 0⟩, ⟨false, 0, bn, An, nn, cn, false, none, 0, 0, N, 0, 0⟩, ⟨false, 0, bn, An, nn, cn, false, none, 0, 0, N, 0, 0⟩, ⟨true, rd, bd, Ad, nd, cd, false, none, 0, 0, E, 0, 0⟩, ⟨true, rn, qb106, qA106, qn106, qc106, false, none, 0, 0, R, 0, 0⟩, ⟨true, w.heap.size, false, none, 0, 0, false, none, 0, 0, 0, 1, 3⟩] := hu107
        clear hu107
        have hl107 : Below w.heap.size w (put2 (wq106) rn (.bool qb106) (.slice qA106 qn106 qc106)) := (HD106.out.2.setCell (p := ⟨rn, 0, none⟩) (HD106.out.1.up 6 _ rfl rfl) _).setCell (p := ⟨rn, 1, none⟩) (HD106.out.1.up 6 _ rfl rfl) _
        generalize (put2 (wq106) rn (.bool qb106) (.slice qA106 qn106 qc106)) = Wn107 at hv107 hl107 ⊢
        have HD107 := Lib.hid (And.intro hv107 hl107)
        clear hv107 hl107
        refine hK _ _ (HZ.out.1.step HD107.out.2 rfl HR.out.2.2.2) (fun hH107 => ?_)
        clear hK K hH106
        change wpAnyH _ _ _ _ _ _ _ (Act.put _ none _) _
        simp only [Act.put]
        refine wpAnyH_ready (rs := [10]) (by kernel_rfl) (by simp) ?_
        refine AllReadyH.cons rfl (fun K hK0 => ?d112) (AllReadyH.nil)
        have hK := hK0.out
        clear hK0
        rw [if_pos (by kernel_rfl)]
        refine wp_go_skip (store0 ((HD107.out.1.all 5 _ rfl).lies rfl) ((HD107.out.1.all 5 _ rfl).frz rfl) bn An nn cn (.tmp 6) (.tmp 38) (by kernel_rfl) (by kernel_rfl) (by kernel_rfl)) ?_
        have hu108 := FVars.over2 HD107.out.1 5 (s := ⟨true, rd, bd, Ad, nd, cd, false, none, 0, 0, E, 0, 0⟩) (t := ⟨false, 0, bn, An, nn, cn, false, none, 0, 0, N, 0, 0⟩) rfl rfl lyK lyK ((HD107.out.1.all 3 _ rfl).at_)
        have hv108 : FVars w.heap.size (put2 (Wn107) rd (.bool bn) (.slice An nn cn)) [⟨false, 0, qb106, qA106, qn106, qc106, false, none, 0, 0, R, 0, 0⟩, ⟨false, 0, qb105, qA105, qn105, qc105, false, none, 0, 0, Q, 0, 0⟩, ⟨false, 0, bd, Ad, nd, cd, false, none, 0, 0, E, 0, 0⟩, ⟨false, 0, bn, An, nn, cn, false, none, 0, 0, N, 0, 0⟩, ⟨false, 0, bn, An, nn, cn, false, none, 0, 0, N, 0, 0⟩, ⟨true, rd, bn, An, nn, cn, false, none, 0, 0, N, 0, 0⟩, ⟨true, rn, qb106, qA106, qn106, qc106, false, none, 0, 0, R, 0, 0⟩, ⟨true, w.heap.size, false, none, 0, 0, false, none, 0, 0, 0, 1, 3⟩] := hu108
        clear hu108
        have hl108 : Below w.heap.size w (put2 (Wn107) rd (.bool bn) (.slice An nn cn)) := (HD107.out.2.setCell (p := ⟨rd, 0, none⟩) (HD107.out.1.up 5 _ rfl rfl) _).setCell (p := ⟨rd, 1, none⟩) (HD107.out.1.up 5 _ rfl rfl) _
        generalize (put2 (Wn107) rd (.bool bn) (.slice An nn cn)) = Wn108 at hv108 hl108 ⊢
        have HD108 := Lib.hid (And.intro hv108 hl108)
        clear hv108 hl108
        refine hK _ _ (HZ.out.1.step HD108.out.2 rfl HR.out.2.2.2) (fun hH108 => ?_)
        clear hK K hH107
        change wpAnyH _ _ _ _ _ _ _ (Act.put _ none _) _
        simp only [Act.put]
        refine wpAnyH_done (by kernel_rfl) ?_ _
        go_wp2
        go_roundw
        case rel =>
         refine ⟨i, qb106, qA106, qn106, qc106, bn, An, nn, cn, Nat.le_of_succ_le HJ.out, ?_, ?_, HD108.out.2⟩
         · rcases Nat.eq_zero_or_pos i with q | q
           · subst q; exact .inl ⟨rfl, by go_num⟩
           · obtain ⟨i', rfl⟩ : ∃ i', i = i' + 1 := ⟨i - 1, by omega⟩
             exact .inr ⟨i', rfl, by go_num⟩
         · rw [HG.out.1.2, ← HG.out.1.1, HG.out.2.2.1, HG.out.2.2.2]
           exact FVars.pick HD108.out.1 [5, 6, 7] (by decide) rfl
        case measure => simp [intOf]
      case d102 =>
       have hK := hK0.out
       clear hK0
       rw [if_pos (by kernel_rfl)]
       refine wp_go_val (.agg #[.bool bd, .slice Ad nd cd]) (load0 ((HD97.out.1.all 1 _ rfl).lies rfl) (.tmp 6) (by kernel_rfl) (by kernel_rfl)) ?_
       have HD109 := Lib.hid (And.intro (FVars.told HD97.out.1 (t := ⟨false, 0, bd, Ad, nd, cd, false, none, 0, 0, E, 0, 0⟩) (HD97.out.1.all 1 _ rfl).at_ rfl) HD97.out.2)
       refine hK _ _ (HZ.out.1.step HD109.out.2 rfl HR.out.2.2.2) (fun hH109 => ?_)
       clear hK K hH97
       change wpAnyH _ _ _ _ _ _ _ (Act.put _ (some 36) _) _
       simp only [Act.put, lyA, lyZ, lyS]
       refine wpAnyH_ready (rs := [4]) (by kernel_rfl) (by simp) ?_
       refine AllReadyH.cons rfl (fun K hK0 => ?d113) (AllReadyH.nil)
       have hK := hK0.out
       clear hK0
       rw [if_pos (by kernel_rfl)]
       refine wp_go_val (.agg #[.bool bn, .slice An nn cn]) (load0 ((HD109.out.1.all 3 _ rfl).lies rfl) (.tmp 5) (by kernel_rfl) (by kernel_rfl)) ?_
       have HD110 := Lib.hid (And.intro (FVars.told HD109.out.1 (t := ⟨false, 0, bn, An, nn, cn, false, none, 0, 0, N, 0, 0⟩) (HD109.out.1.all 3 _ rfl).at_ rfl) HD109.out.2)
       refine hK _ _ (HZ.out.1.step HD110.out.2 rfl HR.out.2.2.2) (fun hH110 => ?_)
       clear hK K hH109
       change wpAnyH _ _ _ _ _ _ _ (Act.put _ (some 34) _) _
       simp only [Act.put, lyA, lyZ, lyS]
       refine wpAnyH_ready (rs := [5]) (by kernel_rfl) (by simp) ?_
       refine AllReadyH.cons rfl (fun K hK0 => ?d114) (AllReadyH.nil)
       have hK := hK0.out
       clear hK0
       rw [if_pos (by kernel_rfl)]
       refine wp_go_call 86 #[(.agg #[.bool bz, .slice Az nz cz]), (.agg #[.bool bn, .slice An nn cn])] (fun _ => by kernel_rfl) ((HA.out.2.1 _ _ _ (HZ.out.2.step HD110.out.2 rfl) ((HD110.out.1.all 4 _ rfl).at_)).mono ?_)
       rintro e wq111 ⟨qv111, rfl, hq111, hb111⟩
       obtain ⟨qb111, qA111, qn111, qc111, rfl, hq111⟩ := open0 hq111
       have HD111 := Lib.hid (And.intro (FVars.told (HD110.out.1.step hb111 rfl) (t := ⟨false, 0, qb111, qA111, qn111, qc111, false, none, 0, 0, Q, 0, 0⟩) hq111 rfl) (below_then HD110.out.2 hb111))
       clear hq111 hb111 HD110
       refine ⟨(.agg #[.bool qb111, .slice qA111 qn111 qc111]), rfl, hK _ _ (HZ.out.1.step HD111.out.2 rfl HR.out.2.2.2) (fun hH111 => ?_)⟩
       clear hK K hH110
       change wpAnyH _ _ _ _ _ _ _ (Act.put _ (some 35) _) _
       simp only [Act.put, lyA, lyZ, lyS]
       refine wpAnyH_ready (rs := [7]) (by kernel_rfl) (by simp) ?_
       refine AllReadyH.cons rfl (fun K hK0 => ?d115) (AllReadyH.nil)
       have hK := hK0.out
       clear hK0
       rw [if_pos (by kernel_rfl)]
       refine wp_go_call 97 #[(.agg #[.bool qb111, .slice qA111 qn111 qc111]), (.agg #[.bool bd, .slice Ad nd cd])] (fun _ => by kernel_rfl) ((HA.out.2.2 _ _ _ ((HD111.out.1.all 0 _ rfl).at_) ((HD111.out.1.all 4 _ rfl).at_)).mono ?_)
       rintro e wq112 ⟨qv112, rfl, hq112, hb112⟩
       obtain ⟨qb112, qA112, qn112, qc112, rfl, hq112⟩ := open0 hq112
       have HD112 := Lib.hid (And.intro (FVars.told (HD111.out.1.step hb112 rfl) (t := ⟨false, 0, qb112, qA112, qn112, qc112, false, none, 0, 0, R, 0, 0⟩) hq112 rfl) (below_then HD111.out.2 hb112))
       clear hq112 hb112 HD111
       refine ⟨(.agg #[.bool qb112, .slice qA112 qn112 qc112]), rfl, hK _ _ (HZ.out.1.step HD112.out.2 rfl HR.out.2.2.2) (fun hH112 => ?_)⟩
       clear hK K hH111
       change wpAnyH _ _ _ _ _ _ _ (Act.put _ (some 37) _) _
       simp only [Act.put, lyA, lyZ, lyS]
       refine wpAnyH_ready (rs := [9]) (by kernel_rfl) (by simp) ?_
       refine AllReadyH.cons rfl (fun K hK0 => ?d116) (AllReadyH.nil)
       have hK := hK0.out
       clear hK0
       rw [if_pos (by kernel_rfl)]
       refine wp_go_skip (store0 ((HD112.out.1.all 6 _ rfl).lies rfl) ((HD112.out.1.all 6 _ rfl).frz rfl) qb112 qA112 qn112 qc112 (.tmp 5) (.tmp 37) (by kernel_rfl) (by kernel_rfl) (by kernel_rfl)) ?_
       have hu113 := FVars.over2 HD112.out.1 6 (s := ⟨true, rn, bn, An, nn, cn, false, none, 0, 0, N, 0, 0⟩) (t := ⟨false, 0, qb112, qA112, qn112, qc112, false, none, 0, 0, R, 0, 0⟩) rfl rfl lyK lyK ((HD112.out.1.all 0 _ rfl).at_)
       have hv113 : FVars w.heap.size (put2 (wq112) rn (.bool qb112) (.slice qA112 qn112 qc112)) [⟨false, 0, qb112, qA112, qn112, qc112, false, none, 0, 0, R, 0, 0⟩, ⟨false, 0, qb111, qA111, qn111, qc111, false, none, 0, 0, Q, 0, 0⟩, ⟨false, 0, bn, An, nn, cn, false, none, 0, 0, N, 0, 0⟩, ⟨false, 0, bd, Ad, nd, cd, false, none, 0, 0, E, 0, 0⟩, ⟨false, 0, bn, An, nn, cn, false, none, 0, 0, N, 0, 0⟩, ⟨true, rd, bd, Ad, nd, cd, false, none, 0, 0, E, 0, 0⟩, ⟨true, rn, qb112, qA112, qn112, qc112, false, none, 0, 0, R, 0, 0⟩, ⟨true, w.heap.size, false, none, 0, 0, false, none, 0, 0, 0, 1, 3⟩] := hu113
       clear hu113
       have hl113 : Below w.heap.size w (put2 (wq112) rn (.bool qb112) (.slice qA112 qn112 qc112)) := (HD112.out.2.setCell (p := ⟨rn, 0, none⟩) (HD112.out.1.up 6 _ rfl rfl) _).setCell (p := ⟨rn, 1, none⟩) (HD112.out.1.up 6 _ rfl rfl) _
       generalize (put2 (wq112) rn (.bool qb112) (.slice qA112 qn112 qc112)) = Wn113 at hv113 hl113 ⊢
       have HD113 := Lib.hid (And.intro hv113 hl113)
       clear hv113 hl113
       refine hK _ _ (HZ.out.1.step HD113.out.2 rfl HR.out.2.2.2) (fun hH113 => ?_)
       clear hK K hH112
       change wpAnyH _ _ _ _ _ _ _ (Act.put _ none _) _
       simp only [Act.put]
       refine wpAnyH_ready (rs := [10]) (by kernel_rfl) (by simp) ?_
       refine AllReadyH.cons rfl (fun K hK0 => ?d117) (AllReadyH.nil)
       have hK := hK0.out
       clear hK0
       rw [if_pos (by kernel_rfl)]
       refine wp_go_skip (store0 ((HD113.out.1.all 5 _ rfl).lies rfl) ((HD113.out.1.all 5 _ rfl).frz rfl) bn An nn cn (.tmp 6) (.tmp 38) (by kernel_rfl) (by kernel_rfl) (by kernel_rfl)) ?_
       have hu114 := FVars.over2 HD113.out.1 5 (s := ⟨true, rd, bd, Ad, nd, cd, false, none, 0, 0, E, 0, 0⟩) (t := ⟨false, 0, bn, An, nn, cn, false, none, 0, 0, N, 0, 0⟩) rfl rfl lyK lyK ((HD113.out.1.all 2 _ rfl).at_)
       have hv114 : FVars w.heap.size (put2 (Wn113) rd (.bool bn) (.slice An nn cn)) [⟨false, 0, qb112, qA112, qn112, qc112, false, none, 0, 0, R, 0, 0⟩, ⟨false, 0, qb111, qA111, qn111, qc111, false, none, 0, 0, Q, 0, 0⟩, ⟨false, 0, bn, An, nn, cn, false, none, 0, 0, N, 0, 0⟩, ⟨false, 0, bd, Ad, nd, cd, false, none, 0, 0, E, 0, 0⟩, ⟨false, 0, bn, An, nn, cn, false, none, 0, 0, N, 0, 0⟩, ⟨true, rd, bn, An, nn, cn, false, none, 0, 0, N, 0, 0⟩, ⟨true, rn, qb112, qA112, qn112, qc112, false, none, 0, 0, R, 0, 0⟩, ⟨true, w.heap.size, false, none, 0, 0, false, none, 0, 0, 0, 1, 3⟩] := hu114
       clear hu114
       have hl114 : Below w.heap.size w (put2 (Wn113) rd (.bool bn) (.slice An nn cn)) := (HD113.out.2.setCell (p := ⟨rd, 0, none⟩) (HD113.out.1.up 5 _ rfl rfl) _).setCell (p := ⟨rd, 1, none⟩) (HD113.out.1.up 5 _ rfl rfl) _
       generalize (put2 (Wn113) rd (.bool bn) (.slice An nn cn)) = Wn114 at hv114 hl114 ⊢
       have HD114 := Lib.hid (And.intro hv114 hl114)
       clear hv114 hl114
       refine hK _ _ (HZ.out.1.step HD114.out.2 rfl HR.out.2.2.2) (fun hH114 => ?_)
       clear hK K hH113
       change wpAnyH _ _ _ _ _ _ _ (Act.put _ none _) _
       simp only [Act.put]
       refine wpAnyH_done (by kernel_rfl) ?_ _
       go_wp2
       go_roundw
       case rel =>
        refine ⟨i, qb112, qA112, qn112, qc112, bn, An, nn, cn, Nat.le_of_succ_le HJ.out, ?_, ?_, HD114.out.2⟩
        · rcases Nat.eq_zero_or_pos i with q | q
          · subst q; exact .inl ⟨rfl, by go_num⟩
          · obtain ⟨i', rfl⟩ : ∃ i', i = i' + 1 := ⟨i - 1, by omega⟩
            exact .inr ⟨i', rfl, by go_num⟩
        · rw [HG.out.1.2, ← HG.out.1.1, HG.out.2.2.1, HG.out.2.2.2]
          exact FVars.pick HD114.out.1 [5, 6, 7] (by decide) rfl
       case measure => simp [intOf]
end Go.Proofs.YtpgbnegppehckaaGreat.FK
