/- What Make of the reference does. -/
import Derived.Test.YtllkajlmfbikhaaRSub
import Derived.Test.YtllkajlmfbikhaaMade
import Derived.StillTailTactics
namespace Go.Proofs.Ytllkajlmfbikhaa
open Go.RowKit
set_option linter.unusedSimpArgs false

/-- The digits of the first i limbs. -/
structure Halves (xs ds : List Nat) (i : Nat) : Prop where
  len : ds.length = 2 * i
  ok : Lm.Ok BD ds
  val : Lm.val BD ds = Lm.val B32 (xs.take i)

theorem Halves.step {xs ds : List Nat} {i d : Nat} (h : Halves xs ds i) (hi : i < xs.length) (hd : xs.getD i 0 = d) (hl : d < B32) : Halves xs (ds ++ [d % BD, d / BD]) (i + 1) := by
  have hb : d / BD < BD := by unfold BD B32 at *; omega
  refine ⟨by rw [List.length_append, h.len]; simp; omega, h.ok.append (.cons (Nat.mod_lt _ BD_pos) (.cons hb (.nil _))), ?_⟩
  rw [Lm.val_append, h.val, h.len, Lm.val_take_succ B32 xs i hi, hd]
  have e : BD ^ (2 * i) = B32 ^ i := by rw [Nat.pow_mul]; rfl
  rw [e]
  congr 2
  simp only [Lm.val]
  have := Nat.mod_add_div d BD
  omega

set_option maxRecDepth 100000 in
set_option maxHeartbeats 2000000 in
theorem RMake_any (b : Bool) (A : Option Addr) (c : Nat) (xs : List Nat) (w : World) (hx : Nums w .u32 A xs) (ho : Lm.Ok B32 xs) (hl : xs.length ≤ 400000) :
    Calls Try.prog 69 #[.bool b, .slice A xs.length c] w fun e w' => IsRef w w' (ofSign b (Lm.val B32 xs)) e := by
  obtain ⟨i0, hi0, hz0, hz1, hz2⟩ := info_parts Try.info3
  have HI := Lib.hid (And.intro hi0 (And.intro hz0 (And.intro hz1 hz2)))
  have hr0 := Res.new w 31
  have HX := Lib.hid (And.intro hr0 (And.intro hx ho))
  clear hi0 hz0 hz1 hz2 hr0 hx ho
  go_enter Try.func69, Try.ntmps69
  go_wp2
  go_loopw [5, 6] (fun dv iv wr => ∃ (i : Nat) (ds : List Nat), wr.ownsRow (w.heap.size + 1) 3 1 dv ds.length (cellsOf .i64 ds) ∧ iv = .int .i64 i ∧ i ≤ xs.length ∧ Halves xs ds i ∧ Below (w.heap.size + 1) (w.alloc (.cells #[.bool false, .slice none 0 0] 31)) wr) (fun _ iv _ => xs.length - (intOf iv).toNat)
  case atStart => exact ⟨0, [], World.ownsRow_nil _ _ _ _, rfl, Nat.zero_le _, ⟨rfl, .nil _, by simp [Lm.val]⟩, Below.refl _ _⟩
  case round =>
    obtain ⟨i, ds, hown, rfl, hi, hh, hbel⟩ := hrel
    obtain ⟨A5, c5, rfl, hle⟩ := own_form hown
    have hsz : w.heap.size + 1 ≤ wr.heap.size := by have := hbel.size; simpa using this
    have hbel' : Below (w.alloc (.cells #[.bool false, .slice none 0 0] 31)).heap.size (w.alloc (.cells #[.bool false, .slice none 0 0] 31)) wr := by rw [size_alloc]; exact hbel
    have hbw : Below w.heap.size w wr := below_then ((Below.refl _ _).alloc (Nat.le_refl _) _) hbel'
    by_cases hlt : i < xs.length
    · obtain ⟨ad, rfl, hadw0, hcell0⟩ := HX.out.2.1.at_ hlt
      have hadw : (ad.add i).block < w.heap.size := by rw [block_of_add]; exact hadw0
      have hcd : wr.cell? (ad.add i) = some (.int .u32 ((xs.getD i 0 : Nat) : Int)) := (hbw.cell (p := ad.add i) hadw).trans (hcell0 i hlt)
      have hlim : xs.getD i 0 < B32 := HX.out.2.2.getD B32_pos i
      clear hcell0 hadw0
      obtain ⟨d, hd⟩ : ∃ d, xs.getD i 0 = d := ⟨_, rfl⟩
      rw [hd] at hcd hlim
      have hadb : (ad.add i).block < wr.heap.size := World.block_lt_of_cell? wr _ hcd
      have d0 : (0 : Int) ≤ (d : Int) := Int.natCast_nonneg d
      have d1 : (d : Int) ≤ 4294967295 := by unfold B32 at hlim; omega
      have hlen2 : ds.length ≤ 800000 := by rw [hh.len]; omega
      have hi0 : (0 : Int) ≤ (i : Int) := Int.natCast_nonneg i
      have hi1 : (i : Int) < (xs.length : Int) := by omega
      have f1 : (d : Int).tmod 65536 = (d : Int) % 65536 := Int.tmod_eq_emod_of_nonneg d0
      have f2 : IntKind.i64.wrap ((d : Int) % 65536) = (d : Int) % 65536 := IntWalk.i64_in _ (by omega)
      have f3 : IntKind.u32.wrap ((d : Int) / 65536) = (d : Int) / 65536 := IntWalk.u32_in _ (by omega)
      have f4 : IntKind.i64.wrap ((d : Int) / 65536) = (d : Int) / 65536 := IntWalk.i64_in _ (by omega)
      have f5 : IntKind.u32.wrap ((d : Int) % 65536) = (d : Int) % 65536 := IntWalk.u32_in _ (by omega)
      have f6 : (d : Int).tdiv 65536 = (d : Int) / 65536 := Int.tdiv_eq_ediv_of_nonneg d0
      have HD := Lib.hid (And.intro hd (And.intro hlim (And.intro hh (And.intro hbel hbw))))
      clear hd hlim hh hbel hbel' hbw
      go_wp2_with fail
      refine wp_region_held_drew (S := (fun w' => w'.cell? (ad.add i) = some (.int .u32 (d : Int)))) (by kernel_rfl) (hcd) (fun hH0 => ?_)
      refine wpAnyH_take (i := 0) (v := ?v1) rfl (by kernel_rfl) (by kernel_rfl) (by kernel_rfl) (fun _ _ _ h => h) (Or.inl ⟨by rfl, ?y1⟩) hH0 ?r1
      case y1 => (intro w0 hS0; (try dsimp only at hS0); go_simp <;> with_reducible rfl)
      change wpAnyH _ _ _ _ _ _ _ (Act.put _ (some 13) _) _
      simp only [Act.put, List.setIfInBounds_toArray, List.set_cons_zero, List.set_cons_succ]
      refine wpAnyH_take (i := 1) (v := ?v2) rfl (by kernel_rfl) (by kernel_rfl) (by kernel_rfl) (fun _ _ _ h => h) (Or.inl ⟨by rfl, ?y2⟩) hH0 ?r2
      case y2 => (intro w0 hS0; (try dsimp only at hS0); go_simp <;> with_reducible rfl)
      change wpAnyH _ _ _ _ _ _ _ (Act.put _ (some 14) _) _
      simp only [Act.put, List.setIfInBounds_toArray, List.set_cons_zero, List.set_cons_succ]
      refine wpAnyH_take (i := 2) (v := ?v3) rfl (by kernel_rfl) (by kernel_rfl) (by kernel_rfl) (fun _ _ _ h => h) (Or.inl ⟨by rfl, ?y3⟩) hH0 ?r3
      case y3 => (intro w0 hS0; (try dsimp only at hS0); go_simp <;> with_reducible rfl)
      change wpAnyH _ _ _ _ _ _ _ (Act.put _ (some 15) _) _
      simp only [Act.put, List.setIfInBounds_toArray, List.set_cons_zero, List.set_cons_succ]
      refine wpAnyH_take (i := 3) (v := ?v4) rfl (by kernel_rfl) (by kernel_rfl) (by kernel_rfl) (fun _ _ _ h => h) (Or.inl ⟨by rfl, ?y4⟩) hH0 ?r4
      case y4 => (intro w0 hS0; (try dsimp only at hS0); go_simp <;> with_reducible rfl)
      change wpAnyH _ _ _ _ _ _ _ (Act.put _ (some 16) _) _
      simp only [Act.put, List.setIfInBounds_toArray, List.set_cons_zero, List.set_cons_succ]
      refine wpAnyH_take (i := 4) (v := ?v5) rfl (by kernel_rfl) (by kernel_rfl) (by kernel_rfl) (fun _ _ _ h => h) (Or.inl ⟨by rfl, ?y5⟩) hH0 ?r5
      case y5 => (intro w0 hS0; (try dsimp only at hS0); go_simp <;> with_reducible rfl)
      change wpAnyH _ _ _ _ _ _ _ (Act.put _ (some 17) _) _
      simp only [Act.put, List.setIfInBounds_toArray, List.set_cons_zero, List.set_cons_succ]
      refine wpAnyH_take (i := 5) (v := ?v6) rfl (by kernel_rfl) (by kernel_rfl) (by kernel_rfl) (fun _ _ _ h => h) (Or.inl ⟨by rfl, ?y6⟩) hH0 ?r6
      case y6 => (intro w0 hS0; (try dsimp only at hS0); go_simp <;> with_reducible rfl)
      change wpAnyH _ _ _ _ _ _ _ (Act.put _ (some 18) _) _
      simp only [Act.put, List.setIfInBounds_toArray, List.set_cons_zero, List.set_cons_succ]
      refine wpAnyH_take (i := 6) (v := ?v7) rfl (by kernel_rfl) (by kernel_rfl) (by kernel_rfl) (fun _ _ _ h => h) (Or.inl ⟨by rfl, ?y7⟩) hH0 ?r7
      case y7 => (intro w0 hS0; (try dsimp only at hS0); go_simp <;> with_reducible rfl)
      change wpAnyH _ _ _ _ _ _ _ (Act.put _ (some 19) _) _
      simp only [Act.put, List.setIfInBounds_toArray, List.set_cons_zero, List.set_cons_succ]
      refine wpAnyH_take (i := 7) (v := ?v8) rfl (by kernel_rfl) (by kernel_rfl) (by kernel_rfl) (fun _ _ _ h => h) (Or.inl ⟨by rfl, ?y8⟩) hH0 ?r8
      case y8 => (intro w0 hS0; (try dsimp only at hS0); go_simp <;> with_reducible rfl)
      change wpAnyH _ _ _ _ _ _ _ (Act.put _ (some 20) _) _
      simp only [Act.put, List.setIfInBounds_toArray, List.set_cons_zero, List.set_cons_succ]
      refine wpAnyH_take (i := 8) (v := ?v9) rfl (by kernel_rfl) (by kernel_rfl) (by kernel_rfl) (fun _ _ _ h => h) (Or.inl ⟨by rfl, ?y9⟩) hH0 ?r9
      case y9 => (intro w0 hS0; (try dsimp only at hS0); go_simp <;> with_reducible rfl)
      change wpAnyH _ _ _ _ _ _ _ (Act.put _ (some 21) _) _
      simp only [Act.put, List.setIfInBounds_toArray, List.set_cons_zero, List.set_cons_succ]
      refine wpAnyH_take (i := 9) (v := ?v10) rfl (by kernel_rfl) (by kernel_rfl) (by kernel_rfl) (fun _ _ _ h => h) (Or.inl ⟨by rfl, ?y10⟩) hH0 ?r10
      case y10 => (intro w0 hS0; (try dsimp only at hS0); go_simp <;> with_reducible rfl)
      change wpAnyH _ _ _ _ _ _ _ (Act.put _ (some 22) _) _
      simp only [Act.put, List.setIfInBounds_toArray, List.set_cons_zero, List.set_cons_succ]
      refine wpAnyH_take (i := 10) (v := ?v11) rfl (by kernel_rfl) (by kernel_rfl) (by kernel_rfl) (fun _ _ _ h => h) (Or.inl ⟨by rfl, ?y11⟩) hH0 ?r11
      case y11 => (intro w0 hS0; (try dsimp only at hS0); go_simp <;> with_reducible rfl)
      change wpAnyH _ _ _ _ _ _ _ (Act.put _ (some 23) _) _
      simp only [Act.put, List.setIfInBounds_toArray, List.set_cons_zero, List.set_cons_succ]
      refine wpAnyH_take (i := 11) (v := ?v12) rfl (by kernel_rfl) (by kernel_rfl) (by kernel_rfl) (fun _ _ _ h => h) (Or.inl ⟨by rfl, ?y12⟩) hH0 ?r12
      case y12 => (intro w0 hS0; (try dsimp only at hS0); go_simp <;> with_reducible rfl)
      change wpAnyH _ _ _ _ _ _ _ (Act.put _ (some 24) _) _
      simp only [Act.put, List.setIfInBounds_toArray, List.set_cons_zero, List.set_cons_succ]
      refine wpAnyH_take (i := 12) (v := ?v13) rfl (by kernel_rfl) (by kernel_rfl) (by kernel_rfl) (fun _ _ _ h => h) (Or.inl ⟨by rfl, ?y13⟩) hH0 ?r13
      case y13 => (intro w0 hS0; (try dsimp only at hS0); go_simp <;> with_reducible rfl)
      change wpAnyH _ _ _ _ _ _ _ (Act.put _ (some 25) _) _
      simp only [Act.put, List.setIfInBounds_toArray, List.set_cons_zero, List.set_cons_succ]
      refine wpAnyH_ready (rs := [13]) (by kernel_rfl) (by simp) ?_
      refine AllReadyH.cons rfl (fun K hK0 => ?_) AllReadyH.nil
      have hK := hK0.out
      clear hK0
      rw [if_pos (by rfl)]
      go_simp
      (try dsimp only)
      refine hK _ _ ((World.cell?_alloc_lt _ _ _ hadb).trans hcd) (fun hH1 => ?_)
      clear hK K hH0
      (try simp only [Act.put, List.setIfInBounds_toArray, List.set_cons_zero, List.set_cons_succ])
      refine wpAnyH_ready (rs := [14]) (by kernel_rfl) (by simp) ?_
      refine AllReadyH.cons rfl (fun K hK0 => ?_) AllReadyH.nil
      have hK := hK0.out
      clear hK0
      rw [if_pos (by rfl)]
      refine wp_append_own _ (.tmp 13) (.tmp 26) 29 ?eho (w.heap.size + 1) 3 i0 (.int .i64 0) 1 8 Try.underlying29 HI.out.1 HI.out.2.1 HI.out.2.2.1 HI.out.2.2.2 rfl (by decide) (.slice A5 ds.length c5) ds.length (cellsOf .i64 ds) ?ehs (hown.alloc (.cells #[.int .i64 ((d : Int) % 65536), .int .i64 ((d : Int) / 65536)] 3)) ⟨wr.heap.size, 0, none⟩ 2 2 [.int .i64 ((d : Int) % 65536), .int .i64 ((d : Int) / 65536)] ?ehx rfl (cell_two_new wr (.int .i64 ((d : Int) % 65536)) (.int .i64 ((d : Int) / 65536)) 3) (by simp [Value.oneCell']) (by unfold maxLen; omega) (by omega) (by simp; omega) ?egoal
      case eho => rfl
      case ehs => rfl
      case ehx => rfl
      intro v1 w1 hown1 hg1 _
      have hb1 : Below (w.heap.size + 1) wr w1 := (((Below.refl _ _).drew).alloc hsz _).grown hg1 (by simp; omega) (fun k hk => (hown.lt k hk).1)
      (try dsimp only)
      refine hK _ _ ((hb1.cell (p := ad.add i) (Nat.lt_succ_of_lt hadw)).trans hcd) (fun hH2 => ?_)
      clear hK K hH1
      (try simp only [Act.put, List.setIfInBounds_toArray, List.set_cons_zero, List.set_cons_succ])
      refine wpAnyH_take (i := 15) (v := ?v14) rfl (by kernel_rfl) (by kernel_rfl) (by kernel_rfl) (fun _ _ _ h => h) (Or.inl ⟨by rfl, ?y14⟩) hH2 ?r14
      case y14 => (intro w0 hS0; (try dsimp only at hS0); go_simp <;> with_reducible rfl)
      change wpAnyH _ _ _ _ _ _ _ (Act.put _ (some 5) _) _
      simp only [Act.put, List.setIfInBounds_toArray, List.set_cons_zero, List.set_cons_succ]
      refine wpAnyH_done (by kernel_rfl) ?_ _
      go_wp2
      go_roundw
      case rel =>
        have hst := HD.out.2.2.1.step hlt HD.out.1 HD.out.2.1
        refine ⟨i + 1, ds ++ [d % BD, d / BD], ?_, by go_num, by omega, hst, HD.out.2.2.2.1.trans hb1⟩
        have e : cellsOf .i64 (ds ++ [d % BD, d / BD]) = cellsOf .i64 ds ++ [.int .i64 ((d : Int) % 65536), .int .i64 ((d : Int) / 65536)] := by
          simp [cellsOf, BD]
        rw [e, List.length_append]
        exact hown1
      case measure => simp [intOf]; omega
    · obtain rfl : i = xs.length := by omega
      have k1 := HX.out.1.step hbel' rfl (by simp)
      have hlen2 : ds.length ≤ 1000000 := by rw [hh.len]; omega
      have hm := made_to b A5 c5 ds (ofSign b (Lm.val B32 xs)) wr (Nums.of_own hown rfl) hh.ok hlen2 hle (by rw [hh.val, List.take_length])
      have HM := Lib.hid hm
      clear hm hh
      go_wp2_with fail
      refine HM.out.mono ?_
      rintro e w2 ⟨v2, rfl, ⟨b4, A4, c4, zs4, rfl, hsg4, hl4⟩, hb2⟩
      have k2 := k1.step hb2 rfl (by omega)
      obtain ⟨⟨hr0, hr1⟩, hf0, hf1⟩ := id k2
      go_wp2
      refine bodyPost_ret (v := .agg #[.bool b4, .slice A4 zs4.length c4]) (by simp [results, Try.results69, go_sem, hr0, hr1]) rfl ?_
      exact ref_stored k2 hsg4 hl4 (below_then hbw hb2) (Nat.le_refl _)
end Go.Proofs.Ytllkajlmfbikhaa
