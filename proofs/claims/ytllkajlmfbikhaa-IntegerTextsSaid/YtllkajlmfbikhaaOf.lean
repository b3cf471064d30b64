/- What Of of the laws of layer 2 does: the program's integer and the reference's. -/
import Derived.Test.YtllkajlmfbikhaaRInt64
import Derived.Test.YtllkajlmfbikhaaShortN
namespace Go.Proofs.Ytllkajlmfbikhaa
open Go.RowKit
set_option linter.unusedSimpArgs false

def IsOf (w w' : World) (z : Int) (e : Ending) : Prop := ∃ v1 v2, e = .returned (.tuple #[v1, v2]) ∧ IntAt w' v1 z ∧ RefAt w' v2 z ∧ Below w.heap.size w w'

theorem Res.alloc {w : World} {r : Nat} (t : Res w r) (hl : r < w.heap.size) (o : Obj) : Res (w.alloc o) r := t.step ((Below.refl _ _).alloc (Nat.le_refl _) o) rfl hl

set_option maxRecDepth 100000 in
set_option maxHeartbeats 4000000 in
theorem Of_any (b : Bool) (A : Option Addr) (c : Nat) (xs : List Nat) (w : World) (hx : Nums w .u32 A xs) (ho : Lm.Ok B32 xs) (hl : xs.length ≤ 400000) (hc : xs.length ≤ c) :
    Calls Try.prog 16 #[.agg #[.bool b, .slice A xs.length c]] w fun e w' => IsOf w w' (ofSign b (Lm.val B32 xs)) e := by
  have hx1 := Two.new w (.bool b) (.slice A xs.length c) 24
  have hx2 := (hx1.alloc (by simp) (.cells #[.bool false, .slice none 0 0] 28)).alloc (by simp; omega) (.cells #[.bool false, .slice none 0 0] 31)
  have hp0 := Res.new (w.alloc (.cells #[.bool b, .slice A xs.length c] 24)) 28
  rw [size_alloc] at hp0
  have hp := hp0.alloc (by simp) (.cells #[.bool false, .slice none 0 0] 31)
  have hq := Res.new ((w.alloc (.cells #[.bool b, .slice A xs.length c] 24)).alloc (.cells #[.bool false, .slice none 0 0] 28)) 31
  rw [size_alloc, size_alloc] at hq
  have hbel : Below w.heap.size w (((w.alloc (.cells #[.bool b, .slice A xs.length c] 24)).alloc (.cells #[.bool false, .slice none 0 0] 28)).alloc (.cells #[.bool false, .slice none 0 0] 31)) := (((Below.refl _ _).alloc (Nat.le_refl _) _).alloc (by simp) _).alloc (by simp; omega) _
  have hsz : (((w.alloc (.cells #[.bool b, .slice A xs.length c] 24)).alloc (.cells #[.bool false, .slice none 0 0] 28)).alloc (.cells #[.bool false, .slice none 0 0] 31)).heap.size = w.heap.size + 3 := by simp
  have hn := hx.below hbel
  have H := Lib.hid (And.intro hbel (And.intro hx2 (And.intro hp (And.intro hq (And.intro hsz hn)))))
  clear hx1 hx2 hp0 hp hq hbel hsz hn hx
  go_enter Try.func16, Try.ntmps16
  go_wp2_with fail
  refine wp_region_held_drew (S := (fun w' => w'.cell? ⟨w.heap.size, 0, none⟩ = some (.bool b) ∧ w'.cell? ⟨w.heap.size, 1, none⟩ = some (.slice A xs.length c))) (by kernel_rfl) (H.out.2.1) (fun hH0 => ?_)
  refine wpAnyH_take (i := 0) (v := ?v1) rfl (by kernel_rfl) (by kernel_rfl) (by kernel_rfl) (fun _ _ _ h => h) (Or.inl ⟨by rfl, ?y1⟩) hH0 ?r1
  case y1 => (intro w0 hS0; (try dsimp only at hS0); go_simp <;> with_reducible rfl)
  change wpAnyH _ _ _ _ _ _ _ (Act.put _ (some 4) _) _
  simp only [Act.put, List.setIfInBounds_toArray, List.set_cons_zero, List.set_cons_succ]
  refine wpAnyH_take (i := 1) (v := ?v2) rfl (by kernel_rfl) (by kernel_rfl) (by kernel_rfl) (fun _ _ _ h => h) (Or.inl ⟨by rfl, ?y2⟩) hH0 ?r2
  case y2 => (intro w0 hS0; (try dsimp only at hS0); go_simp <;> with_reducible rfl)
  change wpAnyH _ _ _ _ _ _ _ (Act.put _ (some 5) _) _
  simp only [Act.put, List.setIfInBounds_toArray, List.set_cons_zero, List.set_cons_succ]
  refine wpAnyH_take (i := 2) (v := ?v3) rfl (by kernel_rfl) (by kernel_rfl) (by kernel_rfl) (fun _ _ _ h => h) (Or.inl ⟨by rfl, ?y3⟩) hH0 ?r3
  case y3 => (intro w0 hS0; (try dsimp only at hS0); go_simp <;> with_reducible rfl)
  change wpAnyH _ _ _ _ _ _ _ (Act.put _ (some 6) _) _
  simp only [Act.put, List.setIfInBounds_toArray, List.set_cons_zero, List.set_cons_succ]
  refine wpAnyH_take (i := 3) (v := ?v4) rfl (by kernel_rfl) (by kernel_rfl) (by kernel_rfl) (fun _ _ _ h => h) (Or.inl ⟨by rfl, ?y4⟩) hH0 ?r4
  case y4 => (intro w0 hS0; (try dsimp only at hS0); go_simp <;> with_reducible rfl)
  change wpAnyH _ _ _ _ _ _ _ (Act.put _ (some 7) _) _
  simp only [Act.put, List.setIfInBounds_toArray, List.set_cons_zero, List.set_cons_succ]
  refine wpAnyH_take (i := 5) (v := ?v5) rfl (by kernel_rfl) (by kernel_rfl) (by kernel_rfl) (fun _ _ _ h => h) (Or.inl ⟨by rfl, ?y5⟩) hH0 ?r5
  case y5 => (intro w0 hS0; (try dsimp only at hS0); go_simp <;> with_reducible rfl)
  change wpAnyH _ _ _ _ _ _ _ (Act.put _ (some 9) _) _
  simp only [Act.put, List.setIfInBounds_toArray, List.set_cons_zero, List.set_cons_succ]
  refine wpAnyH_take (i := 6) (v := ?v6) rfl (by kernel_rfl) (by kernel_rfl) (by kernel_rfl) (fun _ _ _ h => h) (Or.inl ⟨by rfl, ?y6⟩) hH0 ?r6
  case y6 => (intro w0 hS0; (try dsimp only at hS0); go_simp <;> with_reducible rfl)
  change wpAnyH _ _ _ _ _ _ _ (Act.put _ (some 10) _) _
  simp only [Act.put, List.setIfInBounds_toArray, List.set_cons_zero, List.set_cons_succ]
  refine wpAnyH_take (i := 7) (v := ?v7) rfl (by kernel_rfl) (by kernel_rfl) (by kernel_rfl) (fun _ _ _ h => h) (Or.inl ⟨by rfl, ?y7⟩) hH0 ?r7
  case y7 => (intro w0 hS0; (try dsimp only at hS0); go_simp <;> with_reducible rfl)
  change wpAnyH _ _ _ _ _ _ _ (Act.put _ (some 11) _) _
  simp only [Act.put, List.setIfInBounds_toArray, List.set_cons_zero, List.set_cons_succ]
  refine wpAnyH_take (i := 8) (v := ?v8) rfl (by kernel_rfl) (by kernel_rfl) (by kernel_rfl) (fun _ _ _ h => h) (Or.inl ⟨by rfl, ?y8⟩) hH0 ?r8
  case y8 => (intro w0 hS0; (try dsimp only at hS0); go_simp <;> with_reducible rfl)
  change wpAnyH _ _ _ _ _ _ _ (Act.put _ (some 12) _) _
  simp only [Act.put, List.setIfInBounds_toArray, List.set_cons_zero, List.set_cons_succ]
  refine wpAnyH_ready (rs := [4]) (by kernel_rfl) (by simp) ?_
  refine AllReadyH.cons rfl (fun K hK0 => ?_) AllReadyH.nil
  have hK := hK0.out
  clear hK0
  rw [if_pos (by rfl)]
  go_simp
  refine (Make_any b A c xs _ (by exact H.out.2.2.2.2.2) ho (by omega) hc).mono ?_
  rintro e w1 ⟨v1, rfl, ⟨b1, A1, c1, zs1, rfl, hs1, hl1⟩, hb1⟩
  have k1x := H.out.2.1.step hb1 rfl (by rw [H.out.2.2.2.2.1]; omega)
  have k1p := H.out.2.2.1.step hb1 rfl (by rw [H.out.2.2.2.2.1]; omega)
  have k1q := H.out.2.2.2.1.step hb1 rfl (by rw [H.out.2.2.2.2.1]; omega)
  have n1 := H.out.2.2.2.2.2.below (w := _) (w' := w1) ⟨hb1.os, hb1.tape, hb1.output, hb1.size, hb1.block⟩
  have bl1 := begun_then H.out.1 hb1 rfl rfl rfl rfl
  have j1 : w.heap.size + 3 ≤ w1.heap.size := Nat.le_trans (Nat.le_of_eq H.out.2.2.2.2.1.symm) hb1.size
  (try dsimp only)
  refine hK _ _ (k1x) (fun hH1 => ?_)
  clear hK K hH0
  (try simp only [Act.put, List.setIfInBounds_toArray, List.set_cons_zero, List.set_cons_succ])
  refine wpAnyH_ready (rs := [9]) (by kernel_rfl) (by simp) ?_
  refine AllReadyH.cons rfl (fun K hK0 => ?_) AllReadyH.nil
  have hK := hK0.out
  clear hK0
  rw [if_pos (by rfl)]
  go_simp
  refine (RMake_any b A c xs _ (by exact n1) ho hl).mono ?_
  rintro e w2 ⟨v2, rfl, ⟨b2, A2, c2, zs2, rfl, hs2, hl2⟩, hb2⟩
  have k2x := k1x.step hb2 rfl (by omega)
  have k2p := k1p.step hb2 rfl (by omega)
  have k2q := k1q.step hb2 rfl (by omega)
  have hl1' := hl1.below hb2
  have bl2 := below_then bl1 hb2
  have j2 : w.heap.size + 3 ≤ w2.heap.size := Nat.le_trans j1 hb2.size
  obtain ⟨⟨p0, p1⟩, pf0, pf1⟩ := id k2p
  obtain ⟨⟨q0, q1⟩, qf0, qf1⟩ := id k2q
  (try dsimp only)
  refine hK _ _ (k2x) (fun hH2 => ?_)
  clear hK K hH1
  (try simp only [Act.put, List.setIfInBounds_toArray, List.set_cons_zero, List.set_cons_succ])
  refine wpAnyH_ready (rs := [10]) (by kernel_rfl) (by simp) ?_
  refine AllReadyH.cons rfl (fun K hK0 => ?_) AllReadyH.nil
  have hK := hK0.out
  clear hK0
  rw [if_pos (by rfl)]
  go_simp
  (try dsimp only)
  refine hK _ _ (k2x.far (r := w.heap.size + 1) (by omega) (.bool b1) (.slice A1 zs1.length c1)) (fun hH3 => ?_)
  clear hK K hH2
  (try simp only [Act.put, List.setIfInBounds_toArray, List.set_cons_zero, List.set_cons_succ])
  refine wpAnyH_ready (rs := [11]) (by kernel_rfl) (by simp) ?_
  refine AllReadyH.cons rfl (fun K hK0 => ?_) AllReadyH.nil
  have hK := hK0.out
  clear hK0
  rw [if_pos (by rfl)]
  go_simp
  (try dsimp only)
  refine hK _ _ ((k2x.far (r := w.heap.size + 1) (by omega) (.bool b1) (.slice A1 zs1.length c1)).far (r := w.heap.size + 1 + 1) (by omega) (.bool b2) (.slice A2 zs2.length c2)) (fun hH4 => ?_)
  clear hK K hH3
  (try simp only [Act.put, List.setIfInBounds_toArray, List.set_cons_zero, List.set_cons_succ])
  refine wpAnyH_done (by kernel_rfl) ?_ _
  go_wp2_with fail
  have e1 := (k2p.1.stored (.bool b1) (.slice A1 zs1.length c1)).far (r := w.heap.size + 1 + 1) (by omega) (.bool b2) (.slice A2 zs2.length c2)
  have e0 := k2q.1.far (r := w.heap.size + 1) (by omega) (.bool b1) (.slice A1 zs1.length c1)
  have e2 := e0.stored (.bool b2) (.slice A2 zs2.length c2)
  obtain ⟨e1a, e1b⟩ := id e1
  obtain ⟨e2a, e2b⟩ := id e2
  have hn3 := (hl1'.2.1.res k2p.1 (.bool b1) (.slice A1 zs1.length c1)).res e0 (.bool b2) (.slice A2 zs2.length c2)
  have hn4 := (hl2.2.1.res k2p.1 (.bool b1) (.slice A1 zs1.length c1)).res e0 (.bool b2) (.slice A2 zs2.length c2)
  refine bodyPost_ret (v := .tuple #[.agg #[.bool b1, .slice A1 zs1.length c1], .agg #[.bool b2, .slice A2 zs2.length c2]]) (by simp [results, Try.results16, go_sem, e1a, e1b, e2a, e2b]) rfl ?_
  exact ⟨_, _, rfl, ⟨b1, A1, c1, zs1, rfl, hs1, hl1'.1, hn3, hl1'.2.2⟩, ⟨b2, A2, c2, zs2, rfl, hs2, hl2.1, hn4, hl2.2.2⟩, (((bl2.setCell (p := ⟨w.heap.size + 1, 0, none⟩) (by simp) _).setCell (p := ⟨w.heap.size + 1, 1, none⟩) (by simp) _).setCell (p := ⟨w.heap.size + 1 + 1, 0, none⟩) (by simp; omega) _).setCell (p := ⟨w.heap.size + 1 + 1, 1, none⟩) (by simp; omega) _⟩
end Go.Proofs.Ytllkajlmfbikhaa
