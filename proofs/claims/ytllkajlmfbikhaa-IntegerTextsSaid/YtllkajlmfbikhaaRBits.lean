/- What Bits and Count of the reference do. -/
import Derived.Test.YtllkajlmfbikhaaRSet
import Derived.Test.YtllkajlmfbikhaaRMake
import Derived.Deep.DeepCutAuto
namespace Go.Proofs.Ytllkajlmfbikhaa
open Go.RowKit
set_option linter.unusedSimpArgs false

theorem Try.info4 : (Try.prog.info? 4).map (fun i => (i.zero, i.size, i.bytes)) = some (some (.bool false), 1, 1) := by kernel_rfl

/-- A slice of n bools. -/
def BoolsAt (w : World) (A : Option Addr) (f : Nat → Bool) (n : Nat) : Prop :=
  0 < n → ∃ ad, A = some ad ∧ ad.block < w.heap.size ∧ ∀ j, j < n → w.cell? (ad.add j) = some (.bool (f j))
def IsBits (w w' : World) (f : Nat → Bool) (n : Nat) (e : Ending) : Prop := ∃ A c, e = .returned (.slice A n c) ∧ BoolsAt w' A f n ∧ Below w.heap.size w w'
def boolCells (f : Nat → Bool) (n : Nat) : List Value := (List.range n).map fun j => Value.bool (f j)
theorem boolCells_succ (f : Nat → Bool) (n : Nat) : boolCells f (n + 1) = boolCells f n ++ [.bool (f n)] := by
  unfold boolCells
  rw [List.range_succ, List.map_append]
  rfl
theorem bools_of_own {w : World} {base : Nat} {e : TypeId} {A : Option Addr} {n c : Nat} {f : Nat → Bool} (h : w.ownsRow base e 1 (.slice A n c) n (boolCells f n)) : BoolsAt w A f n := fun hn => by
  rcases h.2 with ⟨hv, h0⟩ | ⟨g, cap, cur, hv, _, hg, hnc, _, _, _⟩
  · omega
  · simp only [Value.slice.injEq] at hv
    obtain ⟨rfl, _, _⟩ := hv
    refine ⟨_, rfl, (Array.getElem?_eq_some_iff.1 hg).1, fun j hj => ?_⟩
    refine h.cells (g := g) rfl j _ ?_
    unfold boolCells
    rw [List.getElem?_map, List.getElem?_range hj]
    rfl
theorem own_below {w w' : World} {B e size n : Nat} {v : Value} {xs : List Value} (h : w.ownsRow B e size v n xs) (hb : Below w.heap.size w w') : w'.ownsRow B e size v n xs :=
  h.kept (row := none) ⟨hb.os, hb.tape, hb.output, hb.size, fun k hk _ => hb.block k hk⟩ (Classical.em _)

/-- Bits' two variables: x in block s, y in block s + 1. -/
structure YX (w : World) (s : Nat) (b : Bool) (a u v : Value) (y : Int) : Prop where
  lt : s + 1 < w.heap.size
  cx : Two w s (.bool b) a
  cy : Two w (s + 1) u v
  iy : RefAt w (.agg #[u, v]) y
theorem YX.step {W0 W w1 : World} {s : Nat} {b : Bool} {a u v : Value} {y : Int} (t : YX W0 s b a u v y) (hb : Below W.heap.size W w1) (hh : W.heap = W0.heap) : YX w1 s b a u v y :=
  ⟨Nat.lt_of_lt_of_le t.lt (by rw [← hh]; exact hb.size), t.cx.step hb hh (by have := t.lt; omega), t.cy.step hb hh t.lt, t.iy.step hb hh⟩
theorem YX.alloc {w : World} {s : Nat} {b : Bool} {a u v : Value} {y : Int} (t : YX w s b a u v y) (o : Obj) : YX (w.alloc o) s b a u v y := t.step ((Below.refl _ _).alloc (Nat.le_refl _) o) rfl
theorem YX.cells {w : World} {s : Nat} {b : Bool} {a u v : Value} {y : Int} (t : YX w s b a u v y) :
    w.cell? ⟨s, 0, none⟩ = some (.bool b) ∧ w.cell? ⟨s + 1, 0, none⟩ = some u ∧ w.cell? ⟨s + 1, 1, none⟩ = some v := ⟨t.cx.1, t.cy.1, t.cy.2⟩

theorem mag_opp (z : Int) (h : z < 0) : (-1 - z).natAbs = magOf z := by unfold magOf; rw [if_pos h]; omega
theorem mag_fit {z : Int} {m : Nat} (h : z.natAbs < BD ^ m) : magOf z < BD ^ m := Nat.lt_of_le_of_lt (mag_le z) h

set_option maxRecDepth 100000 in
set_option maxHeartbeats 4000000 in
theorem bits_pos (A : Option Addr) (c : Nat) (ds : List Nat) (z : Int) (n m : Nat) (w : World) (hs : SignOf false z) (hd : Digs w A c ds z.natAbs) (hm0 : 0 < m) (hm : m ≤ 900000) (hz : z.natAbs < BD ^ m) (hn : n ≤ 20000000) :
    Calls Try.prog 81 #[.agg #[.bool false, .slice A ds.length c], .int .i64 (n : Int)] w fun e w' => IsBits w w' (fun j => bitB (magOf z) j) n e := by
  obtain ⟨i0, hi0, hz0, hz1, hz2⟩ := info_parts Try.info4
  have HI := Lib.hid (And.intro hi0 (And.intro hz0 (And.intro hz1 hz2)))
  clear hi0 hz0 hz1 hz2
  have hbel : Below w.heap.size w ((w.alloc (.cells #[.bool false, .slice A ds.length c] 31)).alloc (.cells #[.bool false, .slice A ds.length c] 31)) := ((Below.refl _ _).alloc (Nat.le_refl _) _).alloc (by simp) _
  have hx0 := (Two.new w (.bool false) (.slice A ds.length c) 31).alloc (by simp) (.cells #[.bool false, .slice A ds.length c] 31)
  have hy0 := Two.new (w.alloc (.cells #[.bool false, .slice A ds.length c] 31)) (.bool false) (.slice A ds.length c) 31
  rw [size_alloc] at hy0
  have hat : RefAt ((w.alloc (.cells #[.bool false, .slice A ds.length c] 31)).alloc (.cells #[.bool false, .slice A ds.length c] 31)) (.agg #[.bool false, .slice A ds.length c]) z := ⟨false, A, c, ds, rfl, hs, hd.below hbel⟩
  have hT0 : YX _ w.heap.size false (.slice A ds.length c) (.bool false) (.slice A ds.length c) z := ⟨by simp, hx0, hy0, hat⟩
  obtain ⟨mz, hmz⟩ : ∃ mz, magOf z = mz := ⟨_, rfl⟩
  have hy : z.natAbs = mz := (mag_pos (sign_of_pos hs)).trans hmz
  have H := Lib.hid (And.intro hz (And.intro hy hmz))
  have HB0 := Lib.hid (And.intro hbel hT0)
  obtain ⟨f, hf⟩ : ∃ f : Nat → Bool, (fun j => bitB (magOf z) j) = f := ⟨_, rfl⟩
  have hfi : ∀ i, f i = bitB mz i := fun i => by rw [← hf, ← hmz]
  rw [hf]
  have HF := Lib.hid hfi
  clear hbel hT0 hat hx0 hy0 hs hd hz hy hmz hf hfi
  go_enter Try.func81, Try.ntmps81
  go_wp2_with fail
  obtain ⟨u, v, w0, hT, hBw, hWe⟩ : ∃ u v, ∃ w0 : World, YX w0 w.heap.size false (.slice A ds.length c) u v z ∧ Below w.heap.size w w0 ∧ w0 = ((w.alloc (.cells #[.bool false, .slice A ds.length c] 31)).alloc (.cells #[.bool false, .slice A ds.length c] 31)) := ⟨_, _, _, HB0.out.2, HB0.out.1, rfl⟩
  rw [← hWe]
  have HT := Lib.hid hT
  have HBW := Lib.hid hBw
  clear hT hBw hWe
  go_loopw [6, 7] (fun ov iv wr => ∃ i : Nat, wr.ownsRow w0.heap.size 4 1 ov i (boolCells f i) ∧ iv = .int .i64 i ∧ i ≤ n ∧ Below w0.heap.size w0 wr) (fun _ iv _ => n - (intOf iv).toNat)
  case atStart => exact ⟨0, World.ownsRow_nil _ _ _ _, rfl, Nat.zero_le _, Below.refl _ _⟩
  case round =>
    obtain ⟨i, hown, rfl, hi, hbel⟩ := hrel
    obtain ⟨A5, c5, rfl, hle⟩ := own_form hown
    have hsz : w0.heap.size ≤ wr.heap.size := hbel.size
    have HB := Lib.hid hbel
    have T := HT.out.step hbel rfl
    by_cases hlt : i < n
    · have hfi := HF.out i
      clear hbel
      go_wp2_with fail
      refine wp_region_held_drew (S := (fun w' => w'.cell? ⟨w.heap.size, 0, none⟩ = some (.bool false) ∧ w'.cell? ⟨w.heap.size + 1, 0, none⟩ = some u ∧ w'.cell? ⟨w.heap.size + 1, 1, none⟩ = some v)) (by kernel_rfl) (T.cells) (fun hH0 => ?_)
      refine wpAnyH_take (i := 0) (v := ?v1) rfl (by kernel_rfl) (by kernel_rfl) (by kernel_rfl) (fun _ _ _ h => h) (Or.inl ⟨by rfl, ?y1⟩) hH0 ?r1
      case y1 => (intro w0 hS0; (try dsimp only at hS0); go_simp <;> with_reducible rfl)
      change wpAnyH _ _ _ _ _ _ _ (Act.put _ (some 19) _) _
      simp only [Act.put, List.setIfInBounds_toArray, List.set_cons_zero, List.set_cons_succ]
      refine wpAnyH_take (i := 1) (v := ?v2) rfl (by kernel_rfl) (by kernel_rfl) (by kernel_rfl) (fun _ _ _ h => h) (Or.inl ⟨by rfl, ?y2⟩) hH0 ?r2
      case y2 => (intro w0 hS0; (try dsimp only at hS0); go_simp <;> with_reducible rfl)
      change wpAnyH _ _ _ _ _ _ _ (Act.put _ (some 20) _) _
      simp only [Act.put, List.setIfInBounds_toArray, List.set_cons_zero, List.set_cons_succ]
      refine wpAnyH_take (i := 2) (v := ?v3) rfl (by kernel_rfl) (by kernel_rfl) (by kernel_rfl) (fun _ _ _ h => h) (Or.inl ⟨by rfl, ?y3⟩) hH0 ?r3
      case y3 => (intro w0 hS0; (try dsimp only at hS0); go_simp <;> with_reducible rfl)
      change wpAnyH _ _ _ _ _ _ _ (Act.put _ (some 21) _) _
      simp only [Act.put, List.setIfInBounds_toArray, List.set_cons_zero, List.set_cons_succ]
      refine wpAnyH_take (i := 4) (v := ?v4) rfl (by kernel_rfl) (by kernel_rfl) (by kernel_rfl) (fun _ _ _ h => h) (Or.inl ⟨by rfl, ?y4⟩) hH0 ?r4
      case y4 => (intro w0 hS0; (try dsimp only at hS0); go_simp <;> with_reducible rfl)
      change wpAnyH _ _ _ _ _ _ _ (Act.put _ (some 23) _) _
      simp only [Act.put, List.setIfInBounds_toArray, List.set_cons_zero, List.set_cons_succ]
      refine wpAnyH_take (i := 5) (v := ?v5) rfl (by kernel_rfl) (by kernel_rfl) (by kernel_rfl) (fun _ _ _ h => h) (Or.inl ⟨by rfl, ?y5⟩) hH0 ?r5
      case y5 => (intro w0 hS0; (try dsimp only at hS0); go_simp <;> with_reducible rfl)
      change wpAnyH _ _ _ _ _ _ _ (Act.put _ (some 24) _) _
      simp only [Act.put, List.setIfInBounds_toArray, List.set_cons_zero, List.set_cons_succ]
      refine wpAnyH_ready (rs := [3]) (by kernel_rfl) (by simp) ?_
      refine AllReadyH.cons rfl (fun K hK0 => ?_) AllReadyH.nil
      have hK := hK0.out
      clear hK0
      rw [if_pos (by rfl)]
      go_simp
      refine (Rset_any _ z i m _ (by exact T.iy) (by omega) H.out.1 (by omega)).mono ?_
      rintro e w1 ⟨rfl, hb1⟩
      rw [H.out.2.1]
      have T1 := T.step hb1 rfl
      have hbr : Below wr.heap.size wr w1 := ⟨hb1.os, hb1.tape, hb1.output, hb1.size, hb1.block⟩
      have hown1 := own_below hown hbr
      have hsz1 := Nat.le_trans hsz hbr.size
      (try dsimp only)
      refine hK _ _ (T1.cells) (fun hH1 => ?_)
      clear hK K hH0
      (try simp only [Act.put, List.setIfInBounds_toArray, List.set_cons_zero, List.set_cons_succ])
      refine wpAnyH_take (i := 6) (v := ?v6) rfl (by kernel_rfl) (by kernel_rfl) (by kernel_rfl) (fun _ _ _ h => h) (Or.inl ⟨by rfl, ?y6⟩) hH1 ?r6
      case y6 => (intro w0 hS0; (try dsimp only at hS0); go_simp <;> with_reducible rfl)
      change wpAnyH _ _ _ _ _ _ _ (Act.put _ (some 25) _) _
      simp only [Act.put, List.setIfInBounds_toArray, List.set_cons_zero, List.set_cons_succ]
      refine wpAnyH_ready (rs := [7]) (by kernel_rfl) (by simp) ?_
      refine AllReadyH.cons rfl (fun K hK0 => ?_) AllReadyH.nil
      have hK := hK0.out
      clear hK0
      rw [if_pos (by rfl)]
      go_simp
      (try dsimp only)
      refine hK _ _ ((T1.alloc _).cells) (fun hH2 => ?_)
      clear hK K hH1
      (try simp only [Act.put, List.setIfInBounds_toArray, List.set_cons_zero, List.set_cons_succ])
      refine wpAnyH_ready (rs := [8]) (by kernel_rfl) (by simp) ?_
      refine AllReadyH.cons rfl (fun K hK0 => ?_) AllReadyH.nil
      have hK := hK0.out
      clear hK0
      rw [if_pos (by rfl)]
      refine wp_append_own _ (.tmp 19) (.tmp 26) 104 ?eho w0.heap.size 4 i0 (.bool false) 1 1 Try.underlying104 HI.out.1 HI.out.2.1 HI.out.2.2.1 HI.out.2.2.2 rfl (by decide) (.slice A5 i c5) i (boolCells f i) ?ehs (hown1.alloc _) ⟨w1.heap.size, 0, none⟩ 1 1 [.bool (bitB mz i)] ?ehx rfl (cell_one_new _ _ _) (by simp [Value.oneCell']) (by unfold maxLen; omega) (by omega) (by simp; omega) ?egoal
      case eho => rfl
      case ehs => rfl
      case ehx => rfl
      intro v3 w3 hown3 hg3 _
      have hb3 : Below w0.heap.size w0 w3 := (((HB.out.trans (hbr.mono hsz)).alloc hsz1 _).grown hg3 (by simp; omega) (fun k hk => (hown1.lt k hk).1))
      have T3 := HT.out.step hb3 rfl
      (try dsimp only)
      refine hK _ _ (T3.cells) (fun hH3 => ?_)
      clear hK K hH2
      (try simp only [Act.put, List.setIfInBounds_toArray, List.set_cons_zero, List.set_cons_succ])
      refine wpAnyH_take (i := 9) (v := ?v7) rfl (by kernel_rfl) (by kernel_rfl) (by kernel_rfl) (fun _ _ _ h => h) (Or.inl ⟨by rfl, ?y7⟩) hH3 ?r7
      case y7 => (intro w0 hS0; (try dsimp only at hS0); go_simp <;> with_reducible rfl)
      change wpAnyH _ _ _ _ _ _ _ (Act.put _ (some 6) _) _
      simp only [Act.put, List.setIfInBounds_toArray, List.set_cons_zero, List.set_cons_succ]
      refine wpAnyH_done (by kernel_rfl) ?_ _
      go_wp2
      go_roundw
      case rel => exact ⟨i + 1, by rw [boolCells_succ, HF.out i]; exact hown3, by go_num, by omega, hb3⟩
      case measure => simp [intOf]; omega
    · obtain rfl : i = n := by omega
      clear hbel
      go_wp2
      go_ret
      exact ⟨A5, c5, rfl, bools_of_own hown, below_then HBW.out HB.out⟩

theorem Nums.res2 {w : World} {k : IntKind} {A : Option Addr} {xs : List Nat} {r : Nat} {p : Bool} {A' : Option Addr} {n' c' : Nat} (h : Nums w k A xs) (t : Two w r (.bool p) (.slice A' n' c')) (u v : Value) : Nums ((w.setCell ⟨r, 0, none⟩ u).setCell ⟨r, 1, none⟩ v) k A xs := by
  refine (h.store t.1 (fun n e => by cases e) u).store (u := .slice A' n' c') ?_ (fun n e => by cases e) v
  rw [World.cell?_setCell_other _ _ _ _ (by simp)]
  exact t.2
/-- A variable of two cells that may be written. -/
def Slot (w : World) (r : Nat) (a b : Value) : Prop := Two w r a b ∧ w.frozen? ⟨r, 0, none⟩ = false ∧ w.frozen? ⟨r, 1, none⟩ = false
theorem Slot.step {W0 W w1 : World} {r : Nat} {a b : Value} (t : Slot W0 r a b) (hb : Below W.heap.size W w1) (hh : W.heap = W0.heap) (hl : r < W0.heap.size) : Slot w1 r a b := by
  have e : ∀ p, W.frozen? p = W0.frozen? p := fun p => by simp [World.frozen?, hh]
  have hl' : r < W.heap.size := by rw [hh]; exact hl
  exact ⟨t.1.step hb hh hl, ((hb.frozen (p := ⟨r, 0, none⟩) hl').trans (e _)).trans t.2.1, ((hb.frozen (p := ⟨r, 1, none⟩) hl').trans (e _)).trans t.2.2⟩

set_option maxRecDepth 100000 in
set_option maxHeartbeats 4000000 in
theorem bits_neg (A : Option Addr) (c : Nat) (ds : List Nat) (z : Int) (n m : Nat) (w : World) (hs : SignOf true z) (hd : Digs w A c ds z.natAbs) (hm0 : 0 < m) (hm : m ≤ 900000) (hz : z.natAbs < BD ^ m) (hn : n ≤ 20000000) :
    Calls Try.prog 81 #[.agg #[.bool true, .slice A ds.length c], .int .i64 (n : Int)] w fun e w' => IsBits w w' (fun j => !bitB (magOf z) j) n e := by
  obtain ⟨i0, hi0, hz0, hz1, hz2⟩ := info_parts Try.info4
  have HI := Lib.hid (And.intro hi0 (And.intro hz0 (And.intro hz1 hz2)))
  clear hi0 hz0 hz1 hz2
  have hbel : Below w.heap.size w ((w.alloc (.cells #[.bool true, .slice A ds.length c] 31)).alloc (.cells #[.bool true, .slice A ds.length c] 31)) := ((Below.refl _ _).alloc (Nat.le_refl _) _).alloc (by simp) _
  have hx0 := (Two.new w (.bool true) (.slice A ds.length c) 31).alloc (by simp) (.cells #[.bool true, .slice A ds.length c] 31)
  have hy0 := Two.new (w.alloc (.cells #[.bool true, .slice A ds.length c] 31)) (.bool true) (.slice A ds.length c) 31
  rw [size_alloc] at hy0
  have hat : RefAt ((w.alloc (.cells #[.bool true, .slice A ds.length c] 31)).alloc (.cells #[.bool true, .slice A ds.length c] 31)) (.agg #[.bool true, .slice A ds.length c]) z := ⟨true, A, c, ds, rfl, hs, hd.below hbel⟩
  obtain ⟨mz, hmz⟩ : ∃ mz, magOf z = mz := ⟨_, rfl⟩
  have hy : (-1 - z).natAbs = mz := (mag_opp z (sign_of_neg hs)).trans hmz
  have hfit1 : (-1 : Int).natAbs < BD ^ m := Nat.lt_of_lt_of_le (by decide : (-1 : Int).natAbs < BD ^ 1) (Nat.pow_le_pow_right BD_pos hm0)
  have hfity : (-1 - z).natAbs < BD ^ m := by rw [hy, ← hmz]; exact mag_fit hz
  have hsy : Slot ((w.alloc (.cells #[.bool true, .slice A ds.length c] 31)).alloc (.cells #[.bool true, .slice A ds.length c] 31)) (w.heap.size + 1) (.bool true) (.slice A ds.length c) := ⟨hy0, by go_simp, by go_simp⟩
  have H := Lib.hid (And.intro hz (And.intro hfit1 (And.intro hfity (And.intro hy (And.intro hx0 (And.intro hsy (And.intro hat hbel)))))))
  obtain ⟨f, hf⟩ : ∃ f : Nat → Bool, (fun j => !bitB (magOf z) j) = f := ⟨_, rfl⟩
  have hfi : ∀ i, f i = !bitB mz i := fun i => by rw [← hf, ← hmz]
  rw [hf]
  have HF := Lib.hid hfi
  obtain ⟨x0, x1⟩ := id hx0
  clear hbel hat hx0 hy0 hsy hs hd hz hy hmz hf hfi hfit1 hfity hm0
  go_enter Try.func81, Try.ntmps81
  go_wp2_with fail
  refine wp_region_held_drew (S := (fun w' => w'.cell? ⟨w.heap.size, 0, none⟩ = some (.bool true) ∧ w'.cell? ⟨w.heap.size, 1, none⟩ = some (.slice A ds.length c))) (by kernel_rfl) (H.out.2.2.2.2.1) (fun hH0 => ?_)
  refine wpAnyH_take (i := 1) (v := ?v8) rfl (by kernel_rfl) (by kernel_rfl) (by kernel_rfl) (fun _ _ _ h => h) (Or.inl ⟨by rfl, ?y8⟩) hH0 ?r8
  case y8 => (intro w0 hS0; (try dsimp only at hS0); go_simp <;> with_reducible rfl)
  change wpAnyH _ _ _ _ _ _ _ (Act.put _ (some 12) _) _
  simp only [Act.put, List.setIfInBounds_toArray, List.set_cons_zero, List.set_cons_succ]
  refine wpAnyH_ready (rs := [0]) (by kernel_rfl) (by simp) ?_
  refine AllReadyH.cons rfl (fun K hK0 => ?_) AllReadyH.nil
  have hK := hK0.out
  clear hK0
  rw [if_pos (by rfl)]
  go_simp
  refine (RNew_neg 1 _ (by decide) (by decide)).mono ?_
  rintro e w1 ⟨v1, rfl, hi1, hb1⟩
  have kx1 := H.out.2.2.2.2.1.step hb1 rfl (by simp; omega)
  have ky1 := H.out.2.2.2.2.2.1.step hb1 rfl (by simp)
  have hat1 := H.out.2.2.2.2.2.2.1.step hb1 rfl
  have bl1 := begun_then H.out.2.2.2.2.2.2.2 hb1 rfl rfl rfl rfl
  have hs1 : w.heap.size + 1 < w1.heap.size := Nat.lt_of_lt_of_le (show w.heap.size + 1 < _ from by simp) hb1.size
  (try dsimp only)
  refine hK _ _ (kx1) (fun hH1 => ?_)
  clear hK K hH0
  (try simp only [Act.put, List.setIfInBounds_toArray, List.set_cons_zero, List.set_cons_succ])
  refine wpAnyH_ready (rs := [2]) (by kernel_rfl) (by simp) ?_
  refine AllReadyH.cons rfl (fun K hK0 => ?_) AllReadyH.nil
  have hK := hK0.out
  clear hK0
  rw [if_pos (by rfl)]
  go_simp
  refine (RSub_any _ _ (-1) z m _ (by exact hi1) (by exact hat1) hm H.out.2.1 H.out.1).mono ?_
  rintro e w2 ⟨v2, rfl, ⟨b4, A4, c4, zs4, rfl, hsg4, hl4⟩, hb2⟩
  have kx2 := kx1.step hb2 rfl (by omega)
  have ky2 := ky1.step hb2 rfl hs1
  have bl2 := begun_then bl1 hb2 rfl rfl rfl rfl
  have hs2 := Nat.lt_of_lt_of_le hs1 hb2.size
  obtain ⟨⟨cy0, cy1⟩, fy0, fy1⟩ := id ky2
  (try dsimp only)
  refine hK _ _ (kx2) (fun hH2 => ?_)
  clear hK K hH1
  (try simp only [Act.put, List.setIfInBounds_toArray, List.set_cons_zero, List.set_cons_succ])
  refine wpAnyH_ready (rs := [3]) (by kernel_rfl) (by simp) ?_
  refine AllReadyH.cons rfl (fun K hK0 => ?_) AllReadyH.nil
  have hK := hK0.out
  clear hK0
  rw [if_pos (by rfl)]
  go_simp
  (try dsimp only)
  refine hK _ _ (kx2.far (r := w.heap.size + 1) (by omega) (.bool b4) (.slice A4 zs4.length c4)) (fun hH3 => ?_)
  clear hK K hH2
  (try simp only [Act.put, List.setIfInBounds_toArray, List.set_cons_zero, List.set_cons_succ])
  refine wpAnyH_done (by kernel_rfl) ?_ _
  go_wp2_with fail
  obtain ⟨w0, hWe⟩ : ∃ w0 : World, w0 = (w2.setCell ⟨w.heap.size + 1, 0, none⟩ (.bool b4)).setCell ⟨w.heap.size + 1, 1, none⟩ (.slice A4 zs4.length c4) := ⟨_, rfl⟩
  have hsz0 : w0.heap.size = w2.heap.size := by rw [hWe]; simp [World.setCell]
  have hT : YX w0 w.heap.size true (.slice A ds.length c) (.bool b4) (.slice A4 zs4.length c4) (-1 - z) := by
    rw [hWe] at hsz0 ⊢
    exact ⟨by rw [hsz0]; exact hs2, kx2.far (by omega) _ _, ky2.1.stored _ _, ⟨b4, A4, c4, zs4, rfl, hsg4, hl4.1, hl4.2.1.res2 ky2.1 _ _, hl4.2.2⟩⟩
  have hBw : Below w.heap.size w w0 := by
    rw [hWe]
    exact (bl2.setCell (p := ⟨w.heap.size + 1, 0, none⟩) (by simp) _).setCell (p := ⟨w.heap.size + 1, 1, none⟩) (by simp) _
  have HT := Lib.hid hT
  have HBW := Lib.hid hBw
  have H2 := Lib.hid (And.intro H.out.2.2.1 (And.intro H.out.2.2.2.1 trivial))
  clear H
  have H := H2
  rw [← hWe]
  clear hT hBw hWe kx1 ky1 kx2 ky2 hat1 bl1 bl2 hs1 hs2 cy0 cy1 fy0 fy1 x0 x1 hl4 hsg4 hb1 hb2 hi1 H2 hsz0
  go_wp2_with fail
  go_loopw [6, 7] (fun ov iv wr => ∃ i : Nat, wr.ownsRow w0.heap.size 4 1 ov i (boolCells f i) ∧ iv = .int .i64 i ∧ i ≤ n ∧ Below w0.heap.size w0 wr) (fun _ iv _ => n - (intOf iv).toNat)
  case atStart => exact ⟨0, World.ownsRow_nil _ _ _ _, rfl, Nat.zero_le _, Below.refl _ _⟩
  case round =>
    obtain ⟨i, hown, rfl, hi, hbel⟩ := hrel
    obtain ⟨A5, c5, rfl, hle⟩ := own_form hown
    have hsz : w0.heap.size ≤ wr.heap.size := hbel.size
    have HB := Lib.hid hbel
    have T := HT.out.step hbel rfl
    by_cases hlt : i < n
    · have hfi := HF.out i
      clear hbel
      go_wp2_with fail
      refine wp_region_held_drew (S := (fun w' => w'.cell? ⟨w.heap.size, 0, none⟩ = some (.bool true) ∧ w'.cell? ⟨w.heap.size + 1, 0, none⟩ = some (.bool b4) ∧ w'.cell? ⟨w.heap.size + 1, 1, none⟩ = some (.slice A4 zs4.length c4))) (by kernel_rfl) (T.cells) (fun hH0 => ?_)
      refine wpAnyH_take (i := 0) (v := ?v9) rfl (by kernel_rfl) (by kernel_rfl) (by kernel_rfl) (fun _ _ _ h => h) (Or.inl ⟨by rfl, ?y9⟩) hH0 ?r9
      case y9 => (intro w0 hS0; (try dsimp only at hS0); go_simp <;> with_reducible rfl)
      change wpAnyH _ _ _ _ _ _ _ (Act.put _ (some 19) _) _
      simp only [Act.put, List.setIfInBounds_toArray, List.set_cons_zero, List.set_cons_succ]
      refine wpAnyH_take (i := 1) (v := ?v10) rfl (by kernel_rfl) (by kernel_rfl) (by kernel_rfl) (fun _ _ _ h => h) (Or.inl ⟨by rfl, ?y10⟩) hH0 ?r10
      case y10 => (intro w0 hS0; (try dsimp only at hS0); go_simp <;> with_reducible rfl)
      change wpAnyH _ _ _ _ _ _ _ (Act.put _ (some 20) _) _
      simp only [Act.put, List.setIfInBounds_toArray, List.set_cons_zero, List.set_cons_succ]
      refine wpAnyH_take (i := 2) (v := ?v11) rfl (by kernel_rfl) (by kernel_rfl) (by kernel_rfl) (fun _ _ _ h => h) (Or.inl ⟨by rfl, ?y11⟩) hH0 ?r11
      case y11 => (intro w0 hS0; (try dsimp only at hS0); go_simp <;> with_reducible rfl)
      change wpAnyH _ _ _ _ _ _ _ (Act.put _ (some 21) _) _
      simp only [Act.put, List.setIfInBounds_toArray, List.set_cons_zero, List.set_cons_succ]
      refine wpAnyH_take (i := 4) (v := ?v12) rfl (by kernel_rfl) (by kernel_rfl) (by kernel_rfl) (fun _ _ _ h => h) (Or.inl ⟨by rfl, ?y12⟩) hH0 ?r12
      case y12 => (intro w0 hS0; (try dsimp only at hS0); go_simp <;> with_reducible rfl)
      change wpAnyH _ _ _ _ _ _ _ (Act.put _ (some 23) _) _
      simp only [Act.put, List.setIfInBounds_toArray, List.set_cons_zero, List.set_cons_succ]
      refine wpAnyH_take (i := 5) (v := ?v13) rfl (by kernel_rfl) (by kernel_rfl) (by kernel_rfl) (fun _ _ _ h => h) (Or.inl ⟨by rfl, ?y13⟩) hH0 ?r13
      case y13 => (intro w0 hS0; (try dsimp only at hS0); go_simp <;> with_reducible rfl)
      change wpAnyH _ _ _ _ _ _ _ (Act.put _ (some 24) _) _
      simp only [Act.put, List.setIfInBounds_toArray, List.set_cons_zero, List.set_cons_succ]
      refine wpAnyH_ready (rs := [3]) (by kernel_rfl) (by simp) ?_
      refine AllReadyH.cons rfl (fun K hK0 => ?_) AllReadyH.nil
      have hK := hK0.out
      clear hK0
      rw [if_pos (by rfl)]
      go_simp
      refine (Rset_any _ (-1 - z) i m _ (by exact T.iy) (by omega) H.out.1 (by omega)).mono ?_
      rintro e w1 ⟨rfl, hb1⟩
      rw [H.out.2.1]
      have T1 := T.step hb1 rfl
      have hbr : Below wr.heap.size wr w1 := ⟨hb1.os, hb1.tape, hb1.output, hb1.size, hb1.block⟩
      have hown1 := own_below hown hbr
      have hsz1 := Nat.le_trans hsz hbr.size
      (try dsimp only)
      refine hK _ _ (T1.cells) (fun hH1 => ?_)
      clear hK K hH0
      (try simp only [Act.put, List.setIfInBounds_toArray, List.set_cons_zero, List.set_cons_succ])
      refine wpAnyH_take (i := 6) (v := ?v14) rfl (by kernel_rfl) (by kernel_rfl) (by kernel_rfl) (fun _ _ _ h => h) (Or.inl ⟨by rfl, ?y14⟩) hH1 ?r14
      case y14 => (intro w0 hS0; (try dsimp only at hS0); go_simp <;> with_reducible rfl)
      change wpAnyH _ _ _ _ _ _ _ (Act.put _ (some 25) _) _
      simp only [Act.put, List.setIfInBounds_toArray, List.set_cons_zero, List.set_cons_succ]
      refine wpAnyH_ready (rs := [7]) (by kernel_rfl) (by simp) ?_
      refine AllReadyH.cons rfl (fun K hK0 => ?_) AllReadyH.nil
      have hK := hK0.out
      clear hK0
      rw [if_pos (by rfl)]
      go_simp
      (try dsimp only)
      refine hK _ _ ((T1.alloc _).cells) (fun hH2 => ?_)
      clear hK K hH1
      (try simp only [Act.put, List.setIfInBounds_toArray, List.set_cons_zero, List.set_cons_succ])
      refine wpAnyH_ready (rs := [8]) (by kernel_rfl) (by simp) ?_
      refine AllReadyH.cons rfl (fun K hK0 => ?_) AllReadyH.nil
      have hK := hK0.out
      clear hK0
      rw [if_pos (by rfl)]
      refine wp_append_own _ (.tmp 19) (.tmp 26) 104 ?eho w0.heap.size 4 i0 (.bool false) 1 1 Try.underlying104 HI.out.1 HI.out.2.1 HI.out.2.2.1 HI.out.2.2.2 rfl (by decide) (.slice A5 i c5) i (boolCells f i) ?ehs (hown1.alloc _) ⟨w1.heap.size, 0, none⟩ 1 1 [.bool (!bitB mz i)] ?ehx rfl (cell_one_new _ _ _) (by simp [Value.oneCell']) (by unfold maxLen; omega) (by omega) (by simp; omega) ?egoal
      case eho => rfl
      case ehs => rfl
      case ehx => rfl
      intro v3 w3 hown3 hg3 _
      have hb3 : Below w0.heap.size w0 w3 := (((HB.out.trans (hbr.mono hsz)).alloc hsz1 _).grown hg3 (by simp; omega) (fun k hk => (hown1.lt k hk).1))
      have T3 := HT.out.step hb3 rfl
      (try dsimp only)
      refine hK _ _ (T3.cells) (fun hH3 => ?_)
      clear hK K hH2
      (try simp only [Act.put, List.setIfInBounds_toArray, List.set_cons_zero, List.set_cons_succ])
      refine wpAnyH_take (i := 9) (v := ?v15) rfl (by kernel_rfl) (by kernel_rfl) (by kernel_rfl) (fun _ _ _ h => h) (Or.inl ⟨by rfl, ?y15⟩) hH3 ?r15
      case y15 => (intro w0 hS0; (try dsimp only at hS0); go_simp <;> with_reducible rfl)
      change wpAnyH _ _ _ _ _ _ _ (Act.put _ (some 6) _) _
      simp only [Act.put, List.setIfInBounds_toArray, List.set_cons_zero, List.set_cons_succ]
      refine wpAnyH_done (by kernel_rfl) ?_ _
      go_wp2
      go_roundw
      case rel => exact ⟨i + 1, by rw [boolCells_succ, HF.out i]; exact hown3, by go_num, by omega, hb3⟩
      case measure => simp [intOf]; omega
    · obtain rfl : i = n := by omega
      clear hbel
      go_wp2
      go_ret
      exact ⟨A5, c5, rfl, bools_of_own hown, below_then HBW.out HB.out⟩
end Go.Proofs.Ytllkajlmfbikhaa
