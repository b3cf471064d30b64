/- What Deposit of the reference does. -/
import Derived.Test.YtagocllbfbbneaaRField
namespace Go.Proofs.Ytagocllbfbbneaa.RK
open Go.RowKit
set_option linter.unusedSimpArgs false

set_option maxRecDepth 100000 in
set_option maxHeartbeats 4000000 in
theorem rdeposit_out (v v2 : Value) (z y k p : Int) (w : World) (h : RefAt w v z) (h2 : RefAt w v2 y) (ho : ¬ (okSize k ∧ okSize p)) : Calls Try.prog 59 #[v, v2, .int .i64 k, .int .i64 p] w fun e w' => IsRE w w' 0 1 e := by
  obtain ⟨b, A, c, ds, rfl, hs, hd⟩ := h
  obtain ⟨b2, A2, c2, ds2, rfl, hs2, hd2⟩ := h2
  have hb0 := begun2_below w (.bool b) (.slice A ds.length c) (.bool b2) (.slice A2 ds2.length c2) 31
  have hR := begun2_r w (.bool b) (.slice A ds.length c) (.bool b2) (.slice A2 ds2.length c2) 31
  obtain ⟨W, hW⟩ : ∃ W, begun2 w (.bool b) (.slice A ds.length c) (.bool b2) (.slice A2 ds2.length c2) 31 = W := ⟨_, rfl⟩
  rw [hW] at hb0 hR
  unfold begun2 at hW
  have H := Lib.hid (And.intro hb0 (And.intro hR hW))
  obtain ⟨⟨hr0, hr1⟩, hf0, hf1⟩ := id hR
  clear hb0 hR hW hs hd hs2 hd2
  by_cases h1 : okSize k
  · have h2 : ¬ okSize p := fun h => ho ⟨h1, h⟩
    have a1 := within_is k true W (decide_eq_true h1)
    have a2 := within_is p false W (decide_eq_false h2)
    have HA := Lib.hid (And.intro a1 a2)
    clear a1 a2 h1 h2 ho
    go_enter Try.func59, Try.ntmps59
    go_upto_region 1 with fail
    rw [H.out.2.2]
    go_wp2_with fail
    refine HA.out.1.mono ?_
    rintro e w1 ⟨rfl, rfl⟩
    go_wp2_with fail
    refine HA.out.2.mono ?_
    rintro e w1 ⟨rfl, rfl⟩
    go_wp2
    obtain ⟨s0, s1⟩ := H.out.2.1.1.stored (.bool false) (.slice none 0 0)
    refine bodyPost_ret (v := .tuple #[.agg #[.bool false, .slice none 0 0], .int .i64 1]) (by simp [results, Try.results59, go_sem, s0, s1]) rfl ?_
    exact refE_stored (zs := []) H.out.2.1 (by simp [SignOf]) ⟨Nat.le_refl _, Nums.nil _ _ _, Lm.Ok.nil _, Lm.Top.nil, rfl⟩ H.out.1 (by omega)
  · have a1 := within_is k false W (decide_eq_false h1)
    have HA := Lib.hid a1
    clear a1 h1 ho
    go_enter Try.func59, Try.ntmps59
    go_upto_region 1 with fail
    rw [H.out.2.2]
    go_wp2_with fail
    refine HA.out.mono ?_
    rintro e w1 ⟨rfl, rfl⟩
    go_wp2
    obtain ⟨s0, s1⟩ := H.out.2.1.1.stored (.bool false) (.slice none 0 0)
    refine bodyPost_ret (v := .tuple #[.agg #[.bool false, .slice none 0 0], .int .i64 1]) (by simp [results, Try.results59, go_sem, s0, s1]) rfl ?_
    exact refE_stored (zs := []) H.out.2.1 (by simp [SignOf]) ⟨Nat.le_refl _, Nums.nil _ _ _, Lm.Ok.nil _, Lm.Top.nil, rfl⟩ H.out.1 (by omega)


/-- The bits as far as i of the part are laid. -/
def depF (x y : Int) (p i : Nat) (j : Nat) : Bool := if p ≤ j ∧ j < p + i then bitZ y (j - p) else bitZ x j
theorem depF_zero (x y : Int) (p : Nat) : depF x y p 0 = bitZ x := funext fun j => by unfold depF; rw [if_neg (by omega)]
theorem depF_set (x y : Int) (p i n : Nat) (h : p + i < n) : (boolCells (depF x y p i) n).set (p + i) (.bool (bitZ y i)) = boolCells (depF x y p (i + 1)) n := by
  unfold boolCells
  apply List.ext_getElem?
  intro j
  rw [List.getElem?_set]
  simp only [List.length_map, List.length_range, List.getElem?_map]
  by_cases hj : p + i = j
  · subst hj
    rw [if_pos rfl, if_pos h, List.getElem?_range h]
    simp [depF]
  · rw [if_neg hj]
    by_cases hn : j < n
    · rw [List.getElem?_range hn]
      simp only [Option.map_some, Option.some.injEq, Value.bool.injEq]
      unfold depF
      by_cases h1 : p ≤ j ∧ j < p + i
      · rw [if_pos h1, if_pos (by omega)]
      · rw [if_neg h1, if_neg (by omega)]
    · rw [List.getElem?_eq_none (by simpa using hn)]
      rfl
theorem dep_f (x y : Int) (p k : Nat) : ofBits (depF x y p k) (max (bl (magOf x)) (p + k)) (decide (x < 0)) = depZ x y k p := rfl

set_option maxRecDepth 100000 in
set_option maxHeartbeats 8000000 in
theorem rdeposit_in (v v2 : Value) (z y : Int) (k p m : Nat) (w : World) (h : RefAt w v z) (h2 : RefAt w v2 y) (hz : FitD z m) (hy : FitD y m) (hm0 : 0 < m) (hm : m ≤ 4000) (hk : k ≤ 65536) (hp : p ≤ 65536) :
    Calls Try.prog 59 #[v, v2, .int .i64 (k : Int), .int .i64 (p : Int)] w fun e w' => IsRE w w' (depZ z y k p) 0 e := by
  obtain ⟨b, A, c, ds, rfl, hs, hd⟩ := h
  obtain ⟨b2, A2, c2, ds2, rfl, hs2, hd2⟩ := h2
  have hb0 := begun2_below w (.bool b) (.slice A ds.length c) (.bool b2) (.slice A2 ds2.length c2) 31
  have hT := begun2_x w (.bool b) (.slice A ds.length c) (.bool b2) (.slice A2 ds2.length c2) 31
  have hT2 := begun2_y w (.bool b) (.slice A ds.length c) (.bool b2) (.slice A2 ds2.length c2) 31
  have hR := begun2_r w (.bool b) (.slice A ds.length c) (.bool b2) (.slice A2 ds2.length c2) 31
  have hsz := begun2_size w (.bool b) (.slice A ds.length c) (.bool b2) (.slice A2 ds2.length c2) 31
  obtain ⟨W, hW⟩ : ∃ W, begun2 w (.bool b) (.slice A ds.length c) (.bool b2) (.slice A2 ds2.length c2) 31 = W := ⟨_, rfl⟩
  rw [hW] at hb0 hT hT2 hR hsz
  unfold begun2 at hW
  obtain ⟨n, hn⟩ : ∃ n, p + k = n := ⟨_, rfl⟩
  obtain ⟨l, hl⟩ : ∃ l, bl (magOf z) = l := ⟨_, rfl⟩
  obtain ⟨N, hN⟩ : ∃ N, max l n = N := ⟨_, rfl⟩
  have hx1 : RefAt W (.agg #[.bool b, .slice A ds.length c]) z := ⟨b, A, c, ds, rfl, hs, hd.below hb0⟩
  have hy1 : RefAt W (.agg #[.bool b2, .slice A2 ds2.length c2]) y := ⟨b2, A2, c2, ds2, rfl, hs2, hd2.below hb0⟩
  have a1 := within_is (k : Int) true W (decide_eq_true ⟨by omega, by omega⟩)
  have a2 := within_is (p : Int) true W (decide_eq_true ⟨by omega, by omega⟩)
  have hl6 : l ≤ 64000 := by rw [← hl]; exact Nat.le_trans (bl_up (mag_le z)) (Nat.le_trans (fit_bl hz) (by omega))
  have H := Lib.hid (And.intro hb0 (And.intro hR (And.intro hW (And.intro hx1 (And.intro hy1 (And.intro a1 (And.intro a2 (And.intro hn (And.intro hl (And.intro hN (And.intro hT (And.intro hT2 (And.intro hz (And.intro hy hs))))))))))))))
  have hs3 : w.heap.size + 3 ≤ W.heap.size := by omega
  have k0 : (0 : Int) ≤ (k : Int) := Int.natCast_nonneg k
  have p0 : (0 : Int) ≤ (p : Int) := Int.natCast_nonneg p
  have k1 : (k : Int) ≤ 65536 := by omega
  have p1 : (p : Int) ≤ 65536 := by omega
  have hsum : (p : Int) + (k : Int) = (n : Int) := by omega
  have n1 : (n : Int) ≤ 131072 := by omega
  have n0 : (0 : Int) ≤ (n : Int) := Int.natCast_nonneg n
  have l0 : (0 : Int) ≤ (l : Int) := Int.natCast_nonneg l
  have l1 : (l : Int) ≤ 64000 := by omega
  have hwn : IntKind.i64.wrap ((p : Int) + (k : Int)) = (n : Int) := by rw [hsum]; exact IntWalk.i64_in _ (by omega)
  have hwn2 : IntKind.i64.wrap (n : Int) = (n : Int) := IntWalk.i64_in _ (by omega)
  have hN3 : (l < n ∧ N = n) ∨ (l = n ∧ N = n) ∨ (n < l ∧ N = l) := by omega
  have HN3 := Lib.hid hN3
  have HL6 := Lib.hid hl6
  obtain ⟨px0, px1⟩ := id hT
  obtain ⟨py0, py1⟩ := id hT2
  clear hb0 hT hT2 hR hW hs hd hs2 hd2 hsz a1 a2 hk hp hx1 hy1 hl hN hz hy hN3 hl6 hn
  go_enter Try.func59, Try.ntmps59
  go_upto_region 1 with fail
  rw [H.out.2.2.1]
  go_wp2_with fail
  refine H.out.2.2.2.2.2.1.mono ?_
  rintro e w1 ⟨rfl, rfl⟩
  go_wp2_with fail
  refine H.out.2.2.2.2.2.2.1.mono ?_
  rintro e w1 ⟨rfl, rfl⟩
  go_upto_region 3 with fail
  go_cut [10] (fun s wx => ∃ (w1 : World) (A1 : Option Addr) (c1 base : Nat), w1 = wx ∧ s = .slice A1 N c1 ∧ W.heap.size ≤ base ∧ w1.ownsRow base 4 1 (.slice A1 N c1) N (boolCells (bitZ z) N) ∧ Below W.heap.size W w1)
  case first =>
    have hlen := rlength_is _ z l m W.drew (show RefAt W.drew _ z from H.out.2.2.2.1.step (Below.refl W.drew.heap.size W.drew) rfl) hm0 (by omega) H.out.2.2.2.2.2.2.2.2.2.2.2.2.1 H.out.2.2.2.2.2.2.2.2.1
    have HLE := Lib.hid hlen
    clear hlen
    rcases HN3.out with ⟨hc, rfl⟩ | ⟨hc, rfl⟩ | ⟨hc, rfl⟩
    · have hcI : (l : Int) < (N : Int) := by omega
      go_region_held3 (fun w' => w'.cell? ⟨w.heap.size, 0, none⟩ = some (.bool b) ∧ w'.cell? ⟨w.heap.size, 1, none⟩ = some (.slice A ds.length c))
        (((try dsimp only); (repeat' apply And.intro) <;> (first | (with_reducible assumption) | go_keep)))
        ((first
          | (go_at_call 27; refine HLE.out.mono ?_; rintro e w3 ⟨rfl, hb3⟩; have t3 := H.out.2.2.2.2.2.2.2.2.2.2.1.step hb3 rfl (by omega); have x3 := H.out.2.2.2.1.step hb3 rfl; have hl3 := begun_then (Below.refl W.heap.size W) hb3 rfl rfl rfl rfl; obtain ⟨qa0, qa1⟩ := id t3)
          | (go_at_call 81; go_loud (refine (bitsO_any _ z N m _ (by exact x3) hm0 (by omega) H.out.2.2.2.2.2.2.2.2.2.2.2.2.1 (by have := HL6.out; omega)).mono ?_); rintro e w5 ⟨A5, c5, rfl, base5, hbase5, hown5, hb5⟩; have t5 := t3.step hb5 rfl (by have := hb3.size; show _ < w3.heap.size; have hh : W.drew.heap.size = W.heap.size := rfl; omega); have hl5 := below_then hl3 hb5; obtain ⟨qb0, qb1⟩ := id t5)))
      go_wp2
      go_meet
      exact ⟨_, A5, c5, base5, rfl, rfl, Nat.le_trans hl3.size hbase5, hown5, hl5⟩
    · subst hc
      go_region_held3 (fun w' => w'.cell? ⟨w.heap.size, 0, none⟩ = some (.bool b) ∧ w'.cell? ⟨w.heap.size, 1, none⟩ = some (.slice A ds.length c))
        (((try dsimp only); (repeat' apply And.intro) <;> (first | (with_reducible assumption) | go_keep)))
        ((first
          | (go_at_call 27; refine HLE.out.mono ?_; rintro e w3 ⟨rfl, hb3⟩; have t3 := H.out.2.2.2.2.2.2.2.2.2.2.1.step hb3 rfl (by omega); have x3 := H.out.2.2.2.1.step hb3 rfl; have hl3 := begun_then (Below.refl W.heap.size W) hb3 rfl rfl rfl rfl; obtain ⟨qa0, qa1⟩ := id t3)
          | (go_at_call 81; go_loud (refine (bitsO_any _ z l m _ (by exact x3) hm0 (by omega) H.out.2.2.2.2.2.2.2.2.2.2.2.2.1 (by have := HL6.out; omega)).mono ?_); rintro e w5 ⟨A5, c5, rfl, base5, hbase5, hown5, hb5⟩; have t5 := t3.step hb5 rfl (by have := hb3.size; show _ < w3.heap.size; have hh : W.drew.heap.size = W.heap.size := rfl; omega); have hl5 := below_then hl3 hb5; obtain ⟨qb0, qb1⟩ := id t5)))
      go_wp2
      go_meet
      exact ⟨_, A5, c5, base5, rfl, rfl, Nat.le_trans hl3.size hbase5, hown5, hl5⟩
    · have hcN : ¬ N < n := by omega
      go_region_held3 (fun w' => w'.cell? ⟨w.heap.size, 0, none⟩ = some (.bool b) ∧ w'.cell? ⟨w.heap.size, 1, none⟩ = some (.slice A ds.length c))
        (((try dsimp only); (repeat' apply And.intro) <;> (first | (with_reducible assumption) | go_keep)))
        ((first
          | (go_at_call 27; refine HLE.out.mono ?_; rintro e w3 ⟨rfl, hb3⟩; have t3 := H.out.2.2.2.2.2.2.2.2.2.2.1.step hb3 rfl (by omega); have x3 := H.out.2.2.2.1.step hb3 rfl; have hl3 := begun_then (Below.refl W.heap.size W) hb3 rfl rfl rfl rfl; obtain ⟨qa0, qa1⟩ := id t3)
          | (go_at_call 81; go_loud (refine (bitsO_any _ z N m _ (by exact x3) hm0 (by omega) H.out.2.2.2.2.2.2.2.2.2.2.2.2.1 (by have := HL6.out; omega)).mono ?_); rintro e w5 ⟨A5, c5, rfl, base5, hbase5, hown5, hb5⟩; have t5 := t3.step hb5 rfl (by have := hb3.size; show _ < w3.heap.size; have hh : W.drew.heap.size = W.heap.size := rfl; omega); have hl5 := below_then hl3 hb5; obtain ⟨qb0, qb1⟩ := id t5)))
      go_wp2
      go_meet
      exact ⟨_, A5, c5, base5, rfl, rfl, Nat.le_trans hl3.size hbase5, hown5, hl5⟩
  case rest =>
    obtain ⟨w1, A1, c1, base, rfl, rfl, hbase, hown, hb1⟩ := hcut
    have hy1 := H.out.2.2.2.2.1.step hb1 rfl
    have hbp := bitsO_any _ y k m w1 hy1 hm0 (by omega) H.out.2.2.2.2.2.2.2.2.2.2.2.2.2.1 (by omega)
    have t1 := H.out.2.2.2.2.2.2.2.2.2.2.2.1.step hb1 rfl (by omega)
    have HO := Lib.hid (And.intro hown (And.intro hbase (And.intro hb1 hbp)))
    have hs4 : w.heap.size + 3 ≤ w1.heap.size := Nat.le_trans hs3 hb1.size
    clear px0 px1 py0 py1 hown hbase hb1 hbp hy1
    obtain ⟨py0, py1⟩ := id t1
    go_upto_region 4 with fail
    go_wp2_with fail
    refine HO.out.2.2.2.mono ?_
    rintro e w2 ⟨A4, c4, rfl, base2, hbase2, hown2, hb2⟩
    have hown1 := own_below HO.out.1 hb2
    have hb02 := HO.out.2.2.1.trans (hb2.mono HO.out.2.2.1.size)
    have t2 := H.out.2.2.2.2.2.2.2.2.2.2.1.step hb02 rfl (by omega)
    have r2 := H.out.2.1.step hb02 rfl (by omega)
    have hw2 : w.heap.size + 3 ≤ w2.heap.size := Nat.le_trans hs4 hb2.size
    have HI := Lib.hid (And.intro hown1 (And.intro hown2 (And.intro hb02 (And.intro t2 (And.intro r2 hbase2)))))
    clear py0 py1 hb2 hown1 hown2 hb02 t2 r2 t1
    go_wp2
    go_loopw [12] (fun iv wr => ∃ i : Nat, iv = .int .i64 i ∧ i ≤ k ∧ wr.ownsRow base 4 1 (.slice A1 N c1) N (boolCells (depF z y p i) N) ∧ wr.ownsRow base2 4 1 (.slice A4 k c4) k (boolCells (bitZ y) k) ∧ Two wr w.heap.size (.bool b) (.slice A ds.length c) ∧ Res wr (w.heap.size + 2) ∧ Below w.heap.size w wr) (fun iv _ => k - (intOf iv).toNat)
    case atStart => exact ⟨0, rfl, Nat.zero_le _, by rw [depF_zero]; exact HI.out.1, HI.out.2.1, HI.out.2.2.2.1, HI.out.2.2.2.2.1, below_then H.out.1 HI.out.2.2.1⟩
    case round =>
      obtain ⟨i, rfl, hi, ho1, ho2, ht, hr, hbw⟩ := hrel
      by_cases hik : i < k
      · have hpn : p + i < N := by have := H.out.2.2.2.2.2.2.2.1; have := HN3.out; omega
        rcases ho1.2 with ⟨_, h00⟩ | ⟨g1, cap1, cur1, he1, hg1b, hg1, hc1, _, _, _⟩
        · omega
        · injection he1 with e1 _ e3
          subst e1 e3
          rcases ho2.2 with ⟨_, h00⟩ | ⟨g2, cap2, cur2, he2, hg2b, hg2, hc2, _, _, _⟩
          · omega
          · injection he2 with e1 _ e3
            subst e1 e3
            have hne : g1 ≠ g2 := by
              have a1 := (HO.out.1.lt g1 rfl).2
              have a2 := HI.out.2.2.2.2.2
              omega
            have ca := ho2.cells (g := g2) rfl i (.bool (bitZ y i)) (by unfold boolCells; rw [List.getElem?_map, List.getElem?_range hik]; rfl)
            have cb := ho1.cells (g := g1) rfl (p + i) (.bool (depF z y p i (p + i))) (by unfold boolCells; rw [List.getElem?_map, List.getElem?_range hpn]; rfl)
            have fb := ho1.frozenAt (p + i)
            rw [Addr.add_lit, Nat.zero_add] at ca cb
            obtain ⟨s1, s2⟩ := ho1.stored (p + i) (.bool (bitZ y i))
            rw [depF_set z y p i N hpn] at s1
            have s3 := ho2.kept s2 (.inr (by simp [Value.ownBlock]; omega))
            have hgw : w.heap.size + 3 ≤ g1 := by have := HO.out.2.1; omega
            have hlt0 := World.block_lt_of_cell? wr _ ht.1
            have hlt2 := World.block_lt_of_cell? wr _ hr.1.1
            have t3 : Two (wr.setCell ⟨g1, p + i, none⟩ (.bool (bitZ y i))) w.heap.size (.bool b) (.slice A ds.length c) := ⟨s2.cell ht.1 (by simp; omega), s2.cell ht.2 (by simp; omega)⟩
            have r3 : Res (wr.setCell ⟨g1, p + i, none⟩ (.bool (bitZ y i))) (w.heap.size + 2) := ⟨⟨s2.cell hr.1.1 (by simp; omega), s2.cell hr.1.2 (by simp; omega)⟩, (World.frozen?_of_block (a := ⟨w.heap.size + 2, 0, none⟩) (s2.block _ hlt2 (by simp; omega))).trans hr.2.1, (World.frozen?_of_block (a := ⟨w.heap.size + 2, 1, none⟩) (s2.block _ hlt2 (by simp; omega))).trans hr.2.2⟩
            have b3 := hbw.setCell (p := ⟨g1, p + i, none⟩) (show w.heap.size ≤ g1 by omega) (.bool (bitZ y i))
            have hikI : (i : Int) < (k : Int) := by omega
            have i0 : (0 : Int) ≤ (i : Int) := Int.natCast_nonneg i
            obtain ⟨q, hq⟩ : ∃ q, p + i = q := ⟨_, rfl⟩
            have hqI : (p : Int) + (i : Int) = (q : Int) := by omega
            have hqN : (q : Int) < (N : Int) := by omega
            have q0 : (0 : Int) ≤ (q : Int) := Int.natCast_nonneg q
            have hqw : IntKind.i64.wrap (q : Int) = (q : Int) := IntWalk.i64_in _ (by omega)
            rw [hq] at cb fb s1 s3 t3 r3 b3
            have HR := Lib.hid (And.intro s1 (And.intro s3 (And.intro t3 (And.intro r3 b3))))
            clear ht hr hbw ho1 ho2 s1 s2 s3 t3 r3 b3 hg1 hg2 hg1b hg2b hc1 hc2 hgw hne hlt0 hlt2 hpn hq
            go_wp2
            go_roundw
            case rel => exact ⟨i + 1, by go_num, by omega, HR.out.1, HR.out.2.1, HR.out.2.2.1, HR.out.2.2.2.1, HR.out.2.2.2.2⟩
            case measure => simp [intOf]; omega
      · obtain rfl : i = k := by omega
        obtain ⟨q0, q1⟩ := id ht
        have hzz : ofBits (depF z y p i) N b = depZ z y i p := by
          have hs := H.out.2.2.2.2.2.2.2.2.2.2.2.2.2.2
          unfold SignOf at hs
          rw [hs, ← dep_f, H.out.2.2.2.2.2.2.2.2.1, H.out.2.2.2.2.2.2.2.1, H.out.2.2.2.2.2.2.2.2.2.1]
        have hof := rof_is A1 c1 N N (depF z y p i) b (depZ z y i p) wr rfl (bools_of_own ho1) (by have := HN3.out; omega) hzz
        have HE := Lib.hid (And.intro hof (And.intro hr hbw))
        clear ht hr hbw ho1 ho2 hof hzz
        go_wp2_with fail
        refine HE.out.1.mono ?_
        rintro e w3 ⟨v3, rfl, hv3, hb3⟩
        have hlt := World.block_lt_of_cell? wr _ HE.out.2.1.1.1
        have r3 := HE.out.2.1.step hb3 rfl hlt
        have HG := Lib.hid (And.intro r3 (below_then HE.out.2.2 hb3))
        obtain ⟨⟨hr0, hr1⟩, hf0, hf1⟩ := id r3
        obtain ⟨b6, A6, c6, d6, rfl, g6, l6⟩ := id hv3
        clear r3 hb3 hlt q0 q1
        go_wp2
        obtain ⟨s0, s1⟩ := HG.out.1.1.stored (.bool b6) (.slice A6 d6.length c6)
        refine bodyPost_ret (v := .tuple #[.agg #[.bool b6, .slice A6 d6.length c6], .int .i64 0]) (by simp [results, Try.results59, go_sem, s0, s1]) rfl ?_
        exact refE_stored HG.out.1 g6 l6 HG.out.2 (by omega)
end Go.Proofs.Ytagocllbfbbneaa.RK
