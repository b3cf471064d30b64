/- What Gcd of the reference does. -/
import Derived.Test.YtagocllbfbbneaaRDivide
namespace Go.Proofs.Ytagocllbfbbneaa.RK
open Go.RowKit
set_option linter.unusedSimpArgs false

theorem size_put (W : World) (p q : Addr) (u v : Value) : ((W.setCell p u).setCell q v).heap.size = W.heap.size := by simp [World.setCell]
theorem RefAt.past {W : World} {v : Value} {z : Int} (h : RefAt W v z) {r : Nat} {b : Bool} {A : Option Addr} {n c : Nat} (t : Two W r (.bool b) (.slice A n c)) (u x : Value) : RefAt ((W.setCell ⟨r, 0, none⟩ u).setCell ⟨r, 1, none⟩ x) v z := by
  obtain ⟨b0, A0, c0, zs, e, hs, hd⟩ := h
  exact ⟨b0, A0, c0, zs, e, hs, hd.over2 t u x⟩
theorem Vars.past {W : World} {l : List VarT} (h : Vars W l) {r : Nat} (hr : Res W r) {K : Nat} (hl : ∀ t ∈ l, t.here = true → t.r < K) (hK : K ≤ r) (b : Bool) (A : Option Addr) (n c : Nat) :
    Vars ((W.setCell ⟨r, 0, none⟩ (.bool b)).setCell ⟨r, 1, none⟩ (.slice A n c)) l := fun i t ht => by
  have hv := h i t ht
  refine ⟨fun e => by rw [size_put]; exact hv.lt e, fun e => (hv.two e).far (by have := hl t (List.mem_of_getElem? ht) e; omega) _ _, RefAt.past hv.at_ hr.1 _ _⟩
/-- A variable at r that may be written, with the number z. -/
structure Held3 (w : World) (r : Nat) (b : Bool) (A : Option Addr) (n c : Nat) (z : Int) : Prop where
  two : Two w r (.bool b) (.slice A n c)
  fz : w.frozen? ⟨r, 0, none⟩ = false ∧ w.frozen? ⟨r, 1, none⟩ = false
  lt : r < w.heap.size
  at_ : RefAt w (.agg #[.bool b, .slice A n c]) z
theorem Held3.step {W0 W w1 : World} {r : Nat} {b : Bool} {A : Option Addr} {n c : Nat} {z : Int} (h : Held3 W0 r b A n c z) (hb : Below W.heap.size W w1) (hh : W.heap = W0.heap) : Held3 w1 r b A n c z := by
  have e : ∀ p, W.frozen? p = W0.frozen? p := fun p => by simp [World.frozen?, hh]
  have hl : r < W.heap.size := by rw [hh]; exact h.lt
  exact ⟨h.two.step hb hh h.lt, ⟨((hb.frozen (p := ⟨r, 0, none⟩) hl).trans (e _)).trans h.fz.1, ((hb.frozen (p := ⟨r, 1, none⟩) hl).trans (e _)).trans h.fz.2⟩, Nat.lt_of_lt_of_le hl hb.size, h.at_.step hb hh⟩
theorem _root_.Go.Proofs.Ytagocllbfbbneaa.Res.held3 {W : World} {r : Nat} (h : Res W r) (hl : r < W.heap.size) {b : Bool} {A : Option Addr} {n c : Nat} {z : Int} (hv : RefAt W (.agg #[.bool b, .slice A n c]) z) :
    Held3 ((W.setCell ⟨r, 0, none⟩ (.bool b)).setCell ⟨r, 1, none⟩ (.slice A n c)) r b A n c z :=
  ⟨h.1.stored _ _, ⟨by rw [frz_set, frz_set]; exact h.2.1, by rw [frz_set, frz_set]; exact h.2.2⟩, by rw [size_put]; exact hl, RefAt.past hv h.1 _ _⟩
theorem Held3.past {W : World} {r : Nat} {b : Bool} {A : Option Addr} {n c : Nat} {z : Int} (h : Held3 W r b A n c z) {q : Nat} (hq : Res W q) (hne : q ≠ r) (b' : Bool) (A' : Option Addr) (n' c' : Nat) :
    Held3 ((W.setCell ⟨q, 0, none⟩ (.bool b')).setCell ⟨q, 1, none⟩ (.slice A' n' c')) r b A n c z :=
  ⟨h.two.far hne _ _, ⟨by rw [frz_set, frz_set]; exact h.fz.1, by rw [frz_set, frz_set]; exact h.fz.2⟩, by rw [size_put]; exact h.lt, RefAt.past h.at_ hq.1 _ _⟩
/-- Another variable is written. -/
theorem Held3.past3 {W : World} {r : Nat} {b : Bool} {A : Option Addr} {n c : Nat} {z : Int} (h : Held3 W r b A n c z) {q : Nat} {b2 : Bool} {A2 : Option Addr} {n2 c2 : Nat} (hq : Two W q (.bool b2) (.slice A2 n2 c2)) (hne : q ≠ r) (b' : Bool) (A' : Option Addr) (n' c' : Nat) :
    Held3 ((W.setCell ⟨q, 0, none⟩ (.bool b')).setCell ⟨q, 1, none⟩ (.slice A' n' c')) r b A n c z :=
  ⟨h.two.far hne _ _, ⟨by rw [frz_set, frz_set]; exact h.fz.1, by rw [frz_set, frz_set]; exact h.fz.2⟩, by rw [size_put]; exact h.lt, RefAt.past h.at_ hq _ _⟩
theorem Held3.over {W : World} {r : Nat} {b b' : Bool} {A A' : Option Addr} {n n' c c' : Nat} {z z' : Int} (h : Held3 W r b A n c z) (hv : RefAt W (.agg #[.bool b', .slice A' n' c']) z') :
    Held3 ((W.setCell ⟨r, 0, none⟩ (.bool b')).setCell ⟨r, 1, none⟩ (.slice A' n' c')) r b' A' n' c' z' :=
  ⟨h.two.stored _ _, ⟨by rw [frz_set, frz_set]; exact h.fz.1, by rw [frz_set, frz_set]; exact h.fz.2⟩, by rw [size_put]; exact h.lt, RefAt.past hv h.two _ _⟩
theorem Held3.new {w : World} {b : Bool} {A : Option Addr} {n c : Nat} {z : Int} (h : RefAt w (.agg #[.bool b, .slice A n c]) z) : Held3 (w.alloc (.cells #[.bool b, .slice A n c] 31)) w.heap.size b A n c z := by
  refine ⟨Two.new w _ _ _, ?_, by simp, h.step ((Below.refl _ _).alloc (Nat.le_refl _) _) rfl⟩
  constructor <;> go_simp
/-- Both variables of the loop. -/
def Both (W : World) (r5 r6 : Nat) (a b : Int) : Prop := ∃ b5 A5 n5 c5 b6 A6 n6 c6, Held3 W r5 b5 A5 n5 c5 a ∧ Held3 W r6 b6 A6 n6 c6 b
theorem gcd_tmod (a b : Nat) : Nat.gcd b (a % b) = Nat.gcd a b := by
  rw [Nat.gcd_comm b, ← Nat.gcd_rec, Nat.gcd_comm]

set_option maxRecDepth 100000 in
set_option maxHeartbeats 4000000 in
theorem RGcd_any (v1 v2 : Value) (x y : Int) (m : Nat) (w : World) (h1 : RefAt w v1 x) (h2 : RefAt w v2 y) (hm : m ≤ 1000) (hx : FitD x m) (hy : FitD y m) : Calls Try.prog 45 #[v1, v2] w fun e w' => IsRef w w' ((Int.gcd x y : Nat) : Int) e := by
  obtain ⟨b1, A1, c1, zs1, rfl, hs1, hd1⟩ := h1
  obtain ⟨b2, A2, c2, zs2, rfl, hs2, hd2⟩ := h2
  have hb0 := begun2_below w (.bool b1) (.slice A1 zs1.length c1) (.bool b2) (.slice A2 zs2.length c2) 31
  have hT1 := begun2_x w (.bool b1) (.slice A1 zs1.length c1) (.bool b2) (.slice A2 zs2.length c2) 31
  have hT2 := begun2_y w (.bool b1) (.slice A1 zs1.length c1) (.bool b2) (.slice A2 zs2.length c2) 31
  have hres := begun2_r w (.bool b1) (.slice A1 zs1.length c1) (.bool b2) (.slice A2 zs2.length c2) 31
  have hsz := begun2_size w (.bool b1) (.slice A1 zs1.length c1) (.bool b2) (.slice A2 zs2.length c2) 31
  obtain ⟨W, hW⟩ : ∃ W, begun2 w (.bool b1) (.slice A1 zs1.length c1) (.bool b2) (.slice A2 zs2.length c2) 31 = W := ⟨_, rfl⟩
  rw [hW] at hb0 hT1 hT2 hres hsz
  unfold begun2 at hW
  have hbase : w.heap.size + 3 ≤ W.heap.size := by omega
  have hres_lt : w.heap.size + 2 < W.heap.size := by omega
  have hv0 : Vars W [⟨true, w.heap.size + 1, b2, A2, zs2.length, c2, y⟩, ⟨true, w.heap.size, b1, A1, zs1.length, c1, x⟩] :=
    ((Vars.nil W).cons ⟨fun _ => by show w.heap.size < _; omega, fun _ => hT1, b1, A1, c1, zs1, rfl, hs1, hd1.below hb0⟩).cons ⟨fun _ => by show w.heap.size + 1 < _; omega, fun _ => hT2, b2, A2, c2, zs2, rfl, hs2, hd2.below hb0⟩
  have HC := Lib.hid (And.intro hv0 (Below.refl W.heap.size W))
  have H0 := Lib.hid (And.intro hb0 (And.intro hx hy))
  clear hb0 hT1 hT2 hv0 hs1 hd1 hs2 hd2 hsz hx hy
  go_enter Try.func45, Try.ntmps45
  go_upto_region 1 with fail
  try rw [hW]
  clear hW
  go_cut [5, 6] (fun s5 s6 wx => ∃ r5 r6 : Nat, s5 = .pointer (some ⟨r5, 0, none⟩) ∧ s6 = .pointer (some ⟨r6, 0, none⟩) ∧ r5 ≠ r6 ∧ w.heap.size + 3 ≤ r5 ∧ w.heap.size + 3 ≤ r6 ∧ Both wx r5 r6 ((x.natAbs : Nat) : Int) ((y.natAbs : Nat) : Int) ∧ Res wx (w.heap.size + 2) ∧ Below w.heap.size w wx)
  case first => as_aux_lemma =>
    have HD1 := Lib.hid (And.intro HC.out.1.drew HC.out.2.drew)
    refine wp_region_held_drew (S := Cells [⟨true, (w.heap.size + 1), b2, A2, zs2.length, c2, y⟩, ⟨true, w.heap.size, b1, A1, zs1.length, c1, x⟩]) (by kernel_rfl) (HD1.out.1.cells) (fun hH0 => ?_)
    refine wpAnyH_take (i := 0) (v := (.agg #[.bool b1, .slice A1 zs1.length c1])) rfl (by kernel_rfl) (by kernel_rfl) (by kernel_rfl) (fun _ _ _ h => h) (Or.inl ⟨by kernel_rfl, fun w0 hS0 => run_load (hS0 1 _ rfl rfl) (.tmp 2) (by kernel_rfl) (by kernel_rfl)⟩) hH0 ?r1
    change wpAnyH _ _ _ _ _ _ _ (Act.put _ (some 10) _) _
    simp only [Act.put, List.setIfInBounds_toArray, List.set_cons_zero, List.set_cons_succ]
    refine wpAnyH_take (i := 2) (v := (.agg #[.bool b2, .slice A2 zs2.length c2])) rfl (by kernel_rfl) (by kernel_rfl) (by kernel_rfl) (fun _ _ _ h => h) (Or.inl ⟨by kernel_rfl, fun w0 hS0 => run_load (hS0 0 _ rfl rfl) (.tmp 3) (by kernel_rfl) (by kernel_rfl)⟩) hH0 ?r2
    change wpAnyH _ _ _ _ _ _ _ (Act.put _ (some 12) _) _
    simp only [Act.put, List.setIfInBounds_toArray, List.set_cons_zero, List.set_cons_succ]
    refine wpAnyH_ready (rs := [1, 4, 5]) (by kernel_rfl) (by simp) ?_
    refine AllReadyH.cons rfl (fun K hK0 => ?d3) (AllReadyH.cons rfl (fun K hK0 => ?d4) (AllReadyH.cons rfl (fun K hK0 => ?d5) (AllReadyH.nil)))
    case d3 =>
      have hK := hK0.out
      clear hK0
      rw [if_pos (by kernel_rfl)]
      refine wp_go_call 37 #[(.agg #[.bool b1, .slice A1 zs1.length c1])] (fun _ => by kernel_rfl) ((RAbs_any _ x _ ((HD1.out.1 1 _ rfl).at_)).mono ?_)
      rintro e wq2 ⟨qv2, rfl, ⟨qb2, qA2, qc2, qs2, rfl, qg2, ql2⟩, hb2⟩
      have HD2 := Lib.hid (And.intro ((HD1.out.1.step hb2 rfl).told qg2 ql2) (below_then HD1.out.2 hb2))
      have hr2_99 := hres.step hb2 rfl hres_lt
      have hr2_99_lt := Nat.lt_of_lt_of_le hres_lt hb2.size
      refine ⟨(.agg #[.bool qb2, .slice qA2 qs2.length qc2]), rfl, hK _ _ (HD2.out.1.tail.cells) (fun hH2 => ?_)⟩
      clear hK K hH0
      change wpAnyH _ _ _ _ _ _ _ (Act.put _ (some 11) _) _
      simp only [Act.put, List.setIfInBounds_toArray, List.set_cons_zero, List.set_cons_succ]
      refine wpAnyH_ready (rs := [3, 4, 5]) (by kernel_rfl) (by simp) ?_
      refine AllReadyH.cons rfl (fun K hK0 => ?d6) (AllReadyH.cons rfl (fun K hK0 => ?d7) (AllReadyH.cons rfl (fun K hK0 => ?d8) (AllReadyH.nil)))
      case d6 =>
        have hK := hK0.out
        clear hK0
        rw [if_pos (by kernel_rfl)]
        refine wp_go_call 37 #[(.agg #[.bool b2, .slice A2 zs2.length c2])] (fun _ => by kernel_rfl) ((RAbs_any _ y _ ((HD2.out.1 1 _ rfl).at_)).mono ?_)
        rintro e wq3 ⟨qv3, rfl, ⟨qb3, qA3, qc3, qs3, rfl, qg3, ql3⟩, hb3⟩
        have HD3 := Lib.hid (And.intro ((HD2.out.1.step hb3 rfl).told qg3 ql3) (below_then HD2.out.2 hb3))
        have hr3_99 := hr2_99.step hb3 rfl hr2_99_lt
        have hr3_99_lt := Nat.lt_of_lt_of_le hr2_99_lt hb3.size
        refine ⟨(.agg #[.bool qb3, .slice qA3 qs3.length qc3]), rfl, hK _ _ (HD3.out.1.tail.tail.cells) (fun hH3 => ?_)⟩
        clear hK K hH2
        change wpAnyH _ _ _ _ _ _ _ (Act.put _ (some 13) _) _
        simp only [Act.put, List.setIfInBounds_toArray, List.set_cons_zero, List.set_cons_succ]
        refine wpAnyH_ready (rs := [4, 5]) (by kernel_rfl) (by simp) ?_
        refine AllReadyH.cons rfl (fun K hK0 => ?d9) (AllReadyH.cons rfl (fun K hK0 => ?d10) (AllReadyH.nil))
        case d9 =>
          have hK := hK0.out
          clear hK0
          rw [if_pos (by kernel_rfl)]
          refine wp_go_val (.pointer (some ⟨(wq3).heap.size, 0, none⟩)) (run_alloc _ _ _ (by kernel_rfl)) ?_
          have HD4 := Lib.hid (And.intro (HD3.out.1.alloc (.cells #[.bool false, .slice none 0 0] 31)) (HD3.out.2.alloc HD3.out.2.size (.cells #[.bool false, .slice none 0 0] 31)))
          have hr4 := Res.new (wq3) 31
          have hr4_lt : (wq3).heap.size < ((wq3).alloc (.cells #[.bool false, .slice none 0 0] 31)).heap.size := Nat.lt_of_lt_of_eq (Nat.lt_succ_self _) (size_alloc _ _).symm
          have hr4_ge := HD3.out.2.size
          have hr4_99 := hr3_99.step ((Below.refl (wq3).heap.size (wq3)).alloc (Nat.le_refl _) (.cells #[.bool false, .slice none 0 0] 31)) rfl hr3_99_lt
          have hr4_99_lt : (w.heap.size + 2) < ((wq3).alloc (.cells #[.bool false, .slice none 0 0] 31)).heap.size := Nat.lt_of_lt_of_eq (Nat.lt_succ_of_lt hr3_99_lt) (size_alloc _ _).symm
          refine hK _ _ (HD4.out.1.tail.tail.cells) (fun hH4 => ?_)
          clear hK K hH3
          change wpAnyH _ _ _ _ _ _ _ (Act.put _ (some 5) _) _
          simp only [Act.put, List.setIfInBounds_toArray, List.set_cons_zero, List.set_cons_succ]
          refine wpAnyH_ready (rs := [5]) (by kernel_rfl) (by simp) ?_
          refine AllReadyH.cons rfl (fun K hK0 => ?d11) (AllReadyH.nil)
          have hK := hK0.out
          clear hK0
          rw [if_pos (by kernel_rfl)]
          refine wp_go_val (.pointer (some ⟨(((wq3).alloc (.cells #[.bool false, .slice none 0 0] 31))).heap.size, 0, none⟩)) (run_alloc _ _ _ (by kernel_rfl)) ?_
          have HD5 := Lib.hid (And.intro (HD4.out.1.alloc (.cells #[.bool false, .slice none 0 0] 31)) (HD4.out.2.alloc HD4.out.2.size (.cells #[.bool false, .slice none 0 0] 31)))
          have hr5 := Res.new (((wq3).alloc (.cells #[.bool false, .slice none 0 0] 31))) 31
          have hr5_lt : (((wq3).alloc (.cells #[.bool false, .slice none 0 0] 31))).heap.size < ((((wq3).alloc (.cells #[.bool false, .slice none 0 0] 31))).alloc (.cells #[.bool false, .slice none 0 0] 31)).heap.size := Nat.lt_of_lt_of_eq (Nat.lt_succ_self _) (size_alloc _ _).symm
          have hr5_ge := HD4.out.2.size
          have hr5_99 := hr4_99.step ((Below.refl (((wq3).alloc (.cells #[.bool false, .slice none 0 0] 31))).heap.size (((wq3).alloc (.cells #[.bool false, .slice none 0 0] 31)))).alloc (Nat.le_refl _) (.cells #[.bool false, .slice none 0 0] 31)) rfl hr4_99_lt
          have hr5_99_lt : (w.heap.size + 2) < ((((wq3).alloc (.cells #[.bool false, .slice none 0 0] 31))).alloc (.cells #[.bool false, .slice none 0 0] 31)).heap.size := Nat.lt_of_lt_of_eq (Nat.lt_succ_of_lt hr4_99_lt) (size_alloc _ _).symm
          have hr5_4 := hr4.step ((Below.refl (((wq3).alloc (.cells #[.bool false, .slice none 0 0] 31))).heap.size (((wq3).alloc (.cells #[.bool false, .slice none 0 0] 31)))).alloc (Nat.le_refl _) (.cells #[.bool false, .slice none 0 0] 31)) rfl hr4_lt
          have hr5_4_lt : (wq3).heap.size < ((((wq3).alloc (.cells #[.bool false, .slice none 0 0] 31))).alloc (.cells #[.bool false, .slice none 0 0] 31)).heap.size := Nat.lt_of_lt_of_eq (Nat.lt_succ_of_lt hr4_lt) (size_alloc _ _).symm
          have hne5 := Nat.ne_of_lt hr4_lt
          refine hK _ _ (HD5.out.1.tail.tail.cells) (fun hH5 => ?_)
          clear hK K hH4
          change wpAnyH _ _ _ _ _ _ _ (Act.put _ (some 6) _) _
          simp only [Act.put, List.setIfInBounds_toArray, List.set_cons_zero, List.set_cons_succ]
          refine wpAnyH_ready (rs := [6]) (by kernel_rfl) (by simp) ?_
          refine AllReadyH.cons rfl (fun K hK0 => ?d12) (AllReadyH.nil)
          have hK := hK0.out
          clear hK0
          rw [if_pos (by kernel_rfl)]
          refine wp_go_skip (run_store2 hr5_4 qb2 qA2 qs2.length qc2 (.tmp 5) (.tmp 11) (by kernel_rfl) (by kernel_rfl) (by kernel_rfl)) ?_
          have hv6 := Vars.past HD5.out.1 hr5_4 (K := w.heap.size + 3) (by simp) (Nat.le_trans hbase hr4_ge) qb2 qA2 qs2.length qc2
          have o6 := hr5_4.held3 hr5_4_lt (HD5.out.1 1 _ rfl).at_
          have HD6 := Lib.hid (And.intro hv6 ((HD5.out.2.setCell (p := ⟨(wq3).heap.size, 0, none⟩) hr4_ge (.bool qb2)).setCell (p := ⟨(wq3).heap.size, 1, none⟩) hr4_ge (.slice qA2 qs2.length qc2)))
          have hr6_99 := hr5_99.farther (q := (wq3).heap.size) (by have h1 := Nat.le_trans hbase hr4_ge; omega) (.bool qb2) (.slice qA2 qs2.length qc2)
          have hr6_99_lt : (w.heap.size + 2) < (((((((wq3).alloc (.cells #[.bool false, .slice none 0 0] 31))).alloc (.cells #[.bool false, .slice none 0 0] 31))).setCell ⟨(wq3).heap.size, 0, none⟩ (.bool qb2)).setCell ⟨(wq3).heap.size, 1, none⟩ (.slice qA2 qs2.length qc2)).heap.size := Nat.lt_of_lt_of_eq hr5_99_lt (size_put _ _ _ _ _).symm
          have hr6_5 := hr5.farther (q := (wq3).heap.size) hne5 (.bool qb2) (.slice qA2 qs2.length qc2)
          have hr6_5_lt : (((wq3).alloc (.cells #[.bool false, .slice none 0 0] 31))).heap.size < (((((((wq3).alloc (.cells #[.bool false, .slice none 0 0] 31))).alloc (.cells #[.bool false, .slice none 0 0] 31))).setCell ⟨(wq3).heap.size, 0, none⟩ (.bool qb2)).setCell ⟨(wq3).heap.size, 1, none⟩ (.slice qA2 qs2.length qc2)).heap.size := Nat.lt_of_lt_of_eq hr5_lt (size_put _ _ _ _ _).symm
          refine hK _ _ (HD6.out.1.tail.tail.cells) (fun hH6 => ?_)
          clear hK K hH5
          change wpAnyH _ _ _ _ _ _ _ (Act.put _ none _) _
          simp only [Act.put]
          refine wpAnyH_ready (rs := [7]) (by kernel_rfl) (by simp) ?_
          refine AllReadyH.cons rfl (fun K hK0 => ?d13) (AllReadyH.nil)
          have hK := hK0.out
          clear hK0
          rw [if_pos (by kernel_rfl)]
          refine wp_go_skip (run_store2 hr6_5 qb3 qA3 qs3.length qc3 (.tmp 6) (.tmp 13) (by kernel_rfl) (by kernel_rfl) (by kernel_rfl)) ?_
          have hv7 := Vars.past HD6.out.1 hr6_5 (K := w.heap.size + 3) (by simp) (Nat.le_trans hbase hr5_ge) qb3 qA3 qs3.length qc3
          have o7 := hr6_5.held3 hr6_5_lt (HD6.out.1 0 _ rfl).at_
          have HD7 := Lib.hid (And.intro hv7 ((HD6.out.2.setCell (p := ⟨(((wq3).alloc (.cells #[.bool false, .slice none 0 0] 31))).heap.size, 0, none⟩) hr5_ge (.bool qb3)).setCell (p := ⟨(((wq3).alloc (.cells #[.bool false, .slice none 0 0] 31))).heap.size, 1, none⟩) hr5_ge (.slice qA3 qs3.length qc3)))
          have o7_p := o6.past hr6_5 (fun e => hne5 e.symm) qb3 qA3 qs3.length qc3
          have hr7_99 := hr6_99.farther (q := (((wq3).alloc (.cells #[.bool false, .slice none 0 0] 31))).heap.size) (by have h1 := Nat.le_trans hbase hr5_ge; omega) (.bool qb3) (.slice qA3 qs3.length qc3)
          have hr7_99_lt : (w.heap.size + 2) < ((((((((((wq3).alloc (.cells #[.bool false, .slice none 0 0] 31))).alloc (.cells #[.bool false, .slice none 0 0] 31))).setCell ⟨(wq3).heap.size, 0, none⟩ (.bool qb2)).setCell ⟨(wq3).heap.size, 1, none⟩ (.slice qA2 qs2.length qc2))).setCell ⟨(((wq3).alloc (.cells #[.bool false, .slice none 0 0] 31))).heap.size, 0, none⟩ (.bool qb3)).setCell ⟨(((wq3).alloc (.cells #[.bool false, .slice none 0 0] 31))).heap.size, 1, none⟩ (.slice qA3 qs3.length qc3)).heap.size := Nat.lt_of_lt_of_eq hr6_99_lt (size_put _ _ _ _ _).symm
          refine hK _ _ (HD7.out.1.tail.tail.cells) (fun hH7 => ?_)
          clear hK K hH6
          change wpAnyH _ _ _ _ _ _ _ (Act.put _ none _) _
          simp only [Act.put]
          refine wpAnyH_done (by kernel_rfl) ?_ _
          have HF := Lib.hid (And.intro (show (wq3).heap.size ≠ (((wq3).alloc (.cells #[.bool false, .slice none 0 0] 31))).heap.size from hne5) (And.intro (Nat.le_trans hbase hr4_ge) (And.intro (Nat.le_trans hbase hr5_ge) (And.intro (show Both ((((((((((wq3).alloc (.cells #[.bool false, .slice none 0 0] 31))).alloc (.cells #[.bool false, .slice none 0 0] 31))).setCell ⟨(wq3).heap.size, 0, none⟩ (.bool qb2)).setCell ⟨(wq3).heap.size, 1, none⟩ (.slice qA2 qs2.length qc2))).setCell ⟨(((wq3).alloc (.cells #[.bool false, .slice none 0 0] 31))).heap.size, 0, none⟩ (.bool qb3)).setCell ⟨(((wq3).alloc (.cells #[.bool false, .slice none 0 0] 31))).heap.size, 1, none⟩ (.slice qA3 qs3.length qc3)) (wq3).heap.size (((wq3).alloc (.cells #[.bool false, .slice none 0 0] 31))).heap.size ((x.natAbs : Nat) : Int) ((y.natAbs : Nat) : Int) from ⟨_, _, _, _, _, _, _, _, o7_p, o7⟩) (And.intro hr7_99 (below_then H0.out.1 HD7.out.2))))))
          clear o7_p o7 hr7_99
          generalize ((((((((((wq3).alloc (.cells #[.bool false, .slice none 0 0] 31))).alloc (.cells #[.bool false, .slice none 0 0] 31))).setCell ⟨(wq3).heap.size, 0, none⟩ (.bool qb2)).setCell ⟨(wq3).heap.size, 1, none⟩ (.slice qA2 qs2.length qc2))).setCell ⟨(((wq3).alloc (.cells #[.bool false, .slice none 0 0] 31))).heap.size, 0, none⟩ (.bool qb3)).setCell ⟨(((wq3).alloc (.cells #[.bool false, .slice none 0 0] 31))).heap.size, 1, none⟩ (.slice qA3 qs3.length qc3)) = Wz at HF ⊢
          generalize (((wq3).alloc (.cells #[.bool false, .slice none 0 0] 31))).heap.size = q6 at HF ⊢
          generalize (wq3).heap.size = q5 at HF ⊢
          go_wp2
          go_meet
          exact ⟨q5, q6, rfl, rfl, HF.out⟩
        case d10 =>
          have hK := hK0.out
          clear hK0
          rw [if_pos (by kernel_rfl)]
          refine wp_go_val (.pointer (some ⟨(wq3).heap.size, 0, none⟩)) (run_alloc _ _ _ (by kernel_rfl)) ?_
          have HD8 := Lib.hid (And.intro (HD3.out.1.alloc (.cells #[.bool false, .slice none 0 0] 31)) (HD3.out.2.alloc HD3.out.2.size (.cells #[.bool false, .slice none 0 0] 31)))
          have hr8 := Res.new (wq3) 31
          have hr8_lt : (wq3).heap.size < ((wq3).alloc (.cells #[.bool false, .slice none 0 0] 31)).heap.size := Nat.lt_of_lt_of_eq (Nat.lt_succ_self _) (size_alloc _ _).symm
          have hr8_ge := HD3.out.2.size
          have hr8_99 := hr3_99.step ((Below.refl (wq3).heap.size (wq3)).alloc (Nat.le_refl _) (.cells #[.bool false, .slice none 0 0] 31)) rfl hr3_99_lt
          have hr8_99_lt : (w.heap.size + 2) < ((wq3).alloc (.cells #[.bool false, .slice none 0 0] 31)).heap.size := Nat.lt_of_lt_of_eq (Nat.lt_succ_of_lt hr3_99_lt) (size_alloc _ _).symm
          refine hK _ _ (HD8.out.1.tail.tail.cells) (fun hH8 => ?_)
          clear hK K hH3
          change wpAnyH _ _ _ _ _ _ _ (Act.put _ (some 6) _) _
          simp only [Act.put, List.setIfInBounds_toArray, List.set_cons_zero, List.set_cons_succ]
          refine wpAnyH_ready (rs := [4]) (by kernel_rfl) (by simp) ?_
          refine AllReadyH.cons rfl (fun K hK0 => ?d14) (AllReadyH.nil)
          have hK := hK0.out
          clear hK0
          rw [if_pos (by kernel_rfl)]
          refine wp_go_val (.pointer (some ⟨(((wq3).alloc (.cells #[.bool false, .slice none 0 0] 31))).heap.size, 0, none⟩)) (run_alloc _ _ _ (by kernel_rfl)) ?_
          have HD9 := Lib.hid (And.intro (HD8.out.1.alloc (.cells #[.bool false, .slice none 0 0] 31)) (HD8.out.2.alloc HD8.out.2.size (.cells #[.bool false, .slice none 0 0] 31)))
          have hr9 := Res.new (((wq3).alloc (.cells #[.bool false, .slice none 0 0] 31))) 31
          have hr9_lt : (((wq3).alloc (.cells #[.bool false, .slice none 0 0] 31))).heap.size < ((((wq3).alloc (.cells #[.bool false, .slice none 0 0] 31))).alloc (.cells #[.bool false, .slice none 0 0] 31)).heap.size := Nat.lt_of_lt_of_eq (Nat.lt_succ_self _) (size_alloc _ _).symm
          have hr9_ge := HD8.out.2.size
          have hr9_99 := hr8_99.step ((Below.refl (((wq3).alloc (.cells #[.bool false, .slice none 0 0] 31))).heap.size (((wq3).alloc (.cells #[.bool false, .slice none 0 0] 31)))).alloc (Nat.le_refl _) (.cells #[.bool false, .slice none 0 0] 31)) rfl hr8_99_lt
          have hr9_99_lt : (w.heap.size + 2) < ((((wq3).alloc (.cells #[.bool false, .slice none 0 0] 31))).alloc (.cells #[.bool false, .slice none 0 0] 31)).heap.size := Nat.lt_of_lt_of_eq (Nat.lt_succ_of_lt hr8_99_lt) (size_alloc _ _).symm
          have hr9_5 := hr8.step ((Below.refl (((wq3).alloc (.cells #[.bool false, .slice none 0 0] 31))).heap.size (((wq3).alloc (.cells #[.bool false, .slice none 0 0] 31)))).alloc (Nat.le_refl _) (.cells #[.bool false, .slice none 0 0] 31)) rfl hr8_lt
          have hr9_5_lt : (wq3).heap.size < ((((wq3).alloc (.cells #[.bool false, .slice none 0 0] 31))).alloc (.cells #[.bool false, .slice none 0 0] 31)).heap.size := Nat.lt_of_lt_of_eq (Nat.lt_succ_of_lt hr8_lt) (size_alloc _ _).symm
          have hne9 := Nat.ne_of_lt hr8_lt
          refine hK _ _ (HD9.out.1.tail.tail.cells) (fun hH9 => ?_)
          clear hK K hH8
          change wpAnyH _ _ _ _ _ _ _ (Act.put _ (some 5) _) _
          simp only [Act.put, List.setIfInBounds_toArray, List.set_cons_zero, List.set_cons_succ]
          refine wpAnyH_ready (rs := [6]) (by kernel_rfl) (by simp) ?_
          refine AllReadyH.cons rfl (fun K hK0 => ?d15) (AllReadyH.nil)
          have hK := hK0.out
          clear hK0
          rw [if_pos (by kernel_rfl)]
          refine wp_go_skip (run_store2 hr9 qb2 qA2 qs2.length qc2 (.tmp 5) (.tmp 11) (by kernel_rfl) (by kernel_rfl) (by kernel_rfl)) ?_
          have hv10 := Vars.past HD9.out.1 hr9 (K := w.heap.size + 3) (by simp) (Nat.le_trans hbase hr9_ge) qb2 qA2 qs2.length qc2
          have o10 := hr9.held3 hr9_lt (HD9.out.1 1 _ rfl).at_
          have HD10 := Lib.hid (And.intro hv10 ((HD9.out.2.setCell (p := ⟨(((wq3).alloc (.cells #[.bool false, .slice none 0 0] 31))).heap.size, 0, none⟩) hr9_ge (.bool qb2)).setCell (p := ⟨(((wq3).alloc (.cells #[.bool false, .slice none 0 0] 31))).heap.size, 1, none⟩) hr9_ge (.slice qA2 qs2.length qc2)))
          have hr10_99 := hr9_99.farther (q := (((wq3).alloc (.cells #[.bool false, .slice none 0 0] 31))).heap.size) (by have h1 := Nat.le_trans hbase hr9_ge; omega) (.bool qb2) (.slice qA2 qs2.length qc2)
          have hr10_99_lt : (w.heap.size + 2) < (((((((wq3).alloc (.cells #[.bool false, .slice none 0 0] 31))).alloc (.cells #[.bool false, .slice none 0 0] 31))).setCell ⟨(((wq3).alloc (.cells #[.bool false, .slice none 0 0] 31))).heap.size, 0, none⟩ (.bool qb2)).setCell ⟨(((wq3).alloc (.cells #[.bool false, .slice none 0 0] 31))).heap.size, 1, none⟩ (.slice qA2 qs2.length qc2)).heap.size := Nat.lt_of_lt_of_eq hr9_99_lt (size_put _ _ _ _ _).symm
          have hr10_5 := hr9_5.farther (q := (((wq3).alloc (.cells #[.bool false, .slice none 0 0] 31))).heap.size) (fun e => hne9 e.symm) (.bool qb2) (.slice qA2 qs2.length qc2)
          have hr10_5_lt : (wq3).heap.size < (((((((wq3).alloc (.cells #[.bool false, .slice none 0 0] 31))).alloc (.cells #[.bool false, .slice none 0 0] 31))).setCell ⟨(((wq3).alloc (.cells #[.bool false, .slice none 0 0] 31))).heap.size, 0, none⟩ (.bool qb2)).setCell ⟨(((wq3).alloc (.cells #[.bool false, .slice none 0 0] 31))).heap.size, 1, none⟩ (.slice qA2 qs2.length qc2)).heap.size := Nat.lt_of_lt_of_eq hr9_5_lt (size_put _ _ _ _ _).symm
          refine hK _ _ (HD10.out.1.tail.tail.cells) (fun hH10 => ?_)
          clear hK K hH9
          change wpAnyH _ _ _ _ _ _ _ (Act.put _ none _) _
          simp only [Act.put]
          refine wpAnyH_ready (rs := [7]) (by kernel_rfl) (by simp) ?_
          refine AllReadyH.cons rfl (fun K hK0 => ?d16) (AllReadyH.nil)
          have hK := hK0.out
          clear hK0
          rw [if_pos (by kernel_rfl)]
          refine wp_go_skip (run_store2 hr10_5 qb3 qA3 qs3.length qc3 (.tmp 6) (.tmp 13) (by kernel_rfl) (by kernel_rfl) (by kernel_rfl)) ?_
          have hv11 := Vars.past HD10.out.1 hr10_5 (K := w.heap.size + 3) (by simp) (Nat.le_trans hbase hr8_ge) qb3 qA3 qs3.length qc3
          have o11 := hr10_5.held3 hr10_5_lt (HD10.out.1 0 _ rfl).at_
          have HD11 := Lib.hid (And.intro hv11 ((HD10.out.2.setCell (p := ⟨(wq3).heap.size, 0, none⟩) hr8_ge (.bool qb3)).setCell (p := ⟨(wq3).heap.size, 1, none⟩) hr8_ge (.slice qA3 qs3.length qc3)))
          have o11_p := o10.past hr10_5 (hne9) qb3 qA3 qs3.length qc3
          have hr11_99 := hr10_99.farther (q := (wq3).heap.size) (by have h1 := Nat.le_trans hbase hr8_ge; omega) (.bool qb3) (.slice qA3 qs3.length qc3)
          have hr11_99_lt : (w.heap.size + 2) < ((((((((((wq3).alloc (.cells #[.bool false, .slice none 0 0] 31))).alloc (.cells #[.bool false, .slice none 0 0] 31))).setCell ⟨(((wq3).alloc (.cells #[.bool false, .slice none 0 0] 31))).heap.size, 0, none⟩ (.bool qb2)).setCell ⟨(((wq3).alloc (.cells #[.bool false, .slice none 0 0] 31))).heap.size, 1, none⟩ (.slice qA2 qs2.length qc2))).setCell ⟨(wq3).heap.size, 0, none⟩ (.bool qb3)).setCell ⟨(wq3).heap.size, 1, none⟩ (.slice qA3 qs3.length qc3)).heap.size := Nat.lt_of_lt_of_eq hr10_99_lt (size_put _ _ _ _ _).symm
          refine hK _ _ (HD11.out.1.tail.tail.cells) (fun hH11 => ?_)
          clear hK K hH10
          change wpAnyH _ _ _ _ _ _ _ (Act.put _ none _) _
          simp only [Act.put]
          refine wpAnyH_done (by kernel_rfl) ?_ _
          have HF := Lib.hid (And.intro (show (((wq3).alloc (.cells #[.bool false, .slice none 0 0] 31))).heap.size ≠ (wq3).heap.size from (fun e => hne9 e.symm)) (And.intro (Nat.le_trans hbase hr9_ge) (And.intro (Nat.le_trans hbase hr8_ge) (And.intro (show Both ((((((((((wq3).alloc (.cells #[.bool false, .slice none 0 0] 31))).alloc (.cells #[.bool false, .slice none 0 0] 31))).setCell ⟨(((wq3).alloc (.cells #[.bool false, .slice none 0 0] 31))).heap.size, 0, none⟩ (.bool qb2)).setCell ⟨(((wq3).alloc (.cells #[.bool false, .slice none 0 0] 31))).heap.size, 1, none⟩ (.slice qA2 qs2.length qc2))).setCell ⟨(wq3).heap.size, 0, none⟩ (.bool qb3)).setCell ⟨(wq3).heap.size, 1, none⟩ (.slice qA3 qs3.length qc3)) (((wq3).alloc (.cells #[.bool false, .slice none 0 0] 31))).heap.size (wq3).heap.size ((x.natAbs : Nat) : Int) ((y.natAbs : Nat) : Int) from ⟨_, _, _, _, _, _, _, _, o11_p, o11⟩) (And.intro hr11_99 (below_then H0.out.1 HD11.out.2))))))
          clear o11_p o11 hr11_99
          generalize ((((((((((wq3).alloc (.cells #[.bool false, .slice none 0 0] 31))).alloc (.cells #[.bool false, .slice none 0 0] 31))).setCell ⟨(((wq3).alloc (.cells #[.bool false, .slice none 0 0] 31))).heap.size, 0, none⟩ (.bool qb2)).setCell ⟨(((wq3).alloc (.cells #[.bool false, .slice none 0 0] 31))).heap.size, 1, none⟩ (.slice qA2 qs2.length qc2))).setCell ⟨(wq3).heap.size, 0, none⟩ (.bool qb3)).setCell ⟨(wq3).heap.size, 1, none⟩ (.slice qA3 qs3.length qc3)) = Wz at HF ⊢
          generalize (wq3).heap.size = q6 at HF ⊢
          generalize (((wq3).alloc (.cells #[.bool false, .slice none 0 0] 31))).heap.size = q5 at HF ⊢
          go_wp2
          go_meet
          exact ⟨q5, q6, rfl, rfl, HF.out⟩
      case d7 =>
        have hK := hK0.out
        clear hK0
        rw [if_pos (by kernel_rfl)]
        refine wp_go_val (.pointer (some ⟨(wq2).heap.size, 0, none⟩)) (run_alloc _ _ _ (by kernel_rfl)) ?_
        have HD12 := Lib.hid (And.intro (HD2.out.1.alloc (.cells #[.bool false, .slice none 0 0] 31)) (HD2.out.2.alloc HD2.out.2.size (.cells #[.bool false, .slice none 0 0] 31)))
        have hr12 := Res.new (wq2) 31
        have hr12_lt : (wq2).heap.size < ((wq2).alloc (.cells #[.bool false, .slice none 0 0] 31)).heap.size := Nat.lt_of_lt_of_eq (Nat.lt_succ_self _) (size_alloc _ _).symm
        have hr12_ge := HD2.out.2.size
        have hr12_99 := hr2_99.step ((Below.refl (wq2).heap.size (wq2)).alloc (Nat.le_refl _) (.cells #[.bool false, .slice none 0 0] 31)) rfl hr2_99_lt
        have hr12_99_lt : (w.heap.size + 2) < ((wq2).alloc (.cells #[.bool false, .slice none 0 0] 31)).heap.size := Nat.lt_of_lt_of_eq (Nat.lt_succ_of_lt hr2_99_lt) (size_alloc _ _).symm
        refine hK _ _ (HD12.out.1.tail.cells) (fun hH12 => ?_)
        clear hK K hH2
        change wpAnyH _ _ _ _ _ _ _ (Act.put _ (some 5) _) _
        simp only [Act.put, List.setIfInBounds_toArray, List.set_cons_zero, List.set_cons_succ]
        refine wpAnyH_ready (rs := [3, 5]) (by kernel_rfl) (by simp) ?_
        refine AllReadyH.cons rfl (fun K hK0 => ?d17) (AllReadyH.cons rfl (fun K hK0 => ?d18) (AllReadyH.nil))
        case d17 =>
          have hK := hK0.out
          clear hK0
          rw [if_pos (by kernel_rfl)]
          refine wp_go_call 37 #[(.agg #[.bool b2, .slice A2 zs2.length c2])] (fun _ => by kernel_rfl) ((RAbs_any _ y _ ((HD12.out.1 1 _ rfl).at_)).mono ?_)
          rintro e wq13 ⟨qv13, rfl, ⟨qb13, qA13, qc13, qs13, rfl, qg13, ql13⟩, hb13⟩
          have HD13 := Lib.hid (And.intro ((HD12.out.1.step hb13 rfl).told qg13 ql13) (below_then HD12.out.2 hb13))
          have hr13_99 := hr12_99.step hb13 rfl hr12_99_lt
          have hr13_99_lt := Nat.lt_of_lt_of_le hr12_99_lt hb13.size
          have hr13_4 := hr12.step hb13 rfl hr12_lt
          have hr13_4_lt := Nat.lt_of_lt_of_le hr12_lt hb13.size
          refine ⟨(.agg #[.bool qb13, .slice qA13 qs13.length qc13]), rfl, hK _ _ (HD13.out.1.tail.tail.cells) (fun hH13 => ?_)⟩
          clear hK K hH12
          change wpAnyH _ _ _ _ _ _ _ (Act.put _ (some 13) _) _
          simp only [Act.put, List.setIfInBounds_toArray, List.set_cons_zero, List.set_cons_succ]
          refine wpAnyH_ready (rs := [5]) (by kernel_rfl) (by simp) ?_
          refine AllReadyH.cons rfl (fun K hK0 => ?d19) (AllReadyH.nil)
          have hK := hK0.out
          clear hK0
          rw [if_pos (by kernel_rfl)]
          refine wp_go_val (.pointer (some ⟨(wq13).heap.size, 0, none⟩)) (run_alloc _ _ _ (by kernel_rfl)) ?_
          have HD14 := Lib.hid (And.intro (HD13.out.1.alloc (.cells #[.bool false, .slice none 0 0] 31)) (HD13.out.2.alloc HD13.out.2.size (.cells #[.bool false, .slice none 0 0] 31)))
          have hr14 := Res.new (wq13) 31
          have hr14_lt : (wq13).heap.size < ((wq13).alloc (.cells #[.bool false, .slice none 0 0] 31)).heap.size := Nat.lt_of_lt_of_eq (Nat.lt_succ_self _) (size_alloc _ _).symm
          have hr14_ge := HD13.out.2.size
          have hr14_99 := hr13_99.step ((Below.refl (wq13).heap.size (wq13)).alloc (Nat.le_refl _) (.cells #[.bool false, .slice none 0 0] 31)) rfl hr13_99_lt
          have hr14_99_lt : (w.heap.size + 2) < ((wq13).alloc (.cells #[.bool false, .slice none 0 0] 31)).heap.size := Nat.lt_of_lt_of_eq (Nat.lt_succ_of_lt hr13_99_lt) (size_alloc _ _).symm
          have hr14_4 := hr13_4.step ((Below.refl (wq13).heap.size (wq13)).alloc (Nat.le_refl _) (.cells #[.bool false, .slice none 0 0] 31)) rfl hr13_4_lt
          have hr14_4_lt : (wq2).heap.size < ((wq13).alloc (.cells #[.bool false, .slice none 0 0] 31)).heap.size := Nat.lt_of_lt_of_eq (Nat.lt_succ_of_lt hr13_4_lt) (size_alloc _ _).symm
          have hne14 := Nat.ne_of_lt hr13_4_lt
          refine hK _ _ (HD14.out.1.tail.tail.cells) (fun hH14 => ?_)
          clear hK K hH13
          change wpAnyH _ _ _ _ _ _ _ (Act.put _ (some 6) _) _
          simp only [Act.put, List.setIfInBounds_toArray, List.set_cons_zero, List.set_cons_succ]
          refine wpAnyH_ready (rs := [6]) (by kernel_rfl) (by simp) ?_
          refine AllReadyH.cons rfl (fun K hK0 => ?d20) (AllReadyH.nil)
          have hK := hK0.out
          clear hK0
          rw [if_pos (by kernel_rfl)]
          refine wp_go_skip (run_store2 hr14_4 qb2 qA2 qs2.length qc2 (.tmp 5) (.tmp 11) (by kernel_rfl) (by kernel_rfl) (by kernel_rfl)) ?_
          have hv15 := Vars.past HD14.out.1 hr14_4 (K := w.heap.size + 3) (by simp) (Nat.le_trans hbase hr12_ge) qb2 qA2 qs2.length qc2
          have o15 := hr14_4.held3 hr14_4_lt (HD14.out.1 1 _ rfl).at_
          have HD15 := Lib.hid (And.intro hv15 ((HD14.out.2.setCell (p := ⟨(wq2).heap.size, 0, none⟩) hr12_ge (.bool qb2)).setCell (p := ⟨(wq2).heap.size, 1, none⟩) hr12_ge (.slice qA2 qs2.length qc2)))
          have hr15_99 := hr14_99.farther (q := (wq2).heap.size) (by have h1 := Nat.le_trans hbase hr12_ge; omega) (.bool qb2) (.slice qA2 qs2.length qc2)
          have hr15_99_lt : (w.heap.size + 2) < (((((wq13).alloc (.cells #[.bool false, .slice none 0 0] 31))).setCell ⟨(wq2).heap.size, 0, none⟩ (.bool qb2)).setCell ⟨(wq2).heap.size, 1, none⟩ (.slice qA2 qs2.length qc2)).heap.size := Nat.lt_of_lt_of_eq hr14_99_lt (size_put _ _ _ _ _).symm
          have hr15_5 := hr14.farther (q := (wq2).heap.size) hne14 (.bool qb2) (.slice qA2 qs2.length qc2)
          have hr15_5_lt : (wq13).heap.size < (((((wq13).alloc (.cells #[.bool false, .slice none 0 0] 31))).setCell ⟨(wq2).heap.size, 0, none⟩ (.bool qb2)).setCell ⟨(wq2).heap.size, 1, none⟩ (.slice qA2 qs2.length qc2)).heap.size := Nat.lt_of_lt_of_eq hr14_lt (size_put _ _ _ _ _).symm
          refine hK _ _ (HD15.out.1.tail.tail.cells) (fun hH15 => ?_)
          clear hK K hH14
          change wpAnyH _ _ _ _ _ _ _ (Act.put _ none _) _
          simp only [Act.put]
          refine wpAnyH_ready (rs := [7]) (by kernel_rfl) (by simp) ?_
          refine AllReadyH.cons rfl (fun K hK0 => ?d21) (AllReadyH.nil)
          have hK := hK0.out
          clear hK0
          rw [if_pos (by kernel_rfl)]
          refine wp_go_skip (run_store2 hr15_5 qb13 qA13 qs13.length qc13 (.tmp 6) (.tmp 13) (by kernel_rfl) (by kernel_rfl) (by kernel_rfl)) ?_
          have hv16 := Vars.past HD15.out.1 hr15_5 (K := w.heap.size + 3) (by simp) (Nat.le_trans hbase hr14_ge) qb13 qA13 qs13.length qc13
          have o16 := hr15_5.held3 hr15_5_lt (HD15.out.1 0 _ rfl).at_
          have HD16 := Lib.hid (And.intro hv16 ((HD15.out.2.setCell (p := ⟨(wq13).heap.size, 0, none⟩) hr14_ge (.bool qb13)).setCell (p := ⟨(wq13).heap.size, 1, none⟩) hr14_ge (.slice qA13 qs13.length qc13)))
          have o16_p := o15.past hr15_5 (fun e => hne14 e.symm) qb13 qA13 qs13.length qc13
          have hr16_99 := hr15_99.farther (q := (wq13).heap.size) (by have h1 := Nat.le_trans hbase hr14_ge; omega) (.bool qb13) (.slice qA13 qs13.length qc13)
          have hr16_99_lt : (w.heap.size + 2) < ((((((((wq13).alloc (.cells #[.bool false, .slice none 0 0] 31))).setCell ⟨(wq2).heap.size, 0, none⟩ (.bool qb2)).setCell ⟨(wq2).heap.size, 1, none⟩ (.slice qA2 qs2.length qc2))).setCell ⟨(wq13).heap.size, 0, none⟩ (.bool qb13)).setCell ⟨(wq13).heap.size, 1, none⟩ (.slice qA13 qs13.length qc13)).heap.size := Nat.lt_of_lt_of_eq hr15_99_lt (size_put _ _ _ _ _).symm
          refine hK _ _ (HD16.out.1.tail.tail.cells) (fun hH16 => ?_)
          clear hK K hH15
          change wpAnyH _ _ _ _ _ _ _ (Act.put _ none _) _
          simp only [Act.put]
          refine wpAnyH_done (by kernel_rfl) ?_ _
          have HF := Lib.hid (And.intro (show (wq2).heap.size ≠ (wq13).heap.size from hne14) (And.intro (Nat.le_trans hbase hr12_ge) (And.intro (Nat.le_trans hbase hr14_ge) (And.intro (show Both ((((((((wq13).alloc (.cells #[.bool false, .slice none 0 0] 31))).setCell ⟨(wq2).heap.size, 0, none⟩ (.bool qb2)).setCell ⟨(wq2).heap.size, 1, none⟩ (.slice qA2 qs2.length qc2))).setCell ⟨(wq13).heap.size, 0, none⟩ (.bool qb13)).setCell ⟨(wq13).heap.size, 1, none⟩ (.slice qA13 qs13.length qc13)) (wq2).heap.size (wq13).heap.size ((x.natAbs : Nat) : Int) ((y.natAbs : Nat) : Int) from ⟨_, _, _, _, _, _, _, _, o16_p, o16⟩) (And.intro hr16_99 (below_then H0.out.1 HD16.out.2))))))
          clear o16_p o16 hr16_99
          generalize ((((((((wq13).alloc (.cells #[.bool false, .slice none 0 0] 31))).setCell ⟨(wq2).heap.size, 0, none⟩ (.bool qb2)).setCell ⟨(wq2).heap.size, 1, none⟩ (.slice qA2 qs2.length qc2))).setCell ⟨(wq13).heap.size, 0, none⟩ (.bool qb13)).setCell ⟨(wq13).heap.size, 1, none⟩ (.slice qA13 qs13.length qc13)) = Wz at HF ⊢
          generalize (wq13).heap.size = q6 at HF ⊢
          generalize (wq2).heap.size = q5 at HF ⊢
          go_wp2
          go_meet
          exact ⟨q5, q6, rfl, rfl, HF.out⟩
        case d18 =>
          have hK := hK0.out
          clear hK0
          rw [if_pos (by kernel_rfl)]
          refine wp_go_val (.pointer (some ⟨(((wq2).alloc (.cells #[.bool false, .slice none 0 0] 31))).heap.size, 0, none⟩)) (run_alloc _ _ _ (by kernel_rfl)) ?_
          have HD17 := Lib.hid (And.intro (HD12.out.1.alloc (.cells #[.bool false, .slice none 0 0] 31)) (HD12.out.2.alloc HD12.out.2.size (.cells #[.bool false, .slice none 0 0] 31)))
          have hr17 := Res.new (((wq2).alloc (.cells #[.bool false, .slice none 0 0] 31))) 31
          have hr17_lt : (((wq2).alloc (.cells #[.bool false, .slice none 0 0] 31))).heap.size < ((((wq2).alloc (.cells #[.bool false, .slice none 0 0] 31))).alloc (.cells #[.bool false, .slice none 0 0] 31)).heap.size := Nat.lt_of_lt_of_eq (Nat.lt_succ_self _) (size_alloc _ _).symm
          have hr17_ge := HD12.out.2.size
          have hr17_99 := hr12_99.step ((Below.refl (((wq2).alloc (.cells #[.bool false, .slice none 0 0] 31))).heap.size (((wq2).alloc (.cells #[.bool false, .slice none 0 0] 31)))).alloc (Nat.le_refl _) (.cells #[.bool false, .slice none 0 0] 31)) rfl hr12_99_lt
          have hr17_99_lt : (w.heap.size + 2) < ((((wq2).alloc (.cells #[.bool false, .slice none 0 0] 31))).alloc (.cells #[.bool false, .slice none 0 0] 31)).heap.size := Nat.lt_of_lt_of_eq (Nat.lt_succ_of_lt hr12_99_lt) (size_alloc _ _).symm
          have hr17_4 := hr12.step ((Below.refl (((wq2).alloc (.cells #[.bool false, .slice none 0 0] 31))).heap.size (((wq2).alloc (.cells #[.bool false, .slice none 0 0] 31)))).alloc (Nat.le_refl _) (.cells #[.bool false, .slice none 0 0] 31)) rfl hr12_lt
          have hr17_4_lt : (wq2).heap.size < ((((wq2).alloc (.cells #[.bool false, .slice none 0 0] 31))).alloc (.cells #[.bool false, .slice none 0 0] 31)).heap.size := Nat.lt_of_lt_of_eq (Nat.lt_succ_of_lt hr12_lt) (size_alloc _ _).symm
          have hne17 := Nat.ne_of_lt hr12_lt
          refine hK _ _ (HD17.out.1.tail.cells) (fun hH17 => ?_)
          clear hK K hH12
          change wpAnyH _ _ _ _ _ _ _ (Act.put _ (some 6) _) _
          simp only [Act.put, List.setIfInBounds_toArray, List.set_cons_zero, List.set_cons_succ]
          refine wpAnyH_ready (rs := [3]) (by kernel_rfl) (by simp) ?_
          refine AllReadyH.cons rfl (fun K hK0 => ?d22) (AllReadyH.nil)
          have hK := hK0.out
          clear hK0
          rw [if_pos (by kernel_rfl)]
          refine wp_go_call 37 #[(.agg #[.bool b2, .slice A2 zs2.length c2])] (fun _ => by kernel_rfl) ((RAbs_any _ y _ ((HD17.out.1 1 _ rfl).at_)).mono ?_)
          rintro e wq18 ⟨qv18, rfl, ⟨qb18, qA18, qc18, qs18, rfl, qg18, ql18⟩, hb18⟩
          have HD18 := Lib.hid (And.intro ((HD17.out.1.step hb18 rfl).told qg18 ql18) (below_then HD17.out.2 hb18))
          have hr18_99 := hr17_99.step hb18 rfl hr17_99_lt
          have hr18_99_lt := Nat.lt_of_lt_of_le hr17_99_lt hb18.size
          have hr18_4 := hr17_4.step hb18 rfl hr17_4_lt
          have hr18_4_lt := Nat.lt_of_lt_of_le hr17_4_lt hb18.size
          have hr18_5 := hr17.step hb18 rfl hr17_lt
          have hr18_5_lt := Nat.lt_of_lt_of_le hr17_lt hb18.size
          refine ⟨(.agg #[.bool qb18, .slice qA18 qs18.length qc18]), rfl, hK _ _ (HD18.out.1.tail.tail.cells) (fun hH18 => ?_)⟩
          clear hK K hH17
          change wpAnyH _ _ _ _ _ _ _ (Act.put _ (some 13) _) _
          simp only [Act.put, List.setIfInBounds_toArray, List.set_cons_zero, List.set_cons_succ]
          refine wpAnyH_ready (rs := [6]) (by kernel_rfl) (by simp) ?_
          refine AllReadyH.cons rfl (fun K hK0 => ?d23) (AllReadyH.nil)
          have hK := hK0.out
          clear hK0
          rw [if_pos (by kernel_rfl)]
          refine wp_go_skip (run_store2 hr18_4 qb2 qA2 qs2.length qc2 (.tmp 5) (.tmp 11) (by kernel_rfl) (by kernel_rfl) (by kernel_rfl)) ?_
          have hv19 := Vars.past HD18.out.1 hr18_4 (K := w.heap.size + 3) (by simp) (Nat.le_trans hbase hr12_ge) qb2 qA2 qs2.length qc2
          have o19 := hr18_4.held3 hr18_4_lt (HD18.out.1 1 _ rfl).at_
          have HD19 := Lib.hid (And.intro hv19 ((HD18.out.2.setCell (p := ⟨(wq2).heap.size, 0, none⟩) hr12_ge (.bool qb2)).setCell (p := ⟨(wq2).heap.size, 1, none⟩) hr12_ge (.slice qA2 qs2.length qc2)))
          have hr19_99 := hr18_99.farther (q := (wq2).heap.size) (by have h1 := Nat.le_trans hbase hr12_ge; omega) (.bool qb2) (.slice qA2 qs2.length qc2)
          have hr19_99_lt : (w.heap.size + 2) < (((wq18).setCell ⟨(wq2).heap.size, 0, none⟩ (.bool qb2)).setCell ⟨(wq2).heap.size, 1, none⟩ (.slice qA2 qs2.length qc2)).heap.size := Nat.lt_of_lt_of_eq hr18_99_lt (size_put _ _ _ _ _).symm
          have hr19_5 := hr18_5.farther (q := (wq2).heap.size) hne17 (.bool qb2) (.slice qA2 qs2.length qc2)
          have hr19_5_lt : (((wq2).alloc (.cells #[.bool false, .slice none 0 0] 31))).heap.size < (((wq18).setCell ⟨(wq2).heap.size, 0, none⟩ (.bool qb2)).setCell ⟨(wq2).heap.size, 1, none⟩ (.slice qA2 qs2.length qc2)).heap.size := Nat.lt_of_lt_of_eq hr18_5_lt (size_put _ _ _ _ _).symm
          refine hK _ _ (HD19.out.1.tail.tail.cells) (fun hH19 => ?_)
          clear hK K hH18
          change wpAnyH _ _ _ _ _ _ _ (Act.put _ none _) _
          simp only [Act.put]
          refine wpAnyH_ready (rs := [7]) (by kernel_rfl) (by simp) ?_
          refine AllReadyH.cons rfl (fun K hK0 => ?d24) (AllReadyH.nil)
          have hK := hK0.out
          clear hK0
          rw [if_pos (by kernel_rfl)]
          refine wp_go_skip (run_store2 hr19_5 qb18 qA18 qs18.length qc18 (.tmp 6) (.tmp 13) (by kernel_rfl) (by kernel_rfl) (by kernel_rfl)) ?_
          have hv20 := Vars.past HD19.out.1 hr19_5 (K := w.heap.size + 3) (by simp) (Nat.le_trans hbase hr17_ge) qb18 qA18 qs18.length qc18
          have o20 := hr19_5.held3 hr19_5_lt (HD19.out.1 0 _ rfl).at_
          have HD20 := Lib.hid (And.intro hv20 ((HD19.out.2.setCell (p := ⟨(((wq2).alloc (.cells #[.bool false, .slice none 0 0] 31))).heap.size, 0, none⟩) hr17_ge (.bool qb18)).setCell (p := ⟨(((wq2).alloc (.cells #[.bool false, .slice none 0 0] 31))).heap.size, 1, none⟩) hr17_ge (.slice qA18 qs18.length qc18)))
          have o20_p := o19.past hr19_5 (fun e => hne17 e.symm) qb18 qA18 qs18.length qc18
          have hr20_99 := hr19_99.farther (q := (((wq2).alloc (.cells #[.bool false, .slice none 0 0] 31))).heap.size) (by have h1 := Nat.le_trans hbase hr17_ge; omega) (.bool qb18) (.slice qA18 qs18.length qc18)
          have hr20_99_lt : (w.heap.size + 2) < ((((((wq18).setCell ⟨(wq2).heap.size, 0, none⟩ (.bool qb2)).setCell ⟨(wq2).heap.size, 1, none⟩ (.slice qA2 qs2.length qc2))).setCell ⟨(((wq2).alloc (.cells #[.bool false, .slice none 0 0] 31))).heap.size, 0, none⟩ (.bool qb18)).setCell ⟨(((wq2).alloc (.cells #[.bool false, .slice none 0 0] 31))).heap.size, 1, none⟩ (.slice qA18 qs18.length qc18)).heap.size := Nat.lt_of_lt_of_eq hr19_99_lt (size_put _ _ _ _ _).symm
          refine hK _ _ (HD20.out.1.tail.tail.cells) (fun hH20 => ?_)
          clear hK K hH19
          change wpAnyH _ _ _ _ _ _ _ (Act.put _ none _) _
          simp only [Act.put]
          refine wpAnyH_done (by kernel_rfl) ?_ _
          have HF := Lib.hid (And.intro (show (wq2).heap.size ≠ (((wq2).alloc (.cells #[.bool false, .slice none 0 0] 31))).heap.size from hne17) (And.intro (Nat.le_trans hbase hr12_ge) (And.intro (Nat.le_trans hbase hr17_ge) (And.intro (show Both ((((((wq18).setCell ⟨(wq2).heap.size, 0, none⟩ (.bool qb2)).setCell ⟨(wq2).heap.size, 1, none⟩ (.slice qA2 qs2.length qc2))).setCell ⟨(((wq2).alloc (.cells #[.bool false, .slice none 0 0] 31))).heap.size, 0, none⟩ (.bool qb18)).setCell ⟨(((wq2).alloc (.cells #[.bool false, .slice none 0 0] 31))).heap.size, 1, none⟩ (.slice qA18 qs18.length qc18)) (wq2).heap.size (((wq2).alloc (.cells #[.bool false, .slice none 0 0] 31))).heap.size ((x.natAbs : Nat) : Int) ((y.natAbs : Nat) : Int) from ⟨_, _, _, _, _, _, _, _, o20_p, o20⟩) (And.intro hr20_99 (below_then H0.out.1 HD20.out.2))))))
          clear o20_p o20 hr20_99
          generalize ((((((wq18).setCell ⟨(wq2).heap.size, 0, none⟩ (.bool qb2)).setCell ⟨(wq2).heap.size, 1, none⟩ (.slice qA2 qs2.length qc2))).setCell ⟨(((wq2).alloc (.cells #[.bool false, .slice none 0 0] 31))).heap.size, 0, none⟩ (.bool qb18)).setCell ⟨(((wq2).alloc (.cells #[.bool false, .slice none 0 0] 31))).heap.size, 1, none⟩ (.slice qA18 qs18.length qc18)) = Wz at HF ⊢
          generalize (((wq2).alloc (.cells #[.bool false, .slice none 0 0] 31))).heap.size = q6 at HF ⊢
          generalize (wq2).heap.size = q5 at HF ⊢
          go_wp2
          go_meet
          exact ⟨q5, q6, rfl, rfl, HF.out⟩
      case d8 =>
        have hK := hK0.out
        clear hK0
        rw [if_pos (by kernel_rfl)]
        refine wp_go_val (.pointer (some ⟨(wq2).heap.size, 0, none⟩)) (run_alloc _ _ _ (by kernel_rfl)) ?_
        have HD21 := Lib.hid (And.intro (HD2.out.1.alloc (.cells #[.bool false, .slice none 0 0] 31)) (HD2.out.2.alloc HD2.out.2.size (.cells #[.bool false, .slice none 0 0] 31)))
        have hr21 := Res.new (wq2) 31
        have hr21_lt : (wq2).heap.size < ((wq2).alloc (.cells #[.bool false, .slice none 0 0] 31)).heap.size := Nat.lt_of_lt_of_eq (Nat.lt_succ_self _) (size_alloc _ _).symm
        have hr21_ge := HD2.out.2.size
        have hr21_99 := hr2_99.step ((Below.refl (wq2).heap.size (wq2)).alloc (Nat.le_refl _) (.cells #[.bool false, .slice none 0 0] 31)) rfl hr2_99_lt
        have hr21_99_lt : (w.heap.size + 2) < ((wq2).alloc (.cells #[.bool false, .slice none 0 0] 31)).heap.size := Nat.lt_of_lt_of_eq (Nat.lt_succ_of_lt hr2_99_lt) (size_alloc _ _).symm
        refine hK _ _ (HD21.out.1.tail.cells) (fun hH21 => ?_)
        clear hK K hH2
        change wpAnyH _ _ _ _ _ _ _ (Act.put _ (some 6) _) _
        simp only [Act.put, List.setIfInBounds_toArray, List.set_cons_zero, List.set_cons_succ]
        refine wpAnyH_ready (rs := [3, 4]) (by kernel_rfl) (by simp) ?_
        refine AllReadyH.cons rfl (fun K hK0 => ?d25) (AllReadyH.cons rfl (fun K hK0 => ?d26) (AllReadyH.nil))
        case d25 =>
          have hK := hK0.out
          clear hK0
          rw [if_pos (by kernel_rfl)]
          refine wp_go_call 37 #[(.agg #[.bool b2, .slice A2 zs2.length c2])] (fun _ => by kernel_rfl) ((RAbs_any _ y _ ((HD21.out.1 1 _ rfl).at_)).mono ?_)
          rintro e wq22 ⟨qv22, rfl, ⟨qb22, qA22, qc22, qs22, rfl, qg22, ql22⟩, hb22⟩
          have HD22 := Lib.hid (And.intro ((HD21.out.1.step hb22 rfl).told qg22 ql22) (below_then HD21.out.2 hb22))
          have hr22_99 := hr21_99.step hb22 rfl hr21_99_lt
          have hr22_99_lt := Nat.lt_of_lt_of_le hr21_99_lt hb22.size
          have hr22_5 := hr21.step hb22 rfl hr21_lt
          have hr22_5_lt := Nat.lt_of_lt_of_le hr21_lt hb22.size
          refine ⟨(.agg #[.bool qb22, .slice qA22 qs22.length qc22]), rfl, hK _ _ (HD22.out.1.tail.tail.cells) (fun hH22 => ?_)⟩
          clear hK K hH21
          change wpAnyH _ _ _ _ _ _ _ (Act.put _ (some 13) _) _
          simp only [Act.put, List.setIfInBounds_toArray, List.set_cons_zero, List.set_cons_succ]
          refine wpAnyH_ready (rs := [4]) (by kernel_rfl) (by simp) ?_
          refine AllReadyH.cons rfl (fun K hK0 => ?d27) (AllReadyH.nil)
          have hK := hK0.out
          clear hK0
          rw [if_pos (by kernel_rfl)]
          refine wp_go_val (.pointer (some ⟨(wq22).heap.size, 0, none⟩)) (run_alloc _ _ _ (by kernel_rfl)) ?_
          have HD23 := Lib.hid (And.intro (HD22.out.1.alloc (.cells #[.bool false, .slice none 0 0] 31)) (HD22.out.2.alloc HD22.out.2.size (.cells #[.bool false, .slice none 0 0] 31)))
          have hr23 := Res.new (wq22) 31
          have hr23_lt : (wq22).heap.size < ((wq22).alloc (.cells #[.bool false, .slice none 0 0] 31)).heap.size := Nat.lt_of_lt_of_eq (Nat.lt_succ_self _) (size_alloc _ _).symm
          have hr23_ge := HD22.out.2.size
          have hr23_99 := hr22_99.step ((Below.refl (wq22).heap.size (wq22)).alloc (Nat.le_refl _) (.cells #[.bool false, .slice none 0 0] 31)) rfl hr22_99_lt
          have hr23_99_lt : (w.heap.size + 2) < ((wq22).alloc (.cells #[.bool false, .slice none 0 0] 31)).heap.size := Nat.lt_of_lt_of_eq (Nat.lt_succ_of_lt hr22_99_lt) (size_alloc _ _).symm
          have hr23_5 := hr22_5.step ((Below.refl (wq22).heap.size (wq22)).alloc (Nat.le_refl _) (.cells #[.bool false, .slice none 0 0] 31)) rfl hr22_5_lt
          have hr23_5_lt : (wq2).heap.size < ((wq22).alloc (.cells #[.bool false, .slice none 0 0] 31)).heap.size := Nat.lt_of_lt_of_eq (Nat.lt_succ_of_lt hr22_5_lt) (size_alloc _ _).symm
          have hne23 := Nat.ne_of_lt hr22_5_lt
          refine hK _ _ (HD23.out.1.tail.tail.cells) (fun hH23 => ?_)
          clear hK K hH22
          change wpAnyH _ _ _ _ _ _ _ (Act.put _ (some 5) _) _
          simp only [Act.put, List.setIfInBounds_toArray, List.set_cons_zero, List.set_cons_succ]
          refine wpAnyH_ready (rs := [6]) (by kernel_rfl) (by simp) ?_
          refine AllReadyH.cons rfl (fun K hK0 => ?d28) (AllReadyH.nil)
          have hK := hK0.out
          clear hK0
          rw [if_pos (by kernel_rfl)]
          refine wp_go_skip (run_store2 hr23 qb2 qA2 qs2.length qc2 (.tmp 5) (.tmp 11) (by kernel_rfl) (by kernel_rfl) (by kernel_rfl)) ?_
          have hv24 := Vars.past HD23.out.1 hr23 (K := w.heap.size + 3) (by simp) (Nat.le_trans hbase hr23_ge) qb2 qA2 qs2.length qc2
          have o24 := hr23.held3 hr23_lt (HD23.out.1 1 _ rfl).at_
          have HD24 := Lib.hid (And.intro hv24 ((HD23.out.2.setCell (p := ⟨(wq22).heap.size, 0, none⟩) hr23_ge (.bool qb2)).setCell (p := ⟨(wq22).heap.size, 1, none⟩) hr23_ge (.slice qA2 qs2.length qc2)))
          have hr24_99 := hr23_99.farther (q := (wq22).heap.size) (by have h1 := Nat.le_trans hbase hr23_ge; omega) (.bool qb2) (.slice qA2 qs2.length qc2)
          have hr24_99_lt : (w.heap.size + 2) < (((((wq22).alloc (.cells #[.bool false, .slice none 0 0] 31))).setCell ⟨(wq22).heap.size, 0, none⟩ (.bool qb2)).setCell ⟨(wq22).heap.size, 1, none⟩ (.slice qA2 qs2.length qc2)).heap.size := Nat.lt_of_lt_of_eq hr23_99_lt (size_put _ _ _ _ _).symm
          have hr24_5 := hr23_5.farther (q := (wq22).heap.size) (fun e => hne23 e.symm) (.bool qb2) (.slice qA2 qs2.length qc2)
          have hr24_5_lt : (wq2).heap.size < (((((wq22).alloc (.cells #[.bool false, .slice none 0 0] 31))).setCell ⟨(wq22).heap.size, 0, none⟩ (.bool qb2)).setCell ⟨(wq22).heap.size, 1, none⟩ (.slice qA2 qs2.length qc2)).heap.size := Nat.lt_of_lt_of_eq hr23_5_lt (size_put _ _ _ _ _).symm
          refine hK _ _ (HD24.out.1.tail.tail.cells) (fun hH24 => ?_)
          clear hK K hH23
          change wpAnyH _ _ _ _ _ _ _ (Act.put _ none _) _
          simp only [Act.put]
          refine wpAnyH_ready (rs := [7]) (by kernel_rfl) (by simp) ?_
          refine AllReadyH.cons rfl (fun K hK0 => ?d29) (AllReadyH.nil)
          have hK := hK0.out
          clear hK0
          rw [if_pos (by kernel_rfl)]
          refine wp_go_skip (run_store2 hr24_5 qb22 qA22 qs22.length qc22 (.tmp 6) (.tmp 13) (by kernel_rfl) (by kernel_rfl) (by kernel_rfl)) ?_
          have hv25 := Vars.past HD24.out.1 hr24_5 (K := w.heap.size + 3) (by simp) (Nat.le_trans hbase hr21_ge) qb22 qA22 qs22.length qc22
          have o25 := hr24_5.held3 hr24_5_lt (HD24.out.1 0 _ rfl).at_
          have HD25 := Lib.hid (And.intro hv25 ((HD24.out.2.setCell (p := ⟨(wq2).heap.size, 0, none⟩) hr21_ge (.bool qb22)).setCell (p := ⟨(wq2).heap.size, 1, none⟩) hr21_ge (.slice qA22 qs22.length qc22)))
          have o25_p := o24.past hr24_5 (hne23) qb22 qA22 qs22.length qc22
          have hr25_99 := hr24_99.farther (q := (wq2).heap.size) (by have h1 := Nat.le_trans hbase hr21_ge; omega) (.bool qb22) (.slice qA22 qs22.length qc22)
          have hr25_99_lt : (w.heap.size + 2) < ((((((((wq22).alloc (.cells #[.bool false, .slice none 0 0] 31))).setCell ⟨(wq22).heap.size, 0, none⟩ (.bool qb2)).setCell ⟨(wq22).heap.size, 1, none⟩ (.slice qA2 qs2.length qc2))).setCell ⟨(wq2).heap.size, 0, none⟩ (.bool qb22)).setCell ⟨(wq2).heap.size, 1, none⟩ (.slice qA22 qs22.length qc22)).heap.size := Nat.lt_of_lt_of_eq hr24_99_lt (size_put _ _ _ _ _).symm
          refine hK _ _ (HD25.out.1.tail.tail.cells) (fun hH25 => ?_)
          clear hK K hH24
          change wpAnyH _ _ _ _ _ _ _ (Act.put _ none _) _
          simp only [Act.put]
          refine wpAnyH_done (by kernel_rfl) ?_ _
          have HF := Lib.hid (And.intro (show (wq22).heap.size ≠ (wq2).heap.size from (fun e => hne23 e.symm)) (And.intro (Nat.le_trans hbase hr23_ge) (And.intro (Nat.le_trans hbase hr21_ge) (And.intro (show Both ((((((((wq22).alloc (.cells #[.bool false, .slice none 0 0] 31))).setCell ⟨(wq22).heap.size, 0, none⟩ (.bool qb2)).setCell ⟨(wq22).heap.size, 1, none⟩ (.slice qA2 qs2.length qc2))).setCell ⟨(wq2).heap.size, 0, none⟩ (.bool qb22)).setCell ⟨(wq2).heap.size, 1, none⟩ (.slice qA22 qs22.length qc22)) (wq22).heap.size (wq2).heap.size ((x.natAbs : Nat) : Int) ((y.natAbs : Nat) : Int) from ⟨_, _, _, _, _, _, _, _, o25_p, o25⟩) (And.intro hr25_99 (below_then H0.out.1 HD25.out.2))))))
          clear o25_p o25 hr25_99
          generalize ((((((((wq22).alloc (.cells #[.bool false, .slice none 0 0] 31))).setCell ⟨(wq22).heap.size, 0, none⟩ (.bool qb2)).setCell ⟨(wq22).heap.size, 1, none⟩ (.slice qA2 qs2.length qc2))).setCell ⟨(wq2).heap.size, 0, none⟩ (.bool qb22)).setCell ⟨(wq2).heap.size, 1, none⟩ (.slice qA22 qs22.length qc22)) = Wz at HF ⊢
          generalize (wq2).heap.size = q6 at HF ⊢
          generalize (wq22).heap.size = q5 at HF ⊢
          go_wp2
          go_meet
          exact ⟨q5, q6, rfl, rfl, HF.out⟩
        case d26 =>
          have hK := hK0.out
          clear hK0
          rw [if_pos (by kernel_rfl)]
          refine wp_go_val (.pointer (some ⟨(((wq2).alloc (.cells #[.bool false, .slice none 0 0] 31))).heap.size, 0, none⟩)) (run_alloc _ _ _ (by kernel_rfl)) ?_
          have HD26 := Lib.hid (And.intro (HD21.out.1.alloc (.cells #[.bool false, .slice none 0 0] 31)) (HD21.out.2.alloc HD21.out.2.size (.cells #[.bool false, .slice none 0 0] 31)))
          have hr26 := Res.new (((wq2).alloc (.cells #[.bool false, .slice none 0 0] 31))) 31
          have hr26_lt : (((wq2).alloc (.cells #[.bool false, .slice none 0 0] 31))).heap.size < ((((wq2).alloc (.cells #[.bool false, .slice none 0 0] 31))).alloc (.cells #[.bool false, .slice none 0 0] 31)).heap.size := Nat.lt_of_lt_of_eq (Nat.lt_succ_self _) (size_alloc _ _).symm
          have hr26_ge := HD21.out.2.size
          have hr26_99 := hr21_99.step ((Below.refl (((wq2).alloc (.cells #[.bool false, .slice none 0 0] 31))).heap.size (((wq2).alloc (.cells #[.bool false, .slice none 0 0] 31)))).alloc (Nat.le_refl _) (.cells #[.bool false, .slice none 0 0] 31)) rfl hr21_99_lt
          have hr26_99_lt : (w.heap.size + 2) < ((((wq2).alloc (.cells #[.bool false, .slice none 0 0] 31))).alloc (.cells #[.bool false, .slice none 0 0] 31)).heap.size := Nat.lt_of_lt_of_eq (Nat.lt_succ_of_lt hr21_99_lt) (size_alloc _ _).symm
          have hr26_5 := hr21.step ((Below.refl (((wq2).alloc (.cells #[.bool false, .slice none 0 0] 31))).heap.size (((wq2).alloc (.cells #[.bool false, .slice none 0 0] 31)))).alloc (Nat.le_refl _) (.cells #[.bool false, .slice none 0 0] 31)) rfl hr21_lt
          have hr26_5_lt : (wq2).heap.size < ((((wq2).alloc (.cells #[.bool false, .slice none 0 0] 31))).alloc (.cells #[.bool false, .slice none 0 0] 31)).heap.size := Nat.lt_of_lt_of_eq (Nat.lt_succ_of_lt hr21_lt) (size_alloc _ _).symm
          have hne26 := Nat.ne_of_lt hr21_lt
          refine hK _ _ (HD26.out.1.tail.cells) (fun hH26 => ?_)
          clear hK K hH21
          change wpAnyH _ _ _ _ _ _ _ (Act.put _ (some 5) _) _
          simp only [Act.put, List.setIfInBounds_toArray, List.set_cons_zero, List.set_cons_succ]
          refine wpAnyH_ready (rs := [3]) (by kernel_rfl) (by simp) ?_
          refine AllReadyH.cons rfl (fun K hK0 => ?d30) (AllReadyH.nil)
          have hK := hK0.out
          clear hK0
          rw [if_pos (by kernel_rfl)]
          refine wp_go_call 37 #[(.agg #[.bool b2, .slice A2 zs2.length c2])] (fun _ => by kernel_rfl) ((RAbs_any _ y _ ((HD26.out.1 1 _ rfl).at_)).mono ?_)
          rintro e wq27 ⟨qv27, rfl, ⟨qb27, qA27, qc27, qs27, rfl, qg27, ql27⟩, hb27⟩
          have HD27 := Lib.hid (And.intro ((HD26.out.1.step hb27 rfl).told qg27 ql27) (below_then HD26.out.2 hb27))
          have hr27_99 := hr26_99.step hb27 rfl hr26_99_lt
          have hr27_99_lt := Nat.lt_of_lt_of_le hr26_99_lt hb27.size
          have hr27_5 := hr26_5.step hb27 rfl hr26_5_lt
          have hr27_5_lt := Nat.lt_of_lt_of_le hr26_5_lt hb27.size
          have hr27_4 := hr26.step hb27 rfl hr26_lt
          have hr27_4_lt := Nat.lt_of_lt_of_le hr26_lt hb27.size
          refine ⟨(.agg #[.bool qb27, .slice qA27 qs27.length qc27]), rfl, hK _ _ (HD27.out.1.tail.tail.cells) (fun hH27 => ?_)⟩
          clear hK K hH26
          change wpAnyH _ _ _ _ _ _ _ (Act.put _ (some 13) _) _
          simp only [Act.put, List.setIfInBounds_toArray, List.set_cons_zero, List.set_cons_succ]
          refine wpAnyH_ready (rs := [6]) (by kernel_rfl) (by simp) ?_
          refine AllReadyH.cons rfl (fun K hK0 => ?d31) (AllReadyH.nil)
          have hK := hK0.out
          clear hK0
          rw [if_pos (by kernel_rfl)]
          refine wp_go_skip (run_store2 hr27_4 qb2 qA2 qs2.length qc2 (.tmp 5) (.tmp 11) (by kernel_rfl) (by kernel_rfl) (by kernel_rfl)) ?_
          have hv28 := Vars.past HD27.out.1 hr27_4 (K := w.heap.size + 3) (by simp) (Nat.le_trans hbase hr26_ge) qb2 qA2 qs2.length qc2
          have o28 := hr27_4.held3 hr27_4_lt (HD27.out.1 1 _ rfl).at_
          have HD28 := Lib.hid (And.intro hv28 ((HD27.out.2.setCell (p := ⟨(((wq2).alloc (.cells #[.bool false, .slice none 0 0] 31))).heap.size, 0, none⟩) hr26_ge (.bool qb2)).setCell (p := ⟨(((wq2).alloc (.cells #[.bool false, .slice none 0 0] 31))).heap.size, 1, none⟩) hr26_ge (.slice qA2 qs2.length qc2)))
          have hr28_99 := hr27_99.farther (q := (((wq2).alloc (.cells #[.bool false, .slice none 0 0] 31))).heap.size) (by have h1 := Nat.le_trans hbase hr26_ge; omega) (.bool qb2) (.slice qA2 qs2.length qc2)
          have hr28_99_lt : (w.heap.size + 2) < (((wq27).setCell ⟨(((wq2).alloc (.cells #[.bool false, .slice none 0 0] 31))).heap.size, 0, none⟩ (.bool qb2)).setCell ⟨(((wq2).alloc (.cells #[.bool false, .slice none 0 0] 31))).heap.size, 1, none⟩ (.slice qA2 qs2.length qc2)).heap.size := Nat.lt_of_lt_of_eq hr27_99_lt (size_put _ _ _ _ _).symm
          have hr28_5 := hr27_5.farther (q := (((wq2).alloc (.cells #[.bool false, .slice none 0 0] 31))).heap.size) (fun e => hne26 e.symm) (.bool qb2) (.slice qA2 qs2.length qc2)
          have hr28_5_lt : (wq2).heap.size < (((wq27).setCell ⟨(((wq2).alloc (.cells #[.bool false, .slice none 0 0] 31))).heap.size, 0, none⟩ (.bool qb2)).setCell ⟨(((wq2).alloc (.cells #[.bool false, .slice none 0 0] 31))).heap.size, 1, none⟩ (.slice qA2 qs2.length qc2)).heap.size := Nat.lt_of_lt_of_eq hr27_5_lt (size_put _ _ _ _ _).symm
          refine hK _ _ (HD28.out.1.tail.tail.cells) (fun hH28 => ?_)
          clear hK K hH27
          change wpAnyH _ _ _ _ _ _ _ (Act.put _ none _) _
          simp only [Act.put]
          refine wpAnyH_ready (rs := [7]) (by kernel_rfl) (by simp) ?_
          refine AllReadyH.cons rfl (fun K hK0 => ?d32) (AllReadyH.nil)
          have hK := hK0.out
          clear hK0
          rw [if_pos (by kernel_rfl)]
          refine wp_go_skip (run_store2 hr28_5 qb27 qA27 qs27.length qc27 (.tmp 6) (.tmp 13) (by kernel_rfl) (by kernel_rfl) (by kernel_rfl)) ?_
          have hv29 := Vars.past HD28.out.1 hr28_5 (K := w.heap.size + 3) (by simp) (Nat.le_trans hbase hr21_ge) qb27 qA27 qs27.length qc27
          have o29 := hr28_5.held3 hr28_5_lt (HD28.out.1 0 _ rfl).at_
          have HD29 := Lib.hid (And.intro hv29 ((HD28.out.2.setCell (p := ⟨(wq2).heap.size, 0, none⟩) hr21_ge (.bool qb27)).setCell (p := ⟨(wq2).heap.size, 1, none⟩) hr21_ge (.slice qA27 qs27.length qc27)))
          have o29_p := o28.past hr28_5 (hne26) qb27 qA27 qs27.length qc27
          have hr29_99 := hr28_99.farther (q := (wq2).heap.size) (by have h1 := Nat.le_trans hbase hr21_ge; omega) (.bool qb27) (.slice qA27 qs27.length qc27)
          have hr29_99_lt : (w.heap.size + 2) < ((((((wq27).setCell ⟨(((wq2).alloc (.cells #[.bool false, .slice none 0 0] 31))).heap.size, 0, none⟩ (.bool qb2)).setCell ⟨(((wq2).alloc (.cells #[.bool false, .slice none 0 0] 31))).heap.size, 1, none⟩ (.slice qA2 qs2.length qc2))).setCell ⟨(wq2).heap.size, 0, none⟩ (.bool qb27)).setCell ⟨(wq2).heap.size, 1, none⟩ (.slice qA27 qs27.length qc27)).heap.size := Nat.lt_of_lt_of_eq hr28_99_lt (size_put _ _ _ _ _).symm
          refine hK _ _ (HD29.out.1.tail.tail.cells) (fun hH29 => ?_)
          clear hK K hH28
          change wpAnyH _ _ _ _ _ _ _ (Act.put _ none _) _
          simp only [Act.put]
          refine wpAnyH_done (by kernel_rfl) ?_ _
          have HF := Lib.hid (And.intro (show (((wq2).alloc (.cells #[.bool false, .slice none 0 0] 31))).heap.size ≠ (wq2).heap.size from (fun e => hne26 e.symm)) (And.intro (Nat.le_trans hbase hr26_ge) (And.intro (Nat.le_trans hbase hr21_ge) (And.intro (show Both ((((((wq27).setCell ⟨(((wq2).alloc (.cells #[.bool false, .slice none 0 0] 31))).heap.size, 0, none⟩ (.bool qb2)).setCell ⟨(((wq2).alloc (.cells #[.bool false, .slice none 0 0] 31))).heap.size, 1, none⟩ (.slice qA2 qs2.length qc2))).setCell ⟨(wq2).heap.size, 0, none⟩ (.bool qb27)).setCell ⟨(wq2).heap.size, 1, none⟩ (.slice qA27 qs27.length qc27)) (((wq2).alloc (.cells #[.bool false, .slice none 0 0] 31))).heap.size (wq2).heap.size ((x.natAbs : Nat) : Int) ((y.natAbs : Nat) : Int) from ⟨_, _, _, _, _, _, _, _, o29_p, o29⟩) (And.intro hr29_99 (below_then H0.out.1 HD29.out.2))))))
          clear o29_p o29 hr29_99
          generalize ((((((wq27).setCell ⟨(((wq2).alloc (.cells #[.bool false, .slice none 0 0] 31))).heap.size, 0, none⟩ (.bool qb2)).setCell ⟨(((wq2).alloc (.cells #[.bool false, .slice none 0 0] 31))).heap.size, 1, none⟩ (.slice qA2 qs2.length qc2))).setCell ⟨(wq2).heap.size, 0, none⟩ (.bool qb27)).setCell ⟨(wq2).heap.size, 1, none⟩ (.slice qA27 qs27.length qc27)) = Wz at HF ⊢
          generalize (wq2).heap.size = q6 at HF ⊢
          generalize (((wq2).alloc (.cells #[.bool false, .slice none 0 0] 31))).heap.size = q5 at HF ⊢
          go_wp2
          go_meet
          exact ⟨q5, q6, rfl, rfl, HF.out⟩
    case d4 =>
      have hK := hK0.out
      clear hK0
      rw [if_pos (by kernel_rfl)]
      refine wp_go_val (.pointer (some ⟨(W.drew).heap.size, 0, none⟩)) (run_alloc _ _ _ (by kernel_rfl)) ?_
      have HD30 := Lib.hid (And.intro (HD1.out.1.alloc (.cells #[.bool false, .slice none 0 0] 31)) (HD1.out.2.alloc HD1.out.2.size (.cells #[.bool false, .slice none 0 0] 31)))
      have hr30 := Res.new (W.drew) 31
      have hr30_lt : (W.drew).heap.size < ((W.drew).alloc (.cells #[.bool false, .slice none 0 0] 31)).heap.size := Nat.lt_of_lt_of_eq (Nat.lt_succ_self _) (size_alloc _ _).symm
      have hr30_ge := HD1.out.2.size
      have hr30_99 := hres.step ((Below.refl (W.drew).heap.size (W.drew)).alloc (Nat.le_refl _) (.cells #[.bool false, .slice none 0 0] 31)) rfl hres_lt
      have hr30_99_lt : (w.heap.size + 2) < ((W.drew).alloc (.cells #[.bool false, .slice none 0 0] 31)).heap.size := Nat.lt_of_lt_of_eq (Nat.lt_succ_of_lt hres_lt) (size_alloc _ _).symm
      refine hK _ _ (HD30.out.1.cells) (fun hH30 => ?_)
      clear hK K hH0
      change wpAnyH _ _ _ _ _ _ _ (Act.put _ (some 5) _) _
      simp only [Act.put, List.setIfInBounds_toArray, List.set_cons_zero, List.set_cons_succ]
      refine wpAnyH_ready (rs := [1, 5]) (by kernel_rfl) (by simp) ?_
      refine AllReadyH.cons rfl (fun K hK0 => ?d33) (AllReadyH.cons rfl (fun K hK0 => ?d34) (AllReadyH.nil))
      case d33 =>
        have hK := hK0.out
        clear hK0
        rw [if_pos (by kernel_rfl)]
        refine wp_go_call 37 #[(.agg #[.bool b1, .slice A1 zs1.length c1])] (fun _ => by kernel_rfl) ((RAbs_any _ x _ ((HD30.out.1 1 _ rfl).at_)).mono ?_)
        rintro e wq31 ⟨qv31, rfl, ⟨qb31, qA31, qc31, qs31, rfl, qg31, ql31⟩, hb31⟩
        have HD31 := Lib.hid (And.intro ((HD30.out.1.step hb31 rfl).told qg31 ql31) (below_then HD30.out.2 hb31))
        have hr31_99 := hr30_99.step hb31 rfl hr30_99_lt
        have hr31_99_lt := Nat.lt_of_lt_of_le hr30_99_lt hb31.size
        have hr31_4 := hr30.step hb31 rfl hr30_lt
        have hr31_4_lt := Nat.lt_of_lt_of_le hr30_lt hb31.size
        refine ⟨(.agg #[.bool qb31, .slice qA31 qs31.length qc31]), rfl, hK _ _ (HD31.out.1.tail.cells) (fun hH31 => ?_)⟩
        clear hK K hH30
        change wpAnyH _ _ _ _ _ _ _ (Act.put _ (some 11) _) _
        simp only [Act.put, List.setIfInBounds_toArray, List.set_cons_zero, List.set_cons_succ]
        refine wpAnyH_ready (rs := [3, 5]) (by kernel_rfl) (by simp) ?_
        refine AllReadyH.cons rfl (fun K hK0 => ?d35) (AllReadyH.cons rfl (fun K hK0 => ?d36) (AllReadyH.nil))
        case d35 =>
          have hK := hK0.out
          clear hK0
          rw [if_pos (by kernel_rfl)]
          refine wp_go_call 37 #[(.agg #[.bool b2, .slice A2 zs2.length c2])] (fun _ => by kernel_rfl) ((RAbs_any _ y _ ((HD31.out.1 1 _ rfl).at_)).mono ?_)
          rintro e wq32 ⟨qv32, rfl, ⟨qb32, qA32, qc32, qs32, rfl, qg32, ql32⟩, hb32⟩
          have HD32 := Lib.hid (And.intro ((HD31.out.1.step hb32 rfl).told qg32 ql32) (below_then HD31.out.2 hb32))
          have hr32_99 := hr31_99.step hb32 rfl hr31_99_lt
          have hr32_99_lt := Nat.lt_of_lt_of_le hr31_99_lt hb32.size
          have hr32_4 := hr31_4.step hb32 rfl hr31_4_lt
          have hr32_4_lt := Nat.lt_of_lt_of_le hr31_4_lt hb32.size
          refine ⟨(.agg #[.bool qb32, .slice qA32 qs32.length qc32]), rfl, hK _ _ (HD32.out.1.tail.tail.cells) (fun hH32 => ?_)⟩
          clear hK K hH31
          change wpAnyH _ _ _ _ _ _ _ (Act.put _ (some 13) _) _
          simp only [Act.put, List.setIfInBounds_toArray, List.set_cons_zero, List.set_cons_succ]
          refine wpAnyH_ready (rs := [5]) (by kernel_rfl) (by simp) ?_
          refine AllReadyH.cons rfl (fun K hK0 => ?d37) (AllReadyH.nil)
          have hK := hK0.out
          clear hK0
          rw [if_pos (by kernel_rfl)]
          refine wp_go_val (.pointer (some ⟨(wq32).heap.size, 0, none⟩)) (run_alloc _ _ _ (by kernel_rfl)) ?_
          have HD33 := Lib.hid (And.intro (HD32.out.1.alloc (.cells #[.bool false, .slice none 0 0] 31)) (HD32.out.2.alloc HD32.out.2.size (.cells #[.bool false, .slice none 0 0] 31)))
          have hr33 := Res.new (wq32) 31
          have hr33_lt : (wq32).heap.size < ((wq32).alloc (.cells #[.bool false, .slice none 0 0] 31)).heap.size := Nat.lt_of_lt_of_eq (Nat.lt_succ_self _) (size_alloc _ _).symm
          have hr33_ge := HD32.out.2.size
          have hr33_99 := hr32_99.step ((Below.refl (wq32).heap.size (wq32)).alloc (Nat.le_refl _) (.cells #[.bool false, .slice none 0 0] 31)) rfl hr32_99_lt
          have hr33_99_lt : (w.heap.size + 2) < ((wq32).alloc (.cells #[.bool false, .slice none 0 0] 31)).heap.size := Nat.lt_of_lt_of_eq (Nat.lt_succ_of_lt hr32_99_lt) (size_alloc _ _).symm
          have hr33_4 := hr32_4.step ((Below.refl (wq32).heap.size (wq32)).alloc (Nat.le_refl _) (.cells #[.bool false, .slice none 0 0] 31)) rfl hr32_4_lt
          have hr33_4_lt : (W.drew).heap.size < ((wq32).alloc (.cells #[.bool false, .slice none 0 0] 31)).heap.size := Nat.lt_of_lt_of_eq (Nat.lt_succ_of_lt hr32_4_lt) (size_alloc _ _).symm
          have hne33 := Nat.ne_of_lt hr32_4_lt
          refine hK _ _ (HD33.out.1.tail.tail.cells) (fun hH33 => ?_)
          clear hK K hH32
          change wpAnyH _ _ _ _ _ _ _ (Act.put _ (some 6) _) _
          simp only [Act.put, List.setIfInBounds_toArray, List.set_cons_zero, List.set_cons_succ]
          refine wpAnyH_ready (rs := [6]) (by kernel_rfl) (by simp) ?_
          refine AllReadyH.cons rfl (fun K hK0 => ?d38) (AllReadyH.nil)
          have hK := hK0.out
          clear hK0
          rw [if_pos (by kernel_rfl)]
          refine wp_go_skip (run_store2 hr33_4 qb31 qA31 qs31.length qc31 (.tmp 5) (.tmp 11) (by kernel_rfl) (by kernel_rfl) (by kernel_rfl)) ?_
          have hv34 := Vars.past HD33.out.1 hr33_4 (K := w.heap.size + 3) (by simp) (Nat.le_trans hbase hr30_ge) qb31 qA31 qs31.length qc31
          have o34 := hr33_4.held3 hr33_4_lt (HD33.out.1 1 _ rfl).at_
          have HD34 := Lib.hid (And.intro hv34 ((HD33.out.2.setCell (p := ⟨(W.drew).heap.size, 0, none⟩) hr30_ge (.bool qb31)).setCell (p := ⟨(W.drew).heap.size, 1, none⟩) hr30_ge (.slice qA31 qs31.length qc31)))
          have hr34_99 := hr33_99.farther (q := (W.drew).heap.size) (by have h1 := Nat.le_trans hbase hr30_ge; omega) (.bool qb31) (.slice qA31 qs31.length qc31)
          have hr34_99_lt : (w.heap.size + 2) < (((((wq32).alloc (.cells #[.bool false, .slice none 0 0] 31))).setCell ⟨(W.drew).heap.size, 0, none⟩ (.bool qb31)).setCell ⟨(W.drew).heap.size, 1, none⟩ (.slice qA31 qs31.length qc31)).heap.size := Nat.lt_of_lt_of_eq hr33_99_lt (size_put _ _ _ _ _).symm
          have hr34_5 := hr33.farther (q := (W.drew).heap.size) hne33 (.bool qb31) (.slice qA31 qs31.length qc31)
          have hr34_5_lt : (wq32).heap.size < (((((wq32).alloc (.cells #[.bool false, .slice none 0 0] 31))).setCell ⟨(W.drew).heap.size, 0, none⟩ (.bool qb31)).setCell ⟨(W.drew).heap.size, 1, none⟩ (.slice qA31 qs31.length qc31)).heap.size := Nat.lt_of_lt_of_eq hr33_lt (size_put _ _ _ _ _).symm
          refine hK _ _ (HD34.out.1.tail.tail.cells) (fun hH34 => ?_)
          clear hK K hH33
          change wpAnyH _ _ _ _ _ _ _ (Act.put _ none _) _
          simp only [Act.put]
          refine wpAnyH_ready (rs := [7]) (by kernel_rfl) (by simp) ?_
          refine AllReadyH.cons rfl (fun K hK0 => ?d39) (AllReadyH.nil)
          have hK := hK0.out
          clear hK0
          rw [if_pos (by kernel_rfl)]
          refine wp_go_skip (run_store2 hr34_5 qb32 qA32 qs32.length qc32 (.tmp 6) (.tmp 13) (by kernel_rfl) (by kernel_rfl) (by kernel_rfl)) ?_
          have hv35 := Vars.past HD34.out.1 hr34_5 (K := w.heap.size + 3) (by simp) (Nat.le_trans hbase hr33_ge) qb32 qA32 qs32.length qc32
          have o35 := hr34_5.held3 hr34_5_lt (HD34.out.1 0 _ rfl).at_
          have HD35 := Lib.hid (And.intro hv35 ((HD34.out.2.setCell (p := ⟨(wq32).heap.size, 0, none⟩) hr33_ge (.bool qb32)).setCell (p := ⟨(wq32).heap.size, 1, none⟩) hr33_ge (.slice qA32 qs32.length qc32)))
          have o35_p := o34.past hr34_5 (fun e => hne33 e.symm) qb32 qA32 qs32.length qc32
          have hr35_99 := hr34_99.farther (q := (wq32).heap.size) (by have h1 := Nat.le_trans hbase hr33_ge; omega) (.bool qb32) (.slice qA32 qs32.length qc32)
          have hr35_99_lt : (w.heap.size + 2) < ((((((((wq32).alloc (.cells #[.bool false, .slice none 0 0] 31))).setCell ⟨(W.drew).heap.size, 0, none⟩ (.bool qb31)).setCell ⟨(W.drew).heap.size, 1, none⟩ (.slice qA31 qs31.length qc31))).setCell ⟨(wq32).heap.size, 0, none⟩ (.bool qb32)).setCell ⟨(wq32).heap.size, 1, none⟩ (.slice qA32 qs32.length qc32)).heap.size := Nat.lt_of_lt_of_eq hr34_99_lt (size_put _ _ _ _ _).symm
          refine hK _ _ (HD35.out.1.tail.tail.cells) (fun hH35 => ?_)
          clear hK K hH34
          change wpAnyH _ _ _ _ _ _ _ (Act.put _ none _) _
          simp only [Act.put]
          refine wpAnyH_done (by kernel_rfl) ?_ _
          have HF := Lib.hid (And.intro (show (W.drew).heap.size ≠ (wq32).heap.size from hne33) (And.intro (Nat.le_trans hbase hr30_ge) (And.intro (Nat.le_trans hbase hr33_ge) (And.intro (show Both ((((((((wq32).alloc (.cells #[.bool false, .slice none 0 0] 31))).setCell ⟨(W.drew).heap.size, 0, none⟩ (.bool qb31)).setCell ⟨(W.drew).heap.size, 1, none⟩ (.slice qA31 qs31.length qc31))).setCell ⟨(wq32).heap.size, 0, none⟩ (.bool qb32)).setCell ⟨(wq32).heap.size, 1, none⟩ (.slice qA32 qs32.length qc32)) (W.drew).heap.size (wq32).heap.size ((x.natAbs : Nat) : Int) ((y.natAbs : Nat) : Int) from ⟨_, _, _, _, _, _, _, _, o35_p, o35⟩) (And.intro hr35_99 (below_then H0.out.1 HD35.out.2))))))
          clear o35_p o35 hr35_99
          generalize ((((((((wq32).alloc (.cells #[.bool false, .slice none 0 0] 31))).setCell ⟨(W.drew).heap.size, 0, none⟩ (.bool qb31)).setCell ⟨(W.drew).heap.size, 1, none⟩ (.slice qA31 qs31.length qc31))).setCell ⟨(wq32).heap.size, 0, none⟩ (.bool qb32)).setCell ⟨(wq32).heap.size, 1, none⟩ (.slice qA32 qs32.length qc32)) = Wz at HF ⊢
          generalize (wq32).heap.size = q6 at HF ⊢
          generalize (W.drew).heap.size = q5 at HF ⊢
          go_wp2
          go_meet
          exact ⟨q5, q6, rfl, rfl, HF.out⟩
        case d36 =>
          have hK := hK0.out
          clear hK0
          rw [if_pos (by kernel_rfl)]
          refine wp_go_val (.pointer (some ⟨(wq31).heap.size, 0, none⟩)) (run_alloc _ _ _ (by kernel_rfl)) ?_
          have HD36 := Lib.hid (And.intro (HD31.out.1.alloc (.cells #[.bool false, .slice none 0 0] 31)) (HD31.out.2.alloc HD31.out.2.size (.cells #[.bool false, .slice none 0 0] 31)))
          have hr36 := Res.new (wq31) 31
          have hr36_lt : (wq31).heap.size < ((wq31).alloc (.cells #[.bool false, .slice none 0 0] 31)).heap.size := Nat.lt_of_lt_of_eq (Nat.lt_succ_self _) (size_alloc _ _).symm
          have hr36_ge := HD31.out.2.size
          have hr36_99 := hr31_99.step ((Below.refl (wq31).heap.size (wq31)).alloc (Nat.le_refl _) (.cells #[.bool false, .slice none 0 0] 31)) rfl hr31_99_lt
          have hr36_99_lt : (w.heap.size + 2) < ((wq31).alloc (.cells #[.bool false, .slice none 0 0] 31)).heap.size := Nat.lt_of_lt_of_eq (Nat.lt_succ_of_lt hr31_99_lt) (size_alloc _ _).symm
          have hr36_4 := hr31_4.step ((Below.refl (wq31).heap.size (wq31)).alloc (Nat.le_refl _) (.cells #[.bool false, .slice none 0 0] 31)) rfl hr31_4_lt
          have hr36_4_lt : (W.drew).heap.size < ((wq31).alloc (.cells #[.bool false, .slice none 0 0] 31)).heap.size := Nat.lt_of_lt_of_eq (Nat.lt_succ_of_lt hr31_4_lt) (size_alloc _ _).symm
          have hne36 := Nat.ne_of_lt hr31_4_lt
          refine hK _ _ (HD36.out.1.tail.cells) (fun hH36 => ?_)
          clear hK K hH31
          change wpAnyH _ _ _ _ _ _ _ (Act.put _ (some 6) _) _
          simp only [Act.put, List.setIfInBounds_toArray, List.set_cons_zero, List.set_cons_succ]
          refine wpAnyH_ready (rs := [3]) (by kernel_rfl) (by simp) ?_
          refine AllReadyH.cons rfl (fun K hK0 => ?d40) (AllReadyH.nil)
          have hK := hK0.out
          clear hK0
          rw [if_pos (by kernel_rfl)]
          refine wp_go_call 37 #[(.agg #[.bool b2, .slice A2 zs2.length c2])] (fun _ => by kernel_rfl) ((RAbs_any _ y _ ((HD36.out.1 1 _ rfl).at_)).mono ?_)
          rintro e wq37 ⟨qv37, rfl, ⟨qb37, qA37, qc37, qs37, rfl, qg37, ql37⟩, hb37⟩
          have HD37 := Lib.hid (And.intro ((HD36.out.1.step hb37 rfl).told qg37 ql37) (below_then HD36.out.2 hb37))
          have hr37_99 := hr36_99.step hb37 rfl hr36_99_lt
          have hr37_99_lt := Nat.lt_of_lt_of_le hr36_99_lt hb37.size
          have hr37_4 := hr36_4.step hb37 rfl hr36_4_lt
          have hr37_4_lt := Nat.lt_of_lt_of_le hr36_4_lt hb37.size
          have hr37_5 := hr36.step hb37 rfl hr36_lt
          have hr37_5_lt := Nat.lt_of_lt_of_le hr36_lt hb37.size
          refine ⟨(.agg #[.bool qb37, .slice qA37 qs37.length qc37]), rfl, hK _ _ (HD37.out.1.tail.tail.cells) (fun hH37 => ?_)⟩
          clear hK K hH36
          change wpAnyH _ _ _ _ _ _ _ (Act.put _ (some 13) _) _
          simp only [Act.put, List.setIfInBounds_toArray, List.set_cons_zero, List.set_cons_succ]
          refine wpAnyH_ready (rs := [6]) (by kernel_rfl) (by simp) ?_
          refine AllReadyH.cons rfl (fun K hK0 => ?d41) (AllReadyH.nil)
          have hK := hK0.out
          clear hK0
          rw [if_pos (by kernel_rfl)]
          refine wp_go_skip (run_store2 hr37_4 qb31 qA31 qs31.length qc31 (.tmp 5) (.tmp 11) (by kernel_rfl) (by kernel_rfl) (by kernel_rfl)) ?_
          have hv38 := Vars.past HD37.out.1 hr37_4 (K := w.heap.size + 3) (by simp) (Nat.le_trans hbase hr30_ge) qb31 qA31 qs31.length qc31
          have o38 := hr37_4.held3 hr37_4_lt (HD37.out.1 1 _ rfl).at_
          have HD38 := Lib.hid (And.intro hv38 ((HD37.out.2.setCell (p := ⟨(W.drew).heap.size, 0, none⟩) hr30_ge (.bool qb31)).setCell (p := ⟨(W.drew).heap.size, 1, none⟩) hr30_ge (.slice qA31 qs31.length qc31)))
          have hr38_99 := hr37_99.farther (q := (W.drew).heap.size) (by have h1 := Nat.le_trans hbase hr30_ge; omega) (.bool qb31) (.slice qA31 qs31.length qc31)
          have hr38_99_lt : (w.heap.size + 2) < (((wq37).setCell ⟨(W.drew).heap.size, 0, none⟩ (.bool qb31)).setCell ⟨(W.drew).heap.size, 1, none⟩ (.slice qA31 qs31.length qc31)).heap.size := Nat.lt_of_lt_of_eq hr37_99_lt (size_put _ _ _ _ _).symm
          have hr38_5 := hr37_5.farther (q := (W.drew).heap.size) hne36 (.bool qb31) (.slice qA31 qs31.length qc31)
          have hr38_5_lt : (wq31).heap.size < (((wq37).setCell ⟨(W.drew).heap.size, 0, none⟩ (.bool qb31)).setCell ⟨(W.drew).heap.size, 1, none⟩ (.slice qA31 qs31.length qc31)).heap.size := Nat.lt_of_lt_of_eq hr37_5_lt (size_put _ _ _ _ _).symm
          refine hK _ _ (HD38.out.1.tail.tail.cells) (fun hH38 => ?_)
          clear hK K hH37
          change wpAnyH _ _ _ _ _ _ _ (Act.put _ none _) _
          simp only [Act.put]
          refine wpAnyH_ready (rs := [7]) (by kernel_rfl) (by simp) ?_
          refine AllReadyH.cons rfl (fun K hK0 => ?d42) (AllReadyH.nil)
          have hK := hK0.out
          clear hK0
          rw [if_pos (by kernel_rfl)]
          refine wp_go_skip (run_store2 hr38_5 qb37 qA37 qs37.length qc37 (.tmp 6) (.tmp 13) (by kernel_rfl) (by kernel_rfl) (by kernel_rfl)) ?_
          have hv39 := Vars.past HD38.out.1 hr38_5 (K := w.heap.size + 3) (by simp) (Nat.le_trans hbase hr36_ge) qb37 qA37 qs37.length qc37
          have o39 := hr38_5.held3 hr38_5_lt (HD38.out.1 0 _ rfl).at_
          have HD39 := Lib.hid (And.intro hv39 ((HD38.out.2.setCell (p := ⟨(wq31).heap.size, 0, none⟩) hr36_ge (.bool qb37)).setCell (p := ⟨(wq31).heap.size, 1, none⟩) hr36_ge (.slice qA37 qs37.length qc37)))
          have o39_p := o38.past hr38_5 (fun e => hne36 e.symm) qb37 qA37 qs37.length qc37
          have hr39_99 := hr38_99.farther (q := (wq31).heap.size) (by have h1 := Nat.le_trans hbase hr36_ge; omega) (.bool qb37) (.slice qA37 qs37.length qc37)
          have hr39_99_lt : (w.heap.size + 2) < ((((((wq37).setCell ⟨(W.drew).heap.size, 0, none⟩ (.bool qb31)).setCell ⟨(W.drew).heap.size, 1, none⟩ (.slice qA31 qs31.length qc31))).setCell ⟨(wq31).heap.size, 0, none⟩ (.bool qb37)).setCell ⟨(wq31).heap.size, 1, none⟩ (.slice qA37 qs37.length qc37)).heap.size := Nat.lt_of_lt_of_eq hr38_99_lt (size_put _ _ _ _ _).symm
          refine hK _ _ (HD39.out.1.tail.tail.cells) (fun hH39 => ?_)
          clear hK K hH38
          change wpAnyH _ _ _ _ _ _ _ (Act.put _ none _) _
          simp only [Act.put]
          refine wpAnyH_done (by kernel_rfl) ?_ _
          have HF := Lib.hid (And.intro (show (W.drew).heap.size ≠ (wq31).heap.size from hne36) (And.intro (Nat.le_trans hbase hr30_ge) (And.intro (Nat.le_trans hbase hr36_ge) (And.intro (show Both ((((((wq37).setCell ⟨(W.drew).heap.size, 0, none⟩ (.bool qb31)).setCell ⟨(W.drew).heap.size, 1, none⟩ (.slice qA31 qs31.length qc31))).setCell ⟨(wq31).heap.size, 0, none⟩ (.bool qb37)).setCell ⟨(wq31).heap.size, 1, none⟩ (.slice qA37 qs37.length qc37)) (W.drew).heap.size (wq31).heap.size ((x.natAbs : Nat) : Int) ((y.natAbs : Nat) : Int) from ⟨_, _, _, _, _, _, _, _, o39_p, o39⟩) (And.intro hr39_99 (below_then H0.out.1 HD39.out.2))))))
          clear o39_p o39 hr39_99
          generalize ((((((wq37).setCell ⟨(W.drew).heap.size, 0, none⟩ (.bool qb31)).setCell ⟨(W.drew).heap.size, 1, none⟩ (.slice qA31 qs31.length qc31))).setCell ⟨(wq31).heap.size, 0, none⟩ (.bool qb37)).setCell ⟨(wq31).heap.size, 1, none⟩ (.slice qA37 qs37.length qc37)) = Wz at HF ⊢
          generalize (wq31).heap.size = q6 at HF ⊢
          generalize (W.drew).heap.size = q5 at HF ⊢
          go_wp2
          go_meet
          exact ⟨q5, q6, rfl, rfl, HF.out⟩
      case d34 =>
        have hK := hK0.out
        clear hK0
        rw [if_pos (by kernel_rfl)]
        refine wp_go_val (.pointer (some ⟨(((W.drew).alloc (.cells #[.bool false, .slice none 0 0] 31))).heap.size, 0, none⟩)) (run_alloc _ _ _ (by kernel_rfl)) ?_
        have HD40 := Lib.hid (And.intro (HD30.out.1.alloc (.cells #[.bool false, .slice none 0 0] 31)) (HD30.out.2.alloc HD30.out.2.size (.cells #[.bool false, .slice none 0 0] 31)))
        have hr40 := Res.new (((W.drew).alloc (.cells #[.bool false, .slice none 0 0] 31))) 31
        have hr40_lt : (((W.drew).alloc (.cells #[.bool false, .slice none 0 0] 31))).heap.size < ((((W.drew).alloc (.cells #[.bool false, .slice none 0 0] 31))).alloc (.cells #[.bool false, .slice none 0 0] 31)).heap.size := Nat.lt_of_lt_of_eq (Nat.lt_succ_self _) (size_alloc _ _).symm
        have hr40_ge := HD30.out.2.size
        have hr40_99 := hr30_99.step ((Below.refl (((W.drew).alloc (.cells #[.bool false, .slice none 0 0] 31))).heap.size (((W.drew).alloc (.cells #[.bool false, .slice none 0 0] 31)))).alloc (Nat.le_refl _) (.cells #[.bool false, .slice none 0 0] 31)) rfl hr30_99_lt
        have hr40_99_lt : (w.heap.size + 2) < ((((W.drew).alloc (.cells #[.bool false, .slice none 0 0] 31))).alloc (.cells #[.bool false, .slice none 0 0] 31)).heap.size := Nat.lt_of_lt_of_eq (Nat.lt_succ_of_lt hr30_99_lt) (size_alloc _ _).symm
        have hr40_4 := hr30.step ((Below.refl (((W.drew).alloc (.cells #[.bool false, .slice none 0 0] 31))).heap.size (((W.drew).alloc (.cells #[.bool false, .slice none 0 0] 31)))).alloc (Nat.le_refl _) (.cells #[.bool false, .slice none 0 0] 31)) rfl hr30_lt
        have hr40_4_lt : (W.drew).heap.size < ((((W.drew).alloc (.cells #[.bool false, .slice none 0 0] 31))).alloc (.cells #[.bool false, .slice none 0 0] 31)).heap.size := Nat.lt_of_lt_of_eq (Nat.lt_succ_of_lt hr30_lt) (size_alloc _ _).symm
        have hne40 := Nat.ne_of_lt hr30_lt
        refine hK _ _ (HD40.out.1.cells) (fun hH40 => ?_)
        clear hK K hH30
        change wpAnyH _ _ _ _ _ _ _ (Act.put _ (some 6) _) _
        simp only [Act.put, List.setIfInBounds_toArray, List.set_cons_zero, List.set_cons_succ]
        refine wpAnyH_ready (rs := [1]) (by kernel_rfl) (by simp) ?_
        refine AllReadyH.cons rfl (fun K hK0 => ?d43) (AllReadyH.nil)
        have hK := hK0.out
        clear hK0
        rw [if_pos (by kernel_rfl)]
        refine wp_go_call 37 #[(.agg #[.bool b1, .slice A1 zs1.length c1])] (fun _ => by kernel_rfl) ((RAbs_any _ x _ ((HD40.out.1 1 _ rfl).at_)).mono ?_)
        rintro e wq41 ⟨qv41, rfl, ⟨qb41, qA41, qc41, qs41, rfl, qg41, ql41⟩, hb41⟩
        have HD41 := Lib.hid (And.intro ((HD40.out.1.step hb41 rfl).told qg41 ql41) (below_then HD40.out.2 hb41))
        have hr41_99 := hr40_99.step hb41 rfl hr40_99_lt
        have hr41_99_lt := Nat.lt_of_lt_of_le hr40_99_lt hb41.size
        have hr41_4 := hr40_4.step hb41 rfl hr40_4_lt
        have hr41_4_lt := Nat.lt_of_lt_of_le hr40_4_lt hb41.size
        have hr41_5 := hr40.step hb41 rfl hr40_lt
        have hr41_5_lt := Nat.lt_of_lt_of_le hr40_lt hb41.size
        refine ⟨(.agg #[.bool qb41, .slice qA41 qs41.length qc41]), rfl, hK _ _ (HD41.out.1.tail.cells) (fun hH41 => ?_)⟩
        clear hK K hH40
        change wpAnyH _ _ _ _ _ _ _ (Act.put _ (some 11) _) _
        simp only [Act.put, List.setIfInBounds_toArray, List.set_cons_zero, List.set_cons_succ]
        refine wpAnyH_ready (rs := [3]) (by kernel_rfl) (by simp) ?_
        refine AllReadyH.cons rfl (fun K hK0 => ?d44) (AllReadyH.nil)
        have hK := hK0.out
        clear hK0
        rw [if_pos (by kernel_rfl)]
        refine wp_go_call 37 #[(.agg #[.bool b2, .slice A2 zs2.length c2])] (fun _ => by kernel_rfl) ((RAbs_any _ y _ ((HD41.out.1 1 _ rfl).at_)).mono ?_)
        rintro e wq42 ⟨qv42, rfl, ⟨qb42, qA42, qc42, qs42, rfl, qg42, ql42⟩, hb42⟩
        have HD42 := Lib.hid (And.intro ((HD41.out.1.step hb42 rfl).told qg42 ql42) (below_then HD41.out.2 hb42))
        have hr42_99 := hr41_99.step hb42 rfl hr41_99_lt
        have hr42_99_lt := Nat.lt_of_lt_of_le hr41_99_lt hb42.size
        have hr42_4 := hr41_4.step hb42 rfl hr41_4_lt
        have hr42_4_lt := Nat.lt_of_lt_of_le hr41_4_lt hb42.size
        have hr42_5 := hr41_5.step hb42 rfl hr41_5_lt
        have hr42_5_lt := Nat.lt_of_lt_of_le hr41_5_lt hb42.size
        refine ⟨(.agg #[.bool qb42, .slice qA42 qs42.length qc42]), rfl, hK _ _ (HD42.out.1.tail.tail.cells) (fun hH42 => ?_)⟩
        clear hK K hH41
        change wpAnyH _ _ _ _ _ _ _ (Act.put _ (some 13) _) _
        simp only [Act.put, List.setIfInBounds_toArray, List.set_cons_zero, List.set_cons_succ]
        refine wpAnyH_ready (rs := [6]) (by kernel_rfl) (by simp) ?_
        refine AllReadyH.cons rfl (fun K hK0 => ?d45) (AllReadyH.nil)
        have hK := hK0.out
        clear hK0
        rw [if_pos (by kernel_rfl)]
        refine wp_go_skip (run_store2 hr42_4 qb41 qA41 qs41.length qc41 (.tmp 5) (.tmp 11) (by kernel_rfl) (by kernel_rfl) (by kernel_rfl)) ?_
        have hv43 := Vars.past HD42.out.1 hr42_4 (K := w.heap.size + 3) (by simp) (Nat.le_trans hbase hr30_ge) qb41 qA41 qs41.length qc41
        have o43 := hr42_4.held3 hr42_4_lt (HD42.out.1 1 _ rfl).at_
        have HD43 := Lib.hid (And.intro hv43 ((HD42.out.2.setCell (p := ⟨(W.drew).heap.size, 0, none⟩) hr30_ge (.bool qb41)).setCell (p := ⟨(W.drew).heap.size, 1, none⟩) hr30_ge (.slice qA41 qs41.length qc41)))
        have hr43_99 := hr42_99.farther (q := (W.drew).heap.size) (by have h1 := Nat.le_trans hbase hr30_ge; omega) (.bool qb41) (.slice qA41 qs41.length qc41)
        have hr43_99_lt : (w.heap.size + 2) < (((wq42).setCell ⟨(W.drew).heap.size, 0, none⟩ (.bool qb41)).setCell ⟨(W.drew).heap.size, 1, none⟩ (.slice qA41 qs41.length qc41)).heap.size := Nat.lt_of_lt_of_eq hr42_99_lt (size_put _ _ _ _ _).symm
        have hr43_5 := hr42_5.farther (q := (W.drew).heap.size) hne40 (.bool qb41) (.slice qA41 qs41.length qc41)
        have hr43_5_lt : (((W.drew).alloc (.cells #[.bool false, .slice none 0 0] 31))).heap.size < (((wq42).setCell ⟨(W.drew).heap.size, 0, none⟩ (.bool qb41)).setCell ⟨(W.drew).heap.size, 1, none⟩ (.slice qA41 qs41.length qc41)).heap.size := Nat.lt_of_lt_of_eq hr42_5_lt (size_put _ _ _ _ _).symm
        refine hK _ _ (HD43.out.1.tail.tail.cells) (fun hH43 => ?_)
        clear hK K hH42
        change wpAnyH _ _ _ _ _ _ _ (Act.put _ none _) _
        simp only [Act.put]
        refine wpAnyH_ready (rs := [7]) (by kernel_rfl) (by simp) ?_
        refine AllReadyH.cons rfl (fun K hK0 => ?d46) (AllReadyH.nil)
        have hK := hK0.out
        clear hK0
        rw [if_pos (by kernel_rfl)]
        refine wp_go_skip (run_store2 hr43_5 qb42 qA42 qs42.length qc42 (.tmp 6) (.tmp 13) (by kernel_rfl) (by kernel_rfl) (by kernel_rfl)) ?_
        have hv44 := Vars.past HD43.out.1 hr43_5 (K := w.heap.size + 3) (by simp) (Nat.le_trans hbase hr40_ge) qb42 qA42 qs42.length qc42
        have o44 := hr43_5.held3 hr43_5_lt (HD43.out.1 0 _ rfl).at_
        have HD44 := Lib.hid (And.intro hv44 ((HD43.out.2.setCell (p := ⟨(((W.drew).alloc (.cells #[.bool false, .slice none 0 0] 31))).heap.size, 0, none⟩) hr40_ge (.bool qb42)).setCell (p := ⟨(((W.drew).alloc (.cells #[.bool false, .slice none 0 0] 31))).heap.size, 1, none⟩) hr40_ge (.slice qA42 qs42.length qc42)))
        have o44_p := o43.past hr43_5 (fun e => hne40 e.symm) qb42 qA42 qs42.length qc42
        have hr44_99 := hr43_99.farther (q := (((W.drew).alloc (.cells #[.bool false, .slice none 0 0] 31))).heap.size) (by have h1 := Nat.le_trans hbase hr40_ge; omega) (.bool qb42) (.slice qA42 qs42.length qc42)
        have hr44_99_lt : (w.heap.size + 2) < ((((((wq42).setCell ⟨(W.drew).heap.size, 0, none⟩ (.bool qb41)).setCell ⟨(W.drew).heap.size, 1, none⟩ (.slice qA41 qs41.length qc41))).setCell ⟨(((W.drew).alloc (.cells #[.bool false, .slice none 0 0] 31))).heap.size, 0, none⟩ (.bool qb42)).setCell ⟨(((W.drew).alloc (.cells #[.bool false, .slice none 0 0] 31))).heap.size, 1, none⟩ (.slice qA42 qs42.length qc42)).heap.size := Nat.lt_of_lt_of_eq hr43_99_lt (size_put _ _ _ _ _).symm
        refine hK _ _ (HD44.out.1.tail.tail.cells) (fun hH44 => ?_)
        clear hK K hH43
        change wpAnyH _ _ _ _ _ _ _ (Act.put _ none _) _
        simp only [Act.put]
        refine wpAnyH_done (by kernel_rfl) ?_ _
        have HF := Lib.hid (And.intro (show (W.drew).heap.size ≠ (((W.drew).alloc (.cells #[.bool false, .slice none 0 0] 31))).heap.size from hne40) (And.intro (Nat.le_trans hbase hr30_ge) (And.intro (Nat.le_trans hbase hr40_ge) (And.intro (show Both ((((((wq42).setCell ⟨(W.drew).heap.size, 0, none⟩ (.bool qb41)).setCell ⟨(W.drew).heap.size, 1, none⟩ (.slice qA41 qs41.length qc41))).setCell ⟨(((W.drew).alloc (.cells #[.bool false, .slice none 0 0] 31))).heap.size, 0, none⟩ (.bool qb42)).setCell ⟨(((W.drew).alloc (.cells #[.bool false, .slice none 0 0] 31))).heap.size, 1, none⟩ (.slice qA42 qs42.length qc42)) (W.drew).heap.size (((W.drew).alloc (.cells #[.bool false, .slice none 0 0] 31))).heap.size ((x.natAbs : Nat) : Int) ((y.natAbs : Nat) : Int) from ⟨_, _, _, _, _, _, _, _, o44_p, o44⟩) (And.intro hr44_99 (below_then H0.out.1 HD44.out.2))))))
        clear o44_p o44 hr44_99
        generalize ((((((wq42).setCell ⟨(W.drew).heap.size, 0, none⟩ (.bool qb41)).setCell ⟨(W.drew).heap.size, 1, none⟩ (.slice qA41 qs41.length qc41))).setCell ⟨(((W.drew).alloc (.cells #[.bool false, .slice none 0 0] 31))).heap.size, 0, none⟩ (.bool qb42)).setCell ⟨(((W.drew).alloc (.cells #[.bool false, .slice none 0 0] 31))).heap.size, 1, none⟩ (.slice qA42 qs42.length qc42)) = Wz at HF ⊢
        generalize (((W.drew).alloc (.cells #[.bool false, .slice none 0 0] 31))).heap.size = q6 at HF ⊢
        generalize (W.drew).heap.size = q5 at HF ⊢
        go_wp2
        go_meet
        exact ⟨q5, q6, rfl, rfl, HF.out⟩
    case d5 =>
      have hK := hK0.out
      clear hK0
      rw [if_pos (by kernel_rfl)]
      refine wp_go_val (.pointer (some ⟨(W.drew).heap.size, 0, none⟩)) (run_alloc _ _ _ (by kernel_rfl)) ?_
      have HD45 := Lib.hid (And.intro (HD1.out.1.alloc (.cells #[.bool false, .slice none 0 0] 31)) (HD1.out.2.alloc HD1.out.2.size (.cells #[.bool false, .slice none 0 0] 31)))
      have hr45 := Res.new (W.drew) 31
      have hr45_lt : (W.drew).heap.size < ((W.drew).alloc (.cells #[.bool false, .slice none 0 0] 31)).heap.size := Nat.lt_of_lt_of_eq (Nat.lt_succ_self _) (size_alloc _ _).symm
      have hr45_ge := HD1.out.2.size
      have hr45_99 := hres.step ((Below.refl (W.drew).heap.size (W.drew)).alloc (Nat.le_refl _) (.cells #[.bool false, .slice none 0 0] 31)) rfl hres_lt
      have hr45_99_lt : (w.heap.size + 2) < ((W.drew).alloc (.cells #[.bool false, .slice none 0 0] 31)).heap.size := Nat.lt_of_lt_of_eq (Nat.lt_succ_of_lt hres_lt) (size_alloc _ _).symm
      refine hK _ _ (HD45.out.1.cells) (fun hH45 => ?_)
      clear hK K hH0
      change wpAnyH _ _ _ _ _ _ _ (Act.put _ (some 6) _) _
      simp only [Act.put, List.setIfInBounds_toArray, List.set_cons_zero, List.set_cons_succ]
      refine wpAnyH_ready (rs := [1, 4]) (by kernel_rfl) (by simp) ?_
      refine AllReadyH.cons rfl (fun K hK0 => ?d47) (AllReadyH.cons rfl (fun K hK0 => ?d48) (AllReadyH.nil))
      case d47 =>
        have hK := hK0.out
        clear hK0
        rw [if_pos (by kernel_rfl)]
        refine wp_go_call 37 #[(.agg #[.bool b1, .slice A1 zs1.length c1])] (fun _ => by kernel_rfl) ((RAbs_any _ x _ ((HD45.out.1 1 _ rfl).at_)).mono ?_)
        rintro e wq46 ⟨qv46, rfl, ⟨qb46, qA46, qc46, qs46, rfl, qg46, ql46⟩, hb46⟩
        have HD46 := Lib.hid (And.intro ((HD45.out.1.step hb46 rfl).told qg46 ql46) (below_then HD45.out.2 hb46))
        have hr46_99 := hr45_99.step hb46 rfl hr45_99_lt
        have hr46_99_lt := Nat.lt_of_lt_of_le hr45_99_lt hb46.size
        have hr46_5 := hr45.step hb46 rfl hr45_lt
        have hr46_5_lt := Nat.lt_of_lt_of_le hr45_lt hb46.size
        refine ⟨(.agg #[.bool qb46, .slice qA46 qs46.length qc46]), rfl, hK _ _ (HD46.out.1.tail.cells) (fun hH46 => ?_)⟩
        clear hK K hH45
        change wpAnyH _ _ _ _ _ _ _ (Act.put _ (some 11) _) _
        simp only [Act.put, List.setIfInBounds_toArray, List.set_cons_zero, List.set_cons_succ]
        refine wpAnyH_ready (rs := [3, 4]) (by kernel_rfl) (by simp) ?_
        refine AllReadyH.cons rfl (fun K hK0 => ?d49) (AllReadyH.cons rfl (fun K hK0 => ?d50) (AllReadyH.nil))
        case d49 =>
          have hK := hK0.out
          clear hK0
          rw [if_pos (by kernel_rfl)]
          refine wp_go_call 37 #[(.agg #[.bool b2, .slice A2 zs2.length c2])] (fun _ => by kernel_rfl) ((RAbs_any _ y _ ((HD46.out.1 1 _ rfl).at_)).mono ?_)
          rintro e wq47 ⟨qv47, rfl, ⟨qb47, qA47, qc47, qs47, rfl, qg47, ql47⟩, hb47⟩
          have HD47 := Lib.hid (And.intro ((HD46.out.1.step hb47 rfl).told qg47 ql47) (below_then HD46.out.2 hb47))
          have hr47_99 := hr46_99.step hb47 rfl hr46_99_lt
          have hr47_99_lt := Nat.lt_of_lt_of_le hr46_99_lt hb47.size
          have hr47_5 := hr46_5.step hb47 rfl hr46_5_lt
          have hr47_5_lt := Nat.lt_of_lt_of_le hr46_5_lt hb47.size
          refine ⟨(.agg #[.bool qb47, .slice qA47 qs47.length qc47]), rfl, hK _ _ (HD47.out.1.tail.tail.cells) (fun hH47 => ?_)⟩
          clear hK K hH46
          change wpAnyH _ _ _ _ _ _ _ (Act.put _ (some 13) _) _
          simp only [Act.put, List.setIfInBounds_toArray, List.set_cons_zero, List.set_cons_succ]
          refine wpAnyH_ready (rs := [4]) (by kernel_rfl) (by simp) ?_
          refine AllReadyH.cons rfl (fun K hK0 => ?d51) (AllReadyH.nil)
          have hK := hK0.out
          clear hK0
          rw [if_pos (by kernel_rfl)]
          refine wp_go_val (.pointer (some ⟨(wq47).heap.size, 0, none⟩)) (run_alloc _ _ _ (by kernel_rfl)) ?_
          have HD48 := Lib.hid (And.intro (HD47.out.1.alloc (.cells #[.bool false, .slice none 0 0] 31)) (HD47.out.2.alloc HD47.out.2.size (.cells #[.bool false, .slice none 0 0] 31)))
          have hr48 := Res.new (wq47) 31
          have hr48_lt : (wq47).heap.size < ((wq47).alloc (.cells #[.bool false, .slice none 0 0] 31)).heap.size := Nat.lt_of_lt_of_eq (Nat.lt_succ_self _) (size_alloc _ _).symm
          have hr48_ge := HD47.out.2.size
          have hr48_99 := hr47_99.step ((Below.refl (wq47).heap.size (wq47)).alloc (Nat.le_refl _) (.cells #[.bool false, .slice none 0 0] 31)) rfl hr47_99_lt
          have hr48_99_lt : (w.heap.size + 2) < ((wq47).alloc (.cells #[.bool false, .slice none 0 0] 31)).heap.size := Nat.lt_of_lt_of_eq (Nat.lt_succ_of_lt hr47_99_lt) (size_alloc _ _).symm
          have hr48_5 := hr47_5.step ((Below.refl (wq47).heap.size (wq47)).alloc (Nat.le_refl _) (.cells #[.bool false, .slice none 0 0] 31)) rfl hr47_5_lt
          have hr48_5_lt : (W.drew).heap.size < ((wq47).alloc (.cells #[.bool false, .slice none 0 0] 31)).heap.size := Nat.lt_of_lt_of_eq (Nat.lt_succ_of_lt hr47_5_lt) (size_alloc _ _).symm
          have hne48 := Nat.ne_of_lt hr47_5_lt
          refine hK _ _ (HD48.out.1.tail.tail.cells) (fun hH48 => ?_)
          clear hK K hH47
          change wpAnyH _ _ _ _ _ _ _ (Act.put _ (some 5) _) _
          simp only [Act.put, List.setIfInBounds_toArray, List.set_cons_zero, List.set_cons_succ]
          refine wpAnyH_ready (rs := [6]) (by kernel_rfl) (by simp) ?_
          refine AllReadyH.cons rfl (fun K hK0 => ?d52) (AllReadyH.nil)
          have hK := hK0.out
          clear hK0
          rw [if_pos (by kernel_rfl)]
          refine wp_go_skip (run_store2 hr48 qb46 qA46 qs46.length qc46 (.tmp 5) (.tmp 11) (by kernel_rfl) (by kernel_rfl) (by kernel_rfl)) ?_
          have hv49 := Vars.past HD48.out.1 hr48 (K := w.heap.size + 3) (by simp) (Nat.le_trans hbase hr48_ge) qb46 qA46 qs46.length qc46
          have o49 := hr48.held3 hr48_lt (HD48.out.1 1 _ rfl).at_
          have HD49 := Lib.hid (And.intro hv49 ((HD48.out.2.setCell (p := ⟨(wq47).heap.size, 0, none⟩) hr48_ge (.bool qb46)).setCell (p := ⟨(wq47).heap.size, 1, none⟩) hr48_ge (.slice qA46 qs46.length qc46)))
          have hr49_99 := hr48_99.farther (q := (wq47).heap.size) (by have h1 := Nat.le_trans hbase hr48_ge; omega) (.bool qb46) (.slice qA46 qs46.length qc46)
          have hr49_99_lt : (w.heap.size + 2) < (((((wq47).alloc (.cells #[.bool false, .slice none 0 0] 31))).setCell ⟨(wq47).heap.size, 0, none⟩ (.bool qb46)).setCell ⟨(wq47).heap.size, 1, none⟩ (.slice qA46 qs46.length qc46)).heap.size := Nat.lt_of_lt_of_eq hr48_99_lt (size_put _ _ _ _ _).symm
          have hr49_5 := hr48_5.farther (q := (wq47).heap.size) (fun e => hne48 e.symm) (.bool qb46) (.slice qA46 qs46.length qc46)
          have hr49_5_lt : (W.drew).heap.size < (((((wq47).alloc (.cells #[.bool false, .slice none 0 0] 31))).setCell ⟨(wq47).heap.size, 0, none⟩ (.bool qb46)).setCell ⟨(wq47).heap.size, 1, none⟩ (.slice qA46 qs46.length qc46)).heap.size := Nat.lt_of_lt_of_eq hr48_5_lt (size_put _ _ _ _ _).symm
          refine hK _ _ (HD49.out.1.tail.tail.cells) (fun hH49 => ?_)
          clear hK K hH48
          change wpAnyH _ _ _ _ _ _ _ (Act.put _ none _) _
          simp only [Act.put]
          refine wpAnyH_ready (rs := [7]) (by kernel_rfl) (by simp) ?_
          refine AllReadyH.cons rfl (fun K hK0 => ?d53) (AllReadyH.nil)
          have hK := hK0.out
          clear hK0
          rw [if_pos (by kernel_rfl)]
          refine wp_go_skip (run_store2 hr49_5 qb47 qA47 qs47.length qc47 (.tmp 6) (.tmp 13) (by kernel_rfl) (by kernel_rfl) (by kernel_rfl)) ?_
          have hv50 := Vars.past HD49.out.1 hr49_5 (K := w.heap.size + 3) (by simp) (Nat.le_trans hbase hr45_ge) qb47 qA47 qs47.length qc47
          have o50 := hr49_5.held3 hr49_5_lt (HD49.out.1 0 _ rfl).at_
          have HD50 := Lib.hid (And.intro hv50 ((HD49.out.2.setCell (p := ⟨(W.drew).heap.size, 0, none⟩) hr45_ge (.bool qb47)).setCell (p := ⟨(W.drew).heap.size, 1, none⟩) hr45_ge (.slice qA47 qs47.length qc47)))
          have o50_p := o49.past hr49_5 (hne48) qb47 qA47 qs47.length qc47
          have hr50_99 := hr49_99.farther (q := (W.drew).heap.size) (by have h1 := Nat.le_trans hbase hr45_ge; omega) (.bool qb47) (.slice qA47 qs47.length qc47)
          have hr50_99_lt : (w.heap.size + 2) < ((((((((wq47).alloc (.cells #[.bool false, .slice none 0 0] 31))).setCell ⟨(wq47).heap.size, 0, none⟩ (.bool qb46)).setCell ⟨(wq47).heap.size, 1, none⟩ (.slice qA46 qs46.length qc46))).setCell ⟨(W.drew).heap.size, 0, none⟩ (.bool qb47)).setCell ⟨(W.drew).heap.size, 1, none⟩ (.slice qA47 qs47.length qc47)).heap.size := Nat.lt_of_lt_of_eq hr49_99_lt (size_put _ _ _ _ _).symm
          refine hK _ _ (HD50.out.1.tail.tail.cells) (fun hH50 => ?_)
          clear hK K hH49
          change wpAnyH _ _ _ _ _ _ _ (Act.put _ none _) _
          simp only [Act.put]
          refine wpAnyH_done (by kernel_rfl) ?_ _
          have HF := Lib.hid (And.intro (show (wq47).heap.size ≠ (W.drew).heap.size from (fun e => hne48 e.symm)) (And.intro (Nat.le_trans hbase hr48_ge) (And.intro (Nat.le_trans hbase hr45_ge) (And.intro (show Both ((((((((wq47).alloc (.cells #[.bool false, .slice none 0 0] 31))).setCell ⟨(wq47).heap.size, 0, none⟩ (.bool qb46)).setCell ⟨(wq47).heap.size, 1, none⟩ (.slice qA46 qs46.length qc46))).setCell ⟨(W.drew).heap.size, 0, none⟩ (.bool qb47)).setCell ⟨(W.drew).heap.size, 1, none⟩ (.slice qA47 qs47.length qc47)) (wq47).heap.size (W.drew).heap.size ((x.natAbs : Nat) : Int) ((y.natAbs : Nat) : Int) from ⟨_, _, _, _, _, _, _, _, o50_p, o50⟩) (And.intro hr50_99 (below_then H0.out.1 HD50.out.2))))))
          clear o50_p o50 hr50_99
          generalize ((((((((wq47).alloc (.cells #[.bool false, .slice none 0 0] 31))).setCell ⟨(wq47).heap.size, 0, none⟩ (.bool qb46)).setCell ⟨(wq47).heap.size, 1, none⟩ (.slice qA46 qs46.length qc46))).setCell ⟨(W.drew).heap.size, 0, none⟩ (.bool qb47)).setCell ⟨(W.drew).heap.size, 1, none⟩ (.slice qA47 qs47.length qc47)) = Wz at HF ⊢
          generalize (W.drew).heap.size = q6 at HF ⊢
          generalize (wq47).heap.size = q5 at HF ⊢
          go_wp2
          go_meet
          exact ⟨q5, q6, rfl, rfl, HF.out⟩
        case d50 =>
          have hK := hK0.out
          clear hK0
          rw [if_pos (by kernel_rfl)]
          refine wp_go_val (.pointer (some ⟨(wq46).heap.size, 0, none⟩)) (run_alloc _ _ _ (by kernel_rfl)) ?_
          have HD51 := Lib.hid (And.intro (HD46.out.1.alloc (.cells #[.bool false, .slice none 0 0] 31)) (HD46.out.2.alloc HD46.out.2.size (.cells #[.bool false, .slice none 0 0] 31)))
          have hr51 := Res.new (wq46) 31
          have hr51_lt : (wq46).heap.size < ((wq46).alloc (.cells #[.bool false, .slice none 0 0] 31)).heap.size := Nat.lt_of_lt_of_eq (Nat.lt_succ_self _) (size_alloc _ _).symm
          have hr51_ge := HD46.out.2.size
          have hr51_99 := hr46_99.step ((Below.refl (wq46).heap.size (wq46)).alloc (Nat.le_refl _) (.cells #[.bool false, .slice none 0 0] 31)) rfl hr46_99_lt
          have hr51_99_lt : (w.heap.size + 2) < ((wq46).alloc (.cells #[.bool false, .slice none 0 0] 31)).heap.size := Nat.lt_of_lt_of_eq (Nat.lt_succ_of_lt hr46_99_lt) (size_alloc _ _).symm
          have hr51_5 := hr46_5.step ((Below.refl (wq46).heap.size (wq46)).alloc (Nat.le_refl _) (.cells #[.bool false, .slice none 0 0] 31)) rfl hr46_5_lt
          have hr51_5_lt : (W.drew).heap.size < ((wq46).alloc (.cells #[.bool false, .slice none 0 0] 31)).heap.size := Nat.lt_of_lt_of_eq (Nat.lt_succ_of_lt hr46_5_lt) (size_alloc _ _).symm
          have hne51 := Nat.ne_of_lt hr46_5_lt
          refine hK _ _ (HD51.out.1.tail.cells) (fun hH51 => ?_)
          clear hK K hH46
          change wpAnyH _ _ _ _ _ _ _ (Act.put _ (some 5) _) _
          simp only [Act.put, List.setIfInBounds_toArray, List.set_cons_zero, List.set_cons_succ]
          refine wpAnyH_ready (rs := [3]) (by kernel_rfl) (by simp) ?_
          refine AllReadyH.cons rfl (fun K hK0 => ?d54) (AllReadyH.nil)
          have hK := hK0.out
          clear hK0
          rw [if_pos (by kernel_rfl)]
          refine wp_go_call 37 #[(.agg #[.bool b2, .slice A2 zs2.length c2])] (fun _ => by kernel_rfl) ((RAbs_any _ y _ ((HD51.out.1 1 _ rfl).at_)).mono ?_)
          rintro e wq52 ⟨qv52, rfl, ⟨qb52, qA52, qc52, qs52, rfl, qg52, ql52⟩, hb52⟩
          have HD52 := Lib.hid (And.intro ((HD51.out.1.step hb52 rfl).told qg52 ql52) (below_then HD51.out.2 hb52))
          have hr52_99 := hr51_99.step hb52 rfl hr51_99_lt
          have hr52_99_lt := Nat.lt_of_lt_of_le hr51_99_lt hb52.size
          have hr52_5 := hr51_5.step hb52 rfl hr51_5_lt
          have hr52_5_lt := Nat.lt_of_lt_of_le hr51_5_lt hb52.size
          have hr52_4 := hr51.step hb52 rfl hr51_lt
          have hr52_4_lt := Nat.lt_of_lt_of_le hr51_lt hb52.size
          refine ⟨(.agg #[.bool qb52, .slice qA52 qs52.length qc52]), rfl, hK _ _ (HD52.out.1.tail.tail.cells) (fun hH52 => ?_)⟩
          clear hK K hH51
          change wpAnyH _ _ _ _ _ _ _ (Act.put _ (some 13) _) _
          simp only [Act.put, List.setIfInBounds_toArray, List.set_cons_zero, List.set_cons_succ]
          refine wpAnyH_ready (rs := [6]) (by kernel_rfl) (by simp) ?_
          refine AllReadyH.cons rfl (fun K hK0 => ?d55) (AllReadyH.nil)
          have hK := hK0.out
          clear hK0
          rw [if_pos (by kernel_rfl)]
          refine wp_go_skip (run_store2 hr52_4 qb46 qA46 qs46.length qc46 (.tmp 5) (.tmp 11) (by kernel_rfl) (by kernel_rfl) (by kernel_rfl)) ?_
          have hv53 := Vars.past HD52.out.1 hr52_4 (K := w.heap.size + 3) (by simp) (Nat.le_trans hbase hr51_ge) qb46 qA46 qs46.length qc46
          have o53 := hr52_4.held3 hr52_4_lt (HD52.out.1 1 _ rfl).at_
          have HD53 := Lib.hid (And.intro hv53 ((HD52.out.2.setCell (p := ⟨(wq46).heap.size, 0, none⟩) hr51_ge (.bool qb46)).setCell (p := ⟨(wq46).heap.size, 1, none⟩) hr51_ge (.slice qA46 qs46.length qc46)))
          have hr53_99 := hr52_99.farther (q := (wq46).heap.size) (by have h1 := Nat.le_trans hbase hr51_ge; omega) (.bool qb46) (.slice qA46 qs46.length qc46)
          have hr53_99_lt : (w.heap.size + 2) < (((wq52).setCell ⟨(wq46).heap.size, 0, none⟩ (.bool qb46)).setCell ⟨(wq46).heap.size, 1, none⟩ (.slice qA46 qs46.length qc46)).heap.size := Nat.lt_of_lt_of_eq hr52_99_lt (size_put _ _ _ _ _).symm
          have hr53_5 := hr52_5.farther (q := (wq46).heap.size) (fun e => hne51 e.symm) (.bool qb46) (.slice qA46 qs46.length qc46)
          have hr53_5_lt : (W.drew).heap.size < (((wq52).setCell ⟨(wq46).heap.size, 0, none⟩ (.bool qb46)).setCell ⟨(wq46).heap.size, 1, none⟩ (.slice qA46 qs46.length qc46)).heap.size := Nat.lt_of_lt_of_eq hr52_5_lt (size_put _ _ _ _ _).symm
          refine hK _ _ (HD53.out.1.tail.tail.cells) (fun hH53 => ?_)
          clear hK K hH52
          change wpAnyH _ _ _ _ _ _ _ (Act.put _ none _) _
          simp only [Act.put]
          refine wpAnyH_ready (rs := [7]) (by kernel_rfl) (by simp) ?_
          refine AllReadyH.cons rfl (fun K hK0 => ?d56) (AllReadyH.nil)
          have hK := hK0.out
          clear hK0
          rw [if_pos (by kernel_rfl)]
          refine wp_go_skip (run_store2 hr53_5 qb52 qA52 qs52.length qc52 (.tmp 6) (.tmp 13) (by kernel_rfl) (by kernel_rfl) (by kernel_rfl)) ?_
          have hv54 := Vars.past HD53.out.1 hr53_5 (K := w.heap.size + 3) (by simp) (Nat.le_trans hbase hr45_ge) qb52 qA52 qs52.length qc52
          have o54 := hr53_5.held3 hr53_5_lt (HD53.out.1 0 _ rfl).at_
          have HD54 := Lib.hid (And.intro hv54 ((HD53.out.2.setCell (p := ⟨(W.drew).heap.size, 0, none⟩) hr45_ge (.bool qb52)).setCell (p := ⟨(W.drew).heap.size, 1, none⟩) hr45_ge (.slice qA52 qs52.length qc52)))
          have o54_p := o53.past hr53_5 (hne51) qb52 qA52 qs52.length qc52
          have hr54_99 := hr53_99.farther (q := (W.drew).heap.size) (by have h1 := Nat.le_trans hbase hr45_ge; omega) (.bool qb52) (.slice qA52 qs52.length qc52)
          have hr54_99_lt : (w.heap.size + 2) < ((((((wq52).setCell ⟨(wq46).heap.size, 0, none⟩ (.bool qb46)).setCell ⟨(wq46).heap.size, 1, none⟩ (.slice qA46 qs46.length qc46))).setCell ⟨(W.drew).heap.size, 0, none⟩ (.bool qb52)).setCell ⟨(W.drew).heap.size, 1, none⟩ (.slice qA52 qs52.length qc52)).heap.size := Nat.lt_of_lt_of_eq hr53_99_lt (size_put _ _ _ _ _).symm
          refine hK _ _ (HD54.out.1.tail.tail.cells) (fun hH54 => ?_)
          clear hK K hH53
          change wpAnyH _ _ _ _ _ _ _ (Act.put _ none _) _
          simp only [Act.put]
          refine wpAnyH_done (by kernel_rfl) ?_ _
          have HF := Lib.hid (And.intro (show (wq46).heap.size ≠ (W.drew).heap.size from (fun e => hne51 e.symm)) (And.intro (Nat.le_trans hbase hr51_ge) (And.intro (Nat.le_trans hbase hr45_ge) (And.intro (show Both ((((((wq52).setCell ⟨(wq46).heap.size, 0, none⟩ (.bool qb46)).setCell ⟨(wq46).heap.size, 1, none⟩ (.slice qA46 qs46.length qc46))).setCell ⟨(W.drew).heap.size, 0, none⟩ (.bool qb52)).setCell ⟨(W.drew).heap.size, 1, none⟩ (.slice qA52 qs52.length qc52)) (wq46).heap.size (W.drew).heap.size ((x.natAbs : Nat) : Int) ((y.natAbs : Nat) : Int) from ⟨_, _, _, _, _, _, _, _, o54_p, o54⟩) (And.intro hr54_99 (below_then H0.out.1 HD54.out.2))))))
          clear o54_p o54 hr54_99
          generalize ((((((wq52).setCell ⟨(wq46).heap.size, 0, none⟩ (.bool qb46)).setCell ⟨(wq46).heap.size, 1, none⟩ (.slice qA46 qs46.length qc46))).setCell ⟨(W.drew).heap.size, 0, none⟩ (.bool qb52)).setCell ⟨(W.drew).heap.size, 1, none⟩ (.slice qA52 qs52.length qc52)) = Wz at HF ⊢
          generalize (W.drew).heap.size = q6 at HF ⊢
          generalize (wq46).heap.size = q5 at HF ⊢
          go_wp2
          go_meet
          exact ⟨q5, q6, rfl, rfl, HF.out⟩
      case d48 =>
        have hK := hK0.out
        clear hK0
        rw [if_pos (by kernel_rfl)]
        refine wp_go_val (.pointer (some ⟨(((W.drew).alloc (.cells #[.bool false, .slice none 0 0] 31))).heap.size, 0, none⟩)) (run_alloc _ _ _ (by kernel_rfl)) ?_
        have HD55 := Lib.hid (And.intro (HD45.out.1.alloc (.cells #[.bool false, .slice none 0 0] 31)) (HD45.out.2.alloc HD45.out.2.size (.cells #[.bool false, .slice none 0 0] 31)))
        have hr55 := Res.new (((W.drew).alloc (.cells #[.bool false, .slice none 0 0] 31))) 31
        have hr55_lt : (((W.drew).alloc (.cells #[.bool false, .slice none 0 0] 31))).heap.size < ((((W.drew).alloc (.cells #[.bool false, .slice none 0 0] 31))).alloc (.cells #[.bool false, .slice none 0 0] 31)).heap.size := Nat.lt_of_lt_of_eq (Nat.lt_succ_self _) (size_alloc _ _).symm
        have hr55_ge := HD45.out.2.size
        have hr55_99 := hr45_99.step ((Below.refl (((W.drew).alloc (.cells #[.bool false, .slice none 0 0] 31))).heap.size (((W.drew).alloc (.cells #[.bool false, .slice none 0 0] 31)))).alloc (Nat.le_refl _) (.cells #[.bool false, .slice none 0 0] 31)) rfl hr45_99_lt
        have hr55_99_lt : (w.heap.size + 2) < ((((W.drew).alloc (.cells #[.bool false, .slice none 0 0] 31))).alloc (.cells #[.bool false, .slice none 0 0] 31)).heap.size := Nat.lt_of_lt_of_eq (Nat.lt_succ_of_lt hr45_99_lt) (size_alloc _ _).symm
        have hr55_5 := hr45.step ((Below.refl (((W.drew).alloc (.cells #[.bool false, .slice none 0 0] 31))).heap.size (((W.drew).alloc (.cells #[.bool false, .slice none 0 0] 31)))).alloc (Nat.le_refl _) (.cells #[.bool false, .slice none 0 0] 31)) rfl hr45_lt
        have hr55_5_lt : (W.drew).heap.size < ((((W.drew).alloc (.cells #[.bool false, .slice none 0 0] 31))).alloc (.cells #[.bool false, .slice none 0 0] 31)).heap.size := Nat.lt_of_lt_of_eq (Nat.lt_succ_of_lt hr45_lt) (size_alloc _ _).symm
        have hne55 := Nat.ne_of_lt hr45_lt
        refine hK _ _ (HD55.out.1.cells) (fun hH55 => ?_)
        clear hK K hH45
        change wpAnyH _ _ _ _ _ _ _ (Act.put _ (some 5) _) _
        simp only [Act.put, List.setIfInBounds_toArray, List.set_cons_zero, List.set_cons_succ]
        refine wpAnyH_ready (rs := [1]) (by kernel_rfl) (by simp) ?_
        refine AllReadyH.cons rfl (fun K hK0 => ?d57) (AllReadyH.nil)
        have hK := hK0.out
        clear hK0
        rw [if_pos (by kernel_rfl)]
        refine wp_go_call 37 #[(.agg #[.bool b1, .slice A1 zs1.length c1])] (fun _ => by kernel_rfl) ((RAbs_any _ x _ ((HD55.out.1 1 _ rfl).at_)).mono ?_)
        rintro e wq56 ⟨qv56, rfl, ⟨qb56, qA56, qc56, qs56, rfl, qg56, ql56⟩, hb56⟩
        have HD56 := Lib.hid (And.intro ((HD55.out.1.step hb56 rfl).told qg56 ql56) (below_then HD55.out.2 hb56))
        have hr56_99 := hr55_99.step hb56 rfl hr55_99_lt
        have hr56_99_lt := Nat.lt_of_lt_of_le hr55_99_lt hb56.size
        have hr56_5 := hr55_5.step hb56 rfl hr55_5_lt
        have hr56_5_lt := Nat.lt_of_lt_of_le hr55_5_lt hb56.size
        have hr56_4 := hr55.step hb56 rfl hr55_lt
        have hr56_4_lt := Nat.lt_of_lt_of_le hr55_lt hb56.size
        refine ⟨(.agg #[.bool qb56, .slice qA56 qs56.length qc56]), rfl, hK _ _ (HD56.out.1.tail.cells) (fun hH56 => ?_)⟩
        clear hK K hH55
        change wpAnyH _ _ _ _ _ _ _ (Act.put _ (some 11) _) _
        simp only [Act.put, List.setIfInBounds_toArray, List.set_cons_zero, List.set_cons_succ]
        refine wpAnyH_ready (rs := [3]) (by kernel_rfl) (by simp) ?_
        refine AllReadyH.cons rfl (fun K hK0 => ?d58) (AllReadyH.nil)
        have hK := hK0.out
        clear hK0
        rw [if_pos (by kernel_rfl)]
        refine wp_go_call 37 #[(.agg #[.bool b2, .slice A2 zs2.length c2])] (fun _ => by kernel_rfl) ((RAbs_any _ y _ ((HD56.out.1 1 _ rfl).at_)).mono ?_)
        rintro e wq57 ⟨qv57, rfl, ⟨qb57, qA57, qc57, qs57, rfl, qg57, ql57⟩, hb57⟩
        have HD57 := Lib.hid (And.intro ((HD56.out.1.step hb57 rfl).told qg57 ql57) (below_then HD56.out.2 hb57))
        have hr57_99 := hr56_99.step hb57 rfl hr56_99_lt
        have hr57_99_lt := Nat.lt_of_lt_of_le hr56_99_lt hb57.size
        have hr57_5 := hr56_5.step hb57 rfl hr56_5_lt
        have hr57_5_lt := Nat.lt_of_lt_of_le hr56_5_lt hb57.size
        have hr57_4 := hr56_4.step hb57 rfl hr56_4_lt
        have hr57_4_lt := Nat.lt_of_lt_of_le hr56_4_lt hb57.size
        refine ⟨(.agg #[.bool qb57, .slice qA57 qs57.length qc57]), rfl, hK _ _ (HD57.out.1.tail.tail.cells) (fun hH57 => ?_)⟩
        clear hK K hH56
        change wpAnyH _ _ _ _ _ _ _ (Act.put _ (some 13) _) _
        simp only [Act.put, List.setIfInBounds_toArray, List.set_cons_zero, List.set_cons_succ]
        refine wpAnyH_ready (rs := [6]) (by kernel_rfl) (by simp) ?_
        refine AllReadyH.cons rfl (fun K hK0 => ?d59) (AllReadyH.nil)
        have hK := hK0.out
        clear hK0
        rw [if_pos (by kernel_rfl)]
        refine wp_go_skip (run_store2 hr57_4 qb56 qA56 qs56.length qc56 (.tmp 5) (.tmp 11) (by kernel_rfl) (by kernel_rfl) (by kernel_rfl)) ?_
        have hv58 := Vars.past HD57.out.1 hr57_4 (K := w.heap.size + 3) (by simp) (Nat.le_trans hbase hr55_ge) qb56 qA56 qs56.length qc56
        have o58 := hr57_4.held3 hr57_4_lt (HD57.out.1 1 _ rfl).at_
        have HD58 := Lib.hid (And.intro hv58 ((HD57.out.2.setCell (p := ⟨(((W.drew).alloc (.cells #[.bool false, .slice none 0 0] 31))).heap.size, 0, none⟩) hr55_ge (.bool qb56)).setCell (p := ⟨(((W.drew).alloc (.cells #[.bool false, .slice none 0 0] 31))).heap.size, 1, none⟩) hr55_ge (.slice qA56 qs56.length qc56)))
        have hr58_99 := hr57_99.farther (q := (((W.drew).alloc (.cells #[.bool false, .slice none 0 0] 31))).heap.size) (by have h1 := Nat.le_trans hbase hr55_ge; omega) (.bool qb56) (.slice qA56 qs56.length qc56)
        have hr58_99_lt : (w.heap.size + 2) < (((wq57).setCell ⟨(((W.drew).alloc (.cells #[.bool false, .slice none 0 0] 31))).heap.size, 0, none⟩ (.bool qb56)).setCell ⟨(((W.drew).alloc (.cells #[.bool false, .slice none 0 0] 31))).heap.size, 1, none⟩ (.slice qA56 qs56.length qc56)).heap.size := Nat.lt_of_lt_of_eq hr57_99_lt (size_put _ _ _ _ _).symm
        have hr58_5 := hr57_5.farther (q := (((W.drew).alloc (.cells #[.bool false, .slice none 0 0] 31))).heap.size) (fun e => hne55 e.symm) (.bool qb56) (.slice qA56 qs56.length qc56)
        have hr58_5_lt : (W.drew).heap.size < (((wq57).setCell ⟨(((W.drew).alloc (.cells #[.bool false, .slice none 0 0] 31))).heap.size, 0, none⟩ (.bool qb56)).setCell ⟨(((W.drew).alloc (.cells #[.bool false, .slice none 0 0] 31))).heap.size, 1, none⟩ (.slice qA56 qs56.length qc56)).heap.size := Nat.lt_of_lt_of_eq hr57_5_lt (size_put _ _ _ _ _).symm
        refine hK _ _ (HD58.out.1.tail.tail.cells) (fun hH58 => ?_)
        clear hK K hH57
        change wpAnyH _ _ _ _ _ _ _ (Act.put _ none _) _
        simp only [Act.put]
        refine wpAnyH_ready (rs := [7]) (by kernel_rfl) (by simp) ?_
        refine AllReadyH.cons rfl (fun K hK0 => ?d60) (AllReadyH.nil)
        have hK := hK0.out
        clear hK0
        rw [if_pos (by kernel_rfl)]
        refine wp_go_skip (run_store2 hr58_5 qb57 qA57 qs57.length qc57 (.tmp 6) (.tmp 13) (by kernel_rfl) (by kernel_rfl) (by kernel_rfl)) ?_
        have hv59 := Vars.past HD58.out.1 hr58_5 (K := w.heap.size + 3) (by simp) (Nat.le_trans hbase hr45_ge) qb57 qA57 qs57.length qc57
        have o59 := hr58_5.held3 hr58_5_lt (HD58.out.1 0 _ rfl).at_
        have HD59 := Lib.hid (And.intro hv59 ((HD58.out.2.setCell (p := ⟨(W.drew).heap.size, 0, none⟩) hr45_ge (.bool qb57)).setCell (p := ⟨(W.drew).heap.size, 1, none⟩) hr45_ge (.slice qA57 qs57.length qc57)))
        have o59_p := o58.past hr58_5 (hne55) qb57 qA57 qs57.length qc57
        have hr59_99 := hr58_99.farther (q := (W.drew).heap.size) (by have h1 := Nat.le_trans hbase hr45_ge; omega) (.bool qb57) (.slice qA57 qs57.length qc57)
        have hr59_99_lt : (w.heap.size + 2) < ((((((wq57).setCell ⟨(((W.drew).alloc (.cells #[.bool false, .slice none 0 0] 31))).heap.size, 0, none⟩ (.bool qb56)).setCell ⟨(((W.drew).alloc (.cells #[.bool false, .slice none 0 0] 31))).heap.size, 1, none⟩ (.slice qA56 qs56.length qc56))).setCell ⟨(W.drew).heap.size, 0, none⟩ (.bool qb57)).setCell ⟨(W.drew).heap.size, 1, none⟩ (.slice qA57 qs57.length qc57)).heap.size := Nat.lt_of_lt_of_eq hr58_99_lt (size_put _ _ _ _ _).symm
        refine hK _ _ (HD59.out.1.tail.tail.cells) (fun hH59 => ?_)
        clear hK K hH58
        change wpAnyH _ _ _ _ _ _ _ (Act.put _ none _) _
        simp only [Act.put]
        refine wpAnyH_done (by kernel_rfl) ?_ _
        have HF := Lib.hid (And.intro (show (((W.drew).alloc (.cells #[.bool false, .slice none 0 0] 31))).heap.size ≠ (W.drew).heap.size from (fun e => hne55 e.symm)) (And.intro (Nat.le_trans hbase hr55_ge) (And.intro (Nat.le_trans hbase hr45_ge) (And.intro (show Both ((((((wq57).setCell ⟨(((W.drew).alloc (.cells #[.bool false, .slice none 0 0] 31))).heap.size, 0, none⟩ (.bool qb56)).setCell ⟨(((W.drew).alloc (.cells #[.bool false, .slice none 0 0] 31))).heap.size, 1, none⟩ (.slice qA56 qs56.length qc56))).setCell ⟨(W.drew).heap.size, 0, none⟩ (.bool qb57)).setCell ⟨(W.drew).heap.size, 1, none⟩ (.slice qA57 qs57.length qc57)) (((W.drew).alloc (.cells #[.bool false, .slice none 0 0] 31))).heap.size (W.drew).heap.size ((x.natAbs : Nat) : Int) ((y.natAbs : Nat) : Int) from ⟨_, _, _, _, _, _, _, _, o59_p, o59⟩) (And.intro hr59_99 (below_then H0.out.1 HD59.out.2))))))
        clear o59_p o59 hr59_99
        generalize ((((((wq57).setCell ⟨(((W.drew).alloc (.cells #[.bool false, .slice none 0 0] 31))).heap.size, 0, none⟩ (.bool qb56)).setCell ⟨(((W.drew).alloc (.cells #[.bool false, .slice none 0 0] 31))).heap.size, 1, none⟩ (.slice qA56 qs56.length qc56))).setCell ⟨(W.drew).heap.size, 0, none⟩ (.bool qb57)).setCell ⟨(W.drew).heap.size, 1, none⟩ (.slice qA57 qs57.length qc57)) = Wz at HF ⊢
        generalize (W.drew).heap.size = q6 at HF ⊢
        generalize (((W.drew).alloc (.cells #[.bool false, .slice none 0 0] 31))).heap.size = q5 at HF ⊢
        go_wp2
        go_meet
        exact ⟨q5, q6, rfl, rfl, HF.out⟩
  case rest =>
    obtain ⟨r5, r6, rfl, rfl, hne, hg5, hg6, hbo, hres, hbw⟩ := hcut
    have HS := Lib.hid (And.intro hbo (And.intro hres hbw))
    clear hbo hbw HC hres hres_lt hbase
    go_wp2_with fail
    go_loopg [] y.natAbs (fun k wr => ∃ a : Nat, Both wr r5 r6 (a : Int) (k : Int) ∧ a < BD ^ m ∧ k < BD ^ m ∧ Nat.gcd a k = Int.gcd x y ∧ Res wr (w.heap.size + 2) ∧ Below w.heap.size w wr)
    case atStart => exact ⟨x.natAbs, HS.out.1, H0.out.2.1, H0.out.2.2, rfl, HS.out.2.1, HS.out.2.2⟩
    case round =>
      obtain ⟨a, ⟨b5, A5, n5, c5, b6, A6, n6, c6, o5, o6⟩, hfa, hfk, hgc, hres, hbw⟩ := hrel
      have hrs : w.heap.size + 2 < wr.heap.size := by have := o5.lt; omega
      rcases Nat.eq_zero_or_pos gk with hk0 | hk0
      · subst hk0
        have HN := Lib.hid (rsign_is (.agg #[.bool b6, .slice A6 n6 c6]) ((0 : Nat) : Int) 0 m wr o6.at_ (by omega) (by unfold FitD; simpa using hfk) rfl)
        have HP := Lib.hid (And.intro o5 (And.intro hres (And.intro hbw (And.intro hgc hrs))))
        obtain ⟨p60, p61⟩ := id o6.two
        clear o5 o6 hres hbw hgc hrs hfa hfk
        go_wp2_with fail
        refine HN.out.mono ?_
        rintro e w1 ⟨rfl, hb1⟩
        have q5 := HP.out.1.step hb1 rfl
        have r4 := HP.out.2.1.step hb1 rfl HP.out.2.2.2.2
        have HQ := Lib.hid (And.intro q5 (And.intro r4 (below_then HP.out.2.2.1 hb1)))
        obtain ⟨p50, p51⟩ := id q5.two
        obtain ⟨⟨hr0, hr1⟩, hf0, hf1⟩ := id r4
        clear p60 p61 q5 r4 hb1
        go_wp2
        have q := HQ.out.2.1.1.stored (.bool b5) (.slice A5 n5 c5)
        obtain ⟨s0, s1⟩ := id q
        refine bodyPost_ret (v := .agg #[.bool b5, .slice A5 n5 c5]) (by simp [results, Try.results45, go_sem, s0, s1]) rfl ?_
        have hle : w.heap.size ≤ w.heap.size + 2 := by omega
        refine ⟨_, rfl, RefAt.past (by rw [← HP.out.2.2.2.1, Nat.gcd_zero_right]; exact HQ.out.1.at_) HQ.out.2.1.1 _ _, (HQ.out.2.2.setCell (p := ⟨w.heap.size + 2, 0, none⟩) hle _).setCell (p := ⟨w.heap.size + 2, 1, none⟩) hle _⟩
      · have hks : ((gk : Nat) : Int).sign = 1 := Int.sign_eq_one_of_pos (by omega)
        have HN := Lib.hid (rsign_is (.agg #[.bool b6, .slice A6 n6 c6]) (gk : Int) 1 m wr o6.at_ (by omega) (by unfold FitD; simpa using hfk) hks)
        have HP := Lib.hid (And.intro o5 (And.intro o6 (And.intro hres (And.intro hbw (And.intro hgc (And.intro hrs (And.intro hfa hfk)))))))
        obtain ⟨p60, p61⟩ := id o6.two
        clear o5 o6 hres hbw hgc hrs hfa hfk hks
        go_wp2_with fail
        refine HN.out.mono ?_
        rintro e w1 ⟨rfl, hb1⟩
        have q5 := HP.out.1.step hb1 rfl
        have q6 := HP.out.2.1.step hb1 rfl
        have r4 := HP.out.2.2.1.step hb1 rfl HP.out.2.2.2.2.2.1
        have HD := Lib.hid (rdivide_some _ _ (a : Int) (gk : Int) m w1 q5.at_ q6.at_ (by omega) (by simpa using HP.out.2.2.2.2.2.2.1) (by simpa using HP.out.2.2.2.2.2.2.2) (by omega))
        have HQ := Lib.hid (And.intro q5 (And.intro q6 (And.intro r4 (And.intro (below_then HP.out.2.2.2.1 hb1) (Nat.lt_of_lt_of_le HP.out.2.2.2.2.2.1 hb1.size)))))
        clear p60 p61
        obtain ⟨p50, p51⟩ := id q5.two
        obtain ⟨p60, p61⟩ := id q6.two
        clear q5 q6 r4 hb1
        go_wp2_with fail
        refine HD.out.mono ?_
        rintro e w2 ⟨v1, v2, rfl, ⟨bq, Aq, cq, zq, rfl, sq, dq⟩, ⟨br, Ar, cr, zr, rfl, sr, dr⟩, hb2⟩
        have hrat : RefAt w2 (.agg #[.bool br, .slice Ar zr.length cr]) (((a % gk : Nat)) : Int) := by
          have h : RefAt w2 (.agg #[.bool br, .slice Ar zr.length cr]) ((a : Int).tmod (gk : Int)) := ⟨br, Ar, cr, zr, rfl, sr, dr⟩
          rw [Int.tmod_eq_emod_of_nonneg (by omega), ← Int.natCast_emod] at h
          exact h
        obtain ⟨W1, hW1⟩ : ∃ X : World, X = (w2.alloc (.cells #[.bool bq, .slice Aq zq.length cq] 31)).alloc (.cells #[.bool br, .slice Ar zr.length cr] 31) := ⟨_, rfl⟩
        obtain ⟨r8, hr8⟩ : ∃ r : Nat, r = w2.heap.size + 1 := ⟨_, rfl⟩
        have hal1 : Below w2.heap.size w2 (w2.alloc (.cells #[.bool bq, .slice Aq zq.length cq] 31)) := (Below.refl _ _).alloc (Nat.le_refl _) _
        have hal : Below w2.heap.size w2 W1 := by rw [hW1]; exact hal1.alloc (by rw [size_alloc]; omega) _
        have o8 : Held3 W1 r8 br Ar zr.length cr (((a % gk : Nat)) : Int) := by
          have h := Held3.new (hrat.step hal1 rfl)
          rw [size_alloc] at h
          rw [hW1, hr8]
          exact h
        have o5 := (HQ.out.1.step hb2 rfl).step hal rfl
        have o6 := (HQ.out.2.1.step hb2 rfl).step hal rfl
        have r4 := (HQ.out.2.2.1.step hb2 rfl HQ.out.2.2.2.2).step hal rfl (Nat.lt_of_lt_of_le HQ.out.2.2.2.2 hb2.size)
        have hbw := below_then (below_then HQ.out.2.2.2.1 hb2) hal
        have hne5 : r8 ≠ r5 := by have h1 := HQ.out.1.lt; have h2 := hb2.size; omega
        have hne6 : r8 ≠ r6 := by have h1 := HQ.out.2.1.lt; have h2 := hb2.size; omega
        have HW := Lib.hid (And.intro hW1 hr8)
        have HO := Lib.hid (And.intro o5 (And.intro o6 (And.intro o8 (And.intro r4 hbw))))
        clear p50 p51 p60 p61
        clear hW1 hr8 hal1 hal hrat sq dq sr dr hb2 r4 hbw
        go_upto_region 4 with fail
        rw [← HW.out.1, ← HW.out.2]
        obtain ⟨p50, p51⟩ := id o5.two
        obtain ⟨p60, p61⟩ := id o6.two
        obtain ⟨p80, p81⟩ := id o8.two
        obtain ⟨f50, f51⟩ := id o5.fz
        obtain ⟨f60, f61⟩ := id o6.fz
        clear o5 o6 o8 HW
        go_region
        have e5 := HO.out.1.over HO.out.2.1.at_
        have e6 := HO.out.2.1.past3 HO.out.1.two hne b6 A6 n6 c6
        have e8 := RefAt.past HO.out.2.2.1.at_ HO.out.1.two (.bool b6) (.slice A6 n6 c6)
        have k6 := e6.over e8
        have k5 := e5.past3 e6.two (fun e => hne e.symm) br Ar zr.length cr
        have kr := (HO.out.2.2.2.1.farther (q := r5) (by omega) (.bool b6) (.slice A6 n6 c6)).farther (q := r6) (by omega) (.bool br) (.slice Ar zr.length cr)
        have l5 : w.heap.size ≤ r5 := by omega
        have l6 : w.heap.size ≤ r6 := by omega
        have hb4 := (((HO.out.2.2.2.2.setCell (p := ⟨r5, 0, none⟩) l5 (.bool b6)).setCell (p := ⟨r5, 1, none⟩) l5 (.slice A6 n6 c6)).setCell (p := ⟨r6, 0, none⟩) l6 (.bool br)).setCell (p := ⟨r6, 1, none⟩) l6 (.slice Ar zr.length cr)
        have hmod := Nat.mod_lt a hk0
        go_wp2
        go_roundg (a % gk)
        case rel => exact ⟨gk, ⟨_, _, _, _, _, _, _, _, k5.step (Below.refl _ _).drew rfl, k6.step (Below.refl _ _).drew rfl⟩, HP.out.2.2.2.2.2.2.2, Nat.lt_trans hmod HP.out.2.2.2.2.2.2.2, (gcd_tmod a gk).trans HP.out.2.2.2.2.1, kr, hb4.drew⟩
        case measure => exact hmod
end Go.Proofs.Ytagocllbfbbneaa.RK
