/- What Power of the reference does, with an absolute value above 1. -/
import Derived.Test.YtllkajlmfbikhaaRAbs
import Derived.Test.YtllkajlmfbikhaaRLen
namespace Go.Proofs.Ytllkajlmfbikhaa
open Go.RowKit
set_option linter.unusedSimpArgs false

/-- An integer of the reference and an error code. -/
def IsRE (w w' : World) (z k : Int) (e : Ending) : Prop := ∃ v, e = .returned (.tuple #[v, .int .i64 k]) ∧ RefAt w' v z ∧ Below w.heap.size w w'
theorem refE_stored {w w2 : World} {r : Nat} {s : Bool} {A : Option Addr} {c : Nat} {zs : List Nat} {z k : Int} (hk : Res w2 r) (hs : SignOf s z) (hl : Digs w2 A c zs z.natAbs) (hb : Below w.heap.size w w2) (hr : w.heap.size ≤ r) :
    IsRE w ((w2.setCell ⟨r, 0, none⟩ (.bool s)).setCell ⟨r, 1, none⟩ (.slice A zs.length c)) z k (.returned (.tuple #[.agg #[.bool s, .slice A zs.length c], .int .i64 k])) := by
  obtain ⟨v5, he5, hi5, hb5⟩ := ref_stored hk hs hl hb hr
  injection he5 with he5
  subst he5
  exact ⟨_, rfl, hi5, hb5⟩
theorem bd_bl {x K M : Nat} (h : bl x ≤ K) (hM : K ≤ 16 * M) : x < BD ^ M := by
  rw [show BD = 2 ^ 16 from rfl, ← Nat.pow_mul]
  exact Nat.lt_of_lt_of_le (bl_le.1 h) (Nat.pow_le_pow_right (by decide) hM)
theorem bl_up {x y : Nat} (h : x ≤ y) : bl x ≤ bl y := bl_le.2 (Nat.lt_of_le_of_lt h (bl_le.1 (Nat.le_refl _)))
/-- A variable with a value that may be written again. -/
structure Held2 (w : World) (r : Nat) (b : Bool) (A : Option Addr) (c : Nat) (ds : List Nat) (z : Int) : Prop where
  two : Two w r (.bool b) (.slice A ds.length c)
  fz : w.frozen? ⟨r, 0, none⟩ = false ∧ w.frozen? ⟨r, 1, none⟩ = false
  lt : r < w.heap.size
  sg : SignOf b z
  dg : Digs w A c ds z.natAbs
theorem Held2.step {W0 W w1 : World} {r : Nat} {b : Bool} {A : Option Addr} {c : Nat} {ds : List Nat} {z : Int} (h : Held2 W0 r b A c ds z) (hb : Below W.heap.size W w1) (hh : W.heap = W0.heap) : Held2 w1 r b A c ds z := by
  have e : ∀ p, W.frozen? p = W0.frozen? p := fun p => by simp [World.frozen?, hh]
  have hl : r < W.heap.size := by rw [hh]; exact h.lt
  exact ⟨h.two.step hb hh h.lt, ⟨((hb.frozen (p := ⟨r, 0, none⟩) hl).trans (e _)).trans h.fz.1, ((hb.frozen (p := ⟨r, 1, none⟩) hl).trans (e _)).trans h.fz.2⟩, Nat.lt_of_lt_of_le hl hb.size, h.sg, h.dg.step hb hh⟩
theorem Held2.at_ {w : World} {r : Nat} {b : Bool} {A : Option Addr} {c : Nat} {ds : List Nat} {z : Int} (h : Held2 w r b A c ds z) : RefAt w (.agg #[.bool b, .slice A ds.length c]) z := ⟨b, A, c, ds, rfl, h.sg, h.dg⟩
theorem Held2.new {w : World} {b : Bool} {A : Option Addr} {c : Nat} {ds : List Nat} {z : Int} (hs : SignOf b z) (hd : Digs w A c ds z.natAbs) : Held2 (w.alloc (.cells #[.bool b, .slice A ds.length c] 31)) w.heap.size b A c ds z := by
  refine ⟨Two.new w _ _ _, ?_, by simp, hs, hd.below ((Below.refl _ _).alloc (Nat.le_refl _) _)⟩
  constructor <;> go_simp

theorem mag_big2 {z : Int} {K : Nat} (h : 2 ^ (K + 1) ≤ z.natAbs) : K < bl (magOf z) := by
  rcases Nat.lt_or_ge K (bl (magOf z)) with hlt | hge
  · exact hlt
  · have h1 := bl_le.1 hge
    rw [Nat.pow_succ] at h
    have h2 : z.natAbs - 1 ≤ magOf z := by unfold magOf; split <;> omega
    have h3 : 0 < 2 ^ K := Nat.pow_pos (by decide)
    omega
theorem grow_big {z : Int} {i n K : Nat} (h2 : 1 < z.natAbs) (hi : i ≤ n) (hl : K + 1 < bl (z ^ i).natAbs) : K < bl (magOf (z ^ n)) := by
  refine mag_big2 ?_
  rcases Nat.lt_or_ge (z ^ n).natAbs (2 ^ (K + 1)) with hlt | hge
  · exfalso
    have h3 := bl_le.2 hlt
    have h4 : (z ^ i).natAbs ≤ (z ^ n).natAbs := by rw [Int.natAbs_pow, Int.natAbs_pow]; exact Nat.pow_le_pow_right (by omega) hi
    have h5 := bl_up h4
    omega
  · exact hge
theorem frz_set (w : World) (p q : Addr) (u : Value) : (w.setCell p u).frozen? q = w.frozen? q := by
  go_simp
theorem Nums.over2 {w : World} {k : IntKind} {A : Option Addr} {xs : List Nat} (h : Nums w k A xs) {r : Nat} {b : Bool} {B : Option Addr} {n c : Nat} (t : Two w r (.bool b) (.slice B n c)) (u v : Value) : Nums ((w.setCell ⟨r, 0, none⟩ u).setCell ⟨r, 1, none⟩ v) k A xs := by
  refine (h.store t.1 (fun n e => by cases e) _).store (u := .slice B n c) ?_ (fun n e => by cases e) _
  rw [World.cell?_setCell_other _ _ _ _ (by simp)]
  exact t.2
theorem Digs.over2 {w : World} {A : Option Addr} {c n : Nat} {ds : List Nat} (h : Digs w A c ds n) {r : Nat} {b : Bool} {B : Option Addr} {m c' : Nat} (t : Two w r (.bool b) (.slice B m c')) (u v : Value) : Digs ((w.setCell ⟨r, 0, none⟩ u).setCell ⟨r, 1, none⟩ v) A c ds n :=
  ⟨h.1, h.2.1.over2 t u v, h.2.2⟩
theorem Held2.over {w : World} {r : Nat} {b b' : Bool} {A A' : Option Addr} {c c' : Nat} {ds ds' : List Nat} {z z' : Int} (h : Held2 w r b A c ds z) (hs : SignOf b' z') (hd : Digs w A' c' ds' z'.natAbs) :
    Held2 ((w.setCell ⟨r, 0, none⟩ (.bool b')).setCell ⟨r, 1, none⟩ (.slice A' ds'.length c')) r b' A' c' ds' z' :=
  ⟨h.two.stored _ _, ⟨by rw [frz_set, frz_set]; exact h.fz.1, by rw [frz_set, frz_set]; exact h.fz.2⟩, by simpa [World.setCell] using h.lt, hs, hd.over2 h.two _ _⟩
theorem Res.farther {w : World} {r q : Nat} (t : Res w r) (hne : q ≠ r) (u v : Value) : Res ((w.setCell ⟨q, 0, none⟩ u).setCell ⟨q, 1, none⟩ v) r :=
  ⟨t.1.far hne u v, by rw [frz_set, frz_set]; exact t.2.1, by rw [frz_set, frz_set]; exact t.2.2⟩

set_option maxRecDepth 100000 in
set_option maxHeartbeats 2000000 in
theorem rpower_main (v : Value) (z a er : Int) (n k M : Nat) (w : World) (h : RefAt w v z) (h2 : 1 < z.natAbs) (hk : k ≤ 300000) (hz : z.natAbs < BD ^ k) (hn : n ≤ 1000000) (hM : 65537 ≤ 16 * M) (hM2 : M ≤ 4097)
    (hans : (bl (magOf (z ^ n)) ≤ 65536 → z ^ n = a ∧ 0 = er) ∧ (65536 < bl (magOf (z ^ n)) → 0 = a ∧ 14 = er)) :
    Calls Try.prog 47 #[v, .int .i64 (n : Int)] w fun e w' => IsRE w w' a er e := by
  have HANS := Lib.hid hans
  clear hans
  obtain ⟨b, A, c, ds, rfl, hs, hd⟩ := h
  have hb0 := begun1_below w (.bool b) (.slice A ds.length c) 31
  have hT := begun1_x w (.bool b) (.slice A ds.length c) 31
  have hR := begun1_r w (.bool b) (.slice A ds.length c) 31
  have hsz := begun1_size w (.bool b) (.slice A ds.length c) 31
  obtain ⟨W, hW⟩ : ∃ W, begun1 w (.bool b) (.slice A ds.length c) 31 = W := ⟨_, rfl⟩
  rw [hW] at hb0 hT hR hsz
  unfold begun1 at hW
  have H := Lib.hid (And.intro hb0 (And.intro hR (And.intro hW (And.intro hT (And.intro hs (And.intro (hd.below hb0) (And.intro h2 (And.intro hz (RNew_pos 1 W (by decide))))))))))
  have hn0 : (0 : Int) ≤ (n : Int) := Int.natCast_nonneg _
  have hs2 : w.heap.size + 2 ≤ W.heap.size := by omega
  clear hb0 hT hR hW hs hd hsz h2 hz
  go_enter Try.func47, Try.ntmps47
  go_upto_region 1 with fail
  rw [H.out.2.2.1]
  go_wp2_with fail
  refine H.out.2.2.2.2.2.2.2.2.mono ?_
  rintro e w1 ⟨v1, rfl, ⟨b1, A1, c1, ds1, rfl, hs1, hd1⟩, hb1⟩
  have hal : Below w1.heap.size w1 (w1.alloc (.cells #[.bool b1, .slice A1 ds1.length c1] 31)) := (Below.refl _ _).alloc (Nat.le_refl _) _
  have ho := Held2.new hs1 hd1
  have k1 := (H.out.2.2.2.1.step hb1 rfl (by omega)).step hal rfl (by have := hb1.size; omega)
  have r1 := (H.out.2.1.step hb1 rfl (by omega)).step hal rfl (by have := hb1.size; omega)
  have d1 := (H.out.2.2.2.2.2.1.below hb1).below hal
  have b1' := below_then (below_then H.out.1 hb1) hal
  have hz1 : w.heap.size + 2 ≤ w1.heap.size := Nat.le_trans hs2 hb1.size
  obtain ⟨W1, hW1⟩ : ∃ X : World, X = w1.alloc (.cells #[.bool b1, .slice A1 ds1.length c1] 31) := ⟨_, rfl⟩
  obtain ⟨ro, hro⟩ : ∃ r : Nat, r = w1.heap.size := ⟨_, rfl⟩
  rw [← hW1] at ho k1 r1 d1 b1'
  rw [← hro] at ho hz1
  have HO := Lib.hid (And.intro ho (And.intro k1 (And.intro r1 (And.intro d1 b1'))))
  have HW1 := Lib.hid (And.intro hW1 hro)
  clear hal ho k1 r1 d1 b1' hW1 hro hs1 hd1 hb1
  go_upto_region 4 with fail
  rw [← HW1.out.1, ← HW1.out.2]
  clear HW1
  obtain ⟨px0, px1⟩ := id HO.out.2.1
  have hwd := Rwidth_any _ z k W1 ⟨b, A, c, ds, rfl, H.out.2.2.2.2.1, HO.out.2.2.2.1⟩ (by omega) H.out.2.2.2.2.2.2.2.1
  have hbl2 : 2 ≤ bl z.natAbs := by
    rcases Nat.lt_or_ge (bl z.natAbs) 2 with hlt | hge
    · have := bl_le.1 (show bl z.natAbs ≤ 1 by omega); have := H.out.2.2.2.2.2.2.1; omega
    · exact hge
  obtain ⟨bz, hbz⟩ : ∃ x, bl z.natAbs = x := ⟨_, rfl⟩
  rw [hbz] at hwd hbl2
  have HWD := Lib.hid hwd
  clear hwd hbz
  have hbzI : (2 : Int) ≤ (bz : Int) := by omega
  go_wp2_with fail
  refine HWD.out.mono ?_
  rintro e w2 ⟨rfl, hb2⟩
  have HP := Lib.hid (And.intro (HO.out.1.step hb2 rfl) (And.intro (HO.out.2.1.step hb2 rfl (by have := HO.out.1.lt; omega)) (And.intro (HO.out.2.2.1.step hb2 rfl (by have := HO.out.1.lt; omega)) (And.intro (HO.out.2.2.2.1.below hb2) (below_then HO.out.2.2.2.2 hb2)))))
  clear HO HWD px0 px1 hb2
  go_wp2_with fail
  go_loopw [7] (fun iv wr => ∃ (i : Nat) (bo : Bool) (Ao : Option Addr) (co : Nat) (dso : List Nat), iv = .int .i64 i ∧ i ≤ n ∧ bl (z ^ i).natAbs ≤ 65537 ∧ Held2 wr ro bo Ao co dso (z ^ i) ∧ Two wr w.heap.size (.bool b) (.slice A ds.length c) ∧ Res wr (w.heap.size + 1) ∧ Digs wr A c ds z.natAbs ∧ Below w.heap.size w wr) (fun iv _ => n - (intOf iv).toNat)
  case atStart => exact ⟨0, b1, A1, c1, ds1, rfl, Nat.zero_le _, by rw [Int.pow_zero]; decide, by rw [Int.pow_zero]; exact HP.out.1, HP.out.2.1, HP.out.2.2.1, HP.out.2.2.2.1, HP.out.2.2.2.2⟩
  case round =>
    clear HP
    obtain ⟨i, bo, Ao, co, dso, rfl, hi, hbi, ho, hx, hr, hdx, hbw⟩ := hrel
    by_cases hin : i < n
    · have hmul := RMul_any _ _ (z ^ i) z M k wr ho.at_ ⟨b, A, c, ds, rfl, H.out.2.2.2.2.1, hdx⟩ (by omega) (bd_bl hbi hM) (by omega) H.out.2.2.2.2.2.2.2.1
      rw [← Int.pow_succ] at hmul
      have HM := Lib.hid (And.intro hmul (And.intro ho (And.intro hx (And.intro hr (And.intro hdx (And.intro hbw hbi))))))
      obtain ⟨po0, po1⟩ := id ho.two
      obtain ⟨px0, px1⟩ := id hx
      clear hmul ho hx hr hdx hbw hbi
      go_wp2_with fail
      refine HM.out.1.mono ?_
      rintro e w3 ⟨v3, rfl, ⟨b3, A3, c3, ds3, rfl, hs3, hd3⟩, hb3⟩
      have o3 := HM.out.2.1.step hb3 rfl
      have k3 := HM.out.2.2.1.step hb3 rfl (by have := HM.out.2.1.lt; omega)
      have r3 := HM.out.2.2.2.1.step hb3 rfl (by have := HM.out.2.1.lt; omega)
      have x3 := HM.out.2.2.2.2.1.below hb3
      have b3' := below_then HM.out.2.2.2.2.2.1 hb3
      have o4 := o3.over hs3 hd3
      have k4 := k3.far (r := ro) (by omega) (.bool b3) (.slice A3 ds3.length c3)
      have r4 := r3.farther (q := ro) (by omega) (.bool b3) (.slice A3 ds3.length c3)
      have x4 := x3.over2 o3.two (.bool b3) (.slice A3 ds3.length c3)
      have hle : w.heap.size ≤ ro := by omega
      have b4 := (b3'.setCell (p := ⟨ro, 0, none⟩) hle (.bool b3)).setCell (p := ⟨ro, 1, none⟩) hle (.slice A3 ds3.length c3)
      obtain ⟨q0, q1⟩ := id o3.two
      obtain ⟨f0, f1⟩ := id o3.fz
      obtain ⟨W4, hW4⟩ : ∃ X : World, X = (w3.setCell ⟨ro, 0, none⟩ (.bool b3)).setCell ⟨ro, 1, none⟩ (.slice A3 ds3.length c3) := ⟨_, rfl⟩
      rw [← hW4] at o4 k4 r4 x4 b4
      have hwd4 := Rwidth_any _ (z ^ (i + 1)) (M + k) W4 o4.at_ (by omega) (by rw [Int.pow_succ, Int.natAbs_mul, Nat.pow_add]; exact Nat.mul_lt_mul'' (bd_bl HM.out.2.2.2.2.2.2 hM) H.out.2.2.2.2.2.2.2.1)
      obtain ⟨l, hl⟩ : ∃ l, bl (z ^ (i + 1)).natAbs = l := ⟨_, rfl⟩
      rw [hl] at hwd4
      have H4 := Lib.hid (And.intro hwd4 (And.intro o4 (And.intro k4 (And.intro r4 (And.intro x4 (And.intro b4 hl))))))
      have HW4 := Lib.hid hW4
      clear HM hwd4 o3 o4 k3 k4 r3 r4 x3 x4 b3' b4 hl hW4 hs3 hd3 hb3 px0 px1 po0 po1
      go_upto_region 14 with fail
      rw [← HW4.out]
      clear HW4 q0 q1 f0 f1
      obtain ⟨q0, q1⟩ := id H4.out.2.1.two
      by_cases hbig : 65537 < l
      · have hbI : (65537 : Int) < (l : Int) := by omega
        go_wp2_with fail
        refine H4.out.1.mono ?_
        rintro e w5 ⟨rfl, hb5⟩
        have r5 := H4.out.2.2.2.1.step hb5 rfl (by have := H4.out.2.1.lt; omega)
        obtain ⟨⟨hr0, hr1⟩, hf0, hf1⟩ := id r5
        clear q0 q1
        go_wp2
        have q := r5.1.stored (.bool false) (.slice none 0 0)
        obtain ⟨s0, s1⟩ := id q
        refine bodyPost_ret (v := .tuple #[.agg #[.bool false, .slice none 0 0], .int .i64 14]) (by simp [results, Try.results47, go_sem, hr0, hr1, s0, s1]) rfl ?_
        obtain ⟨ea, ee⟩ := HANS.out.2 (grow_big (i := i + 1) H.out.2.2.2.2.2.2.1 (by omega) (by rw [H4.out.2.2.2.2.2.2]; omega))
        rw [← ea, ← ee]
        exact refE_stored (zs := []) r5 (by simp [SignOf]) ⟨Nat.le_refl _, Nums.nil _ _ _, Lm.Ok.nil _, Lm.Top.nil, rfl⟩ (below_then H4.out.2.2.2.2.2.1 hb5) (by omega)
      · have hbI : (l : Int) ≤ 65537 := by omega
        go_wp2_with fail
        refine H4.out.1.mono ?_
        rintro e w5 ⟨rfl, hb5⟩
        clear q0 q1
        go_wp2
        go_roundw
        case rel => exact ⟨i + 1, b3, A3, c3, ds3, by go_num, by omega, by rw [H4.out.2.2.2.2.2.2]; omega, H4.out.2.1.step hb5 rfl, H4.out.2.2.1.step hb5 rfl (by have := H4.out.2.1.lt; omega), H4.out.2.2.2.1.step hb5 rfl (by have := H4.out.2.1.lt; omega), H4.out.2.2.2.2.1.below hb5, below_then H4.out.2.2.2.2.2.1 hb5⟩
        case measure => simp [intOf]; omega
    · obtain rfl : i = n := by omega
      have hln := RLength_any _ (z ^ i) M wr ho.at_ (by omega) (by omega) (bd_bl hbi hM)
      obtain ⟨l, hl⟩ : ∃ l, bl (magOf (z ^ i)) = l := ⟨_, rfl⟩
      rw [hl] at hln
      have HE := Lib.hid (And.intro hln (And.intro ho (And.intro hr (And.intro hbw hl))))
      obtain ⟨q0, q1⟩ := id ho.two
      clear hln ho hx hr hdx hbw hbi hl
      by_cases hbig : 65536 < l
      · have hbI : (65536 : Int) < (l : Int) := by omega
        go_wp2_with fail
        refine HE.out.1.mono ?_
        rintro e w5 ⟨rfl, hb5⟩
        have r5 := HE.out.2.2.1.step hb5 rfl (by have := HE.out.2.1.lt; omega)
        obtain ⟨⟨hr0, hr1⟩, hf0, hf1⟩ := id r5
        clear q0 q1
        go_wp2
        have q := r5.1.stored (.bool false) (.slice none 0 0)
        obtain ⟨s0, s1⟩ := id q
        refine bodyPost_ret (v := .tuple #[.agg #[.bool false, .slice none 0 0], .int .i64 14]) (by simp [results, Try.results47, go_sem, hr0, hr1, s0, s1]) rfl ?_
        obtain ⟨ea, ee⟩ := HANS.out.2 (by rw [HE.out.2.2.2.2]; omega)
        rw [← ea, ← ee]
        exact refE_stored (zs := []) r5 (by simp [SignOf]) ⟨Nat.le_refl _, Nums.nil _ _ _, Lm.Ok.nil _, Lm.Top.nil, rfl⟩ (below_then HE.out.2.2.2.1 hb5) (by omega)
      · have hbI : (l : Int) ≤ 65536 := by omega
        go_wp2_with fail
        refine HE.out.1.mono ?_
        rintro e w5 ⟨rfl, hb5⟩
        have r5 := HE.out.2.2.1.step hb5 rfl (by have := HE.out.2.1.lt; omega)
        have o5 := HE.out.2.1.step hb5 rfl
        obtain ⟨⟨hr0, hr1⟩, hf0, hf1⟩ := id r5
        clear q0 q1
        obtain ⟨q0, q1⟩ := id o5.two
        go_wp2
        have q := r5.1.stored (.bool bo) (.slice Ao dso.length co)
        obtain ⟨s0, s1⟩ := id q
        refine bodyPost_ret (v := .tuple #[.agg #[.bool bo, .slice Ao dso.length co], .int .i64 0]) (by simp [results, Try.results47, go_sem, s0, s1]) rfl ?_
        obtain ⟨ea, ee⟩ := HANS.out.1 (by rw [HE.out.2.2.2.2]; omega)
        rw [← ea, ← ee]
        exact refE_stored r5 o5.sg o5.dg (below_then HE.out.2.2.2.1 hb5) (by omega)
end Go.Proofs.Ytllkajlmfbikhaa
