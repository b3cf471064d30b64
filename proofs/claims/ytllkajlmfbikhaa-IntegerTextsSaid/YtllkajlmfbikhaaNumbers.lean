/- The law IntegerNumbers: it answers true. -/
import Derived.Test.YtllkajlmfbikhaaOf
namespace Go.Proofs.Ytllkajlmfbikhaa
open Go.RowKit
set_option linter.unusedSimpArgs false

theorem New_all (n : Int) (w : World) (h1 : -9223372036854775808 ≤ n) (h2 : n < 9223372036854775808) : Calls Try.prog 17 #[.int .i64 n] w fun e w' => IsInt w w' n e := by
  by_cases h : n < 0
  · obtain ⟨k, rfl⟩ : ∃ k : Nat, n = -(k : Int) := ⟨n.natAbs, by omega⟩
    exact New_neg k w (by omega) (by omega)
  · obtain ⟨k, rfl⟩ : ∃ k : Nat, n = (k : Int) := ⟨n.natAbs, by omega⟩
    exact New_pos k w (by omega)
theorem RNew_all (n : Int) (w : World) (h1 : -9223372036854775808 ≤ n) (h2 : n < 9223372036854775808) : Calls Try.prog 18 #[.int .i64 n] w fun e w' => IsRef w w' n e := by
  by_cases h : n < 0
  · obtain ⟨k, rfl⟩ : ∃ k : Nat, n = -(k : Int) := ⟨n.natAbs, by omega⟩
    exact RNew_neg k w (by omega) (by omega)
  · obtain ⟨k, rfl⟩ : ∃ k : Nat, n = (k : Int) := ⟨n.natAbs, by omega⟩
    exact RNew_pos k w (by omega)

def Is64K (w w' : World) (k : Int) (ok : Bool) (e : Ending) : Prop := e = .returned (.tuple #[.int .i64 k, .bool ok]) ∧ Below w.heap.size w w'
theorem int64_is (v : Value) (z k : Int) (ok : Bool) (m : Nat) (w : World) (h : IntAt w v z) (hm : m ≤ 900000) (hlen : z.natAbs < B32 ^ m) (hk : (if fits64 z then z else 0) = k) (hok : fits64 z = ok) : Calls Try.prog 19 #[v] w fun e w' => Is64K w w' k ok e := by
  refine (Int64_any v z m w h hm hlen).mono fun e w' h => ?_
  unfold Is64 at h
  rw [hk, hok] at h
  exact h
theorem rint64_is (v : Value) (z k : Int) (ok : Bool) (m : Nat) (w : World) (h : RefAt w v z) (hm4 : 4 ≤ m) (hm : m < 900000) (hz : z.natAbs < BD ^ m) (hk : (if fits64 z then z else 0) = k) (hok : fits64 z = ok) : Calls Try.prog 20 #[v] w fun e w' => Is64K w w' k ok e := by
  refine (RInt64_any v z m w h hm4 hm hz).mono fun e w' h => ?_
  unfold Is64 at h
  rw [hk, hok] at h
  exact h
theorem is_true (v1 v2 : Value) (x : Int) (m : Nat) (w : World) (h1 : IntAt w v1 x) (h2 : RefAt w v2 x) (hm : m ≤ 900000) (hx : x.natAbs < B32 ^ m) (hy : x.natAbs < BD ^ m) : Calls Try.prog 21 #[v1, v2] w fun e w' => IsBool w w' true e := by
  refine (Is_any v1 v2 x x m w h1 h2 hm hx hy).mono fun e w' h => ?_
  rw [decide_eq_true (rfl : x = x)] at h
  exact h
theorem num_is {v : Value} {f : FuncId} {n k : Int} {w : World} (h : Calls Try.prog f #[v] w fun e w' => IsNum w w' n e) (hk : n = k) : Calls Try.prog f #[v] w fun e w' => IsNum w w' k e := by
  rw [← hk]
  exact h

theorem odd_is (v : Value) (z : Int) (b : Bool) (w : World) (h : IntAt w v z) (hb : oddB z = b) : Calls Try.prog 24 #[v] w fun e w' => IsBool w w' b e := by
  rw [← hb]
  exact Odd_any v z w h
theorem rodd_is (v : Value) (z : Int) (b : Bool) (w : World) (h : RefAt w v z) (hb : oddB z = b) : Calls Try.prog 25 #[v] w fun e w' => IsBool w w' b e := by
  rw [← hb]
  exact ROdd_any v z w h

/-- The four numbers of the law. -/
structure Nums4 (w : World) (r5 r6 r7 r8 : Nat) (X1 X2 Y1 Y2 U1 U2 V1 V2 : Value) (x n : Int) : Prop where
  l5 : r5 < w.heap.size
  l6 : r6 < w.heap.size
  l7 : r7 < w.heap.size
  l8 : r8 < w.heap.size
  c5 : Two w r5 X1 X2
  c6 : Two w r6 Y1 Y2
  c7 : Two w r7 U1 U2
  c8 : Two w r8 V1 V2
  ix : IntAt w (.agg #[X1, X2]) x
  iy : RefAt w (.agg #[Y1, Y2]) x
  iu : IntAt w (.agg #[U1, U2]) n
  iv : RefAt w (.agg #[V1, V2]) n
theorem Nums4.step {W0 W w1 : World} {r5 r6 r7 r8 : Nat} {X1 X2 Y1 Y2 U1 U2 V1 V2 : Value} {x n : Int} (t : Nums4 W0 r5 r6 r7 r8 X1 X2 Y1 Y2 U1 U2 V1 V2 x n) (hb : Below W.heap.size W w1) (hh : W.heap = W0.heap) :
    Nums4 w1 r5 r6 r7 r8 X1 X2 Y1 Y2 U1 U2 V1 V2 x n := by
  have hs : W0.heap.size ≤ w1.heap.size := by rw [← hh]; exact hb.size
  exact ⟨Nat.lt_of_lt_of_le t.l5 hs, Nat.lt_of_lt_of_le t.l6 hs, Nat.lt_of_lt_of_le t.l7 hs, Nat.lt_of_lt_of_le t.l8 hs, t.c5.step hb hh t.l5, t.c6.step hb hh t.l6, t.c7.step hb hh t.l7, t.c8.step hb hh t.l8, t.ix.step hb hh, t.iy.step hb hh, t.iu.step hb hh, t.iv.step hb hh⟩
theorem Nums4.cells {w : World} {r5 r6 r7 r8 : Nat} {X1 X2 Y1 Y2 U1 U2 V1 V2 : Value} {x n : Int} (t : Nums4 w r5 r6 r7 r8 X1 X2 Y1 Y2 U1 U2 V1 V2 x n) :
    w.cell? ⟨r5, 0, none⟩ = some X1 ∧ w.cell? ⟨r5, 1, none⟩ = some X2 ∧ w.cell? ⟨r6, 0, none⟩ = some Y1 ∧ w.cell? ⟨r6, 1, none⟩ = some Y2 ∧ w.cell? ⟨r7, 0, none⟩ = some U1 ∧ w.cell? ⟨r7, 1, none⟩ = some U2 ∧ w.cell? ⟨r8, 0, none⟩ = some V1 ∧ w.cell? ⟨r8, 1, none⟩ = some V2 :=
  ⟨t.c5.1, t.c5.2, t.c6.1, t.c6.2, t.c7.1, t.c7.2, t.c8.1, t.c8.2⟩

theorem bd_of_b32 {n k : Nat} (h : n < B32 ^ k) : n < BD ^ (2 * k) := by rw [Nat.pow_mul]; exact h

set_option maxRecDepth 100000 in
set_option maxHeartbeats 8000000 in
theorem numbers_short (s : Bool) (A : Option Addr) (c : Nat) (xs : List Nat) (n : Int) (w : World) (hx : Nums w .u32 A xs) (ho : Lm.Ok B32 xs) (hl : xs.length ≤ 12) (hc : xs.length ≤ c) (hn1 : -9223372036854775808 ≤ n) (hn2 : n < 9223372036854775808) :
    Calls Try.prog 3 #[.agg #[.bool s, .slice A xs.length c], .int .i64 n] w fun e w' => IsBool w w' true e := by
  have hx1 := Two.new w (.bool s) (.slice A xs.length c) 24
  have hx2 := hx1.alloc (by simp) (.cells #[.bool s, .slice A xs.length c] 24)
  have hg := Two.new (w.alloc (.cells #[.bool s, .slice A xs.length c] 24)) (.bool s) (.slice A xs.length c) 24
  rw [size_alloc] at hg
  have hbel : Below w.heap.size w ((w.alloc (.cells #[.bool s, .slice A xs.length c] 24)).alloc (.cells #[.bool s, .slice A xs.length c] 24)) := ((Below.refl _ _).alloc (Nat.le_refl _) _).alloc (by simp) _
  have hrow : NRow ((w.alloc (.cells #[.bool s, .slice A xs.length c] 24)).alloc (.cells #[.bool s, .slice A xs.length c] 24)) (w.heap.size + 1) [⟨s, A, xs.length, c⟩] :=
    ⟨by simp, fun i x hi => by
      match i, hi with
      | 0, hi => simp at hi; subst hi; exact hg⟩
  have hsh : Calls Try.prog 14 #[.int .i64 12, .slice (some ⟨w.heap.size + 1, 0, none⟩) 1 1] ((w.alloc (.cells #[.bool s, .slice A xs.length c] 24)).alloc (.cells #[.bool s, .slice A xs.length c] 24)) fun e w' => IsBool ((w.alloc (.cells #[.bool s, .slice A xs.length c] 24)).alloc (.cells #[.bool s, .slice A xs.length c] 24)) w' true e := by
    have := shortN_any (w.heap.size + 1) 12 [⟨s, A, xs.length, c⟩] _ hrow (by simp)
    rw [decide_eq_true (show AllS 12 [⟨s, A, xs.length, c⟩] from fun y hy => by simp at hy; subst hy; exact hl)] at this
    exact this
  have hsz0 : w.heap.size < ((w.alloc (.cells #[.bool s, .slice A xs.length c] 24)).alloc (.cells #[.bool s, .slice A xs.length c] 24)).heap.size := by simp; omega
  have H := Lib.hid (And.intro hsh (And.intro hbel (And.intro hx2 (And.intro hsz0 (And.intro hx (And.intro hn1 hn2))))))
  have hfit : (ofSign s (Lm.val B32 xs)).natAbs < B32 ^ 12 := by
    have h := Nat.lt_of_lt_of_le (Lm.val_lt ho) (Nat.pow_le_pow_right B32_pos hl)
    unfold ofSign
    cases s <;> simp <;> exact h
  have HO := Lib.hid (And.intro ho (And.intro hl hc))
  clear hx1 hx2 hg hbel hrow hsh hsz0 hx hn1 hn2 ho hl hc
  go_enter Try.func3, Try.ntmps3
  go_wp2_with fail
  refine H.out.1.mono ?_
  rintro e w1 ⟨rfl, hb1⟩
  have k1 := H.out.2.2.1.step hb1 rfl H.out.2.2.2.1
  have bl1 := below_then H.out.2.1 hb1
  have hof := Of_any s A c xs w1 (H.out.2.2.2.2.1.below bl1) HO.out.1 (Nat.le_trans HO.out.2.1 (by decide)) HO.out.2.2
  obtain ⟨x, hxv⟩ : ∃ x, ofSign s (Lm.val B32 xs) = x := ⟨_, rfl⟩
  rw [hxv] at hof hfit
  have HF := Lib.hid (And.intro hof hfit)
  obtain ⟨q0, q1⟩ := id k1
  clear hof hfit hxv hb1
  go_wp2_with fail
  refine HF.out.1.mono ?_
  rintro e w2 ⟨v1, v2, rfl, ⟨b1, A1, c1, zs1, rfl, hs1, hl1⟩, ⟨b2, A2, c2, zs2, rfl, hs2, hl2⟩, hb2⟩
  have bl2 := below_then bl1 hb2
  clear q0 q1 k1 bl1 hb2
  obtain ⟨W2, hW2⟩ : ∃ W2 : World, W2 = (w2.alloc (.cells #[.bool b1, .slice A1 zs1.length c1] 28)).alloc (.cells #[.bool b2, .slice A2 zs2.length c2] 31) := ⟨_, rfl⟩
  have hbW : Below w2.heap.size w2 W2 := by rw [hW2]; exact ((Below.refl _ _).alloc (Nat.le_refl _) _).alloc (by simp) _
  have c5 : Two W2 w2.heap.size (.bool b1) (.slice A1 zs1.length c1) := by rw [hW2]; exact (Two.new w2 _ _ _).alloc (by simp) _
  have c6 : Two W2 (w2.heap.size + 1) (.bool b2) (.slice A2 zs2.length c2) := by
    have := Two.new (w2.alloc (.cells #[.bool b1, .slice A1 zs1.length c1] 28)) (.bool b2) (.slice A2 zs2.length c2) 31
    rw [size_alloc] at this
    rw [hW2]
    exact this
  have z2 : W2.heap.size = w2.heap.size + 2 := by rw [hW2]; simp
  have ix2 : IntAt W2 (.agg #[.bool b1, .slice A1 zs1.length c1]) x := ⟨b1, A1, c1, zs1, rfl, hs1, hl1.below hbW⟩
  have iy2 : RefAt W2 (.agg #[.bool b2, .slice A2 zs2.length c2]) x := ⟨b2, A2, c2, zs2, rfl, hs2, hl2.below hbW⟩
  have H2 := Lib.hid (And.intro (below_then bl2 hbW) (And.intro c5 (And.intro c6 (And.intro ix2 (And.intro iy2 z2)))))
  have HN := Lib.hid (And.intro (New_all n W2 H.out.2.2.2.2.2.1 H.out.2.2.2.2.2.2) (And.intro H.out.2.2.2.2.2.1 (And.intro H.out.2.2.2.2.2.2 HF.out.2)))
  have HW := Lib.hid hW2
  clear hbW c5 c6 z2 ix2 iy2 hs1 hl1 hs2 hl2 bl2 hW2 H HF HO
  go_wp2_with fail
  rw [← HW.out]
  refine HN.out.1.mono ?_
  rintro e w3 ⟨v3, rfl, ⟨b3, A3, c3, zs3, rfl, hs3, hl3⟩, hb3⟩
  have HR := Lib.hid (RNew_all n w3 HN.out.2.1 HN.out.2.2.1)
  go_wp2_with fail
  refine HR.out.mono ?_
  rintro e w4 ⟨v4, rfl, ⟨b4, A4, c4, zs4, rfl, hs4, hl4⟩, hb4⟩
  obtain ⟨W4, hW4⟩ : ∃ W4 : World, W4 = (w4.alloc (.cells #[.bool b3, .slice A3 zs3.length c3] 28)).alloc (.cells #[.bool b4, .slice A4 zs4.length c4] 31) := ⟨_, rfl⟩
  have hbW : Below w4.heap.size w4 W4 := by rw [hW4]; exact ((Below.refl _ _).alloc (Nat.le_refl _) _).alloc (by simp) _
  have hb34 : Below W2.heap.size W2 w4 := below_then hb3 hb4
  have hb2W : Below W2.heap.size W2 W4 := below_then hb34 hbW
  have z2 := H2.out.2.2.2.2.2
  have z4 : W4.heap.size = w4.heap.size + 2 := by rw [hW4]; simp
  have zz : w2.heap.size + 2 ≤ w4.heap.size := by rw [← z2]; exact hb34.size
  have c7 : Two W4 w4.heap.size (.bool b3) (.slice A3 zs3.length c3) := by rw [hW4]; exact (Two.new w4 _ _ _).alloc (by simp) _
  have c8 : Two W4 (w4.heap.size + 1) (.bool b4) (.slice A4 zs4.length c4) := by
    have := Two.new (w4.alloc (.cells #[.bool b3, .slice A3 zs3.length c3] 28)) (.bool b4) (.slice A4 zs4.length c4) 31
    rw [size_alloc] at this
    rw [hW4]
    exact this
  have T0 : Nums4 W4 w2.heap.size (w2.heap.size + 1) w4.heap.size (w4.heap.size + 1) (.bool b1) (.slice A1 zs1.length c1) (.bool b2) (.slice A2 zs2.length c2) (.bool b3) (.slice A3 zs3.length c3) (.bool b4) (.slice A4 zs4.length c4) x n :=
    ⟨by omega, by omega, by omega, by omega, H2.out.2.1.step hb2W rfl (by omega), H2.out.2.2.1.step hb2W rfl (by omega), c7, c8, H2.out.2.2.2.1.step hb2W rfl, H2.out.2.2.2.2.1.step hb2W rfl, ⟨b3, A3, c3, zs3, rfl, hs3, (hl3.below hb4).below hbW⟩, ⟨b4, A4, c4, zs4, rfl, hs4, hl4.below hbW⟩⟩
  have B0 := below_then H2.out.1 hb2W
  have HW4 := Lib.hid hW4
  have HN4 := Lib.hid (And.intro HN.out.2.1 (And.intro HN.out.2.2.1 HN.out.2.2.2))
  clear HR hbW hb34 hb2W z2 z4 zz c7 c8 hW4 hb3 hb4 hs3 hl3 hs4 hl4 H2 HN HW
  go_upto_region 5 with fail
  rw [← HW4.out]
  have hfx : x.natAbs < B32 ^ 12 := HN4.out.2.2
  have hfn : n.natAbs < B32 ^ 2 := by have := HN4.out.1; have := HN4.out.2.1; have e : B32 ^ 2 = 18446744073709551616 := (by decide); omega
  have hfb : x.natAbs < BD ^ 24 := bd_of_b32 HN4.out.2.2
  obtain ⟨k, hk⟩ : ∃ k, (if fits64 x then x else 0) = k := ⟨_, rfl⟩
  obtain ⟨ok, hok⟩ : ∃ ok, fits64 x = ok := ⟨_, rfl⟩
  have hn64 : fits64 n = true := decide_eq_true (by have := HN4.out.1; have := HN4.out.2.1; omega)
  have HK := Lib.hid (And.intro hfx (And.intro hfn (And.intro hfb (And.intro hk (And.intro hok hn64)))))
  clear hfx hfn hfb hk hok hn64
  have HT0 := Lib.hid T0
  obtain ⟨a0, a1, a2, a3, a4, a5, a6, a7⟩ := T0.cells
  clear T0
  go_wp2_with fail
  refine (int64_is _ x k ok 12 _ HT0.out.ix (by decide) HK.out.1 HK.out.2.2.2.1 HK.out.2.2.2.2.1).mono ?_
  rintro e w5 ⟨rfl, hb5⟩
  have T5 := HT0.out.step hb5 rfl
  have B5 := below_then B0 hb5
  obtain ⟨d0, d1, d2, d3, d4, d5, d6, d7⟩ := T5.cells
  clear a0 a1 a2 a3 a4 a5 a6 a7 hb5
  have HT5 := Lib.hid T5
  clear T5
  go_wp2_with fail
  refine (rint64_is _ x k ok 24 _ HT5.out.iy (by decide) (by decide) HK.out.2.2.1 HK.out.2.2.2.1 HK.out.2.2.2.2.1).mono ?_
  rintro e w6 ⟨rfl, hb6⟩
  have T6 := HT5.out.step hb6 rfl
  have B6 := below_then B5 hb6
  obtain ⟨f0, f1, f2, f3, f4, f5, f6, f7⟩ := T6.cells
  clear d0 d1 d2 d3 d4 d5 d6 d7 hb6
  have HT6 := Lib.hid T6
  clear T6
  go_wp2_with fail
  refine (int64_is _ n n true 2 _ HT6.out.iu (by decide) HK.out.2.1 (by rw [HK.out.2.2.2.2.2]; rfl) HK.out.2.2.2.2.2).mono ?_
  rintro e w7 ⟨rfl, hb7⟩
  have Bs := HT6.out.step hb7 rfl
  have bls := below_then B6 hb7
  clear f0 f1 f2 f3 f4 f5 f6 f7 hb7 B0 B5 B6 HT0 HT5 HT6
  go_upto_region 8 with fail
  have hsm : n.natAbs < B32 ^ 4 ∧ n.natAbs < BD ^ 4 := by
    have := HN4.out.1
    have := HN4.out.2.1
    have e : BD ^ 4 = 18446744073709551616 := (by decide)
    have e' : B32 ^ 4 = 340282366920938463463374607431768211456 := (by decide)
    omega
  have HI2 := Lib.hid hsm
  obtain ⟨sg, hsg⟩ : ∃ k : Int, x.sign = k := ⟨_, rfl⟩
  obtain ⟨od, hod⟩ : ∃ k, oddB x = k := ⟨_, rfl⟩
  obtain ⟨ln, hln⟩ : ∃ k : Int, ((bl (magOf x) : Nat) : Int) = k := ⟨_, rfl⟩
  obtain ⟨cn, hcn⟩ : ∃ k : Int, ((ones (magOf x) : Nat) : Int) = k := ⟨_, rfl⟩
  have HV := Lib.hid (And.intro hsg (And.intro hod (And.intro hln hcn)))
  clear hsm hsg hod hln hcn
  refine wp_region_held_drew (S := (fun w' => w'.cell? ⟨w2.heap.size, 0, none⟩ = some (.bool b1) ∧ w'.cell? ⟨w2.heap.size, 1, none⟩ = some (.slice A1 zs1.length c1) ∧ w'.cell? ⟨w2.heap.size + 1, 0, none⟩ = some (.bool b2) ∧ w'.cell? ⟨w2.heap.size + 1, 1, none⟩ = some (.slice A2 zs2.length c2) ∧ w'.cell? ⟨w4.heap.size, 0, none⟩ = some (.bool b3) ∧ w'.cell? ⟨w4.heap.size, 1, none⟩ = some (.slice A3 zs3.length c3) ∧ w'.cell? ⟨w4.heap.size + 1, 0, none⟩ = some (.bool b4) ∧ w'.cell? ⟨w4.heap.size + 1, 1, none⟩ = some (.slice A4 zs4.length c4))) (by kernel_rfl) (Bs.cells) (fun hH0 => ?_)
  refine wpAnyH_take (i := 0) (v := ?v1) rfl (by kernel_rfl) (by kernel_rfl) (by kernel_rfl) (fun _ _ _ h => h) (Or.inl ⟨by rfl, ?y1⟩) hH0 ?r1
  case y1 => (intro w0 hS0; (try dsimp only at hS0); go_simp <;> with_reducible rfl)
  change wpAnyH _ _ _ _ _ _ _ (Act.put _ (some 44) _) _
  simp only [Act.put, List.setIfInBounds_toArray, List.set_cons_zero, List.set_cons_succ]
  refine wpAnyH_take (i := 1) (v := ?v2) rfl (by kernel_rfl) (by kernel_rfl) (by kernel_rfl) (fun _ _ _ h => h) (Or.inl ⟨by rfl, ?y2⟩) hH0 ?r2
  case y2 => (intro w0 hS0; (try dsimp only at hS0); go_simp <;> with_reducible rfl)
  change wpAnyH _ _ _ _ _ _ _ (Act.put _ (some 45) _) _
  simp only [Act.put, List.setIfInBounds_toArray, List.set_cons_zero, List.set_cons_succ]
  refine wpAnyH_ready (rs := [2]) (by kernel_rfl) (by simp) ?_
  refine AllReadyH.cons rfl (fun K hK0 => ?_) AllReadyH.nil
  have hK := hK0.out
  clear hK0
  rw [if_pos (by rfl)]
  go_simp
  refine (is_true _ _ x 24 _ (by exact Bs.ix) (by exact Bs.iy) (by decide) (Nat.lt_of_lt_of_le HN4.out.2.2 (Nat.pow_le_pow_right B32_pos (by decide))) HK.out.2.2.1).mono ?_
  rintro e w21 ⟨rfl, hb1⟩
  have B1 := Bs.step hb1 rfl
  have bl1 := begun_then bls hb1 rfl rfl rfl rfl
  clear Bs bls hb1
  (try dsimp only)
  refine hK _ _ (B1.cells) (fun hH1 => ?_)
  clear hK K hH0
  (try simp only [Act.put, List.setIfInBounds_toArray, List.set_cons_zero, List.set_cons_succ])
  refine wpAnyH_take (i := 3) (v := ?v3) rfl (by kernel_rfl) (by kernel_rfl) (by kernel_rfl) (fun _ _ _ h => h) (Or.inl ⟨by rfl, ?y3⟩) hH1 ?r3
  case y3 => (intro w0 hS0; (try dsimp only at hS0); go_simp <;> with_reducible rfl)
  change wpAnyH _ _ _ _ _ _ _ (Act.put _ (some 47) _) _
  simp only [Act.put, List.setIfInBounds_toArray, List.set_cons_zero, List.set_cons_succ]
  refine wpAnyH_take (i := 4) (v := ?v4) rfl (by kernel_rfl) (by kernel_rfl) (by kernel_rfl) (fun _ _ _ h => h) (Or.inl ⟨by rfl, ?y4⟩) hH1 ?r4
  case y4 => (intro w0 hS0; (try dsimp only at hS0); go_simp <;> with_reducible rfl)
  change wpAnyH _ _ _ _ _ _ _ (Act.put _ (some 48) _) _
  simp only [Act.put, List.setIfInBounds_toArray, List.set_cons_zero, List.set_cons_succ]
  refine wpAnyH_take (i := 5) (v := ?v5) rfl (by kernel_rfl) (by kernel_rfl) (by kernel_rfl) (fun _ _ _ h => h) (Or.inl ⟨by rfl, ?y5⟩) hH1 ?r5
  case y5 => (intro w0 hS0; (try dsimp only at hS0); go_simp <;> with_reducible rfl)
  change wpAnyH _ _ _ _ _ _ _ (Act.put _ (some 49) _) _
  simp only [Act.put, List.setIfInBounds_toArray, List.set_cons_zero, List.set_cons_succ]
  refine wpAnyH_ready (rs := [6]) (by kernel_rfl) (by simp) ?_
  refine AllReadyH.cons rfl (fun K hK0 => ?_) AllReadyH.nil
  have hK := hK0.out
  clear hK0
  rw [if_pos (by rfl)]
  go_simp
  refine (is_true _ _ n 4 _ (by exact B1.iu) (by exact B1.iv) (by decide) HI2.out.1 HI2.out.2).mono ?_
  rintro e w22 ⟨rfl, hb2⟩
  have B2 := B1.step hb2 rfl
  have bl2 := begun_then bl1 hb2 rfl rfl rfl rfl
  clear B1 bl1 hb2
  (try dsimp only)
  refine hK _ _ (B2.cells) (fun hH2 => ?_)
  clear hK K hH1
  (try simp only [Act.put, List.setIfInBounds_toArray, List.set_cons_zero, List.set_cons_succ])
  refine wpAnyH_take (i := 7) (v := ?v6) rfl (by kernel_rfl) (by kernel_rfl) (by kernel_rfl) (fun _ _ _ h => h) (Or.inl ⟨by rfl, ?y6⟩) hH2 ?r6
  case y6 => (intro w0 hS0; (try dsimp only at hS0); go_simp <;> with_reducible rfl)
  change wpAnyH _ _ _ _ _ _ _ (Act.put _ (some 51) _) _
  simp only [Act.put, List.setIfInBounds_toArray, List.set_cons_zero, List.set_cons_succ]
  refine wpAnyH_take (i := 8) (v := ?v7) rfl (by kernel_rfl) (by kernel_rfl) (by kernel_rfl) (fun _ _ _ h => h) (Or.inl ⟨by rfl, ?y7⟩) hH2 ?r7
  case y7 => (intro w0 hS0; (try dsimp only at hS0); go_simp <;> with_reducible rfl)
  change wpAnyH _ _ _ _ _ _ _ (Act.put _ (some 52) _) _
  simp only [Act.put, List.setIfInBounds_toArray, List.set_cons_zero, List.set_cons_succ]
  refine wpAnyH_take (i := 9) (v := ?v8) rfl (by kernel_rfl) (by kernel_rfl) (by kernel_rfl) (fun _ _ _ h => h) (Or.inl ⟨by rfl, ?y8⟩) hH2 ?r8
  case y8 => (intro w0 hS0; (try dsimp only at hS0); go_simp <;> with_reducible rfl)
  change wpAnyH _ _ _ _ _ _ _ (Act.put _ (some 53) _) _
  simp only [Act.put, List.setIfInBounds_toArray, List.set_cons_zero, List.set_cons_succ]
  refine wpAnyH_take (i := 10) (v := ?v9) rfl (by kernel_rfl) (by kernel_rfl) (by kernel_rfl) (fun _ _ _ h => h) (Or.inl ⟨by rfl, ?y9⟩) hH2 ?r9
  case y9 => (intro w0 hS0; (try dsimp only at hS0); go_simp <;> with_reducible rfl)
  change wpAnyH _ _ _ _ _ _ _ (Act.put _ (some 54) _) _
  simp only [Act.put, List.setIfInBounds_toArray, List.set_cons_zero, List.set_cons_succ]
  refine wpAnyH_take (i := 11) (v := ?v10) rfl (by kernel_rfl) (by kernel_rfl) (by kernel_rfl) (fun _ _ _ h => h) (Or.inl ⟨by rfl, ?y10⟩) hH2 ?r10
  case y10 => (intro w0 hS0; (try dsimp only at hS0); go_simp <;> with_reducible rfl)
  change wpAnyH _ _ _ _ _ _ _ (Act.put _ (some 55) _) _
  simp only [Act.put, List.setIfInBounds_toArray, List.set_cons_zero, List.set_cons_succ]
  refine wpAnyH_take (i := 12) (v := ?v11) rfl (by kernel_rfl) (by kernel_rfl) (by kernel_rfl) (fun _ _ _ h => h) (Or.inl ⟨by rfl, ?y11⟩) hH2 ?r11
  case y11 => (intro w0 hS0; (try dsimp only at hS0); go_simp <;> with_reducible rfl)
  change wpAnyH _ _ _ _ _ _ _ (Act.put _ (some 56) _) _
  simp only [Act.put, List.setIfInBounds_toArray, List.set_cons_zero, List.set_cons_succ]
  refine wpAnyH_take (i := 13) (v := ?v12) rfl (by kernel_rfl) (by kernel_rfl) (by kernel_rfl) (fun _ _ _ h => h) (Or.inl ⟨by rfl, ?y12⟩) hH2 ?r12
  case y12 => (intro w0 hS0; (try dsimp only at hS0); go_simp <;> with_reducible rfl)
  change wpAnyH _ _ _ _ _ _ _ (Act.put _ (some 57) _) _
  simp only [Act.put, List.setIfInBounds_toArray, List.set_cons_zero, List.set_cons_succ]
  refine wpAnyH_take (i := 14) (v := ?v13) rfl (by kernel_rfl) (by kernel_rfl) (by kernel_rfl) (fun _ _ _ h => h) (Or.inl ⟨by rfl, ?y13⟩) hH2 ?r13
  case y13 => (intro w0 hS0; (try dsimp only at hS0); go_simp <;> with_reducible rfl)
  change wpAnyH _ _ _ _ _ _ _ (Act.put _ (some 58) _) _
  simp only [Act.put, List.setIfInBounds_toArray, List.set_cons_zero, List.set_cons_succ]
  refine wpAnyH_take (i := 15) (v := ?v14) rfl (by kernel_rfl) (by kernel_rfl) (by kernel_rfl) (fun _ _ _ h => h) (Or.inl ⟨by rfl, ?y14⟩) hH2 ?r14
  case y14 => (intro w0 hS0; (try dsimp only at hS0); go_simp <;> with_reducible rfl)
  change wpAnyH _ _ _ _ _ _ _ (Act.put _ (some 59) _) _
  simp only [Act.put, List.setIfInBounds_toArray, List.set_cons_zero, List.set_cons_succ]
  refine wpAnyH_take (i := 16) (v := ?v15) rfl (by kernel_rfl) (by kernel_rfl) (by kernel_rfl) (fun _ _ _ h => h) (Or.inl ⟨by rfl, ?y15⟩) hH2 ?r15
  case y15 => (intro w0 hS0; (try dsimp only at hS0); go_simp <;> with_reducible rfl)
  change wpAnyH _ _ _ _ _ _ _ (Act.put _ (some 60) _) _
  simp only [Act.put, List.setIfInBounds_toArray, List.set_cons_zero, List.set_cons_succ]
  refine wpAnyH_take (i := 17) (v := ?v16) rfl (by kernel_rfl) (by kernel_rfl) (by kernel_rfl) (fun _ _ _ h => h) (Or.inl ⟨by rfl, ?y16⟩) hH2 ?r16
  case y16 => (intro w0 hS0; (try dsimp only at hS0); go_simp <;> with_reducible rfl)
  change wpAnyH _ _ _ _ _ _ _ (Act.put _ (some 61) _) _
  simp only [Act.put, List.setIfInBounds_toArray, List.set_cons_zero, List.set_cons_succ]
  refine wpAnyH_take (i := 18) (v := ?v17) rfl (by kernel_rfl) (by kernel_rfl) (by kernel_rfl) (fun _ _ _ h => h) (Or.inl ⟨by rfl, ?y17⟩) hH2 ?r17
  case y17 => (intro w0 hS0; (try dsimp only at hS0); go_simp <;> with_reducible rfl)
  change wpAnyH _ _ _ _ _ _ _ (Act.put _ (some 62) _) _
  simp only [Act.put, List.setIfInBounds_toArray, List.set_cons_zero, List.set_cons_succ]
  refine wpAnyH_take (i := 19) (v := ?v18) rfl (by kernel_rfl) (by kernel_rfl) (by kernel_rfl) (fun _ _ _ h => h) (Or.inl ⟨by rfl, ?y18⟩) hH2 ?r18
  case y18 => (intro w0 hS0; (try dsimp only at hS0); go_simp <;> with_reducible rfl)
  change wpAnyH _ _ _ _ _ _ _ (Act.put _ (some 63) _) _
  simp only [Act.put, List.setIfInBounds_toArray, List.set_cons_zero, List.set_cons_succ]
  refine wpAnyH_take (i := 20) (v := ?v19) rfl (by kernel_rfl) (by kernel_rfl) (by kernel_rfl) (fun _ _ _ h => h) (Or.inl ⟨by rfl, ?y19⟩) hH2 ?r19
  case y19 => (intro w0 hS0; (try dsimp only at hS0); go_simp <;> with_reducible rfl)
  change wpAnyH _ _ _ _ _ _ _ (Act.put _ (some 64) _) _
  simp only [Act.put, List.setIfInBounds_toArray, List.set_cons_zero, List.set_cons_succ]
  refine wpAnyH_take (i := 21) (v := ?v20) rfl (by kernel_rfl) (by kernel_rfl) (by kernel_rfl) (fun _ _ _ h => h) (Or.inl ⟨by rfl, ?y20⟩) hH2 ?r20
  case y20 => (intro w0 hS0; (try dsimp only at hS0); go_simp <;> with_reducible rfl)
  change wpAnyH _ _ _ _ _ _ _ (Act.put _ (some 65) _) _
  simp only [Act.put, List.setIfInBounds_toArray, List.set_cons_zero, List.set_cons_succ]
  refine wpAnyH_take (i := 22) (v := ?v21) rfl (by kernel_rfl) (by kernel_rfl) (by kernel_rfl) (fun _ _ _ h => h) (Or.inl ⟨by rfl, ?y21⟩) hH2 ?r21
  case y21 => (intro w0 hS0; (try dsimp only at hS0); go_simp <;> with_reducible rfl)
  change wpAnyH _ _ _ _ _ _ _ (Act.put _ (some 66) _) _
  simp only [Act.put, List.setIfInBounds_toArray, List.set_cons_zero, List.set_cons_succ]
  refine wpAnyH_take (i := 23) (v := ?v22) rfl (by kernel_rfl) (by kernel_rfl) (by kernel_rfl) (fun _ _ _ h => h) (Or.inl ⟨by rfl, ?y22⟩) hH2 ?r22
  case y22 => (intro w0 hS0; (try dsimp only at hS0); go_simp <;> with_reducible rfl)
  change wpAnyH _ _ _ _ _ _ _ (Act.put _ (some 67) _) _
  simp only [Act.put, List.setIfInBounds_toArray, List.set_cons_zero, List.set_cons_succ]
  refine wpAnyH_take (i := 24) (v := ?v23) rfl (by kernel_rfl) (by kernel_rfl) (by kernel_rfl) (fun _ _ _ h => h) (Or.inl ⟨by rfl, ?y23⟩) hH2 ?r23
  case y23 => (intro w0 hS0; (try dsimp only at hS0); go_simp <;> with_reducible rfl)
  change wpAnyH _ _ _ _ _ _ _ (Act.put _ (some 68) _) _
  simp only [Act.put, List.setIfInBounds_toArray, List.set_cons_zero, List.set_cons_succ]
  refine wpAnyH_take (i := 25) (v := ?v24) rfl (by kernel_rfl) (by kernel_rfl) (by kernel_rfl) (fun _ _ _ h => h) (Or.inl ⟨by rfl, ?y24⟩) hH2 ?r24
  case y24 => (intro w0 hS0; (try dsimp only at hS0); go_simp <;> with_reducible rfl)
  change wpAnyH _ _ _ _ _ _ _ (Act.put _ (some 69) _) _
  simp only [Act.put, List.setIfInBounds_toArray, List.set_cons_zero, List.set_cons_succ]
  refine wpAnyH_take (i := 26) (v := ?v25) rfl (by kernel_rfl) (by kernel_rfl) (by kernel_rfl) (fun _ _ _ h => h) (Or.inl ⟨by rfl, ?y25⟩) hH2 ?r25
  case y25 => (intro w0 hS0; (try dsimp only at hS0); go_simp <;> with_reducible rfl)
  change wpAnyH _ _ _ _ _ _ _ (Act.put _ (some 70) _) _
  simp only [Act.put, List.setIfInBounds_toArray, List.set_cons_zero, List.set_cons_succ]
  refine wpAnyH_take (i := 27) (v := ?v26) rfl (by kernel_rfl) (by kernel_rfl) (by kernel_rfl) (fun _ _ _ h => h) (Or.inl ⟨by rfl, ?y26⟩) hH2 ?r26
  case y26 => (intro w0 hS0; (try dsimp only at hS0); go_simp <;> with_reducible rfl)
  change wpAnyH _ _ _ _ _ _ _ (Act.put _ (some 71) _) _
  simp only [Act.put, List.setIfInBounds_toArray, List.set_cons_zero, List.set_cons_succ]
  refine wpAnyH_take (i := 29) (v := ?v27) rfl (by kernel_rfl) (by kernel_rfl) (by kernel_rfl) (fun _ _ _ h => h) (Or.inl ⟨by rfl, ?y27⟩) hH2 ?r27
  case y27 => (intro w0 hS0; (try dsimp only at hS0); go_simp <;> with_reducible rfl)
  change wpAnyH _ _ _ _ _ _ _ (Act.put _ (some 73) _) _
  simp only [Act.put, List.setIfInBounds_toArray, List.set_cons_zero, List.set_cons_succ]
  refine wpAnyH_ready (rs := [28]) (by kernel_rfl) (by simp) ?_
  refine AllReadyH.cons rfl (fun K hK0 => ?_) AllReadyH.nil
  have hK := hK0.out
  clear hK0
  rw [if_pos (by rfl)]
  go_simp
  refine (num_is (Sign_any _ x 12 _ (by exact B2.ix) (by decide) HN4.out.2.2) HV.out.1).mono ?_
  rintro e w23 ⟨rfl, hb3⟩
  have B3 := B2.step hb3 rfl
  have bl3 := begun_then bl2 hb3 rfl rfl rfl rfl
  clear B2 bl2 hb3
  (try dsimp only)
  refine hK _ _ (B3.cells) (fun hH3 => ?_)
  clear hK K hH2
  (try simp only [Act.put, List.setIfInBounds_toArray, List.set_cons_zero, List.set_cons_succ])
  refine wpAnyH_ready (rs := [30]) (by kernel_rfl) (by simp) ?_
  refine AllReadyH.cons rfl (fun K hK0 => ?_) AllReadyH.nil
  have hK := hK0.out
  clear hK0
  rw [if_pos (by rfl)]
  go_simp
  refine (num_is (RSign_any _ x 24 _ (by exact B3.iy) (by decide) HK.out.2.2.1) HV.out.1).mono ?_
  rintro e w24 ⟨rfl, hb4⟩
  have B4 := B3.step hb4 rfl
  have bl4 := begun_then bl3 hb4 rfl rfl rfl rfl
  clear B3 bl3 hb4
  (try dsimp only)
  refine hK _ _ (B4.cells) (fun hH4 => ?_)
  clear hK K hH3
  (try simp only [Act.put, List.setIfInBounds_toArray, List.set_cons_zero, List.set_cons_succ])
  refine wpAnyH_take (i := 31) (v := ?v28) rfl (by kernel_rfl) (by kernel_rfl) (by kernel_rfl) (fun _ _ _ h => h) (Or.inl ⟨by rfl, ?y28⟩) hH4 ?r28
  case y28 => (intro w0 hS0; (try dsimp only at hS0); go_simp <;> with_reducible rfl)
  change wpAnyH _ _ _ _ _ _ _ (Act.put _ (some 75) _) _
  simp only [Act.put, List.setIfInBounds_toArray, List.set_cons_zero, List.set_cons_succ]
  refine wpAnyH_take (i := 32) (v := ?v29) rfl (by kernel_rfl) (by kernel_rfl) (by kernel_rfl) (fun _ _ _ h => h) (Or.inl ⟨by rfl, ?y29⟩) hH4 ?r29
  case y29 => (intro w0 hS0; (try dsimp only at hS0); go_simp <;> with_reducible rfl)
  change wpAnyH _ _ _ _ _ _ _ (Act.put _ (some 76) _) _
  simp only [Act.put, List.setIfInBounds_toArray, List.set_cons_zero, List.set_cons_succ]
  refine wpAnyH_take (i := 33) (v := ?v30) rfl (by kernel_rfl) (by kernel_rfl) (by kernel_rfl) (fun _ _ _ h => h) (Or.inl ⟨by rfl, ?y30⟩) hH4 ?r30
  case y30 => (intro w0 hS0; (try dsimp only at hS0); go_simp <;> with_reducible rfl)
  change wpAnyH _ _ _ _ _ _ _ (Act.put _ (some 77) _) _
  simp only [Act.put, List.setIfInBounds_toArray, List.set_cons_zero, List.set_cons_succ]
  refine wpAnyH_take (i := 34) (v := ?v31) rfl (by kernel_rfl) (by kernel_rfl) (by kernel_rfl) (fun _ _ _ h => h) (Or.inl ⟨by rfl, ?y31⟩) hH4 ?r31
  case y31 => (intro w0 hS0; (try dsimp only at hS0); go_simp <;> with_reducible rfl)
  change wpAnyH _ _ _ _ _ _ _ (Act.put _ (some 78) _) _
  simp only [Act.put, List.setIfInBounds_toArray, List.set_cons_zero, List.set_cons_succ]
  refine wpAnyH_take (i := 36) (v := ?v32) rfl (by kernel_rfl) (by kernel_rfl) (by kernel_rfl) (fun _ _ _ h => h) (Or.inl ⟨by rfl, ?y32⟩) hH4 ?r32
  case y32 => (intro w0 hS0; (try dsimp only at hS0); go_simp <;> with_reducible rfl)
  change wpAnyH _ _ _ _ _ _ _ (Act.put _ (some 80) _) _
  simp only [Act.put, List.setIfInBounds_toArray, List.set_cons_zero, List.set_cons_succ]
  refine wpAnyH_ready (rs := [35]) (by kernel_rfl) (by simp) ?_
  refine AllReadyH.cons rfl (fun K hK0 => ?_) AllReadyH.nil
  have hK := hK0.out
  clear hK0
  rw [if_pos (by rfl)]
  go_simp
  refine (odd_is _ x od _ (by exact B4.ix) HV.out.2.1).mono ?_
  rintro e w25 ⟨rfl, hb5⟩
  have B5 := B4.step hb5 rfl
  have bl5 := begun_then bl4 hb5 rfl rfl rfl rfl
  clear B4 bl4 hb5
  (try dsimp only)
  refine hK _ _ (B5.cells) (fun hH5 => ?_)
  clear hK K hH4
  (try simp only [Act.put, List.setIfInBounds_toArray, List.set_cons_zero, List.set_cons_succ])
  refine wpAnyH_ready (rs := [37]) (by kernel_rfl) (by simp) ?_
  refine AllReadyH.cons rfl (fun K hK0 => ?_) AllReadyH.nil
  have hK := hK0.out
  clear hK0
  rw [if_pos (by rfl)]
  go_simp
  refine (rodd_is _ x od _ (by exact B5.iy) HV.out.2.1).mono ?_
  rintro e w26 ⟨rfl, hb6⟩
  have B6 := B5.step hb6 rfl
  have bl6 := begun_then bl5 hb6 rfl rfl rfl rfl
  clear B5 bl5 hb6
  (try dsimp only)
  refine hK _ _ (B6.cells) (fun hH6 => ?_)
  clear hK K hH5
  (try simp only [Act.put, List.setIfInBounds_toArray, List.set_cons_zero, List.set_cons_succ])
  refine wpAnyH_take (i := 38) (v := ?v33) rfl (by kernel_rfl) (by kernel_rfl) (by kernel_rfl) (fun _ _ _ h => h) (Or.inl ⟨by rfl, ?y33⟩) hH6 ?r33
  case y33 => (intro w0 hS0; (try dsimp only at hS0); go_simp <;> with_reducible rfl)
  change wpAnyH _ _ _ _ _ _ _ (Act.put _ (some 82) _) _
  simp only [Act.put, List.setIfInBounds_toArray, List.set_cons_zero, List.set_cons_succ]
  refine wpAnyH_take (i := 39) (v := ?v34) rfl (by kernel_rfl) (by kernel_rfl) (by kernel_rfl) (fun _ _ _ h => h) (Or.inl ⟨by rfl, ?y34⟩) hH6 ?r34
  case y34 => (intro w0 hS0; (try dsimp only at hS0); go_simp <;> with_reducible rfl)
  change wpAnyH _ _ _ _ _ _ _ (Act.put _ (some 83) _) _
  simp only [Act.put, List.setIfInBounds_toArray, List.set_cons_zero, List.set_cons_succ]
  refine wpAnyH_take (i := 40) (v := ?v35) rfl (by kernel_rfl) (by kernel_rfl) (by kernel_rfl) (fun _ _ _ h => h) (Or.inl ⟨by rfl, ?y35⟩) hH6 ?r35
  case y35 => (intro w0 hS0; (try dsimp only at hS0); go_simp <;> with_reducible rfl)
  change wpAnyH _ _ _ _ _ _ _ (Act.put _ (some 84) _) _
  simp only [Act.put, List.setIfInBounds_toArray, List.set_cons_zero, List.set_cons_succ]
  refine wpAnyH_take (i := 41) (v := ?v36) rfl (by kernel_rfl) (by kernel_rfl) (by kernel_rfl) (fun _ _ _ h => h) (Or.inl ⟨by rfl, ?y36⟩) hH6 ?r36
  case y36 => (intro w0 hS0; (try dsimp only at hS0); go_simp <;> with_reducible rfl)
  change wpAnyH _ _ _ _ _ _ _ (Act.put _ (some 85) _) _
  simp only [Act.put, List.setIfInBounds_toArray, List.set_cons_zero, List.set_cons_succ]
  refine wpAnyH_take (i := 43) (v := ?v37) rfl (by kernel_rfl) (by kernel_rfl) (by kernel_rfl) (fun _ _ _ h => h) (Or.inl ⟨by rfl, ?y37⟩) hH6 ?r37
  case y37 => (intro w0 hS0; (try dsimp only at hS0); go_simp <;> with_reducible rfl)
  change wpAnyH _ _ _ _ _ _ _ (Act.put _ (some 87) _) _
  simp only [Act.put, List.setIfInBounds_toArray, List.set_cons_zero, List.set_cons_succ]
  refine wpAnyH_ready (rs := [42]) (by kernel_rfl) (by simp) ?_
  refine AllReadyH.cons rfl (fun K hK0 => ?_) AllReadyH.nil
  have hK := hK0.out
  clear hK0
  rw [if_pos (by rfl)]
  go_simp
  refine (num_is (Length_any _ x 12 _ (by exact B6.ix) (by decide) HN4.out.2.2) HV.out.2.2.1).mono ?_
  rintro e w27 ⟨rfl, hb7⟩
  have B7 := B6.step hb7 rfl
  have bl7 := begun_then bl6 hb7 rfl rfl rfl rfl
  clear B6 bl6 hb7
  (try dsimp only)
  refine hK _ _ (B7.cells) (fun hH7 => ?_)
  clear hK K hH6
  (try simp only [Act.put, List.setIfInBounds_toArray, List.set_cons_zero, List.set_cons_succ])
  refine wpAnyH_ready (rs := [44]) (by kernel_rfl) (by simp) ?_
  refine AllReadyH.cons rfl (fun K hK0 => ?_) AllReadyH.nil
  have hK := hK0.out
  clear hK0
  rw [if_pos (by rfl)]
  go_simp
  refine (num_is (RLength_any _ x 24 _ (by exact B7.iy) (by decide) (by decide) HK.out.2.2.1) HV.out.2.2.1).mono ?_
  rintro e w28 ⟨rfl, hb8⟩
  have B8 := B7.step hb8 rfl
  have bl8 := begun_then bl7 hb8 rfl rfl rfl rfl
  clear B7 bl7 hb8
  (try dsimp only)
  refine hK _ _ (B8.cells) (fun hH8 => ?_)
  clear hK K hH7
  (try simp only [Act.put, List.setIfInBounds_toArray, List.set_cons_zero, List.set_cons_succ])
  refine wpAnyH_take (i := 45) (v := ?v38) rfl (by kernel_rfl) (by kernel_rfl) (by kernel_rfl) (fun _ _ _ h => h) (Or.inl ⟨by rfl, ?y38⟩) hH8 ?r38
  case y38 => (intro w0 hS0; (try dsimp only at hS0); go_simp <;> with_reducible rfl)
  change wpAnyH _ _ _ _ _ _ _ (Act.put _ (some 89) _) _
  simp only [Act.put, List.setIfInBounds_toArray, List.set_cons_zero, List.set_cons_succ]
  refine wpAnyH_take (i := 46) (v := ?v39) rfl (by kernel_rfl) (by kernel_rfl) (by kernel_rfl) (fun _ _ _ h => h) (Or.inl ⟨by rfl, ?y39⟩) hH8 ?r39
  case y39 => (intro w0 hS0; (try dsimp only at hS0); go_simp <;> with_reducible rfl)
  change wpAnyH _ _ _ _ _ _ _ (Act.put _ (some 90) _) _
  simp only [Act.put, List.setIfInBounds_toArray, List.set_cons_zero, List.set_cons_succ]
  refine wpAnyH_take (i := 47) (v := ?v40) rfl (by kernel_rfl) (by kernel_rfl) (by kernel_rfl) (fun _ _ _ h => h) (Or.inl ⟨by rfl, ?y40⟩) hH8 ?r40
  case y40 => (intro w0 hS0; (try dsimp only at hS0); go_simp <;> with_reducible rfl)
  change wpAnyH _ _ _ _ _ _ _ (Act.put _ (some 91) _) _
  simp only [Act.put, List.setIfInBounds_toArray, List.set_cons_zero, List.set_cons_succ]
  refine wpAnyH_take (i := 48) (v := ?v41) rfl (by kernel_rfl) (by kernel_rfl) (by kernel_rfl) (fun _ _ _ h => h) (Or.inl ⟨by rfl, ?y41⟩) hH8 ?r41
  case y41 => (intro w0 hS0; (try dsimp only at hS0); go_simp <;> with_reducible rfl)
  change wpAnyH _ _ _ _ _ _ _ (Act.put _ (some 92) _) _
  simp only [Act.put, List.setIfInBounds_toArray, List.set_cons_zero, List.set_cons_succ]
  refine wpAnyH_take (i := 50) (v := ?v42) rfl (by kernel_rfl) (by kernel_rfl) (by kernel_rfl) (fun _ _ _ h => h) (Or.inl ⟨by rfl, ?y42⟩) hH8 ?r42
  case y42 => (intro w0 hS0; (try dsimp only at hS0); go_simp <;> with_reducible rfl)
  change wpAnyH _ _ _ _ _ _ _ (Act.put _ (some 94) _) _
  simp only [Act.put, List.setIfInBounds_toArray, List.set_cons_zero, List.set_cons_succ]
  refine wpAnyH_ready (rs := [49]) (by kernel_rfl) (by simp) ?_
  refine AllReadyH.cons rfl (fun K hK0 => ?_) AllReadyH.nil
  have hK := hK0.out
  clear hK0
  rw [if_pos (by rfl)]
  go_simp
  refine (num_is (Count_any _ x 12 _ (by exact B8.ix) (by decide) HN4.out.2.2) HV.out.2.2.2).mono ?_
  rintro e w29 ⟨rfl, hb9⟩
  have B9 := B8.step hb9 rfl
  have bl9 := begun_then bl8 hb9 rfl rfl rfl rfl
  clear B8 bl8 hb9
  (try dsimp only)
  refine hK _ _ (B9.cells) (fun hH9 => ?_)
  clear hK K hH8
  (try simp only [Act.put, List.setIfInBounds_toArray, List.set_cons_zero, List.set_cons_succ])
  refine wpAnyH_ready (rs := [51]) (by kernel_rfl) (by simp) ?_
  refine AllReadyH.cons rfl (fun K hK0 => ?_) AllReadyH.nil
  have hK := hK0.out
  clear hK0
  rw [if_pos (by rfl)]
  go_simp
  refine (num_is (RCount_any _ x 24 _ (by exact B9.iy) (by decide) (by decide) HK.out.2.2.1) HV.out.2.2.2).mono ?_
  rintro e w30 ⟨rfl, hb10⟩
  have B10 := B9.step hb10 rfl
  have bl10 := begun_then bl9 hb10 rfl rfl rfl rfl
  clear B9 bl9 hb10
  (try dsimp only)
  refine hK _ _ (B10.cells) (fun hH10 => ?_)
  clear hK K hH9
  (try simp only [Act.put, List.setIfInBounds_toArray, List.set_cons_zero, List.set_cons_succ])
  refine wpAnyH_take (i := 52) (v := ?v43) rfl (by kernel_rfl) (by kernel_rfl) (by kernel_rfl) (fun _ _ _ h => h) (Or.inl ⟨by rfl, ?y43⟩) hH10 ?r43
  case y43 => (intro w0 hS0; (try dsimp only at hS0); go_simp <;> with_reducible rfl)
  change wpAnyH _ _ _ _ _ _ _ (Act.put _ (some 96) _) _
  simp only [Act.put, List.setIfInBounds_toArray, List.set_cons_zero, List.set_cons_succ]
  refine wpAnyH_take (i := 53) (v := ?v44) rfl (by kernel_rfl) (by kernel_rfl) (by kernel_rfl) (fun _ _ _ h => h) (Or.inl ⟨by rfl, ?y44⟩) hH10 ?r44
  case y44 => (intro w0 hS0; (try dsimp only at hS0); go_simp <;> with_reducible rfl)
  change wpAnyH _ _ _ _ _ _ _ (Act.put _ (some 97) _) _
  simp only [Act.put, List.setIfInBounds_toArray, List.set_cons_zero, List.set_cons_succ]
  refine wpAnyH_take (i := 54) (v := ?v45) rfl (by kernel_rfl) (by kernel_rfl) (by kernel_rfl) (fun _ _ _ h => h) (Or.inl ⟨by rfl, ?y45⟩) hH10 ?r45
  case y45 => (intro w0 hS0; (try dsimp only at hS0); go_simp <;> with_reducible rfl)
  change wpAnyH _ _ _ _ _ _ _ (Act.put _ (some 98) _) _
  simp only [Act.put, List.setIfInBounds_toArray, List.set_cons_zero, List.set_cons_succ]
  refine wpAnyH_ready (rs := [55]) (by kernel_rfl) (by simp) ?_
  refine AllReadyH.cons rfl (fun K hK0 => ?_) AllReadyH.nil
  have hK := hK0.out
  clear hK0
  rw [if_pos (by rfl)]
  go_simp
  refine (awake_any _).mono ?_
  rintro e w31 ⟨rfl, hb11⟩
  have B11 := B10.step hb11 rfl
  have bl11 := begun_then bl10 hb11 rfl rfl rfl rfl
  clear B10 bl10 hb11
  (try dsimp only)
  refine hK _ _ (B11.cells) (fun hH11 => ?_)
  clear hK K hH10
  (try simp only [Act.put, List.setIfInBounds_toArray, List.set_cons_zero, List.set_cons_succ])
  refine wpAnyH_take (i := 56) (v := ?v46) rfl (by kernel_rfl) (by kernel_rfl) (by kernel_rfl) (fun _ _ _ h => h) (Or.inl ⟨by rfl, ?y46⟩) hH11 ?r46
  case y46 => (intro w0 hS0; (try dsimp only at hS0); go_simp <;> with_reducible rfl)
  change wpAnyH _ _ _ _ _ _ _ (Act.put _ (some 100) _) _
  simp only [Act.put, List.setIfInBounds_toArray, List.set_cons_zero, List.set_cons_succ]
  refine wpAnyH_take (i := 57) (v := ?v47) rfl (by kernel_rfl) (by kernel_rfl) (by kernel_rfl) (fun _ _ _ h => h) (Or.inl ⟨by rfl, ?y47⟩) hH11 ?r47
  case y47 => (intro w0 hS0; (try dsimp only at hS0); go_simp <;> with_reducible rfl)
  change wpAnyH _ _ _ _ _ _ _ (Act.put _ (some 4) _) _
  simp only [Act.put, List.setIfInBounds_toArray, List.set_cons_zero, List.set_cons_succ]
  refine wpAnyH_done (by kernel_rfl) ?_ _
  go_wp2
  go_ret
  exact ⟨rfl, bl11⟩
end Go.Proofs.Ytllkajlmfbikhaa
