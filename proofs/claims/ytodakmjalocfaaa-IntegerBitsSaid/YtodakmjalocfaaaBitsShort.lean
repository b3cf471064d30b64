/- The law IntegerBits for numbers of at most 8 limbs. -/
import Derived.Test.YtodakmjalocfaaaBitsLaw
namespace Go.Proofs.Ytodakmjalocfaaa
open Go.RowKit
set_option linter.unusedSimpArgs false

theorem of_fit {s : Bool} {xs : List Nat} (ho : Lm.Ok B32 xs) (hl : xs.length ≤ 8) : (ofSign s (Lm.val B32 xs)).natAbs < B32 ^ 8 := by
  have h := Nat.lt_of_lt_of_le (Lm.val_lt ho) (Nat.pow_le_pow_right B32_pos hl)
  unfold ofSign
  cases s <;> simp <;> exact h
theorem begunN2_size (w : World) (a b c d : Value) : (begunN2 w a b c d).heap.size = w.heap.size + 3 := by unfold begunN2; simp
theorem begunN2_x (w : World) (a b c d : Value) : Two (begunN2 w a b c d) w.heap.size a b := ((Two.new w a b _).alloc (by simp) _).alloc (by simp; omega) _
theorem begunN2_y (w : World) (a b c d : Value) : Two (begunN2 w a b c d) (w.heap.size + 1) c d := by
  have h := Two.new (w.alloc (.cells #[a, b] 24)) c d 24
  rw [size_alloc] at h
  exact h.alloc (by simp) _
theorem bit_is (v : Value) (z i : Int) (b : Bool) (m : Nat) (w : World) (h : IntAt w v z) (hz : z.natAbs < B32 ^ m) (hm : m ≤ 800000) (hi : i < 9223372036854775808) (hb : bitAll z i = b) : Calls Try.prog 53 #[v, .int .i64 i] w fun e w' => IsBool w w' b e := by
  rw [← hb]
  exact Bit_all v z i m w h hz hm hi
theorem rbit_is (v : Value) (z i : Int) (b : Bool) (m : Nat) (w : World) (h : RefAt w v z) (hm : m ≤ 900000) (hm0 : 0 < m) (hz : z.natAbs < BD ^ m) (hi : i < 9223372036854775808) (hb : bitAll z i = b) : Calls Try.prog 54 #[v, .int .i64 i] w fun e w' => IsBool w w' b e := by
  rw [← hb]
  exact RBit_all v z i m w h hm hm0 hz hi
/-- Two new variables. -/
theorem two_new (w : World) (a b c d : Value) (t u : TypeId) : Two ((w.alloc (.cells #[a, b] t)).alloc (.cells #[c, d] u)) w.heap.size a b ∧ Two ((w.alloc (.cells #[a, b] t)).alloc (.cells #[c, d] u)) (w.heap.size + 1) c d := by
  have h := Two.new (w.alloc (.cells #[a, b] t)) c d u
  rw [size_alloc] at h
  exact ⟨(Two.new w a b t).alloc (by simp) _, h⟩
theorem below_new2 (w : World) (o o' : Obj) : Below w.heap.size w ((w.alloc o).alloc o') := ((Below.refl _ _).alloc (Nat.le_refl _) _).alloc (by simp) _

set_option maxRecDepth 100000 in
set_option maxHeartbeats 8000000 in
theorem bits_short (op i : Int) (s1 : Bool) (A1 : Option Addr) (c1 : Nat) (xs1 : List Nat) (s2 : Bool) (A2 : Option Addr) (c2 : Nat) (xs2 : List Nat) (w : World) (hx : Nums w .u32 A1 xs1) (ox : Lm.Ok B32 xs1) (lx : xs1.length ≤ 8) (cx : xs1.length ≤ c1)
    (hy : Nums w .u32 A2 xs2) (oy : Lm.Ok B32 xs2) (ly : xs2.length ≤ 8) (cy : xs2.length ≤ c2) (hi : i < 9223372036854775808) :
    Calls Try.prog 7 #[.int .i64 op, .agg #[.bool s1, .slice A1 xs1.length c1], .agg #[.bool s2, .slice A2 xs2.length c2], .int .i64 i] w fun e w' => IsBool w w' true e := by
  have hbel := begunN2_below w (.bool s1) (.slice A1 xs1.length c1) (.bool s2) (.slice A2 xs2.length c2)
  have hsh : Calls Try.prog 14 #[.int .i64 8, .slice (some ⟨w.heap.size + 2, 0, none⟩) 2 2] (begunN2 w (.bool s1) (.slice A1 xs1.length c1) (.bool s2) (.slice A2 xs2.length c2)) fun e w' => IsBool (begunN2 w (.bool s1) (.slice A1 xs1.length c1) (.bool s2) (.slice A2 xs2.length c2)) w' true e := by
    have hr := row2 ((w.alloc (.cells #[.bool s1, .slice A1 xs1.length c1] 24)).alloc (.cells #[.bool s2, .slice A2 xs2.length c2] 24)) s1 s2 A1 A2 xs1.length xs2.length c1 c2 24
    rw [size_alloc, size_alloc] at hr
    have := shortN_any (w.heap.size + 2) 8 [⟨s1, A1, xs1.length, c1⟩, ⟨s2, A2, xs2.length, c2⟩] _ hr (by simp)
    rw [decide_eq_true (show AllS 8 [⟨s1, A1, xs1.length, c1⟩, ⟨s2, A2, xs2.length, c2⟩] from fun y hy => by simp at hy; rcases hy with rfl | rfl; exact lx; exact ly)] at this
    exact this
  have k0x := begunN2_x w (.bool s1) (.slice A1 xs1.length c1) (.bool s2) (.slice A2 xs2.length c2)
  have k0y := begunN2_y w (.bool s1) (.slice A1 xs1.length c1) (.bool s2) (.slice A2 xs2.length c2)
  have sz0 := begunN2_size w (.bool s1) (.slice A1 xs1.length c1) (.bool s2) (.slice A2 xs2.length c2)
  have H := Lib.hid (And.intro hsh (And.intro hbel (And.intro k0x (And.intro k0y sz0))))
  have hfx := of_fit (s := s1) ox lx
  have hfy := of_fit (s := s2) oy ly
  have HO := Lib.hid (And.intro hx (And.intro ox (And.intro lx (And.intro cx (And.intro hy (And.intro oy (And.intro ly cy)))))))
  clear hbel hsh k0x k0y sz0 hx ox lx cx hy oy ly cy
  go_enter Try.func7, Try.ntmps7
  go_wp2_with fail
  refine H.out.1.mono ?_
  rintro e w1 ⟨rfl, hb1⟩
  have sz1 : w.heap.size + 3 ≤ w1.heap.size := Nat.le_trans (Nat.le_of_eq H.out.2.2.2.2.symm) hb1.size
  have k1x := H.out.2.2.1.step hb1 rfl (by rw [H.out.2.2.2.2]; omega)
  have k1y := H.out.2.2.2.1.step hb1 rfl (by rw [H.out.2.2.2.2]; omega)
  have bl1 := below_then H.out.2.1 hb1
  have hof := Of_any s1 A1 c1 xs1 w1 (HO.out.1.below bl1) HO.out.2.1 (Nat.le_trans HO.out.2.2.1 (by decide)) HO.out.2.2.2.1
  obtain ⟨x, hxv⟩ : ∃ x, ofSign s1 (Lm.val B32 xs1) = x := ⟨_, rfl⟩
  obtain ⟨y, hyv⟩ : ∃ y, ofSign s2 (Lm.val B32 xs2) = y := ⟨_, rfl⟩
  rw [hxv] at hof hfx
  rw [hyv] at hfy
  have HF := Lib.hid (And.intro hof (And.intro hfx (And.intro hfy hyv)))
  obtain ⟨q0, q1⟩ := id k1x
  clear hof hfx hfy hxv hyv hb1
  go_wp2_with fail
  refine HF.out.1.mono ?_
  rintro e w2 ⟨v1, v2, rfl, ⟨p1, P1, d1, ys1, rfl, g1, l1⟩, ⟨p2, P2, d2, ys2, rfl, g2, l2⟩, hb2⟩
  have bl2 := below_then bl1 hb2
  have sz2 : w.heap.size + 3 ≤ w2.heap.size := Nat.le_trans sz1 hb2.size
  have k2y := k1y.step hb2 rfl (by omega)
  obtain ⟨W2, hW2⟩ : ∃ W2 : World, W2 = (w2.alloc (.cells #[.bool p1, .slice P1 ys1.length d1] 28)).alloc (.cells #[.bool p2, .slice P2 ys2.length d2] 31) := ⟨_, rfl⟩
  have hbW : Below w2.heap.size w2 W2 := by rw [hW2]; exact below_new2 _ _ _
  have t9 : Two W2 w2.heap.size (.bool p1) (.slice P1 ys1.length d1) := by rw [hW2]; exact (two_new w2 _ _ _ _ _ _).1
  have t10 : Two W2 (w2.heap.size + 1) (.bool p2) (.slice P2 ys2.length d2) := by rw [hW2]; exact (two_new w2 _ _ _ _ _ _).2
  have z2 : W2.heap.size = w2.heap.size + 2 := by rw [hW2]; simp
  have ix2 : IntAt W2 (.agg #[.bool p1, .slice P1 ys1.length d1]) x := ⟨p1, P1, d1, ys1, rfl, g1, l1.below hbW⟩
  have iy2 : RefAt W2 (.agg #[.bool p2, .slice P2 ys2.length d2]) x := ⟨p2, P2, d2, ys2, rfl, g2, l2.step hbW rfl⟩
  have kW := k2y.step hbW rfl (by omega)
  have blW := below_then bl2 hbW
  have hof := Of_any s2 A2 c2 xs2 W2 (HO.out.2.2.2.2.1.below blW) HO.out.2.2.2.2.2.1 (Nat.le_trans HO.out.2.2.2.2.2.2.1 (by decide)) HO.out.2.2.2.2.2.2.2
  rw [HF.out.2.2.2] at hof
  have H2 := Lib.hid (And.intro hof (And.intro blW (And.intro t9 (And.intro t10 (And.intro ix2 (And.intro iy2 (And.intro z2 sz2)))))))
  have HW := Lib.hid hW2
  clear hbW t9 t10 ix2 iy2 z2 hof blW bl2 bl1 k1x k1y k2y q0 q1 hb2 g1 l1 g2 l2 hW2 sz1 sz2
  go_upto_region 4 with fail
  rw [← HW.out]
  obtain ⟨q0, q1⟩ := id kW
  go_wp2_with fail
  refine H2.out.1.mono ?_
  rintro e w4 ⟨v3, v4, rfl, ⟨p3, P3, d3, ys3, rfl, g3, l3⟩, ⟨p4, P4, d4, ys4, rfl, g4, l4⟩, hb4⟩
  have sz4 : w2.heap.size + 2 ≤ w4.heap.size := Nat.le_trans (Nat.le_of_eq H2.out.2.2.2.2.2.2.1.symm) hb4.size
  have zW := H2.out.2.2.2.2.2.2.1
  obtain ⟨W4, hW4⟩ : ∃ W4 : World, W4 = (w4.alloc (.cells #[.bool p3, .slice P3 ys3.length d3] 28)).alloc (.cells #[.bool p4, .slice P4 ys4.length d4] 31) := ⟨_, rfl⟩
  have hbW : Below w4.heap.size w4 W4 := by rw [hW4]; exact below_new2 _ _ _
  have hb24 : Below W2.heap.size W2 W4 := below_then hb4 hbW
  have t11 : Two W4 w4.heap.size (.bool p3) (.slice P3 ys3.length d3) := by rw [hW4]; exact (two_new w4 _ _ _ _ _ _).1
  have t12 : Two W4 (w4.heap.size + 1) (.bool p4) (.slice P4 ys4.length d4) := by rw [hW4]; exact (two_new w4 _ _ _ _ _ _).2
  have z4 : W4.heap.size = w4.heap.size + 2 := by rw [hW4]; simp
  have T4 : Nums4 W4 w2.heap.size (w2.heap.size + 1) w4.heap.size (w4.heap.size + 1) (.bool p1) (.slice P1 ys1.length d1) (.bool p2) (.slice P2 ys2.length d2) (.bool p3) (.slice P3 ys3.length d3) (.bool p4) (.slice P4 ys4.length d4) x y :=
    ⟨by omega, by omega, by omega, by omega, H2.out.2.2.1.step hb24 rfl (by omega), H2.out.2.2.2.1.step hb24 rfl (by omega), t11, t12, H2.out.2.2.2.2.1.step hb24 rfl, H2.out.2.2.2.2.2.1.step hb24 rfl, ⟨p3, P3, d3, ys3, rfl, g3, l3.below hbW⟩, ⟨p4, P4, d4, ys4, rfl, g4, l4.step hbW rfl⟩⟩
  have bl4 := below_then H2.out.2.1 hb24
  have hfx := HF.out.2.1
  have hfy := HF.out.2.2.1
  have rfx : x.natAbs < BD ^ 16 := bd_of_b32 hfx
  have rfy : y.natAbs < BD ^ 16 := bd_of_b32 hfy
  obtain ⟨z, hz⟩ : ∃ z, boAns op x y = z := ⟨_, rfl⟩
  obtain ⟨k, hk⟩ : ∃ k, boErr op = k := ⟨_, rfl⟩
  have hfz : z.natAbs < B32 ^ 9 := by rw [← hz]; exact ans_size op x y 8 hfx hfy
  have hbo := Boole_all op _ _ x y 8 W4 T4.ix T4.iu (by decide) hfx hfy
  rw [hz, hk] at hbo
  obtain ⟨a0, a1, a2, a3, a4, a5, a6, a7⟩ := T4.cells
  have H4 := Lib.hid (And.intro hbo (And.intro T4 (And.intro bl4 (And.intro hfx (And.intro hfy (And.intro rfx (And.intro rfy (And.intro hz (And.intro hk hfz)))))))))
  have HW4 := Lib.hid hW4
  clear hbW hb24 t11 t12 z4 T4 bl4 hfx hfy rfx rfy hz hk hfz hbo q0 q1 kW hb4 g3 l3 g4 l4 hW4 zW sz4 H HO HF H2 HW
  go_upto_region 5 with fail
  rw [← HW4.out]
  go_wp2_with fail
  refine H4.out.1.mono ?_
  rintro e w5 ⟨v5, rfl, ⟨p5, P5, d5, ys5, rfl, g5, l5⟩, hb5⟩
  obtain ⟨W5, hW5⟩ : ∃ W5 : World, W5 = w5.alloc (.cells #[.bool p5, .slice P5 ys5.length d5] 28) := ⟨_, rfl⟩
  have hbW : Below w5.heap.size w5 W5 := by rw [hW5]; exact (Below.refl _ _).alloc (Nat.le_refl _) _
  have t13 : Two W5 w5.heap.size (.bool p5) (.slice P5 ys5.length d5) := by rw [hW5]; exact Two.new w5 _ _ _
  have z5 : W5.heap.size = w5.heap.size + 1 := by rw [hW5]; simp
  have T5 := (H4.out.2.1.step hb5 rfl).step hbW rfl
  have i5 : IntAt W5 (.agg #[.bool p5, .slice P5 ys5.length d5]) z := ⟨p5, P5, d5, ys5, rfl, g5, l5.below hbW⟩
  have bl5 := below_then (below_then H4.out.2.2.1 hb5) hbW
  have hro := RBoole_all op _ _ x y 16 W5 T5.iy T5.iv (by decide) (by decide) H4.out.2.2.2.2.2.1 H4.out.2.2.2.2.2.2.1
  rw [H4.out.2.2.2.2.2.2.2.1, H4.out.2.2.2.2.2.2.2.2.1] at hro
  clear a0 a1 a2 a3 a4 a5 a6 a7
  obtain ⟨a0, a1, a2, a3, a4, a5, a6, a7⟩ := T5.cells
  have H5 := Lib.hid (And.intro hro (And.intro T5 (And.intro t13 (And.intro z5 (And.intro i5 bl5)))))
  have HW5 := Lib.hid hW5
  clear hbW t13 z5 T5 i5 bl5 hro hW5 g5 l5 hb5
  go_upto_region 6 with fail
  rw [← HW5.out]
  go_wp2_with fail
  refine H5.out.1.mono ?_
  rintro e w6 ⟨v6, rfl, ⟨p6, P6, d6, ys6, rfl, g6, l6⟩, hb6⟩
  obtain ⟨W6, hW6⟩ : ∃ W6 : World, W6 = w6.alloc (.cells #[.bool p6, .slice P6 ys6.length d6] 31) := ⟨_, rfl⟩
  have hbW : Below w6.heap.size w6 W6 := by rw [hW6]; exact (Below.refl _ _).alloc (Nat.le_refl _) _
  have t15 : Two W6 w6.heap.size (.bool p6) (.slice P6 ys6.length d6) := by rw [hW6]; exact Two.new w6 _ _ _
  have z6 : W6.heap.size = w6.heap.size + 1 := by rw [hW6]; simp
  have hb56 : Below W5.heap.size W5 W6 := below_then hb6 hbW
  have T6 := H5.out.2.1.step hb56 rfl
  have sz6 : w5.heap.size + 1 ≤ w6.heap.size := Nat.le_trans (Nat.le_of_eq H5.out.2.2.2.1.symm) hb6.size
  have z5 := H5.out.2.2.2.1
  have Bs : Nums4 W6 w2.heap.size (w2.heap.size + 1) w5.heap.size w6.heap.size (.bool p1) (.slice P1 ys1.length d1) (.bool p2) (.slice P2 ys2.length d2) (.bool p5) (.slice P5 ys5.length d5) (.bool p6) (.slice P6 ys6.length d6) x z :=
    ⟨T6.l5, T6.l6, by omega, by omega, T6.c5, T6.c6, H5.out.2.2.1.step hb56 rfl (by omega), t15, T6.ix, T6.iy, H5.out.2.2.2.2.1.step hb56 rfl, ⟨p6, P6, d6, ys6, rfl, g6, l6.step hbW rfl⟩⟩
  have bls := below_then H5.out.2.2.2.2.2 hb56
  have HW6 := Lib.hid hW6
  have HK := Lib.hid (And.intro H4.out.2.2.2.1 (And.intro H4.out.2.2.2.2.2.1 (And.intro H4.out.2.2.2.2.2.2.2.2.2 (And.intro (bd_of_b32 H4.out.2.2.2.2.2.2.2.2.2) hi))))
  clear hbW t15 z6 hb56 T6 sz6 z5 hW6 g6 l6 hb6 a0 a1 a2 a3 a4 a5 a6 a7 H4 H5 HW4 HW5 hi
  obtain ⟨bt, hbt⟩ : ∃ b, bitAll x i = b := ⟨_, rfl⟩
  have HV := Lib.hid hbt
  clear hbt
  go_upto_region 7 with fail
  rw [← HW6.out]
  refine wp_region_held_drew (S := (fun w' => w'.cell? ⟨w2.heap.size, 0, none⟩ = some (.bool p1) ∧ w'.cell? ⟨w2.heap.size, 1, none⟩ = some (.slice P1 ys1.length d1) ∧ w'.cell? ⟨w2.heap.size + 1, 0, none⟩ = some (.bool p2) ∧ w'.cell? ⟨w2.heap.size + 1, 1, none⟩ = some (.slice P2 ys2.length d2) ∧ w'.cell? ⟨w5.heap.size, 0, none⟩ = some (.bool p5) ∧ w'.cell? ⟨w5.heap.size, 1, none⟩ = some (.slice P5 ys5.length d5) ∧ w'.cell? ⟨w6.heap.size, 0, none⟩ = some (.bool p6) ∧ w'.cell? ⟨w6.heap.size, 1, none⟩ = some (.slice P6 ys6.length d6))) (by kernel_rfl) (Bs.cells) (fun hH0 => ?_)
  refine wpAnyH_take (i := 0) (v := ?v1) rfl (by kernel_rfl) (by kernel_rfl) (by kernel_rfl) (fun _ _ _ h => h) (Or.inl ⟨by rfl, ?y1⟩) hH0 ?r1
  case y1 => (intro w0 hS0; (try dsimp only at hS0); go_simp <;> with_reducible rfl)
  change wpAnyH _ _ _ _ _ _ _ (Act.put _ (some 47) _) _
  simp only [Act.put, List.setIfInBounds_toArray, List.set_cons_zero, List.set_cons_succ]
  refine wpAnyH_take (i := 1) (v := ?v2) rfl (by kernel_rfl) (by kernel_rfl) (by kernel_rfl) (fun _ _ _ h => h) (Or.inl ⟨by rfl, ?y2⟩) hH0 ?r2
  case y2 => (intro w0 hS0; (try dsimp only at hS0); go_simp <;> with_reducible rfl)
  change wpAnyH _ _ _ _ _ _ _ (Act.put _ (some 48) _) _
  simp only [Act.put, List.setIfInBounds_toArray, List.set_cons_zero, List.set_cons_succ]
  refine wpAnyH_take (i := 2) (v := ?v3) rfl (by kernel_rfl) (by kernel_rfl) (by kernel_rfl) (fun _ _ _ h => h) (Or.inl ⟨by rfl, ?y3⟩) hH0 ?r3
  case y3 => (intro w0 hS0; (try dsimp only at hS0); go_simp <;> with_reducible rfl)
  change wpAnyH _ _ _ _ _ _ _ (Act.put _ (some 49) _) _
  simp only [Act.put, List.setIfInBounds_toArray, List.set_cons_zero, List.set_cons_succ]
  refine wpAnyH_take (i := 3) (v := ?v4) rfl (by kernel_rfl) (by kernel_rfl) (by kernel_rfl) (fun _ _ _ h => h) (Or.inl ⟨by rfl, ?y4⟩) hH0 ?r4
  case y4 => (intro w0 hS0; (try dsimp only at hS0); go_simp <;> with_reducible rfl)
  change wpAnyH _ _ _ _ _ _ _ (Act.put _ (some 50) _) _
  simp only [Act.put, List.setIfInBounds_toArray, List.set_cons_zero, List.set_cons_succ]
  refine wpAnyH_take (i := 4) (v := ?v5) rfl (by kernel_rfl) (by kernel_rfl) (by kernel_rfl) (fun _ _ _ h => h) (Or.inl ⟨by rfl, ?y5⟩) hH0 ?r5
  case y5 => (intro w0 hS0; (try dsimp only at hS0); go_simp <;> with_reducible rfl)
  change wpAnyH _ _ _ _ _ _ _ (Act.put _ (some 51) _) _
  simp only [Act.put, List.setIfInBounds_toArray, List.set_cons_zero, List.set_cons_succ]
  refine wpAnyH_take (i := 5) (v := ?v6) rfl (by kernel_rfl) (by kernel_rfl) (by kernel_rfl) (fun _ _ _ h => h) (Or.inl ⟨by rfl, ?y6⟩) hH0 ?r6
  case y6 => (intro w0 hS0; (try dsimp only at hS0); go_simp <;> with_reducible rfl)
  change wpAnyH _ _ _ _ _ _ _ (Act.put _ (some 52) _) _
  simp only [Act.put, List.setIfInBounds_toArray, List.set_cons_zero, List.set_cons_succ]
  refine wpAnyH_ready (rs := [6]) (by kernel_rfl) (by simp) ?_
  refine AllReadyH.cons rfl (fun K hK0 => ?_) AllReadyH.nil
  have hK := hK0.out
  clear hK0
  rw [if_pos (by rfl)]
  go_simp
  refine (is_true _ _ z 18 _ (by exact Bs.iu) (by exact Bs.iv) (by decide) (Nat.lt_of_lt_of_le HK.out.2.2.1 (Nat.pow_le_pow_right B32_pos (by decide))) HK.out.2.2.2.1).mono ?_
  rintro e w21 ⟨rfl, hb1⟩
  have B1 := Bs.step hb1 rfl
  have bl1 := begun_then bls hb1 rfl rfl rfl rfl
  clear Bs bls hb1
  (try dsimp only)
  refine hK _ _ (B1.cells) (fun hH1 => ?_)
  clear hK K hH0
  (try simp only [Act.put, List.setIfInBounds_toArray, List.set_cons_zero, List.set_cons_succ])
  refine wpAnyH_take (i := 7) (v := ?v7) rfl (by kernel_rfl) (by kernel_rfl) (by kernel_rfl) (fun _ _ _ h => h) (Or.inl ⟨by rfl, ?y7⟩) hH1 ?r7
  case y7 => (intro w0 hS0; (try dsimp only at hS0); go_simp <;> with_reducible rfl)
  change wpAnyH _ _ _ _ _ _ _ (Act.put _ (some 54) _) _
  simp only [Act.put, List.setIfInBounds_toArray, List.set_cons_zero, List.set_cons_succ]
  refine wpAnyH_take (i := 8) (v := ?v8) rfl (by kernel_rfl) (by kernel_rfl) (by kernel_rfl) (fun _ _ _ h => h) (Or.inl ⟨by rfl, ?y8⟩) hH1 ?r8
  case y8 => (intro w0 hS0; (try dsimp only at hS0); go_simp <;> with_reducible rfl)
  change wpAnyH _ _ _ _ _ _ _ (Act.put _ (some 55) _) _
  simp only [Act.put, List.setIfInBounds_toArray, List.set_cons_zero, List.set_cons_succ]
  refine wpAnyH_take (i := 9) (v := ?v9) rfl (by kernel_rfl) (by kernel_rfl) (by kernel_rfl) (fun _ _ _ h => h) (Or.inl ⟨by rfl, ?y9⟩) hH1 ?r9
  case y9 => (intro w0 hS0; (try dsimp only at hS0); go_simp <;> with_reducible rfl)
  change wpAnyH _ _ _ _ _ _ _ (Act.put _ (some 56) _) _
  simp only [Act.put, List.setIfInBounds_toArray, List.set_cons_zero, List.set_cons_succ]
  refine wpAnyH_take (i := 10) (v := ?v10) rfl (by kernel_rfl) (by kernel_rfl) (by kernel_rfl) (fun _ _ _ h => h) (Or.inl ⟨by rfl, ?y10⟩) hH1 ?r10
  case y10 => (intro w0 hS0; (try dsimp only at hS0); go_simp <;> with_reducible rfl)
  change wpAnyH _ _ _ _ _ _ _ (Act.put _ (some 57) _) _
  simp only [Act.put, List.setIfInBounds_toArray, List.set_cons_zero, List.set_cons_succ]
  refine wpAnyH_take (i := 12) (v := ?v11) rfl (by kernel_rfl) (by kernel_rfl) (by kernel_rfl) (fun _ _ _ h => h) (Or.inl ⟨by rfl, ?y11⟩) hH1 ?r11
  case y11 => (intro w0 hS0; (try dsimp only at hS0); go_simp <;> with_reducible rfl)
  change wpAnyH _ _ _ _ _ _ _ (Act.put _ (some 59) _) _
  simp only [Act.put, List.setIfInBounds_toArray, List.set_cons_zero, List.set_cons_succ]
  refine wpAnyH_take (i := 13) (v := ?v12) rfl (by kernel_rfl) (by kernel_rfl) (by kernel_rfl) (fun _ _ _ h => h) (Or.inl ⟨by rfl, ?y12⟩) hH1 ?r12
  case y12 => (intro w0 hS0; (try dsimp only at hS0); go_simp <;> with_reducible rfl)
  change wpAnyH _ _ _ _ _ _ _ (Act.put _ (some 60) _) _
  simp only [Act.put, List.setIfInBounds_toArray, List.set_cons_zero, List.set_cons_succ]
  refine wpAnyH_ready (rs := [11]) (by kernel_rfl) (by simp) ?_
  refine AllReadyH.cons rfl (fun K hK0 => ?_) AllReadyH.nil
  have hK := hK0.out
  clear hK0
  rw [if_pos (by rfl)]
  go_simp
  refine (bit_is _ x i bt 8 _ (by exact B1.ix) HK.out.1 (by decide) HK.out.2.2.2.2 HV.out).mono ?_
  rintro e w22 ⟨rfl, hb2⟩
  have B2 := B1.step hb2 rfl
  have bl2 := begun_then bl1 hb2 rfl rfl rfl rfl
  clear B1 bl1 hb2
  (try dsimp only)
  refine hK _ _ (B2.cells) (fun hH2 => ?_)
  clear hK K hH1
  (try simp only [Act.put, List.setIfInBounds_toArray, List.set_cons_zero, List.set_cons_succ])
  refine wpAnyH_ready (rs := [14]) (by kernel_rfl) (by simp) ?_
  refine AllReadyH.cons rfl (fun K hK0 => ?_) AllReadyH.nil
  have hK := hK0.out
  clear hK0
  rw [if_pos (by rfl)]
  go_simp
  refine (rbit_is _ x i bt 16 _ (by exact B2.iy) (by decide) (by decide) HK.out.2.1 HK.out.2.2.2.2 HV.out).mono ?_
  rintro e w23 ⟨rfl, hb3⟩
  have B3 := B2.step hb3 rfl
  have bl3 := begun_then bl2 hb3 rfl rfl rfl rfl
  clear B2 bl2 hb3
  (try dsimp only)
  refine hK _ _ (B3.cells) (fun hH3 => ?_)
  clear hK K hH2
  (try simp only [Act.put, List.setIfInBounds_toArray, List.set_cons_zero, List.set_cons_succ])
  refine wpAnyH_take (i := 15) (v := ?v13) rfl (by kernel_rfl) (by kernel_rfl) (by kernel_rfl) (fun _ _ _ h => h) (Or.inl ⟨by rfl, ?y13⟩) hH3 ?r13
  case y13 => (intro w0 hS0; (try dsimp only at hS0); go_simp <;> with_reducible rfl)
  change wpAnyH _ _ _ _ _ _ _ (Act.put _ (some 62) _) _
  simp only [Act.put, List.setIfInBounds_toArray, List.set_cons_zero, List.set_cons_succ]
  refine wpAnyH_take (i := 16) (v := ?v14) rfl (by kernel_rfl) (by kernel_rfl) (by kernel_rfl) (fun _ _ _ h => h) (Or.inl ⟨by rfl, ?y14⟩) hH3 ?r14
  case y14 => (intro w0 hS0; (try dsimp only at hS0); go_simp <;> with_reducible rfl)
  change wpAnyH _ _ _ _ _ _ _ (Act.put _ (some 63) _) _
  simp only [Act.put, List.setIfInBounds_toArray, List.set_cons_zero, List.set_cons_succ]
  refine wpAnyH_take (i := 17) (v := ?v15) rfl (by kernel_rfl) (by kernel_rfl) (by kernel_rfl) (fun _ _ _ h => h) (Or.inl ⟨by rfl, ?y15⟩) hH3 ?r15
  case y15 => (intro w0 hS0; (try dsimp only at hS0); go_simp <;> with_reducible rfl)
  change wpAnyH _ _ _ _ _ _ _ (Act.put _ (some 64) _) _
  simp only [Act.put, List.setIfInBounds_toArray, List.set_cons_zero, List.set_cons_succ]
  refine wpAnyH_ready (rs := [18]) (by kernel_rfl) (by simp) ?_
  refine AllReadyH.cons rfl (fun K hK0 => ?_) AllReadyH.nil
  have hK := hK0.out
  clear hK0
  rw [if_pos (by rfl)]
  go_simp
  refine (awake_any _).mono ?_
  rintro e w24 ⟨rfl, hb4⟩
  have B4 := B3.step hb4 rfl
  have bl4 := begun_then bl3 hb4 rfl rfl rfl rfl
  clear B3 bl3 hb4
  (try dsimp only)
  refine hK _ _ (B4.cells) (fun hH4 => ?_)
  clear hK K hH3
  (try simp only [Act.put, List.setIfInBounds_toArray, List.set_cons_zero, List.set_cons_succ])
  refine wpAnyH_take (i := 19) (v := ?v16) rfl (by kernel_rfl) (by kernel_rfl) (by kernel_rfl) (fun _ _ _ h => h) (Or.inl ⟨by rfl, ?y16⟩) hH4 ?r16
  case y16 => (intro w0 hS0; (try dsimp only at hS0); go_simp <;> with_reducible rfl)
  change wpAnyH _ _ _ _ _ _ _ (Act.put _ (some 66) _) _
  simp only [Act.put, List.setIfInBounds_toArray, List.set_cons_zero, List.set_cons_succ]
  refine wpAnyH_take (i := 20) (v := ?v17) rfl (by kernel_rfl) (by kernel_rfl) (by kernel_rfl) (fun _ _ _ h => h) (Or.inl ⟨by rfl, ?y17⟩) hH4 ?r17
  case y17 => (intro w0 hS0; (try dsimp only at hS0); go_simp <;> with_reducible rfl)
  change wpAnyH _ _ _ _ _ _ _ (Act.put _ (some 8) _) _
  simp only [Act.put, List.setIfInBounds_toArray, List.set_cons_zero, List.set_cons_succ]
  refine wpAnyH_done (by kernel_rfl) ?_ _
  go_wp2
  go_ret
  exact ⟨rfl, bl4⟩
end Go.Proofs.Ytodakmjalocfaaa
