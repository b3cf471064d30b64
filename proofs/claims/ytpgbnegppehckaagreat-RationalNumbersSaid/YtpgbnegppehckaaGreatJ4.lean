/- Joined texts: SAdd, SCmp, MixKit, Signs, SMul, SDiv, QInv, FKit, OwnC, TOf, QFloor. -/
import Derived.Test.YtpgbnegppehckaaGreatJ3
import Derived.Test.YtpgbnegppehckaaGreatJ2
import Derived.Test.YtpgbnegppehckaaGreatJ1
import Derived.Maps.AppendAt
set_option linter.unusedSimpArgs false
set_option maxRecDepth 100000
set_option maxHeartbeats 8000000
namespace Go.Proofs.YtpgbnegppehckaaGreat
open Go.RowKit
theorem SNew_some (v1 v2 : Value) (n d : Int) (m : Nat) (w : World) (h1 : RefAt w v1 n) (h2 : RefAt w v2 d) (hm : m ≤ 1000) (hn : n.natAbs < BD ^ m) (hd : d.natAbs < BD ^ m) (h0 : d ≠ 0) :
    Calls Tryz.prog 17 #[v1, v2] w fun e w' => IsSE w w' (Qx.num n d) (Qx.den n d) 0 e := by
  rcases Int.lt_or_gt_of_ne h0 with h | h
  · exact SNew_neg v1 v2 n d m w h1 h2 hm hn hd h
  · exact SNew_pos v1 v2 n d m w h1 h2 hm hn hd h
theorem Sover_any (v1 v2 : Value) (n d : Int) (m : Nat) (w : World) (h1 : RefAt w v1 n) (h2 : RefAt w v2 d) (hm : m ≤ 1000) (hn : n.natAbs < BD ^ m) (hd : d.natAbs < BD ^ m) (h0 : d ≠ 0) :
    Calls Tryz.prog 91 #[v1, v2] w fun e w' => IsS w w' (Qx.num n d) (Qx.den n d) e := by
  obtain ⟨b1, A1, c1, xs1, rfl, s1, l1⟩ := h1
  obtain ⟨b2, A2, c2, xs2, rfl, s2, l2⟩ := h2
  have hq := QW.beginS w b1 A1 xs1.length c1 b2 A2 xs2.length c2
  obtain ⟨W, hW⟩ : ∃ W : World, ((w.alloc (.cells #[.bool b1, .slice A1 xs1.length c1] 34)).alloc (.cells #[.bool b2, .slice A2 xs2.length c2] 34)).alloc (.cells #[.bool false, .slice none 0 0, .bool false, .slice none 0 0] 43) = W := ⟨_, rfl⟩
  rw [hW] at hq
  have H := Lib.hid (And.intro hq (SNew_some _ _ n d m W (sref_of s1 (l1.step hq.below rfl)) (sref_of s2 (l2.step hq.below rfl)) hm hn hd h0))
  have HW := Lib.hid hW
  obtain ⟨px0, px1⟩ := id hq.x
  obtain ⟨py0, py1⟩ := id hq.y
  clear hq hm hn hd h0 s1 l1 s2 l2 hW
  go_enter Tryz.func91, Tryz.ntmps91
  go_upto_region 1 with fail
  rw [HW.out]
  clear HW
  go_wp2_with fail
  refine H.out.2.mono ?_
  rintro e w1 ⟨v1, rfl, ⟨b3, A3, c3, xs3, b4, A4, c4, xs4, rfl, s3, l3, s4, l4, lo⟩, hb1⟩
  have hal : Below w1.heap.size w1 (w1.alloc (.cells #[.bool b3, .slice A3 xs3.length c3, .bool b4, .slice A4 xs4.length c4] 43)) := (Below.refl _ _).alloc (Nat.le_refl _) _
  have q2 := (H.out.1.step hb1 rfl rfl rfl rfl).step hal rfl rfl rfl rfl
  have z2 := Quad.new w1 (.bool b3) (.slice A3 xs3.length c3) (.bool b4) (.slice A4 xs4.length c4) 43
  have hz := (H.out.1.step hb1 rfl rfl rfl rfl).size
  have l3' := l3.step hal rfl
  have l4' := l4.step hal rfl
  obtain ⟨W2, hW2⟩ : ∃ W2 : World, W2 = w1.alloc (.cells #[.bool b3, .slice A3 xs3.length c3, .bool b4, .slice A4 xs4.length c4] 43) := ⟨_, rfl⟩
  obtain ⟨r, hr⟩ : ∃ r : Nat, r = w1.heap.size := ⟨_, rfl⟩
  rw [← hW2] at q2 z2 l3' l4'
  rw [← hr] at z2 hz
  have HF := Lib.hid (And.intro q2 (And.intro s3 (And.intro l3' (And.intro s4 (And.intro l4' lo)))))
  have HW2 := Lib.hid hW2
  have HR := Lib.hid hr
  obtain ⟨k0, k1, k2, k3⟩ := id q2.r.1
  obtain ⟨f0, f1, f2, f3⟩ := id q2.r.2
  obtain ⟨pz0, pz1, pz2, pz3⟩ := id z2
  clear q2 z2 l3 l4 l3' l4' s3 s4 lo hW2 hr hal hb1 px0 px1 py0 py1
  go_upto_region 2 with fail
  rw [← HW2.out, ← HR.out]
  clear HW2 HR
  go_wp2
  obtain ⟨q0, q1, q2, q3⟩ := Quad.put HF.out.1.r.1 (.bool b3) (.slice A3 xs3.length c3) (.bool b4) (.slice A4 xs4.length c4)
  unfold put4 at q0 q1 q2 q3
  refine bodyPost_ret (v := .agg #[.bool b3, .slice A3 xs3.length c3, .bool b4, .slice A4 xs4.length c4]) (by simp [results, Tryz.results91, go_sem, q0, q1, q2, q3]) rfl ?_
  exact s_stored HF.out.1.r HF.out.2.1 HF.out.2.2.1 HF.out.2.2.2.1 HF.out.2.2.2.2.1 HF.out.2.2.2.2.2 HF.out.1.below (by omega)
structure SC (w W : World) (b1 : Bool) (A1 : Option Addr) (n1 c1 : Nat) (b2 : Bool) (A2 : Option Addr) (n2 c2 : Nat) (b3 : Bool) (A3 : Option Addr) (n3 c3 : Nat) (b4 : Bool) (A4 : Option Addr) (n4 c4 : Nat) (x d y e : Int) : Prop where
  qx : Quad W w.heap.size (.bool b1) (.slice A1 n1 c1) (.bool b2) (.slice A2 n2 c2)
  qy : Quad W (w.heap.size + 1) (.bool b3) (.slice A3 n3 c3) (.bool b4) (.slice A4 n4 c4)
  r : ResF W (w.heap.size + 2)
  x1 : RefAt W (.agg #[.bool b1, .slice A1 n1 c1]) x
  x2 : RefAt W (.agg #[.bool b2, .slice A2 n2 c2]) d
  y1 : RefAt W (.agg #[.bool b3, .slice A3 n3 c3]) y
  y2 : RefAt W (.agg #[.bool b4, .slice A4 n4 c4]) e
  below : Below w.heap.size w W
  size : w.heap.size + 3 ≤ W.heap.size
theorem SC.step {w W0 W w1 : World} {b1 : Bool} {A1 : Option Addr} {n1 c1 : Nat} {b2 : Bool} {A2 : Option Addr} {n2 c2 : Nat} {b3 : Bool} {A3 : Option Addr} {n3 c3 : Nat} {b4 : Bool} {A4 : Option Addr} {n4 c4 : Nat} {x d y e : Int}
    (h : SC w W0 b1 A1 n1 c1 b2 A2 n2 c2 b3 A3 n3 c3 b4 A4 n4 c4 x d y e) (hb : Below W.heap.size W w1)
    (hh : W.heap = W0.heap) (ho : W.os = W0.os) (ht : W.tape = W0.tape) (hu : W.output = W0.output) : SC w w1 b1 A1 n1 c1 b2 A2 n2 c2 b3 A3 n3 c3 b4 A4 n4 c4 x d y e := by
  have hz := h.size
  exact ⟨h.qx.step hb hh (by omega), h.qy.step hb hh (by omega), h.r.step hb hh (by omega), h.x1.step hb hh, h.x2.step hb hh, h.y1.step hb hh, h.y2.step hb hh, begun_then h.below hb hh ho ht hu, by have := hb.size; rw [hh] at this; omega⟩
theorem SC.begin (w : World) {b1 : Bool} {A1 : Option Addr} {c1 : Nat} {xs1 : List Nat} {b2 : Bool} {A2 : Option Addr} {c2 : Nat} {xs2 : List Nat} {b3 : Bool} {A3 : Option Addr} {c3 : Nat} {xs3 : List Nat} {b4 : Bool} {A4 : Option Addr} {c4 : Nat} {xs4 : List Nat} {x d y e : Int}
    (s1 : SignOf b1 x) (l1 : Digs w A1 c1 xs1 x.natAbs) (s2 : SignOf b2 d) (l2 : Digs w A2 c2 xs2 d.natAbs) (s3 : SignOf b3 y) (l3 : Digs w A3 c3 xs3 y.natAbs) (s4 : SignOf b4 e) (l4 : Digs w A4 c4 xs4 e.natAbs) (t : TypeId) :
    SC w (((w.alloc (.cells #[.bool b1, .slice A1 xs1.length c1, .bool b2, .slice A2 xs2.length c2] t)).alloc (.cells #[.bool b3, .slice A3 xs3.length c3, .bool b4, .slice A4 xs4.length c4] t)).alloc (.cells #[.bool false, .slice none 0 0, .bool false, .slice none 0 0] t)) b1 A1 xs1.length c1 b2 A2 xs2.length c2 b3 A3 xs3.length c3 b4 A4 xs4.length c4 x d y e := by
  have hb1 := boxed2_below w (.cells #[.bool b1, .slice A1 xs1.length c1, .bool b2, .slice A2 xs2.length c2] t) (.cells #[.bool b3, .slice A3 xs3.length c3, .bool b4, .slice A4 xs4.length c4] t)
  have hb := hb1.alloc (by simp; omega) (.cells #[.bool false, .slice none 0 0, .bool false, .slice none 0 0] t)
  have hx := ((Quad.new w (.bool b1) (.slice A1 xs1.length c1) (.bool b2) (.slice A2 xs2.length c2) t).alloc (by simp) (.cells #[.bool b3, .slice A3 xs3.length c3, .bool b4, .slice A4 xs4.length c4] t)).alloc (by simp; omega) (.cells #[.bool false, .slice none 0 0, .bool false, .slice none 0 0] t)
  have hy := (Quad.new (w.alloc (.cells #[.bool b1, .slice A1 xs1.length c1, .bool b2, .slice A2 xs2.length c2] t)) (.bool b3) (.slice A3 xs3.length c3) (.bool b4) (.slice A4 xs4.length c4) t).alloc (by simp) (.cells #[.bool false, .slice none 0 0, .bool false, .slice none 0 0] t)
  have hr := ResF.new ((w.alloc (.cells #[.bool b1, .slice A1 xs1.length c1, .bool b2, .slice A2 xs2.length c2] t)).alloc (.cells #[.bool b3, .slice A3 xs3.length c3, .bool b4, .slice A4 xs4.length c4] t)) t
  rw [size_alloc] at hy
  rw [size_alloc, size_alloc] at hr
  exact ⟨hx, hy, hr, sref_of s1 (l1.step hb rfl), sref_of s2 (l2.step hb rfl), sref_of s3 (l3.step hb rfl), sref_of s4 (l4.step hb rfl), hb, by simp⟩
theorem fit_mulD {x y : Int} {m : Nat} (hx : x.natAbs < BD ^ m) (hy : y.natAbs < BD ^ m) : (x * y).natAbs < BD ^ (m + m) := by
  rw [Int.natAbs_mul, Nat.pow_add]
  exact Nat.mul_lt_mul'' hx hy
theorem fit_up {x : Int} {m : Nat} (hx : x.natAbs < BD ^ m) : x.natAbs < BD ^ (m + 1) := Nat.lt_of_lt_of_le hx (Nat.pow_le_pow_right (by decide) (Nat.le_succ m))
theorem fit_addD {x y : Int} {m : Nat} (hx : x.natAbs < BD ^ m) (hy : y.natAbs < BD ^ m) : (x + y).natAbs < BD ^ (m + 1) := by
  have h1 := Int.natAbs_add_le x y
  have h2 : 2 ≤ BD := by decide
  have h3 : BD ^ m * 2 ≤ BD ^ m * BD := Nat.mul_le_mul_left _ h2
  rw [Nat.pow_succ]
  omega
theorem SAdd_any (v1 v2 : Value) (x d y e : Int) (m : Nat) (w : World) (h1 : SAt w v1 x d) (h2 : SAt w v2 y e) (hm : m ≤ 400) (hx : x.natAbs < BD ^ m) (hd : d.natAbs < BD ^ m) (hy : y.natAbs < BD ^ m) (he : e.natAbs < BD ^ m) :
    Calls Tryz.prog 41 #[v1, v2] w fun f w' => IsS w w' (Qx.num (x * e + y * d) (d * e)) (Qx.den (x * e + y * d) (d * e)) f := by
  obtain ⟨b1, A1, c1, xs1, b2, A2, c2, xs2, rfl, s1, l1, s2, l2, lo⟩ := h1
  obtain ⟨b3, A3, c3, xs3, b4, A4, c4, xs4, rfl, s3, l3, s4, l4, lo'⟩ := h2
  have q0 := SC.begin w s1 l1 s2 l2 s3 l3 s4 l4 43
  obtain ⟨W, hW⟩ : ∃ W : World, ((w.alloc (.cells #[.bool b1, .slice A1 xs1.length c1, .bool b2, .slice A2 xs2.length c2] 43)).alloc (.cells #[.bool b3, .slice A3 xs3.length c3, .bool b4, .slice A4 xs4.length c4] 43)).alloc (.cells #[.bool false, .slice none 0 0, .bool false, .slice none 0 0] 43) = W := ⟨_, rfl⟩
  rw [hW] at q0
  have q1 := q0.step (Below.refl _ _).drew rfl rfl rfl rfl
  have hde : d * e ≠ 0 := Int.mul_ne_zero (by have := lo.pos; omega) (by have := lo'.pos; omega)
  have hm1 : m ≤ 400000 := by omega
  have hm2 : m + m ≤ 900000 := by omega
  have hm3 : m + m + 1 ≤ 1000 := by omega
  have H := Lib.hid q1
  have HA := Lib.hid (And.intro hm1 (And.intro hm2 (And.intro hm3 hde)))
  have HB := Lib.hid (And.intro hx (And.intro hd (And.intro hy he)))
  have HC := Lib.hid (And.intro (fit_mulD hx he) (And.intro (fit_mulD hy hd) (And.intro (fit_addD (fit_mulD hx he) (fit_mulD hy hd)) (fit_up (fit_mulD hd he)))))
  have HW := Lib.hid hW
  obtain ⟨px0, px1, px2, px3⟩ := id q0.qx
  obtain ⟨py0, py1, py2, py3⟩ := id q0.qy
  have hsz := q0.size
  clear q0 q1 hW s1 l1 s2 l2 lo s3 l3 s4 l4 lo' hm hx hd hy he hde hm1 hm2 hm3
  go_enter Tryz.func41, Tryz.ntmps41
  go_upto_region 1 with fail
  rw [HW.out]
  clear HW
  go_region_held3 (fun w' => ((w'.cell? ⟨w.heap.size, 0, none⟩ = some (.bool b1) ∧ w'.cell? ⟨w.heap.size, 1, none⟩ = some (.slice A1 xs1.length c1)) ∧ (w'.cell? ⟨w.heap.size, 2, none⟩ = some (.bool b2) ∧ w'.cell? ⟨w.heap.size, 3, none⟩ = some (.slice A2 xs2.length c2))) ∧ ((w'.cell? ⟨w.heap.size + 1, 0, none⟩ = some (.bool b3) ∧ w'.cell? ⟨w.heap.size + 1, 1, none⟩ = some (.slice A3 xs3.length c3)) ∧ (w'.cell? ⟨w.heap.size + 1, 2, none⟩ = some (.bool b4) ∧ w'.cell? ⟨w.heap.size + 1, 3, none⟩ = some (.slice A4 xs4.length c4))))
    (((try dsimp only); (repeat' apply And.intro) <;> (first | (with_reducible assumption) | (with_reducible refine cell_past4 ?_ ?_; omega; with_reducible assumption) | go_keep)))
    ((first
      | (go_at_call_of 92 b1; go_fit (RMul_any _ _ x e m m _ H.out.x1 H.out.y2 HA.out.1 HB.out.1 HA.out.1 HB.out.2.2.2); rintro f w3 ⟨v3, rfl, hv3, hb3⟩; have q3 := H.out.step hb3 rfl rfl rfl rfl; obtain ⟨b5, A5, c5, xs5, rfl, s5, l5⟩ := hv3; have i3 := sref_of s5 l5; obtain ⟨pa0, pa1, pa2, pa3⟩ := id q3.qx; obtain ⟨pb0, pb1, pb2, pb3⟩ := id q3.qy; clear hb3 s5 l5)
      | (go_at_call_of 92 b3; go_fit (RMul_any _ _ y d m m _ q3.y1 q3.x2 HA.out.1 HB.out.2.2.1 HA.out.1 HB.out.2.1); rintro f w4 ⟨v4, rfl, hv4, hb4⟩; have q4 := q3.step hb4 rfl rfl rfl rfl; have i4 := i3.step hb4 rfl; obtain ⟨b6, A6, c6, xs6, rfl, s6, l6⟩ := hv4; have j4 := sref_of s6 l6; obtain ⟨pa0, pa1, pa2, pa3⟩ := id q4.qx; obtain ⟨pb0, pb1, pb2, pb3⟩ := id q4.qy; clear hb4 s6 l6 q3 i3)
      | (go_at_call 88; go_fit (RAdd_any _ _ (x * e) (y * d) (m + m) _ i4 j4 HA.out.2.1 HC.out.1 HC.out.2.1); rintro f w5 ⟨v5, rfl, hv5, hb5⟩; have q5 := q4.step hb5 rfl rfl rfl rfl; obtain ⟨b7, A7, c7, xs7, rfl, s7, l7⟩ := hv5; have i5 := sref_of s7 l7; obtain ⟨pa0, pa1, pa2, pa3⟩ := id q5.qx; obtain ⟨pb0, pb1, pb2, pb3⟩ := id q5.qy; clear hb5 s7 l7 q4 i4 j4)
      | (go_at_call 92; go_fit (RMul_any _ _ d e m m _ q5.x2 q5.y2 HA.out.1 HB.out.2.1 HA.out.1 HB.out.2.2.2); rintro f w6 ⟨v6, rfl, hv6, hb6⟩; have q6 := q5.step hb6 rfl rfl rfl rfl; have i6 := i5.step hb6 rfl; obtain ⟨b8, A8, c8, xs8, rfl, s8, l8⟩ := hv6; have j6 := sref_of s8 l8; obtain ⟨pa0, pa1, pa2, pa3⟩ := id q6.qx; obtain ⟨pb0, pb1, pb2, pb3⟩ := id q6.qy; clear hb6 s8 l8 q5 i5)
      | (go_at_call 91; go_fit (Sover_any _ _ (x * e + y * d) (d * e) (m + m + 1) _ i6 j6 HA.out.2.2.1 HC.out.2.2.1 HC.out.2.2.2 HA.out.2.2.2); rintro f w7 ⟨v7, rfl, ⟨bn, An, cn, xn, bd, Ad, cd, xd, rfl, sn, ln, sd, ld, lo⟩, hb7⟩; have q7 := q6.step hb7 rfl rfl rfl rfl; obtain ⟨pa0, pa1, pa2, pa3⟩ := id q7.qx; obtain ⟨pb0, pb1, pb2, pb3⟩ := id q7.qy; obtain ⟨⟨k0, k1, k2, k3⟩, f0, f1, f2, f3⟩ := id q7.r; have HF := Lib.hid (And.intro q7 (And.intro sn (And.intro ln (And.intro sd (And.intro ld lo))))); clear hb7 q6 i6 j6 q7 sn ln sd ld lo)))
  go_wp2
  obtain ⟨q0, q1, q2, q3⟩ := Quad.put HF.out.1.r.1 (.bool bn) (.slice An xn.length cn) (.bool bd) (.slice Ad xd.length cd)
  unfold put4 at q0 q1 q2 q3
  refine bodyPost_ret (v := .agg #[.bool bn, .slice An xn.length cn, .bool bd, .slice Ad xd.length cd]) (by simp [results, Tryz.results41, go_sem, q0, q1, q2, q3]) rfl ?_
  exact s_stored HF.out.1.r HF.out.2.1 HF.out.2.2.1 HF.out.2.2.2.1 HF.out.2.2.2.2.1 HF.out.2.2.2.2.2 HF.out.1.below (by omega)
end Go.Proofs.YtpgbnegppehckaaGreat
namespace Go.Proofs.YtpgbnegppehckaaGreat
open Go.RowKit
theorem sat_of {w : World} {b1 : Bool} {A1 : Option Addr} {c1 : Nat} {xs1 : List Nat} {b2 : Bool} {A2 : Option Addr} {c2 : Nat} {xs2 : List Nat} {x d : Int}
    (h1 : RefAt w (.agg #[.bool b1, .slice A1 xs1.length c1]) x) (h2 : RefAt w (.agg #[.bool b2, .slice A2 xs2.length c2]) d) (lo : Qx.Low x d) : SAt w (.agg #[.bool b1, .slice A1 xs1.length c1, .bool b2, .slice A2 xs2.length c2]) x d := by
  obtain ⟨b1', A1', c1', xs1', e1, s1, l1⟩ := h1
  obtain ⟨b2', A2', c2', xs2', e2, s2, l2⟩ := h2
  simp only [Value.agg.injEq, Array.mk.injEq, List.cons.injEq, Value.bool.injEq, Value.slice.injEq, and_true] at e1 e2
  obtain ⟨rfl, rfl, e1l, rfl⟩ := e1
  obtain ⟨rfl, rfl, e2l, rfl⟩ := e2
  rw [e1l, e2l]
  exact ⟨_, _, _, _, _, _, _, _, rfl, s1, l1, s2, l2, lo⟩
theorem SSub_any (v1 v2 : Value) (x d y e : Int) (m : Nat) (w : World) (h1 : SAt w v1 x d) (h2 : SAt w v2 y e) (hm : m ≤ 400) (hx : x.natAbs < BD ^ m) (hd : d.natAbs < BD ^ m) (hy : y.natAbs < BD ^ m) (he : e.natAbs < BD ^ m) :
    Calls Tryz.prog 43 #[v1, v2] w fun f w' => IsS w w' (Qx.num (x * e + -y * d) (d * e)) (Qx.den (x * e + -y * d) (d * e)) f := by
  obtain ⟨b1, A1, c1, xs1, b2, A2, c2, xs2, rfl, s1, l1, s2, l2, lo⟩ := h1
  obtain ⟨b3, A3, c3, xs3, b4, A4, c4, xs4, rfl, s3, l3, s4, l4, lo'⟩ := h2
  have q0 := SC.begin w s1 l1 s2 l2 s3 l3 s4 l4 43
  obtain ⟨W, hW⟩ : ∃ W : World, ((w.alloc (.cells #[.bool b1, .slice A1 xs1.length c1, .bool b2, .slice A2 xs2.length c2] 43)).alloc (.cells #[.bool b3, .slice A3 xs3.length c3, .bool b4, .slice A4 xs4.length c4] 43)).alloc (.cells #[.bool false, .slice none 0 0, .bool false, .slice none 0 0] 43) = W := ⟨_, rfl⟩
  rw [hW] at q0
  have q1 := q0.step (Below.refl _ _).drew rfl rfl rfl rfl
  have hm1 : m ≤ 1000000 := by omega
  have hy' : (-y).natAbs < BD ^ m := by rw [Int.natAbs_neg]; exact hy
  have sy := sat_of q1.y1 q1.y2 lo'
  have H := Lib.hid (And.intro q1 (And.intro sy lo))
  have HB := Lib.hid (And.intro hm1 (And.intro hm (And.intro hx (And.intro hd (And.intro hy (And.intro hy' he))))))
  have HW := Lib.hid hW
  obtain ⟨px0, px1, px2, px3⟩ := id q0.qx
  obtain ⟨py0, py1, py2, py3⟩ := id q0.qy
  have hsz := q0.size
  clear q0 q1 hW s1 l1 s2 l2 lo s3 l3 s4 l4 lo' hm hx hd hy he hm1 hy' sy
  go_enter Tryz.func43, Tryz.ntmps43
  go_upto_region 1 with fail
  rw [HW.out]
  clear HW
  go_region_held3 (fun w' => ((w'.cell? ⟨w.heap.size, 0, none⟩ = some (.bool b1) ∧ w'.cell? ⟨w.heap.size, 1, none⟩ = some (.slice A1 xs1.length c1)) ∧ (w'.cell? ⟨w.heap.size, 2, none⟩ = some (.bool b2) ∧ w'.cell? ⟨w.heap.size, 3, none⟩ = some (.slice A2 xs2.length c2))) ∧ ((w'.cell? ⟨w.heap.size + 1, 0, none⟩ = some (.bool b3) ∧ w'.cell? ⟨w.heap.size + 1, 1, none⟩ = some (.slice A3 xs3.length c3)) ∧ (w'.cell? ⟨w.heap.size + 1, 2, none⟩ = some (.bool b4) ∧ w'.cell? ⟨w.heap.size + 1, 3, none⟩ = some (.slice A4 xs4.length c4))))
    (((try dsimp only); (repeat' apply And.intro) <;> (first | (with_reducible assumption) | (with_reducible refine cell_past4 ?_ ?_; omega; with_reducible assumption) | go_keep)))
    ((first
      | (go_at_call 37; go_fit (SNeg_any _ y e m _ H.out.2.1 HB.out.1 HB.out.2.2.2.2.1); rintro f w3 ⟨v3, rfl, hv3, hb3⟩; have q3 := H.out.1.step hb3 rfl rfl rfl rfl; obtain ⟨b5, A5, c5, xs5, b6, A6, c6, xs6, rfl, s5, l5, s6, l6, lo5⟩ := hv3; have i3 : SAt w3 (.agg #[.bool b5, .slice A5 xs5.length c5, .bool b6, .slice A6 xs6.length c6]) (-y) e := ⟨b5, A5, c5, xs5, b6, A6, c6, xs6, rfl, s5, l5, s6, l6, lo5⟩; obtain ⟨pa0, pa1, pa2, pa3⟩ := id q3.qx; obtain ⟨pb0, pb1, pb2, pb3⟩ := id q3.qy; clear hb3 s5 l5 s6 l6 lo5)
      | (go_at_call 41; go_fit (SAdd_any _ _ x d (-y) e m _ (sat_of q3.x1 q3.x2 H.out.2.2) i3 HB.out.2.1 HB.out.2.2.1 HB.out.2.2.2.1 HB.out.2.2.2.2.2.1 HB.out.2.2.2.2.2.2); rintro f w7 ⟨v7, rfl, ⟨bn, An, cn, xn, bd, Ad, cd, xd, rfl, sn, ln, sd, ld, lo⟩, hb7⟩; have q7 := q3.step hb7 rfl rfl rfl rfl; obtain ⟨pa0, pa1, pa2, pa3⟩ := id q7.qx; obtain ⟨pb0, pb1, pb2, pb3⟩ := id q7.qy; obtain ⟨⟨k0, k1, k2, k3⟩, f0, f1, f2, f3⟩ := id q7.r; have HF := Lib.hid (And.intro q7 (And.intro sn (And.intro ln (And.intro sd (And.intro ld lo))))); clear hb7 q3 i3 q7 sn ln sd ld lo)))
  go_wp2
  obtain ⟨q0, q1, q2, q3⟩ := Quad.put HF.out.1.r.1 (.bool bn) (.slice An xn.length cn) (.bool bd) (.slice Ad xd.length cd)
  unfold put4 at q0 q1 q2 q3
  refine bodyPost_ret (v := .agg #[.bool bn, .slice An xn.length cn, .bool bd, .slice Ad xd.length cd]) (by simp [results, Tryz.results43, go_sem, q0, q1, q2, q3]) rfl ?_
  exact s_stored HF.out.1.r HF.out.2.1 HF.out.2.2.1 HF.out.2.2.2.1 HF.out.2.2.2.2.1 HF.out.2.2.2.2.2 HF.out.1.below (by omega)
theorem ssign_cmp (a b : Int) : (a + -b).sign = cmpZ a b := by
  unfold cmpZ
  rcases Int.lt_trichotomy a b with h | h | h
  · rw [if_pos h]; exact Int.sign_eq_neg_one_of_neg (by omega)
  · subst h
    rw [if_neg (by omega), if_neg (by omega), Int.sign_eq_zero_iff_zero.2 (by omega)]
  · rw [if_neg (by omega), if_pos h]; exact Int.sign_eq_one_of_pos (by omega)
theorem fit_num {n d : Int} {K : Nat} (h : n.natAbs < K) : (Qx.num n d).natAbs < K := by
  unfold Qx.num
  rw [Int.natAbs_tdiv]
  refine Nat.lt_of_le_of_lt (Nat.div_le_self _ _) ?_
  split
  · rw [Int.natAbs_neg]; exact h
  · exact h
theorem SCmp_any (v1 v2 : Value) (x d y e : Int) (m : Nat) (w : World) (h1 : SAt w v1 x d) (h2 : SAt w v2 y e) (hm : m ≤ 400) (hx : x.natAbs < BD ^ m) (hd : d.natAbs < BD ^ m) (hy : y.natAbs < BD ^ m) (he : e.natAbs < BD ^ m) :
    Calls Tryz.prog 27 #[v1, v2] w fun f w' => IsNum w w' (cmpZ (x * e) (y * d)) f := by
  have hsg : (Qx.num (x * e + -y * d) (d * e)).sign = cmpZ (x * e) (y * d) := by
    obtain ⟨_, _, _, _, _, _, _, _, _, _, _, _, _, lo⟩ := h1
    obtain ⟨_, _, _, _, _, _, _, _, _, _, _, _, _, lo'⟩ := h2
    rw [Qx.sign_num (Int.mul_pos lo.pos lo'.pos), Int.neg_mul]
    exact ssign_cmp _ _
  have hfit : (Qx.num (x * e + -y * d) (d * e)).natAbs < BD ^ (m + m + 1) :=
    fit_num (fit_addD (fit_mulD hx he) (fit_mulD (by rw [Int.natAbs_neg]; exact hy) hd))
  have hmm : m + m + 1 ≤ 900000 := by omega
  obtain ⟨b1, A1, c1, xs1, b2, A2, c2, xs2, rfl, s1, l1, s2, l2, lo⟩ := h1
  obtain ⟨b3, A3, c3, xs3, b4, A4, c4, xs4, rfl, s3, l3, s4, l4, lo'⟩ := h2
  have hb := boxed2_below w (.cells #[.bool b1, .slice A1 xs1.length c1, .bool b2, .slice A2 xs2.length c2] 43) (.cells #[.bool b3, .slice A3 xs3.length c3, .bool b4, .slice A4 xs4.length c4] 43)
  have hX := (Quad.new w (.bool b1) (.slice A1 xs1.length c1) (.bool b2) (.slice A2 xs2.length c2) 43).alloc (by simp) (.cells #[.bool b3, .slice A3 xs3.length c3, .bool b4, .slice A4 xs4.length c4] 43)
  have hY := Quad.new (w.alloc (.cells #[.bool b1, .slice A1 xs1.length c1, .bool b2, .slice A2 xs2.length c2] 43)) (.bool b3) (.slice A3 xs3.length c3) (.bool b4) (.slice A4 xs4.length c4) 43
  rw [size_alloc] at hY
  obtain ⟨W, hW⟩ : ∃ W : World, (w.alloc (.cells #[.bool b1, .slice A1 xs1.length c1, .bool b2, .slice A2 xs2.length c2] 43)).alloc (.cells #[.bool b3, .slice A3 xs3.length c3, .bool b4, .slice A4 xs4.length c4] 43) = W := ⟨_, rfl⟩
  rw [hW] at hb hX hY
  have hsub := SSub_any _ _ x d y e m W ⟨b1, A1, c1, xs1, b2, A2, c2, xs2, rfl, s1, l1.step hb rfl, s2, l2.step hb rfl, lo⟩ ⟨b3, A3, c3, xs3, b4, A4, c4, xs4, rfl, s3, l3.step hb rfl, s4, l4.step hb rfl, lo'⟩ hm hx hd hy he
  have H := Lib.hid (And.intro hsub (And.intro hb (And.intro hsg (And.intro hfit hmm))))
  have HW := Lib.hid hW
  obtain ⟨px0, px1, px2, px3⟩ := id hX
  obtain ⟨py0, py1, py2, py3⟩ := id hY
  obtain ⟨c, hc⟩ : ∃ c, cmpZ (x * e) (y * d) = c := ⟨_, rfl⟩
  have HC := Lib.hid hc
  rw [hc]
  clear hsub hb hsg hfit hmm hX hY hW s1 l1 s2 l2 lo s3 l3 s4 l4 lo' hm hx hd hy he hc
  go_enter Tryz.func27, Tryz.ntmps27
  go_upto_region 1 with fail
  rw [HW.out]
  clear HW
  go_wp2_with fail
  refine H.out.1.mono ?_
  rintro f w1 ⟨v1, rfl, hv1, hb1⟩
  have hs := SSign_any v1 _ _ (m + m + 1) w1 hv1 H.out.2.2.2.2 H.out.2.2.2.1
  rw [H.out.2.2.1, HC.out] at hs
  have hb2 := below_then H.out.2.1 hb1
  have HS := Lib.hid (And.intro hs hb2)
  clear hs hb2 hb1 hv1 px0 px1 px2 px3 py0 py1 py2 py3
  go_wp2_with fail
  refine HS.out.1.mono ?_
  rintro f w2 ⟨rfl, hb3⟩
  go_wp2
  go_ret
  exact ⟨rfl, below_then HS.out.2 hb3⟩
end Go.Proofs.YtpgbnegppehckaaGreat
namespace Go.Proofs.YtpgbnegppehckaaGreat.RK
open Go.RowKit
def NAt (w : World) (v : Value) (z : Int) : Prop := ∃ s A c xs, v = .agg #[.bool s, .slice A (List.length xs) c] ∧ Nums w .u32 A xs ∧ Lm.Ok B32 xs ∧ xs.length ≤ c ∧ xs.length ≤ 400000 ∧ ofSign s (Lm.val B32 xs) = z
theorem NAt.step {W0 W w1 : World} {v : Value} {z : Int} (t : NAt W0 v z) (hb : Below W.heap.size W w1) (hh : W.heap = W0.heap) : NAt w1 v z := by
  have e : ∀ p, W.cell? p = W0.cell? p := fun p => by simp [World.cell?, hh]
  obtain ⟨s, A, c, xs, hv, hn, h1, h2, h3, h4⟩ := t
  refine ⟨s, A, c, xs, hv, fun hp => ?_, h1, h2, h3, h4⟩
  obtain ⟨ad, ea, hlt, hc⟩ := hn hp
  rw [← hh] at hlt
  exact ⟨ad, ea, Nat.lt_of_lt_of_le hlt hb.size, fun j hj => ((hb.cell (by rw [block_of_add]; exact hlt)).trans (e _)).trans (hc j hj)⟩
theorem of_is (v : Value) (z : Int) (w : World) (h : NAt w v z) : Calls Tryz.prog 15 #[v] w fun e w' => IsOf w w' z e := by
  obtain ⟨s, A, c, xs, rfl, hn, h1, h2, h3, rfl⟩ := h
  exact Of_any s A c xs w hn h1 h3 h2
theorem mrow2 (w : World) (s1 s2 : Bool) (A1 A2 : Option Addr) (n1 n2 c1 c2 : Nat) (t : TypeId) :
    NRow (w.alloc (.cells #[.bool s1, .slice A1 n1 c1, .bool s2, .slice A2 n2 c2] t)) w.heap.size [⟨s1, A1, n1, c1⟩, ⟨s2, A2, n2, c2⟩] :=
  ⟨by simp, fun i x hi => by
    match i, hi with
    | 0, hi => simp at hi; subst hi; constructor <;> go_simp
    | 1, hi => simp at hi; subst hi; constructor <;> go_simp⟩
theorem short2 (M : Nat) (s1 s2 : Bool) (A1 A2 : Option Addr) (n1 n2 c1 c2 : Nat) (w : World) (b : Bool) (hb : decide (n1 ≤ M ∧ n2 ≤ M) = b) :
    Calls Tryz.prog 12 #[.int .i64 (M : Int), .slice (some ⟨w.heap.size, 0, none⟩) 2 2] (w.alloc (.cells #[.bool s1, .slice A1 n1 c1, .bool s2, .slice A2 n2 c2] 24)) fun e w' => IsBool (w.alloc (.cells #[.bool s1, .slice A1 n1 c1, .bool s2, .slice A2 n2 c2] 24)) w' b e := by
  have h := shortN_any w.heap.size M [⟨s1, A1, n1, c1⟩, ⟨s2, A2, n2, c2⟩] _ (mrow2 w s1 s2 A1 A2 n1 n2 c1 c2 24) (by simp)
  rw [show decide (AllS M [⟨s1, A1, n1, c1⟩, ⟨s2, A2, n2, c2⟩]) = b by
    rw [← hb]
    refine decide_eq_decide.2 ⟨fun k => ⟨k _ (List.mem_cons_self ..), k _ (List.mem_cons_of_mem _ (List.mem_cons_self ..))⟩, fun k y hy => ?_⟩
    simp at hy
    rcases hy with rfl | rfl
    · exact k.1
    · exact k.2] at h
  exact h
theorem boxed2_b (w : World) (o o' : Obj) : Below w.heap.size w ((w.alloc o).alloc o') := ((Below.refl _ _).alloc (Nat.le_refl _) _).alloc (by simp) _
end Go.Proofs.YtpgbnegppehckaaGreat.RK
namespace Go.Proofs.YtpgbnegppehckaaGreat
open Go.RowKit
end Go.Proofs.YtpgbnegppehckaaGreat
namespace Go.Proofs.YtpgbnegppehckaaGreat
open Go.RowKit
end Go.Proofs.YtpgbnegppehckaaGreat
namespace Go.Proofs.YtpgbnegppehckaaGreat
open Go.RowKit
end Go.Proofs.YtpgbnegppehckaaGreat
namespace Go.Proofs.YtpgbnegppehckaaGreat
open Go.RowKit
end Go.Proofs.YtpgbnegppehckaaGreat
namespace Go.Proofs.YtpgbnegppehckaaGreat.FK
open Go.RowKit
structure FVar where
  here : Bool
  r : Nat
  b : Bool
  A : Option Addr
  n : Nat
  c : Nat
  b2 : Bool
  A2 : Option Addr
  n2 : Nat
  c2 : Nat
  z : Int
  d : Int
  k : Nat
def QAt (w : World) (v : Value) (x d : Int) : Prop := ∃ b A n c b2 A2 n2 c2, v = .agg #[.bool b, .slice A n c, .bool b2, .slice A2 n2 c2] ∧ RK.NAt w (.agg #[.bool b, .slice A n c]) x ∧ RK.NAt w (.agg #[.bool b2, .slice A2 n2 c2]) d
theorem QAt.step {W0 W w1 : World} {v : Value} {z d : Int} (t : QAt W0 v z d) (hb : Below W.heap.size W w1) (hh : W.heap = W0.heap) : QAt w1 v z d := by
  obtain ⟨b, A, n, c, b2, A2, n2, c2, rfl, h1, h2⟩ := t
  exact ⟨b, A, n, c, b2, A2, n2, c2, rfl, h1.step hb hh, h2.step hb hh⟩
def At (w : World) (t : FVar) : Prop := match t.k with
  | 0 => IntAt w (.agg #[.bool t.b, .slice t.A t.n t.c]) t.z
  | 1 => RefAt w (.agg #[.bool t.b, .slice t.A t.n t.c]) t.z
  | 2 => RK.NAt w (.agg #[.bool t.b, .slice t.A t.n t.c]) t.z
  | 3 => RatAt w (.agg #[.bool t.b, .slice t.A t.n t.c, .bool t.b2, .slice t.A2 t.n2 t.c2]) t.z t.d
  | 4 => SAt w (.agg #[.bool t.b, .slice t.A t.n t.c, .bool t.b2, .slice t.A2 t.n2 t.c2]) t.z t.d
  | 5 => QAt w (.agg #[.bool t.b, .slice t.A t.n t.c, .bool t.b2, .slice t.A2 t.n2 t.c2]) t.z t.d
  | _ => True
theorem At.step {t : FVar} {W0 W w1 : World} (h : At W0 t) (hb : Below W.heap.size W w1) (hh : W.heap = W0.heap) : At w1 t := by
  obtain ⟨here, r, b, A, n, c, b2, A2, n2, c2, z, d, k⟩ := t
  match k, h with
  | 0, h => exact IntAt.step h hb hh
  | 1, h => exact RefAt.step h hb hh
  | 2, h => exact RK.NAt.step h hb hh
  | 3, h => exact RatAt.step h hb hh
  | 4, h => exact SAt.step h hb hh
  | 5, h => exact QAt.step h hb hh
  | _ + 6, h => exact trivial
def Lies (w : World) (t : FVar) : Prop := match t.k with
  | 0 => Two w t.r (.bool t.b) (.slice t.A t.n t.c)
  | 1 => Two w t.r (.bool t.b) (.slice t.A t.n t.c)
  | 2 => Two w t.r (.bool t.b) (.slice t.A t.n t.c)
  | _ => Quad w t.r (.bool t.b) (.slice t.A t.n t.c) (.bool t.b2) (.slice t.A2 t.n2 t.c2)
theorem Lies.step {t : FVar} {W0 W w1 : World} (h : Lies W0 t) (hb : Below W.heap.size W w1) (hh : W.heap = W0.heap) (hl : t.r < W0.heap.size) : Lies w1 t := by
  obtain ⟨here, r, b, A, n, c, b2, A2, n2, c2, z, d, k⟩ := t
  match k, h with
  | 0, h => exact Two.step h hb hh hl
  | 1, h => exact Two.step h hb hh hl
  | 2, h => exact Two.step h hb hh hl
  | _ + 3, h => exact Quad.step h hb hh hl
structure IsF (w : World) (t : FVar) : Prop where
  lt : t.here = true → t.r < w.heap.size
  lies : t.here = true → Lies w t
  at_ : At w t
  frz : t.here = true → ∀ o, w.frozen? ⟨t.r, o, none⟩ = false
structure FVars (B : Nat) (w : World) (l : List FVar) : Prop where
  all : ∀ (i : Nat) (t : FVar), l[i]? = some t → IsF w t
  apart : ∀ (i j : Nat) (s t : FVar), i ≠ j → l[i]? = some s → l[j]? = some t → s.here = true → t.here = true → s.r ≠ t.r
  up : ∀ (i : Nat) (t : FVar), l[i]? = some t → t.here = true → B ≤ t.r
theorem IsF.step {W0 W w1 : World} {t : FVar} (h : IsF W0 t) (hb : Below W.heap.size W w1) (hh : W.heap = W0.heap) : IsF w1 t :=
  ⟨fun e => Nat.lt_of_lt_of_le (h.lt e) (by rw [← hh]; exact hb.size), fun e => (h.lies e).step hb hh (h.lt e), h.at_.step hb hh, fun e o =>
    (hb.frozen (p := ⟨t.r, o, none⟩) (by rw [hh]; exact h.lt e)).trans ((show W.frozen? ⟨t.r, o, none⟩ = W0.frozen? ⟨t.r, o, none⟩ by simp [World.frozen?, hh]).trans (h.frz e o))⟩
theorem FVars.step {B : Nat} {W0 W w1 : World} {l : List FVar} (h : FVars B W0 l) (hb : Below W.heap.size W w1) (hh : W.heap = W0.heap) : FVars B w1 l := ⟨fun i t ht => (h.all i t ht).step hb hh, h.apart, h.up⟩
theorem FVars.nil (B : Nat) (w : World) : FVars B w [] := ⟨fun i t ht => by simp at ht, fun i j s t _ ht => by simp at ht, fun i t ht => by simp at ht⟩
theorem FVars.cons {B : Nat} {w : World} {l : List FVar} {t : FVar} (h : FVars B w l) (ht : IsF w t) (hn : t.here = true → ∀ (i : Nat) (s : FVar), l[i]? = some s → s.here = true → s.r ≠ t.r) (hB : t.here = true → B ≤ t.r) : FVars B w (t :: l) := by
  refine ⟨fun i u hu => ?_, fun i j s u hij hs hu es eu => ?_, fun i u hu eu => ?_⟩
  · cases i with
    | zero => simp at hu; subst hu; exact ht
    | succ i => exact h.all i u (by simpa using hu)
  · cases i with
    | zero =>
      cases j with
      | zero => exact absurd rfl hij
      | succ j =>
        simp at hs hu
        subst hs
        exact fun e => hn es j u hu eu e.symm
    | succ i =>
      cases j with
      | zero =>
        simp at hs hu
        subst hu
        exact hn eu i s hs es
      | succ j => exact h.apart i j s u (fun e => hij (by rw [e])) (by simpa using hs) (by simpa using hu) es eu
  · cases i with
    | zero => simp at hu; subst hu; exact hB eu
    | succ i => exact h.up i u (by simpa using hu) eu
theorem FVars.told {B : Nat} {w : World} {l : List FVar} (h : FVars B w l) {t : FVar} (ht : At w t) (hf : t.here = false) : FVars B w (t :: l) :=
  h.cons ⟨fun e => (by rw [hf] at e; cases e), fun e => (by rw [hf] at e; cases e), ht, fun e => (by rw [hf] at e; cases e)⟩ (fun e => (by rw [hf] at e; cases e)) (fun e => (by rw [hf] at e; cases e))
theorem FVars.tail {B : Nat} {w : World} {l : List FVar} {a : FVar} (h : FVars B w (a :: l)) : FVars B w l :=
  ⟨fun i t ht => h.all (i + 1) t (by simpa using ht), fun i j s t hij hs ht => h.apart (i + 1) (j + 1) s t (by omega) (by simpa using hs) (by simpa using ht), fun i t ht => h.up (i + 1) t (by simpa using ht)⟩
theorem FVars.fresh {B : Nat} {w : World} {l : List FVar} (h : FVars B w l) (o : Obj) {t : FVar} (ht : IsF (w.alloc o) t) (hr : t.r = w.heap.size) (hz : B ≤ w.heap.size) : FVars B (w.alloc o) (t :: l) := by
  have hb : Below w.heap.size w (w.alloc o) := (Below.refl _ _).alloc (Nat.le_refl _) _
  refine (h.step hb rfl).cons ht (fun _ i s hs es => ?_) (fun _ => by rw [hr]; exact hz)
  have := (h.all i s hs).lt es
  omega
theorem frz_new (w : World) (l : Array Value) (T : TypeId) (o : Nat) : (w.alloc (.cells l T)).frozen? ⟨w.heap.size, o, none⟩ = false := by go_simp
theorem FVars.laid2 {B : Nat} {w : World} {l : List FVar} {t : FVar} (h : FVars B w (t :: l)) (T : TypeId) (hk : t.k < 3) (hz : B ≤ w.heap.size) : FVars B (w.alloc (.cells #[.bool t.b, .slice t.A t.n t.c] T)) (⟨true, w.heap.size, t.b, t.A, t.n, t.c, t.b2, t.A2, t.n2, t.c2, t.z, t.d, t.k⟩ :: l) := by
  have hb : Below w.heap.size w (w.alloc (.cells #[.bool t.b, .slice t.A t.n t.c] T)) := (Below.refl _ _).alloc (Nat.le_refl _) _
  have ha := (h.all 0 t rfl).at_
  refine h.tail.fresh _ ⟨fun _ => by simp, fun _ => ?_, ?_, fun _ o => frz_new _ _ _ _⟩ rfl hz
  · obtain ⟨here, r, b, A, n, c, b2, A2, n2, c2, z, d, k⟩ := t
    match k, hk with
    | 0, _ => exact Two.new w _ _ T
    | 1, _ => exact Two.new w _ _ T
    | 2, _ => exact Two.new w _ _ T
  · obtain ⟨here, r, b, A, n, c, b2, A2, n2, c2, z, d, k⟩ := t
    match k, ha with
    | 0, h => exact IntAt.step h hb rfl
    | 1, h => exact RefAt.step h hb rfl
    | 2, h => exact RK.NAt.step h hb rfl
    | k + 3, _ => exact absurd hk (by simp)
theorem FVars.laid4 {B : Nat} {w : World} {l : List FVar} {t : FVar} (h : FVars B w (t :: l)) (T : TypeId) (hk : 3 ≤ t.k) (hz : B ≤ w.heap.size) : FVars B (w.alloc (.cells #[.bool t.b, .slice t.A t.n t.c, .bool t.b2, .slice t.A2 t.n2 t.c2] T)) (⟨true, w.heap.size, t.b, t.A, t.n, t.c, t.b2, t.A2, t.n2, t.c2, t.z, t.d, t.k⟩ :: l) := by
  have hb : Below w.heap.size w (w.alloc (.cells #[.bool t.b, .slice t.A t.n t.c, .bool t.b2, .slice t.A2 t.n2 t.c2] T)) := (Below.refl _ _).alloc (Nat.le_refl _) _
  have ha := (h.all 0 t rfl).at_
  refine h.tail.fresh _ ⟨fun _ => by simp, fun _ => ?_, ?_, fun _ o => frz_new _ _ _ _⟩ rfl hz
  · obtain ⟨here, r, b, A, n, c, b2, A2, n2, c2, z, d, k⟩ := t
    match k, hk with
    | k + 3, _ => exact Quad.new w _ _ _ _ T
  · obtain ⟨here, r, b, A, n, c, b2, A2, n2, c2, z, d, k⟩ := t
    match k, ha, hk with
    | 3, h, _ => exact RatAt.step h hb rfl
    | 4, h, _ => exact SAt.step h hb rfl
    | 5, h, _ => exact QAt.step h hb rfl
    | k + 6, h, _ => exact trivial
def Safe (W W' : World) : Prop := ∀ k A xs, Nums W k A xs → Nums W' k A xs
theorem At.safe {t : FVar} {W W' : World} (h : At W t) (s : Safe W W') : At W' t := by
  obtain ⟨here, r, b, A, n, c, b2, A2, n2, c2, z, d, k⟩ := t
  match k, h with
  | 0, h =>
    obtain ⟨b, A, c, xs, e, s1, l1⟩ := (h : IntAt _ _ _)
    exact ⟨b, A, c, xs, e, s1, l1.1, s _ _ _ l1.2.1, l1.2.2⟩
  | 1, h =>
    obtain ⟨b, A, c, xs, e, s1, l1⟩ := (h : RefAt _ _ _)
    exact ⟨b, A, c, xs, e, s1, l1.1, s _ _ _ l1.2.1, l1.2.2⟩
  | 2, h =>
    obtain ⟨b, A, c, xs, e, n1, l1⟩ := (h : RK.NAt _ _ _)
    exact ⟨b, A, c, xs, e, s _ _ _ n1, l1⟩
  | 3, h =>
    obtain ⟨b1, A1, c1, xs1, b2, A2, c2, xs2, e, s1, l1, s2, l2, lo⟩ := (h : RatAt _ _ _ _)
    exact ⟨b1, A1, c1, xs1, b2, A2, c2, xs2, e, s1, ⟨l1.1, s _ _ _ l1.2.1, l1.2.2⟩, s2, ⟨l2.1, s _ _ _ l2.2.1, l2.2.2⟩, lo⟩
  | 4, h =>
    obtain ⟨b1, A1, c1, xs1, b2, A2, c2, xs2, e, s1, l1, s2, l2, lo⟩ := (h : SAt _ _ _ _)
    exact ⟨b1, A1, c1, xs1, b2, A2, c2, xs2, e, s1, ⟨l1.1, s _ _ _ l1.2.1, l1.2.2⟩, s2, ⟨l2.1, s _ _ _ l2.2.1, l2.2.2⟩, lo⟩
  | 5, h =>
    obtain ⟨b, A, n, c, b2, A2, n2, c2, e, ⟨q1, q2, q3, q4, q5, q6, q7⟩, ⟨p1, p2, p3, p4, p5, p6, p7⟩⟩ := (h : QAt _ _ _ _)
    exact ⟨b, A, n, c, b2, A2, n2, c2, e, ⟨q1, q2, q3, q4, q5, s _ _ _ q6, q7⟩, ⟨p1, p2, p3, p4, p5, s _ _ _ p6, p7⟩⟩
  | _ + 6, h => exact trivial
def put2 (w : World) (r : Nat) (a b : Value) : World := (w.setCell ⟨r, 0, none⟩ a).setCell ⟨r, 1, none⟩ b
theorem put2_safe {W : World} {r : Nat} {b : Bool} {A : Option Addr} {n c : Nat} (t : Two W r (.bool b) (.slice A n c)) (u v : Value) : Safe W (put2 W r u v) := fun k A' xs h => by
  unfold put2
  have h0 := t.1; have h1 := t.2
  refine (h.store h0 (fun _ e => by cases e) u).store (u := .slice A n c) ?_ (fun _ e => by cases e) v
  go_simp
theorem put4_safe {W : World} {r : Nat} {b b2 : Bool} {A A2 : Option Addr} {n c n2 c2 : Nat} (t : Quad W r (.bool b) (.slice A n c) (.bool b2) (.slice A2 n2 c2)) (u v x y : Value) : Safe W (put4 W r u v x y) := fun _ _ _ h => Nums.put4 h t _ _ _ _
theorem put2_frz (W : World) (r : Nat) (u v : Value) (q : Addr) : (put2 W r u v).frozen? q = W.frozen? q := by unfold put2; rw [frz2, frz2]
theorem put4_frz (W : World) (r : Nat) (u v x y : Value) (q : Addr) : (put4 W r u v x y).frozen? q = W.frozen? q := by unfold put4; rw [frz2, frz2, frz2, frz2]
theorem put2_size (W : World) (r : Nat) (u v : Value) : (put2 W r u v).heap.size = W.heap.size := by unfold put2; simp
theorem put4_size (W : World) (r : Nat) (u v x y : Value) : (put4 W r u v x y).heap.size = W.heap.size := by unfold put4; simp
theorem put2_far (W : World) (r : Nat) (u v : Value) (q : Nat) (o : Nat) (hne : r ≠ q) : (put2 W r u v).cell? ⟨q, o, none⟩ = W.cell? ⟨q, o, none⟩ := by
  unfold put2
  rw [World.cell?_setCell_far _ _ _ _ hne, World.cell?_setCell_far _ _ _ _ hne]
theorem put4_far (W : World) (r : Nat) (u v x y : Value) (q : Nat) (o : Nat) (hne : r ≠ q) : (put4 W r u v x y).cell? ⟨q, o, none⟩ = W.cell? ⟨q, o, none⟩ := by
  unfold put4
  rw [World.cell?_setCell_far _ _ _ _ hne, World.cell?_setCell_far _ _ _ _ hne, World.cell?_setCell_far _ _ _ _ hne, World.cell?_setCell_far _ _ _ _ hne]
theorem Lies.far {t : FVar} {W W' : World} (h : Lies W t) (k : ∀ o, W'.cell? ⟨t.r, o, none⟩ = W.cell? ⟨t.r, o, none⟩) : Lies W' t := by
  obtain ⟨here, r, b, A, n, c, b2, A2, n2, c2, z, d, kk⟩ := t
  match kk, h with
  | 0, h => exact ⟨(k 0).trans (h : Two _ _ _ _).1, (k 1).trans (h : Two _ _ _ _).2⟩
  | 1, h => exact ⟨(k 0).trans (h : Two _ _ _ _).1, (k 1).trans (h : Two _ _ _ _).2⟩
  | 2, h => exact ⟨(k 0).trans (h : Two _ _ _ _).1, (k 1).trans (h : Two _ _ _ _).2⟩
  | _ + 3, h => exact ⟨(k 0).trans (h : Quad _ _ _ _ _ _).c0, (k 1).trans (h : Quad _ _ _ _ _ _).c1, (k 2).trans (h : Quad _ _ _ _ _ _).c2, (k 3).trans (h : Quad _ _ _ _ _ _).c3⟩
theorem FVars.over {B : Nat} {W W' : World} {l : List FVar} (h : FVars B W l) (j : Nat) (s t : FVar) (hs : l[j]? = some s) (hh : s.here = true) (hr : t.r = s.r) (hz : W'.heap.size = W.heap.size) (hsafe : Safe W W') (hf : ∀ q, W'.frozen? q = W.frozen? q)
    (hfar : ∀ q o, s.r ≠ q → W'.cell? ⟨q, o, none⟩ = W.cell? ⟨q, o, none⟩) (ha : At W' t) (hl : Lies W' t) : FVars B W' (l.set j t) := by
  have hj : j < l.length := by
    rcases Nat.lt_or_ge j l.length with h | h
    · exact h
    · rw [List.getElem?_eq_none h] at hs; cases hs
  have hat : ∀ i u, (l.set j t)[i]? = some u → (i = j ∧ u = t) ∨ (i ≠ j ∧ l[i]? = some u) := fun i u hu => by
    by_cases e : i = j
    · subst e
      rw [List.getElem?_set_self hj] at hu
      injection hu with hu
      exact .inl ⟨rfl, hu.symm⟩
    · rw [List.getElem?_set_ne (fun h => e h.symm)] at hu
      exact .inr ⟨e, hu⟩
  refine ⟨fun i u hu => ?_, fun i k a b hik hia hkb ea eb => ?_, fun i u hu eu => ?_⟩
  · rcases hat i u hu with ⟨_, rfl⟩ | ⟨e, hu⟩
    · exact ⟨fun _ => by rw [hz, hr]; exact (h.all j s hs).lt hh, fun _ => hl, ha, fun _ o => by rw [hf, hr]; exact (h.all j s hs).frz hh o⟩
    · have q := h.all i u hu
      exact ⟨fun e => by rw [hz]; exact q.lt e, fun eu => (q.lies eu).far fun o => hfar _ _ (h.apart j i s u (fun x => e x.symm) hs hu hh eu), q.at_.safe hsafe, fun e o => by rw [hf]; exact q.frz e o⟩
  · rcases hat i a hia with ⟨rfl, rfl⟩ | ⟨e1, h1⟩
    · rcases hat k b hkb with ⟨rfl, _⟩ | ⟨e2, h2⟩
      · exact absurd rfl hik
      · rw [hr]; exact h.apart i k s b hik hs h2 hh eb
    · rcases hat k b hkb with ⟨rfl, rfl⟩ | ⟨e2, h2⟩
      · rw [hr]; exact h.apart i k a s hik h1 hs ea hh
      · exact h.apart i k a b hik h1 h2 ea eb
  · rcases hat i u hu with ⟨_, rfl⟩ | ⟨_, hu⟩
    · rw [hr]; exact h.up j s hs hh
    · exact h.up i u hu eu
theorem two_of {w : World} {t : FVar} (h : Lies w t) (hk : t.k < 3) : Two w t.r (.bool t.b) (.slice t.A t.n t.c) := by
  obtain ⟨here, r, b, A, n, c, b2, A2, n2, c2, z, d, k⟩ := t
  match k, hk, h with
  | 0, _, h => exact h
  | 1, _, h => exact h
  | 2, _, h => exact h
theorem quad_of {w : World} {t : FVar} (h : Lies w t) (hk : 3 ≤ t.k) : Quad w t.r (.bool t.b) (.slice t.A t.n t.c) (.bool t.b2) (.slice t.A2 t.n2 t.c2) := by
  obtain ⟨here, r, b, A, n, c, b2, A2, n2, c2, z, d, k⟩ := t
  match k, hk, h with
  | k + 3, _, h => exact h
theorem of_two {w : World} {t : FVar} (h : Two w t.r (.bool t.b) (.slice t.A t.n t.c)) (hk : t.k < 3) : Lies w t := by
  obtain ⟨here, r, b, A, n, c, b2, A2, n2, c2, z, d, k⟩ := t
  match k, hk, h with
  | 0, _, h => exact h
  | 1, _, h => exact h
  | 2, _, h => exact h
theorem of_quad {w : World} {t : FVar} (h : Quad w t.r (.bool t.b) (.slice t.A t.n t.c) (.bool t.b2) (.slice t.A2 t.n2 t.c2)) (hk : 3 ≤ t.k) : Lies w t := by
  obtain ⟨here, r, b, A, n, c, b2, A2, n2, c2, z, d, k⟩ := t
  match k, hk, h with
  | k + 3, _, h => exact h
theorem At.put {w : World} {t : FVar} (h : At w t) (r : Nat) : At w ⟨true, r, t.b, t.A, t.n, t.c, t.b2, t.A2, t.n2, t.c2, t.z, t.d, t.k⟩ := h
theorem FVars.over2 {B : Nat} {W : World} {l : List FVar} (h : FVars B W l) (j : Nat) {s t : FVar} (hs : l[j]? = some s) (hh : s.here = true) (hk : s.k < 3) (htk : t.k < 3) (ha : At W t) :
    FVars B (put2 W s.r (.bool t.b) (.slice t.A t.n t.c)) (l.set j ⟨true, s.r, t.b, t.A, t.n, t.c, t.b2, t.A2, t.n2, t.c2, t.z, t.d, t.k⟩) := by
  have tw := two_of ((h.all j s hs).lies hh) hk
  have sf := put2_safe tw (.bool t.b) (.slice t.A t.n t.c)
  exact h.over j s _ hs hh rfl (put2_size _ _ _ _) sf (put2_frz _ _ _ _) (fun q o hne => put2_far _ _ _ _ _ _ hne) ((ha.safe sf).put _) (of_two (tw.stored _ _) htk)
theorem FVars.over4 {B : Nat} {W : World} {l : List FVar} (h : FVars B W l) (j : Nat) {s t : FVar} (hs : l[j]? = some s) (hh : s.here = true) (hk : 3 ≤ s.k) (htk : 3 ≤ t.k) (ha : At W t) :
    FVars B (put4 W s.r (.bool t.b) (.slice t.A t.n t.c) (.bool t.b2) (.slice t.A2 t.n2 t.c2)) (l.set j ⟨true, s.r, t.b, t.A, t.n, t.c, t.b2, t.A2, t.n2, t.c2, t.z, t.d, t.k⟩) := by
  have tw := quad_of ((h.all j s hs).lies hh) hk
  have sf := put4_safe tw (.bool t.b) (.slice t.A t.n t.c) (.bool t.b2) (.slice t.A2 t.n2 t.c2)
  exact h.over j s _ hs hh rfl (put4_size _ _ _ _ _ _) sf (put4_frz _ _ _ _ _ _) (fun q o hne => put4_far _ _ _ _ _ _ _ _ hne) ((ha.safe sf).put _) (of_quad (Quad.put tw _ _ _ _) htk)
theorem FVars.swap {B : Nat} {w : World} {l : List FVar} {a b : FVar} (h : FVars B w (a :: b :: l)) : FVars B w (b :: a :: l) := by
  have hsw : ∀ i t, (b :: a :: l)[i]? = some t → ∃ j, (a :: b :: l)[j]? = some t ∧ (j = if i = 0 then 1 else if i = 1 then 0 else i) := fun i t ht => by
    match i, ht with
    | 0, ht => exact ⟨1, ht, rfl⟩
    | 1, ht => exact ⟨0, ht, rfl⟩
    | i + 2, ht => exact ⟨i + 2, ht, by rw [if_neg (by omega), if_neg (by omega)]⟩
  refine ⟨fun i t ht => ?_, fun i j s t hij hs ht => ?_, fun i t ht => ?_⟩
  · obtain ⟨j, hj, _⟩ := hsw i t ht
    exact h.all j t hj
  · obtain ⟨i', hi, ei⟩ := hsw i s hs
    obtain ⟨j', hj, ej⟩ := hsw j t ht
    refine h.apart i' j' s t ?_ hi hj
    rw [ei, ej]
    split <;> split <;> first | omega | (split <;> first | omega | (split <;> omega))
  · obtain ⟨j, hj, _⟩ := hsw i t ht
    exact h.up j t hj
theorem FVars.alloc {B : Nat} {w : World} {l : List FVar} (h : FVars B w l) (o : Obj) : FVars B (w.alloc o) l := h.step ((Below.refl _ _).alloc (Nat.le_refl _) o) rfl
theorem open0 {w : World} {v : Value} {z : Int} (h : IntAt w v z) : ∃ b A n c, v = .agg #[.bool b, .slice A n c] ∧ IntAt w (.agg #[.bool b, .slice A n c]) z := by
  obtain ⟨b, A, c, xs, rfl, s, l⟩ := id h
  exact ⟨_, _, _, _, rfl, h⟩
theorem open1 {w : World} {v : Value} {z : Int} (h : RefAt w v z) : ∃ b A n c, v = .agg #[.bool b, .slice A n c] ∧ RefAt w (.agg #[.bool b, .slice A n c]) z := by
  obtain ⟨b, A, c, xs, rfl, s, l⟩ := id h
  exact ⟨_, _, _, _, rfl, h⟩
theorem open2 {w : World} {v : Value} {z : Int} (h : RK.NAt w v z) : ∃ b A n c, v = .agg #[.bool b, .slice A n c] ∧ RK.NAt w (.agg #[.bool b, .slice A n c]) z := by
  obtain ⟨b, A, c, xs, rfl, s, l⟩ := id h
  exact ⟨_, _, _, _, rfl, h⟩
theorem open3 {w : World} {v : Value} {z d : Int} (h : RatAt w v z d) : ∃ b A n c b2 A2 n2 c2, v = .agg #[.bool b, .slice A n c, .bool b2, .slice A2 n2 c2] ∧ RatAt w (.agg #[.bool b, .slice A n c, .bool b2, .slice A2 n2 c2]) z d := by
  obtain ⟨b1, A1, c1, xs1, b2, A2, c2, xs2, rfl, s1, l1, s2, l2, lo⟩ := id h
  exact ⟨_, _, _, _, _, _, _, _, rfl, h⟩
theorem open4 {w : World} {v : Value} {z d : Int} (h : SAt w v z d) : ∃ b A n c b2 A2 n2 c2, v = .agg #[.bool b, .slice A n c, .bool b2, .slice A2 n2 c2] ∧ SAt w (.agg #[.bool b, .slice A n c, .bool b2, .slice A2 n2 c2]) z d := by
  obtain ⟨b1, A1, c1, xs1, b2, A2, c2, xs2, rfl, s1, l1, s2, l2, lo⟩ := id h
  exact ⟨_, _, _, _, _, _, _, _, rfl, h⟩
theorem open5 {w : World} {v : Value} {z d : Int} (h : QAt w v z d) : ∃ b A n c b2 A2 n2 c2, v = .agg #[.bool b, .slice A n c, .bool b2, .slice A2 n2 c2] ∧ QAt w (.agg #[.bool b, .slice A n c, .bool b2, .slice A2 n2 c2]) z d := by
  obtain ⟨b, A, n, c, b2, A2, n2, c2, rfl, h1, h2⟩ := id h
  exact ⟨_, _, _, _, _, _, _, _, rfl, h⟩
theorem FVars.drew {B : Nat} {w : World} {l : List FVar} (h : FVars B w l) : FVars B w.drew l := h.step (Below.refl w.drew.heap.size w.drew) rfl
theorem load0 {ρ : Operand → Value} {o : Oper} {w : World} {r : Nat} {a b : Value} (h : Two w r a b) (x : Operand) (ho : o.op = .load 31 x) (hx : ρ x = .pointer (some ⟨r, 0, none⟩)) :
    (execOp ρ o).run Tryz.prog w = .ok (.value (.agg #[a, b])) w := by
  obtain ⟨h0, h1⟩ := h
  obtain ⟨dst, op, ty, pos, after, guard⟩ := o
  simp only at ho
  subst ho
  go_simp
theorem load1 {ρ : Operand → Value} {o : Oper} {w : World} {r : Nat} {a b : Value} (h : Two w r a b) (x : Operand) (ho : o.op = .load 34 x) (hx : ρ x = .pointer (some ⟨r, 0, none⟩)) :
    (execOp ρ o).run Tryz.prog w = .ok (.value (.agg #[a, b])) w := by
  obtain ⟨h0, h1⟩ := h
  obtain ⟨dst, op, ty, pos, after, guard⟩ := o
  simp only at ho
  subst ho
  go_simp
theorem load3 {ρ : Operand → Value} {o : Oper} {w : World} {r : Nat} {a b c d : Value} (h : Quad w r a b c d) (x : Operand) (ho : o.op = .load 38 x) (hx : ρ x = .pointer (some ⟨r, 0, none⟩)) :
    (execOp ρ o).run Tryz.prog w = .ok (.value (.agg #[a, b, c, d])) w := by
  obtain ⟨h0, h1, h2, h3⟩ := h
  obtain ⟨dst, op, ty, pos, after, guard⟩ := o
  simp only at ho
  subst ho
  go_simp
theorem load4 {ρ : Operand → Value} {o : Oper} {w : World} {r : Nat} {a b c d : Value} (h : Quad w r a b c d) (x : Operand) (ho : o.op = .load 43 x) (hx : ρ x = .pointer (some ⟨r, 0, none⟩)) :
    (execOp ρ o).run Tryz.prog w = .ok (.value (.agg #[a, b, c, d])) w := by
  obtain ⟨h0, h1, h2, h3⟩ := h
  obtain ⟨dst, op, ty, pos, after, guard⟩ := o
  simp only at ho
  subst ho
  go_simp
theorem alloc0 (ρ : Operand → Value) (o : Oper) (w : World) (ho : o.op = .alloc 31) :
    (execOp ρ o).run Tryz.prog w = .ok (.value (.pointer (some ⟨w.heap.size, 0, none⟩))) (w.alloc (.cells #[.bool false, .slice none 0 0] 31)) := by
  obtain ⟨dst, op, ty, pos, after, guard⟩ := o
  simp only at ho
  subst ho
  go_simp
theorem store0 {ρ : Operand → Value} {o : Oper} {w : World} {r : Nat} {b' : Bool} {A' : Option Addr} {n' c' : Nat} (h : Two w r (.bool b') (.slice A' n' c')) (hf : ∀ o, w.frozen? ⟨r, o, none⟩ = false) (b : Bool) (A : Option Addr) (n c : Nat) (x y : Operand) (ho : o.op = .store 31 x y) (hx : ρ x = .pointer (some ⟨r, 0, none⟩)) (hy : ρ y = .agg #[.bool b, .slice A n c]) :
    (execOp ρ o).run Tryz.prog w = .ok .skip (put2 w r (.bool b) (.slice A n c)) := by
  obtain ⟨h0, h1⟩ := h
  unfold put2
  have h2 := hf 0
  have h3 := hf 1
  obtain ⟨dst, op, ty, pos, after, guard⟩ := o
  simp only at ho
  subst ho
  go_simp
theorem store3 {ρ : Operand → Value} {o : Oper} {w : World} {r : Nat} {b' b2' : Bool} {A' A2' : Option Addr} {n' c' n2' c2' : Nat} (h : Quad w r (.bool b') (.slice A' n' c') (.bool b2') (.slice A2' n2' c2')) (hf : ∀ o, w.frozen? ⟨r, o, none⟩ = false) (b : Bool) (A : Option Addr) (n c : Nat) (b2 : Bool) (A2 : Option Addr) (n2 c2 : Nat) (x y : Operand) (ho : o.op = .store 38 x y) (hx : ρ x = .pointer (some ⟨r, 0, none⟩)) (hy : ρ y = .agg #[.bool b, .slice A n c, .bool b2, .slice A2 n2 c2]) :
    (execOp ρ o).run Tryz.prog w = .ok .skip (put4 w r (.bool b) (.slice A n c) (.bool b2) (.slice A2 n2 c2)) := by
  obtain ⟨h0, h1, h2, h3⟩ := h
  have f0 := hf 0
  have f1 := hf 1
  have f2 := hf 2
  have f3 := hf 3
  obtain ⟨dst, op, ty, pos, after, guard⟩ := o
  simp only at ho
  subst ho
  unfold put4
  go_simp
theorem store4 {ρ : Operand → Value} {o : Oper} {w : World} {r : Nat} {b' b2' : Bool} {A' A2' : Option Addr} {n' c' n2' c2' : Nat} (h : Quad w r (.bool b') (.slice A' n' c') (.bool b2') (.slice A2' n2' c2')) (hf : ∀ o, w.frozen? ⟨r, o, none⟩ = false) (b : Bool) (A : Option Addr) (n c : Nat) (b2 : Bool) (A2 : Option Addr) (n2 c2 : Nat) (x y : Operand) (ho : o.op = .store 43 x y) (hx : ρ x = .pointer (some ⟨r, 0, none⟩)) (hy : ρ y = .agg #[.bool b, .slice A n c, .bool b2, .slice A2 n2 c2]) :
    (execOp ρ o).run Tryz.prog w = .ok .skip (put4 w r (.bool b) (.slice A n c) (.bool b2) (.slice A2 n2 c2)) := by
  obtain ⟨h0, h1, h2, h3⟩ := h
  have f0 := hf 0
  have f1 := hf 1
  have f2 := hf 2
  have f3 := hf 3
  obtain ⟨dst, op, ty, pos, after, guard⟩ := o
  simp only at ho
  subst ho
  unfold put4
  go_simp
theorem loadlo3 {ρ : Operand → Value} {o : Oper} {w : World} {r : Nat} {a b c d : Value} (h : Quad w r a b c d) (x : Operand) (ho : o.op = .load 31 x) (hx : ρ x = .pointer (some ⟨r, 0, none⟩)) :
    (execOp ρ o).run Tryz.prog w = .ok (.value (.agg #[a, b])) w := by
  obtain ⟨h0, h1, h2, h3⟩ := h
  obtain ⟨dst, op, ty, pos, after, guard⟩ := o
  simp only at ho
  subst ho
  go_simp
theorem rat_lo {w : World} {b b2 : Bool} {A A2 : Option Addr} {n c n2 c2 : Nat} {z d : Int} (h : RatAt w (.agg #[.bool b, .slice A n c, .bool b2, .slice A2 n2 c2]) z d) : IntAt w (.agg #[.bool b, .slice A n c]) z := by
  obtain ⟨b1, A1, c1, xs1, b2, A2, c2, xs2, e, s1, l1, s2, l2, lo⟩ := h
  simp only [Value.agg.injEq, Array.mk.injEq, List.cons.injEq, Value.bool.injEq, Value.slice.injEq, and_true] at e
  obtain ⟨rfl, ⟨rfl, rfl, rfl⟩, _⟩ := e
  exact ⟨_, _, _, _, rfl, s1, l1⟩
theorem q_lo {w : World} {b b2 : Bool} {A A2 : Option Addr} {n c n2 c2 : Nat} {z d : Int} (h : QAt w (.agg #[.bool b, .slice A n c, .bool b2, .slice A2 n2 c2]) z d) : RK.NAt w (.agg #[.bool b, .slice A n c]) z := by
  obtain ⟨b1, A1, n1, c1, b2, A2, n2, c2, e, h1, h2⟩ := h
  simp only [Value.agg.injEq, Array.mk.injEq, List.cons.injEq, Value.bool.injEq, Value.slice.injEq, and_true] at e
  obtain ⟨rfl, ⟨rfl, rfl, rfl⟩, _⟩ := e
  exact h1
theorem q_hi {w : World} {b b2 : Bool} {A A2 : Option Addr} {n c n2 c2 : Nat} {z d : Int} (h : QAt w (.agg #[.bool b, .slice A n c, .bool b2, .slice A2 n2 c2]) z d) : RK.NAt w (.agg #[.bool b2, .slice A2 n2 c2]) d := by
  obtain ⟨b1, A1, n1, c1, b2, A2, n2, c2, e, h1, h2⟩ := h
  simp only [Value.agg.injEq, Array.mk.injEq, List.cons.injEq, Value.bool.injEq, Value.slice.injEq, and_true] at e
  obtain ⟨_, _, rfl, rfl, rfl, rfl⟩ := e
  exact h2
theorem toD {x : Int} {m : Nat} (h : x.natAbs < B32 ^ m) : x.natAbs < BD ^ (2 * m) := by
  rw [Nat.pow_mul]
  exact h
theorem zero0 (w : World) : IntAt w (.agg #[.bool false, .slice none 0 0]) 0 := ⟨false, none, 0, [], rfl, by simp [SignOf], ⟨Nat.le_refl _, Nums.nil _ _ _, Lm.Ok.nil _, Lm.Top.nil, rfl⟩⟩
theorem zero3 (w : World) : RatAt w (.agg #[.bool false, .slice none 0 0, .bool false, .slice none 0 0]) 0 1 := ⟨false, none, 0, [], false, none, 0, [], rfl, by simp [SignOf], limbs_zero _, by simp [SignOf, kept], limbs_zero _, low_one 0⟩
end Go.Proofs.YtpgbnegppehckaaGreat.FK
namespace Go.Proofs.YtpgbnegppehckaaGreat.FK
open Go.RowKit Go.Proofs.YtpgbnegppehckaaGreat.RK
def NoInt (u : Value) : Prop := ∀ k n, u ≠ .int k n
def OwnC (w : World) (base : Nat) (e : TypeId) (size : Nat) (v : Value) (n : Nat) (xs : List Value) : Prop :=
  w.ownsRow base e size v n xs ∧ ∀ g cur t fz, v.ownBlock = some g → w.heap[g]? = some (.cells cur t fz) → ∀ u ∈ cur.toList, NoInt u
theorem OwnC.nil (w : World) (base : Nat) (e : TypeId) (size : Nat) : OwnC w base e size (.slice none 0 0) 0 [] := ⟨World.ownsRow_nil w base e size, fun g cur t fz h => by simp [Value.ownBlock] at h⟩
theorem OwnC.kept {w w' : World} {base : Nat} {e : TypeId} {size : Nat} {v : Value} {n : Nat} {xs : List Value} (h : OwnC w base e size v n xs) {row : Option Nat} (hg : w.grownBy w' row) (hne : v.ownBlock = none ∨ v.ownBlock ≠ row) : OwnC w' base e size v n xs := by
  refine ⟨h.1.kept hg hne, fun g cur t fz hv hh => ?_⟩
  have hlt := (h.1.lt g hv).2
  rw [hg.block g hlt (by rcases hne with q | q <;> rw [hv] at q; · cases q
                         · exact q)] at hh
  exact h.2 g cur t fz hv hh
theorem OwnC.step {W0 W w1 : World} {base : Nat} {e : TypeId} {size : Nat} {v : Value} {n : Nat} {xs : List Value} (h : OwnC W0 base e size v n xs) (hb : Below W.heap.size W w1) (hh : W.heap = W0.heap) : OwnC w1 base e size v n xs := by
  have hlt : ∀ g, v.ownBlock = some g → g < W.heap.size := fun g hv => by rw [hh]; exact (h.1.lt g hv).2
  have hbk : ∀ g, v.ownBlock = some g → w1.heap[g]? = W0.heap[g]? := fun g hv => by rw [hb.block g (hlt g hv), hh]
  refine ⟨⟨h.1.1, ?_⟩, fun g cur t fz hv hq => h.2 g cur t fz hv (by rw [← hbk g hv]; exact hq)⟩
  rcases h.1.2 with q | ⟨g, cap, cur, rfl, h1, h2, h3⟩
  · exact .inl q
  · exact .inr ⟨g, cap, cur, rfl, h1, (hbk g rfl).trans h2, h3⟩
theorem zero_mem {zc : Array Value} {n : Nat} {u : Value} (h : u ∈ (Builtin.zeroCells zc n).toList) (hz : ∀ x ∈ zc.toList, NoInt x) : NoInt u := by
  unfold Builtin.zeroCells at h
  rw [Array.mem_toList_iff, Array.mem_map] at h
  obtain ⟨i, hi, rfl⟩ := h
  rw [Array.mem_range] at hi
  have h0 : 0 < zc.size := by
    rcases Nat.eq_zero_or_pos zc.size with e | e
    · rw [e, Nat.mul_zero] at hi; omega
    · exact e
  have hl : i % zc.size < zc.size := Nat.mod_lt _ h0
  rw [getElem!_pos zc _ hl]
  exact hz _ (by rw [Array.mem_toList_iff]; exact Array.getElem_mem hl)
theorem own_append {P : Program} (w : World) (base : Nat) (t ty e : TypeId) (i : TypeInfo) (z : Value) (size bytes : Nat) (ht : P.underlying t = some (.slice e)) (hi : P.info? e = some i) (hz : i.zero = some z)
    (hsize : i.size = size) (hby : i.bytes = bytes) (hzs : z.cells.size = size) (hsz : 0 < size) (v : Value) (n : Nat) (xs : List Value) (hown : OwnC w base e size v n xs)
    (a : Addr) (m c : Nat) (news : List Value) (hl : news.length = m * size) (hnews : ∀ j u, news[j]? = some u → w.cell? (a.add j) = some u) (h1 : ∀ u ∈ news, u.oneCell' = true)
    (h63 : n + m ≤ maxLen) (hbytes : (n + m) * bytes ≤ 140737488355328) (hbase : base ≤ w.heap.size) (h0 : 0 < m) (hn : ∀ u ∈ news, NoInt u) (hzn : ∀ u ∈ z.cells.toList, NoInt u) :
    ∃ v' w', (Builtin.append_ #[t, t] ty #[v, .slice (some a) m c]).run P w = .ok v' w' ∧ OwnC w' base e size v' (n + m) (xs ++ news) ∧ w.grownBy w' v.ownBlock ∧ (v'.ownBlock = v.ownBlock ∨ v'.ownBlock = some w.heap.size) := by
  obtain ⟨v', w', hr, h2, h3, _, h5⟩ := run_append_own_at (P := P) w base t ty e i z size bytes ht hi hz hsize hby hzs hsz v n xs hown.1 a m c news hl hnews h1 h63 hbytes hbase
  refine ⟨v', w', hr, ⟨h2, ?_⟩, h3, h5⟩
  clear h5
  have hsmall : n + m ≤ 9223372036854775807 := by simp only [maxLen] at h63; omega
  subst hsize
  subst hby
  have fresh : ∀ (cs : List Value) (k : Nat), (∀ u ∈ cs, NoInt u) → ∀ g cur t fz, (some w.heap.size : Option Nat) = some g → (w.drew.alloc (.cells (cs.toArray ++ Builtin.zeroCells z.cells k) e)).heap[g]? = some (.cells cur t fz) → ∀ u ∈ cur.toList, NoInt u := by
    intro cs k hcs g cur t fz hg hh u hu
    injection hg with hg
    subst hg
    have hw : (w.drew.alloc (.cells (cs.toArray ++ Builtin.zeroCells z.cells k) e)).heap[w.drew.heap.size]? = some (.cells (cs.toArray ++ Builtin.zeroCells z.cells k) e) := heap_alloc_new w.drew _
    rw [show w.heap.size = w.drew.heap.size from rfl, hw] at hh
    injection hh with hh
    injection hh with hc
    rw [← hc] at hu
    simp only [Array.toList_append, List.mem_append] at hu
    rcases hu with hu | hu
    · exact hcs u hu
    · exact zero_mem hu hzn
  have hxs : ∀ u ∈ xs, NoInt u := by
    intro u hu
    rcases hown.1.2 with ⟨_, rfl⟩ | ⟨g, cap, cur, rfl, _, hg, _, _, _, htake⟩
    · have : xs = [] := List.eq_nil_of_length_eq_zero (by simpa using hown.1.1)
      rw [this] at hu
      cases hu
    · rw [← htake] at hu
      exact hown.2 g cur e (0, 0) rfl hg u (List.mem_of_mem_take hu)
  rcases hown.1.2 with ⟨rfl, rfl⟩ | ⟨g, cap, cur, rfl, hbg, hg, hnc, hcm, hcs, htake⟩
  · have hx : xs = [] := List.eq_nil_of_length_eq_zero (by simpa using hown.1.1)
    subst hx
    have hr' := run_append_nil (P := P) w t ty e i z ht hi hz a m c news hl hnews h0 (by omega) (by have hb := hbytes; simp only [Nat.zero_add] at hb; omega)
    rw [hr'] at hr
    injection hr with hv hw
    subst hv hw
    exact fresh news _ hn
  · by_cases hroom : n + m ≤ cap
    · have hfit : n * i.size + news.length ≤ cur.size := by rw [hl, hcs, ← Nat.add_mul]; exact Nat.mul_le_mul_right _ hroom
      have hr' := run_append_room (P := P) w t ty e i ht hi g n cap cur hg a m c news hl hnews h1 hroom hfit
      rw [hr'] at hr
      injection hr with hv hw
      subst hv hw
      intro g2 cur2 t2 fz2 he hh u hu
      injection he with he
      subst he
      rw [setRow_heap w g cur _ e _ hg] at hh
      injection hh with hh
      injection hh with hc
      rw [← hc] at hu
      simp only [List.mem_append] at hu
      have hcur := hown.2 g cur e (0, 0) rfl hg
      rcases hu with (hu | hu) | hu
      · exact hcur u (List.mem_of_mem_take hu)
      · exact hn u hu
      · exact hcur u (List.mem_of_mem_drop hu)
    · have holds : ∀ j u, xs[j]? = some u → w.cell? ((⟨g, 0, none⟩ : Addr).add j) = some u := hown.1.cells (g := g) rfl
      have hr' := run_append_grow (P := P) w t ty e i z ht hi hz ⟨g, 0, none⟩ n cap xs hown.1.1 holds a m c news hl hnews (by omega) (by omega) (growslice_fits (by omega) hbytes)
      rw [hr'] at hr
      injection hr with hv hw
      subst hv hw
      have := fresh (xs ++ news) (grownCap w (n + m) cap e - (n + m)) (fun u hu => by
        rw [List.mem_append] at hu
        rcases hu with hu | hu
        · exact hxs u hu
        · exact hn u hu)
      simp only [← List.append_toArray] at this
      exact this
theorem wpList_append_c {P : Program} {ops : Array Oper} {rest : List Oper} {o : Oper} {a : Act} {w : World} {Q : Exit → Act → World → Prop} (hgd : o.guard = none) (s x : Operand) (t : TypeId)
    (ho : o.op = .call { callee := .builtin .append, args := #[s, x], argTypes := #[t, t] })
    (base : Nat) (e : TypeId) (i : TypeInfo) (z : Value) (size bytes : Nat) (ht : P.underlying t = some (.slice e)) (hi : P.info? e = some i) (hz : i.zero = some z)
    (hsize : i.size = size) (hby : i.bytes = bytes) (hzs : z.cells.size = size) (hsz : 0 < size)
    (v : Value) (n : Nat) (xs : List Value) (hs : a.eval s = v) (hown : OwnC w base e size v n xs)
    (ad : Addr) (m c : Nat) (news : List Value) (hx : a.eval x = .slice (some ad) m c) (hl : news.length = m * size) (hnews : ∀ j u, news[j]? = some u → w.cell? (ad.add j) = some u) (h1 : ∀ u ∈ news, u.oneCell' = true)
    (h63 : n + m ≤ maxLen) (hbytes : (n + m) * bytes ≤ 140737488355328) (hbase : base ≤ w.heap.size) (h0 : 0 < m) (hn : ∀ u ∈ news, NoInt u) (hzn : ∀ u ∈ z.cells.toList, NoInt u)
    (h : ∀ v' w', OwnC w' base e size v' (n + m) (xs ++ news) → w.grownBy w' v.ownBlock → (v'.ownBlock = v.ownBlock ∨ v'.ownBlock = some w.heap.size) → wpList P ops Q rest (a.put o.dst v') w') : wpList P ops Q (o :: rest) a w := by
  refine wpList_plain hgd fun K hK => ?_
  obtain ⟨v', w', hr, h2, h3, h5⟩ := own_append (P := P) w base t o.type e i z size bytes ht hi hz hsize hby hzs hsz v n xs hown ad m c news hl hnews h1 h63 hbytes hbase h0 hn hzn
  unfold Oper.wp execOp
  simp only [ho, resolve, invoke, builtin, Sem.run_bind, Sem.run_pure, Result.andThen_ok, List.map_toArray, List.map_cons, List.map_nil, hs, hx, hr]
  exact hK _ _ (h v' w' h2 h3 h5)
theorem grown_safe {w w' : World} {base : Nat} {e : TypeId} {size : Nat} {v : Value} {n : Nat} {xs : List Value} (h : OwnC w base e size v n xs) (hg : w.grownBy w' v.ownBlock) : Safe w w' := fun k A ys hn h0 => by
  obtain ⟨ad, ha, hlt, hc⟩ := hn h0
  have hne : some ad.block ≠ v.ownBlock := by
    intro e
    rcases h.1.2 with ⟨rfl, _⟩ | ⟨g, cap, cur, rfl, _, hgg, _⟩
    · cases e
    · injection e with e
      have e : ad.block = g := e
      have h2 := hc 0 h0
      have hb : (ad.add 0).block = g := by rw [block_of_add]; exact e
      have hu : ∃ u, u ∈ cur.toList ∧ u = .int k ((ys.getD 0 0 : Nat) : Int) := by
        refine ⟨_, ?_, rfl⟩
        generalize ad.add 0 = p at h2 hb
        obtain ⟨pb, po, ps⟩ := p
        simp only at hb
        subst hb
        simp only [World.cell?, hgg] at h2
        cases ps with
        | none =>
          simp at h2
          rw [Array.mem_toList_iff]
          exact Array.mem_of_getElem? h2
        | some q => simp at h2
      obtain ⟨u, hu, rfl⟩ := hu
      exact h.2 g cur _ (0, 0) rfl hgg _ hu k _ rfl
  refine ⟨ad, ha, Nat.lt_of_lt_of_le hlt hg.size, fun j hj => (World.cell?_of_block (by rw [block_of_add]; exact hg.block ad.block hlt hne)).trans (hc j hj)⟩
theorem FVars.pick {B : Nat} {w : World} {l l' : List FVar} (h : FVars B w l) (ix : List Nat) (hn : ix.Nodup) (e : l'.map some = ix.map (fun i => l[i]?)) : FVars B w l' := by
  have at_ : ∀ (i : Nat) (t : FVar), l'[i]? = some t → ∃ k, ix[i]? = some k ∧ l[k]? = some t := fun i t ht => by
    have h1 : (l'.map some)[i]? = some (some t) := by rw [List.getElem?_map, ht]; rfl
    rw [e, List.getElem?_map] at h1
    cases hk : ix[i]? with
    | none => rw [hk] at h1; cases h1
    | some k => rw [hk] at h1; injection h1 with h1; exact ⟨k, rfl, h1⟩
  refine ⟨fun i t ht => ?_, fun i j s t hij hs ht => ?_, fun i t ht => ?_⟩
  · obtain ⟨k, _, hk⟩ := at_ i t ht
    exact h.all k t hk
  · obtain ⟨k, e1, hk⟩ := at_ i s hs
    obtain ⟨k', e2, hk'⟩ := at_ j t ht
    refine h.apart k k' s t (fun q => hij ?_) hk hk'
    subst q
    have hi : i < ix.length := by
      rcases Nat.lt_or_ge i ix.length with q | q
      · exact q
      · rw [List.getElem?_eq_none q] at e1; cases e1
    exact (List.getElem?_inj hi hn).1 (e1.trans e2.symm)
  · obtain ⟨k, _, hk⟩ := at_ i t ht
    exact h.up k t hk
def Ints (w : World) (xs : List Value) (zs : List Int) : Prop :=
  xs.length = 2 * zs.length ∧ ∀ (i : Nat) (z : Int), zs[i]? = some z → ∃ b A n c, xs[2 * i]? = some (.bool b) ∧ xs[2 * i + 1]? = some (.slice A n c) ∧ IntAt w (.agg #[.bool b, .slice A n c]) z
theorem Ints.nil (w : World) : Ints w [] [] := ⟨rfl, fun i z h => by simp at h⟩
theorem int_safe {w w' : World} {v : Value} {z : Int} (h : IntAt w v z) (s : Safe w w') : IntAt w' v z := by
  obtain ⟨b, A, c, xs, e, s1, l1⟩ := h
  exact ⟨b, A, c, xs, e, s1, l1.1, s _ _ _ l1.2.1, l1.2.2⟩
theorem Ints.safe {w w' : World} {xs : List Value} {zs : List Int} (h : Ints w xs zs) (s : Safe w w') : Ints w' xs zs :=
  ⟨h.1, fun i z hz => by obtain ⟨b, A, n, c, h1, h2, h3⟩ := h.2 i z hz; exact ⟨b, A, n, c, h1, h2, int_safe h3 s⟩⟩
theorem Ints.step {W0 W w1 : World} {xs : List Value} {zs : List Int} (h : Ints W0 xs zs) (hb : Below W.heap.size W w1) (hh : W.heap = W0.heap) : Ints w1 xs zs :=
  ⟨h.1, fun i z hz => by obtain ⟨b, A, n, c, h1, h2, h3⟩ := h.2 i z hz; exact ⟨b, A, n, c, h1, h2, h3.step hb hh⟩⟩
theorem Ints.snoc {w : World} {xs : List Value} {zs : List Int} (h : Ints w xs zs) {b : Bool} {A : Option Addr} {n c : Nat} {z : Int} (hz : IntAt w (.agg #[.bool b, .slice A n c]) z) : Ints w (xs ++ [.bool b, .slice A n c]) (zs ++ [z]) := by
  refine ⟨by simp [h.1]; omega, fun i y hy => ?_⟩
  rw [List.getElem?_append] at hy
  by_cases hi : i < zs.length
  · rw [if_pos hi] at hy
    obtain ⟨b', A', n', c', h1, h2, h3⟩ := h.2 i y hy
    refine ⟨b', A', n', c', ?_, ?_, h3⟩
    · rw [List.getElem?_append, if_pos (by rw [h.1]; omega)]; exact h1
    · rw [List.getElem?_append, if_pos (by rw [h.1]; omega)]; exact h2
  · rw [if_neg hi] at hy
    have e : i - zs.length = 0 := by
      rcases Nat.eq_zero_or_pos (i - zs.length) with e | e
      · exact e
      · rw [List.getElem?_eq_none (by simp; omega)] at hy; cases hy
    rw [e] at hy
    have hz' : z = y := by simpa using hy
    subst hz'
    have e2 : i = zs.length := by omega
    subst e2
    refine ⟨b, A, n, c, ?_, ?_, hz⟩
    · rw [List.getElem?_append, if_neg (by rw [h.1]; omega), h.1, Nat.sub_self]; rfl
    · rw [List.getElem?_append, if_neg (by rw [h.1]; omega), h.1, show 2 * zs.length + 1 - 2 * zs.length = 1 by omega]; rfl
def IRow (w : World) (v : Value) (zs : List Int) : Prop :=
  ∃ g c, v = .slice (some ⟨g, 0, none⟩) zs.length c ∧ g < w.heap.size ∧ zs.length ≤ c ∧ ∀ (i : Nat) (z : Int), zs[i]? = some z → ∃ b A n c, w.cell? ⟨g, 2 * i, none⟩ = some (.bool b) ∧ w.cell? ⟨g, 2 * i + 1, none⟩ = some (.slice A n c) ∧ IntAt w (.agg #[.bool b, .slice A n c]) z
theorem OwnC.row {w : World} {base : Nat} {v : Value} {n : Nat} {xs : List Value} {zs : List Int} (h : OwnC w base 31 2 v n xs) (hi : Ints w xs zs) (hn : n = zs.length) (h0 : 0 < n) : IRow w v zs := by
  rcases h.1.2 with ⟨_, h0'⟩ | ⟨g, cap, cur, rfl, hb, hg, hc, _, _, htake⟩
  · omega
  · have hlt : g < w.heap.size := (h.1.lt g rfl).2
    have hxs := h.1.cells (g := g) rfl
    have hadd : ∀ j, (⟨g, 0, none⟩ : Addr).add j = ⟨g, j, none⟩ := fun j => by unfold Addr.add; split <;> simp_all
    subst hn
    refine ⟨g, cap, rfl, hlt, hc, fun i z hz => ?_⟩
    obtain ⟨b, A, n, c, h1, h2, h3⟩ := hi.2 i z hz
    exact ⟨b, A, n, c, by rw [← hadd]; exact hxs _ _ h1, by rw [← hadd]; exact hxs _ _ h2, h3⟩
def PairAt (w : World) (g j : Nat) (a b : Value) : Prop := w.cell? ⟨g, j, none⟩ = some a ∧ w.cell? ⟨g, j + 1, none⟩ = some b
theorem PairAt.step {W0 W w1 : World} {g j : Nat} {a b : Value} (h : PairAt W0 g j a b) (hb : Below W.heap.size W w1) (hh : W.heap = W0.heap) (hg : g < W0.heap.size) : PairAt w1 g j a b := by
  have e : ∀ p, W.cell? p = W0.cell? p := fun p => by simp [World.cell?, hh]
  have k : ∀ o, w1.cell? ⟨g, o, none⟩ = W0.cell? ⟨g, o, none⟩ := fun o => (hb.cell (p := ⟨g, o, none⟩) (by rw [hh]; exact hg)).trans (e _)
  exact ⟨(k _).trans h.1, (k _).trans h.2⟩
theorem loadat {ρ : Operand → Value} {o : Oper} {w : World} {g j : Nat} {a b : Value} (h : PairAt w g j a b) (x : Operand) (ho : o.op = .load 31 x) (hx : ρ x = .pointer (some ⟨g, j, none⟩)) :
    (execOp ρ o).run Tryz.prog w = .ok (.value (.agg #[a, b])) w := by
  obtain ⟨h0, h1⟩ := h
  obtain ⟨dst, op, ty, pos, after, guard⟩ := o
  simp only at ho
  subst ho
  go_simp
theorem IRow.at_ {w : World} {g n c : Nat} {zs : List Int} (h : IRow w (.slice (some ⟨g, 0, none⟩) n c) zs) {i : Nat} {z : Int} (hz : zs[i]? = some z) :
    ∃ b A n' c', PairAt w g (i * 2) (.bool b) (.slice A n' c') ∧ IntAt w (.agg #[.bool b, .slice A n' c']) z ∧ g < w.heap.size := by
  obtain ⟨g', c2, e, hl, _, hr⟩ := h
  injection e with e1
  injection e1 with e1
  injection e1 with e1
  subst e1
  obtain ⟨b, A, n', c', h1, h2, h3⟩ := hr i z hz
  exact ⟨b, A, n', c', ⟨by rw [Nat.mul_comm]; exact h1, by rw [Nat.mul_comm]; exact h2⟩, h3, hl⟩
def Away (v : Value) (l : List FVar) : Prop := ∀ (i : Nat) (t : FVar), l[i]? = some t → t.here = true → some t.r ≠ v.ownBlock
theorem FVars.grown {B : Nat} {w w' : World} {l : List FVar} (h : FVars B w l) {base : Nat} {e : TypeId} {size : Nat} {v : Value} {n : Nat} {xs : List Value} (ho : OwnC w base e size v n xs) (hg : w.grownBy w' v.ownBlock) (ha : Away v l) : FVars B w' l := by
  have hc : ∀ (i : Nat) (t : FVar), l[i]? = some t → t.here = true → w'.heap[t.r]? = w.heap[t.r]? := fun i t ht et => hg.block t.r ((h.all i t ht).lt et) (ha i t ht et)
  refine ⟨fun i t ht => ?_, h.apart, h.up⟩
  have q := h.all i t ht
  refine ⟨fun et => Nat.lt_of_lt_of_le (q.lt et) hg.size, fun et => (q.lies et).far fun o => ?_, q.at_.safe (grown_safe ho hg), fun et o => ?_⟩
  · simp only [World.cell?, hc i t ht et]
  · rw [← q.frz et o]
    simp only [World.frozen?, hc i t ht et]
theorem Away.grown {B : Nat} {w : World} {l : List FVar} {v v' : Value} (h : FVars B w l) (ha : Away v l) (hv : v'.ownBlock = v.ownBlock ∨ v'.ownBlock = some w.heap.size) : Away v' l := fun i t ht et => by
  rcases hv with q | q
  · rw [q]; exact ha i t ht et
  · rw [q]
    intro e
    injection e with e
    have := (h.all i t ht).lt et
    omega
theorem Away.nil (l : List FVar) : Away (.slice none 0 0) l := fun i t _ _ e => by cases e
theorem Away.cons {v : Value} {l : List FVar} {t : FVar} (ha : Away v l) (h : t.here = true → some t.r ≠ v.ownBlock) : Away v (t :: l) := fun i u hu eu => by
  cases i with
  | zero => simp at hu; subst hu; exact h eu
  | succ i => exact ha i u (by simpa using hu) eu
theorem Away.tail {v : Value} {l : List FVar} {t : FVar} (ha : Away v (t :: l)) : Away v l := fun i u hu eu => ha (i + 1) u (by simpa using hu) eu
theorem Away.new {w : World} {base : Nat} {e : TypeId} {size : Nat} {v : Value} {n : Nat} {xs : List Value} {l : List FVar} {t : FVar} (ha : Away v l) (ho : OwnC w base e size v n xs) (hge : w.heap.size ≤ t.r) : Away v (t :: l) :=
  ha.cons fun _ e => by have := (ho.1.lt t.r e.symm).2; omega
theorem put2_grown (W : World) (r : Nat) (a b : Value) : W.grownBy (put2 W r a b) (some r) := by
  unfold put2
  refine ⟨rfl, rfl, rfl, by simp, fun k hk hne => ?_⟩
  have hkr : k ≠ r := fun e => hne (by rw [e])
  simp [World.setCell, Array.getElem?_modify, Ne.symm hkr]
theorem own_put {W : World} {base : Nat} {e : TypeId} {size : Nat} {v : Value} {n : Nat} {xs : List Value} {zs : List Int} (h : OwnC W base e size v n xs ∧ Ints W xs zs) {r : Nat} {b : Bool} {A : Option Addr} {m c : Nat} (tw : Two W r (.bool b) (.slice A m c)) (hne : v.ownBlock ≠ some r) (x y : Value) :
    OwnC (put2 W r x y) base e size v n xs ∧ Ints (put2 W r x y) xs zs :=
  ⟨h.1.kept (put2_grown W r x y) (.inr hne), h.2.safe (put2_safe tw x y)⟩
def slen : Value → Nat
  | .slice _ n _ => n
  | _ => 0
theorem OwnC.slen {w : World} {base : Nat} {e : TypeId} {size : Nat} {v : Value} {n : Nat} {xs : List Value} (h : OwnC w base e size v n xs) : slen v = n := by
  rcases h.1.2 with ⟨rfl, rfl⟩ | ⟨g, cap, cur, rfl, _⟩ <;> rfl
theorem OwnC.alloc {w : World} {base : Nat} {e : TypeId} {size : Nat} {v : Value} {n : Nat} {xs : List Value} (h : OwnC w base e size v n xs) (o : Obj) : OwnC (w.alloc o) base e size v n xs := h.step ((Below.refl _ _).alloc (Nat.le_refl _) o) rfl
theorem Ints.alloc {w : World} {xs : List Value} {zs : List Int} (h : Ints w xs zs) (o : Obj) : Ints (w.alloc o) xs zs := h.step ((Below.refl _ _).alloc (Nat.le_refl _) o) rfl
theorem info_Int : Option.map (fun i => (i.zero, i.size, i.bytes)) (Tryz.prog.info? 31) = some (some (.agg #[.bool false, .slice none 0 0]), 2, 32) := by kernel_rfl
theorem und_Ints : Tryz.prog.underlying 78 = some (.slice 31) := by kernel_rfl
theorem two_new (w : World) (a b : Value) (t : TypeId) : ∀ (j : Nat) (u : Value), [a, b][j]? = some u → (w.alloc (.cells #[a, b] t)).cell? ((⟨w.heap.size, 0, none⟩ : Addr).add j) = some u := cell_two_new w a b t
theorem noint2 (b : Bool) (A : Option Addr) (n c : Nat) : ∀ u ∈ [Value.bool b, Value.slice A n c], NoInt u := fun u hu k m => by
  simp at hu
  rcases hu with rfl | rfl <;> exact fun e => by cases e
theorem Away.same {v : Value} {l l' : List FVar} (ha : Away v l) (e : l'.map (fun t => (t.here, t.r)) = l.map (fun t => (t.here, t.r))) : Away v l' := fun i t ht et => by
  have h1 : (l'.map (fun t => (t.here, t.r)))[i]? = some (t.here, t.r) := by rw [List.getElem?_map, ht]; rfl
  rw [e, List.getElem?_map] at h1
  cases hk : l[i]? with
  | none => rw [hk] at h1; cases h1
  | some s =>
    rw [hk] at h1
    simp at h1
    rw [← h1.2]
    exact ha i s hk (by rw [h1.1]; exact et)
end Go.Proofs.YtpgbnegppehckaaGreat.FK
namespace Go.Proofs.YtpgbnegppehckaaGreat.FK
open Go.RowKit Go.Proofs.YtpgbnegppehckaaGreat.RK
def IsTOf (w w' : World) (x d : Int) (e : Ending) : Prop := ∃ v1 v2, e = .returned (.tuple #[v1, v2]) ∧ RatAt w' v1 x d ∧ SAt w' v2 x d ∧ Below w.heap.size w w'
structure NewB (n d X D er : Int) (m : Nat) : Prop where
  low : Qx.Low X D
  fx : X.natAbs < B32 ^ m
  fd : D.natAbs < B32 ^ m
  p : ∀ v v2 w, IntAt w v n → IntAt w v2 d → Calls Tryz.prog 16 #[v, v2] w fun e w' => IsRatE w w' X D er e
  q : ∀ v v2 w, RefAt w v n → RefAt w v2 d → Calls Tryz.prog 17 #[v, v2] w fun e w' => IsSE w w' X D er e
theorem new_some (n d : Int) (m : Nat) (hm0 : 0 < m) (hm : m ≤ 400) (hn : n.natAbs < B32 ^ m) (hd : d.natAbs < B32 ^ m) (h0 : d ≠ 0) : NewB n d (Qx.num n d) (Qx.den n d) 0 m := by
  refine ⟨Qx.low_of h0, fit_num hn, fit_den hd, fun v v2 w h1 h2 => ?_, fun v v2 w h1 h2 => SNew_some v v2 n d (2 * m) w h1 h2 (by omega) (toD hn) (toD hd) h0⟩
  rcases Int.lt_or_gt_of_ne h0 with h | h
  · exact QNew_neg v v2 n d m w h1 h2 hm0 (by omega) hn hd h
  · exact QNew_pos v v2 n d m w h1 h2 hm0 (by omega) hn hd h
theorem new_both (n d : Int) (m : Nat) (hm0 : 0 < m) (hm : m ≤ 400) (hn : n.natAbs < B32 ^ m) (hd : d.natAbs < B32 ^ m) : ∃ X D er, Hid (NewB n d X D er m) := by
  by_cases h0 : d = 0
  · have f1 : (1 : Int).natAbs < B32 ^ m := Nat.lt_of_lt_of_le (show 1 < B32 ^ 1 by decide) (Nat.pow_le_pow_right B32_pos hm0)
    exact ⟨0, 1, 6, Lib.hid ⟨low_one 0, Nat.pow_pos B32_pos, f1, fun v v2 w h1 h2 => QNew_zero v v2 n d m w h1 h2 hm0 (by omega) hn hd h0, fun v v2 w h1 h2 => SNew_zero v v2 n d (2 * m) w h1 h2 (by omega) (toD hn) (toD hd) h0⟩⟩
  · exact ⟨_, _, 0, Lib.hid (new_some n d m hm0 hm hn hd h0)⟩
theorem TOf_zero (x d : Int) (v : Value) (m : Nat) (w : World) (h : QAt w v x d) (hm0 : 0 < m) (hm : m ≤ 400) (hd : d.natAbs < B32 ^ m) (h0 : d = 0) : Calls Tryz.prog 18 #[v] w fun e w' => IsTOf w w' x 1 e := by
  obtain ⟨s1, A1, n1, c1, s2, A2, n2, c2, rfl, h1, h2⟩ := id h
  have hs : d.sign = 0 := by rw [h0]; rfl
  have HN := Lib.hid (And.intro hs (toD hd))
  have hm2 : 2 * m ≤ 900000 := by omega
  have gh0 := (FVars.told (FVars.nil w.heap.size w) (t := ⟨false, 0, s1, A1, n1, c1, s2, A2, n2, c2, x, d, 5⟩) (At.step (t := ⟨false, 0, s1, A1, n1, c1, s2, A2, n2, c2, x, d, 5⟩) (h) (Below.refl w.heap.size w) rfl) rfl).laid4 26 (show 3 ≤ 5 from by decide) (by exact Nat.le_refl _)
  have gh1 := (FVars.told gh0 (t := ⟨false, 0, false, none, 0, 0, false, none, 0, 0, 0, 1, 3⟩) ((zero3 _)) rfl).laid4 38 (show 3 ≤ 3 from by decide) (by simp only [size_alloc]; omega)
  have gh2 := (FVars.told gh1 (t := ⟨false, 0, false, none, 0, 0, false, none, 0, 0, 0, 0, 6⟩) ((trivial)) rfl).laid4 43 (show 3 ≤ 6 from by decide) (by simp only [size_alloc]; omega)
  have gb : Below w.heap.size w (((w.alloc (.cells #[.bool s1, .slice A1 n1 c1, .bool s2, .slice A2 n2 c2] 26)).alloc (.cells #[.bool false, .slice none 0 0, .bool false, .slice none 0 0] 38)).alloc (.cells #[.bool false, .slice none 0 0, .bool false, .slice none 0 0] 43)) := ((((Below.refl w.heap.size w).alloc (by exact Nat.le_refl _) (.cells #[.bool s1, .slice A1 n1 c1, .bool s2, .slice A2 n2 c2] 26)).alloc (by simp only [size_alloc]; omega) (.cells #[.bool false, .slice none 0 0, .bool false, .slice none 0 0] 38)).alloc (by simp only [size_alloc]; omega) (.cells #[.bool false, .slice none 0 0, .bool false, .slice none 0 0] 43))
  simp only [size_alloc] at gh2
  obtain ⟨W, hW⟩ : ∃ W : World, (((w.alloc (.cells #[.bool s1, .slice A1 n1 c1, .bool s2, .slice A2 n2 c2] 26)).alloc (.cells #[.bool false, .slice none 0 0, .bool false, .slice none 0 0] 38)).alloc (.cells #[.bool false, .slice none 0 0, .bool false, .slice none 0 0] 43)) = W := ⟨_, rfl⟩
  rw [hW] at gh2 gb
  have HC := Lib.hid (And.intro gh2 gb)
  have HW := Lib.hid hW
  clear gb hW gh0 gh1 gh2
  have HM := Lib.hid hm2
  clear h h1 h2 hm0 hm hd h0 hm2 hs
  go_enter Tryz.func18, Tryz.ntmps18
  go_upto_region 1 with fail
  rw [HW.out]
  clear HW
  obtain ⟨px0, px1, px2, px3⟩ : Quad W w.heap.size (.bool s1) (.slice A1 n1 c1) (.bool s2) (.slice A2 n2 c2) := (HC.out.1.all 2 _ rfl).lies rfl
  go_wp2_with fail
  refine (RK.of_is _ x _ (q_lo (HC.out.1.all 2 _ rfl).at_)).mono ?_
  rintro e wq1 ⟨qv1, rv1, rfl, hq1, hr1, hb1⟩
  obtain ⟨qb1, qA1, qn1, qc1, rfl, hq1⟩ := open0 hq1
  obtain ⟨rb1, rA1, rn1, rc1, rfl, hr1⟩ := open1 hr1
  have hv1 := (((FVars.told (FVars.told (FVars.step HC.out.1 hb1 rfl) (t := ⟨false, 0, rb1, rA1, rn1, rc1, false, none, 0, 0, x, 0, 1⟩) hr1 rfl) (t := ⟨false, 0, qb1, qA1, qn1, qc1, false, none, 0, 0, x, 0, 0⟩) hq1 rfl).laid2 31 lyK (Nat.le_trans HC.out.2.size hb1.size)).swap).laid2 34 lyL (Nat.le_trans (Nat.le_trans HC.out.2.size hb1.size) (by simp))
  rw [size_alloc] at hv1
  have hl1 : Below w.heap.size w ((wq1.alloc (.cells #[.bool qb1, .slice qA1 qn1 qc1] 31)).alloc (.cells #[.bool rb1, .slice rA1 rn1 rc1] 34)) := (((below_then HC.out.2 hb1).alloc (Nat.le_trans HC.out.2.size hb1.size) (.cells #[.bool qb1, .slice qA1 qn1 qc1] 31)).alloc (Nat.le_trans (Nat.le_trans HC.out.2.size hb1.size) (by simp)) (.cells #[.bool rb1, .slice rA1 rn1 rc1] 34))
  obtain ⟨Wq1, hW1⟩ : ∃ W : World, W = (wq1.alloc (.cells #[.bool qb1, .slice qA1 qn1 qc1] 31)).alloc (.cells #[.bool rb1, .slice rA1 rn1 rc1] 34) := ⟨_, rfl⟩
  obtain ⟨rrq1, hsq1⟩ : ∃ r : Nat, r = wq1.heap.size := ⟨_, rfl⟩
  obtain ⟨rrr1, hsr1⟩ : ∃ r : Nat, r = wq1.heap.size + 1 := ⟨_, rfl⟩
  rw [← hW1] at hv1 hl1
  rw [← hsr1] at hv1
  rw [← hsq1] at hv1
  have HC1 := Lib.hid (And.intro hv1 hl1)
  have HW1 := Lib.hid hW1
  have HRq1 := Lib.hid hsq1
  have HRr1 := Lib.hid hsr1
  clear px0 px1 px2 px3
  clear hv1 hl1 hW1 hb1 hsq1 hq1 hsr1 hr1 HC
  go_upto_region 2 with fail
  rw [← HW1.out]
  rw [← HRr1.out]
  rw [← HRq1.out]
  clear HW1 HRq1 HRr1
  obtain ⟨px0, px1, px2, px3⟩ : Quad Wq1 w.heap.size (.bool s1) (.slice A1 n1 c1) (.bool s2) (.slice A2 n2 c2) := (HC1.out.1.all 4 _ rfl).lies rfl
  go_wp2_with fail
  refine (RK.of_is _ d _ (q_hi (HC1.out.1.all 4 _ rfl).at_)).mono ?_
  rintro e wq2 ⟨qv2, rv2, rfl, hq2, hr2, hb2⟩
  obtain ⟨qb2, qA2, qn2, qc2, rfl, hq2⟩ := open0 hq2
  obtain ⟨rb2, rA2, rn2, rc2, rfl, hr2⟩ := open1 hr2
  have hv2 := (((FVars.told (FVars.told (FVars.step HC1.out.1 hb2 rfl) (t := ⟨false, 0, rb2, rA2, rn2, rc2, false, none, 0, 0, d, 0, 1⟩) hr2 rfl) (t := ⟨false, 0, qb2, qA2, qn2, qc2, false, none, 0, 0, d, 0, 0⟩) hq2 rfl).laid2 31 lyK (Nat.le_trans HC1.out.2.size hb2.size)).swap).laid2 34 lyL (Nat.le_trans (Nat.le_trans HC1.out.2.size hb2.size) (by simp))
  rw [size_alloc] at hv2
  have hl2 : Below w.heap.size w ((wq2.alloc (.cells #[.bool qb2, .slice qA2 qn2 qc2] 31)).alloc (.cells #[.bool rb2, .slice rA2 rn2 rc2] 34)) := (((below_then HC1.out.2 hb2).alloc (Nat.le_trans HC1.out.2.size hb2.size) (.cells #[.bool qb2, .slice qA2 qn2 qc2] 31)).alloc (Nat.le_trans (Nat.le_trans HC1.out.2.size hb2.size) (by simp)) (.cells #[.bool rb2, .slice rA2 rn2 rc2] 34))
  obtain ⟨Wq2, hW2⟩ : ∃ W : World, W = (wq2.alloc (.cells #[.bool qb2, .slice qA2 qn2 qc2] 31)).alloc (.cells #[.bool rb2, .slice rA2 rn2 rc2] 34) := ⟨_, rfl⟩
  obtain ⟨rrq2, hsq2⟩ : ∃ r : Nat, r = wq2.heap.size := ⟨_, rfl⟩
  obtain ⟨rrr2, hsr2⟩ : ∃ r : Nat, r = wq2.heap.size + 1 := ⟨_, rfl⟩
  rw [← hW2] at hv2 hl2
  rw [← hsr2] at hv2
  rw [← hsq2] at hv2
  have HC2 := Lib.hid (And.intro hv2 hl2)
  have HW2 := Lib.hid hW2
  have HRq2 := Lib.hid hsq2
  have HRr2 := Lib.hid hsr2
  clear px0 px1 px2 px3
  clear hv2 hl2 hW2 hb2 hsq2 hq2 hsr2 hr2 HC1
  go_upto_region 3 with fail
  rw [← HW2.out]
  rw [← HRr2.out]
  rw [← HRq2.out]
  clear HW2 HRq2 HRr2
  obtain ⟨pv0, pv1⟩ : Two Wq2 rrr2 (.bool rb2) (.slice rA2 rn2 rc2) := (HC2.out.1.all 0 _ rfl).lies rfl
  go_wp2_with fail
  refine (RK.rsign_is _ d 0 (2 * m) _ ((HC2.out.1.all 0 _ rfl).at_) HM.out HN.out.2 HN.out.1).mono ?_
  rintro e wq3 ⟨rfl, hb3⟩
  have HC3 := Lib.hid (And.intro (HC2.out.1.step hb3 rfl) (below_then HC2.out.2 hb3))
  clear pv0 pv1
  clear hb3 HC2
  go_upto_region 4 with fail
  have HD4 := Lib.hid (And.intro HC3.out.1.drew HC3.out.2.drew)
  refine wp_region_held_drew (S := fun w' => Two w' rrq1 (.bool qb1) (.slice qA1 qn1 qc1) ∧ Two w' rrr1 (.bool rb1) (.slice rA1 rn1 rc1)) (by kernel_rfl) (⟨(HD4.out.1.all 3 _ rfl).lies rfl, (HD4.out.1.all 2 _ rfl).lies rfl⟩) (fun hH0 => ?_)
  refine wpAnyH_take (i := 0) (v := (.agg #[.bool qb1, .slice qA1 qn1 qc1])) rfl (by kernel_rfl) (by kernel_rfl) (by kernel_rfl) (fun _ _ _ h => h) (Or.inl ⟨by kernel_rfl, fun w0 hS0 => load0 (hS0.1) (.tmp 4) (by kernel_rfl) (by kernel_rfl)⟩) hH0 ?r1
  change wpAnyH _ _ _ _ _ _ _ (Act.put _ (some 27) _) _
  simp only [Act.put, lyA, lyZ, lyS]
  refine wpAnyH_take (i := 2) (v := (.agg #[.bool rb1, .slice rA1 rn1 rc1])) rfl (by kernel_rfl) (by kernel_rfl) (by kernel_rfl) (fun _ _ _ h => h) (Or.inl ⟨by kernel_rfl, fun w0 hS0 => load1 (hS0.2) (.tmp 5) (by kernel_rfl) (by kernel_rfl)⟩) hH0 ?r2
  change wpAnyH _ _ _ _ _ _ _ (Act.put _ (some 29) _) _
  simp only [Act.put, lyA, lyZ, lyS]
  refine wpAnyH_ready (rs := [1]) (by kernel_rfl) (by simp) ?_
  refine AllReadyH.cons rfl (fun K hK0 => ?d3) (AllReadyH.nil)
  have hK := hK0.out
  clear hK0
  rw [if_pos (by kernel_rfl)]
  refine wp_go_call 20 #[(.agg #[.bool qb1, .slice qA1 qn1 qc1])] (fun _ => by kernel_rfl) ((QOf_any _ x _ ((HD4.out.1.all 3 _ rfl).at_)).mono ?_)
  rintro e wq5 ⟨qv5, rfl, hq5, hb5⟩
  obtain ⟨qb5, qA5, qn5, qc5, qbb5, qAA5, qnn5, qcc5, rfl, hq5⟩ := open3 hq5
  have HD5 := Lib.hid (And.intro (FVars.told (HD4.out.1.step hb5 rfl) (t := ⟨false, 0, qb5, qA5, qn5, qc5, qbb5, qAA5, qnn5, qcc5, x, 1, 3⟩) hq5 rfl) (below_then HD4.out.2 hb5))
  clear hq5 hb5 HD4
  refine ⟨(.agg #[.bool qb5, .slice qA5 qn5 qc5, .bool qbb5, .slice qAA5 qnn5 qcc5]), rfl, hK _ _ (⟨(HD5.out.1.all 4 _ rfl).lies rfl, (HD5.out.1.all 3 _ rfl).lies rfl⟩) (fun hH5 => ?_)⟩
  clear hK K hH0
  change wpAnyH _ _ _ _ _ _ _ (Act.put _ (some 28) _) _
  simp only [Act.put, lyA, lyZ, lyS]
  refine wpAnyH_ready (rs := [3]) (by kernel_rfl) (by simp) ?_
  refine AllReadyH.cons rfl (fun K hK0 => ?d4) (AllReadyH.nil)
  have hK := hK0.out
  clear hK0
  rw [if_pos (by kernel_rfl)]
  refine wp_go_call 21 #[(.agg #[.bool rb1, .slice rA1 rn1 rc1])] (fun _ => by kernel_rfl) ((SOf_any _ x _ ((HD5.out.1.all 3 _ rfl).at_)).mono ?_)
  rintro e wq6 ⟨qv6, rfl, hq6, hb6⟩
  obtain ⟨qb6, qA6, qn6, qc6, qbb6, qAA6, qnn6, qcc6, rfl, hq6⟩ := open4 hq6
  have HD6 := Lib.hid (And.intro (FVars.told (HD5.out.1.step hb6 rfl) (t := ⟨false, 0, qb6, qA6, qn6, qc6, qbb6, qAA6, qnn6, qcc6, x, 1, 4⟩) hq6 rfl) (below_then HD5.out.2 hb6))
  clear hq6 hb6 HD5
  refine ⟨(.agg #[.bool qb6, .slice qA6 qn6 qc6, .bool qbb6, .slice qAA6 qnn6 qcc6]), rfl, hK _ _ (⟨(HD6.out.1.all 5 _ rfl).lies rfl, (HD6.out.1.all 4 _ rfl).lies rfl⟩) (fun hH6 => ?_)⟩
  clear hK K hH5
  change wpAnyH _ _ _ _ _ _ _ (Act.put _ (some 30) _) _
  simp only [Act.put, lyA, lyZ, lyS]
  refine wpAnyH_ready (rs := [4]) (by kernel_rfl) (by simp) ?_
  refine AllReadyH.cons rfl (fun K hK0 => ?d5) (AllReadyH.nil)
  have hK := hK0.out
  clear hK0
  rw [if_pos (by kernel_rfl)]
  refine wp_go_skip (store3 ((HD6.out.1.all 7 _ rfl).lies rfl) ((HD6.out.1.all 7 _ rfl).frz rfl) qb5 qA5 qn5 qc5 qbb5 qAA5 qnn5 qcc5 (.tmp 2) (.tmp 28) (by kernel_rfl) (by kernel_rfl) (by kernel_rfl)) ?_
  have hu7 := FVars.over4 HD6.out.1 7 (s := ⟨true, (w.heap.size + 1), false, none, 0, 0, false, none, 0, 0, 0, 1, 3⟩) (t := ⟨false, 0, qb5, qA5, qn5, qc5, qbb5, qAA5, qnn5, qcc5, x, 1, 3⟩) rfl rfl (show 3 ≤ 3 from by decide) (show 3 ≤ 3 from by decide) ((HD6.out.1.all 1 _ rfl).at_)
  have hv7 : FVars w.heap.size (put4 (wq6) (w.heap.size + 1) (.bool qb5) (.slice qA5 qn5 qc5) (.bool qbb5) (.slice qAA5 qnn5 qcc5)) [⟨false, 0, qb6, qA6, qn6, qc6, qbb6, qAA6, qnn6, qcc6, x, 1, 4⟩, ⟨false, 0, qb5, qA5, qn5, qc5, qbb5, qAA5, qnn5, qcc5, x, 1, 3⟩, ⟨true, rrr2, rb2, rA2, rn2, rc2, false, none, 0, 0, d, 0, 1⟩, ⟨true, rrq2, qb2, qA2, qn2, qc2, false, none, 0, 0, d, 0, 0⟩, ⟨true, rrr1, rb1, rA1, rn1, rc1, false, none, 0, 0, x, 0, 1⟩, ⟨true, rrq1, qb1, qA1, qn1, qc1, false, none, 0, 0, x, 0, 0⟩, ⟨true, (w.heap.size + 1 + 1), false, none, 0, 0, false, none, 0, 0, 0, 0, 6⟩, ⟨true, (w.heap.size + 1), qb5, qA5, qn5, qc5, qbb5, qAA5, qnn5, qcc5, x, 1, 3⟩, ⟨true, w.heap.size, s1, A1, n1, c1, s2, A2, n2, c2, x, d, 5⟩] := hu7
  clear hu7
  have hl7 : Below w.heap.size w (put4 (wq6) (w.heap.size + 1) (.bool qb5) (.slice qA5 qn5 qc5) (.bool qbb5) (.slice qAA5 qnn5 qcc5)) := (((HD6.out.2.setCell (p := ⟨(w.heap.size + 1), 0, none⟩) (HD6.out.1.up 7 _ rfl rfl) _).setCell (p := ⟨(w.heap.size + 1), 1, none⟩) (HD6.out.1.up 7 _ rfl rfl) _).setCell (p := ⟨(w.heap.size + 1), 2, none⟩) (HD6.out.1.up 7 _ rfl rfl) _).setCell (p := ⟨(w.heap.size + 1), 3, none⟩) (HD6.out.1.up 7 _ rfl rfl) _
  generalize (put4 (wq6) (w.heap.size + 1) (.bool qb5) (.slice qA5 qn5 qc5) (.bool qbb5) (.slice qAA5 qnn5 qcc5)) = Wn7 at hv7 hl7 ⊢
  have HD7 := Lib.hid (And.intro hv7 hl7)
  clear hv7 hl7
  refine hK _ _ (⟨(HD7.out.1.all 5 _ rfl).lies rfl, (HD7.out.1.all 4 _ rfl).lies rfl⟩) (fun hH7 => ?_)
  clear hK K hH6
  change wpAnyH _ _ _ _ _ _ _ (Act.put _ none _) _
  simp only [Act.put]
  refine wpAnyH_ready (rs := [5]) (by kernel_rfl) (by simp) ?_
  refine AllReadyH.cons rfl (fun K hK0 => ?d6) (AllReadyH.nil)
  have hK := hK0.out
  clear hK0
  rw [if_pos (by kernel_rfl)]
  refine wp_go_skip (store4 ((HD7.out.1.all 6 _ rfl).lies rfl) ((HD7.out.1.all 6 _ rfl).frz rfl) qb6 qA6 qn6 qc6 qbb6 qAA6 qnn6 qcc6 (.tmp 3) (.tmp 30) (by kernel_rfl) (by kernel_rfl) (by kernel_rfl)) ?_
  have hu8 := FVars.over4 HD7.out.1 6 (s := ⟨true, (w.heap.size + 1 + 1), false, none, 0, 0, false, none, 0, 0, 0, 0, 6⟩) (t := ⟨false, 0, qb6, qA6, qn6, qc6, qbb6, qAA6, qnn6, qcc6, x, 1, 4⟩) rfl rfl (show 3 ≤ 6 from by decide) (show 3 ≤ 4 from by decide) ((HD7.out.1.all 0 _ rfl).at_)
  have hv8 : FVars w.heap.size (put4 (Wn7) (w.heap.size + 1 + 1) (.bool qb6) (.slice qA6 qn6 qc6) (.bool qbb6) (.slice qAA6 qnn6 qcc6)) [⟨false, 0, qb6, qA6, qn6, qc6, qbb6, qAA6, qnn6, qcc6, x, 1, 4⟩, ⟨false, 0, qb5, qA5, qn5, qc5, qbb5, qAA5, qnn5, qcc5, x, 1, 3⟩, ⟨true, rrr2, rb2, rA2, rn2, rc2, false, none, 0, 0, d, 0, 1⟩, ⟨true, rrq2, qb2, qA2, qn2, qc2, false, none, 0, 0, d, 0, 0⟩, ⟨true, rrr1, rb1, rA1, rn1, rc1, false, none, 0, 0, x, 0, 1⟩, ⟨true, rrq1, qb1, qA1, qn1, qc1, false, none, 0, 0, x, 0, 0⟩, ⟨true, (w.heap.size + 1 + 1), qb6, qA6, qn6, qc6, qbb6, qAA6, qnn6, qcc6, x, 1, 4⟩, ⟨true, (w.heap.size + 1), qb5, qA5, qn5, qc5, qbb5, qAA5, qnn5, qcc5, x, 1, 3⟩, ⟨true, w.heap.size, s1, A1, n1, c1, s2, A2, n2, c2, x, d, 5⟩] := hu8
  clear hu8
  have hl8 : Below w.heap.size w (put4 (Wn7) (w.heap.size + 1 + 1) (.bool qb6) (.slice qA6 qn6 qc6) (.bool qbb6) (.slice qAA6 qnn6 qcc6)) := (((HD7.out.2.setCell (p := ⟨(w.heap.size + 1 + 1), 0, none⟩) (HD7.out.1.up 6 _ rfl rfl) _).setCell (p := ⟨(w.heap.size + 1 + 1), 1, none⟩) (HD7.out.1.up 6 _ rfl rfl) _).setCell (p := ⟨(w.heap.size + 1 + 1), 2, none⟩) (HD7.out.1.up 6 _ rfl rfl) _).setCell (p := ⟨(w.heap.size + 1 + 1), 3, none⟩) (HD7.out.1.up 6 _ rfl rfl) _
  generalize (put4 (Wn7) (w.heap.size + 1 + 1) (.bool qb6) (.slice qA6 qn6 qc6) (.bool qbb6) (.slice qAA6 qnn6 qcc6)) = Wn8 at hv8 hl8 ⊢
  have HD8 := Lib.hid (And.intro hv8 hl8)
  clear hv8 hl8
  refine hK _ _ (⟨(HD8.out.1.all 5 _ rfl).lies rfl, (HD8.out.1.all 4 _ rfl).lies rfl⟩) (fun hH8 => ?_)
  clear hK K hH7
  change wpAnyH _ _ _ _ _ _ _ (Act.put _ none _) _
  simp only [Act.put]
  refine wpAnyH_done (by kernel_rfl) ?_ _
  go_wp2_with fail
  obtain ⟨e00, e01, e02, e03⟩ : Quad Wn8 (w.heap.size + 1) (.bool qb5) (.slice qA5 qn5 qc5) (.bool qbb5) (.slice qAA5 qnn5 qcc5) := (HD8.out.1.all 7 _ rfl).lies rfl
  obtain ⟨e10, e11, e12, e13⟩ : Quad Wn8 (w.heap.size + 1 + 1) (.bool qb6) (.slice qA6 qn6 qc6) (.bool qbb6) (.slice qAA6 qnn6 qcc6) := (HD8.out.1.all 6 _ rfl).lies rfl
  refine bodyPost_ret (v := (.tuple #[.agg #[.bool qb5, .slice qA5 qn5 qc5, .bool qbb5, .slice qAA5 qnn5 qcc5], .agg #[.bool qb6, .slice qA6 qn6 qc6, .bool qbb6, .slice qAA6 qnn6 qcc6]])) (by simp [results, Tryz.results18, go_sem, e00, e01, e02, e03, e10, e11, e12, e13]) rfl ?_
  exact ⟨_, _, rfl, (HD8.out.1.all 7 _ rfl).at_, (HD8.out.1.all 6 _ rfl).at_, HD8.out.2⟩
theorem TOf_some (x d : Int) (v : Value) (m : Nat) (w : World) (h : QAt w v x d) (hm0 : 0 < m) (hm : m ≤ 400) (hx : x.natAbs < B32 ^ m) (hd : d.natAbs < B32 ^ m) (c : Int) (hc : d.sign = c) (h0 : d ≠ 0) : Calls Tryz.prog 18 #[v] w fun e w' => IsTOf w w' (Qx.num x d) (Qx.den x d) e := by
  obtain ⟨s1, A1, n1, c1, s2, A2, n2, c2, rfl, h1, h2⟩ := id h
  have hsn : (c == 0) = false := by rw [beq_eq_false_iff_ne, ← hc]; exact fun e => h0 (Int.sign_eq_zero_iff_zero.1 e)
  obtain ⟨X, hX⟩ : ∃ X, Qx.num x d = X := ⟨_, rfl⟩
  obtain ⟨D, hD⟩ : ∃ D, Qx.den x d = D := ⟨_, rfl⟩
  have nb := new_some x d m hm0 hm hx hd h0
  rw [hX, hD] at nb ⊢
  have HN := Lib.hid (And.intro hc (toD hd))
  have HB := Lib.hid nb
  have hm2 : 2 * m ≤ 900000 := by omega
  have gh0 := (FVars.told (FVars.nil w.heap.size w) (t := ⟨false, 0, s1, A1, n1, c1, s2, A2, n2, c2, x, d, 5⟩) (At.step (t := ⟨false, 0, s1, A1, n1, c1, s2, A2, n2, c2, x, d, 5⟩) (h) (Below.refl w.heap.size w) rfl) rfl).laid4 26 (show 3 ≤ 5 from by decide) (by exact Nat.le_refl _)
  have gh1 := (FVars.told gh0 (t := ⟨false, 0, false, none, 0, 0, false, none, 0, 0, 0, 1, 3⟩) ((zero3 _)) rfl).laid4 38 (show 3 ≤ 3 from by decide) (by simp only [size_alloc]; omega)
  have gh2 := (FVars.told gh1 (t := ⟨false, 0, false, none, 0, 0, false, none, 0, 0, 0, 0, 6⟩) ((trivial)) rfl).laid4 43 (show 3 ≤ 6 from by decide) (by simp only [size_alloc]; omega)
  have gb : Below w.heap.size w (((w.alloc (.cells #[.bool s1, .slice A1 n1 c1, .bool s2, .slice A2 n2 c2] 26)).alloc (.cells #[.bool false, .slice none 0 0, .bool false, .slice none 0 0] 38)).alloc (.cells #[.bool false, .slice none 0 0, .bool false, .slice none 0 0] 43)) := ((((Below.refl w.heap.size w).alloc (by exact Nat.le_refl _) (.cells #[.bool s1, .slice A1 n1 c1, .bool s2, .slice A2 n2 c2] 26)).alloc (by simp only [size_alloc]; omega) (.cells #[.bool false, .slice none 0 0, .bool false, .slice none 0 0] 38)).alloc (by simp only [size_alloc]; omega) (.cells #[.bool false, .slice none 0 0, .bool false, .slice none 0 0] 43))
  simp only [size_alloc] at gh2
  obtain ⟨W, hW⟩ : ∃ W : World, (((w.alloc (.cells #[.bool s1, .slice A1 n1 c1, .bool s2, .slice A2 n2 c2] 26)).alloc (.cells #[.bool false, .slice none 0 0, .bool false, .slice none 0 0] 38)).alloc (.cells #[.bool false, .slice none 0 0, .bool false, .slice none 0 0] 43)) = W := ⟨_, rfl⟩
  rw [hW] at gh2 gb
  have HC := Lib.hid (And.intro gh2 gb)
  have HW := Lib.hid hW
  clear gb hW gh0 gh1 gh2
  have HM := Lib.hid hm2
  clear h h1 h2 hm0 hm hd h0 hm2 hx hX hD nb hc
  go_enter Tryz.func18, Tryz.ntmps18
  go_upto_region 1 with fail
  rw [HW.out]
  clear HW
  obtain ⟨px0, px1, px2, px3⟩ : Quad W w.heap.size (.bool s1) (.slice A1 n1 c1) (.bool s2) (.slice A2 n2 c2) := (HC.out.1.all 2 _ rfl).lies rfl
  go_wp2_with fail
  refine (RK.of_is _ x _ (q_lo (HC.out.1.all 2 _ rfl).at_)).mono ?_
  rintro e wq1 ⟨qv1, rv1, rfl, hq1, hr1, hb1⟩
  obtain ⟨qb1, qA1, qn1, qc1, rfl, hq1⟩ := open0 hq1
  obtain ⟨rb1, rA1, rn1, rc1, rfl, hr1⟩ := open1 hr1
  have hv1 := (((FVars.told (FVars.told (FVars.step HC.out.1 hb1 rfl) (t := ⟨false, 0, rb1, rA1, rn1, rc1, false, none, 0, 0, x, 0, 1⟩) hr1 rfl) (t := ⟨false, 0, qb1, qA1, qn1, qc1, false, none, 0, 0, x, 0, 0⟩) hq1 rfl).laid2 31 lyK (Nat.le_trans HC.out.2.size hb1.size)).swap).laid2 34 lyL (Nat.le_trans (Nat.le_trans HC.out.2.size hb1.size) (by simp))
  rw [size_alloc] at hv1
  have hl1 : Below w.heap.size w ((wq1.alloc (.cells #[.bool qb1, .slice qA1 qn1 qc1] 31)).alloc (.cells #[.bool rb1, .slice rA1 rn1 rc1] 34)) := (((below_then HC.out.2 hb1).alloc (Nat.le_trans HC.out.2.size hb1.size) (.cells #[.bool qb1, .slice qA1 qn1 qc1] 31)).alloc (Nat.le_trans (Nat.le_trans HC.out.2.size hb1.size) (by simp)) (.cells #[.bool rb1, .slice rA1 rn1 rc1] 34))
  obtain ⟨Wq1, hW1⟩ : ∃ W : World, W = (wq1.alloc (.cells #[.bool qb1, .slice qA1 qn1 qc1] 31)).alloc (.cells #[.bool rb1, .slice rA1 rn1 rc1] 34) := ⟨_, rfl⟩
  obtain ⟨rrq1, hsq1⟩ : ∃ r : Nat, r = wq1.heap.size := ⟨_, rfl⟩
  obtain ⟨rrr1, hsr1⟩ : ∃ r : Nat, r = wq1.heap.size + 1 := ⟨_, rfl⟩
  rw [← hW1] at hv1 hl1
  rw [← hsr1] at hv1
  rw [← hsq1] at hv1
  have HC1 := Lib.hid (And.intro hv1 hl1)
  have HW1 := Lib.hid hW1
  have HRq1 := Lib.hid hsq1
  have HRr1 := Lib.hid hsr1
  clear px0 px1 px2 px3
  clear hv1 hl1 hW1 hb1 hsq1 hq1 hsr1 hr1 HC
  go_upto_region 2 with fail
  rw [← HW1.out]
  rw [← HRr1.out]
  rw [← HRq1.out]
  clear HW1 HRq1 HRr1
  obtain ⟨px0, px1, px2, px3⟩ : Quad Wq1 w.heap.size (.bool s1) (.slice A1 n1 c1) (.bool s2) (.slice A2 n2 c2) := (HC1.out.1.all 4 _ rfl).lies rfl
  go_wp2_with fail
  refine (RK.of_is _ d _ (q_hi (HC1.out.1.all 4 _ rfl).at_)).mono ?_
  rintro e wq2 ⟨qv2, rv2, rfl, hq2, hr2, hb2⟩
  obtain ⟨qb2, qA2, qn2, qc2, rfl, hq2⟩ := open0 hq2
  obtain ⟨rb2, rA2, rn2, rc2, rfl, hr2⟩ := open1 hr2
  have hv2 := (((FVars.told (FVars.told (FVars.step HC1.out.1 hb2 rfl) (t := ⟨false, 0, rb2, rA2, rn2, rc2, false, none, 0, 0, d, 0, 1⟩) hr2 rfl) (t := ⟨false, 0, qb2, qA2, qn2, qc2, false, none, 0, 0, d, 0, 0⟩) hq2 rfl).laid2 31 lyK (Nat.le_trans HC1.out.2.size hb2.size)).swap).laid2 34 lyL (Nat.le_trans (Nat.le_trans HC1.out.2.size hb2.size) (by simp))
  rw [size_alloc] at hv2
  have hl2 : Below w.heap.size w ((wq2.alloc (.cells #[.bool qb2, .slice qA2 qn2 qc2] 31)).alloc (.cells #[.bool rb2, .slice rA2 rn2 rc2] 34)) := (((below_then HC1.out.2 hb2).alloc (Nat.le_trans HC1.out.2.size hb2.size) (.cells #[.bool qb2, .slice qA2 qn2 qc2] 31)).alloc (Nat.le_trans (Nat.le_trans HC1.out.2.size hb2.size) (by simp)) (.cells #[.bool rb2, .slice rA2 rn2 rc2] 34))
  obtain ⟨Wq2, hW2⟩ : ∃ W : World, W = (wq2.alloc (.cells #[.bool qb2, .slice qA2 qn2 qc2] 31)).alloc (.cells #[.bool rb2, .slice rA2 rn2 rc2] 34) := ⟨_, rfl⟩
  obtain ⟨rrq2, hsq2⟩ : ∃ r : Nat, r = wq2.heap.size := ⟨_, rfl⟩
  obtain ⟨rrr2, hsr2⟩ : ∃ r : Nat, r = wq2.heap.size + 1 := ⟨_, rfl⟩
  rw [← hW2] at hv2 hl2
  rw [← hsr2] at hv2
  rw [← hsq2] at hv2
  have HC2 := Lib.hid (And.intro hv2 hl2)
  have HW2 := Lib.hid hW2
  have HRq2 := Lib.hid hsq2
  have HRr2 := Lib.hid hsr2
  clear px0 px1 px2 px3
  clear hv2 hl2 hW2 hb2 hsq2 hq2 hsr2 hr2 HC1
  go_upto_region 3 with fail
  rw [← HW2.out]
  rw [← HRr2.out]
  rw [← HRq2.out]
  clear HW2 HRq2 HRr2
  obtain ⟨pv0, pv1⟩ : Two Wq2 rrr2 (.bool rb2) (.slice rA2 rn2 rc2) := (HC2.out.1.all 0 _ rfl).lies rfl
  go_wp2_with fail
  refine (RK.rsign_is _ d c (2 * m) _ ((HC2.out.1.all 0 _ rfl).at_) HM.out HN.out.2 HN.out.1).mono ?_
  rintro e wq3 ⟨rfl, hb3⟩
  have HC3 := Lib.hid (And.intro (HC2.out.1.step hb3 rfl) (below_then HC2.out.2 hb3))
  clear pv0 pv1
  clear hb3 HC2
  obtain ⟨pa0, pa1⟩ : Two wq3 rrq1 (.bool qb1) (.slice qA1 qn1 qc1) := (HC3.out.1.all 3 _ rfl).lies rfl
  obtain ⟨pb0, pb1⟩ : Two wq3 rrq2 (.bool qb2) (.slice qA2 qn2 qc2) := (HC3.out.1.all 1 _ rfl).lies rfl
  go_wp2_with fail
  refine (HB.out.p _ _ _ ((HC3.out.1.all 3 _ rfl).at_) ((HC3.out.1.all 1 _ rfl).at_)).mono ?_
  rintro e wq4 ⟨qv4, rfl, hq4, hb4⟩
  obtain ⟨qb4, qA4, qn4, qc4, qbb4, qAA4, qnn4, qcc4, rfl, hq4⟩ := open3 hq4
  have hv4 := (FVars.told (FVars.step HC3.out.1 hb4 rfl) (t := ⟨false, 0, qb4, qA4, qn4, qc4, qbb4, qAA4, qnn4, qcc4, X, D, 3⟩) hq4 rfl).laid4 38 (show 3 ≤ 3 from by decide) (Nat.le_trans HC3.out.2.size hb4.size)
  have hl4 : Below w.heap.size w (wq4.alloc (.cells #[.bool qb4, .slice qA4 qn4 qc4, .bool qbb4, .slice qAA4 qnn4 qcc4] 38)) := ((below_then HC3.out.2 hb4).alloc (Nat.le_trans HC3.out.2.size hb4.size) (.cells #[.bool qb4, .slice qA4 qn4 qc4, .bool qbb4, .slice qAA4 qnn4 qcc4] 38))
  obtain ⟨Wq4, hW4⟩ : ∃ W : World, W = wq4.alloc (.cells #[.bool qb4, .slice qA4 qn4 qc4, .bool qbb4, .slice qAA4 qnn4 qcc4] 38) := ⟨_, rfl⟩
  obtain ⟨rrq4, hsq4⟩ : ∃ r : Nat, r = wq4.heap.size := ⟨_, rfl⟩
  rw [← hW4] at hv4 hl4
  rw [← hsq4] at hv4
  have HC4 := Lib.hid (And.intro hv4 hl4)
  have HW4 := Lib.hid hW4
  have HRq4 := Lib.hid hsq4
  clear pa0 pa1 pb0 pb1
  clear hv4 hl4 hW4 hb4 hsq4 hq4 HC3
  go_upto_region 6 with fail
  rw [← HW4.out]
  rw [← HRq4.out]
  clear HW4 HRq4
  obtain ⟨pu0, pu1⟩ : Two Wq4 rrr1 (.bool rb1) (.slice rA1 rn1 rc1) := (HC4.out.1.all 3 _ rfl).lies rfl
  obtain ⟨pv0, pv1⟩ : Two Wq4 rrr2 (.bool rb2) (.slice rA2 rn2 rc2) := (HC4.out.1.all 1 _ rfl).lies rfl
  go_wp2_with fail
  refine (HB.out.q _ _ _ ((HC4.out.1.all 3 _ rfl).at_) ((HC4.out.1.all 1 _ rfl).at_)).mono ?_
  rintro e wq5 ⟨qv5, rfl, hq5, hb5⟩
  obtain ⟨qb5, qA5, qn5, qc5, qbb5, qAA5, qnn5, qcc5, rfl, hq5⟩ := open4 hq5
  have hv5 := (FVars.told (FVars.step HC4.out.1 hb5 rfl) (t := ⟨false, 0, qb5, qA5, qn5, qc5, qbb5, qAA5, qnn5, qcc5, X, D, 4⟩) hq5 rfl).laid4 43 (show 3 ≤ 4 from by decide) (Nat.le_trans HC4.out.2.size hb5.size)
  have hl5 : Below w.heap.size w (wq5.alloc (.cells #[.bool qb5, .slice qA5 qn5 qc5, .bool qbb5, .slice qAA5 qnn5 qcc5] 43)) := ((below_then HC4.out.2 hb5).alloc (Nat.le_trans HC4.out.2.size hb5.size) (.cells #[.bool qb5, .slice qA5 qn5 qc5, .bool qbb5, .slice qAA5 qnn5 qcc5] 43))
  obtain ⟨Wq5, hW5⟩ : ∃ W : World, W = wq5.alloc (.cells #[.bool qb5, .slice qA5 qn5 qc5, .bool qbb5, .slice qAA5 qnn5 qcc5] 43) := ⟨_, rfl⟩
  obtain ⟨rrq5, hsq5⟩ : ∃ r : Nat, r = wq5.heap.size := ⟨_, rfl⟩
  rw [← hW5] at hv5 hl5
  rw [← hsq5] at hv5
  have HC5 := Lib.hid (And.intro hv5 hl5)
  have HW5 := Lib.hid hW5
  have HRq5 := Lib.hid hsq5
  clear pu0 pu1 pv0 pv1
  clear hv5 hl5 hW5 hb5 hsq5 hq5 HC4
  go_upto_region 7 with fail
  rw [← HW5.out]
  rw [← HRq5.out]
  clear HW5 HRq5
  have HD6 := Lib.hid (And.intro HC5.out.1.drew HC5.out.2.drew)
  refine wp_region_held_drew (S := fun w' => Quad w' rrq4 (.bool qb4) (.slice qA4 qn4 qc4) (.bool qbb4) (.slice qAA4 qnn4 qcc4) ∧ Quad w' rrq5 (.bool qb5) (.slice qA5 qn5 qc5) (.bool qbb5) (.slice qAA5 qnn5 qcc5)) (by kernel_rfl) (⟨(HD6.out.1.all 1 _ rfl).lies rfl, (HD6.out.1.all 0 _ rfl).lies rfl⟩) (fun hH0 => ?_)
  refine wpAnyH_take (i := 0) (v := (.agg #[.bool qb4, .slice qA4 qn4 qc4, .bool qbb4, .slice qAA4 qnn4 qcc4])) rfl (by kernel_rfl) (by kernel_rfl) (by kernel_rfl) (fun _ _ _ h => h) (Or.inl ⟨by kernel_rfl, fun w0 hS0 => load3 (hS0.1) (.tmp 8) (by kernel_rfl) (by kernel_rfl)⟩) hH0 ?r7
  change wpAnyH _ _ _ _ _ _ _ (Act.put _ (some 43) _) _
  simp only [Act.put, lyA, lyZ, lyS]
  refine wpAnyH_take (i := 1) (v := (.agg #[.bool qb5, .slice qA5 qn5 qc5, .bool qbb5, .slice qAA5 qnn5 qcc5])) rfl (by kernel_rfl) (by kernel_rfl) (by kernel_rfl) (fun _ _ _ h => h) (Or.inl ⟨by kernel_rfl, fun w0 hS0 => load4 (hS0.2) (.tmp 10) (by kernel_rfl) (by kernel_rfl)⟩) hH0 ?r8
  change wpAnyH _ _ _ _ _ _ _ (Act.put _ (some 44) _) _
  simp only [Act.put, lyA, lyZ, lyS]
  refine wpAnyH_ready (rs := [2]) (by kernel_rfl) (by simp) ?_
  refine AllReadyH.cons rfl (fun K hK0 => ?d9) (AllReadyH.nil)
  have hK := hK0.out
  clear hK0
  rw [if_pos (by kernel_rfl)]
  refine wp_go_skip (store3 ((HD6.out.1.all 7 _ rfl).lies rfl) ((HD6.out.1.all 7 _ rfl).frz rfl) qb4 qA4 qn4 qc4 qbb4 qAA4 qnn4 qcc4 (.tmp 2) (.tmp 43) (by kernel_rfl) (by kernel_rfl) (by kernel_rfl)) ?_
  have hu7 := FVars.over4 HD6.out.1 7 (s := ⟨true, (w.heap.size + 1), false, none, 0, 0, false, none, 0, 0, 0, 1, 3⟩) (t := ⟨false, 0, qb4, qA4, qn4, qc4, qbb4, qAA4, qnn4, qcc4, X, D, 3⟩) rfl rfl (show 3 ≤ 3 from by decide) (show 3 ≤ 3 from by decide) ((HD6.out.1.all 1 _ rfl).at_)
  have hv7 : FVars w.heap.size (put4 (Wq5.drew) (w.heap.size + 1) (.bool qb4) (.slice qA4 qn4 qc4) (.bool qbb4) (.slice qAA4 qnn4 qcc4)) [⟨true, rrq5, qb5, qA5, qn5, qc5, qbb5, qAA5, qnn5, qcc5, X, D, 4⟩, ⟨true, rrq4, qb4, qA4, qn4, qc4, qbb4, qAA4, qnn4, qcc4, X, D, 3⟩, ⟨true, rrr2, rb2, rA2, rn2, rc2, false, none, 0, 0, d, 0, 1⟩, ⟨true, rrq2, qb2, qA2, qn2, qc2, false, none, 0, 0, d, 0, 0⟩, ⟨true, rrr1, rb1, rA1, rn1, rc1, false, none, 0, 0, x, 0, 1⟩, ⟨true, rrq1, qb1, qA1, qn1, qc1, false, none, 0, 0, x, 0, 0⟩, ⟨true, (w.heap.size + 1 + 1), false, none, 0, 0, false, none, 0, 0, 0, 0, 6⟩, ⟨true, (w.heap.size + 1), qb4, qA4, qn4, qc4, qbb4, qAA4, qnn4, qcc4, X, D, 3⟩, ⟨true, w.heap.size, s1, A1, n1, c1, s2, A2, n2, c2, x, d, 5⟩] := hu7
  clear hu7
  have hl7 : Below w.heap.size w (put4 (Wq5.drew) (w.heap.size + 1) (.bool qb4) (.slice qA4 qn4 qc4) (.bool qbb4) (.slice qAA4 qnn4 qcc4)) := (((HD6.out.2.setCell (p := ⟨(w.heap.size + 1), 0, none⟩) (HD6.out.1.up 7 _ rfl rfl) _).setCell (p := ⟨(w.heap.size + 1), 1, none⟩) (HD6.out.1.up 7 _ rfl rfl) _).setCell (p := ⟨(w.heap.size + 1), 2, none⟩) (HD6.out.1.up 7 _ rfl rfl) _).setCell (p := ⟨(w.heap.size + 1), 3, none⟩) (HD6.out.1.up 7 _ rfl rfl) _
  generalize (put4 (Wq5.drew) (w.heap.size + 1) (.bool qb4) (.slice qA4 qn4 qc4) (.bool qbb4) (.slice qAA4 qnn4 qcc4)) = Wn7 at hv7 hl7 ⊢
  have HD7 := Lib.hid (And.intro hv7 hl7)
  clear hv7 hl7
  refine hK _ _ (⟨(HD7.out.1.all 1 _ rfl).lies rfl, (HD7.out.1.all 0 _ rfl).lies rfl⟩) (fun hH7 => ?_)
  clear hK K hH0
  change wpAnyH _ _ _ _ _ _ _ (Act.put _ none _) _
  simp only [Act.put]
  refine wpAnyH_ready (rs := [3]) (by kernel_rfl) (by simp) ?_
  refine AllReadyH.cons rfl (fun K hK0 => ?d10) (AllReadyH.nil)
  have hK := hK0.out
  clear hK0
  rw [if_pos (by kernel_rfl)]
  refine wp_go_skip (store4 ((HD7.out.1.all 6 _ rfl).lies rfl) ((HD7.out.1.all 6 _ rfl).frz rfl) qb5 qA5 qn5 qc5 qbb5 qAA5 qnn5 qcc5 (.tmp 3) (.tmp 44) (by kernel_rfl) (by kernel_rfl) (by kernel_rfl)) ?_
  have hu8 := FVars.over4 HD7.out.1 6 (s := ⟨true, (w.heap.size + 1 + 1), false, none, 0, 0, false, none, 0, 0, 0, 0, 6⟩) (t := ⟨false, 0, qb5, qA5, qn5, qc5, qbb5, qAA5, qnn5, qcc5, X, D, 4⟩) rfl rfl (show 3 ≤ 6 from by decide) (show 3 ≤ 4 from by decide) ((HD7.out.1.all 0 _ rfl).at_)
  have hv8 : FVars w.heap.size (put4 (Wn7) (w.heap.size + 1 + 1) (.bool qb5) (.slice qA5 qn5 qc5) (.bool qbb5) (.slice qAA5 qnn5 qcc5)) [⟨true, rrq5, qb5, qA5, qn5, qc5, qbb5, qAA5, qnn5, qcc5, X, D, 4⟩, ⟨true, rrq4, qb4, qA4, qn4, qc4, qbb4, qAA4, qnn4, qcc4, X, D, 3⟩, ⟨true, rrr2, rb2, rA2, rn2, rc2, false, none, 0, 0, d, 0, 1⟩, ⟨true, rrq2, qb2, qA2, qn2, qc2, false, none, 0, 0, d, 0, 0⟩, ⟨true, rrr1, rb1, rA1, rn1, rc1, false, none, 0, 0, x, 0, 1⟩, ⟨true, rrq1, qb1, qA1, qn1, qc1, false, none, 0, 0, x, 0, 0⟩, ⟨true, (w.heap.size + 1 + 1), qb5, qA5, qn5, qc5, qbb5, qAA5, qnn5, qcc5, X, D, 4⟩, ⟨true, (w.heap.size + 1), qb4, qA4, qn4, qc4, qbb4, qAA4, qnn4, qcc4, X, D, 3⟩, ⟨true, w.heap.size, s1, A1, n1, c1, s2, A2, n2, c2, x, d, 5⟩] := hu8
  clear hu8
  have hl8 : Below w.heap.size w (put4 (Wn7) (w.heap.size + 1 + 1) (.bool qb5) (.slice qA5 qn5 qc5) (.bool qbb5) (.slice qAA5 qnn5 qcc5)) := (((HD7.out.2.setCell (p := ⟨(w.heap.size + 1 + 1), 0, none⟩) (HD7.out.1.up 6 _ rfl rfl) _).setCell (p := ⟨(w.heap.size + 1 + 1), 1, none⟩) (HD7.out.1.up 6 _ rfl rfl) _).setCell (p := ⟨(w.heap.size + 1 + 1), 2, none⟩) (HD7.out.1.up 6 _ rfl rfl) _).setCell (p := ⟨(w.heap.size + 1 + 1), 3, none⟩) (HD7.out.1.up 6 _ rfl rfl) _
  generalize (put4 (Wn7) (w.heap.size + 1 + 1) (.bool qb5) (.slice qA5 qn5 qc5) (.bool qbb5) (.slice qAA5 qnn5 qcc5)) = Wn8 at hv8 hl8 ⊢
  have HD8 := Lib.hid (And.intro hv8 hl8)
  clear hv8 hl8
  refine hK _ _ (⟨(HD8.out.1.all 1 _ rfl).lies rfl, (HD8.out.1.all 0 _ rfl).lies rfl⟩) (fun hH8 => ?_)
  clear hK K hH7
  change wpAnyH _ _ _ _ _ _ _ (Act.put _ none _) _
  simp only [Act.put]
  refine wpAnyH_done (by kernel_rfl) ?_ _
  go_wp2_with fail
  obtain ⟨e00, e01, e02, e03⟩ : Quad Wn8 (w.heap.size + 1) (.bool qb4) (.slice qA4 qn4 qc4) (.bool qbb4) (.slice qAA4 qnn4 qcc4) := (HD8.out.1.all 7 _ rfl).lies rfl
  obtain ⟨e10, e11, e12, e13⟩ : Quad Wn8 (w.heap.size + 1 + 1) (.bool qb5) (.slice qA5 qn5 qc5) (.bool qbb5) (.slice qAA5 qnn5 qcc5) := (HD8.out.1.all 6 _ rfl).lies rfl
  refine bodyPost_ret (v := (.tuple #[.agg #[.bool qb4, .slice qA4 qn4 qc4, .bool qbb4, .slice qAA4 qnn4 qcc4], .agg #[.bool qb5, .slice qA5 qn5 qc5, .bool qbb5, .slice qAA5 qnn5 qcc5]])) (by simp [results, Tryz.results18, go_sem, e00, e01, e02, e03, e10, e11, e12, e13]) rfl ?_
  exact ⟨_, _, rfl, (HD8.out.1.all 7 _ rfl).at_, (HD8.out.1.all 6 _ rfl).at_, HD8.out.2⟩
structure OfB (n d X D : Int) (m : Nat) : Prop where
  low : Qx.Low X D
  fx : X.natAbs < B32 ^ m
  fd : D.natAbs < B32 ^ m
  p : ∀ v w, QAt w v n d → Calls Tryz.prog 18 #[v] w fun e w' => IsTOf w w' X D e
theorem of_both (n d : Int) (m : Nat) (hm0 : 0 < m) (hm : m ≤ 400) (hn : n.natAbs < B32 ^ m) (hd : d.natAbs < B32 ^ m) : ∃ X D, Hid (OfB n d X D m) := by
  by_cases h0 : d = 0
  · have f1 : (1 : Int).natAbs < B32 ^ m := Nat.lt_of_lt_of_le (show 1 < B32 ^ 1 by decide) (Nat.pow_le_pow_right B32_pos hm0)
    exact ⟨n, 1, Lib.hid ⟨low_one n, hn, f1, fun v w h => TOf_zero n d v m w h hm0 hm hd h0⟩⟩
  · have nb := new_some n d m hm0 hm hn hd h0
    exact ⟨_, _, Lib.hid ⟨nb.low, nb.fx, nb.fd, fun v w h => TOf_some n d v m w h hm0 hm hn hd _ rfl h0⟩⟩
end Go.Proofs.YtpgbnegppehckaaGreat.FK
namespace Go.Proofs.YtpgbnegppehckaaGreat.FK
open Go.RowKit Go.Proofs.YtpgbnegppehckaaGreat.RK
def IsTwoI (w w' : World) (q r : Int) (e : Ending) : Prop := ∃ v1 v2, e = .returned (.tuple #[v1, v2]) ∧ IntAt w' v1 q ∧ IntAt w' v2 r ∧ Below w.heap.size w w'
theorem floor_down {n d : Int} (hd : 0 < d) (h : n.tmod d < 0) : n / d = n.tdiv d - 1 ∧ n % d = n.tmod d + d := by
  have h1 := Int.mul_tdiv_add_tmod n d
  have h2 : -d < n.tmod d := by
    have := Int.natAbs_tmod n d
    have h3 : n.natAbs % d.natAbs < d.natAbs := Nat.mod_lt _ (by omega)
    omega
  refine (Int.ediv_emod_unique hd).2 ⟨?_, by omega, by omega⟩
  rw [Int.mul_sub]
  omega
theorem floor_same {n d : Int} (hd : 0 < d) (h : 0 ≤ n.tmod d) : n / d = n.tdiv d ∧ n % d = n.tmod d := by
  have h1 := Int.mul_tdiv_add_tmod n d
  have h3 : n.natAbs % d.natAbs < d.natAbs := Nat.mod_lt _ (by omega)
  have h4 := Int.natAbs_tmod n d
  exact (Int.ediv_emod_unique hd).2 ⟨by omega, h, by omega⟩
theorem fit_tdiv {n d : Int} {K : Nat} (h : n.natAbs < K) : (n.tdiv d).natAbs < K := by
  rw [Int.natAbs_tdiv]
  exact Nat.lt_of_le_of_lt (Nat.div_le_self _ _) h
theorem fit_tmod {n d : Int} {K : Nat} (h : n.natAbs < K) : (n.tmod d).natAbs < K := by
  rw [Int.natAbs_tmod]
  exact Nat.lt_of_le_of_lt (Nat.mod_le _ _) h
theorem floor_down_is (v1 v2 : Value) (n d q r c : Int) (m : Nat) (w : World) (h1 : IntAt w v1 n) (h2 : IntAt w v2 d) (hm0 : 0 < m) (hm : m ≤ 300000) (hn : n.natAbs < B32 ^ m) (hd : d.natAbs < B32 ^ m) (h0 : d ≠ 0) (hq : n.tdiv d = q) (hr : n.tmod d = r) (hc : r.sign = c) (hs : c < 0) (Q R : Int) (hQ : q - 1 = Q) (hR : r + d = R) :
    Calls Tryz.prog 133 #[v1, v2] w fun e w' => IsTwoI w w' Q R e := by
  obtain ⟨b1, A1, n1, c1, rfl, h1⟩ := open0 h1
  obtain ⟨b2, A2, n2, c2, rfl, h2⟩ := open0 h2
  have hdv : ∀ v1 v2 w, IntAt w v1 n → IntAt w v2 d → Calls Tryz.prog 120 #[v1, v2] w fun e w' => IsDivE w w' q r 0 e := fun v1 v2 w k1 k2 => by
    rw [← hq, ← hr]
    exact divide_some v1 v2 n d m w k1 k2 hm hn hd h0
  have fq : q.natAbs < B32 ^ m := by rw [← hq]; exact fit_tdiv hn
  have fr : r.natAbs < B32 ^ m := by rw [← hr]; exact fit_tmod hn
  have hsg : ∀ v w, IntAt w v r → Calls Tryz.prog 64 #[v] w fun e w' => IsNum w w' c e := fun v w k => by
    rw [← hc]
    exact Sign_any v r m w k (by omega) fr
  have hsub : ∀ v1 v2 w, IntAt w v1 q → IntAt w v2 1 → Calls Tryz.prog 164 #[v1, v2] w fun e w' => IsInt w w' Q e := fun v1 v2 w k1 k2 => by rw [← hQ]; exact Sub_any v1 v2 q 1 m w k1 k2 (by omega) fq (fit_one hm0)
  have hadd : ∀ v1 v2 w, IntAt w v1 r → IntAt w v2 d → Calls Tryz.prog 97 #[v1, v2] w fun e w' => IsInt w w' R e := fun v1 v2 w k1 k2 => by rw [← hR]; exact Add_any v1 v2 r d m w k1 k2 (by omega) fr hd
  have gh0 := (FVars.told (FVars.nil w.heap.size w) (t := ⟨false, 0, b1, A1, n1, c1, false, none, 0, 0, n, 0, 0⟩) (At.step (t := ⟨false, 0, b1, A1, n1, c1, false, none, 0, 0, n, 0, 0⟩) (h1) (Below.refl w.heap.size w) rfl) rfl).laid2 31 lyK (by exact Nat.le_refl _)
  have gh1 := (FVars.told gh0 (t := ⟨false, 0, b2, A2, n2, c2, false, none, 0, 0, d, 0, 0⟩) (At.step (t := ⟨false, 0, b2, A2, n2, c2, false, none, 0, 0, d, 0, 0⟩) (h2) ((Below.refl w.heap.size w).alloc (by exact Nat.le_refl _) (.cells #[.bool b1, .slice A1 n1 c1] 31)) rfl) rfl).laid2 31 lyK (by simp only [size_alloc]; omega)
  have gh2 := (FVars.told gh1 (t := ⟨false, 0, false, none, 0, 0, false, none, 0, 0, 0, 0, 0⟩) ((zero0 _)) rfl).laid2 31 lyK (by simp only [size_alloc]; omega)
  have gh3 := (FVars.told gh2 (t := ⟨false, 0, false, none, 0, 0, false, none, 0, 0, 0, 0, 0⟩) ((zero0 _)) rfl).laid2 31 lyK (by simp only [size_alloc]; omega)
  have gb : Below w.heap.size w ((((w.alloc (.cells #[.bool b1, .slice A1 n1 c1] 31)).alloc (.cells #[.bool b2, .slice A2 n2 c2] 31)).alloc (.cells #[.bool false, .slice none 0 0] 31)).alloc (.cells #[.bool false, .slice none 0 0] 31)) := (((((Below.refl w.heap.size w).alloc (by exact Nat.le_refl _) (.cells #[.bool b1, .slice A1 n1 c1] 31)).alloc (by simp only [size_alloc]; omega) (.cells #[.bool b2, .slice A2 n2 c2] 31)).alloc (by simp only [size_alloc]; omega) (.cells #[.bool false, .slice none 0 0] 31)).alloc (by simp only [size_alloc]; omega) (.cells #[.bool false, .slice none 0 0] 31))
  simp only [size_alloc] at gh3
  obtain ⟨W, hW⟩ : ∃ W : World, ((((w.alloc (.cells #[.bool b1, .slice A1 n1 c1] 31)).alloc (.cells #[.bool b2, .slice A2 n2 c2] 31)).alloc (.cells #[.bool false, .slice none 0 0] 31)).alloc (.cells #[.bool false, .slice none 0 0] 31)) = W := ⟨_, rfl⟩
  rw [hW] at gh3 gb
  have HC := Lib.hid (And.intro gh3 gb)
  have HW := Lib.hid hW
  clear gb hW gh0 gh1 gh2 gh3
  have HV := Lib.hid hdv
  have HS := Lib.hid hsg
  have HA := Lib.hid (And.intro hsub hadd)
  clear h1 h2 hm0 hm hn hd h0 hq hr hc fq fr hdv hsg hsub hadd hQ hR
  go_enter Tryz.func133, Tryz.ntmps133
  go_upto_region 1 with fail
  rw [HW.out]
  clear HW
  obtain ⟨pn0, pn1⟩ : Two W w.heap.size (.bool b1) (.slice A1 n1 c1) := (HC.out.1.all 3 _ rfl).lies rfl
  obtain ⟨pd0, pd1⟩ : Two W (w.heap.size + 1) (.bool b2) (.slice A2 n2 c2) := (HC.out.1.all 2 _ rfl).lies rfl
  go_wp2_with fail
  refine (HV.out _ _ _ ((HC.out.1.all 3 _ rfl).at_) ((HC.out.1.all 2 _ rfl).at_)).mono ?_
  rintro e wq1 ⟨qv1, rv1, rfl, hq1, hr1, hb1⟩
  obtain ⟨qb1, qA1, qn1, qc1, rfl, hq1⟩ := open0 hq1
  obtain ⟨rb1, rA1, rn1, rc1, rfl, hr1⟩ := open0 hr1
  have hv1 := (((FVars.told (FVars.told (FVars.step HC.out.1 hb1 rfl) (t := ⟨false, 0, rb1, rA1, rn1, rc1, false, none, 0, 0, r, 0, 0⟩) hr1 rfl) (t := ⟨false, 0, qb1, qA1, qn1, qc1, false, none, 0, 0, q, 0, 0⟩) hq1 rfl).laid2 31 lyK (Nat.le_trans HC.out.2.size hb1.size)).swap).laid2 31 lyK (Nat.le_trans (Nat.le_trans HC.out.2.size hb1.size) (by simp))
  rw [size_alloc] at hv1
  have hl1 : Below w.heap.size w ((wq1.alloc (.cells #[.bool qb1, .slice qA1 qn1 qc1] 31)).alloc (.cells #[.bool rb1, .slice rA1 rn1 rc1] 31)) := (((below_then HC.out.2 hb1).alloc (Nat.le_trans HC.out.2.size hb1.size) (.cells #[.bool qb1, .slice qA1 qn1 qc1] 31)).alloc (Nat.le_trans (Nat.le_trans HC.out.2.size hb1.size) (by simp)) (.cells #[.bool rb1, .slice rA1 rn1 rc1] 31))
  obtain ⟨Wq1, hW1⟩ : ∃ W : World, W = (wq1.alloc (.cells #[.bool qb1, .slice qA1 qn1 qc1] 31)).alloc (.cells #[.bool rb1, .slice rA1 rn1 rc1] 31) := ⟨_, rfl⟩
  obtain ⟨rrq1, hsq1⟩ : ∃ r : Nat, r = wq1.heap.size := ⟨_, rfl⟩
  obtain ⟨rrr1, hsr1⟩ : ∃ r : Nat, r = wq1.heap.size + 1 := ⟨_, rfl⟩
  rw [← hW1] at hv1 hl1
  rw [← hsr1] at hv1
  rw [← hsq1] at hv1
  have HC1 := Lib.hid (And.intro hv1 hl1)
  have HW1 := Lib.hid hW1
  have HRq1 := Lib.hid hsq1
  have HRr1 := Lib.hid hsr1
  clear pn0 pn1 pd0 pd1
  clear hv1 hl1 hW1 hb1 hsq1 hq1 hsr1 hr1 HC
  go_upto_region 2 with fail
  rw [← HW1.out]
  rw [← HRr1.out]
  rw [← HRq1.out]
  clear HW1 HRq1 HRr1
  obtain ⟨pR0, pR1⟩ : Two Wq1 rrr1 (.bool rb1) (.slice rA1 rn1 rc1) := (HC1.out.1.all 0 _ rfl).lies rfl
  go_wp2_with fail
  refine (HS.out _ _ ((HC1.out.1.all 0 _ rfl).at_)).mono ?_
  rintro e wq2 ⟨rfl, hb2⟩
  have HC2 := Lib.hid (And.intro (HC1.out.1.step hb2 rfl) (below_then HC1.out.2 hb2))
  clear pR0 pR1
  clear hb2 HC1
  go_upto_region 3 with fail
  have HD3 := Lib.hid (And.intro HC2.out.1.drew HC2.out.2.drew)
  refine wp_region_held_drew (S := fun w' => Two w' rrq1 (.bool qb1) (.slice qA1 qn1 qc1) ∧ Two w' rrr1 (.bool rb1) (.slice rA1 rn1 rc1) ∧ Two w' (w.heap.size + 1) (.bool b2) (.slice A2 n2 c2)) (by kernel_rfl) (⟨(HD3.out.1.all 1 _ rfl).lies rfl, (HD3.out.1.all 0 _ rfl).lies rfl, (HD3.out.1.all 4 _ rfl).lies rfl⟩) (fun hH0 => ?_)
  refine wpAnyH_take (i := 0) (v := (.agg #[.bool qb1, .slice qA1 qn1 qc1])) rfl (by kernel_rfl) (by kernel_rfl) (by kernel_rfl) (fun _ _ _ h => h) (Or.inl ⟨by kernel_rfl, fun w0 hS0 => load0 (hS0.1) (.tmp 6) (by kernel_rfl) (by kernel_rfl)⟩) hH0 ?r1
  change wpAnyH _ _ _ _ _ _ _ (Act.put _ (some 19) _) _
  simp only [Act.put, lyA, lyZ, lyS]
  refine wpAnyH_take (i := 3) (v := (.agg #[.bool rb1, .slice rA1 rn1 rc1])) rfl (by kernel_rfl) (by kernel_rfl) (by kernel_rfl) (fun _ _ _ h => h) (Or.inl ⟨by kernel_rfl, fun w0 hS0 => load0 (hS0.2.1) (.tmp 7) (by kernel_rfl) (by kernel_rfl)⟩) hH0 ?r2
  change wpAnyH _ _ _ _ _ _ _ (Act.put _ (some 22) _) _
  simp only [Act.put, lyA, lyZ, lyS]
  refine wpAnyH_take (i := 4) (v := (.agg #[.bool b2, .slice A2 n2 c2])) rfl (by kernel_rfl) (by kernel_rfl) (by kernel_rfl) (fun _ _ _ h => h) (Or.inl ⟨by kernel_rfl, fun w0 hS0 => load0 (hS0.2.2) (.tmp 3) (by kernel_rfl) (by kernel_rfl)⟩) hH0 ?r3
  change wpAnyH _ _ _ _ _ _ _ (Act.put _ (some 23) _) _
  simp only [Act.put, lyA, lyZ, lyS]
  refine wpAnyH_ready (rs := [1]) (by kernel_rfl) (by simp) ?_
  refine AllReadyH.cons rfl (fun K hK0 => ?d4) (AllReadyH.nil)
  have hK := hK0.out
  clear hK0
  rw [if_pos (by kernel_rfl)]
  refine wp_go_call 65 #[(Value.int IntKind.i64 1)] (fun _ => by kernel_rfl) ((New_pos 1 _ (by decide)).mono ?_)
  rintro e wq4 ⟨qv4, rfl, hq4, hb4⟩
  obtain ⟨qb4, qA4, qn4, qc4, rfl, hq4⟩ := open0 hq4
  have HD4 := Lib.hid (And.intro (FVars.told (HD3.out.1.step hb4 rfl) (t := ⟨false, 0, qb4, qA4, qn4, qc4, false, none, 0, 0, 1, 0, 0⟩) hq4 rfl) (below_then HD3.out.2 hb4))
  clear hq4 hb4 HD3
  refine ⟨(.agg #[.bool qb4, .slice qA4 qn4 qc4]), rfl, hK _ _ (⟨(HD4.out.1.all 2 _ rfl).lies rfl, (HD4.out.1.all 1 _ rfl).lies rfl, (HD4.out.1.all 5 _ rfl).lies rfl⟩) (fun hH4 => ?_)⟩
  clear hK K hH0
  change wpAnyH _ _ _ _ _ _ _ (Act.put _ (some 20) _) _
  simp only [Act.put, lyA, lyZ, lyS]
  refine wpAnyH_ready (rs := [2]) (by kernel_rfl) (by simp) ?_
  refine AllReadyH.cons rfl (fun K hK0 => ?d5) (AllReadyH.nil)
  have hK := hK0.out
  clear hK0
  rw [if_pos (by kernel_rfl)]
  refine wp_go_call 164 #[(.agg #[.bool qb1, .slice qA1 qn1 qc1]), (.agg #[.bool qb4, .slice qA4 qn4 qc4])] (fun _ => by kernel_rfl) ((HA.out.1 _ _ _ ((HD4.out.1.all 2 _ rfl).at_) ((HD4.out.1.all 0 _ rfl).at_)).mono ?_)
  rintro e wq5 ⟨qv5, rfl, hq5, hb5⟩
  obtain ⟨qb5, qA5, qn5, qc5, rfl, hq5⟩ := open0 hq5
  have HD5 := Lib.hid (And.intro (FVars.told (HD4.out.1.step hb5 rfl) (t := ⟨false, 0, qb5, qA5, qn5, qc5, false, none, 0, 0, Q, 0, 0⟩) hq5 rfl) (below_then HD4.out.2 hb5))
  clear hq5 hb5 HD4
  refine ⟨(.agg #[.bool qb5, .slice qA5 qn5 qc5]), rfl, hK _ _ (⟨(HD5.out.1.all 3 _ rfl).lies rfl, (HD5.out.1.all 2 _ rfl).lies rfl, (HD5.out.1.all 6 _ rfl).lies rfl⟩) (fun hH5 => ?_)⟩
  clear hK K hH4
  change wpAnyH _ _ _ _ _ _ _ (Act.put _ (some 21) _) _
  simp only [Act.put, lyA, lyZ, lyS]
  refine wpAnyH_ready (rs := [5]) (by kernel_rfl) (by simp) ?_
  refine AllReadyH.cons rfl (fun K hK0 => ?d6) (AllReadyH.nil)
  have hK := hK0.out
  clear hK0
  rw [if_pos (by kernel_rfl)]
  refine wp_go_call 97 #[(.agg #[.bool rb1, .slice rA1 rn1 rc1]), (.agg #[.bool b2, .slice A2 n2 c2])] (fun _ => by kernel_rfl) ((HA.out.2 _ _ _ ((HD5.out.1.all 2 _ rfl).at_) ((HD5.out.1.all 6 _ rfl).at_)).mono ?_)
  rintro e wq6 ⟨qv6, rfl, hq6, hb6⟩
  obtain ⟨qb6, qA6, qn6, qc6, rfl, hq6⟩ := open0 hq6
  have HD6 := Lib.hid (And.intro (FVars.told (HD5.out.1.step hb6 rfl) (t := ⟨false, 0, qb6, qA6, qn6, qc6, false, none, 0, 0, R, 0, 0⟩) hq6 rfl) (below_then HD5.out.2 hb6))
  clear hq6 hb6 HD5
  refine ⟨(.agg #[.bool qb6, .slice qA6 qn6 qc6]), rfl, hK _ _ (⟨(HD6.out.1.all 4 _ rfl).lies rfl, (HD6.out.1.all 3 _ rfl).lies rfl, (HD6.out.1.all 7 _ rfl).lies rfl⟩) (fun hH6 => ?_)⟩
  clear hK K hH5
  change wpAnyH _ _ _ _ _ _ _ (Act.put _ (some 24) _) _
  simp only [Act.put, lyA, lyZ, lyS]
  refine wpAnyH_ready (rs := [6]) (by kernel_rfl) (by simp) ?_
  refine AllReadyH.cons rfl (fun K hK0 => ?d7) (AllReadyH.nil)
  have hK := hK0.out
  clear hK0
  rw [if_pos (by kernel_rfl)]
  refine wp_go_skip (store0 ((HD6.out.1.all 6 _ rfl).lies rfl) ((HD6.out.1.all 6 _ rfl).frz rfl) qb5 qA5 qn5 qc5 (.tmp 4) (.tmp 21) (by kernel_rfl) (by kernel_rfl) (by kernel_rfl)) ?_
  have hu7 := FVars.over2 HD6.out.1 6 (s := ⟨true, (w.heap.size + 1 + 1), false, none, 0, 0, false, none, 0, 0, 0, 0, 0⟩) (t := ⟨false, 0, qb5, qA5, qn5, qc5, false, none, 0, 0, Q, 0, 0⟩) rfl rfl lyK lyK ((HD6.out.1.all 1 _ rfl).at_)
  have hv7 : FVars w.heap.size (put2 (wq6) (w.heap.size + 1 + 1) (.bool qb5) (.slice qA5 qn5 qc5)) [⟨false, 0, qb6, qA6, qn6, qc6, false, none, 0, 0, R, 0, 0⟩, ⟨false, 0, qb5, qA5, qn5, qc5, false, none, 0, 0, Q, 0, 0⟩, ⟨false, 0, qb4, qA4, qn4, qc4, false, none, 0, 0, 1, 0, 0⟩, ⟨true, rrr1, rb1, rA1, rn1, rc1, false, none, 0, 0, r, 0, 0⟩, ⟨true, rrq1, qb1, qA1, qn1, qc1, false, none, 0, 0, q, 0, 0⟩, ⟨true, (w.heap.size + 1 + 1 + 1), false, none, 0, 0, false, none, 0, 0, 0, 0, 0⟩, ⟨true, (w.heap.size + 1 + 1), qb5, qA5, qn5, qc5, false, none, 0, 0, Q, 0, 0⟩, ⟨true, (w.heap.size + 1), b2, A2, n2, c2, false, none, 0, 0, d, 0, 0⟩, ⟨true, w.heap.size, b1, A1, n1, c1, false, none, 0, 0, n, 0, 0⟩] := hu7
  clear hu7
  have hl7 : Below w.heap.size w (put2 (wq6) (w.heap.size + 1 + 1) (.bool qb5) (.slice qA5 qn5 qc5)) := (HD6.out.2.setCell (p := ⟨(w.heap.size + 1 + 1), 0, none⟩) (HD6.out.1.up 6 _ rfl rfl) _).setCell (p := ⟨(w.heap.size + 1 + 1), 1, none⟩) (HD6.out.1.up 6 _ rfl rfl) _
  generalize (put2 (wq6) (w.heap.size + 1 + 1) (.bool qb5) (.slice qA5 qn5 qc5)) = Wn7 at hv7 hl7 ⊢
  have HD7 := Lib.hid (And.intro hv7 hl7)
  clear hv7 hl7
  refine hK _ _ (⟨(HD7.out.1.all 4 _ rfl).lies rfl, (HD7.out.1.all 3 _ rfl).lies rfl, (HD7.out.1.all 7 _ rfl).lies rfl⟩) (fun hH7 => ?_)
  clear hK K hH6
  change wpAnyH _ _ _ _ _ _ _ (Act.put _ none _) _
  simp only [Act.put]
  refine wpAnyH_ready (rs := [7]) (by kernel_rfl) (by simp) ?_
  refine AllReadyH.cons rfl (fun K hK0 => ?d8) (AllReadyH.nil)
  have hK := hK0.out
  clear hK0
  rw [if_pos (by kernel_rfl)]
  refine wp_go_skip (store0 ((HD7.out.1.all 5 _ rfl).lies rfl) ((HD7.out.1.all 5 _ rfl).frz rfl) qb6 qA6 qn6 qc6 (.tmp 5) (.tmp 24) (by kernel_rfl) (by kernel_rfl) (by kernel_rfl)) ?_
  have hu8 := FVars.over2 HD7.out.1 5 (s := ⟨true, (w.heap.size + 1 + 1 + 1), false, none, 0, 0, false, none, 0, 0, 0, 0, 0⟩) (t := ⟨false, 0, qb6, qA6, qn6, qc6, false, none, 0, 0, R, 0, 0⟩) rfl rfl lyK lyK ((HD7.out.1.all 0 _ rfl).at_)
  have hv8 : FVars w.heap.size (put2 (Wn7) (w.heap.size + 1 + 1 + 1) (.bool qb6) (.slice qA6 qn6 qc6)) [⟨false, 0, qb6, qA6, qn6, qc6, false, none, 0, 0, R, 0, 0⟩, ⟨false, 0, qb5, qA5, qn5, qc5, false, none, 0, 0, Q, 0, 0⟩, ⟨false, 0, qb4, qA4, qn4, qc4, false, none, 0, 0, 1, 0, 0⟩, ⟨true, rrr1, rb1, rA1, rn1, rc1, false, none, 0, 0, r, 0, 0⟩, ⟨true, rrq1, qb1, qA1, qn1, qc1, false, none, 0, 0, q, 0, 0⟩, ⟨true, (w.heap.size + 1 + 1 + 1), qb6, qA6, qn6, qc6, false, none, 0, 0, R, 0, 0⟩, ⟨true, (w.heap.size + 1 + 1), qb5, qA5, qn5, qc5, false, none, 0, 0, Q, 0, 0⟩, ⟨true, (w.heap.size + 1), b2, A2, n2, c2, false, none, 0, 0, d, 0, 0⟩, ⟨true, w.heap.size, b1, A1, n1, c1, false, none, 0, 0, n, 0, 0⟩] := hu8
  clear hu8
  have hl8 : Below w.heap.size w (put2 (Wn7) (w.heap.size + 1 + 1 + 1) (.bool qb6) (.slice qA6 qn6 qc6)) := (HD7.out.2.setCell (p := ⟨(w.heap.size + 1 + 1 + 1), 0, none⟩) (HD7.out.1.up 5 _ rfl rfl) _).setCell (p := ⟨(w.heap.size + 1 + 1 + 1), 1, none⟩) (HD7.out.1.up 5 _ rfl rfl) _
  generalize (put2 (Wn7) (w.heap.size + 1 + 1 + 1) (.bool qb6) (.slice qA6 qn6 qc6)) = Wn8 at hv8 hl8 ⊢
  have HD8 := Lib.hid (And.intro hv8 hl8)
  clear hv8 hl8
  refine hK _ _ (⟨(HD8.out.1.all 4 _ rfl).lies rfl, (HD8.out.1.all 3 _ rfl).lies rfl, (HD8.out.1.all 7 _ rfl).lies rfl⟩) (fun hH8 => ?_)
  clear hK K hH7
  change wpAnyH _ _ _ _ _ _ _ (Act.put _ none _) _
  simp only [Act.put]
  refine wpAnyH_done (by kernel_rfl) ?_ _
  go_wp2_with fail
  obtain ⟨e00, e01⟩ : Two Wn8 (w.heap.size + 1 + 1) (.bool qb5) (.slice qA5 qn5 qc5) := (HD8.out.1.all 6 _ rfl).lies rfl
  obtain ⟨e10, e11⟩ : Two Wn8 (w.heap.size + 1 + 1 + 1) (.bool qb6) (.slice qA6 qn6 qc6) := (HD8.out.1.all 5 _ rfl).lies rfl
  refine bodyPost_ret (v := (.tuple #[.agg #[.bool qb5, .slice qA5 qn5 qc5], .agg #[.bool qb6, .slice qA6 qn6 qc6]])) (by simp [results, Tryz.results133, go_sem, e00, e01, e10, e11]) rfl ?_
  exact ⟨_, _, rfl, (HD8.out.1.all 6 _ rfl).at_, (HD8.out.1.all 5 _ rfl).at_, HD8.out.2⟩
theorem floor_up (v1 v2 : Value) (n d q r c : Int) (m : Nat) (w : World) (h1 : IntAt w v1 n) (h2 : IntAt w v2 d) (hm0 : 0 < m) (hm : m ≤ 300000) (hn : n.natAbs < B32 ^ m) (hd : d.natAbs < B32 ^ m) (h0 : d ≠ 0) (hq : n.tdiv d = q) (hr : n.tmod d = r) (hc : r.sign = c) (hs : 0 ≤ c) :
    Calls Tryz.prog 133 #[v1, v2] w fun e w' => IsTwoI w w' q r e := by
  obtain ⟨b1, A1, n1, c1, rfl, h1⟩ := open0 h1
  obtain ⟨b2, A2, n2, c2, rfl, h2⟩ := open0 h2
  have hdv : ∀ v1 v2 w, IntAt w v1 n → IntAt w v2 d → Calls Tryz.prog 120 #[v1, v2] w fun e w' => IsDivE w w' q r 0 e := fun v1 v2 w k1 k2 => by
    rw [← hq, ← hr]
    exact divide_some v1 v2 n d m w k1 k2 hm hn hd h0
  have fq : q.natAbs < B32 ^ m := by rw [← hq]; exact fit_tdiv hn
  have fr : r.natAbs < B32 ^ m := by rw [← hr]; exact fit_tmod hn
  have hsg : ∀ v w, IntAt w v r → Calls Tryz.prog 64 #[v] w fun e w' => IsNum w w' c e := fun v w k => by
    rw [← hc]
    exact Sign_any v r m w k (by omega) fr
  have gh0 := (FVars.told (FVars.nil w.heap.size w) (t := ⟨false, 0, b1, A1, n1, c1, false, none, 0, 0, n, 0, 0⟩) (At.step (t := ⟨false, 0, b1, A1, n1, c1, false, none, 0, 0, n, 0, 0⟩) (h1) (Below.refl w.heap.size w) rfl) rfl).laid2 31 lyK (by exact Nat.le_refl _)
  have gh1 := (FVars.told gh0 (t := ⟨false, 0, b2, A2, n2, c2, false, none, 0, 0, d, 0, 0⟩) (At.step (t := ⟨false, 0, b2, A2, n2, c2, false, none, 0, 0, d, 0, 0⟩) (h2) ((Below.refl w.heap.size w).alloc (by exact Nat.le_refl _) (.cells #[.bool b1, .slice A1 n1 c1] 31)) rfl) rfl).laid2 31 lyK (by simp only [size_alloc]; omega)
  have gh2 := (FVars.told gh1 (t := ⟨false, 0, false, none, 0, 0, false, none, 0, 0, 0, 0, 0⟩) ((zero0 _)) rfl).laid2 31 lyK (by simp only [size_alloc]; omega)
  have gh3 := (FVars.told gh2 (t := ⟨false, 0, false, none, 0, 0, false, none, 0, 0, 0, 0, 0⟩) ((zero0 _)) rfl).laid2 31 lyK (by simp only [size_alloc]; omega)
  have gb : Below w.heap.size w ((((w.alloc (.cells #[.bool b1, .slice A1 n1 c1] 31)).alloc (.cells #[.bool b2, .slice A2 n2 c2] 31)).alloc (.cells #[.bool false, .slice none 0 0] 31)).alloc (.cells #[.bool false, .slice none 0 0] 31)) := (((((Below.refl w.heap.size w).alloc (by exact Nat.le_refl _) (.cells #[.bool b1, .slice A1 n1 c1] 31)).alloc (by simp only [size_alloc]; omega) (.cells #[.bool b2, .slice A2 n2 c2] 31)).alloc (by simp only [size_alloc]; omega) (.cells #[.bool false, .slice none 0 0] 31)).alloc (by simp only [size_alloc]; omega) (.cells #[.bool false, .slice none 0 0] 31))
  simp only [size_alloc] at gh3
  obtain ⟨W, hW⟩ : ∃ W : World, ((((w.alloc (.cells #[.bool b1, .slice A1 n1 c1] 31)).alloc (.cells #[.bool b2, .slice A2 n2 c2] 31)).alloc (.cells #[.bool false, .slice none 0 0] 31)).alloc (.cells #[.bool false, .slice none 0 0] 31)) = W := ⟨_, rfl⟩
  rw [hW] at gh3 gb
  have HC := Lib.hid (And.intro gh3 gb)
  have HW := Lib.hid hW
  clear gb hW gh0 gh1 gh2 gh3
  have HV := Lib.hid hdv
  have HS := Lib.hid hsg
  clear h1 h2 hm0 hm hn hd h0 hq hr hc fq fr hdv hsg
  go_enter Tryz.func133, Tryz.ntmps133
  go_upto_region 1 with fail
  rw [HW.out]
  clear HW
  obtain ⟨pn0, pn1⟩ : Two W w.heap.size (.bool b1) (.slice A1 n1 c1) := (HC.out.1.all 3 _ rfl).lies rfl
  obtain ⟨pd0, pd1⟩ : Two W (w.heap.size + 1) (.bool b2) (.slice A2 n2 c2) := (HC.out.1.all 2 _ rfl).lies rfl
  go_wp2_with fail
  refine (HV.out _ _ _ ((HC.out.1.all 3 _ rfl).at_) ((HC.out.1.all 2 _ rfl).at_)).mono ?_
  rintro e wq1 ⟨qv1, rv1, rfl, hq1, hr1, hb1⟩
  obtain ⟨qb1, qA1, qn1, qc1, rfl, hq1⟩ := open0 hq1
  obtain ⟨rb1, rA1, rn1, rc1, rfl, hr1⟩ := open0 hr1
  have hv1 := (((FVars.told (FVars.told (FVars.step HC.out.1 hb1 rfl) (t := ⟨false, 0, rb1, rA1, rn1, rc1, false, none, 0, 0, r, 0, 0⟩) hr1 rfl) (t := ⟨false, 0, qb1, qA1, qn1, qc1, false, none, 0, 0, q, 0, 0⟩) hq1 rfl).laid2 31 lyK (Nat.le_trans HC.out.2.size hb1.size)).swap).laid2 31 lyK (Nat.le_trans (Nat.le_trans HC.out.2.size hb1.size) (by simp))
  rw [size_alloc] at hv1
  have hl1 : Below w.heap.size w ((wq1.alloc (.cells #[.bool qb1, .slice qA1 qn1 qc1] 31)).alloc (.cells #[.bool rb1, .slice rA1 rn1 rc1] 31)) := (((below_then HC.out.2 hb1).alloc (Nat.le_trans HC.out.2.size hb1.size) (.cells #[.bool qb1, .slice qA1 qn1 qc1] 31)).alloc (Nat.le_trans (Nat.le_trans HC.out.2.size hb1.size) (by simp)) (.cells #[.bool rb1, .slice rA1 rn1 rc1] 31))
  obtain ⟨Wq1, hW1⟩ : ∃ W : World, W = (wq1.alloc (.cells #[.bool qb1, .slice qA1 qn1 qc1] 31)).alloc (.cells #[.bool rb1, .slice rA1 rn1 rc1] 31) := ⟨_, rfl⟩
  obtain ⟨rrq1, hsq1⟩ : ∃ r : Nat, r = wq1.heap.size := ⟨_, rfl⟩
  obtain ⟨rrr1, hsr1⟩ : ∃ r : Nat, r = wq1.heap.size + 1 := ⟨_, rfl⟩
  rw [← hW1] at hv1 hl1
  rw [← hsr1] at hv1
  rw [← hsq1] at hv1
  have HC1 := Lib.hid (And.intro hv1 hl1)
  have HW1 := Lib.hid hW1
  have HRq1 := Lib.hid hsq1
  have HRr1 := Lib.hid hsr1
  clear pn0 pn1 pd0 pd1
  clear hv1 hl1 hW1 hb1 hsq1 hq1 hsr1 hr1 HC
  go_upto_region 2 with fail
  rw [← HW1.out]
  rw [← HRr1.out]
  rw [← HRq1.out]
  clear HW1 HRq1 HRr1
  obtain ⟨pR0, pR1⟩ : Two Wq1 rrr1 (.bool rb1) (.slice rA1 rn1 rc1) := (HC1.out.1.all 0 _ rfl).lies rfl
  go_wp2_with fail
  refine (HS.out _ _ ((HC1.out.1.all 0 _ rfl).at_)).mono ?_
  rintro e wq2 ⟨rfl, hb2⟩
  have HC2 := Lib.hid (And.intro (HC1.out.1.step hb2 rfl) (below_then HC1.out.2 hb2))
  clear pR0 pR1
  clear hb2 HC1
  go_upto_region 4 with fail
  have HD3 := Lib.hid (And.intro HC2.out.1.drew HC2.out.2.drew)
  refine wp_region_held_drew (S := fun w' => Two w' rrq1 (.bool qb1) (.slice qA1 qn1 qc1) ∧ Two w' rrr1 (.bool rb1) (.slice rA1 rn1 rc1)) (by kernel_rfl) (⟨(HD3.out.1.all 1 _ rfl).lies rfl, (HD3.out.1.all 0 _ rfl).lies rfl⟩) (fun hH0 => ?_)
  refine wpAnyH_take (i := 0) (v := (.agg #[.bool qb1, .slice qA1 qn1 qc1])) rfl (by kernel_rfl) (by kernel_rfl) (by kernel_rfl) (fun _ _ _ h => h) (Or.inl ⟨by kernel_rfl, fun w0 hS0 => load0 (hS0.1) (.tmp 6) (by kernel_rfl) (by kernel_rfl)⟩) hH0 ?r9
  change wpAnyH _ _ _ _ _ _ _ (Act.put _ (some 25) _) _
  simp only [Act.put, lyA, lyZ, lyS]
  refine wpAnyH_take (i := 1) (v := (.agg #[.bool rb1, .slice rA1 rn1 rc1])) rfl (by kernel_rfl) (by kernel_rfl) (by kernel_rfl) (fun _ _ _ h => h) (Or.inl ⟨by kernel_rfl, fun w0 hS0 => load0 (hS0.2) (.tmp 7) (by kernel_rfl) (by kernel_rfl)⟩) hH0 ?r10
  change wpAnyH _ _ _ _ _ _ _ (Act.put _ (some 26) _) _
  simp only [Act.put, lyA, lyZ, lyS]
  refine wpAnyH_ready (rs := [2]) (by kernel_rfl) (by simp) ?_
  refine AllReadyH.cons rfl (fun K hK0 => ?d11) (AllReadyH.nil)
  have hK := hK0.out
  clear hK0
  rw [if_pos (by kernel_rfl)]
  refine wp_go_skip (store0 ((HD3.out.1.all 3 _ rfl).lies rfl) ((HD3.out.1.all 3 _ rfl).frz rfl) qb1 qA1 qn1 qc1 (.tmp 4) (.tmp 25) (by kernel_rfl) (by kernel_rfl) (by kernel_rfl)) ?_
  have hu4 := FVars.over2 HD3.out.1 3 (s := ⟨true, (w.heap.size + 1 + 1), false, none, 0, 0, false, none, 0, 0, 0, 0, 0⟩) (t := ⟨false, 0, qb1, qA1, qn1, qc1, false, none, 0, 0, q, 0, 0⟩) rfl rfl lyK lyK ((HD3.out.1.all 1 _ rfl).at_)
  have hv4 : FVars w.heap.size (put2 (wq2.drew) (w.heap.size + 1 + 1) (.bool qb1) (.slice qA1 qn1 qc1)) [⟨true, rrr1, rb1, rA1, rn1, rc1, false, none, 0, 0, r, 0, 0⟩, ⟨true, rrq1, qb1, qA1, qn1, qc1, false, none, 0, 0, q, 0, 0⟩, ⟨true, (w.heap.size + 1 + 1 + 1), false, none, 0, 0, false, none, 0, 0, 0, 0, 0⟩, ⟨true, (w.heap.size + 1 + 1), qb1, qA1, qn1, qc1, false, none, 0, 0, q, 0, 0⟩, ⟨true, (w.heap.size + 1), b2, A2, n2, c2, false, none, 0, 0, d, 0, 0⟩, ⟨true, w.heap.size, b1, A1, n1, c1, false, none, 0, 0, n, 0, 0⟩] := hu4
  clear hu4
  have hl4 : Below w.heap.size w (put2 (wq2.drew) (w.heap.size + 1 + 1) (.bool qb1) (.slice qA1 qn1 qc1)) := (HD3.out.2.setCell (p := ⟨(w.heap.size + 1 + 1), 0, none⟩) (HD3.out.1.up 3 _ rfl rfl) _).setCell (p := ⟨(w.heap.size + 1 + 1), 1, none⟩) (HD3.out.1.up 3 _ rfl rfl) _
  generalize (put2 (wq2.drew) (w.heap.size + 1 + 1) (.bool qb1) (.slice qA1 qn1 qc1)) = Wn4 at hv4 hl4 ⊢
  have HD4 := Lib.hid (And.intro hv4 hl4)
  clear hv4 hl4
  refine hK _ _ (⟨(HD4.out.1.all 1 _ rfl).lies rfl, (HD4.out.1.all 0 _ rfl).lies rfl⟩) (fun hH4 => ?_)
  clear hK K hH0
  change wpAnyH _ _ _ _ _ _ _ (Act.put _ none _) _
  simp only [Act.put]
  refine wpAnyH_ready (rs := [3]) (by kernel_rfl) (by simp) ?_
  refine AllReadyH.cons rfl (fun K hK0 => ?d12) (AllReadyH.nil)
  have hK := hK0.out
  clear hK0
  rw [if_pos (by kernel_rfl)]
  refine wp_go_skip (store0 ((HD4.out.1.all 2 _ rfl).lies rfl) ((HD4.out.1.all 2 _ rfl).frz rfl) rb1 rA1 rn1 rc1 (.tmp 5) (.tmp 26) (by kernel_rfl) (by kernel_rfl) (by kernel_rfl)) ?_
  have hu5 := FVars.over2 HD4.out.1 2 (s := ⟨true, (w.heap.size + 1 + 1 + 1), false, none, 0, 0, false, none, 0, 0, 0, 0, 0⟩) (t := ⟨false, 0, rb1, rA1, rn1, rc1, false, none, 0, 0, r, 0, 0⟩) rfl rfl lyK lyK ((HD4.out.1.all 0 _ rfl).at_)
  have hv5 : FVars w.heap.size (put2 (Wn4) (w.heap.size + 1 + 1 + 1) (.bool rb1) (.slice rA1 rn1 rc1)) [⟨true, rrr1, rb1, rA1, rn1, rc1, false, none, 0, 0, r, 0, 0⟩, ⟨true, rrq1, qb1, qA1, qn1, qc1, false, none, 0, 0, q, 0, 0⟩, ⟨true, (w.heap.size + 1 + 1 + 1), rb1, rA1, rn1, rc1, false, none, 0, 0, r, 0, 0⟩, ⟨true, (w.heap.size + 1 + 1), qb1, qA1, qn1, qc1, false, none, 0, 0, q, 0, 0⟩, ⟨true, (w.heap.size + 1), b2, A2, n2, c2, false, none, 0, 0, d, 0, 0⟩, ⟨true, w.heap.size, b1, A1, n1, c1, false, none, 0, 0, n, 0, 0⟩] := hu5
  clear hu5
  have hl5 : Below w.heap.size w (put2 (Wn4) (w.heap.size + 1 + 1 + 1) (.bool rb1) (.slice rA1 rn1 rc1)) := (HD4.out.2.setCell (p := ⟨(w.heap.size + 1 + 1 + 1), 0, none⟩) (HD4.out.1.up 2 _ rfl rfl) _).setCell (p := ⟨(w.heap.size + 1 + 1 + 1), 1, none⟩) (HD4.out.1.up 2 _ rfl rfl) _
  generalize (put2 (Wn4) (w.heap.size + 1 + 1 + 1) (.bool rb1) (.slice rA1 rn1 rc1)) = Wn5 at hv5 hl5 ⊢
  have HD5 := Lib.hid (And.intro hv5 hl5)
  clear hv5 hl5
  refine hK _ _ (⟨(HD5.out.1.all 1 _ rfl).lies rfl, (HD5.out.1.all 0 _ rfl).lies rfl⟩) (fun hH5 => ?_)
  clear hK K hH4
  change wpAnyH _ _ _ _ _ _ _ (Act.put _ none _) _
  simp only [Act.put]
  refine wpAnyH_done (by kernel_rfl) ?_ _
  go_wp2_with fail
  obtain ⟨e00, e01⟩ : Two Wn5 (w.heap.size + 1 + 1) (.bool qb1) (.slice qA1 qn1 qc1) := (HD5.out.1.all 3 _ rfl).lies rfl
  obtain ⟨e10, e11⟩ : Two Wn5 (w.heap.size + 1 + 1 + 1) (.bool rb1) (.slice rA1 rn1 rc1) := (HD5.out.1.all 2 _ rfl).lies rfl
  refine bodyPost_ret (v := (.tuple #[.agg #[.bool qb1, .slice qA1 qn1 qc1], .agg #[.bool rb1, .slice rA1 rn1 rc1]])) (by simp [results, Tryz.results133, go_sem, e00, e01, e10, e11]) rfl ?_
  exact ⟨_, _, rfl, (HD5.out.1.all 3 _ rfl).at_, (HD5.out.1.all 2 _ rfl).at_, HD5.out.2⟩
theorem floor_any (v1 v2 : Value) (n d : Int) (m : Nat) (w : World) (h1 : IntAt w v1 n) (h2 : IntAt w v2 d) (hm0 : 0 < m) (hm : m ≤ 300000) (hn : n.natAbs < B32 ^ m) (hd : d.natAbs < B32 ^ m) (h0 : 0 < d) :
    Calls Tryz.prog 133 #[v1, v2] w fun e w' => IsTwoI w w' (n / d) (n % d) e := by
  by_cases h : n.tmod d < 0
  · rw [(floor_down h0 h).1, (floor_down h0 h).2]
    exact floor_down_is v1 v2 n d _ _ _ m w h1 h2 hm0 hm hn hd (by omega) rfl rfl rfl (Int.sign_neg_iff.2 h) _ _ rfl rfl
  · rw [(floor_same h0 (by omega)).1, (floor_same h0 (by omega)).2]
    exact floor_up v1 v2 n d _ _ _ m w h1 h2 hm0 hm hn hd (by omega) rfl rfl rfl (Int.sign_nonneg_iff.2 (by omega))
end Go.Proofs.YtpgbnegppehckaaGreat.FK
