/- What awake of the laws of layer 2 does: it answers true. -/
import Derived.Test.YtllkajlmfbikhaaDoorText255
import Derived.RegionTactic
namespace Go.Proofs.YtllkajlmfbikhaaDoor
open Go.RowKit

/-- The limbs of a known integer are known. -/
theorem IntAt.pin {w : World} {v : Value} {z : Int} (h : IntAt w v z) (xs : List Nat) (ox : Lm.Ok B32 xs) (tx : Lm.Top xs) (hv : Lm.val B32 xs = z.natAbs) :
    ∃ A c, v = .agg #[.bool (decide (z < 0)), .slice A xs.length c] ∧ Limbs w A c xs z.natAbs := by
  obtain ⟨b, A, c, zs, rfl, hs, hl⟩ := h
  have hz : zs = xs := Lm.uniq (by decide) hl.2.2.1 ox hl.2.2.2.1 tx (hl.2.2.2.2.trans hv.symm)
  subst hz
  unfold SignOf at hs
  subst hs
  exact ⟨A, c, rfl, hl⟩

theorem IsInt.pin {w w' : World} {z : Int} {e : Ending} (h : IsInt w w' z e) (xs : List Nat) (ox : Lm.Ok B32 xs) (tx : Lm.Top xs) (hv : Lm.val B32 xs = z.natAbs) :
    ∃ A c, e = .returned (.agg #[.bool (decide (z < 0)), .slice A xs.length c]) ∧ Limbs w' A c xs z.natAbs ∧ Below w.heap.size w w' := by
  obtain ⟨v, rfl, hi, hb⟩ := h
  obtain ⟨A, c, rfl, hl⟩ := hi.pin xs ox tx hv
  exact ⟨A, c, rfl, hl, hb⟩

theorem ok1 {d : Nat} (h : d < B32) : Lm.Ok B32 [d] := Lm.Ok.cons h (Lm.Ok.nil _)
theorem top1 {d : Nat} (h : d ≠ 0) : Lm.Top [d] := Lm.top_of_last (by simpa using h)

/-- One limb, with its sign. -/
def One (w w' : World) (s : Bool) (d : Nat) (e : Ending) : Prop := ∃ A c, e = .returned (.agg #[.bool s, .slice A 1 c]) ∧ Limbs w' A c [d] d ∧ Below w.heap.size w w'

theorem new_m7 (w : World) : Calls Tryd.prog 17 #[.int .i64 (-7)] w fun e w' => One w w' true 7 e := by
  refine (New_neg 7 w (by decide) (by decide)).mono fun e w' h => ?_
  exact IsInt.pin h [7] (ok1 (by decide)) (top1 (by decide)) rfl
theorem new_m4 (w : World) : Calls Tryd.prog 17 #[.int .i64 (-4)] w fun e w' => One w w' true 4 e := by
  refine (New_neg 4 w (by decide) (by decide)).mono fun e w' h => ?_
  exact IsInt.pin h [4] (ok1 (by decide)) (top1 (by decide)) rfl
theorem new_2 (w : World) : Calls Tryd.prog 17 #[.int .i64 2] w fun e w' => One w w' false 2 e := by
  refine (New_pos 2 w (by decide)).mono fun e w' h => ?_
  exact IsInt.pin h [2] (ok1 (by decide)) (top1 (by decide)) rfl
theorem new_7 (w : World) : Calls Tryd.prog 17 #[.int .i64 7] w fun e w' => One w w' false 7 e := by
  refine (New_pos 7 w (by decide)).mono fun e w' h => ?_
  exact IsInt.pin h [7] (ok1 (by decide)) (top1 (by decide)) rfl
theorem new_255 (w : World) : Calls Tryd.prog 17 #[.int .i64 255] w fun e w' => One w w' false 255 e := by
  refine (New_pos 255 w (by decide)).mono fun e w' h => ?_
  exact IsInt.pin h [255] (ok1 (by decide)) (top1 (by decide)) rfl
theorem rnew_m3 (w : World) : Calls Tryd.prog 21 #[.int .i64 (-3)] w fun e w' => IsRef w w' (-3) e := RNew_neg 3 w (by decide) (by decide)
theorem rnew_m1 (w : World) : Calls Tryd.prog 21 #[.int .i64 (-1)] w fun e w' => IsRef w w' (-1) e := RNew_neg 1 w (by decide) (by decide)
theorem rnew_4 (w : World) : Calls Tryd.prog 21 #[.int .i64 4] w fun e w' => IsRef w w' 4 e := RNew_pos 4 w (by decide)

theorem divide_awake (A1 : Option Addr) (c1 : Nat) (A2 : Option Addr) (c2 : Nat) (w : World) (h1 : Limbs w A1 c1 [7] 7) (h2 : Limbs w A2 c2 [2] 2) :
    Calls Tryd.prog 18 #[.agg #[.bool true, .slice A1 1 c1], .agg #[.bool false, .slice A2 1 c2]] w fun e w' => IsQuoRem w w' (-7) 2 e :=
  divide_ft A1 c1 [7] A2 c2 2 (-7) 2 w (by unfold SignOf; decide) (by unfold SignOf; decide) h1 h2 (by decide)

theorem is_awake (b : Bool) (A : Option Addr) (c : Nat) (zs : List Nat) (v : Value) (z : Int) (w : World) (hs : SignOf b z) (h1 : Limbs w A c zs z.natAbs) (h2 : RefAt w v z) (hz : z.natAbs < 5) :
    Calls Tryd.prog 20 #[.agg #[.bool b, .slice A zs.length c], v] w fun e w' => IsBool w w' true e := by
  refine (Is_any _ v z z 1 w ⟨b, A, c, zs, rfl, hs, h1⟩ h2 (by decide) (Nat.lt_trans hz (by decide)) (Nat.lt_trans hz (by decide))).mono fun e w' h => ?_
  rw [decide_eq_true (rfl : z = z)] at h
  exact h

set_option maxRecDepth 100000 in
set_option maxHeartbeats 2000000 in
theorem awake_any (w : World) : Calls Tryd.prog 5 #[] w fun e w' => IsBool w w' true e := by
  have tok1 : True := trivial
  have tok2 : True := trivial
  have tok3 : True := trivial
  have tok4 : True := trivial
  have tok5 : True := trivial
  have tok6 : True := trivial
  go_enter Tryd.func5, Tryd.ntmps5
  go_wp2_with fail
  refine (new_m7 w).mono ?_
  rintro e w1 ⟨A1, c1, rfl, hl1, hb1⟩
  go_wp2_with fail
  refine (new_2 w1).mono ?_
  rintro e w2 ⟨A2, c2, rfl, hl2, hb2⟩
  go_wp2_with fail
  refine (divide_awake A1 c1 A2 c2 w2 (hl1.below hb2) hl2).mono ?_
  rintro e w3 ⟨v1, v2, rfl, ⟨bq, Aq, cq, zq, rfl, hsq, hlq⟩, ⟨br, Ar, cr, zr, rfl, hsr, hlr⟩, hb3⟩
  rw [show (-7 : Int).tdiv 2 = -3 from by decide] at hsq hlq
  rw [show (-7 : Int).tmod 2 = -1 from by decide] at hsr hlr
  have kq0 := (Two.new w3 (.bool bq) (.slice Aq zq.length cq) 28).alloc (by simp) (.cells #[.bool br, .slice Ar zr.length cr] 28)
  have kr0 := Two.new (w3.alloc (.cells #[.bool bq, .slice Aq zq.length cq] 28)) (.bool br) (.slice Ar zr.length cr) 28
  rw [size_alloc] at kr0
  have hb03 := below_then (below_then hb1 hb2) hb3
  have hbb := boxed2_below w3 (.cells #[.bool bq, .slice Aq zq.length cq] 28) (.cells #[.bool br, .slice Ar zr.length cr] 28)
  have hlq0 := hlq.below hbb
  have hlr0 := hlr.below hbb
  have hsz : w3.heap.size + 2 ≤ ((w3.alloc (.cells #[.bool bq, .slice Aq zq.length cq] 28)).alloc (.cells #[.bool br, .slice Ar zr.length cr] 28)).heap.size := by rw [size_alloc, size_alloc]; omega
  have HW := Lib.hid (And.intro kq0 (And.intro kr0 (And.intro hb03 (And.intro hbb (And.intro hlq0 (And.intro hlr0 hsz))))))
  clear kq0 kr0 hb03 hbb hlq0 hlr0 hsz hlq hlr hb1 hb2 hb3 hl1 hl2
  go_wp2_with fail
  refine (new_255 _).mono ?_
  rintro e w4 ⟨A4, c4, rfl, hl4, hb4⟩
  have hw4 : w3.heap.size + 2 ≤ w4.heap.size := Nat.le_trans HW.out.2.2.2.2.2.2 hb4.size
  have kq4 := HW.out.1.step hb4 rfl (Nat.lt_of_lt_of_le (by omega) HW.out.2.2.2.2.2.2)
  have kr4 := HW.out.2.1.step hb4 rfl (Nat.lt_of_lt_of_le (by omega) HW.out.2.2.2.2.2.2)
  have hlq4 := HW.out.2.2.2.2.1.below hb4
  have hlr4 := HW.out.2.2.2.2.2.1.below hb4
  have hb04 := below_then (below_then HW.out.2.2.1 HW.out.2.2.2.1) hb4
  go_wp2_with fail
  refine (text255 A4 c4 w4 hl4).mono ?_
  rintro e w5 ⟨rfl, hb5⟩
  go_wp2_with fail
  refine (new_m4 w5).mono ?_
  rintro e w6 ⟨A6, c6, rfl, hl6, hb6⟩
  go_wp2_with fail
  refine (new_7 w6).mono ?_
  rintro e w7 ⟨A7, c7, rfl, hl7, hb7⟩
  go_wp2_with fail
  refine (boole_awake A6 c6 A7 c7 w7 (hl6.below hb7) hl7).mono ?_
  rintro e w8 ⟨v8, rfl, ⟨bb, Ab, cb, zb, rfl, hsb, hlb⟩, hb8⟩
  have hb48 := below_then (below_then (below_then hb5 hb6) hb7) hb8
  have kq8 := kq4.step hb48 rfl (by omega)
  have kr8 := kr4.step hb48 rfl (by omega)
  have hlq8 := hlq4.below hb48
  have hlr8 := hlr4.below hb48
  have hb08 := below_then hb04 hb48
  have hw8 := Nat.le_trans hw4 hb48.size
  have hba : Below w8.heap.size w8 (w8.alloc (.cells #[.bool bb, .slice Ab zb.length cb] 28)) := (Below.refl _ _).alloc (Nat.le_refl _) _
  have kq9 := kq8.step hba rfl (by omega)
  have kr9 := kr8.step hba rfl (by omega)
  have kb9 := Two.new w8 (.bool bb) (.slice Ab zb.length cb) 28
  have hlq9 := hlq8.below hba
  have hlr9 := hlr8.below hba
  have hlb9 := hlb.below hba
  have hb09 := below_then hb08 hba
  have hw9 := Nat.le_trans hw8 hba.size
  obtain ⟨q0, q1⟩ := id kq9
  obtain ⟨r0, r1⟩ := id kr9
  obtain ⟨b0, b1⟩ := id kb9
  clear kq4 kr4 kq8 kr8 hlq4 hlr4 hlq8 hlr8 hlb hb04 hb08 hb4 hb5 hb6 hb7 hb8 hb48 hl4 hl6 hl7 HW hba
  have hlt8 : w8.heap.size < (w8.alloc (.cells #[.bool bb, .slice Ab zb.length cb] 28)).heap.size := by rw [size_alloc]; omega
  go_wp2_with fail
  go_region_held3 (fun w' => w'.cell? ⟨w3.heap.size, 0, none⟩ = some (.bool bq) ∧ w'.cell? ⟨w3.heap.size, 1, none⟩ = some (.slice Aq zq.length cq) ∧ w'.cell? ⟨w3.heap.size + 1, 0, none⟩ = some (.bool br) ∧ w'.cell? ⟨w3.heap.size + 1, 1, none⟩ = some (.slice Ar zr.length cr) ∧ w'.cell? ⟨w8.heap.size, 0, none⟩ = some (.bool bb) ∧ w'.cell? ⟨w8.heap.size, 1, none⟩ = some (.slice Ab zb.length cb))
    (((try dsimp only); (repeat' apply And.intro) <;> (first | (with_reducible assumption) | go_keep)))
    ((first
      | (go_at_call 21; have _t := tok1; refine (rnew_m3 _).mono ?_; rintro e wa ⟨va, rfl, hra, hba⟩; clear tok1; have kqa := kq9.step hba rfl (by omega); have kra := kr9.step hba rfl (by omega); have kba := kb9.step hba rfl (by omega); have hlqa := hlq9.step hba rfl; have hlra := hlr9.step hba rfl; have hlba := hlb9.step hba rfl; have hb0a := begun_then hb09 hba rfl rfl rfl rfl; have hwa := Nat.le_trans hw9 hba.size; have hva := Nat.lt_of_lt_of_le hlt8 hba.size; obtain ⟨qa0, qa1⟩ := id kqa; obtain ⟨ra0, ra1⟩ := id kra; obtain ⟨ba0, ba1⟩ := id kba)
      | (go_at_call 20; have _t := tok2; refine (is_awake bq Aq cq zq va (-3) _ hsq (by exact hlqa) (by exact hra) (by decide)).mono ?_; rintro e wb ⟨rfl, hbb⟩; clear tok2; have kqb := kqa.step hbb rfl (by omega); have krb := kra.step hbb rfl (by omega); have kbb := kba.step hbb rfl (by omega); have hlrb := hlra.step hbb rfl; have hlbb := hlba.step hbb rfl; have hb0b := begun_then hb0a hbb rfl rfl rfl rfl; have hwb := Nat.le_trans hwa hbb.size; have hvb := Nat.lt_of_lt_of_le hva hbb.size; obtain ⟨qb0, qb1⟩ := id kqb; obtain ⟨rb0, rb1⟩ := id krb; obtain ⟨bb0, bb1⟩ := id kbb)
      | (go_at_call 21; have _t := tok3; refine (rnew_m1 _).mono ?_; rintro e wc ⟨vc, rfl, hrc, hbc⟩; clear tok3; have kqc := kqb.step hbc rfl (by omega); have krc := krb.step hbc rfl (by omega); have kbc := kbb.step hbc rfl (by omega); have hlrc := hlrb.step hbc rfl; have hlbc := hlbb.step hbc rfl; have hb0c := begun_then hb0b hbc rfl rfl rfl rfl; have hwc := Nat.le_trans hwb hbc.size; have hvc := Nat.lt_of_lt_of_le hvb hbc.size; obtain ⟨qc0, qc1⟩ := id kqc; obtain ⟨rc0, rc1⟩ := id krc; obtain ⟨bc0, bc1⟩ := id kbc)
      | (go_at_call 20; have _t := tok4; refine (is_awake br Ar cr zr vc (-1) _ hsr (by exact hlrc) (by exact hrc) (by decide)).mono ?_; rintro e wd ⟨rfl, hbd⟩; clear tok4; have kqd := kqc.step hbd rfl (by omega); have krd := krc.step hbd rfl (by omega); have kbd := kbc.step hbd rfl (by omega); have hlbd := hlbc.step hbd rfl; have hb0d := begun_then hb0c hbd rfl rfl rfl rfl; have hwd := Nat.le_trans hwc hbd.size; have hvd := Nat.lt_of_lt_of_le hvc hbd.size; obtain ⟨qd0, qd1⟩ := id kqd; obtain ⟨rd0, rd1⟩ := id krd; obtain ⟨bd0, bd1⟩ := id kbd)
      | (go_at_call 21; have _t := tok5; refine (rnew_4 _).mono ?_; rintro e we ⟨ve, rfl, hre, hbe⟩; clear tok5; have kqe := kqd.step hbe rfl (by omega); have kre := krd.step hbe rfl (by omega); have kbe := kbd.step hbe rfl (by omega); have hlbe := hlbd.step hbe rfl; have hb0e := begun_then hb0d hbe rfl rfl rfl rfl; have hwe := Nat.le_trans hwd hbe.size; have hve := Nat.lt_of_lt_of_le hvd hbe.size; obtain ⟨qe0, qe1⟩ := id kqe; obtain ⟨re0, re1⟩ := id kre; obtain ⟨be0, be1⟩ := id kbe)
      | (go_at_call 20; have _t := tok6; refine (is_awake bb Ab cb zb ve 4 _ hsb (by exact hlbe) (by exact hre) (by decide)).mono ?_; rintro e wf ⟨rfl, hbf⟩; clear tok6; have kqf := kqe.step hbf rfl (by omega); have krf := kre.step hbf rfl (by omega); have kbf := kbe.step hbf rfl (by omega); have hb0f := begun_then hb0e hbf rfl rfl rfl rfl; obtain ⟨qf0, qf1⟩ := id kqf; obtain ⟨rf0, rf1⟩ := id krf; obtain ⟨bf0, bf1⟩ := id kbf)))
  go_wp2
  go_ret
  exact ⟨rfl, hb0f⟩
end Go.Proofs.YtllkajlmfbikhaaDoor
