/- What divided of the reference does: the quotient and the remainder of digits. -/
import Derived.Test.YtagocllbfbbneaaRefB
import Derived.Test.YtagocllbfbbneaaDivLimb
import Derived.Deep.Upon
import Derived.Deep.DeepCutAuto
import Derived.Outline
import Derived.Laws.OwnMore
namespace Go.Proofs.Ytagocllbfbbneaa
open Go.RowKit
set_option linter.unusedSimpArgs false

/-- Nothing is appended. -/
theorem wpList_append_zero {P : Program} {w : World} {ops : Array Oper} {rest : List Oper} {o : Oper} {a : Act} {Q : Exit → Act → World → Prop} (hgd : o.guard = none) (s x : Operand) (t : TypeId)
    (ho : o.op = .call { callee := .builtin .append, args := #[s, x], argTypes := #[t, t] }) (e : TypeId) (i : TypeInfo) (ht : P.underlying t = some (.slice e)) (hi : P.info? e = some i)
    (A : Option Addr) (n cap : Nat) (hs : a.eval s = .slice A n cap) (hle : n ≤ cap) (B : Option Addr) (c : Nat) (hx : a.eval x = .slice B 0 c)
    (h : wpList P ops Q rest (a.put o.dst (.slice A n cap)) w) : wpList P ops Q (o :: rest) a w := by
  refine wpList_plain hgd fun K hK => ?_
  have hsrc : Src P i.size t (.slice B 0 c) 0 [] w := by
    cases B with
    | none => exact Src.ofNil w ht c
    | some ad => exact Src.ofSlice w ht ad 0 c [] (by simp) (fun j u hu => by simp at hu) (fun u hu => by cases hu)
  have hrun := run_append_nothing (P := P) w t t o.type e i ht hi A n cap hle (.slice B 0 c) hsrc
  unfold Oper.wp
  simp [execOp, ho, resolve, invoke, builtin, hs, hx, hrun, Result.andThen]
  exact hK _ _ h

/-- The address, if there is one, lies in a block from b on. -/
def Fresh (b : Nat) (A : Option Addr) : Prop := ∀ ad, A = some ad → b ≤ ad.block
theorem fresh_own {w : World} {base : Nat} {e : TypeId} {A : Option Addr} {n c : Nat} {xs : List Value} (h : w.ownsRow base e 1 (.slice A n c) n xs) : Fresh base A := fun ad ha => by
  subst ha
  exact (h.lt ad.block rfl).1
theorem Fresh.down {b b' : Nat} {A : Option Addr} (h : Fresh b A) (hb : b' ≤ b) : Fresh b' A := fun ad ha => Nat.le_trans hb (h ad ha)
def IsDigsN (w w' : World) (n l : Nat) (e : Ending) : Prop :=
  ∃ A c ds, e = .returned (.slice A (List.length ds) c) ∧ Digs w' A c ds n ∧ ds.length ≤ l ∧ Fresh w.heap.size A ∧ Below w.heap.size w w'

set_option maxRecDepth 100000 in
set_option maxHeartbeats 4000000 in
theorem minus_new (A : Option Addr) (c : Nat) (xs : List Nat) (A' : Option Addr) (c' : Nat) (ys : List Nat) (w : World) (hx : Nums w .i64 A xs) (hy : Nums w .i64 A' ys)
    (ox : Lm.Ok BD xs) (oy : Lm.Ok BD ys) (hl : ys.length ≤ xs.length) (hL : xs.length ≤ 1000000) (hv : Lm.val BD ys ≤ Lm.val BD xs) :
    Calls Try.prog 90 #[.slice A xs.length c, .slice A' ys.length c'] w fun e w' => IsDigsN w w' (Lm.val BD xs - Lm.val BD ys) xs.length e := by
  obtain ⟨i0, hi0, hz0, hz1, hz2⟩ := info_parts Try.info3
  have HI := Lib.hid (And.intro hi0 (And.intro hz0 (And.intro hz1 hz2)))
  have HX := Lib.hid (And.intro hx (And.intro hy (And.intro ox (And.intro oy hv))))
  clear hi0 hz0 hz1 hz2 hx hy ox oy hv
  go_enter Try.func90, Try.ntmps90
  go_wp2
  go_loopw [5, 6, 7] (fun ov cv iv wr => ∃ (i q : Nat) (ds : List Nat), wr.ownsRow w.heap.size 3 1 ov ds.length (cellsOf .i64 ds) ∧ cv = .int .i64 q ∧ iv = .int .i64 i ∧ Minus xs ys ds i q ∧ i ≤ xs.length ∧ Below w.heap.size w wr) (fun _ _ iv _ => xs.length - (intOf iv).toNat)
  case atStart => exact ⟨0, 0, [], World.ownsRow_nil _ _ _ _, rfl, rfl, ⟨rfl, .nil _, by omega, by simp [Lm.val]⟩, Nat.zero_le _, Below.refl _ _⟩
  case round =>
    obtain ⟨i, q, ds, hown, rfl, rfl, hminus, hi, hbel⟩ := hrel
    obtain ⟨A5, c5, rfl, hle⟩ := own_form hown
    have hsz : w.heap.size ≤ wr.heap.size := hbel.size
    have hdl : ds.length ≤ 1000000 := by rw [hminus.len]; omega
    have q0 : (0 : Int) ≤ (q : Int) := Int.natCast_nonneg q
    have q1 : (q : Int) ≤ 1 := by have := hminus.borrow; omega
    have HPL := Lib.hid (And.intro hminus hbel)
    clear hminus hbel
    by_cases hxi : i < xs.length
    · obtain ⟨ad, rfl, _, hcx⟩ := (HX.out.1.below HPL.out.2).at_ hxi
      have hdx := hcx i hxi
      have hlx := dig_lt HX.out.2.2.1 i
      clear hcx
      obtain ⟨x, hx⟩ : ∃ x, xs.getD i 0 = x := ⟨_, rfl⟩
      rw [hx] at hdx hlx
      have x0 : (0 : Int) ≤ (x : Int) := Int.natCast_nonneg x
      have x1 : (x : Int) ≤ 65535 := by unfold BD at hlx; omega
      have HXD := Lib.hid (And.intro hx hlx)
      clear hx hlx
      by_cases hyi : i < ys.length
      · obtain ⟨ad', rfl, _, hcy⟩ := (HX.out.2.1.below HPL.out.2).at_ hyi
        have hdy := hcy i hyi
        have hly := dig_lt HX.out.2.2.2.1 i
        clear hcy
        obtain ⟨y, hy⟩ : ∃ y, ys.getD i 0 = y := ⟨_, rfl⟩
        rw [hy] at hdy hly
        have y0 : (0 : Int) ≤ (y : Int) := Int.natCast_nonneg y
        have y1 : (y : Int) ≤ 65535 := by unfold BD at hly; omega
        have HYD := Lib.hid (And.intro hy hly)
        clear hy hly
        by_cases hneg : ((x : Int) - (q : Int) - (y : Int)) < 0
        · have HN := Lib.hid (show x < q + y by omega)
          go_wp2_with (at_builtin; refine wpList_append_own _ rfl _ _ 29 rfl w.heap.size 3 i0 (.int .i64 0) 1 8 Try.underlying29 HI.out.1 HI.out.2.1 HI.out.2.2.1 HI.out.2.2.2 rfl (by decide) _ ds.length (cellsOf .i64 ds) rfl (hown.alloc _) ⟨wr.heap.size, 0, none⟩ 1 1 [.int .i64 (((x : Int) - (q : Int) - (y : Int)) + 65536)] rfl rfl (cell_one_new _ _ _) (by simp [Value.oneCell']) (by unfold maxLen; omega) (by omega) (by simp; omega) ?_; intro v1 w1 hown1 hg1 _)
          go_roundw
          case rel =>
            have hst := HPL.out.1.step HXD.out.1 HYD.out.1 (d := (x + BD - q - y)) (r := 1) (by (try unfold BD); have := HN.out; have := HXD.out.2; have := HYD.out.2; unfold BD at *; omega) (by (try unfold BD); have := HN.out; have := HXD.out.2; have := HYD.out.2; unfold BD at *; omega) (by omega)
            refine ⟨i + 1, 1, ds ++ [(x + BD - q - y)], ?_, rfl, by go_num, hst, by omega, (HPL.out.2.alloc hsz _).grown hg1 (by simp; omega) (fun k hk => (hown.lt k hk).1)⟩
            rw [List.length_append, List.length_singleton, ← cells_snoc .i64 ds (x + BD - q - y) (((x : Int) - (q : Int) - (y : Int)) + 65536) (by (try unfold BD); have := HN.out; have := HXD.out.2; have := HYD.out.2; unfold BD at *; omega)]
            exact hown1
          case measure => simp [intOf]; omega
        · have hneg' : (0 : Int) ≤ ((x : Int) - (q : Int) - (y : Int)) := by omega
          have HN := Lib.hid (show q + y ≤ x by omega)
          go_wp2_with (at_builtin; refine wpList_append_own _ rfl _ _ 29 rfl w.heap.size 3 i0 (.int .i64 0) 1 8 Try.underlying29 HI.out.1 HI.out.2.1 HI.out.2.2.1 HI.out.2.2.2 rfl (by decide) _ ds.length (cellsOf .i64 ds) rfl (hown.alloc _) ⟨wr.heap.size, 0, none⟩ 1 1 [.int .i64 ((x : Int) - (q : Int) - (y : Int))] rfl rfl (cell_one_new _ _ _) (by simp [Value.oneCell']) (by unfold maxLen; omega) (by omega) (by simp; omega) ?_; intro v1 w1 hown1 hg1 _)
          go_roundw
          case rel =>
            have hst := HPL.out.1.step HXD.out.1 HYD.out.1 (d := (x - q - y)) (r := 0) (by (try unfold BD); have := HN.out; have := HXD.out.2; have := HYD.out.2; unfold BD at *; omega) (by (try unfold BD); have := HN.out; have := HXD.out.2; have := HYD.out.2; unfold BD at *; omega) (by omega)
            refine ⟨i + 1, 0, ds ++ [(x - q - y)], ?_, rfl, by go_num, hst, by omega, (HPL.out.2.alloc hsz _).grown hg1 (by simp; omega) (fun k hk => (hown.lt k hk).1)⟩
            rw [List.length_append, List.length_singleton, ← cells_snoc .i64 ds (x - q - y) ((x : Int) - (q : Int) - (y : Int)) (by (try unfold BD); have := HN.out; have := HXD.out.2; have := HYD.out.2; unfold BD at *; omega)]
            exact hown1
          case measure => simp [intOf]; omega
      · have hfy := far_zero hyi
        have HYD := Lib.hid (And.intro hfy BD_pos)
        clear hfy
        by_cases hneg : ((x : Int) - (q : Int)) < 0
        · have HN := Lib.hid (show x < q + 0 by omega)
          go_wp2_with (at_builtin; refine wpList_append_own _ rfl _ _ 29 rfl w.heap.size 3 i0 (.int .i64 0) 1 8 Try.underlying29 HI.out.1 HI.out.2.1 HI.out.2.2.1 HI.out.2.2.2 rfl (by decide) _ ds.length (cellsOf .i64 ds) rfl (hown.alloc _) ⟨wr.heap.size, 0, none⟩ 1 1 [.int .i64 (((x : Int) - (q : Int)) + 65536)] rfl rfl (cell_one_new _ _ _) (by simp [Value.oneCell']) (by unfold maxLen; omega) (by omega) (by simp; omega) ?_; intro v1 w1 hown1 hg1 _)
          go_roundw
          case rel =>
            have hst := HPL.out.1.step HXD.out.1 HYD.out.1 (d := (x + BD - q - 0)) (r := 1) (by (try unfold BD); have := HN.out; have := HXD.out.2; have := HYD.out.2; unfold BD at *; omega) (by (try unfold BD); have := HN.out; have := HXD.out.2; have := HYD.out.2; unfold BD at *; omega) (by omega)
            refine ⟨i + 1, 1, ds ++ [(x + BD - q - 0)], ?_, rfl, by go_num, hst, by omega, (HPL.out.2.alloc hsz _).grown hg1 (by simp; omega) (fun k hk => (hown.lt k hk).1)⟩
            rw [List.length_append, List.length_singleton, ← cells_snoc .i64 ds (x + BD - q - 0) (((x : Int) - (q : Int)) + 65536) (by (try unfold BD); have := HN.out; have := HXD.out.2; have := HYD.out.2; unfold BD at *; omega)]
            exact hown1
          case measure => simp [intOf]; omega
        · have hneg' : (0 : Int) ≤ ((x : Int) - (q : Int)) := by omega
          have HN := Lib.hid (show q + 0 ≤ x by omega)
          go_wp2_with (at_builtin; refine wpList_append_own _ rfl _ _ 29 rfl w.heap.size 3 i0 (.int .i64 0) 1 8 Try.underlying29 HI.out.1 HI.out.2.1 HI.out.2.2.1 HI.out.2.2.2 rfl (by decide) _ ds.length (cellsOf .i64 ds) rfl (hown.alloc _) ⟨wr.heap.size, 0, none⟩ 1 1 [.int .i64 ((x : Int) - (q : Int))] rfl rfl (cell_one_new _ _ _) (by simp [Value.oneCell']) (by unfold maxLen; omega) (by omega) (by simp; omega) ?_; intro v1 w1 hown1 hg1 _)
          go_roundw
          case rel =>
            have hst := HPL.out.1.step HXD.out.1 HYD.out.1 (d := (x - q - 0)) (r := 0) (by (try unfold BD); have := HN.out; have := HXD.out.2; have := HYD.out.2; unfold BD at *; omega) (by (try unfold BD); have := HN.out; have := HXD.out.2; have := HYD.out.2; unfold BD at *; omega) (by omega)
            refine ⟨i + 1, 0, ds ++ [(x - q - 0)], ?_, rfl, by go_num, hst, by omega, (HPL.out.2.alloc hsz _).grown hg1 (by simp; omega) (fun k hk => (hown.lt k hk).1)⟩
            rw [List.length_append, List.length_singleton, ← cells_snoc .i64 ds (x - q - 0) ((x : Int) - (q : Int)) (by (try unfold BD); have := HN.out; have := HXD.out.2; have := HYD.out.2; unfold BD at *; omega)]
            exact hown1
          case measure => simp [intOf]; omega
    · obtain rfl : i = xs.length := by omega
      have htr := trimmed_any A5 c5 ds wr (Nums.of_own hown rfl) (by omega) hle
      have HT := Lib.hid (And.intro htr (Nums.of_own hown rfl : Nums wr .i64 A5 ds))
      have HLE := Lib.hid hle
      have HFR := Lib.hid (fresh_own hown)
      clear htr hle
      go_wp2_with fail
      refine HT.out.1.mono ?_
      rintro e w' ⟨rfl, n, rfl, hn, hz, hp⟩
      have HZ := Lib.hid (And.intro hz hp)
      clear hz hp
      go_wp2
      go_ret
      have hd := digs_take HT.out.2 HPL.out.1.ok HLE.out hn HZ.out.1 HZ.out.2
      rw [HPL.out.1.done_ hl HX.out.2.2.2.2] at hd
      have hlen : (ds.take n).length = n := by rw [List.length_take]; omega
      refine ⟨A5, c5, ds.take n, by rw [hlen]; rfl, hd, by have := HPL.out.1.len; rw [hlen]; omega, HFR.out, HPL.out.2⟩


/-- As far as the digit i from above: zs are the digits of the quotient, r is what is left. -/
structure DivAtD (xs zs : List Nat) (B i r : Nat) : Prop where
  len : zs.length = xs.length
  ok : Lm.Ok BD zs
  num : Lm.val BD (xs.drop i) = Lm.val BD (zs.drop i) * B + r
  lt : r < B
theorem divAtD_start (xs : List Nat) (B : Nat) (h : 0 < B) : DivAtD xs (List.replicate xs.length 0) B xs.length 0 := by
  refine ⟨by simp, Lm.Ok.zeros BD_pos _, ?_, h⟩
  rw [List.drop_length, List.drop_of_length_le (by simp)]
  simp [Lm.val]
theorem divAtD_step {xs zs : List Nat} {B j r x q r' : Nat} (h : DivAtD xs zs B (j + 1) r) (hj : j < xs.length) (hx : xs.getD j 0 = x) (hq : q < BD) (hr : x + BD * r = q * B + r') (hr' : r' < B) : DivAtD xs (zs.set j q) B j r' := by
  refine ⟨by simpa using h.len, h.ok.set _ _ hq, ?_, hr'⟩
  have e1 := Lm.val_drop_pred BD xs j hj
  have e2 := Lm.val_drop_pred BD (zs.set j q) j (by rw [List.length_set, h.len]; exact hj)
  rw [hx, h.num] at e1
  rw [show (zs.set j q).getD j 0 = q by rw [List.getD_eq_getElem?_getD, List.getElem?_set]; simp [h.len, hj], show (zs.set j q).drop (j + 1) = zs.drop (j + 1) by rw [List.drop_set]; simp] at e2
  rw [e1, e2, Nat.add_mul, Nat.mul_add, ← Nat.add_assoc, Nat.mul_assoc, Nat.add_right_comm, hr]
  omega
theorem divAtD_end {xs zs : List Nat} {B r : Nat} (h : DivAtD xs zs B 0 r) : Lm.val BD zs = Lm.val BD xs / B ∧ r = Lm.val BD xs % B := by
  have hn := h.num
  rw [List.drop_zero, List.drop_zero] at hn
  have hB : 0 < B := Nat.lt_of_le_of_lt (Nat.zero_le _) h.lt
  constructor
  · rw [hn, Nat.mul_comm, Nat.mul_add_div hB, Nat.div_eq_of_lt h.lt, Nat.add_zero]
  · rw [hn, Nat.mul_comm, Nat.mul_add_mod, Nat.mod_eq_of_lt h.lt]
/-- What divided hands back. -/
def IsQR (w w' : World) (q r l : Nat) (e : Ending) : Prop := ∃ A1 c1 d1 A2 c2 d2, e = .returned (.tuple #[.slice A1 (List.length d1) c1, .slice A2 (List.length d2) c2]) ∧ Digs w' A1 c1 d1 q ∧ Digs w' A2 c2 d2 r ∧ d1.length ≤ l ∧ Below w.heap.size w w'
theorem Digs.drewN {w : World} {A : Option Addr} {c n : Nat} {ds : List Nat} (h : Digs w A c ds n) (k : Nat) : Digs (w.drewN k) A c ds n := h
theorem Digs.store {w : World} {A : Option Addr} {c n : Nat} {ds : List Nat} (h : Digs w A c ds n) {g o : Nat} {u : Value} (hf : Fresh (g + 1) A) : Digs (w.setCell ⟨g, o, none⟩ u) A c ds n :=
  ⟨h.1, h.2.1.grown (grown_store w g o u) (fun _ ad ha e => by have := hf ad ha; omega), h.2.2⟩
theorem below_drewN {B : Nat} {w w' : World} (h : Below B w w') (n : Nat) : Below B w (w'.drewN n) := ⟨h.os, h.tape, h.output, h.size, h.block⟩

set_option maxRecDepth 100000 in
set_option maxHeartbeats 8000000 in
theorem divided_any (A : Option Addr) (c : Nat) (xs : List Nat) (A' : Option Addr) (c' : Nat) (ys : List Nat) (w : World) (hx : Nums w .i64 A xs) (hy : Nums w .i64 A' ys)
    (ox : Lm.Ok BD xs) (oy : Lm.Ok BD ys) (hB : 0 < Lm.val BD ys) (lx : xs.length ≤ 100000) (ly : ys.length ≤ 100000) :
    Calls Try.prog 83 #[.slice A xs.length c, .slice A' ys.length c'] w fun e w' => IsQR w w' (Lm.val BD xs / Lm.val BD ys) (Lm.val BD xs % Lm.val BD ys) xs.length e := by
  obtain ⟨i0, hi0, hz0, hz1, hz2⟩ := info_parts Try.info3
  have HI := Lib.hid (And.intro hi0 (And.intro hz0 (And.intro hz1 hz2)))
  have HM := Lib.hid (show i0.bytes * xs.length ≤ 281474976710656 ∧ xs.length ≤ maxLen from ⟨by rw [hz2]; omega, by unfold maxLen; omega⟩)
  obtain ⟨B, hBv⟩ : ∃ B, Lm.val BD ys = B := ⟨_, rfl⟩
  rw [hBv] at hB ⊢
  have HX := Lib.hid (And.intro hx (And.intro hy (And.intro ox (And.intro oy (And.intro hBv (And.intro hB (And.intro lx ly)))))))
  clear hi0 hz0 hz1 hz2 ox oy hB hBv ly
  go_enter Try.func83, Try.ntmps83
  go_wp2_with (at_make; go_loud (refine wpList_make_full _ rfl _ _ 29 rfl w.heap.size 3 i0 (.int .i64 0) 1 Try.underlying29 HI.out.1 HI.out.2.1 HI.out.2.2.1 _ _ _ _ xs.length rfl rfl (by omega) (by omega) HM.out.1 HM.out.2 (Nat.le_refl _) ?_); intro w1 hown1 hg1; rw [made_zeroD] at hown1; have HB := Lib.hid (own_block hown1); have hb1 : Below w.heap.size w w1 := (Below.refl _ _).grown hg1 (Nat.le_refl _) (fun k hk => by cases hk); clear hown1)
  have hz0 : Seg w1 w.heap.size 0 .i64 3 _ (List.replicate xs.length 0) := seg_of_block HB.out
  have HW := Lib.hid (And.intro hz0 (And.intro hb1 (show w.heap.size + 1 ≤ w1.heap.size from hz0.lt)))
  have n0 : (0 : Int) ≤ (xs.length : Int) := Int.natCast_nonneg _
  have n1 : (xs.length : Int) ≤ 100000 := by omega
  clear hz0 hb1 HB hx hy HM lx
  go_loopw [7, 8] (fun rv iv wr => ∃ (i R : Nat) (Ar : Option Addr) (cr : Nat) (ds zs : List Nat) (cur : Array Value), rv = .slice Ar ds.length cr ∧ iv = .int .i64 ((i : Int) - 1) ∧ i ≤ xs.length ∧ DivAtD xs zs B i R ∧ Digs wr Ar cr ds R ∧ Fresh (w.heap.size + 1) Ar ∧ Seg wr w.heap.size 0 .i64 3 cur zs ∧ Below w.heap.size w wr) (fun _ iv _ => (intOf iv + 1).toNat)
  case atStart => exact ⟨xs.length, 0, none, 0, [], _, _, rfl, rfl, Nat.le_refl _, divAtD_start xs B HX.out.2.2.2.2.2.1, ⟨Nat.le_refl _, Nums.nil _ _ _, Lm.Ok.nil _, Lm.Top.nil, rfl⟩, fun ad h => (by cases h), HW.out.1, HW.out.2.1⟩
  case round =>
    clear HW
    obtain ⟨i, R, Ar, cr, ds, zs, cur, rfl, rfl, hi, hdv, hdg, hfr, hseg, hbel⟩ := hrel
    cases i with
    | zero =>
      rw [show ((0 : Nat) : Int) - 1 = -1 from rfl]
      have htr := trimmed_any (some ⟨w.heap.size, 0, none⟩) xs.length zs wr hseg.nums (by rw [hdv.len]; have := HX.out.2.2.2.2.2.2.1; omega) (by rw [hdv.len]; exact Nat.le_refl _)
      rw [hdv.len] at htr
      have HT := Lib.hid (And.intro htr (And.intro hdv (And.intro hdg (And.intro hseg hbel))))
      clear htr hdv hdg hseg hbel hfr
      go_wp2_with fail
      refine HT.out.1.mono ?_
      rintro e w4 ⟨rfl, k, rfl, hk, hz, hp⟩
      have HP := Lib.hid (And.intro hk (And.intro hz hp))
      clear hk hz hp
      go_wp2
      go_ret2
      obtain ⟨e1, e2⟩ := divAtD_end HT.out.2.1
      have hlen : (zs.take k).length = k := by rw [List.length_take]; have := HP.out.1; omega
      have hlz : zs.length = xs.length := HT.out.2.1.len
      have hdq : Digs wr (some ⟨w.heap.size, 0, none⟩) xs.length (zs.take k) (Lm.val BD xs / B) := ⟨by rw [hlen]; have := HP.out.1; omega, HT.out.2.2.2.1.nums.take k, HT.out.2.1.ok.take k, top_take HP.out.1 HP.out.2.2, by rw [Lm.val_cut k HP.out.1 HP.out.2.1]; exact e1⟩
      have hdr := HT.out.2.2.1
      rw [e2] at hdr
      exact ⟨_, _, zs.take k, _, _, ds, by rw [hlen]; rfl, hdq, hdr, by rw [hlen]; have := HP.out.1; omega, HT.out.2.2.2.2⟩
    | succ j =>
      rw [show (((j + 1 : Nat)) : Int) - 1 = (j : Int) by omega]
      have hj : j < xs.length := by omega
      obtain ⟨ad, rfl, _, hcell⟩ := (HX.out.1.below hbel).at_ hj
      have hca := hcell j hj
      have hal := digD_lt HX.out.2.2.1 j
      obtain ⟨x, hxv⟩ : ∃ x, xs.getD j 0 = x := ⟨_, rfl⟩
      rw [hxv] at hca hal
      have hjI : (j : Int) < (xs.length : Int) := by omega
      have j0 : (0 : Int) ≤ (j : Int) := Int.natCast_nonneg j
      have hsz : w.heap.size + 1 ≤ wr.heap.size := hseg.lt
      have x0 : (0 : Int) ≤ (x : Int) := Int.natCast_nonneg x
      have HS := Lib.hid (And.intro hdv (And.intro hdg (And.intro hfr (And.intro hseg (And.intro hbel (And.intro hxv (And.intro hal hsz)))))))
      have hdl : ds.length ≤ 200000 := by
        refine Nat.le_trans (hdg.len (m := ys.length) ?_) (by have := HX.out.2.2.2.2.2.2.2; omega)
        have h1 := hdv.lt
        have h2 := Lm.val_lt HX.out.2.2.2.1
        rw [HX.out.2.2.2.2.1] at h2
        omega
      have HDL := Lib.hid hdl
      clear hdv hdg hfr hseg hbel hxv hcell hi hdl hsz
      go_upto_region 6 with fail
      go_cut [7] (fun rv wx => ∃ (W : World) (A2 : Option Addr) (c2 : Nat) (ds2 : List Nat), W = wx ∧ rv = .slice A2 ds2.length c2 ∧ Digs W A2 c2 ds2 (x + BD * R) ∧ Fresh (w.heap.size + 1) A2 ∧ Seg W w.heap.size 0 .i64 3 cur zs ∧ Below w.heap.size w W)
      case first => as_aux_lemma =>
        have hlit : (wr.alloc (.cells #[.int .i64 (x : Int)] 3)).ownsRow (w.heap.size + 1) 3 1 (.slice (some ⟨wr.heap.size, 0, none⟩) 1 1) 1 (cellsOf .i64 [x]) := World.ownsRow_lit wr #[.int .i64 (x : Int)] 1 HS.out.2.2.2.2.2.2.2 (by decide) rfl
        have HO := Lib.hid hlit
        clear hlit
        by_cases hds : ds.length = 0
        · have htr := trimmed_any (some ⟨wr.heap.size, 0, none⟩) 1 [x] _ (Nums.of_own HO.out rfl) (by simp) (by simp)
          have HT := Lib.hid htr
          have hR : R = 0 := by rw [← HS.out.2.1.2.2.2.2, List.eq_nil_of_length_eq_zero hds]; rfl
          have HR := Lib.hid hR
          rw [hds]
          clear htr hR hds
          go_wp2_with (at_builtin; go_loud (refine wpList_append_zero rfl _ _ 29 rfl 3 i0 Try.underlying29 HI.out.1 (some ⟨wr.heap.size, 0, none⟩) 1 1 rfl (Nat.le_refl _) Ar cr rfl ?_))
          refine HT.out.mono ?_
          rintro e w4 ⟨rfl, k, rfl, hk, hz, hp⟩
          have HP := Lib.hid (And.intro hk (And.intro hz hp))
          clear hk hz hp
          go_wp2
          go_meet
          have hok : Lm.Ok BD [x] := Lm.Ok.cons HS.out.2.2.2.2.2.2.1 (Lm.Ok.nil _)
          have hd := digs_take (Nums.of_own HO.out rfl) hok (c := 1) (Nat.le_refl _) HP.out.1 HP.out.2.1 HP.out.2.2
          have hlen : ([x].take k).length = k := by rw [List.length_take]; have := HP.out.1; simp at this ⊢; omega
          rw [show Lm.val BD [x] = x + BD * R by rw [HR.out]; rfl] at hd
          exact ⟨_, some ⟨wr.heap.size, 0, none⟩, 1, [x].take k, rfl, by rw [hlen], hd, fresh_own HO.out, HS.out.2.2.2.1.alloc _, HS.out.2.2.2.2.1.alloc HS.out.2.2.2.2.1.size _⟩
        · obtain ⟨ar, rfl, har, hcr⟩ := HS.out.2.1.2.1 (by omega)
          have hnews : ∀ jj u, (cellsOf .i64 ds)[jj]? = some u → (wr.alloc (.cells #[.int .i64 (x : Int)] 3)).cell? (ar.add jj) = some u := (HS.out.2.1.2.1.alloc (.cells #[.int .i64 (x : Int)] 3)).news
          have HN := Lib.hid hnews
          clear hnews hcr har hds
          go_wp2_with (at_builtin; go_loud (refine wpList_append_own _ rfl _ _ 29 rfl (w.heap.size + 1) 3 i0 (.int .i64 0) 1 8 Try.underlying29 HI.out.1 HI.out.2.1 HI.out.2.2.1 HI.out.2.2.2 rfl (by decide) _ 1 (cellsOf .i64 [x]) rfl HO.out ar ds.length cr (cellsOf .i64 ds) rfl (by rw [cellsOf_length, Nat.mul_one]) HN.out (cellsOf_one .i64 ds) (by have := HDL.out; unfold maxLen; omega) (by have := HDL.out; omega) (by have := HS.out.2.2.2.2.2.2.2; rw [size_alloc]; omega) ?_); intro v1 w1 hown1 hg1 _; obtain ⟨A3, c3, rfl, hle3⟩ := own_form hown1)
          have hcs : cellsOf .i64 [x] ++ cellsOf .i64 ds = cellsOf .i64 (x :: ds) := by simp [cellsOf]
          rw [hcs] at hown1
          have hls : 1 + ds.length = (x :: ds).length := by simp; omega
          have hok : Lm.Ok BD (x :: ds) := Lm.Ok.cons HS.out.2.2.2.2.2.2.1 HS.out.2.1.2.2.1
          rw [hls] at hown1 hle3 ⊢
          have htr := trimmed_any A3 c3 (x :: ds) w1 (Nums.of_own hown1 rfl) (by have := HDL.out; simp; omega) hle3
          have hsg1 : Seg w1 w.heap.size 0 .i64 3 cur zs := (HS.out.2.2.2.1.alloc _).grown hg1 (fun e => by have := (HO.out.lt _ e).1; omega)
          have hbl1 : Below w.heap.size w w1 := (HS.out.2.2.2.2.1.alloc HS.out.2.2.2.2.1.size _).grown hg1 (by have := HS.out.2.2.2.2.1.size; rw [size_alloc]; omega) (fun k hk => by have := (HO.out.lt k hk).1; omega)
          have HT := Lib.hid (And.intro htr (And.intro hown1 (And.intro hle3 (And.intro hsg1 hbl1))))
          clear htr hown1 hg1 hle3 hsg1 hbl1 hls hcs
          refine HT.out.1.mono ?_
          rintro e w4 ⟨rfl, k, rfl, hk, hz, hp⟩
          have HP := Lib.hid (And.intro hk (And.intro hz hp))
          clear hk hz hp
          go_wp2
          go_meet
          have hd := digs_take (Nums.of_own HT.out.2.1 rfl) hok HT.out.2.2.1 HP.out.1 HP.out.2.1 HP.out.2.2
          have hlen : ((x :: ds).take k).length = k := by rw [List.length_take]; have := HP.out.1; omega
          rw [show Lm.val BD (x :: ds) = x + BD * R by rw [Lm.val_cons, HS.out.2.1.2.2.2.2]] at hd
          exact ⟨_, A3, c3, (x :: ds).take k, rfl, by rw [hlen], hd, fresh_own HT.out.2.1, HT.out.2.2.2.1, HT.out.2.2.2.2⟩
      case rest =>
        obtain ⟨wi, A2, c2, ds2, rfl, rfl, hd2, hf2, hs2, hb2⟩ := hcut
        obtain ⟨R', hR'⟩ : ∃ R', x + BD * R = R' := ⟨_, rfl⟩
        rw [hR'] at hd2
        have hlt0 : R' < 65536 * B := by
          have h1 := HS.out.1.lt
          have h2 := HS.out.2.2.2.2.2.2.1
          have h3 : BD * (R + 1) ≤ BD * B := Nat.mul_le_mul_left _ h1
          rw [Nat.mul_add, Nat.mul_one] at h3
          have h4 : x < BD := h2
          have h5 : x + BD * R < BD * B := by omega
          rw [← hR']
          exact h5
        have hl2 : ds2.length ≤ 200001 := by
          refine Nat.le_trans (hd2.len (m := ys.length + 1) ?_) (by have := HX.out.2.2.2.2.2.2.2; omega)
          have h2 := Lm.val_lt HX.out.2.2.2.1
          rw [HX.out.2.2.2.2.1] at h2
          have h3 : 65536 * B ≤ BD ^ ys.length * BD := by rw [Nat.mul_comm, show (65536 : Nat) = BD from rfl]; exact Nat.mul_le_mul_right _ (Nat.le_of_lt h2)
          rw [Nat.pow_succ]
          omega
        have HI2 := Lib.hid (And.intro hd2 (And.intro hf2 (And.intro hs2 (And.intro hb2 (And.intro hR' (And.intro hlt0 hl2))))))
        have HY2 := Lib.hid (HX.out.2.1.below hb2)
        clear hd2 hf2 hs2 hb2 hR' hlt0 hl2 hca
        go_upto_region 8 with fail
        go_loopw [9, 10] (fun lv hv wr => ∃ lo hi : Nat, lv = .int .i64 lo ∧ hv = .int .i64 hi ∧ lo < hi ∧ hi ≤ 65536 ∧ lo * B ≤ R' ∧ R' < hi * B ∧ Below wi.heap.size wi wr) (fun lv hv _ => (intOf hv).toNat - (intOf lv).toNat)
        case atStart => exact ⟨0, 65536, rfl, rfl, by decide, Nat.le_refl _, by rw [Nat.zero_mul]; exact Nat.zero_le _, HI2.out.2.2.2.2.2.1, Below.refl _ _⟩
        case round =>
          obtain ⟨lo, hi, rfl, rfl, hlh, hh, hlo, hhi, hbw⟩ := hrel
          have l0 : (0 : Int) ≤ (lo : Int) := Int.natCast_nonneg lo
          have h1 : (hi : Int) ≤ 65536 := by omega
          have hlhI : (lo : Int) < (hi : Int) := by omega
          by_cases hgt : lo + 1 < hi
          · have hgtI : (1 : Int) < (hi : Int) - (lo : Int) := by omega
            obtain ⟨m, hm⟩ : ∃ m, (lo + hi) / 2 = m := ⟨_, rfl⟩
            have hmI : ((lo : Int) + (hi : Int)) / 2 = (m : Int) := by omega
            have hml : lo < m := by omega
            have hmh : m < hi := by omega
            have hn1 : Nums (wr.alloc (.cells #[.int .i64 (m : Int)] 3)) .i64 (some ⟨wr.heap.size, 0, none⟩) [m] := fun _ => ⟨_, rfl, by rw [size_alloc]; exact Nat.lt_succ_self _, fun jj hjj => by
              obtain rfl : jj = 0 := by simpa using hjj
              go_simp⟩
            have hal2 : Below wi.heap.size wi (wr.alloc (.cells #[.int .i64 (m : Int)] 3)) := hbw.alloc hbw.size _
            have htm := times_any A' c' ys (some ⟨wr.heap.size, 0, none⟩) 1 [m] _ hn1 (HY2.out.below hal2) (Lm.Ok.cons (by unfold BD; omega) (Lm.Ok.nil _)) HX.out.2.2.2.1 (by simp) (by have := HX.out.2.2.2.2.2.2.2; omega)
            have HTM := Lib.hid (And.intro htm (And.intro hal2 (And.intro hm (And.intro hml (And.intro hmh (And.intro hlo hhi))))))
            clear htm hal2 hn1 hm hml hmh hlo hhi hbw
            go_wp2_with fail
            refine HTM.out.1.mono ?_
            rintro e w3 ⟨A3, c3, d3, rfl, hd3, hl3, hb3⟩
            rw [show Lm.val BD [m] * Lm.val BD ys = m * B by rw [HX.out.2.2.2.2.1]; simp [Lm.val]] at hd3
            have hbi := HTM.out.2.1.trans (hb3.mono HTM.out.2.1.size)
            have hdr := HI2.out.1.below hbi
            have hcm := rcompare_any A3 c3 d3 A2 c2 ds2 w3 hd3.2.1 hdr.2.1 hd3.2.2.1 hdr.2.2.1 hd3.2.2.2.1 hdr.2.2.2.1 (by have := HX.out.2.2.2.2.2.2.2; simp at hl3; omega)
            rw [hd3.2.2.2.2, hdr.2.2.2.2] at hcm
            have HCM := Lib.hid (And.intro hcm hbi)
            clear hcm hbi hd3 hl3 hb3 hdr
            by_cases hle : m * B ≤ R'
            · have ho : ordOf (m * B) R' ≤ 0 := by unfold ordOf; split <;> first | decide | (rw [if_neg (by omega)]; decide)
              obtain ⟨oo, hoo⟩ : ∃ o, ordOf (m * B) R' = o := ⟨_, rfl⟩
              rw [hoo] at ho
              have HOO := Lib.hid (And.intro hoo hle)
              clear hoo hle
              go_wp2_with fail
              refine HCM.out.1.mono ?_
              rintro e w4 ⟨⟨nd, rfl⟩, he⟩
              rw [HOO.out.1] at he
              subst he
              go_wp2
              go_roundw
              case rel => exact ⟨m, hi, rfl, rfl, HTM.out.2.2.2.2.1, hh, HOO.out.2, HTM.out.2.2.2.2.2.2, below_drewN HCM.out.2 nd⟩
              case measure => have := HTM.out.2.2.2.1; have := HTM.out.2.2.2.2.1; simp [intOf]; omega
            · have ho : ¬ ordOf (m * B) R' ≤ 0 := by unfold ordOf; rw [if_neg (by omega), if_pos (by omega)]; decide
              obtain ⟨oo, hoo⟩ : ∃ o, ordOf (m * B) R' = o := ⟨_, rfl⟩
              rw [hoo] at ho
              have HOO := Lib.hid (And.intro hoo hle)
              clear hoo hle
              go_wp2_with fail
              refine HCM.out.1.mono ?_
              rintro e w4 ⟨⟨nd, rfl⟩, he⟩
              rw [HOO.out.1] at he
              subst he
              go_wp2
              go_roundw
              case rel => exact ⟨lo, m, rfl, rfl, HTM.out.2.2.2.1, by have := HTM.out.2.2.2.2.1; omega, HTM.out.2.2.2.2.2.1, by have := HOO.out.2; omega, below_drewN HCM.out.2 nd⟩
              case measure => have := HTM.out.2.2.2.1; have := HTM.out.2.2.2.2.1; simp [intOf]; omega
          · have hhe : hi = lo + 1 := by omega
            have hgtI : ¬ (1 : Int) < (hi : Int) - (lo : Int) := by omega
            have hlo16 : lo < 65536 := by omega
            rw [hhe] at hhi
            have hs3 : Seg wr w.heap.size 0 .i64 3 cur zs := HI2.out.2.2.1.keep (hbw.block _ HI2.out.2.2.1.lt)
            have hlz := HS.out.1.len
            have hcz := hs3.cell (j := j) (by omega)
            have hfz := hs3.frozen (0 + j)
            have hs4 := hs3.set_ j lo
            rw [Nat.zero_add] at hcz hfz hs4
            have hd3 := HI2.out.1.below hbw
            have hb3 := HI2.out.2.2.2.1.trans (hbw.mono HI2.out.2.2.2.1.size)
            have hd4 := hd3.store (g := w.heap.size) (o := j) (u := .int .i64 (lo : Int)) HI2.out.2.1
            have hb4 := hb3.setCell (p := ⟨w.heap.size, j, none⟩) (Nat.le_refl _) (.int .i64 (lo : Int))
            have hsz4 : w.heap.size + 1 ≤ (wr.setCell ⟨w.heap.size, j, none⟩ (.int .i64 (lo : Int))).heap.size := hs4.lt
            have hB1 : (lo + 1) * B = lo * B + B := by rw [Nat.add_mul, Nat.one_mul]
            have hq : x + BD * R = lo * B + (R' - lo * B) := by rw [HI2.out.2.2.2.2.1]; omega
            have hr' : R' - lo * B < B := by omega
            have hdv := divAtD_step HS.out.1 hj HS.out.2.2.2.2.2.1 hlo16 hq hr'
            by_cases hpos : 0 < lo
            · have hposI : (0 : Int) < (lo : Int) := by omega
              have HP := Lib.hid (And.intro hs4 (And.intro hd4 (And.intro hb4 (And.intro hsz4 (And.intro hdv hlo)))))
              have HL16 := Lib.hid hlo16
              clear hs3 hs4 hd3 hd4 hb3 hb4 hsz4 hdv hlo hhi hB1 hq hr' hlz hbw hhe hlo16 hh hlh hgt
              go_upto_region 14 with fail
              obtain ⟨V, hV⟩ : ∃ V : World, wr.setCell ⟨w.heap.size, j, none⟩ (.int .i64 (lo : Int)) = V := ⟨_, rfl⟩
              rw [hV] at HP ⊢
              have hn1 : Nums (V.alloc (.cells #[.int .i64 (lo : Int)] 3)) .i64 (some ⟨V.heap.size, 0, none⟩) [lo] := fun _ => ⟨_, rfl, by rw [size_alloc]; exact Nat.lt_succ_self _, fun jj hjj => by
                obtain rfl : jj = 0 := by simpa using hjj
                go_simp⟩
              have hal2 : Below w.heap.size w (V.alloc (.cells #[.int .i64 (lo : Int)] 3)) := HP.out.2.2.1.alloc HP.out.2.2.1.size _
              have htm := times_any A' c' ys (some ⟨V.heap.size, 0, none⟩) 1 [lo] _ hn1 (HX.out.2.1.below hal2) (Lm.Ok.cons HL16.out (Lm.Ok.nil _)) HX.out.2.2.2.1 (by simp) (by have := HX.out.2.2.2.2.2.2.2; omega)
              have hd5 := HP.out.2.1.below ((Below.refl V.heap.size V).alloc (Nat.le_refl _) (.cells #[.int .i64 (lo : Int)] 3))
              have HTM := Lib.hid (And.intro htm (And.intro hal2 (And.intro hd5 (show w.heap.size + 1 ≤ (V.alloc (.cells #[.int .i64 (lo : Int)] 3)).heap.size by have := HP.out.2.2.2.1; rw [size_alloc]; omega))))
              have HSA := Lib.hid (HP.out.1.alloc (.cells #[.int .i64 (lo : Int)] 3))
              clear htm hal2 hn1 hV hd5
              go_wp2_with fail
              refine HTM.out.1.mono ?_
              rintro e w5 ⟨A3, c3, d3, rfl, hd3, hl3, hb5⟩
              rw [show Lm.val BD [lo] * Lm.val BD ys = lo * B by rw [HX.out.2.2.2.2.1]; simp [Lm.val]] at hd3
              have hdr := HTM.out.2.2.1.below hb5
              have hmn := minus_new A2 c2 ds2 A3 c3 d3 w5 hdr.2.1 hd3.2.1 hdr.2.2.1 hd3.2.2.1 (hdr.shorter hd3 HP.out.2.2.2.2.2) (by have := HI2.out.2.2.2.2.2.2; omega) (by rw [hd3.2.2.2.2, hdr.2.2.2.2]; exact HP.out.2.2.2.2.2)
              rw [hd3.2.2.2.2, hdr.2.2.2.2] at hmn
              have hsz5 : w.heap.size + 1 ≤ w5.heap.size := Nat.le_trans HTM.out.2.2.2 hb5.size
              have hb6 := HTM.out.2.1.trans (hb5.mono HTM.out.2.1.size)
              have hs5 : Seg w5 w.heap.size 0 .i64 3 _ _ := HSA.out.keep (hb5.block _ HSA.out.lt)
              have HMN := Lib.hid (And.intro hmn (And.intro hsz5 (And.intro hb6 hs5)))
              clear hmn hsz5 hb6 hs5 hd3 hdr hb5 hl3
              go_wp2_with fail
              refine HMN.out.1.mono ?_
              rintro e w6 ⟨A6, c6, d6, rfl, hd6, hl6, hf6, hb7⟩
              have HE := Lib.hid (And.intro hd6 (And.intro (hf6.down HMN.out.2.1) (And.intro (show Seg w6 w.heap.size 0 .i64 3 _ _ from HMN.out.2.2.2.keep (hb7.block _ HMN.out.2.2.2.lt)) (HMN.out.2.2.1.trans (hb7.mono HMN.out.2.2.1.size)))))
              clear hd6 hf6 hb7 hl6
              go_wp2
              go_roundw
              case rel => exact ⟨j, R' - lo * B, A6, c6, d6, zs.set j lo, _, rfl, rfl, by omega, HP.out.2.2.2.2.1, HE.out.1, HE.out.2.1, HE.out.2.2.1, HE.out.2.2.2⟩
              case measure => simp [intOf]
            · obtain rfl : lo = 0 := by omega
              rw [Nat.zero_mul, Nat.sub_zero] at hdv
              have HP := Lib.hid (And.intro hs4 (And.intro hd4 (And.intro hb4 (And.intro hsz4 hdv))))
              clear hs3 hs4 hd3 hd4 hb3 hb4 hsz4 hdv hlo hhi hB1 hq hr' hlz hbw hhe hlo16 hh hlh hgt
              go_wp2
              go_roundw
              case rel => exact ⟨j, R', A2, c2, ds2, zs.set j 0, _, rfl, rfl, by omega, HP.out.2.2.2.2, HP.out.2.1, HI2.out.2.1, HP.out.1, HP.out.2.2.1⟩
              case measure => simp [intOf]
end Go.Proofs.Ytagocllbfbbneaa
