/- What ofComplement of package integer does for a number that is not below 0, and Boole for -4 and 7 at 8. -/
import Derived.Test.YtllkajlmfbikhaaDoorOper
import Derived.StillTailTactics
namespace Go.Proofs.YtllkajlmfbikhaaDoor
open Go.RowKit

set_option maxRecDepth 100000 in
set_option maxHeartbeats 1000000 in
theorem ofComplement_pos (A : Option Addr) (c : Nat) (xs : List Nat) (w : World) (h : Nums w .u32 A xs) (ho : Lm.Ok B32 xs) (hl : xs.length ≤ 900000) (hc : xs.length ≤ c) :
    Calls Tryd.prog 44 #[.bool false, .slice A xs.length c] w fun e w' => IsInt w w' (Lm.val B32 xs : Int) e := by
  have H := Lib.hid (Res.new w 28)
  have hn := h.alloc (.cells #[.bool false, .slice none 0 0] 28)
  go_enter Tryd.func44, Tryd.ntmps44
  go_wp2_with fail
  refine (signed_to false A c xs (Lm.val B32 xs : Int) _ hn ho (by omega) hc rfl).mono ?_
  rintro e w2 ⟨v2, rfl, ⟨b4, A4, c4, zs4, rfl, hsg4, hl4⟩, hb2⟩
  have k2 := H.out.step hb2 rfl (by simp)
  obtain ⟨⟨hr0, hr1⟩, hf0, hf1⟩ := id k2
  go_wp2
  refine bodyPost_ret (v := .agg #[.bool b4, .slice A4 zs4.length c4]) (by simp [results, Tryd.results44, go_sem, hr0, hr1]) rfl ?_
  exact res_stored k2 hsg4 hl4 (below_then ((Below.refl _ _).alloc (Nat.le_refl _) _) hb2) (Nat.le_refl _)

/-- Combined as far as i: and. -/
structure Anded (xs ys zs : List Nat) (n i : Nat) : Prop where
  len : zs.length = n
  ok : Lm.Ok B32 zs
  done_ : ∀ j, j < i → zs.getD j 0 = comb 0 0 0 4294967295 (xs.getD j 0) (ys.getD j 0)
  rest : ∀ j, i ≤ j → zs.getD j 0 = xs.getD j 0

theorem anded_step {xs ys zs : List Nat} {n i a b : Nat} (h : Anded xs ys zs n i) (hi : i < n) (ha : zs.getD i 0 = a) (hb : ys.getD i 0 = b) (hbl : b < 4294967296) : Anded xs ys (zs.set i (comb 0 0 0 4294967295 a b)) n (i + 1) := by
  refine ⟨by simpa using h.len, h.ok.set _ _ (comb_lt _ _ _ _ _ _ hbl), fun j hj => ?_, fun j hj => ?_⟩
  · by_cases e : j = i
    · subst e
      rw [getD_set_eq _ _ _ (by rw [h.len]; exact hi), ← h.rest j (Nat.le_refl _), ha, hb]
    · rw [Lm.getD_set_ne _ _ _ _ (by omega)]
      exact h.done_ j (by omega)
  · rw [Lm.getD_set_ne _ _ _ _ (by omega)]
    exact h.rest j (by omega)

def IsIntOk (w w' : World) (z : Int) (e : Ending) : Prop := ∃ v, e = .returned (.tuple #[v, .int .i64 0]) ∧ IntAt w' v z ∧ Below w.heap.size w w'

theorem IsComp.pin {w w' : World} {z : Int} {n : Nat} {e : Ending} (h : IsComp w w' z n e) (xs : List Nat) (ox : Lm.Ok B32 xs) (tx : Lm.Top xs) (hv : Lm.val B32 xs = magOf z) :
    ∃ g zs cur, e = .returned (.slice (some ⟨g, 0, none⟩) n n) ∧ w.heap.size ≤ g ∧ Turned xs zs (turnOf (decide (z < 0))) n n ∧ Seg w' g 0 .u32 86 cur zs ∧ Below w.heap.size w w' := by
  obtain ⟨g, xs', zs, cur, he, hg, h1, h2, h3, h4, h5, h6⟩ := h
  have : xs' = xs := Lm.uniq B32_one h1 ox h2 tx (by rw [h3, hv])
  subst this
  exact ⟨g, zs, cur, he, hg, h4, h5, h6⟩

theorem Res.far {W w1 : World} {r B : Nat} (t : Res W r) (hb : Below B W w1) (hl : r < B) : Res w1 r :=
  ⟨⟨(hb.cell (p := ⟨r, 0, none⟩) hl).trans t.1.1, (hb.cell (p := ⟨r, 1, none⟩) hl).trans t.1.2⟩, (hb.frozen (p := ⟨r, 0, none⟩) hl).trans t.2.1, (hb.frozen (p := ⟨r, 1, none⟩) hl).trans t.2.2⟩

theorem SegTo.drew {w : World} {g off : Nat} {k : IntKind} {e : TypeId} {cur : Array Value} {xs : List Nat} (h : SegTo w g off k e cur xs) : SegTo w.drew g off k e cur xs := by
  obtain ⟨c, h1, h2, h3⟩ := h
  exact ⟨c, ⟨h1.blk, h1.fit, h1.at_⟩, h2, h3⟩
theorem grown_drew {a w : World} {row : Option Nat} (h : a.grownBy w row) : a.grownBy w.drew row := ⟨h.os, h.tape, h.output, h.size, h.block⟩

theorem anded_end {za zb zs : List Nat} (ha : Turned [3] za (turnOf (decide ((-4 : Int) < 0))) 2 2) (hb : Turned [7] zb (turnOf (decide ((7 : Int) < 0))) 2 2) (h : Anded za zb zs 2 2) : zs = [4, 0] ∧ Lm.val B32 zs = 4 := by
  have e0 := h.done_ 0 (by omega)
  have e1 := h.done_ 1 (by omega)
  rw [ha.done_ 0 (by omega), hb.done_ 0 (by omega)] at e0
  rw [ha.done_ 1 (by omega), hb.done_ 1 (by omega)] at e1
  have f0 : zs.getD 0 0 = 4 := e0.trans (by decide)
  have f1 : zs.getD 1 0 = 0 := e1.trans (by decide)
  have hl := h.len
  match zs, hl, f0, f1 with
  | [x, y], _, f0, f1 =>
    simp at f0 f1
    subst f0
    subst f1
    exact ⟨rfl, by decide⟩

set_option maxRecDepth 100000 in
set_option maxHeartbeats 2000000 in
theorem boole_awake (A1 : Option Addr) (c1 : Nat) (A2 : Option Addr) (c2 : Nat) (w : World) (h1 : Limbs w A1 c1 [4] 4) (h2 : Limbs w A2 c2 [7] 7) :
    Calls Tryd.prog 19 #[.agg #[.bool true, .slice A1 1 c1], .int .i64 8, .agg #[.bool false, .slice A2 1 c2]] w fun e w' => IsIntOk w w' 4 e := by
  have hbb := begun2_below w (.bool true) (.slice A1 1 c1) (.bool false) (.slice A2 1 c2) 28
  have hx0 := begun2_x w (.bool true) (.slice A1 1 c1) (.bool false) (.slice A2 1 c2) 28
  have hy0 := begun2_y w (.bool true) (.slice A1 1 c1) (.bool false) (.slice A2 1 c2) 28
  have hr0 := begun2_r w (.bool true) (.slice A1 1 c1) (.bool false) (.slice A2 1 c2) 28
  have hsz := begun2_size w (.bool true) (.slice A1 1 c1) (.bool false) (.slice A2 1 c2) 28
  have hl1 := h1.below hbb
  have hl2 := h2.below hbb
  have H := Lib.hid (And.intro hbb (And.intro hx0 (And.intro hy0 (And.intro hr0 hsz))))
  clear hbb hx0 hy0 hr0 hsz
  go_enter Tryd.func19, Tryd.ntmps19
  go_wp2_with fail
  refine (operation8 _).mono ?_
  rintro e w1 ⟨gt, rfl, hfour, hgt, hgt', hb1⟩
  have j1 : w.heap.size + 3 ≤ w1.heap.size := Nat.le_trans (Nat.le_of_eq H.out.2.2.2.2.symm) hb1.size
  have k1x := H.out.2.1.step hb1 rfl (Nat.lt_of_lt_of_eq (m := w.heap.size + 3) (by omega) H.out.2.2.2.2.symm)
  have k1y := H.out.2.2.1.step hb1 rfl (Nat.lt_of_lt_of_eq (m := w.heap.size + 3) (by omega) H.out.2.2.2.2.symm)
  have k1r := H.out.2.2.2.1.step hb1 rfl (Nat.lt_of_lt_of_eq (m := w.heap.size + 3) (by omega) H.out.2.2.2.2.symm)
  have m1 := hl1.step hb1 rfl
  have m2 := hl2.step hb1 rfl
  obtain ⟨px0, px1⟩ := id k1x
  obtain ⟨py0, py1⟩ := id k1y
  clear hl1 hl2
  have tok1 : True := trivial
  go_wp2_with fail
  go_region_held3 (fun w' => w'.cell? ⟨w.heap.size, 0, none⟩ = some (.bool true) ∧ w'.cell? ⟨w.heap.size, 1, none⟩ = some (.slice A1 1 c1) ∧ w'.cell? ⟨w.heap.size + 1, 0, none⟩ = some (.bool false) ∧ w'.cell? ⟨w.heap.size + 1, 1, none⟩ = some (.slice A2 1 c2))
    (((try dsimp only); (repeat' apply And.intro) <;> (first | (with_reducible assumption) | go_keep)))
    ((first | (go_at_call 43; have _t := tok1; refine (complement_true A1 c1 [4] (-4) 2 _ (by unfold SignOf; decide) (by exact m1) (by decide) (by decide)).mono ?_; intro e w2 hcx; obtain ⟨ga, za, cura, rfl, hga, hta, hsa, hb2⟩ := hcx.pin [3] (.cons (by decide) (.nil _)) (by simp [Lm.Top]) (by decide); clear tok1 hcx; have j2 : w.heap.size + 3 ≤ w2.heap.size := Nat.le_trans j1 hb2.size; have k2x := k1x.step hb2 rfl (by omega); have k2y := k1y.step hb2 rfl (by omega); have k2r := k1r.step hb2 rfl (by omega); have n2 := m2.step hb2 rfl; obtain ⟨qx0, qx1⟩ := id k2x; obtain ⟨qy0, qy1⟩ := id k2y) | (go_at_call 43; refine (complement_false A2 c2 [7] 7 2 _ (by unfold SignOf; decide) (by exact n2) (by decide) (by decide)).mono ?_; intro e w3 hcy; obtain ⟨gb, zb, curb, rfl, hgb, htb, hsb, hb3⟩ := hcy.pin [7] (.cons (by decide) (.nil _)) (by simp [Lm.Top]) (by decide); clear hcy; have k3x := k2x.step hb3 rfl (by omega); have k3y := k2y.step hb3 rfl (by omega); have k3r := k2r.step hb3 rfl (by omega); obtain ⟨sx0, sx1⟩ := id k3x; obtain ⟨sy0, sy1⟩ := id k3y)))
  have hsa3 := hsa.keep (hb3.block ga hsa.lt)
  have hab : ga < gb := Nat.lt_of_lt_of_le hsa.lt hgb
  have hta' : gt < ga := Nat.lt_of_lt_of_le hgt' hga
  have hb13 : Below w1.heap.size w1 w3 := begun_then (W0 := w1) (Below.refl _ _) (below_then (w := w1.drew) hb2 hb3) rfl rfl rfl rfl
  have f3 : Four w3 gt 0 0 0 4294967295 := ⟨(hb13.cell (p := ⟨gt, 0, none⟩) hgt').trans hfour.1, (hb13.cell (p := ⟨gt, 1, none⟩) hgt').trans hfour.2.1, (hb13.cell (p := ⟨gt, 2, none⟩) hgt').trans hfour.2.2.1, (hb13.cell (p := ⟨gt, 3, none⟩) hgt').trans hfour.2.2.2⟩
  have HX := Lib.hid (And.intro m1 (And.intro k3r hb13))
  clear px0 px1 py0 py1 qx0 qx1 qy0 qy1 sx0 sx1 sy0 sy1 k1x k1y k1r k2x k2y k2r k3x k3y m1 m2 n2 hsa hfour
  go_wp2
  go_loopw [38] (fun iv wr => ∃ (i : Nat) (zs : List Nat), iv = .int .i64 i ∧ i ≤ 2 ∧ Anded za zb zs 2 i ∧ SegTo wr ga 0 .u32 86 cura zs ∧ w3.grownBy wr (some ga)) (fun iv _ => 2 - (intOf iv).toNat)
  case atStart => exact ⟨0, za, rfl, by omega, ⟨hta.len, hta.ok, fun j hj => absurd hj (Nat.not_lt_zero _), fun _ _ => rfl⟩, .refl hsa3, World.grownBy.refl _ _⟩
  case round =>
    obtain ⟨i, zs, rfl, hi, hand, hseg, hgr⟩ := hrel
    by_cases hlt : i < 2
    · obtain ⟨cur', hs1, hs2, hs3⟩ := id hseg
      have hca := hs1.cell (j := i) (by rw [hand.len]; exact hlt)
      have hfz := hs1.frozen (0 + i)
      have hsbr := hsb.grown hgr (fun e => by injection e; omega)
      have hcb := hsbr.cell (j := i) (by rw [htb.len]; exact hlt)
      have hal := limb_lt hand.ok i
      have hbl := limb_lt htb.ok i
      obtain ⟨a, ha⟩ : ∃ a, zs.getD i 0 = a := ⟨_, rfl⟩
      obtain ⟨b, hb⟩ : ∃ b, zb.getD i 0 = b := ⟨_, rfl⟩
      rw [ha] at hca hal
      rw [hb] at hcb hbl
      simp only [Nat.zero_add] at hca hcb hfz
      have hfr : Four wr gt 0 0 0 4294967295 := by
        have e : ∀ o, wr.cell? ⟨gt, o, none⟩ = w3.cell? ⟨gt, o, none⟩ := fun o => World.cell?_of_block (hgr.block gt (by have := hb13.size; omega) (fun e => by injection e; omega))
        exact ⟨(e 0).trans f3.1, (e 1).trans f3.2.1, (e 2).trans f3.2.2.1, (e 3).trans f3.2.2.2⟩
      have HD := Lib.hid (And.intro ha hb)
      clear ha hb hs1 hs2 hs3 hsbr
      go_wp2_with fail
      go_still_tail 13, (by kernel_rfl)
      still_call ((comb_any gt 0 0 0 4294967295 a b _ (by exact hfr) (by decide) (by decide) (by decide) (by decide) hal hbl).mono fun _ _ h => ⟨h.2, h.1.symm⟩)
      repeat still_step
      refine wpStill_nil ?_
      go_wp2
      go_roundw
      case rel =>
        refine ⟨i + 1, zs.set i (comb 0 0 0 4294967295 a b), by go_num, by omega, anded_step hand hlt HD.out.1 HD.out.2 hbl, ?_, ?_⟩
        · exact (hseg.set0 (j := i) (by rw [hand.len]; exact hlt) _).drew
        · exact grown_drew (grown_trans hgr (grown_store _ _ _ _))
      case measure => simp [intOf]; omega
    · have hie : i = 2 := by omega
      subst hie
      obtain ⟨hzs, hv⟩ := anded_end hta htb hand
      subst hzs
      obtain ⟨cur', hs1, _, _⟩ := hseg
      have hc1 := hs1.cell (j := 1) (by decide)
      have hn := hs1.nums
      have hga' : w1.heap.size ≤ ga := hga
      have hb3r : Below w1.heap.size w1 wr := hb13.trans (grown_below hgr hga' hb13.size)
      have kr := HX.out.2.1.far (grown_below hgr (Nat.le_refl ga) (Nat.le_of_lt hsa3.lt)) (by omega)
      have jr : w.heap.size + 3 ≤ wr.heap.size := Nat.le_trans j1 hb3r.size
      simp only [Nat.zero_add] at hc1
      have hc1' : wr.cell? ⟨ga, 1, none⟩ = some (.int .u32 0) := hc1
      clear hc1 hs1
      go_wp2_with fail
      refine (ofComplement_pos (some ⟨ga, 0, none⟩) 2 [4, 0] wr hn hand.ok (by decide) (by decide)).mono ?_
      rintro e w4 ⟨v4, rfl, ⟨b4, A4, c4, zs4, rfl, hsg4, hl4⟩, hb4⟩
      have k4 := kr.step hb4 rfl (by omega)
      obtain ⟨⟨hr0, hr1⟩, hf0, hf1⟩ := id k4
      go_wp2
      have hst := res_stored k4 hsg4 hl4 (below_then (below_then (begun_then H.out.1 hb1 rfl rfl rfl rfl) hb3r) hb4) (by omega)
      obtain ⟨v5, he5, hi5, hb5⟩ := hst
      injection he5 with he5
      subst he5
      have q := k4.1.stored (.bool b4) (.slice A4 zs4.length c4)
      obtain ⟨q0, q1⟩ := id q
      refine bodyPost_ret (v := .tuple #[.agg #[.bool b4, .slice A4 zs4.length c4], .int .i64 0]) (by simp [results, Tryd.results19, go_sem, q0, q1]) rfl ?_
      exact ⟨_, rfl, hi5, hb5⟩
end Go.Proofs.YtllkajlmfbikhaaDoor
