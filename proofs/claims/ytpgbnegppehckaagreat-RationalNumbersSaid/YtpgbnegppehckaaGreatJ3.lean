/- Joined texts: RefB, RAbs, RPower, RKit, SKit, SOf, TIs, RDiv, RDivide, RGcd, SNew, SWhole. -/
import Derived.Test.YtpgbnegppehckaaGreatJ1
import Derived.Deep.QuietTactic
import Derived.BigQuiet
import Derived.IntWalk
import Derived.Test.YtpgbnegppehckaaGreatJ2
import Derived.Deep.DeepCutAuto
import Derived.BigRegion
import Derived.Outline
import Derived.Deep.RegionHeld3
import Derived.Deep.DeepFit
import Derived.Deep.Upon
import Derived.Laws.OwnMore
set_option linter.unusedSimpArgs false
set_option maxRecDepth 100000
set_option maxHeartbeats 8000000
namespace Go.Proofs.YtpgbnegppehckaaGreat
open Go.RowKit
theorem made_zeroD (n : Nat) : (madeCells (Value.int .i64 0).cells (n * 1)).toList = cellsOf .i64 (List.replicate n 0) := by
  rw [show (Value.int .i64 0).cells = #[Value.int .i64 0] from rfl, toList_madeCells_one, Nat.mul_one]
  simp [cellsOf]
structure OuterD (xs ys zs : List Nat) (i : Nat) : Prop where
  len : zs.length = ys.length + xs.length + 1
  ok : Lm.Ok BD zs
  zero : ∀ k, i + xs.length ≤ k → zs.getD k 0 = 0
  num : Lm.val BD zs = Lm.val BD xs * Lm.val BD (ys.take i)
structure InnerD (xs ys zs : List Nat) (i f j c : Nat) : Prop where
  len : zs.length = ys.length + xs.length + 1
  ok : Lm.Ok BD zs
  zero : ∀ k, i + xs.length ≤ k → zs.getD k 0 = 0
  num : Lm.val BD zs + BD ^ (i + j) * c = Lm.val BD xs * Lm.val BD (ys.take i) + BD ^ i * (f * Lm.val BD (xs.take j))
  carry : c < 65536
theorem innerD_start {xs ys zs : List Nat} {i f : Nat} (h : OuterD xs ys zs i) : InnerD xs ys zs i f 0 0 :=
  ⟨h.len, h.ok, h.zero, by simp [Lm.val, h.num], by omega⟩
theorem dig_prod {x f : Nat} (hx : x < 65536) (hf : f < 65536) : x * f ≤ 4294836225 := by
  have h : x * f ≤ 65535 * 65535 := Nat.mul_le_mul (by omega) (by omega)
  simpa using h
theorem innerD_step {xs ys zs : List Nat} {i f j c d x t : Nat} (h : InnerD xs ys zs i f j c) (hj : j < xs.length) (hi : i < ys.length) (hd : zs.getD (i + j) 0 = d) (hdl : d < 65536)
    (hx : xs.getD j 0 = x) (hxl : x < 65536) (hfl : f < 65536) (ht : t = c + d + x * f) : InnerD xs ys (zs.set (i + j) (t % BD)) i f (j + 1) (t / BD) := by
  have hs := Lm.val_set BD zs (i + j) (t % BD) (by rw [h.len]; omega)
  rw [hd] at hs
  have hp := dig_prod hxl hfl
  have hc := h.carry
  refine ⟨by simpa using h.len, h.ok.set _ _ (Nat.mod_lt _ BD_pos), fun k hk => ?_, ?_, ?_⟩
  · exact (Lm.getD_set_ne _ _ _ _ (by omega)).trans (h.zero k hk)
  · rw [show i + (j + 1) = (i + j) + 1 from by omega, Nat.pow_succ, Lm.add_step BD (BD ^ (i + j)) (Lm.val BD zs) _ c d (x * f) t ht hs, Nat.mul_add, ← Nat.add_assoc, h.num,
      Lm.val_take_succ _ _ _ hj, hx, Nat.mul_add, Nat.mul_add, Nat.add_assoc]
    congr 2
    rw [Nat.pow_add, Nat.mul_assoc]
    congr 1
    rw [Nat.mul_left_comm f, Nat.mul_comm x f]
  · subst ht
    unfold BD
    omega
theorem innerD_end {xs ys zs : List Nat} {i f c : Nat} (h : InnerD xs ys zs i f xs.length c) (hi : i < ys.length) (hf : ys.getD i 0 = f) : OuterD xs ys (zs.set (i + xs.length) c) (i + 1) := by
  have hs := Lm.val_set BD zs (i + xs.length) c (by rw [h.len]; omega)
  rw [h.zero (i + xs.length) (Nat.le_refl _), Nat.mul_zero, Nat.add_zero] at hs
  refine ⟨by simpa using h.len, h.ok.set _ _ (by have := h.carry; unfold BD; exact this), fun k hk => ?_, ?_⟩
  · exact (Lm.getD_set_ne _ _ _ _ (by omega)).trans (h.zero k (by omega))
  · rw [hs, h.num, List.take_length, Lm.val_take_succ _ _ _ hi, hf, Nat.mul_add]
    congr 1
    rw [Nat.mul_left_comm (Lm.val BD xs), Nat.mul_comm f]
theorem digs_of_trim {w w' : World} {A : Option Addr} {c l : Nat} {xs : List Nat} {e : Ending} {n : Nat} (h : Trimmed A c xs e) (hn : Nums w' .i64 A xs) (ho : Lm.Ok BD xs) (hc : xs.length ≤ c) (hl : xs.length ≤ l) (hv : Lm.val BD xs = n) (hb : Below w.heap.size w w') : IsDigs w w' n l e := by
  obtain ⟨k, rfl, hk, hz, hp⟩ := h
  have hlen : (xs.take k).length = k := by rw [List.length_take]; omega
  exact ⟨A, c, xs.take k, by rw [hlen], ⟨by omega, hn.take k, ho.take k, top_take hk hp, by rw [Lm.val_cut k hk hz]; exact hv⟩, by omega, hb⟩
theorem digD_lt {xs : List Nat} (h : Lm.Ok BD xs) (j : Nat) : xs.getD j 0 < 65536 := h.getD BD_pos j
theorem times_any (A' : Option Addr) (c' : Nat) (ys : List Nat) (A : Option Addr) (c : Nat) (xs : List Nat) (w : World) (hx : Nums w .i64 A xs) (hy : Nums w .i64 A' ys)
    (ox : Lm.Ok BD xs) (oy : Lm.Ok BD ys) (hl : xs.length ≤ 400000) (hl' : ys.length ≤ 400000) :
    Calls Tryz.prog 127 #[.slice A' ys.length c', .slice A xs.length c] w fun e w' => IsDigs w w' (Lm.val BD xs * Lm.val BD ys) (ys.length + xs.length + 1) e := by
  obtain ⟨i0, hi0, hz0, hz1, hz2⟩ := info_parts Tryz.info3
  have HI := Lib.hid (And.intro hi0 (And.intro hz0 (And.intro hz1 hz2)))
  have HM := Lib.hid (show i0.bytes * (ys.length + xs.length + 1) ≤ 281474976710656 ∧ ys.length + xs.length + 1 ≤ maxLen from ⟨by rw [hz2]; omega, by unfold maxLen; omega⟩)
  clear hi0 hz0 hz1 hz2
  go_enter Tryz.func127, Tryz.ntmps127
  go_wp2_with (at_make; go_loud (refine wpList_make_full _ rfl _ _ 32 rfl w.heap.size 3 i0 (.int .i64 0) 1 Tryz.underlying32 HI.out.1 HI.out.2.1 HI.out.2.2.1 _ _ _ _ (ys.length + xs.length + 1) rfl rfl (by omega) (by omega) HM.out.1 HM.out.2 (Nat.le_refl _) ?_); intro w1 hown1 hg1; rw [made_zeroD] at hown1; have HB := Lib.hid (own_block hown1); have hb1 : Below w.heap.size w w1 := (Below.refl _ _).grown hg1 (Nat.le_refl _) (fun k hk => by cases hk); clear hown1)
  have hz0 : Seg w1 w.heap.size 0 .i64 3 _ (List.replicate (ys.length + xs.length + 1) 0) := seg_of_block HB.out
  have hx1 := hx.below hb1
  have hy1 := hy.below hb1
  have hoffx : 0 < xs.length → Off A w.heap.size := fun hn => off_below hx hn (Nat.le_refl _)
  have hoffy : 0 < ys.length → Off A' w.heap.size := fun hn => off_below hy hn (Nat.le_refl _)
  clear hx hy HB HI HM
  go_loopw [6] (fun iv wr => ∃ (i : Nat) (zs : List Nat), iv = .int .i64 i ∧ i ≤ ys.length ∧ OuterD xs ys zs i ∧ SegTo wr w.heap.size 0 .i64 3 (cellsOf .i64 (List.replicate (ys.length + xs.length + 1) 0)).toArray zs ∧ w1.grownBy wr (some w.heap.size)) (fun iv _ => ys.length - (intOf iv).toNat)
  case atStart =>
   exact ⟨0, _, rfl, Nat.zero_le _, ⟨by simp, Lm.Ok.zeros BD_pos _, fun k _ => by rw [List.getD_eq_getElem?_getD]; by_cases hk : k < ys.length + xs.length + 1 <;> simp [hk], by rw [Lm.val_zeros]; simp [Lm.val]⟩, .refl hz0, World.grownBy.refl _ _⟩
  case round =>
   obtain ⟨i, zs, rfl, hi, hout, hseg, hgr⟩ := hrel
   by_cases hiy : i < ys.length
   · have hfl := digD_lt oy i
     obtain ⟨f, hf⟩ : ∃ f, ys.getD i 0 = f := ⟨_, rfl⟩
     rw [hf] at hfl
     have HF := Lib.hid hf
     clear hf
     obtain ⟨wo, rfl⟩ : ∃ wo : World, wo = wr := ⟨_, rfl⟩
     have hin := innerD_start (f := f) hout
     clear hout
     go_wp2
     go_loopw [7, 8] (fun cv jv wr => ∃ (j q : Nat) (zs : List Nat), jv = .int .i64 j ∧ cv = .int .i64 q ∧ j ≤ xs.length ∧ InnerD xs ys zs i f j q ∧ SegTo wr w.heap.size 0 .i64 3 (cellsOf .i64 (List.replicate (ys.length + xs.length + 1) 0)).toArray zs ∧ w1.grownBy wr (some w.heap.size)) (fun _ jv _ => xs.length - (intOf jv).toNat)
     case atStart => exact ⟨0, 0, zs, rfl, rfl, Nat.zero_le _, hin, hseg, hgr⟩
     case round =>
      clear hin hseg hgr zs
      obtain ⟨j, q, zs, rfl, rfl, hj, hin, hseg, hgr⟩ := hrel
      obtain ⟨cur', hs1, hs2, hs3⟩ := id hseg
      have hql := hin.carry
      by_cases hjx : j < xs.length
      · have hxr := hx1.grown hgr hoffx
        have hyr := hy1.grown hgr hoffy
        obtain ⟨ax, rfl, _, hcell⟩ := hxr.at_ hjx
        have hcx := hcell j hjx
        obtain ⟨ay, rfl, _, hcelly⟩ := hyr.at_ hiy
        have hcy := hcelly i hiy
        rw [HF.out] at hcy
        have hxl := digD_lt ox j
        have hcz := hs1.cell (j := i + j) (by rw [hin.len]; omega)
        have hfz := hs1.frozen (0 + (i + j))
        have hdl := digD_lt hin.ok (i + j)
        obtain ⟨d, hd⟩ : ∃ d, zs.getD (i + j) 0 = d := ⟨_, rfl⟩
        obtain ⟨x, hxd⟩ : ∃ x, xs.getD j 0 = x := ⟨_, rfl⟩
        rw [hd] at hcz hdl
        rw [hxd] at hcx hxl
        simp only [Nat.zero_add] at hcz hfz
        have hpl := dig_prod hxl hfl
        obtain ⟨p, hp⟩ : ∃ p, x * f = p := ⟨_, rfl⟩
        rw [hp] at hpl
        have hp' : (f : Int) * (x : Int) = (p : Int) := by rw [← hp, Int.mul_comm, Int.natCast_mul]
        obtain ⟨s, hs⟩ : ∃ s, i + j = s := ⟨_, rfl⟩
        rw [hs] at hcz hfz
        have hsI : (i : Int) + (j : Int) = (s : Int) := by omega
        obtain ⟨t, ht⟩ : ∃ t, q + d + p = t := ⟨_, rfl⟩
        have htI : (d : Int) + (p : Int) + (q : Int) = (t : Int) := by omega
        have k1 : IntKind.i64.wrap (s : Int) = (s : Int) := IntWalk.i64_in _ (by omega)
        have k2 : IntKind.i64.wrap (p : Int) = (p : Int) := IntWalk.i64_in _ (by omega)
        have k3 : IntKind.i64.wrap ((d : Int) + (p : Int)) = (d : Int) + (p : Int) := IntWalk.i64_in _ (by omega)
        have k4 : IntKind.i64.wrap (t : Int) = (t : Int) := IntWalk.i64_in _ (by omega)
        have k5 : (s : Int) < (ys.length : Int) + (xs.length : Int) + 1 := by omega
        have k6 : (0 : Int) ≤ (s : Int) := Int.natCast_nonneg _
        have k7 : (t : Int) ≤ 4294967295 := by omega
        have k8 : (0 : Int) ≤ (t : Int) := Int.natCast_nonneg _
        have m1 : (i : Int) < (ys.length : Int) := by omega
        have m2 : (j : Int) < (xs.length : Int) := by omega
        have m3 : (0 : Int) ≤ (i : Int) := Int.natCast_nonneg _
        have m4 : (0 : Int) ≤ (j : Int) := Int.natCast_nonneg _
        have HD := Lib.hid (And.intro hd (And.intro hxd (And.intro hp (And.intro hs ht))))
        clear hd hxd hs1 hs2 hs3 hp hcell hcelly hs ht
        go_wp2_with fail
        go_quiet (fail)
        go_wp2
        go_roundw
        case rel =>
         refine ⟨j + 1, t / BD, zs.set (i + j) (t % BD), by go_num, ?_, by omega, innerD_step hin hjx hiy HD.out.1 hdl HD.out.2.1 hxl hfl (t := t) (by rw [← HD.out.2.2.2.2, HD.out.2.2.1]), ?_, ?_⟩
         · exact congrArg (Value.int IntKind.i64) (by unfold BD; omega)
         · have hst := (hseg.drewN nq).set0 (j := i + j) (by rw [hin.len]; omega) (t % BD)
           rw [HD.out.2.2.2.1] at hst ⊢
           rw [show ((t % BD : Nat) : Int) = (t : Int) % 65536 by unfold BD; omega] at hst
           exact hst
         · exact grown_trans (grown_drewN hgr nq) (grown_store _ _ _ _)
        case measure => simp [intOf]; omega
      · have hje : j = xs.length := by omega
        subst hje
        have hcz := hs1.cell (j := i + xs.length) (by rw [hin.len]; omega)
        have hfz := hs1.frozen (0 + (i + xs.length))
        rw [hin.zero _ (Nat.le_refl _)] at hcz
        simp only [Nat.zero_add] at hcz hfz
        clear hs1 hs2 hs3
        go_wp2
        go_roundw
        case rel =>
         refine ⟨i + 1, _, by go_num, by omega, innerD_end hin hiy HF.out, ?_, ?_⟩
         · exact hseg.set0 (j := i + xs.length) (by rw [hin.len]; omega) q
         · exact grown_trans hgr (grown_store _ _ _ _)
        case measure => simp [intOf]; omega
   · have hie : i = ys.length := by omega
     subst hie
     have hnum := hout.num
     rw [List.take_length] at hnum
     have htr := trimmed_any (some ⟨w.heap.size, 0, none⟩) (ys.length + xs.length + 1) zs wr (by obtain ⟨cur', hs1, _⟩ := hseg; exact hs1.nums) (by rw [hout.len]; omega) (by rw [hout.len]; exact Nat.le_refl _)
     rw [hout.len] at htr
     have HT := Lib.hid htr
     have HN := Lib.hid hnum
     clear htr hnum
     go_wp2_with fail
     refine HT.out.mono ?_
     rintro e w4 ⟨rfl, k, rfl, hk, hz, hp⟩
     have HP := Lib.hid (And.intro hk (And.intro hz hp))
     clear hk hz hp
     go_wp2
     go_ret
     exact digs_of_trim ⟨k, rfl, HP.out⟩ (by obtain ⟨cur', hs1, _⟩ := hseg; exact hs1.nums) hout.ok (by rw [hout.len]; exact Nat.le_refl _) (by rw [hout.len]; exact Nat.le_refl _) HN.out (hb1.trans (grown_below hgr (Nat.le_refl _) hb1.size))
theorem rmul_false_false (A1 : Option Addr) (c1 : Nat) (zs1 : List Nat) (A2 : Option Addr) (c2 : Nat) (zs2 : List Nat) (x y : Int) (w : World) (hs1 : SignOf false x) (hs2 : SignOf false y)
    (h1 : Digs w A1 c1 zs1 x.natAbs) (h2 : Digs w A2 c2 zs2 y.natAbs) (hl1 : zs1.length ≤ 400000) (hl2 : zs2.length ≤ 400000) :
    Calls Tryz.prog 92 #[.agg #[.bool false, .slice A1 zs1.length c1], .agg #[.bool false, .slice A2 zs2.length c2]] w fun e w' => IsRef w w' (x * y) e := by
  have hbb := begun2_below w (.bool false) (.slice A1 zs1.length c1) (.bool false) (.slice A2 zs2.length c2) 34
  have hx0 := begun2_x w (.bool false) (.slice A1 zs1.length c1) (.bool false) (.slice A2 zs2.length c2) 34
  have hy0 := begun2_y w (.bool false) (.slice A1 zs1.length c1) (.bool false) (.slice A2 zs2.length c2) 34
  have hr0 := begun2_r w (.bool false) (.slice A1 zs1.length c1) (.bool false) (.slice A2 zs2.length c2) 34
  have hsz := begun2_size w (.bool false) (.slice A1 zs1.length c1) (.bool false) (.slice A2 zs2.length c2) 34
  have hn1 := h1.2.1.below hbb
  have hn2 := h2.2.1.below hbb
  have H := Lib.hid (And.intro hbb (And.intro hx0 (And.intro hy0 (And.intro hr0 hsz))))
  clear hbb hx0 hy0 hr0 hsz
  go_enter Tryz.func92, Tryz.ntmps92
  go_wp2_with fail
  go_region_held3 (fun w' => w'.cell? ⟨w.heap.size, 0, none⟩ = some (.bool false) ∧ w'.cell? ⟨w.heap.size, 1, none⟩ = some (.slice A1 zs1.length c1) ∧ w'.cell? ⟨w.heap.size + 1, 0, none⟩ = some (.bool false) ∧ w'.cell? ⟨w.heap.size + 1, 1, none⟩ = some (.slice A2 zs2.length c2))
    (((try dsimp only); (repeat' apply And.intro) <;> (first | (with_reducible assumption) | go_keep)))
    ((first | (go_at_call 127; refine (times_any A1 c1 zs1 A2 c2 zs2 _ (by exact hn2) (by exact hn1) h2.2.2.1 h1.2.2.1 hl2 hl1).mono ?_; rintro e w1 ⟨A3, c3, zs3, rfl, hl3, hlen3, hb1⟩; have k1x := H.out.2.1.step hb1 rfl (by rw [H.out.2.2.2.2]; omega); have k1y := H.out.2.2.1.step hb1 rfl (by rw [H.out.2.2.2.2]; omega); have k1r := H.out.2.2.2.1.step hb1 rfl (by rw [H.out.2.2.2.2]; omega); obtain ⟨px0, px1⟩ := id k1x; obtain ⟨py0, py1⟩ := id k1y; have hle3 : zs3.length ≤ 1000000 := Nat.le_trans hlen3 (by omega); have hs1' : w.heap.size + 3 ≤ w1.heap.size := Nat.le_trans (Nat.le_of_eq H.out.2.2.2.2.symm) hb1.size) | (go_at_call 118; refine (made_to false A3 c3 zs3 (x * y) _ (by exact hl3.2.1) hl3.2.2.1 hle3 hl3.1 (by rw [hl3.2.2.2.2, h1.2.2.2.2, h2.2.2.2.2, Nat.mul_comm]; exact mul_parts hs1 hs2 rfl)).mono ?_; rintro e w2 ⟨v2, rfl, ⟨b4, A4, c4, zs4, rfl, hsg4, hl4⟩, hb2⟩; have k2x := k1x.step hb2 rfl (by omega); have k2y := k1y.step hb2 rfl (by omega); have k2r := k1r.step hb2 rfl (by omega); obtain ⟨hx0, hx1⟩ := id k2x; obtain ⟨hy0, hy1⟩ := id k2y; obtain ⟨⟨hr0, hr1⟩, hf0, hf1⟩ := id k2r; obtain ⟨qx0, qx1⟩ := k2x.far (r := w.heap.size + 1 + 1) (by omega) (.bool b4) (.slice A4 zs4.length c4); obtain ⟨qy0, qy1⟩ := k2y.far (r := w.heap.size + 1 + 1) (by omega) (.bool b4) (.slice A4 zs4.length c4))))
  go_wp2
  refine bodyPost_ret (v := .agg #[.bool b4, .slice A4 zs4.length c4]) (by simp [results, Tryz.results92, go_sem, hr0, hr1]) rfl ?_
  exact ref_stored k2r hsg4 hl4 (below_then (below_then H.out.1.drew hb1) hb2) (by omega)
theorem rmul_false_true (A1 : Option Addr) (c1 : Nat) (zs1 : List Nat) (A2 : Option Addr) (c2 : Nat) (zs2 : List Nat) (x y : Int) (w : World) (hs1 : SignOf false x) (hs2 : SignOf true y)
    (h1 : Digs w A1 c1 zs1 x.natAbs) (h2 : Digs w A2 c2 zs2 y.natAbs) (hl1 : zs1.length ≤ 400000) (hl2 : zs2.length ≤ 400000) :
    Calls Tryz.prog 92 #[.agg #[.bool false, .slice A1 zs1.length c1], .agg #[.bool true, .slice A2 zs2.length c2]] w fun e w' => IsRef w w' (x * y) e := by
  have hbb := begun2_below w (.bool false) (.slice A1 zs1.length c1) (.bool true) (.slice A2 zs2.length c2) 34
  have hx0 := begun2_x w (.bool false) (.slice A1 zs1.length c1) (.bool true) (.slice A2 zs2.length c2) 34
  have hy0 := begun2_y w (.bool false) (.slice A1 zs1.length c1) (.bool true) (.slice A2 zs2.length c2) 34
  have hr0 := begun2_r w (.bool false) (.slice A1 zs1.length c1) (.bool true) (.slice A2 zs2.length c2) 34
  have hsz := begun2_size w (.bool false) (.slice A1 zs1.length c1) (.bool true) (.slice A2 zs2.length c2) 34
  have hn1 := h1.2.1.below hbb
  have hn2 := h2.2.1.below hbb
  have H := Lib.hid (And.intro hbb (And.intro hx0 (And.intro hy0 (And.intro hr0 hsz))))
  clear hbb hx0 hy0 hr0 hsz
  go_enter Tryz.func92, Tryz.ntmps92
  go_wp2_with fail
  go_region_held3 (fun w' => w'.cell? ⟨w.heap.size, 0, none⟩ = some (.bool false) ∧ w'.cell? ⟨w.heap.size, 1, none⟩ = some (.slice A1 zs1.length c1) ∧ w'.cell? ⟨w.heap.size + 1, 0, none⟩ = some (.bool true) ∧ w'.cell? ⟨w.heap.size + 1, 1, none⟩ = some (.slice A2 zs2.length c2))
    (((try dsimp only); (repeat' apply And.intro) <;> (first | (with_reducible assumption) | go_keep)))
    ((first | (go_at_call 127; refine (times_any A1 c1 zs1 A2 c2 zs2 _ (by exact hn2) (by exact hn1) h2.2.2.1 h1.2.2.1 hl2 hl1).mono ?_; rintro e w1 ⟨A3, c3, zs3, rfl, hl3, hlen3, hb1⟩; have k1x := H.out.2.1.step hb1 rfl (by rw [H.out.2.2.2.2]; omega); have k1y := H.out.2.2.1.step hb1 rfl (by rw [H.out.2.2.2.2]; omega); have k1r := H.out.2.2.2.1.step hb1 rfl (by rw [H.out.2.2.2.2]; omega); obtain ⟨px0, px1⟩ := id k1x; obtain ⟨py0, py1⟩ := id k1y; have hle3 : zs3.length ≤ 1000000 := Nat.le_trans hlen3 (by omega); have hs1' : w.heap.size + 3 ≤ w1.heap.size := Nat.le_trans (Nat.le_of_eq H.out.2.2.2.2.symm) hb1.size) | (go_at_call 118; refine (made_to true A3 c3 zs3 (x * y) _ (by exact hl3.2.1) hl3.2.2.1 hle3 hl3.1 (by rw [hl3.2.2.2.2, h1.2.2.2.2, h2.2.2.2.2, Nat.mul_comm]; exact mul_parts hs1 hs2 rfl)).mono ?_; rintro e w2 ⟨v2, rfl, ⟨b4, A4, c4, zs4, rfl, hsg4, hl4⟩, hb2⟩; have k2x := k1x.step hb2 rfl (by omega); have k2y := k1y.step hb2 rfl (by omega); have k2r := k1r.step hb2 rfl (by omega); obtain ⟨hx0, hx1⟩ := id k2x; obtain ⟨hy0, hy1⟩ := id k2y; obtain ⟨⟨hr0, hr1⟩, hf0, hf1⟩ := id k2r; obtain ⟨qx0, qx1⟩ := k2x.far (r := w.heap.size + 1 + 1) (by omega) (.bool b4) (.slice A4 zs4.length c4); obtain ⟨qy0, qy1⟩ := k2y.far (r := w.heap.size + 1 + 1) (by omega) (.bool b4) (.slice A4 zs4.length c4))))
  go_wp2
  refine bodyPost_ret (v := .agg #[.bool b4, .slice A4 zs4.length c4]) (by simp [results, Tryz.results92, go_sem, hr0, hr1]) rfl ?_
  exact ref_stored k2r hsg4 hl4 (below_then (below_then H.out.1.drew hb1) hb2) (by omega)
theorem rmul_true_false (A1 : Option Addr) (c1 : Nat) (zs1 : List Nat) (A2 : Option Addr) (c2 : Nat) (zs2 : List Nat) (x y : Int) (w : World) (hs1 : SignOf true x) (hs2 : SignOf false y)
    (h1 : Digs w A1 c1 zs1 x.natAbs) (h2 : Digs w A2 c2 zs2 y.natAbs) (hl1 : zs1.length ≤ 400000) (hl2 : zs2.length ≤ 400000) :
    Calls Tryz.prog 92 #[.agg #[.bool true, .slice A1 zs1.length c1], .agg #[.bool false, .slice A2 zs2.length c2]] w fun e w' => IsRef w w' (x * y) e := by
  have hbb := begun2_below w (.bool true) (.slice A1 zs1.length c1) (.bool false) (.slice A2 zs2.length c2) 34
  have hx0 := begun2_x w (.bool true) (.slice A1 zs1.length c1) (.bool false) (.slice A2 zs2.length c2) 34
  have hy0 := begun2_y w (.bool true) (.slice A1 zs1.length c1) (.bool false) (.slice A2 zs2.length c2) 34
  have hr0 := begun2_r w (.bool true) (.slice A1 zs1.length c1) (.bool false) (.slice A2 zs2.length c2) 34
  have hsz := begun2_size w (.bool true) (.slice A1 zs1.length c1) (.bool false) (.slice A2 zs2.length c2) 34
  have hn1 := h1.2.1.below hbb
  have hn2 := h2.2.1.below hbb
  have H := Lib.hid (And.intro hbb (And.intro hx0 (And.intro hy0 (And.intro hr0 hsz))))
  clear hbb hx0 hy0 hr0 hsz
  go_enter Tryz.func92, Tryz.ntmps92
  go_wp2_with fail
  go_region_held3 (fun w' => w'.cell? ⟨w.heap.size, 0, none⟩ = some (.bool true) ∧ w'.cell? ⟨w.heap.size, 1, none⟩ = some (.slice A1 zs1.length c1) ∧ w'.cell? ⟨w.heap.size + 1, 0, none⟩ = some (.bool false) ∧ w'.cell? ⟨w.heap.size + 1, 1, none⟩ = some (.slice A2 zs2.length c2))
    (((try dsimp only); (repeat' apply And.intro) <;> (first | (with_reducible assumption) | go_keep)))
    ((first | (go_at_call 127; refine (times_any A1 c1 zs1 A2 c2 zs2 _ (by exact hn2) (by exact hn1) h2.2.2.1 h1.2.2.1 hl2 hl1).mono ?_; rintro e w1 ⟨A3, c3, zs3, rfl, hl3, hlen3, hb1⟩; have k1x := H.out.2.1.step hb1 rfl (by rw [H.out.2.2.2.2]; omega); have k1y := H.out.2.2.1.step hb1 rfl (by rw [H.out.2.2.2.2]; omega); have k1r := H.out.2.2.2.1.step hb1 rfl (by rw [H.out.2.2.2.2]; omega); obtain ⟨px0, px1⟩ := id k1x; obtain ⟨py0, py1⟩ := id k1y; have hle3 : zs3.length ≤ 1000000 := Nat.le_trans hlen3 (by omega); have hs1' : w.heap.size + 3 ≤ w1.heap.size := Nat.le_trans (Nat.le_of_eq H.out.2.2.2.2.symm) hb1.size) | (go_at_call 118; refine (made_to true A3 c3 zs3 (x * y) _ (by exact hl3.2.1) hl3.2.2.1 hle3 hl3.1 (by rw [hl3.2.2.2.2, h1.2.2.2.2, h2.2.2.2.2, Nat.mul_comm]; exact mul_parts hs1 hs2 rfl)).mono ?_; rintro e w2 ⟨v2, rfl, ⟨b4, A4, c4, zs4, rfl, hsg4, hl4⟩, hb2⟩; have k2x := k1x.step hb2 rfl (by omega); have k2y := k1y.step hb2 rfl (by omega); have k2r := k1r.step hb2 rfl (by omega); obtain ⟨hx0, hx1⟩ := id k2x; obtain ⟨hy0, hy1⟩ := id k2y; obtain ⟨⟨hr0, hr1⟩, hf0, hf1⟩ := id k2r; obtain ⟨qx0, qx1⟩ := k2x.far (r := w.heap.size + 1 + 1) (by omega) (.bool b4) (.slice A4 zs4.length c4); obtain ⟨qy0, qy1⟩ := k2y.far (r := w.heap.size + 1 + 1) (by omega) (.bool b4) (.slice A4 zs4.length c4))))
  go_wp2
  refine bodyPost_ret (v := .agg #[.bool b4, .slice A4 zs4.length c4]) (by simp [results, Tryz.results92, go_sem, hr0, hr1]) rfl ?_
  exact ref_stored k2r hsg4 hl4 (below_then (below_then H.out.1.drew hb1) hb2) (by omega)
theorem rmul_true_true (A1 : Option Addr) (c1 : Nat) (zs1 : List Nat) (A2 : Option Addr) (c2 : Nat) (zs2 : List Nat) (x y : Int) (w : World) (hs1 : SignOf true x) (hs2 : SignOf true y)
    (h1 : Digs w A1 c1 zs1 x.natAbs) (h2 : Digs w A2 c2 zs2 y.natAbs) (hl1 : zs1.length ≤ 400000) (hl2 : zs2.length ≤ 400000) :
    Calls Tryz.prog 92 #[.agg #[.bool true, .slice A1 zs1.length c1], .agg #[.bool true, .slice A2 zs2.length c2]] w fun e w' => IsRef w w' (x * y) e := by
  have hbb := begun2_below w (.bool true) (.slice A1 zs1.length c1) (.bool true) (.slice A2 zs2.length c2) 34
  have hx0 := begun2_x w (.bool true) (.slice A1 zs1.length c1) (.bool true) (.slice A2 zs2.length c2) 34
  have hy0 := begun2_y w (.bool true) (.slice A1 zs1.length c1) (.bool true) (.slice A2 zs2.length c2) 34
  have hr0 := begun2_r w (.bool true) (.slice A1 zs1.length c1) (.bool true) (.slice A2 zs2.length c2) 34
  have hsz := begun2_size w (.bool true) (.slice A1 zs1.length c1) (.bool true) (.slice A2 zs2.length c2) 34
  have hn1 := h1.2.1.below hbb
  have hn2 := h2.2.1.below hbb
  have H := Lib.hid (And.intro hbb (And.intro hx0 (And.intro hy0 (And.intro hr0 hsz))))
  clear hbb hx0 hy0 hr0 hsz
  go_enter Tryz.func92, Tryz.ntmps92
  go_wp2_with fail
  go_region_held3 (fun w' => w'.cell? ⟨w.heap.size, 0, none⟩ = some (.bool true) ∧ w'.cell? ⟨w.heap.size, 1, none⟩ = some (.slice A1 zs1.length c1) ∧ w'.cell? ⟨w.heap.size + 1, 0, none⟩ = some (.bool true) ∧ w'.cell? ⟨w.heap.size + 1, 1, none⟩ = some (.slice A2 zs2.length c2))
    (((try dsimp only); (repeat' apply And.intro) <;> (first | (with_reducible assumption) | go_keep)))
    ((first | (go_at_call 127; refine (times_any A1 c1 zs1 A2 c2 zs2 _ (by exact hn2) (by exact hn1) h2.2.2.1 h1.2.2.1 hl2 hl1).mono ?_; rintro e w1 ⟨A3, c3, zs3, rfl, hl3, hlen3, hb1⟩; have k1x := H.out.2.1.step hb1 rfl (by rw [H.out.2.2.2.2]; omega); have k1y := H.out.2.2.1.step hb1 rfl (by rw [H.out.2.2.2.2]; omega); have k1r := H.out.2.2.2.1.step hb1 rfl (by rw [H.out.2.2.2.2]; omega); obtain ⟨px0, px1⟩ := id k1x; obtain ⟨py0, py1⟩ := id k1y; have hle3 : zs3.length ≤ 1000000 := Nat.le_trans hlen3 (by omega); have hs1' : w.heap.size + 3 ≤ w1.heap.size := Nat.le_trans (Nat.le_of_eq H.out.2.2.2.2.symm) hb1.size) | (go_at_call 118; refine (made_to false A3 c3 zs3 (x * y) _ (by exact hl3.2.1) hl3.2.2.1 hle3 hl3.1 (by rw [hl3.2.2.2.2, h1.2.2.2.2, h2.2.2.2.2, Nat.mul_comm]; exact mul_parts hs1 hs2 rfl)).mono ?_; rintro e w2 ⟨v2, rfl, ⟨b4, A4, c4, zs4, rfl, hsg4, hl4⟩, hb2⟩; have k2x := k1x.step hb2 rfl (by omega); have k2y := k1y.step hb2 rfl (by omega); have k2r := k1r.step hb2 rfl (by omega); obtain ⟨hx0, hx1⟩ := id k2x; obtain ⟨hy0, hy1⟩ := id k2y; obtain ⟨⟨hr0, hr1⟩, hf0, hf1⟩ := id k2r; obtain ⟨qx0, qx1⟩ := k2x.far (r := w.heap.size + 1 + 1) (by omega) (.bool b4) (.slice A4 zs4.length c4); obtain ⟨qy0, qy1⟩ := k2y.far (r := w.heap.size + 1 + 1) (by omega) (.bool b4) (.slice A4 zs4.length c4))))
  go_wp2
  refine bodyPost_ret (v := .agg #[.bool b4, .slice A4 zs4.length c4]) (by simp [results, Tryz.results92, go_sem, hr0, hr1]) rfl ?_
  exact ref_stored k2r hsg4 hl4 (below_then (below_then H.out.1.drew hb1) hb2) (by omega)
theorem rmul_signs (b1 b2 : Bool) (A1 : Option Addr) (c1 : Nat) (zs1 : List Nat) (A2 : Option Addr) (c2 : Nat) (zs2 : List Nat) (x y : Int) (w : World) (hs1 : SignOf b1 x) (hs2 : SignOf b2 y)
    (h1 : Digs w A1 c1 zs1 x.natAbs) (h2 : Digs w A2 c2 zs2 y.natAbs) (hl1 : zs1.length ≤ 400000) (hl2 : zs2.length ≤ 400000) :
    Calls Tryz.prog 92 #[.agg #[.bool b1, .slice A1 zs1.length c1], .agg #[.bool b2, .slice A2 zs2.length c2]] w fun e w' => IsRef w w' (x * y) e := by
  cases b1 <;> cases b2
  · exact rmul_false_false A1 c1 zs1 A2 c2 zs2 x y w hs1 hs2 h1 h2 hl1 hl2
  · exact rmul_false_true A1 c1 zs1 A2 c2 zs2 x y w hs1 hs2 h1 h2 hl1 hl2
  · exact rmul_true_false A1 c1 zs1 A2 c2 zs2 x y w hs1 hs2 h1 h2 hl1 hl2
  · exact rmul_true_true A1 c1 zs1 A2 c2 zs2 x y w hs1 hs2 h1 h2 hl1 hl2
theorem RMul_any (v1 v2 : Value) (x y : Int) (m k : Nat) (w : World) (h1 : RefAt w v1 x) (h2 : RefAt w v2 y) (hm : m ≤ 400000) (hx : x.natAbs < BD ^ m) (hk : k ≤ 400000) (hy : y.natAbs < BD ^ k) :
    Calls Tryz.prog 92 #[v1, v2] w fun e w' => IsRef w w' (x * y) e := by
  obtain ⟨b1, A1, c1, zs1, rfl, hs1, hl1⟩ := h1
  obtain ⟨b2, A2, c2, zs2, rfl, hs2, hl2⟩ := h2
  have k1 := Nat.le_trans (hl1.len hx) hm
  have k2 := Nat.le_trans (hl2.len hy) hk
  exact rmul_signs b1 b2 A1 c1 zs1 A2 c2 zs2 x y w hs1 hs2 hl1 hl2 k1 k2
def alone (q v : Nat) : List Nat := (List.replicate (q + 1) 0).set q v
end Go.Proofs.YtpgbnegppehckaaGreat
namespace Go.Proofs.YtpgbnegppehckaaGreat
open Go.RowKit
theorem RAbs_any (v : Value) (z : Int) (w : World) (h : RefAt w v z) : Calls Tryz.prog 29 #[v] w fun e w' => IsRef w w' (z.natAbs : Int) e := by
  obtain ⟨b, A, c, ds, rfl, hs, hd⟩ := h
  have hb0 := begun1_below w (.bool b) (.slice A ds.length c) 34
  have hT := begun1_x w (.bool b) (.slice A ds.length c) 34
  have hR := begun1_r w (.bool b) (.slice A ds.length c) 34
  obtain ⟨W, hW⟩ : ∃ W, begun1 w (.bool b) (.slice A ds.length c) 34 = W := ⟨_, rfl⟩
  rw [hW] at hb0 hT hR
  unfold begun1 at hW
  have H := Lib.hid (And.intro hb0 (And.intro hR (And.intro hW (hd.below hb0))))
  obtain ⟨px0, px1⟩ := id hT
  obtain ⟨⟨hr0, hr1⟩, hf0, hf1⟩ := id hR
  clear hb0 hT hR hW hs hd
  go_enter Tryz.func29, Tryz.ntmps29
  go_upto_region 1 with fail
  rw [H.out.2.2.1]
  go_wp2
  have q := H.out.2.1.1.stored (.bool false) (.slice A ds.length c)
  obtain ⟨q0, q1⟩ := id q
  refine bodyPost_ret (v := .agg #[.bool false, .slice A ds.length c]) (by simp [results, Tryz.results29, go_sem, q0, q1]) rfl ?_
  exact ref_stored H.out.2.1 (z := (z.natAbs : Int)) (by unfold SignOf; simp) (by rw [Int.natAbs_natCast]; exact H.out.2.2.2) H.out.1 (by omega)
end Go.Proofs.YtpgbnegppehckaaGreat
namespace Go.Proofs.YtpgbnegppehckaaGreat
open Go.RowKit
theorem frz_set (w : World) (p q : Addr) (u : Value) : (w.setCell p u).frozen? q = w.frozen? q := by
  go_simp
theorem Nums.over2 {w : World} {k : IntKind} {A : Option Addr} {xs : List Nat} (h : Nums w k A xs) {r : Nat} {b : Bool} {B : Option Addr} {n c : Nat} (t : Two w r (.bool b) (.slice B n c)) (u v : Value) : Nums ((w.setCell ⟨r, 0, none⟩ u).setCell ⟨r, 1, none⟩ v) k A xs := by
  refine (h.store t.1 (fun n e => by cases e) _).store (u := .slice B n c) ?_ (fun n e => by cases e) _
  rw [World.cell?_setCell_other _ _ _ _ (by simp)]
  exact t.2
theorem Digs.over2 {w : World} {A : Option Addr} {c n : Nat} {ds : List Nat} (h : Digs w A c ds n) {r : Nat} {b : Bool} {B : Option Addr} {m c' : Nat} (t : Two w r (.bool b) (.slice B m c')) (u v : Value) : Digs ((w.setCell ⟨r, 0, none⟩ u).setCell ⟨r, 1, none⟩ v) A c ds n :=
  ⟨h.1, h.2.1.over2 t u v, h.2.2⟩
theorem Res.farther {w : World} {r q : Nat} (t : Res w r) (hne : q ≠ r) (u v : Value) : Res ((w.setCell ⟨q, 0, none⟩ u).setCell ⟨q, 1, none⟩ v) r :=
  ⟨t.1.far hne u v, by rw [frz_set, frz_set]; exact t.2.1, by rw [frz_set, frz_set]; exact t.2.2⟩
end Go.Proofs.YtpgbnegppehckaaGreat
namespace Go.Proofs.YtpgbnegppehckaaGreat.RK
open Go.RowKit
theorem wp_go_call {P : Program} {o : Oper} {a : Act} {w : World} {K : Act → World → Prop} {Q : Exit → Act → World → Prop} (f : FuncId) (args : Array Value)
    (he : ∀ w, (execOp a.eval o).run P w = .ok (.enter f args) w) (hc : Calls P f args w fun e w' => ∃ v, e = .returned v ∧ K (a.put o.dst v) w') : o.wp P a w K Q := by
  unfold Oper.wp
  rw [he w, Oper.upon_enter]
  exact hc.mono (fun e w' ⟨v, he, h⟩ => by subst he; exact h)
structure VarT where
  here : Bool
  r : Nat
  b : Bool
  A : Option Addr
  n : Nat
  c : Nat
  z : Int
structure IsVar (w : World) (t : VarT) : Prop where
  lt : t.here = true → t.r < w.heap.size
  two : t.here = true → Two w t.r (.bool t.b) (.slice t.A t.n t.c)
  at_ : RefAt w (.agg #[.bool t.b, .slice t.A t.n t.c]) t.z
def Vars (w : World) (l : List VarT) : Prop := ∀ (i : Nat) (t : VarT), l[i]? = some t → IsVar w t
theorem IsVar.step {W0 W w1 : World} {t : VarT} (h : IsVar W0 t) (hb : Below W.heap.size W w1) (hh : W.heap = W0.heap) : IsVar w1 t :=
  ⟨fun e => Nat.lt_of_lt_of_le (h.lt e) (by rw [← hh]; exact hb.size), fun e => (h.two e).step hb hh (h.lt e), h.at_.step hb hh⟩
theorem Vars.step {W0 W w1 : World} {l : List VarT} (h : Vars W0 l) (hb : Below W.heap.size W w1) (hh : W.heap = W0.heap) : Vars w1 l := fun i t ht => (h i t ht).step hb hh
theorem Vars.nil (w : World) : Vars w [] := fun i t ht => by simp at ht
theorem Vars.cons {w : World} {l : List VarT} {t : VarT} (h : Vars w l) (ht : IsVar w t) : Vars w (t :: l) := fun i u hu => by
  cases i with
  | zero => simp at hu; subst hu; exact ht
  | succ i => exact h i u (by simpa using hu)
theorem Vars.told {w : World} {l : List VarT} (h : Vars w l) {b : Bool} {A : Option Addr} {c : Nat} {zs : List Nat} {z : Int} (hs : SignOf b z) (hl : Digs w A c zs z.natAbs) : Vars w (⟨false, 0, b, A, zs.length, c, z⟩ :: l) :=
  h.cons ⟨fun e => (by cases e), fun e => (by cases e), ⟨b, A, c, zs, rfl, hs, hl⟩⟩
def Cells (l : List VarT) (w : World) : Prop := ∀ (i : Nat) (t : VarT), l[i]? = some t → t.here = true → Two w t.r (.bool t.b) (.slice t.A t.n t.c)
theorem Vars.cells {w : World} {l : List VarT} (h : Vars w l) : Cells l w := fun i t ht e => (h i t ht).two e
theorem wp_go_val {P : Program} {o : Oper} {a : Act} {w w' : World} {K : Act → World → Prop} {Q : Exit → Act → World → Prop} (v : Value) (he : (execOp a.eval o).run P w = .ok (.value v) w') (k : K (a.put o.dst v) w') : o.wp P a w K Q := by
  unfold Oper.wp
  rw [he]
  exact k
theorem wp_go_skip {P : Program} {o : Oper} {a : Act} {w w' : World} {K : Act → World → Prop} {Q : Exit → Act → World → Prop} (he : (execOp a.eval o).run P w = .ok .skip w') (k : K (a.put o.dst undef) w') : o.wp P a w K Q := by
  unfold Oper.wp
  rw [he]
  exact k
theorem Vars.tail {w : World} {l : List VarT} {a : VarT} (h : Vars w (a :: l)) : Vars w l := fun i t ht => h (i + 1) t (by simpa using ht)
theorem Vars.drew {w : World} {l : List VarT} (h : Vars w l) : Vars w.drew l := h.step (Below.refl w.drew.heap.size w.drew) rfl
theorem Vars.alloc {w : World} {l : List VarT} (h : Vars w l) (o : Obj) : Vars (w.alloc o) l := h.step ((Below.refl _ _).alloc (Nat.le_refl _) o) rfl
theorem run_load {ρ : Operand → Value} {o : Oper} {w : World} {r : Nat} {a b : Value} (h : Two w r a b) (x : Operand) (ho : o.op = .load 34 x) (hx : ρ x = .pointer (some ⟨r, 0, none⟩)) :
    (execOp ρ o).run Tryz.prog w = .ok (.value (.agg #[a, b])) w := by
  obtain ⟨h0, h1⟩ := h
  obtain ⟨dst, op, ty, pos, after, guard⟩ := o
  simp only at ho
  subst ho
  go_simp
theorem run_alloc (ρ : Operand → Value) (o : Oper) (w : World) (ho : o.op = .alloc 34) :
    (execOp ρ o).run Tryz.prog w = .ok (.value (.pointer (some ⟨w.heap.size, 0, none⟩))) (w.alloc (.cells #[.bool false, .slice none 0 0] 34)) := by
  obtain ⟨dst, op, ty, pos, after, guard⟩ := o
  simp only at ho
  subst ho
  go_simp
theorem run_store2 {ρ : Operand → Value} {o : Oper} {w : World} {r : Nat} (h : Res w r) (b : Bool) (A : Option Addr) (n c : Nat) (x y : Operand) (ho : o.op = .store 34 x y) (hx : ρ x = .pointer (some ⟨r, 0, none⟩)) (hy : ρ y = .agg #[.bool b, .slice A n c]) :
    (execOp ρ o).run Tryz.prog w = .ok .skip ((w.setCell ⟨r, 0, none⟩ (.bool b)).setCell ⟨r, 1, none⟩ (.slice A n c)) := by
  obtain ⟨⟨h0, h1⟩, h2, h3⟩ := h
  obtain ⟨dst, op, ty, pos, after, guard⟩ := o
  simp only at ho
  subst ho
  go_simp
def FitD (x : Int) (m : Nat) : Prop := x.natAbs < BD ^ m
theorem rcmp_is (v1 v2 : Value) (x y c : Int) (m : Nat) (w : World) (h1 : RefAt w v1 x) (h2 : RefAt w v2 y) (hm : m < 900000) (hx : FitD x m) (hy : FitD y m) (hz : cmpZ x y = c) : Calls Tryz.prog 85 #[v1, v2] w fun e w' => IsNum w w' c e := by
  subst hz
  exact RCmp_any v1 v2 x y m w h1 h2 hm hx hy
theorem rsign_is (v : Value) (x c : Int) (m : Nat) (w : World) (h : RefAt w v x) (hm : m ≤ 900000) (hx : FitD x m) (hz : x.sign = c) : Calls Tryz.prog 79 #[v] w fun e w' => IsNum w w' c e := by
  subst hz
  exact RSign_any v x m w h hm hx
end Go.Proofs.YtpgbnegppehckaaGreat.RK
namespace Go.Proofs.YtpgbnegppehckaaGreat
open Go.RowKit
theorem s_stored {w w2 : World} {r : Nat} {b1 : Bool} {A1 : Option Addr} {c1 : Nat} {xs1 : List Nat} {b2 : Bool} {A2 : Option Addr} {c2 : Nat} {xs2 : List Nat} {n d : Int} (hk : ResF w2 r) (s1 : SignOf b1 n) (l1 : Digs w2 A1 c1 xs1 n.natAbs) (s2 : SignOf b2 d) (l2 : Digs w2 A2 c2 xs2 d.natAbs) (lo : Qx.Low n d)
    (hb : Below w.heap.size w w2) (hr : w.heap.size ≤ r) :
    IsS w (put4 w2 r (.bool b1) (.slice A1 xs1.length c1) (.bool b2) (.slice A2 xs2.length c2)) n d (.returned (.agg #[.bool b1, .slice A1 xs1.length c1, .bool b2, .slice A2 xs2.length c2])) :=
  ⟨_, rfl, ⟨b1, A1, c1, xs1, b2, A2, c2, xs2, rfl, s1, l1.put4 hk _ _ _ _, s2, l2.put4 hk _ _ _ _, lo⟩, put4_below hb hr _ _ _ _⟩
theorem sE_stored {w w2 : World} {r : Nat} {b1 : Bool} {A1 : Option Addr} {c1 : Nat} {xs1 : List Nat} {b2 : Bool} {A2 : Option Addr} {c2 : Nat} {xs2 : List Nat} {n d k : Int} (hk : ResF w2 r) (s1 : SignOf b1 n) (l1 : Digs w2 A1 c1 xs1 n.natAbs) (s2 : SignOf b2 d) (l2 : Digs w2 A2 c2 xs2 d.natAbs) (lo : Qx.Low n d)
    (hb : Below w.heap.size w w2) (hr : w.heap.size ≤ r) :
    IsSE w (put4 w2 r (.bool b1) (.slice A1 xs1.length c1) (.bool b2) (.slice A2 xs2.length c2)) n d k (.returned (.tuple #[.agg #[.bool b1, .slice A1 xs1.length c1, .bool b2, .slice A2 xs2.length c2], .int .i64 k])) :=
  ⟨_, rfl, ⟨b1, A1, c1, xs1, b2, A2, c2, xs2, rfl, s1, l1.put4 hk _ _ _ _, s2, l2.put4 hk _ _ _ _, lo⟩, put4_below hb hr _ _ _ _⟩
theorem Sone_any (w : World) : Calls Tryz.prog 84 #[] w fun e w' => IsRef w w' 1 e := by
  have hb0 : Below w.heap.size w (w.alloc (.cells #[.bool false, .slice none 0 0] 34)) := (Below.refl _ _).alloc (Nat.le_refl _) _
  have hr0 := Res.new w 34
  have hsz : (w.alloc (.cells #[.bool false, .slice none 0 0] 34)).heap.size = w.heap.size + 1 := by simp
  obtain ⟨W, hW⟩ : ∃ W : World, w.alloc (.cells #[.bool false, .slice none 0 0] 34) = W := ⟨_, rfl⟩
  rw [hW] at hb0 hr0 hsz
  have H := Lib.hid (And.intro hb0 (And.intro hr0 (And.intro hW hsz)))
  clear hb0 hr0 hW hsz
  go_enter Tryz.func84, Tryz.ntmps84
  go_upto_region 1 with fail
  rw [H.out.2.2.1]
  go_wp2_with fail
  refine (RNew_pos 1 W (by decide)).mono ?_
  rintro e w2 ⟨v2, rfl, ⟨b4, A4, c4, zs4, rfl, hsg4, hl4⟩, hb2⟩
  have r2 := H.out.2.1.step hb2 rfl (by have := H.out.2.2.2; omega)
  obtain ⟨⟨kr0, kr1⟩, kf0, kf1⟩ := id r2
  have b2 := below_then H.out.1 hb2
  go_wp2
  have q := r2.1.stored (.bool b4) (.slice A4 zs4.length c4)
  obtain ⟨q0, q1⟩ := id q
  refine bodyPost_ret (v := .agg #[.bool b4, .slice A4 zs4.length c4]) (by simp [results, Tryz.results84, go_sem, q0, q1]) rfl ?_
  exact ref_stored r2 hsg4 hl4 b2 (Nat.le_refl _)
theorem SSign_any (v : Value) (n d : Int) (m : Nat) (w : World) (h : SAt w v n d) (hm : m ≤ 900000) (hn : n.natAbs < BD ^ m) : Calls Tryz.prog 25 #[v] w fun e w' => IsNum w w' n.sign e := by
  obtain ⟨b1, A1, c1, xs1, b2, A2, c2, xs2, rfl, s1, l1, s2, l2, lo⟩ := h
  have hb0 : Below w.heap.size w (w.alloc (.cells #[.bool b1, .slice A1 xs1.length c1, .bool b2, .slice A2 xs2.length c2] 43)) := (Below.refl _ _).alloc (Nat.le_refl _) _
  have hsg := RK.rsign_is (.agg #[.bool b1, .slice A1 xs1.length c1]) n n.sign m _ ⟨b1, A1, c1, xs1, rfl, s1, l1.step hb0 rfl⟩ hm hn rfl
  have H := Lib.hid (And.intro hsg hb0)
  clear hsg hb0 s1 l1 s2 l2 lo hm hn
  go_enter Tryz.func25, Tryz.ntmps25
  go_wp2_with fail
  refine H.out.1.mono ?_
  rintro e w1 ⟨rfl, hb1⟩
  go_wp2
  go_ret
  exact ⟨rfl, below_then H.out.2 hb1⟩
end Go.Proofs.YtpgbnegppehckaaGreat
namespace Go.Proofs.YtpgbnegppehckaaGreat
open Go.RowKit
theorem sref_of {w : World} {b : Bool} {A : Option Addr} {c : Nat} {xs : List Nat} {z : Int} (s : SignOf b z) (l : Digs w A c xs z.natAbs) : RefAt w (.agg #[.bool b, .slice A xs.length c]) z := ⟨b, A, c, xs, rfl, s, l⟩
theorem SOf_any (v : Value) (n : Int) (w : World) (h : RefAt w v n) : Calls Tryz.prog 21 #[v] w fun e w' => IsS w w' n 1 e := by
  obtain ⟨b1, A1, c1, xs1, rfl, s1, l1⟩ := h
  have hb0 := boxed2_below w (.cells #[.bool b1, .slice A1 xs1.length c1] 34) (.cells #[.bool false, .slice none 0 0, .bool false, .slice none 0 0] 43)
  have hX := (Two.new w (.bool b1) (.slice A1 xs1.length c1) 34).alloc (by simp) (.cells #[.bool false, .slice none 0 0, .bool false, .slice none 0 0] 43)
  have hR := ResF.new (w.alloc (.cells #[.bool b1, .slice A1 xs1.length c1] 34)) 43
  rw [size_alloc] at hR
  have hsz : ((w.alloc (.cells #[.bool b1, .slice A1 xs1.length c1] 34)).alloc (.cells #[.bool false, .slice none 0 0, .bool false, .slice none 0 0] 43)).heap.size = w.heap.size + 2 := by simp
  obtain ⟨W, hW⟩ : ∃ W : World, (w.alloc (.cells #[.bool b1, .slice A1 xs1.length c1] 34)).alloc (.cells #[.bool false, .slice none 0 0, .bool false, .slice none 0 0] 43) = W := ⟨_, rfl⟩
  rw [hW] at hb0 hX hR hsz
  have H := Lib.hid (And.intro hb0 (And.intro hR (And.intro hX (And.intro (l1.step hb0 rfl) (And.intro s1 hsz)))))
  have HW := Lib.hid hW
  obtain ⟨p0, p1⟩ := id hX
  clear hb0 hX hR hsz hW s1 l1
  go_enter Tryz.func21, Tryz.ntmps21
  go_upto_region 1 with fail
  rw [HW.out]
  clear HW
  go_region_held3 (fun w' => w'.cell? ⟨w.heap.size, 0, none⟩ = some (.bool b1) ∧ w'.cell? ⟨w.heap.size, 1, none⟩ = some (.slice A1 xs1.length c1))
    (((try dsimp only); (repeat' apply And.intro) <;> (first | (with_reducible assumption) | (with_reducible refine cell_past4 ?_ ?_; omega; with_reducible assumption) | go_keep)))
    ((first
      | (go_at_call 84; go_fit (Sone_any _); rintro e w4 ⟨v4, rfl, ⟨b4, A4, c4, xs4, rfl, s4, l4⟩, hb4⟩; have r4 := H.out.2.1.step hb4 rfl (by have := H.out.2.2.2.2.2; omega); have x4 := H.out.2.2.1.step hb4 rfl (by have := H.out.2.2.2.2.2; omega); have k4 := H.out.2.2.2.1.step hb4 rfl; have bw4 := begun_then H.out.1 hb4 rfl rfl rfl rfl; obtain ⟨qx0, qx1⟩ := id x4; obtain ⟨⟨k0, k1, k2, k3⟩, f0, f1, f2, f3⟩ := id r4; have HF := Lib.hid (And.intro r4 (And.intro k4 (And.intro bw4 (And.intro s4 l4)))); clear r4 x4 k4 bw4 s4 l4 hb4)))
  go_wp2
  obtain ⟨q0, q1, q2, q3⟩ := Quad.put HF.out.1.1 (.bool b1) (.slice A1 xs1.length c1) (.bool b4) (.slice A4 xs4.length c4)
  unfold put4 at q0 q1 q2 q3
  refine bodyPost_ret (v := .agg #[.bool b1, .slice A1 xs1.length c1, .bool b4, .slice A4 xs4.length c4]) (by simp [results, Tryz.results21, go_sem, q0, q1, q2, q3]) rfl ?_
  exact s_stored HF.out.1 H.out.2.2.2.2.1 HF.out.2.1 HF.out.2.2.2.1 HF.out.2.2.2.2 (low_one n) HF.out.2.2.1 (by omega)
theorem SInt_pos (n : Nat) (w : World) (hn : n < 9223372036854775808) : Calls Tryz.prog 80 #[.int .i64 (n : Int)] w fun e w' => IsS w w' (n : Int) 1 e := by
  have hb0 : Below w.heap.size w (w.alloc (.cells #[.bool false, .slice none 0 0, .bool false, .slice none 0 0] 43)) := (Below.refl _ _).alloc (Nat.le_refl _) _
  have hR := ResF.new w 43
  have hsz : (w.alloc (.cells #[.bool false, .slice none 0 0, .bool false, .slice none 0 0] 43)).heap.size = w.heap.size + 1 := by simp
  obtain ⟨W, hW⟩ : ∃ W : World, w.alloc (.cells #[.bool false, .slice none 0 0, .bool false, .slice none 0 0] 43) = W := ⟨_, rfl⟩
  rw [hW] at hb0 hR hsz
  have H := Lib.hid (And.intro hb0 (And.intro hR (And.intro hW (And.intro hsz hn))))
  clear hb0 hR hW hsz hn
  go_enter Tryz.func80, Tryz.ntmps80
  go_upto_region 1 with fail
  rw [H.out.2.2.1]
  go_wp2_with fail
  refine (RNew_pos n W H.out.2.2.2.2).mono ?_
  rintro e w2 ⟨v2, rfl, hv2, hb2⟩
  have r2 := H.out.2.1.step hb2 rfl (by have := H.out.2.2.2.1; omega)
  have b2 := below_then H.out.1 hb2
  have hz2 := hb2.size
  have H2 := Lib.hid (And.intro r2 (And.intro b2 (And.intro hv2 hz2)))
  clear r2 b2 hv2 hz2 hb2
  go_wp2_with fail
  refine (SOf_any _ _ w2 H2.out.2.2.1).mono ?_
  rintro e w3 ⟨v3, rfl, ⟨b1, A1, c1, xs1, b2, A2, c2, xs2, rfl, s1, l1, s2, l2, lo⟩, hb3⟩
  have r3 := H2.out.1.step hb3 rfl (by have := H.out.2.2.2.1; have := H2.out.2.2.2; omega)
  have b3 := below_then H2.out.2.1 hb3
  obtain ⟨⟨k0, k1, k2, k3⟩, f0, f1, f2, f3⟩ := id r3
  have HF := Lib.hid (And.intro r3 (And.intro b3 (And.intro s1 (And.intro l1 (And.intro s2 (And.intro l2 lo))))))
  clear r3 b3 s1 l1 s2 l2 lo hb3
  go_wp2
  obtain ⟨q0, q1, q2, q3⟩ := Quad.put HF.out.1.1 (.bool b1) (.slice A1 xs1.length c1) (.bool b2) (.slice A2 xs2.length c2)
  unfold put4 at q0 q1 q2 q3
  refine bodyPost_ret (v := .agg #[.bool b1, .slice A1 xs1.length c1, .bool b2, .slice A2 xs2.length c2]) (by simp [results, Tryz.results80, go_sem, q0, q1, q2, q3]) rfl ?_
  exact s_stored HF.out.1 HF.out.2.2.1 HF.out.2.2.2.1 HF.out.2.2.2.2.1 HF.out.2.2.2.2.2.1 HF.out.2.2.2.2.2.2 HF.out.2.1 (by omega)
end Go.Proofs.YtpgbnegppehckaaGreat
namespace Go.Proofs.YtpgbnegppehckaaGreat
open Go.RowKit
theorem lis_true (v1 v2 : Value) (x : Int) (m : Nat) (w : World) (h1 : IntAt w v1 x) (h2 : RefAt w v2 x) (hm : m ≤ 900000) (hx : x.natAbs < B32 ^ m) (hy : x.natAbs < BD ^ m) : Calls Tryz.prog 48 #[v1, v2] w fun e w' => IsBool w w' true e := by
  have h := Is_any v1 v2 x x m w h1 h2 hm hx hy
  rw [decide_eq_true (rfl : x = x)] at h
  exact h
structure TC (w W : World) (b1 : Bool) (A1 : Option Addr) (n1 c1 : Nat) (b2 : Bool) (A2 : Option Addr) (n2 c2 : Nat) (b3 : Bool) (A3 : Option Addr) (n3 c3 : Nat) (b4 : Bool) (A4 : Option Addr) (n4 c4 : Nat) (x d y e : Int) : Prop where
  qx : Quad W w.heap.size (.bool b1) (.slice A1 n1 c1) (.bool b2) (.slice A2 n2 c2)
  qy : Quad W (w.heap.size + 1) (.bool b3) (.slice A3 n3 c3) (.bool b4) (.slice A4 n4 c4)
  rx : RatAt W (.agg #[.bool b1, .slice A1 n1 c1, .bool b2, .slice A2 n2 c2]) x d
  y1 : RefAt W (.agg #[.bool b3, .slice A3 n3 c3]) y
  y2 : RefAt W (.agg #[.bool b4, .slice A4 n4 c4]) e
  below : Below w.heap.size w W
  size : w.heap.size + 2 ≤ W.heap.size
theorem TC.step {w W0 W w1 : World} {b1 : Bool} {A1 : Option Addr} {n1 c1 : Nat} {b2 : Bool} {A2 : Option Addr} {n2 c2 : Nat} {b3 : Bool} {A3 : Option Addr} {n3 c3 : Nat} {b4 : Bool} {A4 : Option Addr} {n4 c4 : Nat} {x d y e : Int}
    (h : TC w W0 b1 A1 n1 c1 b2 A2 n2 c2 b3 A3 n3 c3 b4 A4 n4 c4 x d y e) (hb : Below W.heap.size W w1)
    (hh : W.heap = W0.heap) (ho : W.os = W0.os) (ht : W.tape = W0.tape) (hu : W.output = W0.output) : TC w w1 b1 A1 n1 c1 b2 A2 n2 c2 b3 A3 n3 c3 b4 A4 n4 c4 x d y e := by
  have hz := h.size
  exact ⟨h.qx.step hb hh (by omega), h.qy.step hb hh (by omega), h.rx.step hb hh, h.y1.step hb hh, h.y2.step hb hh, begun_then h.below hb hh ho ht hu, by have := hb.size; rw [hh] at this; omega⟩
theorem TIs_true (v1 v2 : Value) (x d : Int) (m : Nat) (w : World) (h1 : RatAt w v1 x d) (h2 : SAt w v2 x d) (hm : m ≤ 900000) (hx : x.natAbs < B32 ^ m) (hd : d.natAbs < B32 ^ m) (hx' : x.natAbs < BD ^ m) (hd' : d.natAbs < BD ^ m) :
    Calls Tryz.prog 19 #[v1, v2] w fun f w' => IsBool w w' true f := by
  obtain ⟨b1, A1, c1, xs1, b2, A2, c2, xs2, rfl, s1, l1, s2, l2, lo⟩ := h1
  obtain ⟨b3, A3, c3, xs3, b4, A4, c4, xs4, rfl, s3, l3, s4, l4, lo'⟩ := h2
  have hb := boxed2_below w (.cells #[.bool b1, .slice A1 xs1.length c1, .bool b2, .slice A2 xs2.length c2] 38) (.cells #[.bool b3, .slice A3 xs3.length c3, .bool b4, .slice A4 xs4.length c4] 43)
  have hX := (Quad.new w (.bool b1) (.slice A1 xs1.length c1) (.bool b2) (.slice A2 xs2.length c2) 38).alloc (by simp) (.cells #[.bool b3, .slice A3 xs3.length c3, .bool b4, .slice A4 xs4.length c4] 43)
  have hY := Quad.new (w.alloc (.cells #[.bool b1, .slice A1 xs1.length c1, .bool b2, .slice A2 xs2.length c2] 38)) (.bool b3) (.slice A3 xs3.length c3) (.bool b4) (.slice A4 xs4.length c4) 43
  rw [size_alloc] at hY
  have hsz : w.heap.size + 2 ≤ ((w.alloc (.cells #[.bool b1, .slice A1 xs1.length c1, .bool b2, .slice A2 xs2.length c2] 38)).alloc (.cells #[.bool b3, .slice A3 xs3.length c3, .bool b4, .slice A4 xs4.length c4] 43)).heap.size := by simp
  obtain ⟨W, hW⟩ : ∃ W : World, (w.alloc (.cells #[.bool b1, .slice A1 xs1.length c1, .bool b2, .slice A2 xs2.length c2] 38)).alloc (.cells #[.bool b3, .slice A3 xs3.length c3, .bool b4, .slice A4 xs4.length c4] 43) = W := ⟨_, rfl⟩
  rw [hW] at hb hX hY hsz
  have q0 : TC w W b1 A1 xs1.length c1 b2 A2 xs2.length c2 b3 A3 xs3.length c3 b4 A4 xs4.length c4 x d x d := ⟨hX, hY, ⟨b1, A1, c1, xs1, b2, A2, c2, xs2, rfl, s1, l1.below hb, s2, l2.below hb, lo⟩, sref_of s3 (l3.step hb rfl), sref_of s4 (l4.step hb rfl), hb, hsz⟩
  have q1 := q0.step (Below.refl _ _).drew rfl rfl rfl rfl
  have H := Lib.hid q1
  have HN := Lib.hid (And.intro hm (And.intro hx (And.intro hd (And.intro hx' hd'))))
  have HW := Lib.hid hW
  obtain ⟨px0, px1, px2, px3⟩ := id hX
  obtain ⟨py0, py1, py2, py3⟩ := id hY
  clear q0 q1 hW s1 l1 s2 l2 lo s3 l3 s4 l4 lo' hm hx hd hx' hd' hb hX hY hsz
  go_enter Tryz.func19, Tryz.ntmps19
  go_upto_region 1 with fail
  rw [HW.out]
  clear HW
  go_region_held3 (fun w' => ((w'.cell? ⟨w.heap.size, 0, none⟩ = some (.bool b1) ∧ w'.cell? ⟨w.heap.size, 1, none⟩ = some (.slice A1 xs1.length c1)) ∧ (w'.cell? ⟨w.heap.size, 2, none⟩ = some (.bool b2) ∧ w'.cell? ⟨w.heap.size, 3, none⟩ = some (.slice A2 xs2.length c2))) ∧ ((w'.cell? ⟨w.heap.size + 1, 0, none⟩ = some (.bool b3) ∧ w'.cell? ⟨w.heap.size + 1, 1, none⟩ = some (.slice A3 xs3.length c3)) ∧ (w'.cell? ⟨w.heap.size + 1, 2, none⟩ = some (.bool b4) ∧ w'.cell? ⟨w.heap.size + 1, 3, none⟩ = some (.slice A4 xs4.length c4))))
    (((try dsimp only); (repeat' apply And.intro) <;> (first | (with_reducible assumption) | go_keep)))
    ((first
      | (go_at_call 68; go_fit (QNumerator_any _ x d _ H.out.rx); rintro f w3 ⟨v3, rfl, hv3, hb3⟩; have q3 := H.out.step hb3 rfl rfl rfl rfl; obtain ⟨b5, A5, c5, xs5, rfl, s5, l5⟩ := hv3; have i3 := qint_in s5 l5; obtain ⟨pa0, pa1, pa2, pa3⟩ := id q3.qx; obtain ⟨pb0, pb1, pb2, pb3⟩ := id q3.qy; clear hb3 s5 l5)
      | (go_at_call_of 48 b3; go_fit (lis_true _ _ x m _ i3 q3.y1 HN.out.1 HN.out.2.1 HN.out.2.2.2.1); rintro f w4 ⟨rfl, hb4⟩; have q4 := q3.step hb4 rfl rfl rfl rfl; obtain ⟨pa0, pa1, pa2, pa3⟩ := id q4.qx; obtain ⟨pb0, pb1, pb2, pb3⟩ := id q4.qy; clear hb4 q3 i3)
      | (go_at_call 67; go_fit (QDenominator_any _ x d m _ q4.rx HN.out.1 HN.out.2.2.1); rintro f w5 ⟨v5, rfl, hv5, hb5⟩; have q5 := q4.step hb5 rfl rfl rfl rfl; obtain ⟨b6, A6, c6, xs6, rfl, s6, l6⟩ := hv5; have i5 := qint_in s6 l6; obtain ⟨pa0, pa1, pa2, pa3⟩ := id q5.qx; obtain ⟨pb0, pb1, pb2, pb3⟩ := id q5.qy; clear hb5 s6 l6 q4)
      | (go_at_call_of 48 b4; go_fit (lis_true _ _ d m _ i5 q5.y2 HN.out.1 HN.out.2.2.1 HN.out.2.2.2.2); rintro f w6 ⟨rfl, hb6⟩; have q6 := q5.step hb6 rfl rfl rfl rfl; obtain ⟨pa0, pa1, pa2, pa3⟩ := id q6.qx; obtain ⟨pb0, pb1, pb2, pb3⟩ := id q6.qy; have HB := Lib.hid q6.below; clear hb6 q5 i5 q6)))
  go_wp2
  go_ret
  exact ⟨rfl, HB.out⟩
end Go.Proofs.YtpgbnegppehckaaGreat
namespace Go.Proofs.YtpgbnegppehckaaGreat
open Go.RowKit
theorem wpList_append_zero {P : Program} {w : World} {ops : Array Oper} {rest : List Oper} {o : Oper} {a : Act} {Q : Exit → Act → World → Prop} (hgd : o.guard = none) (s x : Operand) (t : TypeId)
    (ho : o.op = .call { callee := .builtin .append, args := #[s, x], argTypes := #[t, t] }) (e : TypeId) (i : TypeInfo) (ht : P.underlying t = some (.slice e)) (hi : P.info? e = some i)
    (A : Option Addr) (n cap : Nat) (hs : a.eval s = .slice A n cap) (hle : n ≤ cap) (B : Option Addr) (c : Nat) (hx : a.eval x = .slice B 0 c)
    (h : wpList P ops Q rest (a.put o.dst (.slice A n cap)) w) : wpList P ops Q (o :: rest) a w := by
  refine wpList_plain hgd fun K hK => ?_
  have hsrc : Src P i.size t (.slice B 0 c) 0 [] w := by
    cases B with
    | none => exact Src.ofNil w ht c
    | some ad => exact Src.ofSlice w ht ad 0 c [] (by simp) (fun j u hu => by simp at hu) (fun u hu => by cases hu)
  have hrun := run_append_nothing (P := P) w t t o.type e i ht hi A n cap hle (.slice B 0 c) hsrc
  unfold Oper.wp
  simp [execOp, ho, resolve, invoke, builtin, hs, hx, hrun, Result.andThen]
  exact hK _ _ h
def Fresh (b : Nat) (A : Option Addr) : Prop := ∀ ad, A = some ad → b ≤ ad.block
theorem fresh_own {w : World} {base : Nat} {e : TypeId} {A : Option Addr} {n c : Nat} {xs : List Value} (h : w.ownsRow base e 1 (.slice A n c) n xs) : Fresh base A := fun ad ha => by
  subst ha
  exact (h.lt ad.block rfl).1
theorem Fresh.down {b b' : Nat} {A : Option Addr} (h : Fresh b A) (hb : b' ≤ b) : Fresh b' A := fun ad ha => Nat.le_trans hb (h ad ha)
def IsDigsN (w w' : World) (n l : Nat) (e : Ending) : Prop :=
  ∃ A c ds, e = .returned (.slice A (List.length ds) c) ∧ Digs w' A c ds n ∧ ds.length ≤ l ∧ Fresh w.heap.size A ∧ Below w.heap.size w w'
theorem minus_new (A : Option Addr) (c : Nat) (xs : List Nat) (A' : Option Addr) (c' : Nat) (ys : List Nat) (w : World) (hx : Nums w .i64 A xs) (hy : Nums w .i64 A' ys)
    (ox : Lm.Ok BD xs) (oy : Lm.Ok BD ys) (hl : ys.length ≤ xs.length) (hL : xs.length ≤ 1000000) (hv : Lm.val BD ys ≤ Lm.val BD xs) :
    Calls Tryz.prog 126 #[.slice A xs.length c, .slice A' ys.length c'] w fun e w' => IsDigsN w w' (Lm.val BD xs - Lm.val BD ys) xs.length e := by
  obtain ⟨i0, hi0, hz0, hz1, hz2⟩ := info_parts Tryz.info3
  have HI := Lib.hid (And.intro hi0 (And.intro hz0 (And.intro hz1 hz2)))
  have HX := Lib.hid (And.intro hx (And.intro hy (And.intro ox (And.intro oy hv))))
  clear hi0 hz0 hz1 hz2 hx hy ox oy hv
  go_enter Tryz.func126, Tryz.ntmps126
  go_wp2
  go_loopw [5, 6, 7] (fun ov cv iv wr => ∃ (i q : Nat) (ds : List Nat), wr.ownsRow w.heap.size 3 1 ov ds.length (cellsOf .i64 ds) ∧ cv = .int .i64 q ∧ iv = .int .i64 i ∧ Minus xs ys ds i q ∧ i ≤ xs.length ∧ Below w.heap.size w wr) (fun _ _ iv _ => xs.length - (intOf iv).toNat)
  case atStart => exact ⟨0, 0, [], World.ownsRow_nil _ _ _ _, rfl, rfl, ⟨rfl, .nil _, by omega, by simp [Lm.val]⟩, Nat.zero_le _, Below.refl _ _⟩
  case round =>
   obtain ⟨i, q, ds, hown, rfl, rfl, hminus, hi, hbel⟩ := hrel
   obtain ⟨A5, c5, rfl, hle⟩ := own_form hown
   have hsz : w.heap.size ≤ wr.heap.size := hbel.size
   have hdl : ds.length ≤ 1000000 := by rw [hminus.len]; omega
   have q0 : (0 : Int) ≤ (q : Int) := Int.natCast_nonneg q
   have q1 : (q : Int) ≤ 1 := by have := hminus.borrow; omega
   have HPL := Lib.hid (And.intro hminus hbel)
   clear hminus hbel
   by_cases hxi : i < xs.length
   · obtain ⟨ad, rfl, _, hcx⟩ := (HX.out.1.below HPL.out.2).at_ hxi
     have hdx := hcx i hxi
     have hlx := dig_lt HX.out.2.2.1 i
     clear hcx
     obtain ⟨x, hx⟩ : ∃ x, xs.getD i 0 = x := ⟨_, rfl⟩
     rw [hx] at hdx hlx
     have x0 : (0 : Int) ≤ (x : Int) := Int.natCast_nonneg x
     have x1 : (x : Int) ≤ 65535 := by unfold BD at hlx; omega
     have HXD := Lib.hid (And.intro hx hlx)
     clear hx hlx
     by_cases hyi : i < ys.length
     · obtain ⟨ad', rfl, _, hcy⟩ := (HX.out.2.1.below HPL.out.2).at_ hyi
       have hdy := hcy i hyi
       have hly := dig_lt HX.out.2.2.2.1 i
       clear hcy
       obtain ⟨y, hy⟩ : ∃ y, ys.getD i 0 = y := ⟨_, rfl⟩
       rw [hy] at hdy hly
       have y0 : (0 : Int) ≤ (y : Int) := Int.natCast_nonneg y
       have y1 : (y : Int) ≤ 65535 := by unfold BD at hly; omega
       have HYD := Lib.hid (And.intro hy hly)
       clear hy hly
       by_cases hneg : ((x : Int) - (q : Int) - (y : Int)) < 0
       · have HN := Lib.hid (show x < q + y by omega)
         go_wp2_with (at_builtin; refine wpList_append_own _ rfl _ _ 32 rfl w.heap.size 3 i0 (.int .i64 0) 1 8 Tryz.underlying32 HI.out.1 HI.out.2.1 HI.out.2.2.1 HI.out.2.2.2 rfl (by decide) _ ds.length (cellsOf .i64 ds) rfl (hown.alloc _) ⟨wr.heap.size, 0, none⟩ 1 1 [.int .i64 (((x : Int) - (q : Int) - (y : Int)) + 65536)] rfl rfl (cell_one_new _ _ _) (by simp [Value.oneCell']) (by unfold maxLen; omega) (by omega) (by simp; omega) ?_; intro v1 w1 hown1 hg1 _)
         go_roundw
         case rel =>
          have hst := HPL.out.1.step HXD.out.1 HYD.out.1 (d := (x + BD - q - y)) (r := 1) (by (try unfold BD); have := HN.out; have := HXD.out.2; have := HYD.out.2; unfold BD at *; omega) (by (try unfold BD); have := HN.out; have := HXD.out.2; have := HYD.out.2; unfold BD at *; omega) (by omega)
          refine ⟨i + 1, 1, ds ++ [(x + BD - q - y)], ?_, rfl, by go_num, hst, by omega, (HPL.out.2.alloc hsz _).grown hg1 (by simp; omega) (fun k hk => (hown.lt k hk).1)⟩
          rw [List.length_append, List.length_singleton, ← cells_snoc .i64 ds (x + BD - q - y) (((x : Int) - (q : Int) - (y : Int)) + 65536) (by (try unfold BD); have := HN.out; have := HXD.out.2; have := HYD.out.2; unfold BD at *; omega)]
          exact hown1
         case measure => simp [intOf]; omega
       · have hneg' : (0 : Int) ≤ ((x : Int) - (q : Int) - (y : Int)) := by omega
         have HN := Lib.hid (show q + y ≤ x by omega)
         go_wp2_with (at_builtin; refine wpList_append_own _ rfl _ _ 32 rfl w.heap.size 3 i0 (.int .i64 0) 1 8 Tryz.underlying32 HI.out.1 HI.out.2.1 HI.out.2.2.1 HI.out.2.2.2 rfl (by decide) _ ds.length (cellsOf .i64 ds) rfl (hown.alloc _) ⟨wr.heap.size, 0, none⟩ 1 1 [.int .i64 ((x : Int) - (q : Int) - (y : Int))] rfl rfl (cell_one_new _ _ _) (by simp [Value.oneCell']) (by unfold maxLen; omega) (by omega) (by simp; omega) ?_; intro v1 w1 hown1 hg1 _)
         go_roundw
         case rel =>
          have hst := HPL.out.1.step HXD.out.1 HYD.out.1 (d := (x - q - y)) (r := 0) (by (try unfold BD); have := HN.out; have := HXD.out.2; have := HYD.out.2; unfold BD at *; omega) (by (try unfold BD); have := HN.out; have := HXD.out.2; have := HYD.out.2; unfold BD at *; omega) (by omega)
          refine ⟨i + 1, 0, ds ++ [(x - q - y)], ?_, rfl, by go_num, hst, by omega, (HPL.out.2.alloc hsz _).grown hg1 (by simp; omega) (fun k hk => (hown.lt k hk).1)⟩
          rw [List.length_append, List.length_singleton, ← cells_snoc .i64 ds (x - q - y) ((x : Int) - (q : Int) - (y : Int)) (by (try unfold BD); have := HN.out; have := HXD.out.2; have := HYD.out.2; unfold BD at *; omega)]
          exact hown1
         case measure => simp [intOf]; omega
     · have hfy := far_zero hyi
       have HYD := Lib.hid (And.intro hfy BD_pos)
       clear hfy
       by_cases hneg : ((x : Int) - (q : Int)) < 0
       · have HN := Lib.hid (show x < q + 0 by omega)
         go_wp2_with (at_builtin; refine wpList_append_own _ rfl _ _ 32 rfl w.heap.size 3 i0 (.int .i64 0) 1 8 Tryz.underlying32 HI.out.1 HI.out.2.1 HI.out.2.2.1 HI.out.2.2.2 rfl (by decide) _ ds.length (cellsOf .i64 ds) rfl (hown.alloc _) ⟨wr.heap.size, 0, none⟩ 1 1 [.int .i64 (((x : Int) - (q : Int)) + 65536)] rfl rfl (cell_one_new _ _ _) (by simp [Value.oneCell']) (by unfold maxLen; omega) (by omega) (by simp; omega) ?_; intro v1 w1 hown1 hg1 _)
         go_roundw
         case rel =>
          have hst := HPL.out.1.step HXD.out.1 HYD.out.1 (d := (x + BD - q - 0)) (r := 1) (by (try unfold BD); have := HN.out; have := HXD.out.2; have := HYD.out.2; unfold BD at *; omega) (by (try unfold BD); have := HN.out; have := HXD.out.2; have := HYD.out.2; unfold BD at *; omega) (by omega)
          refine ⟨i + 1, 1, ds ++ [(x + BD - q - 0)], ?_, rfl, by go_num, hst, by omega, (HPL.out.2.alloc hsz _).grown hg1 (by simp; omega) (fun k hk => (hown.lt k hk).1)⟩
          rw [List.length_append, List.length_singleton, ← cells_snoc .i64 ds (x + BD - q - 0) (((x : Int) - (q : Int)) + 65536) (by (try unfold BD); have := HN.out; have := HXD.out.2; have := HYD.out.2; unfold BD at *; omega)]
          exact hown1
         case measure => simp [intOf]; omega
       · have hneg' : (0 : Int) ≤ ((x : Int) - (q : Int)) := by omega
         have HN := Lib.hid (show q + 0 ≤ x by omega)
         go_wp2_with (at_builtin; refine wpList_append_own _ rfl _ _ 32 rfl w.heap.size 3 i0 (.int .i64 0) 1 8 Tryz.underlying32 HI.out.1 HI.out.2.1 HI.out.2.2.1 HI.out.2.2.2 rfl (by decide) _ ds.length (cellsOf .i64 ds) rfl (hown.alloc _) ⟨wr.heap.size, 0, none⟩ 1 1 [.int .i64 ((x : Int) - (q : Int))] rfl rfl (cell_one_new _ _ _) (by simp [Value.oneCell']) (by unfold maxLen; omega) (by omega) (by simp; omega) ?_; intro v1 w1 hown1 hg1 _)
         go_roundw
         case rel =>
          have hst := HPL.out.1.step HXD.out.1 HYD.out.1 (d := (x - q - 0)) (r := 0) (by (try unfold BD); have := HN.out; have := HXD.out.2; have := HYD.out.2; unfold BD at *; omega) (by (try unfold BD); have := HN.out; have := HXD.out.2; have := HYD.out.2; unfold BD at *; omega) (by omega)
          refine ⟨i + 1, 0, ds ++ [(x - q - 0)], ?_, rfl, by go_num, hst, by omega, (HPL.out.2.alloc hsz _).grown hg1 (by simp; omega) (fun k hk => (hown.lt k hk).1)⟩
          rw [List.length_append, List.length_singleton, ← cells_snoc .i64 ds (x - q - 0) ((x : Int) - (q : Int)) (by (try unfold BD); have := HN.out; have := HXD.out.2; have := HYD.out.2; unfold BD at *; omega)]
          exact hown1
         case measure => simp [intOf]; omega
   · obtain rfl : i = xs.length := by omega
     have htr := trimmed_any A5 c5 ds wr (Nums.of_own hown rfl) (by omega) hle
     have HT := Lib.hid (And.intro htr (Nums.of_own hown rfl : Nums wr .i64 A5 ds))
     have HLE := Lib.hid hle
     have HFR := Lib.hid (fresh_own hown)
     clear htr hle
     go_wp2_with fail
     refine HT.out.1.mono ?_
     rintro e w' ⟨rfl, n, rfl, hn, hz, hp⟩
     have HZ := Lib.hid (And.intro hz hp)
     clear hz hp
     go_wp2
     go_ret
     have hd := digs_take HT.out.2 HPL.out.1.ok HLE.out hn HZ.out.1 HZ.out.2
     rw [HPL.out.1.done_ hl HX.out.2.2.2.2] at hd
     have hlen : (ds.take n).length = n := by rw [List.length_take]; omega
     refine ⟨A5, c5, ds.take n, by rw [hlen]; rfl, hd, by have := HPL.out.1.len; rw [hlen]; omega, HFR.out, HPL.out.2⟩
structure DivAtD (xs zs : List Nat) (B i r : Nat) : Prop where
  len : zs.length = xs.length
  ok : Lm.Ok BD zs
  num : Lm.val BD (xs.drop i) = Lm.val BD (zs.drop i) * B + r
  lt : r < B
theorem divAtD_start (xs : List Nat) (B : Nat) (h : 0 < B) : DivAtD xs (List.replicate xs.length 0) B xs.length 0 := by
  refine ⟨by simp, Lm.Ok.zeros BD_pos _, ?_, h⟩
  rw [List.drop_length, List.drop_of_length_le (by simp)]
  simp [Lm.val]
theorem divAtD_step {xs zs : List Nat} {B j r x q r' : Nat} (h : DivAtD xs zs B (j + 1) r) (hj : j < xs.length) (hx : xs.getD j 0 = x) (hq : q < BD) (hr : x + BD * r = q * B + r') (hr' : r' < B) : DivAtD xs (zs.set j q) B j r' := by
  refine ⟨by simpa using h.len, h.ok.set _ _ hq, ?_, hr'⟩
  have e1 := Lm.val_drop_pred BD xs j hj
  have e2 := Lm.val_drop_pred BD (zs.set j q) j (by rw [List.length_set, h.len]; exact hj)
  rw [hx, h.num] at e1
  rw [show (zs.set j q).getD j 0 = q by rw [List.getD_eq_getElem?_getD, List.getElem?_set]; simp [h.len, hj], show (zs.set j q).drop (j + 1) = zs.drop (j + 1) by rw [List.drop_set]; simp] at e2
  rw [e1, e2, Nat.add_mul, Nat.mul_add, ← Nat.add_assoc, Nat.mul_assoc, Nat.add_right_comm, hr]
  omega
theorem divAtD_end {xs zs : List Nat} {B r : Nat} (h : DivAtD xs zs B 0 r) : Lm.val BD zs = Lm.val BD xs / B ∧ r = Lm.val BD xs % B := by
  have hn := h.num
  rw [List.drop_zero, List.drop_zero] at hn
  have hB : 0 < B := Nat.lt_of_le_of_lt (Nat.zero_le _) h.lt
  constructor
  · rw [hn, Nat.mul_comm, Nat.mul_add_div hB, Nat.div_eq_of_lt h.lt, Nat.add_zero]
  · rw [hn, Nat.mul_comm, Nat.mul_add_mod, Nat.mod_eq_of_lt h.lt]
def IsQR (w w' : World) (q r l : Nat) (e : Ending) : Prop := ∃ A1 c1 d1 A2 c2 d2, e = .returned (.tuple #[.slice A1 (List.length d1) c1, .slice A2 (List.length d2) c2]) ∧ Digs w' A1 c1 d1 q ∧ Digs w' A2 c2 d2 r ∧ d1.length ≤ l ∧ Below w.heap.size w w'
theorem Digs.store {w : World} {A : Option Addr} {c n : Nat} {ds : List Nat} (h : Digs w A c ds n) {g o : Nat} {u : Value} (hf : Fresh (g + 1) A) : Digs (w.setCell ⟨g, o, none⟩ u) A c ds n :=
  ⟨h.1, h.2.1.grown (grown_store w g o u) (fun _ ad ha e => by have := hf ad ha; omega), h.2.2⟩
theorem below_drewN {B : Nat} {w w' : World} (h : Below B w w') (n : Nat) : Below B w (w'.drewN n) := ⟨h.os, h.tape, h.output, h.size, h.block⟩
theorem divided_any (A : Option Addr) (c : Nat) (xs : List Nat) (A' : Option Addr) (c' : Nat) (ys : List Nat) (w : World) (hx : Nums w .i64 A xs) (hy : Nums w .i64 A' ys)
    (ox : Lm.Ok BD xs) (oy : Lm.Ok BD ys) (hB : 0 < Lm.val BD ys) (lx : xs.length ≤ 100000) (ly : ys.length ≤ 100000) :
    Calls Tryz.prog 121 #[.slice A xs.length c, .slice A' ys.length c'] w fun e w' => IsQR w w' (Lm.val BD xs / Lm.val BD ys) (Lm.val BD xs % Lm.val BD ys) xs.length e := by
  obtain ⟨i0, hi0, hz0, hz1, hz2⟩ := info_parts Tryz.info3
  have HI := Lib.hid (And.intro hi0 (And.intro hz0 (And.intro hz1 hz2)))
  have HM := Lib.hid (show i0.bytes * xs.length ≤ 281474976710656 ∧ xs.length ≤ maxLen from ⟨by rw [hz2]; omega, by unfold maxLen; omega⟩)
  obtain ⟨B, hBv⟩ : ∃ B, Lm.val BD ys = B := ⟨_, rfl⟩
  rw [hBv] at hB ⊢
  have HX := Lib.hid (And.intro hx (And.intro hy (And.intro ox (And.intro oy (And.intro hBv (And.intro hB (And.intro lx ly)))))))
  clear hi0 hz0 hz1 hz2 ox oy hB hBv ly
  go_enter Tryz.func121, Tryz.ntmps121
  go_wp2_with (at_make; go_loud (refine wpList_make_full _ rfl _ _ 32 rfl w.heap.size 3 i0 (.int .i64 0) 1 Tryz.underlying32 HI.out.1 HI.out.2.1 HI.out.2.2.1 _ _ _ _ xs.length rfl rfl (by omega) (by omega) HM.out.1 HM.out.2 (Nat.le_refl _) ?_); intro w1 hown1 hg1; rw [made_zeroD] at hown1; have HB := Lib.hid (own_block hown1); have hb1 : Below w.heap.size w w1 := (Below.refl _ _).grown hg1 (Nat.le_refl _) (fun k hk => by cases hk); clear hown1)
  have hz0 : Seg w1 w.heap.size 0 .i64 3 _ (List.replicate xs.length 0) := seg_of_block HB.out
  have HW := Lib.hid (And.intro hz0 (And.intro hb1 (show w.heap.size + 1 ≤ w1.heap.size from hz0.lt)))
  have n0 : (0 : Int) ≤ (xs.length : Int) := Int.natCast_nonneg _
  have n1 : (xs.length : Int) ≤ 100000 := by omega
  clear hz0 hb1 HB hx hy HM lx
  go_loopw [7, 8] (fun rv iv wr => ∃ (i R : Nat) (Ar : Option Addr) (cr : Nat) (ds zs : List Nat) (cur : Array Value), rv = .slice Ar ds.length cr ∧ iv = .int .i64 ((i : Int) - 1) ∧ i ≤ xs.length ∧ DivAtD xs zs B i R ∧ Digs wr Ar cr ds R ∧ Fresh (w.heap.size + 1) Ar ∧ Seg wr w.heap.size 0 .i64 3 cur zs ∧ Below w.heap.size w wr) (fun _ iv _ => (intOf iv + 1).toNat)
  case atStart => exact ⟨xs.length, 0, none, 0, [], _, _, rfl, rfl, Nat.le_refl _, divAtD_start xs B HX.out.2.2.2.2.2.1, ⟨Nat.le_refl _, Nums.nil _ _ _, Lm.Ok.nil _, Lm.Top.nil, rfl⟩, fun ad h => (by cases h), HW.out.1, HW.out.2.1⟩
  case round =>
   clear HW
   obtain ⟨i, R, Ar, cr, ds, zs, cur, rfl, rfl, hi, hdv, hdg, hfr, hseg, hbel⟩ := hrel
   cases i with
   | zero =>
     rw [show ((0 : Nat) : Int) - 1 = -1 from rfl]
     have htr := trimmed_any (some ⟨w.heap.size, 0, none⟩) xs.length zs wr hseg.nums (by rw [hdv.len]; have := HX.out.2.2.2.2.2.2.1; omega) (by rw [hdv.len]; exact Nat.le_refl _)
     rw [hdv.len] at htr
     have HT := Lib.hid (And.intro htr (And.intro hdv (And.intro hdg (And.intro hseg hbel))))
     clear htr hdv hdg hseg hbel hfr
     go_wp2_with fail
     refine HT.out.1.mono ?_
     rintro e w4 ⟨rfl, k, rfl, hk, hz, hp⟩
     have HP := Lib.hid (And.intro hk (And.intro hz hp))
     clear hk hz hp
     go_wp2
     go_ret2
     obtain ⟨e1, e2⟩ := divAtD_end HT.out.2.1
     have hlen : (zs.take k).length = k := by rw [List.length_take]; have := HP.out.1; omega
     have hlz : zs.length = xs.length := HT.out.2.1.len
     have hdq : Digs wr (some ⟨w.heap.size, 0, none⟩) xs.length (zs.take k) (Lm.val BD xs / B) := ⟨by rw [hlen]; have := HP.out.1; omega, HT.out.2.2.2.1.nums.take k, HT.out.2.1.ok.take k, top_take HP.out.1 HP.out.2.2, by rw [Lm.val_cut k HP.out.1 HP.out.2.1]; exact e1⟩
     have hdr := HT.out.2.2.1
     rw [e2] at hdr
     exact ⟨_, _, zs.take k, _, _, ds, by rw [hlen]; rfl, hdq, hdr, by rw [hlen]; have := HP.out.1; omega, HT.out.2.2.2.2⟩
   | succ j =>
     rw [show (((j + 1 : Nat)) : Int) - 1 = (j : Int) by omega]
     have hj : j < xs.length := by omega
     obtain ⟨ad, rfl, _, hcell⟩ := (HX.out.1.below hbel).at_ hj
     have hca := hcell j hj
     have hal := digD_lt HX.out.2.2.1 j
     obtain ⟨x, hxv⟩ : ∃ x, xs.getD j 0 = x := ⟨_, rfl⟩
     rw [hxv] at hca hal
     have hjI : (j : Int) < (xs.length : Int) := by omega
     have j0 : (0 : Int) ≤ (j : Int) := Int.natCast_nonneg j
     have hsz : w.heap.size + 1 ≤ wr.heap.size := hseg.lt
     have x0 : (0 : Int) ≤ (x : Int) := Int.natCast_nonneg x
     have HS := Lib.hid (And.intro hdv (And.intro hdg (And.intro hfr (And.intro hseg (And.intro hbel (And.intro hxv (And.intro hal hsz)))))))
     have hdl : ds.length ≤ 200000 := by
       refine Nat.le_trans (hdg.len (m := ys.length) ?_) (by have := HX.out.2.2.2.2.2.2.2; omega)
       have h1 := hdv.lt
       have h2 := Lm.val_lt HX.out.2.2.2.1
       rw [HX.out.2.2.2.2.1] at h2
       omega
     have HDL := Lib.hid hdl
     clear hdv hdg hfr hseg hbel hxv hcell hi hdl hsz
     go_upto_region 6 with fail
     go_cut [7] (fun rv wx => ∃ (W : World) (A2 : Option Addr) (c2 : Nat) (ds2 : List Nat), W = wx ∧ rv = .slice A2 ds2.length c2 ∧ Digs W A2 c2 ds2 (x + BD * R) ∧ Fresh (w.heap.size + 1) A2 ∧ Seg W w.heap.size 0 .i64 3 cur zs ∧ Below w.heap.size w W)
     case first => as_aux_lemma =>
      have hlit : (wr.alloc (.cells #[.int .i64 (x : Int)] 3)).ownsRow (w.heap.size + 1) 3 1 (.slice (some ⟨wr.heap.size, 0, none⟩) 1 1) 1 (cellsOf .i64 [x]) := World.ownsRow_lit wr #[.int .i64 (x : Int)] 1 HS.out.2.2.2.2.2.2.2 (by decide) rfl
      have HO := Lib.hid hlit
      clear hlit
      by_cases hds : ds.length = 0
      · have htr := trimmed_any (some ⟨wr.heap.size, 0, none⟩) 1 [x] _ (Nums.of_own HO.out rfl) (by simp) (by simp)
        have HT := Lib.hid htr
        have hR : R = 0 := by rw [← HS.out.2.1.2.2.2.2, List.eq_nil_of_length_eq_zero hds]; rfl
        have HR := Lib.hid hR
        rw [hds]
        clear htr hR hds
        go_wp2_with (at_builtin; go_loud (refine wpList_append_zero rfl _ _ 32 rfl 3 i0 Tryz.underlying32 HI.out.1 (some ⟨wr.heap.size, 0, none⟩) 1 1 rfl (Nat.le_refl _) Ar cr rfl ?_))
        refine HT.out.mono ?_
        rintro e w4 ⟨rfl, k, rfl, hk, hz, hp⟩
        have HP := Lib.hid (And.intro hk (And.intro hz hp))
        clear hk hz hp
        go_wp2
        go_meet
        have hok : Lm.Ok BD [x] := Lm.Ok.cons HS.out.2.2.2.2.2.2.1 (Lm.Ok.nil _)
        have hd := digs_take (Nums.of_own HO.out rfl) hok (c := 1) (Nat.le_refl _) HP.out.1 HP.out.2.1 HP.out.2.2
        have hlen : ([x].take k).length = k := by rw [List.length_take]; have := HP.out.1; simp at this ⊢; omega
        rw [show Lm.val BD [x] = x + BD * R by rw [HR.out]; rfl] at hd
        exact ⟨_, some ⟨wr.heap.size, 0, none⟩, 1, [x].take k, rfl, by rw [hlen], hd, fresh_own HO.out, HS.out.2.2.2.1.alloc _, HS.out.2.2.2.2.1.alloc HS.out.2.2.2.2.1.size _⟩
      · obtain ⟨ar, rfl, har, hcr⟩ := HS.out.2.1.2.1 (by omega)
        have hnews : ∀ jj u, (cellsOf .i64 ds)[jj]? = some u → (wr.alloc (.cells #[.int .i64 (x : Int)] 3)).cell? (ar.add jj) = some u := (HS.out.2.1.2.1.alloc (.cells #[.int .i64 (x : Int)] 3)).news
        have HN := Lib.hid hnews
        clear hnews hcr har hds
        go_wp2_with (at_builtin; go_loud (refine wpList_append_own _ rfl _ _ 32 rfl (w.heap.size + 1) 3 i0 (.int .i64 0) 1 8 Tryz.underlying32 HI.out.1 HI.out.2.1 HI.out.2.2.1 HI.out.2.2.2 rfl (by decide) _ 1 (cellsOf .i64 [x]) rfl HO.out ar ds.length cr (cellsOf .i64 ds) rfl (by rw [cellsOf_length, Nat.mul_one]) HN.out (cellsOf_one .i64 ds) (by have := HDL.out; unfold maxLen; omega) (by have := HDL.out; omega) (by have := HS.out.2.2.2.2.2.2.2; rw [size_alloc]; omega) ?_); intro v1 w1 hown1 hg1 _; obtain ⟨A3, c3, rfl, hle3⟩ := own_form hown1)
        have hcs : cellsOf .i64 [x] ++ cellsOf .i64 ds = cellsOf .i64 (x :: ds) := by simp [cellsOf]
        rw [hcs] at hown1
        have hls : 1 + ds.length = (x :: ds).length := by simp; omega
        have hok : Lm.Ok BD (x :: ds) := Lm.Ok.cons HS.out.2.2.2.2.2.2.1 HS.out.2.1.2.2.1
        rw [hls] at hown1 hle3 ⊢
        have htr := trimmed_any A3 c3 (x :: ds) w1 (Nums.of_own hown1 rfl) (by have := HDL.out; simp; omega) hle3
        have hsg1 : Seg w1 w.heap.size 0 .i64 3 cur zs := (HS.out.2.2.2.1.alloc _).grown hg1 (fun e => by have := (HO.out.lt _ e).1; omega)
        have hbl1 : Below w.heap.size w w1 := (HS.out.2.2.2.2.1.alloc HS.out.2.2.2.2.1.size _).grown hg1 (by have := HS.out.2.2.2.2.1.size; rw [size_alloc]; omega) (fun k hk => by have := (HO.out.lt k hk).1; omega)
        have HT := Lib.hid (And.intro htr (And.intro hown1 (And.intro hle3 (And.intro hsg1 hbl1))))
        clear htr hown1 hg1 hle3 hsg1 hbl1 hls hcs
        refine HT.out.1.mono ?_
        rintro e w4 ⟨rfl, k, rfl, hk, hz, hp⟩
        have HP := Lib.hid (And.intro hk (And.intro hz hp))
        clear hk hz hp
        go_wp2
        go_meet
        have hd := digs_take (Nums.of_own HT.out.2.1 rfl) hok HT.out.2.2.1 HP.out.1 HP.out.2.1 HP.out.2.2
        have hlen : ((x :: ds).take k).length = k := by rw [List.length_take]; have := HP.out.1; omega
        rw [show Lm.val BD (x :: ds) = x + BD * R by rw [Lm.val_cons, HS.out.2.1.2.2.2.2]] at hd
        exact ⟨_, A3, c3, (x :: ds).take k, rfl, by rw [hlen], hd, fresh_own HT.out.2.1, HT.out.2.2.2.1, HT.out.2.2.2.2⟩
     case rest =>
      obtain ⟨wi, A2, c2, ds2, rfl, rfl, hd2, hf2, hs2, hb2⟩ := hcut
      obtain ⟨R', hR'⟩ : ∃ R', x + BD * R = R' := ⟨_, rfl⟩
      rw [hR'] at hd2
      have hlt0 : R' < 65536 * B := by
        have h1 := HS.out.1.lt
        have h2 := HS.out.2.2.2.2.2.2.1
        have h3 : BD * (R + 1) ≤ BD * B := Nat.mul_le_mul_left _ h1
        rw [Nat.mul_add, Nat.mul_one] at h3
        have h4 : x < BD := h2
        have h5 : x + BD * R < BD * B := by omega
        rw [← hR']
        exact h5
      have hl2 : ds2.length ≤ 200001 := by
        refine Nat.le_trans (hd2.len (m := ys.length + 1) ?_) (by have := HX.out.2.2.2.2.2.2.2; omega)
        have h2 := Lm.val_lt HX.out.2.2.2.1
        rw [HX.out.2.2.2.2.1] at h2
        have h3 : 65536 * B ≤ BD ^ ys.length * BD := by rw [Nat.mul_comm, show (65536 : Nat) = BD from rfl]; exact Nat.mul_le_mul_right _ (Nat.le_of_lt h2)
        rw [Nat.pow_succ]
        omega
      have HI2 := Lib.hid (And.intro hd2 (And.intro hf2 (And.intro hs2 (And.intro hb2 (And.intro hR' (And.intro hlt0 hl2))))))
      have HY2 := Lib.hid (HX.out.2.1.below hb2)
      clear hd2 hf2 hs2 hb2 hR' hlt0 hl2 hca
      go_upto_region 8 with fail
      go_loopw [9, 10] (fun lv hv wr => ∃ lo hi : Nat, lv = .int .i64 lo ∧ hv = .int .i64 hi ∧ lo < hi ∧ hi ≤ 65536 ∧ lo * B ≤ R' ∧ R' < hi * B ∧ Below wi.heap.size wi wr) (fun lv hv _ => (intOf hv).toNat - (intOf lv).toNat)
      case atStart => exact ⟨0, 65536, rfl, rfl, by decide, Nat.le_refl _, by rw [Nat.zero_mul]; exact Nat.zero_le _, HI2.out.2.2.2.2.2.1, Below.refl _ _⟩
      case round =>
       obtain ⟨lo, hi, rfl, rfl, hlh, hh, hlo, hhi, hbw⟩ := hrel
       have l0 : (0 : Int) ≤ (lo : Int) := Int.natCast_nonneg lo
       have h1 : (hi : Int) ≤ 65536 := by omega
       have hlhI : (lo : Int) < (hi : Int) := by omega
       by_cases hgt : lo + 1 < hi
       · have hgtI : (1 : Int) < (hi : Int) - (lo : Int) := by omega
         obtain ⟨m, hm⟩ : ∃ m, (lo + hi) / 2 = m := ⟨_, rfl⟩
         have hmI : ((lo : Int) + (hi : Int)) / 2 = (m : Int) := by omega
         have hml : lo < m := by omega
         have hmh : m < hi := by omega
         have hn1 : Nums (wr.alloc (.cells #[.int .i64 (m : Int)] 3)) .i64 (some ⟨wr.heap.size, 0, none⟩) [m] := fun _ => ⟨_, rfl, by rw [size_alloc]; exact Nat.lt_succ_self _, fun jj hjj => by
           obtain rfl : jj = 0 := by simpa using hjj
           go_simp⟩
         have hal2 : Below wi.heap.size wi (wr.alloc (.cells #[.int .i64 (m : Int)] 3)) := hbw.alloc hbw.size _
         have htm := times_any A' c' ys (some ⟨wr.heap.size, 0, none⟩) 1 [m] _ hn1 (HY2.out.below hal2) (Lm.Ok.cons (by unfold BD; omega) (Lm.Ok.nil _)) HX.out.2.2.2.1 (by simp) (by have := HX.out.2.2.2.2.2.2.2; omega)
         have HTM := Lib.hid (And.intro htm (And.intro hal2 (And.intro hm (And.intro hml (And.intro hmh (And.intro hlo hhi))))))
         clear htm hal2 hn1 hm hml hmh hlo hhi hbw
         go_wp2_with fail
         refine HTM.out.1.mono ?_
         rintro e w3 ⟨A3, c3, d3, rfl, hd3, hl3, hb3⟩
         rw [show Lm.val BD [m] * Lm.val BD ys = m * B by rw [HX.out.2.2.2.2.1]; simp [Lm.val]] at hd3
         have hbi := HTM.out.2.1.trans (hb3.mono HTM.out.2.1.size)
         have hdr := HI2.out.1.below hbi
         have hcm := rcompare_any A3 c3 d3 A2 c2 ds2 w3 hd3.2.1 hdr.2.1 hd3.2.2.1 hdr.2.2.1 hd3.2.2.2.1 hdr.2.2.2.1 (by have := HX.out.2.2.2.2.2.2.2; simp at hl3; omega)
         rw [hd3.2.2.2.2, hdr.2.2.2.2] at hcm
         have HCM := Lib.hid (And.intro hcm hbi)
         clear hcm hbi hd3 hl3 hb3 hdr
         by_cases hle : m * B ≤ R'
         · have ho : ordOf (m * B) R' ≤ 0 := by unfold ordOf; split <;> first | decide | (rw [if_neg (by omega)]; decide)
           obtain ⟨oo, hoo⟩ : ∃ o, ordOf (m * B) R' = o := ⟨_, rfl⟩
           rw [hoo] at ho
           have HOO := Lib.hid (And.intro hoo hle)
           clear hoo hle
           go_wp2_with fail
           refine HCM.out.1.mono ?_
           rintro e w4 ⟨⟨nd, rfl⟩, he⟩
           rw [HOO.out.1] at he
           subst he
           go_wp2
           go_roundw
           case rel => exact ⟨m, hi, rfl, rfl, HTM.out.2.2.2.2.1, hh, HOO.out.2, HTM.out.2.2.2.2.2.2, below_drewN HCM.out.2 nd⟩
           case measure => have := HTM.out.2.2.2.1; have := HTM.out.2.2.2.2.1; simp [intOf]; omega
         · have ho : ¬ ordOf (m * B) R' ≤ 0 := by unfold ordOf; rw [if_neg (by omega), if_pos (by omega)]; decide
           obtain ⟨oo, hoo⟩ : ∃ o, ordOf (m * B) R' = o := ⟨_, rfl⟩
           rw [hoo] at ho
           have HOO := Lib.hid (And.intro hoo hle)
           clear hoo hle
           go_wp2_with fail
           refine HCM.out.1.mono ?_
           rintro e w4 ⟨⟨nd, rfl⟩, he⟩
           rw [HOO.out.1] at he
           subst he
           go_wp2
           go_roundw
           case rel => exact ⟨lo, m, rfl, rfl, HTM.out.2.2.2.1, by have := HTM.out.2.2.2.2.1; omega, HTM.out.2.2.2.2.2.1, by have := HOO.out.2; omega, below_drewN HCM.out.2 nd⟩
           case measure => have := HTM.out.2.2.2.1; have := HTM.out.2.2.2.2.1; simp [intOf]; omega
       · have hhe : hi = lo + 1 := by omega
         have hgtI : ¬ (1 : Int) < (hi : Int) - (lo : Int) := by omega
         have hlo16 : lo < 65536 := by omega
         rw [hhe] at hhi
         have hs3 : Seg wr w.heap.size 0 .i64 3 cur zs := HI2.out.2.2.1.keep (hbw.block _ HI2.out.2.2.1.lt)
         have hlz := HS.out.1.len
         have hcz := hs3.cell (j := j) (by omega)
         have hfz := hs3.frozen (0 + j)
         have hs4 := hs3.set_ j lo
         rw [Nat.zero_add] at hcz hfz hs4
         have hd3 := HI2.out.1.below hbw
         have hb3 := HI2.out.2.2.2.1.trans (hbw.mono HI2.out.2.2.2.1.size)
         have hd4 := hd3.store (g := w.heap.size) (o := j) (u := .int .i64 (lo : Int)) HI2.out.2.1
         have hb4 := hb3.setCell (p := ⟨w.heap.size, j, none⟩) (Nat.le_refl _) (.int .i64 (lo : Int))
         have hsz4 : w.heap.size + 1 ≤ (wr.setCell ⟨w.heap.size, j, none⟩ (.int .i64 (lo : Int))).heap.size := hs4.lt
         have hB1 : (lo + 1) * B = lo * B + B := by rw [Nat.add_mul, Nat.one_mul]
         have hq : x + BD * R = lo * B + (R' - lo * B) := by rw [HI2.out.2.2.2.2.1]; omega
         have hr' : R' - lo * B < B := by omega
         have hdv := divAtD_step HS.out.1 hj HS.out.2.2.2.2.2.1 hlo16 hq hr'
         by_cases hpos : 0 < lo
         · have hposI : (0 : Int) < (lo : Int) := by omega
           have HP := Lib.hid (And.intro hs4 (And.intro hd4 (And.intro hb4 (And.intro hsz4 (And.intro hdv hlo)))))
           have HL16 := Lib.hid hlo16
           clear hs3 hs4 hd3 hd4 hb3 hb4 hsz4 hdv hlo hhi hB1 hq hr' hlz hbw hhe hlo16 hh hlh hgt
           go_upto_region 14 with fail
           obtain ⟨V, hV⟩ : ∃ V : World, wr.setCell ⟨w.heap.size, j, none⟩ (.int .i64 (lo : Int)) = V := ⟨_, rfl⟩
           rw [hV] at HP ⊢
           have hn1 : Nums (V.alloc (.cells #[.int .i64 (lo : Int)] 3)) .i64 (some ⟨V.heap.size, 0, none⟩) [lo] := fun _ => ⟨_, rfl, by rw [size_alloc]; exact Nat.lt_succ_self _, fun jj hjj => by
             obtain rfl : jj = 0 := by simpa using hjj
             go_simp⟩
           have hal2 : Below w.heap.size w (V.alloc (.cells #[.int .i64 (lo : Int)] 3)) := HP.out.2.2.1.alloc HP.out.2.2.1.size _
           have htm := times_any A' c' ys (some ⟨V.heap.size, 0, none⟩) 1 [lo] _ hn1 (HX.out.2.1.below hal2) (Lm.Ok.cons HL16.out (Lm.Ok.nil _)) HX.out.2.2.2.1 (by simp) (by have := HX.out.2.2.2.2.2.2.2; omega)
           have hd5 := HP.out.2.1.below ((Below.refl V.heap.size V).alloc (Nat.le_refl _) (.cells #[.int .i64 (lo : Int)] 3))
           have HTM := Lib.hid (And.intro htm (And.intro hal2 (And.intro hd5 (show w.heap.size + 1 ≤ (V.alloc (.cells #[.int .i64 (lo : Int)] 3)).heap.size by have := HP.out.2.2.2.1; rw [size_alloc]; omega))))
           have HSA := Lib.hid (HP.out.1.alloc (.cells #[.int .i64 (lo : Int)] 3))
           clear htm hal2 hn1 hV hd5
           go_wp2_with fail
           refine HTM.out.1.mono ?_
           rintro e w5 ⟨A3, c3, d3, rfl, hd3, hl3, hb5⟩
           rw [show Lm.val BD [lo] * Lm.val BD ys = lo * B by rw [HX.out.2.2.2.2.1]; simp [Lm.val]] at hd3
           have hdr := HTM.out.2.2.1.below hb5
           have hmn := minus_new A2 c2 ds2 A3 c3 d3 w5 hdr.2.1 hd3.2.1 hdr.2.2.1 hd3.2.2.1 (hdr.shorter hd3 HP.out.2.2.2.2.2) (by have := HI2.out.2.2.2.2.2.2; omega) (by rw [hd3.2.2.2.2, hdr.2.2.2.2]; exact HP.out.2.2.2.2.2)
           rw [hd3.2.2.2.2, hdr.2.2.2.2] at hmn
           have hsz5 : w.heap.size + 1 ≤ w5.heap.size := Nat.le_trans HTM.out.2.2.2 hb5.size
           have hb6 := HTM.out.2.1.trans (hb5.mono HTM.out.2.1.size)
           have hs5 : Seg w5 w.heap.size 0 .i64 3 _ _ := HSA.out.keep (hb5.block _ HSA.out.lt)
           have HMN := Lib.hid (And.intro hmn (And.intro hsz5 (And.intro hb6 hs5)))
           clear hmn hsz5 hb6 hs5 hd3 hdr hb5 hl3
           go_wp2_with fail
           refine HMN.out.1.mono ?_
           rintro e w6 ⟨A6, c6, d6, rfl, hd6, hl6, hf6, hb7⟩
           have HE := Lib.hid (And.intro hd6 (And.intro (hf6.down HMN.out.2.1) (And.intro (show Seg w6 w.heap.size 0 .i64 3 _ _ from HMN.out.2.2.2.keep (hb7.block _ HMN.out.2.2.2.lt)) (HMN.out.2.2.1.trans (hb7.mono HMN.out.2.2.1.size)))))
           clear hd6 hf6 hb7 hl6
           go_wp2
           go_roundw
           case rel => exact ⟨j, R' - lo * B, A6, c6, d6, zs.set j lo, _, rfl, rfl, by omega, HP.out.2.2.2.2.1, HE.out.1, HE.out.2.1, HE.out.2.2.1, HE.out.2.2.2⟩
           case measure => simp [intOf]
         · obtain rfl : lo = 0 := by omega
           rw [Nat.zero_mul, Nat.sub_zero] at hdv
           have HP := Lib.hid (And.intro hs4 (And.intro hd4 (And.intro hb4 (And.intro hsz4 hdv))))
           clear hs3 hs4 hd3 hd4 hb3 hb4 hsz4 hdv hlo hhi hB1 hq hr' hlz hbw hhe hlo16 hh hlh hgt
           go_wp2
           go_roundw
           case rel => exact ⟨j, R', A2, c2, ds2, zs.set j 0, _, rfl, rfl, by omega, HP.out.2.2.2.2, HP.out.2.1, HI2.out.2.1, HP.out.1, HP.out.2.2.1⟩
           case measure => simp [intOf]
end Go.Proofs.YtpgbnegppehckaaGreat
namespace Go.Proofs.YtpgbnegppehckaaGreat
open Go.RowKit
theorem rsmall_len {w : World} {A : Option Addr} {c n m : Nat} {zs : List Nat} (h : Digs w A c zs n) (xs : List Nat) (ox : Lm.Ok BD xs) (hn : n ≤ Lm.val BD xs) (hl : xs.length ≤ m) : zs.length ≤ m := by
  have h2 : n < BD ^ xs.length := Nat.lt_of_le_of_lt hn (Lm.val_lt ox)
  exact Nat.le_trans (h.len h2) hl
def IsQuoRemR (w w' : World) (x y : Int) (e : Ending) : Prop :=
  ∃ v1 v2, e = .returned (.tuple #[v1, v2, .int .i64 0]) ∧ RefAt w' v1 (x.tdiv y) ∧ RefAt w' v2 (x.tmod y) ∧ Below w.heap.size w w'
def IsDivsR (w w' : World) (x y : Nat) (e : Ending) : Prop := ∃ A1 c1 d1 A2 c2 d2, e = .returned (.tuple #[.slice A1 (List.length d1) c1, .slice A2 (List.length d2) c2]) ∧ Digs w' A1 c1 d1 (x / y) ∧ Digs w' A2 c2 d2 (x % y) ∧ Below w.heap.size w w'
theorem divided_all (A : Option Addr) (c : Nat) (xs : List Nat) (A' : Option Addr) (c' : Nat) (ys : List Nat) (x y : Nat) (w : World) (hx : Digs w A c xs x) (hy : Digs w A' c' ys y) (hl : xs.length ≤ 100000) (hl2 : ys.length ≤ 100000) (h0 : 0 < y) :
    Calls Tryz.prog 121 #[.slice A xs.length c, .slice A' ys.length c'] w fun e w' => IsDivsR w w' x y e := by
  have h := divided_any A c xs A' c' ys w hx.2.1 hy.2.1 hx.2.2.1 hy.2.2.1 (by rw [hy.2.2.2.2]; exact h0) hl hl2
  rw [hx.2.2.2.2, hy.2.2.2.2] at h
  exact h.mono fun e w' ⟨A1, c1, d1, A2, c2, d2, he, h1, h2, _, hb⟩ => ⟨A1, c1, d1, A2, c2, d2, he, h1, h2, hb⟩
theorem rdivide_stt (A1 : Option Addr) (c1 : Nat) (zs1 : List Nat) (A2 : Option Addr) (c2 : Nat) (zs2 : List Nat) (x y : Int) (w : World) (hs1 : SignOf true x) (hs2 : SignOf true y)
    (h1 : Digs w A1 c1 zs1 x.natAbs) (h2 : Digs w A2 c2 zs2 y.natAbs) (hl1 : zs1.length ≤ 100000) (hl2 : zs2.length ≤ 100000) (hy0 : y ≠ 0) :
    Calls Tryz.prog 83 #[.agg #[.bool true, .slice A1 zs1.length c1], .agg #[.bool true, .slice A2 zs2.length c2]] w fun e w' => IsQuoRemR w w' x y e := by
  have hd0 : 0 < y.natAbs := by omega
  have hbb := (begun2_below w (.bool true) (.slice A1 zs1.length c1) (.bool true) (.slice A2 zs2.length c2) 34).alloc (begun2_below w (.bool true) (.slice A1 zs1.length c1) (.bool true) (.slice A2 zs2.length c2) 34).size (.cells #[.bool false, .slice none 0 0] 34)
  have hsz0 := begun2_size w (.bool true) (.slice A1 zs1.length c1) (.bool true) (.slice A2 zs2.length c2) 34
  have hx0 := (begun2_x w (.bool true) (.slice A1 zs1.length c1) (.bool true) (.slice A2 zs2.length c2) 34).alloc (by omega) (.cells #[.bool false, .slice none 0 0] 34)
  have hy0 := (begun2_y w (.bool true) (.slice A1 zs1.length c1) (.bool true) (.slice A2 zs2.length c2) 34).alloc (by omega) (.cells #[.bool false, .slice none 0 0] 34)
  have hr0 := (begun2_r w (.bool true) (.slice A1 zs1.length c1) (.bool true) (.slice A2 zs2.length c2) 34).step ((Below.refl _ _).alloc (Nat.le_refl _) (.cells #[.bool false, .slice none 0 0] 34)) rfl (by omega)
  have hq0 := Res.new (begun2 w (.bool true) (.slice A1 zs1.length c1) (.bool true) (.slice A2 zs2.length c2) 34) 34
  rw [hsz0] at hq0
  have hsz : (begun4 w (.bool true) (.slice A1 zs1.length c1) (.bool true) (.slice A2 zs2.length c2) 34).heap.size = w.heap.size + 4 := by unfold begun4; rw [size_alloc, hsz0]
  have hi2 : RefAt (begun4 w (.bool true) (.slice A1 zs1.length c1) (.bool true) (.slice A2 zs2.length c2) 34) (.agg #[.bool true, .slice A2 zs2.length c2]) y := ⟨true, A2, c2, zs2, rfl, hs2, h2.below hbb⟩
  have hl2' := h2.below hbb
  have hl1' := h1.below hbb
  have hyb : y.natAbs < BD ^ zs2.length := by rw [← h2.2.2.2.2]; exact Lm.val_lt h2.2.2.1
  have hsg := RSign_any _ y zs2.length _ hi2 (by omega) hyb
  have hyn : (y.sign == 0) = false := by rw [beq_eq_false_iff_ne]; intro h; have := Int.sign_eq_zero_iff_zero.1 h; omega
  have H := Lib.hid (And.intro hbb (And.intro hx0 (And.intro hy0 (And.intro hr0 (And.intro hq0 (And.intro hsz (And.intro hsg (And.intro hl1' (And.intro hl2' hd0)))))))))
  have tok1 : True := trivial
  clear hbb hsz0 hx0 hy0 hr0 hq0 hsz hi2 hl2' hl1' hyb hsg hd0
  go_enter Tryz.func83, Tryz.ntmps83
  go_wp2_with fail
  refine H.out.2.2.2.2.2.2.1.mono ?_
  rintro e w1 ⟨rfl, hb1⟩
  have j1 : w.heap.size + 4 ≤ w1.heap.size := Nat.le_trans (Nat.le_of_eq H.out.2.2.2.2.2.1.symm) hb1.size
  have k1x := H.out.2.1.step hb1 rfl (Nat.lt_of_lt_of_eq (m := w.heap.size + 4) (by omega) H.out.2.2.2.2.2.1.symm)
  have k1y := H.out.2.2.1.step hb1 rfl (Nat.lt_of_lt_of_eq (m := w.heap.size + 4) (by omega) H.out.2.2.2.2.2.1.symm)
  have k1r := H.out.2.2.2.1.step hb1 rfl (Nat.lt_of_lt_of_eq (m := w.heap.size + 4) (by omega) H.out.2.2.2.2.2.1.symm)
  have k1q := H.out.2.2.2.2.1.step hb1 rfl (Nat.lt_of_lt_of_eq (m := w.heap.size + 4) (by omega) H.out.2.2.2.2.2.1.symm)
  obtain ⟨px0, px1⟩ := id k1x
  obtain ⟨py0, py1⟩ := id k1y
  have hdv := divided_all A1 c1 zs1 A2 c2 zs2 x.natAbs y.natAbs w1 (H.out.2.2.2.2.2.2.2.1.step hb1 rfl) (H.out.2.2.2.2.2.2.2.2.1.step hb1 rfl) hl1 hl2 H.out.2.2.2.2.2.2.2.2.2
  have HD := Lib.hid hdv
  clear hdv
  go_wp2_with fail
  refine HD.out.mono ?_
  rintro e w2 ⟨Aq, cq, zq, Ar, cr, zr, rfl, hq, hr, hb2⟩
  have j2 : w.heap.size + 4 ≤ w2.heap.size := Nat.le_trans j1 hb2.size
  have k2x := k1x.step hb2 rfl (by omega)
  have k2y := k1y.step hb2 rfl (by omega)
  have k2r := k1r.step hb2 rfl (by omega)
  have k2q := k1q.step hb2 rfl (by omega)
  have hlq : zq.length ≤ 1000000 := by have := rsmall_len (m := 100000) hq zs1 h1.2.2.1 (by rw [h1.2.2.2.2]; exact Nat.div_le_self _ _) hl1; omega
  have hlr : zr.length ≤ 1000000 := by have := rsmall_len (m := 100000) hr zs1 h1.2.2.1 (by rw [h1.2.2.2.2]; exact Nat.mod_le _ _) hl1; omega
  clear px0 px1 py0 py1
  obtain ⟨px0, px1⟩ := id k2x
  obtain ⟨py0, py1⟩ := id k2y
  go_wp2_with fail
  go_region_held3 (fun w' => w'.cell? ⟨w.heap.size, 0, none⟩ = some (.bool true) ∧ w'.cell? ⟨w.heap.size + 1, 0, none⟩ = some (.bool true))
    (((try dsimp only); (repeat' apply And.intro) <;> (first | (with_reducible assumption) | go_keep)))
    ((first | (go_at_call 118; have _t := tok1; refine (made_to false Aq cq zq (x.tdiv y) _ (by exact hq.2.1) hq.2.2.1 hlq hq.1 (by rw [hq.2.2.2.2]; exact div_parts hs1 hs2 rfl)).mono ?_; rintro e w3 ⟨v3, rfl, ⟨b3, A3, c3, zs3, rfl, hsg3, hl3⟩, hb3⟩; clear tok1; have j3 : w.heap.size + 4 ≤ w3.heap.size := Nat.le_trans j2 hb3.size; have k3x := k2x.step hb3 rfl (by omega); have k3y := k2y.step hb3 rfl (by omega); have k3r := k2r.step hb3 rfl (by omega); have k3q := k2q.step hb3 rfl (by omega); have hr3 := hr.step hb3 rfl; obtain ⟨qx0, qx1⟩ := id k3x; obtain ⟨qy0, qy1⟩ := id k3y) | (go_at_call 118; refine (made_to true Ar cr zr (x.tmod y) _ (by exact hr3.2.1) hr3.2.2.1 hlr hr3.1 (by rw [hr3.2.2.2.2]; exact mod_parts hs1)).mono ?_; rintro e w4 ⟨v4, rfl, ⟨b4, A4, c4, zs4, rfl, hsg4, hl4⟩, hb4⟩; have k4x := k3x.step hb4 rfl (by omega); have k4y := k3y.step hb4 rfl (by omega); have k4r := k3r.step hb4 rfl (by omega); have k4q := k3q.step hb4 rfl (by omega); have hl3' := hl3.step hb4 rfl; obtain ⟨sx0, sx1⟩ := id k4x; obtain ⟨sy0, sy1⟩ := id k4y; obtain ⟨⟨hr0, hr1⟩, hf0, hf1⟩ := id k4r; obtain ⟨⟨hq0, hq1⟩, hg0, hg1⟩ := id k4q; have m1 := k4x.far (r := w.heap.size + 2) (by omega) (.bool b3) (.slice A3 zs3.length c3); have m2 := k4y.far (r := w.heap.size + 2) (by omega) (.bool b3) (.slice A3 zs3.length c3); have m3 := m1.far (r := w.heap.size + 3) (by omega) (.bool b4) (.slice A4 zs4.length c4); have m4 := m2.far (r := w.heap.size + 3) (by omega) (.bool b4) (.slice A4 zs4.length c4); obtain ⟨m1a, m1b⟩ := id m1; obtain ⟨m2a, m2b⟩ := id m2; obtain ⟨m3a, m3b⟩ := id m3; obtain ⟨m4a, m4b⟩ := id m4)))
  go_wp2
  have e1 := (k4r.1.stored (.bool b3) (.slice A3 zs3.length c3)).far (r := w.heap.size + 3) (by omega) (.bool b4) (.slice A4 zs4.length c4)
  have e0 := k4q.1.far (r := w.heap.size + 2) (by omega) (.bool b3) (.slice A3 zs3.length c3)
  have e2 := e0.stored (.bool b4) (.slice A4 zs4.length c4)
  obtain ⟨e1a, e1b⟩ := id e1
  obtain ⟨e2a, e2b⟩ := id e2
  have hn3 := (hl3'.2.1.res k4r.1 (.bool b3) (.slice A3 zs3.length c3)).res e0 (.bool b4) (.slice A4 zs4.length c4)
  have hn4 := (hl4.2.1.res k4r.1 (.bool b3) (.slice A3 zs3.length c3)).res e0 (.bool b4) (.slice A4 zs4.length c4)
  have hbe := below_then (below_then (begun_then (begun_then H.out.1 hb1 rfl rfl rfl rfl) hb2 rfl rfl rfl rfl) ⟨hb3.os, hb3.tape, hb3.output, hb3.size, hb3.block⟩) hb4
  refine bodyPost_ret (v := .tuple #[.agg #[.bool b3, .slice A3 zs3.length c3], .agg #[.bool b4, .slice A4 zs4.length c4], .int .i64 0]) (by simp [results, Tryz.results83, go_sem, e1a, e1b, e2a, e2b]) rfl ?_
  exact ⟨_, _, rfl, ⟨b3, A3, c3, zs3, rfl, hsg3, hl3'.1, hn3, hl3'.2.2⟩, ⟨b4, A4, c4, zs4, rfl, hsg4, hl4.1, hn4, hl4.2.2⟩,
    (((hbe.setCell (p := ⟨w.heap.size + 2, 0, none⟩) (by simp) _).setCell (p := ⟨w.heap.size + 2, 1, none⟩) (by simp) _).setCell (p := ⟨w.heap.size + 3, 0, none⟩) (by simp) _).setCell (p := ⟨w.heap.size + 3, 1, none⟩) (by simp) _⟩
theorem rdivide_stf (A1 : Option Addr) (c1 : Nat) (zs1 : List Nat) (A2 : Option Addr) (c2 : Nat) (zs2 : List Nat) (x y : Int) (w : World) (hs1 : SignOf true x) (hs2 : SignOf false y)
    (h1 : Digs w A1 c1 zs1 x.natAbs) (h2 : Digs w A2 c2 zs2 y.natAbs) (hl1 : zs1.length ≤ 100000) (hl2 : zs2.length ≤ 100000) (hy0 : y ≠ 0) :
    Calls Tryz.prog 83 #[.agg #[.bool true, .slice A1 zs1.length c1], .agg #[.bool false, .slice A2 zs2.length c2]] w fun e w' => IsQuoRemR w w' x y e := by
  have hd0 : 0 < y.natAbs := by omega
  have hbb := (begun2_below w (.bool true) (.slice A1 zs1.length c1) (.bool false) (.slice A2 zs2.length c2) 34).alloc (begun2_below w (.bool true) (.slice A1 zs1.length c1) (.bool false) (.slice A2 zs2.length c2) 34).size (.cells #[.bool false, .slice none 0 0] 34)
  have hsz0 := begun2_size w (.bool true) (.slice A1 zs1.length c1) (.bool false) (.slice A2 zs2.length c2) 34
  have hx0 := (begun2_x w (.bool true) (.slice A1 zs1.length c1) (.bool false) (.slice A2 zs2.length c2) 34).alloc (by omega) (.cells #[.bool false, .slice none 0 0] 34)
  have hy0 := (begun2_y w (.bool true) (.slice A1 zs1.length c1) (.bool false) (.slice A2 zs2.length c2) 34).alloc (by omega) (.cells #[.bool false, .slice none 0 0] 34)
  have hr0 := (begun2_r w (.bool true) (.slice A1 zs1.length c1) (.bool false) (.slice A2 zs2.length c2) 34).step ((Below.refl _ _).alloc (Nat.le_refl _) (.cells #[.bool false, .slice none 0 0] 34)) rfl (by omega)
  have hq0 := Res.new (begun2 w (.bool true) (.slice A1 zs1.length c1) (.bool false) (.slice A2 zs2.length c2) 34) 34
  rw [hsz0] at hq0
  have hsz : (begun4 w (.bool true) (.slice A1 zs1.length c1) (.bool false) (.slice A2 zs2.length c2) 34).heap.size = w.heap.size + 4 := by unfold begun4; rw [size_alloc, hsz0]
  have hi2 : RefAt (begun4 w (.bool true) (.slice A1 zs1.length c1) (.bool false) (.slice A2 zs2.length c2) 34) (.agg #[.bool false, .slice A2 zs2.length c2]) y := ⟨false, A2, c2, zs2, rfl, hs2, h2.below hbb⟩
  have hl2' := h2.below hbb
  have hl1' := h1.below hbb
  have hyb : y.natAbs < BD ^ zs2.length := by rw [← h2.2.2.2.2]; exact Lm.val_lt h2.2.2.1
  have hsg := RSign_any _ y zs2.length _ hi2 (by omega) hyb
  have hyn : (y.sign == 0) = false := by rw [beq_eq_false_iff_ne]; intro h; have := Int.sign_eq_zero_iff_zero.1 h; omega
  have H := Lib.hid (And.intro hbb (And.intro hx0 (And.intro hy0 (And.intro hr0 (And.intro hq0 (And.intro hsz (And.intro hsg (And.intro hl1' (And.intro hl2' hd0)))))))))
  have tok1 : True := trivial
  clear hbb hsz0 hx0 hy0 hr0 hq0 hsz hi2 hl2' hl1' hyb hsg hd0
  go_enter Tryz.func83, Tryz.ntmps83
  go_wp2_with fail
  refine H.out.2.2.2.2.2.2.1.mono ?_
  rintro e w1 ⟨rfl, hb1⟩
  have j1 : w.heap.size + 4 ≤ w1.heap.size := Nat.le_trans (Nat.le_of_eq H.out.2.2.2.2.2.1.symm) hb1.size
  have k1x := H.out.2.1.step hb1 rfl (Nat.lt_of_lt_of_eq (m := w.heap.size + 4) (by omega) H.out.2.2.2.2.2.1.symm)
  have k1y := H.out.2.2.1.step hb1 rfl (Nat.lt_of_lt_of_eq (m := w.heap.size + 4) (by omega) H.out.2.2.2.2.2.1.symm)
  have k1r := H.out.2.2.2.1.step hb1 rfl (Nat.lt_of_lt_of_eq (m := w.heap.size + 4) (by omega) H.out.2.2.2.2.2.1.symm)
  have k1q := H.out.2.2.2.2.1.step hb1 rfl (Nat.lt_of_lt_of_eq (m := w.heap.size + 4) (by omega) H.out.2.2.2.2.2.1.symm)
  obtain ⟨px0, px1⟩ := id k1x
  obtain ⟨py0, py1⟩ := id k1y
  have hdv := divided_all A1 c1 zs1 A2 c2 zs2 x.natAbs y.natAbs w1 (H.out.2.2.2.2.2.2.2.1.step hb1 rfl) (H.out.2.2.2.2.2.2.2.2.1.step hb1 rfl) hl1 hl2 H.out.2.2.2.2.2.2.2.2.2
  have HD := Lib.hid hdv
  clear hdv
  go_wp2_with fail
  refine HD.out.mono ?_
  rintro e w2 ⟨Aq, cq, zq, Ar, cr, zr, rfl, hq, hr, hb2⟩
  have j2 : w.heap.size + 4 ≤ w2.heap.size := Nat.le_trans j1 hb2.size
  have k2x := k1x.step hb2 rfl (by omega)
  have k2y := k1y.step hb2 rfl (by omega)
  have k2r := k1r.step hb2 rfl (by omega)
  have k2q := k1q.step hb2 rfl (by omega)
  have hlq : zq.length ≤ 1000000 := by have := rsmall_len (m := 100000) hq zs1 h1.2.2.1 (by rw [h1.2.2.2.2]; exact Nat.div_le_self _ _) hl1; omega
  have hlr : zr.length ≤ 1000000 := by have := rsmall_len (m := 100000) hr zs1 h1.2.2.1 (by rw [h1.2.2.2.2]; exact Nat.mod_le _ _) hl1; omega
  clear px0 px1 py0 py1
  obtain ⟨px0, px1⟩ := id k2x
  obtain ⟨py0, py1⟩ := id k2y
  go_wp2_with fail
  go_region_held3 (fun w' => w'.cell? ⟨w.heap.size, 0, none⟩ = some (.bool true) ∧ w'.cell? ⟨w.heap.size + 1, 0, none⟩ = some (.bool false))
    (((try dsimp only); (repeat' apply And.intro) <;> (first | (with_reducible assumption) | go_keep)))
    ((first | (go_at_call 118; have _t := tok1; refine (made_to true Aq cq zq (x.tdiv y) _ (by exact hq.2.1) hq.2.2.1 hlq hq.1 (by rw [hq.2.2.2.2]; exact div_parts hs1 hs2 rfl)).mono ?_; rintro e w3 ⟨v3, rfl, ⟨b3, A3, c3, zs3, rfl, hsg3, hl3⟩, hb3⟩; clear tok1; have j3 : w.heap.size + 4 ≤ w3.heap.size := Nat.le_trans j2 hb3.size; have k3x := k2x.step hb3 rfl (by omega); have k3y := k2y.step hb3 rfl (by omega); have k3r := k2r.step hb3 rfl (by omega); have k3q := k2q.step hb3 rfl (by omega); have hr3 := hr.step hb3 rfl; obtain ⟨qx0, qx1⟩ := id k3x; obtain ⟨qy0, qy1⟩ := id k3y) | (go_at_call 118; refine (made_to true Ar cr zr (x.tmod y) _ (by exact hr3.2.1) hr3.2.2.1 hlr hr3.1 (by rw [hr3.2.2.2.2]; exact mod_parts hs1)).mono ?_; rintro e w4 ⟨v4, rfl, ⟨b4, A4, c4, zs4, rfl, hsg4, hl4⟩, hb4⟩; have k4x := k3x.step hb4 rfl (by omega); have k4y := k3y.step hb4 rfl (by omega); have k4r := k3r.step hb4 rfl (by omega); have k4q := k3q.step hb4 rfl (by omega); have hl3' := hl3.step hb4 rfl; obtain ⟨sx0, sx1⟩ := id k4x; obtain ⟨sy0, sy1⟩ := id k4y; obtain ⟨⟨hr0, hr1⟩, hf0, hf1⟩ := id k4r; obtain ⟨⟨hq0, hq1⟩, hg0, hg1⟩ := id k4q; have m1 := k4x.far (r := w.heap.size + 2) (by omega) (.bool b3) (.slice A3 zs3.length c3); have m2 := k4y.far (r := w.heap.size + 2) (by omega) (.bool b3) (.slice A3 zs3.length c3); have m3 := m1.far (r := w.heap.size + 3) (by omega) (.bool b4) (.slice A4 zs4.length c4); have m4 := m2.far (r := w.heap.size + 3) (by omega) (.bool b4) (.slice A4 zs4.length c4); obtain ⟨m1a, m1b⟩ := id m1; obtain ⟨m2a, m2b⟩ := id m2; obtain ⟨m3a, m3b⟩ := id m3; obtain ⟨m4a, m4b⟩ := id m4)))
  go_wp2
  have e1 := (k4r.1.stored (.bool b3) (.slice A3 zs3.length c3)).far (r := w.heap.size + 3) (by omega) (.bool b4) (.slice A4 zs4.length c4)
  have e0 := k4q.1.far (r := w.heap.size + 2) (by omega) (.bool b3) (.slice A3 zs3.length c3)
  have e2 := e0.stored (.bool b4) (.slice A4 zs4.length c4)
  obtain ⟨e1a, e1b⟩ := id e1
  obtain ⟨e2a, e2b⟩ := id e2
  have hn3 := (hl3'.2.1.res k4r.1 (.bool b3) (.slice A3 zs3.length c3)).res e0 (.bool b4) (.slice A4 zs4.length c4)
  have hn4 := (hl4.2.1.res k4r.1 (.bool b3) (.slice A3 zs3.length c3)).res e0 (.bool b4) (.slice A4 zs4.length c4)
  have hbe := below_then (below_then (begun_then (begun_then H.out.1 hb1 rfl rfl rfl rfl) hb2 rfl rfl rfl rfl) ⟨hb3.os, hb3.tape, hb3.output, hb3.size, hb3.block⟩) hb4
  refine bodyPost_ret (v := .tuple #[.agg #[.bool b3, .slice A3 zs3.length c3], .agg #[.bool b4, .slice A4 zs4.length c4], .int .i64 0]) (by simp [results, Tryz.results83, go_sem, e1a, e1b, e2a, e2b]) rfl ?_
  exact ⟨_, _, rfl, ⟨b3, A3, c3, zs3, rfl, hsg3, hl3'.1, hn3, hl3'.2.2⟩, ⟨b4, A4, c4, zs4, rfl, hsg4, hl4.1, hn4, hl4.2.2⟩,
    (((hbe.setCell (p := ⟨w.heap.size + 2, 0, none⟩) (by simp) _).setCell (p := ⟨w.heap.size + 2, 1, none⟩) (by simp) _).setCell (p := ⟨w.heap.size + 3, 0, none⟩) (by simp) _).setCell (p := ⟨w.heap.size + 3, 1, none⟩) (by simp) _⟩
theorem rdivide_sft (A1 : Option Addr) (c1 : Nat) (zs1 : List Nat) (A2 : Option Addr) (c2 : Nat) (zs2 : List Nat) (x y : Int) (w : World) (hs1 : SignOf false x) (hs2 : SignOf true y)
    (h1 : Digs w A1 c1 zs1 x.natAbs) (h2 : Digs w A2 c2 zs2 y.natAbs) (hl1 : zs1.length ≤ 100000) (hl2 : zs2.length ≤ 100000) (hy0 : y ≠ 0) :
    Calls Tryz.prog 83 #[.agg #[.bool false, .slice A1 zs1.length c1], .agg #[.bool true, .slice A2 zs2.length c2]] w fun e w' => IsQuoRemR w w' x y e := by
  have hd0 : 0 < y.natAbs := by omega
  have hbb := (begun2_below w (.bool false) (.slice A1 zs1.length c1) (.bool true) (.slice A2 zs2.length c2) 34).alloc (begun2_below w (.bool false) (.slice A1 zs1.length c1) (.bool true) (.slice A2 zs2.length c2) 34).size (.cells #[.bool false, .slice none 0 0] 34)
  have hsz0 := begun2_size w (.bool false) (.slice A1 zs1.length c1) (.bool true) (.slice A2 zs2.length c2) 34
  have hx0 := (begun2_x w (.bool false) (.slice A1 zs1.length c1) (.bool true) (.slice A2 zs2.length c2) 34).alloc (by omega) (.cells #[.bool false, .slice none 0 0] 34)
  have hy0 := (begun2_y w (.bool false) (.slice A1 zs1.length c1) (.bool true) (.slice A2 zs2.length c2) 34).alloc (by omega) (.cells #[.bool false, .slice none 0 0] 34)
  have hr0 := (begun2_r w (.bool false) (.slice A1 zs1.length c1) (.bool true) (.slice A2 zs2.length c2) 34).step ((Below.refl _ _).alloc (Nat.le_refl _) (.cells #[.bool false, .slice none 0 0] 34)) rfl (by omega)
  have hq0 := Res.new (begun2 w (.bool false) (.slice A1 zs1.length c1) (.bool true) (.slice A2 zs2.length c2) 34) 34
  rw [hsz0] at hq0
  have hsz : (begun4 w (.bool false) (.slice A1 zs1.length c1) (.bool true) (.slice A2 zs2.length c2) 34).heap.size = w.heap.size + 4 := by unfold begun4; rw [size_alloc, hsz0]
  have hi2 : RefAt (begun4 w (.bool false) (.slice A1 zs1.length c1) (.bool true) (.slice A2 zs2.length c2) 34) (.agg #[.bool true, .slice A2 zs2.length c2]) y := ⟨true, A2, c2, zs2, rfl, hs2, h2.below hbb⟩
  have hl2' := h2.below hbb
  have hl1' := h1.below hbb
  have hyb : y.natAbs < BD ^ zs2.length := by rw [← h2.2.2.2.2]; exact Lm.val_lt h2.2.2.1
  have hsg := RSign_any _ y zs2.length _ hi2 (by omega) hyb
  have hyn : (y.sign == 0) = false := by rw [beq_eq_false_iff_ne]; intro h; have := Int.sign_eq_zero_iff_zero.1 h; omega
  have H := Lib.hid (And.intro hbb (And.intro hx0 (And.intro hy0 (And.intro hr0 (And.intro hq0 (And.intro hsz (And.intro hsg (And.intro hl1' (And.intro hl2' hd0)))))))))
  have tok1 : True := trivial
  clear hbb hsz0 hx0 hy0 hr0 hq0 hsz hi2 hl2' hl1' hyb hsg hd0
  go_enter Tryz.func83, Tryz.ntmps83
  go_wp2_with fail
  refine H.out.2.2.2.2.2.2.1.mono ?_
  rintro e w1 ⟨rfl, hb1⟩
  have j1 : w.heap.size + 4 ≤ w1.heap.size := Nat.le_trans (Nat.le_of_eq H.out.2.2.2.2.2.1.symm) hb1.size
  have k1x := H.out.2.1.step hb1 rfl (Nat.lt_of_lt_of_eq (m := w.heap.size + 4) (by omega) H.out.2.2.2.2.2.1.symm)
  have k1y := H.out.2.2.1.step hb1 rfl (Nat.lt_of_lt_of_eq (m := w.heap.size + 4) (by omega) H.out.2.2.2.2.2.1.symm)
  have k1r := H.out.2.2.2.1.step hb1 rfl (Nat.lt_of_lt_of_eq (m := w.heap.size + 4) (by omega) H.out.2.2.2.2.2.1.symm)
  have k1q := H.out.2.2.2.2.1.step hb1 rfl (Nat.lt_of_lt_of_eq (m := w.heap.size + 4) (by omega) H.out.2.2.2.2.2.1.symm)
  obtain ⟨px0, px1⟩ := id k1x
  obtain ⟨py0, py1⟩ := id k1y
  have hdv := divided_all A1 c1 zs1 A2 c2 zs2 x.natAbs y.natAbs w1 (H.out.2.2.2.2.2.2.2.1.step hb1 rfl) (H.out.2.2.2.2.2.2.2.2.1.step hb1 rfl) hl1 hl2 H.out.2.2.2.2.2.2.2.2.2
  have HD := Lib.hid hdv
  clear hdv
  go_wp2_with fail
  refine HD.out.mono ?_
  rintro e w2 ⟨Aq, cq, zq, Ar, cr, zr, rfl, hq, hr, hb2⟩
  have j2 : w.heap.size + 4 ≤ w2.heap.size := Nat.le_trans j1 hb2.size
  have k2x := k1x.step hb2 rfl (by omega)
  have k2y := k1y.step hb2 rfl (by omega)
  have k2r := k1r.step hb2 rfl (by omega)
  have k2q := k1q.step hb2 rfl (by omega)
  have hlq : zq.length ≤ 1000000 := by have := rsmall_len (m := 100000) hq zs1 h1.2.2.1 (by rw [h1.2.2.2.2]; exact Nat.div_le_self _ _) hl1; omega
  have hlr : zr.length ≤ 1000000 := by have := rsmall_len (m := 100000) hr zs1 h1.2.2.1 (by rw [h1.2.2.2.2]; exact Nat.mod_le _ _) hl1; omega
  clear px0 px1 py0 py1
  obtain ⟨px0, px1⟩ := id k2x
  obtain ⟨py0, py1⟩ := id k2y
  go_wp2_with fail
  go_region_held3 (fun w' => w'.cell? ⟨w.heap.size, 0, none⟩ = some (.bool false) ∧ w'.cell? ⟨w.heap.size + 1, 0, none⟩ = some (.bool true))
    (((try dsimp only); (repeat' apply And.intro) <;> (first | (with_reducible assumption) | go_keep)))
    ((first | (go_at_call 118; have _t := tok1; refine (made_to true Aq cq zq (x.tdiv y) _ (by exact hq.2.1) hq.2.2.1 hlq hq.1 (by rw [hq.2.2.2.2]; exact div_parts hs1 hs2 rfl)).mono ?_; rintro e w3 ⟨v3, rfl, ⟨b3, A3, c3, zs3, rfl, hsg3, hl3⟩, hb3⟩; clear tok1; have j3 : w.heap.size + 4 ≤ w3.heap.size := Nat.le_trans j2 hb3.size; have k3x := k2x.step hb3 rfl (by omega); have k3y := k2y.step hb3 rfl (by omega); have k3r := k2r.step hb3 rfl (by omega); have k3q := k2q.step hb3 rfl (by omega); have hr3 := hr.step hb3 rfl; obtain ⟨qx0, qx1⟩ := id k3x; obtain ⟨qy0, qy1⟩ := id k3y) | (go_at_call 118; refine (made_to false Ar cr zr (x.tmod y) _ (by exact hr3.2.1) hr3.2.2.1 hlr hr3.1 (by rw [hr3.2.2.2.2]; exact mod_parts hs1)).mono ?_; rintro e w4 ⟨v4, rfl, ⟨b4, A4, c4, zs4, rfl, hsg4, hl4⟩, hb4⟩; have k4x := k3x.step hb4 rfl (by omega); have k4y := k3y.step hb4 rfl (by omega); have k4r := k3r.step hb4 rfl (by omega); have k4q := k3q.step hb4 rfl (by omega); have hl3' := hl3.step hb4 rfl; obtain ⟨sx0, sx1⟩ := id k4x; obtain ⟨sy0, sy1⟩ := id k4y; obtain ⟨⟨hr0, hr1⟩, hf0, hf1⟩ := id k4r; obtain ⟨⟨hq0, hq1⟩, hg0, hg1⟩ := id k4q; have m1 := k4x.far (r := w.heap.size + 2) (by omega) (.bool b3) (.slice A3 zs3.length c3); have m2 := k4y.far (r := w.heap.size + 2) (by omega) (.bool b3) (.slice A3 zs3.length c3); have m3 := m1.far (r := w.heap.size + 3) (by omega) (.bool b4) (.slice A4 zs4.length c4); have m4 := m2.far (r := w.heap.size + 3) (by omega) (.bool b4) (.slice A4 zs4.length c4); obtain ⟨m1a, m1b⟩ := id m1; obtain ⟨m2a, m2b⟩ := id m2; obtain ⟨m3a, m3b⟩ := id m3; obtain ⟨m4a, m4b⟩ := id m4)))
  go_wp2
  have e1 := (k4r.1.stored (.bool b3) (.slice A3 zs3.length c3)).far (r := w.heap.size + 3) (by omega) (.bool b4) (.slice A4 zs4.length c4)
  have e0 := k4q.1.far (r := w.heap.size + 2) (by omega) (.bool b3) (.slice A3 zs3.length c3)
  have e2 := e0.stored (.bool b4) (.slice A4 zs4.length c4)
  obtain ⟨e1a, e1b⟩ := id e1
  obtain ⟨e2a, e2b⟩ := id e2
  have hn3 := (hl3'.2.1.res k4r.1 (.bool b3) (.slice A3 zs3.length c3)).res e0 (.bool b4) (.slice A4 zs4.length c4)
  have hn4 := (hl4.2.1.res k4r.1 (.bool b3) (.slice A3 zs3.length c3)).res e0 (.bool b4) (.slice A4 zs4.length c4)
  have hbe := below_then (below_then (begun_then (begun_then H.out.1 hb1 rfl rfl rfl rfl) hb2 rfl rfl rfl rfl) ⟨hb3.os, hb3.tape, hb3.output, hb3.size, hb3.block⟩) hb4
  refine bodyPost_ret (v := .tuple #[.agg #[.bool b3, .slice A3 zs3.length c3], .agg #[.bool b4, .slice A4 zs4.length c4], .int .i64 0]) (by simp [results, Tryz.results83, go_sem, e1a, e1b, e2a, e2b]) rfl ?_
  exact ⟨_, _, rfl, ⟨b3, A3, c3, zs3, rfl, hsg3, hl3'.1, hn3, hl3'.2.2⟩, ⟨b4, A4, c4, zs4, rfl, hsg4, hl4.1, hn4, hl4.2.2⟩,
    (((hbe.setCell (p := ⟨w.heap.size + 2, 0, none⟩) (by simp) _).setCell (p := ⟨w.heap.size + 2, 1, none⟩) (by simp) _).setCell (p := ⟨w.heap.size + 3, 0, none⟩) (by simp) _).setCell (p := ⟨w.heap.size + 3, 1, none⟩) (by simp) _⟩
theorem rdivide_sff (A1 : Option Addr) (c1 : Nat) (zs1 : List Nat) (A2 : Option Addr) (c2 : Nat) (zs2 : List Nat) (x y : Int) (w : World) (hs1 : SignOf false x) (hs2 : SignOf false y)
    (h1 : Digs w A1 c1 zs1 x.natAbs) (h2 : Digs w A2 c2 zs2 y.natAbs) (hl1 : zs1.length ≤ 100000) (hl2 : zs2.length ≤ 100000) (hy0 : y ≠ 0) :
    Calls Tryz.prog 83 #[.agg #[.bool false, .slice A1 zs1.length c1], .agg #[.bool false, .slice A2 zs2.length c2]] w fun e w' => IsQuoRemR w w' x y e := by
  have hd0 : 0 < y.natAbs := by omega
  have hbb := (begun2_below w (.bool false) (.slice A1 zs1.length c1) (.bool false) (.slice A2 zs2.length c2) 34).alloc (begun2_below w (.bool false) (.slice A1 zs1.length c1) (.bool false) (.slice A2 zs2.length c2) 34).size (.cells #[.bool false, .slice none 0 0] 34)
  have hsz0 := begun2_size w (.bool false) (.slice A1 zs1.length c1) (.bool false) (.slice A2 zs2.length c2) 34
  have hx0 := (begun2_x w (.bool false) (.slice A1 zs1.length c1) (.bool false) (.slice A2 zs2.length c2) 34).alloc (by omega) (.cells #[.bool false, .slice none 0 0] 34)
  have hy0 := (begun2_y w (.bool false) (.slice A1 zs1.length c1) (.bool false) (.slice A2 zs2.length c2) 34).alloc (by omega) (.cells #[.bool false, .slice none 0 0] 34)
  have hr0 := (begun2_r w (.bool false) (.slice A1 zs1.length c1) (.bool false) (.slice A2 zs2.length c2) 34).step ((Below.refl _ _).alloc (Nat.le_refl _) (.cells #[.bool false, .slice none 0 0] 34)) rfl (by omega)
  have hq0 := Res.new (begun2 w (.bool false) (.slice A1 zs1.length c1) (.bool false) (.slice A2 zs2.length c2) 34) 34
  rw [hsz0] at hq0
  have hsz : (begun4 w (.bool false) (.slice A1 zs1.length c1) (.bool false) (.slice A2 zs2.length c2) 34).heap.size = w.heap.size + 4 := by unfold begun4; rw [size_alloc, hsz0]
  have hi2 : RefAt (begun4 w (.bool false) (.slice A1 zs1.length c1) (.bool false) (.slice A2 zs2.length c2) 34) (.agg #[.bool false, .slice A2 zs2.length c2]) y := ⟨false, A2, c2, zs2, rfl, hs2, h2.below hbb⟩
  have hl2' := h2.below hbb
  have hl1' := h1.below hbb
  have hyb : y.natAbs < BD ^ zs2.length := by rw [← h2.2.2.2.2]; exact Lm.val_lt h2.2.2.1
  have hsg := RSign_any _ y zs2.length _ hi2 (by omega) hyb
  have hyn : (y.sign == 0) = false := by rw [beq_eq_false_iff_ne]; intro h; have := Int.sign_eq_zero_iff_zero.1 h; omega
  have H := Lib.hid (And.intro hbb (And.intro hx0 (And.intro hy0 (And.intro hr0 (And.intro hq0 (And.intro hsz (And.intro hsg (And.intro hl1' (And.intro hl2' hd0)))))))))
  have tok1 : True := trivial
  clear hbb hsz0 hx0 hy0 hr0 hq0 hsz hi2 hl2' hl1' hyb hsg hd0
  go_enter Tryz.func83, Tryz.ntmps83
  go_wp2_with fail
  refine H.out.2.2.2.2.2.2.1.mono ?_
  rintro e w1 ⟨rfl, hb1⟩
  have j1 : w.heap.size + 4 ≤ w1.heap.size := Nat.le_trans (Nat.le_of_eq H.out.2.2.2.2.2.1.symm) hb1.size
  have k1x := H.out.2.1.step hb1 rfl (Nat.lt_of_lt_of_eq (m := w.heap.size + 4) (by omega) H.out.2.2.2.2.2.1.symm)
  have k1y := H.out.2.2.1.step hb1 rfl (Nat.lt_of_lt_of_eq (m := w.heap.size + 4) (by omega) H.out.2.2.2.2.2.1.symm)
  have k1r := H.out.2.2.2.1.step hb1 rfl (Nat.lt_of_lt_of_eq (m := w.heap.size + 4) (by omega) H.out.2.2.2.2.2.1.symm)
  have k1q := H.out.2.2.2.2.1.step hb1 rfl (Nat.lt_of_lt_of_eq (m := w.heap.size + 4) (by omega) H.out.2.2.2.2.2.1.symm)
  obtain ⟨px0, px1⟩ := id k1x
  obtain ⟨py0, py1⟩ := id k1y
  have hdv := divided_all A1 c1 zs1 A2 c2 zs2 x.natAbs y.natAbs w1 (H.out.2.2.2.2.2.2.2.1.step hb1 rfl) (H.out.2.2.2.2.2.2.2.2.1.step hb1 rfl) hl1 hl2 H.out.2.2.2.2.2.2.2.2.2
  have HD := Lib.hid hdv
  clear hdv
  go_wp2_with fail
  refine HD.out.mono ?_
  rintro e w2 ⟨Aq, cq, zq, Ar, cr, zr, rfl, hq, hr, hb2⟩
  have j2 : w.heap.size + 4 ≤ w2.heap.size := Nat.le_trans j1 hb2.size
  have k2x := k1x.step hb2 rfl (by omega)
  have k2y := k1y.step hb2 rfl (by omega)
  have k2r := k1r.step hb2 rfl (by omega)
  have k2q := k1q.step hb2 rfl (by omega)
  have hlq : zq.length ≤ 1000000 := by have := rsmall_len (m := 100000) hq zs1 h1.2.2.1 (by rw [h1.2.2.2.2]; exact Nat.div_le_self _ _) hl1; omega
  have hlr : zr.length ≤ 1000000 := by have := rsmall_len (m := 100000) hr zs1 h1.2.2.1 (by rw [h1.2.2.2.2]; exact Nat.mod_le _ _) hl1; omega
  clear px0 px1 py0 py1
  obtain ⟨px0, px1⟩ := id k2x
  obtain ⟨py0, py1⟩ := id k2y
  go_wp2_with fail
  go_region_held3 (fun w' => w'.cell? ⟨w.heap.size, 0, none⟩ = some (.bool false) ∧ w'.cell? ⟨w.heap.size + 1, 0, none⟩ = some (.bool false))
    (((try dsimp only); (repeat' apply And.intro) <;> (first | (with_reducible assumption) | go_keep)))
    ((first | (go_at_call 118; have _t := tok1; refine (made_to false Aq cq zq (x.tdiv y) _ (by exact hq.2.1) hq.2.2.1 hlq hq.1 (by rw [hq.2.2.2.2]; exact div_parts hs1 hs2 rfl)).mono ?_; rintro e w3 ⟨v3, rfl, ⟨b3, A3, c3, zs3, rfl, hsg3, hl3⟩, hb3⟩; clear tok1; have j3 : w.heap.size + 4 ≤ w3.heap.size := Nat.le_trans j2 hb3.size; have k3x := k2x.step hb3 rfl (by omega); have k3y := k2y.step hb3 rfl (by omega); have k3r := k2r.step hb3 rfl (by omega); have k3q := k2q.step hb3 rfl (by omega); have hr3 := hr.step hb3 rfl; obtain ⟨qx0, qx1⟩ := id k3x; obtain ⟨qy0, qy1⟩ := id k3y) | (go_at_call 118; refine (made_to false Ar cr zr (x.tmod y) _ (by exact hr3.2.1) hr3.2.2.1 hlr hr3.1 (by rw [hr3.2.2.2.2]; exact mod_parts hs1)).mono ?_; rintro e w4 ⟨v4, rfl, ⟨b4, A4, c4, zs4, rfl, hsg4, hl4⟩, hb4⟩; have k4x := k3x.step hb4 rfl (by omega); have k4y := k3y.step hb4 rfl (by omega); have k4r := k3r.step hb4 rfl (by omega); have k4q := k3q.step hb4 rfl (by omega); have hl3' := hl3.step hb4 rfl; obtain ⟨sx0, sx1⟩ := id k4x; obtain ⟨sy0, sy1⟩ := id k4y; obtain ⟨⟨hr0, hr1⟩, hf0, hf1⟩ := id k4r; obtain ⟨⟨hq0, hq1⟩, hg0, hg1⟩ := id k4q; have m1 := k4x.far (r := w.heap.size + 2) (by omega) (.bool b3) (.slice A3 zs3.length c3); have m2 := k4y.far (r := w.heap.size + 2) (by omega) (.bool b3) (.slice A3 zs3.length c3); have m3 := m1.far (r := w.heap.size + 3) (by omega) (.bool b4) (.slice A4 zs4.length c4); have m4 := m2.far (r := w.heap.size + 3) (by omega) (.bool b4) (.slice A4 zs4.length c4); obtain ⟨m1a, m1b⟩ := id m1; obtain ⟨m2a, m2b⟩ := id m2; obtain ⟨m3a, m3b⟩ := id m3; obtain ⟨m4a, m4b⟩ := id m4)))
  go_wp2
  have e1 := (k4r.1.stored (.bool b3) (.slice A3 zs3.length c3)).far (r := w.heap.size + 3) (by omega) (.bool b4) (.slice A4 zs4.length c4)
  have e0 := k4q.1.far (r := w.heap.size + 2) (by omega) (.bool b3) (.slice A3 zs3.length c3)
  have e2 := e0.stored (.bool b4) (.slice A4 zs4.length c4)
  obtain ⟨e1a, e1b⟩ := id e1
  obtain ⟨e2a, e2b⟩ := id e2
  have hn3 := (hl3'.2.1.res k4r.1 (.bool b3) (.slice A3 zs3.length c3)).res e0 (.bool b4) (.slice A4 zs4.length c4)
  have hn4 := (hl4.2.1.res k4r.1 (.bool b3) (.slice A3 zs3.length c3)).res e0 (.bool b4) (.slice A4 zs4.length c4)
  have hbe := below_then (below_then (begun_then (begun_then H.out.1 hb1 rfl rfl rfl rfl) hb2 rfl rfl rfl rfl) ⟨hb3.os, hb3.tape, hb3.output, hb3.size, hb3.block⟩) hb4
  refine bodyPost_ret (v := .tuple #[.agg #[.bool b3, .slice A3 zs3.length c3], .agg #[.bool b4, .slice A4 zs4.length c4], .int .i64 0]) (by simp [results, Tryz.results83, go_sem, e1a, e1b, e2a, e2b]) rfl ?_
  exact ⟨_, _, rfl, ⟨b3, A3, c3, zs3, rfl, hsg3, hl3'.1, hn3, hl3'.2.2⟩, ⟨b4, A4, c4, zs4, rfl, hsg4, hl4.1, hn4, hl4.2.2⟩,
    (((hbe.setCell (p := ⟨w.heap.size + 2, 0, none⟩) (by simp) _).setCell (p := ⟨w.heap.size + 2, 1, none⟩) (by simp) _).setCell (p := ⟨w.heap.size + 3, 0, none⟩) (by simp) _).setCell (p := ⟨w.heap.size + 3, 1, none⟩) (by simp) _⟩
def IsDivR (w w' : World) (q r k : Int) (e : Ending) : Prop := ∃ v1 v2, e = .returned (.tuple #[v1, v2, .int .i64 k]) ∧ RefAt w' v1 q ∧ RefAt w' v2 r ∧ Below w.heap.size w w'
theorem rdivide_some (v1 v2 : Value) (x y : Int) (m : Nat) (w : World) (h1 : RefAt w v1 x) (h2 : RefAt w v2 y) (hm : m ≤ 100000) (hx : x.natAbs < BD ^ m) (hy : y.natAbs < BD ^ m) (h0 : y ≠ 0) :
    Calls Tryz.prog 83 #[v1, v2] w fun e w' => IsDivR w w' (x.tdiv y) (x.tmod y) 0 e := by
  obtain ⟨b1, A1, c1, zs1, rfl, hs1, hd1⟩ := h1
  obtain ⟨b2, A2, c2, zs2, rfl, hs2, hd2⟩ := h2
  have l1 := Nat.le_trans (hd1.len hx) hm
  have l2 := Nat.le_trans (hd2.len hy) hm
  cases b1 <;> cases b2
  · exact rdivide_sff A1 c1 zs1 A2 c2 zs2 x y w hs1 hs2 hd1 hd2 l1 l2 h0
  · exact rdivide_sft A1 c1 zs1 A2 c2 zs2 x y w hs1 hs2 hd1 hd2 l1 l2 h0
  · exact rdivide_stf A1 c1 zs1 A2 c2 zs2 x y w hs1 hs2 hd1 hd2 l1 l2 h0
  · exact rdivide_stt A1 c1 zs1 A2 c2 zs2 x y w hs1 hs2 hd1 hd2 l1 l2 h0
end Go.Proofs.YtpgbnegppehckaaGreat
namespace Go.Proofs.YtpgbnegppehckaaGreat.RK
open Go.RowKit
theorem size_put (W : World) (p q : Addr) (u v : Value) : ((W.setCell p u).setCell q v).heap.size = W.heap.size := by simp [World.setCell]
theorem RefAt.past {W : World} {v : Value} {z : Int} (h : RefAt W v z) {r : Nat} {b : Bool} {A : Option Addr} {n c : Nat} (t : Two W r (.bool b) (.slice A n c)) (u x : Value) : RefAt ((W.setCell ⟨r, 0, none⟩ u).setCell ⟨r, 1, none⟩ x) v z := by
  obtain ⟨b0, A0, c0, zs, e, hs, hd⟩ := h
  exact ⟨b0, A0, c0, zs, e, hs, hd.over2 t u x⟩
theorem Vars.past {W : World} {l : List VarT} (h : Vars W l) {r : Nat} (hr : Res W r) {K : Nat} (hl : ∀ t ∈ l, t.here = true → t.r < K) (hK : K ≤ r) (b : Bool) (A : Option Addr) (n c : Nat) :
    Vars ((W.setCell ⟨r, 0, none⟩ (.bool b)).setCell ⟨r, 1, none⟩ (.slice A n c)) l := fun i t ht => by
  have hv := h i t ht
  refine ⟨fun e => by rw [size_put]; exact hv.lt e, fun e => (hv.two e).far (by have := hl t (List.mem_of_getElem? ht) e; omega) _ _, RefAt.past hv.at_ hr.1 _ _⟩
structure Held3 (w : World) (r : Nat) (b : Bool) (A : Option Addr) (n c : Nat) (z : Int) : Prop where
  two : Two w r (.bool b) (.slice A n c)
  fz : w.frozen? ⟨r, 0, none⟩ = false ∧ w.frozen? ⟨r, 1, none⟩ = false
  lt : r < w.heap.size
  at_ : RefAt w (.agg #[.bool b, .slice A n c]) z
theorem Held3.step {W0 W w1 : World} {r : Nat} {b : Bool} {A : Option Addr} {n c : Nat} {z : Int} (h : Held3 W0 r b A n c z) (hb : Below W.heap.size W w1) (hh : W.heap = W0.heap) : Held3 w1 r b A n c z := by
  have e : ∀ p, W.frozen? p = W0.frozen? p := fun p => by simp [World.frozen?, hh]
  have hl : r < W.heap.size := by rw [hh]; exact h.lt
  exact ⟨h.two.step hb hh h.lt, ⟨((hb.frozen (p := ⟨r, 0, none⟩) hl).trans (e _)).trans h.fz.1, ((hb.frozen (p := ⟨r, 1, none⟩) hl).trans (e _)).trans h.fz.2⟩, Nat.lt_of_lt_of_le hl hb.size, h.at_.step hb hh⟩
theorem _root_.Go.Proofs.YtpgbnegppehckaaGreat.Res.held3 {W : World} {r : Nat} (h : Res W r) (hl : r < W.heap.size) {b : Bool} {A : Option Addr} {n c : Nat} {z : Int} (hv : RefAt W (.agg #[.bool b, .slice A n c]) z) :
    Held3 ((W.setCell ⟨r, 0, none⟩ (.bool b)).setCell ⟨r, 1, none⟩ (.slice A n c)) r b A n c z :=
  ⟨h.1.stored _ _, ⟨by rw [frz_set, frz_set]; exact h.2.1, by rw [frz_set, frz_set]; exact h.2.2⟩, by rw [size_put]; exact hl, RefAt.past hv h.1 _ _⟩
theorem Held3.past {W : World} {r : Nat} {b : Bool} {A : Option Addr} {n c : Nat} {z : Int} (h : Held3 W r b A n c z) {q : Nat} (hq : Res W q) (hne : q ≠ r) (b' : Bool) (A' : Option Addr) (n' c' : Nat) :
    Held3 ((W.setCell ⟨q, 0, none⟩ (.bool b')).setCell ⟨q, 1, none⟩ (.slice A' n' c')) r b A n c z :=
  ⟨h.two.far hne _ _, ⟨by rw [frz_set, frz_set]; exact h.fz.1, by rw [frz_set, frz_set]; exact h.fz.2⟩, by rw [size_put]; exact h.lt, RefAt.past h.at_ hq.1 _ _⟩
theorem Held3.past3 {W : World} {r : Nat} {b : Bool} {A : Option Addr} {n c : Nat} {z : Int} (h : Held3 W r b A n c z) {q : Nat} {b2 : Bool} {A2 : Option Addr} {n2 c2 : Nat} (hq : Two W q (.bool b2) (.slice A2 n2 c2)) (hne : q ≠ r) (b' : Bool) (A' : Option Addr) (n' c' : Nat) :
    Held3 ((W.setCell ⟨q, 0, none⟩ (.bool b')).setCell ⟨q, 1, none⟩ (.slice A' n' c')) r b A n c z :=
  ⟨h.two.far hne _ _, ⟨by rw [frz_set, frz_set]; exact h.fz.1, by rw [frz_set, frz_set]; exact h.fz.2⟩, by rw [size_put]; exact h.lt, RefAt.past h.at_ hq _ _⟩
theorem Held3.over {W : World} {r : Nat} {b b' : Bool} {A A' : Option Addr} {n n' c c' : Nat} {z z' : Int} (h : Held3 W r b A n c z) (hv : RefAt W (.agg #[.bool b', .slice A' n' c']) z') :
    Held3 ((W.setCell ⟨r, 0, none⟩ (.bool b')).setCell ⟨r, 1, none⟩ (.slice A' n' c')) r b' A' n' c' z' :=
  ⟨h.two.stored _ _, ⟨by rw [frz_set, frz_set]; exact h.fz.1, by rw [frz_set, frz_set]; exact h.fz.2⟩, by rw [size_put]; exact h.lt, RefAt.past hv h.two _ _⟩
theorem Held3.new {w : World} {b : Bool} {A : Option Addr} {n c : Nat} {z : Int} (h : RefAt w (.agg #[.bool b, .slice A n c]) z) : Held3 (w.alloc (.cells #[.bool b, .slice A n c] 34)) w.heap.size b A n c z := by
  refine ⟨Two.new w _ _ _, ?_, by simp, h.step ((Below.refl _ _).alloc (Nat.le_refl _) _) rfl⟩
  constructor <;> go_simp
def Both (W : World) (r5 r6 : Nat) (a b : Int) : Prop := ∃ b5 A5 n5 c5 b6 A6 n6 c6, Held3 W r5 b5 A5 n5 c5 a ∧ Held3 W r6 b6 A6 n6 c6 b
theorem gcd_tmod (a b : Nat) : Nat.gcd b (a % b) = Nat.gcd a b := by
  rw [Nat.gcd_comm b, ← Nat.gcd_rec, Nat.gcd_comm]
theorem RGcd_any (v1 v2 : Value) (x y : Int) (m : Nat) (w : World) (h1 : RefAt w v1 x) (h2 : RefAt w v2 y) (hm : m ≤ 1000) (hx : FitD x m) (hy : FitD y m) : Calls Tryz.prog 82 #[v1, v2] w fun e w' => IsRef w w' ((Int.gcd x y : Nat) : Int) e := by
  obtain ⟨b1, A1, c1, zs1, rfl, hs1, hd1⟩ := h1
  obtain ⟨b2, A2, c2, zs2, rfl, hs2, hd2⟩ := h2
  have hb0 := begun2_below w (.bool b1) (.slice A1 zs1.length c1) (.bool b2) (.slice A2 zs2.length c2) 34
  have hT1 := begun2_x w (.bool b1) (.slice A1 zs1.length c1) (.bool b2) (.slice A2 zs2.length c2) 34
  have hT2 := begun2_y w (.bool b1) (.slice A1 zs1.length c1) (.bool b2) (.slice A2 zs2.length c2) 34
  have hres := begun2_r w (.bool b1) (.slice A1 zs1.length c1) (.bool b2) (.slice A2 zs2.length c2) 34
  have hsz := begun2_size w (.bool b1) (.slice A1 zs1.length c1) (.bool b2) (.slice A2 zs2.length c2) 34
  obtain ⟨W, hW⟩ : ∃ W, begun2 w (.bool b1) (.slice A1 zs1.length c1) (.bool b2) (.slice A2 zs2.length c2) 34 = W := ⟨_, rfl⟩
  rw [hW] at hb0 hT1 hT2 hres hsz
  unfold begun2 at hW
  have hbase : w.heap.size + 3 ≤ W.heap.size := by omega
  have hres_lt : w.heap.size + 2 < W.heap.size := by omega
  have hv0 : Vars W [⟨true, w.heap.size + 1, b2, A2, zs2.length, c2, y⟩, ⟨true, w.heap.size, b1, A1, zs1.length, c1, x⟩] :=
    ((Vars.nil W).cons ⟨fun _ => by show w.heap.size < _; omega, fun _ => hT1, b1, A1, c1, zs1, rfl, hs1, hd1.below hb0⟩).cons ⟨fun _ => by show w.heap.size + 1 < _; omega, fun _ => hT2, b2, A2, c2, zs2, rfl, hs2, hd2.below hb0⟩
  have HC := Lib.hid (And.intro hv0 (Below.refl W.heap.size W))
  have H0 := Lib.hid (And.intro hb0 (And.intro hx hy))
  clear hb0 hT1 hT2 hv0 hs1 hd1 hs2 hd2 hsz hx hy
  go_enter Tryz.func82, Tryz.ntmps82
  go_upto_region 1 with fail
  try rw [hW]
  clear hW
  go_cut [5, 6] (fun s5 s6 wx => ∃ r5 r6 : Nat, s5 = .pointer (some ⟨r5, 0, none⟩) ∧ s6 = .pointer (some ⟨r6, 0, none⟩) ∧ r5 ≠ r6 ∧ w.heap.size + 3 ≤ r5 ∧ w.heap.size + 3 ≤ r6 ∧ Both wx r5 r6 ((x.natAbs : Nat) : Int) ((y.natAbs : Nat) : Int) ∧ Res wx (w.heap.size + 2) ∧ Below w.heap.size w wx)
  case first => as_aux_lemma =>
   have HD1 := Lib.hid (And.intro HC.out.1.drew HC.out.2.drew)
   refine wp_region_held_drew (S := Cells [⟨true, (w.heap.size + 1), b2, A2, zs2.length, c2, y⟩, ⟨true, w.heap.size, b1, A1, zs1.length, c1, x⟩]) (by kernel_rfl) (HD1.out.1.cells) (fun hH0 => ?_)
   refine wpAnyH_take (i := 0) (v := (.agg #[.bool b1, .slice A1 zs1.length c1])) rfl (by kernel_rfl) (by kernel_rfl) (by kernel_rfl) (fun _ _ _ h => h) (Or.inl ⟨by kernel_rfl, fun w0 hS0 => run_load (hS0 1 _ rfl rfl) (.tmp 2) (by kernel_rfl) (by kernel_rfl)⟩) hH0 ?r1
   change wpAnyH _ _ _ _ _ _ _ (Act.put _ (some 10) _) _
   simp only [Act.put, lyA, lyZ, lyS]
   refine wpAnyH_take (i := 2) (v := (.agg #[.bool b2, .slice A2 zs2.length c2])) rfl (by kernel_rfl) (by kernel_rfl) (by kernel_rfl) (fun _ _ _ h => h) (Or.inl ⟨by kernel_rfl, fun w0 hS0 => run_load (hS0 0 _ rfl rfl) (.tmp 3) (by kernel_rfl) (by kernel_rfl)⟩) hH0 ?r2
   change wpAnyH _ _ _ _ _ _ _ (Act.put _ (some 12) _) _
   simp only [Act.put, lyA, lyZ, lyS]
   refine wpAnyH_ready (rs := [1, 4, 5]) (by kernel_rfl) (by simp) ?_
   refine AllReadyH.cons rfl (fun K hK0 => ?d3) (AllReadyH.cons rfl (fun K hK0 => ?d4) (AllReadyH.cons rfl (fun K hK0 => ?d5) (AllReadyH.nil)))
   case d3 =>
    have hK := hK0.out
    clear hK0
    rw [if_pos (by kernel_rfl)]
    refine wp_go_call 29 #[(.agg #[.bool b1, .slice A1 zs1.length c1])] (fun _ => by kernel_rfl) ((RAbs_any _ x _ ((HD1.out.1 1 _ rfl).at_)).mono ?_)
    rintro e wq2 ⟨qv2, rfl, ⟨qb2, qA2, qc2, qs2, rfl, qg2, ql2⟩, hb2⟩
    have HD2 := Lib.hid (And.intro ((HD1.out.1.step hb2 rfl).told qg2 ql2) (below_then HD1.out.2 hb2))
    have hr2_99 := hres.step hb2 rfl hres_lt
    have hr2_99_lt := Nat.lt_of_lt_of_le hres_lt hb2.size
    refine ⟨(.agg #[.bool qb2, .slice qA2 qs2.length qc2]), rfl, hK _ _ (HD2.out.1.tail.cells) (fun hH2 => ?_)⟩
    clear hK K hH0
    change wpAnyH _ _ _ _ _ _ _ (Act.put _ (some 11) _) _
    simp only [Act.put, lyA, lyZ, lyS]
    refine wpAnyH_ready (rs := [3, 4, 5]) (by kernel_rfl) (by simp) ?_
    refine AllReadyH.cons rfl (fun K hK0 => ?d6) (AllReadyH.cons rfl (fun K hK0 => ?d7) (AllReadyH.cons rfl (fun K hK0 => ?d8) (AllReadyH.nil)))
    case d6 =>
     have hK := hK0.out
     clear hK0
     rw [if_pos (by kernel_rfl)]
     refine wp_go_call 29 #[(.agg #[.bool b2, .slice A2 zs2.length c2])] (fun _ => by kernel_rfl) ((RAbs_any _ y _ ((HD2.out.1 1 _ rfl).at_)).mono ?_)
     rintro e wq3 ⟨qv3, rfl, ⟨qb3, qA3, qc3, qs3, rfl, qg3, ql3⟩, hb3⟩
     have HD3 := Lib.hid (And.intro ((HD2.out.1.step hb3 rfl).told qg3 ql3) (below_then HD2.out.2 hb3))
     have hr3_99 := hr2_99.step hb3 rfl hr2_99_lt
     have hr3_99_lt := Nat.lt_of_lt_of_le hr2_99_lt hb3.size
     refine ⟨(.agg #[.bool qb3, .slice qA3 qs3.length qc3]), rfl, hK _ _ (HD3.out.1.tail.tail.cells) (fun hH3 => ?_)⟩
     clear hK K hH2
     change wpAnyH _ _ _ _ _ _ _ (Act.put _ (some 13) _) _
     simp only [Act.put, lyA, lyZ, lyS]
     refine wpAnyH_ready (rs := [4, 5]) (by kernel_rfl) (by simp) ?_
     refine AllReadyH.cons rfl (fun K hK0 => ?d9) (AllReadyH.cons rfl (fun K hK0 => ?d10) (AllReadyH.nil))
     case d9 =>
      have hK := hK0.out
      clear hK0
      rw [if_pos (by kernel_rfl)]
      refine wp_go_val (.pointer (some ⟨(wq3).heap.size, 0, none⟩)) (run_alloc _ _ _ (by kernel_rfl)) ?_
      have HD4 := Lib.hid (And.intro (HD3.out.1.alloc (.cells #[.bool false, .slice none 0 0] 34)) (HD3.out.2.alloc HD3.out.2.size (.cells #[.bool false, .slice none 0 0] 34)))
      have hr4 := Res.new (wq3) 34
      have hr4_lt : (wq3).heap.size < ((wq3).alloc (.cells #[.bool false, .slice none 0 0] 34)).heap.size := Nat.lt_of_lt_of_eq (Nat.lt_succ_self _) (size_alloc _ _).symm
      have hr4_ge := HD3.out.2.size
      have hr4_99 := hr3_99.step ((Below.refl (wq3).heap.size (wq3)).alloc (Nat.le_refl _) (.cells #[.bool false, .slice none 0 0] 34)) rfl hr3_99_lt
      have hr4_99_lt : (w.heap.size + 2) < ((wq3).alloc (.cells #[.bool false, .slice none 0 0] 34)).heap.size := Nat.lt_of_lt_of_eq (Nat.lt_succ_of_lt hr3_99_lt) (size_alloc _ _).symm
      refine hK _ _ (HD4.out.1.tail.tail.cells) (fun hH4 => ?_)
      clear hK K hH3
      change wpAnyH _ _ _ _ _ _ _ (Act.put _ (some 5) _) _
      simp only [Act.put, lyA, lyZ, lyS]
      refine wpAnyH_ready (rs := [5]) (by kernel_rfl) (by simp) ?_
      refine AllReadyH.cons rfl (fun K hK0 => ?d11) (AllReadyH.nil)
      have hK := hK0.out
      clear hK0
      rw [if_pos (by kernel_rfl)]
      refine wp_go_val (.pointer (some ⟨(((wq3).alloc (.cells #[.bool false, .slice none 0 0] 34))).heap.size, 0, none⟩)) (run_alloc _ _ _ (by kernel_rfl)) ?_
      have HD5 := Lib.hid (And.intro (HD4.out.1.alloc (.cells #[.bool false, .slice none 0 0] 34)) (HD4.out.2.alloc HD4.out.2.size (.cells #[.bool false, .slice none 0 0] 34)))
      have hr5 := Res.new (((wq3).alloc (.cells #[.bool false, .slice none 0 0] 34))) 34
      have hr5_lt : (((wq3).alloc (.cells #[.bool false, .slice none 0 0] 34))).heap.size < ((((wq3).alloc (.cells #[.bool false, .slice none 0 0] 34))).alloc (.cells #[.bool false, .slice none 0 0] 34)).heap.size := Nat.lt_of_lt_of_eq (Nat.lt_succ_self _) (size_alloc _ _).symm
      have hr5_ge := HD4.out.2.size
      have hr5_99 := hr4_99.step ((Below.refl (((wq3).alloc (.cells #[.bool false, .slice none 0 0] 34))).heap.size (((wq3).alloc (.cells #[.bool false, .slice none 0 0] 34)))).alloc (Nat.le_refl _) (.cells #[.bool false, .slice none 0 0] 34)) rfl hr4_99_lt
      have hr5_99_lt : (w.heap.size + 2) < ((((wq3).alloc (.cells #[.bool false, .slice none 0 0] 34))).alloc (.cells #[.bool false, .slice none 0 0] 34)).heap.size := Nat.lt_of_lt_of_eq (Nat.lt_succ_of_lt hr4_99_lt) (size_alloc _ _).symm
      have hr5_4 := hr4.step ((Below.refl (((wq3).alloc (.cells #[.bool false, .slice none 0 0] 34))).heap.size (((wq3).alloc (.cells #[.bool false, .slice none 0 0] 34)))).alloc (Nat.le_refl _) (.cells #[.bool false, .slice none 0 0] 34)) rfl hr4_lt
      have hr5_4_lt : (wq3).heap.size < ((((wq3).alloc (.cells #[.bool false, .slice none 0 0] 34))).alloc (.cells #[.bool false, .slice none 0 0] 34)).heap.size := Nat.lt_of_lt_of_eq (Nat.lt_succ_of_lt hr4_lt) (size_alloc _ _).symm
      have hne5 := Nat.ne_of_lt hr4_lt
      refine hK _ _ (HD5.out.1.tail.tail.cells) (fun hH5 => ?_)
      clear hK K hH4
      change wpAnyH _ _ _ _ _ _ _ (Act.put _ (some 6) _) _
      simp only [Act.put, lyA, lyZ, lyS]
      refine wpAnyH_ready (rs := [6]) (by kernel_rfl) (by simp) ?_
      refine AllReadyH.cons rfl (fun K hK0 => ?d12) (AllReadyH.nil)
      have hK := hK0.out
      clear hK0
      rw [if_pos (by kernel_rfl)]
      refine wp_go_skip (run_store2 hr5_4 qb2 qA2 qs2.length qc2 (.tmp 5) (.tmp 11) (by kernel_rfl) (by kernel_rfl) (by kernel_rfl)) ?_
      have hv6 := Vars.past HD5.out.1 hr5_4 (K := w.heap.size + 3) (by simp) (Nat.le_trans hbase hr4_ge) qb2 qA2 qs2.length qc2
      have o6 := hr5_4.held3 hr5_4_lt (HD5.out.1 1 _ rfl).at_
      have HD6 := Lib.hid (And.intro hv6 ((HD5.out.2.setCell (p := ⟨(wq3).heap.size, 0, none⟩) hr4_ge (.bool qb2)).setCell (p := ⟨(wq3).heap.size, 1, none⟩) hr4_ge (.slice qA2 qs2.length qc2)))
      have hr6_99 := hr5_99.farther (q := (wq3).heap.size) (by have h1 := Nat.le_trans hbase hr4_ge; omega) (.bool qb2) (.slice qA2 qs2.length qc2)
      have hr6_99_lt : (w.heap.size + 2) < (((((((wq3).alloc (.cells #[.bool false, .slice none 0 0] 34))).alloc (.cells #[.bool false, .slice none 0 0] 34))).setCell ⟨(wq3).heap.size, 0, none⟩ (.bool qb2)).setCell ⟨(wq3).heap.size, 1, none⟩ (.slice qA2 qs2.length qc2)).heap.size := Nat.lt_of_lt_of_eq hr5_99_lt (size_put _ _ _ _ _).symm
      have hr6_5 := hr5.farther (q := (wq3).heap.size) hne5 (.bool qb2) (.slice qA2 qs2.length qc2)
      have hr6_5_lt : (((wq3).alloc (.cells #[.bool false, .slice none 0 0] 34))).heap.size < (((((((wq3).alloc (.cells #[.bool false, .slice none 0 0] 34))).alloc (.cells #[.bool false, .slice none 0 0] 34))).setCell ⟨(wq3).heap.size, 0, none⟩ (.bool qb2)).setCell ⟨(wq3).heap.size, 1, none⟩ (.slice qA2 qs2.length qc2)).heap.size := Nat.lt_of_lt_of_eq hr5_lt (size_put _ _ _ _ _).symm
      refine hK _ _ (HD6.out.1.tail.tail.cells) (fun hH6 => ?_)
      clear hK K hH5
      change wpAnyH _ _ _ _ _ _ _ (Act.put _ none _) _
      simp only [Act.put]
      refine wpAnyH_ready (rs := [7]) (by kernel_rfl) (by simp) ?_
      refine AllReadyH.cons rfl (fun K hK0 => ?d13) (AllReadyH.nil)
      have hK := hK0.out
      clear hK0
      rw [if_pos (by kernel_rfl)]
      refine wp_go_skip (run_store2 hr6_5 qb3 qA3 qs3.length qc3 (.tmp 6) (.tmp 13) (by kernel_rfl) (by kernel_rfl) (by kernel_rfl)) ?_
      have hv7 := Vars.past HD6.out.1 hr6_5 (K := w.heap.size + 3) (by simp) (Nat.le_trans hbase hr5_ge) qb3 qA3 qs3.length qc3
      have o7 := hr6_5.held3 hr6_5_lt (HD6.out.1 0 _ rfl).at_
      have HD7 := Lib.hid (And.intro hv7 ((HD6.out.2.setCell (p := ⟨(((wq3).alloc (.cells #[.bool false, .slice none 0 0] 34))).heap.size, 0, none⟩) hr5_ge (.bool qb3)).setCell (p := ⟨(((wq3).alloc (.cells #[.bool false, .slice none 0 0] 34))).heap.size, 1, none⟩) hr5_ge (.slice qA3 qs3.length qc3)))
      have o7_p := o6.past hr6_5 (fun e => hne5 e.symm) qb3 qA3 qs3.length qc3
      have hr7_99 := hr6_99.farther (q := (((wq3).alloc (.cells #[.bool false, .slice none 0 0] 34))).heap.size) (by have h1 := Nat.le_trans hbase hr5_ge; omega) (.bool qb3) (.slice qA3 qs3.length qc3)
      have hr7_99_lt : (w.heap.size + 2) < ((((((((((wq3).alloc (.cells #[.bool false, .slice none 0 0] 34))).alloc (.cells #[.bool false, .slice none 0 0] 34))).setCell ⟨(wq3).heap.size, 0, none⟩ (.bool qb2)).setCell ⟨(wq3).heap.size, 1, none⟩ (.slice qA2 qs2.length qc2))).setCell ⟨(((wq3).alloc (.cells #[.bool false, .slice none 0 0] 34))).heap.size, 0, none⟩ (.bool qb3)).setCell ⟨(((wq3).alloc (.cells #[.bool false, .slice none 0 0] 34))).heap.size, 1, none⟩ (.slice qA3 qs3.length qc3)).heap.size := Nat.lt_of_lt_of_eq hr6_99_lt (size_put _ _ _ _ _).symm
      refine hK _ _ (HD7.out.1.tail.tail.cells) (fun hH7 => ?_)
      clear hK K hH6
      change wpAnyH _ _ _ _ _ _ _ (Act.put _ none _) _
      simp only [Act.put]
      refine wpAnyH_done (by kernel_rfl) ?_ _
      have HF := Lib.hid (And.intro (show (wq3).heap.size ≠ (((wq3).alloc (.cells #[.bool false, .slice none 0 0] 34))).heap.size from hne5) (And.intro (Nat.le_trans hbase hr4_ge) (And.intro (Nat.le_trans hbase hr5_ge) (And.intro (show Both ((((((((((wq3).alloc (.cells #[.bool false, .slice none 0 0] 34))).alloc (.cells #[.bool false, .slice none 0 0] 34))).setCell ⟨(wq3).heap.size, 0, none⟩ (.bool qb2)).setCell ⟨(wq3).heap.size, 1, none⟩ (.slice qA2 qs2.length qc2))).setCell ⟨(((wq3).alloc (.cells #[.bool false, .slice none 0 0] 34))).heap.size, 0, none⟩ (.bool qb3)).setCell ⟨(((wq3).alloc (.cells #[.bool false, .slice none 0 0] 34))).heap.size, 1, none⟩ (.slice qA3 qs3.length qc3)) (wq3).heap.size (((wq3).alloc (.cells #[.bool false, .slice none 0 0] 34))).heap.size ((x.natAbs : Nat) : Int) ((y.natAbs : Nat) : Int) from ⟨_, _, _, _, _, _, _, _, o7_p, o7⟩) (And.intro hr7_99 (below_then H0.out.1 HD7.out.2))))))
      clear o7_p o7 hr7_99
      generalize ((((((((((wq3).alloc (.cells #[.bool false, .slice none 0 0] 34))).alloc (.cells #[.bool false, .slice none 0 0] 34))).setCell ⟨(wq3).heap.size, 0, none⟩ (.bool qb2)).setCell ⟨(wq3).heap.size, 1, none⟩ (.slice qA2 qs2.length qc2))).setCell ⟨(((wq3).alloc (.cells #[.bool false, .slice none 0 0] 34))).heap.size, 0, none⟩ (.bool qb3)).setCell ⟨(((wq3).alloc (.cells #[.bool false, .slice none 0 0] 34))).heap.size, 1, none⟩ (.slice qA3 qs3.length qc3)) = Wz at HF ⊢
      generalize (((wq3).alloc (.cells #[.bool false, .slice none 0 0] 34))).heap.size = q6 at HF ⊢
      generalize (wq3).heap.size = q5 at HF ⊢
      go_wp2
      go_meet
      exact ⟨q5, q6, rfl, rfl, HF.out⟩
     case d10 =>
      have hK := hK0.out
      clear hK0
      rw [if_pos (by kernel_rfl)]
      refine wp_go_val (.pointer (some ⟨(wq3).heap.size, 0, none⟩)) (run_alloc _ _ _ (by kernel_rfl)) ?_
      have HD8 := Lib.hid (And.intro (HD3.out.1.alloc (.cells #[.bool false, .slice none 0 0] 34)) (HD3.out.2.alloc HD3.out.2.size (.cells #[.bool false, .slice none 0 0] 34)))
      have hr8 := Res.new (wq3) 34
      have hr8_lt : (wq3).heap.size < ((wq3).alloc (.cells #[.bool false, .slice none 0 0] 34)).heap.size := Nat.lt_of_lt_of_eq (Nat.lt_succ_self _) (size_alloc _ _).symm
      have hr8_ge := HD3.out.2.size
      have hr8_99 := hr3_99.step ((Below.refl (wq3).heap.size (wq3)).alloc (Nat.le_refl _) (.cells #[.bool false, .slice none 0 0] 34)) rfl hr3_99_lt
      have hr8_99_lt : (w.heap.size + 2) < ((wq3).alloc (.cells #[.bool false, .slice none 0 0] 34)).heap.size := Nat.lt_of_lt_of_eq (Nat.lt_succ_of_lt hr3_99_lt) (size_alloc _ _).symm
      refine hK _ _ (HD8.out.1.tail.tail.cells) (fun hH8 => ?_)
      clear hK K hH3
      change wpAnyH _ _ _ _ _ _ _ (Act.put _ (some 6) _) _
      simp only [Act.put, lyA, lyZ, lyS]
      refine wpAnyH_ready (rs := [4]) (by kernel_rfl) (by simp) ?_
      refine AllReadyH.cons rfl (fun K hK0 => ?d14) (AllReadyH.nil)
      have hK := hK0.out
      clear hK0
      rw [if_pos (by kernel_rfl)]
      refine wp_go_val (.pointer (some ⟨(((wq3).alloc (.cells #[.bool false, .slice none 0 0] 34))).heap.size, 0, none⟩)) (run_alloc _ _ _ (by kernel_rfl)) ?_
      have HD9 := Lib.hid (And.intro (HD8.out.1.alloc (.cells #[.bool false, .slice none 0 0] 34)) (HD8.out.2.alloc HD8.out.2.size (.cells #[.bool false, .slice none 0 0] 34)))
      have hr9 := Res.new (((wq3).alloc (.cells #[.bool false, .slice none 0 0] 34))) 34
      have hr9_lt : (((wq3).alloc (.cells #[.bool false, .slice none 0 0] 34))).heap.size < ((((wq3).alloc (.cells #[.bool false, .slice none 0 0] 34))).alloc (.cells #[.bool false, .slice none 0 0] 34)).heap.size := Nat.lt_of_lt_of_eq (Nat.lt_succ_self _) (size_alloc _ _).symm
      have hr9_ge := HD8.out.2.size
      have hr9_99 := hr8_99.step ((Below.refl (((wq3).alloc (.cells #[.bool false, .slice none 0 0] 34))).heap.size (((wq3).alloc (.cells #[.bool false, .slice none 0 0] 34)))).alloc (Nat.le_refl _) (.cells #[.bool false, .slice none 0 0] 34)) rfl hr8_99_lt
      have hr9_99_lt : (w.heap.size + 2) < ((((wq3).alloc (.cells #[.bool false, .slice none 0 0] 34))).alloc (.cells #[.bool false, .slice none 0 0] 34)).heap.size := Nat.lt_of_lt_of_eq (Nat.lt_succ_of_lt hr8_99_lt) (size_alloc _ _).symm
      have hr9_5 := hr8.step ((Below.refl (((wq3).alloc (.cells #[.bool false, .slice none 0 0] 34))).heap.size (((wq3).alloc (.cells #[.bool false, .slice none 0 0] 34)))).alloc (Nat.le_refl _) (.cells #[.bool false, .slice none 0 0] 34)) rfl hr8_lt
      have hr9_5_lt : (wq3).heap.size < ((((wq3).alloc (.cells #[.bool false, .slice none 0 0] 34))).alloc (.cells #[.bool false, .slice none 0 0] 34)).heap.size := Nat.lt_of_lt_of_eq (Nat.lt_succ_of_lt hr8_lt) (size_alloc _ _).symm
      have hne9 := Nat.ne_of_lt hr8_lt
      refine hK _ _ (HD9.out.1.tail.tail.cells) (fun hH9 => ?_)
      clear hK K hH8
      change wpAnyH _ _ _ _ _ _ _ (Act.put _ (some 5) _) _
      simp only [Act.put, lyA, lyZ, lyS]
      refine wpAnyH_ready (rs := [6]) (by kernel_rfl) (by simp) ?_
      refine AllReadyH.cons rfl (fun K hK0 => ?d15) (AllReadyH.nil)
      have hK := hK0.out
      clear hK0
      rw [if_pos (by kernel_rfl)]
      refine wp_go_skip (run_store2 hr9 qb2 qA2 qs2.length qc2 (.tmp 5) (.tmp 11) (by kernel_rfl) (by kernel_rfl) (by kernel_rfl)) ?_
      have hv10 := Vars.past HD9.out.1 hr9 (K := w.heap.size + 3) (by simp) (Nat.le_trans hbase hr9_ge) qb2 qA2 qs2.length qc2
      have o10 := hr9.held3 hr9_lt (HD9.out.1 1 _ rfl).at_
      have HD10 := Lib.hid (And.intro hv10 ((HD9.out.2.setCell (p := ⟨(((wq3).alloc (.cells #[.bool false, .slice none 0 0] 34))).heap.size, 0, none⟩) hr9_ge (.bool qb2)).setCell (p := ⟨(((wq3).alloc (.cells #[.bool false, .slice none 0 0] 34))).heap.size, 1, none⟩) hr9_ge (.slice qA2 qs2.length qc2)))
      have hr10_99 := hr9_99.farther (q := (((wq3).alloc (.cells #[.bool false, .slice none 0 0] 34))).heap.size) (by have h1 := Nat.le_trans hbase hr9_ge; omega) (.bool qb2) (.slice qA2 qs2.length qc2)
      have hr10_99_lt : (w.heap.size + 2) < (((((((wq3).alloc (.cells #[.bool false, .slice none 0 0] 34))).alloc (.cells #[.bool false, .slice none 0 0] 34))).setCell ⟨(((wq3).alloc (.cells #[.bool false, .slice none 0 0] 34))).heap.size, 0, none⟩ (.bool qb2)).setCell ⟨(((wq3).alloc (.cells #[.bool false, .slice none 0 0] 34))).heap.size, 1, none⟩ (.slice qA2 qs2.length qc2)).heap.size := Nat.lt_of_lt_of_eq hr9_99_lt (size_put _ _ _ _ _).symm
      have hr10_5 := hr9_5.farther (q := (((wq3).alloc (.cells #[.bool false, .slice none 0 0] 34))).heap.size) (fun e => hne9 e.symm) (.bool qb2) (.slice qA2 qs2.length qc2)
      have hr10_5_lt : (wq3).heap.size < (((((((wq3).alloc (.cells #[.bool false, .slice none 0 0] 34))).alloc (.cells #[.bool false, .slice none 0 0] 34))).setCell ⟨(((wq3).alloc (.cells #[.bool false, .slice none 0 0] 34))).heap.size, 0, none⟩ (.bool qb2)).setCell ⟨(((wq3).alloc (.cells #[.bool false, .slice none 0 0] 34))).heap.size, 1, none⟩ (.slice qA2 qs2.length qc2)).heap.size := Nat.lt_of_lt_of_eq hr9_5_lt (size_put _ _ _ _ _).symm
      refine hK _ _ (HD10.out.1.tail.tail.cells) (fun hH10 => ?_)
      clear hK K hH9
      change wpAnyH _ _ _ _ _ _ _ (Act.put _ none _) _
      simp only [Act.put]
      refine wpAnyH_ready (rs := [7]) (by kernel_rfl) (by simp) ?_
      refine AllReadyH.cons rfl (fun K hK0 => ?d16) (AllReadyH.nil)
      have hK := hK0.out
      clear hK0
      rw [if_pos (by kernel_rfl)]
      refine wp_go_skip (run_store2 hr10_5 qb3 qA3 qs3.length qc3 (.tmp 6) (.tmp 13) (by kernel_rfl) (by kernel_rfl) (by kernel_rfl)) ?_
      have hv11 := Vars.past HD10.out.1 hr10_5 (K := w.heap.size + 3) (by simp) (Nat.le_trans hbase hr8_ge) qb3 qA3 qs3.length qc3
      have o11 := hr10_5.held3 hr10_5_lt (HD10.out.1 0 _ rfl).at_
      have HD11 := Lib.hid (And.intro hv11 ((HD10.out.2.setCell (p := ⟨(wq3).heap.size, 0, none⟩) hr8_ge (.bool qb3)).setCell (p := ⟨(wq3).heap.size, 1, none⟩) hr8_ge (.slice qA3 qs3.length qc3)))
      have o11_p := o10.past hr10_5 (hne9) qb3 qA3 qs3.length qc3
      have hr11_99 := hr10_99.farther (q := (wq3).heap.size) (by have h1 := Nat.le_trans hbase hr8_ge; omega) (.bool qb3) (.slice qA3 qs3.length qc3)
      have hr11_99_lt : (w.heap.size + 2) < ((((((((((wq3).alloc (.cells #[.bool false, .slice none 0 0] 34))).alloc (.cells #[.bool false, .slice none 0 0] 34))).setCell ⟨(((wq3).alloc (.cells #[.bool false, .slice none 0 0] 34))).heap.size, 0, none⟩ (.bool qb2)).setCell ⟨(((wq3).alloc (.cells #[.bool false, .slice none 0 0] 34))).heap.size, 1, none⟩ (.slice qA2 qs2.length qc2))).setCell ⟨(wq3).heap.size, 0, none⟩ (.bool qb3)).setCell ⟨(wq3).heap.size, 1, none⟩ (.slice qA3 qs3.length qc3)).heap.size := Nat.lt_of_lt_of_eq hr10_99_lt (size_put _ _ _ _ _).symm
      refine hK _ _ (HD11.out.1.tail.tail.cells) (fun hH11 => ?_)
      clear hK K hH10
      change wpAnyH _ _ _ _ _ _ _ (Act.put _ none _) _
      simp only [Act.put]
      refine wpAnyH_done (by kernel_rfl) ?_ _
      have HF := Lib.hid (And.intro (show (((wq3).alloc (.cells #[.bool false, .slice none 0 0] 34))).heap.size ≠ (wq3).heap.size from (fun e => hne9 e.symm)) (And.intro (Nat.le_trans hbase hr9_ge) (And.intro (Nat.le_trans hbase hr8_ge) (And.intro (show Both ((((((((((wq3).alloc (.cells #[.bool false, .slice none 0 0] 34))).alloc (.cells #[.bool false, .slice none 0 0] 34))).setCell ⟨(((wq3).alloc (.cells #[.bool false, .slice none 0 0] 34))).heap.size, 0, none⟩ (.bool qb2)).setCell ⟨(((wq3).alloc (.cells #[.bool false, .slice none 0 0] 34))).heap.size, 1, none⟩ (.slice qA2 qs2.length qc2))).setCell ⟨(wq3).heap.size, 0, none⟩ (.bool qb3)).setCell ⟨(wq3).heap.size, 1, none⟩ (.slice qA3 qs3.length qc3)) (((wq3).alloc (.cells #[.bool false, .slice none 0 0] 34))).heap.size (wq3).heap.size ((x.natAbs : Nat) : Int) ((y.natAbs : Nat) : Int) from ⟨_, _, _, _, _, _, _, _, o11_p, o11⟩) (And.intro hr11_99 (below_then H0.out.1 HD11.out.2))))))
      clear o11_p o11 hr11_99
      generalize ((((((((((wq3).alloc (.cells #[.bool false, .slice none 0 0] 34))).alloc (.cells #[.bool false, .slice none 0 0] 34))).setCell ⟨(((wq3).alloc (.cells #[.bool false, .slice none 0 0] 34))).heap.size, 0, none⟩ (.bool qb2)).setCell ⟨(((wq3).alloc (.cells #[.bool false, .slice none 0 0] 34))).heap.size, 1, none⟩ (.slice qA2 qs2.length qc2))).setCell ⟨(wq3).heap.size, 0, none⟩ (.bool qb3)).setCell ⟨(wq3).heap.size, 1, none⟩ (.slice qA3 qs3.length qc3)) = Wz at HF ⊢
      generalize (wq3).heap.size = q6 at HF ⊢
      generalize (((wq3).alloc (.cells #[.bool false, .slice none 0 0] 34))).heap.size = q5 at HF ⊢
      go_wp2
      go_meet
      exact ⟨q5, q6, rfl, rfl, HF.out⟩
    case d7 =>
     have hK := hK0.out
     clear hK0
     rw [if_pos (by kernel_rfl)]
     refine wp_go_val (.pointer (some ⟨(wq2).heap.size, 0, none⟩)) (run_alloc _ _ _ (by kernel_rfl)) ?_
     have HD12 := Lib.hid (And.intro (HD2.out.1.alloc (.cells #[.bool false, .slice none 0 0] 34)) (HD2.out.2.alloc HD2.out.2.size (.cells #[.bool false, .slice none 0 0] 34)))
     have hr12 := Res.new (wq2) 34
     have hr12_lt : (wq2).heap.size < ((wq2).alloc (.cells #[.bool false, .slice none 0 0] 34)).heap.size := Nat.lt_of_lt_of_eq (Nat.lt_succ_self _) (size_alloc _ _).symm
     have hr12_ge := HD2.out.2.size
     have hr12_99 := hr2_99.step ((Below.refl (wq2).heap.size (wq2)).alloc (Nat.le_refl _) (.cells #[.bool false, .slice none 0 0] 34)) rfl hr2_99_lt
     have hr12_99_lt : (w.heap.size + 2) < ((wq2).alloc (.cells #[.bool false, .slice none 0 0] 34)).heap.size := Nat.lt_of_lt_of_eq (Nat.lt_succ_of_lt hr2_99_lt) (size_alloc _ _).symm
     refine hK _ _ (HD12.out.1.tail.cells) (fun hH12 => ?_)
     clear hK K hH2
     change wpAnyH _ _ _ _ _ _ _ (Act.put _ (some 5) _) _
     simp only [Act.put, lyA, lyZ, lyS]
     refine wpAnyH_ready (rs := [3, 5]) (by kernel_rfl) (by simp) ?_
     refine AllReadyH.cons rfl (fun K hK0 => ?d17) (AllReadyH.cons rfl (fun K hK0 => ?d18) (AllReadyH.nil))
     case d17 =>
      have hK := hK0.out
      clear hK0
      rw [if_pos (by kernel_rfl)]
      refine wp_go_call 29 #[(.agg #[.bool b2, .slice A2 zs2.length c2])] (fun _ => by kernel_rfl) ((RAbs_any _ y _ ((HD12.out.1 1 _ rfl).at_)).mono ?_)
      rintro e wq13 ⟨qv13, rfl, ⟨qb13, qA13, qc13, qs13, rfl, qg13, ql13⟩, hb13⟩
      have HD13 := Lib.hid (And.intro ((HD12.out.1.step hb13 rfl).told qg13 ql13) (below_then HD12.out.2 hb13))
      have hr13_99 := hr12_99.step hb13 rfl hr12_99_lt
      have hr13_99_lt := Nat.lt_of_lt_of_le hr12_99_lt hb13.size
      have hr13_4 := hr12.step hb13 rfl hr12_lt
      have hr13_4_lt := Nat.lt_of_lt_of_le hr12_lt hb13.size
      refine ⟨(.agg #[.bool qb13, .slice qA13 qs13.length qc13]), rfl, hK _ _ (HD13.out.1.tail.tail.cells) (fun hH13 => ?_)⟩
      clear hK K hH12
      change wpAnyH _ _ _ _ _ _ _ (Act.put _ (some 13) _) _
      simp only [Act.put, lyA, lyZ, lyS]
      refine wpAnyH_ready (rs := [5]) (by kernel_rfl) (by simp) ?_
      refine AllReadyH.cons rfl (fun K hK0 => ?d19) (AllReadyH.nil)
      have hK := hK0.out
      clear hK0
      rw [if_pos (by kernel_rfl)]
      refine wp_go_val (.pointer (some ⟨(wq13).heap.size, 0, none⟩)) (run_alloc _ _ _ (by kernel_rfl)) ?_
      have HD14 := Lib.hid (And.intro (HD13.out.1.alloc (.cells #[.bool false, .slice none 0 0] 34)) (HD13.out.2.alloc HD13.out.2.size (.cells #[.bool false, .slice none 0 0] 34)))
      have hr14 := Res.new (wq13) 34
      have hr14_lt : (wq13).heap.size < ((wq13).alloc (.cells #[.bool false, .slice none 0 0] 34)).heap.size := Nat.lt_of_lt_of_eq (Nat.lt_succ_self _) (size_alloc _ _).symm
      have hr14_ge := HD13.out.2.size
      have hr14_99 := hr13_99.step ((Below.refl (wq13).heap.size (wq13)).alloc (Nat.le_refl _) (.cells #[.bool false, .slice none 0 0] 34)) rfl hr13_99_lt
      have hr14_99_lt : (w.heap.size + 2) < ((wq13).alloc (.cells #[.bool false, .slice none 0 0] 34)).heap.size := Nat.lt_of_lt_of_eq (Nat.lt_succ_of_lt hr13_99_lt) (size_alloc _ _).symm
      have hr14_4 := hr13_4.step ((Below.refl (wq13).heap.size (wq13)).alloc (Nat.le_refl _) (.cells #[.bool false, .slice none 0 0] 34)) rfl hr13_4_lt
      have hr14_4_lt : (wq2).heap.size < ((wq13).alloc (.cells #[.bool false, .slice none 0 0] 34)).heap.size := Nat.lt_of_lt_of_eq (Nat.lt_succ_of_lt hr13_4_lt) (size_alloc _ _).symm
      have hne14 := Nat.ne_of_lt hr13_4_lt
      refine hK _ _ (HD14.out.1.tail.tail.cells) (fun hH14 => ?_)
      clear hK K hH13
      change wpAnyH _ _ _ _ _ _ _ (Act.put _ (some 6) _) _
      simp only [Act.put, lyA, lyZ, lyS]
      refine wpAnyH_ready (rs := [6]) (by kernel_rfl) (by simp) ?_
      refine AllReadyH.cons rfl (fun K hK0 => ?d20) (AllReadyH.nil)
      have hK := hK0.out
      clear hK0
      rw [if_pos (by kernel_rfl)]
      refine wp_go_skip (run_store2 hr14_4 qb2 qA2 qs2.length qc2 (.tmp 5) (.tmp 11) (by kernel_rfl) (by kernel_rfl) (by kernel_rfl)) ?_
      have hv15 := Vars.past HD14.out.1 hr14_4 (K := w.heap.size + 3) (by simp) (Nat.le_trans hbase hr12_ge) qb2 qA2 qs2.length qc2
      have o15 := hr14_4.held3 hr14_4_lt (HD14.out.1 1 _ rfl).at_
      have HD15 := Lib.hid (And.intro hv15 ((HD14.out.2.setCell (p := ⟨(wq2).heap.size, 0, none⟩) hr12_ge (.bool qb2)).setCell (p := ⟨(wq2).heap.size, 1, none⟩) hr12_ge (.slice qA2 qs2.length qc2)))
      have hr15_99 := hr14_99.farther (q := (wq2).heap.size) (by have h1 := Nat.le_trans hbase hr12_ge; omega) (.bool qb2) (.slice qA2 qs2.length qc2)
      have hr15_99_lt : (w.heap.size + 2) < (((((wq13).alloc (.cells #[.bool false, .slice none 0 0] 34))).setCell ⟨(wq2).heap.size, 0, none⟩ (.bool qb2)).setCell ⟨(wq2).heap.size, 1, none⟩ (.slice qA2 qs2.length qc2)).heap.size := Nat.lt_of_lt_of_eq hr14_99_lt (size_put _ _ _ _ _).symm
      have hr15_5 := hr14.farther (q := (wq2).heap.size) hne14 (.bool qb2) (.slice qA2 qs2.length qc2)
      have hr15_5_lt : (wq13).heap.size < (((((wq13).alloc (.cells #[.bool false, .slice none 0 0] 34))).setCell ⟨(wq2).heap.size, 0, none⟩ (.bool qb2)).setCell ⟨(wq2).heap.size, 1, none⟩ (.slice qA2 qs2.length qc2)).heap.size := Nat.lt_of_lt_of_eq hr14_lt (size_put _ _ _ _ _).symm
      refine hK _ _ (HD15.out.1.tail.tail.cells) (fun hH15 => ?_)
      clear hK K hH14
      change wpAnyH _ _ _ _ _ _ _ (Act.put _ none _) _
      simp only [Act.put]
      refine wpAnyH_ready (rs := [7]) (by kernel_rfl) (by simp) ?_
      refine AllReadyH.cons rfl (fun K hK0 => ?d21) (AllReadyH.nil)
      have hK := hK0.out
      clear hK0
      rw [if_pos (by kernel_rfl)]
      refine wp_go_skip (run_store2 hr15_5 qb13 qA13 qs13.length qc13 (.tmp 6) (.tmp 13) (by kernel_rfl) (by kernel_rfl) (by kernel_rfl)) ?_
      have hv16 := Vars.past HD15.out.1 hr15_5 (K := w.heap.size + 3) (by simp) (Nat.le_trans hbase hr14_ge) qb13 qA13 qs13.length qc13
      have o16 := hr15_5.held3 hr15_5_lt (HD15.out.1 0 _ rfl).at_
      have HD16 := Lib.hid (And.intro hv16 ((HD15.out.2.setCell (p := ⟨(wq13).heap.size, 0, none⟩) hr14_ge (.bool qb13)).setCell (p := ⟨(wq13).heap.size, 1, none⟩) hr14_ge (.slice qA13 qs13.length qc13)))
      have o16_p := o15.past hr15_5 (fun e => hne14 e.symm) qb13 qA13 qs13.length qc13
      have hr16_99 := hr15_99.farther (q := (wq13).heap.size) (by have h1 := Nat.le_trans hbase hr14_ge; omega) (.bool qb13) (.slice qA13 qs13.length qc13)
      have hr16_99_lt : (w.heap.size + 2) < ((((((((wq13).alloc (.cells #[.bool false, .slice none 0 0] 34))).setCell ⟨(wq2).heap.size, 0, none⟩ (.bool qb2)).setCell ⟨(wq2).heap.size, 1, none⟩ (.slice qA2 qs2.length qc2))).setCell ⟨(wq13).heap.size, 0, none⟩ (.bool qb13)).setCell ⟨(wq13).heap.size, 1, none⟩ (.slice qA13 qs13.length qc13)).heap.size := Nat.lt_of_lt_of_eq hr15_99_lt (size_put _ _ _ _ _).symm
      refine hK _ _ (HD16.out.1.tail.tail.cells) (fun hH16 => ?_)
      clear hK K hH15
      change wpAnyH _ _ _ _ _ _ _ (Act.put _ none _) _
      simp only [Act.put]
      refine wpAnyH_done (by kernel_rfl) ?_ _
      have HF := Lib.hid (And.intro (show (wq2).heap.size ≠ (wq13).heap.size from hne14) (And.intro (Nat.le_trans hbase hr12_ge) (And.intro (Nat.le_trans hbase hr14_ge) (And.intro (show Both ((((((((wq13).alloc (.cells #[.bool false, .slice none 0 0] 34))).setCell ⟨(wq2).heap.size, 0, none⟩ (.bool qb2)).setCell ⟨(wq2).heap.size, 1, none⟩ (.slice qA2 qs2.length qc2))).setCell ⟨(wq13).heap.size, 0, none⟩ (.bool qb13)).setCell ⟨(wq13).heap.size, 1, none⟩ (.slice qA13 qs13.length qc13)) (wq2).heap.size (wq13).heap.size ((x.natAbs : Nat) : Int) ((y.natAbs : Nat) : Int) from ⟨_, _, _, _, _, _, _, _, o16_p, o16⟩) (And.intro hr16_99 (below_then H0.out.1 HD16.out.2))))))
      clear o16_p o16 hr16_99
      generalize ((((((((wq13).alloc (.cells #[.bool false, .slice none 0 0] 34))).setCell ⟨(wq2).heap.size, 0, none⟩ (.bool qb2)).setCell ⟨(wq2).heap.size, 1, none⟩ (.slice qA2 qs2.length qc2))).setCell ⟨(wq13).heap.size, 0, none⟩ (.bool qb13)).setCell ⟨(wq13).heap.size, 1, none⟩ (.slice qA13 qs13.length qc13)) = Wz at HF ⊢
      generalize (wq13).heap.size = q6 at HF ⊢
      generalize (wq2).heap.size = q5 at HF ⊢
      go_wp2
      go_meet
      exact ⟨q5, q6, rfl, rfl, HF.out⟩
     case d18 =>
      have hK := hK0.out
      clear hK0
      rw [if_pos (by kernel_rfl)]
      refine wp_go_val (.pointer (some ⟨(((wq2).alloc (.cells #[.bool false, .slice none 0 0] 34))).heap.size, 0, none⟩)) (run_alloc _ _ _ (by kernel_rfl)) ?_
      have HD17 := Lib.hid (And.intro (HD12.out.1.alloc (.cells #[.bool false, .slice none 0 0] 34)) (HD12.out.2.alloc HD12.out.2.size (.cells #[.bool false, .slice none 0 0] 34)))
      have hr17 := Res.new (((wq2).alloc (.cells #[.bool false, .slice none 0 0] 34))) 34
      have hr17_lt : (((wq2).alloc (.cells #[.bool false, .slice none 0 0] 34))).heap.size < ((((wq2).alloc (.cells #[.bool false, .slice none 0 0] 34))).alloc (.cells #[.bool false, .slice none 0 0] 34)).heap.size := Nat.lt_of_lt_of_eq (Nat.lt_succ_self _) (size_alloc _ _).symm
      have hr17_ge := HD12.out.2.size
      have hr17_99 := hr12_99.step ((Below.refl (((wq2).alloc (.cells #[.bool false, .slice none 0 0] 34))).heap.size (((wq2).alloc (.cells #[.bool false, .slice none 0 0] 34)))).alloc (Nat.le_refl _) (.cells #[.bool false, .slice none 0 0] 34)) rfl hr12_99_lt
      have hr17_99_lt : (w.heap.size + 2) < ((((wq2).alloc (.cells #[.bool false, .slice none 0 0] 34))).alloc (.cells #[.bool false, .slice none 0 0] 34)).heap.size := Nat.lt_of_lt_of_eq (Nat.lt_succ_of_lt hr12_99_lt) (size_alloc _ _).symm
      have hr17_4 := hr12.step ((Below.refl (((wq2).alloc (.cells #[.bool false, .slice none 0 0] 34))).heap.size (((wq2).alloc (.cells #[.bool false, .slice none 0 0] 34)))).alloc (Nat.le_refl _) (.cells #[.bool false, .slice none 0 0] 34)) rfl hr12_lt
      have hr17_4_lt : (wq2).heap.size < ((((wq2).alloc (.cells #[.bool false, .slice none 0 0] 34))).alloc (.cells #[.bool false, .slice none 0 0] 34)).heap.size := Nat.lt_of_lt_of_eq (Nat.lt_succ_of_lt hr12_lt) (size_alloc _ _).symm
      have hne17 := Nat.ne_of_lt hr12_lt
      refine hK _ _ (HD17.out.1.tail.cells) (fun hH17 => ?_)
      clear hK K hH12
      change wpAnyH _ _ _ _ _ _ _ (Act.put _ (some 6) _) _
      simp only [Act.put, lyA, lyZ, lyS]
      refine wpAnyH_ready (rs := [3]) (by kernel_rfl) (by simp) ?_
      refine AllReadyH.cons rfl (fun K hK0 => ?d22) (AllReadyH.nil)
      have hK := hK0.out
      clear hK0
      rw [if_pos (by kernel_rfl)]
      refine wp_go_call 29 #[(.agg #[.bool b2, .slice A2 zs2.length c2])] (fun _ => by kernel_rfl) ((RAbs_any _ y _ ((HD17.out.1 1 _ rfl).at_)).mono ?_)
      rintro e wq18 ⟨qv18, rfl, ⟨qb18, qA18, qc18, qs18, rfl, qg18, ql18⟩, hb18⟩
      have HD18 := Lib.hid (And.intro ((HD17.out.1.step hb18 rfl).told qg18 ql18) (below_then HD17.out.2 hb18))
      have hr18_99 := hr17_99.step hb18 rfl hr17_99_lt
      have hr18_99_lt := Nat.lt_of_lt_of_le hr17_99_lt hb18.size
      have hr18_4 := hr17_4.step hb18 rfl hr17_4_lt
      have hr18_4_lt := Nat.lt_of_lt_of_le hr17_4_lt hb18.size
      have hr18_5 := hr17.step hb18 rfl hr17_lt
      have hr18_5_lt := Nat.lt_of_lt_of_le hr17_lt hb18.size
      refine ⟨(.agg #[.bool qb18, .slice qA18 qs18.length qc18]), rfl, hK _ _ (HD18.out.1.tail.tail.cells) (fun hH18 => ?_)⟩
      clear hK K hH17
      change wpAnyH _ _ _ _ _ _ _ (Act.put _ (some 13) _) _
      simp only [Act.put, lyA, lyZ, lyS]
      refine wpAnyH_ready (rs := [6]) (by kernel_rfl) (by simp) ?_
      refine AllReadyH.cons rfl (fun K hK0 => ?d23) (AllReadyH.nil)
      have hK := hK0.out
      clear hK0
      rw [if_pos (by kernel_rfl)]
      refine wp_go_skip (run_store2 hr18_4 qb2 qA2 qs2.length qc2 (.tmp 5) (.tmp 11) (by kernel_rfl) (by kernel_rfl) (by kernel_rfl)) ?_
      have hv19 := Vars.past HD18.out.1 hr18_4 (K := w.heap.size + 3) (by simp) (Nat.le_trans hbase hr12_ge) qb2 qA2 qs2.length qc2
      have o19 := hr18_4.held3 hr18_4_lt (HD18.out.1 1 _ rfl).at_
      have HD19 := Lib.hid (And.intro hv19 ((HD18.out.2.setCell (p := ⟨(wq2).heap.size, 0, none⟩) hr12_ge (.bool qb2)).setCell (p := ⟨(wq2).heap.size, 1, none⟩) hr12_ge (.slice qA2 qs2.length qc2)))
      have hr19_99 := hr18_99.farther (q := (wq2).heap.size) (by have h1 := Nat.le_trans hbase hr12_ge; omega) (.bool qb2) (.slice qA2 qs2.length qc2)
      have hr19_99_lt : (w.heap.size + 2) < (((wq18).setCell ⟨(wq2).heap.size, 0, none⟩ (.bool qb2)).setCell ⟨(wq2).heap.size, 1, none⟩ (.slice qA2 qs2.length qc2)).heap.size := Nat.lt_of_lt_of_eq hr18_99_lt (size_put _ _ _ _ _).symm
      have hr19_5 := hr18_5.farther (q := (wq2).heap.size) hne17 (.bool qb2) (.slice qA2 qs2.length qc2)
      have hr19_5_lt : (((wq2).alloc (.cells #[.bool false, .slice none 0 0] 34))).heap.size < (((wq18).setCell ⟨(wq2).heap.size, 0, none⟩ (.bool qb2)).setCell ⟨(wq2).heap.size, 1, none⟩ (.slice qA2 qs2.length qc2)).heap.size := Nat.lt_of_lt_of_eq hr18_5_lt (size_put _ _ _ _ _).symm
      refine hK _ _ (HD19.out.1.tail.tail.cells) (fun hH19 => ?_)
      clear hK K hH18
      change wpAnyH _ _ _ _ _ _ _ (Act.put _ none _) _
      simp only [Act.put]
      refine wpAnyH_ready (rs := [7]) (by kernel_rfl) (by simp) ?_
      refine AllReadyH.cons rfl (fun K hK0 => ?d24) (AllReadyH.nil)
      have hK := hK0.out
      clear hK0
      rw [if_pos (by kernel_rfl)]
      refine wp_go_skip (run_store2 hr19_5 qb18 qA18 qs18.length qc18 (.tmp 6) (.tmp 13) (by kernel_rfl) (by kernel_rfl) (by kernel_rfl)) ?_
      have hv20 := Vars.past HD19.out.1 hr19_5 (K := w.heap.size + 3) (by simp) (Nat.le_trans hbase hr17_ge) qb18 qA18 qs18.length qc18
      have o20 := hr19_5.held3 hr19_5_lt (HD19.out.1 0 _ rfl).at_
      have HD20 := Lib.hid (And.intro hv20 ((HD19.out.2.setCell (p := ⟨(((wq2).alloc (.cells #[.bool false, .slice none 0 0] 34))).heap.size, 0, none⟩) hr17_ge (.bool qb18)).setCell (p := ⟨(((wq2).alloc (.cells #[.bool false, .slice none 0 0] 34))).heap.size, 1, none⟩) hr17_ge (.slice qA18 qs18.length qc18)))
      have o20_p := o19.past hr19_5 (fun e => hne17 e.symm) qb18 qA18 qs18.length qc18
      have hr20_99 := hr19_99.farther (q := (((wq2).alloc (.cells #[.bool false, .slice none 0 0] 34))).heap.size) (by have h1 := Nat.le_trans hbase hr17_ge; omega) (.bool qb18) (.slice qA18 qs18.length qc18)
      have hr20_99_lt : (w.heap.size + 2) < ((((((wq18).setCell ⟨(wq2).heap.size, 0, none⟩ (.bool qb2)).setCell ⟨(wq2).heap.size, 1, none⟩ (.slice qA2 qs2.length qc2))).setCell ⟨(((wq2).alloc (.cells #[.bool false, .slice none 0 0] 34))).heap.size, 0, none⟩ (.bool qb18)).setCell ⟨(((wq2).alloc (.cells #[.bool false, .slice none 0 0] 34))).heap.size, 1, none⟩ (.slice qA18 qs18.length qc18)).heap.size := Nat.lt_of_lt_of_eq hr19_99_lt (size_put _ _ _ _ _).symm
      refine hK _ _ (HD20.out.1.tail.tail.cells) (fun hH20 => ?_)
      clear hK K hH19
      change wpAnyH _ _ _ _ _ _ _ (Act.put _ none _) _
      simp only [Act.put]
      refine wpAnyH_done (by kernel_rfl) ?_ _
      have HF := Lib.hid (And.intro (show (wq2).heap.size ≠ (((wq2).alloc (.cells #[.bool false, .slice none 0 0] 34))).heap.size from hne17) (And.intro (Nat.le_trans hbase hr12_ge) (And.intro (Nat.le_trans hbase hr17_ge) (And.intro (show Both ((((((wq18).setCell ⟨(wq2).heap.size, 0, none⟩ (.bool qb2)).setCell ⟨(wq2).heap.size, 1, none⟩ (.slice qA2 qs2.length qc2))).setCell ⟨(((wq2).alloc (.cells #[.bool false, .slice none 0 0] 34))).heap.size, 0, none⟩ (.bool qb18)).setCell ⟨(((wq2).alloc (.cells #[.bool false, .slice none 0 0] 34))).heap.size, 1, none⟩ (.slice qA18 qs18.length qc18)) (wq2).heap.size (((wq2).alloc (.cells #[.bool false, .slice none 0 0] 34))).heap.size ((x.natAbs : Nat) : Int) ((y.natAbs : Nat) : Int) from ⟨_, _, _, _, _, _, _, _, o20_p, o20⟩) (And.intro hr20_99 (below_then H0.out.1 HD20.out.2))))))
      clear o20_p o20 hr20_99
      generalize ((((((wq18).setCell ⟨(wq2).heap.size, 0, none⟩ (.bool qb2)).setCell ⟨(wq2).heap.size, 1, none⟩ (.slice qA2 qs2.length qc2))).setCell ⟨(((wq2).alloc (.cells #[.bool false, .slice none 0 0] 34))).heap.size, 0, none⟩ (.bool qb18)).setCell ⟨(((wq2).alloc (.cells #[.bool false, .slice none 0 0] 34))).heap.size, 1, none⟩ (.slice qA18 qs18.length qc18)) = Wz at HF ⊢
      generalize (((wq2).alloc (.cells #[.bool false, .slice none 0 0] 34))).heap.size = q6 at HF ⊢
      generalize (wq2).heap.size = q5 at HF ⊢
      go_wp2
      go_meet
      exact ⟨q5, q6, rfl, rfl, HF.out⟩
    case d8 =>
     have hK := hK0.out
     clear hK0
     rw [if_pos (by kernel_rfl)]
     refine wp_go_val (.pointer (some ⟨(wq2).heap.size, 0, none⟩)) (run_alloc _ _ _ (by kernel_rfl)) ?_
     have HD21 := Lib.hid (And.intro (HD2.out.1.alloc (.cells #[.bool false, .slice none 0 0] 34)) (HD2.out.2.alloc HD2.out.2.size (.cells #[.bool false, .slice none 0 0] 34)))
     have hr21 := Res.new (wq2) 34
     have hr21_lt : (wq2).heap.size < ((wq2).alloc (.cells #[.bool false, .slice none 0 0] 34)).heap.size := Nat.lt_of_lt_of_eq (Nat.lt_succ_self _) (size_alloc _ _).symm
     have hr21_ge := HD2.out.2.size
     have hr21_99 := hr2_99.step ((Below.refl (wq2).heap.size (wq2)).alloc (Nat.le_refl _) (.cells #[.bool false, .slice none 0 0] 34)) rfl hr2_99_lt
     have hr21_99_lt : (w.heap.size + 2) < ((wq2).alloc (.cells #[.bool false, .slice none 0 0] 34)).heap.size := Nat.lt_of_lt_of_eq (Nat.lt_succ_of_lt hr2_99_lt) (size_alloc _ _).symm
     refine hK _ _ (HD21.out.1.tail.cells) (fun hH21 => ?_)
     clear hK K hH2
     change wpAnyH _ _ _ _ _ _ _ (Act.put _ (some 6) _) _
     simp only [Act.put, lyA, lyZ, lyS]
     refine wpAnyH_ready (rs := [3, 4]) (by kernel_rfl) (by simp) ?_
     refine AllReadyH.cons rfl (fun K hK0 => ?d25) (AllReadyH.cons rfl (fun K hK0 => ?d26) (AllReadyH.nil))
     case d25 =>
      have hK := hK0.out
      clear hK0
      rw [if_pos (by kernel_rfl)]
      refine wp_go_call 29 #[(.agg #[.bool b2, .slice A2 zs2.length c2])] (fun _ => by kernel_rfl) ((RAbs_any _ y _ ((HD21.out.1 1 _ rfl).at_)).mono ?_)
      rintro e wq22 ⟨qv22, rfl, ⟨qb22, qA22, qc22, qs22, rfl, qg22, ql22⟩, hb22⟩
      have HD22 := Lib.hid (And.intro ((HD21.out.1.step hb22 rfl).told qg22 ql22) (below_then HD21.out.2 hb22))
      have hr22_99 := hr21_99.step hb22 rfl hr21_99_lt
      have hr22_99_lt := Nat.lt_of_lt_of_le hr21_99_lt hb22.size
      have hr22_5 := hr21.step hb22 rfl hr21_lt
      have hr22_5_lt := Nat.lt_of_lt_of_le hr21_lt hb22.size
      refine ⟨(.agg #[.bool qb22, .slice qA22 qs22.length qc22]), rfl, hK _ _ (HD22.out.1.tail.tail.cells) (fun hH22 => ?_)⟩
      clear hK K hH21
      change wpAnyH _ _ _ _ _ _ _ (Act.put _ (some 13) _) _
      simp only [Act.put, lyA, lyZ, lyS]
      refine wpAnyH_ready (rs := [4]) (by kernel_rfl) (by simp) ?_
      refine AllReadyH.cons rfl (fun K hK0 => ?d27) (AllReadyH.nil)
      have hK := hK0.out
      clear hK0
      rw [if_pos (by kernel_rfl)]
      refine wp_go_val (.pointer (some ⟨(wq22).heap.size, 0, none⟩)) (run_alloc _ _ _ (by kernel_rfl)) ?_
      have HD23 := Lib.hid (And.intro (HD22.out.1.alloc (.cells #[.bool false, .slice none 0 0] 34)) (HD22.out.2.alloc HD22.out.2.size (.cells #[.bool false, .slice none 0 0] 34)))
      have hr23 := Res.new (wq22) 34
      have hr23_lt : (wq22).heap.size < ((wq22).alloc (.cells #[.bool false, .slice none 0 0] 34)).heap.size := Nat.lt_of_lt_of_eq (Nat.lt_succ_self _) (size_alloc _ _).symm
      have hr23_ge := HD22.out.2.size
      have hr23_99 := hr22_99.step ((Below.refl (wq22).heap.size (wq22)).alloc (Nat.le_refl _) (.cells #[.bool false, .slice none 0 0] 34)) rfl hr22_99_lt
      have hr23_99_lt : (w.heap.size + 2) < ((wq22).alloc (.cells #[.bool false, .slice none 0 0] 34)).heap.size := Nat.lt_of_lt_of_eq (Nat.lt_succ_of_lt hr22_99_lt) (size_alloc _ _).symm
      have hr23_5 := hr22_5.step ((Below.refl (wq22).heap.size (wq22)).alloc (Nat.le_refl _) (.cells #[.bool false, .slice none 0 0] 34)) rfl hr22_5_lt
      have hr23_5_lt : (wq2).heap.size < ((wq22).alloc (.cells #[.bool false, .slice none 0 0] 34)).heap.size := Nat.lt_of_lt_of_eq (Nat.lt_succ_of_lt hr22_5_lt) (size_alloc _ _).symm
      have hne23 := Nat.ne_of_lt hr22_5_lt
      refine hK _ _ (HD23.out.1.tail.tail.cells) (fun hH23 => ?_)
      clear hK K hH22
      change wpAnyH _ _ _ _ _ _ _ (Act.put _ (some 5) _) _
      simp only [Act.put, lyA, lyZ, lyS]
      refine wpAnyH_ready (rs := [6]) (by kernel_rfl) (by simp) ?_
      refine AllReadyH.cons rfl (fun K hK0 => ?d28) (AllReadyH.nil)
      have hK := hK0.out
      clear hK0
      rw [if_pos (by kernel_rfl)]
      refine wp_go_skip (run_store2 hr23 qb2 qA2 qs2.length qc2 (.tmp 5) (.tmp 11) (by kernel_rfl) (by kernel_rfl) (by kernel_rfl)) ?_
      have hv24 := Vars.past HD23.out.1 hr23 (K := w.heap.size + 3) (by simp) (Nat.le_trans hbase hr23_ge) qb2 qA2 qs2.length qc2
      have o24 := hr23.held3 hr23_lt (HD23.out.1 1 _ rfl).at_
      have HD24 := Lib.hid (And.intro hv24 ((HD23.out.2.setCell (p := ⟨(wq22).heap.size, 0, none⟩) hr23_ge (.bool qb2)).setCell (p := ⟨(wq22).heap.size, 1, none⟩) hr23_ge (.slice qA2 qs2.length qc2)))
      have hr24_99 := hr23_99.farther (q := (wq22).heap.size) (by have h1 := Nat.le_trans hbase hr23_ge; omega) (.bool qb2) (.slice qA2 qs2.length qc2)
      have hr24_99_lt : (w.heap.size + 2) < (((((wq22).alloc (.cells #[.bool false, .slice none 0 0] 34))).setCell ⟨(wq22).heap.size, 0, none⟩ (.bool qb2)).setCell ⟨(wq22).heap.size, 1, none⟩ (.slice qA2 qs2.length qc2)).heap.size := Nat.lt_of_lt_of_eq hr23_99_lt (size_put _ _ _ _ _).symm
      have hr24_5 := hr23_5.farther (q := (wq22).heap.size) (fun e => hne23 e.symm) (.bool qb2) (.slice qA2 qs2.length qc2)
      have hr24_5_lt : (wq2).heap.size < (((((wq22).alloc (.cells #[.bool false, .slice none 0 0] 34))).setCell ⟨(wq22).heap.size, 0, none⟩ (.bool qb2)).setCell ⟨(wq22).heap.size, 1, none⟩ (.slice qA2 qs2.length qc2)).heap.size := Nat.lt_of_lt_of_eq hr23_5_lt (size_put _ _ _ _ _).symm
      refine hK _ _ (HD24.out.1.tail.tail.cells) (fun hH24 => ?_)
      clear hK K hH23
      change wpAnyH _ _ _ _ _ _ _ (Act.put _ none _) _
      simp only [Act.put]
      refine wpAnyH_ready (rs := [7]) (by kernel_rfl) (by simp) ?_
      refine AllReadyH.cons rfl (fun K hK0 => ?d29) (AllReadyH.nil)
      have hK := hK0.out
      clear hK0
      rw [if_pos (by kernel_rfl)]
      refine wp_go_skip (run_store2 hr24_5 qb22 qA22 qs22.length qc22 (.tmp 6) (.tmp 13) (by kernel_rfl) (by kernel_rfl) (by kernel_rfl)) ?_
      have hv25 := Vars.past HD24.out.1 hr24_5 (K := w.heap.size + 3) (by simp) (Nat.le_trans hbase hr21_ge) qb22 qA22 qs22.length qc22
      have o25 := hr24_5.held3 hr24_5_lt (HD24.out.1 0 _ rfl).at_
      have HD25 := Lib.hid (And.intro hv25 ((HD24.out.2.setCell (p := ⟨(wq2).heap.size, 0, none⟩) hr21_ge (.bool qb22)).setCell (p := ⟨(wq2).heap.size, 1, none⟩) hr21_ge (.slice qA22 qs22.length qc22)))
      have o25_p := o24.past hr24_5 (hne23) qb22 qA22 qs22.length qc22
      have hr25_99 := hr24_99.farther (q := (wq2).heap.size) (by have h1 := Nat.le_trans hbase hr21_ge; omega) (.bool qb22) (.slice qA22 qs22.length qc22)
      have hr25_99_lt : (w.heap.size + 2) < ((((((((wq22).alloc (.cells #[.bool false, .slice none 0 0] 34))).setCell ⟨(wq22).heap.size, 0, none⟩ (.bool qb2)).setCell ⟨(wq22).heap.size, 1, none⟩ (.slice qA2 qs2.length qc2))).setCell ⟨(wq2).heap.size, 0, none⟩ (.bool qb22)).setCell ⟨(wq2).heap.size, 1, none⟩ (.slice qA22 qs22.length qc22)).heap.size := Nat.lt_of_lt_of_eq hr24_99_lt (size_put _ _ _ _ _).symm
      refine hK _ _ (HD25.out.1.tail.tail.cells) (fun hH25 => ?_)
      clear hK K hH24
      change wpAnyH _ _ _ _ _ _ _ (Act.put _ none _) _
      simp only [Act.put]
      refine wpAnyH_done (by kernel_rfl) ?_ _
      have HF := Lib.hid (And.intro (show (wq22).heap.size ≠ (wq2).heap.size from (fun e => hne23 e.symm)) (And.intro (Nat.le_trans hbase hr23_ge) (And.intro (Nat.le_trans hbase hr21_ge) (And.intro (show Both ((((((((wq22).alloc (.cells #[.bool false, .slice none 0 0] 34))).setCell ⟨(wq22).heap.size, 0, none⟩ (.bool qb2)).setCell ⟨(wq22).heap.size, 1, none⟩ (.slice qA2 qs2.length qc2))).setCell ⟨(wq2).heap.size, 0, none⟩ (.bool qb22)).setCell ⟨(wq2).heap.size, 1, none⟩ (.slice qA22 qs22.length qc22)) (wq22).heap.size (wq2).heap.size ((x.natAbs : Nat) : Int) ((y.natAbs : Nat) : Int) from ⟨_, _, _, _, _, _, _, _, o25_p, o25⟩) (And.intro hr25_99 (below_then H0.out.1 HD25.out.2))))))
      clear o25_p o25 hr25_99
      generalize ((((((((wq22).alloc (.cells #[.bool false, .slice none 0 0] 34))).setCell ⟨(wq22).heap.size, 0, none⟩ (.bool qb2)).setCell ⟨(wq22).heap.size, 1, none⟩ (.slice qA2 qs2.length qc2))).setCell ⟨(wq2).heap.size, 0, none⟩ (.bool qb22)).setCell ⟨(wq2).heap.size, 1, none⟩ (.slice qA22 qs22.length qc22)) = Wz at HF ⊢
      generalize (wq2).heap.size = q6 at HF ⊢
      generalize (wq22).heap.size = q5 at HF ⊢
      go_wp2
      go_meet
      exact ⟨q5, q6, rfl, rfl, HF.out⟩
     case d26 =>
      have hK := hK0.out
      clear hK0
      rw [if_pos (by kernel_rfl)]
      refine wp_go_val (.pointer (some ⟨(((wq2).alloc (.cells #[.bool false, .slice none 0 0] 34))).heap.size, 0, none⟩)) (run_alloc _ _ _ (by kernel_rfl)) ?_
      have HD26 := Lib.hid (And.intro (HD21.out.1.alloc (.cells #[.bool false, .slice none 0 0] 34)) (HD21.out.2.alloc HD21.out.2.size (.cells #[.bool false, .slice none 0 0] 34)))
      have hr26 := Res.new (((wq2).alloc (.cells #[.bool false, .slice none 0 0] 34))) 34
      have hr26_lt : (((wq2).alloc (.cells #[.bool false, .slice none 0 0] 34))).heap.size < ((((wq2).alloc (.cells #[.bool false, .slice none 0 0] 34))).alloc (.cells #[.bool false, .slice none 0 0] 34)).heap.size := Nat.lt_of_lt_of_eq (Nat.lt_succ_self _) (size_alloc _ _).symm
      have hr26_ge := HD21.out.2.size
      have hr26_99 := hr21_99.step ((Below.refl (((wq2).alloc (.cells #[.bool false, .slice none 0 0] 34))).heap.size (((wq2).alloc (.cells #[.bool false, .slice none 0 0] 34)))).alloc (Nat.le_refl _) (.cells #[.bool false, .slice none 0 0] 34)) rfl hr21_99_lt
      have hr26_99_lt : (w.heap.size + 2) < ((((wq2).alloc (.cells #[.bool false, .slice none 0 0] 34))).alloc (.cells #[.bool false, .slice none 0 0] 34)).heap.size := Nat.lt_of_lt_of_eq (Nat.lt_succ_of_lt hr21_99_lt) (size_alloc _ _).symm
      have hr26_5 := hr21.step ((Below.refl (((wq2).alloc (.cells #[.bool false, .slice none 0 0] 34))).heap.size (((wq2).alloc (.cells #[.bool false, .slice none 0 0] 34)))).alloc (Nat.le_refl _) (.cells #[.bool false, .slice none 0 0] 34)) rfl hr21_lt
      have hr26_5_lt : (wq2).heap.size < ((((wq2).alloc (.cells #[.bool false, .slice none 0 0] 34))).alloc (.cells #[.bool false, .slice none 0 0] 34)).heap.size := Nat.lt_of_lt_of_eq (Nat.lt_succ_of_lt hr21_lt) (size_alloc _ _).symm
      have hne26 := Nat.ne_of_lt hr21_lt
      refine hK _ _ (HD26.out.1.tail.cells) (fun hH26 => ?_)
      clear hK K hH21
      change wpAnyH _ _ _ _ _ _ _ (Act.put _ (some 5) _) _
      simp only [Act.put, lyA, lyZ, lyS]
      refine wpAnyH_ready (rs := [3]) (by kernel_rfl) (by simp) ?_
      refine AllReadyH.cons rfl (fun K hK0 => ?d30) (AllReadyH.nil)
      have hK := hK0.out
      clear hK0
      rw [if_pos (by kernel_rfl)]
      refine wp_go_call 29 #[(.agg #[.bool b2, .slice A2 zs2.length c2])] (fun _ => by kernel_rfl) ((RAbs_any _ y _ ((HD26.out.1 1 _ rfl).at_)).mono ?_)
      rintro e wq27 ⟨qv27, rfl, ⟨qb27, qA27, qc27, qs27, rfl, qg27, ql27⟩, hb27⟩
      have HD27 := Lib.hid (And.intro ((HD26.out.1.step hb27 rfl).told qg27 ql27) (below_then HD26.out.2 hb27))
      have hr27_99 := hr26_99.step hb27 rfl hr26_99_lt
      have hr27_99_lt := Nat.lt_of_lt_of_le hr26_99_lt hb27.size
      have hr27_5 := hr26_5.step hb27 rfl hr26_5_lt
      have hr27_5_lt := Nat.lt_of_lt_of_le hr26_5_lt hb27.size
      have hr27_4 := hr26.step hb27 rfl hr26_lt
      have hr27_4_lt := Nat.lt_of_lt_of_le hr26_lt hb27.size
      refine ⟨(.agg #[.bool qb27, .slice qA27 qs27.length qc27]), rfl, hK _ _ (HD27.out.1.tail.tail.cells) (fun hH27 => ?_)⟩
      clear hK K hH26
      change wpAnyH _ _ _ _ _ _ _ (Act.put _ (some 13) _) _
      simp only [Act.put, lyA, lyZ, lyS]
      refine wpAnyH_ready (rs := [6]) (by kernel_rfl) (by simp) ?_
      refine AllReadyH.cons rfl (fun K hK0 => ?d31) (AllReadyH.nil)
      have hK := hK0.out
      clear hK0
      rw [if_pos (by kernel_rfl)]
      refine wp_go_skip (run_store2 hr27_4 qb2 qA2 qs2.length qc2 (.tmp 5) (.tmp 11) (by kernel_rfl) (by kernel_rfl) (by kernel_rfl)) ?_
      have hv28 := Vars.past HD27.out.1 hr27_4 (K := w.heap.size + 3) (by simp) (Nat.le_trans hbase hr26_ge) qb2 qA2 qs2.length qc2
      have o28 := hr27_4.held3 hr27_4_lt (HD27.out.1 1 _ rfl).at_
      have HD28 := Lib.hid (And.intro hv28 ((HD27.out.2.setCell (p := ⟨(((wq2).alloc (.cells #[.bool false, .slice none 0 0] 34))).heap.size, 0, none⟩) hr26_ge (.bool qb2)).setCell (p := ⟨(((wq2).alloc (.cells #[.bool false, .slice none 0 0] 34))).heap.size, 1, none⟩) hr26_ge (.slice qA2 qs2.length qc2)))
      have hr28_99 := hr27_99.farther (q := (((wq2).alloc (.cells #[.bool false, .slice none 0 0] 34))).heap.size) (by have h1 := Nat.le_trans hbase hr26_ge; omega) (.bool qb2) (.slice qA2 qs2.length qc2)
      have hr28_99_lt : (w.heap.size + 2) < (((wq27).setCell ⟨(((wq2).alloc (.cells #[.bool false, .slice none 0 0] 34))).heap.size, 0, none⟩ (.bool qb2)).setCell ⟨(((wq2).alloc (.cells #[.bool false, .slice none 0 0] 34))).heap.size, 1, none⟩ (.slice qA2 qs2.length qc2)).heap.size := Nat.lt_of_lt_of_eq hr27_99_lt (size_put _ _ _ _ _).symm
      have hr28_5 := hr27_5.farther (q := (((wq2).alloc (.cells #[.bool false, .slice none 0 0] 34))).heap.size) (fun e => hne26 e.symm) (.bool qb2) (.slice qA2 qs2.length qc2)
      have hr28_5_lt : (wq2).heap.size < (((wq27).setCell ⟨(((wq2).alloc (.cells #[.bool false, .slice none 0 0] 34))).heap.size, 0, none⟩ (.bool qb2)).setCell ⟨(((wq2).alloc (.cells #[.bool false, .slice none 0 0] 34))).heap.size, 1, none⟩ (.slice qA2 qs2.length qc2)).heap.size := Nat.lt_of_lt_of_eq hr27_5_lt (size_put _ _ _ _ _).symm
      refine hK _ _ (HD28.out.1.tail.tail.cells) (fun hH28 => ?_)
      clear hK K hH27
      change wpAnyH _ _ _ _ _ _ _ (Act.put _ none _) _
      simp only [Act.put]
      refine wpAnyH_ready (rs := [7]) (by kernel_rfl) (by simp) ?_
      refine AllReadyH.cons rfl (fun K hK0 => ?d32) (AllReadyH.nil)
      have hK := hK0.out
      clear hK0
      rw [if_pos (by kernel_rfl)]
      refine wp_go_skip (run_store2 hr28_5 qb27 qA27 qs27.length qc27 (.tmp 6) (.tmp 13) (by kernel_rfl) (by kernel_rfl) (by kernel_rfl)) ?_
      have hv29 := Vars.past HD28.out.1 hr28_5 (K := w.heap.size + 3) (by simp) (Nat.le_trans hbase hr21_ge) qb27 qA27 qs27.length qc27
      have o29 := hr28_5.held3 hr28_5_lt (HD28.out.1 0 _ rfl).at_
      have HD29 := Lib.hid (And.intro hv29 ((HD28.out.2.setCell (p := ⟨(wq2).heap.size, 0, none⟩) hr21_ge (.bool qb27)).setCell (p := ⟨(wq2).heap.size, 1, none⟩) hr21_ge (.slice qA27 qs27.length qc27)))
      have o29_p := o28.past hr28_5 (hne26) qb27 qA27 qs27.length qc27
      have hr29_99 := hr28_99.farther (q := (wq2).heap.size) (by have h1 := Nat.le_trans hbase hr21_ge; omega) (.bool qb27) (.slice qA27 qs27.length qc27)
      have hr29_99_lt : (w.heap.size + 2) < ((((((wq27).setCell ⟨(((wq2).alloc (.cells #[.bool false, .slice none 0 0] 34))).heap.size, 0, none⟩ (.bool qb2)).setCell ⟨(((wq2).alloc (.cells #[.bool false, .slice none 0 0] 34))).heap.size, 1, none⟩ (.slice qA2 qs2.length qc2))).setCell ⟨(wq2).heap.size, 0, none⟩ (.bool qb27)).setCell ⟨(wq2).heap.size, 1, none⟩ (.slice qA27 qs27.length qc27)).heap.size := Nat.lt_of_lt_of_eq hr28_99_lt (size_put _ _ _ _ _).symm
      refine hK _ _ (HD29.out.1.tail.tail.cells) (fun hH29 => ?_)
      clear hK K hH28
      change wpAnyH _ _ _ _ _ _ _ (Act.put _ none _) _
      simp only [Act.put]
      refine wpAnyH_done (by kernel_rfl) ?_ _
      have HF := Lib.hid (And.intro (show (((wq2).alloc (.cells #[.bool false, .slice none 0 0] 34))).heap.size ≠ (wq2).heap.size from (fun e => hne26 e.symm)) (And.intro (Nat.le_trans hbase hr26_ge) (And.intro (Nat.le_trans hbase hr21_ge) (And.intro (show Both ((((((wq27).setCell ⟨(((wq2).alloc (.cells #[.bool false, .slice none 0 0] 34))).heap.size, 0, none⟩ (.bool qb2)).setCell ⟨(((wq2).alloc (.cells #[.bool false, .slice none 0 0] 34))).heap.size, 1, none⟩ (.slice qA2 qs2.length qc2))).setCell ⟨(wq2).heap.size, 0, none⟩ (.bool qb27)).setCell ⟨(wq2).heap.size, 1, none⟩ (.slice qA27 qs27.length qc27)) (((wq2).alloc (.cells #[.bool false, .slice none 0 0] 34))).heap.size (wq2).heap.size ((x.natAbs : Nat) : Int) ((y.natAbs : Nat) : Int) from ⟨_, _, _, _, _, _, _, _, o29_p, o29⟩) (And.intro hr29_99 (below_then H0.out.1 HD29.out.2))))))
      clear o29_p o29 hr29_99
      generalize ((((((wq27).setCell ⟨(((wq2).alloc (.cells #[.bool false, .slice none 0 0] 34))).heap.size, 0, none⟩ (.bool qb2)).setCell ⟨(((wq2).alloc (.cells #[.bool false, .slice none 0 0] 34))).heap.size, 1, none⟩ (.slice qA2 qs2.length qc2))).setCell ⟨(wq2).heap.size, 0, none⟩ (.bool qb27)).setCell ⟨(wq2).heap.size, 1, none⟩ (.slice qA27 qs27.length qc27)) = Wz at HF ⊢
      generalize (wq2).heap.size = q6 at HF ⊢
      generalize (((wq2).alloc (.cells #[.bool false, .slice none 0 0] 34))).heap.size = q5 at HF ⊢
      go_wp2
      go_meet
      exact ⟨q5, q6, rfl, rfl, HF.out⟩
   case d4 =>
    have hK := hK0.out
    clear hK0
    rw [if_pos (by kernel_rfl)]
    refine wp_go_val (.pointer (some ⟨(W.drew).heap.size, 0, none⟩)) (run_alloc _ _ _ (by kernel_rfl)) ?_
    have HD30 := Lib.hid (And.intro (HD1.out.1.alloc (.cells #[.bool false, .slice none 0 0] 34)) (HD1.out.2.alloc HD1.out.2.size (.cells #[.bool false, .slice none 0 0] 34)))
    have hr30 := Res.new (W.drew) 34
    have hr30_lt : (W.drew).heap.size < ((W.drew).alloc (.cells #[.bool false, .slice none 0 0] 34)).heap.size := Nat.lt_of_lt_of_eq (Nat.lt_succ_self _) (size_alloc _ _).symm
    have hr30_ge := HD1.out.2.size
    have hr30_99 := hres.step ((Below.refl (W.drew).heap.size (W.drew)).alloc (Nat.le_refl _) (.cells #[.bool false, .slice none 0 0] 34)) rfl hres_lt
    have hr30_99_lt : (w.heap.size + 2) < ((W.drew).alloc (.cells #[.bool false, .slice none 0 0] 34)).heap.size := Nat.lt_of_lt_of_eq (Nat.lt_succ_of_lt hres_lt) (size_alloc _ _).symm
    refine hK _ _ (HD30.out.1.cells) (fun hH30 => ?_)
    clear hK K hH0
    change wpAnyH _ _ _ _ _ _ _ (Act.put _ (some 5) _) _
    simp only [Act.put, lyA, lyZ, lyS]
    refine wpAnyH_ready (rs := [1, 5]) (by kernel_rfl) (by simp) ?_
    refine AllReadyH.cons rfl (fun K hK0 => ?d33) (AllReadyH.cons rfl (fun K hK0 => ?d34) (AllReadyH.nil))
    case d33 =>
     have hK := hK0.out
     clear hK0
     rw [if_pos (by kernel_rfl)]
     refine wp_go_call 29 #[(.agg #[.bool b1, .slice A1 zs1.length c1])] (fun _ => by kernel_rfl) ((RAbs_any _ x _ ((HD30.out.1 1 _ rfl).at_)).mono ?_)
     rintro e wq31 ⟨qv31, rfl, ⟨qb31, qA31, qc31, qs31, rfl, qg31, ql31⟩, hb31⟩
     have HD31 := Lib.hid (And.intro ((HD30.out.1.step hb31 rfl).told qg31 ql31) (below_then HD30.out.2 hb31))
     have hr31_99 := hr30_99.step hb31 rfl hr30_99_lt
     have hr31_99_lt := Nat.lt_of_lt_of_le hr30_99_lt hb31.size
     have hr31_4 := hr30.step hb31 rfl hr30_lt
     have hr31_4_lt := Nat.lt_of_lt_of_le hr30_lt hb31.size
     refine ⟨(.agg #[.bool qb31, .slice qA31 qs31.length qc31]), rfl, hK _ _ (HD31.out.1.tail.cells) (fun hH31 => ?_)⟩
     clear hK K hH30
     change wpAnyH _ _ _ _ _ _ _ (Act.put _ (some 11) _) _
     simp only [Act.put, lyA, lyZ, lyS]
     refine wpAnyH_ready (rs := [3, 5]) (by kernel_rfl) (by simp) ?_
     refine AllReadyH.cons rfl (fun K hK0 => ?d35) (AllReadyH.cons rfl (fun K hK0 => ?d36) (AllReadyH.nil))
     case d35 =>
      have hK := hK0.out
      clear hK0
      rw [if_pos (by kernel_rfl)]
      refine wp_go_call 29 #[(.agg #[.bool b2, .slice A2 zs2.length c2])] (fun _ => by kernel_rfl) ((RAbs_any _ y _ ((HD31.out.1 1 _ rfl).at_)).mono ?_)
      rintro e wq32 ⟨qv32, rfl, ⟨qb32, qA32, qc32, qs32, rfl, qg32, ql32⟩, hb32⟩
      have HD32 := Lib.hid (And.intro ((HD31.out.1.step hb32 rfl).told qg32 ql32) (below_then HD31.out.2 hb32))
      have hr32_99 := hr31_99.step hb32 rfl hr31_99_lt
      have hr32_99_lt := Nat.lt_of_lt_of_le hr31_99_lt hb32.size
      have hr32_4 := hr31_4.step hb32 rfl hr31_4_lt
      have hr32_4_lt := Nat.lt_of_lt_of_le hr31_4_lt hb32.size
      refine ⟨(.agg #[.bool qb32, .slice qA32 qs32.length qc32]), rfl, hK _ _ (HD32.out.1.tail.tail.cells) (fun hH32 => ?_)⟩
      clear hK K hH31
      change wpAnyH _ _ _ _ _ _ _ (Act.put _ (some 13) _) _
      simp only [Act.put, lyA, lyZ, lyS]
      refine wpAnyH_ready (rs := [5]) (by kernel_rfl) (by simp) ?_
      refine AllReadyH.cons rfl (fun K hK0 => ?d37) (AllReadyH.nil)
      have hK := hK0.out
      clear hK0
      rw [if_pos (by kernel_rfl)]
      refine wp_go_val (.pointer (some ⟨(wq32).heap.size, 0, none⟩)) (run_alloc _ _ _ (by kernel_rfl)) ?_
      have HD33 := Lib.hid (And.intro (HD32.out.1.alloc (.cells #[.bool false, .slice none 0 0] 34)) (HD32.out.2.alloc HD32.out.2.size (.cells #[.bool false, .slice none 0 0] 34)))
      have hr33 := Res.new (wq32) 34
      have hr33_lt : (wq32).heap.size < ((wq32).alloc (.cells #[.bool false, .slice none 0 0] 34)).heap.size := Nat.lt_of_lt_of_eq (Nat.lt_succ_self _) (size_alloc _ _).symm
      have hr33_ge := HD32.out.2.size
      have hr33_99 := hr32_99.step ((Below.refl (wq32).heap.size (wq32)).alloc (Nat.le_refl _) (.cells #[.bool false, .slice none 0 0] 34)) rfl hr32_99_lt
      have hr33_99_lt : (w.heap.size + 2) < ((wq32).alloc (.cells #[.bool false, .slice none 0 0] 34)).heap.size := Nat.lt_of_lt_of_eq (Nat.lt_succ_of_lt hr32_99_lt) (size_alloc _ _).symm
      have hr33_4 := hr32_4.step ((Below.refl (wq32).heap.size (wq32)).alloc (Nat.le_refl _) (.cells #[.bool false, .slice none 0 0] 34)) rfl hr32_4_lt
      have hr33_4_lt : (W.drew).heap.size < ((wq32).alloc (.cells #[.bool false, .slice none 0 0] 34)).heap.size := Nat.lt_of_lt_of_eq (Nat.lt_succ_of_lt hr32_4_lt) (size_alloc _ _).symm
      have hne33 := Nat.ne_of_lt hr32_4_lt
      refine hK _ _ (HD33.out.1.tail.tail.cells) (fun hH33 => ?_)
      clear hK K hH32
      change wpAnyH _ _ _ _ _ _ _ (Act.put _ (some 6) _) _
      simp only [Act.put, lyA, lyZ, lyS]
      refine wpAnyH_ready (rs := [6]) (by kernel_rfl) (by simp) ?_
      refine AllReadyH.cons rfl (fun K hK0 => ?d38) (AllReadyH.nil)
      have hK := hK0.out
      clear hK0
      rw [if_pos (by kernel_rfl)]
      refine wp_go_skip (run_store2 hr33_4 qb31 qA31 qs31.length qc31 (.tmp 5) (.tmp 11) (by kernel_rfl) (by kernel_rfl) (by kernel_rfl)) ?_
      have hv34 := Vars.past HD33.out.1 hr33_4 (K := w.heap.size + 3) (by simp) (Nat.le_trans hbase hr30_ge) qb31 qA31 qs31.length qc31
      have o34 := hr33_4.held3 hr33_4_lt (HD33.out.1 1 _ rfl).at_
      have HD34 := Lib.hid (And.intro hv34 ((HD33.out.2.setCell (p := ⟨(W.drew).heap.size, 0, none⟩) hr30_ge (.bool qb31)).setCell (p := ⟨(W.drew).heap.size, 1, none⟩) hr30_ge (.slice qA31 qs31.length qc31)))
      have hr34_99 := hr33_99.farther (q := (W.drew).heap.size) (by have h1 := Nat.le_trans hbase hr30_ge; omega) (.bool qb31) (.slice qA31 qs31.length qc31)
      have hr34_99_lt : (w.heap.size + 2) < (((((wq32).alloc (.cells #[.bool false, .slice none 0 0] 34))).setCell ⟨(W.drew).heap.size, 0, none⟩ (.bool qb31)).setCell ⟨(W.drew).heap.size, 1, none⟩ (.slice qA31 qs31.length qc31)).heap.size := Nat.lt_of_lt_of_eq hr33_99_lt (size_put _ _ _ _ _).symm
      have hr34_5 := hr33.farther (q := (W.drew).heap.size) hne33 (.bool qb31) (.slice qA31 qs31.length qc31)
      have hr34_5_lt : (wq32).heap.size < (((((wq32).alloc (.cells #[.bool false, .slice none 0 0] 34))).setCell ⟨(W.drew).heap.size, 0, none⟩ (.bool qb31)).setCell ⟨(W.drew).heap.size, 1, none⟩ (.slice qA31 qs31.length qc31)).heap.size := Nat.lt_of_lt_of_eq hr33_lt (size_put _ _ _ _ _).symm
      refine hK _ _ (HD34.out.1.tail.tail.cells) (fun hH34 => ?_)
      clear hK K hH33
      change wpAnyH _ _ _ _ _ _ _ (Act.put _ none _) _
      simp only [Act.put]
      refine wpAnyH_ready (rs := [7]) (by kernel_rfl) (by simp) ?_
      refine AllReadyH.cons rfl (fun K hK0 => ?d39) (AllReadyH.nil)
      have hK := hK0.out
      clear hK0
      rw [if_pos (by kernel_rfl)]
      refine wp_go_skip (run_store2 hr34_5 qb32 qA32 qs32.length qc32 (.tmp 6) (.tmp 13) (by kernel_rfl) (by kernel_rfl) (by kernel_rfl)) ?_
      have hv35 := Vars.past HD34.out.1 hr34_5 (K := w.heap.size + 3) (by simp) (Nat.le_trans hbase hr33_ge) qb32 qA32 qs32.length qc32
      have o35 := hr34_5.held3 hr34_5_lt (HD34.out.1 0 _ rfl).at_
      have HD35 := Lib.hid (And.intro hv35 ((HD34.out.2.setCell (p := ⟨(wq32).heap.size, 0, none⟩) hr33_ge (.bool qb32)).setCell (p := ⟨(wq32).heap.size, 1, none⟩) hr33_ge (.slice qA32 qs32.length qc32)))
      have o35_p := o34.past hr34_5 (fun e => hne33 e.symm) qb32 qA32 qs32.length qc32
      have hr35_99 := hr34_99.farther (q := (wq32).heap.size) (by have h1 := Nat.le_trans hbase hr33_ge; omega) (.bool qb32) (.slice qA32 qs32.length qc32)
      have hr35_99_lt : (w.heap.size + 2) < ((((((((wq32).alloc (.cells #[.bool false, .slice none 0 0] 34))).setCell ⟨(W.drew).heap.size, 0, none⟩ (.bool qb31)).setCell ⟨(W.drew).heap.size, 1, none⟩ (.slice qA31 qs31.length qc31))).setCell ⟨(wq32).heap.size, 0, none⟩ (.bool qb32)).setCell ⟨(wq32).heap.size, 1, none⟩ (.slice qA32 qs32.length qc32)).heap.size := Nat.lt_of_lt_of_eq hr34_99_lt (size_put _ _ _ _ _).symm
      refine hK _ _ (HD35.out.1.tail.tail.cells) (fun hH35 => ?_)
      clear hK K hH34
      change wpAnyH _ _ _ _ _ _ _ (Act.put _ none _) _
      simp only [Act.put]
      refine wpAnyH_done (by kernel_rfl) ?_ _
      have HF := Lib.hid (And.intro (show (W.drew).heap.size ≠ (wq32).heap.size from hne33) (And.intro (Nat.le_trans hbase hr30_ge) (And.intro (Nat.le_trans hbase hr33_ge) (And.intro (show Both ((((((((wq32).alloc (.cells #[.bool false, .slice none 0 0] 34))).setCell ⟨(W.drew).heap.size, 0, none⟩ (.bool qb31)).setCell ⟨(W.drew).heap.size, 1, none⟩ (.slice qA31 qs31.length qc31))).setCell ⟨(wq32).heap.size, 0, none⟩ (.bool qb32)).setCell ⟨(wq32).heap.size, 1, none⟩ (.slice qA32 qs32.length qc32)) (W.drew).heap.size (wq32).heap.size ((x.natAbs : Nat) : Int) ((y.natAbs : Nat) : Int) from ⟨_, _, _, _, _, _, _, _, o35_p, o35⟩) (And.intro hr35_99 (below_then H0.out.1 HD35.out.2))))))
      clear o35_p o35 hr35_99
      generalize ((((((((wq32).alloc (.cells #[.bool false, .slice none 0 0] 34))).setCell ⟨(W.drew).heap.size, 0, none⟩ (.bool qb31)).setCell ⟨(W.drew).heap.size, 1, none⟩ (.slice qA31 qs31.length qc31))).setCell ⟨(wq32).heap.size, 0, none⟩ (.bool qb32)).setCell ⟨(wq32).heap.size, 1, none⟩ (.slice qA32 qs32.length qc32)) = Wz at HF ⊢
      generalize (wq32).heap.size = q6 at HF ⊢
      generalize (W.drew).heap.size = q5 at HF ⊢
      go_wp2
      go_meet
      exact ⟨q5, q6, rfl, rfl, HF.out⟩
     case d36 =>
      have hK := hK0.out
      clear hK0
      rw [if_pos (by kernel_rfl)]
      refine wp_go_val (.pointer (some ⟨(wq31).heap.size, 0, none⟩)) (run_alloc _ _ _ (by kernel_rfl)) ?_
      have HD36 := Lib.hid (And.intro (HD31.out.1.alloc (.cells #[.bool false, .slice none 0 0] 34)) (HD31.out.2.alloc HD31.out.2.size (.cells #[.bool false, .slice none 0 0] 34)))
      have hr36 := Res.new (wq31) 34
      have hr36_lt : (wq31).heap.size < ((wq31).alloc (.cells #[.bool false, .slice none 0 0] 34)).heap.size := Nat.lt_of_lt_of_eq (Nat.lt_succ_self _) (size_alloc _ _).symm
      have hr36_ge := HD31.out.2.size
      have hr36_99 := hr31_99.step ((Below.refl (wq31).heap.size (wq31)).alloc (Nat.le_refl _) (.cells #[.bool false, .slice none 0 0] 34)) rfl hr31_99_lt
      have hr36_99_lt : (w.heap.size + 2) < ((wq31).alloc (.cells #[.bool false, .slice none 0 0] 34)).heap.size := Nat.lt_of_lt_of_eq (Nat.lt_succ_of_lt hr31_99_lt) (size_alloc _ _).symm
      have hr36_4 := hr31_4.step ((Below.refl (wq31).heap.size (wq31)).alloc (Nat.le_refl _) (.cells #[.bool false, .slice none 0 0] 34)) rfl hr31_4_lt
      have hr36_4_lt : (W.drew).heap.size < ((wq31).alloc (.cells #[.bool false, .slice none 0 0] 34)).heap.size := Nat.lt_of_lt_of_eq (Nat.lt_succ_of_lt hr31_4_lt) (size_alloc _ _).symm
      have hne36 := Nat.ne_of_lt hr31_4_lt
      refine hK _ _ (HD36.out.1.tail.cells) (fun hH36 => ?_)
      clear hK K hH31
      change wpAnyH _ _ _ _ _ _ _ (Act.put _ (some 6) _) _
      simp only [Act.put, lyA, lyZ, lyS]
      refine wpAnyH_ready (rs := [3]) (by kernel_rfl) (by simp) ?_
      refine AllReadyH.cons rfl (fun K hK0 => ?d40) (AllReadyH.nil)
      have hK := hK0.out
      clear hK0
      rw [if_pos (by kernel_rfl)]
      refine wp_go_call 29 #[(.agg #[.bool b2, .slice A2 zs2.length c2])] (fun _ => by kernel_rfl) ((RAbs_any _ y _ ((HD36.out.1 1 _ rfl).at_)).mono ?_)
      rintro e wq37 ⟨qv37, rfl, ⟨qb37, qA37, qc37, qs37, rfl, qg37, ql37⟩, hb37⟩
      have HD37 := Lib.hid (And.intro ((HD36.out.1.step hb37 rfl).told qg37 ql37) (below_then HD36.out.2 hb37))
      have hr37_99 := hr36_99.step hb37 rfl hr36_99_lt
      have hr37_99_lt := Nat.lt_of_lt_of_le hr36_99_lt hb37.size
      have hr37_4 := hr36_4.step hb37 rfl hr36_4_lt
      have hr37_4_lt := Nat.lt_of_lt_of_le hr36_4_lt hb37.size
      have hr37_5 := hr36.step hb37 rfl hr36_lt
      have hr37_5_lt := Nat.lt_of_lt_of_le hr36_lt hb37.size
      refine ⟨(.agg #[.bool qb37, .slice qA37 qs37.length qc37]), rfl, hK _ _ (HD37.out.1.tail.tail.cells) (fun hH37 => ?_)⟩
      clear hK K hH36
      change wpAnyH _ _ _ _ _ _ _ (Act.put _ (some 13) _) _
      simp only [Act.put, lyA, lyZ, lyS]
      refine wpAnyH_ready (rs := [6]) (by kernel_rfl) (by simp) ?_
      refine AllReadyH.cons rfl (fun K hK0 => ?d41) (AllReadyH.nil)
      have hK := hK0.out
      clear hK0
      rw [if_pos (by kernel_rfl)]
      refine wp_go_skip (run_store2 hr37_4 qb31 qA31 qs31.length qc31 (.tmp 5) (.tmp 11) (by kernel_rfl) (by kernel_rfl) (by kernel_rfl)) ?_
      have hv38 := Vars.past HD37.out.1 hr37_4 (K := w.heap.size + 3) (by simp) (Nat.le_trans hbase hr30_ge) qb31 qA31 qs31.length qc31
      have o38 := hr37_4.held3 hr37_4_lt (HD37.out.1 1 _ rfl).at_
      have HD38 := Lib.hid (And.intro hv38 ((HD37.out.2.setCell (p := ⟨(W.drew).heap.size, 0, none⟩) hr30_ge (.bool qb31)).setCell (p := ⟨(W.drew).heap.size, 1, none⟩) hr30_ge (.slice qA31 qs31.length qc31)))
      have hr38_99 := hr37_99.farther (q := (W.drew).heap.size) (by have h1 := Nat.le_trans hbase hr30_ge; omega) (.bool qb31) (.slice qA31 qs31.length qc31)
      have hr38_99_lt : (w.heap.size + 2) < (((wq37).setCell ⟨(W.drew).heap.size, 0, none⟩ (.bool qb31)).setCell ⟨(W.drew).heap.size, 1, none⟩ (.slice qA31 qs31.length qc31)).heap.size := Nat.lt_of_lt_of_eq hr37_99_lt (size_put _ _ _ _ _).symm
      have hr38_5 := hr37_5.farther (q := (W.drew).heap.size) hne36 (.bool qb31) (.slice qA31 qs31.length qc31)
      have hr38_5_lt : (wq31).heap.size < (((wq37).setCell ⟨(W.drew).heap.size, 0, none⟩ (.bool qb31)).setCell ⟨(W.drew).heap.size, 1, none⟩ (.slice qA31 qs31.length qc31)).heap.size := Nat.lt_of_lt_of_eq hr37_5_lt (size_put _ _ _ _ _).symm
      refine hK _ _ (HD38.out.1.tail.tail.cells) (fun hH38 => ?_)
      clear hK K hH37
      change wpAnyH _ _ _ _ _ _ _ (Act.put _ none _) _
      simp only [Act.put]
      refine wpAnyH_ready (rs := [7]) (by kernel_rfl) (by simp) ?_
      refine AllReadyH.cons rfl (fun K hK0 => ?d42) (AllReadyH.nil)
      have hK := hK0.out
      clear hK0
      rw [if_pos (by kernel_rfl)]
      refine wp_go_skip (run_store2 hr38_5 qb37 qA37 qs37.length qc37 (.tmp 6) (.tmp 13) (by kernel_rfl) (by kernel_rfl) (by kernel_rfl)) ?_
      have hv39 := Vars.past HD38.out.1 hr38_5 (K := w.heap.size + 3) (by simp) (Nat.le_trans hbase hr36_ge) qb37 qA37 qs37.length qc37
      have o39 := hr38_5.held3 hr38_5_lt (HD38.out.1 0 _ rfl).at_
      have HD39 := Lib.hid (And.intro hv39 ((HD38.out.2.setCell (p := ⟨(wq31).heap.size, 0, none⟩) hr36_ge (.bool qb37)).setCell (p := ⟨(wq31).heap.size, 1, none⟩) hr36_ge (.slice qA37 qs37.length qc37)))
      have o39_p := o38.past hr38_5 (fun e => hne36 e.symm) qb37 qA37 qs37.length qc37
      have hr39_99 := hr38_99.farther (q := (wq31).heap.size) (by have h1 := Nat.le_trans hbase hr36_ge; omega) (.bool qb37) (.slice qA37 qs37.length qc37)
      have hr39_99_lt : (w.heap.size + 2) < ((((((wq37).setCell ⟨(W.drew).heap.size, 0, none⟩ (.bool qb31)).setCell ⟨(W.drew).heap.size, 1, none⟩ (.slice qA31 qs31.length qc31))).setCell ⟨(wq31).heap.size, 0, none⟩ (.bool qb37)).setCell ⟨(wq31).heap.size, 1, none⟩ (.slice qA37 qs37.length qc37)).heap.size := Nat.lt_of_lt_of_eq hr38_99_lt (size_put _ _ _ _ _).symm
      refine hK _ _ (HD39.out.1.tail.tail.cells) (fun hH39 => ?_)
      clear hK K hH38
      change wpAnyH _ _ _ _ _ _ _ (Act.put _ none _) _
      simp only [Act.put]
      refine wpAnyH_done (by kernel_rfl) ?_ _
      have HF := Lib.hid (And.intro (show (W.drew).heap.size ≠ (wq31).heap.size from hne36) (And.intro (Nat.le_trans hbase hr30_ge) (And.intro (Nat.le_trans hbase hr36_ge) (And.intro (show Both ((((((wq37).setCell ⟨(W.drew).heap.size, 0, none⟩ (.bool qb31)).setCell ⟨(W.drew).heap.size, 1, none⟩ (.slice qA31 qs31.length qc31))).setCell ⟨(wq31).heap.size, 0, none⟩ (.bool qb37)).setCell ⟨(wq31).heap.size, 1, none⟩ (.slice qA37 qs37.length qc37)) (W.drew).heap.size (wq31).heap.size ((x.natAbs : Nat) : Int) ((y.natAbs : Nat) : Int) from ⟨_, _, _, _, _, _, _, _, o39_p, o39⟩) (And.intro hr39_99 (below_then H0.out.1 HD39.out.2))))))
      clear o39_p o39 hr39_99
      generalize ((((((wq37).setCell ⟨(W.drew).heap.size, 0, none⟩ (.bool qb31)).setCell ⟨(W.drew).heap.size, 1, none⟩ (.slice qA31 qs31.length qc31))).setCell ⟨(wq31).heap.size, 0, none⟩ (.bool qb37)).setCell ⟨(wq31).heap.size, 1, none⟩ (.slice qA37 qs37.length qc37)) = Wz at HF ⊢
      generalize (wq31).heap.size = q6 at HF ⊢
      generalize (W.drew).heap.size = q5 at HF ⊢
      go_wp2
      go_meet
      exact ⟨q5, q6, rfl, rfl, HF.out⟩
    case d34 =>
     have hK := hK0.out
     clear hK0
     rw [if_pos (by kernel_rfl)]
     refine wp_go_val (.pointer (some ⟨(((W.drew).alloc (.cells #[.bool false, .slice none 0 0] 34))).heap.size, 0, none⟩)) (run_alloc _ _ _ (by kernel_rfl)) ?_
     have HD40 := Lib.hid (And.intro (HD30.out.1.alloc (.cells #[.bool false, .slice none 0 0] 34)) (HD30.out.2.alloc HD30.out.2.size (.cells #[.bool false, .slice none 0 0] 34)))
     have hr40 := Res.new (((W.drew).alloc (.cells #[.bool false, .slice none 0 0] 34))) 34
     have hr40_lt : (((W.drew).alloc (.cells #[.bool false, .slice none 0 0] 34))).heap.size < ((((W.drew).alloc (.cells #[.bool false, .slice none 0 0] 34))).alloc (.cells #[.bool false, .slice none 0 0] 34)).heap.size := Nat.lt_of_lt_of_eq (Nat.lt_succ_self _) (size_alloc _ _).symm
     have hr40_ge := HD30.out.2.size
     have hr40_99 := hr30_99.step ((Below.refl (((W.drew).alloc (.cells #[.bool false, .slice none 0 0] 34))).heap.size (((W.drew).alloc (.cells #[.bool false, .slice none 0 0] 34)))).alloc (Nat.le_refl _) (.cells #[.bool false, .slice none 0 0] 34)) rfl hr30_99_lt
     have hr40_99_lt : (w.heap.size + 2) < ((((W.drew).alloc (.cells #[.bool false, .slice none 0 0] 34))).alloc (.cells #[.bool false, .slice none 0 0] 34)).heap.size := Nat.lt_of_lt_of_eq (Nat.lt_succ_of_lt hr30_99_lt) (size_alloc _ _).symm
     have hr40_4 := hr30.step ((Below.refl (((W.drew).alloc (.cells #[.bool false, .slice none 0 0] 34))).heap.size (((W.drew).alloc (.cells #[.bool false, .slice none 0 0] 34)))).alloc (Nat.le_refl _) (.cells #[.bool false, .slice none 0 0] 34)) rfl hr30_lt
     have hr40_4_lt : (W.drew).heap.size < ((((W.drew).alloc (.cells #[.bool false, .slice none 0 0] 34))).alloc (.cells #[.bool false, .slice none 0 0] 34)).heap.size := Nat.lt_of_lt_of_eq (Nat.lt_succ_of_lt hr30_lt) (size_alloc _ _).symm
     have hne40 := Nat.ne_of_lt hr30_lt
     refine hK _ _ (HD40.out.1.cells) (fun hH40 => ?_)
     clear hK K hH30
     change wpAnyH _ _ _ _ _ _ _ (Act.put _ (some 6) _) _
     simp only [Act.put, lyA, lyZ, lyS]
     refine wpAnyH_ready (rs := [1]) (by kernel_rfl) (by simp) ?_
     refine AllReadyH.cons rfl (fun K hK0 => ?d43) (AllReadyH.nil)
     have hK := hK0.out
     clear hK0
     rw [if_pos (by kernel_rfl)]
     refine wp_go_call 29 #[(.agg #[.bool b1, .slice A1 zs1.length c1])] (fun _ => by kernel_rfl) ((RAbs_any _ x _ ((HD40.out.1 1 _ rfl).at_)).mono ?_)
     rintro e wq41 ⟨qv41, rfl, ⟨qb41, qA41, qc41, qs41, rfl, qg41, ql41⟩, hb41⟩
     have HD41 := Lib.hid (And.intro ((HD40.out.1.step hb41 rfl).told qg41 ql41) (below_then HD40.out.2 hb41))
     have hr41_99 := hr40_99.step hb41 rfl hr40_99_lt
     have hr41_99_lt := Nat.lt_of_lt_of_le hr40_99_lt hb41.size
     have hr41_4 := hr40_4.step hb41 rfl hr40_4_lt
     have hr41_4_lt := Nat.lt_of_lt_of_le hr40_4_lt hb41.size
     have hr41_5 := hr40.step hb41 rfl hr40_lt
     have hr41_5_lt := Nat.lt_of_lt_of_le hr40_lt hb41.size
     refine ⟨(.agg #[.bool qb41, .slice qA41 qs41.length qc41]), rfl, hK _ _ (HD41.out.1.tail.cells) (fun hH41 => ?_)⟩
     clear hK K hH40
     change wpAnyH _ _ _ _ _ _ _ (Act.put _ (some 11) _) _
     simp only [Act.put, lyA, lyZ, lyS]
     refine wpAnyH_ready (rs := [3]) (by kernel_rfl) (by simp) ?_
     refine AllReadyH.cons rfl (fun K hK0 => ?d44) (AllReadyH.nil)
     have hK := hK0.out
     clear hK0
     rw [if_pos (by kernel_rfl)]
     refine wp_go_call 29 #[(.agg #[.bool b2, .slice A2 zs2.length c2])] (fun _ => by kernel_rfl) ((RAbs_any _ y _ ((HD41.out.1 1 _ rfl).at_)).mono ?_)
     rintro e wq42 ⟨qv42, rfl, ⟨qb42, qA42, qc42, qs42, rfl, qg42, ql42⟩, hb42⟩
     have HD42 := Lib.hid (And.intro ((HD41.out.1.step hb42 rfl).told qg42 ql42) (below_then HD41.out.2 hb42))
     have hr42_99 := hr41_99.step hb42 rfl hr41_99_lt
     have hr42_99_lt := Nat.lt_of_lt_of_le hr41_99_lt hb42.size
     have hr42_4 := hr41_4.step hb42 rfl hr41_4_lt
     have hr42_4_lt := Nat.lt_of_lt_of_le hr41_4_lt hb42.size
     have hr42_5 := hr41_5.step hb42 rfl hr41_5_lt
     have hr42_5_lt := Nat.lt_of_lt_of_le hr41_5_lt hb42.size
     refine ⟨(.agg #[.bool qb42, .slice qA42 qs42.length qc42]), rfl, hK _ _ (HD42.out.1.tail.tail.cells) (fun hH42 => ?_)⟩
     clear hK K hH41
     change wpAnyH _ _ _ _ _ _ _ (Act.put _ (some 13) _) _
     simp only [Act.put, lyA, lyZ, lyS]
     refine wpAnyH_ready (rs := [6]) (by kernel_rfl) (by simp) ?_
     refine AllReadyH.cons rfl (fun K hK0 => ?d45) (AllReadyH.nil)
     have hK := hK0.out
     clear hK0
     rw [if_pos (by kernel_rfl)]
     refine wp_go_skip (run_store2 hr42_4 qb41 qA41 qs41.length qc41 (.tmp 5) (.tmp 11) (by kernel_rfl) (by kernel_rfl) (by kernel_rfl)) ?_
     have hv43 := Vars.past HD42.out.1 hr42_4 (K := w.heap.size + 3) (by simp) (Nat.le_trans hbase hr30_ge) qb41 qA41 qs41.length qc41
     have o43 := hr42_4.held3 hr42_4_lt (HD42.out.1 1 _ rfl).at_
     have HD43 := Lib.hid (And.intro hv43 ((HD42.out.2.setCell (p := ⟨(W.drew).heap.size, 0, none⟩) hr30_ge (.bool qb41)).setCell (p := ⟨(W.drew).heap.size, 1, none⟩) hr30_ge (.slice qA41 qs41.length qc41)))
     have hr43_99 := hr42_99.farther (q := (W.drew).heap.size) (by have h1 := Nat.le_trans hbase hr30_ge; omega) (.bool qb41) (.slice qA41 qs41.length qc41)
     have hr43_99_lt : (w.heap.size + 2) < (((wq42).setCell ⟨(W.drew).heap.size, 0, none⟩ (.bool qb41)).setCell ⟨(W.drew).heap.size, 1, none⟩ (.slice qA41 qs41.length qc41)).heap.size := Nat.lt_of_lt_of_eq hr42_99_lt (size_put _ _ _ _ _).symm
     have hr43_5 := hr42_5.farther (q := (W.drew).heap.size) hne40 (.bool qb41) (.slice qA41 qs41.length qc41)
     have hr43_5_lt : (((W.drew).alloc (.cells #[.bool false, .slice none 0 0] 34))).heap.size < (((wq42).setCell ⟨(W.drew).heap.size, 0, none⟩ (.bool qb41)).setCell ⟨(W.drew).heap.size, 1, none⟩ (.slice qA41 qs41.length qc41)).heap.size := Nat.lt_of_lt_of_eq hr42_5_lt (size_put _ _ _ _ _).symm
     refine hK _ _ (HD43.out.1.tail.tail.cells) (fun hH43 => ?_)
     clear hK K hH42
     change wpAnyH _ _ _ _ _ _ _ (Act.put _ none _) _
     simp only [Act.put]
     refine wpAnyH_ready (rs := [7]) (by kernel_rfl) (by simp) ?_
     refine AllReadyH.cons rfl (fun K hK0 => ?d46) (AllReadyH.nil)
     have hK := hK0.out
     clear hK0
     rw [if_pos (by kernel_rfl)]
     refine wp_go_skip (run_store2 hr43_5 qb42 qA42 qs42.length qc42 (.tmp 6) (.tmp 13) (by kernel_rfl) (by kernel_rfl) (by kernel_rfl)) ?_
     have hv44 := Vars.past HD43.out.1 hr43_5 (K := w.heap.size + 3) (by simp) (Nat.le_trans hbase hr40_ge) qb42 qA42 qs42.length qc42
     have o44 := hr43_5.held3 hr43_5_lt (HD43.out.1 0 _ rfl).at_
     have HD44 := Lib.hid (And.intro hv44 ((HD43.out.2.setCell (p := ⟨(((W.drew).alloc (.cells #[.bool false, .slice none 0 0] 34))).heap.size, 0, none⟩) hr40_ge (.bool qb42)).setCell (p := ⟨(((W.drew).alloc (.cells #[.bool false, .slice none 0 0] 34))).heap.size, 1, none⟩) hr40_ge (.slice qA42 qs42.length qc42)))
     have o44_p := o43.past hr43_5 (fun e => hne40 e.symm) qb42 qA42 qs42.length qc42
     have hr44_99 := hr43_99.farther (q := (((W.drew).alloc (.cells #[.bool false, .slice none 0 0] 34))).heap.size) (by have h1 := Nat.le_trans hbase hr40_ge; omega) (.bool qb42) (.slice qA42 qs42.length qc42)
     have hr44_99_lt : (w.heap.size + 2) < ((((((wq42).setCell ⟨(W.drew).heap.size, 0, none⟩ (.bool qb41)).setCell ⟨(W.drew).heap.size, 1, none⟩ (.slice qA41 qs41.length qc41))).setCell ⟨(((W.drew).alloc (.cells #[.bool false, .slice none 0 0] 34))).heap.size, 0, none⟩ (.bool qb42)).setCell ⟨(((W.drew).alloc (.cells #[.bool false, .slice none 0 0] 34))).heap.size, 1, none⟩ (.slice qA42 qs42.length qc42)).heap.size := Nat.lt_of_lt_of_eq hr43_99_lt (size_put _ _ _ _ _).symm
     refine hK _ _ (HD44.out.1.tail.tail.cells) (fun hH44 => ?_)
     clear hK K hH43
     change wpAnyH _ _ _ _ _ _ _ (Act.put _ none _) _
     simp only [Act.put]
     refine wpAnyH_done (by kernel_rfl) ?_ _
     have HF := Lib.hid (And.intro (show (W.drew).heap.size ≠ (((W.drew).alloc (.cells #[.bool false, .slice none 0 0] 34))).heap.size from hne40) (And.intro (Nat.le_trans hbase hr30_ge) (And.intro (Nat.le_trans hbase hr40_ge) (And.intro (show Both ((((((wq42).setCell ⟨(W.drew).heap.size, 0, none⟩ (.bool qb41)).setCell ⟨(W.drew).heap.size, 1, none⟩ (.slice qA41 qs41.length qc41))).setCell ⟨(((W.drew).alloc (.cells #[.bool false, .slice none 0 0] 34))).heap.size, 0, none⟩ (.bool qb42)).setCell ⟨(((W.drew).alloc (.cells #[.bool false, .slice none 0 0] 34))).heap.size, 1, none⟩ (.slice qA42 qs42.length qc42)) (W.drew).heap.size (((W.drew).alloc (.cells #[.bool false, .slice none 0 0] 34))).heap.size ((x.natAbs : Nat) : Int) ((y.natAbs : Nat) : Int) from ⟨_, _, _, _, _, _, _, _, o44_p, o44⟩) (And.intro hr44_99 (below_then H0.out.1 HD44.out.2))))))
     clear o44_p o44 hr44_99
     generalize ((((((wq42).setCell ⟨(W.drew).heap.size, 0, none⟩ (.bool qb41)).setCell ⟨(W.drew).heap.size, 1, none⟩ (.slice qA41 qs41.length qc41))).setCell ⟨(((W.drew).alloc (.cells #[.bool false, .slice none 0 0] 34))).heap.size, 0, none⟩ (.bool qb42)).setCell ⟨(((W.drew).alloc (.cells #[.bool false, .slice none 0 0] 34))).heap.size, 1, none⟩ (.slice qA42 qs42.length qc42)) = Wz at HF ⊢
     generalize (((W.drew).alloc (.cells #[.bool false, .slice none 0 0] 34))).heap.size = q6 at HF ⊢
     generalize (W.drew).heap.size = q5 at HF ⊢
     go_wp2
     go_meet
     exact ⟨q5, q6, rfl, rfl, HF.out⟩
   case d5 =>
    have hK := hK0.out
    clear hK0
    rw [if_pos (by kernel_rfl)]
    refine wp_go_val (.pointer (some ⟨(W.drew).heap.size, 0, none⟩)) (run_alloc _ _ _ (by kernel_rfl)) ?_
    have HD45 := Lib.hid (And.intro (HD1.out.1.alloc (.cells #[.bool false, .slice none 0 0] 34)) (HD1.out.2.alloc HD1.out.2.size (.cells #[.bool false, .slice none 0 0] 34)))
    have hr45 := Res.new (W.drew) 34
    have hr45_lt : (W.drew).heap.size < ((W.drew).alloc (.cells #[.bool false, .slice none 0 0] 34)).heap.size := Nat.lt_of_lt_of_eq (Nat.lt_succ_self _) (size_alloc _ _).symm
    have hr45_ge := HD1.out.2.size
    have hr45_99 := hres.step ((Below.refl (W.drew).heap.size (W.drew)).alloc (Nat.le_refl _) (.cells #[.bool false, .slice none 0 0] 34)) rfl hres_lt
    have hr45_99_lt : (w.heap.size + 2) < ((W.drew).alloc (.cells #[.bool false, .slice none 0 0] 34)).heap.size := Nat.lt_of_lt_of_eq (Nat.lt_succ_of_lt hres_lt) (size_alloc _ _).symm
    refine hK _ _ (HD45.out.1.cells) (fun hH45 => ?_)
    clear hK K hH0
    change wpAnyH _ _ _ _ _ _ _ (Act.put _ (some 6) _) _
    simp only [Act.put, lyA, lyZ, lyS]
    refine wpAnyH_ready (rs := [1, 4]) (by kernel_rfl) (by simp) ?_
    refine AllReadyH.cons rfl (fun K hK0 => ?d47) (AllReadyH.cons rfl (fun K hK0 => ?d48) (AllReadyH.nil))
    case d47 =>
     have hK := hK0.out
     clear hK0
     rw [if_pos (by kernel_rfl)]
     refine wp_go_call 29 #[(.agg #[.bool b1, .slice A1 zs1.length c1])] (fun _ => by kernel_rfl) ((RAbs_any _ x _ ((HD45.out.1 1 _ rfl).at_)).mono ?_)
     rintro e wq46 ⟨qv46, rfl, ⟨qb46, qA46, qc46, qs46, rfl, qg46, ql46⟩, hb46⟩
     have HD46 := Lib.hid (And.intro ((HD45.out.1.step hb46 rfl).told qg46 ql46) (below_then HD45.out.2 hb46))
     have hr46_99 := hr45_99.step hb46 rfl hr45_99_lt
     have hr46_99_lt := Nat.lt_of_lt_of_le hr45_99_lt hb46.size
     have hr46_5 := hr45.step hb46 rfl hr45_lt
     have hr46_5_lt := Nat.lt_of_lt_of_le hr45_lt hb46.size
     refine ⟨(.agg #[.bool qb46, .slice qA46 qs46.length qc46]), rfl, hK _ _ (HD46.out.1.tail.cells) (fun hH46 => ?_)⟩
     clear hK K hH45
     change wpAnyH _ _ _ _ _ _ _ (Act.put _ (some 11) _) _
     simp only [Act.put, lyA, lyZ, lyS]
     refine wpAnyH_ready (rs := [3, 4]) (by kernel_rfl) (by simp) ?_
     refine AllReadyH.cons rfl (fun K hK0 => ?d49) (AllReadyH.cons rfl (fun K hK0 => ?d50) (AllReadyH.nil))
     case d49 =>
      have hK := hK0.out
      clear hK0
      rw [if_pos (by kernel_rfl)]
      refine wp_go_call 29 #[(.agg #[.bool b2, .slice A2 zs2.length c2])] (fun _ => by kernel_rfl) ((RAbs_any _ y _ ((HD46.out.1 1 _ rfl).at_)).mono ?_)
      rintro e wq47 ⟨qv47, rfl, ⟨qb47, qA47, qc47, qs47, rfl, qg47, ql47⟩, hb47⟩
      have HD47 := Lib.hid (And.intro ((HD46.out.1.step hb47 rfl).told qg47 ql47) (below_then HD46.out.2 hb47))
      have hr47_99 := hr46_99.step hb47 rfl hr46_99_lt
      have hr47_99_lt := Nat.lt_of_lt_of_le hr46_99_lt hb47.size
      have hr47_5 := hr46_5.step hb47 rfl hr46_5_lt
      have hr47_5_lt := Nat.lt_of_lt_of_le hr46_5_lt hb47.size
      refine ⟨(.agg #[.bool qb47, .slice qA47 qs47.length qc47]), rfl, hK _ _ (HD47.out.1.tail.tail.cells) (fun hH47 => ?_)⟩
      clear hK K hH46
      change wpAnyH _ _ _ _ _ _ _ (Act.put _ (some 13) _) _
      simp only [Act.put, lyA, lyZ, lyS]
      refine wpAnyH_ready (rs := [4]) (by kernel_rfl) (by simp) ?_
      refine AllReadyH.cons rfl (fun K hK0 => ?d51) (AllReadyH.nil)
      have hK := hK0.out
      clear hK0
      rw [if_pos (by kernel_rfl)]
      refine wp_go_val (.pointer (some ⟨(wq47).heap.size, 0, none⟩)) (run_alloc _ _ _ (by kernel_rfl)) ?_
      have HD48 := Lib.hid (And.intro (HD47.out.1.alloc (.cells #[.bool false, .slice none 0 0] 34)) (HD47.out.2.alloc HD47.out.2.size (.cells #[.bool false, .slice none 0 0] 34)))
      have hr48 := Res.new (wq47) 34
      have hr48_lt : (wq47).heap.size < ((wq47).alloc (.cells #[.bool false, .slice none 0 0] 34)).heap.size := Nat.lt_of_lt_of_eq (Nat.lt_succ_self _) (size_alloc _ _).symm
      have hr48_ge := HD47.out.2.size
      have hr48_99 := hr47_99.step ((Below.refl (wq47).heap.size (wq47)).alloc (Nat.le_refl _) (.cells #[.bool false, .slice none 0 0] 34)) rfl hr47_99_lt
      have hr48_99_lt : (w.heap.size + 2) < ((wq47).alloc (.cells #[.bool false, .slice none 0 0] 34)).heap.size := Nat.lt_of_lt_of_eq (Nat.lt_succ_of_lt hr47_99_lt) (size_alloc _ _).symm
      have hr48_5 := hr47_5.step ((Below.refl (wq47).heap.size (wq47)).alloc (Nat.le_refl _) (.cells #[.bool false, .slice none 0 0] 34)) rfl hr47_5_lt
      have hr48_5_lt : (W.drew).heap.size < ((wq47).alloc (.cells #[.bool false, .slice none 0 0] 34)).heap.size := Nat.lt_of_lt_of_eq (Nat.lt_succ_of_lt hr47_5_lt) (size_alloc _ _).symm
      have hne48 := Nat.ne_of_lt hr47_5_lt
      refine hK _ _ (HD48.out.1.tail.tail.cells) (fun hH48 => ?_)
      clear hK K hH47
      change wpAnyH _ _ _ _ _ _ _ (Act.put _ (some 5) _) _
      simp only [Act.put, lyA, lyZ, lyS]
      refine wpAnyH_ready (rs := [6]) (by kernel_rfl) (by simp) ?_
      refine AllReadyH.cons rfl (fun K hK0 => ?d52) (AllReadyH.nil)
      have hK := hK0.out
      clear hK0
      rw [if_pos (by kernel_rfl)]
      refine wp_go_skip (run_store2 hr48 qb46 qA46 qs46.length qc46 (.tmp 5) (.tmp 11) (by kernel_rfl) (by kernel_rfl) (by kernel_rfl)) ?_
      have hv49 := Vars.past HD48.out.1 hr48 (K := w.heap.size + 3) (by simp) (Nat.le_trans hbase hr48_ge) qb46 qA46 qs46.length qc46
      have o49 := hr48.held3 hr48_lt (HD48.out.1 1 _ rfl).at_
      have HD49 := Lib.hid (And.intro hv49 ((HD48.out.2.setCell (p := ⟨(wq47).heap.size, 0, none⟩) hr48_ge (.bool qb46)).setCell (p := ⟨(wq47).heap.size, 1, none⟩) hr48_ge (.slice qA46 qs46.length qc46)))
      have hr49_99 := hr48_99.farther (q := (wq47).heap.size) (by have h1 := Nat.le_trans hbase hr48_ge; omega) (.bool qb46) (.slice qA46 qs46.length qc46)
      have hr49_99_lt : (w.heap.size + 2) < (((((wq47).alloc (.cells #[.bool false, .slice none 0 0] 34))).setCell ⟨(wq47).heap.size, 0, none⟩ (.bool qb46)).setCell ⟨(wq47).heap.size, 1, none⟩ (.slice qA46 qs46.length qc46)).heap.size := Nat.lt_of_lt_of_eq hr48_99_lt (size_put _ _ _ _ _).symm
      have hr49_5 := hr48_5.farther (q := (wq47).heap.size) (fun e => hne48 e.symm) (.bool qb46) (.slice qA46 qs46.length qc46)
      have hr49_5_lt : (W.drew).heap.size < (((((wq47).alloc (.cells #[.bool false, .slice none 0 0] 34))).setCell ⟨(wq47).heap.size, 0, none⟩ (.bool qb46)).setCell ⟨(wq47).heap.size, 1, none⟩ (.slice qA46 qs46.length qc46)).heap.size := Nat.lt_of_lt_of_eq hr48_5_lt (size_put _ _ _ _ _).symm
      refine hK _ _ (HD49.out.1.tail.tail.cells) (fun hH49 => ?_)
      clear hK K hH48
      change wpAnyH _ _ _ _ _ _ _ (Act.put _ none _) _
      simp only [Act.put]
      refine wpAnyH_ready (rs := [7]) (by kernel_rfl) (by simp) ?_
      refine AllReadyH.cons rfl (fun K hK0 => ?d53) (AllReadyH.nil)
      have hK := hK0.out
      clear hK0
      rw [if_pos (by kernel_rfl)]
      refine wp_go_skip (run_store2 hr49_5 qb47 qA47 qs47.length qc47 (.tmp 6) (.tmp 13) (by kernel_rfl) (by kernel_rfl) (by kernel_rfl)) ?_
      have hv50 := Vars.past HD49.out.1 hr49_5 (K := w.heap.size + 3) (by simp) (Nat.le_trans hbase hr45_ge) qb47 qA47 qs47.length qc47
      have o50 := hr49_5.held3 hr49_5_lt (HD49.out.1 0 _ rfl).at_
      have HD50 := Lib.hid (And.intro hv50 ((HD49.out.2.setCell (p := ⟨(W.drew).heap.size, 0, none⟩) hr45_ge (.bool qb47)).setCell (p := ⟨(W.drew).heap.size, 1, none⟩) hr45_ge (.slice qA47 qs47.length qc47)))
      have o50_p := o49.past hr49_5 (hne48) qb47 qA47 qs47.length qc47
      have hr50_99 := hr49_99.farther (q := (W.drew).heap.size) (by have h1 := Nat.le_trans hbase hr45_ge; omega) (.bool qb47) (.slice qA47 qs47.length qc47)
      have hr50_99_lt : (w.heap.size + 2) < ((((((((wq47).alloc (.cells #[.bool false, .slice none 0 0] 34))).setCell ⟨(wq47).heap.size, 0, none⟩ (.bool qb46)).setCell ⟨(wq47).heap.size, 1, none⟩ (.slice qA46 qs46.length qc46))).setCell ⟨(W.drew).heap.size, 0, none⟩ (.bool qb47)).setCell ⟨(W.drew).heap.size, 1, none⟩ (.slice qA47 qs47.length qc47)).heap.size := Nat.lt_of_lt_of_eq hr49_99_lt (size_put _ _ _ _ _).symm
      refine hK _ _ (HD50.out.1.tail.tail.cells) (fun hH50 => ?_)
      clear hK K hH49
      change wpAnyH _ _ _ _ _ _ _ (Act.put _ none _) _
      simp only [Act.put]
      refine wpAnyH_done (by kernel_rfl) ?_ _
      have HF := Lib.hid (And.intro (show (wq47).heap.size ≠ (W.drew).heap.size from (fun e => hne48 e.symm)) (And.intro (Nat.le_trans hbase hr48_ge) (And.intro (Nat.le_trans hbase hr45_ge) (And.intro (show Both ((((((((wq47).alloc (.cells #[.bool false, .slice none 0 0] 34))).setCell ⟨(wq47).heap.size, 0, none⟩ (.bool qb46)).setCell ⟨(wq47).heap.size, 1, none⟩ (.slice qA46 qs46.length qc46))).setCell ⟨(W.drew).heap.size, 0, none⟩ (.bool qb47)).setCell ⟨(W.drew).heap.size, 1, none⟩ (.slice qA47 qs47.length qc47)) (wq47).heap.size (W.drew).heap.size ((x.natAbs : Nat) : Int) ((y.natAbs : Nat) : Int) from ⟨_, _, _, _, _, _, _, _, o50_p, o50⟩) (And.intro hr50_99 (below_then H0.out.1 HD50.out.2))))))
      clear o50_p o50 hr50_99
      generalize ((((((((wq47).alloc (.cells #[.bool false, .slice none 0 0] 34))).setCell ⟨(wq47).heap.size, 0, none⟩ (.bool qb46)).setCell ⟨(wq47).heap.size, 1, none⟩ (.slice qA46 qs46.length qc46))).setCell ⟨(W.drew).heap.size, 0, none⟩ (.bool qb47)).setCell ⟨(W.drew).heap.size, 1, none⟩ (.slice qA47 qs47.length qc47)) = Wz at HF ⊢
      generalize (W.drew).heap.size = q6 at HF ⊢
      generalize (wq47).heap.size = q5 at HF ⊢
      go_wp2
      go_meet
      exact ⟨q5, q6, rfl, rfl, HF.out⟩
     case d50 =>
      have hK := hK0.out
      clear hK0
      rw [if_pos (by kernel_rfl)]
      refine wp_go_val (.pointer (some ⟨(wq46).heap.size, 0, none⟩)) (run_alloc _ _ _ (by kernel_rfl)) ?_
      have HD51 := Lib.hid (And.intro (HD46.out.1.alloc (.cells #[.bool false, .slice none 0 0] 34)) (HD46.out.2.alloc HD46.out.2.size (.cells #[.bool false, .slice none 0 0] 34)))
      have hr51 := Res.new (wq46) 34
      have hr51_lt : (wq46).heap.size < ((wq46).alloc (.cells #[.bool false, .slice none 0 0] 34)).heap.size := Nat.lt_of_lt_of_eq (Nat.lt_succ_self _) (size_alloc _ _).symm
      have hr51_ge := HD46.out.2.size
      have hr51_99 := hr46_99.step ((Below.refl (wq46).heap.size (wq46)).alloc (Nat.le_refl _) (.cells #[.bool false, .slice none 0 0] 34)) rfl hr46_99_lt
      have hr51_99_lt : (w.heap.size + 2) < ((wq46).alloc (.cells #[.bool false, .slice none 0 0] 34)).heap.size := Nat.lt_of_lt_of_eq (Nat.lt_succ_of_lt hr46_99_lt) (size_alloc _ _).symm
      have hr51_5 := hr46_5.step ((Below.refl (wq46).heap.size (wq46)).alloc (Nat.le_refl _) (.cells #[.bool false, .slice none 0 0] 34)) rfl hr46_5_lt
      have hr51_5_lt : (W.drew).heap.size < ((wq46).alloc (.cells #[.bool false, .slice none 0 0] 34)).heap.size := Nat.lt_of_lt_of_eq (Nat.lt_succ_of_lt hr46_5_lt) (size_alloc _ _).symm
      have hne51 := Nat.ne_of_lt hr46_5_lt
      refine hK _ _ (HD51.out.1.tail.cells) (fun hH51 => ?_)
      clear hK K hH46
      change wpAnyH _ _ _ _ _ _ _ (Act.put _ (some 5) _) _
      simp only [Act.put, lyA, lyZ, lyS]
      refine wpAnyH_ready (rs := [3]) (by kernel_rfl) (by simp) ?_
      refine AllReadyH.cons rfl (fun K hK0 => ?d54) (AllReadyH.nil)
      have hK := hK0.out
      clear hK0
      rw [if_pos (by kernel_rfl)]
      refine wp_go_call 29 #[(.agg #[.bool b2, .slice A2 zs2.length c2])] (fun _ => by kernel_rfl) ((RAbs_any _ y _ ((HD51.out.1 1 _ rfl).at_)).mono ?_)
      rintro e wq52 ⟨qv52, rfl, ⟨qb52, qA52, qc52, qs52, rfl, qg52, ql52⟩, hb52⟩
      have HD52 := Lib.hid (And.intro ((HD51.out.1.step hb52 rfl).told qg52 ql52) (below_then HD51.out.2 hb52))
      have hr52_99 := hr51_99.step hb52 rfl hr51_99_lt
      have hr52_99_lt := Nat.lt_of_lt_of_le hr51_99_lt hb52.size
      have hr52_5 := hr51_5.step hb52 rfl hr51_5_lt
      have hr52_5_lt := Nat.lt_of_lt_of_le hr51_5_lt hb52.size
      have hr52_4 := hr51.step hb52 rfl hr51_lt
      have hr52_4_lt := Nat.lt_of_lt_of_le hr51_lt hb52.size
      refine ⟨(.agg #[.bool qb52, .slice qA52 qs52.length qc52]), rfl, hK _ _ (HD52.out.1.tail.tail.cells) (fun hH52 => ?_)⟩
      clear hK K hH51
      change wpAnyH _ _ _ _ _ _ _ (Act.put _ (some 13) _) _
      simp only [Act.put, lyA, lyZ, lyS]
      refine wpAnyH_ready (rs := [6]) (by kernel_rfl) (by simp) ?_
      refine AllReadyH.cons rfl (fun K hK0 => ?d55) (AllReadyH.nil)
      have hK := hK0.out
      clear hK0
      rw [if_pos (by kernel_rfl)]
      refine wp_go_skip (run_store2 hr52_4 qb46 qA46 qs46.length qc46 (.tmp 5) (.tmp 11) (by kernel_rfl) (by kernel_rfl) (by kernel_rfl)) ?_
      have hv53 := Vars.past HD52.out.1 hr52_4 (K := w.heap.size + 3) (by simp) (Nat.le_trans hbase hr51_ge) qb46 qA46 qs46.length qc46
      have o53 := hr52_4.held3 hr52_4_lt (HD52.out.1 1 _ rfl).at_
      have HD53 := Lib.hid (And.intro hv53 ((HD52.out.2.setCell (p := ⟨(wq46).heap.size, 0, none⟩) hr51_ge (.bool qb46)).setCell (p := ⟨(wq46).heap.size, 1, none⟩) hr51_ge (.slice qA46 qs46.length qc46)))
      have hr53_99 := hr52_99.farther (q := (wq46).heap.size) (by have h1 := Nat.le_trans hbase hr51_ge; omega) (.bool qb46) (.slice qA46 qs46.length qc46)
      have hr53_99_lt : (w.heap.size + 2) < (((wq52).setCell ⟨(wq46).heap.size, 0, none⟩ (.bool qb46)).setCell ⟨(wq46).heap.size, 1, none⟩ (.slice qA46 qs46.length qc46)).heap.size := Nat.lt_of_lt_of_eq hr52_99_lt (size_put _ _ _ _ _).symm
      have hr53_5 := hr52_5.farther (q := (wq46).heap.size) (fun e => hne51 e.symm) (.bool qb46) (.slice qA46 qs46.length qc46)
      have hr53_5_lt : (W.drew).heap.size < (((wq52).setCell ⟨(wq46).heap.size, 0, none⟩ (.bool qb46)).setCell ⟨(wq46).heap.size, 1, none⟩ (.slice qA46 qs46.length qc46)).heap.size := Nat.lt_of_lt_of_eq hr52_5_lt (size_put _ _ _ _ _).symm
      refine hK _ _ (HD53.out.1.tail.tail.cells) (fun hH53 => ?_)
      clear hK K hH52
      change wpAnyH _ _ _ _ _ _ _ (Act.put _ none _) _
      simp only [Act.put]
      refine wpAnyH_ready (rs := [7]) (by kernel_rfl) (by simp) ?_
      refine AllReadyH.cons rfl (fun K hK0 => ?d56) (AllReadyH.nil)
      have hK := hK0.out
      clear hK0
      rw [if_pos (by kernel_rfl)]
      refine wp_go_skip (run_store2 hr53_5 qb52 qA52 qs52.length qc52 (.tmp 6) (.tmp 13) (by kernel_rfl) (by kernel_rfl) (by kernel_rfl)) ?_
      have hv54 := Vars.past HD53.out.1 hr53_5 (K := w.heap.size + 3) (by simp) (Nat.le_trans hbase hr45_ge) qb52 qA52 qs52.length qc52
      have o54 := hr53_5.held3 hr53_5_lt (HD53.out.1 0 _ rfl).at_
      have HD54 := Lib.hid (And.intro hv54 ((HD53.out.2.setCell (p := ⟨(W.drew).heap.size, 0, none⟩) hr45_ge (.bool qb52)).setCell (p := ⟨(W.drew).heap.size, 1, none⟩) hr45_ge (.slice qA52 qs52.length qc52)))
      have o54_p := o53.past hr53_5 (hne51) qb52 qA52 qs52.length qc52
      have hr54_99 := hr53_99.farther (q := (W.drew).heap.size) (by have h1 := Nat.le_trans hbase hr45_ge; omega) (.bool qb52) (.slice qA52 qs52.length qc52)
      have hr54_99_lt : (w.heap.size + 2) < ((((((wq52).setCell ⟨(wq46).heap.size, 0, none⟩ (.bool qb46)).setCell ⟨(wq46).heap.size, 1, none⟩ (.slice qA46 qs46.length qc46))).setCell ⟨(W.drew).heap.size, 0, none⟩ (.bool qb52)).setCell ⟨(W.drew).heap.size, 1, none⟩ (.slice qA52 qs52.length qc52)).heap.size := Nat.lt_of_lt_of_eq hr53_99_lt (size_put _ _ _ _ _).symm
      refine hK _ _ (HD54.out.1.tail.tail.cells) (fun hH54 => ?_)
      clear hK K hH53
      change wpAnyH _ _ _ _ _ _ _ (Act.put _ none _) _
      simp only [Act.put]
      refine wpAnyH_done (by kernel_rfl) ?_ _
      have HF := Lib.hid (And.intro (show (wq46).heap.size ≠ (W.drew).heap.size from (fun e => hne51 e.symm)) (And.intro (Nat.le_trans hbase hr51_ge) (And.intro (Nat.le_trans hbase hr45_ge) (And.intro (show Both ((((((wq52).setCell ⟨(wq46).heap.size, 0, none⟩ (.bool qb46)).setCell ⟨(wq46).heap.size, 1, none⟩ (.slice qA46 qs46.length qc46))).setCell ⟨(W.drew).heap.size, 0, none⟩ (.bool qb52)).setCell ⟨(W.drew).heap.size, 1, none⟩ (.slice qA52 qs52.length qc52)) (wq46).heap.size (W.drew).heap.size ((x.natAbs : Nat) : Int) ((y.natAbs : Nat) : Int) from ⟨_, _, _, _, _, _, _, _, o54_p, o54⟩) (And.intro hr54_99 (below_then H0.out.1 HD54.out.2))))))
      clear o54_p o54 hr54_99
      generalize ((((((wq52).setCell ⟨(wq46).heap.size, 0, none⟩ (.bool qb46)).setCell ⟨(wq46).heap.size, 1, none⟩ (.slice qA46 qs46.length qc46))).setCell ⟨(W.drew).heap.size, 0, none⟩ (.bool qb52)).setCell ⟨(W.drew).heap.size, 1, none⟩ (.slice qA52 qs52.length qc52)) = Wz at HF ⊢
      generalize (W.drew).heap.size = q6 at HF ⊢
      generalize (wq46).heap.size = q5 at HF ⊢
      go_wp2
      go_meet
      exact ⟨q5, q6, rfl, rfl, HF.out⟩
    case d48 =>
     have hK := hK0.out
     clear hK0
     rw [if_pos (by kernel_rfl)]
     refine wp_go_val (.pointer (some ⟨(((W.drew).alloc (.cells #[.bool false, .slice none 0 0] 34))).heap.size, 0, none⟩)) (run_alloc _ _ _ (by kernel_rfl)) ?_
     have HD55 := Lib.hid (And.intro (HD45.out.1.alloc (.cells #[.bool false, .slice none 0 0] 34)) (HD45.out.2.alloc HD45.out.2.size (.cells #[.bool false, .slice none 0 0] 34)))
     have hr55 := Res.new (((W.drew).alloc (.cells #[.bool false, .slice none 0 0] 34))) 34
     have hr55_lt : (((W.drew).alloc (.cells #[.bool false, .slice none 0 0] 34))).heap.size < ((((W.drew).alloc (.cells #[.bool false, .slice none 0 0] 34))).alloc (.cells #[.bool false, .slice none 0 0] 34)).heap.size := Nat.lt_of_lt_of_eq (Nat.lt_succ_self _) (size_alloc _ _).symm
     have hr55_ge := HD45.out.2.size
     have hr55_99 := hr45_99.step ((Below.refl (((W.drew).alloc (.cells #[.bool false, .slice none 0 0] 34))).heap.size (((W.drew).alloc (.cells #[.bool false, .slice none 0 0] 34)))).alloc (Nat.le_refl _) (.cells #[.bool false, .slice none 0 0] 34)) rfl hr45_99_lt
     have hr55_99_lt : (w.heap.size + 2) < ((((W.drew).alloc (.cells #[.bool false, .slice none 0 0] 34))).alloc (.cells #[.bool false, .slice none 0 0] 34)).heap.size := Nat.lt_of_lt_of_eq (Nat.lt_succ_of_lt hr45_99_lt) (size_alloc _ _).symm
     have hr55_5 := hr45.step ((Below.refl (((W.drew).alloc (.cells #[.bool false, .slice none 0 0] 34))).heap.size (((W.drew).alloc (.cells #[.bool false, .slice none 0 0] 34)))).alloc (Nat.le_refl _) (.cells #[.bool false, .slice none 0 0] 34)) rfl hr45_lt
     have hr55_5_lt : (W.drew).heap.size < ((((W.drew).alloc (.cells #[.bool false, .slice none 0 0] 34))).alloc (.cells #[.bool false, .slice none 0 0] 34)).heap.size := Nat.lt_of_lt_of_eq (Nat.lt_succ_of_lt hr45_lt) (size_alloc _ _).symm
     have hne55 := Nat.ne_of_lt hr45_lt
     refine hK _ _ (HD55.out.1.cells) (fun hH55 => ?_)
     clear hK K hH45
     change wpAnyH _ _ _ _ _ _ _ (Act.put _ (some 5) _) _
     simp only [Act.put, lyA, lyZ, lyS]
     refine wpAnyH_ready (rs := [1]) (by kernel_rfl) (by simp) ?_
     refine AllReadyH.cons rfl (fun K hK0 => ?d57) (AllReadyH.nil)
     have hK := hK0.out
     clear hK0
     rw [if_pos (by kernel_rfl)]
     refine wp_go_call 29 #[(.agg #[.bool b1, .slice A1 zs1.length c1])] (fun _ => by kernel_rfl) ((RAbs_any _ x _ ((HD55.out.1 1 _ rfl).at_)).mono ?_)
     rintro e wq56 ⟨qv56, rfl, ⟨qb56, qA56, qc56, qs56, rfl, qg56, ql56⟩, hb56⟩
     have HD56 := Lib.hid (And.intro ((HD55.out.1.step hb56 rfl).told qg56 ql56) (below_then HD55.out.2 hb56))
     have hr56_99 := hr55_99.step hb56 rfl hr55_99_lt
     have hr56_99_lt := Nat.lt_of_lt_of_le hr55_99_lt hb56.size
     have hr56_5 := hr55_5.step hb56 rfl hr55_5_lt
     have hr56_5_lt := Nat.lt_of_lt_of_le hr55_5_lt hb56.size
     have hr56_4 := hr55.step hb56 rfl hr55_lt
     have hr56_4_lt := Nat.lt_of_lt_of_le hr55_lt hb56.size
     refine ⟨(.agg #[.bool qb56, .slice qA56 qs56.length qc56]), rfl, hK _ _ (HD56.out.1.tail.cells) (fun hH56 => ?_)⟩
     clear hK K hH55
     change wpAnyH _ _ _ _ _ _ _ (Act.put _ (some 11) _) _
     simp only [Act.put, lyA, lyZ, lyS]
     refine wpAnyH_ready (rs := [3]) (by kernel_rfl) (by simp) ?_
     refine AllReadyH.cons rfl (fun K hK0 => ?d58) (AllReadyH.nil)
     have hK := hK0.out
     clear hK0
     rw [if_pos (by kernel_rfl)]
     refine wp_go_call 29 #[(.agg #[.bool b2, .slice A2 zs2.length c2])] (fun _ => by kernel_rfl) ((RAbs_any _ y _ ((HD56.out.1 1 _ rfl).at_)).mono ?_)
     rintro e wq57 ⟨qv57, rfl, ⟨qb57, qA57, qc57, qs57, rfl, qg57, ql57⟩, hb57⟩
     have HD57 := Lib.hid (And.intro ((HD56.out.1.step hb57 rfl).told qg57 ql57) (below_then HD56.out.2 hb57))
     have hr57_99 := hr56_99.step hb57 rfl hr56_99_lt
     have hr57_99_lt := Nat.lt_of_lt_of_le hr56_99_lt hb57.size
     have hr57_5 := hr56_5.step hb57 rfl hr56_5_lt
     have hr57_5_lt := Nat.lt_of_lt_of_le hr56_5_lt hb57.size
     have hr57_4 := hr56_4.step hb57 rfl hr56_4_lt
     have hr57_4_lt := Nat.lt_of_lt_of_le hr56_4_lt hb57.size
     refine ⟨(.agg #[.bool qb57, .slice qA57 qs57.length qc57]), rfl, hK _ _ (HD57.out.1.tail.tail.cells) (fun hH57 => ?_)⟩
     clear hK K hH56
     change wpAnyH _ _ _ _ _ _ _ (Act.put _ (some 13) _) _
     simp only [Act.put, lyA, lyZ, lyS]
     refine wpAnyH_ready (rs := [6]) (by kernel_rfl) (by simp) ?_
     refine AllReadyH.cons rfl (fun K hK0 => ?d59) (AllReadyH.nil)
     have hK := hK0.out
     clear hK0
     rw [if_pos (by kernel_rfl)]
     refine wp_go_skip (run_store2 hr57_4 qb56 qA56 qs56.length qc56 (.tmp 5) (.tmp 11) (by kernel_rfl) (by kernel_rfl) (by kernel_rfl)) ?_
     have hv58 := Vars.past HD57.out.1 hr57_4 (K := w.heap.size + 3) (by simp) (Nat.le_trans hbase hr55_ge) qb56 qA56 qs56.length qc56
     have o58 := hr57_4.held3 hr57_4_lt (HD57.out.1 1 _ rfl).at_
     have HD58 := Lib.hid (And.intro hv58 ((HD57.out.2.setCell (p := ⟨(((W.drew).alloc (.cells #[.bool false, .slice none 0 0] 34))).heap.size, 0, none⟩) hr55_ge (.bool qb56)).setCell (p := ⟨(((W.drew).alloc (.cells #[.bool false, .slice none 0 0] 34))).heap.size, 1, none⟩) hr55_ge (.slice qA56 qs56.length qc56)))
     have hr58_99 := hr57_99.farther (q := (((W.drew).alloc (.cells #[.bool false, .slice none 0 0] 34))).heap.size) (by have h1 := Nat.le_trans hbase hr55_ge; omega) (.bool qb56) (.slice qA56 qs56.length qc56)
     have hr58_99_lt : (w.heap.size + 2) < (((wq57).setCell ⟨(((W.drew).alloc (.cells #[.bool false, .slice none 0 0] 34))).heap.size, 0, none⟩ (.bool qb56)).setCell ⟨(((W.drew).alloc (.cells #[.bool false, .slice none 0 0] 34))).heap.size, 1, none⟩ (.slice qA56 qs56.length qc56)).heap.size := Nat.lt_of_lt_of_eq hr57_99_lt (size_put _ _ _ _ _).symm
     have hr58_5 := hr57_5.farther (q := (((W.drew).alloc (.cells #[.bool false, .slice none 0 0] 34))).heap.size) (fun e => hne55 e.symm) (.bool qb56) (.slice qA56 qs56.length qc56)
     have hr58_5_lt : (W.drew).heap.size < (((wq57).setCell ⟨(((W.drew).alloc (.cells #[.bool false, .slice none 0 0] 34))).heap.size, 0, none⟩ (.bool qb56)).setCell ⟨(((W.drew).alloc (.cells #[.bool false, .slice none 0 0] 34))).heap.size, 1, none⟩ (.slice qA56 qs56.length qc56)).heap.size := Nat.lt_of_lt_of_eq hr57_5_lt (size_put _ _ _ _ _).symm
     refine hK _ _ (HD58.out.1.tail.tail.cells) (fun hH58 => ?_)
     clear hK K hH57
     change wpAnyH _ _ _ _ _ _ _ (Act.put _ none _) _
     simp only [Act.put]
     refine wpAnyH_ready (rs := [7]) (by kernel_rfl) (by simp) ?_
     refine AllReadyH.cons rfl (fun K hK0 => ?d60) (AllReadyH.nil)
     have hK := hK0.out
     clear hK0
     rw [if_pos (by kernel_rfl)]
     refine wp_go_skip (run_store2 hr58_5 qb57 qA57 qs57.length qc57 (.tmp 6) (.tmp 13) (by kernel_rfl) (by kernel_rfl) (by kernel_rfl)) ?_
     have hv59 := Vars.past HD58.out.1 hr58_5 (K := w.heap.size + 3) (by simp) (Nat.le_trans hbase hr45_ge) qb57 qA57 qs57.length qc57
     have o59 := hr58_5.held3 hr58_5_lt (HD58.out.1 0 _ rfl).at_
     have HD59 := Lib.hid (And.intro hv59 ((HD58.out.2.setCell (p := ⟨(W.drew).heap.size, 0, none⟩) hr45_ge (.bool qb57)).setCell (p := ⟨(W.drew).heap.size, 1, none⟩) hr45_ge (.slice qA57 qs57.length qc57)))
     have o59_p := o58.past hr58_5 (hne55) qb57 qA57 qs57.length qc57
     have hr59_99 := hr58_99.farther (q := (W.drew).heap.size) (by have h1 := Nat.le_trans hbase hr45_ge; omega) (.bool qb57) (.slice qA57 qs57.length qc57)
     have hr59_99_lt : (w.heap.size + 2) < ((((((wq57).setCell ⟨(((W.drew).alloc (.cells #[.bool false, .slice none 0 0] 34))).heap.size, 0, none⟩ (.bool qb56)).setCell ⟨(((W.drew).alloc (.cells #[.bool false, .slice none 0 0] 34))).heap.size, 1, none⟩ (.slice qA56 qs56.length qc56))).setCell ⟨(W.drew).heap.size, 0, none⟩ (.bool qb57)).setCell ⟨(W.drew).heap.size, 1, none⟩ (.slice qA57 qs57.length qc57)).heap.size := Nat.lt_of_lt_of_eq hr58_99_lt (size_put _ _ _ _ _).symm
     refine hK _ _ (HD59.out.1.tail.tail.cells) (fun hH59 => ?_)
     clear hK K hH58
     change wpAnyH _ _ _ _ _ _ _ (Act.put _ none _) _
     simp only [Act.put]
     refine wpAnyH_done (by kernel_rfl) ?_ _
     have HF := Lib.hid (And.intro (show (((W.drew).alloc (.cells #[.bool false, .slice none 0 0] 34))).heap.size ≠ (W.drew).heap.size from (fun e => hne55 e.symm)) (And.intro (Nat.le_trans hbase hr55_ge) (And.intro (Nat.le_trans hbase hr45_ge) (And.intro (show Both ((((((wq57).setCell ⟨(((W.drew).alloc (.cells #[.bool false, .slice none 0 0] 34))).heap.size, 0, none⟩ (.bool qb56)).setCell ⟨(((W.drew).alloc (.cells #[.bool false, .slice none 0 0] 34))).heap.size, 1, none⟩ (.slice qA56 qs56.length qc56))).setCell ⟨(W.drew).heap.size, 0, none⟩ (.bool qb57)).setCell ⟨(W.drew).heap.size, 1, none⟩ (.slice qA57 qs57.length qc57)) (((W.drew).alloc (.cells #[.bool false, .slice none 0 0] 34))).heap.size (W.drew).heap.size ((x.natAbs : Nat) : Int) ((y.natAbs : Nat) : Int) from ⟨_, _, _, _, _, _, _, _, o59_p, o59⟩) (And.intro hr59_99 (below_then H0.out.1 HD59.out.2))))))
     clear o59_p o59 hr59_99
     generalize ((((((wq57).setCell ⟨(((W.drew).alloc (.cells #[.bool false, .slice none 0 0] 34))).heap.size, 0, none⟩ (.bool qb56)).setCell ⟨(((W.drew).alloc (.cells #[.bool false, .slice none 0 0] 34))).heap.size, 1, none⟩ (.slice qA56 qs56.length qc56))).setCell ⟨(W.drew).heap.size, 0, none⟩ (.bool qb57)).setCell ⟨(W.drew).heap.size, 1, none⟩ (.slice qA57 qs57.length qc57)) = Wz at HF ⊢
     generalize (W.drew).heap.size = q6 at HF ⊢
     generalize (((W.drew).alloc (.cells #[.bool false, .slice none 0 0] 34))).heap.size = q5 at HF ⊢
     go_wp2
     go_meet
     exact ⟨q5, q6, rfl, rfl, HF.out⟩
  case rest =>
   obtain ⟨r5, r6, rfl, rfl, hne, hg5, hg6, hbo, hres, hbw⟩ := hcut
   have HS := Lib.hid (And.intro hbo (And.intro hres hbw))
   clear hbo hbw HC hres hres_lt hbase
   go_wp2_with fail
   go_loopg [] y.natAbs (fun k wr => ∃ a : Nat, Both wr r5 r6 (a : Int) (k : Int) ∧ a < BD ^ m ∧ k < BD ^ m ∧ Nat.gcd a k = Int.gcd x y ∧ Res wr (w.heap.size + 2) ∧ Below w.heap.size w wr)
   case atStart => exact ⟨x.natAbs, HS.out.1, H0.out.2.1, H0.out.2.2, rfl, HS.out.2.1, HS.out.2.2⟩
   case round =>
    obtain ⟨a, ⟨b5, A5, n5, c5, b6, A6, n6, c6, o5, o6⟩, hfa, hfk, hgc, hres, hbw⟩ := hrel
    have hrs : w.heap.size + 2 < wr.heap.size := by have := o5.lt; omega
    rcases Nat.eq_zero_or_pos gk with hk0 | hk0
    · subst hk0
      have HN := Lib.hid (rsign_is (.agg #[.bool b6, .slice A6 n6 c6]) ((0 : Nat) : Int) 0 m wr o6.at_ (by omega) (by unfold FitD; simpa using hfk) rfl)
      have HP := Lib.hid (And.intro o5 (And.intro hres (And.intro hbw (And.intro hgc hrs))))
      obtain ⟨p60, p61⟩ := id o6.two
      clear o5 o6 hres hbw hgc hrs hfa hfk
      go_wp2_with fail
      refine HN.out.mono ?_
      rintro e w1 ⟨rfl, hb1⟩
      have q5 := HP.out.1.step hb1 rfl
      have r4 := HP.out.2.1.step hb1 rfl HP.out.2.2.2.2
      have HQ := Lib.hid (And.intro q5 (And.intro r4 (below_then HP.out.2.2.1 hb1)))
      obtain ⟨p50, p51⟩ := id q5.two
      obtain ⟨⟨hr0, hr1⟩, hf0, hf1⟩ := id r4
      clear p60 p61 q5 r4 hb1
      go_wp2
      have q := HQ.out.2.1.1.stored (.bool b5) (.slice A5 n5 c5)
      obtain ⟨s0, s1⟩ := id q
      refine bodyPost_ret (v := .agg #[.bool b5, .slice A5 n5 c5]) (by simp [results, Tryz.results82, go_sem, s0, s1]) rfl ?_
      have hle : w.heap.size ≤ w.heap.size + 2 := by omega
      refine ⟨_, rfl, RefAt.past (by rw [← HP.out.2.2.2.1, Nat.gcd_zero_right]; exact HQ.out.1.at_) HQ.out.2.1.1 _ _, (HQ.out.2.2.setCell (p := ⟨w.heap.size + 2, 0, none⟩) hle _).setCell (p := ⟨w.heap.size + 2, 1, none⟩) hle _⟩
    · have hks : ((gk : Nat) : Int).sign = 1 := Int.sign_eq_one_of_pos (by omega)
      have HN := Lib.hid (rsign_is (.agg #[.bool b6, .slice A6 n6 c6]) (gk : Int) 1 m wr o6.at_ (by omega) (by unfold FitD; simpa using hfk) hks)
      have HP := Lib.hid (And.intro o5 (And.intro o6 (And.intro hres (And.intro hbw (And.intro hgc (And.intro hrs (And.intro hfa hfk)))))))
      obtain ⟨p60, p61⟩ := id o6.two
      clear o5 o6 hres hbw hgc hrs hfa hfk hks
      go_wp2_with fail
      refine HN.out.mono ?_
      rintro e w1 ⟨rfl, hb1⟩
      have q5 := HP.out.1.step hb1 rfl
      have q6 := HP.out.2.1.step hb1 rfl
      have r4 := HP.out.2.2.1.step hb1 rfl HP.out.2.2.2.2.2.1
      have HD := Lib.hid (rdivide_some _ _ (a : Int) (gk : Int) m w1 q5.at_ q6.at_ (by omega) (by simpa using HP.out.2.2.2.2.2.2.1) (by simpa using HP.out.2.2.2.2.2.2.2) (by omega))
      have HQ := Lib.hid (And.intro q5 (And.intro q6 (And.intro r4 (And.intro (below_then HP.out.2.2.2.1 hb1) (Nat.lt_of_lt_of_le HP.out.2.2.2.2.2.1 hb1.size)))))
      clear p60 p61
      obtain ⟨p50, p51⟩ := id q5.two
      obtain ⟨p60, p61⟩ := id q6.two
      clear q5 q6 r4 hb1
      go_wp2_with fail
      refine HD.out.mono ?_
      rintro e w2 ⟨v1, v2, rfl, ⟨bq, Aq, cq, zq, rfl, sq, dq⟩, ⟨br, Ar, cr, zr, rfl, sr, dr⟩, hb2⟩
      have hrat : RefAt w2 (.agg #[.bool br, .slice Ar zr.length cr]) (((a % gk : Nat)) : Int) := by
        have h : RefAt w2 (.agg #[.bool br, .slice Ar zr.length cr]) ((a : Int).tmod (gk : Int)) := ⟨br, Ar, cr, zr, rfl, sr, dr⟩
        rw [Int.tmod_eq_emod_of_nonneg (by omega), ← Int.natCast_emod] at h
        exact h
      obtain ⟨W1, hW1⟩ : ∃ X : World, X = (w2.alloc (.cells #[.bool bq, .slice Aq zq.length cq] 34)).alloc (.cells #[.bool br, .slice Ar zr.length cr] 34) := ⟨_, rfl⟩
      obtain ⟨r8, hr8⟩ : ∃ r : Nat, r = w2.heap.size + 1 := ⟨_, rfl⟩
      have hal1 : Below w2.heap.size w2 (w2.alloc (.cells #[.bool bq, .slice Aq zq.length cq] 34)) := (Below.refl _ _).alloc (Nat.le_refl _) _
      have hal : Below w2.heap.size w2 W1 := by rw [hW1]; exact hal1.alloc (by rw [size_alloc]; omega) _
      have o8 : Held3 W1 r8 br Ar zr.length cr (((a % gk : Nat)) : Int) := by
        have h := Held3.new (hrat.step hal1 rfl)
        rw [size_alloc] at h
        rw [hW1, hr8]
        exact h
      have o5 := (HQ.out.1.step hb2 rfl).step hal rfl
      have o6 := (HQ.out.2.1.step hb2 rfl).step hal rfl
      have r4 := (HQ.out.2.2.1.step hb2 rfl HQ.out.2.2.2.2).step hal rfl (Nat.lt_of_lt_of_le HQ.out.2.2.2.2 hb2.size)
      have hbw := below_then (below_then HQ.out.2.2.2.1 hb2) hal
      have hne5 : r8 ≠ r5 := by have h1 := HQ.out.1.lt; have h2 := hb2.size; omega
      have hne6 : r8 ≠ r6 := by have h1 := HQ.out.2.1.lt; have h2 := hb2.size; omega
      have HW := Lib.hid (And.intro hW1 hr8)
      have HO := Lib.hid (And.intro o5 (And.intro o6 (And.intro o8 (And.intro r4 hbw))))
      clear p50 p51 p60 p61
      clear hW1 hr8 hal1 hal hrat sq dq sr dr hb2 r4 hbw
      go_upto_region 4 with fail
      rw [← HW.out.1, ← HW.out.2]
      obtain ⟨p50, p51⟩ := id o5.two
      obtain ⟨p60, p61⟩ := id o6.two
      obtain ⟨p80, p81⟩ := id o8.two
      obtain ⟨f50, f51⟩ := id o5.fz
      obtain ⟨f60, f61⟩ := id o6.fz
      clear o5 o6 o8 HW
      go_region
      have e5 := HO.out.1.over HO.out.2.1.at_
      have e6 := HO.out.2.1.past3 HO.out.1.two hne b6 A6 n6 c6
      have e8 := RefAt.past HO.out.2.2.1.at_ HO.out.1.two (.bool b6) (.slice A6 n6 c6)
      have k6 := e6.over e8
      have k5 := e5.past3 e6.two (fun e => hne e.symm) br Ar zr.length cr
      have kr := (HO.out.2.2.2.1.farther (q := r5) (by omega) (.bool b6) (.slice A6 n6 c6)).farther (q := r6) (by omega) (.bool br) (.slice Ar zr.length cr)
      have l5 : w.heap.size ≤ r5 := by omega
      have l6 : w.heap.size ≤ r6 := by omega
      have hb4 := (((HO.out.2.2.2.2.setCell (p := ⟨r5, 0, none⟩) l5 (.bool b6)).setCell (p := ⟨r5, 1, none⟩) l5 (.slice A6 n6 c6)).setCell (p := ⟨r6, 0, none⟩) l6 (.bool br)).setCell (p := ⟨r6, 1, none⟩) l6 (.slice Ar zr.length cr)
      have hmod := Nat.mod_lt a hk0
      go_wp2
      go_roundg (a % gk)
      case rel => exact ⟨gk, ⟨_, _, _, _, _, _, _, _, k5.step (Below.refl _ _).drew rfl, k6.step (Below.refl _ _).drew rfl⟩, HP.out.2.2.2.2.2.2.2, Nat.lt_trans hmod HP.out.2.2.2.2.2.2.2, (gcd_tmod a gk).trans HP.out.2.2.2.2.1, kr, hb4.drew⟩
      case measure => exact hmod
end Go.Proofs.YtpgbnegppehckaaGreat.RK
namespace Go.Proofs.YtpgbnegppehckaaGreat
open Go.RowKit
theorem QW.beginS (w : World) (b1 : Bool) (A1 : Option Addr) (n1 c1 : Nat) (b2 : Bool) (A2 : Option Addr) (n2 c2 : Nat) :
    QW w (((w.alloc (.cells #[.bool b1, .slice A1 n1 c1] 34)).alloc (.cells #[.bool b2, .slice A2 n2 c2] 34)).alloc (.cells #[.bool false, .slice none 0 0, .bool false, .slice none 0 0] 43)) b1 A1 n1 c1 b2 A2 n2 c2 := by
  have hb1 := boxed2_below w (.cells #[.bool b1, .slice A1 n1 c1] 34) (.cells #[.bool b2, .slice A2 n2 c2] 34)
  have hb0 := hb1.alloc (by simp; omega) (.cells #[.bool false, .slice none 0 0, .bool false, .slice none 0 0] 43)
  have hX := ((Two.new w (.bool b1) (.slice A1 n1 c1) 34).alloc (by simp) (.cells #[.bool b2, .slice A2 n2 c2] 34)).alloc (by simp; omega) (.cells #[.bool false, .slice none 0 0, .bool false, .slice none 0 0] 43)
  have hY := (Two.new (w.alloc (.cells #[.bool b1, .slice A1 n1 c1] 34)) (.bool b2) (.slice A2 n2 c2) 34).alloc (by simp) (.cells #[.bool false, .slice none 0 0, .bool false, .slice none 0 0] 43)
  have hR := ResF.new ((w.alloc (.cells #[.bool b1, .slice A1 n1 c1] 34)).alloc (.cells #[.bool b2, .slice A2 n2 c2] 34)) 43
  rw [size_alloc] at hY
  rw [size_alloc, size_alloc] at hR
  refine ⟨hX, hY, hR, ?_, ?_, hb0, by simp⟩ <;> constructor <;> go_simp
theorem QW.ref22 {w W : World} {b1 : Bool} {A1 : Option Addr} {n1 c1 : Nat} {b2 : Bool} {A2 : Option Addr} {n2 c2 : Nat} (h : QW w W b1 A1 n1 c1 b2 A2 n2 c2) {v : Value} {z : Int} (hv : RefAt W v z) (b3 : Bool) (A3 : Option Addr) (n3 c3 : Nat) (b4 : Bool) (A4 : Option Addr) (n4 c4 : Nat) :
    RefAt ((((W.setCell ⟨w.heap.size, 0, none⟩ (.bool b3)).setCell ⟨w.heap.size, 1, none⟩ (.slice A3 n3 c3)).setCell ⟨w.heap.size + 1, 0, none⟩ (.bool b4)).setCell ⟨w.heap.size + 1, 1, none⟩ (.slice A4 n4 c4)) v z :=
  RK.RefAt.past (RK.RefAt.past hv h.x _ _) (h.y.far (by omega) _ _) _ _
theorem QW.putx {w W : World} {b1 : Bool} {A1 : Option Addr} {n1 c1 : Nat} {b2 : Bool} {A2 : Option Addr} {n2 c2 : Nat} (h : QW w W b1 A1 n1 c1 b2 A2 n2 c2) (b3 : Bool) (A3 : Option Addr) (n3 c3 : Nat) :
    QW w ((W.setCell ⟨w.heap.size, 0, none⟩ (.bool b3)).setCell ⟨w.heap.size, 1, none⟩ (.slice A3 n3 c3)) b3 A3 n3 c3 b2 A2 n2 c2 := by
  refine ⟨h.x.stored _ _, h.y.far (by omega) _ _, h.r.far2 (by omega) _ _, ⟨?_, ?_⟩, ⟨?_, ?_⟩,
    (h.below.setCell (p := ⟨w.heap.size, 0, none⟩) (Nat.le_refl _) _).setCell (p := ⟨w.heap.size, 1, none⟩) (Nat.le_refl _) _, ?_⟩
  · rw [frz2, frz2]; exact h.fx.1
  · rw [frz2, frz2]; exact h.fx.2
  · rw [frz2, frz2]; exact h.fy.1
  · rw [frz2, frz2]; exact h.fy.2
  · have := h.size; simp [World.setCell]; exact this
theorem QW.puty {w W : World} {b1 : Bool} {A1 : Option Addr} {n1 c1 : Nat} {b2 : Bool} {A2 : Option Addr} {n2 c2 : Nat} (h : QW w W b1 A1 n1 c1 b2 A2 n2 c2) (b3 : Bool) (A3 : Option Addr) (n3 c3 : Nat) :
    QW w ((W.setCell ⟨w.heap.size + 1, 0, none⟩ (.bool b3)).setCell ⟨w.heap.size + 1, 1, none⟩ (.slice A3 n3 c3)) b1 A1 n1 c1 b3 A3 n3 c3 := by
  refine ⟨h.x.far (by omega) _ _, h.y.stored _ _, h.r.far2 (by omega) _ _, ⟨?_, ?_⟩, ⟨?_, ?_⟩,
    (h.below.setCell (p := ⟨w.heap.size + 1, 0, none⟩) (Nat.le_succ _) _).setCell (p := ⟨w.heap.size + 1, 1, none⟩) (Nat.le_succ _) _, ?_⟩
  · rw [frz2, frz2]; exact h.fx.1
  · rw [frz2, frz2]; exact h.fx.2
  · rw [frz2, frz2]; exact h.fy.1
  · rw [frz2, frz2]; exact h.fy.2
  · have := h.size; simp [World.setCell]; exact this
structure R7 (w W : World) (b1 : Bool) (A1 : Option Addr) (n1 c1 : Nat) (b2 : Bool) (A2 : Option Addr) (n2 c2 : Nat) (r : Nat) (b3 : Bool) (A3 : Option Addr) (n3 c3 : Nat) (x y g : Int) : Prop where
  q : QW w W b1 A1 n1 c1 b2 A2 n2 c2
  z : Two W r (.bool b3) (.slice A3 n3 c3)
  lt : r < W.heap.size
  ge : w.heap.size + 3 ≤ r
  ix : RefAt W (.agg #[.bool b1, .slice A1 n1 c1]) x
  iy : RefAt W (.agg #[.bool b2, .slice A2 n2 c2]) y
  ig : RefAt W (.agg #[.bool b3, .slice A3 n3 c3]) g
theorem R7.step {w W0 W w1 : World} {b1 : Bool} {A1 : Option Addr} {n1 c1 : Nat} {b2 : Bool} {A2 : Option Addr} {n2 c2 r : Nat} {b3 : Bool} {A3 : Option Addr} {n3 c3 : Nat} {x y g : Int} (h : R7 w W0 b1 A1 n1 c1 b2 A2 n2 c2 r b3 A3 n3 c3 x y g) (hb : Below W.heap.size W w1)
    (hh : W.heap = W0.heap) (ho : W.os = W0.os) (ht : W.tape = W0.tape) (hu : W.output = W0.output) : R7 w w1 b1 A1 n1 c1 b2 A2 n2 c2 r b3 A3 n3 c3 x y g :=
  ⟨h.q.step hb hh ho ht hu, h.z.step hb hh h.lt, by have := hb.size; rw [hh] at this; have := h.lt; omega, h.ge, h.ix.step hb hh, h.iy.step hb hh, h.ig.step hb hh⟩
theorem R7.overx {w W : World} {b1 : Bool} {A1 : Option Addr} {n1 c1 : Nat} {b2 : Bool} {A2 : Option Addr} {n2 c2 r : Nat} {b3 : Bool} {A3 : Option Addr} {n3 c3 : Nat} {x y g z : Int} (h : R7 w W b1 A1 n1 c1 b2 A2 n2 c2 r b3 A3 n3 c3 x y g) {b : Bool} {A : Option Addr} {n c : Nat} (hv : RefAt W (.agg #[.bool b, .slice A n c]) z) :
    R7 w ((W.setCell ⟨w.heap.size, 0, none⟩ (.bool b)).setCell ⟨w.heap.size, 1, none⟩ (.slice A n c)) b A n c b2 A2 n2 c2 r b3 A3 n3 c3 z y g :=
  ⟨h.q.putx b A n c, h.z.far (by have := h.ge; omega) _ _, by rw [RK.size_put]; exact h.lt, h.ge, RK.RefAt.past hv h.q.x _ _, RK.RefAt.past h.iy h.q.x _ _, RK.RefAt.past h.ig h.q.x _ _⟩
theorem R7.overy {w W : World} {b1 : Bool} {A1 : Option Addr} {n1 c1 : Nat} {b2 : Bool} {A2 : Option Addr} {n2 c2 r : Nat} {b3 : Bool} {A3 : Option Addr} {n3 c3 : Nat} {x y g z : Int} (h : R7 w W b1 A1 n1 c1 b2 A2 n2 c2 r b3 A3 n3 c3 x y g) {b : Bool} {A : Option Addr} {n c : Nat} (hv : RefAt W (.agg #[.bool b, .slice A n c]) z) :
    R7 w ((W.setCell ⟨w.heap.size + 1, 0, none⟩ (.bool b)).setCell ⟨w.heap.size + 1, 1, none⟩ (.slice A n c)) b1 A1 n1 c1 b A n c r b3 A3 n3 c3 x z g :=
  ⟨h.q.puty b A n c, h.z.far (by have := h.ge; omega) _ _, by rw [RK.size_put]; exact h.lt, h.ge, RK.RefAt.past h.ix h.q.y _ _, RK.RefAt.past hv h.q.y _ _, RK.RefAt.past h.ig h.q.y _ _⟩
theorem SNew_zero (v1 v2 : Value) (n d : Int) (m : Nat) (w : World) (h1 : RefAt w v1 n) (h2 : RefAt w v2 d) (hm : m ≤ 1000) (hn : n.natAbs < BD ^ m) (hd : d.natAbs < BD ^ m) (h0 : d = 0) :
    Calls Tryz.prog 17 #[v1, v2] w fun e w' => IsSE w w' 0 1 6 e := by
  obtain ⟨b1, A1, c1, xs1, rfl, s1, l1⟩ := h1
  obtain ⟨b2, A2, c2, xs2, rfl, s2, l2⟩ := h2
  have hq := QW.beginS w b1 A1 xs1.length c1 b2 A2 xs2.length c2
  obtain ⟨W, hW⟩ : ∃ W : World, ((w.alloc (.cells #[.bool b1, .slice A1 xs1.length c1] 34)).alloc (.cells #[.bool b2, .slice A2 xs2.length c2] 34)).alloc (.cells #[.bool false, .slice none 0 0, .bool false, .slice none 0 0] 43) = W := ⟨_, rfl⟩
  rw [hW] at hq
  have i1 := sref_of s1 (l1.step hq.below rfl)
  have i2 := sref_of s2 (l2.step hq.below rfl)
  have hsg := RK.rsign_is _ d 0 m W i2 (by omega) hd (by rw [h0]; rfl)
  have H := Lib.hid (And.intro hsg (And.intro hq (And.intro i1 i2)))
  have HN := Lib.hid (And.intro hm (And.intro hn (And.intro hd h0)))
  have HW := Lib.hid hW
  obtain ⟨py0, py1⟩ := id hq.y
  clear hsg hq i1 i2 hm hn hd h0 s1 l1 s2 l2 hW
  go_enter Tryz.func17, Tryz.ntmps17
  go_upto_region 1 with fail
  rw [HW.out]
  clear HW
  go_wp2_with fail
  refine H.out.1.mono ?_
  rintro e w1 ⟨rfl, hb1⟩
  have q1 := H.out.2.1.step hb1 rfl rfl rfl rfl
  have HQ1 := Lib.hid (And.intro q1 (And.intro (H.out.2.2.1.step hb1 rfl) (H.out.2.2.2.step hb1 rfl)))
  clear py0 py1 q1 hb1 H
  go_wp2_with fail
  have hz := SInt_pos 0 w1 (by decide)
  rw [show ((0 : Nat) : Int) = 0 from rfl] at hz
  refine hz.mono ?_
  rintro e w3 ⟨v3, rfl, ⟨b1, A1, c1, xs1, b2, A2, c2, xs2, rfl, s1, l1, s2, l2, lo⟩, hb3⟩
  have q3 := HQ1.out.1.step hb3 rfl rfl rfl rfl
  obtain ⟨⟨k0, k1, k2, k3⟩, f0, f1, f2, f3⟩ := id q3.r
  have HF := Lib.hid (And.intro q3 (And.intro s1 (And.intro l1 (And.intro s2 (And.intro l2 lo)))))
  clear q3 s1 l1 s2 l2 lo hb3 hz
  go_wp2
  obtain ⟨q0, q1, q2, q3⟩ := Quad.put HF.out.1.r.1 (.bool b1) (.slice A1 xs1.length c1) (.bool b2) (.slice A2 xs2.length c2)
  unfold put4 at q0 q1 q2 q3
  refine bodyPost_ret (v := .tuple #[.agg #[.bool b1, .slice A1 xs1.length c1, .bool b2, .slice A2 xs2.length c2], .int .i64 6]) (by simp [results, Tryz.results17, go_sem, q0, q1, q2, q3]) rfl ?_
  exact sE_stored HF.out.1.r HF.out.2.1 HF.out.2.2.1 HF.out.2.2.2.1 HF.out.2.2.2.2.1 HF.out.2.2.2.2.2 HF.out.1.below (by omega)
theorem SNew_pos (v1 v2 : Value) (n d : Int) (m : Nat) (w : World) (h1 : RefAt w v1 n) (h2 : RefAt w v2 d) (hm : m ≤ 1000) (hn : n.natAbs < BD ^ m) (hd : d.natAbs < BD ^ m) (h0 : 0 < d) :
    Calls Tryz.prog 17 #[v1, v2] w fun e w' => IsSE w w' (Qx.num n d) (Qx.den n d) 0 e := by
  obtain ⟨b1, A1, c1, xs1, rfl, s1, l1⟩ := h1
  obtain ⟨b2, A2, c2, xs2, rfl, s2, l2⟩ := h2
  have hq := QW.beginS w b1 A1 xs1.length c1 b2 A2 xs2.length c2
  obtain ⟨W, hW⟩ : ∃ W : World, ((w.alloc (.cells #[.bool b1, .slice A1 xs1.length c1] 34)).alloc (.cells #[.bool b2, .slice A2 xs2.length c2] 34)).alloc (.cells #[.bool false, .slice none 0 0, .bool false, .slice none 0 0] 43) = W := ⟨_, rfl⟩
  rw [hW] at hq
  have i1 := sref_of s1 (l1.step hq.below rfl)
  have i2 := sref_of s2 (l2.step hq.below rfl)
  have hsg := RK.rsign_is _ d 1 m W i2 (by omega) hd (Int.sign_eq_one_of_pos h0)
  have H := Lib.hid (And.intro hsg (And.intro hq (And.intro i1 i2)))
  have HN := Lib.hid (And.intro hm (And.intro hn (And.intro hd h0)))
  have HW := Lib.hid hW
  obtain ⟨py0, py1⟩ := id hq.y
  clear hsg hq i1 i2 hm hn hd h0 s1 l1 s2 l2 hW
  go_enter Tryz.func17, Tryz.ntmps17
  go_upto_region 1 with fail
  rw [HW.out]
  clear HW
  go_wp2_with fail
  refine H.out.1.mono ?_
  rintro e w1 ⟨rfl, hb1⟩
  have q1 := H.out.2.1.step hb1 rfl rfl rfl rfl
  have HQ1 := Lib.hid (And.intro q1 (And.intro (H.out.2.2.1.step hb1 rfl) (H.out.2.2.2.step hb1 rfl)))
  clear py0 py1 q1 hb1 H
  obtain ⟨py0, py1⟩ := id HQ1.out.1.y
  have hsg := RK.rsign_is _ d 1 m w1 HQ1.out.2.2 (by have := HN.out.1; omega) HN.out.2.2.1 (Int.sign_eq_one_of_pos HN.out.2.2.2)
  have HS := Lib.hid hsg
  clear hsg
  go_wp2_with fail
  refine HS.out.mono ?_
  rintro e w2 ⟨rfl, hb2⟩
  have q2 := HQ1.out.1.step hb2 rfl rfl rfl rfl
  have HQ := Lib.hid (And.intro q2 (And.intro (HQ1.out.2.1.step hb2 rfl) (HQ1.out.2.2.step hb2 rfl)))
  clear py0 py1 q2 hb2 HQ1 HS
  have HA := Lib.hid (show Int.tdiv n (Int.gcd n d : Nat) = Qx.num n d ∧ Int.tdiv d (Int.gcd n d : Nat) = Qx.den n d ∧ d ≠ 0 ∧ Int.natAbs n < BD ^ m ∧ Int.natAbs d < BD ^ m ∧ Qx.Low (Qx.num n d) (Qx.den n d) from
    ⟨by unfold Qx.num; rw [if_neg (by have := HN.out.2.2.2; omega)], by unfold Qx.den; rw [if_neg (by have := HN.out.2.2.2; omega)], by have := HN.out.2.2.2; omega, HN.out.2.1, HN.out.2.2.1, Qx.low_of (by have := HN.out.2.2.2; omega)⟩)
  go_upto_region 5 with fail
  obtain ⟨px0, px1⟩ := id HQ.out.1.x
  obtain ⟨py0, py1⟩ := id HQ.out.1.y
  go_wp2_with fail
  refine (RK.RGcd_any _ _ n d m _ HQ.out.2.1 HQ.out.2.2 HN.out.1 HA.out.2.2.2.1 HA.out.2.2.2.2.1).mono ?_
  rintro e w6 ⟨v6, rfl, ⟨b6, A6, c6, xs6, rfl, s6, l6⟩, hb6⟩
  have hal : Below w6.heap.size w6 (w6.alloc (.cells #[.bool b6, .slice A6 xs6.length c6] 34)) := (Below.refl _ _).alloc (Nat.le_refl _) _
  have h7 : R7 w (w6.alloc (.cells #[.bool b6, .slice A6 xs6.length c6] 34)) b1 A1 xs1.length c1 b2 A2 xs2.length c2 w6.heap.size b6 A6 xs6.length c6 n d ((Int.gcd n d : Nat) : Int) :=
    ⟨(HQ.out.1.step hb6 rfl rfl rfl rfl).step hal rfl rfl rfl rfl, Two.new w6 _ _ _, by simp, (HQ.out.1.step hb6 rfl rfl rfl rfl).size, (HQ.out.2.1.step hb6 rfl).step hal rfl, (HQ.out.2.2.step hb6 rfl).step hal rfl, sref_of s6 (l6.step hal rfl)⟩
  obtain ⟨W7, hW7⟩ : ∃ W7 : World, W7 = w6.alloc (.cells #[.bool b6, .slice A6 xs6.length c6] 34) := ⟨_, rfl⟩
  obtain ⟨r, hr⟩ : ∃ r : Nat, r = w6.heap.size := ⟨_, rfl⟩
  rw [← hW7, ← hr] at h7
  have H7 := Lib.hid h7
  have HW7 := Lib.hid hW7
  have HR := Lib.hid hr
  clear h7 hW7 hr hal s6 l6 hb6 px0 px1 py0 py1 HQ
  go_upto_region 6 with fail
  rw [← HW7.out, ← HR.out]
  clear HW7 HR
  obtain ⟨px0, px1⟩ := id H7.out.q.x
  obtain ⟨pz0, pz1⟩ := id H7.out.z
  go_wp2_with fail
  refine (rdivide_some _ _ n ((Int.gcd n d : Nat) : Int) m _ H7.out.ix H7.out.ig (by have := HN.out.1; omega) HA.out.2.2.2.1 (fit_gcd HA.out.2.2.1 HA.out.2.2.2.2.1) (gcd_ne HA.out.2.2.1)).mono ?_
  rw [HA.out.1]
  rintro e w8 ⟨v8, v8', rfl, ⟨b8, A8, c8, xs8, rfl, s8, l8⟩, ⟨b9, A9, c9, xs9, rfl, _, _⟩, hb8⟩
  have q8 := H7.out.step hb8 rfl rfl rfl rfl
  have o8 := q8.overx (sref_of s8 l8)
  obtain ⟨W8, hW8⟩ : ∃ W8 : World, W8 = (w8.setCell ⟨w.heap.size, 0, none⟩ (.bool b8)).setCell ⟨w.heap.size, 1, none⟩ (.slice A8 xs8.length c8) := ⟨_, rfl⟩
  rw [← hW8] at o8
  have H8 := Lib.hid o8
  have HW8 := Lib.hid hW8
  obtain ⟨pa0, pa1⟩ := id q8.q.x
  obtain ⟨fa0, fa1⟩ := id q8.q.fx
  clear px0 px1 pz0 pz1 o8 hW8 q8 s8 l8 hb8
  go_upto_region 7 with fail
  rw [← HW8.out]
  clear HW8 pa0 pa1 fa0 fa1
  obtain ⟨py0, py1⟩ := id H8.out.q.y
  obtain ⟨pz0, pz1⟩ := id H8.out.z
  go_wp2_with fail
  refine (rdivide_some _ _ d ((Int.gcd n d : Nat) : Int) m _ H8.out.iy H8.out.ig (by have := HN.out.1; omega) HA.out.2.2.2.2.1 (fit_gcd HA.out.2.2.1 HA.out.2.2.2.2.1) (gcd_ne HA.out.2.2.1)).mono ?_
  rw [HA.out.2.1]
  rintro e w10 ⟨v10, v10', rfl, ⟨bd, Ad, cd, xd, rfl, sd, ld⟩, ⟨be, Ae, ce, xe, rfl, _, _⟩, hb10⟩
  have q10 := H8.out.step hb10 rfl rfl rfl rfl
  have o10 := q10.overy (sref_of sd ld)
  obtain ⟨W10, hW10⟩ : ∃ W10 : World, W10 = (w10.setCell ⟨w.heap.size + 1, 0, none⟩ (.bool bd)).setCell ⟨w.heap.size + 1, 1, none⟩ (.slice Ad xd.length cd) := ⟨_, rfl⟩
  rw [← hW10] at o10
  have H10 := Lib.hid o10
  have HW10 := Lib.hid hW10
  obtain ⟨pa0, pa1⟩ := id q10.q.y
  obtain ⟨fa0, fa1⟩ := id q10.q.fy
  clear py0 py1 pz0 pz1 o10 hW10 q10 sd ld hb10
  go_upto_region 8 with fail
  rw [← HW10.out]
  clear HW10 pa0 pa1 fa0 fa1
  obtain ⟨px0, px1⟩ := id H10.out.q.x
  obtain ⟨py0, py1⟩ := id H10.out.q.y
  obtain ⟨⟨k0, k1, k2, k3⟩, f0, f1, f2, f3⟩ := id H10.out.q.r
  go_wp2
  obtain ⟨q0, q1, q2, q3⟩ := Quad.put H10.out.q.r.1 (.bool b8) (.slice A8 xs8.length c8) (.bool bd) (.slice Ad xd.length cd)
  unfold put4 at q0 q1 q2 q3
  refine bodyPost_ret (v := .tuple #[.agg #[.bool b8, .slice A8 xs8.length c8, .bool bd, .slice Ad xd.length cd], .int .i64 0]) (by simp [results, Tryz.results17, go_sem, q0, q1, q2, q3]) rfl ?_
  obtain ⟨b8', A8', c8', xs8', e8, s8, l8⟩ := H10.out.ix
  obtain ⟨bd', Ad', cd', xd', ed, sd, ld⟩ := H10.out.iy
  simp only [Value.agg.injEq, Array.mk.injEq, List.cons.injEq, Value.bool.injEq, Value.slice.injEq, and_true] at e8 ed
  obtain ⟨rfl, rfl, e8l, rfl⟩ := e8
  obtain ⟨rfl, rfl, edl, rfl⟩ := ed
  rw [e8l, edl]
  exact sE_stored H10.out.q.r s8 l8 sd ld HA.out.2.2.2.2.2 H10.out.q.below (by omega)
theorem SNew_neg (v1 v2 : Value) (n d : Int) (m : Nat) (w : World) (h1 : RefAt w v1 n) (h2 : RefAt w v2 d) (hm : m ≤ 1000) (hn : n.natAbs < BD ^ m) (hd : d.natAbs < BD ^ m) (h0 : d < 0) :
    Calls Tryz.prog 17 #[v1, v2] w fun e w' => IsSE w w' (Qx.num n d) (Qx.den n d) 0 e := by
  obtain ⟨b1, A1, c1, xs1, rfl, s1, l1⟩ := h1
  obtain ⟨b2, A2, c2, xs2, rfl, s2, l2⟩ := h2
  have hq := QW.beginS w b1 A1 xs1.length c1 b2 A2 xs2.length c2
  obtain ⟨W, hW⟩ : ∃ W : World, ((w.alloc (.cells #[.bool b1, .slice A1 xs1.length c1] 34)).alloc (.cells #[.bool b2, .slice A2 xs2.length c2] 34)).alloc (.cells #[.bool false, .slice none 0 0, .bool false, .slice none 0 0] 43) = W := ⟨_, rfl⟩
  rw [hW] at hq
  have i1 := sref_of s1 (l1.step hq.below rfl)
  have i2 := sref_of s2 (l2.step hq.below rfl)
  have hsg := RK.rsign_is _ d (-1) m W i2 (by omega) hd (Int.sign_eq_neg_one_of_neg h0)
  have H := Lib.hid (And.intro hsg (And.intro hq (And.intro i1 i2)))
  have HN := Lib.hid (And.intro hm (And.intro hn (And.intro hd h0)))
  have HW := Lib.hid hW
  obtain ⟨py0, py1⟩ := id hq.y
  clear hsg hq i1 i2 hm hn hd h0 s1 l1 s2 l2 hW
  go_enter Tryz.func17, Tryz.ntmps17
  go_upto_region 1 with fail
  rw [HW.out]
  clear HW
  go_wp2_with fail
  refine H.out.1.mono ?_
  rintro e w1 ⟨rfl, hb1⟩
  have q1 := H.out.2.1.step hb1 rfl rfl rfl rfl
  have HQ1 := Lib.hid (And.intro q1 (And.intro (H.out.2.2.1.step hb1 rfl) (H.out.2.2.2.step hb1 rfl)))
  clear py0 py1 q1 hb1 H
  obtain ⟨py0, py1⟩ := id HQ1.out.1.y
  have hsg := RK.rsign_is _ d (-1) m w1 HQ1.out.2.2 (by have := HN.out.1; omega) HN.out.2.2.1 (Int.sign_eq_neg_one_of_neg HN.out.2.2.2)
  have HS := Lib.hid hsg
  clear hsg
  go_wp2_with fail
  refine HS.out.mono ?_
  rintro e w2 ⟨rfl, hb2⟩
  have q2 := HQ1.out.1.step hb2 rfl rfl rfl rfl
  have HQ := Lib.hid (And.intro q2 (And.intro (HQ1.out.2.1.step hb2 rfl) (HQ1.out.2.2.step hb2 rfl)))
  clear py0 py1 q2 hb2 HQ1 HS
  go_upto_if 13 with fail
  go_cut [] (fun wx => ∃ b1 A1 c1 xs1 b2 A2 c2 xs2, QW w wx b1 A1 (List.length xs1) c1 b2 A2 (List.length xs2) c2 ∧ RefAt wx (.agg #[.bool b1, .slice A1 (List.length xs1) c1]) (-n) ∧ RefAt wx (.agg #[.bool b2, .slice A2 (List.length xs2) c2]) (-d))
  case first => as_aux_lemma =>
   go_upto_region 4 with fail
   obtain ⟨px0, px1⟩ := id HQ.out.1.x
   obtain ⟨py0, py1⟩ := id HQ.out.1.y
   obtain ⟨⟨fx0, fx1⟩, fy0, fy1⟩ := And.intro HQ.out.1.fx HQ.out.1.fy
   have hm6 : m ≤ 1000000 := by have := HN.out.1; omega
   have HM := Lib.hid hm6
   clear hm6
   go_region_with (first
     | (go_at_call_of 81 b1; refine (RNeg_any _ n m _ (by exact (HQ.out.2.1.step (Below.refl _ _) rfl)) HN.out.2.1 HM.out).mono ?_; rintro e w3 ⟨v3, rfl, ⟨b3, A3, c3, xs3, rfl, s3, l3⟩, hb3⟩; have q3 := HQ.out.1.step hb3 rfl rfl rfl rfl; have j3 := HQ.out.2.2.step hb3 rfl; have i3 := sref_of s3 l3; obtain ⟨px0, px1⟩ := id q3.x; obtain ⟨py0, py1⟩ := id q3.y)
     | (go_at_call_of 81 b2; refine (RNeg_any _ d m _ (by exact (j3.step (Below.refl _ _) rfl)) HN.out.2.2.1 HM.out).mono ?_; rintro e w4 ⟨v4, rfl, ⟨b4, A4, c4, xs4, rfl, s4, l4⟩, hb4⟩; have q4 := q3.step hb4 rfl rfl rfl rfl; have i4 := i3.step hb4 rfl; have j4 := sref_of s4 l4; obtain ⟨pa0, pa1⟩ := id q4.x; obtain ⟨pb0, pb1⟩ := id q4.y; obtain ⟨⟨fa0, fa1⟩, fb0, fb1⟩ := And.intro q4.fx q4.fy))
   all_goals (go_wp2_with fail; go_meet; exact ⟨b3, A3, c3, xs3, b4, A4, c4, xs4, q4.put22 b3 A3 xs3.length c3 b4 A4 xs4.length c4, q4.ref22 i4 b3 A3 xs3.length c3 b4 A4 xs4.length c4, q4.ref22 j4 b3 A3 xs3.length c3 b4 A4 xs4.length c4⟩)
  case rest =>
  obtain ⟨b1, A1, c1, xs1, b2, A2, c2, xs2, hq5, hi5, hj5⟩ := hcut
  have HQ5 := Lib.hid (And.intro hq5 (And.intro hi5 hj5))
  clear hq5 hi5 hj5
  have HA := Lib.hid (show Int.tdiv (-n) (Int.gcd (-n) (-d) : Nat) = Qx.num n d ∧ Int.tdiv (-d) (Int.gcd (-n) (-d) : Nat) = Qx.den n d ∧ (-d) ≠ 0 ∧ Int.natAbs (-n) < BD ^ m ∧ Int.natAbs (-d) < BD ^ m ∧ Qx.Low (Qx.num n d) (Qx.den n d) from
    ⟨by unfold Qx.num; rw [if_pos (by have := HN.out.2.2.2; omega), Int.neg_gcd, Int.gcd_neg], by unfold Qx.den; rw [if_pos (by have := HN.out.2.2.2; omega), Int.neg_gcd, Int.gcd_neg], by have := HN.out.2.2.2; omega, by rw [Int.natAbs_neg]; exact HN.out.2.1, by rw [Int.natAbs_neg]; exact HN.out.2.2.1, Qx.low_of (by have := HN.out.2.2.2; omega)⟩)
  go_upto_region 5 with fail
  obtain ⟨px0, px1⟩ := id HQ5.out.1.x
  obtain ⟨py0, py1⟩ := id HQ5.out.1.y
  go_wp2_with fail
  refine (RK.RGcd_any _ _ (-n) (-d) m _ HQ5.out.2.1 HQ5.out.2.2 HN.out.1 HA.out.2.2.2.1 HA.out.2.2.2.2.1).mono ?_
  rintro e w6 ⟨v6, rfl, ⟨b6, A6, c6, xs6, rfl, s6, l6⟩, hb6⟩
  have hal : Below w6.heap.size w6 (w6.alloc (.cells #[.bool b6, .slice A6 xs6.length c6] 34)) := (Below.refl _ _).alloc (Nat.le_refl _) _
  have h7 : R7 w (w6.alloc (.cells #[.bool b6, .slice A6 xs6.length c6] 34)) b1 A1 xs1.length c1 b2 A2 xs2.length c2 w6.heap.size b6 A6 xs6.length c6 (-n) (-d) ((Int.gcd (-n) (-d) : Nat) : Int) :=
    ⟨(HQ5.out.1.step hb6 rfl rfl rfl rfl).step hal rfl rfl rfl rfl, Two.new w6 _ _ _, by simp, (HQ5.out.1.step hb6 rfl rfl rfl rfl).size, (HQ5.out.2.1.step hb6 rfl).step hal rfl, (HQ5.out.2.2.step hb6 rfl).step hal rfl, sref_of s6 (l6.step hal rfl)⟩
  obtain ⟨W7, hW7⟩ : ∃ W7 : World, W7 = w6.alloc (.cells #[.bool b6, .slice A6 xs6.length c6] 34) := ⟨_, rfl⟩
  obtain ⟨r, hr⟩ : ∃ r : Nat, r = w6.heap.size := ⟨_, rfl⟩
  rw [← hW7, ← hr] at h7
  have H7 := Lib.hid h7
  have HW7 := Lib.hid hW7
  have HR := Lib.hid hr
  clear h7 hW7 hr hal s6 l6 hb6 px0 px1 py0 py1 HQ5
  go_upto_region 6 with fail
  rw [← HW7.out, ← HR.out]
  clear HW7 HR
  obtain ⟨px0, px1⟩ := id H7.out.q.x
  obtain ⟨pz0, pz1⟩ := id H7.out.z
  go_wp2_with fail
  refine (rdivide_some _ _ (-n) ((Int.gcd (-n) (-d) : Nat) : Int) m _ H7.out.ix H7.out.ig (by have := HN.out.1; omega) HA.out.2.2.2.1 (fit_gcd HA.out.2.2.1 HA.out.2.2.2.2.1) (gcd_ne HA.out.2.2.1)).mono ?_
  rw [HA.out.1]
  rintro e w8 ⟨v8, v8', rfl, ⟨b8, A8, c8, xs8, rfl, s8, l8⟩, ⟨b9, A9, c9, xs9, rfl, _, _⟩, hb8⟩
  have q8 := H7.out.step hb8 rfl rfl rfl rfl
  have o8 := q8.overx (sref_of s8 l8)
  obtain ⟨W8, hW8⟩ : ∃ W8 : World, W8 = (w8.setCell ⟨w.heap.size, 0, none⟩ (.bool b8)).setCell ⟨w.heap.size, 1, none⟩ (.slice A8 xs8.length c8) := ⟨_, rfl⟩
  rw [← hW8] at o8
  have H8 := Lib.hid o8
  have HW8 := Lib.hid hW8
  obtain ⟨pa0, pa1⟩ := id q8.q.x
  obtain ⟨fa0, fa1⟩ := id q8.q.fx
  clear px0 px1 pz0 pz1 o8 hW8 q8 s8 l8 hb8
  go_upto_region 7 with fail
  rw [← HW8.out]
  clear HW8 pa0 pa1 fa0 fa1
  obtain ⟨py0, py1⟩ := id H8.out.q.y
  obtain ⟨pz0, pz1⟩ := id H8.out.z
  go_wp2_with fail
  refine (rdivide_some _ _ (-d) ((Int.gcd (-n) (-d) : Nat) : Int) m _ H8.out.iy H8.out.ig (by have := HN.out.1; omega) HA.out.2.2.2.2.1 (fit_gcd HA.out.2.2.1 HA.out.2.2.2.2.1) (gcd_ne HA.out.2.2.1)).mono ?_
  rw [HA.out.2.1]
  rintro e w10 ⟨v10, v10', rfl, ⟨bd, Ad, cd, xd, rfl, sd, ld⟩, ⟨be, Ae, ce, xe, rfl, _, _⟩, hb10⟩
  have q10 := H8.out.step hb10 rfl rfl rfl rfl
  have o10 := q10.overy (sref_of sd ld)
  obtain ⟨W10, hW10⟩ : ∃ W10 : World, W10 = (w10.setCell ⟨w.heap.size + 1, 0, none⟩ (.bool bd)).setCell ⟨w.heap.size + 1, 1, none⟩ (.slice Ad xd.length cd) := ⟨_, rfl⟩
  rw [← hW10] at o10
  have H10 := Lib.hid o10
  have HW10 := Lib.hid hW10
  obtain ⟨pa0, pa1⟩ := id q10.q.y
  obtain ⟨fa0, fa1⟩ := id q10.q.fy
  clear py0 py1 pz0 pz1 o10 hW10 q10 sd ld hb10
  go_upto_region 8 with fail
  rw [← HW10.out]
  clear HW10 pa0 pa1 fa0 fa1
  obtain ⟨px0, px1⟩ := id H10.out.q.x
  obtain ⟨py0, py1⟩ := id H10.out.q.y
  obtain ⟨⟨k0, k1, k2, k3⟩, f0, f1, f2, f3⟩ := id H10.out.q.r
  go_wp2
  obtain ⟨q0, q1, q2, q3⟩ := Quad.put H10.out.q.r.1 (.bool b8) (.slice A8 xs8.length c8) (.bool bd) (.slice Ad xd.length cd)
  unfold put4 at q0 q1 q2 q3
  refine bodyPost_ret (v := .tuple #[.agg #[.bool b8, .slice A8 xs8.length c8, .bool bd, .slice Ad xd.length cd], .int .i64 0]) (by simp [results, Tryz.results17, go_sem, q0, q1, q2, q3]) rfl ?_
  obtain ⟨b8', A8', c8', xs8', e8, s8, l8⟩ := H10.out.ix
  obtain ⟨bd', Ad', cd', xd', ed, sd, ld⟩ := H10.out.iy
  simp only [Value.agg.injEq, Array.mk.injEq, List.cons.injEq, Value.bool.injEq, Value.slice.injEq, and_true] at e8 ed
  obtain ⟨rfl, rfl, e8l, rfl⟩ := e8
  obtain ⟨rfl, rfl, edl, rfl⟩ := ed
  rw [e8l, edl]
  exact sE_stored H10.out.q.r s8 l8 sd ld HA.out.2.2.2.2.2 H10.out.q.below (by omega)
end Go.Proofs.YtpgbnegppehckaaGreat
namespace Go.Proofs.YtpgbnegppehckaaGreat
open Go.RowKit
theorem fit_oneD {m : Nat} (h : 0 < m) : (1 : Int).natAbs < BD ^ m := Nat.lt_of_lt_of_le (show 1 < BD ^ 1 by decide) (Nat.pow_le_pow_right (by decide) h)
theorem SWhole_any (v : Value) (n d : Int) (m : Nat) (w : World) (h : SAt w v n d) (hm0 : 0 < m) (hm : m < 900000) (hd : d.natAbs < BD ^ m) : Calls Tryz.prog 23 #[v] w fun e w' => IsBool w w' (decide (d = 1)) e := by
  obtain ⟨b1, A1, c1, xs1, b2, A2, c2, xs2, rfl, s1, l1, s2, l2, lo⟩ := h
  have hb0 : Below w.heap.size w (w.alloc (.cells #[.bool b1, .slice A1 xs1.length c1, .bool b2, .slice A2 xs2.length c2] 43)) := (Below.refl _ _).alloc (Nat.le_refl _) _
  have hX := Quad.new w (.bool b1) (.slice A1 xs1.length c1) (.bool b2) (.slice A2 xs2.length c2) 43
  have hsz : (w.alloc (.cells #[.bool b1, .slice A1 xs1.length c1, .bool b2, .slice A2 xs2.length c2] 43)).heap.size = w.heap.size + 1 := by simp
  obtain ⟨W, hW⟩ : ∃ W : World, w.alloc (.cells #[.bool b1, .slice A1 xs1.length c1, .bool b2, .slice A2 xs2.length c2] 43) = W := ⟨_, rfl⟩
  rw [hW] at hb0 hX hsz
  have i2 := sref_of s2 (l2.step hb0 rfl)
  obtain ⟨cz, hcz⟩ : ∃ cz, cmpZ d 1 = cz := ⟨_, rfl⟩
  obtain ⟨b, hb⟩ : ∃ b, decide (d = 1) = b := ⟨_, rfl⟩
  have hc1 : (cz == 0) = b := by rw [← hcz, ← hb]; exact cmp_eq d 1
  have H := Lib.hid (And.intro hb0 (And.intro hX (And.intro hsz (And.intro i2 (And.intro hcz (And.intro hm0 (And.intro hm hd)))))))
  have HW := Lib.hid hW
  rw [hb]
  obtain ⟨p0, p1, p2, p3⟩ := id hX
  clear hb0 hX hsz hW i2 s1 l1 s2 l2 lo hcz hb hm0 hm hd
  go_enter Tryz.func23, Tryz.ntmps23
  go_upto_region 1 with fail
  rw [HW.out]
  clear HW
  go_region_held3 (fun w' => w'.cell? ⟨w.heap.size, 2, none⟩ = some (.bool b2) ∧ w'.cell? ⟨w.heap.size, 3, none⟩ = some (.slice A2 xs2.length c2))
    (((try dsimp only); (repeat' apply And.intro) <;> (first | (with_reducible assumption) | go_keep)))
    ((first
      | (go_at_call 84; go_fit (Sone_any _); rintro e w4 ⟨v4, rfl, hv4, hb4⟩; have x4 := H.out.2.1.step hb4 rfl (by have := H.out.2.2.1; omega); have j4 := H.out.2.2.2.1.step hb4 rfl; have bw4 := begun_then H.out.1 hb4 rfl rfl rfl rfl; obtain ⟨qx0, qx1, qx2, qx3⟩ := id x4; have zz4 : w.heap.size < w4.heap.size := (by have := hb4.size; have h9 := H.out.2.2.1; simp at this; omega); clear hb4)
      | (go_at_call 85; go_fit (RK.rcmp_is _ _ d 1 cz m _ j4 hv4 H.out.2.2.2.2.2.2.1 H.out.2.2.2.2.2.2.2 (fit_oneD H.out.2.2.2.2.2.1) H.out.2.2.2.2.1); rintro e w5 ⟨rfl, hb5⟩; have x5 := x4.step hb5 rfl zz4; have HB := Lib.hid (below_then bw4 hb5); obtain ⟨qy0, qy1, qy2, qy3⟩ := id x5; clear hb5 bw4 j4 hv4)))
  go_wp2
  go_ret
  exact ⟨rfl, HB.out⟩
theorem SNeg_any (v : Value) (n d : Int) (m : Nat) (w : World) (h : SAt w v n d) (hm : m ≤ 1000000) (hn : n.natAbs < BD ^ m) : Calls Tryz.prog 37 #[v] w fun e w' => IsS w w' (-n) d e := by
  obtain ⟨b1, A1, c1, xs1, b2, A2, c2, xs2, rfl, s1, l1, s2, l2, lo⟩ := h
  have hb0 := boxed2_below w (.cells #[.bool b1, .slice A1 xs1.length c1, .bool b2, .slice A2 xs2.length c2] 43) (.cells #[.bool false, .slice none 0 0, .bool false, .slice none 0 0] 43)
  have hX := (Quad.new w (.bool b1) (.slice A1 xs1.length c1) (.bool b2) (.slice A2 xs2.length c2) 43).alloc (by simp) (.cells #[.bool false, .slice none 0 0, .bool false, .slice none 0 0] 43)
  have hR := ResF.new (w.alloc (.cells #[.bool b1, .slice A1 xs1.length c1, .bool b2, .slice A2 xs2.length c2] 43)) 43
  rw [size_alloc] at hR
  have hsz : ((w.alloc (.cells #[.bool b1, .slice A1 xs1.length c1, .bool b2, .slice A2 xs2.length c2] 43)).alloc (.cells #[.bool false, .slice none 0 0, .bool false, .slice none 0 0] 43)).heap.size = w.heap.size + 2 := by simp
  obtain ⟨W, hW⟩ : ∃ W : World, (w.alloc (.cells #[.bool b1, .slice A1 xs1.length c1, .bool b2, .slice A2 xs2.length c2] 43)).alloc (.cells #[.bool false, .slice none 0 0, .bool false, .slice none 0 0] 43) = W := ⟨_, rfl⟩
  rw [hW] at hb0 hX hR hsz
  have j1 := sref_of s1 (l1.step hb0 rfl)
  have H := Lib.hid (And.intro hb0 (And.intro hR (And.intro hX (And.intro (l2.step hb0 rfl) (And.intro s2 (And.intro hsz (And.intro lo (And.intro (j1.step (Below.refl _ W.drew) rfl) (And.intro hn hm)))))))))
  have HW := Lib.hid hW
  obtain ⟨p0, p1, p2, p3⟩ := id hX
  clear hb0 hX hR hsz hW s1 l1 s2 l2 lo hn hm j1
  go_enter Tryz.func37, Tryz.ntmps37
  go_upto_region 1 with fail
  rw [HW.out]
  clear HW
  go_region_held3 (fun w' => (w'.cell? ⟨w.heap.size, 0, none⟩ = some (.bool b1) ∧ w'.cell? ⟨w.heap.size, 1, none⟩ = some (.slice A1 xs1.length c1)) ∧ (w'.cell? ⟨w.heap.size, 2, none⟩ = some (.bool b2) ∧ w'.cell? ⟨w.heap.size, 3, none⟩ = some (.slice A2 xs2.length c2)))
    (((try dsimp only); (repeat' apply And.intro) <;> (first | (with_reducible assumption) | (with_reducible refine cell_past4 ?_ ?_; omega; with_reducible assumption) | go_keep)))
    ((first
      | (go_at_call 81; go_fit (RNeg_any _ n m _ H.out.2.2.2.2.2.2.2.1 H.out.2.2.2.2.2.2.2.2.1 H.out.2.2.2.2.2.2.2.2.2); rintro e w4 ⟨v4, rfl, ⟨b4, A4, c4, xs4, rfl, s4, l4⟩, hb4⟩; have r4 := H.out.2.1.step hb4 rfl (by have := H.out.2.2.2.2.2.1; omega); have x4 := H.out.2.2.1.step hb4 rfl (by have := H.out.2.2.2.2.2.1; omega); have k4 := H.out.2.2.2.1.step hb4 rfl; have bw4 := begun_then H.out.1 hb4 rfl rfl rfl rfl; obtain ⟨qx0, qx1, qx2, qx3⟩ := id x4; obtain ⟨⟨k0, k1, k2, k3⟩, f0, f1, f2, f3⟩ := id r4; have HF := Lib.hid (And.intro r4 (And.intro k4 (And.intro bw4 (And.intro s4 l4)))); clear r4 x4 k4 bw4 s4 l4 hb4)))
  go_wp2
  obtain ⟨q0, q1, q2, q3⟩ := Quad.put HF.out.1.1 (.bool b4) (.slice A4 xs4.length c4) (.bool b2) (.slice A2 xs2.length c2)
  unfold put4 at q0 q1 q2 q3
  refine bodyPost_ret (v := .agg #[.bool b4, .slice A4 xs4.length c4, .bool b2, .slice A2 xs2.length c2]) (by simp [results, Tryz.results37, go_sem, q0, q1, q2, q3]) rfl ?_
  exact s_stored HF.out.1 HF.out.2.2.2.1 HF.out.2.2.2.2 H.out.2.2.2.2.1 HF.out.2.1 ⟨H.out.2.2.2.2.2.2.1.pos, by rw [Int.neg_gcd]; exact H.out.2.2.2.2.2.2.1.cop⟩ HF.out.2.2.1 (by omega)
end Go.Proofs.YtpgbnegppehckaaGreat
