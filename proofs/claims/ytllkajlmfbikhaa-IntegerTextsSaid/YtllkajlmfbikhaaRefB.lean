/- Joined texts: RTimes, RMul, RTwo. -/
import Derived.Test.YtllkajlmfbikhaaRefA
import Derived.Test.YtllkajlmfbikhaaBaseA
import Derived.Deep.QuietTactic
import Derived.BigQuiet
import Derived.IntWalk
import Derived.Test.YtllkajlmfbikhaaRSub
import Derived.Test.YtllkajlmfbikhaaBaseB
namespace Go.Proofs.Ytllkajlmfbikhaa
open Go.RowKit
set_option linter.unusedSimpArgs false

theorem made_zeroD (n : Nat) : (madeCells (Value.int .i64 0).cells (n * 1)).toList = cellsOf .i64 (List.replicate n 0) := by
  rw [show (Value.int .i64 0).cells = #[Value.int .i64 0] from rfl, toList_madeCells_one, Nat.mul_one]
  simp [cellsOf]
/-- The digits of a product, as far as the digit i of the first factor. -/
structure OuterD (xs ys zs : List Nat) (i : Nat) : Prop where
  len : zs.length = ys.length + xs.length + 1
  ok : Lm.Ok BD zs
  zero : ∀ k, i + xs.length ≤ k → zs.getD k 0 = 0
  num : Lm.val BD zs = Lm.val BD xs * Lm.val BD (ys.take i)
/-- Within the digit i, which is f: as far as the digit j of the second factor, with a carry c. -/
structure InnerD (xs ys zs : List Nat) (i f j c : Nat) : Prop where
  len : zs.length = ys.length + xs.length + 1
  ok : Lm.Ok BD zs
  zero : ∀ k, i + xs.length ≤ k → zs.getD k 0 = 0
  num : Lm.val BD zs + BD ^ (i + j) * c = Lm.val BD xs * Lm.val BD (ys.take i) + BD ^ i * (f * Lm.val BD (xs.take j))
  carry : c < 65536
theorem innerD_start {xs ys zs : List Nat} {i f : Nat} (h : OuterD xs ys zs i) : InnerD xs ys zs i f 0 0 :=
  ⟨h.len, h.ok, h.zero, by simp [Lm.val, h.num], by omega⟩
theorem dig_prod {x f : Nat} (hx : x < 65536) (hf : f < 65536) : x * f ≤ 4294836225 := by
  have h : x * f ≤ 65535 * 65535 := Nat.mul_le_mul (by omega) (by omega)
  simpa using h
theorem innerD_step {xs ys zs : List Nat} {i f j c d x t : Nat} (h : InnerD xs ys zs i f j c) (hj : j < xs.length) (hi : i < ys.length) (hd : zs.getD (i + j) 0 = d) (hdl : d < 65536)
    (hx : xs.getD j 0 = x) (hxl : x < 65536) (hfl : f < 65536) (ht : t = c + d + x * f) : InnerD xs ys (zs.set (i + j) (t % BD)) i f (j + 1) (t / BD) := by
  have hs := Lm.val_set BD zs (i + j) (t % BD) (by rw [h.len]; omega)
  rw [hd] at hs
  have hp := dig_prod hxl hfl
  have hc := h.carry
  refine ⟨by simpa using h.len, h.ok.set _ _ (Nat.mod_lt _ BD_pos), fun k hk => ?_, ?_, ?_⟩
  · exact (Lm.getD_set_ne _ _ _ _ (by omega)).trans (h.zero k hk)
  · rw [show i + (j + 1) = (i + j) + 1 from by omega, Nat.pow_succ, Lm.add_step BD (BD ^ (i + j)) (Lm.val BD zs) _ c d (x * f) t ht hs, Nat.mul_add, ← Nat.add_assoc, h.num,
      Lm.val_take_succ _ _ _ hj, hx, Nat.mul_add, Nat.mul_add, Nat.add_assoc]
    congr 2
    rw [Nat.pow_add, Nat.mul_assoc]
    congr 1
    rw [Nat.mul_left_comm f, Nat.mul_comm x f]
  · subst ht
    unfold BD
    omega
theorem innerD_end {xs ys zs : List Nat} {i f c : Nat} (h : InnerD xs ys zs i f xs.length c) (hi : i < ys.length) (hf : ys.getD i 0 = f) : OuterD xs ys (zs.set (i + xs.length) c) (i + 1) := by
  have hs := Lm.val_set BD zs (i + xs.length) c (by rw [h.len]; omega)
  rw [h.zero (i + xs.length) (Nat.le_refl _), Nat.mul_zero, Nat.add_zero] at hs
  refine ⟨by simpa using h.len, h.ok.set _ _ (by have := h.carry; unfold BD; exact this), fun k hk => ?_, ?_⟩
  · exact (Lm.getD_set_ne _ _ _ _ (by omega)).trans (h.zero k (by omega))
  · rw [hs, h.num, List.take_length, Lm.val_take_succ _ _ _ hi, hf, Nat.mul_add]
    congr 1
    rw [Nat.mul_left_comm (Lm.val BD xs), Nat.mul_comm f]
theorem digs_of_trim {w w' : World} {A : Option Addr} {c l : Nat} {xs : List Nat} {e : Ending} {n : Nat} (h : Trimmed A c xs e) (hn : Nums w' .i64 A xs) (ho : Lm.Ok BD xs) (hc : xs.length ≤ c) (hl : xs.length ≤ l) (hv : Lm.val BD xs = n) (hb : Below w.heap.size w w') : IsDigs w w' n l e := by
  obtain ⟨k, rfl, hk, hz, hp⟩ := h
  have hlen : (xs.take k).length = k := by rw [List.length_take]; omega
  exact ⟨A, c, xs.take k, by rw [hlen], ⟨by omega, hn.take k, ho.take k, top_take hk hp, by rw [Lm.val_cut k hk hz]; exact hv⟩, by omega, hb⟩
theorem digD_lt {xs : List Nat} (h : Lm.Ok BD xs) (j : Nat) : xs.getD j 0 < 65536 := h.getD BD_pos j

set_option maxRecDepth 100000 in
set_option maxHeartbeats 2000000 in
theorem times_any (A' : Option Addr) (c' : Nat) (ys : List Nat) (A : Option Addr) (c : Nat) (xs : List Nat) (w : World) (hx : Nums w .i64 A xs) (hy : Nums w .i64 A' ys)
    (ox : Lm.Ok BD xs) (oy : Lm.Ok BD ys) (hl : xs.length ≤ 400000) (hl' : ys.length ≤ 400000) :
    Calls Try.prog 92 #[.slice A' ys.length c', .slice A xs.length c] w fun e w' => IsDigs w w' (Lm.val BD xs * Lm.val BD ys) (ys.length + xs.length + 1) e := by
  obtain ⟨i0, hi0, hz0, hz1, hz2⟩ := info_parts Try.info3
  have HI := Lib.hid (And.intro hi0 (And.intro hz0 (And.intro hz1 hz2)))
  have HM := Lib.hid (show i0.bytes * (ys.length + xs.length + 1) ≤ 281474976710656 ∧ ys.length + xs.length + 1 ≤ maxLen from ⟨by rw [hz2]; omega, by unfold maxLen; omega⟩)
  clear hi0 hz0 hz1 hz2
  go_enter Try.func92, Try.ntmps92
  go_wp2_with (at_make; go_loud (refine wpList_make_full _ rfl _ _ 29 rfl w.heap.size 3 i0 (.int .i64 0) 1 Try.underlying29 HI.out.1 HI.out.2.1 HI.out.2.2.1 _ _ _ _ (ys.length + xs.length + 1) rfl rfl (by omega) (by omega) HM.out.1 HM.out.2 (Nat.le_refl _) ?_); intro w1 hown1 hg1; rw [made_zeroD] at hown1; have HB := Lib.hid (own_block hown1); have hb1 : Below w.heap.size w w1 := (Below.refl _ _).grown hg1 (Nat.le_refl _) (fun k hk => by cases hk); clear hown1)
  have hz0 : Seg w1 w.heap.size 0 .i64 3 _ (List.replicate (ys.length + xs.length + 1) 0) := seg_of_block HB.out
  have hx1 := hx.below hb1
  have hy1 := hy.below hb1
  have hoffx : 0 < xs.length → Off A w.heap.size := fun hn => off_below hx hn (Nat.le_refl _)
  have hoffy : 0 < ys.length → Off A' w.heap.size := fun hn => off_below hy hn (Nat.le_refl _)
  clear hx hy HB HI HM
  go_loopw [6] (fun iv wr => ∃ (i : Nat) (zs : List Nat), iv = .int .i64 i ∧ i ≤ ys.length ∧ OuterD xs ys zs i ∧ SegTo wr w.heap.size 0 .i64 3 (cellsOf .i64 (List.replicate (ys.length + xs.length + 1) 0)).toArray zs ∧ w1.grownBy wr (some w.heap.size)) (fun iv _ => ys.length - (intOf iv).toNat)
  case atStart =>
    exact ⟨0, _, rfl, Nat.zero_le _, ⟨by simp, Lm.Ok.zeros BD_pos _, fun k _ => by rw [List.getD_eq_getElem?_getD]; by_cases hk : k < ys.length + xs.length + 1 <;> simp [hk], by rw [Lm.val_zeros]; simp [Lm.val]⟩, .refl hz0, World.grownBy.refl _ _⟩
  case round =>
    obtain ⟨i, zs, rfl, hi, hout, hseg, hgr⟩ := hrel
    by_cases hiy : i < ys.length
    · have hfl := digD_lt oy i
      obtain ⟨f, hf⟩ : ∃ f, ys.getD i 0 = f := ⟨_, rfl⟩
      rw [hf] at hfl
      have HF := Lib.hid hf
      clear hf
      obtain ⟨wo, rfl⟩ : ∃ wo : World, wo = wr := ⟨_, rfl⟩
      have hin := innerD_start (f := f) hout
      clear hout
      go_wp2
      go_loopw [7, 8] (fun cv jv wr => ∃ (j q : Nat) (zs : List Nat), jv = .int .i64 j ∧ cv = .int .i64 q ∧ j ≤ xs.length ∧ InnerD xs ys zs i f j q ∧ SegTo wr w.heap.size 0 .i64 3 (cellsOf .i64 (List.replicate (ys.length + xs.length + 1) 0)).toArray zs ∧ w1.grownBy wr (some w.heap.size)) (fun _ jv _ => xs.length - (intOf jv).toNat)
      case atStart => exact ⟨0, 0, zs, rfl, rfl, Nat.zero_le _, hin, hseg, hgr⟩
      case round =>
        clear hin hseg hgr zs
        obtain ⟨j, q, zs, rfl, rfl, hj, hin, hseg, hgr⟩ := hrel
        obtain ⟨cur', hs1, hs2, hs3⟩ := id hseg
        have hql := hin.carry
        by_cases hjx : j < xs.length
        · have hxr := hx1.grown hgr hoffx
          have hyr := hy1.grown hgr hoffy
          obtain ⟨ax, rfl, _, hcell⟩ := hxr.at_ hjx
          have hcx := hcell j hjx
          obtain ⟨ay, rfl, _, hcelly⟩ := hyr.at_ hiy
          have hcy := hcelly i hiy
          rw [HF.out] at hcy
          have hxl := digD_lt ox j
          have hcz := hs1.cell (j := i + j) (by rw [hin.len]; omega)
          have hfz := hs1.frozen (0 + (i + j))
          have hdl := digD_lt hin.ok (i + j)
          obtain ⟨d, hd⟩ : ∃ d, zs.getD (i + j) 0 = d := ⟨_, rfl⟩
          obtain ⟨x, hxd⟩ : ∃ x, xs.getD j 0 = x := ⟨_, rfl⟩
          rw [hd] at hcz hdl
          rw [hxd] at hcx hxl
          simp only [Nat.zero_add] at hcz hfz
          have hpl := dig_prod hxl hfl
          obtain ⟨p, hp⟩ : ∃ p, x * f = p := ⟨_, rfl⟩
          rw [hp] at hpl
          have hp' : (f : Int) * (x : Int) = (p : Int) := by rw [← hp, Int.mul_comm, Int.natCast_mul]
          obtain ⟨s, hs⟩ : ∃ s, i + j = s := ⟨_, rfl⟩
          rw [hs] at hcz hfz
          have hsI : (i : Int) + (j : Int) = (s : Int) := by omega
          obtain ⟨t, ht⟩ : ∃ t, q + d + p = t := ⟨_, rfl⟩
          have htI : (d : Int) + (p : Int) + (q : Int) = (t : Int) := by omega
          have k1 : IntKind.i64.wrap (s : Int) = (s : Int) := IntWalk.i64_in _ (by omega)
          have k2 : IntKind.i64.wrap (p : Int) = (p : Int) := IntWalk.i64_in _ (by omega)
          have k3 : IntKind.i64.wrap ((d : Int) + (p : Int)) = (d : Int) + (p : Int) := IntWalk.i64_in _ (by omega)
          have k4 : IntKind.i64.wrap (t : Int) = (t : Int) := IntWalk.i64_in _ (by omega)
          have k5 : (s : Int) < (ys.length : Int) + (xs.length : Int) + 1 := by omega
          have k6 : (0 : Int) ≤ (s : Int) := Int.natCast_nonneg _
          have k7 : (t : Int) ≤ 4294967295 := by omega
          have k8 : (0 : Int) ≤ (t : Int) := Int.natCast_nonneg _
          have m1 : (i : Int) < (ys.length : Int) := by omega
          have m2 : (j : Int) < (xs.length : Int) := by omega
          have m3 : (0 : Int) ≤ (i : Int) := Int.natCast_nonneg _
          have m4 : (0 : Int) ≤ (j : Int) := Int.natCast_nonneg _
          have HD := Lib.hid (And.intro hd (And.intro hxd (And.intro hp (And.intro hs ht))))
          clear hd hxd hs1 hs2 hs3 hp hcell hcelly hs ht
          go_wp2_with fail
          go_quiet (fail)
          go_wp2
          go_roundw
          case rel =>
            refine ⟨j + 1, t / BD, zs.set (i + j) (t % BD), by go_num, ?_, by omega, innerD_step hin hjx hiy HD.out.1 hdl HD.out.2.1 hxl hfl (t := t) (by rw [← HD.out.2.2.2.2, HD.out.2.2.1]), ?_, ?_⟩
            · exact congrArg (Value.int IntKind.i64) (by unfold BD; omega)
            · have hst := (hseg.drewN nq).set0 (j := i + j) (by rw [hin.len]; omega) (t % BD)
              rw [HD.out.2.2.2.1] at hst ⊢
              rw [show ((t % BD : Nat) : Int) = (t : Int) % 65536 by unfold BD; omega] at hst
              exact hst
            · exact grown_trans (grown_drewN hgr nq) (grown_store _ _ _ _)
          case measure => simp [intOf]; omega
        · have hje : j = xs.length := by omega
          subst hje
          have hcz := hs1.cell (j := i + xs.length) (by rw [hin.len]; omega)
          have hfz := hs1.frozen (0 + (i + xs.length))
          rw [hin.zero _ (Nat.le_refl _)] at hcz
          simp only [Nat.zero_add] at hcz hfz
          clear hs1 hs2 hs3
          go_wp2
          go_roundw
          case rel =>
            refine ⟨i + 1, _, by go_num, by omega, innerD_end hin hiy HF.out, ?_, ?_⟩
            · exact hseg.set0 (j := i + xs.length) (by rw [hin.len]; omega) q
            · exact grown_trans hgr (grown_store _ _ _ _)
          case measure => simp [intOf]; omega
    · have hie : i = ys.length := by omega
      subst hie
      have hnum := hout.num
      rw [List.take_length] at hnum
      have htr := trimmed_any (some ⟨w.heap.size, 0, none⟩) (ys.length + xs.length + 1) zs wr (by obtain ⟨cur', hs1, _⟩ := hseg; exact hs1.nums) (by rw [hout.len]; omega) (by rw [hout.len]; exact Nat.le_refl _)
      rw [hout.len] at htr
      have HT := Lib.hid htr
      have HN := Lib.hid hnum
      clear htr hnum
      go_wp2_with fail
      refine HT.out.mono ?_
      rintro e w4 ⟨rfl, k, rfl, hk, hz, hp⟩
      have HP := Lib.hid (And.intro hk (And.intro hz hp))
      clear hk hz hp
      go_wp2
      go_ret
      exact digs_of_trim ⟨k, rfl, HP.out⟩ (by obtain ⟨cur', hs1, _⟩ := hseg; exact hs1.nums) hout.ok (by rw [hout.len]; exact Nat.le_refl _) (by rw [hout.len]; exact Nat.le_refl _) HN.out (hb1.trans (grown_below hgr (Nat.le_refl _) hb1.size))

set_option maxRecDepth 100000 in
set_option maxHeartbeats 2000000 in
theorem rmul_false_false (A1 : Option Addr) (c1 : Nat) (zs1 : List Nat) (A2 : Option Addr) (c2 : Nat) (zs2 : List Nat) (x y : Int) (w : World) (hs1 : SignOf false x) (hs2 : SignOf false y)
    (h1 : Digs w A1 c1 zs1 x.natAbs) (h2 : Digs w A2 c2 zs2 y.natAbs) (hl1 : zs1.length ≤ 400000) (hl2 : zs2.length ≤ 400000) :
    Calls Try.prog 43 #[.agg #[.bool false, .slice A1 zs1.length c1], .agg #[.bool false, .slice A2 zs2.length c2]] w fun e w' => IsRef w w' (x * y) e := by
  have hbb := begun2_below w (.bool false) (.slice A1 zs1.length c1) (.bool false) (.slice A2 zs2.length c2) 31
  have hx0 := begun2_x w (.bool false) (.slice A1 zs1.length c1) (.bool false) (.slice A2 zs2.length c2) 31
  have hy0 := begun2_y w (.bool false) (.slice A1 zs1.length c1) (.bool false) (.slice A2 zs2.length c2) 31
  have hr0 := begun2_r w (.bool false) (.slice A1 zs1.length c1) (.bool false) (.slice A2 zs2.length c2) 31
  have hsz := begun2_size w (.bool false) (.slice A1 zs1.length c1) (.bool false) (.slice A2 zs2.length c2) 31
  have hn1 := h1.2.1.below hbb
  have hn2 := h2.2.1.below hbb
  have H := Lib.hid (And.intro hbb (And.intro hx0 (And.intro hy0 (And.intro hr0 hsz))))
  clear hbb hx0 hy0 hr0 hsz
  go_enter Try.func43, Try.ntmps43
  go_wp2_with fail
  go_region_held3 (fun w' => w'.cell? ⟨w.heap.size, 0, none⟩ = some (.bool false) ∧ w'.cell? ⟨w.heap.size, 1, none⟩ = some (.slice A1 zs1.length c1) ∧ w'.cell? ⟨w.heap.size + 1, 0, none⟩ = some (.bool false) ∧ w'.cell? ⟨w.heap.size + 1, 1, none⟩ = some (.slice A2 zs2.length c2))
    (((try dsimp only); (repeat' apply And.intro) <;> (first | (with_reducible assumption) | go_keep)))
    ((first | (go_at_call 92; refine (times_any A1 c1 zs1 A2 c2 zs2 _ (by exact hn2) (by exact hn1) h2.2.2.1 h1.2.2.1 hl2 hl1).mono ?_; rintro e w1 ⟨A3, c3, zs3, rfl, hl3, hlen3, hb1⟩; have k1x := H.out.2.1.step hb1 rfl (by rw [H.out.2.2.2.2]; omega); have k1y := H.out.2.2.1.step hb1 rfl (by rw [H.out.2.2.2.2]; omega); have k1r := H.out.2.2.2.1.step hb1 rfl (by rw [H.out.2.2.2.2]; omega); obtain ⟨px0, px1⟩ := id k1x; obtain ⟨py0, py1⟩ := id k1y; have hle3 : zs3.length ≤ 1000000 := Nat.le_trans hlen3 (by omega); have hs1' : w.heap.size + 3 ≤ w1.heap.size := Nat.le_trans (Nat.le_of_eq H.out.2.2.2.2.symm) hb1.size) | (go_at_call 72; refine (made_to false A3 c3 zs3 (x * y) _ (by exact hl3.2.1) hl3.2.2.1 hle3 hl3.1 (by rw [hl3.2.2.2.2, h1.2.2.2.2, h2.2.2.2.2, Nat.mul_comm]; exact mul_parts hs1 hs2 rfl)).mono ?_; rintro e w2 ⟨v2, rfl, ⟨b4, A4, c4, zs4, rfl, hsg4, hl4⟩, hb2⟩; have k2x := k1x.step hb2 rfl (by omega); have k2y := k1y.step hb2 rfl (by omega); have k2r := k1r.step hb2 rfl (by omega); obtain ⟨hx0, hx1⟩ := id k2x; obtain ⟨hy0, hy1⟩ := id k2y; obtain ⟨⟨hr0, hr1⟩, hf0, hf1⟩ := id k2r; obtain ⟨qx0, qx1⟩ := k2x.far (r := w.heap.size + 1 + 1) (by omega) (.bool b4) (.slice A4 zs4.length c4); obtain ⟨qy0, qy1⟩ := k2y.far (r := w.heap.size + 1 + 1) (by omega) (.bool b4) (.slice A4 zs4.length c4))))
  go_wp2
  refine bodyPost_ret (v := .agg #[.bool b4, .slice A4 zs4.length c4]) (by simp [results, Try.results43, go_sem, hr0, hr1]) rfl ?_
  exact ref_stored k2r hsg4 hl4 (below_then (below_then H.out.1.drew hb1) hb2) (by omega)

set_option maxRecDepth 100000 in
set_option maxHeartbeats 2000000 in
theorem rmul_false_true (A1 : Option Addr) (c1 : Nat) (zs1 : List Nat) (A2 : Option Addr) (c2 : Nat) (zs2 : List Nat) (x y : Int) (w : World) (hs1 : SignOf false x) (hs2 : SignOf true y)
    (h1 : Digs w A1 c1 zs1 x.natAbs) (h2 : Digs w A2 c2 zs2 y.natAbs) (hl1 : zs1.length ≤ 400000) (hl2 : zs2.length ≤ 400000) :
    Calls Try.prog 43 #[.agg #[.bool false, .slice A1 zs1.length c1], .agg #[.bool true, .slice A2 zs2.length c2]] w fun e w' => IsRef w w' (x * y) e := by
  have hbb := begun2_below w (.bool false) (.slice A1 zs1.length c1) (.bool true) (.slice A2 zs2.length c2) 31
  have hx0 := begun2_x w (.bool false) (.slice A1 zs1.length c1) (.bool true) (.slice A2 zs2.length c2) 31
  have hy0 := begun2_y w (.bool false) (.slice A1 zs1.length c1) (.bool true) (.slice A2 zs2.length c2) 31
  have hr0 := begun2_r w (.bool false) (.slice A1 zs1.length c1) (.bool true) (.slice A2 zs2.length c2) 31
  have hsz := begun2_size w (.bool false) (.slice A1 zs1.length c1) (.bool true) (.slice A2 zs2.length c2) 31
  have hn1 := h1.2.1.below hbb
  have hn2 := h2.2.1.below hbb
  have H := Lib.hid (And.intro hbb (And.intro hx0 (And.intro hy0 (And.intro hr0 hsz))))
  clear hbb hx0 hy0 hr0 hsz
  go_enter Try.func43, Try.ntmps43
  go_wp2_with fail
  go_region_held3 (fun w' => w'.cell? ⟨w.heap.size, 0, none⟩ = some (.bool false) ∧ w'.cell? ⟨w.heap.size, 1, none⟩ = some (.slice A1 zs1.length c1) ∧ w'.cell? ⟨w.heap.size + 1, 0, none⟩ = some (.bool true) ∧ w'.cell? ⟨w.heap.size + 1, 1, none⟩ = some (.slice A2 zs2.length c2))
    (((try dsimp only); (repeat' apply And.intro) <;> (first | (with_reducible assumption) | go_keep)))
    ((first | (go_at_call 92; refine (times_any A1 c1 zs1 A2 c2 zs2 _ (by exact hn2) (by exact hn1) h2.2.2.1 h1.2.2.1 hl2 hl1).mono ?_; rintro e w1 ⟨A3, c3, zs3, rfl, hl3, hlen3, hb1⟩; have k1x := H.out.2.1.step hb1 rfl (by rw [H.out.2.2.2.2]; omega); have k1y := H.out.2.2.1.step hb1 rfl (by rw [H.out.2.2.2.2]; omega); have k1r := H.out.2.2.2.1.step hb1 rfl (by rw [H.out.2.2.2.2]; omega); obtain ⟨px0, px1⟩ := id k1x; obtain ⟨py0, py1⟩ := id k1y; have hle3 : zs3.length ≤ 1000000 := Nat.le_trans hlen3 (by omega); have hs1' : w.heap.size + 3 ≤ w1.heap.size := Nat.le_trans (Nat.le_of_eq H.out.2.2.2.2.symm) hb1.size) | (go_at_call 72; refine (made_to true A3 c3 zs3 (x * y) _ (by exact hl3.2.1) hl3.2.2.1 hle3 hl3.1 (by rw [hl3.2.2.2.2, h1.2.2.2.2, h2.2.2.2.2, Nat.mul_comm]; exact mul_parts hs1 hs2 rfl)).mono ?_; rintro e w2 ⟨v2, rfl, ⟨b4, A4, c4, zs4, rfl, hsg4, hl4⟩, hb2⟩; have k2x := k1x.step hb2 rfl (by omega); have k2y := k1y.step hb2 rfl (by omega); have k2r := k1r.step hb2 rfl (by omega); obtain ⟨hx0, hx1⟩ := id k2x; obtain ⟨hy0, hy1⟩ := id k2y; obtain ⟨⟨hr0, hr1⟩, hf0, hf1⟩ := id k2r; obtain ⟨qx0, qx1⟩ := k2x.far (r := w.heap.size + 1 + 1) (by omega) (.bool b4) (.slice A4 zs4.length c4); obtain ⟨qy0, qy1⟩ := k2y.far (r := w.heap.size + 1 + 1) (by omega) (.bool b4) (.slice A4 zs4.length c4))))
  go_wp2
  refine bodyPost_ret (v := .agg #[.bool b4, .slice A4 zs4.length c4]) (by simp [results, Try.results43, go_sem, hr0, hr1]) rfl ?_
  exact ref_stored k2r hsg4 hl4 (below_then (below_then H.out.1.drew hb1) hb2) (by omega)

set_option maxRecDepth 100000 in
set_option maxHeartbeats 2000000 in
theorem rmul_true_false (A1 : Option Addr) (c1 : Nat) (zs1 : List Nat) (A2 : Option Addr) (c2 : Nat) (zs2 : List Nat) (x y : Int) (w : World) (hs1 : SignOf true x) (hs2 : SignOf false y)
    (h1 : Digs w A1 c1 zs1 x.natAbs) (h2 : Digs w A2 c2 zs2 y.natAbs) (hl1 : zs1.length ≤ 400000) (hl2 : zs2.length ≤ 400000) :
    Calls Try.prog 43 #[.agg #[.bool true, .slice A1 zs1.length c1], .agg #[.bool false, .slice A2 zs2.length c2]] w fun e w' => IsRef w w' (x * y) e := by
  have hbb := begun2_below w (.bool true) (.slice A1 zs1.length c1) (.bool false) (.slice A2 zs2.length c2) 31
  have hx0 := begun2_x w (.bool true) (.slice A1 zs1.length c1) (.bool false) (.slice A2 zs2.length c2) 31
  have hy0 := begun2_y w (.bool true) (.slice A1 zs1.length c1) (.bool false) (.slice A2 zs2.length c2) 31
  have hr0 := begun2_r w (.bool true) (.slice A1 zs1.length c1) (.bool false) (.slice A2 zs2.length c2) 31
  have hsz := begun2_size w (.bool true) (.slice A1 zs1.length c1) (.bool false) (.slice A2 zs2.length c2) 31
  have hn1 := h1.2.1.below hbb
  have hn2 := h2.2.1.below hbb
  have H := Lib.hid (And.intro hbb (And.intro hx0 (And.intro hy0 (And.intro hr0 hsz))))
  clear hbb hx0 hy0 hr0 hsz
  go_enter Try.func43, Try.ntmps43
  go_wp2_with fail
  go_region_held3 (fun w' => w'.cell? ⟨w.heap.size, 0, none⟩ = some (.bool true) ∧ w'.cell? ⟨w.heap.size, 1, none⟩ = some (.slice A1 zs1.length c1) ∧ w'.cell? ⟨w.heap.size + 1, 0, none⟩ = some (.bool false) ∧ w'.cell? ⟨w.heap.size + 1, 1, none⟩ = some (.slice A2 zs2.length c2))
    (((try dsimp only); (repeat' apply And.intro) <;> (first | (with_reducible assumption) | go_keep)))
    ((first | (go_at_call 92; refine (times_any A1 c1 zs1 A2 c2 zs2 _ (by exact hn2) (by exact hn1) h2.2.2.1 h1.2.2.1 hl2 hl1).mono ?_; rintro e w1 ⟨A3, c3, zs3, rfl, hl3, hlen3, hb1⟩; have k1x := H.out.2.1.step hb1 rfl (by rw [H.out.2.2.2.2]; omega); have k1y := H.out.2.2.1.step hb1 rfl (by rw [H.out.2.2.2.2]; omega); have k1r := H.out.2.2.2.1.step hb1 rfl (by rw [H.out.2.2.2.2]; omega); obtain ⟨px0, px1⟩ := id k1x; obtain ⟨py0, py1⟩ := id k1y; have hle3 : zs3.length ≤ 1000000 := Nat.le_trans hlen3 (by omega); have hs1' : w.heap.size + 3 ≤ w1.heap.size := Nat.le_trans (Nat.le_of_eq H.out.2.2.2.2.symm) hb1.size) | (go_at_call 72; refine (made_to true A3 c3 zs3 (x * y) _ (by exact hl3.2.1) hl3.2.2.1 hle3 hl3.1 (by rw [hl3.2.2.2.2, h1.2.2.2.2, h2.2.2.2.2, Nat.mul_comm]; exact mul_parts hs1 hs2 rfl)).mono ?_; rintro e w2 ⟨v2, rfl, ⟨b4, A4, c4, zs4, rfl, hsg4, hl4⟩, hb2⟩; have k2x := k1x.step hb2 rfl (by omega); have k2y := k1y.step hb2 rfl (by omega); have k2r := k1r.step hb2 rfl (by omega); obtain ⟨hx0, hx1⟩ := id k2x; obtain ⟨hy0, hy1⟩ := id k2y; obtain ⟨⟨hr0, hr1⟩, hf0, hf1⟩ := id k2r; obtain ⟨qx0, qx1⟩ := k2x.far (r := w.heap.size + 1 + 1) (by omega) (.bool b4) (.slice A4 zs4.length c4); obtain ⟨qy0, qy1⟩ := k2y.far (r := w.heap.size + 1 + 1) (by omega) (.bool b4) (.slice A4 zs4.length c4))))
  go_wp2
  refine bodyPost_ret (v := .agg #[.bool b4, .slice A4 zs4.length c4]) (by simp [results, Try.results43, go_sem, hr0, hr1]) rfl ?_
  exact ref_stored k2r hsg4 hl4 (below_then (below_then H.out.1.drew hb1) hb2) (by omega)

set_option maxRecDepth 100000 in
set_option maxHeartbeats 2000000 in
theorem rmul_true_true (A1 : Option Addr) (c1 : Nat) (zs1 : List Nat) (A2 : Option Addr) (c2 : Nat) (zs2 : List Nat) (x y : Int) (w : World) (hs1 : SignOf true x) (hs2 : SignOf true y)
    (h1 : Digs w A1 c1 zs1 x.natAbs) (h2 : Digs w A2 c2 zs2 y.natAbs) (hl1 : zs1.length ≤ 400000) (hl2 : zs2.length ≤ 400000) :
    Calls Try.prog 43 #[.agg #[.bool true, .slice A1 zs1.length c1], .agg #[.bool true, .slice A2 zs2.length c2]] w fun e w' => IsRef w w' (x * y) e := by
  have hbb := begun2_below w (.bool true) (.slice A1 zs1.length c1) (.bool true) (.slice A2 zs2.length c2) 31
  have hx0 := begun2_x w (.bool true) (.slice A1 zs1.length c1) (.bool true) (.slice A2 zs2.length c2) 31
  have hy0 := begun2_y w (.bool true) (.slice A1 zs1.length c1) (.bool true) (.slice A2 zs2.length c2) 31
  have hr0 := begun2_r w (.bool true) (.slice A1 zs1.length c1) (.bool true) (.slice A2 zs2.length c2) 31
  have hsz := begun2_size w (.bool true) (.slice A1 zs1.length c1) (.bool true) (.slice A2 zs2.length c2) 31
  have hn1 := h1.2.1.below hbb
  have hn2 := h2.2.1.below hbb
  have H := Lib.hid (And.intro hbb (And.intro hx0 (And.intro hy0 (And.intro hr0 hsz))))
  clear hbb hx0 hy0 hr0 hsz
  go_enter Try.func43, Try.ntmps43
  go_wp2_with fail
  go_region_held3 (fun w' => w'.cell? ⟨w.heap.size, 0, none⟩ = some (.bool true) ∧ w'.cell? ⟨w.heap.size, 1, none⟩ = some (.slice A1 zs1.length c1) ∧ w'.cell? ⟨w.heap.size + 1, 0, none⟩ = some (.bool true) ∧ w'.cell? ⟨w.heap.size + 1, 1, none⟩ = some (.slice A2 zs2.length c2))
    (((try dsimp only); (repeat' apply And.intro) <;> (first | (with_reducible assumption) | go_keep)))
    ((first | (go_at_call 92; refine (times_any A1 c1 zs1 A2 c2 zs2 _ (by exact hn2) (by exact hn1) h2.2.2.1 h1.2.2.1 hl2 hl1).mono ?_; rintro e w1 ⟨A3, c3, zs3, rfl, hl3, hlen3, hb1⟩; have k1x := H.out.2.1.step hb1 rfl (by rw [H.out.2.2.2.2]; omega); have k1y := H.out.2.2.1.step hb1 rfl (by rw [H.out.2.2.2.2]; omega); have k1r := H.out.2.2.2.1.step hb1 rfl (by rw [H.out.2.2.2.2]; omega); obtain ⟨px0, px1⟩ := id k1x; obtain ⟨py0, py1⟩ := id k1y; have hle3 : zs3.length ≤ 1000000 := Nat.le_trans hlen3 (by omega); have hs1' : w.heap.size + 3 ≤ w1.heap.size := Nat.le_trans (Nat.le_of_eq H.out.2.2.2.2.symm) hb1.size) | (go_at_call 72; refine (made_to false A3 c3 zs3 (x * y) _ (by exact hl3.2.1) hl3.2.2.1 hle3 hl3.1 (by rw [hl3.2.2.2.2, h1.2.2.2.2, h2.2.2.2.2, Nat.mul_comm]; exact mul_parts hs1 hs2 rfl)).mono ?_; rintro e w2 ⟨v2, rfl, ⟨b4, A4, c4, zs4, rfl, hsg4, hl4⟩, hb2⟩; have k2x := k1x.step hb2 rfl (by omega); have k2y := k1y.step hb2 rfl (by omega); have k2r := k1r.step hb2 rfl (by omega); obtain ⟨hx0, hx1⟩ := id k2x; obtain ⟨hy0, hy1⟩ := id k2y; obtain ⟨⟨hr0, hr1⟩, hf0, hf1⟩ := id k2r; obtain ⟨qx0, qx1⟩ := k2x.far (r := w.heap.size + 1 + 1) (by omega) (.bool b4) (.slice A4 zs4.length c4); obtain ⟨qy0, qy1⟩ := k2y.far (r := w.heap.size + 1 + 1) (by omega) (.bool b4) (.slice A4 zs4.length c4))))
  go_wp2
  refine bodyPost_ret (v := .agg #[.bool b4, .slice A4 zs4.length c4]) (by simp [results, Try.results43, go_sem, hr0, hr1]) rfl ?_
  exact ref_stored k2r hsg4 hl4 (below_then (below_then H.out.1.drew hb1) hb2) (by omega)

theorem rmul_signs (b1 b2 : Bool) (A1 : Option Addr) (c1 : Nat) (zs1 : List Nat) (A2 : Option Addr) (c2 : Nat) (zs2 : List Nat) (x y : Int) (w : World) (hs1 : SignOf b1 x) (hs2 : SignOf b2 y)
    (h1 : Digs w A1 c1 zs1 x.natAbs) (h2 : Digs w A2 c2 zs2 y.natAbs) (hl1 : zs1.length ≤ 400000) (hl2 : zs2.length ≤ 400000) :
    Calls Try.prog 43 #[.agg #[.bool b1, .slice A1 zs1.length c1], .agg #[.bool b2, .slice A2 zs2.length c2]] w fun e w' => IsRef w w' (x * y) e := by
  cases b1 <;> cases b2
  · exact rmul_false_false A1 c1 zs1 A2 c2 zs2 x y w hs1 hs2 h1 h2 hl1 hl2
  · exact rmul_false_true A1 c1 zs1 A2 c2 zs2 x y w hs1 hs2 h1 h2 hl1 hl2
  · exact rmul_true_false A1 c1 zs1 A2 c2 zs2 x y w hs1 hs2 h1 h2 hl1 hl2
  · exact rmul_true_true A1 c1 zs1 A2 c2 zs2 x y w hs1 hs2 h1 h2 hl1 hl2

/-- x y, of any length. -/
theorem RMul_any (v1 v2 : Value) (x y : Int) (m k : Nat) (w : World) (h1 : RefAt w v1 x) (h2 : RefAt w v2 y) (hm : m ≤ 400000) (hx : x.natAbs < BD ^ m) (hk : k ≤ 400000) (hy : y.natAbs < BD ^ k) :
    Calls Try.prog 43 #[v1, v2] w fun e w' => IsRef w w' (x * y) e := by
  obtain ⟨b1, A1, c1, zs1, rfl, hs1, hl1⟩ := h1
  obtain ⟨b2, A2, c2, zs2, rfl, hs2, hl2⟩ := h2
  have k1 := Nat.le_trans (hl1.len hx) hm
  have k2 := Nat.le_trans (hl2.len hy) hk
  exact rmul_signs b1 b2 A1 c1 zs1 A2 c2 zs2 x y w hs1 hs2 hl1 hl2 k1 k2

/-- One digit alone, at the place q. -/
def alone (q v : Nat) : List Nat := (List.replicate (q + 1) 0).set q v
theorem alone_len (q v : Nat) : (alone q v).length = q + 1 := by unfold alone; simp
theorem alone_at (q v : Nat) : (alone q v).getD q 0 = v := by
  unfold alone
  rw [List.getD_eq_getElem?_getD, List.getElem?_set]
  simp
theorem alone_set (q u v : Nat) : (alone q u).set q v = alone q v := by unfold alone; rw [List.set_set]
theorem alone_val (q v : Nat) : Lm.val BD (alone q v) = BD ^ q * v := by
  have h := Lm.val_set BD (List.replicate (q + 1) 0) q v (by simp)
  rw [Lm.val_zeros] at h
  have e : (List.replicate (q + 1) 0).getD q 0 = 0 := by rw [List.getD_eq_getElem?_getD]; simp
  rw [e, Nat.mul_zero, Nat.add_zero, Nat.zero_add] at h
  exact h
theorem alone_ok {q v : Nat} (h : v < BD) : Lm.Ok BD (alone q v) := (Lm.Ok.zeros BD_pos _).set _ _ h
theorem two_parts (n : Nat) : BD ^ (n / 16) * 2 ^ (n % 16) = 2 ^ n := by
  rw [show BD = 2 ^ 16 from rfl, ← Nat.pow_mul, ← Nat.pow_add]
  congr 1
  omega

set_option maxRecDepth 100000 in
set_option maxHeartbeats 2000000 in
theorem Two_any (n : Nat) (w : World) (hn : n ≤ 6000000) : Calls Try.prog 98 #[.int .i64 (n : Int)] w fun e w' => IsRef w w' ((2 : Int) ^ n) e := by
  obtain ⟨i0, hi0, hz0, hz1, hz2⟩ := info_parts Try.info3
  have HI := Lib.hid (And.intro hi0 (And.intro hz0 (And.intro hz1 hz2)))
  obtain ⟨q, hq⟩ : ∃ q, n / 16 = q := ⟨_, rfl⟩
  obtain ⟨r, hr⟩ : ∃ r, n % 16 = r := ⟨_, rfl⟩
  have HM := Lib.hid (show i0.bytes * (q + 1) ≤ 281474976710656 ∧ q + 1 ≤ maxLen from ⟨by rw [hz2]; omega, by unfold maxLen; omega⟩)
  have h2 := two_parts n
  rw [hq, hr] at h2
  have hr0 := Res.new w 31
  have H := Lib.hid (And.intro h2 hr0)
  have i1 : (n : Int) / 16 = (q : Int) := by omega
  have i2 : (n : Int) % 16 = (r : Int) := by omega
  have i3 : r ≤ 15 := by omega
  have i4 : q ≤ 400000 := by omega
  clear hi0 hz0 hz1 hz2 hq hr h2 hr0
  go_enter Try.func98, Try.ntmps98
  go_upto_region 2 with (at_make; go_loud (refine wpList_make_full _ rfl _ _ 29 rfl (w.heap.size + 1) 3 i0 (.int .i64 0) 1 Try.underlying29 HI.out.1 HI.out.2.1 HI.out.2.2.1 _ _ _ _ (q + 1) rfl rfl (by omega) (by omega) HM.out.1 HM.out.2 (by simp) ?_); intro w1 hown1 hg1; rw [made_zeroD] at hown1)
  have hblk := own_block hown1
  rw [size_alloc] at hblk
  have hb1 : Below (w.alloc (.cells #[.bool false, .slice none 0 0] 31)).heap.size (w.alloc (.cells #[.bool false, .slice none 0 0] 31)) w1 := (Below.refl _ _).grown hg1 (Nat.le_refl _) (fun k hk => by cases hk)
  have hz0 : Seg w1 (w.heap.size + 1) 0 .i64 3 _ (List.replicate (q + 1) 0) := seg_of_block hblk
  have hsz1 : w.heap.size + 1 ≤ w1.heap.size := by have := hb1.size; rw [size_alloc] at this; exact this
  have hcz := hz0.cell (j := q) (by simp)
  have hfz := hz0.frozen (0 + q)
  simp only [Nat.zero_add] at hcz hfz
  have HS := Lib.hid (And.intro hz0 hb1)
  clear hown1 hg1 hblk hz0 hb1 HI HM
  go_wp2
  have hst : SegTo (w1.setCell ⟨w.heap.size + 1, q, none⟩ (.int .i64 ((1 : Nat) : Int))) (w.heap.size + 1) 0 .i64 3 (cellsOf .i64 (List.replicate (q + 1) 0)).toArray (alone q 1) := (SegTo.refl HS.out.1).set0 (j := q) (by simp) 1
  clear hcz hfz
  go_loopw [4] (fun iv wr => ∃ i : Nat, iv = .int .i64 i ∧ i ≤ r ∧ SegTo wr (w.heap.size + 1) 0 .i64 3 (cellsOf .i64 (List.replicate (q + 1) 0)).toArray (alone q (2 ^ i)) ∧ w1.grownBy wr (some (w.heap.size + 1))) (fun iv _ => r - (intOf iv).toNat)
  case atStart => exact ⟨0, rfl, Nat.zero_le _, hst, grown_store _ _ _ _⟩
  case round =>
    clear hst
    obtain ⟨i, rfl, hi, hseg, hgr⟩ := hrel
    obtain ⟨cur', hs1, hs2, hs3⟩ := id hseg
    by_cases hir : i < r
    · have hcz := hs1.cell (j := q) (by rw [alone_len]; omega)
      have hfz := hs1.frozen (0 + q)
      rw [alone_at] at hcz
      simp only [Nat.zero_add] at hcz hfz
      have hp15 : 2 ^ i ≤ 2 ^ 14 := Nat.pow_le_pow_right (by decide) (by omega)
      obtain ⟨p, hp⟩ : ∃ p, 2 ^ i = p := ⟨_, rfl⟩
      rw [hp] at hcz hp15
      have hp2 : (p : Int) ≤ 16384 := by omega
      have HP := Lib.hid (And.intro hp hseg)
      clear hp hp15 hs1 hs2 hs3 hseg
      go_wp2
      go_roundw
      case rel =>
        have h1 := HP.out.2.set0 (j := q) (by rw [alone_len]; omega) (p * 2)
        rw [alone_set] at h1
        refine ⟨i + 1, by go_num, by omega, ?_, grown_trans hgr (grown_store _ _ _ _)⟩
        rw [Nat.pow_succ, HP.out.1]
        exact h1
      case measure => simp [intOf]; omega
    · obtain rfl : i = r := by omega
      have hp15 : 2 ^ i ≤ 2 ^ 15 := Nat.pow_le_pow_right (by decide) (by omega)
      have hval : ofSign false (Lm.val BD (alone q (2 ^ i))) = (2 : Int) ^ n := by rw [alone_val, H.out.1]; unfold ofSign; simp
      have hm := made_to false (some ⟨w.heap.size + 1, 0, none⟩) (q + 1) (alone q (2 ^ i)) ((2 : Int) ^ n) wr hs1.nums (alone_ok (by unfold BD; omega)) (by rw [alone_len]; omega) (by rw [alone_len]; exact Nat.le_refl _) hval
      rw [alone_len] at hm
      have hbr := grown_below hgr (Nat.le_refl _) hsz1
      have hbw : Below (w.alloc (.cells #[.bool false, .slice none 0 0] 31)).heap.size (w.alloc (.cells #[.bool false, .slice none 0 0] 31)) wr := HS.out.2.trans (by rw [size_alloc]; exact hbr)
      have k1 := H.out.2.step hbw rfl (by simp)
      have hszr : w.heap.size + 1 ≤ wr.heap.size := Nat.le_trans hsz1 hbr.size
      have HE := Lib.hid (And.intro hm (And.intro k1 hbw))
      clear hm k1 hbw hs1 hs2 hs3 hseg hgr hp15 hval hbr
      go_wp2_with fail
      refine HE.out.1.mono ?_
      rintro e w2 ⟨v2, rfl, ⟨b4, A4, c4, zs4, rfl, hsg4, hl4⟩, hb2⟩
      have k2 := HE.out.2.1.step hb2 rfl (by omega)
      obtain ⟨⟨hr0, hr1⟩, hf0, hf1⟩ := id k2
      go_wp2
      refine bodyPost_ret (v := .agg #[.bool b4, .slice A4 zs4.length c4]) (by simp [results, Try.results98, go_sem, hr0, hr1]) rfl ?_
      exact ref_stored k2 hsg4 hl4 (below_then (below_then ((Below.refl _ _).alloc (Nat.le_refl _) _) HE.out.2.2) hb2) (Nat.le_refl _)
end Go.Proofs.Ytllkajlmfbikhaa
