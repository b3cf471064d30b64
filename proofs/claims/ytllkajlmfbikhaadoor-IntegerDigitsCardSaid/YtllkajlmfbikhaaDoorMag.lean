/- What magnitude and complement of package integer do. -/
import Derived.Test.YtllkajlmfbikhaaDoorIsInt
namespace Go.Proofs.YtllkajlmfbikhaaDoor
open Go.RowKit

/-- The size of a number, or of its opposite. -/
def magOf (z : Int) : Nat := if z < 0 then z.natAbs - 1 else z.natAbs

set_option maxRecDepth 100000 in
set_option maxHeartbeats 1000000 in
theorem magnitude_ints (b : Bool) (A : Option Addr) (c : Nat) (zs : List Nat) (z : Int) (w : World) (hs : SignOf b z) (h : Limbs w A c zs z.natAbs) (hl : zs.length ≤ 900000) :
    Calls Tryd.prog 71 #[.agg #[.bool b, .slice A zs.length c]] w fun e w' => IsLims w w' (magOf z) e := by
  cases b
  · have hm : magOf z = z.natAbs := by have := sign_of_pos hs; unfold magOf; rw [if_neg (by omega)]
    have H := Lib.hid (And.intro hm (h.step ((Below.refl _ _).alloc (Nat.le_refl _) (.cells #[.bool false, .slice A zs.length c] 28)) rfl))
    clear hm
    go_enter Tryd.func71, Tryd.ntmps71
    go_wp2
    go_ret
    exact ⟨A, c, zs, rfl, by rw [H.out.1]; exact H.out.2, (Below.refl _ _).alloc (Nat.le_refl _) _⟩
  · have hneg := sign_of_neg hs
    have hm : magOf z = z.natAbs - 1 := by unfold magOf; rw [if_pos hneg]
    have hx0 := Two.new w (.bool true) (.slice A zs.length c) 28
    have hn0 := h.2.1.alloc (.cells #[.bool true, .slice A zs.length c] 28)
    have H := Lib.hid (And.intro hm (And.intro hx0 hn0))
    have h1 : 1 ≤ z.natAbs := by omega
    clear hm hx0 hn0 hneg
    go_enter Tryd.func71, Tryd.ntmps71
    go_wp2_with fail
    go_region_held3 (fun w' => w'.cell? ⟨w.heap.size, 0, none⟩ = some (.bool true) ∧ w'.cell? ⟨w.heap.size, 1, none⟩ = some (.slice A zs.length c))
      (((try dsimp only); (repeat' apply And.intro) <;> (first | (with_reducible assumption) | go_keep)))
      ((first | (go_at_call 40; refine (word_any 1 _ (by decide)).mono ?_; rintro e w1 ⟨A1, c1, zs1, rfl, hl1, hb1⟩; have k1 := H.out.2.1.step hb1 rfl (by simp); obtain ⟨px0, px1⟩ := id k1; have hz1 := h.step ((Below.refl _ _).alloc (Nat.le_refl _) (.cells #[.bool true, .slice A zs.length c] 28)) rfl; have hz2 := hz1.step hb1 rfl; have hsz : w.heap.size < w1.heap.size := by (have := hb1.size; simp at this; omega)) | (go_at_call 85; refine (difference_any A c zs A1 c1 zs1 _ (by exact hz2.2.1) (by exact hl1.2.1) hz2.2.2.1 hl1.2.2.1 hl (hz2.shorter hl1 h1) (by rw [hz2.2.2.2.2, hl1.2.2.2.2]; exact h1)).mono ?_; rintro e w2 ⟨A2, c2, zs2, rfl, hl2, hb2⟩; have k2 := k1.step hb2 rfl hsz; obtain ⟨qx0, qx1⟩ := id k2)))
    go_wp2
    go_ret
    refine ⟨A2, c2, zs2, rfl, ?_, below_then (begun_then ((Below.refl _ _).alloc (Nat.le_refl _) _) hb1 rfl rfl rfl rfl) hb2⟩
    rw [H.out.1, ← hz2.2.2.2.2]
    have := hl2
    rwa [hl1.2.2.2.2] at this

/-- The limbs xs, turned over by t, at the length n. -/
structure Turned (xs zs : List Nat) (t n i : Nat) : Prop where
  len : zs.length = n
  ok : Lm.Ok B32 zs
  done_ : ∀ j, j < i → zs.getD j 0 = xs.getD j 0 ^^^ t
  rest : ∀ j, i ≤ j → j < n → zs.getD j 0 = xs.getD j 0

theorem getD_set_eq (xs : List Nat) (p d : Nat) (h : p < xs.length) : (xs.set p d).getD p 0 = d := by
  rw [List.getD_eq_getElem?_getD, List.getElem?_set, if_pos rfl, if_pos h]; rfl

theorem turned_step {xs zs : List Nat} {t n i d : Nat} (h : Turned xs zs t n i) (hi : i < n) (hd : zs.getD i 0 = d) (ht : t < 4294967296) (hdl : d < 4294967296) : Turned xs (zs.set i (d ^^^ t)) t n (i + 1) := by
  refine ⟨by simpa using h.len, h.ok.set _ _ (xor_lt32 hdl ht), fun j hj => ?_, fun j h1 h2 => ?_⟩
  · by_cases e : j = i
    · subst e
      rw [getD_set_eq _ _ _ (by rw [h.len]; exact hi), ← hd, h.rest j (Nat.le_refl _) hi]
    · rw [Lm.getD_set_ne _ _ _ _ (by omega)]
      exact h.done_ j (by omega)
  · rw [Lm.getD_set_ne _ _ _ _ (by omega)]
    exact h.rest j (by omega) h2

def turnOf (b : Bool) : Nat := if b then 4294967295 else 0

/-- A new row of n limbs: those of the number z in two's complement. -/
def IsComp (w w' : World) (z : Int) (n : Nat) (e : Ending) : Prop :=
  ∃ g xs zs cur, e = .returned (.slice (some ⟨g, 0, none⟩) n n) ∧ w.heap.size ≤ g ∧ Lm.Ok B32 xs ∧ Lm.Top xs ∧ Lm.val B32 xs = magOf z ∧ Turned xs zs (turnOf (decide (z < 0))) n n ∧ Seg w' g 0 .u32 86 cur zs ∧ Below w.heap.size w w'

theorem copy_part (xs : List Nat) (n : Nat) : splice (cellsOf .u32 (List.replicate n 0)) 0 (cellsOf .u32 (xs.take n)) = cellsOf .u32 (xs.take n ++ List.replicate (n - xs.length) 0) := by
  unfold splice cellsOf
  simp
  by_cases h : n ≤ xs.length
  · rw [Nat.min_eq_left h]; simp; omega
  · rw [Nat.min_eq_right (by omega)]
theorem part_at (xs : List Nat) (n j : Nat) (hj : j < n) : (xs.take n ++ List.replicate (n - xs.length) 0).getD j 0 = xs.getD j 0 := by
  rw [List.getD_eq_getElem?_getD, List.getD_eq_getElem?_getD, List.getElem?_append]
  by_cases h : j < xs.length
  · rw [if_pos (by rw [List.length_take]; omega), List.getElem?_take, if_pos hj]
  · rw [if_neg (by rw [List.length_take]; omega), List.getElem?_replicate, if_pos (by rw [List.length_take]; omega), List.getElem?_eq_none (by omega)]
    rfl

set_option maxRecDepth 100000 in
set_option maxHeartbeats 1000000 in
theorem complement_false (A : Option Addr) (c : Nat) (zs : List Nat) (z : Int) (n : Nat) (w : World) (hs : SignOf false z) (h : Limbs w A c zs z.natAbs) (hl : zs.length ≤ 900000) (hn : n ≤ 900000) :
    Calls Tryd.prog 43 #[.agg #[.bool false, .slice A zs.length c], .int .i64 n] w fun e w' => IsComp w w' z n e := by
  have hturn : turnOf (decide (z < 0)) = 0 := by unfold SignOf at hs; rw [← hs]; rfl
  obtain ⟨i0, hi0, hz0, hz1, hz2⟩ := info_parts Tryd.info86
  have HI := Lib.hid (And.intro hi0 (And.intro hz0 (And.intro hz1 hz2)))
  have HM := Lib.hid (show i0.bytes * n ≤ 281474976710656 ∧ n ≤ maxLen from ⟨by rw [hz2]; omega, by unfold maxLen; omega⟩)
  clear hi0 hz0 hz1 hz2
  have HS := Lib.hid (show (Tryd.prog.info? 86).map (·.size) = some 1 from by kernel_rfl)
  have hx0 := Two.new w (.bool false) (.slice A zs.length c) 28
  have hb0 : Below w.heap.size w (w.alloc (.cells #[.bool false, .slice A zs.length c] 28)) := (Below.refl _ _).alloc (Nat.le_refl _) _
  have hlim0 := h.below hb0
  have H := Lib.hid (And.intro hx0 (And.intro hb0 (And.intro hlim0 hturn)))
  clear hx0 hb0 hlim0 hturn
  go_enter Tryd.func43, Tryd.ntmps43
  go_wp2_with (at_make; go_loud (refine wpList_make_full _ rfl _ _ 22 rfl (w.heap.size + 1) 86 i0 (.int .u32 0) 1 Tryd.underlying22 HI.out.1 HI.out.2.1 HI.out.2.2.1 _ _ _ _ n rfl rfl rfl rfl HM.out.1 HM.out.2 (by simp) ?_); intro w1 hown1 hg1; rw [made_zero] at hown1; have HB := Lib.hid (own_block hown1); clear hown1; have hb1 : Below (w.alloc (.cells #[.bool false, .slice A zs.length c] 28)).heap.size (w.alloc (.cells #[.bool false, .slice A zs.length c] 28)) w1 := (Below.refl _ _).grown hg1 (Nat.le_refl _) (fun k hk => by cases hk); have k1 := H.out.1.step hb1 rfl (by simp); obtain ⟨px0, px1⟩ := id k1)
  have hlim1 := H.out.2.2.1.below hb1
  have hgl : w.heap.size + 1 < w1.heap.size := (Array.getElem?_eq_some_iff.1 (by simpa using HB.out)).1
  refine (magnitude_ints false A c zs z w1 hs hlim1 hl).mono ?_
  rintro e w2 ⟨Am, cm, xs, rfl, hm, hb2⟩
  have HB2 := Lib.hid ((hb2.block (w.heap.size + 1) hgl).trans (by simpa using HB.out))
  have HN := Lib.hid (show (cellsOf .u32 (xs.take n)).length = Nat.min xs.length n ∧ 0 + (cellsOf .u32 (xs.take n)).length ≤ (cellsOf .u32 (List.replicate n 0)).length from ⟨by rw [cellsOf_length, List.length_take]; exact Nat.min_comm _ _, by simp [cellsOf_length]; omega⟩)
  have hsrc := hm.2.1.take n
  clear HB
  go_wp2_with (with_reducible refine wpList_copy_splice (o := ⟨some 15, _, _, _, _, _⟩) rfl (.tmp 12) (.tmp 14) 22 22 rfl 86 Tryd.underlying22 HS.out _ Am _ _ xs.length cm rfl rfl (w.heap.size + 1) 0 _ 86 HB2.out (cellsOf .u32 (xs.take n)) HN.out.1 (copy_src hsrc) HN.out.2 (cellsOf_one _ _) (w.heap.size + 1) w2 (Below.refl _ _) (Nat.le_refl _) ?_; intro w3 HB3 hb3)
  have hz0 : Seg w3 (w.heap.size + 1) 0 .u32 86 _ (xs.take n ++ List.replicate (n - xs.length) 0) := seg_of_block (by rw [← copy_part]; exact HB3.out)
  have hlen0 : (xs.take n ++ List.replicate (n - xs.length) 0).length = n := by simp; omega
  have ht0 : Turned xs (xs.take n ++ List.replicate (n - xs.length) 0) 0 n 0 := ⟨hlen0, (hm.2.2.1.take n).append (Lm.Ok.zeros B32_pos _), fun j hj => absurd hj (Nat.not_lt_zero _), fun j _ hj => part_at xs n j hj⟩
  have hb13 : Below (w.heap.size + 1) w1 w3 := (hb2.mono (Nat.le_of_lt hgl)).trans hb3
  have HK := Lib.hid (And.intro hm hlen0)
  clear HB2 HB3 HN HS HM HI hsrc hm hlen0
  go_wp2
  go_loopw [18] (fun iv wr => ∃ (i : Nat) (ys : List Nat), iv = .int .i64 i ∧ i ≤ n ∧ Turned xs ys 0 n i ∧ SegTo wr (w.heap.size + 1) 0 .u32 86 (cellsOf .u32 (xs.take n ++ List.replicate (n - xs.length) 0)).toArray ys ∧ w3.grownBy wr (some (w.heap.size + 1))) (fun iv _ => n - (intOf iv).toNat)
  case atStart => exact ⟨0, _, rfl, Nat.zero_le _, ht0, .refl hz0, World.grownBy.refl _ _⟩
  case round =>
    obtain ⟨i, ys, rfl, hi, hturn, hseg, hgr⟩ := hrel
    by_cases hlt : i < n
    · obtain ⟨cur', hs1, hs2, hs3⟩ := id hseg
      have hcz := hs1.cell (j := i) (by rw [hturn.len]; exact hlt)
      have hfz := hs1.frozen (0 + i)
      have hdl := limb_lt hturn.ok i
      obtain ⟨d, hd⟩ : ∃ d, ys.getD i 0 = d := ⟨_, rfl⟩
      rw [hd] at hcz hdl
      simp only [Nat.zero_add] at hcz hfz
      have hx : bits .xor .u32 (d : Int) (0 : Int) = ((d ^^^ 0 : Nat) : Int) := u32_xor_nat d 0 hdl (by decide)
      have HD := Lib.hid hd
      have HX := Lib.hid hx
      clear hx hd hs1 hs2 hs3
      go_wp2
      go_roundw
      case rel => exact ⟨i + 1, _, by go_num, by omega, turned_step hturn hlt HD.out (by decide) hdl, by rw [HX.out]; exact hseg.set0 (j := i) (by rw [hturn.len]; exact hlt) _, by rw [HX.out]; exact grown_trans hgr (grown_store _ _ _ _)⟩
      case measure => simp [intOf]; omega
    · have hie : i = n := by omega
      subst hie
      go_wp2
      go_ret
      obtain ⟨cur', hs1, _, _⟩ := hseg
      exact ⟨w.heap.size + 1, xs, ys, cur', rfl, by omega, HK.out.1.2.2.1, HK.out.1.2.2.2.1, HK.out.1.2.2.2.2, by rw [H.out.2.2.2]; exact hturn, hs1, (H.out.2.1.trans ((hb1.mono (by simp)).trans (hb13.mono (by omega)))).trans (grown_below hgr (by omega) (by have := hb13.size; omega))⟩

set_option maxRecDepth 100000 in
set_option maxHeartbeats 1000000 in
theorem complement_true (A : Option Addr) (c : Nat) (zs : List Nat) (z : Int) (n : Nat) (w : World) (hs : SignOf true z) (h : Limbs w A c zs z.natAbs) (hl : zs.length ≤ 900000) (hn : n ≤ 900000) :
    Calls Tryd.prog 43 #[.agg #[.bool true, .slice A zs.length c], .int .i64 n] w fun e w' => IsComp w w' z n e := by
  have hturn : turnOf (decide (z < 0)) = 4294967295 := by unfold SignOf at hs; rw [← hs]; rfl
  obtain ⟨i0, hi0, hz0, hz1, hz2⟩ := info_parts Tryd.info86
  have HI := Lib.hid (And.intro hi0 (And.intro hz0 (And.intro hz1 hz2)))
  have HM := Lib.hid (show i0.bytes * n ≤ 281474976710656 ∧ n ≤ maxLen from ⟨by rw [hz2]; omega, by unfold maxLen; omega⟩)
  clear hi0 hz0 hz1 hz2
  have HS := Lib.hid (show (Tryd.prog.info? 86).map (·.size) = some 1 from by kernel_rfl)
  have hx0 := Two.new w (.bool true) (.slice A zs.length c) 28
  have hb0 : Below w.heap.size w (w.alloc (.cells #[.bool true, .slice A zs.length c] 28)) := (Below.refl _ _).alloc (Nat.le_refl _) _
  have hlim0 := h.below hb0
  have H := Lib.hid (And.intro hx0 (And.intro hb0 (And.intro hlim0 hturn)))
  clear hx0 hb0 hlim0 hturn
  go_enter Tryd.func43, Tryd.ntmps43
  go_wp2_with (at_make; go_loud (refine wpList_make_full _ rfl _ _ 22 rfl (w.heap.size + 1) 86 i0 (.int .u32 0) 1 Tryd.underlying22 HI.out.1 HI.out.2.1 HI.out.2.2.1 _ _ _ _ n rfl rfl rfl rfl HM.out.1 HM.out.2 (by simp) ?_); intro w1 hown1 hg1; rw [made_zero] at hown1; have HB := Lib.hid (own_block hown1); clear hown1; have hb1 : Below (w.alloc (.cells #[.bool true, .slice A zs.length c] 28)).heap.size (w.alloc (.cells #[.bool true, .slice A zs.length c] 28)) w1 := (Below.refl _ _).grown hg1 (Nat.le_refl _) (fun k hk => by cases hk); have k1 := H.out.1.step hb1 rfl (by simp); obtain ⟨px0, px1⟩ := id k1)
  have hlim1 := H.out.2.2.1.below hb1
  have hgl : w.heap.size + 1 < w1.heap.size := (Array.getElem?_eq_some_iff.1 (by simpa using HB.out)).1
  refine (magnitude_ints true A c zs z w1 hs hlim1 hl).mono ?_
  rintro e w2 ⟨Am, cm, xs, rfl, hm, hb2⟩
  have HB2 := Lib.hid ((hb2.block (w.heap.size + 1) hgl).trans (by simpa using HB.out))
  have HN := Lib.hid (show (cellsOf .u32 (xs.take n)).length = Nat.min xs.length n ∧ 0 + (cellsOf .u32 (xs.take n)).length ≤ (cellsOf .u32 (List.replicate n 0)).length from ⟨by rw [cellsOf_length, List.length_take]; exact Nat.min_comm _ _, by simp [cellsOf_length]; omega⟩)
  have hsrc := hm.2.1.take n
  clear HB
  go_wp2_with (with_reducible refine wpList_copy_splice (o := ⟨some 15, _, _, _, _, _⟩) rfl (.tmp 12) (.tmp 14) 22 22 rfl 86 Tryd.underlying22 HS.out _ Am _ _ xs.length cm rfl rfl (w.heap.size + 1) 0 _ 86 HB2.out (cellsOf .u32 (xs.take n)) HN.out.1 (copy_src hsrc) HN.out.2 (cellsOf_one _ _) (w.heap.size + 1) w2 (Below.refl _ _) (Nat.le_refl _) ?_; intro w3 HB3 hb3)
  have hz0 : Seg w3 (w.heap.size + 1) 0 .u32 86 _ (xs.take n ++ List.replicate (n - xs.length) 0) := seg_of_block (by rw [← copy_part]; exact HB3.out)
  have hlen0 : (xs.take n ++ List.replicate (n - xs.length) 0).length = n := by simp; omega
  have ht0 : Turned xs (xs.take n ++ List.replicate (n - xs.length) 0) 4294967295 n 0 := ⟨hlen0, (hm.2.2.1.take n).append (Lm.Ok.zeros B32_pos _), fun j hj => absurd hj (Nat.not_lt_zero _), fun j _ hj => part_at xs n j hj⟩
  have hb13 : Below (w.heap.size + 1) w1 w3 := (hb2.mono (Nat.le_of_lt hgl)).trans hb3
  have HK := Lib.hid (And.intro hm hlen0)
  clear HB2 HB3 HN HS HM HI hsrc hm hlen0
  go_wp2
  go_loopw [18] (fun iv wr => ∃ (i : Nat) (ys : List Nat), iv = .int .i64 i ∧ i ≤ n ∧ Turned xs ys 4294967295 n i ∧ SegTo wr (w.heap.size + 1) 0 .u32 86 (cellsOf .u32 (xs.take n ++ List.replicate (n - xs.length) 0)).toArray ys ∧ w3.grownBy wr (some (w.heap.size + 1))) (fun iv _ => n - (intOf iv).toNat)
  case atStart => exact ⟨0, _, rfl, Nat.zero_le _, ht0, .refl hz0, World.grownBy.refl _ _⟩
  case round =>
    obtain ⟨i, ys, rfl, hi, hturn, hseg, hgr⟩ := hrel
    by_cases hlt : i < n
    · obtain ⟨cur', hs1, hs2, hs3⟩ := id hseg
      have hcz := hs1.cell (j := i) (by rw [hturn.len]; exact hlt)
      have hfz := hs1.frozen (0 + i)
      have hdl := limb_lt hturn.ok i
      obtain ⟨d, hd⟩ : ∃ d, ys.getD i 0 = d := ⟨_, rfl⟩
      rw [hd] at hcz hdl
      simp only [Nat.zero_add] at hcz hfz
      have hx : bits .xor .u32 (d : Int) (4294967295 : Int) = ((d ^^^ 4294967295 : Nat) : Int) := u32_xor_nat d 4294967295 hdl (by decide)
      have HD := Lib.hid hd
      have HX := Lib.hid hx
      clear hx hd hs1 hs2 hs3
      go_wp2
      go_roundw
      case rel => exact ⟨i + 1, _, by go_num, by omega, turned_step hturn hlt HD.out (by decide) hdl, by rw [HX.out]; exact hseg.set0 (j := i) (by rw [hturn.len]; exact hlt) _, by rw [HX.out]; exact grown_trans hgr (grown_store _ _ _ _)⟩
      case measure => simp [intOf]; omega
    · have hie : i = n := by omega
      subst hie
      go_wp2
      go_ret
      obtain ⟨cur', hs1, _, _⟩ := hseg
      exact ⟨w.heap.size + 1, xs, ys, cur', rfl, by omega, HK.out.1.2.2.1, HK.out.1.2.2.2.1, HK.out.1.2.2.2.2, by rw [H.out.2.2.2]; exact hturn, hs1, (H.out.2.1.trans ((hb1.mono (by simp)).trans (hb13.mono (by omega)))).trans (grown_below hgr (by omega) (by have := hb13.size; omega))⟩

end Go.Proofs.YtllkajlmfbikhaaDoor
