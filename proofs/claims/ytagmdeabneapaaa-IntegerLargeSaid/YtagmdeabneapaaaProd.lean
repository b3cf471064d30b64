/- What rows of package integer does: the product, limb by limb. -/
import Derived.Test.YtagmdeabneapaaaSub
namespace Go.Proofs.Ytagmdeabneapaaa
open Go.RowKit

/-- The digits of a product, as far as the limb i of the second factor. -/
structure Outer (xs ys zs : List Nat) (i : Nat) : Prop where
  len : zs.length = xs.length + ys.length
  ok : Lm.Ok B32 zs
  zero : ∀ k, i + xs.length ≤ k → zs.getD k 0 = 0
  num : Lm.val B32 zs = Lm.val B32 xs * Lm.val B32 (ys.take i)

/-- Within the limb i, which is f: as far as the limb j of the first factor, with a carry c. -/
structure Inner (xs ys zs : List Nat) (i f j c : Nat) : Prop where
  len : zs.length = xs.length + ys.length
  ok : Lm.Ok B32 zs
  zero : ∀ k, i + xs.length ≤ k → zs.getD k 0 = 0
  num : Lm.val B32 zs + B32 ^ (i + j) * c = Lm.val B32 xs * Lm.val B32 (ys.take i) + B32 ^ i * (f * Lm.val B32 (xs.take j))
  carry : c < 4294967296

theorem inner_start {xs ys zs : List Nat} {i f : Nat} (h : Outer xs ys zs i) : Inner xs ys zs i f 0 0 :=
  ⟨h.len, h.ok, h.zero, by simp [Lm.val, h.num], by omega⟩

theorem limb_prod {x f : Nat} (hx : x < 4294967296) (hf : f < 4294967296) : x * f ≤ 18446744065119617025 := by
  have h : x * f ≤ 4294967295 * 4294967295 := Nat.mul_le_mul (by omega) (by omega)
  simpa using h

theorem inner_step {xs ys zs : List Nat} {i f j c d x t : Nat} (h : Inner xs ys zs i f j c) (hj : j < xs.length) (hi : i < ys.length) (hd : zs.getD (i + j) 0 = d) (hdl : d < 4294967296)
    (hx : xs.getD j 0 = x) (hxl : x < 4294967296) (hfl : f < 4294967296) (ht : t = c + d + x * f) : Inner xs ys (zs.set (i + j) (t % B32)) i f (j + 1) (t / B32) := by
  have hs := Lm.val_set B32 zs (i + j) (t % B32) (by rw [h.len]; omega)
  rw [hd] at hs
  have hp := limb_prod hxl hfl
  have hc := h.carry
  refine ⟨by simpa using h.len, h.ok.set _ _ (Nat.mod_lt _ B32_pos), fun k hk => ?_, ?_, ?_⟩
  · exact (Lm.getD_set_ne _ _ _ _ (by omega)).trans (h.zero k hk)
  · rw [show i + (j + 1) = (i + j) + 1 from by omega, Nat.pow_succ, Lm.add_step B32 (B32 ^ (i + j)) (Lm.val B32 zs) _ c d (x * f) t ht hs, Nat.mul_add, ← Nat.add_assoc, h.num,
      Lm.val_take_succ _ _ _ hj, hx, Nat.mul_add, Nat.mul_add, Nat.add_assoc]
    congr 2
    rw [Nat.pow_add, Nat.mul_assoc]
    congr 1
    rw [Nat.mul_left_comm f, Nat.mul_comm x f]
  · subst ht
    unfold B32
    omega

theorem inner_end {xs ys zs : List Nat} {i f c : Nat} (h : Inner xs ys zs i f xs.length c) (hi : i < ys.length) (hf : ys.getD i 0 = f) : Outer xs ys (zs.set (i + xs.length) c) (i + 1) := by
  have hs := Lm.val_set B32 zs (i + xs.length) c (by rw [h.len]; omega)
  rw [h.zero (i + xs.length) (Nat.le_refl _), Nat.mul_zero, Nat.add_zero] at hs
  refine ⟨by simpa using h.len, h.ok.set _ _ h.carry, fun k hk => ?_, ?_⟩
  · exact (Lm.getD_set_ne _ _ _ _ (by omega)).trans (h.zero k (by omega))
  · rw [hs, h.num, List.take_length, Lm.val_take_succ _ _ _ hi, hf, Nat.mul_add]
    congr 1
    rw [Nat.mul_left_comm (Lm.val B32 xs), Nat.mul_comm f]

set_option maxRecDepth 100000 in
set_option maxHeartbeats 2000000 in
theorem rows_any (A : Option Addr) (c : Nat) (xs : List Nat) (A' : Option Addr) (c' : Nat) (ys : List Nat) (w : World) (hx : Nums w .u32 A xs) (hy : Nums w .u32 A' ys)
    (ox : Lm.Ok B32 xs) (oy : Lm.Ok B32 ys) (hl : xs.length ≤ 400000) (hl' : ys.length ≤ 400000) :
    Calls Try.prog 124 #[.slice A xs.length c, .slice A' ys.length c'] w fun e w' => IsLims w w' (Lm.val B32 xs * Lm.val B32 ys) e := by
  obtain ⟨i0, hi0, hz0, hz1, hz2⟩ := info_parts Try.info99
  have HI := Lib.hid (And.intro hi0 (And.intro hz0 (And.intro hz1 hz2)))
  have HM := Lib.hid (show i0.bytes * (xs.length + ys.length) ≤ 281474976710656 ∧ xs.length + ys.length ≤ maxLen from ⟨by rw [hz2]; omega, by unfold maxLen; omega⟩)
  clear hi0 hz0 hz1 hz2
  go_enter Try.func124, Try.ntmps124
  go_wp2_with (at_make; go_loud (refine wpList_make_full _ rfl _ _ 22 rfl w.heap.size 99 i0 (.int .u32 0) 1 Try.underlying22 HI.out.1 HI.out.2.1 HI.out.2.2.1 _ _ _ _ (xs.length + ys.length) rfl rfl (by omega) (by omega) HM.out.1 HM.out.2 (Nat.le_refl _) ?_); intro w1 hown1 hg1; rw [made_zero] at hown1; have HB := Lib.hid (own_block hown1); have hb1 : Below w.heap.size w w1 := (Below.refl _ _).grown hg1 (Nat.le_refl _) (fun k hk => by cases hk); clear hown1)
  have hz0 : Seg w1 w.heap.size 0 .u32 99 _ (List.replicate (xs.length + ys.length) 0) := seg_of_block HB.out
  have hx1 := hx.below hb1
  have hy1 := hy.below hb1
  have hoffx : 0 < xs.length → Off A w.heap.size := fun hn => off_below hx hn (Nat.le_refl _)
  have hoffy : 0 < ys.length → Off A' w.heap.size := fun hn => off_below hy hn (Nat.le_refl _)
  clear hx hy HB HI HM
  go_loopw [19] (fun iv wr => ∃ (i : Nat) (zs : List Nat), iv = .int .i64 i ∧ i ≤ ys.length ∧ Outer xs ys zs i ∧ SegTo wr w.heap.size 0 .u32 99 (cellsOf .u32 (List.replicate (xs.length + ys.length) 0)).toArray zs ∧ w1.grownBy wr (some w.heap.size)) (fun iv _ => ys.length - (intOf iv).toNat)
  case atStart =>
    exact ⟨0, _, rfl, Nat.zero_le _, ⟨by simp, Lm.Ok.zeros B32_pos _, fun k _ => by rw [List.getD_eq_getElem?_getD]; by_cases hk : k < xs.length + ys.length <;> simp [hk], by rw [Lm.val_zeros]; simp [Lm.val]⟩, .refl hz0, World.grownBy.refl _ _⟩
  case round =>
    obtain ⟨i, zs, rfl, hi, hout, hseg, hgr⟩ := hrel
    by_cases hiy : i < ys.length
    · have hyr := hy1.grown hgr hoffy
      obtain ⟨ad, rfl, _, hcell⟩ := hyr.at_ hiy
      have hcy := hcell i hiy
      have hfl := limb_lt oy i
      obtain ⟨f, hf⟩ : ∃ f, ys.getD i 0 = f := ⟨_, rfl⟩
      rw [hf] at hcy hfl
      have HF := Lib.hid hf
      clear hcell hf
      obtain ⟨wo, rfl⟩ : ∃ wo : World, wo = wr := ⟨_, rfl⟩
      have hin := inner_start (f := f) hout
      clear hout
      go_wp2
      go_loopw [8, 26] (fun cv jv wr => ∃ (j q : Nat) (zs : List Nat), jv = .int .i64 j ∧ cv = .int .u64 q ∧ j ≤ xs.length ∧ Inner xs ys zs i f j q ∧ SegTo wr w.heap.size 0 .u32 99 (cellsOf .u32 (List.replicate (xs.length + ys.length) 0)).toArray zs ∧ w1.grownBy wr (some w.heap.size)) (fun _ jv _ => xs.length - (intOf jv).toNat)
      case atStart => exact ⟨0, 0, zs, rfl, rfl, Nat.zero_le _, hin, hseg, hgr⟩
      case round =>
        clear hin hseg hgr zs
        obtain ⟨j, q, zs, rfl, rfl, hj, hin, hseg, hgr⟩ := hrel
        obtain ⟨cur', hs1, hs2, hs3⟩ := id hseg
        have hql := hin.carry
        by_cases hjx : j < xs.length
        · have hxr := hx1.grown hgr hoffx
          obtain ⟨ax, rfl, _, hcell⟩ := hxr.at_ hjx
          have hcx := hcell j hjx
          have hxl := limb_lt ox j
          have hcz := hs1.cell (j := i + j) (by rw [hin.len]; omega)
          have hfz := hs1.frozen (0 + (i + j))
          have hdl := limb_lt hin.ok (i + j)
          obtain ⟨d, hd⟩ : ∃ d, zs.getD (i + j) 0 = d := ⟨_, rfl⟩
          obtain ⟨x, hxd⟩ : ∃ x, xs.getD j 0 = x := ⟨_, rfl⟩
          rw [hd] at hcz hdl
          rw [hxd] at hcx hxl
          simp only [Nat.zero_add] at hcz hfz
          have hpl := limb_prod hxl hfl
          obtain ⟨p, hp⟩ : ∃ p, x * f = p := ⟨_, rfl⟩
          rw [hp] at hpl
          have hp' : (x : Int) * (f : Int) = (p : Int) := by rw [← hp, Int.natCast_mul]
          have HD := Lib.hid (And.intro hd (And.intro hxd hp))
          clear hd hxd hs1 hs2 hs3 hp hcell
          go_wp2
          go_roundw
          case rel =>
            refine ⟨j + 1, _, _, by go_num, by rw [limb_div (q + d + p) _ (by omega)], by omega, inner_step hin hjx hiy HD.out.1 hdl HD.out.2.1 hxl hfl (t := q + d + p) (by rw [HD.out.2.2]), ?_, ?_⟩
            · rw [limb_mod (q + d + p) _ (by omega)]
              exact hseg.set0 (j := i + j) (by rw [hin.len]; omega) _
            · exact grown_trans hgr (grown_store _ _ _ _)
          case measure => simp [intOf]; omega
        · have hje : j = xs.length := by omega
          subst hje
          have hcz := hs1.cell (j := i + xs.length) (by rw [hin.len]; omega)
          have hfz := hs1.frozen (0 + (i + xs.length))
          simp only [Nat.zero_add] at hcz hfz
          clear hs1 hs2 hs3
          go_wp2
          go_roundw
          case rel =>
            refine ⟨i + 1, _, by go_num, by omega, inner_end hin hiy HF.out, ?_, ?_⟩
            · exact hseg.set0 (j := i + xs.length) (by rw [hin.len]; omega) q
            · exact grown_trans hgr (grown_store _ _ _ _)
          case measure => simp [intOf]; omega
    · have hie : i = ys.length := by omega
      subst hie
      have hnum := hout.num
      rw [List.take_length] at hnum
      have htr := trim_any (some ⟨w.heap.size, 0, none⟩) (xs.length + ys.length) zs wr (by obtain ⟨cur', hs1, _⟩ := hseg; exact hs1.nums) (by rw [hout.len]; omega) (by rw [hout.len]; exact Nat.le_refl _)
      rw [hout.len] at htr
      have HT := Lib.hid htr
      have HN := Lib.hid hnum
      clear htr hnum
      go_wp2_with fail
      refine HT.out.mono ?_
      rintro e w4 ⟨rfl, k, rfl, hk, hz, hp⟩
      have HP := Lib.hid (And.intro hk (And.intro hz hp))
      clear hk hz hp
      go_wp2
      go_ret
      exact lims_of_trim ⟨k, rfl, HP.out⟩ (by obtain ⟨cur', hs1, _⟩ := hseg; exact hs1.nums) hout.ok (by rw [hout.len]; exact Nat.le_refl _) HN.out (hb1.trans (grown_below hgr (Nat.le_refl _) hb1.size))
end Go.Proofs.Ytagmdeabneapaaa
