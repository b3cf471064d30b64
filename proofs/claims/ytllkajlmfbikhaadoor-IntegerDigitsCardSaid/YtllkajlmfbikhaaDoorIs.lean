/- What slices.Equal at uint32, Limbs of the reference and the law's Is do. -/
import Derived.Test.YtllkajlmfbikhaaDoorRefA
namespace Go.Proofs.YtllkajlmfbikhaaDoor
open Go.RowKit

def IsEq (w w' : World) (b : Bool) (e : Ending) : Prop := Drew w w' ∧ e = .returned (.bool b)
/-- As far as i both are equal. -/
def SameTo (xs ys : List Nat) (i : Nat) : Prop := xs.take i = ys.take i
theorem same_up {xs ys : List Nat} {i : Nat} (hl : xs.length = ys.length) (hi : i < xs.length) (h : SameTo xs ys i) (he : xs.getD i 0 = ys.getD i 0) : SameTo xs ys (i + 1) := by
  unfold SameTo at *
  rw [List.take_succ_eq_append_getElem hi, List.take_succ_eq_append_getElem (by omega), h]
  rw [List.getD_eq_getElem?_getD, List.getElem?_eq_getElem hi, List.getD_eq_getElem?_getD, List.getElem?_eq_getElem (by omega)] at he
  simp at he
  rw [he]
theorem same_all {xs ys : List Nat} (hl : xs.length = ys.length) (h : SameTo xs ys xs.length) : decide (xs = ys) = true := by
  unfold SameTo at h
  rw [List.take_length, hl, List.take_length] at h
  exact decide_eq_true h
theorem same_not {xs ys : List Nat} {i : Nat} (he : xs.getD i 0 ≠ ys.getD i 0) : decide (xs = ys) = false := decide_eq_false (fun h => he (by rw [h]))

set_option maxRecDepth 100000 in
set_option maxHeartbeats 1000000 in
theorem equal_any (A : Option Addr) (c : Nat) (xs : List Nat) (A' : Option Addr) (c' : Nat) (ys : List Nat) (w : World) (hx : Nums w .u32 A xs) (hy : Nums w .u32 A' ys) (hl : xs.length ≤ 1000000) :
    Calls Tryd.prog 46 #[.slice A xs.length c, .slice A' ys.length c'] w fun e w' => IsEq w w' (decide (xs = ys)) e := by
  by_cases hln : xs.length = ys.length
  · have HL := Lib.hid hln
    rw [← hln]
    clear hln
    go_enter Tryd.func46, Tryd.ntmps46
    go_wp2
    go_loopw [13] (fun iv wr => ∃ i n : Nat, iv = .int .i64 i ∧ i ≤ xs.length ∧ SameTo xs ys i ∧ wr = w.drewN n) (fun iv _ => xs.length - (intOf iv).toNat)
    case atStart => exact ⟨0, 0, rfl, Nat.zero_le _, by simp [SameTo], rfl⟩
    case round =>
      obtain ⟨i, n, rfl, hi, hs, rfl⟩ := hrel
      by_cases hlt : i < xs.length
      · obtain ⟨ad, rfl, _, hcx⟩ := hx.at_ hlt
        obtain ⟨ad', rfl, _, hcy⟩ := hy.at_ (j := i) (by rw [← HL.out]; exact hlt)
        have hdx := hcx i hlt
        have hdy := hcy i (by rw [← HL.out]; exact hlt)
        clear hcx hcy
        obtain ⟨d, hd⟩ : ∃ d, xs.getD i 0 = d := ⟨_, rfl⟩
        obtain ⟨y, hyd⟩ : ∃ y, ys.getD i 0 = y := ⟨_, rfl⟩
        rw [hd] at hdx
        rw [hyd] at hdy
        have HD := Lib.hid hd
        have HY := Lib.hid hyd
        have HS := Lib.hid hs
        clear hd hyd hs
        by_cases he : d = y
        · subst he
          go_wp2
          go_quiet (fail)
          go_wp2
          go_roundw
          case rel => exact ⟨i + 1, _, by go_num, by omega, same_up HL.out hlt HS.out (by rw [HD.out, HY.out]), rfl⟩
          case measure => simp [intOf]; omega
        · have hne : ((d : Int) != (y : Int)) = true := by rw [bne_iff_ne]; omega
          go_wp2
          go_quiet (fail)
          go_wp2
          go_ret
          exact ⟨(Drew.mk _ _).more _, by rw [same_not (i := i) (by rw [HD.out, HY.out]; exact he)]; rfl⟩
      · have hie : i = xs.length := by omega
        subst hie
        have HS := Lib.hid hs
        clear hs
        go_wp2
        go_ret
        exact ⟨.mk _ _, by rw [same_all HL.out HS.out]; rfl⟩
  · have hne : ((xs.length : Int) != (ys.length : Int)) = true := by rw [bne_iff_ne]; omega
    have HN := Lib.hid (show decide (xs = ys) = false from decide_eq_false (fun h => hln (by rw [h])))
    clear hln
    go_enter Tryd.func46, Tryd.ntmps46
    go_wp2
    go_ret
    exact ⟨.refl _, by rw [HN.out]; rfl⟩

/-- Two digits a limb: the limbs that the digits as far as 2 k make. -/
def Paired (ds zs : List Nat) (k : Nat) : Prop := zs.length = k ∧ Lm.Ok B32 zs ∧ Lm.val B32 zs = Lm.val BD (ds.take (2 * k))

theorem pair_pow (k : Nat) : B32 ^ k = BD ^ (2 * k) := by
  rw [show B32 = BD ^ 2 from by decide, ← Nat.pow_mul]
theorem paired_two {ds zs : List Nat} {k a b : Nat} (h : Paired ds zs k) (hk : 2 * k + 1 < ds.length) (ha : ds.getD (2 * k) 0 = a) (hb : ds.getD (2 * k + 1) 0 = b) (hal : a < 65536) (hbl : b < 65536) : Paired ds (zs ++ [a + b * 65536]) (k + 1) := by
  obtain ⟨h1, h2, h3⟩ := h
  refine ⟨by simp [h1], h2.append (.cons (by unfold B32; omega) (.nil _)), ?_⟩
  rw [Lm.val_snoc, h3, h1, show 2 * (k + 1) = (2 * k + 1) + 1 from by omega, Lm.val_take_succ _ _ _ hk, Lm.val_take_succ _ _ _ (by omega), ha, hb, pair_pow, Nat.pow_succ, Nat.mul_add, Nat.add_assoc]
  congr 2
  rw [Nat.mul_assoc, show BD = 65536 from rfl, Nat.mul_comm b]
theorem paired_one {ds zs : List Nat} {k a : Nat} (h : Paired ds zs k) (hk : 2 * k + 1 = ds.length) (ha : ds.getD (2 * k) 0 = a) (hal : a < 65536) : Paired ds (zs ++ [a]) (k + 1) := by
  obtain ⟨h1, h2, h3⟩ := h
  refine ⟨by simp [h1], h2.append (.cons (by unfold B32; omega) (.nil _)), ?_⟩
  rw [Lm.val_snoc, h3, h1, List.take_of_length_le (by omega : ds.length ≤ 2 * (k + 1)), pair_pow]
  have := Lm.val_take_succ BD ds (2 * k) (by omega)
  rw [ha, List.take_of_length_le (by omega)] at this
  exact this.symm
theorem top_of_val {b : Nat} {zs : List Nat} (ho : Lm.Ok b zs) (hl : 0 < zs.length) (h : b ^ (zs.length - 1) ≤ Lm.val b zs) : Lm.Top zs := by
  refine Lm.top_of_last (fun e => ?_)
  have h1 := Lm.val_split b zs (zs.length - 1) (Nat.sub_le _ _)
  rw [Lm.drop_last_one hl, e] at h1
  have h2 := Lm.val_lt (ho.take (zs.length - 1))
  rw [List.length_take, Nat.min_eq_left (Nat.sub_le _ _)] at h2
  simp [Lm.val] at h1
  omega
theorem paired_end {w : World} {A : Option Addr} {c n k : Nat} {ds zs : List Nat} (hd : Digs w A c ds n) (h : Paired ds zs k) (h1 : ds.length ≤ 2 * k) (h2 : 2 * k ≤ ds.length + 1) : Lm.val B32 zs = n ∧ Lm.Top zs := by
  obtain ⟨e1, e2, e3⟩ := h
  rw [List.take_of_length_le h1, hd.2.2.2.2] at e3
  refine ⟨e3, ?_⟩
  rcases Nat.eq_zero_or_pos k with rfl | hk
  · have : zs = [] := List.eq_nil_of_length_eq_zero e1
    rw [this]
    exact Lm.Top.nil
  · refine top_of_val e2 (by omega) ?_
    rw [e3, e1, pair_pow, ← hd.2.2.2.2]
    exact Nat.le_trans (Nat.pow_le_pow_right BD_pos (by omega)) (Lm.val_ge (by omega) hd.2.2.2.1)

def IsRefLimbs (w w' : World) (n : Nat) (e : Ending) : Prop := ∃ A c zs, e = .returned (.slice A zs.length c) ∧ Limbs w' A c zs n ∧ Below w.heap.size w w'

theorem digit_lt {xs : List Nat} (h : Lm.Ok BD xs) (j : Nat) : xs.getD j 0 < 65536 := h.getD BD_pos j

set_option maxRecDepth 100000 in
set_option maxHeartbeats 1000000 in
theorem RLimbs_any (b : Bool) (A : Option Addr) (c : Nat) (ds : List Nat) (n : Nat) (w : World) (h : Digs w A c ds n) (hl : ds.length ≤ 1000000) :
    Calls Tryd.prog 47 #[.agg #[.bool b, .slice A ds.length c]] w fun e w' => IsRefLimbs w w' n e := by
  obtain ⟨i0, hi0, hz0, hz1, hz2⟩ := info_parts Tryd.info86
  have HI := Lib.hid (And.intro hi0 (And.intro hz0 (And.intro hz1 hz2)))
  have hx0 := Two.new w (.bool b) (.slice A ds.length c) 53
  have hn0 := h.2.1.alloc (.cells #[.bool b, .slice A ds.length c] 53)
  clear hi0 hz0 hz1 hz2
  have H := Lib.hid hx0
  clear hx0
  go_enter Tryd.func47, Tryd.ntmps47
  go_wp2
  go_loopw [3, 4] (fun ov iv wr => ∃ (k : Nat) (zs : List Nat), iv = .int .i64 ((2 * k : Nat) : Int) ∧ wr.ownsRow (w.heap.size + 1) 86 1 ov zs.length (cellsOf .u32 zs) ∧ Paired ds zs k ∧ 2 * k ≤ ds.length + 1 ∧ Below (w.heap.size + 1) (w.alloc (.cells #[.bool b, .slice A ds.length c] 53)) wr) (fun _ iv _ => ds.length + 1 - (intOf iv).toNat)
  case atStart => exact ⟨0, [], rfl, World.ownsRow_nil _ _ _ _, ⟨rfl, .nil _, by simp [Lm.val]⟩, Nat.zero_le _, Below.refl _ _⟩
  case round =>
    obtain ⟨k, zs, rfl, hown, hpair, hk, hbel⟩ := hrel
    obtain ⟨A1, c1, rfl, hle⟩ := own_form hown
    have hbel' : Below (w.alloc (.cells #[.bool b, .slice A ds.length c] 53)).heap.size (w.alloc (.cells #[.bool b, .slice A ds.length c] 53)) wr := by rw [size_alloc]; exact hbel
    have hsz : w.heap.size + 1 ≤ wr.heap.size := by have := hbel.size; simpa using this
    have k1 := H.out.step hbel' rfl (by simp)
    obtain ⟨px0, px1⟩ := id k1
    have hnr := hn0.below hbel'
    have hzl := hpair.1
    have HZ := Lib.hid hzl
    have hzb : zs.length ≤ 1000000 := by omega
    clear hzl
    by_cases hlt : 2 * k < ds.length
    · obtain ⟨ad, rfl, _, hcell⟩ := hnr.at_ hlt
      have hca := hcell (2 * k) hlt
      have hal := digit_lt h.2.2.1 (2 * k)
      obtain ⟨a, ha⟩ : ∃ a, ds.getD (2 * k) 0 = a := ⟨_, rfl⟩
      rw [ha] at hca hal
      have HA := Lib.hid ha
      clear ha
      obtain ⟨i, hi⟩ : ∃ i, 2 * k = i := ⟨_, rfl⟩
      rw [hi] at hca hlt hk
      have hil : i ≤ 1000000 := by omega
      rw [show ((2 * k : Nat) : Int) = (i : Int) from by rw [hi]]
      by_cases h2 : i + 1 < ds.length
      · have hcb := hcell (i + 1) h2
        have hbl := digit_lt h.2.2.1 (i + 1)
        obtain ⟨d, hd⟩ : ∃ d, ds.getD (i + 1) 0 = d := ⟨_, rfl⟩
        rw [hd] at hcb hbl
        have hcb' : wr.cell? ⟨ad.block, ad.off + (i + 1), none⟩ = some (.int .i64 (d : Int)) := by simpa [Addr.add] using hcb
        clear hcb
        have HD := Lib.hid (And.intro hd hi)
        clear hd hi hcell
        go_wp2_with (at_builtin; refine wpList_append_own _ rfl _ _ 22 rfl (w.heap.size + 1) 86 i0 (.int .u32 0) 1 4 Tryd.underlying22 HI.out.1 HI.out.2.1 HI.out.2.2.1 HI.out.2.2.2 rfl (by decide) _ zs.length (cellsOf .u32 zs) rfl (hown.alloc _) ⟨wr.heap.size, 0, none⟩ 1 1 [.int .u32 ((a : Int) + (d : Int) * 65536)] rfl rfl (cell_one_new _ _ _) (by simp [Value.oneCell']) (by unfold maxLen; omega) (by omega) (by simp; omega) ?_; intro v1 w1 hown1 hg1 _)
        go_roundw
        case rel =>
          refine ⟨k + 1, zs ++ [a + d * 65536], by rw [← HD.out.2]; go_num, ?_, paired_two hpair (by rw [HD.out.2]; exact h2) HA.out (by rw [HD.out.2]; exact HD.out.1) hal hbl, by rw [show 2 * (k + 1) = 2 * k + 2 from by omega, HD.out.2]; omega, (hbel.alloc hsz _).grown hg1 (by simp; omega) (fun k hk => (hown.lt k hk).1)⟩
          rw [List.length_append, List.length_singleton, ← cells_snoc .u32 zs (a + d * 65536) ((a : Int) + (d : Int) * 65536) (by omega)]
          exact hown1
        case measure => simp [intOf]; omega
      · have HD := Lib.hid hi
        clear hi hcell
        go_wp2_with (at_builtin; refine wpList_append_own _ rfl _ _ 22 rfl (w.heap.size + 1) 86 i0 (.int .u32 0) 1 4 Tryd.underlying22 HI.out.1 HI.out.2.1 HI.out.2.2.1 HI.out.2.2.2 rfl (by decide) _ zs.length (cellsOf .u32 zs) rfl (hown.alloc _) ⟨wr.heap.size, 0, none⟩ 1 1 [.int .u32 (a : Int)] rfl rfl (cell_one_new _ _ _) (by simp [Value.oneCell']) (by unfold maxLen; omega) (by omega) (by simp; omega) ?_; intro v1 w1 hown1 hg1 _)
        go_roundw
        case rel =>
          refine ⟨k + 1, zs ++ [a], by rw [← HD.out]; go_num, ?_, paired_one hpair (by rw [HD.out]; omega) HA.out hal, by rw [show 2 * (k + 1) = 2 * k + 2 from by omega, HD.out]; omega, (hbel.alloc hsz _).grown hg1 (by simp; omega) (fun k hk => (hown.lt k hk).1)⟩
          rw [List.length_append, List.length_singleton, ← cells_snoc .u32 zs a (a : Int) rfl]
          exact hown1
        case measure => simp [intOf]; omega
    · obtain ⟨hv, ht⟩ := paired_end h hpair (by omega) hk
      have HV := Lib.hid (And.intro hv ht)
      clear hv ht
      go_wp2
      go_ret
      exact ⟨A1, c1, zs, rfl, ⟨hle, Nums.of_own hown rfl, hpair.2.1, HV.out.2, HV.out.1⟩, below_then ((Below.refl _ _).alloc (Nat.le_refl _) _) hbel'⟩
end Go.Proofs.YtllkajlmfbikhaaDoor
