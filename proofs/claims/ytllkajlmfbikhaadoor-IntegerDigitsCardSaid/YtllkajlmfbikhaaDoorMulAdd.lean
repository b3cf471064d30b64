/- What multiplyAdd of package integer does: a number of the caller's own times a factor plus an addend. -/
import Derived.Test.YtllkajlmfbikhaaDoorBackwards
import Derived.Laws.OwnMore
namespace Go.Proofs.YtllkajlmfbikhaaDoor
open Go.RowKit

theorem own_set {w : World} {base : Nat} {e : TypeId} {k : IntKind} {g n c j : Nat} {zs : List Nat} (h : w.ownsRow base e 1 (.slice (some ⟨g, 0, none⟩) n c) n (cellsOf k zs)) (hj : j < n) (d : Nat) :
    (w.setCell ⟨g, j, none⟩ (.int k (d : Int))).ownsRow base e 1 (.slice (some ⟨g, 0, none⟩) n c) n (cellsOf k (zs.set j d)) := by
  have hl := h.1
  refine ⟨by rw [cellsOf_length, List.length_set, ← cellsOf_length k zs]; exact hl, .inr ?_⟩
  rcases h.2 with ⟨_, h0⟩ | ⟨g', cap, cur, hv, hb, hg, hnc, hcl, hcs, htake⟩
  · omega
  · simp only [Value.slice.injEq, Option.some.injEq, Addr.mk.injEq] at hv
    obtain ⟨⟨rfl, _, _⟩, _, rfl⟩ := hv
    refine ⟨g, c, cur.setIfInBounds j (.int k (d : Int)), rfl, hb, heap_setCell_same w g j cur e _ hg, hnc, hcl, by simpa using hcs, ?_⟩
    rw [Array.toList_setIfInBounds, List.take_set, htake]
    unfold cellsOf
    rw [List.map_set]

/-- A number in a row of the caller's own. -/
def IsOwnLim (base : Nat) (w w' : World) (n L : Nat) (e : Ending) : Prop := ∃ A c ys, e = .returned (.slice A ys.length c) ∧ w'.ownsRow base 86 1 (.slice A ys.length c) ys.length (cellsOf .u32 ys) ∧ Lm.Ok B32 ys ∧ Lm.Top ys ∧ Lm.val B32 ys = n ∧ ys.length ≤ L ∧ Below base w w'

theorem carry_lt {q x f t : Nat} (hq : q < 4294967296) (hx : x < 4294967296) (hf : f < 4294967296) (ht : t = q + x * f) : t / B32 < 4294967296 ∧ t ≤ 18446744073709551615 := by
  have h := limb_prod hx hf
  unfold B32
  omega

set_option maxRecDepth 100000 in
set_option maxHeartbeats 4000000 in
theorem multiplyAdd_any (base : Nat) (A : Option Addr) (c : Nat) (xs : List Nat) (f a : Nat) (w : World) (h : w.ownsRow base 86 1 (.slice A xs.length c) xs.length (cellsOf .u32 xs))
    (ox : Lm.Ok B32 xs) (tx : Lm.Top xs) (hl : xs.length ≤ 900000) (hf0 : 0 < f) (hf : f < 4294967296) (ha : a < 4294967296) (hB : base ≤ w.heap.size) :
    Calls Tryd.prog 53 #[.slice A xs.length c, .int .u32 f, .int .u32 a] w fun e w' => IsOwnLim base w w' (Lm.val B32 xs * f + a) (xs.length + 1) e := by
  obtain ⟨i0, hi0, hz0, hz1, hz2⟩ := info_parts Tryd.info86
  have HI := Lib.hid (And.intro hi0 (And.intro hz0 (And.intro hz1 hz2)))
  have hfi : (f : Int) ≤ 4294967295 := by omega
  have hai : (a : Int) ≤ 4294967295 := by omega
  have HX := Lib.hid (And.intro ox (And.intro tx (And.intro hf0 (And.intro hf (And.intro ha hB)))))
  have H := Lib.hid h
  clear hi0 hz0 hz1 hz2 ox tx hf0 hf ha hB h
  go_enter Tryd.func53, Tryd.ntmps53
  go_wp2
  go_loopw [7, 13] (fun cv iv wr => ∃ (i q : Nat) (zs : List Nat), iv = .int .i64 i ∧ cv = .int .u64 q ∧ i ≤ xs.length ∧ (q : Int) ≤ 4294967295 ∧ Hid (Tx.MA B32 xs zs f a i q ∧ wr.ownsRow base 86 1 (.slice A xs.length c) xs.length (cellsOf .u32 zs) ∧ Below base w wr)) (fun _ iv _ => xs.length - (intOf iv).toNat)
  case atStart => exact ⟨0, a, xs, rfl, rfl, Nat.zero_le _, hai, Lib.hid ⟨Tx.MA.start HX.out.1, H.out, Below.refl _ _⟩⟩
  case round =>
    obtain ⟨i, q, zs, rfl, rfl, hi, hq, HM⟩ := hrel
    by_cases hlt : i < xs.length
    · obtain ⟨g, cur, rfl, hg, hseg⟩ := seg_of_own HM.out.2.1 (by omega)
      have hzl := HM.out.1.len
      have hc := hseg.cell (j := i) (by omega)
      have hfz := hseg.frozen i
      obtain ⟨x, hx⟩ : ∃ x, zs.getD i 0 = x := ⟨_, rfl⟩
      have hxl := limb_lt HM.out.1.ok i
      rw [hx] at hc hxl
      rw [Nat.zero_add] at hc
      obtain ⟨p, hp⟩ : ∃ p, x * f = p := ⟨_, rfl⟩
      have hp' : (x : Int) * (f : Int) = (p : Int) := by rw [← hp, Int.natCast_mul]
      have hpl := limb_prod hxl HX.out.2.2.2.1
      rw [hp] at hpl
      have HD := Lib.hid (And.intro hx (And.intro hp (And.intro hxl (And.intro hg hseg.lt))))
      have hxi : (x : Int) ≤ 4294967295 := by omega
      clear hx hp hzl hseg hxl hg
      go_wp2
      go_roundw
      case rel =>
        have hct := carry_lt (q := q) (x := x) (f := f) (t := q + p) (by omega) HD.out.2.2.1 HX.out.2.2.2.1 (by rw [HD.out.2.1])
        have hst := HM.out.1.step B32_pos hlt HD.out.1 (t := q + p) (by rw [HD.out.2.1])
        have ho := own_set HM.out.2.1 hlt ((q + p) % B32)
        refine ⟨i + 1, (q + p) / B32, _, by go_num, by rw [limb_div (q + p) _ (by omega)], by omega, by have := hct.1; omega, Lib.hid ⟨hst, ?_, ?_⟩⟩
        · rw [limb_mod (q + p) _ (by omega)]; exact ho
        · exact HM.out.2.2.trans (grown_below (grown_store _ _ _ _) HD.out.2.2.2.1 (Nat.le_trans HX.out.2.2.2.2.2 HM.out.2.2.size))
      case measure => simp [intOf]; omega
    · obtain rfl : i = xs.length := by omega
      have hsz := Nat.le_trans HX.out.2.2.2.2.2 HM.out.2.2.size
      have hzl := HM.out.1.len
      by_cases hq0 : 0 < q
      · have hot := HM.out.2.1
        go_wp2_with (at_builtin; refine wpList_append_own _ rfl _ _ 22 rfl base 86 i0 (.int .u32 0) 1 4 Tryd.underlying22 HI.out.1 HI.out.2.1 HI.out.2.2.1 HI.out.2.2.2 rfl (by decide) _ xs.length (cellsOf .u32 zs) rfl (hot.alloc _) ⟨wr.heap.size, 0, none⟩ 1 1 [.int .u32 (q : Int)] rfl rfl (cell_one_new _ _ _) (by simp [Value.oneCell']) (by unfold maxLen; omega) (by omega) (by simp; omega) ?_; intro v1 w2 hown1 hg1 _)
        go_ret
        have hb2 : Below base wr w2 := ((Below.refl _ _).alloc hsz _).grown hg1 (by simp; omega) (fun k hk => (hot.lt k hk).1)
        rw [show cellsOf .u32 zs ++ [Value.int .u32 (q : Int)] = cellsOf .u32 (zs ++ [q]) from by simp [cellsOf]] at hown1
        obtain ⟨A2, c2, rfl, _⟩ := own_form hown1
        have hl2 : (zs ++ [q]).length = xs.length + 1 := by rw [List.length_append, List.length_singleton, hzl]
        refine ⟨A2, c2, zs ++ [q], by rw [hl2]; rfl, by rw [hl2]; exact hown1, HM.out.1.ok.append (Lm.Ok.cons (by unfold B32; omega) (Lm.Ok.nil _)), HM.out.1.top1 hq0, HM.out.1.val1, by omega, HM.out.2.2.trans hb2⟩
      · obtain rfl : q = 0 := by omega
        go_wp2
        go_ret
        exact ⟨A, c, zs, by rw [hzl]; rfl, by rw [hzl]; exact HM.out.2.1, HM.out.1.ok, HM.out.1.top0 HX.out.2.2.1 HX.out.2.1, HM.out.1.val0, by omega, HM.out.2.2⟩
end Go.Proofs.YtllkajlmfbikhaaDoor
