/- The frame of a law over integers as plain data: what an argument of the type N is; a slice of limbs that came in. -/
import Derived.Test.YtllkajlmfbikhaaDoorBaseA
import Derived.Test.YtllkajlmfbikhaaDoorRows
import Derived.ProofKit
import Derived.OpenShut
import Derived.ShutString
import Derived.ChangeOld
import Derived.Lib.SmallJoins
namespace Go.Proofs.YtllkajlmfbikhaaDoor
open Go.ChangeShapes Go.WideShapes Go.ChangeAt Go.RowKit

theorem own : ownKnob Tryd.prog.godebug = none := by kernel_rfl
theorem laidOut : laidOutB Tryd.prog = true := by kernel_rfl

theorem wf_u32 {n : Int} (h : (Lit.int .u32 n).wf = true) : 0 ≤ n ∧ n < 4294967296 := by
  simp only [Lit.wf, Bool.and_eq_true, decide_eq_true_eq] at h
  rw [show IntKind.u32.min = 0 from rfl, show IntKind.u32.max = 4294967295 from rfl] at h
  omega

/-- A slice of limbs that came in. -/
theorem open_limbs {H : Type} {enc : TypeId × Value → H} {W : World} {fuel : Nat} {v : Value} {y : DataW H × List MemPlace} (h : DataW.trod enc Tryd.prog W 0 (fun _ => true) true fuel 22 [v] = some y)
    (hlt : ∀ x ∈ y.2, x.block < W.heap.size) :
    ∃ A c xs, v = .slice A xs.length c ∧ Nums W .u32 A xs ∧ Lm.Ok B32 xs ∧ xs.length ≤ c ∧ c ≤ maxLen := by
  rcases open_ints Tryd.underlying22 Tryd.underlying86 (by kernel_rfl) h with ⟨hcs, _⟩ | ⟨x, l, c, zs, hcs, _, hl, hm, hz, hx, hcell, hwz⟩
  · simp only [List.cons.injEq, and_true] at hcs
    exact ⟨none, 0, [], hcs, Nums.nil _ _ _, Lm.Ok.nil _, Nat.le_refl _, by simp⟩
  · simp only [List.cons.injEq, and_true] at hcs
    simp only [if_true] at hz
    have hpos : ∀ i, i < zs.length → 0 ≤ zs.getD i 0 ∧ zs.getD i 0 < 4294967296 := fun i hi => by
      exact wf_u32 (hwz (zs.getD i 0) (by rw [List.getD_eq_getElem?_getD, List.getElem?_eq_getElem hi]; exact List.getElem_mem hi))
    have hlen : ((zs.take l).map Int.toNat).length = l := by
      rw [List.length_map, List.length_take]
      omega
    have hget : ∀ j, j < l → (((zs.take l).map Int.toNat).getD j 0 : Int) = zs.getD j 0 := fun j hj => by
      have h1 := hpos j (by omega)
      have hj' : j < zs.length := by omega
      rw [List.getD_eq_getElem?_getD, List.getElem?_map, List.getElem?_take, if_pos hj, List.getElem?_eq_getElem hj']
      rw [List.getD_eq_getElem?_getD, List.getElem?_eq_getElem hj'] at *
      simp at h1 ⊢
      omega
    refine ⟨some x, c, (zs.take l).map Int.toNat, by rw [hlen]; exact hcs, fun hn => ?_, ?_, by omega, hm⟩
    · rw [hlen] at hn
      refine ⟨x, rfl, ?_, fun j hj => ?_⟩
      · rw [hx] at hlt
        exact hlt (MemPlace.cell x.block (x.off + 0)) (by
          unfold MemPlace.row
          exact List.mem_map.mpr ⟨0, List.mem_range.mpr (by omega), rfl⟩)
      · rw [hlen] at hj
        rw [hget j hj]
        exact hcell j (by omega)
    · intro d hd
      rw [List.mem_map] at hd
      obtain ⟨z, hz1, rfl⟩ := hd
      have := wf_u32 (hwz z (List.mem_of_mem_take hz1))
      unfold B32
      omega

/-- An integer as plain data that came in. -/
def IsN (W : World) (v : Value) : Prop := ∃ s A c xs, v = .agg #[.bool s, .slice A (List.length xs) c] ∧ Nums W .u32 A xs ∧ Lm.Ok B32 xs ∧ xs.length ≤ c ∧ c ≤ maxLen

set_option maxRecDepth 100000 in
theorem open_N {H : Type} {enc : TypeId × Value → H} {W : World} {r : Reach} {b0 : Nat} {v : Value} {d : DataW H} {p : List MemPlace} (hok : Value.okWide Tryd.prog W r b0 24 v)
    (h : DataW.Trod enc Tryd.prog W 0 (fun _ => true) true 24 v d p) (hlt : ∀ x ∈ p, x.block < W.heap.size) : IsN W v := by
  obtain ⟨v0, v1, y0, y1, n, rfl, _, rfl, h0, h1⟩ := Go.Joins.open_agg2 Tryd.underlying24 (by kernel_rfl) (by kernel_rfl) hok h
  obtain ⟨A, c, xs, rfl, hn, ho, hl, hm⟩ := open_limbs h1 (fun x hx => hlt x (List.mem_append_right _ hx))
  obtain ⟨s, rfl⟩ : ∃ s, v0 = .bool s := by
    obtain ⟨s, hs, _⟩ := DataW.trod_bool Tryd.underlying4 h0
    simp only [List.cons.injEq, and_true] at hs
    exact ⟨s, hs⟩
  exact ⟨s, A, c, xs, rfl, hn, ho, hl, hm⟩
end Go.Proofs.YtllkajlmfbikhaaDoor
