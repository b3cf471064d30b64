/- What Abs of the reference does. -/
import Derived.Test.YtllkajlmfbikhaaRefB
import Derived.Test.YtllkajlmfbikhaaShiftA
namespace Go.Proofs.Ytllkajlmfbikhaa
open Go.RowKit
set_option linter.unusedSimpArgs false

set_option maxRecDepth 100000 in
set_option maxHeartbeats 1000000 in
theorem RAbs_any (v : Value) (z : Int) (w : World) (h : RefAt w v z) : Calls Try.prog 37 #[v] w fun e w' => IsRef w w' (z.natAbs : Int) e := by
  obtain ⟨b, A, c, ds, rfl, hs, hd⟩ := h
  have hb0 := begun1_below w (.bool b) (.slice A ds.length c) 31
  have hT := begun1_x w (.bool b) (.slice A ds.length c) 31
  have hR := begun1_r w (.bool b) (.slice A ds.length c) 31
  obtain ⟨W, hW⟩ : ∃ W, begun1 w (.bool b) (.slice A ds.length c) 31 = W := ⟨_, rfl⟩
  rw [hW] at hb0 hT hR
  unfold begun1 at hW
  have H := Lib.hid (And.intro hb0 (And.intro hR (And.intro hW (hd.below hb0))))
  obtain ⟨px0, px1⟩ := id hT
  obtain ⟨⟨hr0, hr1⟩, hf0, hf1⟩ := id hR
  clear hb0 hT hR hW hs hd
  go_enter Try.func37, Try.ntmps37
  go_upto_region 1 with fail
  rw [H.out.2.2.1]
  go_wp2
  have q := H.out.2.1.1.stored (.bool false) (.slice A ds.length c)
  obtain ⟨q0, q1⟩ := id q
  refine bodyPost_ret (v := .agg #[.bool false, .slice A ds.length c]) (by simp [results, Try.results37, go_sem, q0, q1]) rfl ?_
  exact ref_stored H.out.2.1 (z := (z.natAbs : Int)) (by unfold SignOf; simp) (by rw [Int.natAbs_natCast]; exact H.out.2.2.2) H.out.1 (by omega)
end Go.Proofs.Ytllkajlmfbikhaa
