/- What Text of package integer does for 255 in the radix 16. -/
import Derived.Test.YtllkajlmfbikhaaDoorText16
import Derived.RegionTactic
import Derived.Laws.BytesArg
namespace Go.Proofs.YtllkajlmfbikhaaDoor
open Go.RowKit

set_option maxRecDepth 100000 in
set_option maxHeartbeats 1000000 in
theorem radix16 (w : World) : Calls Tryd.prog 23 #[.int .i64 16] w fun e w' => e = .returned (.bool true) ∧ w = w' := by
  go_enter Tryd.func23, Tryd.ntmps23
  go_wp2
  go_ret
  exact ⟨rfl, rfl⟩

def Turned2 (w w' : World) (g : Nat) (e : Ending) : Prop := e = .returned (.tuple #[]) ∧ ∃ cur, Seg w' g 0 .u8 5 cur [70, 70] ∧ w.grownBy w' (some g)

set_option maxRecDepth 100000 in
set_option maxHeartbeats 1000000 in
theorem reverse2 (g cap : Nat) (cur : Array Value) (w : World) (h : Seg w g 0 .u8 5 cur [70, 70]) : Calls Tryd.prog 25 #[.slice (some ⟨g, 0, none⟩) 2 cap] w fun e w' => Turned2 w w' g e := by
  have c0 : w.cell? ⟨g, 0, none⟩ = some (.int .u8 70) := h.cell (j := 0) (by decide)
  have c1 : w.cell? ⟨g, 1, none⟩ = some (.int .u8 70) := h.cell (j := 1) (by decide)
  have f0 := h.frozen 0
  have f1 := h.frozen 1
  have H := Lib.hid h
  clear h
  go_enter Tryd.func25, Tryd.ntmps25
  go_wp2
  go_loopg [2, 3] 1 (fun k iv jv wr => (k = 1 ∧ iv = .int .i64 0 ∧ jv = .int .i64 1 ∧ wr = w) ∨ (k = 0 ∧ iv = .int .i64 1 ∧ jv = .int .i64 0 ∧ (∃ cur', Seg wr g 0 .u8 5 cur' [70, 70]) ∧ w.grownBy wr (some g)))
  case atStart => exact .inl ⟨rfl, rfl, rfl, rfl⟩
  case round =>
    rcases hrel with ⟨rfl, rfl, rfl, rfl⟩ | ⟨rfl, rfl, rfl, ⟨cur', hs⟩, hg⟩
    · go_wp2
      go_region
      all_goals go_wp2
      all_goals go_roundg 0
      case rel =>
        have h2 := (H.out.set_ 0 70).set_ 1 70
        have hg := (grown_store wr g 0 (.int .u8 (70 : Nat))).trans (grown_store (wr.setCell ⟨g, 0, none⟩ (.int .u8 (70 : Nat))) g 1 (.int .u8 (70 : Nat)))
        exact .inr ⟨rfl, rfl, rfl, ⟨_, ⟨h2.blk, h2.fit, h2.at_⟩⟩, ⟨hg.os, hg.tape, hg.output, hg.size, hg.block⟩⟩
      case measure => omega
    · go_wp2
      go_end0
      exact ⟨rfl, cur', hs, hg⟩

/-- A text is handed back, without an error. -/
def IsText (w w' : World) (t : Value) (e : Ending) : Prop := e = .returned (.tuple #[t, .int .i64 0]) ∧ Below w.heap.size w w'

set_option maxRecDepth 100000 in
set_option maxHeartbeats 2000000 in
theorem text255 (A : Option Addr) (c : Nat) (w : World) (h : Limbs w A c [255] 255) : Calls Tryd.prog 7 #[.agg #[.bool false, .slice A 1 c], .int .i64 16] w fun e w' => IsText w w' (.string ⟨#[70, 70]⟩) e := by
  have hb0 : Below w.heap.size w (w.alloc (.cells #[.bool false, .slice A 1 c] 28)) := (Below.refl _ _).alloc (Nat.le_refl _) _
  have hl0 := h.below hb0
  have hi0 : IntAt (w.alloc (.cells #[.bool false, .slice A 1 c] 28)) (.agg #[.bool false, .slice A 1 c]) 255 := ⟨false, A, c, [255], rfl, by unfold SignOf; decide, hl0⟩
  have hsg := Sign_any _ 255 1 _ hi0 (by decide) (by decide)
  have hx0 := Two.new w (.bool false) (.slice A 1 c) 28
  have H := Lib.hid (And.intro hb0 (And.intro hl0 (And.intro hsg hx0)))
  clear hb0 hl0 hi0 hsg hx0
  go_enter Tryd.func7, Tryd.ntmps7
  go_wp2_with fail
  refine (radix16 _).mono ?_
  rintro e w' ⟨rfl, rfl⟩
  go_wp2_with fail
  refine H.out.2.2.1.mono ?_
  rintro e w1 ⟨rfl, hb1⟩
  rw [show (255 : Int).sign = 1 from rfl]
  have k1 := H.out.2.2.2.step hb1 rfl (by simp)
  obtain ⟨px0, px1⟩ := id k1
  have hl1 := H.out.2.1.step hb1 rfl
  go_wp2_with fail
  refine (backwards16 A c w1 hl1).mono ?_
  rintro e w3 ⟨v, rfl, hown, hb3⟩
  obtain ⟨At, ct, rfl, hle⟩ := own_form hown
  obtain ⟨g, cur, rfl, hg, hs⟩ := seg_of_own hown (by decide)
  have hsz : w.heap.size + 1 ≤ w1.heap.size := by have := hb1.size; simpa using this
  have k3 := k1.step hb3 rfl (by omega)
  have hct : 7 ≤ ct := hle
  obtain ⟨qx0, qx1⟩ := id k3
  clear px0 px1 hown hle
  rw [show told7.length = 7 from rfl]
  go_wp2
  go_loopg [6] 5 (fun k tv wr => ∃ i : Nat, tv = .slice (some ⟨g, 0, none⟩) i ct ∧ wr = w3 ∧ (2 ≤ i ∧ i ≤ 7) ∧ i = k + 2)
  case atStart => exact ⟨7, rfl, rfl, ⟨by omega, by omega⟩, rfl⟩
  case round =>
    obtain ⟨i, rfl, rfl, hi, hk⟩ := hrel
    rcases (show i = 7 ∨ i = 6 ∨ i = 5 ∨ i = 4 ∨ i = 3 ∨ i = 2 ∨ 8 ≤ i from by omega) with rfl | rfl | rfl | rfl | rfl | rfl | h8
    · obtain rfl : gk = 5 := by omega
      clear hk hi
      have hc := hs.cell (j := 6) (by decide)
      have hc' : wr.cell? ⟨g, 6, none⟩ = some (.int .u8 48) := hc
      clear hc
      go_wp2
      go_roundg 4
      case rel => exact ⟨6, rfl, rfl, ⟨by omega, by omega⟩, by omega⟩
      case measure => omega
    · obtain rfl : gk = 4 := by omega
      clear hk hi
      have hc := hs.cell (j := 5) (by decide)
      have hc' : wr.cell? ⟨g, 5, none⟩ = some (.int .u8 48) := hc
      clear hc
      go_wp2
      go_roundg 3
      case rel => exact ⟨5, rfl, rfl, ⟨by omega, by omega⟩, by omega⟩
      case measure => omega
    · obtain rfl : gk = 3 := by omega
      clear hk hi
      have hc := hs.cell (j := 4) (by decide)
      have hc' : wr.cell? ⟨g, 4, none⟩ = some (.int .u8 48) := hc
      clear hc
      go_wp2
      go_roundg 2
      case rel => exact ⟨4, rfl, rfl, ⟨by omega, by omega⟩, by omega⟩
      case measure => omega
    · obtain rfl : gk = 2 := by omega
      clear hk hi
      have hc := hs.cell (j := 3) (by decide)
      have hc' : wr.cell? ⟨g, 3, none⟩ = some (.int .u8 48) := hc
      clear hc
      go_wp2
      go_roundg 1
      case rel => exact ⟨3, rfl, rfl, ⟨by omega, by omega⟩, by omega⟩
      case measure => omega
    · obtain rfl : gk = 1 := by omega
      clear hk hi
      have hc := hs.cell (j := 2) (by decide)
      have hc' : wr.cell? ⟨g, 2, none⟩ = some (.int .u8 48) := hc
      clear hc
      go_wp2
      go_roundg 0
      case rel => exact ⟨2, rfl, rfl, ⟨by omega, by omega⟩, by omega⟩
      case measure => omega
    · obtain rfl : gk = 0 := by omega
      clear hk hi
      have hc := hs.cell (j := 1) (by decide)
      have hc' : wr.cell? ⟨g, 1, none⟩ = some (.int .u8 70) := hc
      clear hc
      have hs2 : Seg wr g 0 .u8 5 cur [70, 70] := ⟨hs.blk, by have := hs.fit; simp [told7] at this; simp; omega, fun j hj => by
        match j, hj with
        | 0, _ => exact hs.at_ 0 (by decide)
        | 1, _ => exact hs.at_ 1 (by decide)⟩
      go_wp2_with fail
      refine (reverse2 g ct cur wr hs2).mono ?_
      rintro e w4 ⟨rfl, cur4, hs4, hg4⟩
      have c0 : w4.cell? ⟨g, 0, none⟩ = some (.int .u8 70) := hs4.cell (j := 0) (by decide)
      have c1 : w4.cell? ⟨g, 1, none⟩ = some (.int .u8 70) := hs4.cell (j := 1) (by decide)
      have hcv := run_convert_bytes_arg (P := Tryd.prog) (w := w4) 57 5 Tryd.underlying57 Tryd.underlying5 g 0 2 ct [70, 70] rfl (fun i hi => by
        match i, hi with
        | 0, _ => exact c0
        | 1, _ => exact c1) 9 Tryd.underlying9
      rw [show strOfNums [70, 70] = (⟨#[70, 70]⟩ : ByteArray) from rfl] at hcv
      go_wp2
      go_ret2
      exact ⟨rfl, (below_then (below_then H.out.1 hb1) hb3).trans ((grown_below hg4 hg hb3.size).mono (by omega))⟩
    · omega
end Go.Proofs.YtllkajlmfbikhaaDoor
