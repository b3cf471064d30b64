/- What Short of the laws of layer 2 does for three numbers and the limit 8. -/
import Derived.Test.YtllkajlmfbikhaaDoorAwake
namespace Go.Proofs.YtllkajlmfbikhaaDoor
open Go.RowKit

/-- Three numbers as plain data lie at g. -/
structure Three (w : World) (g : Nat) (s1 : Bool) (A1 : Option Addr) (n1 c1 : Nat) (s2 : Bool) (A2 : Option Addr) (n2 c2 : Nat) (s3 : Bool) (A3 : Option Addr) (n3 c3 : Nat) : Prop where
  lt : g < w.heap.size
  a0 : w.cell? ⟨g, 0, none⟩ = some (.bool s1)
  a1 : w.cell? ⟨g, 1, none⟩ = some (.slice A1 n1 c1)
  a2 : w.cell? ⟨g, 2, none⟩ = some (.bool s2)
  a3 : w.cell? ⟨g, 3, none⟩ = some (.slice A2 n2 c2)
  a4 : w.cell? ⟨g, 4, none⟩ = some (.bool s3)
  a5 : w.cell? ⟨g, 5, none⟩ = some (.slice A3 n3 c3)

theorem Three.step {W0 W w1 : World} {g : Nat} {s1 : Bool} {A1 : Option Addr} {n1 c1 : Nat} {s2 : Bool} {A2 : Option Addr} {n2 c2 : Nat} {s3 : Bool} {A3 : Option Addr} {n3 c3 : Nat}
    (t : Three W0 g s1 A1 n1 c1 s2 A2 n2 c2 s3 A3 n3 c3) (hb : Below W.heap.size W w1) (hh : W.heap = W0.heap) : Three w1 g s1 A1 n1 c1 s2 A2 n2 c2 s3 A3 n3 c3 := by
  have e : ∀ p, W.cell? p = W0.cell? p := fun p => by simp [World.cell?, hh]
  have hl' : g < W.heap.size := by rw [hh]; exact t.lt
  have f : ∀ o, w1.cell? ⟨g, o, none⟩ = W0.cell? ⟨g, o, none⟩ := fun o => (hb.cell (p := ⟨g, o, none⟩) hl').trans (e _)
  exact ⟨Nat.lt_of_lt_of_le hl' hb.size, (f _).trans t.a0, (f _).trans t.a1, (f _).trans t.a2, (f _).trans t.a3, (f _).trans t.a4, (f _).trans t.a5⟩

set_option maxRecDepth 100000 in
set_option maxHeartbeats 1000000 in
theorem long_yes (s : Bool) (A : Option Addr) (n c b : Nat) (w : World) (hb : w.cell? ⟨b, 0, none⟩ = some (.int .i64 8)) (hbl : b < w.heap.size) (h : 8 < n) :
    Calls Tryd.prog 16 #[.agg #[.bool s, .slice A n c], .pointer (some ⟨b, 0, none⟩)] w fun e w' => IsBool w w' true e := by
  have hd : (8 : Int) < (n : Int) := by omega
  go_enter Tryd.func16, Tryd.ntmps16
  go_wp2
  go_ret
  exact ⟨rfl, (Below.refl _ _).alloc (Nat.le_refl _) _⟩

set_option maxRecDepth 100000 in
set_option maxHeartbeats 1000000 in
theorem long_no (s : Bool) (A : Option Addr) (n c b : Nat) (w : World) (hb : w.cell? ⟨b, 0, none⟩ = some (.int .i64 8)) (hbl : b < w.heap.size) (h : n ≤ 8) :
    Calls Tryd.prog 16 #[.agg #[.bool s, .slice A n c], .pointer (some ⟨b, 0, none⟩)] w fun e w' => IsBool w w' false e := by
  have hd : ¬ (8 : Int) < (n : Int) := by omega
  go_enter Tryd.func16, Tryd.ntmps16
  go_wp2
  go_ret
  exact ⟨rfl, (Below.refl _ _).alloc (Nat.le_refl _) _⟩

/-- All three are short. -/
def AllShort (n1 n2 n3 : Nat) : Prop := n1 ≤ 8 ∧ n2 ≤ 8 ∧ n3 ≤ 8
instance (n1 n2 n3 : Nat) : Decidable (AllShort n1 n2 n3) := inferInstanceAs (Decidable (n1 ≤ 8 ∧ n2 ≤ 8 ∧ n3 ≤ 8))
/-- The place of the first long one, or -1. -/
def IsIdx (w w' : World) (n1 n2 n3 : Nat) (e : Ending) : Prop :=
  (∃ r : Int, e = .returned (.int .i64 r) ∧ ((0 ≤ r ∧ ¬ AllShort n1 n2 n3) ∨ (r = -1 ∧ AllShort n1 n2 n3))) ∧ Below w.heap.size w w'

set_option maxRecDepth 100000 in
set_option maxHeartbeats 1000000 in
theorem index_any (g b : Nat) (s1 : Bool) (A1 : Option Addr) (n1 c1 : Nat) (s2 : Bool) (A2 : Option Addr) (n2 c2 : Nat) (s3 : Bool) (A3 : Option Addr) (n3 c3 : Nat) (w : World) (h : Three w g s1 A1 n1 c1 s2 A2 n2 c2 s3 A3 n3 c3) (hb : w.cell? ⟨b, 0, none⟩ = some (.int .i64 8)) (hbl : b < w.heap.size) :
    Calls Tryd.prog 39 #[.slice (some ⟨g, 0, none⟩) 3 3, .func (.func 16) #[] #[.pointer (some ⟨b, 0, none⟩)]] w fun e w' => IsIdx w w' n1 n2 n3 e := by
  have H := Lib.hid (And.intro h (And.intro hb hbl))
  clear h hb hbl
  go_enter Tryd.func39, Tryd.ntmps39
  go_wp2
  go_loopw [8] (fun iv wr => ∃ i : Nat, iv = .int .i64 i ∧ i ≤ 3 ∧ (0 < i → n1 ≤ 8) ∧ (1 < i → n2 ≤ 8) ∧ (2 < i → n3 ≤ 8) ∧ Below w.heap.size w wr) (fun iv _ => 4 - (intOf iv).toNat)
  case atStart => exact ⟨0, rfl, by omega, by omega, by omega, by omega, Below.refl _ _⟩
  case round =>
    obtain ⟨i, rfl, hi, p1, p2, p3, hbr⟩ := hrel
    have ht := H.out.1.step hbr rfl
    have hc : wr.cell? ⟨b, 0, none⟩ = some (.int .i64 8) := (hbr.cell (p := ⟨b, 0, none⟩) H.out.2.2).trans H.out.2.1
    have hl : b < wr.heap.size := Nat.lt_of_lt_of_le H.out.2.2 hbr.size
    obtain ⟨t0, ta, tb, tc, td, te, tf⟩ := id ht
    rcases (show i = 0 ∨ i = 1 ∨ i = 2 ∨ i = 3 from by omega) with rfl | rfl | rfl | rfl
    · by_cases hs : n1 ≤ 8
      · have HC := Lib.hid (long_no s1 A1 n1 c1 b _ hc hl hs)
        go_wp2_with fail
        refine HC.out.mono ?_
        rintro e w2 ⟨rfl, hb2⟩
        go_wp2
        go_roundw
        case rel => exact ⟨1, rfl, by omega, fun _ => hs, by omega, by omega, hbr.trans (hb2.mono hbr.size)⟩
        case measure => simp [intOf]
      · have HC := Lib.hid (long_yes s1 A1 n1 c1 b _ hc hl (by omega))
        go_wp2_with fail
        refine HC.out.mono ?_
        rintro e w2 ⟨rfl, hb2⟩
        go_wp2
        go_ret
        exact ⟨⟨0, rfl, .inl ⟨by omega, fun q => hs q.1⟩⟩, hbr.trans (hb2.mono hbr.size)⟩
    · by_cases hs : n2 ≤ 8
      · have HC := Lib.hid (long_no s2 A2 n2 c2 b _ hc hl hs)
        go_wp2_with fail
        refine HC.out.mono ?_
        rintro e w2 ⟨rfl, hb2⟩
        go_wp2
        go_roundw
        case rel => exact ⟨2, rfl, by omega, fun _ => p1 (by omega), fun _ => hs, by omega, hbr.trans (hb2.mono hbr.size)⟩
        case measure => simp [intOf]
      · have HC := Lib.hid (long_yes s2 A2 n2 c2 b _ hc hl (by omega))
        go_wp2_with fail
        refine HC.out.mono ?_
        rintro e w2 ⟨rfl, hb2⟩
        go_wp2
        go_ret
        exact ⟨⟨1, rfl, .inl ⟨by omega, fun q => hs q.2.1⟩⟩, hbr.trans (hb2.mono hbr.size)⟩
    · by_cases hs : n3 ≤ 8
      · have HC := Lib.hid (long_no s3 A3 n3 c3 b _ hc hl hs)
        go_wp2_with fail
        refine HC.out.mono ?_
        rintro e w2 ⟨rfl, hb2⟩
        go_wp2
        go_roundw
        case rel => exact ⟨3, rfl, by omega, fun _ => p1 (by omega), fun _ => p2 (by omega), fun _ => hs, hbr.trans (hb2.mono hbr.size)⟩
        case measure => simp [intOf]
      · have HC := Lib.hid (long_yes s3 A3 n3 c3 b _ hc hl (by omega))
        go_wp2_with fail
        refine HC.out.mono ?_
        rintro e w2 ⟨rfl, hb2⟩
        go_wp2
        go_ret
        exact ⟨⟨2, rfl, .inl ⟨by omega, fun q => hs q.2.2⟩⟩, hbr.trans (hb2.mono hbr.size)⟩
    · go_wp2
      go_ret
      exact ⟨⟨-1, rfl, .inr ⟨rfl, p1 (by omega), p2 (by omega), p3 (by omega)⟩⟩, hbr⟩

set_option maxRecDepth 100000 in
set_option maxHeartbeats 1000000 in
theorem contains_any (g b : Nat) (s1 : Bool) (A1 : Option Addr) (n1 c1 : Nat) (s2 : Bool) (A2 : Option Addr) (n2 c2 : Nat) (s3 : Bool) (A3 : Option Addr) (n3 c3 : Nat) (w : World) (h : Three w g s1 A1 n1 c1 s2 A2 n2 c2 s3 A3 n3 c3) (hb : w.cell? ⟨b, 0, none⟩ = some (.int .i64 8)) (hbl : b < w.heap.size) :
    Calls Tryd.prog 15 #[.slice (some ⟨g, 0, none⟩) 3 3, .func (.func 16) #[] #[.pointer (some ⟨b, 0, none⟩)]] w fun e w' => IsBool w w' (decide (¬ AllShort n1 n2 n3)) e := by
  have H := Lib.hid (index_any g b s1 A1 n1 c1 s2 A2 n2 c2 s3 A3 n3 c3 w h hb hbl)
  clear h hb hbl
  by_cases hn : AllShort n1 n2 n3
  · rw [decide_eq_false (p := ¬ AllShort n1 n2 n3) (not_not_intro hn)]
    go_enter Tryd.func15, Tryd.ntmps15
    go_wp2_with fail
    refine H.out.mono ?_
    rintro e w2 ⟨⟨r, rfl, hr⟩, hb2⟩
    rcases hr with ⟨hr, hm⟩ | ⟨rfl, hm⟩
    · exact absurd hn hm
    · go_wp2
      go_ret
      exact ⟨rfl, hb2⟩
  · rw [decide_eq_true (p := ¬ AllShort n1 n2 n3) hn]
    go_enter Tryd.func15, Tryd.ntmps15
    go_wp2_with fail
    refine H.out.mono ?_
    rintro e w2 ⟨⟨r, rfl, hr⟩, hb2⟩
    rcases hr with ⟨hr, hm⟩ | ⟨rfl, hm⟩
    · go_wp2
      go_ret
      exact ⟨rfl, hb2⟩
    · exact absurd hm hn

set_option maxRecDepth 100000 in
set_option maxHeartbeats 1000000 in
theorem short_any (g : Nat) (s1 : Bool) (A1 : Option Addr) (n1 c1 : Nat) (s2 : Bool) (A2 : Option Addr) (n2 c2 : Nat) (s3 : Bool) (A3 : Option Addr) (n3 c3 : Nat) (w : World) (h : Three w g s1 A1 n1 c1 s2 A2 n2 c2 s3 A3 n3 c3) :
    Calls Tryd.prog 4 #[.int .i64 8, .slice (some ⟨g, 0, none⟩) 3 3] w fun e w' => IsBool w w' (decide (AllShort n1 n2 n3)) e := by
  have hb0 : Below w.heap.size w (w.alloc (.cells #[.int .i64 8] 3)) := (Below.refl _ _).alloc (Nat.le_refl _) _
  have hc : (w.alloc (.cells #[.int .i64 8] 3)).cell? ⟨w.heap.size, 0, none⟩ = some (.int .i64 8) := by go_simp
  have hcs := contains_any g w.heap.size s1 A1 n1 c1 s2 A2 n2 c2 s3 A3 n3 c3 _ (h.step hb0 rfl) hc (by rw [size_alloc]; omega)
  by_cases hn : AllShort n1 n2 n3
  · rw [decide_eq_false (p := ¬ AllShort n1 n2 n3) (not_not_intro hn)] at hcs
    rw [decide_eq_true hn]
    have H := Lib.hid (And.intro hcs hb0)
    clear h hb0 hc hcs
    go_enter Tryd.func4, Tryd.ntmps4
    go_wp2_with fail
    refine H.out.1.mono ?_
    rintro e w2 ⟨rfl, hb2⟩
    go_wp2
    go_ret
    exact ⟨rfl, below_then H.out.2 hb2⟩
  · rw [decide_eq_true (p := ¬ AllShort n1 n2 n3) hn] at hcs
    rw [decide_eq_false hn]
    have H := Lib.hid (And.intro hcs hb0)
    clear h hb0 hc hcs
    go_enter Tryd.func4, Tryd.ntmps4
    go_wp2_with fail
    refine H.out.1.mono ?_
    rintro e w2 ⟨rfl, hb2⟩
    go_wp2
    go_ret
    exact ⟨rfl, below_then H.out.2 hb2⟩
end Go.Proofs.YtllkajlmfbikhaaDoor
