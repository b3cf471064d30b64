/- What Short of the laws of layer 2 does, for any limit and any numbers. -/
import Derived.Test.YtllkajlmfbikhaaDoorShort
namespace Go.Proofs.YtllkajlmfbikhaaDoor
open Go.RowKit
set_option linter.unusedSimpArgs false

/-- A number as plain data: its sign, and its limbs' slice. -/
structure NVal where
  s : Bool
  A : Option Addr
  n : Nat
  c : Nat
/-- Numbers as plain data lie at g, one behind the other. -/
def NRow (w : World) (g : Nat) (l : List NVal) : Prop := g < w.heap.size ∧ ∀ i x, l[i]? = some x → w.cell? ⟨g, i * 2, none⟩ = some (.bool x.s) ∧ w.cell? ⟨g, i * 2 + 1, none⟩ = some (.slice x.A x.n x.c)
theorem NRow.step {W0 W w1 : World} {g : Nat} {l : List NVal} (t : NRow W0 g l) (hb : Below W.heap.size W w1) (hh : W.heap = W0.heap) : NRow w1 g l := by
  have e : ∀ p, W.cell? p = W0.cell? p := fun p => by simp [World.cell?, hh]
  have hl' : g < W.heap.size := by rw [hh]; exact t.1
  have f : ∀ o, w1.cell? ⟨g, o, none⟩ = W0.cell? ⟨g, o, none⟩ := fun o => (hb.cell (p := ⟨g, o, none⟩) hl').trans (e _)
  exact ⟨Nat.lt_of_lt_of_le hl' hb.size, fun i x hx => ⟨(f _).trans (t.2 i x hx).1, (f _).trans (t.2 i x hx).2⟩⟩

set_option maxRecDepth 100000 in
set_option maxHeartbeats 1000000 in
theorem longN_yes (s : Bool) (A : Option Addr) (n c b M : Nat) (w : World) (hb : w.cell? ⟨b, 0, none⟩ = some (.int .i64 (M : Int))) (hbl : b < w.heap.size) (h : M < n) :
    Calls Tryd.prog 16 #[.agg #[.bool s, .slice A n c], .pointer (some ⟨b, 0, none⟩)] w fun e w' => IsBool w w' true e := by
  go_enter Tryd.func16, Tryd.ntmps16
  go_wp2
  go_ret
  exact ⟨rfl, (Below.refl _ _).alloc (Nat.le_refl _) _⟩

set_option maxRecDepth 100000 in
set_option maxHeartbeats 1000000 in
theorem longN_no (s : Bool) (A : Option Addr) (n c b M : Nat) (w : World) (hb : w.cell? ⟨b, 0, none⟩ = some (.int .i64 (M : Int))) (hbl : b < w.heap.size) (h : n ≤ M) :
    Calls Tryd.prog 16 #[.agg #[.bool s, .slice A n c], .pointer (some ⟨b, 0, none⟩)] w fun e w' => IsBool w w' false e := by
  have hd : ¬ M < n := by omega
  go_enter Tryd.func16, Tryd.ntmps16
  go_wp2
  go_ret
  exact ⟨rfl, (Below.refl _ _).alloc (Nat.le_refl _) _⟩

/-- All are short. -/
def AllS (M : Nat) (l : List NVal) : Prop := ∀ x ∈ l, x.n ≤ M
instance (M : Nat) (l : List NVal) : Decidable (AllS M l) := inferInstanceAs (Decidable (∀ x ∈ l, x.n ≤ M))
def IsIdxN (w w' : World) (M : Nat) (l : List NVal) (e : Ending) : Prop :=
  (∃ r : Int, e = .returned (.int .i64 r) ∧ ((0 ≤ r ∧ ¬ AllS M l) ∨ (r = -1 ∧ AllS M l))) ∧ Below w.heap.size w w'
theorem allS_snoc {M k : Nat} {l : List NVal} {x : NVal} (h : AllS M (l.take k)) (hx : l[k]? = some x) (hn : x.n ≤ M) : AllS M (l.take (k + 1)) := by
  intro y hy
  have hk : k < l.length := by
    rcases Nat.lt_or_ge k l.length with h | h
    · exact h
    · rw [List.getElem?_eq_none h] at hx; cases hx
  rw [List.take_succ_eq_append_getElem hk, List.mem_append] at hy
  rcases hy with hy | hy
  · exact h y hy
  · rw [List.getElem?_eq_getElem hk] at hx
    injection hx with hx
    simp at hy
    subst hy
    rw [hx]
    exact hn

set_option maxRecDepth 100000 in
set_option maxHeartbeats 1000000 in
theorem indexN_any (g b M : Nat) (l : List NVal) (w : World) (h : NRow w g l) (hb : w.cell? ⟨b, 0, none⟩ = some (.int .i64 (M : Int))) (hbl : b < w.heap.size) (hlen : l.length ≤ 1000) :
    Calls Tryd.prog 39 #[.slice (some ⟨g, 0, none⟩) l.length l.length, .func (.func 16) #[] #[.pointer (some ⟨b, 0, none⟩)]] w fun e w' => IsIdxN w w' M l e := by
  have H := Lib.hid (And.intro h (And.intro hb hbl))
  clear h hb hbl
  go_enter Tryd.func39, Tryd.ntmps39
  go_wp2
  go_loopw [8] (fun iv wr => ∃ i : Nat, iv = .int .i64 i ∧ i ≤ l.length ∧ AllS M (l.take i) ∧ Below w.heap.size w wr) (fun iv _ => l.length - (intOf iv).toNat)
  case atStart => exact ⟨0, rfl, Nat.zero_le _, fun x hx => by simp at hx, Below.refl _ _⟩
  case round =>
    obtain ⟨i, rfl, hi, hall, hbr⟩ := hrel
    have hc : wr.cell? ⟨b, 0, none⟩ = some (.int .i64 (M : Int)) := (hbr.cell (p := ⟨b, 0, none⟩) H.out.2.2).trans H.out.2.1
    have hl : b < wr.heap.size := Nat.lt_of_lt_of_le H.out.2.2 hbr.size
    by_cases hlt : i < l.length
    · obtain ⟨x, hx⟩ : ∃ x, l[i]? = some x := ⟨_, List.getElem?_eq_getElem hlt⟩
      obtain ⟨ta, tb⟩ := (H.out.1.step hbr rfl).2 i x hx
      have i0 : (0 : Int) ≤ (i : Int) := Int.natCast_nonneg i
      have i1 : (i : Int) < (l.length : Int) := by omega
      by_cases hs : x.n ≤ M
      · have HC := Lib.hid (And.intro (longN_no x.s x.A x.n x.c b M _ hc hl hs) (And.intro hx (And.intro hall hbr)))
        clear hx hall hbr
        go_wp2_with fail
        refine HC.out.1.mono ?_
        rintro e w2 ⟨rfl, hb2⟩
        go_wp2
        go_roundw
        case rel => exact ⟨i + 1, by go_num, by omega, allS_snoc HC.out.2.2.1 HC.out.2.1 hs, HC.out.2.2.2.trans (hb2.mono HC.out.2.2.2.size)⟩
        case measure => simp [intOf]; omega
      · have HC := Lib.hid (And.intro (longN_yes x.s x.A x.n x.c b M _ hc hl (by omega)) (And.intro hx (And.intro hall hbr)))
        clear hx hall hbr
        go_wp2_with fail
        refine HC.out.1.mono ?_
        rintro e w2 ⟨rfl, hb2⟩
        go_wp2
        go_ret
        refine ⟨⟨_, rfl, .inl ⟨i0, fun q => hs (q x ?_)⟩⟩, HC.out.2.2.2.trans (hb2.mono HC.out.2.2.2.size)⟩
        exact List.mem_of_getElem? HC.out.2.1
    · obtain rfl : i = l.length := by omega
      rw [List.take_length] at hall
      have HC := Lib.hid (And.intro hall hbr)
      clear hall hbr
      go_wp2
      go_ret
      exact ⟨⟨-1, rfl, .inr ⟨rfl, HC.out.1⟩⟩, HC.out.2⟩

set_option maxRecDepth 100000 in
set_option maxHeartbeats 1000000 in
theorem containsN_any (g b M : Nat) (l : List NVal) (w : World) (h : NRow w g l) (hb : w.cell? ⟨b, 0, none⟩ = some (.int .i64 (M : Int))) (hbl : b < w.heap.size) (hlen : l.length ≤ 1000) :
    Calls Tryd.prog 15 #[.slice (some ⟨g, 0, none⟩) l.length l.length, .func (.func 16) #[] #[.pointer (some ⟨b, 0, none⟩)]] w fun e w' => IsBool w w' (decide (¬ AllS M l)) e := by
  have H := Lib.hid (indexN_any g b M l w h hb hbl hlen)
  clear h hb hbl
  by_cases hn : AllS M l
  · rw [decide_eq_false (p := ¬ AllS M l) (not_not_intro hn)]
    go_enter Tryd.func15, Tryd.ntmps15
    go_wp2_with fail
    refine H.out.mono ?_
    rintro e w2 ⟨⟨r, rfl, hr⟩, hb2⟩
    rcases hr with ⟨hr, hm⟩ | ⟨rfl, hm⟩
    · exact absurd hn hm
    · go_wp2
      go_ret
      exact ⟨rfl, hb2⟩
  · rw [decide_eq_true (p := ¬ AllS M l) hn]
    go_enter Tryd.func15, Tryd.ntmps15
    go_wp2_with fail
    refine H.out.mono ?_
    rintro e w2 ⟨⟨r, rfl, hr⟩, hb2⟩
    rcases hr with ⟨hr, hm⟩ | ⟨rfl, hm⟩
    · go_wp2
      go_ret
      exact ⟨rfl, hb2⟩
    · exact absurd hm hn

set_option maxRecDepth 100000 in
set_option maxHeartbeats 1000000 in
theorem shortN_any (g M : Nat) (l : List NVal) (w : World) (h : NRow w g l) (hlen : l.length ≤ 1000) :
    Calls Tryd.prog 4 #[.int .i64 (M : Int), .slice (some ⟨g, 0, none⟩) l.length l.length] w fun e w' => IsBool w w' (decide (AllS M l)) e := by
  have hb0 : Below w.heap.size w (w.alloc (.cells #[.int .i64 (M : Int)] 3)) := (Below.refl _ _).alloc (Nat.le_refl _) _
  have hc : (w.alloc (.cells #[.int .i64 (M : Int)] 3)).cell? ⟨w.heap.size, 0, none⟩ = some (.int .i64 (M : Int)) := by go_simp
  have hcs := containsN_any g w.heap.size M l _ (h.step hb0 rfl) hc (by rw [size_alloc]; omega) hlen
  by_cases hn : AllS M l
  · rw [decide_eq_false (p := ¬ AllS M l) (not_not_intro hn)] at hcs
    rw [decide_eq_true hn]
    have H := Lib.hid (And.intro hcs hb0)
    clear h hb0 hc hcs
    go_enter Tryd.func4, Tryd.ntmps4
    go_wp2_with fail
    refine H.out.1.mono ?_
    rintro e w2 ⟨rfl, hb2⟩
    go_wp2
    go_ret
    exact ⟨rfl, below_then H.out.2 hb2⟩
  · rw [decide_eq_true (p := ¬ AllS M l) hn] at hcs
    rw [decide_eq_false hn]
    have H := Lib.hid (And.intro hcs hb0)
    clear h hb0 hc hcs
    go_enter Tryd.func4, Tryd.ntmps4
    go_wp2_with fail
    refine H.out.1.mono ?_
    rintro e w2 ⟨rfl, hb2⟩
    go_wp2
    go_ret
    exact ⟨rfl, below_then H.out.2 hb2⟩
end Go.Proofs.YtllkajlmfbikhaaDoor
