/- What Make of package integer does, and where the limbs that it hands back lie. -/
import Derived.Test.YtllkajlmfbikhaaDoorShort
namespace Go.Proofs.YtllkajlmfbikhaaDoor
open Go.RowKit

/-- The address, if there is one, lies in a block of limbs. -/
def Typed (w : World) (A : Option Addr) : Prop := ∀ ad, A = some ad → ∃ cur fz, w.heap[ad.block]? = some (.cells cur 86 fz)

theorem Typed.none (w : World) : Typed w none := fun _ h => by cases h
theorem Typed.step {W0 W w1 : World} {A : Option Addr} (t : Typed W0 A) (hb : Below W.heap.size W w1) (hh : W.heap = W0.heap) : Typed w1 A := fun ad ha => by
  obtain ⟨cur, fz, h⟩ := t ad ha
  rw [← hh] at h
  have hlt : ad.block < W.heap.size := by
    by_cases hl : ad.block < W.heap.size
    · exact hl
    · rw [Array.getElem?_eq_none (by omega)] at h; cases h
  exact ⟨cur, fz, (hb.block ad.block hlt).trans h⟩

theorem Typed.setCell {w : World} {A : Option Addr} (t : Typed w A) (p : Addr) (u : Value) : Typed (w.setCell p u) A := fun ad ha => by
  obtain ⟨cur, fz, h⟩ := t ad ha
  by_cases e : ad.block = p.block
  · refine ⟨if p.spot.isSome then cur else cur.setIfInBounds p.off u, fz, ?_⟩
    unfold World.setCell
    simp only [Array.getElem?_modify, ← e, h, if_pos, Option.map_some]
  · exact ⟨cur, fz, (heap_setCell_other w p ad.block u e).trans h⟩

theorem typed_own {w : World} {base : Nat} {A : Option Addr} {n c : Nat} {ys : List Value} (h : w.ownsRow base 86 1 (.slice A n c) n ys) : Typed w A := fun ad ha => by
  rcases h.2 with ⟨he, _⟩ | ⟨g, cap, cur, he, _, hg, _⟩
  · injection he with he1
    rw [he1] at ha
    cases ha
  · injection he with he1
    rw [he1] at ha
    injection ha with ha
    subst ha
    exact ⟨cur, (0, 0), hg⟩

/-- An integer whose limbs lie at A, or nowhere. -/
def IsIntFrom (w w' : World) (A : Option Addr) (z : Int) (e : Ending) : Prop :=
  ∃ s A' n c', e = .returned (.agg #[.bool s, .slice A' n c']) ∧ (A' = A ∨ A' = none) ∧ IntAt w' (.agg #[.bool s, .slice A' n c']) z ∧ Below w.heap.size w w'

set_option maxHeartbeats 400000 in
theorem signed_from (b : Bool) (A : Option Addr) (c : Nat) (xs : List Nat) (w : World) (h : Nums w .u32 A xs) (ho : Lm.Ok B32 xs) (hl : xs.length ≤ 1000000) (hc : xs.length ≤ c) :
    Calls Tryd.prog 27 #[.bool b, .slice A xs.length c] w fun e w' => IsIntFrom w w' A (ofSign b (Lm.val B32 xs)) e := by
  go_enter Tryd.func27, Tryd.ntmps27
  go_wp2_with fail
  refine (trim_any A c xs _ (h.alloc _) hl hc).mono ?_
  rintro e w' ⟨rfl, n, rfl, hn, hz, hp⟩
  have HZ := Lib.hid (And.intro hz hp)
  clear hz hp
  by_cases h0 : 0 < n
  · have hne : ((n : Int) == 0) = false := by simp; omega
    go_wp2
    refine bodyPost_ret (v := .agg #[.bool b, .slice A n c]) (by simp [results, Tryd.results27, go_sem]) rfl ⟨b, A, n, c, rfl, .inl rfl, ?_, (Below.refl _ _).alloc (Nat.le_refl _) _⟩
    have hlim := (limbs_take (h.alloc (.cells #[.bool b, .slice A n c] 28)) ho hc hn HZ.out.1 HZ.out.2)
    have hlen : (xs.take n).length = n := by rw [List.length_take]; omega
    have hpos : 0 < Lm.val B32 xs := by
      rw [← hlim.2.2.2.2]
      exact Lm.val_pos B32_pos (by omega) hlim.2.2.2.1
    have hi := int_of b hlim hpos
    rw [hlen] at hi
    exact hi
  · obtain rfl : n = 0 := by omega
    go_wp2
    refine bodyPost_ret (v := .agg #[.bool false, .slice none 0 0]) (by simp [results, Tryd.results27, go_sem]) rfl ⟨false, none, 0, 0, rfl, .inr rfl, ?_, (Below.refl _ _).alloc (Nat.le_refl _) _⟩
    have hv : Lm.val B32 xs = 0 := by
      rw [← Lm.val_cut 0 (Nat.zero_le _) HZ.out.1]
      rfl
    have e : ofSign b 0 = 0 := by cases b <;> rfl
    rw [hv, e]
    exact int_zero _

/-- An integer whose limbs lie in a block of limbs. -/
def IsIntTyped (w w' : World) (z : Int) (e : Ending) : Prop :=
  ∃ s A n c, e = .returned (.agg #[.bool s, .slice A n c]) ∧ Typed w' A ∧ IntAt w' (.agg #[.bool s, .slice A n c]) z ∧ Below w.heap.size w w'

set_option maxRecDepth 100000 in
set_option maxHeartbeats 1000000 in
theorem Make_typed (b : Bool) (A : Option Addr) (c : Nat) (xs : List Nat) (w : World) (h : Nums w .u32 A xs) (ho : Lm.Ok B32 xs) (hl : xs.length ≤ 900000) (hc : xs.length ≤ c) :
    Calls Tryd.prog 22 #[.bool b, .slice A xs.length c] w fun e w' => IsIntTyped w w' (ofSign b (Lm.val B32 xs)) e := by
  have hr0 := Res.new w 28
  have H := Lib.hid hr0
  clear hr0
  have hn := h.alloc (.cells #[.bool false, .slice none 0 0] 28)
  go_enter Tryd.func22, Tryd.ntmps22
  go_wp2_with fail
  refine (copied_any A c xs _ hn (by omega) hc).mono ?_
  rintro e w1 ⟨k, ⟨A1, c1, rfl, hown, hb1⟩, hk, hz, hp⟩
  have hlim : Limbs w1 A1 c1 (xs.take k) (Lm.val B32 xs) := ⟨by obtain ⟨A2, c2, e2, hle⟩ := own_form hown; injection e2 with _ _ e3; omega, Nums.of_own hown rfl, ho.take k, top_take hk hp, Lm.val_cut k hk hz⟩
  have hty := typed_own hown
  have hlen : (xs.take k).length ≤ 1000000 := by rw [List.length_take]; omega
  clear hown hz hp
  obtain ⟨zs, hzs⟩ : ∃ zs, xs.take k = zs := ⟨_, rfl⟩
  rw [hzs] at hlim hlen ⊢
  have hsz : w.heap.size + 1 ≤ w1.heap.size := by have := hb1.size; simpa using this
  have k1 := H.out.step hb1 rfl (by simp)
  have hsf := signed_from b A1 c1 zs w1 hlim.2.1 hlim.2.2.1 hlen hlim.1
  rw [hlim.2.2.2.2] at hsf
  have HX := Lib.hid (And.intro hty (And.intro hlim (And.intro hzs (And.intro hk hsf))))
  clear hn hty hlim hzs hk hsf hlen
  go_wp2_with fail
  refine HX.out.2.2.2.2.mono ?_
  rintro e w2 ⟨b4, A4, n4, c4, rfl, hA4, hi4, hb2⟩
  have hty2 := HX.out.1.step hb2 rfl
  have hty4 : Typed w2 A4 := by
    rcases hA4 with rfl | rfl
    · exact hty2
    · exact Typed.none _
  have k2 := k1.step hb2 rfl (by omega)
  obtain ⟨b5, A5, c5, zs5, he5, hsg5, hl5⟩ := hi4
  have he6 := he5
  injection he6 with he6
  have q1 : b5 = b4 := by
    have := congrArg (fun a : Array Value => a[0]?) he6
    simp at this
    exact this.symm
  have q2 : Value.slice A4 n4 c4 = Value.slice A5 zs5.length c5 := by
    have := congrArg (fun a : Array Value => a[1]?) he6
    simp at this
    rw [this.1, this.2.1, this.2.2]
  injection q2 with q2 q3 q4
  subst q1 q2 q3 q4
  clear he5 he6
  have HY := Lib.hid (And.intro hty4 (And.intro hsg5 hl5))
  clear hty2 hty4 hA4 hsg5 hl5
  obtain ⟨⟨hr0, hr1⟩, hf0, hf1⟩ := id k2
  go_wp2
  have hst := res_stored k2 HY.out.2.1 HY.out.2.2 (below_then (below_then ((Below.refl _ _).alloc (Nat.le_refl _) _) hb1) hb2) (Nat.le_refl _)
  obtain ⟨v6, hv6, hi6, hb6⟩ := hst
  injection hv6 with hv6
  subst hv6
  refine bodyPost_ret (v := .agg #[.bool b5, .slice A4 zs5.length c4]) (by simp [results, Tryd.results22, go_sem, hr0, hr1]) rfl ?_
  exact ⟨b5, A4, zs5.length, c4, rfl, (HY.out.1.setCell _ _).setCell _ _, hi6, hb6⟩
end Go.Proofs.YtllkajlmfbikhaaDoor
