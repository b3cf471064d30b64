/- What Limbs, Neg, Abs, Make, New, word of package integer do. -/
import Derived.Test.YtagmdeabneapaaaSigned
import Derived.Deep.RegionHeld3
namespace Go.Proofs.Ytagmdeabneapaaa
open Go.RowKit

/-- The sign and the limbs are handed back. -/
def IsLimbs (w w' : World) (z : Int) (e : Ending) : Prop :=
  ∃ b A c zs, e = .returned (.tuple #[.bool b, .slice A zs.length c]) ∧ SignOf b z ∧ Limbs w' A c zs z.natAbs ∧ Below w.heap.size w w'

/-- A copy of limbs: the copy's own are all of them. -/
theorem copied_limbs {w w' : World} {A : Option Addr} {c n : Nat} {zs : List Nat} {e : Ending} (h : Limbs w A c zs n) (hk : Copied w w' zs e) :
    ∃ A' c', e = .returned (.slice A' zs.length c') ∧ w'.ownsRow w.heap.size 99 1 (.slice A' zs.length c') zs.length (cellsOf .u32 zs) ∧ Limbs w' A' c' zs n ∧ Below w.heap.size w w' := by
  obtain ⟨m, ⟨A', c', rfl, hown, hb⟩, hm, hz, hp⟩ := hk
  have hall : m = zs.length := by
    rcases Nat.lt_or_ge m zs.length with hlt | hge
    · exact absurd (hz (zs.length - 1) (by omega) (by omega)) (Lm.last_of_top (by omega) h.2.2.2.1)
    · omega
  subst hall
  rw [List.take_length] at hown ⊢
  refine ⟨A', c', rfl, hown, ⟨?_, Nums.of_own hown rfl, h.2.2.1, h.2.2.2.1, h.2.2.2.2⟩, hb⟩
  obtain ⟨A2, c2, e2, hle⟩ := own_form hown
  injection e2 with _ _ e3
  omega

theorem Limbs.len {w : World} {A : Option Addr} {c n m : Nat} {zs : List Nat} (h : Limbs w A c zs n) (hs : n < B32 ^ m) : zs.length ≤ m := by
  rcases Nat.lt_or_ge m zs.length with hlt | hge
  · have h1 := Lm.val_ge (b := B32) (Nat.lt_of_le_of_lt (Nat.zero_le _) hlt) h.2.2.2.1
    rw [h.2.2.2.2] at h1
    have h2 : B32 ^ m ≤ B32 ^ (zs.length - 1) := Nat.pow_le_pow_right B32_pos (by omega)
    omega
  · exact hge

theorem below_then {w W w' : World} (h1 : Below w.heap.size w W) (h2 : Below W.heap.size W w') : Below w.heap.size w w' := h1.trans (h2.mono h1.size)

theorem cell2 (w : World) (a b : Value) (t : TypeId) : (w.alloc (.cells #[a, b] t)).cell? ⟨w.heap.size, 0, none⟩ = some a ∧ (w.alloc (.cells #[a, b] t)).cell? ⟨w.heap.size, 1, none⟩ = some b := by
  constructor <;> go_simp

set_option maxHeartbeats 1000000 in
theorem Limbs_any (v : Value) (z : Int) (m : Nat) (w : World) (h : IntAt w v z) (hs : z.natAbs < B32 ^ m) (hm : m ≤ 1000000) :
    Calls Try.prog 74 #[v] w fun e w' => IsLimbs w w' z e := by
  obtain ⟨b, A, c, zs, rfl, hsg, hlim⟩ := h
  have hlen : zs.length ≤ 1000000 := Nat.le_trans (hlim.len hs) hm
  go_enter Try.func74, Try.ntmps74
  go_wp2_with fail
  go_region_held3 (fun w' => w'.cell? ⟨w.heap.size, 0, none⟩ = some (.bool b) ∧ w'.cell? ⟨w.heap.size, 1, none⟩ = some (.slice A zs.length c))
    (first | go_keep | (exact ⟨(hb1.cell (by simp)).trans (cell2 _ _ _ _).1, (hb1.cell (by simp)).trans (cell2 _ _ _ _).2⟩))
    ((go_at_call 85; refine (copied_any A c zs _ ((hlim.2.1.alloc _).drew) hlen hlim.1).mono ?_; intro e w1 hk1; obtain ⟨A', c', rfl, hown1, hlim1, hb1⟩ := copied_limbs (by exact ⟨hlim.1, (hlim.2.1.alloc _).drew, hlim.2.2⟩) hk1))
  go_wp2
  go_ret2
  exact ⟨b, A', c', zs, rfl, hsg, hlim1, below_then (((Below.refl _ _).alloc (Nat.le_refl _) _).drew) hb1⟩

/-- What the region that ends a method reads and writes: the receiver's two fields at h, the result's at r. -/
def Held (w : World) (h r : Nat) (a b c d : Value) : Prop :=
  w.cell? ⟨h, 0, none⟩ = some a ∧ w.cell? ⟨h, 1, none⟩ = some b ∧ w.cell? ⟨r, 0, none⟩ = some c ∧ w.cell? ⟨r, 1, none⟩ = some d ∧ w.frozen? ⟨r, 0, none⟩ = false ∧ w.frozen? ⟨r, 1, none⟩ = false
theorem held_below {w w' : World} {h r : Nat} {a b c d : Value} (k : Held w h r a b c d) (hb : Below w.heap.size w w') (hh : h < w.heap.size) (hr : r < w.heap.size) : Held w' h r a b c d :=
  ⟨(hb.cell (p := ⟨h, 0, none⟩) hh).trans k.1, (hb.cell (p := ⟨h, 1, none⟩) hh).trans k.2.1, (hb.cell (p := ⟨r, 0, none⟩) hr).trans k.2.2.1, (hb.cell (p := ⟨r, 1, none⟩) hr).trans k.2.2.2.1,
    (hb.frozen (p := ⟨r, 0, none⟩) hr).trans k.2.2.2.2.1, (hb.frozen (p := ⟨r, 1, none⟩) hr).trans k.2.2.2.2.2⟩
theorem held_new (w : World) (a b c d : Value) (t : TypeId) : Held ((w.alloc (.cells #[a, b] t)).alloc (.cells #[c, d] t)) w.heap.size (w.heap.size + 1) a b c d := by
  unfold Held
  refine ⟨?_, ?_, ?_, ?_, ?_, ?_⟩ <;> go_simp

theorem held_first {w w1 : World} {a b c d : Value} {t : TypeId} (hb : Below ((w.alloc (.cells #[a, b] t)).alloc (.cells #[c, d] t)).drew.heap.size ((w.alloc (.cells #[a, b] t)).alloc (.cells #[c, d] t)).drew w1) :
    Held w1 w.heap.size (w.heap.size + 1) a b c d := by
  have h := held_new w a b c d t
  have h' : Held ((w.alloc (.cells #[a, b] t)).alloc (.cells #[c, d] t)).drew w.heap.size (w.heap.size + 1) a b c d := h
  refine held_below h' hb ?_ ?_
  · show w.heap.size < ((w.alloc (.cells #[a, b] t)).alloc (.cells #[c, d] t)).heap.size
    simp; omega
  · show w.heap.size + 1 < ((w.alloc (.cells #[a, b] t)).alloc (.cells #[c, d] t)).heap.size
    simp

theorem Nums.store {w : World} {k : IntKind} {A : Option Addr} {xs : List Nat} (h : Nums w k A xs) {p : Addr} {u : Value} (hp : w.cell? p = some u) (hu : ∀ n, u ≠ .int k n) (x : Value) : Nums (w.setCell p x) k A xs := fun hn => by
  obtain ⟨ad, e, hb, hc⟩ := h hn
  refine ⟨ad, e, by simpa [World.setCell] using hb, fun j hj => ?_⟩
  rw [← hc j hj]
  refine World.cell?_setCell_other w p _ x (fun e => ?_)
  subst e
  rw [hc j hj] at hp
  injection hp with hp
  exact hu _ hp.symm

/-- The result lies in its variable: what was made is as it was. -/
theorem int_stored {w w2 : World} {h r : Nat} {a b : Value} {s : Bool} {A : Option Addr} {c : Nat} {zs : List Nat} {z : Int} (hk : Held w2 h r a b (.bool false) (.slice none 0 0)) (hs : SignOf s z) (hl : Limbs w2 A c zs z.natAbs)
    (hb : Below w.heap.size w w2) (hr : w.heap.size ≤ r) :
    IsInt w ((w2.setCell ⟨r, 0, none⟩ (.bool s)).setCell ⟨r, 1, none⟩ (.slice A zs.length c)) z (.returned (.agg #[.bool s, .slice A zs.length c])) := by
  refine ⟨_, rfl, ⟨s, A, c, zs, rfl, hs, hl.1, ?_, hl.2.2⟩, (hb.setCell (p := ⟨r, 0, none⟩) hr _).setCell (p := ⟨r, 1, none⟩) hr _⟩
  refine (hl.2.1.store hk.2.2.1 (fun n e => by cases e) _).store (u := .slice none 0 0) ?_ (fun n e => by cases e) _
  rw [World.cell?_setCell_other _ _ _ _ (by simp)]
  exact hk.2.2.2.1

theorem neg_sign {z : Int} {b : Bool} (hb : SignOf b z) : ofSign (!b) z.natAbs = -z := by
  unfold SignOf at hb
  subst hb
  unfold ofSign
  by_cases h : z < 0 <;> simp [h] <;> omega

set_option maxHeartbeats 1000000 in
theorem Neg_any (v : Value) (z : Int) (m : Nat) (w : World) (h : IntAt w v z) (hs : z.natAbs < B32 ^ m) (hm : m ≤ 1000000) :
    Calls Try.prog 34 #[v] w fun e w' => IsInt w w' (-z) e := by
  obtain ⟨b, A, c, zs, rfl, hsg, hlim⟩ := h
  have hlen : zs.length ≤ 1000000 := Nat.le_trans (hlim.len hs) hm
  go_enter Try.func34, Try.ntmps34
  go_wp2_with fail
  go_region_held3 (fun w' => w'.cell? ⟨w.heap.size, 0, none⟩ = some (.bool b) ∧ w'.cell? ⟨w.heap.size, 1, none⟩ = some (.slice A zs.length c))
    (first | go_keep | exact ⟨hk1.1, hk1.2.1⟩)
    ((first | (go_at_call 85; refine (copied_any A c zs _ (((hlim.2.1.alloc _).alloc _).drew) hlen hlim.1).mono ?_; intro e w1 hc1; obtain ⟨A', c', rfl, hown1, hlim1, hb1⟩ := copied_limbs (by exact ⟨hlim.1, ((hlim.2.1.alloc _).alloc _).drew, hlim.2.2⟩) hc1; have hk1 := held_first hb1) | (go_at_call 70; refine (signed_to (!b) A' c' zs (-z) w1 hlim1.2.1 hlim1.2.2.1 hlen hlim1.1 (by rw [hlim1.2.2.2.2]; exact neg_sign hsg)).mono ?_; rintro e w2 ⟨v2, rfl, ⟨b2, A2, c2, zs2, rfl, hsg2, hlim2⟩, hb2⟩; have hk2 := held_below hk1 hb2 (by have := hb1.size; simp at this; omega) (by have := hb1.size; simp at this; omega); obtain ⟨hd0, hd1, hd2, hd3, hd4, hd5⟩ := id hk2)))
  go_wp2
  refine bodyPost_ret (v := .agg #[.bool b2, .slice A2 zs2.length c2]) (by simp [results, Try.results34, go_sem, hd2, hd3]) rfl ?_
  exact int_stored hk2 hsg2 hlim2 (below_then (below_then ((((Below.refl _ _).alloc (Nat.le_refl _) _).alloc (by simp) _).drew) hb1) hb2) (by simp)
end Go.Proofs.Ytagmdeabneapaaa
