/- What made of the laws of layer 2 does for three numbers. -/
import Derived.Test.YtllkajlmfbikhaaDoorMake
import Derived.Deep.AppendLies
namespace Go.Proofs.YtllkajlmfbikhaaDoor
open Go.RowKit

theorem und_ints : Tryd.prog.underlying 29 = some (.slice 28) := by kernel_rfl
theorem info_int : Option.map (fun i => (i.zero, i.size, i.bytes)) (Tryd.prog.info? 28) = some (some (.agg #[.bool false, .slice none 0 0]), 2, 32) := by kernel_rfl

theorem cell_two_new (w : World) (a b : Value) (t : TypeId) : ∀ j u, [a, b][j]? = some u → (w.alloc (.cells #[a, b] t)).cell? ((⟨w.heap.size, 0, none⟩ : Addr).add j) = some u := by
  intro j u h
  match j, h with
  | 0, h => injection h with h; subst h; exact (cell2 w a b t).1
  | 1, h => injection h with h; subst h; exact (cell2 w a b t).2
  | _ + 2, h => simp at h

/-- Two cells that hold an integer; its limbs lie in a block of limbs. -/
def Pair (w : World) (u v : Value) (z : Int) : Prop := ∃ s A n c, u = .bool s ∧ v = .slice A n c ∧ Typed w A ∧ IntAt w (.agg #[.bool s, .slice A n c]) z
theorem Pair.step {W0 W w1 : World} {u v : Value} {z : Int} (t : Pair W0 u v z) (hb : Below W.heap.size W w1) (hh : W.heap = W0.heap) : Pair w1 u v z := by
  obtain ⟨s, A, n, c, hu, hv, ht, hi⟩ := t
  exact ⟨s, A, n, c, hu, hv, ht.step hb hh, hi.step hb hh⟩
theorem Pair.kept {w w' : World} {u v ov : Value} {z : Int} {base n : Nat} {L : List Value} (t : Pair w u v z) (ho : w.ownsRow base 28 2 ov n L) (hg : w.grownBy w' ov.ownBlock) : Pair w' u v z := by
  obtain ⟨s, A, n, c, hu, hv, ht, b, A1, c1, zs, he, hs, hl⟩ := t
  have q : Value.slice A n c = Value.slice A1 zs.length c1 := by
    injection he with he
    have := congrArg (fun a : Array Value => a[1]?) he
    simp at this
    rw [this.1, this.2.1, this.2.2]
  injection q with q1 q2 q3
  subst q1 q2 q3
  have hne : ∀ ad, A = some ad → some ad.block ≠ ov.ownBlock := by
    intro ad ha e
    obtain ⟨cur, fz, hh⟩ := ht ad ha
    rcases ho.2 with ⟨rfl, _⟩ | ⟨g, cap, cur2, rfl, _, hg2, _⟩
    · cases e
    · injection e with e
      have hh2 : w.heap[g]? = some (.cells cur 86 fz) := by rw [← show ad.block = g from e]; exact hh
      rw [hg2] at hh2
      injection hh2 with hh2
      injection hh2 with _ h3
      exact absurd h3 (by decide)
  have hlt : ∀ ad, A = some ad → ad.block < w.heap.size := by
    intro ad ha
    obtain ⟨cur, fz, hh⟩ := ht ad ha
    by_cases hl : ad.block < w.heap.size
    · exact hl
    · rw [Array.getElem?_eq_none (by omega)] at hh; cases hh
  have hk : ∀ ad, A = some ad → w'.heap[ad.block]? = w.heap[ad.block]? := fun ad ha => hg.block ad.block (hlt ad ha) (hne ad ha)
  refine ⟨s, A, zs.length, c, hu, hv, fun ad ha => ?_, b, A, c, zs, he, hs, hl.1, fun hn => ?_, hl.2.2⟩
  · obtain ⟨cur, fz, hh⟩ := ht ad ha
    exact ⟨cur, fz, (hk ad ha).trans hh⟩
  · obtain ⟨ad, ha, hlt2, hc⟩ := hl.2.1 hn
    exact ⟨ad, ha, Nat.lt_of_lt_of_le hlt2 hg.size, fun j hj => (World.cell?_of_block (by rw [block_of_add]; exact hk ad ha)).trans (hc j hj)⟩

/-- A number as plain data. -/
def Plain (w : World) (A : Option Addr) (c : Nat) (xs : List Nat) : Prop := Nums w .u32 A xs ∧ Lm.Ok B32 xs ∧ xs.length ≤ 8 ∧ xs.length ≤ c
theorem Plain.step {W0 W w1 : World} {A : Option Addr} {c : Nat} {xs : List Nat} (t : Plain W0 A c xs) (hb : Below W.heap.size W w1) (hh : W.heap = W0.heap) : Plain w1 A c xs := by
  have e : ∀ p, W.cell? p = W0.cell? p := fun p => by simp [World.cell?, hh]
  refine ⟨fun hn => ?_, t.2⟩
  obtain ⟨ad, ea, hlt, hc⟩ := t.1 hn
  rw [← hh] at hlt
  exact ⟨ad, ea, Nat.lt_of_lt_of_le hlt hb.size, fun j hj => ((hb.cell (by rw [block_of_add]; exact hlt)).trans (e _)).trans (hc j hj)⟩

/-- What has been made so far. -/
def Sofar (w : World) (z1 z2 z3 : Int) (i : Nat) (L : List Value) : Prop :=
  (i = 0 ∧ L = []) ∨ (i = 1 ∧ ∃ u1 v1, L = [u1, v1] ∧ Pair w u1 v1 z1) ∨ (i = 2 ∧ ∃ u1 v1 u2 v2, L = [u1, v1, u2, v2] ∧ Pair w u1 v1 z1 ∧ Pair w u2 v2 z2) ∨
    (i = 3 ∧ ∃ u1 v1 u2 v2 u3 v3, L = [u1, v1, u2, v2, u3, v3] ∧ Pair w u1 v1 z1 ∧ Pair w u2 v2 z2 ∧ Pair w u3 v3 z3)

/-- Three integers lie in the slice that is handed back. -/
def IsMade (w w' : World) (z1 z2 z3 : Int) (e : Ending) : Prop :=
  (∃ g c u1 v1 u2 v2 u3 v3, e = .returned (.slice (some ⟨g, 0, none⟩) 3 c) ∧ 3 ≤ c ∧ g < w'.heap.size ∧ w'.cell? ⟨g, 0, none⟩ = some u1 ∧ w'.cell? ⟨g, 1, none⟩ = some v1 ∧ w'.cell? ⟨g, 2, none⟩ = some u2 ∧ w'.cell? ⟨g, 3, none⟩ = some v2 ∧ w'.cell? ⟨g, 4, none⟩ = some u3 ∧ w'.cell? ⟨g, 5, none⟩ = some v3 ∧
    Pair w' u1 v1 z1 ∧ Pair w' u2 v2 z2 ∧ Pair w' u3 v3 z3) ∧ Below w.heap.size w w'

theorem own_three {w : World} {base : Nat} {e : TypeId} {v : Value} {u1 v1 u2 v2 u3 v3 : Value} (h : w.ownsRow base e 2 v 3 [u1, v1, u2, v2, u3, v3]) :
    ∃ g c, v = .slice (some ⟨g, 0, none⟩) 3 c ∧ 3 ≤ c ∧ g < w.heap.size ∧ w.cell? ⟨g, 0, none⟩ = some u1 ∧ w.cell? ⟨g, 1, none⟩ = some v1 ∧ w.cell? ⟨g, 2, none⟩ = some u2 ∧ w.cell? ⟨g, 3, none⟩ = some v2 ∧ w.cell? ⟨g, 4, none⟩ = some u3 ∧ w.cell? ⟨g, 5, none⟩ = some v3 := by
  rcases h.2 with ⟨_, h0⟩ | ⟨g, cap, cur, rfl, hb, hg, hc, _⟩
  · omega
  · refine ⟨g, cap, rfl, hc, (h.lt g rfl).2, ?_⟩
    have f := fun j hj => h.cellAt j hj
    exact ⟨f 0 (by decide), f 1 (by decide), f 2 (by decide), f 3 (by decide), f 4 (by decide), f 5 (by decide)⟩

set_option maxRecDepth 100000 in
set_option maxHeartbeats 2000000 in
theorem lmade_any (g : Nat) (s1 : Bool) (A1 : Option Addr) (c1 : Nat) (xs1 : List Nat) (s2 : Bool) (A2 : Option Addr) (c2 : Nat) (xs2 : List Nat) (s3 : Bool) (A3 : Option Addr) (c3 : Nat) (xs3 : List Nat) (w : World) (h : Three w g s1 A1 xs1.length c1 s2 A2 xs2.length c2 s3 A3 xs3.length c3) (h1 : Plain w A1 c1 xs1) (h2 : Plain w A2 c2 xs2) (h3 : Plain w A3 c3 xs3) :
    Calls Tryd.prog 6 #[.slice (some ⟨g, 0, none⟩) 3 3] w fun e w' => IsMade w w' (ofSign s1 (Lm.val B32 xs1)) (ofSign s2 (Lm.val B32 xs2)) (ofSign s3 (Lm.val B32 xs3)) e := by
  obtain ⟨i0, hi0, hz0, hz1, hz2⟩ := info_parts info_int
  have HI := Lib.hid (And.intro hi0 (And.intro hz0 (And.intro hz1 hz2)))
  clear hi0 hz0 hz1 hz2
  have H := Lib.hid (And.intro h (And.intro h1 (And.intro h2 h3)))
  clear h h1 h2 h3
  obtain ⟨z1, hz1⟩ : ∃ z, ofSign s1 (Lm.val B32 xs1) = z := ⟨_, rfl⟩
  obtain ⟨z2, hz2⟩ : ∃ z, ofSign s2 (Lm.val B32 xs2) = z := ⟨_, rfl⟩
  obtain ⟨z3, hz3⟩ : ∃ z, ofSign s3 (Lm.val B32 xs3) = z := ⟨_, rfl⟩
  rw [hz1, hz2, hz3]
  have HZ := Lib.hid (And.intro hz1 (And.intro hz2 hz3))
  clear hz1 hz2 hz3
  go_enter Tryd.func6, Tryd.ntmps6
  go_wp2
  go_loopw [3, 8] (fun ov iv wr => ∃ (i : Nat) (L : List Value), iv = .int .i64 i ∧ i ≤ 3 ∧ wr.ownsRow w.heap.size 28 2 ov i L ∧ Sofar wr z1 z2 z3 i L ∧ Below w.heap.size w wr) (fun _ iv _ => 4 - (intOf iv).toNat)
  case atStart => exact ⟨0, [], rfl, by omega, World.ownsRow_nil _ _ _ _, .inl ⟨rfl, rfl⟩, Below.refl _ _⟩
  case round =>
    obtain ⟨i, L, rfl, hi, hown, hso, hbr⟩ := hrel
    have ht := H.out.1.step hbr rfl
    obtain ⟨t0, ta, tb, tc, td, te, tf⟩ := id ht
    have HP := Lib.hid (And.intro (H.out.2.1.step hbr rfl) (And.intro (H.out.2.2.1.step hbr rfl) (And.intro (H.out.2.2.2.step hbr rfl) (And.intro hown (And.intro hso hbr)))))
    clear hown hso
    rcases (show i = 0 ∨ i = 1 ∨ i = 2 ∨ i = 3 from by omega) with rfl | rfl | rfl | rfl
    · have hso := HP.out.2.2.2.2.1
      rcases hso with ⟨_, rfl⟩ | ⟨h0, _⟩ | ⟨h0, _⟩ | ⟨h0, _⟩ <;> try omega
      have hown := HP.out.2.2.2.1
      have hmk := Make_typed s1 A1 c1 xs1 (wr.alloc (.cells #[.bool s1, .slice A1 xs1.length c1] 24)) (HP.out.1.1.alloc _) HP.out.1.2.1 (Nat.le_trans HP.out.1.2.2.1 (by decide)) HP.out.1.2.2.2
      rw [HZ.out.1] at hmk
      have HM := Lib.hid hmk
      have hL := Lib.hid hown
      clear hmk hown
      go_wp2_with fail
      refine HM.out.mono ?_
      rintro e w2 ⟨b, A, n, c, rfl, hty, hin, hb2⟩
      have hr2 : Below wr.heap.size wr w2 := below_then ((Below.refl _ _).alloc (Nat.le_refl _) _) hb2
      have ho2 : w2.ownsRow w.heap.size 28 2 _ 0 _ := hL.out.kept (row := none) ⟨hr2.os, hr2.tape, hr2.output, hr2.size, fun k hk _ => hr2.block k hk⟩ (Classical.em _)
      have hpn : Pair w2 (.bool b) (.slice A n c) _ := ⟨b, A, n, c, rfl, rfl, hty, hin⟩
      have hba : Below w2.heap.size w2 (w2.alloc (.cells #[.bool b, .slice A n c] 28)) := (Below.refl _ _).alloc (Nat.le_refl _) _
      have hsz2 : w.heap.size ≤ w2.heap.size := Nat.le_trans hbr.size hr2.size
      have HY := Lib.hid (And.intro hpn hin)
      clear hin hpn
      go_wp2_with (at_builtin; refine wpList_append_own _ rfl _ _ 29 rfl w.heap.size 28 i0 (.agg #[.bool false, .slice none 0 0]) 2 32 und_ints HI.out.1 HI.out.2.1 HI.out.2.2.1 HI.out.2.2.2 rfl (by decide) _ 0 [] rfl (ho2.alloc _) ⟨w2.heap.size, 0, none⟩ 1 1 [.bool b, .slice A n c] rfl rfl (cell_two_new _ _ _ _) (by simp [Value.oneCell']) (by decide) (by decide) (by simp; omega) ?_; intro v3 w3 hown1 hg1 _)
      have hpn := HY.out.1
      go_roundw
      case rel =>
        have hbn : Below w.heap.size w w3 := ((hbr.trans (hr2.mono hbr.size)).trans (hba.mono hsz2)).grown hg1 (by simp; omega) (fun k hk => (hL.out.lt k hk).1)
        exact ⟨1, _, rfl, by omega, hown1, .inr (.inl ⟨rfl, _, _, rfl, ((hpn.step hba rfl).kept (ho2.alloc _) hg1)⟩), hbn⟩
      case measure => simp [intOf]
    · have hso := HP.out.2.2.2.2.1
      rcases hso with ⟨h0, _⟩ | ⟨_, u1, v1, rfl, hp1⟩ | ⟨h0, _⟩ | ⟨h0, _⟩ <;> try omega
      have hown := HP.out.2.2.2.1
      have hmk := Make_typed s2 A2 c2 xs2 (wr.alloc (.cells #[.bool s2, .slice A2 xs2.length c2] 24)) (HP.out.2.1.1.alloc _) HP.out.2.1.2.1 (Nat.le_trans HP.out.2.1.2.2.1 (by decide)) HP.out.2.1.2.2.2
      rw [HZ.out.2.1] at hmk
      have HM := Lib.hid hmk
      have hL := Lib.hid hown
      clear hmk hown
      go_wp2_with fail
      refine HM.out.mono ?_
      rintro e w2 ⟨b, A, n, c, rfl, hty, hin, hb2⟩
      have hr2 : Below wr.heap.size wr w2 := below_then ((Below.refl _ _).alloc (Nat.le_refl _) _) hb2
      have ho2 : w2.ownsRow w.heap.size 28 2 _ 1 _ := hL.out.kept (row := none) ⟨hr2.os, hr2.tape, hr2.output, hr2.size, fun k hk _ => hr2.block k hk⟩ (Classical.em _)
      have hpn : Pair w2 (.bool b) (.slice A n c) _ := ⟨b, A, n, c, rfl, rfl, hty, hin⟩
      have hba : Below w2.heap.size w2 (w2.alloc (.cells #[.bool b, .slice A n c] 28)) := (Below.refl _ _).alloc (Nat.le_refl _) _
      have hsz2 : w.heap.size ≤ w2.heap.size := Nat.le_trans hbr.size hr2.size
      have HY := Lib.hid (And.intro hpn hin)
      clear hin hpn
      go_wp2_with (at_builtin; refine wpList_append_own _ rfl _ _ 29 rfl w.heap.size 28 i0 (.agg #[.bool false, .slice none 0 0]) 2 32 und_ints HI.out.1 HI.out.2.1 HI.out.2.2.1 HI.out.2.2.2 rfl (by decide) _ 1 [u1, v1] rfl (ho2.alloc _) ⟨w2.heap.size, 0, none⟩ 1 1 [.bool b, .slice A n c] rfl rfl (cell_two_new _ _ _ _) (by simp [Value.oneCell']) (by decide) (by decide) (by simp; omega) ?_; intro v3 w3 hown1 hg1 _)
      have hpn := HY.out.1
      go_roundw
      case rel =>
        have hbn : Below w.heap.size w w3 := ((hbr.trans (hr2.mono hbr.size)).trans (hba.mono hsz2)).grown hg1 (by simp; omega) (fun k hk => (hL.out.lt k hk).1)
        exact ⟨2, _, rfl, by omega, hown1, .inr (.inr (.inl ⟨rfl, _, _, _, _, rfl, ((hp1.step hr2 rfl).step hba rfl).kept (ho2.alloc _) hg1, ((hpn.step hba rfl).kept (ho2.alloc _) hg1)⟩)), hbn⟩
      case measure => simp [intOf]
    · have hso := HP.out.2.2.2.2.1
      rcases hso with ⟨h0, _⟩ | ⟨h0, _⟩ | ⟨_, u1, v1, u2, v2, rfl, hp1, hp2⟩ | ⟨h0, _⟩ <;> try omega
      have hown := HP.out.2.2.2.1
      have hmk := Make_typed s3 A3 c3 xs3 (wr.alloc (.cells #[.bool s3, .slice A3 xs3.length c3] 24)) (HP.out.2.2.1.1.alloc _) HP.out.2.2.1.2.1 (Nat.le_trans HP.out.2.2.1.2.2.1 (by decide)) HP.out.2.2.1.2.2.2
      rw [HZ.out.2.2] at hmk
      have HM := Lib.hid hmk
      have hL := Lib.hid hown
      clear hmk hown
      go_wp2_with fail
      refine HM.out.mono ?_
      rintro e w2 ⟨b, A, n, c, rfl, hty, hin, hb2⟩
      have hr2 : Below wr.heap.size wr w2 := below_then ((Below.refl _ _).alloc (Nat.le_refl _) _) hb2
      have ho2 : w2.ownsRow w.heap.size 28 2 _ 2 _ := hL.out.kept (row := none) ⟨hr2.os, hr2.tape, hr2.output, hr2.size, fun k hk _ => hr2.block k hk⟩ (Classical.em _)
      have hpn : Pair w2 (.bool b) (.slice A n c) _ := ⟨b, A, n, c, rfl, rfl, hty, hin⟩
      have hba : Below w2.heap.size w2 (w2.alloc (.cells #[.bool b, .slice A n c] 28)) := (Below.refl _ _).alloc (Nat.le_refl _) _
      have hsz2 : w.heap.size ≤ w2.heap.size := Nat.le_trans hbr.size hr2.size
      have HY := Lib.hid (And.intro hpn hin)
      clear hin hpn
      go_wp2_with (at_builtin; refine wpList_append_own _ rfl _ _ 29 rfl w.heap.size 28 i0 (.agg #[.bool false, .slice none 0 0]) 2 32 und_ints HI.out.1 HI.out.2.1 HI.out.2.2.1 HI.out.2.2.2 rfl (by decide) _ 2 [u1, v1, u2, v2] rfl (ho2.alloc _) ⟨w2.heap.size, 0, none⟩ 1 1 [.bool b, .slice A n c] rfl rfl (cell_two_new _ _ _ _) (by simp [Value.oneCell']) (by decide) (by decide) (by simp; omega) ?_; intro v3 w3 hown1 hg1 _)
      have hpn := HY.out.1
      go_roundw
      case rel =>
        have hbn : Below w.heap.size w w3 := ((hbr.trans (hr2.mono hbr.size)).trans (hba.mono hsz2)).grown hg1 (by simp; omega) (fun k hk => (hL.out.lt k hk).1)
        exact ⟨3, _, rfl, by omega, hown1, .inr (.inr (.inr ⟨rfl, _, _, _, _, _, _, rfl, ((hp1.step hr2 rfl).step hba rfl).kept (ho2.alloc _) hg1, ((hp2.step hr2 rfl).step hba rfl).kept (ho2.alloc _) hg1, ((hpn.step hba rfl).kept (ho2.alloc _) hg1)⟩)), hbn⟩
      case measure => simp [intOf]
    · have hso := HP.out.2.2.2.2.1
      rcases hso with ⟨h0, _⟩ | ⟨h0, _⟩ | ⟨h0, _⟩ | ⟨_, u1, v1, u2, v2, u3, v3, rfl, hp1, hp2, hp3⟩ <;> try omega
      have hown := HP.out.2.2.2.1
      obtain ⟨g1, cc, rfl, hcc, hlt1, f0, f1, f2, f3, f4, f5⟩ := own_three hown
      have HY := Lib.hid (And.intro hp1 (And.intro hp2 (And.intro hp3 (And.intro f0 (And.intro f1 (And.intro f2 (And.intro f3 (And.intro f4 f5))))))))
      clear hown hp1 hp2 hp3 f0 f1 f2 f3 f4 f5
      go_wp2
      go_ret
      exact ⟨⟨g1, cc, u1, v1, u2, v2, u3, v3, rfl, hcc, hlt1, HY.out.2.2.2.1, HY.out.2.2.2.2.1, HY.out.2.2.2.2.2.1, HY.out.2.2.2.2.2.2.1, HY.out.2.2.2.2.2.2.2.1, HY.out.2.2.2.2.2.2.2.2, HY.out.1, HY.out.2.1, HY.out.2.2.1⟩, hbr⟩
end Go.Proofs.YtllkajlmfbikhaaDoor
