/- What made of the laws of layer 2 does for any numbers of at most 8 limbs. -/
import Derived.Test.YtllkajlmfbikhaaDoorMade
import Derived.Test.YtllkajlmfbikhaaDoorShortN
namespace Go.Proofs.YtllkajlmfbikhaaDoor
open Go.RowKit
set_option linter.unusedSimpArgs false

/-- The numbers l as plain data are the integers zs. -/
def Sources (w : World) (l : List NVal) (zs : List Int) : Prop :=
  l.length = zs.length ∧ ∀ (i : Nat) (x : NVal) (z : Int), l[i]? = some x → zs[i]? = some z → ∃ xs, x.n = xs.length ∧ Plain w x.A x.c xs ∧ ofSign x.s (Lm.val B32 xs) = z
theorem Sources.step {W0 W w1 : World} {l : List NVal} {zs : List Int} (t : Sources W0 l zs) (hb : Below W.heap.size W w1) (hh : W.heap = W0.heap) : Sources w1 l zs :=
  ⟨t.1, fun i x z hx hz => by obtain ⟨xs, h1, h2, h3⟩ := t.2 i x z hx hz; exact ⟨xs, h1, h2.step hb hh, h3⟩⟩
/-- The cells L hold the integers zs, two cells each. -/
def Pairs (w : World) (L : List Value) (zs : List Int) : Prop :=
  L.length = 2 * zs.length ∧ ∀ (i : Nat) (z : Int), zs[i]? = some z → ∃ u v, L[2 * i]? = some u ∧ L[2 * i + 1]? = some v ∧ Pair w u v z
theorem Pairs.snoc {w w' : World} {L : List Value} {zs : List Int} {u v : Value} {z : Int} (t : Pairs w L zs) (hk : ∀ u v z, Pair w u v z → Pair w' u v z) (h : Pair w' u v z) : Pairs w' (L ++ [u, v]) (zs ++ [z]) := by
  refine ⟨by simp [t.1]; omega, fun i y hy => ?_⟩
  rw [List.getElem?_append] at hy
  by_cases hi : i < zs.length
  · rw [if_pos hi] at hy
    obtain ⟨a, b, h1, h2, h3⟩ := t.2 i y hy
    refine ⟨a, b, ?_, ?_, hk _ _ _ h3⟩
    · rw [List.getElem?_append, if_pos (by rw [t.1]; omega)]; exact h1
    · rw [List.getElem?_append, if_pos (by rw [t.1]; omega)]; exact h2
  · rw [if_neg hi] at hy
    have e : i - zs.length = 0 := by
      rcases Nat.eq_zero_or_pos (i - zs.length) with e | e
      · exact e
      · rw [List.getElem?_eq_none (by simp; omega)] at hy; cases hy
    rw [e] at hy
    have hz : z = y := by simpa using hy
    subst hz
    have e2 : i = zs.length := by omega
    subst e2
    refine ⟨u, v, ?_, ?_, h⟩
    · rw [List.getElem?_append, if_neg (by rw [t.1]; omega), t.1, Nat.sub_self]; rfl
    · rw [List.getElem?_append, if_neg (by rw [t.1]; omega), t.1, show 2 * zs.length + 1 - 2 * zs.length = 1 by omega]; rfl
/-- The integers zs lie in the slice that is handed back. -/
def IsMadeN (w w' : World) (zs : List Int) (e : Ending) : Prop :=
  ∃ g c, e = .returned (.slice (some ⟨g, 0, none⟩) zs.length c) ∧ zs.length ≤ c ∧ g < w'.heap.size ∧ (∀ (i : Nat) (z : Int), zs[i]? = some z → ∃ u v, w'.cell? ⟨g, 2 * i, none⟩ = some u ∧ w'.cell? ⟨g, 2 * i + 1, none⟩ = some v ∧ Pair w' u v z) ∧ Below w.heap.size w w'
theorem own_pairs {w : World} {base n : Nat} {e : TypeId} {v : Value} {L : List Value} {zs : List Int} (h : w.ownsRow base e 2 v n L) (hp : Pairs w L zs) (hn : n = zs.length) (h0 : 0 < n) :
    ∃ g c, v = .slice (some ⟨g, 0, none⟩) n c ∧ n ≤ c ∧ g < w.heap.size ∧ (∀ (i : Nat) (z : Int), zs[i]? = some z → ∃ u v, w.cell? ⟨g, 2 * i, none⟩ = some u ∧ w.cell? ⟨g, 2 * i + 1, none⟩ = some v ∧ Pair w u v z) := by
  rcases h.2 with ⟨_, h0'⟩ | ⟨g, cap, cur, rfl, hb, hg, hc, _⟩
  · omega
  · refine ⟨g, cap, rfl, hc, (h.lt g rfl).2, fun i z hz => ?_⟩
    obtain ⟨a, b, h1, h2, h3⟩ := hp.2 i z hz
    have hi : i < zs.length := by
      rcases Nat.lt_or_ge i zs.length with h | h
      · exact h
      · rw [List.getElem?_eq_none h] at hz; cases hz
    have hL : L.length = 2 * zs.length := hp.1
    refine ⟨a, b, ?_, ?_, h3⟩
    · rw [← h1]; exact h.cellAt (2 * i) (by omega)
    · rw [← h2]; exact h.cellAt (2 * i + 1) (by omega)

set_option maxRecDepth 100000 in
set_option maxHeartbeats 2000000 in
theorem madeN_any (g : Nat) (l : List NVal) (zs : List Int) (w : World) (h : NRow w g l) (hs : Sources w l zs) (h0 : 0 < l.length) (hlen : l.length ≤ 1000) :
    Calls Tryd.prog 6 #[.slice (some ⟨g, 0, none⟩) l.length l.length] w fun e w' => IsMadeN w w' zs e := by
  obtain ⟨i0, hi0, hz0, hz1, hz2⟩ := info_parts info_int
  have HI := Lib.hid (And.intro hi0 (And.intro hz0 (And.intro hz1 hz2)))
  clear hi0 hz0 hz1 hz2
  have H := Lib.hid (And.intro h hs)
  clear h hs
  go_enter Tryd.func6, Tryd.ntmps6
  go_wp2
  go_loopw [3, 8] (fun ov iv wr => ∃ (i : Nat) (L : List Value), iv = .int .i64 i ∧ i ≤ l.length ∧ wr.ownsRow w.heap.size 28 2 ov i L ∧ Pairs wr L (zs.take i) ∧ Below w.heap.size w wr) (fun _ iv _ => l.length + 1 - (intOf iv).toNat)
  case atStart => exact ⟨0, [], rfl, Nat.zero_le _, World.ownsRow_nil _ _ _ _, ⟨by simp, fun i z hz => by simp at hz⟩, Below.refl _ _⟩
  case round =>
    obtain ⟨i, L, rfl, hi, hown, hso, hbr⟩ := hrel
    by_cases hlt : i < l.length
    · obtain ⟨x, hx⟩ : ∃ x, l[i]? = some x := ⟨_, List.getElem?_eq_getElem hlt⟩
      obtain ⟨z, hz⟩ : ∃ z, zs[i]? = some z := ⟨_, List.getElem?_eq_getElem (by rw [← H.out.2.1]; exact hlt)⟩
      obtain ⟨ta, tb⟩ := (H.out.1.step hbr rfl).2 i x hx
      obtain ⟨xs, hn, hpl, hval⟩ := (H.out.2.step hbr rfl).2 i x z hx hz
      obtain ⟨s, A, n, c⟩ := x
      simp only at ta tb hn hpl hval
      subst hn
      have htake : zs.take (i + 1) = zs.take i ++ [z] := by
        rw [List.getElem?_eq_some_iff] at hz
        obtain ⟨hz1, hz2⟩ := hz
        rw [List.take_succ_eq_append_getElem hz1, hz2]
      have hmk := Make_typed s A c xs (wr.alloc (.cells #[.bool s, .slice A xs.length c] 24)) (hpl.1.alloc _) hpl.2.1 (Nat.le_trans hpl.2.2.1 (by decide)) hpl.2.2.2
      rw [hval] at hmk
      have i0' : (0 : Int) ≤ (i : Int) := Int.natCast_nonneg i
      have i1' : (i : Int) < (l.length : Int) := by omega
      have HM := Lib.hid (And.intro hmk (And.intro htake (And.intro hown (And.intro hso hbr))))
      clear hmk hown hso hx hz hpl hval htake
      go_wp2_with fail
      refine HM.out.1.mono ?_
      rintro e w2 ⟨b, A', n', c', rfl, hty, hin, hb2⟩
      have hr2 : Below wr.heap.size wr w2 := below_then ((Below.refl _ _).alloc (Nat.le_refl _) _) hb2
      have ho2 : w2.ownsRow w.heap.size 28 2 _ i _ := HM.out.2.2.1.kept (row := none) ⟨hr2.os, hr2.tape, hr2.output, hr2.size, fun k hk _ => hr2.block k hk⟩ (Classical.em _)
      have hpn : Pair w2 (.bool b) (.slice A' n' c') z := ⟨b, A', n', c', rfl, rfl, hty, hin⟩
      have hba : Below w2.heap.size w2 (w2.alloc (.cells #[.bool b, .slice A' n' c'] 28)) := (Below.refl _ _).alloc (Nat.le_refl _) _
      have hsz2 : w.heap.size ≤ w2.heap.size := Nat.le_trans hbr.size hr2.size
      have HY := Lib.hid hpn
      clear hin hpn
      go_wp2_with (at_builtin; refine wpList_append_own _ rfl _ _ 29 rfl w.heap.size 28 i0 (.agg #[.bool false, .slice none 0 0]) 2 32 und_ints HI.out.1 HI.out.2.1 HI.out.2.2.1 HI.out.2.2.2 rfl (by decide) _ i L rfl (ho2.alloc _) ⟨w2.heap.size, 0, none⟩ 1 1 [.bool b, .slice A' n' c'] rfl rfl (cell_two_new _ _ _ _) (by simp [Value.oneCell']) (by unfold maxLen; omega) (by omega) (by simp; omega) ?_; intro v3 w3 hown1 hg1 _)
      go_roundw
      case rel =>
        have hbn : Below w.heap.size w w3 := ((hbr.trans (hr2.mono hbr.size)).trans (hba.mono hsz2)).grown hg1 (by simp; omega) (fun k hk => (HM.out.2.2.1.lt k hk).1)
        refine ⟨i + 1, _, by go_num, by omega, hown1, ?_, hbn⟩
        rw [HM.out.2.1]
        exact HM.out.2.2.2.1.snoc (fun _ _ _ hp => ((hp.step hr2 rfl).step hba rfl).kept (ho2.alloc _) hg1) ((HY.out.step hba rfl).kept (ho2.alloc _) hg1)
      case measure => simp [intOf]; omega
    · have hie : i = l.length := by omega
      subst hie
      obtain ⟨g1, cc, rfl, hcc, hlt1, hc⟩ := own_pairs hown hso (by rw [List.length_take, ← H.out.2.1]; omega) h0
      have HY := Lib.hid (And.intro hc H.out.2.1)
      clear hown hso hc
      go_wp2
      go_ret
      have hl := HY.out.2
      refine ⟨g1, cc, by rw [hl]; rfl, by omega, hlt1, fun j z hz => ?_, hbr⟩
      exact HY.out.1 j z (by rw [hl, List.take_length]; exact hz)
end Go.Proofs.YtllkajlmfbikhaaDoor
