/- For the laws: a call by its contract, integers that fit, what is made of numbers as plain data, the variables of a walk. -/
import Derived.Test.YtagmdeabneapaaaMem
import Derived.Test.YtagmdeabneapaaaMade
import Derived.RegionTactic
import Derived.BigRegion
import Derived.Test.YtagmdeabneapaaaShortN
import Derived.Test.YtagmdeabneapaaaShiftA
import Derived.Deep.DeepCutAuto
import Derived.IntWalk
import Derived.Outline
namespace Go.Proofs.Ytagmdeabneapaaa
open Go.RowKit
set_option linter.unusedSimpArgs false

theorem wp_go_call {P : Program} {o : Oper} {a : Act} {w : World} {K : Act → World → Prop} {Q : Exit → Act → World → Prop} (f : FuncId) (args : Array Value)
    (he : ∀ w, (execOp a.eval o).run P w = .ok (.enter f args) w) (hc : Calls P f args w fun e w' => ∃ v, e = .returned v ∧ K (a.put o.dst v) w') : o.wp P a w K Q := by
  unfold Oper.wp
  rw [he w, Oper.upon_enter]
  exact hc.mono (fun e w' ⟨v, he, h⟩ => by subst he; exact h)

/-- The world in which the law begins its work: three numbers in boxes, and the slice of the three. -/
def ringAt (w : World) (s1 : Bool) (a1 : Value) (s2 : Bool) (a2 : Value) (s3 : Bool) (a3 : Value) : World :=
  ((w.alloc (.cells #[.bool s1, a1] 24)).alloc (.cells #[.bool s2, a2] 24)).alloc (.cells #[.bool s3, a3] 24)

theorem ringAt_below (w : World) (s1 : Bool) (a1 : Value) (s2 : Bool) (a2 : Value) (s3 : Bool) (a3 : Value) : Below w.heap.size w (ringAt w s1 a1 s2 a2 s3 a3) :=
  (((Below.refl _ _).alloc (Nat.le_refl _) _).alloc (by simp) _).alloc (by simp; omega) _
theorem ringAt_size (w : World) (s1 : Bool) (a1 : Value) (s2 : Bool) (a2 : Value) (s3 : Bool) (a3 : Value) : (ringAt w s1 a1 s2 a2 s3 a3).heap.size = w.heap.size + 3 := by simp [ringAt]

theorem Three.new (w : World) (s1 : Bool) (A1 : Option Addr) (n1 c1 : Nat) (s2 : Bool) (A2 : Option Addr) (n2 c2 : Nat) (s3 : Bool) (A3 : Option Addr) (n3 c3 : Nat) (t : TypeId) :
    Three (w.alloc (.cells #[.bool s1, .slice A1 n1 c1, .bool s2, .slice A2 n2 c2, .bool s3, .slice A3 n3 c3] t)) w.heap.size s1 A1 n1 c1 s2 A2 n2 c2 s3 A3 n3 c3 := by
  refine ⟨by simp, ?_, ?_, ?_, ?_, ?_, ?_⟩ <;> go_simp

set_option maxRecDepth 100000 in
set_option maxHeartbeats 2000000 in
theorem ring_long (s1 : Bool) (A1 : Option Addr) (n1 c1 : Nat) (s2 : Bool) (A2 : Option Addr) (n2 c2 : Nat) (s3 : Bool) (A3 : Option Addr) (n3 c3 : Nat) (w : World) (h : ¬ AllShort n1 n2 n3) :
    Calls Try.prog 10 #[.agg #[.bool s1, .slice A1 n1 c1], .agg #[.bool s2, .slice A2 n2 c2], .agg #[.bool s3, .slice A3 n3 c3]] w fun e w' => IsBool w w' true e := by
  have hs := ringAt_size w s1 (.slice A1 n1 c1) s2 (.slice A2 n2 c2) s3 (.slice A3 n3 c3)
  have hb0 := ringAt_below w s1 (.slice A1 n1 c1) s2 (.slice A2 n2 c2) s3 (.slice A3 n3 c3)
  have ht := Three.new (ringAt w s1 (.slice A1 n1 c1) s2 (.slice A2 n2 c2) s3 (.slice A3 n3 c3)) s1 A1 n1 c1 s2 A2 n2 c2 s3 A3 n3 c3 24
  have hsh := short_any _ s1 A1 n1 c1 s2 A2 n2 c2 s3 A3 n3 c3 _ ht
  rw [decide_eq_false h, hs] at hsh
  have hb1 := hb0.alloc hb0.size (.cells #[.bool s1, .slice A1 n1 c1, .bool s2, .slice A2 n2 c2, .bool s3, .slice A3 n3 c3] 24)
  have H := Lib.hid (And.intro hsh hb1)
  clear hs hb0 ht hsh hb1 h
  go_enter Try.func10, Try.ntmps10
  go_wp2_with fail
  refine H.out.1.mono ?_
  rintro e w1 ⟨rfl, hb1⟩
  go_wp2_with fail
  refine (awake_any w1).mono ?_
  rintro e w2 ⟨rfl, hb2⟩
  go_wp2
  go_ret
  exact ⟨rfl, below_then (below_then H.out.2 hb1) hb2⟩

/-- x, y, z lie in three variables. -/
structure XYZ (w : World) (r8 r9 r10 : Nat) (X1 X2 Y1 Y2 Z1 Z2 : Value) (x y z : Int) : Prop where
  lx : r8 < w.heap.size
  ly : r9 < w.heap.size
  lz : r10 < w.heap.size
  cx : Two w r8 X1 X2
  cy : Two w r9 Y1 Y2
  cz : Two w r10 Z1 Z2
  ix : IntAt w (.agg #[X1, X2]) x
  iy : IntAt w (.agg #[Y1, Y2]) y
  iz : IntAt w (.agg #[Z1, Z2]) z

theorem XYZ.step {W0 W w1 : World} {r8 r9 r10 : Nat} {X1 X2 Y1 Y2 Z1 Z2 : Value} {x y z : Int} (t : XYZ W0 r8 r9 r10 X1 X2 Y1 Y2 Z1 Z2 x y z) (hb : Below W.heap.size W w1) (hh : W.heap = W0.heap) :
    XYZ w1 r8 r9 r10 X1 X2 Y1 Y2 Z1 Z2 x y z := by
  have hs : W0.heap.size ≤ w1.heap.size := by rw [← hh]; exact hb.size
  exact ⟨Nat.lt_of_lt_of_le t.lx hs, Nat.lt_of_lt_of_le t.ly hs, Nat.lt_of_lt_of_le t.lz hs, t.cx.step hb hh t.lx, t.cy.step hb hh t.ly, t.cz.step hb hh t.lz, t.ix.step hb hh, t.iy.step hb hh, t.iz.step hb hh⟩

theorem XYZ.cells {w : World} {r8 r9 r10 : Nat} {X1 X2 Y1 Y2 Z1 Z2 : Value} {x y z : Int} (t : XYZ w r8 r9 r10 X1 X2 Y1 Y2 Z1 Z2 x y z) :
    w.cell? ⟨r8, 0, none⟩ = some X1 ∧ w.cell? ⟨r8, 1, none⟩ = some X2 ∧ w.cell? ⟨r9, 0, none⟩ = some Y1 ∧ w.cell? ⟨r9, 1, none⟩ = some Y2 ∧ w.cell? ⟨r10, 0, none⟩ = some Z1 ∧ w.cell? ⟨r10, 1, none⟩ = some Z2 :=
  ⟨t.cx.1, t.cx.2, t.cy.1, t.cy.2, t.cz.1, t.cz.2⟩

/-- Of at most m limbs. -/
def Fits (x : Int) (m : Nat) : Prop := x.natAbs < B32 ^ m

theorem fits_zero (m : Nat) : Fits 0 m := Nat.pow_pos B32_pos
theorem Fits.up {x : Int} {m n : Nat} (h : Fits x m) (hmn : m ≤ n) : Fits x n := Nat.lt_of_lt_of_le h (Nat.pow_le_pow_right B32_pos hmn)
theorem Fits.neg {x : Int} {m : Nat} (h : Fits x m) : Fits (-x) m := by unfold Fits; rw [Int.natAbs_neg]; exact h
theorem Fits.add {x y : Int} {m : Nat} (hx : Fits x m) (hy : Fits y m) : Fits (x + y) (m + 1) := by
  unfold Fits at *
  have h1 := Int.natAbs_add_le x y
  have h2 : B32 ^ (m + 1) = B32 ^ m * B32 := Nat.pow_succ _ _
  have h3 : B32 ^ m * 2 ≤ B32 ^ m * B32 := Nat.mul_le_mul_left _ (by decide)
  omega
theorem Fits.sub {x y : Int} {m : Nat} (hx : Fits x m) (hy : Fits y m) : Fits (x - y) (m + 1) := by
  rw [Int.sub_eq_add_neg]
  exact hx.add hy.neg
theorem Fits.mul {x y : Int} {m n : Nat} (hx : Fits x m) (hy : Fits y n) : Fits (x * y) (m + n) := by
  unfold Fits at *
  rw [Int.natAbs_mul, Nat.pow_add]
  exact Nat.mul_lt_mul'' hx hy

theorem same_true (v1 v2 : Value) (x y : Int) (m : Nat) (w : World) (h1 : IntAt w v1 x) (h2 : IntAt w v2 y) (hm : m ≤ 900000) (hx : Fits x m) (hy : Fits y m) (hxy : x = y) :
    Calls Try.prog 65 #[v1, v2] w fun e w' => IsBool w w' true e := by
  obtain ⟨b1, A1, c1, zs1, rfl, hs1, hl1⟩ := h1
  obtain ⟨b2, A2, c2, zs2, rfl, hs2, hl2⟩ := h2
  refine (same_ints b1 b2 A1 c1 zs1 A2 c2 zs2 x y m w ⟨b1, A1, c1, zs1, rfl, hs1, hl1⟩ ⟨b2, A2, c2, zs2, rfl, hs2, hl2⟩ hm hx hy).mono fun e w' h => ?_
  rw [decide_eq_true hxy] at h
  exact h

/-- The numbers l as plain data are the integers zs. -/
def Sources (w : World) (l : List NVal) (zs : List Int) : Prop :=
  l.length = zs.length ∧ ∀ (i : Nat) (x : NVal) (z : Int), l[i]? = some x → zs[i]? = some z → ∃ xs, x.n = xs.length ∧ Plain w x.A x.c xs ∧ ofSign x.s (Lm.val B32 xs) = z
theorem Sources.step {W0 W w1 : World} {l : List NVal} {zs : List Int} (t : Sources W0 l zs) (hb : Below W.heap.size W w1) (hh : W.heap = W0.heap) : Sources w1 l zs :=
  ⟨t.1, fun i x z hx hz => by obtain ⟨xs, h1, h2, h3⟩ := t.2 i x z hx hz; exact ⟨xs, h1, h2.step hb hh, h3⟩⟩
/-- The cells L hold the integers zs, two cells each. -/
def Pairs (w : World) (L : List Value) (zs : List Int) : Prop :=
  L.length = 2 * zs.length ∧ ∀ (i : Nat) (z : Int), zs[i]? = some z → ∃ u v, L[2 * i]? = some u ∧ L[2 * i + 1]? = some v ∧ Pair w u v z
theorem Pairs.snoc {w w' : World} {L : List Value} {zs : List Int} {u v : Value} {z : Int} (t : Pairs w L zs) (hk : ∀ u v z, Pair w u v z → Pair w' u v z) (h : Pair w' u v z) : Pairs w' (L ++ [u, v]) (zs ++ [z]) := by
  refine ⟨by simp [t.1]; omega, fun i y hy => ?_⟩
  rw [List.getElem?_append] at hy
  by_cases hi : i < zs.length
  · rw [if_pos hi] at hy
    obtain ⟨a, b, h1, h2, h3⟩ := t.2 i y hy
    refine ⟨a, b, ?_, ?_, hk _ _ _ h3⟩
    · rw [List.getElem?_append, if_pos (by rw [t.1]; omega)]; exact h1
    · rw [List.getElem?_append, if_pos (by rw [t.1]; omega)]; exact h2
  · rw [if_neg hi] at hy
    have e : i - zs.length = 0 := by
      rcases Nat.eq_zero_or_pos (i - zs.length) with e | e
      · exact e
      · rw [List.getElem?_eq_none (by simp; omega)] at hy; cases hy
    rw [e] at hy
    have hz : z = y := by simpa using hy
    subst hz
    have e2 : i = zs.length := by omega
    subst e2
    refine ⟨u, v, ?_, ?_, h⟩
    · rw [List.getElem?_append, if_neg (by rw [t.1]; omega), t.1, Nat.sub_self]; rfl
    · rw [List.getElem?_append, if_neg (by rw [t.1]; omega), t.1, show 2 * zs.length + 1 - 2 * zs.length = 1 by omega]; rfl
/-- The integers zs lie in the slice that is handed back. -/
def IsMadeN (w w' : World) (zs : List Int) (e : Ending) : Prop :=
  ∃ g c, e = .returned (.slice (some ⟨g, 0, none⟩) zs.length c) ∧ zs.length ≤ c ∧ g < w'.heap.size ∧ (∀ (i : Nat) (z : Int), zs[i]? = some z → ∃ u v, w'.cell? ⟨g, 2 * i, none⟩ = some u ∧ w'.cell? ⟨g, 2 * i + 1, none⟩ = some v ∧ Pair w' u v z) ∧ Below w.heap.size w w'
theorem own_pairs {w : World} {base n : Nat} {e : TypeId} {v : Value} {L : List Value} {zs : List Int} (h : w.ownsRow base e 2 v n L) (hp : Pairs w L zs) (hn : n = zs.length) (h0 : 0 < n) :
    ∃ g c, v = .slice (some ⟨g, 0, none⟩) n c ∧ n ≤ c ∧ g < w.heap.size ∧ (∀ (i : Nat) (z : Int), zs[i]? = some z → ∃ u v, w.cell? ⟨g, 2 * i, none⟩ = some u ∧ w.cell? ⟨g, 2 * i + 1, none⟩ = some v ∧ Pair w u v z) := by
  rcases h.2 with ⟨_, h0'⟩ | ⟨g, cap, cur, rfl, hb, hg, hc, _⟩
  · omega
  · refine ⟨g, cap, rfl, hc, (h.lt g rfl).2, fun i z hz => ?_⟩
    obtain ⟨a, b, h1, h2, h3⟩ := hp.2 i z hz
    have hi : i < zs.length := by
      rcases Nat.lt_or_ge i zs.length with h | h
      · exact h
      · rw [List.getElem?_eq_none h] at hz; cases hz
    have hL : L.length = 2 * zs.length := hp.1
    refine ⟨a, b, ?_, ?_, h3⟩
    · rw [← h1]; exact h.cellAt (2 * i) (by omega)
    · rw [← h2]; exact h.cellAt (2 * i + 1) (by omega)

set_option maxRecDepth 100000 in
set_option maxHeartbeats 2000000 in
theorem madeN_any (g : Nat) (l : List NVal) (zs : List Int) (w : World) (h : NRow w g l) (hs : Sources w l zs) (h0 : 0 < l.length) (hlen : l.length ≤ 1000) :
    Calls Try.prog 64 #[.slice (some ⟨g, 0, none⟩) l.length l.length] w fun e w' => IsMadeN w w' zs e := by
  obtain ⟨i0, hi0, hz0, hz1, hz2⟩ := info_parts info_int
  have HI := Lib.hid (And.intro hi0 (And.intro hz0 (And.intro hz1 hz2)))
  clear hi0 hz0 hz1 hz2
  have H := Lib.hid (And.intro h hs)
  clear h hs
  go_enter Try.func64, Try.ntmps64
  go_wp2
  go_loopw [3, 8] (fun ov iv wr => ∃ (i : Nat) (L : List Value), iv = .int .i64 i ∧ i ≤ l.length ∧ wr.ownsRow w.heap.size 28 2 ov i L ∧ Pairs wr L (zs.take i) ∧ Below w.heap.size w wr) (fun _ iv _ => l.length + 1 - (intOf iv).toNat)
  case atStart => exact ⟨0, [], rfl, Nat.zero_le _, World.ownsRow_nil _ _ _ _, ⟨by simp, fun i z hz => by simp at hz⟩, Below.refl _ _⟩
  case round =>
    obtain ⟨i, L, rfl, hi, hown, hso, hbr⟩ := hrel
    by_cases hlt : i < l.length
    · obtain ⟨x, hx⟩ : ∃ x, l[i]? = some x := ⟨_, List.getElem?_eq_getElem hlt⟩
      obtain ⟨z, hz⟩ : ∃ z, zs[i]? = some z := ⟨_, List.getElem?_eq_getElem (by rw [← H.out.2.1]; exact hlt)⟩
      obtain ⟨ta, tb⟩ := (H.out.1.step hbr rfl).2 i x hx
      obtain ⟨xs, hn, hpl, hval⟩ := (H.out.2.step hbr rfl).2 i x z hx hz
      obtain ⟨s, A, n, c⟩ := x
      simp only at ta tb hn hpl hval
      subst hn
      have htake : zs.take (i + 1) = zs.take i ++ [z] := by
        rw [List.getElem?_eq_some_iff] at hz
        obtain ⟨hz1, hz2⟩ := hz
        rw [List.take_succ_eq_append_getElem hz1, hz2]
      have hmk := Make_typed s A c xs (wr.alloc (.cells #[.bool s, .slice A xs.length c] 24)) (hpl.1.alloc _) hpl.2.1 (Nat.le_trans hpl.2.2.1 (by decide)) hpl.2.2.2
      rw [hval] at hmk
      have i0' : (0 : Int) ≤ (i : Int) := Int.natCast_nonneg i
      have i1' : (i : Int) < (l.length : Int) := by omega
      have HM := Lib.hid (And.intro hmk (And.intro htake (And.intro hown (And.intro hso hbr))))
      clear hmk hown hso hx hz hpl hval htake
      go_wp2_with fail
      refine HM.out.1.mono ?_
      rintro e w2 ⟨b, A', n', c', rfl, hty, hin, hb2⟩
      have hr2 : Below wr.heap.size wr w2 := below_then ((Below.refl _ _).alloc (Nat.le_refl _) _) hb2
      have ho2 : w2.ownsRow w.heap.size 28 2 _ i _ := HM.out.2.2.1.kept (row := none) ⟨hr2.os, hr2.tape, hr2.output, hr2.size, fun k hk _ => hr2.block k hk⟩ (Classical.em _)
      have hpn : Pair w2 (.bool b) (.slice A' n' c') z := ⟨b, A', n', c', rfl, rfl, hty, hin⟩
      have hba : Below w2.heap.size w2 (w2.alloc (.cells #[.bool b, .slice A' n' c'] 28)) := (Below.refl _ _).alloc (Nat.le_refl _) _
      have hsz2 : w.heap.size ≤ w2.heap.size := Nat.le_trans hbr.size hr2.size
      have HY := Lib.hid hpn
      clear hin hpn
      go_wp2_with (at_builtin; refine wpList_append_own _ rfl _ _ 81 rfl w.heap.size 28 i0 (.agg #[.bool false, .slice none 0 0]) 2 32 und_ints HI.out.1 HI.out.2.1 HI.out.2.2.1 HI.out.2.2.2 rfl (by decide) _ i L rfl (ho2.alloc _) ⟨w2.heap.size, 0, none⟩ 1 1 [.bool b, .slice A' n' c'] rfl rfl (cell_two_new _ _ _ _) (by simp [Value.oneCell']) (by unfold maxLen; omega) (by omega) (by simp; omega) ?_; intro v3 w3 hown1 hg1 _)
      go_roundw
      case rel =>
        have hbn : Below w.heap.size w w3 := ((hbr.trans (hr2.mono hbr.size)).trans (hba.mono hsz2)).grown hg1 (by simp; omega) (fun k hk => (HM.out.2.2.1.lt k hk).1)
        refine ⟨i + 1, _, by go_num, by omega, hown1, ?_, hbn⟩
        rw [HM.out.2.1]
        exact HM.out.2.2.2.1.snoc (fun _ _ _ hp => ((hp.step hr2 rfl).step hba rfl).kept (ho2.alloc _) hg1) ((HY.out.step hba rfl).kept (ho2.alloc _) hg1)
      case measure => simp [intOf]; omega
    · have hie : i = l.length := by omega
      subst hie
      obtain ⟨g1, cc, rfl, hcc, hlt1, hc⟩ := own_pairs hown hso (by rw [List.length_take, ← H.out.2.1]; omega) h0
      have HY := Lib.hid (And.intro hc H.out.2.1)
      clear hown hso hc
      go_wp2
      go_ret
      have hl := HY.out.2
      refine ⟨g1, cc, by rw [hl]; rfl, by omega, hlt1, fun j z hz => ?_, hbr⟩
      exact HY.out.1 j z (by rw [hl, List.take_length]; exact hz)

/-- A value of integer.Int at hand: in the variable at r, if 'here'; it is z. -/
structure VarT where
  here : Bool
  r : Nat
  b : Bool
  A : Option Addr
  n : Nat
  c : Nat
  z : Int
structure IsVar (w : World) (t : VarT) : Prop where
  lt : t.here = true → t.r < w.heap.size
  two : t.here = true → Two w t.r (.bool t.b) (.slice t.A t.n t.c)
  at_ : IntAt w (.agg #[.bool t.b, .slice t.A t.n t.c]) t.z
def Vars (w : World) (l : List VarT) : Prop := ∀ (i : Nat) (t : VarT), l[i]? = some t → IsVar w t
theorem IsVar.step {W0 W w1 : World} {t : VarT} (h : IsVar W0 t) (hb : Below W.heap.size W w1) (hh : W.heap = W0.heap) : IsVar w1 t :=
  ⟨fun e => Nat.lt_of_lt_of_le (h.lt e) (by rw [← hh]; exact hb.size), fun e => (h.two e).step hb hh (h.lt e), h.at_.step hb hh⟩
theorem Vars.step {W0 W w1 : World} {l : List VarT} (h : Vars W0 l) (hb : Below W.heap.size W w1) (hh : W.heap = W0.heap) : Vars w1 l := fun i t ht => (h i t ht).step hb hh
theorem Vars.nil (w : World) : Vars w [] := fun i t ht => by simp at ht
theorem Vars.cons {w : World} {l : List VarT} {t : VarT} (h : Vars w l) (ht : IsVar w t) : Vars w (t :: l) := fun i u hu => by
  cases i with
  | zero => simp at hu; subst hu; exact ht
  | succ i => exact h i u (by simpa using hu)
/-- A value that was handed back. -/
theorem Vars.told {w : World} {l : List VarT} (h : Vars w l) {b : Bool} {A : Option Addr} {c : Nat} {zs : List Nat} {z : Int} (hs : SignOf b z) (hl : Limbs w A c zs z.natAbs) : Vars w (⟨false, 0, b, A, zs.length, c, z⟩ :: l) :=
  h.cons ⟨fun e => (by cases e), fun e => (by cases e), ⟨b, A, c, zs, rfl, hs, hl⟩⟩
/-- A new variable that holds the value of before. -/
theorem Vars.laid {w : World} {l : List VarT} {t : VarT} (h : Vars w (t :: l)) (T : TypeId) : Vars (w.alloc (.cells #[.bool t.b, .slice t.A t.n t.c] T)) (⟨true, w.heap.size, t.b, t.A, t.n, t.c, t.z⟩ :: l) := by
  have hb : Below w.heap.size w (w.alloc (.cells #[.bool t.b, .slice t.A t.n t.c] T)) := (Below.refl _ _).alloc (Nat.le_refl _) _
  have h1 : Vars (w.alloc (.cells #[.bool t.b, .slice t.A t.n t.c] T)) l := fun i u hu => (h (i + 1) u (by simpa using hu)).step hb rfl
  exact h1.cons ⟨fun _ => by simp, fun _ => Two.new w _ _ T, ((h 0 t rfl).at_.step hb rfl)⟩
/-- The cells of the variables. -/
def Cells (l : List VarT) (w : World) : Prop := ∀ (i : Nat) (t : VarT), l[i]? = some t → t.here = true → Two w t.r (.bool t.b) (.slice t.A t.n t.c)
theorem Vars.cells {w : World} {l : List VarT} (h : Vars w l) : Cells l w := fun i t ht e => (h i t ht).two e
/-- Some of the variables. -/
theorem Vars.sub {w : World} {l : List VarT} (h : Vars w l) (m : List VarT) (hm : ∀ t ∈ m, ∃ i : Nat, l[i]? = some t) : Vars w m := fun i t ht => by
  obtain ⟨j, hj⟩ := hm t (List.mem_of_getElem? ht)
  exact h j t hj

section
variable {P : Program} {ops : Array Oper} {Q : Exit → Act → World → Prop} {rest : List Oper} {o : Oper} {a : Act} {w w' : World}
theorem fl_val (v : Value) (hw : Region.wanted o (yielded ops a.tmps) = true) (he : (execOp a.eval o).run P w = .ok (.value v) w') (k : wpList P ops Q rest (a.put o.dst v) w') : wpList P ops Q (o :: rest) a w := by
  unfold wpList
  rw [if_pos hw]
  refine .inl ?_
  unfold Oper.wp
  rw [he]
  exact k
theorem fl_skip (hw : Region.wanted o (yielded ops a.tmps) = true) (he : (execOp a.eval o).run P w = .ok .skip w') (k : wpList P ops Q rest (a.put o.dst undef) w') : wpList P ops Q (o :: rest) a w := by
  unfold wpList
  rw [if_pos hw]
  refine .inl ?_
  unfold Oper.wp
  rw [he]
  exact k
theorem fl_not (hw : Region.wanted o (yielded ops a.tmps) = false) (k : wpList P ops Q rest (a.put o.dst undef) w) : wpList P ops Q (o :: rest) a w := by
  unfold wpList
  rw [if_neg (by rw [hw]; decide)]
  exact k
theorem fl_call (f : FuncId) (args : Array Value) (hw : Region.wanted o (yielded ops a.tmps) = true) (he : (execOp a.eval o).run P w = .ok (.enter f args) w)
    (hc : Calls P f args w fun e w' => ∃ v, e = .returned v ∧ wpList P ops Q rest (a.put o.dst v) w') : wpList P ops Q (o :: rest) a w := by
  unfold wpList
  rw [if_pos hw]
  refine .inl ?_
  unfold Oper.wp
  rw [he, Oper.upon_enter]
  exact hc.mono (fun e w' ⟨v, he, h⟩ => by subst he; exact h)
end

theorem wp_go_val {P : Program} {o : Oper} {a : Act} {w w' : World} {K : Act → World → Prop} {Q : Exit → Act → World → Prop} (v : Value) (he : (execOp a.eval o).run P w = .ok (.value v) w') (k : K (a.put o.dst v) w') : o.wp P a w K Q := by
  unfold Oper.wp
  rw [he]
  exact k
theorem wp_go_skip {P : Program} {o : Oper} {a : Act} {w w' : World} {K : Act → World → Prop} {Q : Exit → Act → World → Prop} (he : (execOp a.eval o).run P w = .ok .skip w') (k : K (a.put o.dst undef) w') : o.wp P a w K Q := by
  unfold Oper.wp
  rw [he]
  exact k
theorem Vars.skip {w : World} {l : List VarT} {a b : VarT} (h : Vars w (a :: b :: l)) : Vars w (a :: l) :=
  Vars.cons (fun i t ht => h (i + 2) t (by simpa using ht)) (h 0 a rfl)
theorem Vars.tail {w : World} {l : List VarT} {a : VarT} (h : Vars w (a :: l)) : Vars w l := fun i t ht => h (i + 1) t (by simpa using ht)
theorem Vars.drew {w : World} {l : List VarT} (h : Vars w l) : Vars w.drew l := h.step (Below.refl w.drew.heap.size w.drew) rfl
theorem Vars.alloc {w : World} {l : List VarT} (h : Vars w l) (o : Obj) : Vars (w.alloc o) l := h.step ((Below.refl _ _).alloc (Nat.le_refl _) o) rfl
/-- The value of before is stored into a variable that was made for it. -/
theorem Vars.put {Wa W : World} {l : List VarT} {t : VarT} {r : Nat} (ha : Vars Wa l) (h : Vars W (t :: l)) (hr : Res W r) (hra : Wa.heap.size ≤ r) (hrW : r < W.heap.size) :
    Vars ((W.setCell ⟨r, 0, none⟩ (.bool t.b)).setCell ⟨r, 1, none⟩ (.slice t.A t.n t.c)) (⟨true, r, t.b, t.A, t.n, t.c, t.z⟩ :: l) := by
  have hs : ((W.setCell ⟨r, 0, none⟩ (.bool t.b)).setCell ⟨r, 1, none⟩ (.slice t.A t.n t.c)).heap.size = W.heap.size := by simp [World.setCell]
  have hi : ∀ {v : Value} {z : Int}, IntAt W v z → IntAt ((W.setCell ⟨r, 0, none⟩ (.bool t.b)).setCell ⟨r, 1, none⟩ (.slice t.A t.n t.c)) v z := fun hv => by
    obtain ⟨b, A, c, zs, e, hsg, hl⟩ := hv
    exact ⟨b, A, c, zs, e, hsg, hl.1, hl.2.1.res hr.1 _ _, hl.2.2⟩
  have h1 : Vars ((W.setCell ⟨r, 0, none⟩ (.bool t.b)).setCell ⟨r, 1, none⟩ (.slice t.A t.n t.c)) l := fun i u hu => by
    have hv := h.tail i u hu
    refine ⟨fun e => by rw [hs]; exact hv.lt e, fun e => (hv.two e).far (by have := (ha i u hu).lt e; omega) _ _, hi hv.at_⟩
  exact h1.cons ⟨fun _ => by rw [hs]; exact hrW, fun _ => hr.1.stored _ _, hi (h 0 t rfl).at_⟩

theorem run_load {ρ : Operand → Value} {o : Oper} {w : World} {r : Nat} {a b : Value} (h : Two w r a b) (x : Operand) (ho : o.op = .load 28 x) (hx : ρ x = .pointer (some ⟨r, 0, none⟩)) :
    (execOp ρ o).run Try.prog w = .ok (.value (.agg #[a, b])) w := by
  obtain ⟨h0, h1⟩ := h
  obtain ⟨dst, op, ty, pos, after, guard⟩ := o
  simp only at ho
  subst ho
  go_simp
theorem run_alloc (ρ : Operand → Value) (o : Oper) (w : World) (ho : o.op = .alloc 28) :
    (execOp ρ o).run Try.prog w = .ok (.value (.pointer (some ⟨w.heap.size, 0, none⟩))) (w.alloc (.cells #[.bool false, .slice none 0 0] 28)) := by
  obtain ⟨dst, op, ty, pos, after, guard⟩ := o
  simp only at ho
  subst ho
  go_simp
theorem run_store (ρ : Operand → Value) (o : Oper) (w : World) (b : Bool) (A : Option Addr) (n c : Nat) (x y : Operand) (ho : o.op = .store 28 x y) (hx : ρ x = .pointer (some ⟨w.heap.size, 0, none⟩)) (hy : ρ y = .agg #[.bool b, .slice A n c]) :
    (execOp ρ o).run Try.prog (w.alloc (.cells #[.bool false, .slice none 0 0] 28)) = .ok .skip (w.alloc (.cells #[.bool b, .slice A n c] 28)) := by
  obtain ⟨dst, op, ty, pos, after, guard⟩ := o
  simp only at ho
  subst ho
  go_simp
theorem run_store2 {ρ : Operand → Value} {o : Oper} {w : World} {r : Nat} (h : Res w r) (b : Bool) (A : Option Addr) (n c : Nat) (x y : Operand) (ho : o.op = .store 28 x y) (hx : ρ x = .pointer (some ⟨r, 0, none⟩)) (hy : ρ y = .agg #[.bool b, .slice A n c]) :
    (execOp ρ o).run Try.prog w = .ok .skip ((w.setCell ⟨r, 0, none⟩ (.bool b)).setCell ⟨r, 1, none⟩ (.slice A n c)) := by
  obtain ⟨⟨h0, h1⟩, h2, h3⟩ := h
  obtain ⟨dst, op, ty, pos, after, guard⟩ := o
  simp only at ho
  subst ho
  go_simp

theorem boole_is (op : Nat) (v1 v2 : Value) (x y z : Int) (m : Nat) (w : World) (hop : op < 16) (h1 : IntAt w v1 x) (h2 : IntAt w v2 y) (hm : m ≤ 400000) (hx : Fits x m) (hy : Fits y m) (hz : booleZ op x y = z) :
    Calls Try.prog 51 #[v1, .int .i64 op, v2] w fun e w' => IsIE w w' z 0 e := by
  subst hz
  exact Boole_any op v1 v2 x y m w hop h1 h2 (by omega) hx hy
theorem shift_is (v : Value) (x n z : Int) (m : Nat) (w : World) (h : IntAt w v x) (hx : Fits x m) (hm : m ≤ 400000) (hn0 : -9223372036854775808 ≤ n) (hb : shErr x n = 0) (hz : shAns x n = z) :
    Calls Try.prog 50 #[v, .int .i64 n] w fun e w' => IsIE w w' z 0 e := by
  have h := Shift_any v x n m w h hx hm hn0
  rw [hb, hz] at h
  exact h
theorem field_is (v : Value) (x z : Int) (k p m : Nat) (w : World) (h : IntAt w v x) (hx : Fits x m) (hm : m ≤ 400000) (hk : k ≤ 65536) (hp : p ≤ 65536) (hz : fieldZ x k p = z) :
    Calls Try.prog 56 #[v, .int .i64 (k : Int), .int .i64 (p : Int)] w fun e w' => IsIE w w' z 0 e := by
  subst hz
  exact field_in v x k p m w h hx hm hk hp
theorem deposit_is (v1 v2 : Value) (x y z : Int) (k p m : Nat) (w : World) (h1 : IntAt w v1 x) (h2 : IntAt w v2 y) (hx : Fits x m) (hy : Fits y m) (hm : m ≤ 400000) (hk : k ≤ 65536) (hp : p ≤ 65536) (hz : depZ x y k p = z) :
    Calls Try.prog 58 #[v1, v2, .int .i64 (k : Int), .int .i64 (p : Int)] w fun e w' => IsIE w w' z 0 e := by
  subst hz
  exact deposit_in v1 v2 x y k p m w h1 h2 hx hy hm hk hp
theorem new_is (n : Int) (w : World) (h0 : -9223372036854775808 ≤ n) (h1 : n < 9223372036854775808) : Calls Try.prog 17 #[.int .i64 n] w fun e w' => IsInt w w' n e := New_all n w h0 h1
theorem sub_is (v1 v2 : Value) (x y z : Int) (m : Nat) (w : World) (h1 : IntAt w v1 x) (h2 : IntAt w v2 y) (hm : m ≤ 900000) (hx : Fits x m) (hy : Fits y m) (hz : x - y = z) : Calls Try.prog 40 #[v1, v2] w fun e w' => IsInt w w' z e := by
  subst hz
  exact Sub_any v1 v2 x y m w h1 h2 hm hx hy
theorem add_is (v1 v2 : Value) (x y z : Int) (m : Nat) (w : World) (h1 : IntAt w v1 x) (h2 : IntAt w v2 y) (hm : m ≤ 900000) (hx : Fits x m) (hy : Fits y m) (hz : x + y = z) : Calls Try.prog 38 #[v1, v2] w fun e w' => IsInt w w' z e := by
  subst hz
  exact Add_any v1 v2 x y m w h1 h2 hm hx hy
theorem length_is (v : Value) (x k : Int) (m : Nat) (w : World) (h : IntAt w v x) (hm : m ≤ 900000) (hx : Fits x m) (hk : (bl (magOf x) : Int) = k) : Calls Try.prog 26 #[v] w fun e w' => IsNum w w' k e := by
  subst hk
  exact Length_any v x m w h hm hx
theorem count_is (v : Value) (x k : Int) (m : Nat) (w : World) (h : IntAt w v x) (hm : m ≤ 900000) (hx : Fits x m) (hk : (ones (magOf x) : Int) = k) : Calls Try.prog 28 #[v] w fun e w' => IsNum w w' k e := by
  subst hk
  exact Count_any v x m w h hm hx
theorem ibit_is (v : Value) (x : Int) (i : Nat) (b : Bool) (m : Nat) (w : World) (h : IntAt w v x) (hx : Fits x m) (hm : m ≤ 800000) (hi : i < 9223372036854775808) (hb : bitZ x i = b) : Calls Try.prog 53 #[v, .int .i64 (i : Int)] w fun e w' => IsBool w w' b e := by
  subst hb
  exact Bit_any v x i m w h hx hm hi
end Go.Proofs.Ytagmdeabneapaaa
