/- For the walks of the laws that hold the program's and the reference's integers: variables of three kinds, all in one fact. -/
import Derived.Test.YtllkajlmfbikhaaOf
import Derived.Test.YtllkajlmfbikhaaShortN
import Derived.Test.YtllkajlmfbikhaaIs
import Derived.Test.YtllkajlmfbikhaaAwake
import Derived.Test.YtllkajlmfbikhaaRKit
namespace Go.Proofs.Ytllkajlmfbikhaa.RK
open Go.RowKit
set_option linter.unusedSimpArgs false

/-- Plain data that came in: the number z. -/
def NAt (w : World) (v : Value) (z : Int) : Prop := ∃ s A c xs, v = .agg #[.bool s, .slice A (List.length xs) c] ∧ Nums w .u32 A xs ∧ Lm.Ok B32 xs ∧ xs.length ≤ c ∧ xs.length ≤ 400000 ∧ ofSign s (Lm.val B32 xs) = z
theorem NAt.step {W0 W w1 : World} {v : Value} {z : Int} (t : NAt W0 v z) (hb : Below W.heap.size W w1) (hh : W.heap = W0.heap) : NAt w1 v z := by
  have e : ∀ p, W.cell? p = W0.cell? p := fun p => by simp [World.cell?, hh]
  obtain ⟨s, A, c, xs, hv, hn, h1, h2, h3, h4⟩ := t
  refine ⟨s, A, c, xs, hv, fun hp => ?_, h1, h2, h3, h4⟩
  obtain ⟨ad, ea, hlt, hc⟩ := hn hp
  rw [← hh] at hlt
  exact ⟨ad, ea, Nat.lt_of_lt_of_le hlt hb.size, fun j hj => ((hb.cell (by rw [block_of_add]; exact hlt)).trans (e _)).trans (hc j hj)⟩
/-- A value of one of the kinds. -/
def AtK (k : Nat) (w : World) (v : Value) (z : Int) : Prop := match k with
  | 0 => IntAt w v z
  | 1 => RefAt w v z
  | _ => NAt w v z
theorem AtK.step {k : Nat} {W0 W w1 : World} {v : Value} {z : Int} (t : AtK k W0 v z) (hb : Below W.heap.size W w1) (hh : W.heap = W0.heap) : AtK k w1 v z := by
  match k, t with
  | 0, t => exact IntAt.step t hb hh
  | 1, t => exact RefAt.step t hb hh
  | _ + 2, t => exact NAt.step t hb hh
structure MVar where
  here : Bool
  r : Nat
  b : Bool
  A : Option Addr
  n : Nat
  c : Nat
  z : Int
  k : Nat
structure IsM (w : World) (t : MVar) : Prop where
  lt : t.here = true → t.r < w.heap.size
  two : t.here = true → Two w t.r (.bool t.b) (.slice t.A t.n t.c)
  at_ : AtK t.k w (.agg #[.bool t.b, .slice t.A t.n t.c]) t.z
def MVars (w : World) (l : List MVar) : Prop := ∀ (i : Nat) (t : MVar), l[i]? = some t → IsM w t
theorem IsM.step {W0 W w1 : World} {t : MVar} (h : IsM W0 t) (hb : Below W.heap.size W w1) (hh : W.heap = W0.heap) : IsM w1 t :=
  ⟨fun e => Nat.lt_of_lt_of_le (h.lt e) (by rw [← hh]; exact hb.size), fun e => (h.two e).step hb hh (h.lt e), h.at_.step hb hh⟩
theorem MVars.step {W0 W w1 : World} {l : List MVar} (h : MVars W0 l) (hb : Below W.heap.size W w1) (hh : W.heap = W0.heap) : MVars w1 l := fun i t ht => (h i t ht).step hb hh
theorem MVars.nil (w : World) : MVars w [] := fun i t ht => by simp at ht
theorem MVars.cons {w : World} {l : List MVar} {t : MVar} (h : MVars w l) (ht : IsM w t) : MVars w (t :: l) := fun i u hu => by
  cases i with
  | zero => simp at hu; subst hu; exact ht
  | succ i => exact h i u (by simpa using hu)
theorem MVars.told0 {w : World} {l : List MVar} (h : MVars w l) {b : Bool} {A : Option Addr} {c : Nat} {zs : List Nat} {z : Int} (hs : SignOf b z) (hl : Limbs w A c zs z.natAbs) : MVars w (⟨false, 0, b, A, zs.length, c, z, 0⟩ :: l) :=
  h.cons ⟨fun e => (by cases e), fun e => (by cases e), show IntAt _ _ _ from ⟨b, A, c, zs, rfl, hs, hl⟩⟩
theorem MVars.told1 {w : World} {l : List MVar} (h : MVars w l) {b : Bool} {A : Option Addr} {c : Nat} {zs : List Nat} {z : Int} (hs : SignOf b z) (hl : Digs w A c zs z.natAbs) : MVars w (⟨false, 0, b, A, zs.length, c, z, 1⟩ :: l) :=
  h.cons ⟨fun e => (by cases e), fun e => (by cases e), show RefAt _ _ _ from ⟨b, A, c, zs, rfl, hs, hl⟩⟩
theorem MVars.laid {w : World} {l : List MVar} {t : MVar} (h : MVars w (t :: l)) (T : TypeId) : MVars (w.alloc (.cells #[.bool t.b, .slice t.A t.n t.c] T)) (⟨true, w.heap.size, t.b, t.A, t.n, t.c, t.z, t.k⟩ :: l) := by
  have hb : Below w.heap.size w (w.alloc (.cells #[.bool t.b, .slice t.A t.n t.c] T)) := (Below.refl _ _).alloc (Nat.le_refl _) _
  have h1 : MVars (w.alloc (.cells #[.bool t.b, .slice t.A t.n t.c] T)) l := fun i u hu => (h (i + 1) u (by simpa using hu)).step hb rfl
  exact h1.cons ⟨fun _ => by simp, fun _ => Two.new w _ _ T, ((h 0 t rfl).at_.step hb rfl)⟩
theorem MVars.skip {w : World} {l : List MVar} {a b : MVar} (h : MVars w (a :: b :: l)) : MVars w (a :: l) :=
  MVars.cons (fun i t ht => h (i + 2) t (by simpa using ht)) (h 0 a rfl)
theorem MVars.tail {w : World} {l : List MVar} {a : MVar} (h : MVars w (a :: l)) : MVars w l := fun i t ht => h (i + 1) t (by simpa using ht)
theorem MVars.swap {w : World} {l : List MVar} {a b : MVar} (h : MVars w (a :: b :: l)) : MVars w (b :: a :: l) :=
  ((h.tail.tail).cons (h 0 a rfl)).cons (h 1 b rfl)
theorem MVars.alloc {w : World} {l : List MVar} (h : MVars w l) (o : Obj) : MVars (w.alloc o) l := h.step ((Below.refl _ _).alloc (Nat.le_refl _) o) rfl
theorem of_is (v : Value) (z : Int) (w : World) (h : NAt w v z) : Calls Try.prog 16 #[v] w fun e w' => IsOf w w' z e := by
  obtain ⟨s, A, c, xs, rfl, hn, h1, h2, h3, rfl⟩ := h
  exact Of_any s A c xs w hn h1 h3 h2
theorem is_same (v1 v2 : Value) (x : Int) (m : Nat) (w : World) (h1 : IntAt w v1 x) (h2 : RefAt w v2 x) (hm : m ≤ 400000) (hf : FitD x m) : Calls Try.prog 21 #[v1, v2] w fun e w' => IsBool w w' true e := by
  refine (Is_any v1 v2 x x m w h1 h2 (by omega) (Nat.lt_of_lt_of_le hf (Nat.pow_le_pow_left (by decide) m)) hf).mono fun e w' h => ?_
  rw [decide_eq_true (rfl : x = x)] at h
  exact h
theorem mrow1 (w : World) (s1 : Bool) (A1 : Option Addr) (n1 c1 : Nat) (t : TypeId) : NRow (w.alloc (.cells #[.bool s1, .slice A1 n1 c1] t)) w.heap.size [⟨s1, A1, n1, c1⟩] :=
  ⟨by simp, fun i x hi => by
    match i, hi with
    | 0, hi => simp at hi; subst hi; constructor <;> go_simp⟩
theorem short1 (M : Nat) (s1 : Bool) (A1 : Option Addr) (n1 c1 : Nat) (w : World) (b : Bool) (hb : decide (n1 ≤ M) = b) :
    Calls Try.prog 14 #[.int .i64 (M : Int), .slice (some ⟨w.heap.size, 0, none⟩) 1 1] (w.alloc (.cells #[.bool s1, .slice A1 n1 c1] 24)) fun e w' => IsBool (w.alloc (.cells #[.bool s1, .slice A1 n1 c1] 24)) w' b e := by
  have h := shortN_any w.heap.size M [⟨s1, A1, n1, c1⟩] _ (mrow1 w s1 A1 n1 c1 24) (by simp)
  rw [show decide (AllS M [⟨s1, A1, n1, c1⟩]) = b by rw [← hb]; exact decide_eq_decide.2 ⟨fun k => k _ (List.mem_cons_self ..), fun k y hy => by simp at hy; subst hy; exact k⟩] at h
  exact h
theorem mrow2 (w : World) (s1 s2 : Bool) (A1 A2 : Option Addr) (n1 n2 c1 c2 : Nat) (t : TypeId) :
    NRow (w.alloc (.cells #[.bool s1, .slice A1 n1 c1, .bool s2, .slice A2 n2 c2] t)) w.heap.size [⟨s1, A1, n1, c1⟩, ⟨s2, A2, n2, c2⟩] :=
  ⟨by simp, fun i x hi => by
    match i, hi with
    | 0, hi => simp at hi; subst hi; constructor <;> go_simp
    | 1, hi => simp at hi; subst hi; constructor <;> go_simp⟩
theorem short2 (M : Nat) (s1 s2 : Bool) (A1 A2 : Option Addr) (n1 n2 c1 c2 : Nat) (w : World) (b : Bool) (hb : decide (n1 ≤ M ∧ n2 ≤ M) = b) :
    Calls Try.prog 14 #[.int .i64 (M : Int), .slice (some ⟨w.heap.size, 0, none⟩) 2 2] (w.alloc (.cells #[.bool s1, .slice A1 n1 c1, .bool s2, .slice A2 n2 c2] 24)) fun e w' => IsBool (w.alloc (.cells #[.bool s1, .slice A1 n1 c1, .bool s2, .slice A2 n2 c2] 24)) w' b e := by
  have h := shortN_any w.heap.size M [⟨s1, A1, n1, c1⟩, ⟨s2, A2, n2, c2⟩] _ (mrow2 w s1 s2 A1 A2 n1 n2 c1 c2 24) (by simp)
  rw [show decide (AllS M [⟨s1, A1, n1, c1⟩, ⟨s2, A2, n2, c2⟩]) = b by
    rw [← hb]
    refine decide_eq_decide.2 ⟨fun k => ⟨k _ (List.mem_cons_self ..), k _ (List.mem_cons_of_mem _ (List.mem_cons_self ..))⟩, fun k y hy => ?_⟩
    simp at hy
    rcases hy with rfl | rfl
    · exact k.1
    · exact k.2] at h
  exact h
/-- Two numbers as plain data in their variables. -/
theorem boxed2_vars (w : World) (s1 s2 : Bool) (A1 A2 : Option Addr) (xs1 xs2 : List Nat) (c1 c2 : Nat) (x y : Int) (h1 : NAt w (.agg #[.bool s1, .slice A1 xs1.length c1]) x) (h2 : NAt w (.agg #[.bool s2, .slice A2 xs2.length c2]) y) :
    MVars ((w.alloc (.cells #[.bool s1, .slice A1 xs1.length c1] 24)).alloc (.cells #[.bool s2, .slice A2 xs2.length c2] 24))
      [⟨true, w.heap.size + 1, s2, A2, xs2.length, c2, y, 2⟩, ⟨true, w.heap.size, s1, A1, xs1.length, c1, x, 2⟩] := by
  have v0 : MVars w [⟨false, 0, s1, A1, xs1.length, c1, x, 2⟩, ⟨false, 0, s2, A2, xs2.length, c2, y, 2⟩] :=
    ((MVars.nil w).cons (t := ⟨false, 0, s2, A2, xs2.length, c2, y, 2⟩) ⟨fun e => (by cases e), fun e => (by cases e), show NAt _ _ _ from h2⟩).cons (t := ⟨false, 0, s1, A1, xs1.length, c1, x, 2⟩) ⟨fun e => (by cases e), fun e => (by cases e), show NAt _ _ _ from h1⟩
  have v1 := ((v0.laid 24).swap).laid 24
  rw [size_alloc] at v1
  exact v1
theorem boxed2_b (w : World) (o o' : Obj) : Below w.heap.size w ((w.alloc o).alloc o') := ((Below.refl _ _).alloc (Nat.le_refl _) _).alloc (by simp) _
end Go.Proofs.Ytllkajlmfbikhaa.RK
