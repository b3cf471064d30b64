/- Memory, said in plain words: a slice value that reads as a list of digits; an integer of the program as a struct over such a slice. What new memory, draws and stores elsewhere leave of it. -/
import Derived.Test.YtagmdeabneapaaaMath
import Derived.WalkKit
import Derived.WalkSpells
import Derived.WalkLawsBesides
import Derived.Deep.AppendLies
import Derived.Deep.Draws
import Derived.BigQuiet
import Derived.Deep.QuietTactic
import Derived.Deep.Light
import Derived.Lib.Hide
namespace Go.Proofs.Ytagmdeabneapaaa
open Go.RowKit

theorem block_of_add (a : Addr) (n : Nat) : (a.add n).block = a.block := by unfold Addr.add; split <;> rfl
theorem add_of_add (a : Addr) (i j : Nat) : (a.add i).add j = a.add (i + j) := by
  unfold Addr.add
  by_cases hi : i = 0 <;> by_cases hj : j = 0 <;> simp [hi, hj, Nat.add_assoc]

/-- The slice value '.slice A n c' holds the numbers xs of kind k. -/
def Nums (w : World) (k : IntKind) (A : Option Addr) (xs : List Nat) : Prop :=
  0 < xs.length → ∃ ad, A = some ad ∧ ad.block < w.heap.size ∧ ∀ j, j < xs.length → w.cell? (ad.add j) = some (.int k ((xs.getD j 0 : Nat) : Int))

section
variable {w w' : World} {k : IntKind} {A : Option Addr} {xs : List Nat}
theorem Nums.nil (w : World) (k : IntKind) (A : Option Addr) : Nums w k A [] := fun h => absurd h (by simp)
theorem Nums.at_ {j : Nat} (h : Nums w k A xs) (hj : j < xs.length) : ∃ ad, A = some ad ∧ ad.block < w.heap.size ∧ ∀ j, j < xs.length → w.cell? (ad.add j) = some (.int k ((xs.getD j 0 : Nat) : Int)) := h (by omega)
theorem Nums.keep (h : Nums w k A xs) (hs : w.heap.size ≤ w'.heap.size) (hk : ∀ p : Addr, p.block < w.heap.size → w'.cell? p = w.cell? p) : Nums w' k A xs := fun hn => by
  obtain ⟨ad, e, hb, hc⟩ := h hn
  exact ⟨ad, e, by omega, fun j hj => (hk _ (by rw [block_of_add]; exact hb)).trans (hc j hj)⟩
theorem Nums.below (h : Nums w k A xs) (hb : Below w.heap.size w w') : Nums w' k A xs := h.keep hb.size fun _ hp => hb.cell hp
theorem Nums.drew (h : Nums w k A xs) : Nums w.drew k A xs := h
theorem Nums.drewN (h : Nums w k A xs) (n : Nat) : Nums (w.drewN n) k A xs := h
theorem Nums.alloc (h : Nums w k A xs) (o : Obj) : Nums (w.alloc o) k A xs := h.keep (by simp) fun p hp => World.cell?_alloc_lt w o p (by omega)
theorem Nums.take (h : Nums w k A xs) (n : Nat) : Nums w k A (xs.take n) := fun hn => by
  rw [List.length_take] at hn
  obtain ⟨ad, e, hb, hc⟩ := h (by omega)
  refine ⟨ad, e, hb, fun j hj => ?_⟩
  rw [List.length_take] at hj
  rw [hc j (by omega), List.getD_eq_getElem?_getD, List.getD_eq_getElem?_getD, List.getElem?_take, if_pos (by omega)]
theorem Nums.of_own {base : Nat} {e : TypeId} {n c : Nat} {ys : List Value} (h : w.ownsRow base e 1 (.slice A n c) n ys) (hy : ys = xs.map fun x => Value.int k ((x : Nat) : Int)) : Nums w k A xs := fun hn => by
  have hl := h.1
  subst hy
  simp at hl
  rcases h.2 with ⟨hv, h0⟩ | ⟨g, cap, cur, hv, _, hg, hnc, _, _, _⟩
  · omega
  · simp only [Value.slice.injEq] at hv
    obtain ⟨rfl, _, _⟩ := hv
    refine ⟨_, rfl, (Array.getElem?_eq_some_iff.1 hg).1, fun j hj => ?_⟩
    refine h.cells (g := g) rfl j _ ?_
    rw [List.getElem?_map, List.getElem?_eq_getElem hj, List.getD_eq_getElem?_getD, List.getElem?_eq_getElem hj]
    rfl
end

/-- A row of numbers within block g, from off on: the block's cells are cur. -/
structure Seg (w : World) (g off : Nat) (k : IntKind) (e : TypeId) (cur : Array Value) (xs : List Nat) : Prop where
  blk : w.heap[g]? = some (.cells cur e (0, 0))
  fit : off + xs.length ≤ cur.size
  at_ : ∀ j, j < xs.length → cur[off + j]? = some (.int k ((xs.getD j 0 : Nat) : Int))

section
variable {w w' : World} {g off : Nat} {k : IntKind} {e : TypeId} {cur : Array Value} {xs : List Nat}
theorem Seg.cell (h : Seg w g off k e cur xs) {j : Nat} (hj : j < xs.length) : w.cell? ⟨g, off + j, none⟩ = some (.int k ((xs.getD j 0 : Nat) : Int)) := by
  rw [cell_of_row w g (off + j) cur e (0, 0) h.blk]
  exact h.at_ j hj
theorem Seg.frozen (h : Seg w g off k e cur xs) (j : Nat) : w.frozen? ⟨g, j, none⟩ = false := by
  have hb := h.blk
  simp [World.frozen?, hb]
theorem Seg.lt (h : Seg w g off k e cur xs) : g < w.heap.size := (Array.getElem?_eq_some_iff.1 h.blk).1
theorem Seg.nums (h : Seg w g off k e cur xs) : Nums w k (some ⟨g, off, none⟩) xs := fun _ => by
  refine ⟨_, rfl, h.lt, fun j hj => ?_⟩
  have hc := h.cell hj
  unfold Addr.add
  by_cases h0 : j = 0
  · subst h0; simpa using hc
  · simpa [h0] using hc
theorem Seg.set_ (h : Seg w g off k e cur xs) (j : Nat) (d : Nat) :
    Seg (w.setCell ⟨g, off + j, none⟩ (.int k (d : Int))) g off k e (cur.setIfInBounds (off + j) (.int k (d : Int))) (xs.set j d) := by
  refine ⟨heap_setCell_same w g (off + j) cur e _ h.blk, by simpa using h.fit, fun i hi => ?_⟩
  rw [List.length_set] at hi
  have hf := h.fit
  rw [Array.getElem?_setIfInBounds, List.getD_eq_getElem?_getD, List.getElem?_set]
  by_cases e : j = i
  · subst e
    rw [if_pos rfl, if_pos (by omega), if_pos rfl, if_pos hi]
    rfl
  · rw [if_neg (by omega), if_neg e, h.at_ i hi, List.getD_eq_getElem?_getD]
theorem Seg.keep (h : Seg w g off k e cur xs) (hb : w'.heap[g]? = w.heap[g]?) : Seg w' g off k e cur xs := ⟨hb.trans h.blk, h.fit, h.at_⟩
theorem Seg.grown {row : Option Nat} (h : Seg w g off k e cur xs) (hg : w.grownBy w' row) (hr : row ≠ some g) : Seg w' g off k e cur xs := h.keep (hg.block g h.lt (fun e => hr e.symm))
theorem Seg.alloc (h : Seg w g off k e cur xs) (o : Obj) : Seg (w.alloc o) g off k e cur xs := h.keep (Below.heap_alloc w o g h.lt)
end

/-- The row has become xs'; the block's other cells are as they were. -/
def SegTo (w' : World) (g off : Nat) (k : IntKind) (e : TypeId) (cur : Array Value) (xs' : List Nat) : Prop :=
  ∃ cur', Seg w' g off k e cur' xs' ∧ cur'.size = cur.size ∧ ∀ j, j < off ∨ off + xs'.length ≤ j → cur'[j]? = cur[j]?

theorem SegTo.refl {w : World} {g off : Nat} {k : IntKind} {e : TypeId} {cur : Array Value} {xs : List Nat} (h : Seg w g off k e cur xs) : SegTo w g off k e cur xs := ⟨cur, h, rfl, fun _ _ => rfl⟩
theorem SegTo.set_ {w : World} {g off : Nat} {k : IntKind} {e : TypeId} {cur : Array Value} {xs : List Nat} (h : SegTo w g off k e cur xs) {j : Nat} (hj : j < xs.length) (d : Nat) :
    SegTo (w.setCell ⟨g, off + j, none⟩ (.int k (d : Int))) g off k e cur (xs.set j d) := by
  obtain ⟨cur', h1, h2, h3⟩ := h
  refine ⟨_, h1.set_ j d, by simpa using h2, fun i hi => ?_⟩
  rw [List.length_set] at hi
  rw [Array.getElem?_setIfInBounds, if_neg (by omega)]
  exact h3 i hi

theorem SegTo.set0 {w : World} {g : Nat} {k : IntKind} {e : TypeId} {cur : Array Value} {xs : List Nat} (h : SegTo w g 0 k e cur xs) {j : Nat} (hj : j < xs.length) (d : Nat) :
    SegTo (w.setCell ⟨g, j, none⟩ (.int k (d : Int))) g 0 k e cur (xs.set j d) := by
  have := h.set_ hj d
  rwa [Nat.zero_add] at this

theorem grown_store (w : World) (g o : Nat) (u : Value) : w.grownBy (w.setCell ⟨g, o, none⟩ u) (some g) :=
  ⟨rfl, rfl, rfl, by simp [World.setCell], fun k _ hk => heap_setCell_other w ⟨g, o, none⟩ k u (fun e => hk (by simp [e]))⟩
theorem grown_trans {a b c : World} {row : Option Nat} (h : a.grownBy b row) (k : b.grownBy c row) : a.grownBy c row :=
  ⟨k.os.trans h.os, k.tape.trans h.tape, k.output.trans h.output, Nat.le_trans h.size k.size, fun i hi hn => (k.block i (Nat.lt_of_lt_of_le hi h.size) hn).trans (h.block i hi hn)⟩
theorem grown_below {a b : World} {g : Nat} (h : a.grownBy b (some g)) {B : Nat} (hB : B ≤ g) (hs : B ≤ a.heap.size) : Below B a b :=
  ⟨h.os, h.tape, h.output, h.size, fun k hk => h.block k (by omega) (fun e => by injection e; omega)⟩
theorem below_grown {a b : World} (h : Below a.heap.size a b) (row : Option Nat) : a.grownBy b row := ⟨h.os, h.tape, h.output, h.size, fun i hi _ => h.block i hi⟩

/-- A row that stands in another block than the one that is written. -/
def Off (A : Option Addr) (g : Nat) : Prop := ∀ ad, A = some ad → ad.block ≠ g
theorem Nums.grown {w w' : World} {k : IntKind} {A : Option Addr} {xs : List Nat} {g : Nat} (h : Nums w k A xs) (hg : w.grownBy w' (some g)) (ho : 0 < xs.length → Off A g) : Nums w' k A xs := fun hn => by
  obtain ⟨ad, e, hb, hc⟩ := h hn
  refine ⟨ad, e, Nat.lt_of_lt_of_le hb hg.size, fun j hj => ?_⟩
  rw [← hc j hj]
  exact World.cell?_of_block (hg.block _ (by rw [block_of_add]; exact hb) (fun h' => by rw [block_of_add] at h'; injection h' with h'; exact ho hn ad e h'))

/-- The limbs' base. -/
def B32 : Nat := 4294967296
theorem B32_pos : 0 < B32 := by decide
theorem B32_one : 1 < B32 := by decide
theorem B32_eq : B32 = 4294967296 := rfl

theorem limb_lt {xs : List Nat} (h : Lm.Ok B32 xs) (j : Nat) : xs.getD j 0 < 4294967296 := h.getD B32_pos j

end Go.Proofs.Ytagmdeabneapaaa
