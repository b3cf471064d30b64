/- A heap of package heap as memory has it: a struct of eight cells, and the rows of its words and of its heads; what an append to each leaves of it. -/
import Derived.Test.YtaggmddmldfpkaaWChar
import Derived.Deep.AppendLies
import Derived.Maps.AppendAt
import Derived.Deep.LoopGhost
import Derived.Deep.Draws
import Derived.BigQuiet
import Derived.Deep.QuietTactic
import Derived.Laws.OwnMore
import Derived.RegionTactic
namespace Go.Proofs.Ytaggmddmldfpkaa
open Go.RowKit

/-- The cells of a row of numbers. -/
def cellsOf (k : IntKind) (xs : List Nat) : List Value := xs.map fun x => Value.int k ((x : Nat) : Int)
theorem cellsOf_length (k : IntKind) (xs : List Nat) : (cellsOf k xs).length = xs.length := by simp [cellsOf]
theorem cellsOf_at {k : IntKind} {xs : List Nat} {j : Nat} (hj : j < xs.length) : (cellsOf k xs)[j]? = some (.int k ((xs.getD j 0 : Nat) : Int)) := by
  unfold cellsOf
  rw [List.getElem?_map, List.getElem?_eq_getElem hj, List.getD_eq_getElem?_getD, List.getElem?_eq_getElem hj]
  rfl
theorem cells_snoc (k : IntKind) (ds : List Nat) (d : Nat) (x : Int) (h : x = (d : Int)) : cellsOf k ds ++ [.int k x] = cellsOf k (ds ++ [d]) := by
  subst h
  simp [cellsOf]
theorem own_form {w : World} {base : Nat} {e : TypeId} {v : Value} {n : Nat} {xs : List Value} (h : w.ownsRow base e 1 v n xs) : ∃ A c, v = .slice A n c ∧ n ≤ c := by
  rcases h.2 with ⟨rfl, rfl⟩ | ⟨g, cap, _, rfl, _, _, hnc, _⟩
  · exact ⟨none, 0, rfl, Nat.le_refl _⟩
  · exact ⟨_, cap, rfl, hnc⟩
theorem own_type {w : World} {base : Nat} {e : TypeId} {v : Value} {n : Nat} {xs : List Value} (h : w.ownsRow base e 1 v n xs) : ∀ k, v.ownBlock = some k → ∃ cur, w.heap[k]? = some (.cells cur e (0, 0)) := by
  intro k hk
  rcases h.2 with ⟨rfl, _⟩ | ⟨g, cap, cur, rfl, hb, hg, _⟩
  · simp [Value.ownBlock] at hk
  · simp [Value.ownBlock] at hk
    subst hk
    exact ⟨cur, hg⟩
theorem grown_store (w : World) (g o : Nat) (u : Value) : w.grownBy (w.setCell ⟨g, o, none⟩ u) (some g) :=
  ⟨rfl, rfl, rfl, by simp [World.setCell], fun k _ hk => heap_setCell_other w ⟨g, o, none⟩ k u (fun e => hk (by simp [e]))⟩
theorem grown_trans {a b c : World} {row : Option Nat} (h : a.grownBy b row) (k : b.grownBy c row) : a.grownBy c row :=
  ⟨k.os.trans h.os, k.tape.trans h.tape, k.output.trans h.output, Nat.le_trans h.size k.size, fun i hi hn => (k.block i (Nat.lt_of_lt_of_le hi h.size) hn).trans (h.block i hi hn)⟩
theorem below_grown {a b : World} (h : Below a.heap.size a b) (row : Option Nat) : a.grownBy b row := ⟨h.os, h.tape, h.output, h.size, fun i hi _ => h.block i hi⟩
theorem below_then {w W w' : World} (h1 : Below w.heap.size w W) (h2 : Below W.heap.size W w') : Below w.heap.size w w' := h1.trans (h2.mono h1.size)
theorem grown_base {a b : World} {row : Option Nat} (h : a.grownBy b row) {B : Nat} (hB : ∀ k, row = some k → B ≤ k) (hs : B ≤ a.heap.size) : Below B a b :=
  ⟨h.os, h.tape, h.output, h.size, fun k hk => h.block k (by omega) (fun e => by have := hB k e.symm; omega)⟩

/-- The heap's cells. -/
def heapCells (lim yg : Int) (wv hv : Value) (old mv : Int) (rv : Value) (nx : Int) : Array Value := #[.int .i64 lim, .int .i64 yg, wv, hv, .int .i64 old, .int .i64 mv, rv, .int .i64 nx]
structure HeapAt (w : World) (base g : Nat) (lim yg : Int) (wv hv : Value) (old mv : Int) (rv : Value) (nx : Int) (ws hs : List Nat) : Prop where
  lo : base ≤ g
  blk : w.heap[g]? = some (.cells (heapCells lim yg wv hv old mv rv nx) 156 (0, 0))
  own1 : w.ownsRow base 23 1 wv ws.length (cellsOf .u64 ws)
  own2 : w.ownsRow base 22 1 hv hs.length (cellsOf .u64 hs)

section
variable {w w' w1 : World} {base g : Nat} {lim yg old mv nx : Int} {wv hv rv v1 : Value} {ws hs : List Nat}
theorem HeapAt.lt (h : HeapAt w base g lim yg wv hv old mv rv nx ws hs) : g < w.heap.size := (Array.getElem?_eq_some_iff.1 h.blk).1
theorem HeapAt.cell (h : HeapAt w base g lim yg wv hv old mv rv nx ws hs) (j : Nat) : w.cell? ⟨g, j, none⟩ = (heapCells lim yg wv hv old mv rv nx)[j]? := cell_of_row w g j _ _ (0, 0) h.blk
theorem HeapAt.fz (h : HeapAt w base g lim yg wv hv old mv rv nx ws hs) (j : Nat) : w.frozen? ⟨g, j, none⟩ = false := frozen_of_row w g j _ _ h.blk
theorem HeapAt.ne1 (h : HeapAt w base g lim yg wv hv old mv rv nx ws hs) : some g ≠ wv.ownBlock := fun e => by
  obtain ⟨cur, hc⟩ := own_type h.own1 g e.symm
  rw [h.blk] at hc
  injection hc with hc
  injection hc with _ h3
  exact absurd h3 (by decide)
theorem HeapAt.ne2 (h : HeapAt w base g lim yg wv hv old mv rv nx ws hs) : some g ≠ hv.ownBlock := fun e => by
  obtain ⟨cur, hc⟩ := own_type h.own2 g e.symm
  rw [h.blk] at hc
  injection hc with hc
  injection hc with _ h3
  exact absurd h3 (by decide)
theorem HeapAt.apart (h : HeapAt w base g lim yg wv hv old mv rv nx ws hs) (k : Nat) (e1 : wv.ownBlock = some k) (e2 : hv.ownBlock = some k) : False := by
  obtain ⟨cur, hc⟩ := own_type h.own1 k e1
  obtain ⟨cur2, hd⟩ := own_type h.own2 k e2
  rw [hc] at hd
  injection hd with hd
  injection hd with _ h3
  exact absurd h3 (by decide)
theorem HeapAt.kept {row : Option Nat} (h : HeapAt w base g lim yg wv hv old mv rv nx ws hs) (hg : w.grownBy w' row) (h0 : some g ≠ row) (h1 : wv.ownBlock = none ∨ wv.ownBlock ≠ row) (h2 : hv.ownBlock = none ∨ hv.ownBlock ≠ row) : HeapAt w' base g lim yg wv hv old mv rv nx ws hs :=
  ⟨h.lo, (hg.block g h.lt h0).trans h.blk, h.own1.kept hg h1, h.own2.kept hg h2⟩
theorem HeapAt.below (h : HeapAt w base g lim yg wv hv old mv rv nx ws hs) (hb : Below w.heap.size w w') : HeapAt w' base g lim yg wv hv old mv rv nx ws hs :=
  h.kept (below_grown hb none) (by simp) (by cases wv.ownBlock <;> simp) (by cases hv.ownBlock <;> simp)
theorem HeapAt.alloc (h : HeapAt w base g lim yg wv hv old mv rv nx ws hs) (o : Obj) : HeapAt (w.alloc o) base g lim yg wv hv old mv rv nx ws hs := h.below ((Below.refl _ _).alloc (Nat.le_refl _) _)
theorem HeapAt.drewN (h : HeapAt w base g lim yg wv hv old mv rv nx ws hs) (n : Nat) : HeapAt (w.drewN n) base g lim yg wv hv old mv rv nx ws hs := ⟨h.lo, h.blk, h.own1, h.own2⟩
theorem below_drewN {B : Nat} (h : Below B w w') (n : Nat) : Below B w (w'.drewN n) := ⟨h.os, h.tape, h.output, h.size, h.block⟩
theorem own_apart {e : TypeId} {n : Nat} {xs : List Value} (h : HeapAt w base g lim yg wv hv old mv rv nx ws hs) (hown : w1.ownsRow base e 1 v1 n xs) (hb : w1.heap[g]? = w.heap[g]?) (hne : e ≠ 156) : v1.ownBlock ≠ some g := fun k => by
  obtain ⟨cur, hc⟩ := own_type hown g k
  rw [hb, h.blk] at hc
  injection hc with hc
  injection hc with _ h3
  exact hne h3.symm
/-- The struct behind an append to the row of words, ahead of the store of its header. -/
theorem HeapAt.blk1 (h : HeapAt w base g lim yg wv hv old mv rv nx ws hs) (hg : w.grownBy w1 wv.ownBlock) : w1.heap[g]? = some (.cells (heapCells lim yg wv hv old mv rv nx) 156 (0, 0)) := (hg.block g h.lt h.ne1).trans h.blk
theorem HeapAt.blk2 (h : HeapAt w base g lim yg wv hv old mv rv nx ws hs) (hg : w.grownBy w1 hv.ownBlock) : w1.heap[g]? = some (.cells (heapCells lim yg wv hv old mv rv nx) 156 (0, 0)) := (hg.block g h.lt h.ne2).trans h.blk
theorem HeapAt.words (h : HeapAt w base g lim yg wv hv old mv rv nx ws hs) (hg : w.grownBy w1 wv.ownBlock) {x : Nat} {n : Nat} (hn : n = (ws ++ [x]).length) (hown : w1.ownsRow base 23 1 v1 n (cellsOf .u64 (ws ++ [x]))) :
    HeapAt (w1.setCell ⟨g, 2, none⟩ v1) base g lim yg v1 hv old mv rv nx (ws ++ [x]) hs := by
  have hb := h.blk1 hg
  have ha : v1.ownBlock ≠ some g := own_apart h hown (hb.trans h.blk.symm) (by decide)
  have hc : hv.ownBlock ≠ some g := fun e => h.ne2 e.symm
  refine ⟨h.lo, ?_, ?_, ?_⟩
  · rw [heap_setCell_same w1 g 2 _ _ _ hb]; rfl
  · rw [← hn]; exact hown.kept (grown_store w1 g 2 v1) (.inr ha)
  · refine (h.own2.kept hg ?_).kept (grown_store w1 g 2 v1) (.inr hc)
    rcases hx : hv.ownBlock with _ | k
    · exact .inl rfl
    · exact .inr fun e => h.apart k e.symm hx
theorem HeapAt.heads (h : HeapAt w base g lim yg wv hv old mv rv nx ws hs) (hg : w.grownBy w1 hv.ownBlock) {x : Nat} {n : Nat} (hn : n = (hs ++ [x]).length) (hown : w1.ownsRow base 22 1 v1 n (cellsOf .u64 (hs ++ [x]))) :
    HeapAt (w1.setCell ⟨g, 3, none⟩ v1) base g lim yg wv v1 old mv rv nx ws (hs ++ [x]) := by
  have hb := h.blk2 hg
  have ha : v1.ownBlock ≠ some g := own_apart h hown (hb.trans h.blk.symm) (by decide)
  have hc : wv.ownBlock ≠ some g := fun e => h.ne1 e.symm
  refine ⟨h.lo, ?_, ?_, ?_⟩
  · rw [heap_setCell_same w1 g 3 _ _ _ hb]; rfl
  · refine (h.own1.kept hg ?_).kept (grown_store w1 g 3 v1) (.inr hc)
    rcases hx : wv.ownBlock with _ | k
    · exact .inl rfl
    · exact .inr fun e => h.apart k hx e.symm
  · rw [← hn]; exact hown.kept (grown_store w1 g 3 v1) (.inr ha)
theorem HeapAt.headsAt (h : HeapAt w base g lim yg wv hv old mv rv nx ws hs) {q : Nat} (hq : q < hs.length) : ∃ gh c, hv = .slice (some ⟨gh, 0, none⟩) hs.length c ∧ w.cell? ⟨gh, q, none⟩ = some (.int .u64 ((hs.getD q 0 : Nat) : Int)) ∧ w.frozen? ⟨gh, q, none⟩ = false := by
  rcases id h.own2.2 with ⟨_, h0⟩ | ⟨gh, cap, cur, hv, _, hg, _⟩
  · omega
  · refine ⟨gh, cap, hv, ?_, frozen_of_row w gh q _ _ hg⟩
    have := h.own2.cells (g := gh) (by rw [hv]; rfl) q _ (cellsOf_at hq)
    rw [← this]
    congr 1
    unfold Addr.add
    split
    · next e => subst e; rfl
    · simp
/-- A head's word is changed. -/
theorem HeapAt.marked {q c : Nat} (h : HeapAt w base g lim yg wv (.slice (some ⟨q, 0, none⟩) hs.length c) old mv rv nx ws hs) (j d : Nat) :
    HeapAt (w.setCell ⟨q, j, none⟩ (.int .u64 (d : Int))) base g lim yg wv (.slice (some ⟨q, 0, none⟩) hs.length c) old mv rv nx ws (hs.set j d) := by
  obtain ⟨k1, k2⟩ := h.own2.stored j (.int .u64 (d : Int))
  have h0 : some g ≠ some q := by simpa [Value.ownBlock] using h.ne2
  refine ⟨h.lo, (k2.block g h.lt h0).trans h.blk, h.own1.kept k2 ?_, ?_⟩
  · rcases hx : wv.ownBlock with _ | k
    · exact .inl rfl
    · refine .inr fun e => ?_
      injection e with e
      subst e
      exact h.apart k hx rfl
  · have e : cellsOf .u64 (hs.set j d) = (cellsOf .u64 hs).set j (.int .u64 (d : Int)) := by unfold cellsOf; rw [List.map_set]
    rw [e, List.length_set]
    exact k1
/-- The cell 'old' is changed. -/
theorem HeapAt.olds (h : HeapAt w base g lim yg wv hv old mv rv nx ws hs) (o : Int) : HeapAt (w.setCell ⟨g, 4, none⟩ (.int .i64 o)) base g lim yg wv hv o mv rv nx ws hs := by
  have hc : wv.ownBlock ≠ some g := fun e => h.ne1 e.symm
  have hd : hv.ownBlock ≠ some g := fun e => h.ne2 e.symm
  refine ⟨h.lo, ?_, h.own1.kept (grown_store w g 4 _) (.inr hc), h.own2.kept (grown_store w g 4 _) (.inr hd)⟩
  rw [heap_setCell_same w g 4 _ _ _ h.blk]
  rfl
end
theorem u64_some (a b : Int) : ∃ d : Nat, bits .or .u64 a b = (d : Int) ∧ d ≤ 18446744073709551615 := by
  refine ⟨(bits .or .u64 a b).toNat, ?_, ?_⟩
  · unfold bits; rw [IntKind.wrap_u64]; omega
  · unfold bits; rw [IntKind.wrap_u64]; omega
end Go.Proofs.Ytaggmddmldfpkaa
