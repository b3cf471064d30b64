/- Joined texts: Math, BaseA, QMath, BaseB, DivLimb, Divide, RefA, QKit, QLow, QLowest, Bits, Is, IsInt, Mag, Len, RSub, RLen, RSet, Oper, Boole, Text16, Text255, Awake, Short, Make, Made. -/
import Derived.WalkKit
import Derived.WalkSpells
import Derived.WalkLawsBesides
import Derived.Deep.AppendLies
import Derived.Deep.Draws
import Derived.BigQuiet
import Derived.Deep.QuietTactic
import Derived.Deep.Light
import Derived.Lib.Hide
import Derived.Test.YtpgbnegppehckaaGreatProg
import Derived.Outline
import Derived.Deep.RegionHeld3
import Derived.Laws.CopyOwn
import Derived.Maps.AppendAt
import Derived.Deep.DeepCutAuto
import Derived.IntWalk
import Derived.Lib.Tables
import Derived.Lib.BitFns
import Derived.Laws.BitsAllLaws
import Derived.StillTailTactics
import Derived.Deep.LoopGhost
import Derived.RegionTactic
import Derived.Laws.BytesArg
set_option linter.unusedSimpArgs false
set_option maxRecDepth 100000
set_option maxHeartbeats 8000000
namespace Lm
def val (b : Nat) : List Nat → Nat
  | [] => 0
  | x :: xs => x + b * val b xs
theorem val_nil (b : Nat) : val b [] = 0 := rfl
theorem val_cons (b x : Nat) (xs : List Nat) : val b (x :: xs) = x + b * val b xs := rfl
theorem val_append (b : Nat) (xs ys : List Nat) : val b (xs ++ ys) = val b xs + b ^ xs.length * val b ys := by
  induction xs with
  | nil => simp [val]
  | cons x xs ih =>
    simp only [List.cons_append, val, ih, List.length_cons, Nat.pow_succ, Nat.mul_add]
    rw [Nat.add_assoc]
    congr 2
    rw [← Nat.mul_assoc, Nat.mul_comm (b ^ xs.length) b]
theorem val_snoc (b : Nat) (xs : List Nat) (d : Nat) : val b (xs ++ [d]) = val b xs + b ^ xs.length * d := by
  rw [val_append]; simp [val]
theorem val_split (b : Nat) (xs : List Nat) (k : Nat) (hk : k ≤ xs.length) : val b xs = val b (xs.take k) + b ^ k * val b (xs.drop k) := by
  have h := val_append b (xs.take k) (xs.drop k)
  rw [List.take_append_drop, List.length_take, Nat.min_eq_left hk] at h
  exact h
theorem val_zeros (b n : Nat) : val b (List.replicate n 0) = 0 := by
  induction n with
  | zero => rfl
  | succ n ih => simp [List.replicate_succ, val, ih]
def Ok (b : Nat) (xs : List Nat) : Prop := ∀ x ∈ xs, x < b
theorem Ok.nil (b : Nat) : Ok b [] := by intro x hx; cases hx
theorem Ok.cons {b x : Nat} {xs : List Nat} (h : x < b) (hs : Ok b xs) : Ok b (x :: xs) := by
  intro y hy; rcases List.mem_cons.1 hy with rfl | hy
  · exact h
  · exact hs y hy
theorem Ok.head {b x : Nat} {xs : List Nat} (h : Ok b (x :: xs)) : x < b := h x (List.mem_cons_self ..)
theorem Ok.tail {b x : Nat} {xs : List Nat} (h : Ok b (x :: xs)) : Ok b xs := fun y hy => h y (List.mem_cons_of_mem _ hy)
theorem Ok.append {b : Nat} {xs ys : List Nat} (h : Ok b xs) (k : Ok b ys) : Ok b (xs ++ ys) := by
  intro y hy; rcases List.mem_append.1 hy with hy | hy
  · exact h y hy
  · exact k y hy
theorem Ok.take {b : Nat} {xs : List Nat} (h : Ok b xs) (k : Nat) : Ok b (xs.take k) := fun y hy => h y (List.mem_of_mem_take hy)
theorem Ok.drop {b : Nat} {xs : List Nat} (h : Ok b xs) (k : Nat) : Ok b (xs.drop k) := fun y hy => h y (List.mem_of_mem_drop hy)
theorem Ok.set {b : Nat} {xs : List Nat} (h : Ok b xs) (k d : Nat) (hd : d < b) : Ok b (xs.set k d) := by
  intro y hy
  rcases List.mem_or_eq_of_mem_set hy with hy | rfl
  · exact h y hy
  · exact hd
theorem Ok.zeros {b : Nat} (hb : 0 < b) (n : Nat) : Ok b (List.replicate n 0) := by
  intro y hy; rw [(List.mem_replicate.1 hy).2]; exact hb
theorem Ok.getD {b : Nat} {xs : List Nat} (h : Ok b xs) (hb : 0 < b) (k : Nat) : xs.getD k 0 < b := by
  rw [List.getD_eq_getElem?_getD]
  cases hk : xs[k]? with
  | none => simpa using hb
  | some y => simpa using h y (List.mem_of_getElem? hk)
theorem val_lt {b : Nat} {xs : List Nat} (h : Ok b xs) : val b xs < b ^ xs.length := by
  induction xs with
  | nil => simp [val]
  | cons x xs ih =>
    have h1 := ih h.tail
    have h2 := h.head
    rw [val_cons, List.length_cons, Nat.pow_succ, Nat.mul_comm _ b]
    calc x + b * val b xs < b + b * val b xs := by omega
      _ = b * (val b xs + 1) := by rw [Nat.mul_add]; omega
      _ ≤ b * b ^ xs.length := Nat.mul_le_mul_left _ h1
theorem val_set (b : Nat) (xs : List Nat) (k d : Nat) (hk : k < xs.length) : val b (xs.set k d) + b ^ k * xs.getD k 0 = val b xs + b ^ k * d := by
  induction xs generalizing k with
  | nil => simp at hk
  | cons x xs ih =>
    cases k with
    | zero => simp [val]; omega
    | succ k =>
      have h := ih k (by simpa using hk)
      simp only [List.set_cons_succ, val, List.getD_cons_succ, Nat.pow_succ]
      have e1 : b ^ k * b * xs.getD k 0 = b * (b ^ k * xs.getD k 0) := by rw [Nat.mul_comm (b ^ k) b, Nat.mul_assoc]
      have e2 : b ^ k * b * d = b * (b ^ k * d) := by rw [Nat.mul_comm (b ^ k) b, Nat.mul_assoc]
      rw [e1, e2, Nat.add_assoc, ← Nat.mul_add, h, Nat.mul_add, Nat.add_assoc]
theorem getD_set_ne (xs : List Nat) (p d k : Nat) (h : p ≠ k) : (xs.set p d).getD k 0 = xs.getD k 0 := by
  rw [List.getD_eq_getElem?_getD, List.getElem?_set, if_neg h, ← List.getD_eq_getElem?_getD]
def Top (xs : List Nat) : Prop := xs.getLast? ≠ some 0
theorem Top.nil : Top [] := by simp [Top]
theorem top_of_last {xs : List Nat} (hn : xs.getD (xs.length - 1) 0 ≠ 0) : Top xs := by
  unfold Top
  rw [List.getLast?_eq_getElem?]
  rw [List.getD_eq_getElem?_getD] at hn
  intro e
  rw [e] at hn
  exact hn rfl
theorem last_of_top {xs : List Nat} (h : 0 < xs.length) (ht : Top xs) : xs.getD (xs.length - 1) 0 ≠ 0 := by
  unfold Top at ht
  rw [List.getLast?_eq_getElem?] at ht
  rw [List.getD_eq_getElem?_getD]
  have hlt : xs.length - 1 < xs.length := Nat.sub_lt h (by decide)
  rw [List.getElem?_eq_getElem hlt] at ht ⊢
  intro e
  exact ht (congrArg some e)
theorem drop_last_one {xs : List Nat} (h : 0 < xs.length) : xs.drop (xs.length - 1) = [xs.getD (xs.length - 1) 0] := by
  have hlt : xs.length - 1 < xs.length := Nat.sub_lt h (by decide)
  rw [List.drop_eq_getElem_cons hlt, List.getD_eq_getElem?_getD, List.getElem?_eq_getElem hlt, List.drop_of_length_le (by omega)]
  rfl
theorem val_ge {b : Nat} {xs : List Nat} (h : 0 < xs.length) (ht : Top xs) : b ^ (xs.length - 1) ≤ val b xs := by
  have hs := val_split b xs (xs.length - 1) (Nat.sub_le _ _)
  have hl := last_of_top h ht
  have e : val b [xs.getD (xs.length - 1) 0] = xs.getD (xs.length - 1) 0 := by simp [val]
  rw [drop_last_one h, e] at hs
  have h1 : b ^ (xs.length - 1) * 1 ≤ b ^ (xs.length - 1) * xs.getD (xs.length - 1) 0 := Nat.mul_le_mul_left _ (Nat.pos_of_ne_zero hl)
  rw [Nat.mul_one] at h1
  rw [hs]
  exact Nat.le_trans h1 (Nat.le_add_left _ _)
theorem val_pos {b : Nat} {xs : List Nat} (hb : 0 < b) (h : 0 < xs.length) (ht : Top xs) : 0 < val b xs :=
  Nat.lt_of_lt_of_le (Nat.pow_pos hb) (val_ge h ht)
theorem len_of_val {b : Nat} {xs ys : List Nat} (hb : 1 < b) (hy : Ok b ys) (tx : Top xs) (hv : val b xs ≤ val b ys) : xs.length ≤ ys.length := by
  rcases Nat.lt_or_ge ys.length xs.length with h | h
  · exfalso
    have h1 := val_ge (b := b) (by omega) tx
    have h2 := val_lt hy
    have h3 : b ^ ys.length ≤ b ^ (xs.length - 1) := Nat.pow_le_pow_right (by omega) (by omega)
    omega
  · exact h
theorem eq_of_val {b : Nat} (hb : 0 < b) : ∀ (xs ys : List Nat), Ok b xs → Ok b ys → xs.length = ys.length → val b xs = val b ys → xs = ys := by
  intro xs
  induction xs with
  | nil => intro ys _ _ hl _; exact (List.eq_nil_of_length_eq_zero (by simpa using hl.symm)).symm
  | cons x xs ih =>
    intro ys hx hy hl hv
    cases ys with
    | nil => simp at hl
    | cons y ys =>
      have h1 := hx.head
      have h2 := hy.head
      rw [val_cons, val_cons] at hv
      have e1 : (x + b * val b xs) % b = x := by rw [Nat.add_mul_mod_self_left]; exact Nat.mod_eq_of_lt h1
      have e2 : (y + b * val b ys) % b = y := by rw [Nat.add_mul_mod_self_left]; exact Nat.mod_eq_of_lt h2
      have e : x = y := by rw [← e1, ← e2, hv]
      subst e
      have e3 : b * val b xs = b * val b ys := by omega
      have e4 := Nat.eq_of_mul_eq_mul_left hb e3
      rw [ih ys hx.tail hy.tail (by simpa using hl) e4]
theorem uniq {b : Nat} (hb : 1 < b) {xs ys : List Nat} (hx : Ok b xs) (hy : Ok b ys) (tx : Top xs) (ty : Top ys) (h : val b xs = val b ys) : xs = ys :=
  eq_of_val (by omega) xs ys hx hy (Nat.le_antisymm (len_of_val hb hy tx (by omega)) (len_of_val hb hx ty (by omega))) h
theorem val_lt_of_top {b : Nat} {xs ys : List Nat} (hx : Ok b xs) (k : Nat) (hkx : k < xs.length) (hky : k < ys.length) (hd : xs.drop (k + 1) = ys.drop (k + 1))
    (h : xs.getD k 0 < ys.getD k 0) : val b xs < val b ys := by
  have s1 := val_split b xs k (by omega)
  have s2 := val_split b ys k (by omega)
  have d1 : xs.drop k = xs.getD k 0 :: xs.drop (k + 1) := by
    rw [List.drop_eq_getElem_cons hkx, List.getD_eq_getElem?_getD, List.getElem?_eq_getElem hkx]; rfl
  have d2 : ys.drop k = ys.getD k 0 :: ys.drop (k + 1) := by
    rw [List.drop_eq_getElem_cons hky, List.getD_eq_getElem?_getD, List.getElem?_eq_getElem hky]; rfl
  rw [d1, val_cons] at s1
  rw [d2, val_cons, ← hd] at s2
  have l1 := val_lt (hx.take k)
  rw [List.length_take, Nat.min_eq_left (by omega)] at l1
  rw [s1, s2, Nat.mul_add, Nat.mul_add]
  have : b ^ k * (xs.getD k 0 + 1) ≤ b ^ k * ys.getD k 0 := Nat.mul_le_mul_left _ h
  rw [Nat.mul_add] at this
  omega
theorem val_cut {b : Nat} {xs : List Nat} (k : Nat) (hk : k ≤ xs.length) (h : ∀ i, k ≤ i → i < xs.length → xs.getD i 0 = 0) : val b (xs.take k) = val b xs := by
  have s := val_split b xs k hk
  have : xs.drop k = List.replicate (xs.length - k) 0 := by
    apply List.ext_getElem
    · simp
    · intro i h1 h2
      simp only [List.length_drop] at h1
      have := h (k + i) (by omega) (by omega)
      rw [List.getD_eq_getElem?_getD, List.getElem?_eq_getElem (by omega)] at this
      simpa using this
  rw [this, val_zeros] at s
  omega
theorem val_take_succ (b : Nat) (xs : List Nat) (k : Nat) (hk : k < xs.length) : val b (xs.take (k + 1)) = val b (xs.take k) + b ^ k * xs.getD k 0 := by
  have e : xs.take (k + 1) = xs.take k ++ [xs.getD k 0] := by
    rw [List.take_succ_eq_append_getElem hk, List.getD_eq_getElem?_getD, List.getElem?_eq_getElem hk]; rfl
  rw [e, val_snoc, List.length_take, Nat.min_eq_left (by omega)]
theorem val_drop_pred (b : Nat) (xs : List Nat) (k : Nat) (hk : k < xs.length) : val b (xs.drop k) = xs.getD k 0 + b * val b (xs.drop (k + 1)) := by
  rw [List.drop_eq_getElem_cons hk, val_cons, List.getD_eq_getElem?_getD, List.getElem?_eq_getElem hk]; rfl
theorem add_step (b P v v' c d y t : Nat) (ht : t = c + d + y) (hs : v' + P * d = v + P * (t % b)) : v' + P * b * (t / b) = v + P * (c + y) := by
  have h := Nat.div_add_mod t b
  have h2 : P * b * (t / b) + P * (t % b) = P * t := by
    rw [Nat.mul_assoc, ← Nat.mul_add, h]
  subst ht
  rw [Nat.mul_add, Nat.mul_add] at h2
  rw [Nat.mul_add]
  omega
theorem sub_step (b P v v' q d y r q' : Nat) (hr : r + y + q = d + b * q') (hs : v' + P * d = v + P * r) (w u : Nat) (hv : v + w = u + P * q) : v' + (w + P * y) = u + P * b * q' := by
  have h : P * r + P * y + P * q = P * d + P * b * q' := by
    rw [Nat.mul_assoc, ← Nat.mul_add, ← Nat.mul_add, hr, Nat.mul_add]
  omega
end Lm
namespace Go.Proofs.YtpgbnegppehckaaGreat
theorem lyA {α : Type} (l : List α) (i : Nat) (a : α) : l.toArray.setIfInBounds i a = (l.set i a).toArray := List.setIfInBounds_toArray ..
theorem lyZ {α : Type} (x a : α) (l : List α) : (x :: l).set 0 a = a :: l := List.set_cons_zero ..
theorem lyS {α : Type} (x a : α) (l : List α) (i : Nat) : (x :: l).set (i + 1) a = x :: l.set i a := List.set_cons_succ ..
theorem lyK : (0 : Nat) < 3 := by decide
theorem lyL : (1 : Nat) < 3 := by decide
open Go.RowKit
theorem block_of_add (a : Addr) (n : Nat) : (a.add n).block = a.block := by unfold Addr.add; split <;> rfl
theorem add_of_add (a : Addr) (i j : Nat) : (a.add i).add j = a.add (i + j) := by
  unfold Addr.add
  by_cases hi : i = 0 <;> by_cases hj : j = 0 <;> simp [hi, hj, Nat.add_assoc]
def Nums (w : World) (k : IntKind) (A : Option Addr) (xs : List Nat) : Prop :=
  0 < xs.length → ∃ ad, A = some ad ∧ ad.block < w.heap.size ∧ ∀ j, j < xs.length → w.cell? (ad.add j) = some (.int k ((xs.getD j 0 : Nat) : Int))
section
variable {w w' : World} {k : IntKind} {A : Option Addr} {xs : List Nat}
theorem Nums.nil (w : World) (k : IntKind) (A : Option Addr) : Nums w k A [] := fun h => absurd h (by simp)
theorem Nums.at_ {j : Nat} (h : Nums w k A xs) (hj : j < xs.length) : ∃ ad, A = some ad ∧ ad.block < w.heap.size ∧ ∀ j, j < xs.length → w.cell? (ad.add j) = some (.int k ((xs.getD j 0 : Nat) : Int)) := h (by omega)
theorem Nums.keep (h : Nums w k A xs) (hs : w.heap.size ≤ w'.heap.size) (hk : ∀ p : Addr, p.block < w.heap.size → w'.cell? p = w.cell? p) : Nums w' k A xs := fun hn => by
  obtain ⟨ad, e, hb, hc⟩ := h hn
  exact ⟨ad, e, by omega, fun j hj => (hk _ (by rw [block_of_add]; exact hb)).trans (hc j hj)⟩
theorem Nums.below (h : Nums w k A xs) (hb : Below w.heap.size w w') : Nums w' k A xs := h.keep hb.size fun _ hp => hb.cell hp
theorem Nums.drew (h : Nums w k A xs) : Nums w.drew k A xs := h
theorem Nums.drewN (h : Nums w k A xs) (n : Nat) : Nums (w.drewN n) k A xs := h
theorem Nums.alloc (h : Nums w k A xs) (o : Obj) : Nums (w.alloc o) k A xs := h.keep (by simp) fun p hp => World.cell?_alloc_lt w o p (by omega)
theorem Nums.take (h : Nums w k A xs) (n : Nat) : Nums w k A (xs.take n) := fun hn => by
  rw [List.length_take] at hn
  obtain ⟨ad, e, hb, hc⟩ := h (by omega)
  refine ⟨ad, e, hb, fun j hj => ?_⟩
  rw [List.length_take] at hj
  rw [hc j (by omega), List.getD_eq_getElem?_getD, List.getD_eq_getElem?_getD, List.getElem?_take, if_pos (by omega)]
theorem Nums.of_own {base : Nat} {e : TypeId} {n c : Nat} {ys : List Value} (h : w.ownsRow base e 1 (.slice A n c) n ys) (hy : ys = xs.map fun x => Value.int k ((x : Nat) : Int)) : Nums w k A xs := fun hn => by
  have hl := h.1
  subst hy
  simp at hl
  rcases h.2 with ⟨hv, h0⟩ | ⟨g, cap, cur, hv, _, hg, hnc, _, _, _⟩
  · omega
  · simp only [Value.slice.injEq] at hv
    obtain ⟨rfl, _, _⟩ := hv
    refine ⟨_, rfl, (Array.getElem?_eq_some_iff.1 hg).1, fun j hj => ?_⟩
    refine h.cells (g := g) rfl j _ ?_
    rw [List.getElem?_map, List.getElem?_eq_getElem hj, List.getD_eq_getElem?_getD, List.getElem?_eq_getElem hj]
    rfl
end
structure Seg (w : World) (g off : Nat) (k : IntKind) (e : TypeId) (cur : Array Value) (xs : List Nat) : Prop where
  blk : w.heap[g]? = some (.cells cur e (0, 0))
  fit : off + xs.length ≤ cur.size
  at_ : ∀ j, j < xs.length → cur[off + j]? = some (.int k ((xs.getD j 0 : Nat) : Int))
section
variable {w w' : World} {g off : Nat} {k : IntKind} {e : TypeId} {cur : Array Value} {xs : List Nat}
theorem Seg.cell (h : Seg w g off k e cur xs) {j : Nat} (hj : j < xs.length) : w.cell? ⟨g, off + j, none⟩ = some (.int k ((xs.getD j 0 : Nat) : Int)) := by
  rw [cell_of_row w g (off + j) cur e (0, 0) h.blk]
  exact h.at_ j hj
theorem Seg.frozen (h : Seg w g off k e cur xs) (j : Nat) : w.frozen? ⟨g, j, none⟩ = false := by
  have hb := h.blk
  simp [World.frozen?, hb]
theorem Seg.lt (h : Seg w g off k e cur xs) : g < w.heap.size := (Array.getElem?_eq_some_iff.1 h.blk).1
theorem Seg.nums (h : Seg w g off k e cur xs) : Nums w k (some ⟨g, off, none⟩) xs := fun _ => by
  refine ⟨_, rfl, h.lt, fun j hj => ?_⟩
  have hc := h.cell hj
  unfold Addr.add
  by_cases h0 : j = 0
  · subst h0; simpa using hc
  · simpa [h0] using hc
theorem Seg.set_ (h : Seg w g off k e cur xs) (j : Nat) (d : Nat) :
    Seg (w.setCell ⟨g, off + j, none⟩ (.int k (d : Int))) g off k e (cur.setIfInBounds (off + j) (.int k (d : Int))) (xs.set j d) := by
  refine ⟨heap_setCell_same w g (off + j) cur e _ h.blk, by simpa using h.fit, fun i hi => ?_⟩
  rw [List.length_set] at hi
  have hf := h.fit
  rw [Array.getElem?_setIfInBounds, List.getD_eq_getElem?_getD, List.getElem?_set]
  by_cases e : j = i
  · subst e
    rw [if_pos rfl, if_pos (by omega), if_pos rfl, if_pos hi]
    rfl
  · rw [if_neg (by omega), if_neg e, h.at_ i hi, List.getD_eq_getElem?_getD]
theorem Seg.keep (h : Seg w g off k e cur xs) (hb : w'.heap[g]? = w.heap[g]?) : Seg w' g off k e cur xs := ⟨hb.trans h.blk, h.fit, h.at_⟩
theorem Seg.grown {row : Option Nat} (h : Seg w g off k e cur xs) (hg : w.grownBy w' row) (hr : row ≠ some g) : Seg w' g off k e cur xs := h.keep (hg.block g h.lt (fun e => hr e.symm))
theorem Seg.alloc (h : Seg w g off k e cur xs) (o : Obj) : Seg (w.alloc o) g off k e cur xs := h.keep (Below.heap_alloc w o g h.lt)
end
def SegTo (w' : World) (g off : Nat) (k : IntKind) (e : TypeId) (cur : Array Value) (xs' : List Nat) : Prop :=
  ∃ cur', Seg w' g off k e cur' xs' ∧ cur'.size = cur.size ∧ ∀ j, j < off ∨ off + xs'.length ≤ j → cur'[j]? = cur[j]?
theorem SegTo.refl {w : World} {g off : Nat} {k : IntKind} {e : TypeId} {cur : Array Value} {xs : List Nat} (h : Seg w g off k e cur xs) : SegTo w g off k e cur xs := ⟨cur, h, rfl, fun _ _ => rfl⟩
theorem SegTo.set_ {w : World} {g off : Nat} {k : IntKind} {e : TypeId} {cur : Array Value} {xs : List Nat} (h : SegTo w g off k e cur xs) {j : Nat} (hj : j < xs.length) (d : Nat) :
    SegTo (w.setCell ⟨g, off + j, none⟩ (.int k (d : Int))) g off k e cur (xs.set j d) := by
  obtain ⟨cur', h1, h2, h3⟩ := h
  refine ⟨_, h1.set_ j d, by simpa using h2, fun i hi => ?_⟩
  rw [List.length_set] at hi
  rw [Array.getElem?_setIfInBounds, if_neg (by omega)]
  exact h3 i hi
theorem SegTo.set0 {w : World} {g : Nat} {k : IntKind} {e : TypeId} {cur : Array Value} {xs : List Nat} (h : SegTo w g 0 k e cur xs) {j : Nat} (hj : j < xs.length) (d : Nat) :
    SegTo (w.setCell ⟨g, j, none⟩ (.int k (d : Int))) g 0 k e cur (xs.set j d) := by
  have := h.set_ hj d
  rwa [Nat.zero_add] at this
theorem grown_store (w : World) (g o : Nat) (u : Value) : w.grownBy (w.setCell ⟨g, o, none⟩ u) (some g) :=
  ⟨rfl, rfl, rfl, by simp [World.setCell], fun k _ hk => heap_setCell_other w ⟨g, o, none⟩ k u (fun e => hk (by simp [e]))⟩
theorem grown_trans {a b c : World} {row : Option Nat} (h : a.grownBy b row) (k : b.grownBy c row) : a.grownBy c row :=
  ⟨k.os.trans h.os, k.tape.trans h.tape, k.output.trans h.output, Nat.le_trans h.size k.size, fun i hi hn => (k.block i (Nat.lt_of_lt_of_le hi h.size) hn).trans (h.block i hi hn)⟩
theorem grown_below {a b : World} {g : Nat} (h : a.grownBy b (some g)) {B : Nat} (hB : B ≤ g) (hs : B ≤ a.heap.size) : Below B a b :=
  ⟨h.os, h.tape, h.output, h.size, fun k hk => h.block k (by omega) (fun e => by injection e; omega)⟩
theorem below_grown {a b : World} (h : Below a.heap.size a b) (row : Option Nat) : a.grownBy b row := ⟨h.os, h.tape, h.output, h.size, fun i hi _ => h.block i hi⟩
def Off (A : Option Addr) (g : Nat) : Prop := ∀ ad, A = some ad → ad.block ≠ g
theorem Nums.grown {w w' : World} {k : IntKind} {A : Option Addr} {xs : List Nat} {g : Nat} (h : Nums w k A xs) (hg : w.grownBy w' (some g)) (ho : 0 < xs.length → Off A g) : Nums w' k A xs := fun hn => by
  obtain ⟨ad, e, hb, hc⟩ := h hn
  refine ⟨ad, e, Nat.lt_of_lt_of_le hb hg.size, fun j hj => ?_⟩
  rw [← hc j hj]
  exact World.cell?_of_block (hg.block _ (by rw [block_of_add]; exact hb) (fun h' => by rw [block_of_add] at h'; injection h' with h'; exact ho hn ad e h'))
def B32 : Nat := 4294967296
theorem B32_pos : 0 < B32 := by decide
theorem B32_one : 1 < B32 := by decide
theorem limb_lt {xs : List Nat} (h : Lm.Ok B32 xs) (j : Nat) : xs.getD j 0 < 4294967296 := h.getD B32_pos j
def ZeroFrom (xs : List Nat) (k : Nat) : Prop := ∀ i, k ≤ i → i < xs.length → xs.getD i 0 = 0
def Trimmed (A : Option Addr) (c : Nat) (xs : List Nat) (e : Ending) : Prop :=
  ∃ n, e = .returned (.slice A n c) ∧ n ≤ xs.length ∧ ZeroFrom xs n ∧ (0 < n → xs.getD (n - 1) 0 ≠ 0)
theorem zero_down {xs : List Nat} {k : Nat} (h0 : 0 < k) (hd : xs.getD (k - 1) 0 = 0) (hz : ZeroFrom xs k) : ZeroFrom xs (k - 1) := fun i h1 h2 => by
  by_cases e : i = k - 1
  · rw [e]; exact hd
  · exact hz i (by omega) h2
theorem trim_any (A : Option Addr) (c : Nat) (xs : List Nat) (w : World) (h : Nums w .u32 A xs) (hl : xs.length ≤ 1000000) (hc : xs.length ≤ c) :
    Calls Tryz.prog 149 #[.slice A xs.length c] w fun e w' => w = w' ∧ Trimmed A c xs e := by
  go_enter Tryz.func149, Tryz.ntmps149
  go_wp2
  go_loop [3] (fun i => ∃ k : Nat, i = .int .i64 k ∧ k ≤ xs.length ∧ ZeroFrom xs k) (fun i => (intOf i).toNat)
  case atStart => exact ⟨xs.length, rfl, Nat.le_refl _, fun i h1 h2 => by omega⟩
  case round =>
   obtain ⟨k, rfl, hk, hz⟩ := hrel
   by_cases h0 : 0 < k
   · obtain ⟨ad, rfl, _, hcell⟩ := h.at_ (j := k - 1) (by omega)
     have hcd := hcell (k - 1) (by omega)
     clear hcell
     obtain ⟨d, hd⟩ : ∃ d, xs.getD (k - 1) 0 = d := ⟨_, rfl⟩
     rw [hd] at hcd
     have HD := Lib.hid hd
     clear hd
     by_cases hd0 : d = 0
     · subst hd0
       go_wp2
       go_round
       case rel => exact ⟨k - 1, by go_num, by omega, zero_down h0 HD.out hz⟩
       case measure => simp [intOf]; omega
     · have hne : ((d : Int) == 0) = false := by simp; omega
       go_wp2
       go_ret
       exact ⟨rfl, k, rfl, hk, hz, fun _ => by rw [HD.out]; exact hd0⟩
   · obtain rfl : k = 0 := by omega
     go_wp2
     go_ret
     exact ⟨rfl, 0, rfl, hk, hz, fun h => absurd h (by omega)⟩
structure Inc (zs0 ys zs : List Nat) (i c : Nat) : Prop where
  len : zs.length = zs0.length
  ok : Lm.Ok B32 zs
  rest : ∀ j, i ≤ j → zs.getD j 0 = zs0.getD j 0
  num : Lm.val B32 zs + B32 ^ i * c = Lm.val B32 zs0 + Lm.val B32 (ys.take i)
  carry : c ≤ 1
theorem inc_step {zs0 ys zs : List Nat} {i q d y t : Nat} (h : Inc zs0 ys zs i q) (hi : i < zs0.length) (hd : zs.getD i 0 = d) (hdl : d < 4294967296) (hyl : y < 4294967296)
    (hy : Lm.val B32 (ys.take (i + 1)) = Lm.val B32 (ys.take i) + B32 ^ i * y) (ht : t = q + d + y) : Inc zs0 ys (zs.set i (t % B32)) (i + 1) (t / B32) := by
  have hs := Lm.val_set B32 zs i (t % B32) (by rw [h.len]; exact hi)
  rw [hd] at hs
  have hc := h.carry
  have hn := h.num
  refine ⟨by simpa using h.len, h.ok.set _ _ (Nat.mod_lt _ B32_pos), fun j hj => ?_, ?_, ?_⟩
  · rw [← h.rest j (by omega), List.getD_eq_getElem?_getD, List.getElem?_set, if_neg (by omega), ← List.getD_eq_getElem?_getD]
  · rw [hy, Nat.pow_succ, Lm.add_step B32 (B32 ^ i) (Lm.val B32 zs) _ q d y t ht hs, Nat.mul_add]
    omega
  · subst ht
    unfold B32
    omega
theorem inc_end {zs0 ys zs : List Nat} {i : Nat} (h : Inc zs0 ys zs i 0) (hi : ys.length ≤ i) : Lm.val B32 zs = Lm.val B32 zs0 + Lm.val B32 ys := by
  have hn := h.num
  rw [List.take_of_length_le hi] at hn
  simpa using hn
theorem inc_room {zs0 ys zs : List Nat} {i q : Nat} (h : Inc zs0 ys zs i q) (hq : 0 < q) (hi : ys.length ≤ i) (hv : Lm.val B32 zs0 + Lm.val B32 ys < B32 ^ zs0.length) : i < zs0.length := by
  rcases Nat.lt_or_ge i zs0.length with hlt | hge
  · exact hlt
  · have hn := h.num
    rw [List.take_of_length_le hi] at hn
    have h1 : B32 ^ zs0.length ≤ B32 ^ i := Nat.pow_le_pow_right B32_pos hge
    have h2 : B32 ^ i * 1 ≤ B32 ^ i * q := Nat.mul_le_mul_left _ hq
    omega
theorem limb_mod (t : Nat) (n : Int) (h : n = (t : Int)) : n % 4294967296 = ((t % B32 : Nat) : Int) := by subst h; unfold B32; omega
theorem limb_div (t : Nat) (n : Int) (h : n = (t : Int)) : n / 4294967296 = ((t / B32 : Nat) : Int) := by subst h; unfold B32; omega
theorem increase_any (g off cap : Nat) (cur : Array Value) (zs0 : List Nat) (A : Option Addr) (c : Nat) (ys : List Nat) (w : World)
    (hz : Seg w g off .u32 132 cur zs0) (hy : Nums w .u32 A ys) (ho : 0 < ys.length → Off A g) (hzo : Lm.Ok B32 zs0) (hyo : Lm.Ok B32 ys) (hl : ys.length ≤ zs0.length) (hl2 : zs0.length ≤ 1000000)
    (hv : Lm.val B32 zs0 + Lm.val B32 ys < B32 ^ zs0.length) :
    Calls Tryz.prog 156 #[.slice (some ⟨g, off, none⟩) zs0.length cap, .slice A ys.length c] w fun e w' => e = .returned (.tuple #[]) ∧
      ∃ zs, zs.length = zs0.length ∧ Lm.Ok B32 zs ∧ Lm.val B32 zs = Lm.val B32 zs0 + Lm.val B32 ys ∧ SegTo w' g off .u32 132 cur zs ∧ w.grownBy w' (some g) := by
  go_enter Tryz.func156, Tryz.ntmps156
  go_wp2
  have HV := Lib.hid hv
  clear hv
  go_loopw [4, 5] (fun cv iv wr => ∃ (i q : Nat) (zs : List Nat), iv = .int .i64 i ∧ cv = .int .u64 q ∧ i ≤ zs0.length ∧ Inc zs0 ys zs i q ∧ SegTo wr g off .u32 132 cur zs ∧ w.grownBy wr (some g)) (fun _ iv _ => zs0.length - (intOf iv).toNat)
  case atStart =>
   exact ⟨0, 0, zs0, rfl, rfl, Nat.zero_le _, ⟨rfl, hzo, fun _ _ => rfl, by simp [Lm.val], by omega⟩, .refl hz, World.grownBy.refl _ _⟩
  case round =>
   obtain ⟨i, q, zs, rfl, rfl, hi, hinc, hseg, hgr⟩ := hrel
   have hyr := hy.grown hgr ho
   have hq := hinc.carry
   by_cases hiy : i < ys.length
   · obtain ⟨ad, rfl, _, hcell⟩ := hyr.at_ hiy
     have hcy := hcell i hiy
     clear hcell
     obtain ⟨cur', hs1, hs2, hs3⟩ := id hseg
     have hcz := hs1.cell (j := i) (by rw [hinc.len]; omega)
     have hfz := hs1.frozen (off + i)
     have hdl := limb_lt hinc.ok i
     have hyl := limb_lt hyo i
     obtain ⟨d, hd⟩ : ∃ d, zs.getD i 0 = d := ⟨_, rfl⟩
     obtain ⟨y, hyd⟩ : ∃ y, ys.getD i 0 = y := ⟨_, rfl⟩
     rw [hd] at hcz hdl
     rw [hyd] at hcy hyl
     have HD := Lib.hid hd
     have HY := Lib.hid hyd
     clear hd hyd hs1 hs2 hs3 hy hz hzo
     go_wp2
     go_roundw
     case rel =>
      refine ⟨i + 1, _, _, by go_num, by rw [limb_div (q + d + y) _ (by omega)], by omega, inc_step hinc (by omega) HD.out hdl hyl (by rw [Lm.val_take_succ _ _ _ hiy, HY.out]) rfl, ?_, ?_⟩
      · rw [limb_mod (q + d + y) _ (by omega)]
        exact hseg.set_ (by rw [hinc.len]; omega) _
      · exact grown_trans hgr (grown_store _ _ _ _)
     case measure => simp [intOf]; omega
   · by_cases hq0 : q = 0
     · subst hq0
       go_wp2
       go_end0
       exact ⟨rfl, zs, hinc.len, hinc.ok, inc_end hinc (by omega), hseg, hgr⟩
     · have hroom := inc_room hinc (by omega) (by omega) HV.out
       obtain ⟨cur', hs1, hs2, hs3⟩ := id hseg
       have hcz := hs1.cell (j := i) (by rw [hinc.len]; omega)
       have hfz := hs1.frozen (off + i)
       have hdl := limb_lt hinc.ok i
       obtain ⟨d, hd⟩ : ∃ d, zs.getD i 0 = d := ⟨_, rfl⟩
       rw [hd] at hcz hdl
       have HD := Lib.hid hd
       have hqp : 0 < q := by omega
       clear hd hs1 hs2 hs3 hy hz hzo hq0
       go_wp2
       go_roundw
       case rel =>
        refine ⟨i + 1, _, _, by go_num, by rw [limb_div (q + d + 0) _ (by omega)], by omega, inc_step hinc (by omega) HD.out hdl (by omega) (by rw [List.take_of_length_le (by omega), List.take_of_length_le (by omega)]; simp) rfl, ?_, ?_⟩
        · rw [limb_mod (q + d + 0) _ (by omega)]
          exact hseg.set_ (by rw [hinc.len]; omega) _
        · exact grown_trans hgr (grown_store _ _ _ _)
       case measure => simp [intOf]; omega
theorem Tryz.info132 : (Tryz.prog.info? 132).map (fun i => (i.zero, i.size, i.bytes)) = some (some (.int .u32 0), 1, 4) := by kernel_rfl
def cellsOf (k : IntKind) (xs : List Nat) : List Value := xs.map fun x => Value.int k ((x : Nat) : Int)
theorem cellsOf_length (k : IntKind) (xs : List Nat) : (cellsOf k xs).length = xs.length := by simp [cellsOf]
theorem cellsOf_one (k : IntKind) (xs : List Nat) : ∀ u ∈ cellsOf k xs, u.oneCell' = true := by
  intro u hu
  obtain ⟨_, _, rfl⟩ := List.mem_map.1 hu
  rfl
theorem cellsOf_at {k : IntKind} {xs : List Nat} {j : Nat} (hj : j < xs.length) : (cellsOf k xs)[j]? = some (.int k ((xs.getD j 0 : Nat) : Int)) := by
  unfold cellsOf
  rw [List.getElem?_map, List.getElem?_eq_getElem hj, List.getD_eq_getElem?_getD, List.getElem?_eq_getElem hj]
  rfl
theorem Nums.news {w : World} {k : IntKind} {ad : Addr} {xs : List Nat} (h : Nums w k (some ad) xs) : ∀ j u, (cellsOf k xs)[j]? = some u → w.cell? (ad.add j) = some u := by
  intro j u hu
  have hj : j < xs.length := by simpa [cellsOf_length] using (List.getElem?_eq_some_iff.1 hu).1
  obtain ⟨ad', e, _, hc⟩ := h (by omega)
  injection e with e
  subst e
  rw [hc j hj, ← hu, cellsOf_at hj]
theorem seg_of_own {w : World} {base : Nat} {e : TypeId} {k : IntKind} {A : Option Addr} {n c : Nat} {xs : List Nat} (h : w.ownsRow base e 1 (.slice A n c) n (cellsOf k xs)) (hn : 0 < n) :
    ∃ g cur, A = some ⟨g, 0, none⟩ ∧ base ≤ g ∧ Seg w g 0 k e cur xs := by
  have hl := h.1
  rw [cellsOf_length] at hl
  rcases h.2 with ⟨_, h0⟩ | ⟨g, cap, cur, hv, hb, hg, hnc, _, hcs, htake⟩
  · omega
  · simp only [Value.slice.injEq] at hv
    obtain ⟨rfl, _, _⟩ := hv
    refine ⟨g, cur, rfl, hb, hg, by omega, fun j hj => ?_⟩
    have hc := cellsOf_at (k := k) hj
    rw [← htake, List.getElem?_take, if_pos (by omega)] at hc
    simpa using hc
theorem own_form {w : World} {base : Nat} {e : TypeId} {v : Value} {n : Nat} {xs : List Value} (h : w.ownsRow base e 1 v n xs) : ∃ A c, v = .slice A n c ∧ n ≤ c := by
  rcases h.2 with ⟨rfl, rfl⟩ | ⟨g, cap, _, rfl, _, _, hnc, _⟩
  · exact ⟨none, 0, rfl, Nat.le_refl _⟩
  · exact ⟨_, cap, rfl, hnc⟩
def Cloned (w w' : World) (xs : List Nat) (e : Ending) : Prop :=
  ∃ A c, e = .returned (.slice A xs.length c) ∧ w'.ownsRow w.heap.size 132 1 (.slice A xs.length c) xs.length (cellsOf .u32 xs) ∧ Below w.heap.size w w'
theorem clone_nil (c : Nat) (w : World) : Calls Tryz.prog 150 #[.slice none 0 c] w fun e w' => e = .returned (.slice none 0 0) ∧ w = w' := by
  have hnil := fun W : World => Lib.run_eql_slice_nil W 22 132 none 0 c 0 0 Tryz.underlying22
  simp only [Option.isNone_none] at hnil
  go_enter Tryz.func150, Tryz.ntmps150
  go_wp2
  go_ret
  exact ⟨rfl, rfl⟩
theorem clone_some (ad : Addr) (c : Nat) (xs : List Nat) (w : World) (h : Nums w .u32 (some ad) xs) (hl : xs.length ≤ 1000000) :
    Calls Tryz.prog 150 #[.slice (some ad) xs.length c] w fun e w' => Cloned w w' xs e := by
  obtain ⟨i0, hi0, hz0, hz1, hz2⟩ := info_parts Tryz.info132
  have HI := Lib.hid (And.intro hi0 (And.intro hz0 (And.intro hz1 hz2)))
  clear hi0 hz0 hz1 hz2
  have hnil := fun W : World => Lib.run_eql_slice_nil W 22 132 (some ad) xs.length c 0 0 Tryz.underlying22
  simp only [Option.isNone_some] at hnil
  have hown := World.ownsRow_lit (base := w.heap.size) (e := 132) (size := 1) w #[] 0 (Nat.le_refl _) (by unfold maxLen; omega) (by simp)
  have hcells := (h.alloc (.cells #[] 132)).news
  have hb0 : Below w.heap.size w (w.alloc (.cells #[] 132)) := (Below.refl _ _).alloc (Nat.le_refl _) _
  have HO := Lib.hid (And.intro hown (And.intro hcells hb0))
  clear hown hcells hb0
  go_enter Tryz.func150, Tryz.ntmps150
  go_wp2_with (at_builtin; refine wpList_append_own _ rfl _ _ 22 rfl w.heap.size 132 i0 (.int .u32 0) 1 4 Tryz.underlying22 HI.out.1 HI.out.2.1 HI.out.2.2.1 HI.out.2.2.2 rfl (by decide) _ 0 [] rfl HO.out.1 ad xs.length c (cellsOf .u32 xs) rfl (by simp [cellsOf_length]) HO.out.2.1 (cellsOf_one _ _) (by unfold maxLen; omega) (by omega) (by simp) ?_; intro v1 w1 hown1 hg1 _)
  simp only [Nat.zero_add, List.nil_append] at hown1
  go_ret
  obtain ⟨A, c', rfl, _⟩ := own_form hown1
  exact ⟨A, c', rfl, hown1, HO.out.2.2.grown hg1 (by simp) (fun k hk => by have e : some w.heap.size = some k := hk; injection e with e; omega)⟩
theorem clone_any (A : Option Addr) (c : Nat) (xs : List Nat) (w : World) (h : Nums w .u32 A xs) (hl : xs.length ≤ 1000000) :
    Calls Tryz.prog 150 #[.slice A xs.length c] w fun e w' => Cloned w w' xs e := by
  rcases A with _ | ad
  · have hx : xs = [] := by
      rcases Nat.eq_zero_or_pos xs.length with h0 | h0
      · exact List.eq_nil_of_length_eq_zero h0
      · obtain ⟨ad, e, _⟩ := h h0; cases e
    subst hx
    refine (clone_nil c w).mono ?_
    rintro e w' ⟨rfl, rfl⟩
    exact ⟨none, 0, rfl, World.ownsRow_nil _ _ _ _, Below.refl _ _⟩
  · exact clone_some ad c xs w h hl
def Copied (w w' : World) (xs : List Nat) (e : Ending) : Prop :=
  ∃ n, Cloned w w' (xs.take n) e ∧ n ≤ xs.length ∧ ZeroFrom xs n ∧ (0 < n → xs.getD (n - 1) 0 ≠ 0)
theorem copied_any (A : Option Addr) (c : Nat) (xs : List Nat) (w : World) (h : Nums w .u32 A xs) (hl : xs.length ≤ 1000000) (hc : xs.length ≤ c) :
    Calls Tryz.prog 113 #[.slice A xs.length c] w fun e w' => Copied w w' xs e := by
  go_enter Tryz.func113, Tryz.ntmps113
  go_wp2_with fail
  refine (trim_any A c xs w h hl hc).mono ?_
  rintro e w' ⟨rfl, n, rfl, hn, hz, hp⟩
  have HZ := Lib.hid (And.intro hz hp)
  clear hz hp
  have hcl := clone_any A c (xs.take n) w (h.take n) (by rw [List.length_take]; omega)
  rw [show (xs.take n).length = n from by rw [List.length_take]; omega] at hcl
  have HC := Lib.hid hcl
  clear hcl
  go_wp2_with fail
  refine HC.out.mono ?_
  rintro e w' ⟨A', c', rfl, hown, hb⟩
  go_wp2
  go_ret
  exact ⟨n, ⟨A', c', by rw [show (xs.take n).length = n from by rw [List.length_take]; omega]; rfl, hown, hb⟩, hn, HZ.out.1, HZ.out.2⟩
def Limbs (w : World) (A : Option Addr) (c : Nat) (zs : List Nat) (n : Nat) : Prop :=
  zs.length ≤ c ∧ Nums w .u32 A zs ∧ Lm.Ok B32 zs ∧ Lm.Top zs ∧ Lm.val B32 zs = n
def SignOf (b : Bool) (z : Int) : Prop := b = decide (z < 0)
def IntAt (w : World) (v : Value) (z : Int) : Prop :=
  ∃ b A c zs, v = .agg #[.bool b, .slice A zs.length c] ∧ SignOf b z ∧ Limbs w A c zs z.natAbs
theorem Limbs.below {w w' : World} {A : Option Addr} {c : Nat} {zs : List Nat} {n : Nat} (h : Limbs w A c zs n) (hb : Below w.heap.size w w') : Limbs w' A c zs n :=
  ⟨h.1, h.2.1.below hb, h.2.2⟩
def ofSign (b : Bool) (n : Nat) : Int := if b then -(n : Int) else n
theorem top_take {xs : List Nat} {n : Nat} (hn : n ≤ xs.length) (hp : 0 < n → xs.getD (n - 1) 0 ≠ 0) : Lm.Top (xs.take n) := by
  rcases Nat.eq_zero_or_pos n with rfl | h
  · simp [Lm.Top]
  · refine Lm.top_of_last ?_
    rw [List.length_take, Nat.min_eq_left hn, List.getD_eq_getElem?_getD, List.getElem?_take, if_pos (by omega), ← List.getD_eq_getElem?_getD]
    exact hp h
theorem limbs_take {w : World} {A : Option Addr} {c : Nat} {xs : List Nat} {n : Nat} (h : Nums w .u32 A xs) (ho : Lm.Ok B32 xs) (hc : xs.length ≤ c) (hn : n ≤ xs.length) (hz : ZeroFrom xs n) (hp : 0 < n → xs.getD (n - 1) 0 ≠ 0) :
    Limbs w A c (xs.take n) (Lm.val B32 xs) :=
  ⟨by rw [List.length_take]; omega, h.take n, ho.take n, top_take hn hp, Lm.val_cut n hn hz⟩
theorem int_of {w : World} {A : Option Addr} {c : Nat} {zs : List Nat} {n : Nat} (b : Bool) (h : Limbs w A c zs n) (hn : 0 < n) :
    IntAt w (.agg #[.bool b, .slice A zs.length c]) (ofSign b n) := by
  refine ⟨b, A, c, zs, rfl, ?_, ?_⟩
  · unfold SignOf
    cases b <;> simp [ofSign] <;> omega
  · have e : (ofSign b n).natAbs = n := by cases b <;> simp [ofSign]
    rw [e]
    exact h
theorem int_zero (w : World) : IntAt w (.agg #[.bool false, .slice none 0 0]) 0 := ⟨false, none, 0, [], rfl, by simp [SignOf], by simp, Nums.nil _ _ _, Lm.Ok.nil _, Lm.Top.nil, rfl⟩
def IsInt (w w' : World) (z : Int) (e : Ending) : Prop := ∃ v, e = .returned v ∧ IntAt w' v z ∧ Below w.heap.size w w'
theorem signed_any (b : Bool) (A : Option Addr) (c : Nat) (xs : List Nat) (w : World) (h : Nums w .u32 A xs) (ho : Lm.Ok B32 xs) (hl : xs.length ≤ 1000000) (hc : xs.length ≤ c) :
    Calls Tryz.prog 112 #[.bool b, .slice A xs.length c] w fun e w' => IsInt w w' (ofSign b (Lm.val B32 xs)) e := by
  go_enter Tryz.func112, Tryz.ntmps112
  go_wp2_with fail
  refine (trim_any A c xs _ (h.alloc _) hl hc).mono ?_
  rintro e w' ⟨rfl, n, rfl, hn, hz, hp⟩
  have HZ := Lib.hid (And.intro hz hp)
  clear hz hp
  by_cases h0 : 0 < n
  · have hne : ((n : Int) == 0) = false := by simp; omega
    go_wp2
    refine bodyPost_ret (v := .agg #[.bool b, .slice A n c]) (by simp [results, Tryz.results112, go_sem]) rfl ⟨_, rfl, ?_, (Below.refl _ _).alloc (Nat.le_refl _) _⟩
    have hlim := (limbs_take (h.alloc (.cells #[.bool b, .slice A n c] 31)) ho hc hn HZ.out.1 HZ.out.2)
    have hlen : (xs.take n).length = n := by rw [List.length_take]; omega
    have hpos : 0 < Lm.val B32 xs := by
      rw [← hlim.2.2.2.2]
      exact Lm.val_pos B32_pos (by omega) hlim.2.2.2.1
    have hi := int_of b hlim hpos
    rw [hlen] at hi
    exact hi
  · obtain rfl : n = 0 := by omega
    go_wp2
    refine bodyPost_ret (v := .agg #[.bool false, .slice none 0 0]) (by simp [results, Tryz.results112, go_sem]) rfl ⟨_, rfl, ?_, (Below.refl _ _).alloc (Nat.le_refl _) _⟩
    have hv : Lm.val B32 xs = 0 := by
      rw [← Lm.val_cut 0 (Nat.zero_le _) HZ.out.1]
      rfl
    have e : ofSign b 0 = 0 := by cases b <;> rfl
    rw [hv, e]
    exact int_zero _
theorem signed_to (b : Bool) (A : Option Addr) (c : Nat) (xs : List Nat) (z : Int) (w : World) (h : Nums w .u32 A xs) (ho : Lm.Ok B32 xs) (hl : xs.length ≤ 1000000) (hc : xs.length ≤ c) (hz : ofSign b (Lm.val B32 xs) = z) :
    Calls Tryz.prog 112 #[.bool b, .slice A xs.length c] w fun e w' => IsInt w w' z e := by
  subst hz
  exact signed_any b A c xs w h ho hl hc
def IsLimbs (w w' : World) (z : Int) (e : Ending) : Prop :=
  ∃ b A c zs, e = .returned (.tuple #[.bool b, .slice A zs.length c]) ∧ SignOf b z ∧ Limbs w' A c zs z.natAbs ∧ Below w.heap.size w w'
theorem copied_limbs {w w' : World} {A : Option Addr} {c n : Nat} {zs : List Nat} {e : Ending} (h : Limbs w A c zs n) (hk : Copied w w' zs e) :
    ∃ A' c', e = .returned (.slice A' zs.length c') ∧ w'.ownsRow w.heap.size 132 1 (.slice A' zs.length c') zs.length (cellsOf .u32 zs) ∧ Limbs w' A' c' zs n ∧ Below w.heap.size w w' := by
  obtain ⟨m, ⟨A', c', rfl, hown, hb⟩, hm, hz, hp⟩ := hk
  have hall : m = zs.length := by
    rcases Nat.lt_or_ge m zs.length with hlt | hge
    · exact absurd (hz (zs.length - 1) (by omega) (by omega)) (Lm.last_of_top (by omega) h.2.2.2.1)
    · omega
  subst hall
  rw [List.take_length] at hown ⊢
  refine ⟨A', c', rfl, hown, ⟨?_, Nums.of_own hown rfl, h.2.2.1, h.2.2.2.1, h.2.2.2.2⟩, hb⟩
  obtain ⟨A2, c2, e2, hle⟩ := own_form hown
  injection e2 with _ _ e3
  omega
theorem Limbs.len {w : World} {A : Option Addr} {c n m : Nat} {zs : List Nat} (h : Limbs w A c zs n) (hs : n < B32 ^ m) : zs.length ≤ m := by
  rcases Nat.lt_or_ge m zs.length with hlt | hge
  · have h1 := Lm.val_ge (b := B32) (Nat.lt_of_le_of_lt (Nat.zero_le _) hlt) h.2.2.2.1
    rw [h.2.2.2.2] at h1
    have h2 : B32 ^ m ≤ B32 ^ (zs.length - 1) := Nat.pow_le_pow_right B32_pos (by omega)
    omega
  · exact hge
theorem below_then {w W w' : World} (h1 : Below w.heap.size w W) (h2 : Below W.heap.size W w') : Below w.heap.size w w' := h1.trans (h2.mono h1.size)
theorem cell2 (w : World) (a b : Value) (t : TypeId) : (w.alloc (.cells #[a, b] t)).cell? ⟨w.heap.size, 0, none⟩ = some a ∧ (w.alloc (.cells #[a, b] t)).cell? ⟨w.heap.size, 1, none⟩ = some b := by
  constructor <;> go_simp
theorem Limbs_any (v : Value) (z : Int) (m : Nat) (w : World) (h : IntAt w v z) (hs : z.natAbs < B32 ^ m) (hm : m ≤ 1000000) :
    Calls Tryz.prog 100 #[v] w fun e w' => IsLimbs w w' z e := by
  obtain ⟨b, A, c, zs, rfl, hsg, hlim⟩ := h
  have hlen : zs.length ≤ 1000000 := Nat.le_trans (hlim.len hs) hm
  go_enter Tryz.func100, Tryz.ntmps100
  go_wp2_with fail
  go_region_held3 (fun w' => w'.cell? ⟨w.heap.size, 0, none⟩ = some (.bool b) ∧ w'.cell? ⟨w.heap.size, 1, none⟩ = some (.slice A zs.length c))
    (first | go_keep | (exact ⟨(hb1.cell (by simp)).trans (cell2 _ _ _ _).1, (hb1.cell (by simp)).trans (cell2 _ _ _ _).2⟩))
    ((go_at_call 113; refine (copied_any A c zs _ ((hlim.2.1.alloc _).drew) hlen hlim.1).mono ?_; intro e w1 hk1; obtain ⟨A', c', rfl, hown1, hlim1, hb1⟩ := copied_limbs (by exact ⟨hlim.1, (hlim.2.1.alloc _).drew, hlim.2.2⟩) hk1))
  go_wp2
  go_ret2
  exact ⟨b, A', c', zs, rfl, hsg, hlim1, below_then (((Below.refl _ _).alloc (Nat.le_refl _) _).drew) hb1⟩
def Held (w : World) (h r : Nat) (a b c d : Value) : Prop :=
  w.cell? ⟨h, 0, none⟩ = some a ∧ w.cell? ⟨h, 1, none⟩ = some b ∧ w.cell? ⟨r, 0, none⟩ = some c ∧ w.cell? ⟨r, 1, none⟩ = some d ∧ w.frozen? ⟨r, 0, none⟩ = false ∧ w.frozen? ⟨r, 1, none⟩ = false
theorem held_below {w w' : World} {h r : Nat} {a b c d : Value} (k : Held w h r a b c d) (hb : Below w.heap.size w w') (hh : h < w.heap.size) (hr : r < w.heap.size) : Held w' h r a b c d :=
  ⟨(hb.cell (p := ⟨h, 0, none⟩) hh).trans k.1, (hb.cell (p := ⟨h, 1, none⟩) hh).trans k.2.1, (hb.cell (p := ⟨r, 0, none⟩) hr).trans k.2.2.1, (hb.cell (p := ⟨r, 1, none⟩) hr).trans k.2.2.2.1,
    (hb.frozen (p := ⟨r, 0, none⟩) hr).trans k.2.2.2.2.1, (hb.frozen (p := ⟨r, 1, none⟩) hr).trans k.2.2.2.2.2⟩
theorem held_new (w : World) (a b c d : Value) (t : TypeId) : Held ((w.alloc (.cells #[a, b] t)).alloc (.cells #[c, d] t)) w.heap.size (w.heap.size + 1) a b c d := by
  unfold Held
  refine ⟨?_, ?_, ?_, ?_, ?_, ?_⟩ <;> go_simp
theorem held_first {w w1 : World} {a b c d : Value} {t : TypeId} (hb : Below ((w.alloc (.cells #[a, b] t)).alloc (.cells #[c, d] t)).drew.heap.size ((w.alloc (.cells #[a, b] t)).alloc (.cells #[c, d] t)).drew w1) :
    Held w1 w.heap.size (w.heap.size + 1) a b c d := by
  have h := held_new w a b c d t
  have h' : Held ((w.alloc (.cells #[a, b] t)).alloc (.cells #[c, d] t)).drew w.heap.size (w.heap.size + 1) a b c d := h
  refine held_below h' hb ?_ ?_
  · show w.heap.size < ((w.alloc (.cells #[a, b] t)).alloc (.cells #[c, d] t)).heap.size
    simp; omega
  · show w.heap.size + 1 < ((w.alloc (.cells #[a, b] t)).alloc (.cells #[c, d] t)).heap.size
    simp
theorem Nums.store {w : World} {k : IntKind} {A : Option Addr} {xs : List Nat} (h : Nums w k A xs) {p : Addr} {u : Value} (hp : w.cell? p = some u) (hu : ∀ n, u ≠ .int k n) (x : Value) : Nums (w.setCell p x) k A xs := fun hn => by
  obtain ⟨ad, e, hb, hc⟩ := h hn
  refine ⟨ad, e, by simpa [World.setCell] using hb, fun j hj => ?_⟩
  rw [← hc j hj]
  refine World.cell?_setCell_other w p _ x (fun e => ?_)
  subst e
  rw [hc j hj] at hp
  injection hp with hp
  exact hu _ hp.symm
theorem int_stored {w w2 : World} {h r : Nat} {a b : Value} {s : Bool} {A : Option Addr} {c : Nat} {zs : List Nat} {z : Int} (hk : Held w2 h r a b (.bool false) (.slice none 0 0)) (hs : SignOf s z) (hl : Limbs w2 A c zs z.natAbs)
    (hb : Below w.heap.size w w2) (hr : w.heap.size ≤ r) :
    IsInt w ((w2.setCell ⟨r, 0, none⟩ (.bool s)).setCell ⟨r, 1, none⟩ (.slice A zs.length c)) z (.returned (.agg #[.bool s, .slice A zs.length c])) := by
  refine ⟨_, rfl, ⟨s, A, c, zs, rfl, hs, hl.1, ?_, hl.2.2⟩, (hb.setCell (p := ⟨r, 0, none⟩) hr _).setCell (p := ⟨r, 1, none⟩) hr _⟩
  refine (hl.2.1.store hk.2.2.1 (fun n e => by cases e) _).store (u := .slice none 0 0) ?_ (fun n e => by cases e) _
  rw [World.cell?_setCell_other _ _ _ _ (by simp)]
  exact hk.2.2.2.1
theorem neg_sign {z : Int} {b : Bool} (hb : SignOf b z) : ofSign (!b) z.natAbs = -z := by
  unfold SignOf at hb
  subst hb
  unfold ofSign
  by_cases h : z < 0 <;> simp [h] <;> omega
theorem Neg_any (v : Value) (z : Int) (m : Nat) (w : World) (h : IntAt w v z) (hs : z.natAbs < B32 ^ m) (hm : m ≤ 1000000) :
    Calls Tryz.prog 62 #[v] w fun e w' => IsInt w w' (-z) e := by
  obtain ⟨b, A, c, zs, rfl, hsg, hlim⟩ := h
  have hlen : zs.length ≤ 1000000 := Nat.le_trans (hlim.len hs) hm
  go_enter Tryz.func62, Tryz.ntmps62
  go_wp2_with fail
  go_region_held3 (fun w' => w'.cell? ⟨w.heap.size, 0, none⟩ = some (.bool b) ∧ w'.cell? ⟨w.heap.size, 1, none⟩ = some (.slice A zs.length c))
    (first | go_keep | exact ⟨hk1.1, hk1.2.1⟩)
    ((first | (go_at_call 113; refine (copied_any A c zs _ (((hlim.2.1.alloc _).alloc _).drew) hlen hlim.1).mono ?_; intro e w1 hc1; obtain ⟨A', c', rfl, hown1, hlim1, hb1⟩ := copied_limbs (by exact ⟨hlim.1, ((hlim.2.1.alloc _).alloc _).drew, hlim.2.2⟩) hc1; have hk1 := held_first hb1) | (go_at_call 112; refine (signed_to (!b) A' c' zs (-z) w1 hlim1.2.1 hlim1.2.2.1 hlen hlim1.1 (by rw [hlim1.2.2.2.2]; exact neg_sign hsg)).mono ?_; rintro e w2 ⟨v2, rfl, ⟨b2, A2, c2, zs2, rfl, hsg2, hlim2⟩, hb2⟩; have hk2 := held_below hk1 hb2 (by have := hb1.size; simp at this; omega) (by have := hb1.size; simp at this; omega); obtain ⟨hd0, hd1, hd2, hd3, hd4, hd5⟩ := id hk2)))
  go_wp2
  refine bodyPost_ret (v := .agg #[.bool b2, .slice A2 zs2.length c2]) (by simp [results, Tryz.results62, go_sem, hd2, hd3]) rfl ?_
  exact int_stored hk2 hsg2 hlim2 (below_then (below_then ((((Below.refl _ _).alloc (Nat.le_refl _) _).alloc (by simp) _).drew) hb1) hb2) (by simp)
def IsLims (w w' : World) (n : Nat) (e : Ending) : Prop := ∃ A c zs, e = .returned (.slice A zs.length c) ∧ Limbs w' A c zs n ∧ Below w.heap.size w w'
theorem made_zero (n : Nat) : (madeCells (Value.int .u32 0).cells (n * 1)).toList = cellsOf .u32 (List.replicate n 0) := by
  rw [show (Value.int .u32 0).cells = #[Value.int .u32 0] from rfl, toList_madeCells_one, Nat.mul_one]
  simp [cellsOf]
theorem lims_of_trim {w w' : World} {A : Option Addr} {c : Nat} {xs : List Nat} {e : Ending} {n : Nat} (h : Trimmed A c xs e) (hn : Nums w' .u32 A xs) (ho : Lm.Ok B32 xs) (hc : xs.length ≤ c) (hv : Lm.val B32 xs = n) (hb : Below w.heap.size w w') : IsLims w w' n e := by
  obtain ⟨k, rfl, hk, hz, hp⟩ := h
  have hl : (xs.take k).length = k := by rw [List.length_take]; omega
  exact ⟨A, c, xs.take k, by rw [hl], hv ▸ limbs_take hn ho hc hk hz hp, hb⟩
theorem copy_over (xs : List Nat) (n : Nat) : splice (cellsOf .u32 (List.replicate n 0)) 0 (cellsOf .u32 xs) = cellsOf .u32 (xs ++ List.replicate (n - xs.length) 0) := by
  unfold splice cellsOf
  simp
theorem own_block {w : World} {base : Nat} {e : TypeId} {g n : Nat} {ys : List Value} (h : w.ownsRow base e 1 (.slice (some ⟨g, 0, none⟩) n n) n ys) : w.heap[g]? = some (.cells ys.toArray e (0, 0)) := by
  rcases h.2 with ⟨hv, _⟩ | ⟨g', cap, cur, hv, _, hg, _, _, hcs, htake⟩
  · cases hv
  · simp only [Value.slice.injEq, Option.some.injEq, Addr.mk.injEq, and_true, true_and] at hv
    obtain ⟨rfl, rfl⟩ := hv
    rw [hg, ← htake, List.take_of_length_le (by rw [Array.length_toList, hcs]; exact Nat.le_refl _)]
theorem copy_src {w : World} {k : IntKind} {A : Option Addr} {xs : List Nat} (h : Nums w k A xs) {g : Nat} : 0 < (cellsOf k xs).length → (some (⟨g, 0, none⟩ : Addr) = some ⟨g, 0, none⟩ ∧ ∃ ad, A = some ad ∧ ∀ j v, (cellsOf k xs)[j]? = some v → w.cell? (ad.add j) = some v) := fun hn => by
  rw [cellsOf_length] at hn
  obtain ⟨ad, rfl, _, _⟩ := h hn
  exact ⟨rfl, ad, rfl, h.news⟩
theorem seg_of_block {w : World} {g : Nat} {k : IntKind} {e : TypeId} {zs : List Nat} (h : w.heap[g]? = some (.cells (cellsOf k zs).toArray e (0, 0))) : Seg w g 0 k e (cellsOf k zs).toArray zs :=
  ⟨h, by simp [cellsOf_length], fun j hj => by simpa using cellsOf_at (k := k) hj⟩
theorem off_below {A : Option Addr} {w : World} {k : IntKind} {xs : List Nat} {g : Nat} (h : Nums w k A xs) (hn : 0 < xs.length) (hg : w.heap.size ≤ g) : Off A g := fun ad e => by
  obtain ⟨ad', e', hb, _⟩ := h hn
  rw [e] at e'
  injection e' with e'
  subst e'
  omega
theorem sum_fits {xs ys : List Nat} (ox : Lm.Ok B32 xs) (oy : Lm.Ok B32 ys) (h : ys.length ≤ xs.length) : Lm.val B32 xs + Lm.val B32 ys < B32 ^ (xs.length + 1) := by
  have h1 := Lm.val_lt ox
  have h2 := Lm.val_lt oy
  have h3 : B32 ^ ys.length ≤ B32 ^ xs.length := Nat.pow_le_pow_right B32_pos h
  rw [Nat.pow_succ]
  have h4 : B32 ^ xs.length * 2 ≤ B32 ^ xs.length * B32 := Nat.mul_le_mul_left _ (by decide)
  omega
theorem sum_long (A : Option Addr) (c : Nat) (xs : List Nat) (A' : Option Addr) (c' : Nat) (ys : List Nat) (w : World) (hx : Nums w .u32 A xs) (hy : Nums w .u32 A' ys)
    (ox : Lm.Ok B32 xs) (oy : Lm.Ok B32 ys) (hl : xs.length ≤ 900000) (hle : ys.length ≤ xs.length) :
    Calls Tryz.prog 131 #[.slice A xs.length c, .slice A' ys.length c'] w fun e w' => IsLims w w' (Lm.val B32 xs + Lm.val B32 ys) e := by
  obtain ⟨i0, hi0, hz0, hz1, hz2⟩ := info_parts Tryz.info132
  have HI := Lib.hid (And.intro hi0 (And.intro hz0 (And.intro hz1 hz2)))
  have HM := Lib.hid (show i0.bytes * (xs.length + 1) ≤ 281474976710656 ∧ xs.length + 1 ≤ maxLen from ⟨by rw [hz2]; omega, by unfold maxLen; omega⟩)
  clear hi0 hz0 hz1 hz2
  have HS := Lib.hid (show (Tryz.prog.info? 132).map (·.size) = some 1 from by kernel_rfl)
  have HN := Lib.hid (show (cellsOf .u32 xs).length = Nat.min xs.length (xs.length + 1) ∧ 0 + (cellsOf .u32 xs).length ≤ (cellsOf .u32 (List.replicate (xs.length + 1) 0)).length from ⟨by rw [cellsOf_length]; exact (Nat.min_eq_left (by omega)).symm, by simp [cellsOf_length]⟩)
  go_enter Tryz.func131, Tryz.ntmps131
  go_wp2_with (first | (at_make; go_loud (refine wpList_make_full _ rfl _ _ 22 rfl w.heap.size 132 i0 (.int .u32 0) 1 Tryz.underlying22 HI.out.1 HI.out.2.1 HI.out.2.2.1 _ _ _ _ (xs.length + 1) rfl rfl (by omega) (by omega) HM.out.1 HM.out.2 (Nat.le_refl _) ?_); intro w1 hown1 hg1; rw [made_zero] at hown1; have HB := Lib.hid (own_block hown1); have hb1 : Below w.heap.size w w1 := (Below.refl _ _).grown hg1 (Nat.le_refl _) (fun k hk => by cases hk)) | (with_reducible refine wpList_copy_splice (o := ⟨some 19, _, _, _, _, _⟩) rfl (.tmp 17) (.tmp 18) 22 22 rfl 132 Tryz.underlying22 HS.out _ A _ _ xs.length c rfl rfl w.heap.size 0 _ 132 HB.out (cellsOf .u32 xs) HN.out.1 (copy_src (hx.below hb1)) HN.out.2 (cellsOf_one _ _) w.heap.size w hb1 (Nat.le_refl _) ?_; intro w2 HB2 hb2))
  have hz0 : Seg w2 w.heap.size 0 .u32 132 _ (xs ++ List.replicate (xs.length + 1 - xs.length) 0) := seg_of_block (by rw [← copy_over]; exact HB2.out)
  have hlen : (xs ++ List.replicate (xs.length + 1 - xs.length) 0).length = xs.length + 1 := by simp
  have hval : Lm.val B32 (xs ++ List.replicate (xs.length + 1 - xs.length) 0) = Lm.val B32 xs := by rw [Lm.val_append, Lm.val_zeros]; simp
  have hinc := increase_any w.heap.size 0 (xs.length + 1) _ _ A' c' ys w2 hz0 (hy.below hb2) (fun hn => off_below hy hn (Nat.le_refl _)) (ox.append (Lm.Ok.zeros B32_pos _)) oy (by omega) (by omega) (by rw [hlen, hval]; exact sum_fits ox oy hle)
  rw [hlen] at hinc
  have HV := Lib.hid (And.intro hlen hval)
  clear hz0 hlen hval HB HB2 HN HS HM HI
  refine hinc.mono ?_
  clear hinc
  rintro e w3 ⟨rfl, zs, hzl, hzo, hzv, ⟨cur', hseg, -, -⟩, hg3⟩
  rw [HV.out.2] at hzv
  have htr := trim_any (some ⟨w.heap.size, 0, none⟩) (xs.length + 1) zs w3 hseg.nums (by omega) (by omega)
  rw [hzl] at htr
  have HT := Lib.hid htr
  have HZ := Lib.hid (And.intro hzl hzv)
  clear htr hzl hzv hown1
  go_wp2_with fail
  refine HT.out.mono ?_
  rintro e w4 ⟨rfl, k, rfl, hk, hz, hp⟩
  have HP := Lib.hid (And.intro hk (And.intro hz hp))
  clear hk hz hp
  go_wp2
  go_ret
  exact lims_of_trim ⟨k, rfl, HP.out⟩ hseg.nums hzo (Nat.le_of_eq HZ.out.1) HZ.out.2 (hb2.trans (grown_below hg3 (Nat.le_refl _) hb2.size))
theorem sum_short (A : Option Addr) (c : Nat) (xs : List Nat) (A' : Option Addr) (c' : Nat) (ys : List Nat) (w : World) (hx : Nums w .u32 A xs) (hy : Nums w .u32 A' ys)
    (ox : Lm.Ok B32 xs) (oy : Lm.Ok B32 ys) (hl : xs.length ≤ 900000) (hlt : ys.length < xs.length) :
    Calls Tryz.prog 131 #[.slice A' ys.length c', .slice A xs.length c] w fun e w' => IsLims w w' (Lm.val B32 xs + Lm.val B32 ys) e := by
  have hle : ys.length ≤ xs.length := Nat.le_of_lt hlt
  obtain ⟨i0, hi0, hz0, hz1, hz2⟩ := info_parts Tryz.info132
  have HI := Lib.hid (And.intro hi0 (And.intro hz0 (And.intro hz1 hz2)))
  have HM := Lib.hid (show i0.bytes * (xs.length + 1) ≤ 281474976710656 ∧ xs.length + 1 ≤ maxLen from ⟨by rw [hz2]; omega, by unfold maxLen; omega⟩)
  clear hi0 hz0 hz1 hz2
  have HS := Lib.hid (show (Tryz.prog.info? 132).map (·.size) = some 1 from by kernel_rfl)
  have HN := Lib.hid (show (cellsOf .u32 xs).length = Nat.min xs.length (xs.length + 1) ∧ 0 + (cellsOf .u32 xs).length ≤ (cellsOf .u32 (List.replicate (xs.length + 1) 0)).length from ⟨by rw [cellsOf_length]; exact (Nat.min_eq_left (by omega)).symm, by simp [cellsOf_length]⟩)
  go_enter Tryz.func131, Tryz.ntmps131
  go_wp2_with (first | (at_make; go_loud (refine wpList_make_full _ rfl _ _ 22 rfl w.heap.size 132 i0 (.int .u32 0) 1 Tryz.underlying22 HI.out.1 HI.out.2.1 HI.out.2.2.1 _ _ _ _ (xs.length + 1) rfl rfl (by omega) (by omega) HM.out.1 HM.out.2 (Nat.le_refl _) ?_); intro w1 hown1 hg1; rw [made_zero] at hown1; have HB := Lib.hid (own_block hown1); have hb1 : Below w.heap.size w w1 := (Below.refl _ _).grown hg1 (Nat.le_refl _) (fun k hk => by cases hk)) | (with_reducible refine wpList_copy_splice (o := ⟨some 19, _, _, _, _, _⟩) rfl (.tmp 17) (.tmp 18) 22 22 rfl 132 Tryz.underlying22 HS.out _ A _ _ xs.length c rfl rfl w.heap.size 0 _ 132 HB.out (cellsOf .u32 xs) HN.out.1 (copy_src (hx.below hb1)) HN.out.2 (cellsOf_one _ _) w.heap.size w hb1 (Nat.le_refl _) ?_; intro w2 HB2 hb2))
  have hz0 : Seg w2 w.heap.size 0 .u32 132 _ (xs ++ List.replicate (xs.length + 1 - xs.length) 0) := seg_of_block (by rw [← copy_over]; exact HB2.out)
  have hlen : (xs ++ List.replicate (xs.length + 1 - xs.length) 0).length = xs.length + 1 := by simp
  have hval : Lm.val B32 (xs ++ List.replicate (xs.length + 1 - xs.length) 0) = Lm.val B32 xs := by rw [Lm.val_append, Lm.val_zeros]; simp
  have hinc := increase_any w.heap.size 0 (xs.length + 1) _ _ A' c' ys w2 hz0 (hy.below hb2) (fun hn => off_below hy hn (Nat.le_refl _)) (ox.append (Lm.Ok.zeros B32_pos _)) oy (by omega) (by omega) (by rw [hlen, hval]; exact sum_fits ox oy hle)
  rw [hlen] at hinc
  have HV := Lib.hid (And.intro hlen hval)
  clear hz0 hlen hval HB HB2 HN HS HM HI
  refine hinc.mono ?_
  clear hinc
  rintro e w3 ⟨rfl, zs, hzl, hzo, hzv, ⟨cur', hseg, -, -⟩, hg3⟩
  rw [HV.out.2] at hzv
  have htr := trim_any (some ⟨w.heap.size, 0, none⟩) (xs.length + 1) zs w3 hseg.nums (by omega) (by omega)
  rw [hzl] at htr
  have HT := Lib.hid htr
  have HZ := Lib.hid (And.intro hzl hzv)
  clear htr hzl hzv hown1
  go_wp2_with fail
  refine HT.out.mono ?_
  rintro e w4 ⟨rfl, k, rfl, hk, hz, hp⟩
  have HP := Lib.hid (And.intro hk (And.intro hz hp))
  clear hk hz hp
  go_wp2
  go_ret
  exact lims_of_trim ⟨k, rfl, HP.out⟩ hseg.nums hzo (Nat.le_of_eq HZ.out.1) HZ.out.2 (hb2.trans (grown_below hg3 (Nat.le_refl _) hb2.size))
theorem sum_any (A : Option Addr) (c : Nat) (xs : List Nat) (A' : Option Addr) (c' : Nat) (ys : List Nat) (w : World) (hx : Nums w .u32 A xs) (hy : Nums w .u32 A' ys)
    (ox : Lm.Ok B32 xs) (oy : Lm.Ok B32 ys) (hl : xs.length ≤ 900000) (hl' : ys.length ≤ 900000) :
    Calls Tryz.prog 131 #[.slice A xs.length c, .slice A' ys.length c'] w fun e w' => IsLims w w' (Lm.val B32 xs + Lm.val B32 ys) e := by
  rcases Nat.lt_or_ge xs.length ys.length with h | h
  · rw [Nat.add_comm]
    exact sum_short A' c' ys A c xs w hy hx oy ox hl' h
  · exact sum_long A c xs A' c' ys w hx hy ox oy hl h
theorem top_bit (n : Nat) (h : n < 4294967296) : n / 2147483648 = (n.testBit 31).toNat := by
  have e : n.testBit 31 = decide (n / 2147483648 % 2 = 1) := Nat.testBit_eq_decide_div_mod_eq
  rw [e]
  have h2 : n / 2147483648 < 2 := by omega
  rcases Nat.lt_or_ge (n / 2147483648) 1 with h3 | h3
  · have : n / 2147483648 = 0 := by omega
    simp [this]
  · have : n / 2147483648 = 1 := by omega
    simp [this]
theorem bit31 (n : Nat) (h : n < 4294967296) : n.testBit 31 = decide (2147483648 ≤ n) := by
  have e : n.testBit 31 = decide (n / 2147483648 % 2 = 1) := Nat.testBit_eq_decide_div_mod_eq
  rw [e]
  congr 1
  apply propext
  omega
theorem or_lt32 {a b : Nat} (ha : a < 4294967296) (hb : b < 4294967296) : a ||| b < 4294967296 := Nat.or_lt_two_pow (n := 32) ha hb
theorem and_lt32 {a b : Nat} (hb : b < 4294967296) : a &&& b < 4294967296 := Nat.and_lt_two_pow (n := 32) a hb
theorem xor_lt32 {a b : Nat} (ha : a < 4294967296) (hb : b < 4294967296) : a ^^^ b < 4294967296 := Nat.xor_lt_two_pow (n := 32) ha hb
theorem borrow_bit (x y d q b : Nat) (hx : x < 4294967296) (hy : y < 4294967296) (hd : d < 4294967296) (hb : b ≤ 1) (hq : q ≤ 1) (h : d + y + b = x + 4294967296 * q) :
    (((4294967295 ^^^ x) &&& y) ||| ((4294967295 ^^^ (x ^^^ y)) &&& d)) / 2147483648 = q := by
  rw [top_bit _ (or_lt32 (and_lt32 hy) (and_lt32 hd))]
  simp only [Nat.testBit_or, Nat.testBit_and, Nat.testBit_xor, bit31 x hx, bit31 y hy, bit31 d hd, show Nat.testBit 4294967295 31 = true from by decide]
  by_cases h1 : 2147483648 ≤ x <;> by_cases h2 : 2147483648 ≤ y <;> by_cases h3 : 2147483648 ≤ d <;> simp [h1, h2, h3] <;> omega
theorem max_u32 : IntKind.u32.max = ((4294967295 : Nat) : Int) := by decide
theorem borrow_int (x y d q b : Nat) (hx : x < 4294967296) (hy : y < 4294967296) (hd : d < 4294967296) (hb : b ≤ 1) (hq : q ≤ 1) (h : d + y + b = x + 4294967296 * q) :
    bits .or .u32 (bits .and .u32 (bits .xor .u32 IntKind.u32.max (x : Int)) (y : Int)) (bits .and .u32 (bits .xor .u32 IntKind.u32.max (bits .xor .u32 (x : Int) (y : Int))) (((x : Int) - (y : Int) - (b : Int)) % 4294967296)) / 2147483648 = ((q : Nat) : Int) := by
  have e : ((x : Int) - (y : Int) - (b : Int)) % 4294967296 = ((d : Nat) : Int) := by omega
  have hm : 4294967295 < 4294967296 := by decide
  rw [e, max_u32, u32_xor_nat _ _ hm hx, u32_and_nat _ _ (xor_lt32 hm hx) hy, u32_xor_nat _ _ hx hy, u32_xor_nat _ _ hm (xor_lt32 hx hy), u32_and_nat _ _ (xor_lt32 hm (xor_lt32 hx hy)) hd,
    u32_or_nat _ _ (and_lt32 hy) (and_lt32 hd)]
  have := borrow_bit x y d q b hx hy hd hb hq h
  omega
theorem sub_parts (x y b : Nat) (hx : x < 4294967296) (hy : y < 4294967296) (hb : b ≤ 1) : ∃ d q : Nat, d < 4294967296 ∧ q ≤ 1 ∧ d + y + b = x + 4294967296 * q := by
  by_cases h : x < y + b
  · exact ⟨x + 4294967296 - y - b, 1, by omega, by omega, by omega⟩
  · exact ⟨x - y - b, 0, by omega, by omega, by omega⟩
def IsSub (w w' : World) (x y b : Nat) (e : Ending) : Prop := w = w' ∧ ∃ d q : Nat, e = .returned (.tuple #[.int .u32 d, .int .u32 q]) ∧ d < 4294967296 ∧ q ≤ 1 ∧ d + y + b = x + 4294967296 * q
theorem sub32_any (x y b : Nat) (w : World) (hx : x < 4294967296) (hy : y < 4294967296) (hb : b ≤ 1) :
    Calls Tryz.prog 163 #[.int .u32 x, .int .u32 y, .int .u32 b] w fun e w' => IsSub w w' x y b e := by
  obtain ⟨d, q, hd, hq, h⟩ := sub_parts x y b hx hy hb
  have h1 := borrow_int x y d q b hx hy hd hb hq h
  have h2 : ((x : Int) - (y : Int) - (b : Int)) % 4294967296 = ((d : Nat) : Int) := by omega
  have H := Lib.hid (And.intro h (And.intro h1 h2))
  clear h h1 h2
  go_enter Tryz.func163, Tryz.ntmps163
  go_wp2
  go_ret2
  refine ⟨rfl, d, q, ?_, hd, hq, H.out.1⟩
  have e : Ending.returned (.tuple #[.int .u32 (((x : Int) - (y : Int) - (b : Int)) % 4294967296), .int .u32 (bits .or .u32 (bits .and .u32 (bits .xor .u32 IntKind.u32.max (x : Int)) (y : Int)) (bits .and .u32 (bits .xor .u32 IntKind.u32.max (bits .xor .u32 (x : Int) (y : Int))) (((x : Int) - (y : Int) - (b : Int)) % 4294967296)) / 2147483648)]) = .returned (.tuple #[.int .u32 d, .int .u32 q]) := by
    rw [H.out.2.1, H.out.2.2]
  exact e
structure Dif (xs ys zs : List Nat) (i q : Nat) : Prop where
  len : zs.length = xs.length
  ok : Lm.Ok B32 zs
  rest : ∀ j, i ≤ j → zs.getD j 0 = xs.getD j 0
  num : Lm.val B32 zs + Lm.val B32 (ys.take i) = Lm.val B32 xs + B32 ^ i * q
  borrow : q ≤ 1
theorem dif_step {xs ys zs : List Nat} {i q d y r q' : Nat} (h : Dif xs ys zs i q) (hi : i < xs.length) (hd : zs.getD i 0 = d) (hr : r < 4294967296) (hq : q' ≤ 1) (he : r + y + q = d + 4294967296 * q')
    (hy : Lm.val B32 (ys.take (i + 1)) = Lm.val B32 (ys.take i) + B32 ^ i * y) : Dif xs ys (zs.set i r) (i + 1) q' := by
  have hs := Lm.val_set B32 zs i r (by rw [h.len]; exact hi)
  rw [hd] at hs
  refine ⟨by simpa using h.len, h.ok.set _ _ hr, fun j hj => ?_, ?_, hq⟩
  · rw [← h.rest j (by omega), List.getD_eq_getElem?_getD, List.getElem?_set, if_neg (by omega), ← List.getD_eq_getElem?_getD]
  · rw [hy, Nat.pow_succ]
    exact Lm.sub_step B32 (B32 ^ i) (Lm.val B32 zs) _ q d y r q' he hs _ _ h.num
theorem dif_end {xs ys zs : List Nat} {i : Nat} (h : Dif xs ys zs i 0) (hi : ys.length ≤ i) : Lm.val B32 zs = Lm.val B32 xs - Lm.val B32 ys := by
  have hn := h.num
  rw [List.take_of_length_le hi] at hn
  omega
theorem dif_room {xs ys zs : List Nat} {i q : Nat} (h : Dif xs ys zs i q) (hq : 0 < q) (hi : ys.length ≤ i) (hv : Lm.val B32 ys ≤ Lm.val B32 xs) : i < xs.length := by
  rcases Nat.lt_or_ge i xs.length with hlt | hge
  · exact hlt
  · have hn := h.num
    rw [List.take_of_length_le hi] at hn
    have h0 := Lm.val_lt h.ok
    rw [h.len] at h0
    have h1 : B32 ^ xs.length ≤ B32 ^ i := Nat.pow_le_pow_right B32_pos hge
    have h2 : B32 ^ i * 1 ≤ B32 ^ i * q := Nat.mul_le_mul_left _ hq
    omega
theorem difference_some (A : Option Addr) (c : Nat) (xs : List Nat) (A' : Option Addr) (c' : Nat) (ys : List Nat) (w : World) (hx : Nums w .u32 A xs) (hy : Nums w .u32 A' ys)
    (ox : Lm.Ok B32 xs) (oy : Lm.Ok B32 ys) (hl : xs.length ≤ 900000) (hle : ys.length ≤ xs.length) (hv : Lm.val B32 ys ≤ Lm.val B32 xs) (h0 : 0 < xs.length) :
    Calls Tryz.prog 132 #[.slice A xs.length c, .slice A' ys.length c'] w fun e w' => IsLims w w' (Lm.val B32 xs - Lm.val B32 ys) e := by
  have HV := Lib.hid hv
  clear hv
  go_enter Tryz.func132, Tryz.ntmps132
  go_wp2_with fail
  refine (clone_any A c xs w hx (by omega)).mono ?_
  rintro e w1 ⟨A1, c1, rfl, hown, hb1⟩
  obtain ⟨A2, c2, e2, hle2⟩ := own_form hown
  obtain ⟨rfl, rfl⟩ : A1 = A2 ∧ c1 = c2 := by injection e2 with a b c; exact ⟨a, c⟩
  clear e2
  obtain ⟨g, cur, rfl, hg, hseg0⟩ := seg_of_own hown h0
  have hy1 := hy.below hb1
  have hoff : 0 < ys.length → Off A' g := fun hn => off_below hy hn hg
  clear hown hx hy
  go_wp2_with fail
  go_loopw [6, 7, 8] (fun bv iv _ wr => ∃ (i q : Nat) (zs : List Nat), iv = .int .i64 i ∧ bv = .int .u32 q ∧ i ≤ xs.length ∧ Dif xs ys zs i q ∧ SegTo wr g 0 .u32 132 cur zs ∧ w1.grownBy wr (some g)) (fun _ iv _ _ => xs.length - (intOf iv).toNat)
  case atStart =>
   exact ⟨0, 0, xs, rfl, rfl, Nat.zero_le _, ⟨rfl, ox, fun _ _ => rfl, by simp [Lm.val], by omega⟩, .refl hseg0, World.grownBy.refl _ _⟩
  case round =>
   obtain ⟨i, q, zs, rfl, rfl, hi, hdif, hseg, hgr⟩ := hrel
   have hyr := hy1.grown hgr hoff
   have hq := hdif.borrow
   by_cases hiy : i < ys.length
   · obtain ⟨ad, rfl, _, hcell⟩ := hyr.at_ hiy
     have hcy := hcell i hiy
     clear hcell
     obtain ⟨cur', hs1, hs2, hs3⟩ := id hseg
     have hcz := hs1.cell (j := i) (by rw [hdif.len]; omega)
     have hfz := hs1.frozen (0 + i)
     have hdl := limb_lt hdif.ok i
     have hyl := limb_lt oy i
     obtain ⟨d, hd⟩ : ∃ d, zs.getD i 0 = d := ⟨_, rfl⟩
     obtain ⟨y, hyd⟩ : ∃ y, ys.getD i 0 = y := ⟨_, rfl⟩
     rw [hd] at hcz hdl
     rw [hyd] at hcy hyl
     simp only [Nat.zero_add] at hcz hfz
     have HD := Lib.hid hd
     have HY := Lib.hid hyd
     clear hd hyd hs1 hs2 hs3 hseg0
     go_wp2_with fail
     refine (sub32_any d y q _ hdl hyl hq).mono ?_
     rintro e w' ⟨rfl, r, q', rfl, hr, hq', he⟩
     have HE := Lib.hid he
     clear he
     go_wp2
     go_roundw
     case rel =>
      refine ⟨i + 1, _, _, by go_num, rfl, by omega, dif_step hdif (by omega) HD.out hr hq' HE.out (by rw [Lm.val_take_succ _ _ _ hiy, HY.out]), ?_, ?_⟩
      · simpa using hseg.set_ (j := i) (by rw [hdif.len]; omega) r
      · exact grown_trans hgr (grown_store _ _ _ _)
     case measure => simp [intOf]; omega
   · by_cases hq0 : q = 0
     · subst hq0
       have htr := trim_any (some ⟨g, 0, none⟩) c1 zs wr (by obtain ⟨cur', hs1, _⟩ := hseg; exact hs1.nums) (by rw [hdif.len]; omega) (by rw [hdif.len]; exact hle2)
       rw [hdif.len] at htr
       have HT := Lib.hid htr
       clear htr
       go_wp2_with fail
       refine HT.out.mono ?_
       rintro e w4 ⟨rfl, k, rfl, hk, hz, hp⟩
       have HP := Lib.hid (And.intro hk (And.intro hz hp))
       clear hk hz hp
       go_wp2
       go_ret
       exact lims_of_trim ⟨k, rfl, HP.out⟩ (by obtain ⟨cur', hs1, _⟩ := hseg; exact hs1.nums) hdif.ok (by rw [hdif.len]; exact hle2) (dif_end hdif (by omega)) (hb1.trans (grown_below hgr hg hb1.size))
     · have hroom := dif_room hdif (by omega) (by omega) HV.out
       obtain ⟨cur', hs1, hs2, hs3⟩ := id hseg
       have hcz := hs1.cell (j := i) (by rw [hdif.len]; omega)
       have hfz := hs1.frozen (0 + i)
       have hdl := limb_lt hdif.ok i
       obtain ⟨d, hd⟩ : ∃ d, zs.getD i 0 = d := ⟨_, rfl⟩
       rw [hd] at hcz hdl
       simp only [Nat.zero_add] at hcz hfz
       have HD := Lib.hid hd
       have hqp : 0 < q := by omega
       clear hd hs1 hs2 hs3 hseg0 hq0
       have h32 := sub32_any d 0 q wr hdl (by omega) hq
       have H32 := Lib.hid h32
       clear h32
       go_wp2_with fail
       refine H32.out.mono ?_
       rintro e w' ⟨rfl, r, q', rfl, hr, hq', he⟩
       have HE := Lib.hid he
       clear he
       go_wp2
       go_roundw
       case rel =>
        refine ⟨i + 1, _, _, by go_num, rfl, by omega, dif_step hdif (by omega) HD.out hr hq' HE.out (by rw [List.take_of_length_le (by omega), List.take_of_length_le (by omega)]; simp), ?_, ?_⟩
        · simpa using hseg.set_ (j := i) (by rw [hdif.len]; omega) r
        · exact grown_trans hgr (grown_store _ _ _ _)
       case measure => simp [intOf]; omega
theorem difference_none (A : Option Addr) (c : Nat) (A' : Option Addr) (c' : Nat) (w : World) :
    Calls Tryz.prog 132 #[.slice A 0 c, .slice A' 0 c'] w fun e w' => IsLims w w' 0 e := by
  have hcl := clone_any A c [] w (Nums.nil _ _ _) (by simp)
  have HC := Lib.hid hcl
  clear hcl
  go_enter Tryz.func132, Tryz.ntmps132
  go_wp2_with fail
  refine HC.out.mono ?_
  rintro e w1 ⟨A1, c1, rfl, hown, hb1⟩
  clear hown HC
  have htr := trim_any A1 c1 [] w1 (Nums.nil _ _ _) (by simp) (by simp)
  have HT := Lib.hid htr
  clear htr
  simp only [List.length_nil]
  go_wp2_with fail
  go_loop [6, 7] (fun q i => q = .int .u32 0 ∧ i = .int .i64 0) (fun _ _ => 0)
  case atStart => exact ⟨rfl, rfl⟩
  case round =>
   obtain ⟨rfl, rfl⟩ := hrel
   go_wp2_with fail
   refine HT.out.mono ?_
   rintro e w4 ⟨rfl, k, rfl, hk, hz, hp⟩
   have HP := Lib.hid (And.intro hk (And.intro hz hp))
   clear hk hz hp
   go_wp2
   go_ret
   exact lims_of_trim ⟨k, rfl, HP.out⟩ (Nums.nil _ _ _) (Lm.Ok.nil _) (by simp) rfl hb1
theorem difference_any (A : Option Addr) (c : Nat) (xs : List Nat) (A' : Option Addr) (c' : Nat) (ys : List Nat) (w : World) (hx : Nums w .u32 A xs) (hy : Nums w .u32 A' ys)
    (ox : Lm.Ok B32 xs) (oy : Lm.Ok B32 ys) (hl : xs.length ≤ 900000) (hle : ys.length ≤ xs.length) (hv : Lm.val B32 ys ≤ Lm.val B32 xs) :
    Calls Tryz.prog 132 #[.slice A xs.length c, .slice A' ys.length c'] w fun e w' => IsLims w w' (Lm.val B32 xs - Lm.val B32 ys) e := by
  rcases Nat.eq_zero_or_pos xs.length with h0 | h0
  · have hx0 : xs = [] := List.eq_nil_of_length_eq_zero h0
    have hy0 : ys = [] := List.eq_nil_of_length_eq_zero (by omega)
    subst hx0
    subst hy0
    exact difference_none A c A' c' w
  · exact difference_some A c xs A' c' ys w hx hy ox oy hl hle hv h0
structure Outer (xs ys zs : List Nat) (i : Nat) : Prop where
  len : zs.length = xs.length + ys.length
  ok : Lm.Ok B32 zs
  zero : ∀ k, i + xs.length ≤ k → zs.getD k 0 = 0
  num : Lm.val B32 zs = Lm.val B32 xs * Lm.val B32 (ys.take i)
structure Inner (xs ys zs : List Nat) (i f j c : Nat) : Prop where
  len : zs.length = xs.length + ys.length
  ok : Lm.Ok B32 zs
  zero : ∀ k, i + xs.length ≤ k → zs.getD k 0 = 0
  num : Lm.val B32 zs + B32 ^ (i + j) * c = Lm.val B32 xs * Lm.val B32 (ys.take i) + B32 ^ i * (f * Lm.val B32 (xs.take j))
  carry : c < 4294967296
theorem inner_start {xs ys zs : List Nat} {i f : Nat} (h : Outer xs ys zs i) : Inner xs ys zs i f 0 0 :=
  ⟨h.len, h.ok, h.zero, by simp [Lm.val, h.num], by omega⟩
theorem limb_prod {x f : Nat} (hx : x < 4294967296) (hf : f < 4294967296) : x * f ≤ 18446744065119617025 := by
  have h : x * f ≤ 4294967295 * 4294967295 := Nat.mul_le_mul (by omega) (by omega)
  simpa using h
theorem inner_step {xs ys zs : List Nat} {i f j c d x t : Nat} (h : Inner xs ys zs i f j c) (hj : j < xs.length) (hi : i < ys.length) (hd : zs.getD (i + j) 0 = d) (hdl : d < 4294967296)
    (hx : xs.getD j 0 = x) (hxl : x < 4294967296) (hfl : f < 4294967296) (ht : t = c + d + x * f) : Inner xs ys (zs.set (i + j) (t % B32)) i f (j + 1) (t / B32) := by
  have hs := Lm.val_set B32 zs (i + j) (t % B32) (by rw [h.len]; omega)
  rw [hd] at hs
  have hp := limb_prod hxl hfl
  have hc := h.carry
  refine ⟨by simpa using h.len, h.ok.set _ _ (Nat.mod_lt _ B32_pos), fun k hk => ?_, ?_, ?_⟩
  · exact (Lm.getD_set_ne _ _ _ _ (by omega)).trans (h.zero k hk)
  · rw [show i + (j + 1) = (i + j) + 1 from by omega, Nat.pow_succ, Lm.add_step B32 (B32 ^ (i + j)) (Lm.val B32 zs) _ c d (x * f) t ht hs, Nat.mul_add, ← Nat.add_assoc, h.num,
      Lm.val_take_succ _ _ _ hj, hx, Nat.mul_add, Nat.mul_add, Nat.add_assoc]
    congr 2
    rw [Nat.pow_add, Nat.mul_assoc]
    congr 1
    rw [Nat.mul_left_comm f, Nat.mul_comm x f]
  · subst ht
    unfold B32
    omega
theorem inner_end {xs ys zs : List Nat} {i f c : Nat} (h : Inner xs ys zs i f xs.length c) (hi : i < ys.length) (hf : ys.getD i 0 = f) : Outer xs ys (zs.set (i + xs.length) c) (i + 1) := by
  have hs := Lm.val_set B32 zs (i + xs.length) c (by rw [h.len]; omega)
  rw [h.zero (i + xs.length) (Nat.le_refl _), Nat.mul_zero, Nat.add_zero] at hs
  refine ⟨by simpa using h.len, h.ok.set _ _ h.carry, fun k hk => ?_, ?_⟩
  · exact (Lm.getD_set_ne _ _ _ _ (by omega)).trans (h.zero k (by omega))
  · rw [hs, h.num, List.take_length, Lm.val_take_succ _ _ _ hi, hf, Nat.mul_add]
    congr 1
    rw [Nat.mul_left_comm (Lm.val B32 xs), Nat.mul_comm f]
theorem rows_any (A : Option Addr) (c : Nat) (xs : List Nat) (A' : Option Addr) (c' : Nat) (ys : List Nat) (w : World) (hx : Nums w .u32 A xs) (hy : Nums w .u32 A' ys)
    (ox : Lm.Ok B32 xs) (oy : Lm.Ok B32 ys) (hl : xs.length ≤ 400000) (hl' : ys.length ≤ 400000) :
    Calls Tryz.prog 155 #[.slice A xs.length c, .slice A' ys.length c'] w fun e w' => IsLims w w' (Lm.val B32 xs * Lm.val B32 ys) e := by
  obtain ⟨i0, hi0, hz0, hz1, hz2⟩ := info_parts Tryz.info132
  have HI := Lib.hid (And.intro hi0 (And.intro hz0 (And.intro hz1 hz2)))
  have HM := Lib.hid (show i0.bytes * (xs.length + ys.length) ≤ 281474976710656 ∧ xs.length + ys.length ≤ maxLen from ⟨by rw [hz2]; omega, by unfold maxLen; omega⟩)
  clear hi0 hz0 hz1 hz2
  go_enter Tryz.func155, Tryz.ntmps155
  go_wp2_with (at_make; go_loud (refine wpList_make_full _ rfl _ _ 22 rfl w.heap.size 132 i0 (.int .u32 0) 1 Tryz.underlying22 HI.out.1 HI.out.2.1 HI.out.2.2.1 _ _ _ _ (xs.length + ys.length) rfl rfl (by omega) (by omega) HM.out.1 HM.out.2 (Nat.le_refl _) ?_); intro w1 hown1 hg1; rw [made_zero] at hown1; have HB := Lib.hid (own_block hown1); have hb1 : Below w.heap.size w w1 := (Below.refl _ _).grown hg1 (Nat.le_refl _) (fun k hk => by cases hk); clear hown1)
  have hz0 : Seg w1 w.heap.size 0 .u32 132 _ (List.replicate (xs.length + ys.length) 0) := seg_of_block HB.out
  have hx1 := hx.below hb1
  have hy1 := hy.below hb1
  have hoffx : 0 < xs.length → Off A w.heap.size := fun hn => off_below hx hn (Nat.le_refl _)
  have hoffy : 0 < ys.length → Off A' w.heap.size := fun hn => off_below hy hn (Nat.le_refl _)
  clear hx hy HB HI HM
  go_loopw [19] (fun iv wr => ∃ (i : Nat) (zs : List Nat), iv = .int .i64 i ∧ i ≤ ys.length ∧ Outer xs ys zs i ∧ SegTo wr w.heap.size 0 .u32 132 (cellsOf .u32 (List.replicate (xs.length + ys.length) 0)).toArray zs ∧ w1.grownBy wr (some w.heap.size)) (fun iv _ => ys.length - (intOf iv).toNat)
  case atStart =>
   exact ⟨0, _, rfl, Nat.zero_le _, ⟨by simp, Lm.Ok.zeros B32_pos _, fun k _ => by rw [List.getD_eq_getElem?_getD]; by_cases hk : k < xs.length + ys.length <;> simp [hk], by rw [Lm.val_zeros]; simp [Lm.val]⟩, .refl hz0, World.grownBy.refl _ _⟩
  case round =>
   obtain ⟨i, zs, rfl, hi, hout, hseg, hgr⟩ := hrel
   by_cases hiy : i < ys.length
   · have hyr := hy1.grown hgr hoffy
     obtain ⟨ad, rfl, _, hcell⟩ := hyr.at_ hiy
     have hcy := hcell i hiy
     have hfl := limb_lt oy i
     obtain ⟨f, hf⟩ : ∃ f, ys.getD i 0 = f := ⟨_, rfl⟩
     rw [hf] at hcy hfl
     have HF := Lib.hid hf
     clear hcell hf
     obtain ⟨wo, rfl⟩ : ∃ wo : World, wo = wr := ⟨_, rfl⟩
     have hin := inner_start (f := f) hout
     clear hout
     go_wp2
     go_loopw [8, 26] (fun cv jv wr => ∃ (j q : Nat) (zs : List Nat), jv = .int .i64 j ∧ cv = .int .u64 q ∧ j ≤ xs.length ∧ Inner xs ys zs i f j q ∧ SegTo wr w.heap.size 0 .u32 132 (cellsOf .u32 (List.replicate (xs.length + ys.length) 0)).toArray zs ∧ w1.grownBy wr (some w.heap.size)) (fun _ jv _ => xs.length - (intOf jv).toNat)
     case atStart => exact ⟨0, 0, zs, rfl, rfl, Nat.zero_le _, hin, hseg, hgr⟩
     case round =>
      clear hin hseg hgr zs
      obtain ⟨j, q, zs, rfl, rfl, hj, hin, hseg, hgr⟩ := hrel
      obtain ⟨cur', hs1, hs2, hs3⟩ := id hseg
      have hql := hin.carry
      by_cases hjx : j < xs.length
      · have hxr := hx1.grown hgr hoffx
        obtain ⟨ax, rfl, _, hcell⟩ := hxr.at_ hjx
        have hcx := hcell j hjx
        have hxl := limb_lt ox j
        have hcz := hs1.cell (j := i + j) (by rw [hin.len]; omega)
        have hfz := hs1.frozen (0 + (i + j))
        have hdl := limb_lt hin.ok (i + j)
        obtain ⟨d, hd⟩ : ∃ d, zs.getD (i + j) 0 = d := ⟨_, rfl⟩
        obtain ⟨x, hxd⟩ : ∃ x, xs.getD j 0 = x := ⟨_, rfl⟩
        rw [hd] at hcz hdl
        rw [hxd] at hcx hxl
        simp only [Nat.zero_add] at hcz hfz
        have hpl := limb_prod hxl hfl
        obtain ⟨p, hp⟩ : ∃ p, x * f = p := ⟨_, rfl⟩
        rw [hp] at hpl
        have hp' : (x : Int) * (f : Int) = (p : Int) := by rw [← hp, Int.natCast_mul]
        have HD := Lib.hid (And.intro hd (And.intro hxd hp))
        clear hd hxd hs1 hs2 hs3 hp hcell
        go_wp2
        go_roundw
        case rel =>
         refine ⟨j + 1, _, _, by go_num, by rw [limb_div (q + d + p) _ (by omega)], by omega, inner_step hin hjx hiy HD.out.1 hdl HD.out.2.1 hxl hfl (t := q + d + p) (by rw [HD.out.2.2]), ?_, ?_⟩
         · rw [limb_mod (q + d + p) _ (by omega)]
           exact hseg.set0 (j := i + j) (by rw [hin.len]; omega) _
         · exact grown_trans hgr (grown_store _ _ _ _)
        case measure => simp [intOf]; omega
      · have hje : j = xs.length := by omega
        subst hje
        have hcz := hs1.cell (j := i + xs.length) (by rw [hin.len]; omega)
        have hfz := hs1.frozen (0 + (i + xs.length))
        simp only [Nat.zero_add] at hcz hfz
        clear hs1 hs2 hs3
        go_wp2
        go_roundw
        case rel =>
         refine ⟨i + 1, _, by go_num, by omega, inner_end hin hiy HF.out, ?_, ?_⟩
         · exact hseg.set0 (j := i + xs.length) (by rw [hin.len]; omega) q
         · exact grown_trans hgr (grown_store _ _ _ _)
        case measure => simp [intOf]; omega
   · have hie : i = ys.length := by omega
     subst hie
     have hnum := hout.num
     rw [List.take_length] at hnum
     have htr := trim_any (some ⟨w.heap.size, 0, none⟩) (xs.length + ys.length) zs wr (by obtain ⟨cur', hs1, _⟩ := hseg; exact hs1.nums) (by rw [hout.len]; omega) (by rw [hout.len]; exact Nat.le_refl _)
     rw [hout.len] at htr
     have HT := Lib.hid htr
     have HN := Lib.hid hnum
     clear htr hnum
     go_wp2_with fail
     refine HT.out.mono ?_
     rintro e w4 ⟨rfl, k, rfl, hk, hz, hp⟩
     have HP := Lib.hid (And.intro hk (And.intro hz hp))
     clear hk hz hp
     go_wp2
     go_ret
     exact lims_of_trim ⟨k, rfl, HP.out⟩ (by obtain ⟨cur', hs1, _⟩ := hseg; exact hs1.nums) hout.ok (by rw [hout.len]; exact Nat.le_refl _) HN.out (hb1.trans (grown_below hgr (Nat.le_refl _) hb1.size))
def ordOf (a b : Nat) : Int := if a < b then -1 else if b < a then 1 else 0
def Drew (w w' : World) : Prop := ∃ n, w' = w.drewN n
theorem Drew.refl (w : World) : Drew w w := ⟨0, rfl⟩
theorem Drew.mk (w : World) (n : Nat) : Drew w (w.drewN n) := ⟨n, rfl⟩
theorem Drew.more {w w' : World} (h : Drew w w') (n : Nat) : Drew w (w'.drewN n) := by
  obtain ⟨m, rfl⟩ := h
  exact ⟨m + n, by rw [World.drewN_drewN]⟩
theorem Drew.below {w w' : World} (h : Drew w w') (B : Nat) : Below B w w' := by
  obtain ⟨m, rfl⟩ := h
  exact ⟨rfl, rfl, rfl, Nat.le_refl _, fun _ _ => rfl⟩
def IsOrd (w w' : World) (a b : Nat) (e : Ending) : Prop := Drew w w' ∧ e = .returned (.int .i64 (ordOf a b))
theorem ord_lt {a b : Nat} (h : a < b) : ordOf a b = -1 := by simp [ordOf, h]
theorem ord_gt {a b : Nat} (h : b < a) : ordOf a b = 1 := by simp [ordOf, h]; omega
theorem ord_eq {a b : Nat} (h : a = b) : ordOf a b = 0 := by simp [ordOf, h]
theorem shorter_lt {xs ys : List Nat} (hx : Lm.Ok B32 xs) (ty : Lm.Top ys) (h : xs.length < ys.length) : Lm.val B32 xs < Lm.val B32 ys := by
  have h1 := Lm.val_lt hx
  have h2 := Lm.val_ge (b := B32) (by omega) ty
  have h3 : B32 ^ xs.length ≤ B32 ^ (ys.length - 1) := Nat.pow_le_pow_right B32_pos (by omega)
  omega
def SameFrom (xs ys : List Nat) (k : Nat) : Prop := xs.drop k = ys.drop k
theorem same_down {xs ys : List Nat} {k d : Nat} (hl : xs.length = ys.length) (h0 : 0 < k) (hk : k ≤ xs.length) (h : SameFrom xs ys k) (hx : xs.getD (k - 1) 0 = d) (hy : ys.getD (k - 1) 0 = d) : SameFrom xs ys (k - 1) := by
  unfold SameFrom at *
  have hkx : k - 1 < xs.length := by omega
  have hky : k - 1 < ys.length := by omega
  rw [List.drop_eq_getElem_cons hkx, List.drop_eq_getElem_cons hky, show k - 1 + 1 = k from by omega, h]
  rw [List.getD_eq_getElem?_getD, List.getElem?_eq_getElem hkx] at hx
  rw [List.getD_eq_getElem?_getD, List.getElem?_eq_getElem hky] at hy
  simp at hx hy
  rw [hx, hy]
def IsFirst (xs ys : List Nat) (j : Nat) : Prop := j < xs.length ∧ j < ys.length ∧ xs.drop (j + 1) = ys.drop (j + 1)
theorem compare_any (A : Option Addr) (c : Nat) (xs : List Nat) (A' : Option Addr) (c' : Nat) (ys : List Nat) (w : World) (hx : Nums w .u32 A xs) (hy : Nums w .u32 A' ys)
    (ox : Lm.Ok B32 xs) (oy : Lm.Ok B32 ys) (tx : Lm.Top xs) (ty : Lm.Top ys) (hl : xs.length ≤ 1000000) :
    Calls Tryz.prog 114 #[.slice A xs.length c, .slice A' ys.length c'] w fun e w' => IsOrd w w' (Lm.val B32 xs) (Lm.val B32 ys) e := by
  by_cases h1 : xs.length < ys.length
  · have ho := ord_lt (shorter_lt ox ty h1)
    have HO := Lib.hid ho
    clear ho
    go_enter Tryz.func114, Tryz.ntmps114
    go_wp2
    go_ret
    exact ⟨.refl _, by rw [HO.out]; rfl⟩
  by_cases h2 : ys.length < xs.length
  · have ho := ord_gt (shorter_lt oy tx h2)
    have HO := Lib.hid ho
    clear ho
    go_enter Tryz.func114, Tryz.ntmps114
    go_wp2
    go_ret
    exact ⟨.refl _, by rw [HO.out]; rfl⟩
  have hln : ys.length = xs.length := by omega
  have HL := Lib.hid hln
  rw [hln]
  clear hln h1 h2
  go_enter Tryz.func114, Tryz.ntmps114
  go_wp2
  go_loopw [5] (fun iv wr => ∃ k : Nat, iv = .int .i64 ((k : Int) - 1) ∧ k ≤ xs.length ∧ SameFrom xs ys k ∧ ∃ n, wr = w.drewN n) (fun iv _ => (intOf iv + 1).toNat)
  case atStart => exact ⟨xs.length, rfl, Nat.le_refl _, by unfold SameFrom; rw [List.drop_length, ← HL.out, List.drop_length], 0, rfl⟩
  case round =>
   obtain ⟨k, rfl, hk, hs, n, rfl⟩ := hrel
   by_cases h0 : 0 < k
   · obtain ⟨ad, rfl, _, hcx⟩ := hx.at_ (j := k - 1) (by omega)
     obtain ⟨ad', rfl, _, hcy⟩ := hy.at_ (j := k - 1) (by rw [HL.out]; omega)
     have hdx := hcx (k - 1) (by omega)
     have hdy := hcy (k - 1) (by rw [HL.out]; omega)
     clear hcx hcy
     obtain ⟨d, hd⟩ : ∃ d, xs.getD (k - 1) 0 = d := ⟨_, rfl⟩
     obtain ⟨y, hyd⟩ : ∃ y, ys.getD (k - 1) 0 = y := ⟨_, rfl⟩
     rw [hd] at hdx
     rw [hyd] at hdy
     have HD := Lib.hid hd
     have HY := Lib.hid hyd
     clear hd hyd
     obtain ⟨j, hj⟩ : ∃ j, k = j + 1 := ⟨k - 1, by omega⟩
     subst hj
     simp only [Nat.add_sub_cancel] at hdx hdy HD HY
     rw [show (((j + 1 : Nat) : Int) - 1) = (j : Int) from by omega]
     have hord : IsFirst xs ys j := ⟨by omega, by rw [HL.out]; omega, hs⟩
     clear hs
     by_cases hlt : d < y
     · go_wp2
       go_quiet (fail)
       go_wp2
       go_ret
       exact ⟨(Drew.mk _ _).more _, by rw [ord_lt (Lm.val_lt_of_top ox j hord.1 hord.2.1 hord.2.2 (by rw [HD.out, HY.out]; exact hlt))]; rfl⟩
     · by_cases hgt : y < d
       · go_wp2
         go_quiet (fail)
         go_wp2
         go_quiet (fail)
         go_wp2
         go_ret
         exact ⟨((Drew.mk _ _).more _).more _, by rw [ord_gt (Lm.val_lt_of_top oy j hord.2.1 hord.1 hord.2.2.symm (by rw [HD.out, HY.out]; exact hgt))]; rfl⟩
       · have heq : d = y := by omega
         subst heq
         go_wp2
         go_quiet (fail)
         go_wp2
         go_quiet (fail)
         go_wp2
         go_roundw
         case rel => exact ⟨j, rfl, by omega, same_down HL.out.symm (by omega) (k := j + 1) (by omega) hord.2.2 HD.out HY.out, _, rfl⟩
         case measure => simp [intOf]
   · obtain rfl : k = 0 := by omega
     have he : xs = ys := by simpa [SameFrom] using hs
     have HE := Lib.hid he
     clear he hs
     go_wp2
     go_ret
     exact ⟨.mk _ _, by rw [ord_eq (by rw [HE.out])]; rfl⟩
end Go.Proofs.YtpgbnegppehckaaGreat
namespace Go.Proofs.YtpgbnegppehckaaGreat.Qx
open Go.RowKit
structure Low (n d : Int) : Prop where
  pos : 0 < d
  cop : Int.gcd n d = 1
def num (n d : Int) : Int := (if d < 0 then -n else n).tdiv (Int.gcd n d : Nat)
def den (n d : Int) : Int := (if d < 0 then -d else d).tdiv (Int.gcd n d : Nat)
theorem gcd_pos {n d : Int} (h : d ≠ 0) : 0 < Int.gcd n d := Nat.pos_of_ne_zero fun e => h (Int.gcd_eq_zero_iff.1 e).2
theorem num_mul {n d : Int} : num n d * (Int.gcd n d : Nat) = if d < 0 then -n else n := by
  unfold num
  refine Int.tdiv_mul_cancel ?_
  split
  · exact Int.dvd_neg.2 (Int.gcd_dvd_left ..)
  · exact Int.gcd_dvd_left ..
theorem den_mul {n d : Int} : den n d * (Int.gcd n d : Nat) = if d < 0 then -d else d := by
  unfold den
  refine Int.tdiv_mul_cancel ?_
  split
  · exact Int.dvd_neg.2 (Int.gcd_dvd_right ..)
  · exact Int.gcd_dvd_right ..
theorem low_of {n d : Int} (h : d ≠ 0) : Low (num n d) (den n d) := by
  have hg := gcd_pos (n := n) h
  have h1 := num_mul (n := n) (d := d)
  have h2 := den_mul (n := n) (d := d)
  have hp : 0 < (if d < 0 then -d else d) := by split <;> omega
  refine ⟨?_, ?_⟩
  · rw [← h2] at hp
    exact Int.pos_of_mul_pos_left hp (by omega)
  · have hgg : Int.gcd (num n d * (Int.gcd n d : Nat)) (den n d * (Int.gcd n d : Nat)) = Int.gcd n d := by
      rw [h1, h2]
      split
      · rw [Int.neg_gcd, Int.gcd_neg]
      · rfl
    rw [Int.gcd_mul_right, Int.natAbs_natCast] at hgg
    have := Nat.eq_of_mul_eq_mul_right hg (hgg.trans (Nat.one_mul _).symm)
    exact this
theorem cross {n d : Int} (h : d ≠ 0) : num n d * d = n * den n d := by
  have hg := gcd_pos (n := n) h
  have h1 := num_mul (n := n) (d := d)
  have h2 := den_mul (n := n) (d := d)
  have hgi : ((Int.gcd n d : Nat) : Int) ≠ 0 := by omega
  generalize ((Int.gcd n d : Nat) : Int) = g at *
  refine Int.eq_of_mul_eq_mul_right hgi ?_
  by_cases hd : d < 0
  · rw [if_pos hd] at h1 h2
    grind
  · rw [if_neg hd] at h1 h2
    grind
theorem dvd_of {a b c : Int} (h : a ∣ b * c) (hc : Int.gcd a b = 1) : a ∣ c := by
  have h1 : a.natAbs ∣ b.natAbs * c.natAbs := by rw [← Int.natAbs_mul]; exact Int.natAbs_dvd_natAbs.2 h
  have h2 : Nat.Coprime a.natAbs b.natAbs := hc
  exact Int.natAbs_dvd_natAbs.1 (h2.dvd_of_dvd_mul_left h1)
theorem uniq {n d m e : Int} (h : Low n d) (k : Low m e) (hx : n * e = m * d) : n = m ∧ d = e := by
  have h1 : d ∣ n * e := by rw [hx]; exact Int.dvd_mul_left ..
  have h2 : d ∣ e := dvd_of h1 (by rw [Int.gcd_comm]; exact h.cop)
  have h3 : e ∣ m * d := by rw [← hx]; exact Int.dvd_mul_left ..
  have h4 : e ∣ d := dvd_of h3 (by rw [Int.gcd_comm]; exact k.cop)
  have h5 : d = e := Int.dvd_antisymm (Int.le_of_lt h.pos) (Int.le_of_lt k.pos) h2 h4
  subst h5
  exact ⟨Int.eq_of_mul_eq_mul_right (by have := h.pos; omega) hx, rfl⟩
theorem low_num {n d : Int} (h : Low n d) : num n d = n ∧ den n d = d :=
  uniq (low_of (by have := h.pos; omega)) h (cross (by have := h.pos; omega))
theorem sign_num {n d : Int} (h : 0 < d) : (num n d).sign = n.sign := by
  have hg := gcd_pos (n := n) (d := d) (by omega)
  have h1 := num_mul (n := n) (d := d)
  rw [if_neg (by omega)] at h1
  have h2 := congrArg Int.sign h1
  rw [Int.sign_mul, Int.sign_eq_one_of_pos (show (0 : Int) < ((Int.gcd n d : Nat) : Int) by omega), Int.mul_one] at h2
  exact h2
end Go.Proofs.YtpgbnegppehckaaGreat.Qx
namespace Go.Proofs.YtpgbnegppehckaaGreat
open Go.RowKit
def Two (w : World) (h : Nat) (a b : Value) : Prop := w.cell? ⟨h, 0, none⟩ = some a ∧ w.cell? ⟨h, 1, none⟩ = some b
def Res (w : World) (r : Nat) : Prop := Two w r (.bool false) (.slice none 0 0) ∧ w.frozen? ⟨r, 0, none⟩ = false ∧ w.frozen? ⟨r, 1, none⟩ = false
theorem Two.step {W0 W w1 : World} {h : Nat} {a b : Value} (t : Two W0 h a b) (hb : Below W.heap.size W w1) (hh : W.heap = W0.heap) (hl : h < W0.heap.size) : Two w1 h a b := by
  have e : ∀ p, W.cell? p = W0.cell? p := fun p => by simp [World.cell?, hh]
  have hl' : h < W.heap.size := by rw [hh]; exact hl
  exact ⟨((hb.cell (p := ⟨h, 0, none⟩) hl').trans (e _)).trans t.1, ((hb.cell (p := ⟨h, 1, none⟩) hl').trans (e _)).trans t.2⟩
theorem Two.far {w : World} {h r : Nat} {a b : Value} (t : Two w h a b) (hne : r ≠ h) (u v : Value) : Two ((w.setCell ⟨r, 0, none⟩ u).setCell ⟨r, 1, none⟩ v) h a b :=
  ⟨(World.cell?_setCell_other _ _ _ _ (fun e => hne (by injection e))).trans ((World.cell?_setCell_other _ _ _ _ (fun e => hne (by injection e))).trans t.1),
    (World.cell?_setCell_other _ _ _ _ (fun e => hne (by injection e))).trans ((World.cell?_setCell_other _ _ _ _ (fun e => hne (by injection e))).trans t.2)⟩
theorem Res.step {W0 W w1 : World} {r : Nat} (t : Res W0 r) (hb : Below W.heap.size W w1) (hh : W.heap = W0.heap) (hl : r < W0.heap.size) : Res w1 r := by
  have e : ∀ p, W.frozen? p = W0.frozen? p := fun p => by simp [World.frozen?, hh]
  have hl' : r < W.heap.size := by rw [hh]; exact hl
  exact ⟨t.1.step hb hh hl, ((hb.frozen (p := ⟨r, 0, none⟩) hl').trans (e _)).trans t.2.1, ((hb.frozen (p := ⟨r, 1, none⟩) hl').trans (e _)).trans t.2.2⟩
theorem Two.new (w : World) (a b : Value) (t : TypeId) : Two (w.alloc (.cells #[a, b] t)) w.heap.size a b := cell2 w a b t
theorem Two.alloc {w : World} {h : Nat} {a b : Value} (t : Two w h a b) (hl : h < w.heap.size) (o : Obj) : Two (w.alloc o) h a b :=
  ⟨(World.cell?_alloc_lt w o ⟨h, 0, none⟩ hl).trans t.1, (World.cell?_alloc_lt w o ⟨h, 1, none⟩ hl).trans t.2⟩
theorem Res.new (w : World) (t : TypeId) : Res (w.alloc (.cells #[.bool false, .slice none 0 0] t)) w.heap.size := by
  refine ⟨cell2 w _ _ t, ?_, ?_⟩ <;> go_simp
theorem size_alloc (w : World) (o : Obj) : (w.alloc o).heap.size = w.heap.size + 1 := by simp
theorem res_stored {w w2 : World} {r : Nat} {s : Bool} {A : Option Addr} {c : Nat} {zs : List Nat} {z : Int} (hk : Res w2 r) (hs : SignOf s z) (hl : Limbs w2 A c zs z.natAbs)
    (hb : Below w.heap.size w w2) (hr : w.heap.size ≤ r) :
    IsInt w ((w2.setCell ⟨r, 0, none⟩ (.bool s)).setCell ⟨r, 1, none⟩ (.slice A zs.length c)) z (.returned (.agg #[.bool s, .slice A zs.length c])) :=
  int_stored (h := r) (r := r) ⟨hk.1.1, hk.1.2, hk.1.1, hk.1.2, hk.2.1, hk.2.2⟩ hs hl hb hr
def begun2 (w : World) (a b c d : Value) (t : TypeId) : World := ((w.alloc (.cells #[a, b] t)).alloc (.cells #[c, d] t)).alloc (.cells #[.bool false, .slice none 0 0] t)
theorem begun2_size (w : World) (a b c d : Value) (t : TypeId) : (begun2 w a b c d t).heap.size = w.heap.size + 3 := by simp [begun2]
theorem begun2_below (w : World) (a b c d : Value) (t : TypeId) : Below w.heap.size w (begun2 w a b c d t) :=
  (((Below.refl _ _).alloc (Nat.le_refl _) _).alloc (by simp) _).alloc (by simp; omega) _
theorem begun2_x (w : World) (a b c d : Value) (t : TypeId) : Two (begun2 w a b c d t) w.heap.size a b := ((Two.new w a b t).alloc (by simp) _).alloc (by simp; omega) _
theorem begun2_y (w : World) (a b c d : Value) (t : TypeId) : Two (begun2 w a b c d t) (w.heap.size + 1) c d := by
  have h := (Two.new (w.alloc (.cells #[a, b] t)) c d t).alloc (by simp) (.cells #[.bool false, .slice none 0 0] t)
  rw [size_alloc] at h
  exact h
theorem begun2_r (w : World) (a b c d : Value) (t : TypeId) : Res (begun2 w a b c d t) (w.heap.size + 2) := by
  have h := Res.new ((w.alloc (.cells #[a, b] t)).alloc (.cells #[c, d] t)) t
  rw [size_alloc, size_alloc] at h
  exact h
theorem add_len {w : World} {A : Option Addr} {c : Nat} {zs xs ys : List Nat} (h : Limbs w A c zs (Lm.val B32 xs + Lm.val B32 ys)) (ox : Lm.Ok B32 xs) (oy : Lm.Ok B32 ys) (hl1 : xs.length ≤ 900000) (hl2 : ys.length ≤ 900000) : zs.length ≤ 1000000 := by
  rcases Nat.le_total ys.length xs.length with hle | hle
  · have := h.len (sum_fits ox oy hle)
    omega
  · have := h.len (m := ys.length + 1) (by rw [Nat.add_comm]; exact sum_fits oy ox hle)
    omega
theorem add_same {x y : Int} {b : Bool} (hx : SignOf b x) (hy : SignOf b y) : ofSign b (x.natAbs + y.natAbs) = x + y := by
  unfold SignOf at hx hy
  unfold ofSign
  by_cases h : x < 0 <;> by_cases h' : y < 0 <;> simp [h, h'] at hx hy <;> subst hx <;> simp_all <;> omega
theorem begun_then {w W0 W w' : World} (h1 : Below w.heap.size w W0) (h2 : Below W.heap.size W w') (hh : W.heap = W0.heap) (ho : W.os = W0.os) (ht : W.tape = W0.tape) (hu : W.output = W0.output) : Below w.heap.size w w' :=
  below_then ⟨ho.trans h1.os, ht.trans h1.tape, hu.trans h1.output, by rw [hh]; exact h1.size, fun k hk => by rw [hh]; exact h1.block k hk⟩ h2
theorem ord_nonneg {a b : Nat} (h : b ≤ a) : 0 ≤ ordOf a b := by
  unfold ordOf
  rw [if_neg (by omega)]
  split <;> omega
theorem compare_ge (A : Option Addr) (c : Nat) (xs : List Nat) (A' : Option Addr) (c' : Nat) (ys : List Nat) (w : World) (hx : Nums w .u32 A xs) (hy : Nums w .u32 A' ys)
    (ox : Lm.Ok B32 xs) (oy : Lm.Ok B32 ys) (tx : Lm.Top xs) (ty : Lm.Top ys) (hl : xs.length ≤ 1000000) (h : Lm.val B32 ys ≤ Lm.val B32 xs) :
    Calls Tryz.prog 114 #[.slice A xs.length c, .slice A' ys.length c'] w fun e w' => Drew w w' ∧ ∃ k : Int, 0 ≤ k ∧ e = .returned (.int .i64 k) :=
  (compare_any A c xs A' c' ys w hx hy ox oy tx ty hl).mono fun _ _ ⟨hd, he⟩ => ⟨hd, _, ord_nonneg h, he⟩
theorem compare_lt (A : Option Addr) (c : Nat) (xs : List Nat) (A' : Option Addr) (c' : Nat) (ys : List Nat) (w : World) (hx : Nums w .u32 A xs) (hy : Nums w .u32 A' ys)
    (ox : Lm.Ok B32 xs) (oy : Lm.Ok B32 ys) (tx : Lm.Top xs) (ty : Lm.Top ys) (hl : xs.length ≤ 1000000) (h : Lm.val B32 xs < Lm.val B32 ys) :
    Calls Tryz.prog 114 #[.slice A xs.length c, .slice A' ys.length c'] w fun e w' => Drew w w' ∧ e = .returned (.int .i64 (-1)) :=
  (compare_any A c xs A' c' ys w hx hy ox oy tx ty hl).mono fun _ _ ⟨hd, he⟩ => ⟨hd, by rw [he, ord_lt h]⟩
theorem add_parts {x y : Int} {b1 b2 : Bool} (hx : SignOf b1 x) (hy : SignOf b2 y) (hne : (b1 == b2) = false) (h : y.natAbs ≤ x.natAbs) : ofSign b1 (x.natAbs - y.natAbs) = x + y := by
  unfold SignOf at hx hy
  unfold ofSign
  by_cases h1 : x < 0 <;> by_cases h2 : y < 0 <;> simp [h1, h2] at hx hy <;> subst hx <;> subst hy <;> simp_all <;> omega
theorem Limbs.shorter {w : World} {A A' : Option Addr} {c c' n n' : Nat} {zs zs' : List Nat} (h : Limbs w A c zs n) (h' : Limbs w A' c' zs' n') (hle : n' ≤ n) : zs'.length ≤ zs.length :=
  Lm.len_of_val B32_one h.2.2.1 h'.2.2.2.1 (by rw [h.2.2.2.2, h'.2.2.2.2]; exact hle)
theorem sub_len {w : World} {A : Option Addr} {c : Nat} {zs xs : List Nat} {m : Nat} (h : Limbs w A c zs (Lm.val B32 xs - m)) (ox : Lm.Ok B32 xs) (hl1 : xs.length ≤ 900000) : zs.length ≤ 1000000 := by
  have := h.len (m := xs.length) (Nat.lt_of_le_of_lt (Nat.sub_le _ _) (Lm.val_lt ox))
  omega
theorem add_alike (b : Bool) (A1 : Option Addr) (c1 : Nat) (zs1 : List Nat) (A2 : Option Addr) (c2 : Nat) (zs2 : List Nat) (x y : Int) (w : World) (hs1 : SignOf b x) (hs2 : SignOf b y)
    (h1 : Limbs w A1 c1 zs1 x.natAbs) (h2 : Limbs w A2 c2 zs2 y.natAbs) (hl1 : zs1.length ≤ 900000) (hl2 : zs2.length ≤ 900000) :
    Calls Tryz.prog 97 #[.agg #[.bool b, .slice A1 zs1.length c1], .agg #[.bool b, .slice A2 zs2.length c2]] w fun e w' => IsInt w w' (x + y) e := by
  have hbb := begun2_below w (.bool b) (.slice A1 zs1.length c1) (.bool b) (.slice A2 zs2.length c2) 31
  have hx0 := begun2_x w (.bool b) (.slice A1 zs1.length c1) (.bool b) (.slice A2 zs2.length c2) 31
  have hy0 := begun2_y w (.bool b) (.slice A1 zs1.length c1) (.bool b) (.slice A2 zs2.length c2) 31
  have hr0 := begun2_r w (.bool b) (.slice A1 zs1.length c1) (.bool b) (.slice A2 zs2.length c2) 31
  have hsz := begun2_size w (.bool b) (.slice A1 zs1.length c1) (.bool b) (.slice A2 zs2.length c2) 31
  have hn1 := h1.2.1.below hbb
  have hn2 := h2.2.1.below hbb
  have H := Lib.hid (And.intro hbb (And.intro hx0 (And.intro hy0 (And.intro hr0 hsz))))
  clear hbb hx0 hy0 hr0 hsz
  go_enter Tryz.func97, Tryz.ntmps97
  go_wp2_with fail
  go_region_held3 (fun w' => w'.cell? ⟨w.heap.size, 0, none⟩ = some (.bool b) ∧ w'.cell? ⟨w.heap.size, 1, none⟩ = some (.slice A1 zs1.length c1) ∧ w'.cell? ⟨w.heap.size + 1, 0, none⟩ = some (.bool b) ∧ w'.cell? ⟨w.heap.size + 1, 1, none⟩ = some (.slice A2 zs2.length c2))
    (((try dsimp only); (repeat' apply And.intro) <;> (first | (with_reducible assumption) | go_keep)))
    ((first | (go_at_call 131; refine (sum_any A1 c1 zs1 A2 c2 zs2 _ (by exact hn1) (by exact hn2) h1.2.2.1 h2.2.2.1 hl1 hl2).mono ?_; rintro e w1 ⟨A3, c3, zs3, rfl, hl3, hb1⟩; have k1x := H.out.2.1.step hb1 rfl (by rw [H.out.2.2.2.2]; omega); have k1y := H.out.2.2.1.step hb1 rfl (by rw [H.out.2.2.2.2]; omega); have k1r := H.out.2.2.2.1.step hb1 rfl (by rw [H.out.2.2.2.2]; omega); obtain ⟨px0, px1⟩ := id k1x; obtain ⟨py0, py1⟩ := id k1y; have hle3 := add_len hl3 h1.2.2.1 h2.2.2.1 hl1 hl2; have hs1' : w.heap.size + 3 ≤ w1.heap.size := Nat.le_trans (Nat.le_of_eq H.out.2.2.2.2.symm) hb1.size) | (go_at_call 112; refine (signed_to b A3 c3 zs3 (x + y) _ (by exact hl3.2.1) hl3.2.2.1 hle3 hl3.1 (by rw [hl3.2.2.2.2, h1.2.2.2.2, h2.2.2.2.2]; exact add_same hs1 hs2)).mono ?_; rintro e w2 ⟨v2, rfl, ⟨b4, A4, c4, zs4, rfl, hsg4, hl4⟩, hb2⟩; have k2x := k1x.step hb2 rfl (by omega); have k2y := k1y.step hb2 rfl (by omega); have k2r := k1r.step hb2 rfl (by omega); obtain ⟨hx0, hx1⟩ := id k2x; obtain ⟨hy0, hy1⟩ := id k2y; obtain ⟨⟨hr0, hr1⟩, hf0, hf1⟩ := id k2r; obtain ⟨qx0, qx1⟩ := k2x.far (r := w.heap.size + 1 + 1) (by omega) (.bool b4) (.slice A4 zs4.length c4); obtain ⟨qy0, qy1⟩ := k2y.far (r := w.heap.size + 1 + 1) (by omega) (.bool b4) (.slice A4 zs4.length c4))))
  go_wp2
  refine bodyPost_ret (v := .agg #[.bool b4, .slice A4 zs4.length c4]) (by simp [results, Tryz.results97, go_sem, hr0, hr1]) rfl ?_
  exact res_stored k2r hsg4 hl4 (below_then (below_then H.out.1.drew hb1) hb2) (by omega)
theorem add_ge (b1 b2 : Bool) (A1 : Option Addr) (c1 : Nat) (zs1 : List Nat) (A2 : Option Addr) (c2 : Nat) (zs2 : List Nat) (x y : Int) (w : World) (hs1 : SignOf b1 x) (hs2 : SignOf b2 y) (hne : (b1 == b2) = false) (hge : y.natAbs ≤ x.natAbs)
    (h1 : Limbs w A1 c1 zs1 x.natAbs) (h2 : Limbs w A2 c2 zs2 y.natAbs) (hl1 : zs1.length ≤ 900000) (_hl2 : zs2.length ≤ 900000) :
    Calls Tryz.prog 97 #[.agg #[.bool b1, .slice A1 zs1.length c1], .agg #[.bool b2, .slice A2 zs2.length c2]] w fun e w' => IsInt w w' (x + y) e := by
  have hbb := begun2_below w (.bool b1) (.slice A1 zs1.length c1) (.bool b2) (.slice A2 zs2.length c2) 31
  have hx0 := begun2_x w (.bool b1) (.slice A1 zs1.length c1) (.bool b2) (.slice A2 zs2.length c2) 31
  have hy0 := begun2_y w (.bool b1) (.slice A1 zs1.length c1) (.bool b2) (.slice A2 zs2.length c2) 31
  have hr0 := begun2_r w (.bool b1) (.slice A1 zs1.length c1) (.bool b2) (.slice A2 zs2.length c2) 31
  have hsz := begun2_size w (.bool b1) (.slice A1 zs1.length c1) (.bool b2) (.slice A2 zs2.length c2) 31
  have hn1 := h1.2.1.below hbb
  have hn2 := h2.2.1.below hbb
  have H := Lib.hid (And.intro hbb (And.intro hx0 (And.intro hy0 (And.intro hr0 hsz))))
  clear hbb hx0 hy0 hr0 hsz
  go_enter Tryz.func97, Tryz.ntmps97
  go_wp2_with fail
  refine (compare_ge A1 c1 zs1 A2 c2 zs2 _ (by exact hn1) (by exact hn2) h1.2.2.1 h2.2.2.1 h1.2.2.2.1 h2.2.2.2.1 (by omega) (by rw [h1.2.2.2.2, h2.2.2.2.2]; exact hge)).mono ?_
  rintro e w' ⟨⟨n, rfl⟩, k, hk, rfl⟩
  go_wp2_with fail
  go_region_held3 (fun w' => w'.cell? ⟨w.heap.size, 0, none⟩ = some (.bool b1) ∧ w'.cell? ⟨w.heap.size, 1, none⟩ = some (.slice A1 zs1.length c1) ∧ w'.cell? ⟨w.heap.size + 1, 0, none⟩ = some (.bool b2) ∧ w'.cell? ⟨w.heap.size + 1, 1, none⟩ = some (.slice A2 zs2.length c2))
    (((try dsimp only); (repeat' apply And.intro) <;> (first | (with_reducible assumption) | go_keep)))
    ((first | (go_at_call 132; refine (difference_any A1 c1 zs1 A2 c2 zs2 _ (by exact hn1) (by exact hn2) h1.2.2.1 h2.2.2.1 hl1 (h1.shorter h2 hge) (by rw [h1.2.2.2.2, h2.2.2.2.2]; exact hge)).mono ?_; rintro e w1 ⟨A3, c3, zs3, rfl, hl3, hb1⟩; have k1x := H.out.2.1.step hb1 rfl (by rw [H.out.2.2.2.2]; omega); have k1y := H.out.2.2.1.step hb1 rfl (by rw [H.out.2.2.2.2]; omega); have k1r := H.out.2.2.2.1.step hb1 rfl (by rw [H.out.2.2.2.2]; omega); obtain ⟨px0, px1⟩ := id k1x; obtain ⟨py0, py1⟩ := id k1y; have hle3 := sub_len hl3 h1.2.2.1 hl1; have hs1' : w.heap.size + 3 ≤ w1.heap.size := Nat.le_trans (Nat.le_of_eq H.out.2.2.2.2.symm) hb1.size) | (go_at_call 112; refine (signed_to b1 A3 c3 zs3 (x + y) _ (by exact hl3.2.1) hl3.2.2.1 hle3 hl3.1 (by rw [hl3.2.2.2.2, h1.2.2.2.2, h2.2.2.2.2]; exact add_parts hs1 hs2 hne hge)).mono ?_; rintro e w2 ⟨v2, rfl, ⟨b4, A4, c4, zs4, rfl, hsg4, hl4⟩, hb2⟩; have k2x := k1x.step hb2 rfl (by omega); have k2y := k1y.step hb2 rfl (by omega); have k2r := k1r.step hb2 rfl (by omega); obtain ⟨hx0, hx1⟩ := id k2x; obtain ⟨hy0, hy1⟩ := id k2y; obtain ⟨⟨hr0, hr1⟩, hf0, hf1⟩ := id k2r; obtain ⟨qx0, qx1⟩ := k2x.far (r := w.heap.size + 1 + 1) (by omega) (.bool b4) (.slice A4 zs4.length c4); obtain ⟨qy0, qy1⟩ := k2y.far (r := w.heap.size + 1 + 1) (by omega) (.bool b4) (.slice A4 zs4.length c4))))
  go_wp2
  refine bodyPost_ret (v := .agg #[.bool b4, .slice A4 zs4.length c4]) (by simp [results, Tryz.results97, go_sem, hr0, hr1]) rfl ?_
  exact res_stored k2r hsg4 hl4 (below_then (begun_then H.out.1 hb1 rfl rfl rfl rfl) hb2) (by omega)
theorem add_lt (b1 b2 : Bool) (A1 : Option Addr) (c1 : Nat) (zs1 : List Nat) (A2 : Option Addr) (c2 : Nat) (zs2 : List Nat) (x y : Int) (w : World) (hs1 : SignOf b1 x) (hs2 : SignOf b2 y) (hne : (b1 == b2) = false) (hlt : x.natAbs < y.natAbs)
    (h1 : Limbs w A1 c1 zs1 x.natAbs) (h2 : Limbs w A2 c2 zs2 y.natAbs) (hl1 : zs1.length ≤ 900000) (hl2 : zs2.length ≤ 900000) :
    Calls Tryz.prog 97 #[.agg #[.bool b1, .slice A1 zs1.length c1], .agg #[.bool b2, .slice A2 zs2.length c2]] w fun e w' => IsInt w w' (x + y) e := by
  have hbb := begun2_below w (.bool b1) (.slice A1 zs1.length c1) (.bool b2) (.slice A2 zs2.length c2) 31
  have hx0 := begun2_x w (.bool b1) (.slice A1 zs1.length c1) (.bool b2) (.slice A2 zs2.length c2) 31
  have hy0 := begun2_y w (.bool b1) (.slice A1 zs1.length c1) (.bool b2) (.slice A2 zs2.length c2) 31
  have hr0 := begun2_r w (.bool b1) (.slice A1 zs1.length c1) (.bool b2) (.slice A2 zs2.length c2) 31
  have hsz := begun2_size w (.bool b1) (.slice A1 zs1.length c1) (.bool b2) (.slice A2 zs2.length c2) 31
  have hn1 := h1.2.1.below hbb
  have hn2 := h2.2.1.below hbb
  have H := Lib.hid (And.intro hbb (And.intro hx0 (And.intro hy0 (And.intro hr0 hsz))))
  clear hbb hx0 hy0 hr0 hsz
  go_enter Tryz.func97, Tryz.ntmps97
  go_wp2_with fail
  refine (compare_lt A1 c1 zs1 A2 c2 zs2 _ (by exact hn1) (by exact hn2) h1.2.2.1 h2.2.2.1 h1.2.2.2.1 h2.2.2.2.1 (by omega) (by rw [h1.2.2.2.2, h2.2.2.2.2]; exact hlt)).mono ?_
  rintro e w' ⟨⟨n, rfl⟩, rfl⟩
  go_wp2_with fail
  go_region_held3 (fun w' => w'.cell? ⟨w.heap.size, 0, none⟩ = some (.bool b1) ∧ w'.cell? ⟨w.heap.size, 1, none⟩ = some (.slice A1 zs1.length c1) ∧ w'.cell? ⟨w.heap.size + 1, 0, none⟩ = some (.bool b2) ∧ w'.cell? ⟨w.heap.size + 1, 1, none⟩ = some (.slice A2 zs2.length c2))
    (((try dsimp only); (repeat' apply And.intro) <;> (first | (with_reducible assumption) | go_keep)))
    ((first | (go_at_call 132; refine (difference_any A2 c2 zs2 A1 c1 zs1 _ (by exact hn2) (by exact hn1) h2.2.2.1 h1.2.2.1 hl2 (h2.shorter h1 (Nat.le_of_lt hlt)) (by rw [h1.2.2.2.2, h2.2.2.2.2]; exact Nat.le_of_lt hlt)).mono ?_; rintro e w1 ⟨A3, c3, zs3, rfl, hl3, hb1⟩; have k1x := H.out.2.1.step hb1 rfl (by rw [H.out.2.2.2.2]; omega); have k1y := H.out.2.2.1.step hb1 rfl (by rw [H.out.2.2.2.2]; omega); have k1r := H.out.2.2.2.1.step hb1 rfl (by rw [H.out.2.2.2.2]; omega); obtain ⟨px0, px1⟩ := id k1x; obtain ⟨py0, py1⟩ := id k1y; have hle3 := sub_len hl3 h2.2.2.1 hl2; have hs1' : w.heap.size + 3 ≤ w1.heap.size := Nat.le_trans (Nat.le_of_eq H.out.2.2.2.2.symm) hb1.size) | (go_at_call 112; refine (signed_to b2 A3 c3 zs3 (x + y) _ (by exact hl3.2.1) hl3.2.2.1 hle3 hl3.1 (by rw [hl3.2.2.2.2, h1.2.2.2.2, h2.2.2.2.2]; rw [Int.add_comm]; exact add_parts hs2 hs1 (by rw [← hne]; cases b1 <;> cases b2 <;> rfl) (Nat.le_of_lt hlt))).mono ?_; rintro e w2 ⟨v2, rfl, ⟨b4, A4, c4, zs4, rfl, hsg4, hl4⟩, hb2⟩; have k2x := k1x.step hb2 rfl (by omega); have k2y := k1y.step hb2 rfl (by omega); have k2r := k1r.step hb2 rfl (by omega); obtain ⟨hx0, hx1⟩ := id k2x; obtain ⟨hy0, hy1⟩ := id k2y; obtain ⟨⟨hr0, hr1⟩, hf0, hf1⟩ := id k2r; obtain ⟨qx0, qx1⟩ := k2x.far (r := w.heap.size + 1 + 1) (by omega) (.bool b4) (.slice A4 zs4.length c4); obtain ⟨qy0, qy1⟩ := k2y.far (r := w.heap.size + 1 + 1) (by omega) (.bool b4) (.slice A4 zs4.length c4))))
  go_wp2
  refine bodyPost_ret (v := .agg #[.bool b4, .slice A4 zs4.length c4]) (by simp [results, Tryz.results97, go_sem, hr0, hr1]) rfl ?_
  exact res_stored k2r hsg4 hl4 (below_then (begun_then H.out.1 hb1 rfl rfl rfl rfl) hb2) (by omega)
theorem Add_any (v1 v2 : Value) (x y : Int) (m : Nat) (w : World) (h1 : IntAt w v1 x) (h2 : IntAt w v2 y) (hm : m ≤ 900000) (hx : x.natAbs < B32 ^ m) (hy : y.natAbs < B32 ^ m) :
    Calls Tryz.prog 97 #[v1, v2] w fun e w' => IsInt w w' (x + y) e := by
  obtain ⟨b1, A1, c1, zs1, rfl, hs1, hl1⟩ := h1
  obtain ⟨b2, A2, c2, zs2, rfl, hs2, hl2⟩ := h2
  have k1 := Nat.le_trans (hl1.len hx) hm
  have k2 := Nat.le_trans (hl2.len hy) hm
  rcases hb : (b1 == b2) with _ | _
  · rcases Nat.lt_or_ge x.natAbs y.natAbs with h | h
    · exact add_lt b1 b2 A1 c1 zs1 A2 c2 zs2 x y w hs1 hs2 hb h hl1 hl2 k1 k2
    · exact add_ge b1 b2 A1 c1 zs1 A2 c2 zs2 x y w hs1 hs2 hb h hl1 hl2 k1 k2
  · have e : b1 = b2 := by simpa using hb
    subst e
    exact add_alike b1 A1 c1 zs1 A2 c2 zs2 x y w hs1 hs2 hl1 hl2 k1 k2
theorem mul_len {w : World} {A : Option Addr} {c : Nat} {zs xs ys : List Nat} (h : Limbs w A c zs (Lm.val B32 xs * Lm.val B32 ys)) (ox : Lm.Ok B32 xs) (oy : Lm.Ok B32 ys) (hl1 : xs.length ≤ 400000) (hl2 : ys.length ≤ 400000) : zs.length ≤ 1000000 := by
  have := h.len (m := xs.length + ys.length) (by rw [Nat.pow_add]; exact Nat.mul_lt_mul'' (Lm.val_lt ox) (Lm.val_lt oy))
  omega
theorem mul_parts {x y : Int} {b1 b2 b3 : Bool} (hx : SignOf b1 x) (hy : SignOf b2 y) (h : (b1 != b2) = b3) : ofSign b3 (x.natAbs * y.natAbs) = x * y := by
  unfold SignOf at hx hy
  subst hx
  subst hy
  subst h
  unfold ofSign
  rw [← Int.natAbs_mul]
  by_cases h1 : x < 0 <;> by_cases h2 : y < 0
  · have h3 := Int.mul_pos_of_neg_of_neg h1 h2
    simp [h1, h2]
    omega
  · have h3 := Int.mul_nonpos_of_nonpos_of_nonneg (Int.le_of_lt h1) (Int.not_lt.1 h2)
    simp [h1, h2]
    omega
  · have h3 := Int.mul_nonpos_of_nonneg_of_nonpos (Int.not_lt.1 h1) (Int.le_of_lt h2)
    simp [h1, h2]
    omega
  · have h3 := Int.mul_nonneg (Int.not_lt.1 h1) (Int.not_lt.1 h2)
    simp [h1, h2]
    omega
theorem product_small (A : Option Addr) (c : Nat) (xs : List Nat) (A' : Option Addr) (c' : Nat) (ys : List Nat) (w : World) (hx : Nums w .u32 A xs) (hy : Nums w .u32 A' ys)
    (ox : Lm.Ok B32 xs) (oy : Lm.Ok B32 ys) (hl : xs.length ≤ 400000) (hl' : ys.length ≤ 400000) (hsm : xs.length < 40 ∨ ys.length < 40) :
    Calls Tryz.prog 123 #[.slice A xs.length c, .slice A' ys.length c'] w fun e w' => IsLims w w' (Lm.val B32 xs * Lm.val B32 ys) e := by
  by_cases h : xs.length < ys.length
  · have h40 : xs.length < 40 := by omega
    have hr := rows_any A' c' ys A c xs w hy hx oy ox hl' hl
    rw [Nat.mul_comm] at hr
    have HR := Lib.hid hr
    clear hr hsm
    go_enter Tryz.func123, Tryz.ntmps123
    go_wp2_with fail
    refine HR.out.mono ?_
    rintro e w' ⟨A3, c3, zs3, rfl, hl3, hb⟩
    go_wp2
    go_ret
    exact ⟨A3, c3, zs3, rfl, hl3, hb⟩
  · have h40 : ys.length < 40 := by omega
    have hr := rows_any A c xs A' c' ys w hx hy ox oy hl hl'
    have HR := Lib.hid hr
    clear hr hsm
    go_enter Tryz.func123, Tryz.ntmps123
    go_wp2_with fail
    refine HR.out.mono ?_
    rintro e w' ⟨A3, c3, zs3, rfl, hl3, hb⟩
    go_wp2
    go_ret
    exact ⟨A3, c3, zs3, rfl, hl3, hb⟩
theorem mul_false_false (A1 : Option Addr) (c1 : Nat) (zs1 : List Nat) (A2 : Option Addr) (c2 : Nat) (zs2 : List Nat) (x y : Int) (w : World) (hs1 : SignOf false x) (hs2 : SignOf false y) (hsm : zs1.length < 40 ∨ zs2.length < 40)
    (h1 : Limbs w A1 c1 zs1 x.natAbs) (h2 : Limbs w A2 c2 zs2 y.natAbs) (hl1 : zs1.length ≤ 400000) (hl2 : zs2.length ≤ 400000) :
    Calls Tryz.prog 86 #[.agg #[.bool false, .slice A1 zs1.length c1], .agg #[.bool false, .slice A2 zs2.length c2]] w fun e w' => IsInt w w' (x * y) e := by
  have hbb := begun2_below w (.bool false) (.slice A1 zs1.length c1) (.bool false) (.slice A2 zs2.length c2) 31
  have hx0 := begun2_x w (.bool false) (.slice A1 zs1.length c1) (.bool false) (.slice A2 zs2.length c2) 31
  have hy0 := begun2_y w (.bool false) (.slice A1 zs1.length c1) (.bool false) (.slice A2 zs2.length c2) 31
  have hr0 := begun2_r w (.bool false) (.slice A1 zs1.length c1) (.bool false) (.slice A2 zs2.length c2) 31
  have hsz := begun2_size w (.bool false) (.slice A1 zs1.length c1) (.bool false) (.slice A2 zs2.length c2) 31
  have hn1 := h1.2.1.below hbb
  have hn2 := h2.2.1.below hbb
  have H := Lib.hid (And.intro hbb (And.intro hx0 (And.intro hy0 (And.intro hr0 hsz))))
  clear hbb hx0 hy0 hr0 hsz
  go_enter Tryz.func86, Tryz.ntmps86
  go_wp2_with fail
  go_region_held3 (fun w' => w'.cell? ⟨w.heap.size, 0, none⟩ = some (.bool false) ∧ w'.cell? ⟨w.heap.size, 1, none⟩ = some (.slice A1 zs1.length c1) ∧ w'.cell? ⟨w.heap.size + 1, 0, none⟩ = some (.bool false) ∧ w'.cell? ⟨w.heap.size + 1, 1, none⟩ = some (.slice A2 zs2.length c2))
    (((try dsimp only); (repeat' apply And.intro) <;> (first | (with_reducible assumption) | go_keep)))
    ((first | (go_at_call 123; refine (product_small A1 c1 zs1 A2 c2 zs2 _ (by exact hn1) (by exact hn2) h1.2.2.1 h2.2.2.1 hl1 hl2 hsm).mono ?_; rintro e w1 ⟨A3, c3, zs3, rfl, hl3, hb1⟩; have k1x := H.out.2.1.step hb1 rfl (by rw [H.out.2.2.2.2]; omega); have k1y := H.out.2.2.1.step hb1 rfl (by rw [H.out.2.2.2.2]; omega); have k1r := H.out.2.2.2.1.step hb1 rfl (by rw [H.out.2.2.2.2]; omega); obtain ⟨px0, px1⟩ := id k1x; obtain ⟨py0, py1⟩ := id k1y; have hle3 := mul_len hl3 h1.2.2.1 h2.2.2.1 hl1 hl2; have hs1' : w.heap.size + 3 ≤ w1.heap.size := Nat.le_trans (Nat.le_of_eq H.out.2.2.2.2.symm) hb1.size) | (go_at_call 112; refine (signed_to false A3 c3 zs3 (x * y) _ (by exact hl3.2.1) hl3.2.2.1 hle3 hl3.1 (by rw [hl3.2.2.2.2, h1.2.2.2.2, h2.2.2.2.2]; exact mul_parts hs1 hs2 rfl)).mono ?_; rintro e w2 ⟨v2, rfl, ⟨b4, A4, c4, zs4, rfl, hsg4, hl4⟩, hb2⟩; have k2x := k1x.step hb2 rfl (by omega); have k2y := k1y.step hb2 rfl (by omega); have k2r := k1r.step hb2 rfl (by omega); obtain ⟨hx0, hx1⟩ := id k2x; obtain ⟨hy0, hy1⟩ := id k2y; obtain ⟨⟨hr0, hr1⟩, hf0, hf1⟩ := id k2r; obtain ⟨qx0, qx1⟩ := k2x.far (r := w.heap.size + 1 + 1) (by omega) (.bool b4) (.slice A4 zs4.length c4); obtain ⟨qy0, qy1⟩ := k2y.far (r := w.heap.size + 1 + 1) (by omega) (.bool b4) (.slice A4 zs4.length c4))))
  go_wp2
  refine bodyPost_ret (v := .agg #[.bool b4, .slice A4 zs4.length c4]) (by simp [results, Tryz.results86, go_sem, hr0, hr1]) rfl ?_
  exact res_stored k2r hsg4 hl4 (below_then (below_then H.out.1.drew hb1) hb2) (by omega)
theorem mul_false_true (A1 : Option Addr) (c1 : Nat) (zs1 : List Nat) (A2 : Option Addr) (c2 : Nat) (zs2 : List Nat) (x y : Int) (w : World) (hs1 : SignOf false x) (hs2 : SignOf true y) (hsm : zs1.length < 40 ∨ zs2.length < 40)
    (h1 : Limbs w A1 c1 zs1 x.natAbs) (h2 : Limbs w A2 c2 zs2 y.natAbs) (hl1 : zs1.length ≤ 400000) (hl2 : zs2.length ≤ 400000) :
    Calls Tryz.prog 86 #[.agg #[.bool false, .slice A1 zs1.length c1], .agg #[.bool true, .slice A2 zs2.length c2]] w fun e w' => IsInt w w' (x * y) e := by
  have hbb := begun2_below w (.bool false) (.slice A1 zs1.length c1) (.bool true) (.slice A2 zs2.length c2) 31
  have hx0 := begun2_x w (.bool false) (.slice A1 zs1.length c1) (.bool true) (.slice A2 zs2.length c2) 31
  have hy0 := begun2_y w (.bool false) (.slice A1 zs1.length c1) (.bool true) (.slice A2 zs2.length c2) 31
  have hr0 := begun2_r w (.bool false) (.slice A1 zs1.length c1) (.bool true) (.slice A2 zs2.length c2) 31
  have hsz := begun2_size w (.bool false) (.slice A1 zs1.length c1) (.bool true) (.slice A2 zs2.length c2) 31
  have hn1 := h1.2.1.below hbb
  have hn2 := h2.2.1.below hbb
  have H := Lib.hid (And.intro hbb (And.intro hx0 (And.intro hy0 (And.intro hr0 hsz))))
  clear hbb hx0 hy0 hr0 hsz
  go_enter Tryz.func86, Tryz.ntmps86
  go_wp2_with fail
  go_region_held3 (fun w' => w'.cell? ⟨w.heap.size, 0, none⟩ = some (.bool false) ∧ w'.cell? ⟨w.heap.size, 1, none⟩ = some (.slice A1 zs1.length c1) ∧ w'.cell? ⟨w.heap.size + 1, 0, none⟩ = some (.bool true) ∧ w'.cell? ⟨w.heap.size + 1, 1, none⟩ = some (.slice A2 zs2.length c2))
    (((try dsimp only); (repeat' apply And.intro) <;> (first | (with_reducible assumption) | go_keep)))
    ((first | (go_at_call 123; refine (product_small A1 c1 zs1 A2 c2 zs2 _ (by exact hn1) (by exact hn2) h1.2.2.1 h2.2.2.1 hl1 hl2 hsm).mono ?_; rintro e w1 ⟨A3, c3, zs3, rfl, hl3, hb1⟩; have k1x := H.out.2.1.step hb1 rfl (by rw [H.out.2.2.2.2]; omega); have k1y := H.out.2.2.1.step hb1 rfl (by rw [H.out.2.2.2.2]; omega); have k1r := H.out.2.2.2.1.step hb1 rfl (by rw [H.out.2.2.2.2]; omega); obtain ⟨px0, px1⟩ := id k1x; obtain ⟨py0, py1⟩ := id k1y; have hle3 := mul_len hl3 h1.2.2.1 h2.2.2.1 hl1 hl2; have hs1' : w.heap.size + 3 ≤ w1.heap.size := Nat.le_trans (Nat.le_of_eq H.out.2.2.2.2.symm) hb1.size) | (go_at_call 112; refine (signed_to true A3 c3 zs3 (x * y) _ (by exact hl3.2.1) hl3.2.2.1 hle3 hl3.1 (by rw [hl3.2.2.2.2, h1.2.2.2.2, h2.2.2.2.2]; exact mul_parts hs1 hs2 rfl)).mono ?_; rintro e w2 ⟨v2, rfl, ⟨b4, A4, c4, zs4, rfl, hsg4, hl4⟩, hb2⟩; have k2x := k1x.step hb2 rfl (by omega); have k2y := k1y.step hb2 rfl (by omega); have k2r := k1r.step hb2 rfl (by omega); obtain ⟨hx0, hx1⟩ := id k2x; obtain ⟨hy0, hy1⟩ := id k2y; obtain ⟨⟨hr0, hr1⟩, hf0, hf1⟩ := id k2r; obtain ⟨qx0, qx1⟩ := k2x.far (r := w.heap.size + 1 + 1) (by omega) (.bool b4) (.slice A4 zs4.length c4); obtain ⟨qy0, qy1⟩ := k2y.far (r := w.heap.size + 1 + 1) (by omega) (.bool b4) (.slice A4 zs4.length c4))))
  go_wp2
  refine bodyPost_ret (v := .agg #[.bool b4, .slice A4 zs4.length c4]) (by simp [results, Tryz.results86, go_sem, hr0, hr1]) rfl ?_
  exact res_stored k2r hsg4 hl4 (below_then (below_then H.out.1.drew hb1) hb2) (by omega)
theorem mul_true_false (A1 : Option Addr) (c1 : Nat) (zs1 : List Nat) (A2 : Option Addr) (c2 : Nat) (zs2 : List Nat) (x y : Int) (w : World) (hs1 : SignOf true x) (hs2 : SignOf false y) (hsm : zs1.length < 40 ∨ zs2.length < 40)
    (h1 : Limbs w A1 c1 zs1 x.natAbs) (h2 : Limbs w A2 c2 zs2 y.natAbs) (hl1 : zs1.length ≤ 400000) (hl2 : zs2.length ≤ 400000) :
    Calls Tryz.prog 86 #[.agg #[.bool true, .slice A1 zs1.length c1], .agg #[.bool false, .slice A2 zs2.length c2]] w fun e w' => IsInt w w' (x * y) e := by
  have hbb := begun2_below w (.bool true) (.slice A1 zs1.length c1) (.bool false) (.slice A2 zs2.length c2) 31
  have hx0 := begun2_x w (.bool true) (.slice A1 zs1.length c1) (.bool false) (.slice A2 zs2.length c2) 31
  have hy0 := begun2_y w (.bool true) (.slice A1 zs1.length c1) (.bool false) (.slice A2 zs2.length c2) 31
  have hr0 := begun2_r w (.bool true) (.slice A1 zs1.length c1) (.bool false) (.slice A2 zs2.length c2) 31
  have hsz := begun2_size w (.bool true) (.slice A1 zs1.length c1) (.bool false) (.slice A2 zs2.length c2) 31
  have hn1 := h1.2.1.below hbb
  have hn2 := h2.2.1.below hbb
  have H := Lib.hid (And.intro hbb (And.intro hx0 (And.intro hy0 (And.intro hr0 hsz))))
  clear hbb hx0 hy0 hr0 hsz
  go_enter Tryz.func86, Tryz.ntmps86
  go_wp2_with fail
  go_region_held3 (fun w' => w'.cell? ⟨w.heap.size, 0, none⟩ = some (.bool true) ∧ w'.cell? ⟨w.heap.size, 1, none⟩ = some (.slice A1 zs1.length c1) ∧ w'.cell? ⟨w.heap.size + 1, 0, none⟩ = some (.bool false) ∧ w'.cell? ⟨w.heap.size + 1, 1, none⟩ = some (.slice A2 zs2.length c2))
    (((try dsimp only); (repeat' apply And.intro) <;> (first | (with_reducible assumption) | go_keep)))
    ((first | (go_at_call 123; refine (product_small A1 c1 zs1 A2 c2 zs2 _ (by exact hn1) (by exact hn2) h1.2.2.1 h2.2.2.1 hl1 hl2 hsm).mono ?_; rintro e w1 ⟨A3, c3, zs3, rfl, hl3, hb1⟩; have k1x := H.out.2.1.step hb1 rfl (by rw [H.out.2.2.2.2]; omega); have k1y := H.out.2.2.1.step hb1 rfl (by rw [H.out.2.2.2.2]; omega); have k1r := H.out.2.2.2.1.step hb1 rfl (by rw [H.out.2.2.2.2]; omega); obtain ⟨px0, px1⟩ := id k1x; obtain ⟨py0, py1⟩ := id k1y; have hle3 := mul_len hl3 h1.2.2.1 h2.2.2.1 hl1 hl2; have hs1' : w.heap.size + 3 ≤ w1.heap.size := Nat.le_trans (Nat.le_of_eq H.out.2.2.2.2.symm) hb1.size) | (go_at_call 112; refine (signed_to true A3 c3 zs3 (x * y) _ (by exact hl3.2.1) hl3.2.2.1 hle3 hl3.1 (by rw [hl3.2.2.2.2, h1.2.2.2.2, h2.2.2.2.2]; exact mul_parts hs1 hs2 rfl)).mono ?_; rintro e w2 ⟨v2, rfl, ⟨b4, A4, c4, zs4, rfl, hsg4, hl4⟩, hb2⟩; have k2x := k1x.step hb2 rfl (by omega); have k2y := k1y.step hb2 rfl (by omega); have k2r := k1r.step hb2 rfl (by omega); obtain ⟨hx0, hx1⟩ := id k2x; obtain ⟨hy0, hy1⟩ := id k2y; obtain ⟨⟨hr0, hr1⟩, hf0, hf1⟩ := id k2r; obtain ⟨qx0, qx1⟩ := k2x.far (r := w.heap.size + 1 + 1) (by omega) (.bool b4) (.slice A4 zs4.length c4); obtain ⟨qy0, qy1⟩ := k2y.far (r := w.heap.size + 1 + 1) (by omega) (.bool b4) (.slice A4 zs4.length c4))))
  go_wp2
  refine bodyPost_ret (v := .agg #[.bool b4, .slice A4 zs4.length c4]) (by simp [results, Tryz.results86, go_sem, hr0, hr1]) rfl ?_
  exact res_stored k2r hsg4 hl4 (below_then (below_then H.out.1.drew hb1) hb2) (by omega)
theorem mul_true_true (A1 : Option Addr) (c1 : Nat) (zs1 : List Nat) (A2 : Option Addr) (c2 : Nat) (zs2 : List Nat) (x y : Int) (w : World) (hs1 : SignOf true x) (hs2 : SignOf true y) (hsm : zs1.length < 40 ∨ zs2.length < 40)
    (h1 : Limbs w A1 c1 zs1 x.natAbs) (h2 : Limbs w A2 c2 zs2 y.natAbs) (hl1 : zs1.length ≤ 400000) (hl2 : zs2.length ≤ 400000) :
    Calls Tryz.prog 86 #[.agg #[.bool true, .slice A1 zs1.length c1], .agg #[.bool true, .slice A2 zs2.length c2]] w fun e w' => IsInt w w' (x * y) e := by
  have hbb := begun2_below w (.bool true) (.slice A1 zs1.length c1) (.bool true) (.slice A2 zs2.length c2) 31
  have hx0 := begun2_x w (.bool true) (.slice A1 zs1.length c1) (.bool true) (.slice A2 zs2.length c2) 31
  have hy0 := begun2_y w (.bool true) (.slice A1 zs1.length c1) (.bool true) (.slice A2 zs2.length c2) 31
  have hr0 := begun2_r w (.bool true) (.slice A1 zs1.length c1) (.bool true) (.slice A2 zs2.length c2) 31
  have hsz := begun2_size w (.bool true) (.slice A1 zs1.length c1) (.bool true) (.slice A2 zs2.length c2) 31
  have hn1 := h1.2.1.below hbb
  have hn2 := h2.2.1.below hbb
  have H := Lib.hid (And.intro hbb (And.intro hx0 (And.intro hy0 (And.intro hr0 hsz))))
  clear hbb hx0 hy0 hr0 hsz
  go_enter Tryz.func86, Tryz.ntmps86
  go_wp2_with fail
  go_region_held3 (fun w' => w'.cell? ⟨w.heap.size, 0, none⟩ = some (.bool true) ∧ w'.cell? ⟨w.heap.size, 1, none⟩ = some (.slice A1 zs1.length c1) ∧ w'.cell? ⟨w.heap.size + 1, 0, none⟩ = some (.bool true) ∧ w'.cell? ⟨w.heap.size + 1, 1, none⟩ = some (.slice A2 zs2.length c2))
    (((try dsimp only); (repeat' apply And.intro) <;> (first | (with_reducible assumption) | go_keep)))
    ((first | (go_at_call 123; refine (product_small A1 c1 zs1 A2 c2 zs2 _ (by exact hn1) (by exact hn2) h1.2.2.1 h2.2.2.1 hl1 hl2 hsm).mono ?_; rintro e w1 ⟨A3, c3, zs3, rfl, hl3, hb1⟩; have k1x := H.out.2.1.step hb1 rfl (by rw [H.out.2.2.2.2]; omega); have k1y := H.out.2.2.1.step hb1 rfl (by rw [H.out.2.2.2.2]; omega); have k1r := H.out.2.2.2.1.step hb1 rfl (by rw [H.out.2.2.2.2]; omega); obtain ⟨px0, px1⟩ := id k1x; obtain ⟨py0, py1⟩ := id k1y; have hle3 := mul_len hl3 h1.2.2.1 h2.2.2.1 hl1 hl2; have hs1' : w.heap.size + 3 ≤ w1.heap.size := Nat.le_trans (Nat.le_of_eq H.out.2.2.2.2.symm) hb1.size) | (go_at_call 112; refine (signed_to false A3 c3 zs3 (x * y) _ (by exact hl3.2.1) hl3.2.2.1 hle3 hl3.1 (by rw [hl3.2.2.2.2, h1.2.2.2.2, h2.2.2.2.2]; exact mul_parts hs1 hs2 rfl)).mono ?_; rintro e w2 ⟨v2, rfl, ⟨b4, A4, c4, zs4, rfl, hsg4, hl4⟩, hb2⟩; have k2x := k1x.step hb2 rfl (by omega); have k2y := k1y.step hb2 rfl (by omega); have k2r := k1r.step hb2 rfl (by omega); obtain ⟨hx0, hx1⟩ := id k2x; obtain ⟨hy0, hy1⟩ := id k2y; obtain ⟨⟨hr0, hr1⟩, hf0, hf1⟩ := id k2r; obtain ⟨qx0, qx1⟩ := k2x.far (r := w.heap.size + 1 + 1) (by omega) (.bool b4) (.slice A4 zs4.length c4); obtain ⟨qy0, qy1⟩ := k2y.far (r := w.heap.size + 1 + 1) (by omega) (.bool b4) (.slice A4 zs4.length c4))))
  go_wp2
  refine bodyPost_ret (v := .agg #[.bool b4, .slice A4 zs4.length c4]) (by simp [results, Tryz.results86, go_sem, hr0, hr1]) rfl ?_
  exact res_stored k2r hsg4 hl4 (below_then (below_then H.out.1.drew hb1) hb2) (by omega)
theorem mul_signs (b1 b2 : Bool) (A1 : Option Addr) (c1 : Nat) (zs1 : List Nat) (A2 : Option Addr) (c2 : Nat) (zs2 : List Nat) (x y : Int) (w : World) (hs1 : SignOf b1 x) (hs2 : SignOf b2 y) (hsm : zs1.length < 40 ∨ zs2.length < 40)
    (h1 : Limbs w A1 c1 zs1 x.natAbs) (h2 : Limbs w A2 c2 zs2 y.natAbs) (hl1 : zs1.length ≤ 400000) (hl2 : zs2.length ≤ 400000) :
    Calls Tryz.prog 86 #[.agg #[.bool b1, .slice A1 zs1.length c1], .agg #[.bool b2, .slice A2 zs2.length c2]] w fun e w' => IsInt w w' (x * y) e := by
  cases b1 <;> cases b2
  · exact mul_false_false A1 c1 zs1 A2 c2 zs2 x y w hs1 hs2 hsm h1 h2 hl1 hl2
  · exact mul_false_true A1 c1 zs1 A2 c2 zs2 x y w hs1 hs2 hsm h1 h2 hl1 hl2
  · exact mul_true_false A1 c1 zs1 A2 c2 zs2 x y w hs1 hs2 hsm h1 h2 hl1 hl2
  · exact mul_true_true A1 c1 zs1 A2 c2 zs2 x y w hs1 hs2 hsm h1 h2 hl1 hl2
theorem Mul_small (v1 v2 : Value) (x y : Int) (m k : Nat) (w : World) (h1 : IntAt w v1 x) (h2 : IntAt w v2 y) (hm : m ≤ 400000) (hx : x.natAbs < B32 ^ m) (hk : k < 40) (hy : y.natAbs < B32 ^ k) :
    Calls Tryz.prog 86 #[v1, v2] w fun e w' => IsInt w w' (x * y) e := by
  obtain ⟨b1, A1, c1, zs1, rfl, hs1, hl1⟩ := h1
  obtain ⟨b2, A2, c2, zs2, rfl, hs2, hl2⟩ := h2
  have k1 := Nat.le_trans (hl1.len hx) hm
  have k2 := hl2.len hy
  exact mul_signs b1 b2 A1 c1 zs1 A2 c2 zs2 x y w hs1 hs2 (.inr (by omega)) hl1 hl2 k1 (by omega)
theorem IntAt.step {W0 W w1 : World} {v : Value} {z : Int} (t : IntAt W0 v z) (hb : Below W.heap.size W w1) (hh : W.heap = W0.heap) : IntAt w1 v z := by
  have e : ∀ p, W.cell? p = W0.cell? p := fun p => by simp [World.cell?, hh]
  obtain ⟨b, A, c, zs, rfl, hs, h1, h2, h3⟩ := t
  refine ⟨b, A, c, zs, rfl, hs, h1, fun hn => ?_, h3⟩
  obtain ⟨ad, ea, hlt, hc⟩ := h2 hn
  rw [← hh] at hlt
  exact ⟨ad, ea, Nat.lt_of_lt_of_le hlt hb.size, fun j hj => ((hb.cell (by rw [block_of_add]; exact hlt)).trans (e _)).trans (hc j hj)⟩
theorem sub_ints (b1 b2 : Bool) (A1 : Option Addr) (c1 : Nat) (zs1 : List Nat) (A2 : Option Addr) (c2 : Nat) (zs2 : List Nat) (x y : Int) (m : Nat) (w : World) (hs1 : SignOf b1 x) (hs2 : SignOf b2 y)
    (h1 : Limbs w A1 c1 zs1 x.natAbs) (h2 : Limbs w A2 c2 zs2 y.natAbs) (hm : m ≤ 900000) (hx : x.natAbs < B32 ^ m) (hy : y.natAbs < B32 ^ m) :
    Calls Tryz.prog 164 #[.agg #[.bool b1, .slice A1 zs1.length c1], .agg #[.bool b2, .slice A2 zs2.length c2]] w fun e w' => IsInt w w' (x - y) e := by
  have hbb := begun2_below w (.bool b1) (.slice A1 zs1.length c1) (.bool b2) (.slice A2 zs2.length c2) 31
  have hx0 := begun2_x w (.bool b1) (.slice A1 zs1.length c1) (.bool b2) (.slice A2 zs2.length c2) 31
  have hy0 := begun2_y w (.bool b1) (.slice A1 zs1.length c1) (.bool b2) (.slice A2 zs2.length c2) 31
  have hr0 := begun2_r w (.bool b1) (.slice A1 zs1.length c1) (.bool b2) (.slice A2 zs2.length c2) 31
  have hsz := begun2_size w (.bool b1) (.slice A1 zs1.length c1) (.bool b2) (.slice A2 zs2.length c2) 31
  have hi1 : IntAt (begun2 w (.bool b1) (.slice A1 zs1.length c1) (.bool b2) (.slice A2 zs2.length c2) 31) (.agg #[.bool b1, .slice A1 zs1.length c1]) x := ⟨b1, A1, c1, zs1, rfl, hs1, h1.below hbb⟩
  have hi2 : IntAt (begun2 w (.bool b1) (.slice A1 zs1.length c1) (.bool b2) (.slice A2 zs2.length c2) 31) (.agg #[.bool b2, .slice A2 zs2.length c2]) y := ⟨b2, A2, c2, zs2, rfl, hs2, h2.below hbb⟩
  have H := Lib.hid (And.intro hbb (And.intro hx0 (And.intro hy0 (And.intro hr0 hsz))))
  clear hbb hx0 hy0 hr0 hsz
  go_enter Tryz.func164, Tryz.ntmps164
  go_wp2_with fail
  go_region_held3 (fun w' => w'.cell? ⟨w.heap.size, 0, none⟩ = some (.bool b1) ∧ w'.cell? ⟨w.heap.size, 1, none⟩ = some (.slice A1 zs1.length c1) ∧ w'.cell? ⟨w.heap.size + 1, 0, none⟩ = some (.bool b2) ∧ w'.cell? ⟨w.heap.size + 1, 1, none⟩ = some (.slice A2 zs2.length c2))
    (((try dsimp only); (repeat' apply And.intro) <;> (first | (with_reducible assumption) | go_keep)))
    ((first | (go_at_call 62; refine (Neg_any (.agg #[.bool b2, .slice A2 zs2.length c2]) y m _ (by exact hi2) hy (by omega)).mono ?_; rintro e w1 ⟨v1, rfl, hi3, hb1⟩; have hi1' := hi1.step hb1 rfl; have k1x := H.out.2.1.step hb1 rfl (by rw [H.out.2.2.2.2]; omega); have k1y := H.out.2.2.1.step hb1 rfl (by rw [H.out.2.2.2.2]; omega); have k1r := H.out.2.2.2.1.step hb1 rfl (by rw [H.out.2.2.2.2]; omega); obtain ⟨px0, px1⟩ := id k1x; obtain ⟨py0, py1⟩ := id k1y; have hs1' : w.heap.size + 3 ≤ w1.heap.size := Nat.le_trans (Nat.le_of_eq H.out.2.2.2.2.symm) hb1.size) | (go_at_call 97; refine (Add_any (.agg #[.bool b1, .slice A1 zs1.length c1]) v1 x (-y) m _ (by exact hi1') (by exact hi3) hm hx (by rw [Int.natAbs_neg]; exact hy)).mono ?_; rintro e w2 ⟨v2, rfl, ⟨b4, A4, c4, zs4, rfl, hsg4, hl4⟩, hb2⟩; have k2x := k1x.step hb2 rfl (by omega); have k2y := k1y.step hb2 rfl (by omega); have k2r := k1r.step hb2 rfl (by omega); obtain ⟨hx0, hx1⟩ := id k2x; obtain ⟨hy0, hy1⟩ := id k2y; obtain ⟨⟨hr0, hr1⟩, hf0, hf1⟩ := id k2r; obtain ⟨qx0, qx1⟩ := k2x.far (r := w.heap.size + 1 + 1) (by omega) (.bool b4) (.slice A4 zs4.length c4); obtain ⟨qy0, qy1⟩ := k2y.far (r := w.heap.size + 1 + 1) (by omega) (.bool b4) (.slice A4 zs4.length c4))))
  go_wp2
  refine bodyPost_ret (v := .agg #[.bool b4, .slice A4 zs4.length c4]) (by simp [results, Tryz.results164, go_sem, hr0, hr1]) rfl ?_
  exact res_stored k2r hsg4 hl4 (below_then (below_then H.out.1.drew hb1) hb2) (by omega)
theorem Sub_any (v1 v2 : Value) (x y : Int) (m : Nat) (w : World) (h1 : IntAt w v1 x) (h2 : IntAt w v2 y) (hm : m ≤ 900000) (hx : x.natAbs < B32 ^ m) (hy : y.natAbs < B32 ^ m) :
    Calls Tryz.prog 164 #[v1, v2] w fun e w' => IsInt w w' (x - y) e := by
  obtain ⟨b1, A1, c1, zs1, rfl, hs1, hl1⟩ := h1
  obtain ⟨b2, A2, c2, zs2, rfl, hs2, hl2⟩ := h2
  exact sub_ints b1 b2 A1 c1 zs1 A2 c2 zs2 x y m w hs1 hs2 hl1 hl2 hm hx hy
def cmpZ (x y : Int) : Int := if x < y then -1 else if y < x then 1 else 0
def IsNum (w w' : World) (n : Int) (e : Ending) : Prop := e = .returned (.int .i64 n) ∧ Below w.heap.size w w'
def IsBool (w w' : World) (b : Bool) (e : Ending) : Prop := e = .returned (.bool b) ∧ Below w.heap.size w w'
theorem cmp_signs1 {x y : Int} (hx : SignOf true x) (hy : SignOf false y) : cmpZ x y = -1 := by
  simp [SignOf] at hx hy
  unfold cmpZ
  rw [if_pos (by omega)]
theorem cmp_signs2 {x y : Int} (hx : SignOf false x) (hy : SignOf true y) : cmpZ x y = 1 := by
  simp [SignOf] at hx hy
  unfold cmpZ
  rw [if_neg (by omega), if_pos (by omega)]
theorem cmp_pos {x y : Int} (hx : SignOf false x) (hy : SignOf false y) : ordOf x.natAbs y.natAbs = cmpZ x y := by
  simp [SignOf] at hx hy
  have e1 : (x.natAbs < y.natAbs) = (x < y) := propext ⟨fun _ => by omega, fun _ => by omega⟩
  have e2 : (y.natAbs < x.natAbs) = (y < x) := propext ⟨fun _ => by omega, fun _ => by omega⟩
  simp only [ordOf, cmpZ, e1, e2]
theorem cmp_neg {x y : Int} (hx : SignOf true x) (hy : SignOf true y) : ordOf y.natAbs x.natAbs = cmpZ x y := by
  simp [SignOf] at hx hy
  have e1 : (x.natAbs < y.natAbs) = (y < x) := propext ⟨fun _ => by omega, fun _ => by omega⟩
  have e2 : (y.natAbs < x.natAbs) = (x < y) := propext ⟨fun _ => by omega, fun _ => by omega⟩
  simp only [ordOf, cmpZ, e1, e2]
theorem sign_of_neg {z : Int} (h : SignOf true z) : z < 0 := by simpa [SignOf] using h
theorem sign_of_pos {z : Int} (h : SignOf false z) : 0 ≤ z := by simpa [SignOf] using h
theorem boxed2_below (w : World) (o o' : Obj) : Below w.heap.size w ((w.alloc o).alloc o') := ((Below.refl _ _).alloc (Nat.le_refl _) _).alloc (by simp) _
theorem cmp_ints (b1 b2 : Bool) (A1 : Option Addr) (c1 : Nat) (zs1 : List Nat) (A2 : Option Addr) (c2 : Nat) (zs2 : List Nat) (x y : Int) (w : World) (hs1 : SignOf b1 x) (hs2 : SignOf b2 y)
    (h1 : Limbs w A1 c1 zs1 x.natAbs) (h2 : Limbs w A2 c2 zs2 y.natAbs) (hl1 : zs1.length ≤ 900000) (hl2 : zs2.length ≤ 900000) :
    Calls Tryz.prog 63 #[.agg #[.bool b1, .slice A1 zs1.length c1], .agg #[.bool b2, .slice A2 zs2.length c2]] w fun e w' => IsNum w w' (cmpZ x y) e := by
  cases b1 <;> cases b2
  · have hn1 := h1.2.1.below (boxed2_below w (.cells #[.bool false, .slice A1 zs1.length c1] 31) (.cells #[.bool false, .slice A2 zs2.length c2] 31))
    have hn2 := h2.2.1.below (boxed2_below w (.cells #[.bool false, .slice A1 zs1.length c1] 31) (.cells #[.bool false, .slice A2 zs2.length c2] 31))
    go_enter Tryz.func63, Tryz.ntmps63
    go_wp2_with fail
    refine (compare_any A1 c1 zs1 A2 c2 zs2 _ hn1 hn2 h1.2.2.1 h2.2.2.1 h1.2.2.2.1 h2.2.2.2.1 (by omega)).mono ?_
    rintro e w' ⟨hd, rfl⟩
    go_wp2
    go_ret
    exact ⟨by rw [← cmp_pos hs1 hs2, ← h1.2.2.2.2, ← h2.2.2.2.2]; rfl, (boxed2_below _ _ _).trans (hd.below _)⟩
  · go_enter Tryz.func63, Tryz.ntmps63
    go_wp2
    go_ret
    exact ⟨by rw [cmp_signs2 hs1 hs2]; rfl, boxed2_below _ _ _⟩
  · go_enter Tryz.func63, Tryz.ntmps63
    go_wp2
    go_ret
    exact ⟨by rw [cmp_signs1 hs1 hs2]; rfl, boxed2_below _ _ _⟩
  · have hn1 := h1.2.1.below (boxed2_below w (.cells #[.bool true, .slice A1 zs1.length c1] 31) (.cells #[.bool true, .slice A2 zs2.length c2] 31))
    have hn2 := h2.2.1.below (boxed2_below w (.cells #[.bool true, .slice A1 zs1.length c1] 31) (.cells #[.bool true, .slice A2 zs2.length c2] 31))
    go_enter Tryz.func63, Tryz.ntmps63
    go_wp2_with fail
    refine (compare_any A2 c2 zs2 A1 c1 zs1 _ hn2 hn1 h2.2.2.1 h1.2.2.1 h2.2.2.2.1 h1.2.2.2.1 (by omega)).mono ?_
    rintro e w' ⟨hd, rfl⟩
    go_wp2
    go_ret
    exact ⟨by rw [← cmp_neg hs1 hs2, ← h1.2.2.2.2, ← h2.2.2.2.2]; rfl, (boxed2_below _ _ _).trans (hd.below _)⟩
theorem Cmp_any (v1 v2 : Value) (x y : Int) (m : Nat) (w : World) (h1 : IntAt w v1 x) (h2 : IntAt w v2 y) (hm : m ≤ 900000) (hx : x.natAbs < B32 ^ m) (hy : y.natAbs < B32 ^ m) :
    Calls Tryz.prog 63 #[v1, v2] w fun e w' => IsNum w w' (cmpZ x y) e := by
  obtain ⟨b1, A1, c1, zs1, rfl, hs1, hl1⟩ := h1
  obtain ⟨b2, A2, c2, zs2, rfl, hs2, hl2⟩ := h2
  exact cmp_ints b1 b2 A1 c1 zs1 A2 c2 zs2 x y w hs1 hs2 hl1 hl2 (Nat.le_trans (hl1.len hx) hm) (Nat.le_trans (hl2.len hy) hm)
theorem sign_zero {w : World} {A : Option Addr} {c : Nat} {zs : List Nat} {z : Int} (h : Limbs w A c zs z.natAbs) (h0 : zs.length = 0) : z.sign = 0 := by
  have hz : zs = [] := List.eq_nil_of_length_eq_zero h0
  subst hz
  have hv : 0 = z.natAbs := h.2.2.2.2
  have hz : z = 0 := by omega
  rw [hz]
  rfl
theorem sign_pos {w : World} {A : Option Addr} {c : Nat} {zs : List Nat} {z : Int} (h : Limbs w A c zs z.natAbs) (h0 : 0 < zs.length) : z ≠ 0 := by
  have := Lm.val_pos B32_pos h0 h.2.2.2.1
  rw [h.2.2.2.2] at this
  omega
theorem Sign_any (v : Value) (z : Int) (m : Nat) (w : World) (h : IntAt w v z) (hm : m ≤ 900000) (hz : z.natAbs < B32 ^ m) :
    Calls Tryz.prog 64 #[v] w fun e w' => IsNum w w' z.sign e := by
  obtain ⟨b, A, c, zs, rfl, hs, hl⟩ := h
  have hlen := Nat.le_trans (hl.len hz) hm
  rcases Nat.eq_zero_or_pos zs.length with h0 | h0
  · have H := Lib.hid (sign_zero hl h0)
    rw [h0]
    clear hl h0
    go_enter Tryz.func64, Tryz.ntmps64
    go_wp2
    go_ret
    exact ⟨by rw [H.out]; rfl, (Below.refl _ _).alloc (Nat.le_refl _) _⟩
  · have hne := sign_pos hl h0
    have hf : ((zs.length : Int) == 0) = false := by rw [beq_eq_false_iff_ne]; omega
    cases b
    · have hp : z.sign = 1 := Int.sign_eq_one_of_pos (by have := sign_of_pos hs; omega)
      have H := Lib.hid hp
      clear hp hl hne hs
      go_enter Tryz.func64, Tryz.ntmps64
      go_wp2
      go_ret
      exact ⟨by rw [H.out]; rfl, (Below.refl _ _).alloc (Nat.le_refl _) _⟩
    · have hp : z.sign = -1 := Int.sign_eq_neg_one_of_neg (sign_of_neg hs)
      have H := Lib.hid hp
      clear hp hl hne hs
      go_enter Tryz.func64, Tryz.ntmps64
      go_wp2
      go_ret
      exact ⟨by rw [H.out]; rfl, (Below.refl _ _).alloc (Nat.le_refl _) _⟩
theorem cmp_eq (x y : Int) : (cmpZ x y == 0) = decide (x = y) := by
  unfold cmpZ
  by_cases h : x < y
  · rw [if_pos h]
    simp; omega
  · rw [if_neg h]
    by_cases h' : y < x
    · rw [if_pos h']
      simp; omega
    · rw [if_neg h']
      simp; omega
theorem copied_lims (A : Option Addr) (c : Nat) (xs : List Nat) (w : World) (h : Nums w .u32 A xs) (ho : Lm.Ok B32 xs) (hl : xs.length ≤ 1000000) (hc : xs.length ≤ c) :
    Calls Tryz.prog 113 #[.slice A xs.length c] w fun e w' => IsLims w w' (Lm.val B32 xs) e :=
  (copied_any A c xs w h hl hc).mono fun _ _ ⟨k, ⟨A1, c1, he, hown, hb⟩, hk, hz, hp⟩ =>
    ⟨A1, c1, xs.take k, he, ⟨by obtain ⟨A2, c2, e2, hle⟩ := own_form hown; injection e2 with _ _ e3; omega, Nums.of_own hown rfl, ho.take k, top_take hk hp, Lm.val_cut k hk hz⟩, hb⟩
theorem Make_any (b : Bool) (A : Option Addr) (c : Nat) (xs : List Nat) (w : World) (h : Nums w .u32 A xs) (ho : Lm.Ok B32 xs) (hl : xs.length ≤ 900000) (hc : xs.length ≤ c) :
    Calls Tryz.prog 74 #[.bool b, .slice A xs.length c] w fun e w' => IsInt w w' (ofSign b (Lm.val B32 xs)) e := by
  have hr0 := Res.new w 31
  have H := Lib.hid hr0
  clear hr0
  have hn := h.alloc (.cells #[.bool false, .slice none 0 0] 31)
  go_enter Tryz.func74, Tryz.ntmps74
  go_wp2_with fail
  refine (copied_lims A c xs _ hn ho (by omega) hc).mono ?_
  rintro e w1 ⟨A1, c1, zs, rfl, hlim, hb1⟩
  have hlen : zs.length ≤ 1000000 := by have := hlim.len (Lm.val_lt ho); omega
  have hsz : w.heap.size + 1 ≤ w1.heap.size := by have := hb1.size; simpa using this
  have k1 := H.out.step hb1 rfl (by simp)
  clear hn
  go_wp2_with fail
  refine (signed_to b A1 c1 zs (ofSign b (Lm.val B32 xs)) w1 hlim.2.1 hlim.2.2.1 hlen hlim.1 (by rw [hlim.2.2.2.2])).mono ?_
  rintro e w2 ⟨v2, rfl, ⟨b4, A4, c4, zs4, rfl, hsg4, hl4⟩, hb2⟩
  have k2 := k1.step hb2 rfl (by omega)
  obtain ⟨⟨hr0, hr1⟩, hf0, hf1⟩ := id k2
  go_wp2
  refine bodyPost_ret (v := .agg #[.bool b4, .slice A4 zs4.length c4]) (by simp [results, Tryz.results74, go_sem, hr0, hr1]) rfl ?_
  exact res_stored k2 hsg4 hl4 (below_then (below_then ((Below.refl _ _).alloc (Nat.le_refl _) _) hb1) hb2) (Nat.le_refl _)
theorem nums2 (w : World) (a b : Nat) : Nums (w.alloc (.cells #[.int .u32 a, .int .u32 b] 132)) .u32 (some ⟨w.heap.size, 0, none⟩) [a, b] := fun _ => by
  refine ⟨_, rfl, by simp, fun j hj => ?_⟩
  match j, hj with
  | 0, _ => exact (cell2 w (.int .u32 a) (.int .u32 b) 132).1
  | 1, _ => exact (cell2 w (.int .u32 a) (.int .u32 b) 132).2
theorem word_any (n : Nat) (w : World) (h : n < 18446744073709551616) : Calls Tryz.prog 115 #[.int .u64 n] w fun e w' => IsLims w w' n e := by
  have ho : Lm.Ok B32 [n % B32, n / B32] := .cons (Nat.mod_lt _ B32_pos) (.cons (by unfold B32; omega) (.nil _))
  have hv : Lm.val B32 [n % B32, n / B32] = n := by
    simp only [Lm.val, Nat.mul_zero, Nat.add_zero]
    exact Nat.mod_add_div n B32
  have hn := nums2 w (n % B32) (n / B32)
  have ht := trim_any (some ⟨w.heap.size, 0, none⟩) 2 [n % B32, n / B32] _ hn (by simp) (by simp)
  rw [← limb_mod n n rfl, ← limb_div n n rfl] at ht
  simp only [List.length_cons, List.length_nil, Nat.zero_add, Nat.reduceAdd] at ht
  have HT := Lib.hid (And.intro ht (And.intro ho (And.intro hv hn)))
  clear ht ho hv hn
  go_enter Tryz.func115, Tryz.ntmps115
  go_wp2_with fail
  refine HT.out.1.mono ?_
  rintro e w4 ⟨rfl, k, rfl, hk, hz, hp⟩
  have HP := Lib.hid (And.intro hk (And.intro hz hp))
  clear hk hz hp
  go_wp2
  go_ret
  refine lims_of_trim ⟨k, rfl, HP.out⟩ ?_ HT.out.2.1 (by simp) HT.out.2.2.1 ((Below.refl _ _).alloc (Nat.le_refl _) _)
  have := HT.out.2.2.2
  rwa [← limb_mod n n rfl, ← limb_div n n rfl] at this
theorem wrap_neg (n : Nat) (h : 0 < n) (h1 : n ≤ 9223372036854775808) : IntKind.u64.wrap (-IntKind.u64.wrap (-(n : Int))) = (n : Int) := by
  rw [IntKind.wrap_u64, IntKind.wrap_u64]
  omega
theorem wrap_pos (n : Nat) (h1 : n < 9223372036854775808) : IntKind.u64.wrap (n : Int) = (n : Int) := by
  rw [IntKind.wrap_u64]
  omega
theorem New_neg (n : Nat) (w : World) (h : 0 < n) (h1 : n ≤ 9223372036854775808) : Calls Tryz.prog 65 #[.int .i64 (-(n : Int))] w fun e w' => IsInt w w' (-(n : Int)) e := by
  have hr0 := Res.new w 31
  have H := Lib.hid hr0
  have HN := Lib.hid (And.intro h1 (wrap_neg n h h1))
  clear hr0 h1
  go_enter Tryz.func65, Tryz.ntmps65
  go_wp2_with fail
  rw [HN.out.2]
  refine (word_any n _ (by have := HN.out.1; omega)).mono ?_
  rintro e w1 ⟨A1, c1, zs, rfl, hlim, hb1⟩
  have hlen : zs.length ≤ 2 := hlim.len (by have := HN.out.1; unfold B32; omega)
  have hsz : w.heap.size + 1 ≤ w1.heap.size := by have := hb1.size; simpa using this
  have k1 := H.out.step hb1 rfl (by simp)
  go_wp2_with fail
  refine (signed_to true A1 c1 zs (-(n : Int)) w1 hlim.2.1 hlim.2.2.1 (by omega) hlim.1 (by rw [hlim.2.2.2.2]; rfl)).mono ?_
  rintro e w2 ⟨v2, rfl, ⟨b4, A4, c4, zs4, rfl, hsg4, hl4⟩, hb2⟩
  have k2 := k1.step hb2 rfl (by omega)
  obtain ⟨⟨hr0, hr1⟩, hf0, hf1⟩ := id k2
  go_wp2
  refine bodyPost_ret (v := .agg #[.bool b4, .slice A4 zs4.length c4]) (by simp [results, Tryz.results65, go_sem, hr0, hr1]) rfl ?_
  exact res_stored k2 hsg4 hl4 (below_then (below_then ((Below.refl _ _).alloc (Nat.le_refl _) _) hb1) hb2) (Nat.le_refl _)
theorem New_pos (n : Nat) (w : World) (h1 : n < 9223372036854775808) : Calls Tryz.prog 65 #[.int .i64 (n : Int)] w fun e w' => IsInt w w' (n : Int) e := by
  have hr0 := Res.new w 31
  have H := Lib.hid hr0
  have HN := Lib.hid (And.intro h1 (wrap_pos n h1))
  have h0 : (0 : Int) ≤ (n : Int) := Int.natCast_nonneg n
  clear hr0 h1
  go_enter Tryz.func65, Tryz.ntmps65
  go_wp2_with fail
  go_show
  rw [HN.out.2]
  refine (word_any n _ (by have := HN.out.1; omega)).mono ?_
  rintro e w1 ⟨A1, c1, zs, rfl, hlim, hb1⟩
  have hlen : zs.length ≤ 2 := hlim.len (by have := HN.out.1; unfold B32; omega)
  have hsz : w.heap.size + 1 ≤ w1.heap.size := by have := hb1.size; simpa using this
  have k1 := H.out.step hb1 rfl (by simp)
  go_wp2_with fail
  refine (signed_to false A1 c1 zs (n : Int) w1 hlim.2.1 hlim.2.2.1 (by omega) hlim.1 (by rw [hlim.2.2.2.2]; rfl)).mono ?_
  rintro e w2 ⟨v2, rfl, ⟨b4, A4, c4, zs4, rfl, hsg4, hl4⟩, hb2⟩
  have k2 := k1.step hb2 rfl (by omega)
  obtain ⟨⟨hr0, hr1⟩, hf0, hf1⟩ := id k2
  go_wp2
  refine bodyPost_ret (v := .agg #[.bool b4, .slice A4 zs4.length c4]) (by simp [results, Tryz.results65, go_sem, hr0, hr1]) rfl ?_
  exact res_stored k2 hsg4 hl4 (below_then (below_then ((Below.refl _ _).alloc (Nat.le_refl _) _) hb1) hb2) (Nat.le_refl _)
end Go.Proofs.YtpgbnegppehckaaGreat
namespace Go.Proofs.YtpgbnegppehckaaGreat
open Go.RowKit
theorem SegTo.drewN {w : World} {g off : Nat} {k : IntKind} {e : TypeId} {cur : Array Value} {xs : List Nat} (h : SegTo w g off k e cur xs) (n : Nat) : SegTo (w.drewN n) g off k e cur xs := by
  obtain ⟨c, h1, h2, h3⟩ := h
  exact ⟨c, ⟨h1.blk, h1.fit, h1.at_⟩, h2, h3⟩
theorem grown_drewN {a w : World} {row : Option Nat} (h : a.grownBy w row) (n : Nat) : a.grownBy (w.drewN n) row := ⟨h.os, h.tape, h.output, h.size, h.block⟩
theorem join_limbs (hi lo : Nat) (hlo : lo < 4294967296) : hi * 4294967296 ||| lo = hi * 4294967296 + lo := by
  have h := Nat.two_pow_add_eq_or_of_lt (i := 32) (b := lo) hlo hi
  rw [Nat.mul_comm] at h
  exact h.symm
theorem join_int (hi lo : Nat) (hhi : hi < 4294967296) (hlo : lo < 4294967296) : bits .or .u64 ((hi : Int) * 4294967296) (lo : Int) = ((hi * 4294967296 + lo : Nat) : Int) := by
  rw [show ((hi : Int) * 4294967296) = ((hi * 4294967296 : Nat) : Int) from by omega, u64_or_nat _ _ (by omega) (by omega), join_limbs hi lo hlo]
def IsDiv (w w' : World) (n y : Nat) (e : Ending) : Prop := Drew w w' ∧ e = .returned (.tuple #[.int .u32 ((n / y : Nat) : Int), .int .u32 ((n % y : Nat) : Int)])
theorem div32_any (hi lo y : Nat) (w : World) (hlo : lo < 4294967296) (hy : y < 4294967296) (h : hi < y) :
    Calls Tryz.prog 176 #[.int .u32 hi, .int .u32 lo, .int .u32 y] w fun e w' => IsDiv w w' (hi * 4294967296 + lo) y e := by
  obtain ⟨n, hn⟩ : ∃ n, hi * 4294967296 + lo = n := ⟨_, rfl⟩
  have hj := join_int hi lo (by omega) hlo
  rw [hn] at hj ⊢
  have hq : n / y < 4294967296 := by
    rw [Nat.div_lt_iff_lt_mul (by omega)]
    have := Nat.mul_le_mul_left 4294967296 (show hi + 1 ≤ y from h)
    omega
  have hr : n % y < 4294967296 := Nat.lt_trans (Nat.mod_lt _ (by omega)) hy
  have q1 : (0 : Int) ≤ (n : Int) / (y : Int) := Int.ediv_nonneg (by omega) (by omega)
  have q2 : (n : Int) / (y : Int) ≤ 4294967295 := by rw [← Int.natCast_ediv]; omega
  have r1 : (0 : Int) ≤ (n : Int) % (y : Int) := Int.emod_nonneg _ (by omega)
  have r2 : (n : Int) % (y : Int) ≤ 4294967295 := by rw [← Int.natCast_emod]; omega
  have hy1 : (1 : Int) ≤ (y : Int) := by omega
  have hne : ((y : Int) != 0) = true := by rw [bne_iff_ne]; omega
  have hne' : ¬ (y : Int) = 0 := by omega
  clear hn hq hr
  go_enter Tryz.func176, Tryz.ntmps176
  go_wp2
  go_quiet (fail)
  go_wp2
  go_ret2
  exact ⟨.mk _ _, rfl⟩
structure Quo (xs zs : List Nat) (y i r : Nat) : Prop where
  len : zs.length = xs.length
  ok : Lm.Ok B32 zs
  num : y * Lm.val B32 (zs.drop i) + r = Lm.val B32 (xs.drop i)
  rest : r < y
theorem quo_step {xs zs : List Nat} {y i r x : Nat} (h : Quo xs zs y (i + 1) r) (hi : i < xs.length) (hx : xs.getD i 0 = x) (hxl : x < 4294967296) (hy : y < 4294967296) :
    Quo xs (zs.set i ((r * 4294967296 + x) / y)) y i ((r * 4294967296 + x) % y) := by
  have hr := h.rest
  have hq : (r * 4294967296 + x) / y < 4294967296 := by
    rw [Nat.div_lt_iff_lt_mul (by omega)]
    have := Nat.mul_le_mul_left 4294967296 (show r + 1 ≤ y from hr)
    omega
  refine ⟨by simpa using h.len, h.ok.set _ _ hq, ?_, Nat.mod_lt _ (by omega)⟩
  have hl := h.len
  rw [Lm.val_drop_pred _ _ i (by simpa using (by omega : i < zs.length)), Lm.val_drop_pred _ _ i hi, hx, List.drop_set, if_pos (by omega)]
  have hg : (zs.set i ((r * 4294967296 + x) / y)).getD i 0 = (r * 4294967296 + x) / y := by
    rw [List.getD_eq_getElem?_getD, List.getElem?_set, if_pos rfl, if_pos (by omega)]; rfl
  rw [hg, ← h.num]
  have hd := Nat.div_add_mod (r * 4294967296 + x) y
  rw [Nat.mul_add, Nat.mul_add, Nat.mul_left_comm y B32]
  unfold B32 at *
  omega
theorem quo_end {xs zs : List Nat} {y r : Nat} (h : Quo xs zs y 0 r) : Lm.val B32 zs = Lm.val B32 xs / y ∧ r = Lm.val B32 xs % y := by
  have hn := h.num
  have hr := h.rest
  simp only [List.drop_zero] at hn
  rw [← hn]
  constructor
  · rw [Nat.mul_add_div (by omega), Nat.div_eq_of_lt hr, Nat.add_zero]
  · rw [Nat.mul_add_mod, Nat.mod_eq_of_lt hr]
def IsQuo (w w' : World) (n y : Nat) (e : Ending) : Prop := ∃ A c zs, e = .returned (.tuple #[.slice A zs.length c, .int .u32 ((n % y : Nat) : Int)]) ∧ Limbs w' A c zs (n / y) ∧ Below w.heap.size w w'
theorem divideByLimb_any (A : Option Addr) (c : Nat) (xs : List Nat) (y : Nat) (w : World) (hx : Nums w .u32 A xs) (ox : Lm.Ok B32 xs) (hl : xs.length ≤ 900000) (hy0 : 0 < y) (hy : y < 4294967296) :
    Calls Tryz.prog 166 #[.slice A xs.length c, .int .u32 y] w fun e w' => IsQuo w w' (Lm.val B32 xs) y e := by
  obtain ⟨i0, hi0, hz0, hz1, hz2⟩ := info_parts Tryz.info132
  have HI := Lib.hid (And.intro hi0 (And.intro hz0 (And.intro hz1 hz2)))
  have HM := Lib.hid (show i0.bytes * xs.length ≤ 281474976710656 ∧ xs.length ≤ maxLen from ⟨by rw [hz2]; omega, by unfold maxLen; omega⟩)
  clear hi0 hz0 hz1 hz2
  go_enter Tryz.func166, Tryz.ntmps166
  go_wp2_with (at_make; go_loud (refine wpList_make_full _ rfl _ _ 22 rfl w.heap.size 132 i0 (.int .u32 0) 1 Tryz.underlying22 HI.out.1 HI.out.2.1 HI.out.2.2.1 _ _ _ _ xs.length rfl rfl (by omega) (by omega) HM.out.1 HM.out.2 (Nat.le_refl _) ?_); intro w1 hown1 hg1; rw [made_zero] at hown1; have HB := Lib.hid (own_block hown1); have hb1 : Below w.heap.size w w1 := (Below.refl _ _).grown hg1 (Nat.le_refl _) (fun k hk => by cases hk); clear hown1)
  have hz0 : Seg w1 w.heap.size 0 .u32 132 _ (List.replicate xs.length 0) := seg_of_block HB.out
  have hx1 := hx.below hb1
  have hoffx : 0 < xs.length → Off A w.heap.size := fun hn => off_below hx hn (Nat.le_refl _)
  clear hx HB HI HM
  go_loopw [7, 8] (fun rv iv wr => ∃ (i r : Nat) (zs : List Nat), iv = .int .i64 ((i : Int) - 1) ∧ rv = .int .u32 r ∧ i ≤ xs.length ∧ Quo xs zs y i r ∧ SegTo wr w.heap.size 0 .u32 132 (cellsOf .u32 (List.replicate xs.length 0)).toArray zs ∧ w1.grownBy wr (some w.heap.size)) (fun _ iv _ => (intOf iv + 1).toNat)
  case atStart =>
   exact ⟨xs.length, 0, _, rfl, rfl, Nat.le_refl _, ⟨by simp, Lm.Ok.zeros B32_pos _, by simp [Lm.val], hy0⟩, .refl hz0, World.grownBy.refl _ _⟩
  case round =>
   obtain ⟨i, r, zs, rfl, rfl, hi, hquo, hseg, hgr⟩ := hrel
   by_cases h0 : 0 < i
   · obtain ⟨j, rfl⟩ : ∃ j, i = j + 1 := ⟨i - 1, by omega⟩
     rw [show (((j + 1 : Nat) : Int) - 1) = (j : Int) from by omega]
     have hxr := hx1.grown hgr hoffx
     obtain ⟨ax, rfl, _, hcell⟩ := hxr.at_ (j := j) (by omega)
     have hcx := hcell j (by omega)
     have hxl := limb_lt ox j
     obtain ⟨x, hxd⟩ : ∃ x, xs.getD j 0 = x := ⟨_, rfl⟩
     rw [hxd] at hcx hxl
     obtain ⟨cur', hs1, hs2, hs3⟩ := id hseg
     have hcz := hs1.cell (j := j) (by rw [hquo.len]; omega)
     have hfz := hs1.frozen (0 + j)
     simp only [Nat.zero_add] at hcz hfz
     have hrl := hquo.rest
     have HD := Lib.hid hxd
     clear hxd hs1 hs2 hs3 hcell hz0
     go_wp2_with fail
     refine (div32_any r x y _ hxl hy hrl).mono ?_
     rintro e w' ⟨⟨n, rfl⟩, rfl⟩
     go_wp2
     go_roundw
     case rel =>
      refine ⟨j, _, _, rfl, rfl, by omega, quo_step hquo (by omega) HD.out hxl hy, ?_, ?_⟩
      · exact (hseg.drewN n).set0 (j := j) (by rw [hquo.len]; omega) _
      · exact grown_trans (grown_drewN hgr n) (grown_store (wr.drewN n) _ _ _)
     case measure => simp [intOf]
   · obtain rfl : i = 0 := by omega
     obtain ⟨hnum, rfl⟩ := quo_end hquo
     have htr := trim_any (some ⟨w.heap.size, 0, none⟩) xs.length zs wr (by obtain ⟨cur', hs1, _⟩ := hseg; exact hs1.nums) (by rw [hquo.len]; omega) (by rw [hquo.len]; exact Nat.le_refl _)
     rw [hquo.len] at htr
     have HT := Lib.hid (And.intro htr hnum)
     clear htr hnum
     go_wp2_with fail
     refine HT.out.1.mono ?_
     rintro e w4 ⟨rfl, k, rfl, hk, hz, hp⟩
     have HP := Lib.hid (And.intro hk (And.intro hz hp))
     clear hk hz hp
     go_wp2
     go_ret2
     obtain ⟨A3, c3, zs3, he, hl3, hb3⟩ := lims_of_trim (w := w) (n := Lm.val B32 xs / y) ⟨k, rfl, HP.out⟩ (by obtain ⟨cur', hs1, _⟩ := hseg; exact hs1.nums) hquo.ok (by rw [hquo.len]; exact Nat.le_refl _) HT.out.2 (hb1.trans (grown_below hgr (Nat.le_refl _) hb1.size))
     injection he with he
     injection he with h1 h2 h3
     exact ⟨A3, c3, zs3, by rw [← h1, ← h2, ← h3]; rfl, hl3, hb3⟩
end Go.Proofs.YtpgbnegppehckaaGreat
namespace Go.Proofs.YtpgbnegppehckaaGreat
open Go.RowKit
def IsDivs (w w' : World) (a b : Nat) (e : Ending) : Prop :=
  ∃ A c zs A' c' zs', e = .returned (.tuple #[.slice A zs.length c, .slice A' zs'.length c']) ∧ Limbs w' A c zs (a / b) ∧ Limbs w' A' c' zs' (a % b) ∧ Below w.heap.size w w'
theorem limbs_cloned {w w' : World} {A : Option Addr} {c n : Nat} {zs : List Nat} {e : Ending} (h : Limbs w A c zs n) (hk : Cloned w w' zs e) : ∃ A' c', e = .returned (.slice A' zs.length c') ∧ Limbs w' A' c' zs n ∧ Below w.heap.size w w' := by
  obtain ⟨A', c', rfl, hown, hb⟩ := hk
  refine ⟨A', c', rfl, ⟨?_, Nums.of_own hown rfl, h.2.2⟩, hb⟩
  obtain ⟨A2, c2, e2, hle⟩ := own_form hown
  injection e2 with _ _ e3
  omega
theorem divide_one (A : Option Addr) (c : Nat) (xs : List Nat) (A' : Option Addr) (c' : Nat) (d a : Nat) (w : World) (hx : Limbs w A c xs a) (hy : Limbs w A' c' [d] d) (hl : xs.length ≤ 900000) (hd : 0 < d) :
    Calls Tryz.prog 153 #[.slice A xs.length c, .slice A' 1 c'] w fun e w' => IsDivs w w' a d e := by
  have hdl : d < 4294967296 := hy.2.2.1.head
  rcases Nat.lt_or_ge a d with h | h
  · have hc := compare_lt A c xs A' c' [d] w hx.2.1 hy.2.1 hx.2.2.1 hy.2.2.1 hx.2.2.2.1 hy.2.2.2.1 (by omega) (by rw [hx.2.2.2.2, hy.2.2.2.2]; exact h)
    have HC := Lib.hid hc
    have hx' := hx.2.1
    clear hc
    go_enter Tryz.func153, Tryz.ntmps153
    go_wp2_with fail
    refine HC.out.mono ?_
    rintro e w' ⟨⟨n, rfl⟩, rfl⟩
    go_wp2_with fail
    refine (clone_any A c xs (w.drewN n) (by exact hx') (by omega)).mono ?_
    intro e w1 hcl
    obtain ⟨A1, c1, rfl, hl1, hb1⟩ := limbs_cloned (w := w.drewN n) (by exact ⟨hx.1, hx', hx.2.2⟩) hcl
    go_wp2
    go_ret2
    exact ⟨none, 0, [], A1, c1, xs, rfl, ⟨by simp, Nums.nil _ _ _, .nil _, Lm.Top.nil, by rw [Nat.div_eq_of_lt h]; rfl⟩, by rw [Nat.mod_eq_of_lt h]; exact hl1, ⟨hb1.os, hb1.tape, hb1.output, hb1.size, hb1.block⟩⟩
  · have hc := compare_ge A c xs A' c' [d] w hx.2.1 hy.2.1 hx.2.2.1 hy.2.2.1 hx.2.2.2.1 hy.2.2.2.1 (by omega) (by rw [hx.2.2.2.2, hy.2.2.2.2]; exact h)
    have HC := Lib.hid hc
    have hx' := hx.2.1
    obtain ⟨ad, rfl, _, hcell⟩ := hy.2.1.at_ (j := 0) (by simp)
    have hcy := hcell 0 (by simp)
    simp only [Addr.add, if_pos, List.getD_cons_zero] at hcy
    clear hc hcell
    go_enter Tryz.func153, Tryz.ntmps153
    go_wp2_with fail
    refine HC.out.mono ?_
    rintro e w' ⟨⟨n, rfl⟩, k, hk, rfl⟩
    go_wp2_with fail
    refine (divideByLimb_any A c xs d (w.drewN n) (by exact hx') hx.2.2.1 hl hd hdl).mono ?_
    rintro e w1 ⟨A1, c1, zs1, rfl, hl1, hb1⟩
    rw [hx.2.2.2.2] at hl1
    rw [hx.2.2.2.2]
    have hr : a % d < 4294967296 := Nat.lt_trans (Nat.mod_lt _ hd) hdl
    obtain ⟨r, hre⟩ : ∃ r, a % d = r := ⟨_, rfl⟩
    rw [hre] at hr ⊢
    have HR := Lib.hid hre
    clear hre
    go_wp2_with fail
    refine (word_any r w1 (by omega)).mono ?_
    rintro e w2 ⟨A2, c2, zs2, rfl, hl2, hb2⟩
    go_wp2
    go_ret2
    refine ⟨A1, c1, zs1, A2, c2, zs2, rfl, hl1.below hb2, by rw [HR.out]; exact hl2, ?_⟩
    exact below_then ⟨hb1.os, hb1.tape, hb1.output, hb1.size, hb1.block⟩ hb2
theorem neg_of (a : Nat) (h : 0 < a) : decide (-(a : Int) < 0) = true := decide_eq_true (by omega)
theorem not_neg (a : Nat) : decide ((a : Int) < 0) = false := decide_eq_false (by omega)
theorem div_parts {x y : Int} {b1 b2 b3 : Bool} (hx : SignOf b1 x) (hy : SignOf b2 y) (h : (b1 != b2) = b3) : ofSign b3 (x.natAbs / y.natAbs) = x.tdiv y := by
  unfold SignOf at hx hy
  subst hx
  subst hy
  subst h
  unfold ofSign
  obtain ⟨a, rfl | rfl⟩ := Int.eq_nat_or_neg x <;> obtain ⟨b, rfl | rfl⟩ := Int.eq_nat_or_neg y
  all_goals simp only [Int.natAbs_neg, Int.natAbs_natCast, Int.neg_tdiv, Int.tdiv_neg, ← Int.ofNat_tdiv, not_neg]
  · rfl
  · rcases Nat.eq_zero_or_pos b with rfl | hb
    · simp
    · rw [neg_of b hb]; rfl
  · rcases Nat.eq_zero_or_pos a with rfl | ha
    · simp
    · rw [neg_of a ha]; rfl
  · rcases Nat.eq_zero_or_pos a with rfl | ha
    · simp
    · rcases Nat.eq_zero_or_pos b with rfl | hb
      · simp
      · rw [neg_of a ha, neg_of b hb, Int.neg_neg]; rfl
theorem mod_parts {x y : Int} {b1 : Bool} (hx : SignOf b1 x) : ofSign b1 (x.natAbs % y.natAbs) = x.tmod y := by
  unfold SignOf at hx
  subst hx
  unfold ofSign
  obtain ⟨a, rfl | rfl⟩ := Int.eq_nat_or_neg x <;> obtain ⟨b, rfl | rfl⟩ := Int.eq_nat_or_neg y
  all_goals simp only [Int.natAbs_neg, Int.natAbs_natCast, Int.neg_tmod, Int.tmod_neg, ← Int.ofNat_tmod, not_neg]
  · rfl
  · rfl
  · rcases Nat.eq_zero_or_pos a with rfl | ha
    · simp
    · rw [neg_of a ha]; rfl
  · rcases Nat.eq_zero_or_pos a with rfl | ha
    · simp
    · rw [neg_of a ha]; rfl
def IsQuoRem (w w' : World) (x y : Int) (e : Ending) : Prop :=
  ∃ v1 v2, e = .returned (.tuple #[v1, v2, .int .i64 0]) ∧ IntAt w' v1 (x.tdiv y) ∧ IntAt w' v2 (x.tmod y) ∧ Below w.heap.size w w'
theorem Limbs.step {W0 W w1 : World} {A : Option Addr} {c n : Nat} {zs : List Nat} (t : Limbs W0 A c zs n) (hb : Below W.heap.size W w1) (hh : W.heap = W0.heap) : Limbs w1 A c zs n := by
  have e : ∀ p, W.cell? p = W0.cell? p := fun p => by simp [World.cell?, hh]
  refine ⟨t.1, fun hn => ?_, t.2.2⟩
  obtain ⟨ad, ea, hlt, hc⟩ := t.2.1 hn
  rw [← hh] at hlt
  exact ⟨ad, ea, Nat.lt_of_lt_of_le hlt hb.size, fun j hj => ((hb.cell (by rw [block_of_add]; exact hlt)).trans (e _)).trans (hc j hj)⟩
theorem Nums.res {w : World} {k : IntKind} {A : Option Addr} {xs : List Nat} {r : Nat} (h : Nums w k A xs) (t : Two w r (.bool false) (.slice none 0 0)) (u v : Value) : Nums ((w.setCell ⟨r, 0, none⟩ u).setCell ⟨r, 1, none⟩ v) k A xs := by
  refine (h.store t.1 (fun n e => by cases e) u).store (u := .slice none 0 0) ?_ (fun n e => by cases e) v
  rw [World.cell?_setCell_other _ _ _ _ (by simp)]
  exact t.2
theorem Two.stored {w : World} {r : Nat} {a b : Value} (t : Two w r a b) (u v : Value) : Two ((w.setCell ⟨r, 0, none⟩ u).setCell ⟨r, 1, none⟩ v) r u v := by
  refine ⟨?_, ?_⟩
  · rw [World.cell?_setCell_other _ _ _ _ (by simp)]
    exact World.cell?_setCell_same _ _ _ t.1
  · exact World.cell?_setCell_same _ _ _ ((World.cell?_setCell_other _ _ _ _ (by simp)).trans t.2)
def begun4 (w : World) (a b c d : Value) (t : TypeId) : World := (begun2 w a b c d t).alloc (.cells #[.bool false, .slice none 0 0] t)
theorem small_len {w : World} {A : Option Addr} {c n m : Nat} {zs : List Nat} (h : Limbs w A c zs n) (xs : List Nat) (ox : Lm.Ok B32 xs) (hn : n ≤ Lm.val B32 xs) (hl : xs.length ≤ m) : zs.length ≤ m := by
  have := h.len (m := xs.length) (Nat.lt_of_le_of_lt hn (Lm.val_lt ox))
  omega
end Go.Proofs.YtpgbnegppehckaaGreat
namespace Go.Proofs.YtpgbnegppehckaaGreat
open Go.RowKit
def BD : Nat := 65536
theorem BD_pos : 0 < BD := by decide
theorem BD_one : 1 < BD := by decide
def Digs (w : World) (A : Option Addr) (c : Nat) (ds : List Nat) (n : Nat) : Prop :=
  ds.length ≤ c ∧ Nums w .i64 A ds ∧ Lm.Ok BD ds ∧ Lm.Top ds ∧ Lm.val BD ds = n
def RefAt (w : World) (v : Value) (z : Int) : Prop :=
  ∃ b A c ds, v = .agg #[.bool b, .slice A ds.length c] ∧ SignOf b z ∧ Digs w A c ds z.natAbs
theorem Digs.step {W0 W w1 : World} {A : Option Addr} {c n : Nat} {ds : List Nat} (t : Digs W0 A c ds n) (hb : Below W.heap.size W w1) (hh : W.heap = W0.heap) : Digs w1 A c ds n := by
  have e : ∀ p, W.cell? p = W0.cell? p := fun p => by simp [World.cell?, hh]
  refine ⟨t.1, fun hn => ?_, t.2.2⟩
  obtain ⟨ad, ea, hlt, hc⟩ := t.2.1 hn
  rw [← hh] at hlt
  exact ⟨ad, ea, Nat.lt_of_lt_of_le hlt hb.size, fun j hj => ((hb.cell (by rw [block_of_add]; exact hlt)).trans (e _)).trans (hc j hj)⟩
theorem RefAt.step {W0 W w1 : World} {v : Value} {z : Int} (t : RefAt W0 v z) (hb : Below W.heap.size W w1) (hh : W.heap = W0.heap) : RefAt w1 v z := by
  obtain ⟨b, A, c, ds, e, hs, hd⟩ := t
  exact ⟨b, A, c, ds, e, hs, hd.step hb hh⟩
theorem trimmed_any (A : Option Addr) (c : Nat) (xs : List Nat) (w : World) (h : Nums w .i64 A xs) (hl : xs.length ≤ 1000000) (hc : xs.length ≤ c) :
    Calls Tryz.prog 145 #[.slice A xs.length c] w fun e w' => w = w' ∧ Trimmed A c xs e := by
  go_enter Tryz.func145, Tryz.ntmps145
  go_wp2
  go_loop [3] (fun i => ∃ k : Nat, i = .int .i64 k ∧ k ≤ xs.length ∧ ZeroFrom xs k) (fun i => (intOf i).toNat)
  case atStart => exact ⟨xs.length, rfl, Nat.le_refl _, fun i h1 h2 => by omega⟩
  case round =>
   obtain ⟨k, rfl, hk, hz⟩ := hrel
   by_cases h0 : 0 < k
   · obtain ⟨ad, rfl, _, hcell⟩ := h.at_ (j := k - 1) (by omega)
     have hcd := hcell (k - 1) (by omega)
     clear hcell
     obtain ⟨d, hd⟩ : ∃ d, xs.getD (k - 1) 0 = d := ⟨_, rfl⟩
     rw [hd] at hcd
     have HD := Lib.hid hd
     clear hd
     by_cases hd0 : d = 0
     · subst hd0
       go_wp2
       go_round
       case rel => exact ⟨k - 1, by go_num, by omega, zero_down h0 HD.out hz⟩
       case measure => simp [intOf]; omega
     · have hne : ((d : Int) == 0) = false := by simp; omega
       go_wp2
       go_ret
       exact ⟨rfl, k, rfl, hk, hz, fun _ => by rw [HD.out]; exact hd0⟩
   · obtain rfl : k = 0 := by omega
     go_wp2
     go_ret
     exact ⟨rfl, 0, rfl, hk, hz, fun h => absurd h (by omega)⟩
def IsRef (w w' : World) (z : Int) (e : Ending) : Prop := ∃ v, e = .returned v ∧ RefAt w' v z ∧ Below w.heap.size w w'
theorem ref_zero (w : World) (A : Option Addr) (c : Nat) : RefAt w (.agg #[.bool false, .slice A 0 c]) 0 := ⟨false, A, c, [], rfl, by simp [SignOf], by simp, Nums.nil _ _ _, Lm.Ok.nil _, Lm.Top.nil, rfl⟩
theorem digs_take {w : World} {A : Option Addr} {c : Nat} {xs : List Nat} {n : Nat} (h : Nums w .i64 A xs) (ho : Lm.Ok BD xs) (hc : xs.length ≤ c) (hn : n ≤ xs.length) (hz : ZeroFrom xs n) (hp : 0 < n → xs.getD (n - 1) 0 ≠ 0) :
    Digs w A c (xs.take n) (Lm.val BD xs) :=
  ⟨by rw [List.length_take]; omega, h.take n, ho.take n, top_take hn hp, Lm.val_cut n hn hz⟩
theorem ref_of {w : World} {A : Option Addr} {c : Nat} {zs : List Nat} {n : Nat} (b : Bool) (h : Digs w A c zs n) (hn : 0 < n) :
    RefAt w (.agg #[.bool b, .slice A zs.length c]) (ofSign b n) := by
  refine ⟨b, A, c, zs, rfl, ?_, ?_⟩
  · unfold SignOf
    cases b <;> simp [ofSign] <;> omega
  · have e : (ofSign b n).natAbs = n := by cases b <;> simp [ofSign]
    rw [e]
    exact h
theorem made_any (b : Bool) (A : Option Addr) (c : Nat) (xs : List Nat) (w : World) (h : Nums w .i64 A xs) (ho : Lm.Ok BD xs) (hl : xs.length ≤ 1000000) (hc : xs.length ≤ c) :
    Calls Tryz.prog 118 #[.bool b, .slice A xs.length c] w fun e w' => IsRef w w' (ofSign b (Lm.val BD xs)) e := by
  cases b
  · go_enter Tryz.func118, Tryz.ntmps118
    go_wp2_with fail
    refine (trimmed_any A c xs _ (h.alloc _) hl hc).mono ?_
    rintro e w' ⟨rfl, n, rfl, hn, hz, hp⟩
    have HZ := Lib.hid (And.intro hz hp)
    clear hz hp
    by_cases h0 : 0 < n
    · go_wp2
      refine bodyPost_ret (v := .agg #[.bool false, .slice A n c]) (by simp [results, Tryz.results118, go_sem]) rfl ⟨_, rfl, ?_, (Below.refl _ _).alloc (Nat.le_refl _) _⟩
      have hlim := (digs_take (h.alloc (.cells #[.bool false, .slice A n c] 34)) ho hc hn HZ.out.1 HZ.out.2)
      have hlen : (xs.take n).length = n := by rw [List.length_take]; omega
      have hpos : 0 < Lm.val BD xs := by
        rw [← hlim.2.2.2.2]
        exact Lm.val_pos BD_pos (by omega) hlim.2.2.2.1
      have hi := ref_of false hlim hpos
      rw [hlen] at hi
      exact hi
    · obtain rfl : n = 0 := by omega
      go_wp2
      refine bodyPost_ret (v := .agg #[.bool false, .slice A 0 c]) (by simp [results, Tryz.results118, go_sem]) rfl ⟨_, rfl, ?_, (Below.refl _ _).alloc (Nat.le_refl _) _⟩
      have hv : Lm.val BD xs = 0 := by
        rw [← Lm.val_cut 0 (Nat.zero_le _) HZ.out.1]
        rfl
      rw [hv]
      exact ref_zero _ _ _
  · go_enter Tryz.func118, Tryz.ntmps118
    go_wp2_with fail
    refine (trimmed_any A c xs _ (h.alloc _) hl hc).mono ?_
    rintro e w' ⟨rfl, n, rfl, hn, hz, hp⟩
    have HZ := Lib.hid (And.intro hz hp)
    clear hz hp
    by_cases h0 : 0 < n
    · go_wp2
      refine bodyPost_ret (v := .agg #[.bool true, .slice A n c]) (by simp [results, Tryz.results118, go_sem]) rfl ⟨_, rfl, ?_, (Below.refl _ _).alloc (Nat.le_refl _) _⟩
      have hlim := (digs_take (h.alloc (.cells #[.bool true, .slice A n c] 34)) ho hc hn HZ.out.1 HZ.out.2)
      have hlen : (xs.take n).length = n := by rw [List.length_take]; omega
      have hpos : 0 < Lm.val BD xs := by
        rw [← hlim.2.2.2.2]
        exact Lm.val_pos BD_pos (by omega) hlim.2.2.2.1
      have hi := ref_of true hlim hpos
      rw [hlen] at hi
      exact hi
    · obtain rfl : n = 0 := by omega
      go_wp2
      refine bodyPost_ret (v := .agg #[.bool false, .slice A 0 c]) (by simp [results, Tryz.results118, go_sem]) rfl ⟨_, rfl, ?_, (Below.refl _ _).alloc (Nat.le_refl _) _⟩
      have hv : Lm.val BD xs = 0 := by
        rw [← Lm.val_cut 0 (Nat.zero_le _) HZ.out.1]
        rfl
      rw [hv]
      exact ref_zero _ _ _
theorem Tryz.info3 : (Tryz.prog.info? 3).map (fun i => (i.zero, i.size, i.bytes)) = some (some (.int .i64 0), 1, 8) := by kernel_rfl
def Told (n u : Nat) (ds : List Nat) : Prop := Lm.Ok BD ds ∧ Lm.val BD ds + BD ^ ds.length * u = n
theorem told_step {n u : Nat} {ds : List Nat} (h : Told n u ds) : Told n (u / BD) (ds ++ [u % BD]) := by
  refine ⟨h.1.append (.cons (Nat.mod_lt _ BD_pos) (.nil _)), ?_⟩
  rw [Lm.val_snoc, List.length_append, List.length_singleton, Nat.pow_succ, Nat.add_assoc, Nat.mul_assoc, ← Nat.mul_add, Nat.mod_add_div]
  exact h.2
theorem told_len {n u : Nat} {ds : List Nat} (h : Told n u ds) (hu : 0 < u) (hn : n < 18446744073709551616) : ds.length < 4 := by
  rcases Nat.lt_or_ge ds.length 4 with hlt | hge
  · exact hlt
  · have h1 : BD ^ 4 ≤ BD ^ ds.length := Nat.pow_le_pow_right BD_pos hge
    have h2 : BD ^ ds.length * 1 ≤ BD ^ ds.length * u := Nat.mul_le_mul_left _ hu
    have h3 : BD ^ 4 = 18446744073709551616 := by decide
    have := h.2
    omega
theorem told_end {n : Nat} {ds : List Nat} (h : Told n 0 ds) : Lm.val BD ds = n := by simpa using h.2
theorem cells_snoc (k : IntKind) (ds : List Nat) (d : Nat) (x : Int) (h : x = (d : Int)) : cellsOf k ds ++ [.int k x] = cellsOf k (ds ++ [d]) := by
  subst h
  simp [cellsOf]
theorem digit_mod (u : Nat) : (u : Int) % 65536 = ((u % BD : Nat) : Int) := by unfold BD; omega
theorem digit_div (u : Nat) : (u : Int) / 65536 = ((u / BD : Nat) : Int) := by unfold BD; omega
theorem ref_stored {w w2 : World} {r : Nat} {s : Bool} {A : Option Addr} {c : Nat} {zs : List Nat} {z : Int} (hk : Res w2 r) (hs : SignOf s z) (hl : Digs w2 A c zs z.natAbs)
    (hb : Below w.heap.size w w2) (hr : w.heap.size ≤ r) :
    IsRef w ((w2.setCell ⟨r, 0, none⟩ (.bool s)).setCell ⟨r, 1, none⟩ (.slice A zs.length c)) z (.returned (.agg #[.bool s, .slice A zs.length c])) :=
  ⟨_, rfl, ⟨s, A, c, zs, rfl, hs, hl.1, hl.2.1.res hk.1 _ _, hl.2.2⟩, (hb.setCell (p := ⟨r, 0, none⟩) hr _).setCell (p := ⟨r, 1, none⟩) hr _⟩
theorem RNew_neg (n : Nat) (w : World) (h : 0 < n) (h1 : n ≤ 9223372036854775808) : Calls Tryz.prog 89 #[.int .i64 (-(n : Int))] w fun e w' => IsRef w w' (-(n : Int)) e := by
  obtain ⟨i0, hi0, hz0, hz1, hz2⟩ := info_parts Tryz.info3
  have HI := Lib.hid (And.intro hi0 (And.intro hz0 (And.intro hz1 hz2)))
  have hr0 := Res.new w 34
  have H := Lib.hid hr0
  have HN := Lib.hid (And.intro h1 (wrap_neg n h h1))
  clear hr0 h1 hi0 hz0 hz1 hz2
  go_enter Tryz.func89, Tryz.ntmps89
  go_wp2
  rw [HN.out.2]
  go_loopw [3, 4] (fun uv dv wr => ∃ (u : Nat) (ds : List Nat), uv = .int .u64 u ∧ wr.ownsRow (w.heap.size + 1) 3 1 dv ds.length (cellsOf .i64 ds) ∧ Told n u ds ∧ u ≤ n ∧ ds.length ≤ 4 ∧ Below (w.heap.size + 1) (w.alloc (.cells #[.bool false, .slice none 0 0] 34)) wr) (fun uv _ _ => (intOf uv).toNat)
  case atStart => exact ⟨n, [], rfl, World.ownsRow_nil _ _ _ _, ⟨.nil _, by simp [Lm.val]⟩, Nat.le_refl _, by simp, Below.refl _ _⟩
  case round =>
   obtain ⟨u, ds, rfl, hown, htold, hun, hl4, hbel⟩ := hrel
   obtain ⟨A, c, rfl, hle⟩ := own_form hown
   have hsz : w.heap.size + 1 ≤ wr.heap.size := by have := hbel.size; simpa using this
   by_cases hu : 0 < u
   · have hlen := told_len htold hu (by have := HN.out.1; omega)
     have hub : u ≤ 9223372036854775808 := Nat.le_trans hun HN.out.1
     have HU := Lib.hid hub
     clear hub
     have hpos : (0 : Int) < (u : Int) := by omega
     go_wp2_with (at_builtin; refine wpList_append_own _ rfl _ _ 32 rfl (w.heap.size + 1) 3 i0 (.int .i64 0) 1 8 Tryz.underlying32 HI.out.1 HI.out.2.1 HI.out.2.2.1 HI.out.2.2.2 rfl (by decide) _ ds.length (cellsOf .i64 ds) rfl (hown.alloc _) ⟨wr.heap.size, 0, none⟩ 1 1 [.int .i64 ((u : Int) % 65536)] rfl rfl (cell_one_new _ _ _) (by simp [Value.oneCell']) (by unfold maxLen; omega) (by omega) (by simp; omega) ?_; intro v1 w1 hown1 hg1 _)
     go_roundw
     case rel =>
      refine ⟨u / BD, ds ++ [u % BD], ?_, ?_, told_step htold, Nat.le_trans (Nat.div_le_self _ _) hun, by simp; omega, (hbel.alloc hsz _).grown hg1 (by simp; omega) (fun k hk => (hown.lt k hk).1)⟩
      · have := HU.out
        rw [IntWalk.u64_in _ (by omega), digit_div]
      · rw [List.length_append, List.length_singleton, ← cells_snoc .i64 ds (u % BD) _ (digit_mod u)]
        exact hown1
     case measure => have := HU.out; rw [IntWalk.u64_in _ (by omega)]; simp [intOf]; omega
   · obtain rfl : u = 0 := by omega
     have hbel' : Below (w.alloc (.cells #[.bool false, .slice none 0 0] 34)).heap.size (w.alloc (.cells #[.bool false, .slice none 0 0] 34)) wr := by rw [size_alloc]; exact hbel
     have k1 := H.out.step hbel' rfl (by simp)
     have hm := made_any true A c ds wr (Nums.of_own hown rfl) htold.1 (by omega) hle
     have HM := Lib.hid (And.intro hm htold)
     clear hm
     go_wp2_with fail
     refine HM.out.1.mono ?_
     rintro e w2 ⟨v2, rfl, ⟨b4, A4, c4, zs4, rfl, hsg4, hl4⟩, hb2⟩
     have k2 := k1.step hb2 rfl (by omega)
     obtain ⟨⟨hr0, hr1⟩, hf0, hf1⟩ := id k2
     go_wp2
     refine bodyPost_ret (v := .agg #[.bool b4, .slice A4 zs4.length c4]) (by simp [results, Tryz.results89, go_sem, hr0, hr1]) rfl ?_
     have hz : ofSign true (Lm.val BD ds) = -(n : Int) := by rw [told_end HM.out.2]; rfl
     rw [hz] at hsg4 hl4
     exact ref_stored k2 hsg4 hl4 (below_then (below_then ((Below.refl _ _).alloc (Nat.le_refl _) _) hbel') hb2) (Nat.le_refl _)
theorem RNew_pos (n : Nat) (w : World) (h1 : n < 9223372036854775808) : Calls Tryz.prog 89 #[.int .i64 (n : Int)] w fun e w' => IsRef w w' (n : Int) e := by
  obtain ⟨i0, hi0, hz0, hz1, hz2⟩ := info_parts Tryz.info3
  have HI := Lib.hid (And.intro hi0 (And.intro hz0 (And.intro hz1 hz2)))
  have hr0 := Res.new w 34
  have H := Lib.hid hr0
  have HN := Lib.hid (And.intro (Nat.le_of_lt h1) (wrap_pos n h1))
  have h0 : (0 : Int) ≤ (n : Int) := Int.natCast_nonneg n
  clear hr0 h1 hi0 hz0 hz1 hz2
  go_enter Tryz.func89, Tryz.ntmps89
  go_wp2
  rw [HN.out.2]
  go_loopw [3, 4] (fun uv dv wr => ∃ (u : Nat) (ds : List Nat), uv = .int .u64 u ∧ wr.ownsRow (w.heap.size + 1) 3 1 dv ds.length (cellsOf .i64 ds) ∧ Told n u ds ∧ u ≤ n ∧ ds.length ≤ 4 ∧ Below (w.heap.size + 1) (w.alloc (.cells #[.bool false, .slice none 0 0] 34)) wr) (fun uv _ _ => (intOf uv).toNat)
  case atStart => exact ⟨n, [], rfl, World.ownsRow_nil _ _ _ _, ⟨.nil _, by simp [Lm.val]⟩, Nat.le_refl _, by simp, Below.refl _ _⟩
  case round =>
   obtain ⟨u, ds, rfl, hown, htold, hun, hl4, hbel⟩ := hrel
   obtain ⟨A, c, rfl, hle⟩ := own_form hown
   have hsz : w.heap.size + 1 ≤ wr.heap.size := by have := hbel.size; simpa using this
   by_cases hu : 0 < u
   · have hlen := told_len htold hu (by have := HN.out.1; omega)
     have hub : u ≤ 9223372036854775808 := Nat.le_trans hun HN.out.1
     have HU := Lib.hid hub
     clear hub
     have hpos : (0 : Int) < (u : Int) := by omega
     go_wp2_with (at_builtin; refine wpList_append_own _ rfl _ _ 32 rfl (w.heap.size + 1) 3 i0 (.int .i64 0) 1 8 Tryz.underlying32 HI.out.1 HI.out.2.1 HI.out.2.2.1 HI.out.2.2.2 rfl (by decide) _ ds.length (cellsOf .i64 ds) rfl (hown.alloc _) ⟨wr.heap.size, 0, none⟩ 1 1 [.int .i64 ((u : Int) % 65536)] rfl rfl (cell_one_new _ _ _) (by simp [Value.oneCell']) (by unfold maxLen; omega) (by omega) (by simp; omega) ?_; intro v1 w1 hown1 hg1 _)
     go_roundw
     case rel =>
      refine ⟨u / BD, ds ++ [u % BD], ?_, ?_, told_step htold, Nat.le_trans (Nat.div_le_self _ _) hun, by simp; omega, (hbel.alloc hsz _).grown hg1 (by simp; omega) (fun k hk => (hown.lt k hk).1)⟩
      · have := HU.out
        rw [IntWalk.u64_in _ (by omega), digit_div]
      · rw [List.length_append, List.length_singleton, ← cells_snoc .i64 ds (u % BD) _ (digit_mod u)]
        exact hown1
     case measure => have := HU.out; rw [IntWalk.u64_in _ (by omega)]; simp [intOf]; omega
   · obtain rfl : u = 0 := by omega
     have hbel' : Below (w.alloc (.cells #[.bool false, .slice none 0 0] 34)).heap.size (w.alloc (.cells #[.bool false, .slice none 0 0] 34)) wr := by rw [size_alloc]; exact hbel
     have k1 := H.out.step hbel' rfl (by simp)
     have hm := made_any false A c ds wr (Nums.of_own hown rfl) htold.1 (by omega) hle
     have HM := Lib.hid (And.intro hm htold)
     clear hm
     go_wp2_with fail
     refine HM.out.1.mono ?_
     rintro e w2 ⟨v2, rfl, ⟨b4, A4, c4, zs4, rfl, hsg4, hl4⟩, hb2⟩
     have k2 := k1.step hb2 rfl (by omega)
     obtain ⟨⟨hr0, hr1⟩, hf0, hf1⟩ := id k2
     go_wp2
     refine bodyPost_ret (v := .agg #[.bool b4, .slice A4 zs4.length c4]) (by simp [results, Tryz.results89, go_sem, hr0, hr1]) rfl ?_
     have hz : ofSign false (Lm.val BD ds) = (n : Int) := by rw [told_end HM.out.2]; rfl
     rw [hz] at hsg4 hl4
     exact ref_stored k2 hsg4 hl4 (below_then (below_then ((Below.refl _ _).alloc (Nat.le_refl _) _) hbel') hb2) (Nat.le_refl _)
theorem rshorter_lt {xs ys : List Nat} (hx : Lm.Ok BD xs) (ty : Lm.Top ys) (h : xs.length < ys.length) : Lm.val BD xs < Lm.val BD ys := by
  have h1 := Lm.val_lt hx
  have h2 := Lm.val_ge (b := BD) (by omega) ty
  have h3 : BD ^ xs.length ≤ BD ^ (ys.length - 1) := Nat.pow_le_pow_right BD_pos (by omega)
  omega
theorem rcompare_any (A : Option Addr) (c : Nat) (xs : List Nat) (A' : Option Addr) (c' : Nat) (ys : List Nat) (w : World) (hx : Nums w .i64 A xs) (hy : Nums w .i64 A' ys)
    (ox : Lm.Ok BD xs) (oy : Lm.Ok BD ys) (tx : Lm.Top xs) (ty : Lm.Top ys) (hl : xs.length ≤ 1000000) :
    Calls Tryz.prog 125 #[.slice A xs.length c, .slice A' ys.length c'] w fun e w' => IsOrd w w' (Lm.val BD xs) (Lm.val BD ys) e := by
  by_cases h1 : xs.length < ys.length
  · have ho := ord_lt (rshorter_lt ox ty h1)
    have HO := Lib.hid ho
    have hne : ((xs.length : Int) != (ys.length : Int)) = true := by rw [bne_iff_ne]; omega
    clear ho
    go_enter Tryz.func125, Tryz.ntmps125
    go_wp2
    go_ret
    exact ⟨.refl _, by rw [HO.out]; rfl⟩
  by_cases h2 : ys.length < xs.length
  · have ho := ord_gt (rshorter_lt oy tx h2)
    have HO := Lib.hid ho
    have hne : ((xs.length : Int) != (ys.length : Int)) = true := by rw [bne_iff_ne]; omega
    clear ho
    go_enter Tryz.func125, Tryz.ntmps125
    go_wp2
    go_ret
    exact ⟨.refl _, by rw [HO.out]; rfl⟩
  have hln : ys.length = xs.length := by omega
  have HL := Lib.hid hln
  rw [hln]
  clear hln h1 h2
  go_enter Tryz.func125, Tryz.ntmps125
  go_wp2
  go_loopw [5] (fun iv wr => ∃ k : Nat, iv = .int .i64 ((k : Int) - 1) ∧ k ≤ xs.length ∧ SameFrom xs ys k ∧ ∃ n, wr = w.drewN n) (fun iv _ => (intOf iv + 1).toNat)
  case atStart => exact ⟨xs.length, rfl, Nat.le_refl _, by unfold SameFrom; rw [List.drop_length, ← HL.out, List.drop_length], 0, rfl⟩
  case round =>
   obtain ⟨k, rfl, hk, hs, n, rfl⟩ := hrel
   by_cases h0 : 0 < k
   · obtain ⟨ad, rfl, _, hcx⟩ := hx.at_ (j := k - 1) (by omega)
     obtain ⟨ad', rfl, _, hcy⟩ := hy.at_ (j := k - 1) (by rw [HL.out]; omega)
     have hdx := hcx (k - 1) (by omega)
     have hdy := hcy (k - 1) (by rw [HL.out]; omega)
     clear hcx hcy
     obtain ⟨d, hd⟩ : ∃ d, xs.getD (k - 1) 0 = d := ⟨_, rfl⟩
     obtain ⟨y, hyd⟩ : ∃ y, ys.getD (k - 1) 0 = y := ⟨_, rfl⟩
     rw [hd] at hdx
     rw [hyd] at hdy
     have HD := Lib.hid hd
     have HY := Lib.hid hyd
     clear hd hyd
     obtain ⟨j, hj⟩ : ∃ j, k = j + 1 := ⟨k - 1, by omega⟩
     subst hj
     simp only [Nat.add_sub_cancel] at hdx hdy HD HY
     rw [show (((j + 1 : Nat) : Int) - 1) = (j : Int) from by omega]
     have hord : IsFirst xs ys j := ⟨by omega, by rw [HL.out]; omega, hs⟩
     clear hs
     by_cases hlt : d < y
     · go_wp2
       go_quiet (fail)
       go_wp2
       go_ret
       exact ⟨(Drew.mk _ _).more _, by rw [ord_lt (Lm.val_lt_of_top ox j hord.1 hord.2.1 hord.2.2 (by rw [HD.out, HY.out]; exact hlt))]; rfl⟩
     · by_cases hgt : y < d
       · go_wp2
         go_quiet (fail)
         go_wp2
         go_quiet (fail)
         go_wp2
         go_ret
         exact ⟨((Drew.mk _ _).more _).more _, by rw [ord_gt (Lm.val_lt_of_top oy j hord.2.1 hord.1 hord.2.2.symm (by rw [HD.out, HY.out]; exact hgt))]; rfl⟩
       · have heq : d = y := by omega
         subst heq
         go_wp2
         go_quiet (fail)
         go_wp2
         go_quiet (fail)
         go_wp2
         go_roundw
         case rel => exact ⟨j, rfl, by omega, same_down HL.out.symm (by omega) (k := j + 1) (by omega) hord.2.2 HD.out HY.out, _, rfl⟩
         case measure => simp [intOf]
   · obtain rfl : k = 0 := by omega
     have he : xs = ys := by simpa [SameFrom] using hs
     have HE := Lib.hid he
     clear he hs
     go_wp2
     go_ret
     exact ⟨.mk _ _, by rw [ord_eq (by rw [HE.out])]; rfl⟩
def IsDigL (w w' : World) (n l : Nat) (e : Ending) : Prop :=
  ∃ A c ds, e = .returned (.slice A (List.length ds) c) ∧ ds.length ≤ c ∧ Nums w' .i64 A ds ∧ Lm.Ok BD ds ∧ Lm.val BD ds = n ∧ ds.length ≤ l ∧ Below w.heap.size w w'
theorem val_take_any (b : Nat) (xs : List Nat) (k : Nat) : Lm.val b (xs.take (k + 1)) = Lm.val b (xs.take k) + b ^ k * xs.getD k 0 := by
  by_cases h : k < xs.length
  · exact Lm.val_take_succ b xs k h
  · rw [List.take_of_length_le (by omega), List.take_of_length_le (by omega), List.getD_eq_getElem?_getD, List.getElem?_eq_none (by omega)]
    simp
structure Plus (xs ys ds : List Nat) (i c : Nat) : Prop where
  len : ds.length = i
  ok : Lm.Ok BD ds
  carry : c ≤ 1
  sum : Lm.val BD ds + BD ^ i * c = Lm.val BD (xs.take i) + Lm.val BD (ys.take i)
theorem Plus.step {xs ys ds : List Nat} {i c x y t : Nat} (h : Plus xs ys ds i c) (hx : xs.getD i 0 = x) (hy : ys.getD i 0 = y) (ht : t = c + x + y) (lx : x < BD) (ly : y < BD) : Plus xs ys (ds ++ [t % BD]) (i + 1) (t / BD) := by
  refine ⟨by rw [List.length_append, List.length_singleton, h.len], h.ok.append (.cons (Nat.mod_lt _ BD_pos) (.nil _)), ?_, ?_⟩
  · have := h.carry
    unfold BD at *
    omega
  · rw [val_take_any, val_take_any, hx, hy, Lm.val_snoc, h.len, Nat.pow_succ, Nat.add_assoc, Nat.mul_assoc, ← Nat.mul_add, Nat.mod_add_div, ht, Nat.mul_add, Nat.mul_add]
    have := h.sum
    omega
theorem far_zero {xs : List Nat} {i : Nat} (h : ¬ i < xs.length) : xs.getD i 0 = 0 := by
  rw [List.getD_eq_getElem?_getD, List.getElem?_eq_none (by omega)]
  rfl
theorem dig_lt {xs : List Nat} (ho : Lm.Ok BD xs) (k : Nat) : xs.getD k 0 < BD := ho.getD BD_pos k
theorem plus_any (A : Option Addr) (c : Nat) (xs : List Nat) (A' : Option Addr) (c' : Nat) (ys : List Nat) (L : Nat) (w : World) (hx : Nums w .i64 A xs) (hy : Nums w .i64 A' ys)
    (ox : Lm.Ok BD xs) (oy : Lm.Ok BD ys) (lx : xs.length ≤ L) (ly : ys.length ≤ L) (hL : L ≤ 1000000) :
    Calls Tryz.prog 124 #[.slice A xs.length c, .slice A' ys.length c'] w fun e w' => IsDigL w w' (Lm.val BD xs + Lm.val BD ys) (L + 1) e := by
  obtain ⟨i0, hi0, hz0, hz1, hz2⟩ := info_parts Tryz.info3
  have HI := Lib.hid (And.intro hi0 (And.intro hz0 (And.intro hz1 hz2)))
  have HX := Lib.hid (And.intro hx (And.intro hy (And.intro ox oy)))
  clear hi0 hz0 hz1 hz2 hx hy ox oy
  go_enter Tryz.func124, Tryz.ntmps124
  go_wp2
  go_loopw [5, 6, 7] (fun ov cv iv wr => ∃ (i q : Nat) (ds : List Nat), wr.ownsRow w.heap.size 3 1 ov ds.length (cellsOf .i64 ds) ∧ cv = .int .i64 q ∧ iv = .int .i64 i ∧ Plus xs ys ds i q ∧ i ≤ L + 1 ∧ (i = L + 1 → q = 0) ∧ Below w.heap.size w wr) (fun _ _ iv _ => L + 1 - (intOf iv).toNat)
  case atStart => exact ⟨0, 0, [], World.ownsRow_nil _ _ _ _, rfl, rfl, ⟨rfl, .nil _, by omega, by simp [Lm.val]⟩, by omega, fun _ => rfl, Below.refl _ _⟩
  case round =>
   obtain ⟨i, q, ds, hown, rfl, rfl, hplus, hi, hend, hbel⟩ := hrel
   obtain ⟨A5, c5, rfl, hle⟩ := own_form hown
   have hsz : w.heap.size ≤ wr.heap.size := hbel.size
   have hdl : ds.length ≤ 1000001 := by rw [hplus.len]; omega
   have q0 : (0 : Int) ≤ (q : Int) := Int.natCast_nonneg q
   have q1 : (q : Int) ≤ 1 := by have := hplus.carry; omega
   have HPL := Lib.hid (And.intro hplus (And.intro hbel hend))
   clear hplus hbel hend
   by_cases hxi : i < xs.length
   · obtain ⟨ad, rfl, _, hcx⟩ := (HX.out.1.below HPL.out.2.1).at_ hxi
     have hdx := hcx i hxi
     have hlx := dig_lt HX.out.2.2.1 i
     clear hcx
     obtain ⟨x, hx⟩ : ∃ x, xs.getD i 0 = x := ⟨_, rfl⟩
     rw [hx] at hdx hlx
     have x0 : (0 : Int) ≤ (x : Int) := Int.natCast_nonneg x
     have x1 : (x : Int) ≤ 65535 := by unfold BD at hlx; omega
     have HXD := Lib.hid (And.intro hx hlx)
     clear hx hlx
     by_cases hyi : i < ys.length
     · skip
       obtain ⟨ad', rfl, _, hcy⟩ := (HX.out.2.1.below HPL.out.2.1).at_ hyi
       have hdy := hcy i hyi
       have hly := dig_lt HX.out.2.2.2 i
       clear hcy
       obtain ⟨y, hy⟩ : ∃ y, ys.getD i 0 = y := ⟨_, rfl⟩
       rw [hy] at hdy hly
       have y0 : (0 : Int) ≤ (y : Int) := Int.natCast_nonneg y
       have y1 : (y : Int) ≤ 65535 := by unfold BD at hly; omega
       have HYD := Lib.hid (And.intro hy hly)
       clear hy hly
       go_wp2_with (at_builtin; refine wpList_append_own _ rfl _ _ 32 rfl w.heap.size 3 i0 (.int .i64 0) 1 8 Tryz.underlying32 HI.out.1 HI.out.2.1 HI.out.2.2.1 HI.out.2.2.2 rfl (by decide) _ ds.length (cellsOf .i64 ds) rfl (hown.alloc _) ⟨wr.heap.size, 0, none⟩ 1 1 [.int .i64 (((q : Int) + (x : Int) + (y : Int)) % 65536)] rfl rfl (cell_one_new _ _ _) (by simp [Value.oneCell']) (by unfold maxLen; omega) (by omega) (by simp; omega) ?_; intro v1 w1 hown1 hg1 _)
       go_roundw
       case rel =>
        have hst := HPL.out.1.step HXD.out.1 HYD.out.1 (t := q + x + y) (by omega) HXD.out.2 HYD.out.2
        refine ⟨i + 1, (q + x + y) / BD, ds ++ [(q + x + y) % BD], ?_, ?_, by go_num, hst, by omega, ?_, (HPL.out.2.1.alloc hsz _).grown hg1 (by simp; omega) (fun k hk => (hown.lt k hk).1)⟩
        · rw [List.length_append, List.length_singleton, ← cells_snoc .i64 ds ((q + x + y) % BD) (((q : Int) + (x : Int) + (y : Int)) % 65536) (by unfold BD; omega)]
          exact hown1
        · exact congrArg (Value.int IntKind.i64) (by unfold BD; omega)
        · intro h; exact absurd h (by omega)
       case measure => simp [intOf]; omega
     · have hfy := far_zero hyi
       have HYD := Lib.hid (And.intro hfy BD_pos)
       clear hfy
       go_wp2_with (at_builtin; refine wpList_append_own _ rfl _ _ 32 rfl w.heap.size 3 i0 (.int .i64 0) 1 8 Tryz.underlying32 HI.out.1 HI.out.2.1 HI.out.2.2.1 HI.out.2.2.2 rfl (by decide) _ ds.length (cellsOf .i64 ds) rfl (hown.alloc _) ⟨wr.heap.size, 0, none⟩ 1 1 [.int .i64 (((q : Int) + (x : Int)) % 65536)] rfl rfl (cell_one_new _ _ _) (by simp [Value.oneCell']) (by unfold maxLen; omega) (by omega) (by simp; omega) ?_; intro v1 w1 hown1 hg1 _)
       go_roundw
       case rel =>
        have hst := HPL.out.1.step HXD.out.1 HYD.out.1 (t := q + x) (by omega) HXD.out.2 HYD.out.2
        refine ⟨i + 1, (q + x) / BD, ds ++ [(q + x) % BD], ?_, ?_, by go_num, hst, by omega, ?_, (HPL.out.2.1.alloc hsz _).grown hg1 (by simp; omega) (fun k hk => (hown.lt k hk).1)⟩
        · rw [List.length_append, List.length_singleton, ← cells_snoc .i64 ds ((q + x) % BD) (((q : Int) + (x : Int)) % 65536) (by unfold BD; omega)]
          exact hown1
        · exact congrArg (Value.int IntKind.i64) (by unfold BD; omega)
        · intro h; exact absurd h (by omega)
       case measure => simp [intOf]; omega
   · have hfx := far_zero hxi
     have HXD := Lib.hid (And.intro hfx BD_pos)
     clear hfx
     by_cases hyi : i < ys.length
     · skip
       obtain ⟨ad', rfl, _, hcy⟩ := (HX.out.2.1.below HPL.out.2.1).at_ hyi
       have hdy := hcy i hyi
       have hly := dig_lt HX.out.2.2.2 i
       clear hcy
       obtain ⟨y, hy⟩ : ∃ y, ys.getD i 0 = y := ⟨_, rfl⟩
       rw [hy] at hdy hly
       have y0 : (0 : Int) ≤ (y : Int) := Int.natCast_nonneg y
       have y1 : (y : Int) ≤ 65535 := by unfold BD at hly; omega
       have HYD := Lib.hid (And.intro hy hly)
       clear hy hly
       go_wp2_with (at_builtin; refine wpList_append_own _ rfl _ _ 32 rfl w.heap.size 3 i0 (.int .i64 0) 1 8 Tryz.underlying32 HI.out.1 HI.out.2.1 HI.out.2.2.1 HI.out.2.2.2 rfl (by decide) _ ds.length (cellsOf .i64 ds) rfl (hown.alloc _) ⟨wr.heap.size, 0, none⟩ 1 1 [.int .i64 (((q : Int) + (y : Int)) % 65536)] rfl rfl (cell_one_new _ _ _) (by simp [Value.oneCell']) (by unfold maxLen; omega) (by omega) (by simp; omega) ?_; intro v1 w1 hown1 hg1 _)
       go_roundw
       case rel =>
        have hst := HPL.out.1.step HXD.out.1 HYD.out.1 (t := q + y) (by omega) HXD.out.2 HYD.out.2
        refine ⟨i + 1, (q + y) / BD, ds ++ [(q + y) % BD], ?_, ?_, by go_num, hst, by omega, ?_, (HPL.out.2.1.alloc hsz _).grown hg1 (by simp; omega) (fun k hk => (hown.lt k hk).1)⟩
        · rw [List.length_append, List.length_singleton, ← cells_snoc .i64 ds ((q + y) % BD) (((q : Int) + (y : Int)) % 65536) (by unfold BD; omega)]
          exact hown1
        · exact congrArg (Value.int IntKind.i64) (by unfold BD; omega)
        · intro h; exact absurd h (by omega)
       case measure => simp [intOf]; omega
     · have hfy := far_zero hyi
       have HYD := Lib.hid (And.intro hfy BD_pos)
       clear hfy
       by_cases hq : 0 < q
       · obtain rfl : q = 1 := by omega
         have HEQ := Lib.hid (show i ≤ L by have := HPL.out.2.2; omega)
         go_wp2_with (at_builtin; refine wpList_append_own _ rfl _ _ 32 rfl w.heap.size 3 i0 (.int .i64 0) 1 8 Tryz.underlying32 HI.out.1 HI.out.2.1 HI.out.2.2.1 HI.out.2.2.2 rfl (by decide) _ ds.length (cellsOf .i64 ds) rfl (hown.alloc _) ⟨wr.heap.size, 0, none⟩ 1 1 [.int .i64 1] rfl rfl (cell_one_new _ _ _) (by simp [Value.oneCell']) (by unfold maxLen; omega) (by omega) (by simp; omega) ?_; intro v1 w1 hown1 hg1 _)
         go_roundw
         case rel =>
          have hst := HPL.out.1.step HXD.out.1 HYD.out.1 (t := 1) (by rfl) HXD.out.2 HYD.out.2
          refine ⟨i + 1, (1) / BD, ds ++ [(1) % BD], ?_, ?_, by go_num, hst, by have := HEQ.out; omega, ?_, (HPL.out.2.1.alloc hsz _).grown hg1 (by simp; omega) (fun k hk => (hown.lt k hk).1)⟩
          · rw [List.length_append, List.length_singleton, ← cells_snoc .i64 ds ((1) % BD) 1 (by unfold BD; rfl)]
            exact hown1
          · exact congrArg (Value.int IntKind.i64) (by unfold BD; rfl)
          · intro _; unfold BD; rfl
         case measure => have := HEQ.out; simp [intOf]; omega
       · obtain rfl : q = 0 := by omega
         have HQ := Lib.hid (And.intro hxi hyi)
         go_wp2
         go_ret
         refine ⟨A5, c5, ds, rfl, hle, Nums.of_own hown rfl, HPL.out.1.ok, ?_, by have := HPL.out.1.len; omega, HPL.out.2.1⟩
         have := HPL.out.1.sum
         rw [List.take_of_length_le (by have := HQ.out.1; omega), List.take_of_length_le (by have := HQ.out.2; omega)] at this
         omega
structure Minus (xs ys ds : List Nat) (i q : Nat) : Prop where
  len : ds.length = i
  ok : Lm.Ok BD ds
  borrow : q ≤ 1
  sum : Lm.val BD ds + Lm.val BD (ys.take i) = Lm.val BD (xs.take i) + BD ^ i * q
theorem Minus.step {xs ys ds : List Nat} {i q x y d r : Nat} (h : Minus xs ys ds i q) (hx : xs.getD i 0 = x) (hy : ys.getD i 0 = y) (hd : d + q + y = x + BD * r) (ld : d < BD) (lr : r ≤ 1) : Minus xs ys (ds ++ [d]) (i + 1) r := by
  refine ⟨by rw [List.length_append, List.length_singleton, h.len], h.ok.append (.cons ld (.nil _)), lr, ?_⟩
  rw [val_take_any, val_take_any, hx, hy, Lm.val_snoc, h.len, Nat.pow_succ, Nat.mul_assoc]
  have h1 : BD ^ i * (d + q + y) = BD ^ i * (x + BD * r) := by rw [hd]
  rw [Nat.mul_add, Nat.mul_add, Nat.mul_add] at h1
  have := h.sum
  omega
theorem Minus.done_ {xs ys ds : List Nat} {q : Nat} (h : Minus xs ys ds xs.length q) (hl : ys.length ≤ xs.length) (hv : Lm.val BD ys ≤ Lm.val BD xs) : Lm.val BD ds = Lm.val BD xs - Lm.val BD ys := by
  have h1 := h.sum
  rw [List.take_length, List.take_of_length_le hl] at h1
  have h2 := Lm.val_lt h.ok
  rw [h.len] at h2
  have h3 := h.borrow
  rcases (show q = 0 ∨ q = 1 by omega) with rfl | rfl
  · omega
  · omega
def IsDigs (w w' : World) (n l : Nat) (e : Ending) : Prop :=
  ∃ A c ds, e = .returned (.slice A (List.length ds) c) ∧ Digs w' A c ds n ∧ ds.length ≤ l ∧ Below w.heap.size w w'
theorem minus_any (A : Option Addr) (c : Nat) (xs : List Nat) (A' : Option Addr) (c' : Nat) (ys : List Nat) (w : World) (hx : Nums w .i64 A xs) (hy : Nums w .i64 A' ys)
    (ox : Lm.Ok BD xs) (oy : Lm.Ok BD ys) (hl : ys.length ≤ xs.length) (hL : xs.length ≤ 1000000) (hv : Lm.val BD ys ≤ Lm.val BD xs) :
    Calls Tryz.prog 126 #[.slice A xs.length c, .slice A' ys.length c'] w fun e w' => IsDigs w w' (Lm.val BD xs - Lm.val BD ys) xs.length e := by
  obtain ⟨i0, hi0, hz0, hz1, hz2⟩ := info_parts Tryz.info3
  have HI := Lib.hid (And.intro hi0 (And.intro hz0 (And.intro hz1 hz2)))
  have HX := Lib.hid (And.intro hx (And.intro hy (And.intro ox (And.intro oy hv))))
  clear hi0 hz0 hz1 hz2 hx hy ox oy hv
  go_enter Tryz.func126, Tryz.ntmps126
  go_wp2
  go_loopw [5, 6, 7] (fun ov cv iv wr => ∃ (i q : Nat) (ds : List Nat), wr.ownsRow w.heap.size 3 1 ov ds.length (cellsOf .i64 ds) ∧ cv = .int .i64 q ∧ iv = .int .i64 i ∧ Minus xs ys ds i q ∧ i ≤ xs.length ∧ Below w.heap.size w wr) (fun _ _ iv _ => xs.length - (intOf iv).toNat)
  case atStart => exact ⟨0, 0, [], World.ownsRow_nil _ _ _ _, rfl, rfl, ⟨rfl, .nil _, by omega, by simp [Lm.val]⟩, Nat.zero_le _, Below.refl _ _⟩
  case round =>
   obtain ⟨i, q, ds, hown, rfl, rfl, hminus, hi, hbel⟩ := hrel
   obtain ⟨A5, c5, rfl, hle⟩ := own_form hown
   have hsz : w.heap.size ≤ wr.heap.size := hbel.size
   have hdl : ds.length ≤ 1000000 := by rw [hminus.len]; omega
   have q0 : (0 : Int) ≤ (q : Int) := Int.natCast_nonneg q
   have q1 : (q : Int) ≤ 1 := by have := hminus.borrow; omega
   have HPL := Lib.hid (And.intro hminus hbel)
   clear hminus hbel
   by_cases hxi : i < xs.length
   · obtain ⟨ad, rfl, _, hcx⟩ := (HX.out.1.below HPL.out.2).at_ hxi
     have hdx := hcx i hxi
     have hlx := dig_lt HX.out.2.2.1 i
     clear hcx
     obtain ⟨x, hx⟩ : ∃ x, xs.getD i 0 = x := ⟨_, rfl⟩
     rw [hx] at hdx hlx
     have x0 : (0 : Int) ≤ (x : Int) := Int.natCast_nonneg x
     have x1 : (x : Int) ≤ 65535 := by unfold BD at hlx; omega
     have HXD := Lib.hid (And.intro hx hlx)
     clear hx hlx
     by_cases hyi : i < ys.length
     · obtain ⟨ad', rfl, _, hcy⟩ := (HX.out.2.1.below HPL.out.2).at_ hyi
       have hdy := hcy i hyi
       have hly := dig_lt HX.out.2.2.2.1 i
       clear hcy
       obtain ⟨y, hy⟩ : ∃ y, ys.getD i 0 = y := ⟨_, rfl⟩
       rw [hy] at hdy hly
       have y0 : (0 : Int) ≤ (y : Int) := Int.natCast_nonneg y
       have y1 : (y : Int) ≤ 65535 := by unfold BD at hly; omega
       have HYD := Lib.hid (And.intro hy hly)
       clear hy hly
       by_cases hneg : ((x : Int) - (q : Int) - (y : Int)) < 0
       · have HN := Lib.hid (show x < q + y by omega)
         go_wp2_with (at_builtin; refine wpList_append_own _ rfl _ _ 32 rfl w.heap.size 3 i0 (.int .i64 0) 1 8 Tryz.underlying32 HI.out.1 HI.out.2.1 HI.out.2.2.1 HI.out.2.2.2 rfl (by decide) _ ds.length (cellsOf .i64 ds) rfl (hown.alloc _) ⟨wr.heap.size, 0, none⟩ 1 1 [.int .i64 (((x : Int) - (q : Int) - (y : Int)) + 65536)] rfl rfl (cell_one_new _ _ _) (by simp [Value.oneCell']) (by unfold maxLen; omega) (by omega) (by simp; omega) ?_; intro v1 w1 hown1 hg1 _)
         go_roundw
         case rel =>
          have hst := HPL.out.1.step HXD.out.1 HYD.out.1 (d := (x + BD - q - y)) (r := 1) (by (try unfold BD); have := HN.out; have := HXD.out.2; have := HYD.out.2; unfold BD at *; omega) (by (try unfold BD); have := HN.out; have := HXD.out.2; have := HYD.out.2; unfold BD at *; omega) (by omega)
          refine ⟨i + 1, 1, ds ++ [(x + BD - q - y)], ?_, rfl, by go_num, hst, by omega, (HPL.out.2.alloc hsz _).grown hg1 (by simp; omega) (fun k hk => (hown.lt k hk).1)⟩
          rw [List.length_append, List.length_singleton, ← cells_snoc .i64 ds (x + BD - q - y) (((x : Int) - (q : Int) - (y : Int)) + 65536) (by (try unfold BD); have := HN.out; have := HXD.out.2; have := HYD.out.2; unfold BD at *; omega)]
          exact hown1
         case measure => simp [intOf]; omega
       · have hneg' : (0 : Int) ≤ ((x : Int) - (q : Int) - (y : Int)) := by omega
         have HN := Lib.hid (show q + y ≤ x by omega)
         go_wp2_with (at_builtin; refine wpList_append_own _ rfl _ _ 32 rfl w.heap.size 3 i0 (.int .i64 0) 1 8 Tryz.underlying32 HI.out.1 HI.out.2.1 HI.out.2.2.1 HI.out.2.2.2 rfl (by decide) _ ds.length (cellsOf .i64 ds) rfl (hown.alloc _) ⟨wr.heap.size, 0, none⟩ 1 1 [.int .i64 ((x : Int) - (q : Int) - (y : Int))] rfl rfl (cell_one_new _ _ _) (by simp [Value.oneCell']) (by unfold maxLen; omega) (by omega) (by simp; omega) ?_; intro v1 w1 hown1 hg1 _)
         go_roundw
         case rel =>
          have hst := HPL.out.1.step HXD.out.1 HYD.out.1 (d := (x - q - y)) (r := 0) (by (try unfold BD); have := HN.out; have := HXD.out.2; have := HYD.out.2; unfold BD at *; omega) (by (try unfold BD); have := HN.out; have := HXD.out.2; have := HYD.out.2; unfold BD at *; omega) (by omega)
          refine ⟨i + 1, 0, ds ++ [(x - q - y)], ?_, rfl, by go_num, hst, by omega, (HPL.out.2.alloc hsz _).grown hg1 (by simp; omega) (fun k hk => (hown.lt k hk).1)⟩
          rw [List.length_append, List.length_singleton, ← cells_snoc .i64 ds (x - q - y) ((x : Int) - (q : Int) - (y : Int)) (by (try unfold BD); have := HN.out; have := HXD.out.2; have := HYD.out.2; unfold BD at *; omega)]
          exact hown1
         case measure => simp [intOf]; omega
     · have hfy := far_zero hyi
       have HYD := Lib.hid (And.intro hfy BD_pos)
       clear hfy
       by_cases hneg : ((x : Int) - (q : Int)) < 0
       · have HN := Lib.hid (show x < q + 0 by omega)
         go_wp2_with (at_builtin; refine wpList_append_own _ rfl _ _ 32 rfl w.heap.size 3 i0 (.int .i64 0) 1 8 Tryz.underlying32 HI.out.1 HI.out.2.1 HI.out.2.2.1 HI.out.2.2.2 rfl (by decide) _ ds.length (cellsOf .i64 ds) rfl (hown.alloc _) ⟨wr.heap.size, 0, none⟩ 1 1 [.int .i64 (((x : Int) - (q : Int)) + 65536)] rfl rfl (cell_one_new _ _ _) (by simp [Value.oneCell']) (by unfold maxLen; omega) (by omega) (by simp; omega) ?_; intro v1 w1 hown1 hg1 _)
         go_roundw
         case rel =>
          have hst := HPL.out.1.step HXD.out.1 HYD.out.1 (d := (x + BD - q - 0)) (r := 1) (by (try unfold BD); have := HN.out; have := HXD.out.2; have := HYD.out.2; unfold BD at *; omega) (by (try unfold BD); have := HN.out; have := HXD.out.2; have := HYD.out.2; unfold BD at *; omega) (by omega)
          refine ⟨i + 1, 1, ds ++ [(x + BD - q - 0)], ?_, rfl, by go_num, hst, by omega, (HPL.out.2.alloc hsz _).grown hg1 (by simp; omega) (fun k hk => (hown.lt k hk).1)⟩
          rw [List.length_append, List.length_singleton, ← cells_snoc .i64 ds (x + BD - q - 0) (((x : Int) - (q : Int)) + 65536) (by (try unfold BD); have := HN.out; have := HXD.out.2; have := HYD.out.2; unfold BD at *; omega)]
          exact hown1
         case measure => simp [intOf]; omega
       · have hneg' : (0 : Int) ≤ ((x : Int) - (q : Int)) := by omega
         have HN := Lib.hid (show q + 0 ≤ x by omega)
         go_wp2_with (at_builtin; refine wpList_append_own _ rfl _ _ 32 rfl w.heap.size 3 i0 (.int .i64 0) 1 8 Tryz.underlying32 HI.out.1 HI.out.2.1 HI.out.2.2.1 HI.out.2.2.2 rfl (by decide) _ ds.length (cellsOf .i64 ds) rfl (hown.alloc _) ⟨wr.heap.size, 0, none⟩ 1 1 [.int .i64 ((x : Int) - (q : Int))] rfl rfl (cell_one_new _ _ _) (by simp [Value.oneCell']) (by unfold maxLen; omega) (by omega) (by simp; omega) ?_; intro v1 w1 hown1 hg1 _)
         go_roundw
         case rel =>
          have hst := HPL.out.1.step HXD.out.1 HYD.out.1 (d := (x - q - 0)) (r := 0) (by (try unfold BD); have := HN.out; have := HXD.out.2; have := HYD.out.2; unfold BD at *; omega) (by (try unfold BD); have := HN.out; have := HXD.out.2; have := HYD.out.2; unfold BD at *; omega) (by omega)
          refine ⟨i + 1, 0, ds ++ [(x - q - 0)], ?_, rfl, by go_num, hst, by omega, (HPL.out.2.alloc hsz _).grown hg1 (by simp; omega) (fun k hk => (hown.lt k hk).1)⟩
          rw [List.length_append, List.length_singleton, ← cells_snoc .i64 ds (x - q - 0) ((x : Int) - (q : Int)) (by (try unfold BD); have := HN.out; have := HXD.out.2; have := HYD.out.2; unfold BD at *; omega)]
          exact hown1
         case measure => simp [intOf]; omega
   · obtain rfl : i = xs.length := by omega
     have htr := trimmed_any A5 c5 ds wr (Nums.of_own hown rfl) (by omega) hle
     have HT := Lib.hid (And.intro htr (Nums.of_own hown rfl : Nums wr .i64 A5 ds))
     have HLE := Lib.hid hle
     clear htr hle
     go_wp2_with fail
     refine HT.out.1.mono ?_
     rintro e w' ⟨rfl, n, rfl, hn, hz, hp⟩
     have HZ := Lib.hid (And.intro hz hp)
     clear hz hp
     go_wp2
     go_ret
     have hd := digs_take HT.out.2 HPL.out.1.ok HLE.out hn HZ.out.1 HZ.out.2
     rw [HPL.out.1.done_ hl HX.out.2.2.2.2] at hd
     have hlen : (ds.take n).length = n := by rw [List.length_take]; omega
     refine ⟨A5, c5, ds.take n, by rw [hlen]; rfl, hd, by have := HPL.out.1.len; rw [hlen]; omega, HPL.out.2⟩
theorem Digs.len {w : World} {A : Option Addr} {c n m : Nat} {ds : List Nat} (h : Digs w A c ds n) (hs : n < BD ^ m) : ds.length ≤ m := by
  rcases Nat.lt_or_ge m ds.length with hlt | hge
  · have h1 := Lm.val_ge (b := BD) (Nat.lt_of_le_of_lt (Nat.zero_le _) hlt) h.2.2.2.1
    rw [h.2.2.2.2] at h1
    have h2 : BD ^ m ≤ BD ^ (ds.length - 1) := Nat.pow_le_pow_right BD_pos (by omega)
    omega
  · exact hge
theorem Digs.shorter {w : World} {A A' : Option Addr} {c c' n n' : Nat} {zs zs' : List Nat} (h : Digs w A c zs n) (h' : Digs w A' c' zs' n') (hle : n' ≤ n) : zs'.length ≤ zs.length :=
  Lm.len_of_val BD_one h.2.2.1 h'.2.2.2.1 (by rw [h.2.2.2.2, h'.2.2.2.2]; exact hle)
theorem made_to (b : Bool) (A : Option Addr) (c : Nat) (xs : List Nat) (z : Int) (w : World) (h : Nums w .i64 A xs) (ho : Lm.Ok BD xs) (hl : xs.length ≤ 1000000) (hc : xs.length ≤ c) (hz : ofSign b (Lm.val BD xs) = z) :
    Calls Tryz.prog 118 #[.bool b, .slice A xs.length c] w fun e w' => IsRef w w' z e := by
  subst hz
  exact made_any b A c xs w h ho hl hc
theorem rcompare_ge (A : Option Addr) (c : Nat) (xs : List Nat) (A' : Option Addr) (c' : Nat) (ys : List Nat) (w : World) (hx : Nums w .i64 A xs) (hy : Nums w .i64 A' ys)
    (ox : Lm.Ok BD xs) (oy : Lm.Ok BD ys) (tx : Lm.Top xs) (ty : Lm.Top ys) (hl : xs.length ≤ 1000000) (h : Lm.val BD ys ≤ Lm.val BD xs) :
    Calls Tryz.prog 125 #[.slice A xs.length c, .slice A' ys.length c'] w fun e w' => Drew w w' ∧ ∃ k : Int, 0 ≤ k ∧ e = .returned (.int .i64 k) :=
  (rcompare_any A c xs A' c' ys w hx hy ox oy tx ty hl).mono fun _ _ ⟨hd, he⟩ => ⟨hd, _, ord_nonneg h, he⟩
theorem rcompare_lt (A : Option Addr) (c : Nat) (xs : List Nat) (A' : Option Addr) (c' : Nat) (ys : List Nat) (w : World) (hx : Nums w .i64 A xs) (hy : Nums w .i64 A' ys)
    (ox : Lm.Ok BD xs) (oy : Lm.Ok BD ys) (tx : Lm.Top xs) (ty : Lm.Top ys) (hl : xs.length ≤ 1000000) (h : Lm.val BD xs < Lm.val BD ys) :
    Calls Tryz.prog 125 #[.slice A xs.length c, .slice A' ys.length c'] w fun e w' => Drew w w' ∧ e = .returned (.int .i64 (-1)) :=
  (rcompare_any A c xs A' c' ys w hx hy ox oy tx ty hl).mono fun _ _ ⟨hd, he⟩ => ⟨hd, by rw [he, ord_lt h]⟩
theorem radd_alike (b : Bool) (A1 : Option Addr) (c1 : Nat) (zs1 : List Nat) (A2 : Option Addr) (c2 : Nat) (zs2 : List Nat) (x y : Int) (w : World) (hs1 : SignOf b x) (hs2 : SignOf b y)
    (h1 : Digs w A1 c1 zs1 x.natAbs) (h2 : Digs w A2 c2 zs2 y.natAbs) (hl1 : zs1.length ≤ 900000) (hl2 : zs2.length ≤ 900000) :
    Calls Tryz.prog 88 #[.agg #[.bool b, .slice A1 zs1.length c1], .agg #[.bool b, .slice A2 zs2.length c2]] w fun e w' => IsRef w w' (x + y) e := by
  have hbb := begun2_below w (.bool b) (.slice A1 zs1.length c1) (.bool b) (.slice A2 zs2.length c2) 34
  have hx0 := begun2_x w (.bool b) (.slice A1 zs1.length c1) (.bool b) (.slice A2 zs2.length c2) 34
  have hy0 := begun2_y w (.bool b) (.slice A1 zs1.length c1) (.bool b) (.slice A2 zs2.length c2) 34
  have hr0 := begun2_r w (.bool b) (.slice A1 zs1.length c1) (.bool b) (.slice A2 zs2.length c2) 34
  have hsz := begun2_size w (.bool b) (.slice A1 zs1.length c1) (.bool b) (.slice A2 zs2.length c2) 34
  have hn1 := h1.2.1.below hbb
  have hn2 := h2.2.1.below hbb
  have H := Lib.hid (And.intro hbb (And.intro hx0 (And.intro hy0 (And.intro hr0 hsz))))
  clear hbb hx0 hy0 hr0 hsz
  go_enter Tryz.func88, Tryz.ntmps88
  go_wp2_with fail
  go_region_held3 (fun w' => w'.cell? ⟨w.heap.size, 0, none⟩ = some (.bool b) ∧ w'.cell? ⟨w.heap.size, 1, none⟩ = some (.slice A1 zs1.length c1) ∧ w'.cell? ⟨w.heap.size + 1, 0, none⟩ = some (.bool b) ∧ w'.cell? ⟨w.heap.size + 1, 1, none⟩ = some (.slice A2 zs2.length c2))
    (((try dsimp only); (repeat' apply And.intro) <;> (first | (with_reducible assumption) | go_keep)))
    ((first | (go_at_call 124; refine (plus_any A1 c1 zs1 A2 c2 zs2 900000 _ (by exact hn1) (by exact hn2) h1.2.2.1 h2.2.2.1 hl1 hl2 (by decide)).mono ?_; rintro e w1 ⟨A3, c3, zs3, rfl, hc3, hn3, ho3, hv3, hle3', hb1⟩; have k1x := H.out.2.1.step hb1 rfl (by rw [H.out.2.2.2.2]; (try omega)); have k1y := H.out.2.2.1.step hb1 rfl (by rw [H.out.2.2.2.2]; (try omega)); have k1r := H.out.2.2.2.1.step hb1 rfl (by rw [H.out.2.2.2.2]; (try omega)); obtain ⟨px0, px1⟩ := id k1x; obtain ⟨py0, py1⟩ := id k1y; have hle3 : zs3.length ≤ 1000000 := (by omega); have hs1' : w.heap.size + 3 ≤ w1.heap.size := Nat.le_trans (Nat.le_of_eq H.out.2.2.2.2.symm) hb1.size) | (go_at_call 118; refine (made_to b A3 c3 zs3 (x + y) _ (by exact hn3) ho3 hle3 hc3 (by rw [hv3, h1.2.2.2.2, h2.2.2.2.2]; exact add_same hs1 hs2)).mono ?_; rintro e w2 ⟨v2, rfl, ⟨b4, A4, c4, zs4, rfl, hsg4, hl4⟩, hb2⟩; have k2x := k1x.step hb2 rfl (by omega); have k2y := k1y.step hb2 rfl (by omega); have k2r := k1r.step hb2 rfl (by omega); obtain ⟨hx0, hx1⟩ := id k2x; obtain ⟨hy0, hy1⟩ := id k2y; obtain ⟨⟨hr0, hr1⟩, hf0, hf1⟩ := id k2r; obtain ⟨qx0, qx1⟩ := k2x.far (r := w.heap.size + 1 + 1) (by omega) (.bool b4) (.slice A4 zs4.length c4); obtain ⟨qy0, qy1⟩ := k2y.far (r := w.heap.size + 1 + 1) (by omega) (.bool b4) (.slice A4 zs4.length c4))))
  go_wp2
  refine bodyPost_ret (v := .agg #[.bool b4, .slice A4 zs4.length c4]) (by simp [results, Tryz.results88, go_sem, hr0, hr1]) rfl ?_
  exact ref_stored k2r hsg4 hl4 (below_then (below_then H.out.1.drew hb1) hb2) (by omega)
theorem radd_ge (b1 b2 : Bool) (A1 : Option Addr) (c1 : Nat) (zs1 : List Nat) (A2 : Option Addr) (c2 : Nat) (zs2 : List Nat) (x y : Int) (w : World) (hs1 : SignOf b1 x) (hs2 : SignOf b2 y) (hne : (b1 == b2) = false) (hge : y.natAbs ≤ x.natAbs)
    (h1 : Digs w A1 c1 zs1 x.natAbs) (h2 : Digs w A2 c2 zs2 y.natAbs) (hl1 : zs1.length ≤ 900000) (_hl2 : zs2.length ≤ 900000) :
    Calls Tryz.prog 88 #[.agg #[.bool b1, .slice A1 zs1.length c1], .agg #[.bool b2, .slice A2 zs2.length c2]] w fun e w' => IsRef w w' (x + y) e := by
  have hbb := begun2_below w (.bool b1) (.slice A1 zs1.length c1) (.bool b2) (.slice A2 zs2.length c2) 34
  have hx0 := begun2_x w (.bool b1) (.slice A1 zs1.length c1) (.bool b2) (.slice A2 zs2.length c2) 34
  have hy0 := begun2_y w (.bool b1) (.slice A1 zs1.length c1) (.bool b2) (.slice A2 zs2.length c2) 34
  have hr0 := begun2_r w (.bool b1) (.slice A1 zs1.length c1) (.bool b2) (.slice A2 zs2.length c2) 34
  have hsz := begun2_size w (.bool b1) (.slice A1 zs1.length c1) (.bool b2) (.slice A2 zs2.length c2) 34
  have hn1 := h1.2.1.below hbb
  have hn2 := h2.2.1.below hbb
  have H := Lib.hid (And.intro hbb (And.intro hx0 (And.intro hy0 (And.intro hr0 hsz))))
  clear hbb hx0 hy0 hr0 hsz
  go_enter Tryz.func88, Tryz.ntmps88
  go_wp2_with fail
  refine (rcompare_ge A1 c1 zs1 A2 c2 zs2 _ (by exact hn1) (by exact hn2) h1.2.2.1 h2.2.2.1 h1.2.2.2.1 h2.2.2.2.1 (by omega) (by rw [h1.2.2.2.2, h2.2.2.2.2]; exact hge)).mono ?_
  rintro e w' ⟨⟨n, rfl⟩, k, hk, rfl⟩
  go_wp2_with fail
  go_region_held3 (fun w' => w'.cell? ⟨w.heap.size, 0, none⟩ = some (.bool b1) ∧ w'.cell? ⟨w.heap.size, 1, none⟩ = some (.slice A1 zs1.length c1) ∧ w'.cell? ⟨w.heap.size + 1, 0, none⟩ = some (.bool b2) ∧ w'.cell? ⟨w.heap.size + 1, 1, none⟩ = some (.slice A2 zs2.length c2))
    (((try dsimp only); (repeat' apply And.intro) <;> (first | (with_reducible assumption) | go_keep)))
    ((first | (go_at_call 126; refine (minus_any A1 c1 zs1 A2 c2 zs2 _ (by exact hn1) (by exact hn2) h1.2.2.1 h2.2.2.1 (h1.shorter h2 hge) (by omega) (by rw [h1.2.2.2.2, h2.2.2.2.2]; exact hge)).mono ?_; rintro e w1 ⟨A3, c3, zs3, rfl, hl3, hle3', hb1⟩; have k1x := H.out.2.1.step hb1 rfl (by rw [H.out.2.2.2.2]; (try omega)); have k1y := H.out.2.2.1.step hb1 rfl (by rw [H.out.2.2.2.2]; (try omega)); have k1r := H.out.2.2.2.1.step hb1 rfl (by rw [H.out.2.2.2.2]; (try omega)); obtain ⟨px0, px1⟩ := id k1x; obtain ⟨py0, py1⟩ := id k1y; have hle3 : zs3.length ≤ 1000000 := (by omega); have hs1' : w.heap.size + 3 ≤ w1.heap.size := Nat.le_trans (Nat.le_of_eq H.out.2.2.2.2.symm) hb1.size) | (go_at_call 118; refine (made_to b1 A3 c3 zs3 (x + y) _ (by exact hl3.2.1) hl3.2.2.1 hle3 hl3.1 (by rw [hl3.2.2.2.2, h1.2.2.2.2, h2.2.2.2.2]; exact add_parts hs1 hs2 hne hge)).mono ?_; rintro e w2 ⟨v2, rfl, ⟨b4, A4, c4, zs4, rfl, hsg4, hl4⟩, hb2⟩; have k2x := k1x.step hb2 rfl (by omega); have k2y := k1y.step hb2 rfl (by omega); have k2r := k1r.step hb2 rfl (by omega); obtain ⟨hx0, hx1⟩ := id k2x; obtain ⟨hy0, hy1⟩ := id k2y; obtain ⟨⟨hr0, hr1⟩, hf0, hf1⟩ := id k2r; obtain ⟨qx0, qx1⟩ := k2x.far (r := w.heap.size + 1 + 1) (by omega) (.bool b4) (.slice A4 zs4.length c4); obtain ⟨qy0, qy1⟩ := k2y.far (r := w.heap.size + 1 + 1) (by omega) (.bool b4) (.slice A4 zs4.length c4))))
  go_wp2
  refine bodyPost_ret (v := .agg #[.bool b4, .slice A4 zs4.length c4]) (by simp [results, Tryz.results88, go_sem, hr0, hr1]) rfl ?_
  exact ref_stored k2r hsg4 hl4 (below_then (begun_then H.out.1 hb1 rfl rfl rfl rfl) hb2) (by omega)
theorem radd_lt (b1 b2 : Bool) (A1 : Option Addr) (c1 : Nat) (zs1 : List Nat) (A2 : Option Addr) (c2 : Nat) (zs2 : List Nat) (x y : Int) (w : World) (hs1 : SignOf b1 x) (hs2 : SignOf b2 y) (hne : (b1 == b2) = false) (hlt : x.natAbs < y.natAbs)
    (h1 : Digs w A1 c1 zs1 x.natAbs) (h2 : Digs w A2 c2 zs2 y.natAbs) (hl1 : zs1.length ≤ 900000) (hl2 : zs2.length ≤ 900000) :
    Calls Tryz.prog 88 #[.agg #[.bool b1, .slice A1 zs1.length c1], .agg #[.bool b2, .slice A2 zs2.length c2]] w fun e w' => IsRef w w' (x + y) e := by
  have hbb := begun2_below w (.bool b1) (.slice A1 zs1.length c1) (.bool b2) (.slice A2 zs2.length c2) 34
  have hx0 := begun2_x w (.bool b1) (.slice A1 zs1.length c1) (.bool b2) (.slice A2 zs2.length c2) 34
  have hy0 := begun2_y w (.bool b1) (.slice A1 zs1.length c1) (.bool b2) (.slice A2 zs2.length c2) 34
  have hr0 := begun2_r w (.bool b1) (.slice A1 zs1.length c1) (.bool b2) (.slice A2 zs2.length c2) 34
  have hsz := begun2_size w (.bool b1) (.slice A1 zs1.length c1) (.bool b2) (.slice A2 zs2.length c2) 34
  have hn1 := h1.2.1.below hbb
  have hn2 := h2.2.1.below hbb
  have H := Lib.hid (And.intro hbb (And.intro hx0 (And.intro hy0 (And.intro hr0 hsz))))
  clear hbb hx0 hy0 hr0 hsz
  go_enter Tryz.func88, Tryz.ntmps88
  go_wp2_with fail
  refine (rcompare_lt A1 c1 zs1 A2 c2 zs2 _ (by exact hn1) (by exact hn2) h1.2.2.1 h2.2.2.1 h1.2.2.2.1 h2.2.2.2.1 (by omega) (by rw [h1.2.2.2.2, h2.2.2.2.2]; exact hlt)).mono ?_
  rintro e w' ⟨⟨n, rfl⟩, rfl⟩
  go_wp2_with fail
  go_region_held3 (fun w' => w'.cell? ⟨w.heap.size, 0, none⟩ = some (.bool b1) ∧ w'.cell? ⟨w.heap.size, 1, none⟩ = some (.slice A1 zs1.length c1) ∧ w'.cell? ⟨w.heap.size + 1, 0, none⟩ = some (.bool b2) ∧ w'.cell? ⟨w.heap.size + 1, 1, none⟩ = some (.slice A2 zs2.length c2))
    (((try dsimp only); (repeat' apply And.intro) <;> (first | (with_reducible assumption) | go_keep)))
    ((first | (go_at_call 126; refine (minus_any A2 c2 zs2 A1 c1 zs1 _ (by exact hn2) (by exact hn1) h2.2.2.1 h1.2.2.1 (h2.shorter h1 (Nat.le_of_lt hlt)) (by omega) (by rw [h1.2.2.2.2, h2.2.2.2.2]; exact Nat.le_of_lt hlt)).mono ?_; rintro e w1 ⟨A3, c3, zs3, rfl, hl3, hle3', hb1⟩; have k1x := H.out.2.1.step hb1 rfl (by rw [H.out.2.2.2.2]; (try omega)); have k1y := H.out.2.2.1.step hb1 rfl (by rw [H.out.2.2.2.2]; (try omega)); have k1r := H.out.2.2.2.1.step hb1 rfl (by rw [H.out.2.2.2.2]; (try omega)); obtain ⟨px0, px1⟩ := id k1x; obtain ⟨py0, py1⟩ := id k1y; have hle3 : zs3.length ≤ 1000000 := (by omega); have hs1' : w.heap.size + 3 ≤ w1.heap.size := Nat.le_trans (Nat.le_of_eq H.out.2.2.2.2.symm) hb1.size) | (go_at_call 118; refine (made_to b2 A3 c3 zs3 (x + y) _ (by exact hl3.2.1) hl3.2.2.1 hle3 hl3.1 (by rw [hl3.2.2.2.2, h1.2.2.2.2, h2.2.2.2.2]; rw [Int.add_comm]; exact add_parts hs2 hs1 (by rw [← hne]; cases b1 <;> cases b2 <;> rfl) (Nat.le_of_lt hlt))).mono ?_; rintro e w2 ⟨v2, rfl, ⟨b4, A4, c4, zs4, rfl, hsg4, hl4⟩, hb2⟩; have k2x := k1x.step hb2 rfl (by omega); have k2y := k1y.step hb2 rfl (by omega); have k2r := k1r.step hb2 rfl (by omega); obtain ⟨hx0, hx1⟩ := id k2x; obtain ⟨hy0, hy1⟩ := id k2y; obtain ⟨⟨hr0, hr1⟩, hf0, hf1⟩ := id k2r; obtain ⟨qx0, qx1⟩ := k2x.far (r := w.heap.size + 1 + 1) (by omega) (.bool b4) (.slice A4 zs4.length c4); obtain ⟨qy0, qy1⟩ := k2y.far (r := w.heap.size + 1 + 1) (by omega) (.bool b4) (.slice A4 zs4.length c4))))
  go_wp2
  refine bodyPost_ret (v := .agg #[.bool b4, .slice A4 zs4.length c4]) (by simp [results, Tryz.results88, go_sem, hr0, hr1]) rfl ?_
  exact ref_stored k2r hsg4 hl4 (below_then (begun_then H.out.1 hb1 rfl rfl rfl rfl) hb2) (by omega)
theorem RAdd_any (v1 v2 : Value) (x y : Int) (m : Nat) (w : World) (h1 : RefAt w v1 x) (h2 : RefAt w v2 y) (hm : m ≤ 900000) (hx : x.natAbs < BD ^ m) (hy : y.natAbs < BD ^ m) :
    Calls Tryz.prog 88 #[v1, v2] w fun e w' => IsRef w w' (x + y) e := by
  obtain ⟨b1, A1, c1, zs1, rfl, hs1, hl1⟩ := h1
  obtain ⟨b2, A2, c2, zs2, rfl, hs2, hl2⟩ := h2
  have k1 := Nat.le_trans (hl1.len hx) hm
  have k2 := Nat.le_trans (hl2.len hy) hm
  rcases hb : (b1 == b2) with _ | _
  · rcases Nat.lt_or_ge x.natAbs y.natAbs with h | h
    · exact radd_lt b1 b2 A1 c1 zs1 A2 c2 zs2 x y w hs1 hs2 hb h hl1 hl2 k1 k2
    · exact radd_ge b1 b2 A1 c1 zs1 A2 c2 zs2 x y w hs1 hs2 hb h hl1 hl2 k1 k2
  · have e : b1 = b2 := by simpa using hb
    subst e
    exact radd_alike b1 A1 c1 zs1 A2 c2 zs2 x y w hs1 hs2 hl1 hl2 k1 k2
end Go.Proofs.YtpgbnegppehckaaGreat
namespace Go.Proofs.YtpgbnegppehckaaGreat
open Go.RowKit
structure Quad (w : World) (r : Nat) (a b c d : Value) : Prop where
  c0 : w.cell? ⟨r, 0, none⟩ = some a
  c1 : w.cell? ⟨r, 1, none⟩ = some b
  c2 : w.cell? ⟨r, 2, none⟩ = some c
  c3 : w.cell? ⟨r, 3, none⟩ = some d
theorem Quad.step {W0 W w1 : World} {h : Nat} {a b c d : Value} (t : Quad W0 h a b c d) (hb : Below W.heap.size W w1) (hh : W.heap = W0.heap) (hl : h < W0.heap.size) : Quad w1 h a b c d := by
  have e : ∀ p, W.cell? p = W0.cell? p := fun p => by simp [World.cell?, hh]
  have k : ∀ o, w1.cell? ⟨h, o, none⟩ = W0.cell? ⟨h, o, none⟩ := fun o => (hb.cell (p := ⟨h, o, none⟩) (by rw [hh]; exact hl)).trans (e _)
  exact ⟨(k 0).trans t.c0, (k 1).trans t.c1, (k 2).trans t.c2, (k 3).trans t.c3⟩
theorem Quad.new (w : World) (a b c d : Value) (t : TypeId) : Quad (w.alloc (.cells #[a, b, c, d] t)) w.heap.size a b c d := by constructor <;> go_simp
theorem Quad.alloc {w : World} {h : Nat} {a b c d : Value} (t : Quad w h a b c d) (hl : h < w.heap.size) (o : Obj) : Quad (w.alloc o) h a b c d :=
  t.step ((Below.refl _ _).alloc (Nat.le_refl _) o) rfl hl
def kept (d : Int) : Int := if d = 1 then 0 else d
def RatAt (w : World) (v : Value) (n d : Int) : Prop :=
  ∃ b1 A1 c1 xs1 b2 A2 c2 xs2, v = .agg #[.bool b1, .slice A1 (List.length xs1) c1, .bool b2, .slice A2 (List.length xs2) c2] ∧ SignOf b1 n ∧ Limbs w A1 c1 xs1 n.natAbs ∧ SignOf b2 (kept d) ∧ Limbs w A2 c2 xs2 (kept d).natAbs ∧ Qx.Low n d
def IsRat (w w' : World) (n d : Int) (e : Ending) : Prop := ∃ v, e = .returned v ∧ RatAt w' v n d ∧ Below w.heap.size w w'
def IsRatE (w w' : World) (n d k : Int) (e : Ending) : Prop := ∃ v, e = .returned (.tuple #[v, .int .i64 k]) ∧ RatAt w' v n d ∧ Below w.heap.size w w'
def SAt (w : World) (v : Value) (n d : Int) : Prop :=
  ∃ b1 A1 c1 xs1 b2 A2 c2 xs2, v = .agg #[.bool b1, .slice A1 (List.length xs1) c1, .bool b2, .slice A2 (List.length xs2) c2] ∧ SignOf b1 n ∧ Digs w A1 c1 xs1 n.natAbs ∧ SignOf b2 d ∧ Digs w A2 c2 xs2 d.natAbs ∧ Qx.Low n d
def IsS (w w' : World) (n d : Int) (e : Ending) : Prop := ∃ v, e = .returned v ∧ SAt w' v n d ∧ Below w.heap.size w w'
def IsSE (w w' : World) (n d k : Int) (e : Ending) : Prop := ∃ v, e = .returned (.tuple #[v, .int .i64 k]) ∧ SAt w' v n d ∧ Below w.heap.size w w'
theorem RatAt.step {W0 W w1 : World} {v : Value} {n d : Int} (t : RatAt W0 v n d) (hb : Below W.heap.size W w1) (hh : W.heap = W0.heap) : RatAt w1 v n d := by
  obtain ⟨b1, A1, c1, xs1, b2, A2, c2, xs2, rfl, s1, l1, s2, l2, lo⟩ := t
  exact ⟨b1, A1, c1, xs1, b2, A2, c2, xs2, rfl, s1, l1.step hb hh, s2, l2.step hb hh, lo⟩
theorem SAt.step {W0 W w1 : World} {v : Value} {n d : Int} (t : SAt W0 v n d) (hb : Below W.heap.size W w1) (hh : W.heap = W0.heap) : SAt w1 v n d := by
  obtain ⟨b1, A1, c1, xs1, b2, A2, c2, xs2, rfl, s1, l1, s2, l2, lo⟩ := t
  exact ⟨b1, A1, c1, xs1, b2, A2, c2, xs2, rfl, s1, l1.step hb hh, s2, l2.step hb hh, lo⟩
def ResF (w : World) (r : Nat) : Prop := Quad w r (.bool false) (.slice none 0 0) (.bool false) (.slice none 0 0) ∧ w.frozen? ⟨r, 0, none⟩ = false ∧ w.frozen? ⟨r, 1, none⟩ = false ∧ w.frozen? ⟨r, 2, none⟩ = false ∧ w.frozen? ⟨r, 3, none⟩ = false
theorem ResF.new (w : World) (t : TypeId) : ResF (w.alloc (.cells #[.bool false, .slice none 0 0, .bool false, .slice none 0 0] t)) w.heap.size :=
  ⟨Quad.new w _ _ _ _ t, by go_simp, by go_simp, by go_simp, by go_simp⟩
theorem ResF.step {W0 W w1 : World} {r : Nat} (t : ResF W0 r) (hb : Below W.heap.size W w1) (hh : W.heap = W0.heap) (hl : r < W0.heap.size) : ResF w1 r := by
  have e : ∀ p, W.frozen? p = W0.frozen? p := fun p => by simp [World.frozen?, hh]
  have k : ∀ o, w1.frozen? ⟨r, o, none⟩ = W0.frozen? ⟨r, o, none⟩ := fun o => (hb.frozen (p := ⟨r, o, none⟩) (by rw [hh]; exact hl)).trans (e _)
  exact ⟨t.1.step hb hh hl, (k 0).trans t.2.1, (k 1).trans t.2.2.1, (k 2).trans t.2.2.2.1, (k 3).trans t.2.2.2.2⟩
def put4 (w : World) (r : Nat) (a b c d : Value) : World := (((w.setCell ⟨r, 0, none⟩ a).setCell ⟨r, 1, none⟩ b).setCell ⟨r, 2, none⟩ c).setCell ⟨r, 3, none⟩ d
theorem Quad.put {w : World} {r : Nat} {a b c d : Value} (t : Quad w r a b c d) (u0 u1 u2 u3 : Value) : Quad (put4 w r u0 u1 u2 u3) r u0 u1 u2 u3 := by
  have h0 := t.c0; have h1 := t.c1; have h2 := t.c2; have h3 := t.c3
  unfold put4
  constructor <;> go_simp
theorem Nums.put4 {w : World} {k : IntKind} {A : Option Addr} {xs : List Nat} {r : Nat} {a b : Bool} {A1 A2 : Option Addr} {n1 n2 c1 c2 : Nat} (h : Nums w k A xs) (t : Quad w r (.bool a) (.slice A1 n1 c1) (.bool b) (.slice A2 n2 c2)) (u0 u1 u2 u3 : Value) : Nums (put4 w r u0 u1 u2 u3) k A xs := by
  have h0 := t.c0; have h1 := t.c1; have h2 := t.c2; have h3 := t.c3
  unfold Go.Proofs.YtpgbnegppehckaaGreat.put4
  refine (((h.store h0 (fun _ e => by cases e) u0).store (u := .slice A1 n1 c1) ?_ (fun _ e => by cases e) u1).store (u := .bool b) ?_ (fun _ e => by cases e) u2).store (u := .slice A2 n2 c2) ?_ (fun _ e => by cases e) u3
  · go_simp
  · go_simp
  · go_simp
theorem low_one (n : Int) : Qx.Low n 1 := ⟨by decide, by simp⟩
theorem limbs_zero (w : World) : Limbs w none 0 [] 0 := ⟨Nat.le_refl _, Nums.nil _ _ _, Lm.Ok.nil _, Lm.Top.nil, rfl⟩
theorem QOf_any (v : Value) (n : Int) (w : World) (h : IntAt w v n) : Calls Tryz.prog 20 #[v] w fun e w' => IsRat w w' n 1 e := by
  obtain ⟨b, A, c, xs, rfl, hs, hl⟩ := h
  have H := Lib.hid (And.intro hs hl)
  clear hs hl
  go_enter Tryz.func20, Tryz.ntmps20
  go_wp2
  refine bodyPost_ret (v := .agg #[.bool b, .slice A xs.length c, .bool false, .slice none 0 0]) (by simp [results, Tryz.results20, go_sem]) rfl ?_
  exact ⟨_, rfl, ⟨b, A, c, xs, false, none, 0, [], rfl, H.out.1, H.out.2.below (boxed2_below _ _ _), by simp [SignOf, kept], limbs_zero _, low_one n⟩, boxed2_below _ _ _⟩
theorem QSign_any (v : Value) (n d : Int) (m : Nat) (w : World) (h : RatAt w v n d) (hm : m ≤ 900000) (hn : n.natAbs < B32 ^ m) : Calls Tryz.prog 24 #[v] w fun e w' => IsNum w w' n.sign e := by
  obtain ⟨b1, A1, c1, xs1, b2, A2, c2, xs2, rfl, s1, l1, s2, l2, lo⟩ := h
  have hb0 : Below w.heap.size w (w.alloc (.cells #[.bool b1, .slice A1 xs1.length c1, .bool b2, .slice A2 xs2.length c2] 38)) := (Below.refl _ _).alloc (Nat.le_refl _) _
  have hsg := Sign_any (.agg #[.bool b1, .slice A1 xs1.length c1]) n m _ ⟨b1, A1, c1, xs1, rfl, s1, l1.below hb0⟩ hm hn
  have H := Lib.hid (And.intro hsg hb0)
  clear hsg hb0 s1 l1 s2 l2 lo hm hn
  go_enter Tryz.func24, Tryz.ntmps24
  go_wp2_with fail
  refine H.out.1.mono ?_
  rintro e w1 ⟨rfl, hb1⟩
  go_wp2
  go_ret
  exact ⟨rfl, below_then H.out.2 hb1⟩
theorem sign_kept {d : Int} (h : 0 < d) : ((kept d).sign == 0) = decide (d = 1) := by
  unfold kept
  by_cases e : d = 1
  · simp [e]
  · rw [if_neg e, Int.sign_eq_one_of_pos h, decide_eq_false e]; rfl
theorem QWhole_any (v : Value) (n d : Int) (m : Nat) (w : World) (h : RatAt w v n d) (hm : m ≤ 900000) (hd : (kept d).natAbs < B32 ^ m) : Calls Tryz.prog 22 #[v] w fun e w' => IsBool w w' (decide (d = 1)) e := by
  obtain ⟨b1, A1, c1, xs1, b2, A2, c2, xs2, rfl, s1, l1, s2, l2, lo⟩ := h
  have hb0 : Below w.heap.size w (w.alloc (.cells #[.bool b1, .slice A1 xs1.length c1, .bool b2, .slice A2 xs2.length c2] 38)) := (Below.refl _ _).alloc (Nat.le_refl _) _
  have hsg := Sign_any (.agg #[.bool b2, .slice A2 xs2.length c2]) (kept d) m _ ⟨b2, A2, c2, xs2, rfl, s2, l2.below hb0⟩ hm hd
  obtain ⟨sg, hsgn⟩ : ∃ sg, (kept d).sign = sg := ⟨_, rfl⟩
  have hk := sign_kept lo.pos
  rw [hsgn] at hsg hk
  have H := Lib.hid (And.intro hsg hb0)
  obtain ⟨b, hb⟩ : ∃ b, decide (d = 1) = b := ⟨_, rfl⟩
  rw [hb] at hk ⊢
  clear hsg hb0 s1 l1 s2 l2 lo hm hd hsgn hb
  go_enter Tryz.func22, Tryz.ntmps22
  go_wp2_with fail
  refine H.out.1.mono ?_
  rintro e w1 ⟨rfl, hb1⟩
  go_wp2
  go_ret
  exact ⟨rfl, below_then H.out.2 hb1⟩
theorem QNumerator_any (v : Value) (n d : Int) (w : World) (h : RatAt w v n d) : Calls Tryz.prog 68 #[v] w fun e w' => IsInt w w' n e := by
  obtain ⟨b1, A1, c1, xs1, b2, A2, c2, xs2, rfl, s1, l1, s2, l2, lo⟩ := h
  have H := Lib.hid (And.intro s1 l1)
  clear s1 l1 s2 l2 lo
  go_enter Tryz.func68, Tryz.ntmps68
  go_wp2
  refine bodyPost_ret (v := .agg #[.bool b1, .slice A1 xs1.length c1]) (by simp [results, Tryz.results68, go_sem]) rfl ?_
  exact ⟨_, rfl, ⟨b1, A1, c1, xs1, rfl, H.out.1, H.out.2.below (boxed2_below _ _ _)⟩, boxed2_below _ _ _⟩
end Go.Proofs.YtpgbnegppehckaaGreat
namespace Go.Proofs.YtpgbnegppehckaaGreat
open Go.RowKit
theorem put4_below {w w2 : World} {r : Nat} (hb : Below w.heap.size w w2) (hr : w.heap.size ≤ r) (u0 u1 u2 u3 : Value) : Below w.heap.size w (put4 w2 r u0 u1 u2 u3) :=
  (((hb.setCell (p := ⟨r, 0, none⟩) hr _).setCell (p := ⟨r, 1, none⟩) hr _).setCell (p := ⟨r, 2, none⟩) hr _).setCell (p := ⟨r, 3, none⟩) hr _
theorem Limbs.put4 {w : World} {A : Option Addr} {c n : Nat} {zs : List Nat} {r : Nat} (h : Limbs w A c zs n) (t : ResF w r) (u0 u1 u2 u3 : Value) : Limbs (put4 w r u0 u1 u2 u3) A c zs n := ⟨h.1, Nums.put4 h.2.1 t.1 _ _ _ _, h.2.2⟩
theorem Digs.put4 {w : World} {A : Option Addr} {c n : Nat} {zs : List Nat} {r : Nat} (h : Digs w A c zs n) (t : ResF w r) (u0 u1 u2 u3 : Value) : Digs (put4 w r u0 u1 u2 u3) A c zs n := ⟨h.1, Nums.put4 h.2.1 t.1 _ _ _ _, h.2.2⟩
theorem rat_stored {w w2 : World} {r : Nat} {b1 : Bool} {A1 : Option Addr} {c1 : Nat} {xs1 : List Nat} {b2 : Bool} {A2 : Option Addr} {c2 : Nat} {xs2 : List Nat} {n d : Int} (hk : ResF w2 r) (s1 : SignOf b1 n) (l1 : Limbs w2 A1 c1 xs1 n.natAbs) (s2 : SignOf b2 (kept d)) (l2 : Limbs w2 A2 c2 xs2 (kept d).natAbs) (lo : Qx.Low n d)
    (hb : Below w.heap.size w w2) (hr : w.heap.size ≤ r) :
    IsRat w (put4 w2 r (.bool b1) (.slice A1 xs1.length c1) (.bool b2) (.slice A2 xs2.length c2)) n d (.returned (.agg #[.bool b1, .slice A1 xs1.length c1, .bool b2, .slice A2 xs2.length c2])) :=
  ⟨_, rfl, ⟨b1, A1, c1, xs1, b2, A2, c2, xs2, rfl, s1, l1.put4 hk _ _ _ _, s2, l2.put4 hk _ _ _ _, lo⟩, put4_below hb hr _ _ _ _⟩
theorem ratE_stored {w w2 : World} {r : Nat} {b1 : Bool} {A1 : Option Addr} {c1 : Nat} {xs1 : List Nat} {b2 : Bool} {A2 : Option Addr} {c2 : Nat} {xs2 : List Nat} {n d k : Int} (hk : ResF w2 r) (s1 : SignOf b1 n) (l1 : Limbs w2 A1 c1 xs1 n.natAbs) (s2 : SignOf b2 (kept d)) (l2 : Limbs w2 A2 c2 xs2 (kept d).natAbs) (lo : Qx.Low n d)
    (hb : Below w.heap.size w w2) (hr : w.heap.size ≤ r) :
    IsRatE w (put4 w2 r (.bool b1) (.slice A1 xs1.length c1) (.bool b2) (.slice A2 xs2.length c2)) n d k (.returned (.tuple #[.agg #[.bool b1, .slice A1 xs1.length c1, .bool b2, .slice A2 xs2.length c2], .int .i64 k])) :=
  ⟨_, rfl, ⟨b1, A1, c1, xs1, b2, A2, c2, xs2, rfl, s1, l1.put4 hk _ _ _ _, s2, l2.put4 hk _ _ _ _, lo⟩, put4_below hb hr _ _ _ _⟩
theorem fit_one {m : Nat} (h : 0 < m) : (1 : Int).natAbs < B32 ^ m := Nat.lt_of_lt_of_le (show 1 < B32 ^ 1 by decide) (Nat.pow_le_pow_right B32_pos h)
theorem QDenominator_any (v : Value) (n d : Int) (m : Nat) (w : World) (h : RatAt w v n d) (hm : m ≤ 900000) (hd : d.natAbs < B32 ^ m) : Calls Tryz.prog 67 #[v] w fun e w' => IsInt w w' d e := by
  have hk : (kept d).natAbs < B32 ^ m := by
    unfold kept
    split
    · exact Nat.pow_pos B32_pos
    · exact hd
  obtain ⟨b1, A1, c1, xs1, b2, A2, c2, xs2, rfl, s1, l1, s2, l2, lo⟩ := h
  have hb0 : Below w.heap.size w ((w.alloc (.cells #[.bool b1, .slice A1 xs1.length c1, .bool b2, .slice A2 xs2.length c2] 38)).alloc (.cells #[.bool false, .slice none 0 0] 31)) := boxed2_below _ _ _
  have hx0 := (Quad.new w (.bool b1) (.slice A1 xs1.length c1) (.bool b2) (.slice A2 xs2.length c2) 38).alloc (by simp) (.cells #[.bool false, .slice none 0 0] 31)
  have hr0 := Res.new (w.alloc (.cells #[.bool b1, .slice A1 xs1.length c1, .bool b2, .slice A2 xs2.length c2] 38)) 31
  rw [size_alloc] at hr0
  have hsz : ((w.alloc (.cells #[.bool b1, .slice A1 xs1.length c1, .bool b2, .slice A2 xs2.length c2] 38)).alloc (.cells #[.bool false, .slice none 0 0] 31)).heap.size = w.heap.size + 2 := by simp
  obtain ⟨W, hW⟩ : ∃ W : World, (w.alloc (.cells #[.bool b1, .slice A1 xs1.length c1, .bool b2, .slice A2 xs2.length c2] 38)).alloc (.cells #[.bool false, .slice none 0 0] 31) = W := ⟨_, rfl⟩
  rw [hW] at hb0 hx0 hr0 hsz
  have hwh := QWhole_any _ n d m W ⟨b1, A1, c1, xs1, b2, A2, c2, xs2, rfl, s1, l1.below hb0, s2, l2.below hb0, lo⟩ hm hk
  have hl2 := l2.below hb0
  have H := Lib.hid (And.intro hwh (And.intro hb0 (And.intro hr0 (And.intro hx0 (And.intro hW (And.intro s2 hl2))))))
  have HS := Lib.hid hsz
  obtain ⟨p0, p1, p2, p3⟩ := id hx0
  clear hwh hb0 hr0 hx0 hW s1 l1 s2 l2 lo hm hd hk hsz hl2
  by_cases h1 : d = 1
  · subst h1
    go_enter Tryz.func67, Tryz.ntmps67
    go_upto_region 1 with fail
    rw [H.out.2.2.2.2.1]
    go_wp2_with fail
    refine H.out.1.mono ?_
    rintro e w1 ⟨rfl, hb1⟩
    rw [show decide True = true from rfl]
    have r1 := H.out.2.2.1.step hb1 rfl (by have := HS.out; omega)
    have b1' := below_then H.out.2.1 hb1
    have HR := Lib.hid (And.intro r1 b1')
    have hz1 := hb1.size
    clear r1 b1' hb1 p0 p1 p2 p3
    go_wp2_with fail
    refine (New_pos 1 w1 (by decide)).mono ?_
    rintro e w2 ⟨v2, rfl, ⟨b4, A4, c4, zs4, rfl, hsg4, hl4⟩, hb2⟩
    have r2 := HR.out.1.step hb2 rfl (by have := HS.out; omega)
    obtain ⟨⟨kr0, kr1⟩, kf0, kf1⟩ := id r2
    have b2 := below_then HR.out.2 hb2
    go_wp2
    have q := r2.1.stored (.bool b4) (.slice A4 zs4.length c4)
    obtain ⟨q0, q1⟩ := id q
    refine bodyPost_ret (v := .agg #[.bool b4, .slice A4 zs4.length c4]) (by simp [results, Tryz.results67, go_sem, q0, q1]) rfl ?_
    exact res_stored r2 hsg4 hl4 b2 (by omega)
  · have hkd : kept d = d := by unfold kept; rw [if_neg h1]
    go_enter Tryz.func67, Tryz.ntmps67
    go_upto_region 1 with fail
    rw [H.out.2.2.2.2.1]
    go_wp2_with fail
    refine H.out.1.mono ?_
    rintro e w1 ⟨rfl, hb1⟩
    rw [decide_eq_false h1]
    have r1 := H.out.2.2.1.step hb1 rfl (by have := HS.out; omega)
    have x1 := H.out.2.2.2.1.step hb1 rfl (by have := HS.out; omega)
    have l1 := H.out.2.2.2.2.2.2.below hb1
    have b1' := below_then H.out.2.1 hb1
    rw [hkd] at l1
    have HR := Lib.hid (And.intro r1 (And.intro b1' l1))
    obtain ⟨⟨kr0, kr1⟩, kf0, kf1⟩ := id r1
    clear r1 b1' hb1 p0 p1 p2 p3 l1
    obtain ⟨p0, p1, p2, p3⟩ := id x1
    have HK := Lib.hid hkd
    clear hkd
    go_wp2
    have q := HR.out.1.1.stored (.bool b2) (.slice A2 xs2.length c2)
    obtain ⟨q0, q1⟩ := id q
    refine bodyPost_ret (v := .agg #[.bool b2, .slice A2 xs2.length c2]) (by simp [results, Tryz.results67, go_sem, q0, q1]) rfl ?_
    exact res_stored HR.out.1 (by rw [← HK.out]; exact H.out.2.2.2.2.2.1) HR.out.2.2 HR.out.2.1 (by omega)
end Go.Proofs.YtpgbnegppehckaaGreat
namespace Go.Proofs.YtpgbnegppehckaaGreat
open Go.RowKit
theorem cmp_one {d : Int} : (cmpZ d 1 == 0) = decide (d = 1) := cmp_eq d 1
theorem lowest_any (v1 v2 : Value) (n d : Int) (m : Nat) (w : World) (h1 : IntAt w v1 n) (h2 : IntAt w v2 d) (hm0 : 0 < m) (hm : m ≤ 300000) (hd : d.natAbs < B32 ^ m) (lo : Qx.Low n d) :
    Calls Tryz.prog 77 #[v1, v2] w fun e w' => IsRat w w' n d e := by
  obtain ⟨b1, A1, c1, xs1, rfl, s1, l1⟩ := h1
  obtain ⟨b2, A2, c2, xs2, rfl, s2, l2⟩ := h2
  have hb1 := boxed2_below w (.cells #[.bool b1, .slice A1 xs1.length c1] 31) (.cells #[.bool b2, .slice A2 xs2.length c2] 31)
  have hb0 := hb1.alloc (by simp; omega) (.cells #[.bool false, .slice none 0 0, .bool false, .slice none 0 0] 38)
  have hX := ((Two.new w (.bool b1) (.slice A1 xs1.length c1) 31).alloc (by simp) (.cells #[.bool b2, .slice A2 xs2.length c2] 31)).alloc (by simp; omega) (.cells #[.bool false, .slice none 0 0, .bool false, .slice none 0 0] 38)
  have hY := (Two.new (w.alloc (.cells #[.bool b1, .slice A1 xs1.length c1] 31)) (.bool b2) (.slice A2 xs2.length c2) 31).alloc (by simp) (.cells #[.bool false, .slice none 0 0, .bool false, .slice none 0 0] 38)
  have hR := ResF.new ((w.alloc (.cells #[.bool b1, .slice A1 xs1.length c1] 31)).alloc (.cells #[.bool b2, .slice A2 xs2.length c2] 31)) 38
  rw [size_alloc] at hY
  rw [size_alloc, size_alloc] at hR
  have hsz : (((w.alloc (.cells #[.bool b1, .slice A1 xs1.length c1] 31)).alloc (.cells #[.bool b2, .slice A2 xs2.length c2] 31)).alloc (.cells #[.bool false, .slice none 0 0, .bool false, .slice none 0 0] 38)).heap.size = w.heap.size + 3 := by simp
  obtain ⟨W, hW⟩ : ∃ W : World, ((w.alloc (.cells #[.bool b1, .slice A1 xs1.length c1] 31)).alloc (.cells #[.bool b2, .slice A2 xs2.length c2] 31)).alloc (.cells #[.bool false, .slice none 0 0, .bool false, .slice none 0 0] 38) = W := ⟨_, rfl⟩
  rw [hW] at hb0 hX hY hR hsz
  have i2 : IntAt W (.agg #[.bool b2, .slice A2 xs2.length c2]) d := ⟨b2, A2, c2, xs2, rfl, s2, l2.below hb0⟩
  have H := Lib.hid (And.intro hb0 (And.intro hR (And.intro hX (And.intro hY (And.intro i2 (And.intro (l1.below hb0) (And.intro s1 (And.intro lo hd))))))))
  have HW := Lib.hid hW
  have HZ := Lib.hid (And.intro hsz (And.intro (l2.below hb0) s2))
  obtain ⟨cz, hcz⟩ : ∃ cz, cmpZ d 1 = cz := ⟨_, rfl⟩
  have hc1 : (cz == 0) = decide (d = 1) := by rw [← hcz]; exact cmp_one
  obtain ⟨py0, py1⟩ := id hY
  have HCZ := Lib.hid hcz
  clear hb1 hb0 hX hR hsz hW i2 l1 l2 s1 s2 lo hcz
  have region : ∀ (b : Bool), decide (d = 1) = b → Calls Tryz.prog 77 #[.agg #[.bool b1, .slice A1 xs1.length c1], .agg #[.bool b2, .slice A2 xs2.length c2]] w fun e w' => IsRat w w' n d e := by
    intro b hb
    rw [hb] at hc1
    have HB := Lib.hid hb
    clear hb
    go_enter Tryz.func77, Tryz.ntmps77
    go_upto_region 1 with fail
    rw [HW.out]
    go_region_held3 (fun w' => w'.cell? ⟨w.heap.size + 1, 0, none⟩ = some (.bool b2) ∧ w'.cell? ⟨w.heap.size + 1, 1, none⟩ = some (.slice A2 xs2.length c2))
      (((try dsimp only); (repeat' apply And.intro) <;> (first | (with_reducible assumption) | go_keep)))
      ((first
        | (go_at_call 65; refine (New_pos 1 _ (by decide)).mono ?_; rintro e w4 ⟨v4, rfl, hv4, hb4⟩; have hS4 := And.intro (H.out.2.1.step hb4 rfl (by have := HZ.out.1; omega)) (And.intro (H.out.2.2.1.step hb4 rfl (by have := HZ.out.1; omega)) (And.intro (H.out.2.2.2.1.step hb4 rfl (by have := HZ.out.1; omega)) (And.intro (H.out.2.2.2.2.1.step hb4 rfl) (And.intro (H.out.2.2.2.2.2.1.step hb4 rfl) (HZ.out.2.1.step hb4 rfl))))); have hl4 := begun_then H.out.1 hb4 rfl rfl rfl rfl; have hz4 : w.heap.size + 3 ≤ w4.heap.size := (by have := hb4.size; have h9 := HZ.out.1; simp at this; omega); obtain ⟨qa0, qa1⟩ := id hS4.2.2.1)
        | (go_at_call 63; refine (Cmp_any _ _ d 1 m _ (by exact hS4.2.2.2.1) (by exact hv4) (by omega) H.out.2.2.2.2.2.2.2.2 (by exact fit_one hm0)).mono ?_; rintro e w5 ⟨rfl, hb5⟩; rw [HCZ.out]; have hS5 := And.intro (hS4.1.step hb5 rfl (by omega)) (And.intro (hS4.2.1.step hb5 rfl (by omega)) (And.intro (hS4.2.2.1.step hb5 rfl (by omega)) (And.intro (hS4.2.2.2.2.1.below hb5) (hS4.2.2.2.2.2.below hb5)))); have hl5 := below_then hl4 hb5; obtain ⟨qb0, qb1⟩ := id hS5.2.2.1)))
    obtain ⟨x0, x1⟩ := id hS5.2.1
    obtain ⟨⟨k0, k1, k2, k3⟩, f0, f1, f2, f3⟩ := id hS5.1
    have HF := Lib.hid (And.intro hS5 hl5)
    clear hS5 hl5 hS4 hl4 hv4 hb4 hb5
    cases b
    · have hk : kept d = d := by unfold kept; rw [if_neg (of_decide_eq_false HB.out)]
      have HK := Lib.hid hk
      clear hk
      go_wp2
      obtain ⟨q0, q1, q2, q3⟩ := Quad.put HF.out.1.1.1 (.bool b1) (.slice A1 xs1.length c1) (.bool b2) (.slice A2 xs2.length c2)
      unfold put4 at q0 q1 q2 q3
      refine bodyPost_ret (v := .agg #[.bool b1, .slice A1 xs1.length c1, .bool b2, .slice A2 xs2.length c2]) (by simp [results, Tryz.results77, go_sem, q0, q1, q2, q3]) rfl ?_
      exact rat_stored HF.out.1.1 H.out.2.2.2.2.2.2.1 HF.out.1.2.2.2.1 (by rw [HK.out]; exact HZ.out.2.2) (by rw [HK.out]; exact HF.out.1.2.2.2.2) H.out.2.2.2.2.2.2.2.1 HF.out.2 (by omega)
    · have hd1 : d = 1 := of_decide_eq_true HB.out
      go_wp2
      obtain ⟨q0, q1, q2, q3⟩ := Quad.put HF.out.1.1.1 (.bool b1) (.slice A1 xs1.length c1) (.bool false) (.slice none 0 0)
      unfold put4 at q0 q1 q2 q3
      refine bodyPost_ret (v := .agg #[.bool b1, .slice A1 xs1.length c1, .bool false, .slice none 0 0]) (by simp [results, Tryz.results77, go_sem, q0, q1, q2, q3]) rfl ?_
      exact rat_stored (xs2 := []) HF.out.1.1 H.out.2.2.2.2.2.2.1 HF.out.1.2.2.2.1 (by simp [SignOf, kept, hd1]) (by simp [kept, hd1]; exact limbs_zero _) H.out.2.2.2.2.2.2.2.1 HF.out.2 (by omega)
  exact region _ rfl
end Go.Proofs.YtpgbnegppehckaaGreat
namespace Go.Proofs.YtpgbnegppehckaaGreat
open Go.RowKit
def bl (n : Nat) : Nat := if n = 0 then 0 else n.log2 + 1
theorem bl_half {n : Nat} (h : n ≠ 0) : bl n = 1 + bl (n / 2) := by
  unfold bl
  rw [if_neg h]
  by_cases h2 : 2 ≤ n
  · rw [if_neg (by omega), Nat.log2_def, if_pos h2]
    omega
  · have : n = 1 := by omega
    subst this
    decide
theorem bl_le {n k : Nat} : bl n ≤ k ↔ n < 2 ^ k := by
  unfold bl
  by_cases h : n = 0
  · subst h
    simp [Nat.two_pow_pos]
  · rw [if_neg h, ← Nat.log2_lt h]
    omega
theorem lt_bl (n : Nat) : n < 2 ^ bl n := bl_le.mp (Nat.le_refl _)
theorem bl_pos {n : Nat} (h : n ≠ 0) : 0 < bl n := by unfold bl; rw [if_neg h]; omega
theorem bl_aux : ∀ (f x : Nat), x < 2 ^ f → Lib.bitLenAux f x = bl x
  | 0, x, h => by
    have : x = 0 := by simpa using h
    subst this
    rfl
  | f + 1, x, h => by
    unfold Lib.bitLenAux
    by_cases h0 : x = 0
    · subst h0
      rfl
    · rw [if_neg h0, bl_half h0, bl_aux f (x / 2) (by rw [Nat.pow_succ] at h; omega)]
theorem bl_len (x : Nat) (h : x < 4294967296) : Lib.bitLen x = bl x := bl_aux 64 x (by omega)
theorem bl_shift (k d n : Nat) (hn : n < 2 ^ k) (hd : d ≠ 0) : bl (n + 2 ^ k * d) = k + bl d := by
  apply Nat.le_antisymm
  · rw [bl_le, Nat.pow_add]
    have := lt_bl d
    calc n + 2 ^ k * d < 2 ^ k + 2 ^ k * d := by omega
      _ = 2 ^ k * (d + 1) := by rw [Nat.mul_add]; omega
      _ ≤ 2 ^ k * 2 ^ bl d := Nat.mul_le_mul_left _ this
  · rcases Nat.lt_or_ge (bl (n + 2 ^ k * d)) (k + bl d) with h | h
    · exfalso
      obtain ⟨b, hb⟩ : ∃ b, bl d = b + 1 := ⟨bl d - 1, by have := bl_pos hd; omega⟩
      have h1 : bl (n + 2 ^ k * d) ≤ k + b := by omega
      rw [bl_le, Nat.pow_add] at h1
      have h2 : ¬ bl d ≤ b := by omega
      rw [bl_le] at h2
      have h3 : 2 ^ k * 2 ^ b ≤ 2 ^ k * d := Nat.mul_le_mul_left _ (by omega)
      omega
    · exact h
theorem len32_int (x : Int) (w : World) (h0 : 0 ≤ x) (h1 : x ≤ 4294967295) : Calls Tryz.prog 174 #[.int .u32 x] w fun e w' => e = .returned (.int .i64 (Lib.bitLen x.toNat : Int)) ∧ w = w' := by
  by_cases c1 : x < 65536
  · by_cases c2 : x < 256
    · have c3 : x ≤ 255 := by omega
      have t1 := Lib.len8_of x h0 c3
      have l0 : (0 : Int) ≤ (Lib.bitLen x.toNat : Int) := Int.natCast_nonneg _
      have l1 : (Lib.bitLen x.toNat : Int) ≤ 8 := by have := Lib.bitLen_le8' x h0 c3; omega
      go_enter Tryz.func174, Tryz.ntmps174
      go_wp2
      go_ret
      exact ⟨rfl, rfl⟩
    · have c3 : x / 256 ≤ 255 := by omega
      have c4 : 0 ≤ x / 256 := by omega
      have c5 : 256 ≤ x := by omega
      have t1 := Lib.len8_of (x / 256) c4 c3
      have l0 : (0 : Int) ≤ (Lib.bitLen (x / 256).toNat : Int) := Int.natCast_nonneg _
      have l1 : (Lib.bitLen (x / 256).toNat : Int) ≤ 8 := by have := Lib.bitLen_le8' (x / 256) c4 c3; omega
      have HS := Lib.hid (Lib.bitLen_shift8 x.toNat (by omega) (by omega))
      go_enter Tryz.func174, Tryz.ntmps174
      go_wp2
      go_ret
      rw [HS.out, show (x / 256).toNat = x.toNat / 256 by omega]
      exact ⟨rfl, rfl⟩
  · have c3 : 65536 ≤ x := by omega
    have c4 : 0 ≤ x / 65536 := by omega
    have c7 : x / 65536 ≤ 65535 := by omega
    by_cases c2 : x / 65536 < 256
    · have c5 : x / 65536 ≤ 255 := by omega
      have t1 := Lib.len8_of (x / 65536) c4 c5
      have l0 : (0 : Int) ≤ (Lib.bitLen (x / 65536).toNat : Int) := Int.natCast_nonneg _
      have l1 : (Lib.bitLen (x / 65536).toNat : Int) ≤ 8 := by have := Lib.bitLen_le8' (x / 65536) c4 c5; omega
      have HS := Lib.hid (Lib.bitLen_shift16 x.toNat (by omega) (by omega))
      go_enter Tryz.func174, Tryz.ntmps174
      go_wp2
      go_ret
      rw [HS.out, show (x / 65536).toNat = x.toNat / 65536 by omega]
      exact ⟨rfl, rfl⟩
    · have c5 : x / 65536 / 256 ≤ 255 := by omega
      have c6 : 0 ≤ x / 65536 / 256 := by omega
      have c8 : 256 ≤ x / 65536 := by omega
      have t1 := Lib.len8_of (x / 65536 / 256) c6 c5
      have l0 : (0 : Int) ≤ (Lib.bitLen (x / 65536 / 256).toNat : Int) := Int.natCast_nonneg _
      have l1 : (Lib.bitLen (x / 65536 / 256).toNat : Int) ≤ 8 := by have := Lib.bitLen_le8' (x / 65536 / 256) c6 c5; omega
      have HS := Lib.hid (Lib.bitLen_shift24 x.toNat (by omega) (by omega))
      go_enter Tryz.func174, Tryz.ntmps174
      go_wp2
      go_ret
      rw [HS.out, show (x / 65536 / 256).toNat = x.toNat / 16777216 by omega]
      exact ⟨rfl, rfl⟩
theorem len32_any (d : Nat) (w : World) (h : d < B32) : Calls Tryz.prog 174 #[.int .u32 (d : Int)] w fun e w' => e = .returned (.int .i64 (bl d : Int)) ∧ w = w' := by
  have := len32_int (d : Int) w (Int.natCast_nonneg d) (by unfold B32 at h; omega)
  rw [Int.toNat_natCast, bl_len d h] at this
  exact this
end Go.Proofs.YtpgbnegppehckaaGreat
namespace Go.Proofs.YtpgbnegppehckaaGreat
open Go.RowKit
def IsEq (w w' : World) (b : Bool) (e : Ending) : Prop := Drew w w' ∧ e = .returned (.bool b)
def SameTo (xs ys : List Nat) (i : Nat) : Prop := xs.take i = ys.take i
theorem same_up {xs ys : List Nat} {i : Nat} (hl : xs.length = ys.length) (hi : i < xs.length) (h : SameTo xs ys i) (he : xs.getD i 0 = ys.getD i 0) : SameTo xs ys (i + 1) := by
  unfold SameTo at *
  rw [List.take_succ_eq_append_getElem hi, List.take_succ_eq_append_getElem (by omega), h]
  rw [List.getD_eq_getElem?_getD, List.getElem?_eq_getElem hi, List.getD_eq_getElem?_getD, List.getElem?_eq_getElem (by omega)] at he
  simp at he
  rw [he]
theorem same_all {xs ys : List Nat} (hl : xs.length = ys.length) (h : SameTo xs ys xs.length) : decide (xs = ys) = true := by
  unfold SameTo at h
  rw [List.take_length, hl, List.take_length] at h
  exact decide_eq_true h
theorem same_not {xs ys : List Nat} {i : Nat} (he : xs.getD i 0 ≠ ys.getD i 0) : decide (xs = ys) = false := decide_eq_false (fun h => he (by rw [h]))
theorem equal_any (A : Option Addr) (c : Nat) (xs : List Nat) (A' : Option Addr) (c' : Nat) (ys : List Nat) (w : World) (hx : Nums w .u32 A xs) (hy : Nums w .u32 A' ys) (hl : xs.length ≤ 1000000) :
    Calls Tryz.prog 101 #[.slice A xs.length c, .slice A' ys.length c'] w fun e w' => IsEq w w' (decide (xs = ys)) e := by
  by_cases hln : xs.length = ys.length
  · have HL := Lib.hid hln
    rw [← hln]
    clear hln
    go_enter Tryz.func101, Tryz.ntmps101
    go_wp2
    go_loopw [13] (fun iv wr => ∃ i n : Nat, iv = .int .i64 i ∧ i ≤ xs.length ∧ SameTo xs ys i ∧ wr = w.drewN n) (fun iv _ => xs.length - (intOf iv).toNat)
    case atStart => exact ⟨0, 0, rfl, Nat.zero_le _, by simp [SameTo], rfl⟩
    case round =>
     obtain ⟨i, n, rfl, hi, hs, rfl⟩ := hrel
     by_cases hlt : i < xs.length
     · obtain ⟨ad, rfl, _, hcx⟩ := hx.at_ hlt
       obtain ⟨ad', rfl, _, hcy⟩ := hy.at_ (j := i) (by rw [← HL.out]; exact hlt)
       have hdx := hcx i hlt
       have hdy := hcy i (by rw [← HL.out]; exact hlt)
       clear hcx hcy
       obtain ⟨d, hd⟩ : ∃ d, xs.getD i 0 = d := ⟨_, rfl⟩
       obtain ⟨y, hyd⟩ : ∃ y, ys.getD i 0 = y := ⟨_, rfl⟩
       rw [hd] at hdx
       rw [hyd] at hdy
       have HD := Lib.hid hd
       have HY := Lib.hid hyd
       have HS := Lib.hid hs
       clear hd hyd hs
       by_cases he : d = y
       · subst he
         go_wp2
         go_quiet (fail)
         go_wp2
         go_roundw
         case rel => exact ⟨i + 1, _, by go_num, by omega, same_up HL.out hlt HS.out (by rw [HD.out, HY.out]), rfl⟩
         case measure => simp [intOf]; omega
       · have hne : ((d : Int) != (y : Int)) = true := by rw [bne_iff_ne]; omega
         go_wp2
         go_quiet (fail)
         go_wp2
         go_ret
         exact ⟨(Drew.mk _ _).more _, by rw [same_not (i := i) (by rw [HD.out, HY.out]; exact he)]; rfl⟩
     · have hie : i = xs.length := by omega
       subst hie
       have HS := Lib.hid hs
       clear hs
       go_wp2
       go_ret
       exact ⟨.mk _ _, by rw [same_all HL.out HS.out]; rfl⟩
  · have hne : ((xs.length : Int) != (ys.length : Int)) = true := by rw [bne_iff_ne]; omega
    have HN := Lib.hid (show decide (xs = ys) = false from decide_eq_false (fun h => hln (by rw [h])))
    clear hln
    go_enter Tryz.func101, Tryz.ntmps101
    go_wp2
    go_ret
    exact ⟨.refl _, by rw [HN.out]; rfl⟩
def Paired (ds zs : List Nat) (k : Nat) : Prop := zs.length = k ∧ Lm.Ok B32 zs ∧ Lm.val B32 zs = Lm.val BD (ds.take (2 * k))
theorem pair_pow (k : Nat) : B32 ^ k = BD ^ (2 * k) := by
  rw [show B32 = BD ^ 2 from by decide, ← Nat.pow_mul]
theorem paired_two {ds zs : List Nat} {k a b : Nat} (h : Paired ds zs k) (hk : 2 * k + 1 < ds.length) (ha : ds.getD (2 * k) 0 = a) (hb : ds.getD (2 * k + 1) 0 = b) (hal : a < 65536) (hbl : b < 65536) : Paired ds (zs ++ [a + b * 65536]) (k + 1) := by
  obtain ⟨h1, h2, h3⟩ := h
  refine ⟨by simp [h1], h2.append (.cons (by unfold B32; omega) (.nil _)), ?_⟩
  rw [Lm.val_snoc, h3, h1, show 2 * (k + 1) = (2 * k + 1) + 1 from by omega, Lm.val_take_succ _ _ _ hk, Lm.val_take_succ _ _ _ (by omega), ha, hb, pair_pow, Nat.pow_succ, Nat.mul_add, Nat.add_assoc]
  congr 2
  rw [Nat.mul_assoc, show BD = 65536 from rfl, Nat.mul_comm b]
theorem paired_one {ds zs : List Nat} {k a : Nat} (h : Paired ds zs k) (hk : 2 * k + 1 = ds.length) (ha : ds.getD (2 * k) 0 = a) (hal : a < 65536) : Paired ds (zs ++ [a]) (k + 1) := by
  obtain ⟨h1, h2, h3⟩ := h
  refine ⟨by simp [h1], h2.append (.cons (by unfold B32; omega) (.nil _)), ?_⟩
  rw [Lm.val_snoc, h3, h1, List.take_of_length_le (by omega : ds.length ≤ 2 * (k + 1)), pair_pow]
  have := Lm.val_take_succ BD ds (2 * k) (by omega)
  rw [ha, List.take_of_length_le (by omega)] at this
  exact this.symm
theorem top_of_val {b : Nat} {zs : List Nat} (ho : Lm.Ok b zs) (hl : 0 < zs.length) (h : b ^ (zs.length - 1) ≤ Lm.val b zs) : Lm.Top zs := by
  refine Lm.top_of_last (fun e => ?_)
  have h1 := Lm.val_split b zs (zs.length - 1) (Nat.sub_le _ _)
  rw [Lm.drop_last_one hl, e] at h1
  have h2 := Lm.val_lt (ho.take (zs.length - 1))
  rw [List.length_take, Nat.min_eq_left (Nat.sub_le _ _)] at h2
  simp [Lm.val] at h1
  omega
theorem paired_end {w : World} {A : Option Addr} {c n k : Nat} {ds zs : List Nat} (hd : Digs w A c ds n) (h : Paired ds zs k) (h1 : ds.length ≤ 2 * k) (h2 : 2 * k ≤ ds.length + 1) : Lm.val B32 zs = n ∧ Lm.Top zs := by
  obtain ⟨e1, e2, e3⟩ := h
  rw [List.take_of_length_le h1, hd.2.2.2.2] at e3
  refine ⟨e3, ?_⟩
  rcases Nat.eq_zero_or_pos k with rfl | hk
  · have : zs = [] := List.eq_nil_of_length_eq_zero e1
    rw [this]
    exact Lm.Top.nil
  · refine top_of_val e2 (by omega) ?_
    rw [e3, e1, pair_pow, ← hd.2.2.2.2]
    exact Nat.le_trans (Nat.pow_le_pow_right BD_pos (by omega)) (Lm.val_ge (by omega) hd.2.2.2.1)
def IsRefLimbs (w w' : World) (n : Nat) (e : Ending) : Prop := ∃ A c zs, e = .returned (.slice A zs.length c) ∧ Limbs w' A c zs n ∧ Below w.heap.size w w'
theorem digit_lt {xs : List Nat} (h : Lm.Ok BD xs) (j : Nat) : xs.getD j 0 < 65536 := h.getD BD_pos j
theorem RLimbs_any (b : Bool) (A : Option Addr) (c : Nat) (ds : List Nat) (n : Nat) (w : World) (h : Digs w A c ds n) (hl : ds.length ≤ 1000000) :
    Calls Tryz.prog 102 #[.agg #[.bool b, .slice A ds.length c]] w fun e w' => IsRefLimbs w w' n e := by
  obtain ⟨i0, hi0, hz0, hz1, hz2⟩ := info_parts Tryz.info132
  have HI := Lib.hid (And.intro hi0 (And.intro hz0 (And.intro hz1 hz2)))
  have hx0 := Two.new w (.bool b) (.slice A ds.length c) 34
  have hn0 := h.2.1.alloc (.cells #[.bool b, .slice A ds.length c] 34)
  clear hi0 hz0 hz1 hz2
  have H := Lib.hid hx0
  clear hx0
  go_enter Tryz.func102, Tryz.ntmps102
  go_wp2
  go_loopw [3, 4] (fun ov iv wr => ∃ (k : Nat) (zs : List Nat), iv = .int .i64 ((2 * k : Nat) : Int) ∧ wr.ownsRow (w.heap.size + 1) 132 1 ov zs.length (cellsOf .u32 zs) ∧ Paired ds zs k ∧ 2 * k ≤ ds.length + 1 ∧ Below (w.heap.size + 1) (w.alloc (.cells #[.bool b, .slice A ds.length c] 34)) wr) (fun _ iv _ => ds.length + 1 - (intOf iv).toNat)
  case atStart => exact ⟨0, [], rfl, World.ownsRow_nil _ _ _ _, ⟨rfl, .nil _, by simp [Lm.val]⟩, Nat.zero_le _, Below.refl _ _⟩
  case round =>
   obtain ⟨k, zs, rfl, hown, hpair, hk, hbel⟩ := hrel
   obtain ⟨A1, c1, rfl, hle⟩ := own_form hown
   have hbel' : Below (w.alloc (.cells #[.bool b, .slice A ds.length c] 34)).heap.size (w.alloc (.cells #[.bool b, .slice A ds.length c] 34)) wr := by rw [size_alloc]; exact hbel
   have hsz : w.heap.size + 1 ≤ wr.heap.size := by have := hbel.size; simpa using this
   have k1 := H.out.step hbel' rfl (by simp)
   obtain ⟨px0, px1⟩ := id k1
   have hnr := hn0.below hbel'
   have hzl := hpair.1
   have HZ := Lib.hid hzl
   have hzb : zs.length ≤ 1000000 := by omega
   clear hzl
   by_cases hlt : 2 * k < ds.length
   · obtain ⟨ad, rfl, _, hcell⟩ := hnr.at_ hlt
     have hca := hcell (2 * k) hlt
     have hal := digit_lt h.2.2.1 (2 * k)
     obtain ⟨a, ha⟩ : ∃ a, ds.getD (2 * k) 0 = a := ⟨_, rfl⟩
     rw [ha] at hca hal
     have HA := Lib.hid ha
     clear ha
     obtain ⟨i, hi⟩ : ∃ i, 2 * k = i := ⟨_, rfl⟩
     rw [hi] at hca hlt hk
     have hil : i ≤ 1000000 := by omega
     rw [show ((2 * k : Nat) : Int) = (i : Int) from by rw [hi]]
     by_cases h2 : i + 1 < ds.length
     · have hcb := hcell (i + 1) h2
       have hbl := digit_lt h.2.2.1 (i + 1)
       obtain ⟨d, hd⟩ : ∃ d, ds.getD (i + 1) 0 = d := ⟨_, rfl⟩
       rw [hd] at hcb hbl
       have hcb' : wr.cell? ⟨ad.block, ad.off + (i + 1), none⟩ = some (.int .i64 (d : Int)) := by simpa [Addr.add] using hcb
       clear hcb
       have HD := Lib.hid (And.intro hd hi)
       clear hd hi hcell
       go_wp2_with (at_builtin; refine wpList_append_own _ rfl _ _ 22 rfl (w.heap.size + 1) 132 i0 (.int .u32 0) 1 4 Tryz.underlying22 HI.out.1 HI.out.2.1 HI.out.2.2.1 HI.out.2.2.2 rfl (by decide) _ zs.length (cellsOf .u32 zs) rfl (hown.alloc _) ⟨wr.heap.size, 0, none⟩ 1 1 [.int .u32 ((a : Int) + (d : Int) * 65536)] rfl rfl (cell_one_new _ _ _) (by simp [Value.oneCell']) (by unfold maxLen; omega) (by omega) (by simp; omega) ?_; intro v1 w1 hown1 hg1 _)
       go_roundw
       case rel =>
        refine ⟨k + 1, zs ++ [a + d * 65536], by rw [← HD.out.2]; go_num, ?_, paired_two hpair (by rw [HD.out.2]; exact h2) HA.out (by rw [HD.out.2]; exact HD.out.1) hal hbl, by rw [show 2 * (k + 1) = 2 * k + 2 from by omega, HD.out.2]; omega, (hbel.alloc hsz _).grown hg1 (by simp; omega) (fun k hk => (hown.lt k hk).1)⟩
        rw [List.length_append, List.length_singleton, ← cells_snoc .u32 zs (a + d * 65536) ((a : Int) + (d : Int) * 65536) (by omega)]
        exact hown1
       case measure => simp [intOf]; omega
     · have HD := Lib.hid hi
       clear hi hcell
       go_wp2_with (at_builtin; refine wpList_append_own _ rfl _ _ 22 rfl (w.heap.size + 1) 132 i0 (.int .u32 0) 1 4 Tryz.underlying22 HI.out.1 HI.out.2.1 HI.out.2.2.1 HI.out.2.2.2 rfl (by decide) _ zs.length (cellsOf .u32 zs) rfl (hown.alloc _) ⟨wr.heap.size, 0, none⟩ 1 1 [.int .u32 (a : Int)] rfl rfl (cell_one_new _ _ _) (by simp [Value.oneCell']) (by unfold maxLen; omega) (by omega) (by simp; omega) ?_; intro v1 w1 hown1 hg1 _)
       go_roundw
       case rel =>
        refine ⟨k + 1, zs ++ [a], by rw [← HD.out]; go_num, ?_, paired_one hpair (by rw [HD.out]; omega) HA.out hal, by rw [show 2 * (k + 1) = 2 * k + 2 from by omega, HD.out]; omega, (hbel.alloc hsz _).grown hg1 (by simp; omega) (fun k hk => (hown.lt k hk).1)⟩
        rw [List.length_append, List.length_singleton, ← cells_snoc .u32 zs a (a : Int) rfl]
        exact hown1
       case measure => simp [intOf]; omega
   · obtain ⟨hv, ht⟩ := paired_end h hpair (by omega) hk
     have HV := Lib.hid (And.intro hv ht)
     clear hv ht
     go_wp2
     go_ret
     exact ⟨A1, c1, zs, rfl, ⟨hle, Nums.of_own hown rfl, hpair.2.1, HV.out.2, HV.out.1⟩, below_then ((Below.refl _ _).alloc (Nat.le_refl _) _) hbel'⟩
end Go.Proofs.YtpgbnegppehckaaGreat
namespace Go.Proofs.YtpgbnegppehckaaGreat
open Go.RowKit
theorem is_not {x y : Int} {b1 b2 : Bool} (h1 : SignOf b1 x) (h2 : SignOf b2 y) (hne : (b1 == b2) = false) : decide (x = y) = false := by
  refine decide_eq_false (fun h => ?_)
  subst h
  unfold SignOf at h1 h2
  rw [h1, h2] at hne
  simp at hne
theorem is_yes {x y : Int} {b : Bool} (h1 : SignOf b x) (h2 : SignOf b y) {w w' : World} {A A' : Option Addr} {c c' : Nat} {zs zs' : List Nat} (k1 : Limbs w A c zs x.natAbs) (k2 : Limbs w' A' c' zs' y.natAbs) : decide (zs = zs') = decide (x = y) := by
  unfold SignOf at h1 h2
  rw [h1] at h2
  have h3 : (x < 0) = (y < 0) := by simpa using h2
  by_cases h : zs = zs'
  · subst h
    have e : x.natAbs = y.natAbs := by rw [← k1.2.2.2.2, k2.2.2.2.2]
    have e' : x = y := by
      by_cases hx : x < 0
      · have hy := hx; rw [h3] at hy; omega
      · have hy := hx; rw [h3] at hy; omega
    simp [e']
  · have e' : ¬ x = y := by
      rintro rfl
      exact h (Lm.uniq B32_one k1.2.2.1 k2.2.2.1 k1.2.2.2.1 k2.2.2.2.1 (by rw [k1.2.2.2.2, k2.2.2.2.2]))
    simp [h, e']
theorem is_ints (b1 b2 : Bool) (A1 : Option Addr) (c1 : Nat) (zs1 : List Nat) (A2 : Option Addr) (c2 : Nat) (ds : List Nat) (x y : Int) (w : World) (hs1 : SignOf b1 x) (hs2 : SignOf b2 y)
    (h1 : Limbs w A1 c1 zs1 x.natAbs) (h2 : Digs w A2 c2 ds y.natAbs) (hl1 : zs1.length ≤ 900000) (hl2 : ds.length ≤ 900000) :
    Calls Tryz.prog 48 #[.agg #[.bool b1, .slice A1 zs1.length c1], .agg #[.bool b2, .slice A2 ds.length c2]] w fun e w' => IsBool w w' (decide (x = y)) e := by
  have hbb := boxed2_below w (.cells #[.bool b1, .slice A1 zs1.length c1] 31) (.cells #[.bool b2, .slice A2 ds.length c2] 34)
  have hi1 : IntAt ((w.alloc (.cells #[.bool b1, .slice A1 zs1.length c1] 31)).alloc (.cells #[.bool b2, .slice A2 ds.length c2] 34)) (.agg #[.bool b1, .slice A1 zs1.length c1]) x := ⟨b1, A1, c1, zs1, rfl, hs1, h1.below hbb⟩
  have hd0 := h2.step hbb rfl
  have hy0 := Two.new (w.alloc (.cells #[.bool b1, .slice A1 zs1.length c1] 31)) (.bool b2) (.slice A2 ds.length c2) 34
  rw [size_alloc] at hy0
  have hlim := Limbs_any (.agg #[.bool b1, .slice A1 zs1.length c1]) x zs1.length _ hi1 (by rw [← h1.2.2.2.2]; exact Lm.val_lt h1.2.2.1) (by omega)
  have H := Lib.hid (And.intro hbb (And.intro hd0 (And.intro hy0 hlim)))
  clear hbb hd0 hy0 hlim hi1
  go_enter Tryz.func48, Tryz.ntmps48
  go_wp2_with fail
  refine H.out.2.2.2.mono ?_
  rintro e w1 ⟨b3, A3, c3, zs3, rfl, hs3, hl3, hb1⟩
  obtain rfl : b3 = b1 := by unfold SignOf at hs1 hs3; rw [hs1, hs3]
  have hd1 := H.out.2.1.step hb1 rfl
  have k1 := H.out.2.2.1.step hb1 rfl (by simp)
  have hsz : w.heap.size + 2 ≤ w1.heap.size := by have := hb1.size; simp at this; omega
  obtain ⟨py0, py1⟩ := id k1
  have hle3 : zs3.length ≤ 1000000 := by have := hl3.len (m := zs1.length) (by rw [← h1.2.2.2.2]; exact Lm.val_lt h1.2.2.1); omega
  rcases hb : (b3 == b2) with _ | _
  · have HN := Lib.hid (is_not hs1 hs2 hb)
    go_wp2
    go_ret
    exact ⟨by rw [HN.out]; rfl, below_then H.out.1 hb1⟩
  · have hbe : b2 = b3 := by have : b3 = b2 := by simpa using hb
                             exact this.symm
    subst hbe
    go_wp2_with fail
    refine (RLimbs_any b2 A2 c2 ds y.natAbs w1 hd1 (by omega)).mono ?_
    rintro e w2 ⟨A4, c4, zs4, rfl, hl4, hb2⟩
    have hn3 := hl3.2.1.below hb2
    have hle4 : zs4.length ≤ 1000000 := by
      have := hl4.len (m := ds.length) (by rw [← h2.2.2.2.2]; exact Nat.lt_of_lt_of_le (Lm.val_lt h2.2.2.1) (Nat.pow_le_pow_left (by decide) _))
      omega
    go_wp2_with fail
    refine (equal_any A3 c3 zs3 A4 c4 zs4 w2 hn3 hl4.2.1 hle3).mono ?_
    rintro e w3 ⟨hd, rfl⟩
    have HE := Lib.hid (is_yes hs1 hs2 hl3 hl4)
    go_wp2
    go_ret
    exact ⟨by rw [← HE.out]; rfl, (below_then (below_then H.out.1 hb1) hb2).trans (hd.below _)⟩
theorem Is_any (v1 v2 : Value) (x y : Int) (m : Nat) (w : World) (h1 : IntAt w v1 x) (h2 : RefAt w v2 y) (hm : m ≤ 900000) (hx : x.natAbs < B32 ^ m) (hy : y.natAbs < BD ^ m) :
    Calls Tryz.prog 48 #[v1, v2] w fun e w' => IsBool w w' (decide (x = y)) e := by
  obtain ⟨b1, A1, c1, zs1, rfl, hs1, hl1⟩ := h1
  obtain ⟨b2, A2, c2, zs2, rfl, hs2, hl2⟩ := h2
  exact is_ints b1 b2 A1 c1 zs1 A2 c2 zs2 x y w hs1 hs2 hl1 hl2 (Nat.le_trans (hl1.len hx) hm) (Nat.le_trans (hl2.len hy) hm)
end Go.Proofs.YtpgbnegppehckaaGreat
namespace Go.Proofs.YtpgbnegppehckaaGreat
open Go.RowKit
def magOf (z : Int) : Nat := if z < 0 then z.natAbs - 1 else z.natAbs
theorem getD_set_eq (xs : List Nat) (p d : Nat) (h : p < xs.length) : (xs.set p d).getD p 0 = d := by
  rw [List.getD_eq_getElem?_getD, List.getElem?_set, if_pos rfl, if_pos h]; rfl
end Go.Proofs.YtpgbnegppehckaaGreat
namespace Go.Proofs.YtpgbnegppehckaaGreat
open Go.RowKit
theorem B32_pow (k : Nat) : B32 ^ k = 2 ^ (32 * k) := by rw [Nat.pow_mul]; rfl
theorem last_lt {xs : List Nat} (ho : Lm.Ok B32 xs) (k : Nat) : xs.getD k 0 < B32 := ho.getD B32_pos k
theorem val_last {xs : List Nat} (h : 0 < xs.length) : Lm.val B32 xs = Lm.val B32 (xs.take (xs.length - 1)) + 2 ^ (32 * (xs.length - 1)) * xs.getD (xs.length - 1) 0 := by
  rw [Lm.val_split B32 xs (xs.length - 1) (by omega), Lm.drop_last_one h, B32_pow]
  simp [Lm.val]
theorem bl_val {xs : List Nat} (h : 0 < xs.length) (ho : Lm.Ok B32 xs) (ht : Lm.Top xs) : bl (Lm.val B32 xs) = 32 * (xs.length - 1) + bl (xs.getD (xs.length - 1) 0) := by
  rw [val_last h]
  refine bl_shift _ _ _ ?_ (Lm.last_of_top h ht)
  have := Lm.val_lt (ho.take (xs.length - 1))
  rw [List.length_take, Nat.min_eq_left (by omega), B32_pow] at this
  exact this
theorem width_any (A : Option Addr) (c n : Nat) (zs : List Nat) (w : World) (h : Limbs w A c zs n) (hl : zs.length ≤ 1000000) :
    Calls Tryz.prog 158 #[.slice A zs.length c] w fun e w' => e = .returned (.int .i64 (bl n : Int)) ∧ w = w' := by
  by_cases h0 : 0 < zs.length
  · obtain ⟨ad, rfl, _, hcell⟩ := h.2.1 h0
    have hcd := hcell (zs.length - 1) (by omega)
    have hlim := last_lt h.2.2.1 (zs.length - 1)
    have hbl := bl_val h0 h.2.2.1 h.2.2.2.1
    rw [h.2.2.2.2] at hbl
    clear hcell
    obtain ⟨d, hd⟩ : ∃ d, zs.getD (zs.length - 1) 0 = d := ⟨_, rfl⟩
    rw [hd] at hcd hlim hbl
    have hb32 : bl d ≤ 32 := bl_le.mpr hlim
    have HD := Lib.hid (And.intro hbl (len32_any d w hlim))
    have hne : ((zs.length : Int) == 0) = false := by rw [beq_eq_false_iff_ne]; omega
    have hb0 : (0 : Int) ≤ (bl d : Int) := Int.natCast_nonneg _
    have hb1 : (bl d : Int) ≤ 32 := by omega
    have hidx : ((zs.length : Int) - 1).toNat = zs.length - 1 := by omega
    have hi0 : (0 : Int) ≤ (zs.length : Int) - 1 := by omega
    clear hd hbl hlim h hb32
    go_enter Tryz.func158, Tryz.ntmps158
    go_wp2_with fail
    refine HD.out.2.mono ?_
    rintro e w' ⟨rfl, rfl⟩
    go_wp2
    go_ret
    refine ⟨congrArg Ending.returned (congrArg (Value.int IntKind.i64) ?_), rfl⟩
    rw [HD.out.1]
    omega
  · have hz : zs = [] := by cases zs with
      | nil => rfl
      | cons a l => simp at h0
    subst hz
    have hn : n = 0 := h.2.2.2.2.symm
    subst hn
    go_enter Tryz.func158, Tryz.ntmps158
    go_wp2
    go_ret
    exact ⟨rfl, rfl⟩
end Go.Proofs.YtpgbnegppehckaaGreat
namespace Go.Proofs.YtpgbnegppehckaaGreat
open Go.RowKit
theorem Digs.below {w w' : World} {A : Option Addr} {c n : Nat} {ds : List Nat} (h : Digs w A c ds n) (hb : Below w.heap.size w w') : Digs w' A c ds n := h.step hb rfl
theorem rneg_of {z : Int} {b : Bool} (h : SignOf b z) : ofSign (!b) z.natAbs = -z := by
  unfold SignOf at h
  unfold ofSign
  subst h
  by_cases h : z < 0 <;> simp [h] <;> omega
theorem RNeg_any (v : Value) (z : Int) (m : Nat) (w : World) (h : RefAt w v z) (hz : z.natAbs < BD ^ m) (hm : m ≤ 1000000) : Calls Tryz.prog 81 #[v] w fun e w' => IsRef w w' (-z) e := by
  obtain ⟨b, A, c, ds, rfl, hs, hd⟩ := h
  have hlen := Nat.le_trans (hd.len hz) hm
  have hbel : Below w.heap.size w ((w.alloc (.cells #[.bool b, .slice A ds.length c] 34)).alloc (.cells #[.bool false, .slice none 0 0] 34)) := ((Below.refl _ _).alloc (Nat.le_refl _) _).alloc (by simp) _
  have hr := Res.new (w.alloc (.cells #[.bool b, .slice A ds.length c] 34)) 34
  rw [size_alloc] at hr
  have hmade := made_to (!b) A c ds (-z) _ (hd.2.1.below hbel) hd.2.2.1 hlen hd.1 (by rw [hd.2.2.2.2]; exact rneg_of hs)
  have H := Lib.hid (And.intro hmade (And.intro hbel hr))
  clear hbel hr hmade hs hd hlen hz
  cases b
  all_goals
    go_enter Tryz.func81, Tryz.ntmps81
    go_wp2_with fail
    refine H.out.1.mono ?_
    rintro e w2 ⟨v2, rfl, ⟨b4, A4, c4, zs4, rfl, hsg4, hl4⟩, hb2⟩
    have k2 := H.out.2.2.step hb2 rfl (by simp)
    obtain ⟨⟨hr0, hr1⟩, hf0, hf1⟩ := id k2
    go_wp2
    refine bodyPost_ret (v := .agg #[.bool b4, .slice A4 zs4.length c4]) (by simp [results, Tryz.results81, go_sem, hr0, hr1]) rfl ?_
    exact ref_stored k2 hsg4 hl4 (below_then H.out.2.1 hb2) (by omega)
theorem rsub_ints (b1 b2 : Bool) (A1 : Option Addr) (c1 : Nat) (zs1 : List Nat) (A2 : Option Addr) (c2 : Nat) (zs2 : List Nat) (x y : Int) (m : Nat) (w : World) (hs1 : SignOf b1 x) (hs2 : SignOf b2 y)
    (h1 : Digs w A1 c1 zs1 x.natAbs) (h2 : Digs w A2 c2 zs2 y.natAbs) (hm : m ≤ 900000) (hx : x.natAbs < BD ^ m) (hy : y.natAbs < BD ^ m) :
    Calls Tryz.prog 122 #[.agg #[.bool b1, .slice A1 zs1.length c1], .agg #[.bool b2, .slice A2 zs2.length c2]] w fun e w' => IsRef w w' (x - y) e := by
  have hbb := begun2_below w (.bool b1) (.slice A1 zs1.length c1) (.bool b2) (.slice A2 zs2.length c2) 34
  have hx0 := begun2_x w (.bool b1) (.slice A1 zs1.length c1) (.bool b2) (.slice A2 zs2.length c2) 34
  have hy0 := begun2_y w (.bool b1) (.slice A1 zs1.length c1) (.bool b2) (.slice A2 zs2.length c2) 34
  have hr0 := begun2_r w (.bool b1) (.slice A1 zs1.length c1) (.bool b2) (.slice A2 zs2.length c2) 34
  have hsz := begun2_size w (.bool b1) (.slice A1 zs1.length c1) (.bool b2) (.slice A2 zs2.length c2) 34
  have hi1 : RefAt (begun2 w (.bool b1) (.slice A1 zs1.length c1) (.bool b2) (.slice A2 zs2.length c2) 34) (.agg #[.bool b1, .slice A1 zs1.length c1]) x := ⟨b1, A1, c1, zs1, rfl, hs1, h1.below hbb⟩
  have hi2 : RefAt (begun2 w (.bool b1) (.slice A1 zs1.length c1) (.bool b2) (.slice A2 zs2.length c2) 34) (.agg #[.bool b2, .slice A2 zs2.length c2]) y := ⟨b2, A2, c2, zs2, rfl, hs2, h2.below hbb⟩
  have H := Lib.hid (And.intro hbb (And.intro hx0 (And.intro hy0 (And.intro hr0 hsz))))
  clear hbb hx0 hy0 hr0 hsz
  go_enter Tryz.func122, Tryz.ntmps122
  go_wp2_with fail
  go_region_held3 (fun w' => w'.cell? ⟨w.heap.size, 0, none⟩ = some (.bool b1) ∧ w'.cell? ⟨w.heap.size, 1, none⟩ = some (.slice A1 zs1.length c1) ∧ w'.cell? ⟨w.heap.size + 1, 0, none⟩ = some (.bool b2) ∧ w'.cell? ⟨w.heap.size + 1, 1, none⟩ = some (.slice A2 zs2.length c2))
    (((try dsimp only); (repeat' apply And.intro) <;> (first | (with_reducible assumption) | go_keep)))
    ((first | (go_at_call 81; refine (RNeg_any (.agg #[.bool b2, .slice A2 zs2.length c2]) y m _ (by exact hi2) hy (by omega)).mono ?_; rintro e w1 ⟨v1, rfl, hi3, hb1⟩; have hi1' := hi1.step hb1 rfl; have k1x := H.out.2.1.step hb1 rfl (by rw [H.out.2.2.2.2]; (try omega)); have k1y := H.out.2.2.1.step hb1 rfl (by rw [H.out.2.2.2.2]; (try omega)); have k1r := H.out.2.2.2.1.step hb1 rfl (by rw [H.out.2.2.2.2]; (try omega)); obtain ⟨px0, px1⟩ := id k1x; obtain ⟨py0, py1⟩ := id k1y; have hs1' : w.heap.size + 3 ≤ w1.heap.size := Nat.le_trans (Nat.le_of_eq H.out.2.2.2.2.symm) hb1.size) | (go_at_call 88; refine (RAdd_any (.agg #[.bool b1, .slice A1 zs1.length c1]) v1 x (-y) m _ (by exact hi1') (by exact hi3) hm hx (by rw [Int.natAbs_neg]; exact hy)).mono ?_; rintro e w2 ⟨v2, rfl, ⟨b4, A4, c4, zs4, rfl, hsg4, hl4⟩, hb2⟩; have k2x := k1x.step hb2 rfl (by omega); have k2y := k1y.step hb2 rfl (by omega); have k2r := k1r.step hb2 rfl (by omega); obtain ⟨hx0, hx1⟩ := id k2x; obtain ⟨hy0, hy1⟩ := id k2y; obtain ⟨⟨hr0, hr1⟩, hf0, hf1⟩ := id k2r; obtain ⟨qx0, qx1⟩ := k2x.far (r := w.heap.size + 1 + 1) (by omega) (.bool b4) (.slice A4 zs4.length c4); obtain ⟨qy0, qy1⟩ := k2y.far (r := w.heap.size + 1 + 1) (by omega) (.bool b4) (.slice A4 zs4.length c4))))
  go_wp2
  refine bodyPost_ret (v := .agg #[.bool b4, .slice A4 zs4.length c4]) (by simp [results, Tryz.results122, go_sem, hr0, hr1]) rfl ?_
  exact ref_stored k2r hsg4 hl4 (below_then (below_then H.out.1.drew hb1) hb2) (by omega)
theorem RSub_any (v1 v2 : Value) (x y : Int) (m : Nat) (w : World) (h1 : RefAt w v1 x) (h2 : RefAt w v2 y) (hm : m ≤ 900000) (hx : x.natAbs < BD ^ m) (hy : y.natAbs < BD ^ m) :
    Calls Tryz.prog 122 #[v1, v2] w fun e w' => IsRef w w' (x - y) e := by
  obtain ⟨b1, A1, c1, zs1, rfl, hs1, hl1⟩ := h1
  obtain ⟨b2, A2, c2, zs2, rfl, hs2, hl2⟩ := h2
  exact rsub_ints b1 b2 A1 c1 zs1 A2 c2 zs2 x y m w hs1 hs2 hl1 hl2 hm hx hy
theorem rsign_zero {w : World} {A : Option Addr} {c : Nat} {zs : List Nat} {z : Int} (h : Digs w A c zs z.natAbs) (h0 : zs.length = 0) : z.sign = 0 := by
  have hz : zs = [] := List.eq_nil_of_length_eq_zero h0
  subst hz
  have hv : 0 = z.natAbs := h.2.2.2.2
  have hz : z = 0 := by omega
  rw [hz]
  rfl
theorem rsign_pos {w : World} {A : Option Addr} {c : Nat} {zs : List Nat} {z : Int} (h : Digs w A c zs z.natAbs) (h0 : 0 < zs.length) : z ≠ 0 := by
  have := Lm.val_pos BD_pos h0 h.2.2.2.1
  rw [h.2.2.2.2] at this
  omega
theorem RSign_any (v : Value) (z : Int) (m : Nat) (w : World) (h : RefAt w v z) (hm : m ≤ 900000) (hz : z.natAbs < BD ^ m) :
    Calls Tryz.prog 79 #[v] w fun e w' => IsNum w w' z.sign e := by
  obtain ⟨b, A, c, zs, rfl, hs, hl⟩ := h
  have hlen := Nat.le_trans (hl.len hz) hm
  rcases Nat.eq_zero_or_pos zs.length with h0 | h0
  · have H := Lib.hid (rsign_zero hl h0)
    rw [h0]
    clear hl h0
    go_enter Tryz.func79, Tryz.ntmps79
    go_wp2
    go_ret
    exact ⟨by rw [H.out]; rfl, (Below.refl _ _).alloc (Nat.le_refl _) _⟩
  · have hne := rsign_pos hl h0
    have hf : ((zs.length : Int) == 0) = false := by rw [beq_eq_false_iff_ne]; omega
    cases b
    · have hp : z.sign = 1 := Int.sign_eq_one_of_pos (by have := sign_of_pos hs; omega)
      have H := Lib.hid hp
      clear hp hl hne hs
      go_enter Tryz.func79, Tryz.ntmps79
      go_wp2
      go_ret
      exact ⟨by rw [H.out]; rfl, (Below.refl _ _).alloc (Nat.le_refl _) _⟩
    · have hp : z.sign = -1 := Int.sign_eq_neg_one_of_neg (sign_of_neg hs)
      have H := Lib.hid hp
      clear hp hl hne hs
      go_enter Tryz.func79, Tryz.ntmps79
      go_wp2
      go_ret
      exact ⟨by rw [H.out]; rfl, (Below.refl _ _).alloc (Nat.le_refl _) _⟩
theorem sign_cmp (x y : Int) : (x - y).sign = cmpZ x y := by
  unfold cmpZ
  by_cases h : x < y
  · rw [if_pos h, Int.sign_eq_neg_one_of_neg (by omega)]
  · rw [if_neg h]
    by_cases h' : y < x
    · rw [if_pos h', Int.sign_eq_one_of_pos (by omega)]
    · rw [if_neg h', show x - y = 0 by omega]
      rfl
theorem RCmp_any (v1 v2 : Value) (x y : Int) (m : Nat) (w : World) (h1 : RefAt w v1 x) (h2 : RefAt w v2 y) (hm : m < 900000) (hx : x.natAbs < BD ^ m) (hy : y.natAbs < BD ^ m) :
    Calls Tryz.prog 85 #[v1, v2] w fun e w' => IsNum w w' (cmpZ x y) e := by
  obtain ⟨b1, A1, c1, zs1, rfl, hs1, hd1⟩ := h1
  obtain ⟨b2, A2, c2, zs2, rfl, hs2, hd2⟩ := h2
  have hbel := boxed2_below w (.cells #[.bool b1, .slice A1 zs1.length c1] 34) (.cells #[.bool b2, .slice A2 zs2.length c2] 34)
  have hsub := RSub_any (.agg #[.bool b1, .slice A1 zs1.length c1]) (.agg #[.bool b2, .slice A2 zs2.length c2]) x y m _ ⟨b1, A1, c1, zs1, rfl, hs1, hd1.step hbel rfl⟩ ⟨b2, A2, c2, zs2, rfl, hs2, hd2.step hbel rfl⟩ (Nat.le_of_lt hm) hx hy
  have hfit : (x - y).natAbs < BD ^ (m + 1) := by
    rw [Nat.pow_succ]
    have : BD ^ m * 2 ≤ BD ^ m * BD := Nat.mul_le_mul_left _ (by decide)
    omega
  have H := Lib.hid (And.intro hsub (And.intro hbel (And.intro hfit hm)))
  clear hsub hbel hfit hs1 hs2 hd1 hd2 hx hy hm
  go_enter Tryz.func85, Tryz.ntmps85
  go_wp2_with fail
  refine H.out.1.mono ?_
  rintro e w1 ⟨v1, rfl, hi1, hb1⟩
  go_wp2_with fail
  refine (RSign_any v1 (x - y) (m + 1) w1 hi1 (by have := H.out.2.2.2; omega) H.out.2.2.1).mono ?_
  rintro e w2 ⟨rfl, hb2⟩
  go_wp2
  go_ret
  rw [sign_cmp]
  exact ⟨rfl, below_then (below_then H.out.2.1 hb1) hb2⟩
end Go.Proofs.YtpgbnegppehckaaGreat
namespace Go.Proofs.YtpgbnegppehckaaGreat
open Go.RowKit
end Go.Proofs.YtpgbnegppehckaaGreat
namespace Go.Proofs.YtpgbnegppehckaaGreat
open Go.RowKit
end Go.Proofs.YtpgbnegppehckaaGreat
namespace Go.Proofs.YtpgbnegppehckaaGreat
open Go.RowKit
end Go.Proofs.YtpgbnegppehckaaGreat
namespace Go.Proofs.YtpgbnegppehckaaGreat
open Go.RowKit
end Go.Proofs.YtpgbnegppehckaaGreat
namespace Go.Proofs.YtpgbnegppehckaaGreat
open Go.RowKit
end Go.Proofs.YtpgbnegppehckaaGreat
namespace Go.Proofs.YtpgbnegppehckaaGreat
open Go.RowKit
end Go.Proofs.YtpgbnegppehckaaGreat
namespace Go.Proofs.YtpgbnegppehckaaGreat
open Go.RowKit
theorem top1 {d : Nat} (h : d ≠ 0) : Lm.Top [d] := Lm.top_of_last (by simpa using h)
def One (w w' : World) (s : Bool) (d : Nat) (e : Ending) : Prop := ∃ A c, e = .returned (.agg #[.bool s, .slice A 1 c]) ∧ Limbs w' A c [d] d ∧ Below w.heap.size w w'
end Go.Proofs.YtpgbnegppehckaaGreat
namespace Go.Proofs.YtpgbnegppehckaaGreat
open Go.RowKit
def AllShort (n1 n2 n3 : Nat) : Prop := n1 ≤ 8 ∧ n2 ≤ 8 ∧ n3 ≤ 8
instance (n1 n2 n3 : Nat) : Decidable (AllShort n1 n2 n3) := inferInstanceAs (Decidable (n1 ≤ 8 ∧ n2 ≤ 8 ∧ n3 ≤ 8))
end Go.Proofs.YtpgbnegppehckaaGreat
namespace Go.Proofs.YtpgbnegppehckaaGreat
open Go.RowKit
end Go.Proofs.YtpgbnegppehckaaGreat
namespace Go.Proofs.YtpgbnegppehckaaGreat
open Go.RowKit
theorem cell_two_new (w : World) (a b : Value) (t : TypeId) : ∀ j u, [a, b][j]? = some u → (w.alloc (.cells #[a, b] t)).cell? ((⟨w.heap.size, 0, none⟩ : Addr).add j) = some u := by
  intro j u h
  match j, h with
  | 0, h => injection h with h; subst h; exact (cell2 w a b t).1
  | 1, h => injection h with h; subst h; exact (cell2 w a b t).2
  | _ + 2, h => simp at h
def Plain (w : World) (A : Option Addr) (c : Nat) (xs : List Nat) : Prop := Nums w .u32 A xs ∧ Lm.Ok B32 xs ∧ xs.length ≤ 8 ∧ xs.length ≤ c
end Go.Proofs.YtpgbnegppehckaaGreat
