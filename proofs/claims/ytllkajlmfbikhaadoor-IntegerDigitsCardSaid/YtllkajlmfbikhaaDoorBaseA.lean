/- Joined texts: Mem, Trim, Add, Clone, Signed, Limbs, Sum, Sub, Prod, Compare. -/
import Derived.Test.YtllkajlmfbikhaaDoorMath
import Derived.WalkKit
import Derived.WalkSpells
import Derived.WalkLawsBesides
import Derived.Deep.AppendLies
import Derived.Deep.Draws
import Derived.BigQuiet
import Derived.Deep.QuietTactic
import Derived.Deep.Light
import Derived.Lib.Hide
import Derived.Test.YtllkajlmfbikhaaDoorProg
import Derived.Outline
import Derived.Deep.RegionHeld3
import Derived.Laws.CopyOwn
namespace Go.Proofs.YtllkajlmfbikhaaDoor
open Go.RowKit
set_option linter.unusedSimpArgs false

theorem block_of_add (a : Addr) (n : Nat) : (a.add n).block = a.block := by unfold Addr.add; split <;> rfl
theorem add_of_add (a : Addr) (i j : Nat) : (a.add i).add j = a.add (i + j) := by
  unfold Addr.add
  by_cases hi : i = 0 <;> by_cases hj : j = 0 <;> simp [hi, hj, Nat.add_assoc]

/-- The slice value '.slice A n c' holds the numbers xs of kind k. -/
def Nums (w : World) (k : IntKind) (A : Option Addr) (xs : List Nat) : Prop :=
  0 < xs.length → ∃ ad, A = some ad ∧ ad.block < w.heap.size ∧ ∀ j, j < xs.length → w.cell? (ad.add j) = some (.int k ((xs.getD j 0 : Nat) : Int))

section
variable {w w' : World} {k : IntKind} {A : Option Addr} {xs : List Nat}
theorem Nums.nil (w : World) (k : IntKind) (A : Option Addr) : Nums w k A [] := fun h => absurd h (by simp)
theorem Nums.at_ {j : Nat} (h : Nums w k A xs) (hj : j < xs.length) : ∃ ad, A = some ad ∧ ad.block < w.heap.size ∧ ∀ j, j < xs.length → w.cell? (ad.add j) = some (.int k ((xs.getD j 0 : Nat) : Int)) := h (by omega)
theorem Nums.keep (h : Nums w k A xs) (hs : w.heap.size ≤ w'.heap.size) (hk : ∀ p : Addr, p.block < w.heap.size → w'.cell? p = w.cell? p) : Nums w' k A xs := fun hn => by
  obtain ⟨ad, e, hb, hc⟩ := h hn
  exact ⟨ad, e, by omega, fun j hj => (hk _ (by rw [block_of_add]; exact hb)).trans (hc j hj)⟩
theorem Nums.below (h : Nums w k A xs) (hb : Below w.heap.size w w') : Nums w' k A xs := h.keep hb.size fun _ hp => hb.cell hp
theorem Nums.drew (h : Nums w k A xs) : Nums w.drew k A xs := h
theorem Nums.drewN (h : Nums w k A xs) (n : Nat) : Nums (w.drewN n) k A xs := h
theorem Nums.alloc (h : Nums w k A xs) (o : Obj) : Nums (w.alloc o) k A xs := h.keep (by simp) fun p hp => World.cell?_alloc_lt w o p (by omega)
theorem Nums.take (h : Nums w k A xs) (n : Nat) : Nums w k A (xs.take n) := fun hn => by
  rw [List.length_take] at hn
  obtain ⟨ad, e, hb, hc⟩ := h (by omega)
  refine ⟨ad, e, hb, fun j hj => ?_⟩
  rw [List.length_take] at hj
  rw [hc j (by omega), List.getD_eq_getElem?_getD, List.getD_eq_getElem?_getD, List.getElem?_take, if_pos (by omega)]
theorem Nums.of_own {base : Nat} {e : TypeId} {n c : Nat} {ys : List Value} (h : w.ownsRow base e 1 (.slice A n c) n ys) (hy : ys = xs.map fun x => Value.int k ((x : Nat) : Int)) : Nums w k A xs := fun hn => by
  have hl := h.1
  subst hy
  simp at hl
  rcases h.2 with ⟨hv, h0⟩ | ⟨g, cap, cur, hv, _, hg, hnc, _, _, _⟩
  · omega
  · simp only [Value.slice.injEq] at hv
    obtain ⟨rfl, _, _⟩ := hv
    refine ⟨_, rfl, (Array.getElem?_eq_some_iff.1 hg).1, fun j hj => ?_⟩
    refine h.cells (g := g) rfl j _ ?_
    rw [List.getElem?_map, List.getElem?_eq_getElem hj, List.getD_eq_getElem?_getD, List.getElem?_eq_getElem hj]
    rfl
end

/-- A row of numbers within block g, from off on: the block's cells are cur. -/
structure Seg (w : World) (g off : Nat) (k : IntKind) (e : TypeId) (cur : Array Value) (xs : List Nat) : Prop where
  blk : w.heap[g]? = some (.cells cur e (0, 0))
  fit : off + xs.length ≤ cur.size
  at_ : ∀ j, j < xs.length → cur[off + j]? = some (.int k ((xs.getD j 0 : Nat) : Int))

section
variable {w w' : World} {g off : Nat} {k : IntKind} {e : TypeId} {cur : Array Value} {xs : List Nat}
theorem Seg.cell (h : Seg w g off k e cur xs) {j : Nat} (hj : j < xs.length) : w.cell? ⟨g, off + j, none⟩ = some (.int k ((xs.getD j 0 : Nat) : Int)) := by
  rw [cell_of_row w g (off + j) cur e (0, 0) h.blk]
  exact h.at_ j hj
theorem Seg.frozen (h : Seg w g off k e cur xs) (j : Nat) : w.frozen? ⟨g, j, none⟩ = false := by
  have hb := h.blk
  simp [World.frozen?, hb]
theorem Seg.lt (h : Seg w g off k e cur xs) : g < w.heap.size := (Array.getElem?_eq_some_iff.1 h.blk).1
theorem Seg.nums (h : Seg w g off k e cur xs) : Nums w k (some ⟨g, off, none⟩) xs := fun _ => by
  refine ⟨_, rfl, h.lt, fun j hj => ?_⟩
  have hc := h.cell hj
  unfold Addr.add
  by_cases h0 : j = 0
  · subst h0; simpa using hc
  · simpa [h0] using hc
theorem Seg.set_ (h : Seg w g off k e cur xs) (j : Nat) (d : Nat) :
    Seg (w.setCell ⟨g, off + j, none⟩ (.int k (d : Int))) g off k e (cur.setIfInBounds (off + j) (.int k (d : Int))) (xs.set j d) := by
  refine ⟨heap_setCell_same w g (off + j) cur e _ h.blk, by simpa using h.fit, fun i hi => ?_⟩
  rw [List.length_set] at hi
  have hf := h.fit
  rw [Array.getElem?_setIfInBounds, List.getD_eq_getElem?_getD, List.getElem?_set]
  by_cases e : j = i
  · subst e
    rw [if_pos rfl, if_pos (by omega), if_pos rfl, if_pos hi]
    rfl
  · rw [if_neg (by omega), if_neg e, h.at_ i hi, List.getD_eq_getElem?_getD]
theorem Seg.keep (h : Seg w g off k e cur xs) (hb : w'.heap[g]? = w.heap[g]?) : Seg w' g off k e cur xs := ⟨hb.trans h.blk, h.fit, h.at_⟩
theorem Seg.grown {row : Option Nat} (h : Seg w g off k e cur xs) (hg : w.grownBy w' row) (hr : row ≠ some g) : Seg w' g off k e cur xs := h.keep (hg.block g h.lt (fun e => hr e.symm))
theorem Seg.alloc (h : Seg w g off k e cur xs) (o : Obj) : Seg (w.alloc o) g off k e cur xs := h.keep (Below.heap_alloc w o g h.lt)
end

/-- The row has become xs'; the block's other cells are as they were. -/
def SegTo (w' : World) (g off : Nat) (k : IntKind) (e : TypeId) (cur : Array Value) (xs' : List Nat) : Prop :=
  ∃ cur', Seg w' g off k e cur' xs' ∧ cur'.size = cur.size ∧ ∀ j, j < off ∨ off + xs'.length ≤ j → cur'[j]? = cur[j]?

theorem SegTo.refl {w : World} {g off : Nat} {k : IntKind} {e : TypeId} {cur : Array Value} {xs : List Nat} (h : Seg w g off k e cur xs) : SegTo w g off k e cur xs := ⟨cur, h, rfl, fun _ _ => rfl⟩
theorem SegTo.set_ {w : World} {g off : Nat} {k : IntKind} {e : TypeId} {cur : Array Value} {xs : List Nat} (h : SegTo w g off k e cur xs) {j : Nat} (hj : j < xs.length) (d : Nat) :
    SegTo (w.setCell ⟨g, off + j, none⟩ (.int k (d : Int))) g off k e cur (xs.set j d) := by
  obtain ⟨cur', h1, h2, h3⟩ := h
  refine ⟨_, h1.set_ j d, by simpa using h2, fun i hi => ?_⟩
  rw [List.length_set] at hi
  rw [Array.getElem?_setIfInBounds, if_neg (by omega)]
  exact h3 i hi

theorem SegTo.set0 {w : World} {g : Nat} {k : IntKind} {e : TypeId} {cur : Array Value} {xs : List Nat} (h : SegTo w g 0 k e cur xs) {j : Nat} (hj : j < xs.length) (d : Nat) :
    SegTo (w.setCell ⟨g, j, none⟩ (.int k (d : Int))) g 0 k e cur (xs.set j d) := by
  have := h.set_ hj d
  rwa [Nat.zero_add] at this

theorem grown_store (w : World) (g o : Nat) (u : Value) : w.grownBy (w.setCell ⟨g, o, none⟩ u) (some g) :=
  ⟨rfl, rfl, rfl, by simp [World.setCell], fun k _ hk => heap_setCell_other w ⟨g, o, none⟩ k u (fun e => hk (by simp [e]))⟩
theorem grown_trans {a b c : World} {row : Option Nat} (h : a.grownBy b row) (k : b.grownBy c row) : a.grownBy c row :=
  ⟨k.os.trans h.os, k.tape.trans h.tape, k.output.trans h.output, Nat.le_trans h.size k.size, fun i hi hn => (k.block i (Nat.lt_of_lt_of_le hi h.size) hn).trans (h.block i hi hn)⟩
theorem grown_below {a b : World} {g : Nat} (h : a.grownBy b (some g)) {B : Nat} (hB : B ≤ g) (hs : B ≤ a.heap.size) : Below B a b :=
  ⟨h.os, h.tape, h.output, h.size, fun k hk => h.block k (by omega) (fun e => by injection e; omega)⟩
theorem below_grown {a b : World} (h : Below a.heap.size a b) (row : Option Nat) : a.grownBy b row := ⟨h.os, h.tape, h.output, h.size, fun i hi _ => h.block i hi⟩

/-- A row that stands in another block than the one that is written. -/
def Off (A : Option Addr) (g : Nat) : Prop := ∀ ad, A = some ad → ad.block ≠ g
theorem Nums.grown {w w' : World} {k : IntKind} {A : Option Addr} {xs : List Nat} {g : Nat} (h : Nums w k A xs) (hg : w.grownBy w' (some g)) (ho : 0 < xs.length → Off A g) : Nums w' k A xs := fun hn => by
  obtain ⟨ad, e, hb, hc⟩ := h hn
  refine ⟨ad, e, Nat.lt_of_lt_of_le hb hg.size, fun j hj => ?_⟩
  rw [← hc j hj]
  exact World.cell?_of_block (hg.block _ (by rw [block_of_add]; exact hb) (fun h' => by rw [block_of_add] at h'; injection h' with h'; exact ho hn ad e h'))

/-- The limbs' base. -/
def B32 : Nat := 4294967296
theorem B32_pos : 0 < B32 := by decide
theorem B32_one : 1 < B32 := by decide
theorem B32_eq : B32 = 4294967296 := rfl

theorem limb_lt {xs : List Nat} (h : Lm.Ok B32 xs) (j : Nat) : xs.getD j 0 < 4294967296 := h.getD B32_pos j

/-- From k on there are zeros. -/
def ZeroFrom (xs : List Nat) (k : Nat) : Prop := ∀ i, k ≤ i → i < xs.length → xs.getD i 0 = 0
/-- What trim leaves: a cut at n, behind which there are zeros. -/
def Trimmed (A : Option Addr) (c : Nat) (xs : List Nat) (e : Ending) : Prop :=
  ∃ n, e = .returned (.slice A n c) ∧ n ≤ xs.length ∧ ZeroFrom xs n ∧ (0 < n → xs.getD (n - 1) 0 ≠ 0)

theorem zero_down {xs : List Nat} {k : Nat} (h0 : 0 < k) (hd : xs.getD (k - 1) 0 = 0) (hz : ZeroFrom xs k) : ZeroFrom xs (k - 1) := fun i h1 h2 => by
  by_cases e : i = k - 1
  · rw [e]; exact hd
  · exact hz i (by omega) h2

set_option maxHeartbeats 400000 in
theorem trim_any (A : Option Addr) (c : Nat) (xs : List Nat) (w : World) (h : Nums w .u32 A xs) (hl : xs.length ≤ 1000000) (hc : xs.length ≤ c) :
    Calls Tryd.prog 54 #[.slice A xs.length c] w fun e w' => w = w' ∧ Trimmed A c xs e := by
  go_enter Tryd.func54, Tryd.ntmps54
  go_wp2
  go_loop [3] (fun i => ∃ k : Nat, i = .int .i64 k ∧ k ≤ xs.length ∧ ZeroFrom xs k) (fun i => (intOf i).toNat)
  case atStart => exact ⟨xs.length, rfl, Nat.le_refl _, fun i h1 h2 => by omega⟩
  case round =>
    obtain ⟨k, rfl, hk, hz⟩ := hrel
    by_cases h0 : 0 < k
    · obtain ⟨ad, rfl, _, hcell⟩ := h.at_ (j := k - 1) (by omega)
      have hcd := hcell (k - 1) (by omega)
      clear hcell
      obtain ⟨d, hd⟩ : ∃ d, xs.getD (k - 1) 0 = d := ⟨_, rfl⟩
      rw [hd] at hcd
      have HD := Lib.hid hd
      clear hd
      by_cases hd0 : d = 0
      · subst hd0
        go_wp2
        go_round
        case rel => exact ⟨k - 1, by go_num, by omega, zero_down h0 HD.out hz⟩
        case measure => simp [intOf]; omega
      · have hne : ((d : Int) == 0) = false := by simp; omega
        go_wp2
        go_ret
        exact ⟨rfl, k, rfl, hk, hz, fun _ => by rw [HD.out]; exact hd0⟩
    · obtain rfl : k = 0 := by omega
      go_wp2
      go_ret
      exact ⟨rfl, 0, rfl, hk, hz, fun h => absurd h (by omega)⟩

/-- The digits of a sum, as far as i: the digits zs, and a carry c. -/
structure Inc (zs0 ys zs : List Nat) (i c : Nat) : Prop where
  len : zs.length = zs0.length
  ok : Lm.Ok B32 zs
  rest : ∀ j, i ≤ j → zs.getD j 0 = zs0.getD j 0
  num : Lm.val B32 zs + B32 ^ i * c = Lm.val B32 zs0 + Lm.val B32 (ys.take i)
  carry : c ≤ 1

theorem inc_step {zs0 ys zs : List Nat} {i q d y t : Nat} (h : Inc zs0 ys zs i q) (hi : i < zs0.length) (hd : zs.getD i 0 = d) (hdl : d < 4294967296) (hyl : y < 4294967296)
    (hy : Lm.val B32 (ys.take (i + 1)) = Lm.val B32 (ys.take i) + B32 ^ i * y) (ht : t = q + d + y) : Inc zs0 ys (zs.set i (t % B32)) (i + 1) (t / B32) := by
  have hs := Lm.val_set B32 zs i (t % B32) (by rw [h.len]; exact hi)
  rw [hd] at hs
  have hc := h.carry
  have hn := h.num
  refine ⟨by simpa using h.len, h.ok.set _ _ (Nat.mod_lt _ B32_pos), fun j hj => ?_, ?_, ?_⟩
  · rw [← h.rest j (by omega), List.getD_eq_getElem?_getD, List.getElem?_set, if_neg (by omega), ← List.getD_eq_getElem?_getD]
  · rw [hy, Nat.pow_succ, Lm.add_step B32 (B32 ^ i) (Lm.val B32 zs) _ q d y t ht hs, Nat.mul_add]
    omega
  · subst ht
    unfold B32
    omega

theorem inc_end {zs0 ys zs : List Nat} {i : Nat} (h : Inc zs0 ys zs i 0) (hi : ys.length ≤ i) : Lm.val B32 zs = Lm.val B32 zs0 + Lm.val B32 ys := by
  have hn := h.num
  rw [List.take_of_length_le hi] at hn
  simpa using hn

theorem inc_room {zs0 ys zs : List Nat} {i q : Nat} (h : Inc zs0 ys zs i q) (hq : 0 < q) (hi : ys.length ≤ i) (hv : Lm.val B32 zs0 + Lm.val B32 ys < B32 ^ zs0.length) : i < zs0.length := by
  rcases Nat.lt_or_ge i zs0.length with hlt | hge
  · exact hlt
  · have hn := h.num
    rw [List.take_of_length_le hi] at hn
    have h1 : B32 ^ zs0.length ≤ B32 ^ i := Nat.pow_le_pow_right B32_pos hge
    have h2 : B32 ^ i * 1 ≤ B32 ^ i * q := Nat.mul_le_mul_left _ hq
    omega

theorem limb_mod (t : Nat) (n : Int) (h : n = (t : Int)) : n % 4294967296 = ((t % B32 : Nat) : Int) := by subst h; unfold B32; omega
theorem limb_div (t : Nat) (n : Int) (h : n = (t : Int)) : n / 4294967296 = ((t / B32 : Nat) : Int) := by subst h; unfold B32; omega

set_option maxHeartbeats 400000 in
theorem increase_any (g off cap : Nat) (cur : Array Value) (zs0 : List Nat) (A : Option Addr) (c : Nat) (ys : List Nat) (w : World)
    (hz : Seg w g off .u32 86 cur zs0) (hy : Nums w .u32 A ys) (ho : 0 < ys.length → Off A g) (hzo : Lm.Ok B32 zs0) (hyo : Lm.Ok B32 ys) (hl : ys.length ≤ zs0.length) (hl2 : zs0.length ≤ 1000000)
    (hv : Lm.val B32 zs0 + Lm.val B32 ys < B32 ^ zs0.length) :
    Calls Tryd.prog 95 #[.slice (some ⟨g, off, none⟩) zs0.length cap, .slice A ys.length c] w fun e w' => e = .returned (.tuple #[]) ∧
      ∃ zs, zs.length = zs0.length ∧ Lm.Ok B32 zs ∧ Lm.val B32 zs = Lm.val B32 zs0 + Lm.val B32 ys ∧ SegTo w' g off .u32 86 cur zs ∧ w.grownBy w' (some g) := by
  go_enter Tryd.func95, Tryd.ntmps95
  go_wp2
  have HV := Lib.hid hv
  clear hv
  go_loopw [4, 5] (fun cv iv wr => ∃ (i q : Nat) (zs : List Nat), iv = .int .i64 i ∧ cv = .int .u64 q ∧ i ≤ zs0.length ∧ Inc zs0 ys zs i q ∧ SegTo wr g off .u32 86 cur zs ∧ w.grownBy wr (some g)) (fun _ iv _ => zs0.length - (intOf iv).toNat)
  case atStart =>
    exact ⟨0, 0, zs0, rfl, rfl, Nat.zero_le _, ⟨rfl, hzo, fun _ _ => rfl, by simp [Lm.val], by omega⟩, .refl hz, World.grownBy.refl _ _⟩
  case round =>
    obtain ⟨i, q, zs, rfl, rfl, hi, hinc, hseg, hgr⟩ := hrel
    have hyr := hy.grown hgr ho
    have hq := hinc.carry
    by_cases hiy : i < ys.length
    · obtain ⟨ad, rfl, _, hcell⟩ := hyr.at_ hiy
      have hcy := hcell i hiy
      clear hcell
      obtain ⟨cur', hs1, hs2, hs3⟩ := id hseg
      have hcz := hs1.cell (j := i) (by rw [hinc.len]; omega)
      have hfz := hs1.frozen (off + i)
      have hdl := limb_lt hinc.ok i
      have hyl := limb_lt hyo i
      obtain ⟨d, hd⟩ : ∃ d, zs.getD i 0 = d := ⟨_, rfl⟩
      obtain ⟨y, hyd⟩ : ∃ y, ys.getD i 0 = y := ⟨_, rfl⟩
      rw [hd] at hcz hdl
      rw [hyd] at hcy hyl
      have HD := Lib.hid hd
      have HY := Lib.hid hyd
      clear hd hyd hs1 hs2 hs3 hy hz hzo
      go_wp2
      go_roundw
      case rel =>
        refine ⟨i + 1, _, _, by go_num, by rw [limb_div (q + d + y) _ (by omega)], by omega, inc_step hinc (by omega) HD.out hdl hyl (by rw [Lm.val_take_succ _ _ _ hiy, HY.out]) rfl, ?_, ?_⟩
        · rw [limb_mod (q + d + y) _ (by omega)]
          exact hseg.set_ (by rw [hinc.len]; omega) _
        · exact grown_trans hgr (grown_store _ _ _ _)
      case measure => simp [intOf]; omega
    · by_cases hq0 : q = 0
      · subst hq0
        go_wp2
        go_end0
        exact ⟨rfl, zs, hinc.len, hinc.ok, inc_end hinc (by omega), hseg, hgr⟩
      · have hroom := inc_room hinc (by omega) (by omega) HV.out
        obtain ⟨cur', hs1, hs2, hs3⟩ := id hseg
        have hcz := hs1.cell (j := i) (by rw [hinc.len]; omega)
        have hfz := hs1.frozen (off + i)
        have hdl := limb_lt hinc.ok i
        obtain ⟨d, hd⟩ : ∃ d, zs.getD i 0 = d := ⟨_, rfl⟩
        rw [hd] at hcz hdl
        have HD := Lib.hid hd
        have hqp : 0 < q := by omega
        clear hd hs1 hs2 hs3 hy hz hzo hq0
        go_wp2
        go_roundw
        case rel =>
          refine ⟨i + 1, _, _, by go_num, by rw [limb_div (q + d + 0) _ (by omega)], by omega, inc_step hinc (by omega) HD.out hdl (by omega) (by rw [List.take_of_length_le (by omega), List.take_of_length_le (by omega)]; simp) rfl, ?_, ?_⟩
          · rw [limb_mod (q + d + 0) _ (by omega)]
            exact hseg.set_ (by rw [hinc.len]; omega) _
          · exact grown_trans hgr (grown_store _ _ _ _)
        case measure => simp [intOf]; omega

theorem Tryd.info86 : (Tryd.prog.info? 86).map (fun i => (i.zero, i.size, i.bytes)) = some (some (.int .u32 0), 1, 4) := by kernel_rfl

/-- Numbers as cells. -/
def cellsOf (k : IntKind) (xs : List Nat) : List Value := xs.map fun x => Value.int k ((x : Nat) : Int)
theorem cellsOf_length (k : IntKind) (xs : List Nat) : (cellsOf k xs).length = xs.length := by simp [cellsOf]
theorem cellsOf_one (k : IntKind) (xs : List Nat) : ∀ u ∈ cellsOf k xs, u.oneCell' = true := by
  intro u hu
  obtain ⟨_, _, rfl⟩ := List.mem_map.1 hu
  rfl
theorem cellsOf_at {k : IntKind} {xs : List Nat} {j : Nat} (hj : j < xs.length) : (cellsOf k xs)[j]? = some (.int k ((xs.getD j 0 : Nat) : Int)) := by
  unfold cellsOf
  rw [List.getElem?_map, List.getElem?_eq_getElem hj, List.getD_eq_getElem?_getD, List.getElem?_eq_getElem hj]
  rfl
theorem Nums.news {w : World} {k : IntKind} {ad : Addr} {xs : List Nat} (h : Nums w k (some ad) xs) : ∀ j u, (cellsOf k xs)[j]? = some u → w.cell? (ad.add j) = some u := by
  intro j u hu
  have hj : j < xs.length := by simpa [cellsOf_length] using (List.getElem?_eq_some_iff.1 hu).1
  obtain ⟨ad', e, _, hc⟩ := h (by omega)
  injection e with e
  subst e
  rw [hc j hj, ← hu, cellsOf_at hj]
/-- A row that the call made: it reads as numbers, and may be written. -/
theorem seg_of_own {w : World} {base : Nat} {e : TypeId} {k : IntKind} {A : Option Addr} {n c : Nat} {xs : List Nat} (h : w.ownsRow base e 1 (.slice A n c) n (cellsOf k xs)) (hn : 0 < n) :
    ∃ g cur, A = some ⟨g, 0, none⟩ ∧ base ≤ g ∧ Seg w g 0 k e cur xs := by
  have hl := h.1
  rw [cellsOf_length] at hl
  rcases h.2 with ⟨_, h0⟩ | ⟨g, cap, cur, hv, hb, hg, hnc, _, hcs, htake⟩
  · omega
  · simp only [Value.slice.injEq] at hv
    obtain ⟨rfl, _, _⟩ := hv
    refine ⟨g, cur, rfl, hb, hg, by omega, fun j hj => ?_⟩
    have hc := cellsOf_at (k := k) hj
    rw [← htake, List.getElem?_take, if_pos (by omega)] at hc
    simpa using hc

theorem own_form {w : World} {base : Nat} {e : TypeId} {v : Value} {n : Nat} {xs : List Value} (h : w.ownsRow base e 1 v n xs) : ∃ A c, v = .slice A n c ∧ n ≤ c := by
  rcases h.2 with ⟨rfl, rfl⟩ | ⟨g, cap, _, rfl, _, _, hnc, _⟩
  · exact ⟨none, 0, rfl, Nat.le_refl _⟩
  · exact ⟨_, cap, rfl, hnc⟩

def Cloned (w w' : World) (xs : List Nat) (e : Ending) : Prop :=
  ∃ A c, e = .returned (.slice A xs.length c) ∧ w'.ownsRow w.heap.size 86 1 (.slice A xs.length c) xs.length (cellsOf .u32 xs) ∧ Below w.heap.size w w'

set_option maxHeartbeats 400000 in
theorem clone_nil (c : Nat) (w : World) : Calls Tryd.prog 65 #[.slice none 0 c] w fun e w' => e = .returned (.slice none 0 0) ∧ w = w' := by
  have hnil := fun W : World => Lib.run_eql_slice_nil W 22 86 none 0 c 0 0 Tryd.underlying22
  simp only [Option.isNone_none] at hnil
  go_enter Tryd.func65, Tryd.ntmps65
  go_wp2
  go_ret
  exact ⟨rfl, rfl⟩

set_option maxHeartbeats 400000 in
theorem clone_some (ad : Addr) (c : Nat) (xs : List Nat) (w : World) (h : Nums w .u32 (some ad) xs) (hl : xs.length ≤ 1000000) :
    Calls Tryd.prog 65 #[.slice (some ad) xs.length c] w fun e w' => Cloned w w' xs e := by
  obtain ⟨i0, hi0, hz0, hz1, hz2⟩ := info_parts Tryd.info86
  have HI := Lib.hid (And.intro hi0 (And.intro hz0 (And.intro hz1 hz2)))
  clear hi0 hz0 hz1 hz2
  have hnil := fun W : World => Lib.run_eql_slice_nil W 22 86 (some ad) xs.length c 0 0 Tryd.underlying22
  simp only [Option.isNone_some] at hnil
  have hown := World.ownsRow_lit (base := w.heap.size) (e := 86) (size := 1) w #[] 0 (Nat.le_refl _) (by unfold maxLen; omega) (by simp)
  have hcells := (h.alloc (.cells #[] 86)).news
  have hb0 : Below w.heap.size w (w.alloc (.cells #[] 86)) := (Below.refl _ _).alloc (Nat.le_refl _) _
  have HO := Lib.hid (And.intro hown (And.intro hcells hb0))
  clear hown hcells hb0
  go_enter Tryd.func65, Tryd.ntmps65
  go_wp2_with (at_builtin; refine wpList_append_own _ rfl _ _ 22 rfl w.heap.size 86 i0 (.int .u32 0) 1 4 Tryd.underlying22 HI.out.1 HI.out.2.1 HI.out.2.2.1 HI.out.2.2.2 rfl (by decide) _ 0 [] rfl HO.out.1 ad xs.length c (cellsOf .u32 xs) rfl (by simp [cellsOf_length]) HO.out.2.1 (cellsOf_one _ _) (by unfold maxLen; omega) (by omega) (by simp) ?_; intro v1 w1 hown1 hg1 _)
  simp only [Nat.zero_add, List.nil_append] at hown1
  go_ret
  obtain ⟨A, c', rfl, _⟩ := own_form hown1
  exact ⟨A, c', rfl, hown1, HO.out.2.2.grown hg1 (by simp) (fun k hk => by have e : some w.heap.size = some k := hk; injection e with e; omega)⟩

theorem clone_any (A : Option Addr) (c : Nat) (xs : List Nat) (w : World) (h : Nums w .u32 A xs) (hl : xs.length ≤ 1000000) :
    Calls Tryd.prog 65 #[.slice A xs.length c] w fun e w' => Cloned w w' xs e := by
  rcases A with _ | ad
  · have hx : xs = [] := by
      rcases Nat.eq_zero_or_pos xs.length with h0 | h0
      · exact List.eq_nil_of_length_eq_zero h0
      · obtain ⟨ad, e, _⟩ := h h0; cases e
    subst hx
    refine (clone_nil c w).mono ?_
    rintro e w' ⟨rfl, rfl⟩
    exact ⟨none, 0, rfl, World.ownsRow_nil _ _ _ _, Below.refl _ _⟩
  · exact clone_some ad c xs w h hl

def Copied (w w' : World) (xs : List Nat) (e : Ending) : Prop :=
  ∃ n, Cloned w w' (xs.take n) e ∧ n ≤ xs.length ∧ ZeroFrom xs n ∧ (0 < n → xs.getD (n - 1) 0 ≠ 0)

set_option maxHeartbeats 400000 in
theorem copied_any (A : Option Addr) (c : Nat) (xs : List Nat) (w : World) (h : Nums w .u32 A xs) (hl : xs.length ≤ 1000000) (hc : xs.length ≤ c) :
    Calls Tryd.prog 49 #[.slice A xs.length c] w fun e w' => Copied w w' xs e := by
  go_enter Tryd.func49, Tryd.ntmps49
  go_wp2_with fail
  refine (trim_any A c xs w h hl hc).mono ?_
  rintro e w' ⟨rfl, n, rfl, hn, hz, hp⟩
  have HZ := Lib.hid (And.intro hz hp)
  clear hz hp
  have hcl := clone_any A c (xs.take n) w (h.take n) (by rw [List.length_take]; omega)
  rw [show (xs.take n).length = n from by rw [List.length_take]; omega] at hcl
  have HC := Lib.hid hcl
  clear hcl
  go_wp2_with fail
  refine HC.out.mono ?_
  rintro e w' ⟨A', c', rfl, hown, hb⟩
  go_wp2
  go_ret
  exact ⟨n, ⟨A', c', by rw [show (xs.take n).length = n from by rw [List.length_take]; omega]; rfl, hown, hb⟩, hn, HZ.out.1, HZ.out.2⟩

/-- The slice value holds the limbs of n, without zeros at the top. -/
def Limbs (w : World) (A : Option Addr) (c : Nat) (zs : List Nat) (n : Nat) : Prop :=
  zs.length ≤ c ∧ Nums w .u32 A zs ∧ Lm.Ok B32 zs ∧ Lm.Top zs ∧ Lm.val B32 zs = n

/-- The flag of an integer. -/
def SignOf (b : Bool) (z : Int) : Prop := b = decide (z < 0)
/-- The value is the program's integer z. -/
def IntAt (w : World) (v : Value) (z : Int) : Prop :=
  ∃ b A c zs, v = .agg #[.bool b, .slice A zs.length c] ∧ SignOf b z ∧ Limbs w A c zs z.natAbs

theorem Limbs.below {w w' : World} {A : Option Addr} {c : Nat} {zs : List Nat} {n : Nat} (h : Limbs w A c zs n) (hb : Below w.heap.size w w') : Limbs w' A c zs n :=
  ⟨h.1, h.2.1.below hb, h.2.2⟩
theorem IntAt.below {w w' : World} {v : Value} {z : Int} (h : IntAt w v z) (hb : Below w.heap.size w w') : IntAt w' v z := by
  obtain ⟨b, A, c, zs, e, hs, hl⟩ := h
  exact ⟨b, A, c, zs, e, hs, hl.below hb⟩

/-- The number that a sign and digits make. -/
def ofSign (b : Bool) (n : Nat) : Int := if b then -(n : Int) else n

theorem top_take {xs : List Nat} {n : Nat} (hn : n ≤ xs.length) (hp : 0 < n → xs.getD (n - 1) 0 ≠ 0) : Lm.Top (xs.take n) := by
  rcases Nat.eq_zero_or_pos n with rfl | h
  · simp [Lm.Top]
  · refine Lm.top_of_last ?_
    rw [List.length_take, Nat.min_eq_left hn, List.getD_eq_getElem?_getD, List.getElem?_take, if_pos (by omega), ← List.getD_eq_getElem?_getD]
    exact hp h

/-- A cut of digits at their last one that is not 0. -/
theorem limbs_take {w : World} {A : Option Addr} {c : Nat} {xs : List Nat} {n : Nat} (h : Nums w .u32 A xs) (ho : Lm.Ok B32 xs) (hc : xs.length ≤ c) (hn : n ≤ xs.length) (hz : ZeroFrom xs n) (hp : 0 < n → xs.getD (n - 1) 0 ≠ 0) :
    Limbs w A c (xs.take n) (Lm.val B32 xs) :=
  ⟨by rw [List.length_take]; omega, h.take n, ho.take n, top_take hn hp, Lm.val_cut n hn hz⟩

theorem int_of {w : World} {A : Option Addr} {c : Nat} {zs : List Nat} {n : Nat} (b : Bool) (h : Limbs w A c zs n) (hn : 0 < n) :
    IntAt w (.agg #[.bool b, .slice A zs.length c]) (ofSign b n) := by
  refine ⟨b, A, c, zs, rfl, ?_, ?_⟩
  · unfold SignOf
    cases b <;> simp [ofSign] <;> omega
  · have e : (ofSign b n).natAbs = n := by cases b <;> simp [ofSign]
    rw [e]
    exact h

theorem int_zero (w : World) : IntAt w (.agg #[.bool false, .slice none 0 0]) 0 := ⟨false, none, 0, [], rfl, by simp [SignOf], by simp, Nums.nil _ _ _, Lm.Ok.nil _, Lm.Top.nil, rfl⟩

def IsInt (w w' : World) (z : Int) (e : Ending) : Prop := ∃ v, e = .returned v ∧ IntAt w' v z ∧ Below w.heap.size w w'

set_option maxHeartbeats 400000 in
theorem signed_any (b : Bool) (A : Option Addr) (c : Nat) (xs : List Nat) (w : World) (h : Nums w .u32 A xs) (ho : Lm.Ok B32 xs) (hl : xs.length ≤ 1000000) (hc : xs.length ≤ c) :
    Calls Tryd.prog 27 #[.bool b, .slice A xs.length c] w fun e w' => IsInt w w' (ofSign b (Lm.val B32 xs)) e := by
  go_enter Tryd.func27, Tryd.ntmps27
  go_wp2_with fail
  refine (trim_any A c xs _ (h.alloc _) hl hc).mono ?_
  rintro e w' ⟨rfl, n, rfl, hn, hz, hp⟩
  have HZ := Lib.hid (And.intro hz hp)
  clear hz hp
  by_cases h0 : 0 < n
  · have hne : ((n : Int) == 0) = false := by simp; omega
    go_wp2
    refine bodyPost_ret (v := .agg #[.bool b, .slice A n c]) (by simp [results, Tryd.results27, go_sem]) rfl ⟨_, rfl, ?_, (Below.refl _ _).alloc (Nat.le_refl _) _⟩
    have hlim := (limbs_take (h.alloc (.cells #[.bool b, .slice A n c] 28)) ho hc hn HZ.out.1 HZ.out.2)
    have hlen : (xs.take n).length = n := by rw [List.length_take]; omega
    have hpos : 0 < Lm.val B32 xs := by
      rw [← hlim.2.2.2.2]
      exact Lm.val_pos B32_pos (by omega) hlim.2.2.2.1
    have hi := int_of b hlim hpos
    rw [hlen] at hi
    exact hi
  · obtain rfl : n = 0 := by omega
    go_wp2
    refine bodyPost_ret (v := .agg #[.bool false, .slice none 0 0]) (by simp [results, Tryd.results27, go_sem]) rfl ⟨_, rfl, ?_, (Below.refl _ _).alloc (Nat.le_refl _) _⟩
    have hv : Lm.val B32 xs = 0 := by
      rw [← Lm.val_cut 0 (Nat.zero_le _) HZ.out.1]
      rfl
    have e : ofSign b 0 = 0 := by cases b <;> rfl
    rw [hv, e]
    exact int_zero _

theorem signed_to (b : Bool) (A : Option Addr) (c : Nat) (xs : List Nat) (z : Int) (w : World) (h : Nums w .u32 A xs) (ho : Lm.Ok B32 xs) (hl : xs.length ≤ 1000000) (hc : xs.length ≤ c) (hz : ofSign b (Lm.val B32 xs) = z) :
    Calls Tryd.prog 27 #[.bool b, .slice A xs.length c] w fun e w' => IsInt w w' z e := by
  subst hz
  exact signed_any b A c xs w h ho hl hc

/-- The sign and the limbs are handed back. -/
def IsLimbs (w w' : World) (z : Int) (e : Ending) : Prop :=
  ∃ b A c zs, e = .returned (.tuple #[.bool b, .slice A zs.length c]) ∧ SignOf b z ∧ Limbs w' A c zs z.natAbs ∧ Below w.heap.size w w'

/-- A copy of limbs: the copy's own are all of them. -/
theorem copied_limbs {w w' : World} {A : Option Addr} {c n : Nat} {zs : List Nat} {e : Ending} (h : Limbs w A c zs n) (hk : Copied w w' zs e) :
    ∃ A' c', e = .returned (.slice A' zs.length c') ∧ w'.ownsRow w.heap.size 86 1 (.slice A' zs.length c') zs.length (cellsOf .u32 zs) ∧ Limbs w' A' c' zs n ∧ Below w.heap.size w w' := by
  obtain ⟨m, ⟨A', c', rfl, hown, hb⟩, hm, hz, hp⟩ := hk
  have hall : m = zs.length := by
    rcases Nat.lt_or_ge m zs.length with hlt | hge
    · exact absurd (hz (zs.length - 1) (by omega) (by omega)) (Lm.last_of_top (by omega) h.2.2.2.1)
    · omega
  subst hall
  rw [List.take_length] at hown ⊢
  refine ⟨A', c', rfl, hown, ⟨?_, Nums.of_own hown rfl, h.2.2.1, h.2.2.2.1, h.2.2.2.2⟩, hb⟩
  obtain ⟨A2, c2, e2, hle⟩ := own_form hown
  injection e2 with _ _ e3
  omega

theorem Limbs.len {w : World} {A : Option Addr} {c n m : Nat} {zs : List Nat} (h : Limbs w A c zs n) (hs : n < B32 ^ m) : zs.length ≤ m := by
  rcases Nat.lt_or_ge m zs.length with hlt | hge
  · have h1 := Lm.val_ge (b := B32) (Nat.lt_of_le_of_lt (Nat.zero_le _) hlt) h.2.2.2.1
    rw [h.2.2.2.2] at h1
    have h2 : B32 ^ m ≤ B32 ^ (zs.length - 1) := Nat.pow_le_pow_right B32_pos (by omega)
    omega
  · exact hge

theorem below_then {w W w' : World} (h1 : Below w.heap.size w W) (h2 : Below W.heap.size W w') : Below w.heap.size w w' := h1.trans (h2.mono h1.size)

theorem cell2 (w : World) (a b : Value) (t : TypeId) : (w.alloc (.cells #[a, b] t)).cell? ⟨w.heap.size, 0, none⟩ = some a ∧ (w.alloc (.cells #[a, b] t)).cell? ⟨w.heap.size, 1, none⟩ = some b := by
  constructor <;> go_simp

set_option maxHeartbeats 1000000 in
theorem Limbs_any (v : Value) (z : Int) (m : Nat) (w : World) (h : IntAt w v z) (hs : z.natAbs < B32 ^ m) (hm : m ≤ 1000000) :
    Calls Tryd.prog 45 #[v] w fun e w' => IsLimbs w w' z e := by
  obtain ⟨b, A, c, zs, rfl, hsg, hlim⟩ := h
  have hlen : zs.length ≤ 1000000 := Nat.le_trans (hlim.len hs) hm
  go_enter Tryd.func45, Tryd.ntmps45
  go_wp2_with fail
  go_region_held3 (fun w' => w'.cell? ⟨w.heap.size, 0, none⟩ = some (.bool b) ∧ w'.cell? ⟨w.heap.size, 1, none⟩ = some (.slice A zs.length c))
    (first | go_keep | (exact ⟨(hb1.cell (by simp)).trans (cell2 _ _ _ _).1, (hb1.cell (by simp)).trans (cell2 _ _ _ _).2⟩))
    ((go_at_call 49; refine (copied_any A c zs _ ((hlim.2.1.alloc _).drew) hlen hlim.1).mono ?_; intro e w1 hk1; obtain ⟨A', c', rfl, hown1, hlim1, hb1⟩ := copied_limbs (by exact ⟨hlim.1, (hlim.2.1.alloc _).drew, hlim.2.2⟩) hk1))
  go_wp2
  go_ret2
  exact ⟨b, A', c', zs, rfl, hsg, hlim1, below_then (((Below.refl _ _).alloc (Nat.le_refl _) _).drew) hb1⟩

/-- What the region that ends a method reads and writes: the receiver's two fields at h, the result's at r. -/
def Held (w : World) (h r : Nat) (a b c d : Value) : Prop :=
  w.cell? ⟨h, 0, none⟩ = some a ∧ w.cell? ⟨h, 1, none⟩ = some b ∧ w.cell? ⟨r, 0, none⟩ = some c ∧ w.cell? ⟨r, 1, none⟩ = some d ∧ w.frozen? ⟨r, 0, none⟩ = false ∧ w.frozen? ⟨r, 1, none⟩ = false
theorem held_below {w w' : World} {h r : Nat} {a b c d : Value} (k : Held w h r a b c d) (hb : Below w.heap.size w w') (hh : h < w.heap.size) (hr : r < w.heap.size) : Held w' h r a b c d :=
  ⟨(hb.cell (p := ⟨h, 0, none⟩) hh).trans k.1, (hb.cell (p := ⟨h, 1, none⟩) hh).trans k.2.1, (hb.cell (p := ⟨r, 0, none⟩) hr).trans k.2.2.1, (hb.cell (p := ⟨r, 1, none⟩) hr).trans k.2.2.2.1,
    (hb.frozen (p := ⟨r, 0, none⟩) hr).trans k.2.2.2.2.1, (hb.frozen (p := ⟨r, 1, none⟩) hr).trans k.2.2.2.2.2⟩
theorem held_new (w : World) (a b c d : Value) (t : TypeId) : Held ((w.alloc (.cells #[a, b] t)).alloc (.cells #[c, d] t)) w.heap.size (w.heap.size + 1) a b c d := by
  unfold Held
  refine ⟨?_, ?_, ?_, ?_, ?_, ?_⟩ <;> go_simp

theorem held_first {w w1 : World} {a b c d : Value} {t : TypeId} (hb : Below ((w.alloc (.cells #[a, b] t)).alloc (.cells #[c, d] t)).drew.heap.size ((w.alloc (.cells #[a, b] t)).alloc (.cells #[c, d] t)).drew w1) :
    Held w1 w.heap.size (w.heap.size + 1) a b c d := by
  have h := held_new w a b c d t
  have h' : Held ((w.alloc (.cells #[a, b] t)).alloc (.cells #[c, d] t)).drew w.heap.size (w.heap.size + 1) a b c d := h
  refine held_below h' hb ?_ ?_
  · show w.heap.size < ((w.alloc (.cells #[a, b] t)).alloc (.cells #[c, d] t)).heap.size
    simp; omega
  · show w.heap.size + 1 < ((w.alloc (.cells #[a, b] t)).alloc (.cells #[c, d] t)).heap.size
    simp

theorem Nums.store {w : World} {k : IntKind} {A : Option Addr} {xs : List Nat} (h : Nums w k A xs) {p : Addr} {u : Value} (hp : w.cell? p = some u) (hu : ∀ n, u ≠ .int k n) (x : Value) : Nums (w.setCell p x) k A xs := fun hn => by
  obtain ⟨ad, e, hb, hc⟩ := h hn
  refine ⟨ad, e, by simpa [World.setCell] using hb, fun j hj => ?_⟩
  rw [← hc j hj]
  refine World.cell?_setCell_other w p _ x (fun e => ?_)
  subst e
  rw [hc j hj] at hp
  injection hp with hp
  exact hu _ hp.symm

/-- The result lies in its variable: what was made is as it was. -/
theorem int_stored {w w2 : World} {h r : Nat} {a b : Value} {s : Bool} {A : Option Addr} {c : Nat} {zs : List Nat} {z : Int} (hk : Held w2 h r a b (.bool false) (.slice none 0 0)) (hs : SignOf s z) (hl : Limbs w2 A c zs z.natAbs)
    (hb : Below w.heap.size w w2) (hr : w.heap.size ≤ r) :
    IsInt w ((w2.setCell ⟨r, 0, none⟩ (.bool s)).setCell ⟨r, 1, none⟩ (.slice A zs.length c)) z (.returned (.agg #[.bool s, .slice A zs.length c])) := by
  refine ⟨_, rfl, ⟨s, A, c, zs, rfl, hs, hl.1, ?_, hl.2.2⟩, (hb.setCell (p := ⟨r, 0, none⟩) hr _).setCell (p := ⟨r, 1, none⟩) hr _⟩
  refine (hl.2.1.store hk.2.2.1 (fun n e => by cases e) _).store (u := .slice none 0 0) ?_ (fun n e => by cases e) _
  rw [World.cell?_setCell_other _ _ _ _ (by simp)]
  exact hk.2.2.2.1

theorem neg_sign {z : Int} {b : Bool} (hb : SignOf b z) : ofSign (!b) z.natAbs = -z := by
  unfold SignOf at hb
  subst hb
  unfold ofSign
  by_cases h : z < 0 <;> simp [h] <;> omega

set_option maxHeartbeats 1000000 in
theorem Neg_any (v : Value) (z : Int) (m : Nat) (w : World) (h : IntAt w v z) (hs : z.natAbs < B32 ^ m) (hm : m ≤ 1000000) :
    Calls Tryd.prog 93 #[v] w fun e w' => IsInt w w' (-z) e := by
  obtain ⟨b, A, c, zs, rfl, hsg, hlim⟩ := h
  have hlen : zs.length ≤ 1000000 := Nat.le_trans (hlim.len hs) hm
  go_enter Tryd.func93, Tryd.ntmps93
  go_wp2_with fail
  go_region_held3 (fun w' => w'.cell? ⟨w.heap.size, 0, none⟩ = some (.bool b) ∧ w'.cell? ⟨w.heap.size, 1, none⟩ = some (.slice A zs.length c))
    (first | go_keep | exact ⟨hk1.1, hk1.2.1⟩)
    ((first | (go_at_call 49; refine (copied_any A c zs _ (((hlim.2.1.alloc _).alloc _).drew) hlen hlim.1).mono ?_; intro e w1 hc1; obtain ⟨A', c', rfl, hown1, hlim1, hb1⟩ := copied_limbs (by exact ⟨hlim.1, ((hlim.2.1.alloc _).alloc _).drew, hlim.2.2⟩) hc1; have hk1 := held_first hb1) | (go_at_call 27; refine (signed_to (!b) A' c' zs (-z) w1 hlim1.2.1 hlim1.2.2.1 hlen hlim1.1 (by rw [hlim1.2.2.2.2]; exact neg_sign hsg)).mono ?_; rintro e w2 ⟨v2, rfl, ⟨b2, A2, c2, zs2, rfl, hsg2, hlim2⟩, hb2⟩; have hk2 := held_below hk1 hb2 (by have := hb1.size; simp at this; omega) (by have := hb1.size; simp at this; omega); obtain ⟨hd0, hd1, hd2, hd3, hd4, hd5⟩ := id hk2)))
  go_wp2
  refine bodyPost_ret (v := .agg #[.bool b2, .slice A2 zs2.length c2]) (by simp [results, Tryd.results93, go_sem, hd2, hd3]) rfl ?_
  exact int_stored hk2 hsg2 hlim2 (below_then (below_then ((((Below.refl _ _).alloc (Nat.le_refl _) _).alloc (by simp) _).drew) hb1) hb2) (by simp)

/-- A slice of limbs of n is handed back; what was there is as it was. -/
def IsLims (w w' : World) (n : Nat) (e : Ending) : Prop := ∃ A c zs, e = .returned (.slice A zs.length c) ∧ Limbs w' A c zs n ∧ Below w.heap.size w w'

theorem made_zero (n : Nat) : (madeCells (Value.int .u32 0).cells (n * 1)).toList = cellsOf .u32 (List.replicate n 0) := by
  rw [show (Value.int .u32 0).cells = #[Value.int .u32 0] from rfl, toList_madeCells_one, Nat.mul_one]
  simp [cellsOf]

/-- What trim leaves of a row that the call made. -/
theorem lims_of_trim {w w' : World} {A : Option Addr} {c : Nat} {xs : List Nat} {e : Ending} {n : Nat} (h : Trimmed A c xs e) (hn : Nums w' .u32 A xs) (ho : Lm.Ok B32 xs) (hc : xs.length ≤ c) (hv : Lm.val B32 xs = n) (hb : Below w.heap.size w w') : IsLims w w' n e := by
  obtain ⟨k, rfl, hk, hz, hp⟩ := h
  have hl : (xs.take k).length = k := by rw [List.length_take]; omega
  exact ⟨A, c, xs.take k, by rw [hl], hv ▸ limbs_take hn ho hc hk hz hp, hb⟩

/-- Digits with zeros behind them. -/
theorem copy_over (xs : List Nat) (n : Nat) : splice (cellsOf .u32 (List.replicate n 0)) 0 (cellsOf .u32 xs) = cellsOf .u32 (xs ++ List.replicate (n - xs.length) 0) := by
  unfold splice cellsOf
  simp

theorem own_block {w : World} {base : Nat} {e : TypeId} {g n : Nat} {ys : List Value} (h : w.ownsRow base e 1 (.slice (some ⟨g, 0, none⟩) n n) n ys) : w.heap[g]? = some (.cells ys.toArray e (0, 0)) := by
  rcases h.2 with ⟨hv, _⟩ | ⟨g', cap, cur, hv, _, hg, _, _, hcs, htake⟩
  · cases hv
  · simp only [Value.slice.injEq, Option.some.injEq, Addr.mk.injEq, and_true, true_and] at hv
    obtain ⟨rfl, rfl⟩ := hv
    rw [hg, ← htake, List.take_of_length_le (by rw [Array.length_toList, hcs]; exact Nat.le_refl _)]

theorem copy_src {w : World} {k : IntKind} {A : Option Addr} {xs : List Nat} (h : Nums w k A xs) {g : Nat} : 0 < (cellsOf k xs).length → (some (⟨g, 0, none⟩ : Addr) = some ⟨g, 0, none⟩ ∧ ∃ ad, A = some ad ∧ ∀ j v, (cellsOf k xs)[j]? = some v → w.cell? (ad.add j) = some v) := fun hn => by
  rw [cellsOf_length] at hn
  obtain ⟨ad, rfl, _, _⟩ := h hn
  exact ⟨rfl, ad, rfl, h.news⟩

theorem seg_of_block {w : World} {g : Nat} {k : IntKind} {e : TypeId} {zs : List Nat} (h : w.heap[g]? = some (.cells (cellsOf k zs).toArray e (0, 0))) : Seg w g 0 k e (cellsOf k zs).toArray zs :=
  ⟨h, by simp [cellsOf_length], fun j hj => by simpa using cellsOf_at (k := k) hj⟩

theorem off_below {A : Option Addr} {w : World} {k : IntKind} {xs : List Nat} {g : Nat} (h : Nums w k A xs) (hn : 0 < xs.length) (hg : w.heap.size ≤ g) : Off A g := fun ad e => by
  obtain ⟨ad', e', hb, _⟩ := h hn
  rw [e] at e'
  injection e' with e'
  subst e'
  omega

/-- The sum of two numbers fits one limb more than the longer one has. -/
theorem sum_fits {xs ys : List Nat} (ox : Lm.Ok B32 xs) (oy : Lm.Ok B32 ys) (h : ys.length ≤ xs.length) : Lm.val B32 xs + Lm.val B32 ys < B32 ^ (xs.length + 1) := by
  have h1 := Lm.val_lt ox
  have h2 := Lm.val_lt oy
  have h3 : B32 ^ ys.length ≤ B32 ^ xs.length := Nat.pow_le_pow_right B32_pos h
  rw [Nat.pow_succ]
  have h4 : B32 ^ xs.length * 2 ≤ B32 ^ xs.length * B32 := Nat.mul_le_mul_left _ (by decide)
  omega

set_option maxRecDepth 100000 in
set_option maxHeartbeats 1000000 in
theorem sum_long (A : Option Addr) (c : Nat) (xs : List Nat) (A' : Option Addr) (c' : Nat) (ys : List Nat) (w : World) (hx : Nums w .u32 A xs) (hy : Nums w .u32 A' ys)
    (ox : Lm.Ok B32 xs) (oy : Lm.Ok B32 ys) (hl : xs.length ≤ 900000) (hle : ys.length ≤ xs.length) :
    Calls Tryd.prog 94 #[.slice A xs.length c, .slice A' ys.length c'] w fun e w' => IsLims w w' (Lm.val B32 xs + Lm.val B32 ys) e := by
  obtain ⟨i0, hi0, hz0, hz1, hz2⟩ := info_parts Tryd.info86
  have HI := Lib.hid (And.intro hi0 (And.intro hz0 (And.intro hz1 hz2)))
  have HM := Lib.hid (show i0.bytes * (xs.length + 1) ≤ 281474976710656 ∧ xs.length + 1 ≤ maxLen from ⟨by rw [hz2]; omega, by unfold maxLen; omega⟩)
  clear hi0 hz0 hz1 hz2
  have HS := Lib.hid (show (Tryd.prog.info? 86).map (·.size) = some 1 from by kernel_rfl)
  have HN := Lib.hid (show (cellsOf .u32 xs).length = Nat.min xs.length (xs.length + 1) ∧ 0 + (cellsOf .u32 xs).length ≤ (cellsOf .u32 (List.replicate (xs.length + 1) 0)).length from ⟨by rw [cellsOf_length]; exact (Nat.min_eq_left (by omega)).symm, by simp [cellsOf_length]⟩)
  go_enter Tryd.func94, Tryd.ntmps94
  go_wp2_with (first | (at_make; go_loud (refine wpList_make_full _ rfl _ _ 22 rfl w.heap.size 86 i0 (.int .u32 0) 1 Tryd.underlying22 HI.out.1 HI.out.2.1 HI.out.2.2.1 _ _ _ _ (xs.length + 1) rfl rfl (by omega) (by omega) HM.out.1 HM.out.2 (Nat.le_refl _) ?_); intro w1 hown1 hg1; rw [made_zero] at hown1; have HB := Lib.hid (own_block hown1); have hb1 : Below w.heap.size w w1 := (Below.refl _ _).grown hg1 (Nat.le_refl _) (fun k hk => by cases hk)) | (with_reducible refine wpList_copy_splice (o := ⟨some 19, _, _, _, _, _⟩) rfl (.tmp 17) (.tmp 18) 22 22 rfl 86 Tryd.underlying22 HS.out _ A _ _ xs.length c rfl rfl w.heap.size 0 _ 86 HB.out (cellsOf .u32 xs) HN.out.1 (copy_src (hx.below hb1)) HN.out.2 (cellsOf_one _ _) w.heap.size w hb1 (Nat.le_refl _) ?_; intro w2 HB2 hb2))
  have hz0 : Seg w2 w.heap.size 0 .u32 86 _ (xs ++ List.replicate (xs.length + 1 - xs.length) 0) := seg_of_block (by rw [← copy_over]; exact HB2.out)
  have hlen : (xs ++ List.replicate (xs.length + 1 - xs.length) 0).length = xs.length + 1 := by simp
  have hval : Lm.val B32 (xs ++ List.replicate (xs.length + 1 - xs.length) 0) = Lm.val B32 xs := by rw [Lm.val_append, Lm.val_zeros]; simp
  have hinc := increase_any w.heap.size 0 (xs.length + 1) _ _ A' c' ys w2 hz0 (hy.below hb2) (fun hn => off_below hy hn (Nat.le_refl _)) (ox.append (Lm.Ok.zeros B32_pos _)) oy (by omega) (by omega) (by rw [hlen, hval]; exact sum_fits ox oy hle)
  rw [hlen] at hinc
  have HV := Lib.hid (And.intro hlen hval)
  clear hz0 hlen hval HB HB2 HN HS HM HI
  refine hinc.mono ?_
  clear hinc
  rintro e w3 ⟨rfl, zs, hzl, hzo, hzv, ⟨cur', hseg, -, -⟩, hg3⟩
  rw [HV.out.2] at hzv
  have htr := trim_any (some ⟨w.heap.size, 0, none⟩) (xs.length + 1) zs w3 hseg.nums (by omega) (by omega)
  rw [hzl] at htr
  have HT := Lib.hid htr
  have HZ := Lib.hid (And.intro hzl hzv)
  clear htr hzl hzv hown1
  go_wp2_with fail
  refine HT.out.mono ?_
  rintro e w4 ⟨rfl, k, rfl, hk, hz, hp⟩
  have HP := Lib.hid (And.intro hk (And.intro hz hp))
  clear hk hz hp
  go_wp2
  go_ret
  exact lims_of_trim ⟨k, rfl, HP.out⟩ hseg.nums hzo (Nat.le_of_eq HZ.out.1) HZ.out.2 (hb2.trans (grown_below hg3 (Nat.le_refl _) hb2.size))
set_option maxRecDepth 100000 in
set_option maxHeartbeats 1000000 in
theorem sum_short (A : Option Addr) (c : Nat) (xs : List Nat) (A' : Option Addr) (c' : Nat) (ys : List Nat) (w : World) (hx : Nums w .u32 A xs) (hy : Nums w .u32 A' ys)
    (ox : Lm.Ok B32 xs) (oy : Lm.Ok B32 ys) (hl : xs.length ≤ 900000) (hlt : ys.length < xs.length) :
    Calls Tryd.prog 94 #[.slice A' ys.length c', .slice A xs.length c] w fun e w' => IsLims w w' (Lm.val B32 xs + Lm.val B32 ys) e := by
  have hle : ys.length ≤ xs.length := Nat.le_of_lt hlt
  obtain ⟨i0, hi0, hz0, hz1, hz2⟩ := info_parts Tryd.info86
  have HI := Lib.hid (And.intro hi0 (And.intro hz0 (And.intro hz1 hz2)))
  have HM := Lib.hid (show i0.bytes * (xs.length + 1) ≤ 281474976710656 ∧ xs.length + 1 ≤ maxLen from ⟨by rw [hz2]; omega, by unfold maxLen; omega⟩)
  clear hi0 hz0 hz1 hz2
  have HS := Lib.hid (show (Tryd.prog.info? 86).map (·.size) = some 1 from by kernel_rfl)
  have HN := Lib.hid (show (cellsOf .u32 xs).length = Nat.min xs.length (xs.length + 1) ∧ 0 + (cellsOf .u32 xs).length ≤ (cellsOf .u32 (List.replicate (xs.length + 1) 0)).length from ⟨by rw [cellsOf_length]; exact (Nat.min_eq_left (by omega)).symm, by simp [cellsOf_length]⟩)
  go_enter Tryd.func94, Tryd.ntmps94
  go_wp2_with (first | (at_make; go_loud (refine wpList_make_full _ rfl _ _ 22 rfl w.heap.size 86 i0 (.int .u32 0) 1 Tryd.underlying22 HI.out.1 HI.out.2.1 HI.out.2.2.1 _ _ _ _ (xs.length + 1) rfl rfl (by omega) (by omega) HM.out.1 HM.out.2 (Nat.le_refl _) ?_); intro w1 hown1 hg1; rw [made_zero] at hown1; have HB := Lib.hid (own_block hown1); have hb1 : Below w.heap.size w w1 := (Below.refl _ _).grown hg1 (Nat.le_refl _) (fun k hk => by cases hk)) | (with_reducible refine wpList_copy_splice (o := ⟨some 19, _, _, _, _, _⟩) rfl (.tmp 17) (.tmp 18) 22 22 rfl 86 Tryd.underlying22 HS.out _ A _ _ xs.length c rfl rfl w.heap.size 0 _ 86 HB.out (cellsOf .u32 xs) HN.out.1 (copy_src (hx.below hb1)) HN.out.2 (cellsOf_one _ _) w.heap.size w hb1 (Nat.le_refl _) ?_; intro w2 HB2 hb2))
  have hz0 : Seg w2 w.heap.size 0 .u32 86 _ (xs ++ List.replicate (xs.length + 1 - xs.length) 0) := seg_of_block (by rw [← copy_over]; exact HB2.out)
  have hlen : (xs ++ List.replicate (xs.length + 1 - xs.length) 0).length = xs.length + 1 := by simp
  have hval : Lm.val B32 (xs ++ List.replicate (xs.length + 1 - xs.length) 0) = Lm.val B32 xs := by rw [Lm.val_append, Lm.val_zeros]; simp
  have hinc := increase_any w.heap.size 0 (xs.length + 1) _ _ A' c' ys w2 hz0 (hy.below hb2) (fun hn => off_below hy hn (Nat.le_refl _)) (ox.append (Lm.Ok.zeros B32_pos _)) oy (by omega) (by omega) (by rw [hlen, hval]; exact sum_fits ox oy hle)
  rw [hlen] at hinc
  have HV := Lib.hid (And.intro hlen hval)
  clear hz0 hlen hval HB HB2 HN HS HM HI
  refine hinc.mono ?_
  clear hinc
  rintro e w3 ⟨rfl, zs, hzl, hzo, hzv, ⟨cur', hseg, -, -⟩, hg3⟩
  rw [HV.out.2] at hzv
  have htr := trim_any (some ⟨w.heap.size, 0, none⟩) (xs.length + 1) zs w3 hseg.nums (by omega) (by omega)
  rw [hzl] at htr
  have HT := Lib.hid htr
  have HZ := Lib.hid (And.intro hzl hzv)
  clear htr hzl hzv hown1
  go_wp2_with fail
  refine HT.out.mono ?_
  rintro e w4 ⟨rfl, k, rfl, hk, hz, hp⟩
  have HP := Lib.hid (And.intro hk (And.intro hz hp))
  clear hk hz hp
  go_wp2
  go_ret
  exact lims_of_trim ⟨k, rfl, HP.out⟩ hseg.nums hzo (Nat.le_of_eq HZ.out.1) HZ.out.2 (hb2.trans (grown_below hg3 (Nat.le_refl _) hb2.size))
theorem sum_any (A : Option Addr) (c : Nat) (xs : List Nat) (A' : Option Addr) (c' : Nat) (ys : List Nat) (w : World) (hx : Nums w .u32 A xs) (hy : Nums w .u32 A' ys)
    (ox : Lm.Ok B32 xs) (oy : Lm.Ok B32 ys) (hl : xs.length ≤ 900000) (hl' : ys.length ≤ 900000) :
    Calls Tryd.prog 94 #[.slice A xs.length c, .slice A' ys.length c'] w fun e w' => IsLims w w' (Lm.val B32 xs + Lm.val B32 ys) e := by
  rcases Nat.lt_or_ge xs.length ys.length with h | h
  · rw [Nat.add_comm]
    exact sum_short A' c' ys A c xs w hy hx oy ox hl' h
  · exact sum_long A c xs A' c' ys w hx hy ox oy hl h

theorem top_bit (n : Nat) (h : n < 4294967296) : n / 2147483648 = (n.testBit 31).toNat := by
  have e : n.testBit 31 = decide (n / 2147483648 % 2 = 1) := Nat.testBit_eq_decide_div_mod_eq
  rw [e]
  have h2 : n / 2147483648 < 2 := by omega
  rcases Nat.lt_or_ge (n / 2147483648) 1 with h3 | h3
  · have : n / 2147483648 = 0 := by omega
    simp [this]
  · have : n / 2147483648 = 1 := by omega
    simp [this]
theorem bit31 (n : Nat) (h : n < 4294967296) : n.testBit 31 = decide (2147483648 ≤ n) := by
  have e : n.testBit 31 = decide (n / 2147483648 % 2 = 1) := Nat.testBit_eq_decide_div_mod_eq
  rw [e]
  congr 1
  apply propext
  omega
theorem or_lt32 {a b : Nat} (ha : a < 4294967296) (hb : b < 4294967296) : a ||| b < 4294967296 := Nat.or_lt_two_pow (n := 32) ha hb
theorem and_lt32 {a b : Nat} (hb : b < 4294967296) : a &&& b < 4294967296 := Nat.and_lt_two_pow (n := 32) a hb
theorem xor_lt32 {a b : Nat} (ha : a < 4294967296) (hb : b < 4294967296) : a ^^^ b < 4294967296 := Nat.xor_lt_two_pow (n := 32) ha hb
theorem borrow_bit (x y d q b : Nat) (hx : x < 4294967296) (hy : y < 4294967296) (hd : d < 4294967296) (hb : b ≤ 1) (hq : q ≤ 1) (h : d + y + b = x + 4294967296 * q) :
    (((4294967295 ^^^ x) &&& y) ||| ((4294967295 ^^^ (x ^^^ y)) &&& d)) / 2147483648 = q := by
  rw [top_bit _ (or_lt32 (and_lt32 hy) (and_lt32 hd))]
  simp only [Nat.testBit_or, Nat.testBit_and, Nat.testBit_xor, bit31 x hx, bit31 y hy, bit31 d hd, show Nat.testBit 4294967295 31 = true from by decide]
  by_cases h1 : 2147483648 ≤ x <;> by_cases h2 : 2147483648 ≤ y <;> by_cases h3 : 2147483648 ≤ d <;> simp [h1, h2, h3] <;> omega

theorem max_u32 : IntKind.u32.max = ((4294967295 : Nat) : Int) := by decide
theorem borrow_int (x y d q b : Nat) (hx : x < 4294967296) (hy : y < 4294967296) (hd : d < 4294967296) (hb : b ≤ 1) (hq : q ≤ 1) (h : d + y + b = x + 4294967296 * q) :
    bits .or .u32 (bits .and .u32 (bits .xor .u32 IntKind.u32.max (x : Int)) (y : Int)) (bits .and .u32 (bits .xor .u32 IntKind.u32.max (bits .xor .u32 (x : Int) (y : Int))) (((x : Int) - (y : Int) - (b : Int)) % 4294967296)) / 2147483648 = ((q : Nat) : Int) := by
  have e : ((x : Int) - (y : Int) - (b : Int)) % 4294967296 = ((d : Nat) : Int) := by omega
  have hm : 4294967295 < 4294967296 := by decide
  rw [e, max_u32, u32_xor_nat _ _ hm hx, u32_and_nat _ _ (xor_lt32 hm hx) hy, u32_xor_nat _ _ hx hy, u32_xor_nat _ _ hm (xor_lt32 hx hy), u32_and_nat _ _ (xor_lt32 hm (xor_lt32 hx hy)) hd,
    u32_or_nat _ _ (and_lt32 hy) (and_lt32 hd)]
  have := borrow_bit x y d q b hx hy hd hb hq h
  omega

theorem sub_parts (x y b : Nat) (hx : x < 4294967296) (hy : y < 4294967296) (hb : b ≤ 1) : ∃ d q : Nat, d < 4294967296 ∧ q ≤ 1 ∧ d + y + b = x + 4294967296 * q := by
  by_cases h : x < y + b
  · exact ⟨x + 4294967296 - y - b, 1, by omega, by omega, by omega⟩
  · exact ⟨x - y - b, 0, by omega, by omega, by omega⟩

def IsSub (w w' : World) (x y b : Nat) (e : Ending) : Prop := w = w' ∧ ∃ d q : Nat, e = .returned (.tuple #[.int .u32 d, .int .u32 q]) ∧ d < 4294967296 ∧ q ≤ 1 ∧ d + y + b = x + 4294967296 * q

set_option maxHeartbeats 1000000 in
theorem sub32_any (x y b : Nat) (w : World) (hx : x < 4294967296) (hy : y < 4294967296) (hb : b ≤ 1) :
    Calls Tryd.prog 90 #[.int .u32 x, .int .u32 y, .int .u32 b] w fun e w' => IsSub w w' x y b e := by
  obtain ⟨d, q, hd, hq, h⟩ := sub_parts x y b hx hy hb
  have h1 := borrow_int x y d q b hx hy hd hb hq h
  have h2 : ((x : Int) - (y : Int) - (b : Int)) % 4294967296 = ((d : Nat) : Int) := by omega
  have H := Lib.hid (And.intro h (And.intro h1 h2))
  clear h h1 h2
  go_enter Tryd.func90, Tryd.ntmps90
  go_wp2
  go_ret2
  refine ⟨rfl, d, q, ?_, hd, hq, H.out.1⟩
  have e : Ending.returned (.tuple #[.int .u32 (((x : Int) - (y : Int) - (b : Int)) % 4294967296), .int .u32 (bits .or .u32 (bits .and .u32 (bits .xor .u32 IntKind.u32.max (x : Int)) (y : Int)) (bits .and .u32 (bits .xor .u32 IntKind.u32.max (bits .xor .u32 (x : Int) (y : Int))) (((x : Int) - (y : Int) - (b : Int)) % 4294967296)) / 2147483648)]) = .returned (.tuple #[.int .u32 d, .int .u32 q]) := by
    rw [H.out.2.1, H.out.2.2]
  exact e

/-- The digits of a difference, as far as i: the digits zs, and a borrow q. -/
structure Dif (xs ys zs : List Nat) (i q : Nat) : Prop where
  len : zs.length = xs.length
  ok : Lm.Ok B32 zs
  rest : ∀ j, i ≤ j → zs.getD j 0 = xs.getD j 0
  num : Lm.val B32 zs + Lm.val B32 (ys.take i) = Lm.val B32 xs + B32 ^ i * q
  borrow : q ≤ 1

theorem dif_step {xs ys zs : List Nat} {i q d y r q' : Nat} (h : Dif xs ys zs i q) (hi : i < xs.length) (hd : zs.getD i 0 = d) (hr : r < 4294967296) (hq : q' ≤ 1) (he : r + y + q = d + 4294967296 * q')
    (hy : Lm.val B32 (ys.take (i + 1)) = Lm.val B32 (ys.take i) + B32 ^ i * y) : Dif xs ys (zs.set i r) (i + 1) q' := by
  have hs := Lm.val_set B32 zs i r (by rw [h.len]; exact hi)
  rw [hd] at hs
  refine ⟨by simpa using h.len, h.ok.set _ _ hr, fun j hj => ?_, ?_, hq⟩
  · rw [← h.rest j (by omega), List.getD_eq_getElem?_getD, List.getElem?_set, if_neg (by omega), ← List.getD_eq_getElem?_getD]
  · rw [hy, Nat.pow_succ]
    exact Lm.sub_step B32 (B32 ^ i) (Lm.val B32 zs) _ q d y r q' he hs _ _ h.num

theorem dif_end {xs ys zs : List Nat} {i : Nat} (h : Dif xs ys zs i 0) (hi : ys.length ≤ i) : Lm.val B32 zs = Lm.val B32 xs - Lm.val B32 ys := by
  have hn := h.num
  rw [List.take_of_length_le hi] at hn
  omega

theorem dif_room {xs ys zs : List Nat} {i q : Nat} (h : Dif xs ys zs i q) (hq : 0 < q) (hi : ys.length ≤ i) (hv : Lm.val B32 ys ≤ Lm.val B32 xs) : i < xs.length := by
  rcases Nat.lt_or_ge i xs.length with hlt | hge
  · exact hlt
  · have hn := h.num
    rw [List.take_of_length_le hi] at hn
    have h0 := Lm.val_lt h.ok
    rw [h.len] at h0
    have h1 : B32 ^ xs.length ≤ B32 ^ i := Nat.pow_le_pow_right B32_pos hge
    have h2 : B32 ^ i * 1 ≤ B32 ^ i * q := Nat.mul_le_mul_left _ hq
    omega

set_option maxRecDepth 100000 in
set_option maxHeartbeats 1000000 in
theorem difference_some (A : Option Addr) (c : Nat) (xs : List Nat) (A' : Option Addr) (c' : Nat) (ys : List Nat) (w : World) (hx : Nums w .u32 A xs) (hy : Nums w .u32 A' ys)
    (ox : Lm.Ok B32 xs) (oy : Lm.Ok B32 ys) (hl : xs.length ≤ 900000) (hle : ys.length ≤ xs.length) (hv : Lm.val B32 ys ≤ Lm.val B32 xs) (h0 : 0 < xs.length) :
    Calls Tryd.prog 85 #[.slice A xs.length c, .slice A' ys.length c'] w fun e w' => IsLims w w' (Lm.val B32 xs - Lm.val B32 ys) e := by
  have HV := Lib.hid hv
  clear hv
  go_enter Tryd.func85, Tryd.ntmps85
  go_wp2_with fail
  refine (clone_any A c xs w hx (by omega)).mono ?_
  rintro e w1 ⟨A1, c1, rfl, hown, hb1⟩
  obtain ⟨A2, c2, e2, hle2⟩ := own_form hown
  obtain ⟨rfl, rfl⟩ : A1 = A2 ∧ c1 = c2 := by injection e2 with a b c; exact ⟨a, c⟩
  clear e2
  obtain ⟨g, cur, rfl, hg, hseg0⟩ := seg_of_own hown h0
  have hy1 := hy.below hb1
  have hoff : 0 < ys.length → Off A' g := fun hn => off_below hy hn hg
  clear hown hx hy
  go_wp2_with fail
  go_loopw [6, 7, 8] (fun bv iv _ wr => ∃ (i q : Nat) (zs : List Nat), iv = .int .i64 i ∧ bv = .int .u32 q ∧ i ≤ xs.length ∧ Dif xs ys zs i q ∧ SegTo wr g 0 .u32 86 cur zs ∧ w1.grownBy wr (some g)) (fun _ iv _ _ => xs.length - (intOf iv).toNat)
  case atStart =>
    exact ⟨0, 0, xs, rfl, rfl, Nat.zero_le _, ⟨rfl, ox, fun _ _ => rfl, by simp [Lm.val], by omega⟩, .refl hseg0, World.grownBy.refl _ _⟩
  case round =>
    obtain ⟨i, q, zs, rfl, rfl, hi, hdif, hseg, hgr⟩ := hrel
    have hyr := hy1.grown hgr hoff
    have hq := hdif.borrow
    by_cases hiy : i < ys.length
    · obtain ⟨ad, rfl, _, hcell⟩ := hyr.at_ hiy
      have hcy := hcell i hiy
      clear hcell
      obtain ⟨cur', hs1, hs2, hs3⟩ := id hseg
      have hcz := hs1.cell (j := i) (by rw [hdif.len]; omega)
      have hfz := hs1.frozen (0 + i)
      have hdl := limb_lt hdif.ok i
      have hyl := limb_lt oy i
      obtain ⟨d, hd⟩ : ∃ d, zs.getD i 0 = d := ⟨_, rfl⟩
      obtain ⟨y, hyd⟩ : ∃ y, ys.getD i 0 = y := ⟨_, rfl⟩
      rw [hd] at hcz hdl
      rw [hyd] at hcy hyl
      simp only [Nat.zero_add] at hcz hfz
      have HD := Lib.hid hd
      have HY := Lib.hid hyd
      clear hd hyd hs1 hs2 hs3 hseg0
      go_wp2_with fail
      refine (sub32_any d y q _ hdl hyl hq).mono ?_
      rintro e w' ⟨rfl, r, q', rfl, hr, hq', he⟩
      have HE := Lib.hid he
      clear he
      go_wp2
      go_roundw
      case rel =>
        refine ⟨i + 1, _, _, by go_num, rfl, by omega, dif_step hdif (by omega) HD.out hr hq' HE.out (by rw [Lm.val_take_succ _ _ _ hiy, HY.out]), ?_, ?_⟩
        · simpa using hseg.set_ (j := i) (by rw [hdif.len]; omega) r
        · exact grown_trans hgr (grown_store _ _ _ _)
      case measure => simp [intOf]; omega
    · by_cases hq0 : q = 0
      · subst hq0
        have htr := trim_any (some ⟨g, 0, none⟩) c1 zs wr (by obtain ⟨cur', hs1, _⟩ := hseg; exact hs1.nums) (by rw [hdif.len]; omega) (by rw [hdif.len]; exact hle2)
        rw [hdif.len] at htr
        have HT := Lib.hid htr
        clear htr
        go_wp2_with fail
        refine HT.out.mono ?_
        rintro e w4 ⟨rfl, k, rfl, hk, hz, hp⟩
        have HP := Lib.hid (And.intro hk (And.intro hz hp))
        clear hk hz hp
        go_wp2
        go_ret
        exact lims_of_trim ⟨k, rfl, HP.out⟩ (by obtain ⟨cur', hs1, _⟩ := hseg; exact hs1.nums) hdif.ok (by rw [hdif.len]; exact hle2) (dif_end hdif (by omega)) (hb1.trans (grown_below hgr hg hb1.size))
      · have hroom := dif_room hdif (by omega) (by omega) HV.out
        obtain ⟨cur', hs1, hs2, hs3⟩ := id hseg
        have hcz := hs1.cell (j := i) (by rw [hdif.len]; omega)
        have hfz := hs1.frozen (0 + i)
        have hdl := limb_lt hdif.ok i
        obtain ⟨d, hd⟩ : ∃ d, zs.getD i 0 = d := ⟨_, rfl⟩
        rw [hd] at hcz hdl
        simp only [Nat.zero_add] at hcz hfz
        have HD := Lib.hid hd
        have hqp : 0 < q := by omega
        clear hd hs1 hs2 hs3 hseg0 hq0
        have h32 := sub32_any d 0 q wr hdl (by omega) hq
        have H32 := Lib.hid h32
        clear h32
        go_wp2_with fail
        refine H32.out.mono ?_
        rintro e w' ⟨rfl, r, q', rfl, hr, hq', he⟩
        have HE := Lib.hid he
        clear he
        go_wp2
        go_roundw
        case rel =>
          refine ⟨i + 1, _, _, by go_num, rfl, by omega, dif_step hdif (by omega) HD.out hr hq' HE.out (by rw [List.take_of_length_le (by omega), List.take_of_length_le (by omega)]; simp), ?_, ?_⟩
          · simpa using hseg.set_ (j := i) (by rw [hdif.len]; omega) r
          · exact grown_trans hgr (grown_store _ _ _ _)
        case measure => simp [intOf]; omega

set_option maxRecDepth 100000 in
set_option maxHeartbeats 1000000 in
theorem difference_none (A : Option Addr) (c : Nat) (A' : Option Addr) (c' : Nat) (w : World) :
    Calls Tryd.prog 85 #[.slice A 0 c, .slice A' 0 c'] w fun e w' => IsLims w w' 0 e := by
  have hcl := clone_any A c [] w (Nums.nil _ _ _) (by simp)
  have HC := Lib.hid hcl
  clear hcl
  go_enter Tryd.func85, Tryd.ntmps85
  go_wp2_with fail
  refine HC.out.mono ?_
  rintro e w1 ⟨A1, c1, rfl, hown, hb1⟩
  clear hown HC
  have htr := trim_any A1 c1 [] w1 (Nums.nil _ _ _) (by simp) (by simp)
  have HT := Lib.hid htr
  clear htr
  simp only [List.length_nil]
  go_wp2_with fail
  go_loop [6, 7] (fun q i => q = .int .u32 0 ∧ i = .int .i64 0) (fun _ _ => 0)
  case atStart => exact ⟨rfl, rfl⟩
  case round =>
    obtain ⟨rfl, rfl⟩ := hrel
    go_wp2_with fail
    refine HT.out.mono ?_
    rintro e w4 ⟨rfl, k, rfl, hk, hz, hp⟩
    have HP := Lib.hid (And.intro hk (And.intro hz hp))
    clear hk hz hp
    go_wp2
    go_ret
    exact lims_of_trim ⟨k, rfl, HP.out⟩ (Nums.nil _ _ _) (Lm.Ok.nil _) (by simp) rfl hb1

theorem difference_any (A : Option Addr) (c : Nat) (xs : List Nat) (A' : Option Addr) (c' : Nat) (ys : List Nat) (w : World) (hx : Nums w .u32 A xs) (hy : Nums w .u32 A' ys)
    (ox : Lm.Ok B32 xs) (oy : Lm.Ok B32 ys) (hl : xs.length ≤ 900000) (hle : ys.length ≤ xs.length) (hv : Lm.val B32 ys ≤ Lm.val B32 xs) :
    Calls Tryd.prog 85 #[.slice A xs.length c, .slice A' ys.length c'] w fun e w' => IsLims w w' (Lm.val B32 xs - Lm.val B32 ys) e := by
  rcases Nat.eq_zero_or_pos xs.length with h0 | h0
  · have hx0 : xs = [] := List.eq_nil_of_length_eq_zero h0
    have hy0 : ys = [] := List.eq_nil_of_length_eq_zero (by omega)
    subst hx0
    subst hy0
    exact difference_none A c A' c' w
  · exact difference_some A c xs A' c' ys w hx hy ox oy hl hle hv h0

/-- The digits of a product, as far as the limb i of the second factor. -/
structure Outer (xs ys zs : List Nat) (i : Nat) : Prop where
  len : zs.length = xs.length + ys.length
  ok : Lm.Ok B32 zs
  zero : ∀ k, i + xs.length ≤ k → zs.getD k 0 = 0
  num : Lm.val B32 zs = Lm.val B32 xs * Lm.val B32 (ys.take i)

/-- Within the limb i, which is f: as far as the limb j of the first factor, with a carry c. -/
structure Inner (xs ys zs : List Nat) (i f j c : Nat) : Prop where
  len : zs.length = xs.length + ys.length
  ok : Lm.Ok B32 zs
  zero : ∀ k, i + xs.length ≤ k → zs.getD k 0 = 0
  num : Lm.val B32 zs + B32 ^ (i + j) * c = Lm.val B32 xs * Lm.val B32 (ys.take i) + B32 ^ i * (f * Lm.val B32 (xs.take j))
  carry : c < 4294967296

theorem inner_start {xs ys zs : List Nat} {i f : Nat} (h : Outer xs ys zs i) : Inner xs ys zs i f 0 0 :=
  ⟨h.len, h.ok, h.zero, by simp [Lm.val, h.num], by omega⟩

theorem limb_prod {x f : Nat} (hx : x < 4294967296) (hf : f < 4294967296) : x * f ≤ 18446744065119617025 := by
  have h : x * f ≤ 4294967295 * 4294967295 := Nat.mul_le_mul (by omega) (by omega)
  simpa using h

theorem inner_step {xs ys zs : List Nat} {i f j c d x t : Nat} (h : Inner xs ys zs i f j c) (hj : j < xs.length) (hi : i < ys.length) (hd : zs.getD (i + j) 0 = d) (hdl : d < 4294967296)
    (hx : xs.getD j 0 = x) (hxl : x < 4294967296) (hfl : f < 4294967296) (ht : t = c + d + x * f) : Inner xs ys (zs.set (i + j) (t % B32)) i f (j + 1) (t / B32) := by
  have hs := Lm.val_set B32 zs (i + j) (t % B32) (by rw [h.len]; omega)
  rw [hd] at hs
  have hp := limb_prod hxl hfl
  have hc := h.carry
  refine ⟨by simpa using h.len, h.ok.set _ _ (Nat.mod_lt _ B32_pos), fun k hk => ?_, ?_, ?_⟩
  · exact (Lm.getD_set_ne _ _ _ _ (by omega)).trans (h.zero k hk)
  · rw [show i + (j + 1) = (i + j) + 1 from by omega, Nat.pow_succ, Lm.add_step B32 (B32 ^ (i + j)) (Lm.val B32 zs) _ c d (x * f) t ht hs, Nat.mul_add, ← Nat.add_assoc, h.num,
      Lm.val_take_succ _ _ _ hj, hx, Nat.mul_add, Nat.mul_add, Nat.add_assoc]
    congr 2
    rw [Nat.pow_add, Nat.mul_assoc]
    congr 1
    rw [Nat.mul_left_comm f, Nat.mul_comm x f]
  · subst ht
    unfold B32
    omega

theorem inner_end {xs ys zs : List Nat} {i f c : Nat} (h : Inner xs ys zs i f xs.length c) (hi : i < ys.length) (hf : ys.getD i 0 = f) : Outer xs ys (zs.set (i + xs.length) c) (i + 1) := by
  have hs := Lm.val_set B32 zs (i + xs.length) c (by rw [h.len]; omega)
  rw [h.zero (i + xs.length) (Nat.le_refl _), Nat.mul_zero, Nat.add_zero] at hs
  refine ⟨by simpa using h.len, h.ok.set _ _ h.carry, fun k hk => ?_, ?_⟩
  · exact (Lm.getD_set_ne _ _ _ _ (by omega)).trans (h.zero k (by omega))
  · rw [hs, h.num, List.take_length, Lm.val_take_succ _ _ _ hi, hf, Nat.mul_add]
    congr 1
    rw [Nat.mul_left_comm (Lm.val B32 xs), Nat.mul_comm f]

/-- The order of two numbers, as compare tells it. -/
def ordOf (a b : Nat) : Int := if a < b then -1 else if b < a then 1 else 0

/-- Nothing but answers have been drawn. -/
def Drew (w w' : World) : Prop := ∃ n, w' = w.drewN n
theorem Drew.refl (w : World) : Drew w w := ⟨0, rfl⟩
theorem Drew.mk (w : World) (n : Nat) : Drew w (w.drewN n) := ⟨n, rfl⟩
theorem Drew.more {w w' : World} (h : Drew w w') (n : Nat) : Drew w (w'.drewN n) := by
  obtain ⟨m, rfl⟩ := h
  exact ⟨m + n, by rw [World.drewN_drewN]⟩
theorem Drew.below {w w' : World} (h : Drew w w') (B : Nat) : Below B w w' := by
  obtain ⟨m, rfl⟩ := h
  exact ⟨rfl, rfl, rfl, Nat.le_refl _, fun _ _ => rfl⟩

def IsOrd (w w' : World) (a b : Nat) (e : Ending) : Prop := Drew w w' ∧ e = .returned (.int .i64 (ordOf a b))

theorem ord_lt {a b : Nat} (h : a < b) : ordOf a b = -1 := by simp [ordOf, h]
theorem ord_gt {a b : Nat} (h : b < a) : ordOf a b = 1 := by simp [ordOf, h]; omega
theorem ord_eq {a b : Nat} (h : a = b) : ordOf a b = 0 := by simp [ordOf, h]

theorem shorter_lt {xs ys : List Nat} (hx : Lm.Ok B32 xs) (ty : Lm.Top ys) (h : xs.length < ys.length) : Lm.val B32 xs < Lm.val B32 ys := by
  have h1 := Lm.val_lt hx
  have h2 := Lm.val_ge (b := B32) (by omega) ty
  have h3 : B32 ^ xs.length ≤ B32 ^ (ys.length - 1) := Nat.pow_le_pow_right B32_pos (by omega)
  omega

/-- Equal from k on. -/
def SameFrom (xs ys : List Nat) (k : Nat) : Prop := xs.drop k = ys.drop k
theorem same_down {xs ys : List Nat} {k d : Nat} (hl : xs.length = ys.length) (h0 : 0 < k) (hk : k ≤ xs.length) (h : SameFrom xs ys k) (hx : xs.getD (k - 1) 0 = d) (hy : ys.getD (k - 1) 0 = d) : SameFrom xs ys (k - 1) := by
  unfold SameFrom at *
  have hkx : k - 1 < xs.length := by omega
  have hky : k - 1 < ys.length := by omega
  rw [List.drop_eq_getElem_cons hkx, List.drop_eq_getElem_cons hky, show k - 1 + 1 = k from by omega, h]
  rw [List.getD_eq_getElem?_getD, List.getElem?_eq_getElem hkx] at hx
  rw [List.getD_eq_getElem?_getD, List.getElem?_eq_getElem hky] at hy
  simp at hx hy
  rw [hx, hy]

/-- Behind j both are equal. -/
def IsFirst (xs ys : List Nat) (j : Nat) : Prop := j < xs.length ∧ j < ys.length ∧ xs.drop (j + 1) = ys.drop (j + 1)

set_option maxHeartbeats 1000000 in
theorem compare_any (A : Option Addr) (c : Nat) (xs : List Nat) (A' : Option Addr) (c' : Nat) (ys : List Nat) (w : World) (hx : Nums w .u32 A xs) (hy : Nums w .u32 A' ys)
    (ox : Lm.Ok B32 xs) (oy : Lm.Ok B32 ys) (tx : Lm.Top xs) (ty : Lm.Top ys) (hl : xs.length ≤ 1000000) :
    Calls Tryd.prog 64 #[.slice A xs.length c, .slice A' ys.length c'] w fun e w' => IsOrd w w' (Lm.val B32 xs) (Lm.val B32 ys) e := by
  by_cases h1 : xs.length < ys.length
  · have ho := ord_lt (shorter_lt ox ty h1)
    have HO := Lib.hid ho
    clear ho
    go_enter Tryd.func64, Tryd.ntmps64
    go_wp2
    go_ret
    exact ⟨.refl _, by rw [HO.out]; rfl⟩
  by_cases h2 : ys.length < xs.length
  · have ho := ord_gt (shorter_lt oy tx h2)
    have HO := Lib.hid ho
    clear ho
    go_enter Tryd.func64, Tryd.ntmps64
    go_wp2
    go_ret
    exact ⟨.refl _, by rw [HO.out]; rfl⟩
  have hln : ys.length = xs.length := by omega
  have HL := Lib.hid hln
  rw [hln]
  clear hln h1 h2
  go_enter Tryd.func64, Tryd.ntmps64
  go_wp2
  go_loopw [5] (fun iv wr => ∃ k : Nat, iv = .int .i64 ((k : Int) - 1) ∧ k ≤ xs.length ∧ SameFrom xs ys k ∧ ∃ n, wr = w.drewN n) (fun iv _ => (intOf iv + 1).toNat)
  case atStart => exact ⟨xs.length, rfl, Nat.le_refl _, by unfold SameFrom; rw [List.drop_length, ← HL.out, List.drop_length], 0, rfl⟩
  case round =>
    obtain ⟨k, rfl, hk, hs, n, rfl⟩ := hrel
    by_cases h0 : 0 < k
    · obtain ⟨ad, rfl, _, hcx⟩ := hx.at_ (j := k - 1) (by omega)
      obtain ⟨ad', rfl, _, hcy⟩ := hy.at_ (j := k - 1) (by rw [HL.out]; omega)
      have hdx := hcx (k - 1) (by omega)
      have hdy := hcy (k - 1) (by rw [HL.out]; omega)
      clear hcx hcy
      obtain ⟨d, hd⟩ : ∃ d, xs.getD (k - 1) 0 = d := ⟨_, rfl⟩
      obtain ⟨y, hyd⟩ : ∃ y, ys.getD (k - 1) 0 = y := ⟨_, rfl⟩
      rw [hd] at hdx
      rw [hyd] at hdy
      have HD := Lib.hid hd
      have HY := Lib.hid hyd
      clear hd hyd
      obtain ⟨j, hj⟩ : ∃ j, k = j + 1 := ⟨k - 1, by omega⟩
      subst hj
      simp only [Nat.add_sub_cancel] at hdx hdy HD HY
      rw [show (((j + 1 : Nat) : Int) - 1) = (j : Int) from by omega]
      have hord : IsFirst xs ys j := ⟨by omega, by rw [HL.out]; omega, hs⟩
      clear hs
      by_cases hlt : d < y
      · go_wp2
        go_quiet (fail)
        go_wp2
        go_ret
        exact ⟨(Drew.mk _ _).more _, by rw [ord_lt (Lm.val_lt_of_top ox j hord.1 hord.2.1 hord.2.2 (by rw [HD.out, HY.out]; exact hlt))]; rfl⟩
      · by_cases hgt : y < d
        · go_wp2
          go_quiet (fail)
          go_wp2
          go_quiet (fail)
          go_wp2
          go_ret
          exact ⟨((Drew.mk _ _).more _).more _, by rw [ord_gt (Lm.val_lt_of_top oy j hord.2.1 hord.1 hord.2.2.symm (by rw [HD.out, HY.out]; exact hgt))]; rfl⟩
        · have heq : d = y := by omega
          subst heq
          go_wp2
          go_quiet (fail)
          go_wp2
          go_quiet (fail)
          go_wp2
          go_roundw
          case rel => exact ⟨j, rfl, by omega, same_down HL.out.symm (by omega) (k := j + 1) (by omega) hord.2.2 HD.out HY.out, _, rfl⟩
          case measure => simp [intOf]
    · obtain rfl : k = 0 := by omega
      have he : xs = ys := by simpa [SameFrom] using hs
      have HE := Lib.hid he
      clear he hs
      go_wp2
      go_ret
      exact ⟨.mk _ _, by rw [ord_eq (by rw [HE.out])]; rfl⟩
end Go.Proofs.YtllkajlmfbikhaaDoor
