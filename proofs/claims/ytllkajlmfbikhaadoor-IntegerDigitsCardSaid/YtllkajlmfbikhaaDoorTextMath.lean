/- Texts of integers in a radix: digits, bytes, and what a text says. -/
import Derived.Test.YtllkajlmfbikhaaDoorBaseA
namespace Go.Proofs.YtllkajlmfbikhaaDoor
open Go.RowKit
namespace Tx

/-- The byte of a digit. -/
def chr (d : Nat) : Nat := if d < 10 then 48 + d else 55 + d
/-- The digit of a byte, 36 for none. -/
def dig (c : Nat) : Nat := if 48 ≤ c ∧ c ≤ 57 then c - 48 else if 65 ≤ c ∧ c ≤ 90 then c - 55 else if 97 ≤ c ∧ c ≤ 122 then c - 87 else 36

theorem dig_chr {d : Nat} (h : d < 36) : dig (chr d) = d := by
  unfold dig chr
  split <;> (repeat' split) <;> omega
theorem chr_le {d : Nat} (h : d < 36) : chr d ≤ 90 := by unfold chr; split <;> omega
theorem chr_ge (d : Nat) : 48 ≤ chr d := by unfold chr; split <;> omega
theorem chr_zero {d : Nat} (h : chr d = 48) : d = 0 := by unfold chr at h; split at h <;> omega
theorem dig_le (c : Nat) : dig c ≤ 36 := by unfold dig; (repeat' split) <;> omega

/-- The bytes are the text of z in the radix r. -/
def TextOf (r : Nat) (z : Int) (bs : List Nat) : Prop :=
  (z = 0 ∧ bs = [48]) ∨ ∃ ds, z ≠ 0 ∧ Lm.Ok r ds ∧ Lm.Top ds ∧ Lm.val r ds = z.natAbs ∧ bs = (if z < 0 then [45] else []) ++ (ds.map chr).reverse

theorem TextOf.uniq {r : Nat} {z : Int} {us bs : List Nat} (hr : 1 < r) (h : TextOf r z us) (k : TextOf r z bs) : us = bs := by
  rcases h with ⟨h0, rfl⟩ | ⟨ds, h0, h1, h2, h3, rfl⟩ <;> rcases k with ⟨k0, rfl⟩ | ⟨es, k0, k1, k2, k3, rfl⟩
  · rfl
  · exact absurd h0 k0
  · exact absurd k0 h0
  · rw [Lm.uniq hr h1 k1 h2 k2 (h3.trans k3.symm)]

theorem rev_ind {p : List Nat → Prop} (h0 : p []) (h1 : ∀ l c, p l → p (l ++ [c])) (l : List Nat) : p l := by
  have h : ∀ l : List Nat, p l.reverse := by
    intro l
    induction l with
    | nil => exact h0
    | cons c l ih => rw [List.reverse_cons]; exact h1 _ _ ih
  have := h l.reverse
  rwa [List.reverse_reverse] at this
/-- The number that digits say, the highest one first. -/
def numOf (r : Nat) (l : List Nat) : Nat := l.foldl (fun a c => a * r + dig c) 0
theorem numOf_nil (r : Nat) : numOf r [] = 0 := rfl
theorem numOf_snoc (r : Nat) (l : List Nat) (c : Nat) : numOf r (l ++ [c]) = numOf r l * r + dig c := by
  unfold numOf; rw [List.foldl_append]; rfl
theorem numOf_append (r : Nat) (l : List Nat) : ∀ m : List Nat, numOf r (l ++ m) = numOf r l * r ^ m.length + numOf r m := by
  refine rev_ind (by simp [numOf_nil]) fun m c ih => ?_
  · rw [← List.append_assoc, numOf_snoc, ih, numOf_snoc, List.length_append, List.length_singleton, Nat.pow_succ]
    grind
/-- All bytes are digits. -/
def AllDig (r : Nat) (l : List Nat) : Prop := ∀ c ∈ l, dig c < r
theorem AllDig.append {r : Nat} {l m : List Nat} (h : AllDig r l) (k : AllDig r m) : AllDig r (l ++ m) := by
  intro c hc
  rcases List.mem_append.1 hc with hc | hc
  · exact h c hc
  · exact k c hc
theorem numOf_lt {r : Nat} : ∀ {l : List Nat}, AllDig r l → numOf r l < r ^ l.length := by
  intro l
  refine rev_ind (p := fun l => AllDig r l → numOf r l < r ^ l.length) (fun _ => by simp [numOf_nil]) (fun m c ih h => ?_) l
  · skip
    have h1 := ih (fun x hx => h x (List.mem_append_left _ hx))
    have h2 := h c (List.mem_append_right _ (List.mem_singleton.2 rfl))
    rw [numOf_snoc, List.length_append, List.length_singleton, Nat.pow_succ]
    have h3 : (numOf r m + 1) * r ≤ r ^ m.length * r := Nat.mul_le_mul_right r h1
    rw [Nat.add_mul] at h3
    omega

/-- A text without its sign. -/
def body (l : List Nat) : List Nat := if l.head? = some 45 ∨ l.head? = some 43 then l.tail else l
/-- A text that Parse takes. -/
def Says (r : Nat) (l : List Nat) : Prop := body l ≠ [] ∧ AllDig r (body l)
/-- The integer that it says. -/
def saidBy (r : Nat) (l : List Nat) : Int := if l.head? = some 45 then -(numOf r (body l) : Int) else numOf r (body l)

theorem numOf_digits {r : Nat} {ds : List Nat} (h : Lm.Ok r ds) (hr : r ≤ 36) : numOf r (ds.map chr).reverse = Lm.val r ds ∧ AllDig r (ds.map chr).reverse := by
  induction ds with
  | nil => exact ⟨rfl, fun c hc => by simp at hc⟩
  | cons d ds ih =>
    obtain ⟨h1, h2⟩ := ih h.tail
    have hd := h.head
    rw [List.map_cons, List.reverse_cons, numOf_snoc, h1, dig_chr (by omega), Lm.val_cons]
    refine ⟨by rw [Nat.mul_comm]; omega, h2.append fun c hc => ?_⟩
    rw [List.mem_singleton.1 hc, dig_chr (by omega)]
    exact hd

/-- The bytes of a string, as numbers. -/
def bts (s : ByteArray) : List Nat := s.data.toList.map UInt8.toNat
theorem bts_length (s : ByteArray) : (bts s).length = s.size := by unfold bts; rw [List.length_map, Array.length_toList]; rfl
theorem bts_at (s : ByteArray) (k : Nat) (h : k < s.size) : s[k].toNat = (bts s).getD k 0 := by
  rw [List.getD_eq_getElem?_getD]
  unfold bts
  rw [List.getElem?_map, List.getElem?_eq_getElem (by simpa using h)]
  rfl
theorem bts_lt (s : ByteArray) (k : Nat) : (bts s).getD k 0 < 256 := by
  by_cases h : k < s.size
  · rw [← bts_at s k h]; exact UInt8.toNat_lt _
  · rw [List.getD_eq_getElem?_getD, List.getElem?_eq_none (by rw [bts_length]; omega)]; decide
theorem bts_extract (s : ByteArray) (a b : Nat) : bts (s.extract a b) = ((bts s).take b).drop a := by
  unfold bts
  rw [ByteArray.data_extract, Array.toList_extract]
  show List.map _ ((s.data.toList.drop a).take (b - a)) = _
  rw [List.map_take, List.map_drop, List.drop_take]
theorem bts_inj {s t : ByteArray} (h : bts s = bts t) : s = t := by
  unfold bts at h
  have h1 := (List.map_inj_right (fun a b => UInt8.toNat_inj.1)).1 h
  cases s; cases t
  simp_all
/-- The string with these bytes. -/
def str (l : List Nat) : ByteArray := strOfNums (l.map fun c => ((c : Nat) : Int))
theorem bts_str {l : List Nat} (h : ∀ c ∈ l, c < 256) : bts (str l) = l := by
  unfold bts str strOfNums
  simp only [List.map_map]
  conv => rhs; rw [← List.map_id l]
  refine List.map_congr_left fun c hc => ?_
  have := h c hc
  simp [UInt8.toNat_ofNat']
  omega
theorem str_bts (s : ByteArray) : str (bts s) = s := bts_inj (bts_str fun c hc => by
  unfold bts at hc
  obtain ⟨b, _, rfl⟩ := List.mem_map.1 hc
  exact UInt8.toNat_lt b)
theorem bts_append (s t : ByteArray) : bts (s ++ t) = bts s ++ bts t := by
  unfold bts
  rw [ByteArray.data_append, Array.toList_append, List.map_append]
theorem bts_nil {s : ByteArray} : bts s = [] ↔ s = ByteArray.empty := by
  constructor
  · intro h; exact bts_inj (by rw [h]; rfl)
  · rintro rfl; rfl

/-- Numbers xs are multiplied by f in place, with a carry q: as far as the index i they have become zs. -/
structure MA (b : Nat) (xs zs : List Nat) (f a i q : Nat) : Prop where
  len : zs.length = xs.length
  ok : Lm.Ok b zs
  rest : zs.drop i = xs.drop i
  num : Lm.val b (zs.take i) + b ^ i * q = Lm.val b (xs.take i) * f + a
theorem MA.start {b : Nat} {xs : List Nat} {f a : Nat} (ox : Lm.Ok b xs) : MA b xs xs f a 0 a := ⟨rfl, ox, rfl, by simp [Lm.val]⟩
theorem MA.step {b : Nat} {xs zs : List Nat} {f a i q x t : Nat} (h : MA b xs zs f a i q) (hb : 0 < b) (hi : i < xs.length) (hx : zs.getD i 0 = x) (ht : t = q + x * f) :
    MA b xs (zs.set i (t % b)) f a (i + 1) (t / b) := by
  have hl := h.len
  have hxx : xs.getD i 0 = x := by
    have h1 := congrArg (fun l => l.getD 0 0) h.rest
    simp only [List.getD_eq_getElem?_getD, List.getElem?_drop, Nat.add_zero] at h1 hx ⊢
    rw [← h1]; exact hx
  refine ⟨by simpa using hl, h.ok.set _ _ (Nat.mod_lt _ hb), ?_, ?_⟩
  · rw [List.drop_set, if_pos (by omega)]
    have h1 := congrArg (List.drop 1) h.rest
    simpa [List.drop_drop] using h1
  · have hg : (zs.set i (t % b)).getD i 0 = t % b := by
      rw [List.getD_eq_getElem?_getD, List.getElem?_set, if_pos rfl, if_pos (by omega)]; rfl
    rw [Lm.val_take_succ _ _ _ (by simpa using (by omega : i < zs.length)), Lm.val_take_succ _ _ _ hi, hg, hxx, List.take_set_of_le (Nat.le_refl _), Nat.pow_succ]
    have hn := h.num
    have hm := Nat.div_add_mod t b
    generalize t % b = m at *
    generalize t / b = d at *
    generalize b ^ i = P at *
    generalize Lm.val b (zs.take i) = v at *
    generalize Lm.val b (xs.take i) = u at *
    grind
theorem MA.end_ {b : Nat} {xs zs : List Nat} {f a q : Nat} (h : MA b xs zs f a xs.length q) : Lm.val b zs + b ^ xs.length * q = Lm.val b xs * f + a := by
  have hn := h.num
  rw [List.take_of_length_le (by rw [h.len]; exact Nat.le_refl _), List.take_of_length_le (Nat.le_refl _)] at hn
  exact hn
/-- Without a carry the highest one is not zero. -/
theorem MA.top0 {b : Nat} {xs zs : List Nat} {f a : Nat} (h : MA b xs zs f a xs.length 0) (hf : 0 < f) (tx : Lm.Top xs) : Lm.Top zs := by
  rcases Nat.eq_zero_or_pos xs.length with h0 | h0
  · have : zs = [] := List.eq_nil_of_length_eq_zero (by rw [h.len]; exact h0)
    rw [this]; exact Lm.Top.nil
  · refine Lm.top_of_last fun hz => ?_
    have h1 := Lm.val_ge (b := b) h0 tx
    have h2 := h.end_
    rw [Nat.mul_zero, Nat.add_zero] at h2
    have h3 : Lm.val b (zs.take (zs.length - 1)) = Lm.val b zs := Lm.val_cut _ (Nat.sub_le _ _) (fun i h4 h5 => by
      obtain rfl : i = zs.length - 1 := by omega
      exact hz)
    have h4 := Lm.val_lt (h.ok.take (zs.length - 1))
    rw [h3, List.length_take, h.len, Nat.min_eq_left (Nat.sub_le _ _)] at h4
    have h5 : Lm.val b xs ≤ Lm.val b xs * f := Nat.le_mul_of_pos_right _ hf
    omega
theorem MA.top1 {b : Nat} {xs zs : List Nat} {f a q : Nat} (_ : MA b xs zs f a xs.length q) (hq : 0 < q) : Lm.Top (zs ++ [q]) := by
  refine Lm.top_of_last ?_
  rw [List.length_append, List.length_singleton, Nat.add_sub_cancel, List.getD_eq_getElem?_getD, List.getElem?_append_right (Nat.le_refl _)]
  simp; omega
theorem MA.val1 {b : Nat} {xs zs : List Nat} {f a q : Nat} (h : MA b xs zs f a xs.length q) : Lm.val b (zs ++ [q]) = Lm.val b xs * f + a := by
  rw [Lm.val_snoc, h.len]; exact h.end_
theorem MA.val0 {b : Nat} {xs zs : List Nat} {f a : Nat} (h : MA b xs zs f a xs.length 0) : Lm.val b zs = Lm.val b xs * f + a := by
  have := h.end_
  rw [Nat.mul_zero, Nat.add_zero] at this
  exact this

/-- Numbers are divided by y, from the highest one down to i, with a rest r. -/
structure Qd (b : Nat) (xs zs : List Nat) (y i r : Nat) : Prop where
  len : zs.length = xs.length
  ok : Lm.Ok b zs
  num : y * Lm.val b (zs.drop i) + r = Lm.val b (xs.drop i)
  rest : r < y
theorem Qd.start {b : Nat} {xs : List Nat} {y : Nat} (hb : 0 < b) (hy : 0 < y) : Qd b xs (List.replicate xs.length 0) y xs.length 0 :=
  ⟨by simp, Lm.Ok.zeros hb _, by simp [Lm.val], hy⟩
theorem Qd.step {b : Nat} {xs zs : List Nat} {y i r x t : Nat} (h : Qd b xs zs y (i + 1) r) (hi : i < xs.length) (hx : xs.getD i 0 = x) (hxl : x < b) (ht : t = r * b + x) :
    Qd b xs (zs.set i (t / y)) y i (t % y) := by
  have hr := h.rest
  have hq : t / y < b := by
    refine Nat.div_lt_of_lt_mul ?_
    have := Nat.mul_le_mul_right b (show r + 1 ≤ y from hr)
    rw [Nat.add_mul, Nat.one_mul] at this
    omega
  refine ⟨by simpa using h.len, h.ok.set _ _ hq, ?_, Nat.mod_lt _ (by omega)⟩
  have hl := h.len
  rw [Lm.val_drop_pred _ _ i (by simpa using (by omega : i < zs.length)), Lm.val_drop_pred _ _ i hi, hx, List.drop_set, if_pos (by omega)]
  have hg : (zs.set i (t / y)).getD i 0 = t / y := by
    rw [List.getD_eq_getElem?_getD, List.getElem?_set, if_pos rfl, if_pos (by omega)]; rfl
  rw [hg, ← h.num]
  have hd := Nat.div_add_mod t y
  generalize t / y = q at *
  generalize t % y = m at *
  generalize Lm.val b (zs.drop (i + 1)) = v at *
  grind
theorem Qd.end_ {b : Nat} {xs zs : List Nat} {y r : Nat} (h : Qd b xs zs y 0 r) : Lm.val b zs = Lm.val b xs / y ∧ r = Lm.val b xs % y := by
  have hn := h.num
  have hr := h.rest
  simp only [List.drop_zero] at hn
  rw [← hn]
  constructor
  · rw [Nat.mul_add_div (by omega), Nat.div_eq_of_lt hr, Nat.add_zero]
  · rw [Nat.mul_add_mod, Nat.mod_eq_of_lt hr]

/-- What the reference's Text has told: the digits ds of n, with m left. -/
structure Tl (r n m : Nat) (ds : List Nat) : Prop where
  ok : Lm.Ok r ds
  num : Lm.val r ds + r ^ ds.length * m = n
  top : m = 0 → Lm.Top ds
theorem Tl.start (r n : Nat) : Tl r n n [] := ⟨Lm.Ok.nil _, by simp [Lm.val], fun _ => Lm.Top.nil⟩
theorem Tl.step {r n m : Nat} {ds : List Nat} (h : Tl r n m ds) (hm : 0 < m) (hr : 2 ≤ r) : Tl r n (m / r) (ds ++ [m % r]) := by
  refine ⟨h.ok.append (Lm.Ok.cons (Nat.mod_lt _ (by omega)) (Lm.Ok.nil _)), ?_, fun h0 => ?_⟩
  · rw [Lm.val_snoc, List.length_append, List.length_singleton, Nat.pow_succ, ← h.num]
    have hd := Nat.div_add_mod m r
    generalize m / r = q at *
    generalize m % r = d at *
    generalize r ^ ds.length = P at *
    grind
  · refine Lm.top_of_last ?_
    have hlt : m < r := (Nat.div_eq_zero_iff.1 h0).resolve_left (by omega)
    rw [List.length_append, List.length_singleton, Nat.add_sub_cancel, List.getD_eq_getElem?_getD, List.getElem?_append_right (Nat.le_refl _), Nat.mod_eq_of_lt hlt]
    simp; omega
theorem Tl.end_ {r n : Nat} {ds : List Nat} (h : Tl r n 0 ds) : Lm.Ok r ds ∧ Lm.Top ds ∧ Lm.val r ds = n := ⟨h.ok, h.top rfl, by simpa using h.num⟩
end Tx
end Go.Proofs.YtllkajlmfbikhaaDoor
