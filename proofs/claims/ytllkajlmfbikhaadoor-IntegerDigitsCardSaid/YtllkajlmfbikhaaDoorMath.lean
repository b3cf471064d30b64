/- Plain facts on lists of digits: the number that they make (lowest first), and that a number has one such list without zeros at the top. It imports nothing of the program. -/
namespace Lm

/-- The number that digits to the base b make, the lowest digit first. -/
def val (b : Nat) : List Nat → Nat
  | [] => 0
  | x :: xs => x + b * val b xs

theorem val_nil (b : Nat) : val b [] = 0 := rfl
theorem val_cons (b x : Nat) (xs : List Nat) : val b (x :: xs) = x + b * val b xs := rfl

theorem val_append (b : Nat) (xs ys : List Nat) : val b (xs ++ ys) = val b xs + b ^ xs.length * val b ys := by
  induction xs with
  | nil => simp [val]
  | cons x xs ih =>
    simp only [List.cons_append, val, ih, List.length_cons, Nat.pow_succ, Nat.mul_add]
    rw [Nat.add_assoc]
    congr 2
    rw [← Nat.mul_assoc, Nat.mul_comm (b ^ xs.length) b]

theorem val_snoc (b : Nat) (xs : List Nat) (d : Nat) : val b (xs ++ [d]) = val b xs + b ^ xs.length * d := by
  rw [val_append]; simp [val]

theorem val_split (b : Nat) (xs : List Nat) (k : Nat) (hk : k ≤ xs.length) : val b xs = val b (xs.take k) + b ^ k * val b (xs.drop k) := by
  have h := val_append b (xs.take k) (xs.drop k)
  rw [List.take_append_drop, List.length_take, Nat.min_eq_left hk] at h
  exact h

theorem val_zeros (b n : Nat) : val b (List.replicate n 0) = 0 := by
  induction n with
  | zero => rfl
  | succ n ih => simp [List.replicate_succ, val, ih]

/-- All digits are digits. -/
def Ok (b : Nat) (xs : List Nat) : Prop := ∀ x ∈ xs, x < b

theorem Ok.nil (b : Nat) : Ok b [] := by intro x hx; cases hx
theorem Ok.cons {b x : Nat} {xs : List Nat} (h : x < b) (hs : Ok b xs) : Ok b (x :: xs) := by
  intro y hy; rcases List.mem_cons.1 hy with rfl | hy
  · exact h
  · exact hs y hy
theorem Ok.head {b x : Nat} {xs : List Nat} (h : Ok b (x :: xs)) : x < b := h x (List.mem_cons_self ..)
theorem Ok.tail {b x : Nat} {xs : List Nat} (h : Ok b (x :: xs)) : Ok b xs := fun y hy => h y (List.mem_cons_of_mem _ hy)
theorem Ok.append {b : Nat} {xs ys : List Nat} (h : Ok b xs) (k : Ok b ys) : Ok b (xs ++ ys) := by
  intro y hy; rcases List.mem_append.1 hy with hy | hy
  · exact h y hy
  · exact k y hy
theorem Ok.take {b : Nat} {xs : List Nat} (h : Ok b xs) (k : Nat) : Ok b (xs.take k) := fun y hy => h y (List.mem_of_mem_take hy)
theorem Ok.drop {b : Nat} {xs : List Nat} (h : Ok b xs) (k : Nat) : Ok b (xs.drop k) := fun y hy => h y (List.mem_of_mem_drop hy)
theorem Ok.set {b : Nat} {xs : List Nat} (h : Ok b xs) (k d : Nat) (hd : d < b) : Ok b (xs.set k d) := by
  intro y hy
  rcases List.mem_or_eq_of_mem_set hy with hy | rfl
  · exact h y hy
  · exact hd
theorem Ok.zeros {b : Nat} (hb : 0 < b) (n : Nat) : Ok b (List.replicate n 0) := by
  intro y hy; rw [(List.mem_replicate.1 hy).2]; exact hb
theorem Ok.getD {b : Nat} {xs : List Nat} (h : Ok b xs) (hb : 0 < b) (k : Nat) : xs.getD k 0 < b := by
  rw [List.getD_eq_getElem?_getD]
  cases hk : xs[k]? with
  | none => simpa using hb
  | some y => simpa using h y (List.mem_of_getElem? hk)

theorem val_lt {b : Nat} {xs : List Nat} (h : Ok b xs) : val b xs < b ^ xs.length := by
  induction xs with
  | nil => simp [val]
  | cons x xs ih =>
    have h1 := ih h.tail
    have h2 := h.head
    rw [val_cons, List.length_cons, Nat.pow_succ, Nat.mul_comm _ b]
    calc x + b * val b xs < b + b * val b xs := by omega
      _ = b * (val b xs + 1) := by rw [Nat.mul_add]; omega
      _ ≤ b * b ^ xs.length := Nat.mul_le_mul_left _ h1

theorem val_set (b : Nat) (xs : List Nat) (k d : Nat) (hk : k < xs.length) : val b (xs.set k d) + b ^ k * xs.getD k 0 = val b xs + b ^ k * d := by
  induction xs generalizing k with
  | nil => simp at hk
  | cons x xs ih =>
    cases k with
    | zero => simp [val]; omega
    | succ k =>
      have h := ih k (by simpa using hk)
      simp only [List.set_cons_succ, val, List.getD_cons_succ, Nat.pow_succ]
      have e1 : b ^ k * b * xs.getD k 0 = b * (b ^ k * xs.getD k 0) := by rw [Nat.mul_comm (b ^ k) b, Nat.mul_assoc]
      have e2 : b ^ k * b * d = b * (b ^ k * d) := by rw [Nat.mul_comm (b ^ k) b, Nat.mul_assoc]
      rw [e1, e2, Nat.add_assoc, ← Nat.mul_add, h, Nat.mul_add, Nat.add_assoc]

theorem getD_set_ne (xs : List Nat) (p d k : Nat) (h : p ≠ k) : (xs.set p d).getD k 0 = xs.getD k 0 := by
  rw [List.getD_eq_getElem?_getD, List.getElem?_set, if_neg h, ← List.getD_eq_getElem?_getD]

/-- No zero at the top. -/
def Top (xs : List Nat) : Prop := xs.getLast? ≠ some 0

theorem Top.nil : Top [] := by simp [Top]

theorem top_of_last {xs : List Nat} (hn : xs.getD (xs.length - 1) 0 ≠ 0) : Top xs := by
  unfold Top
  rw [List.getLast?_eq_getElem?]
  rw [List.getD_eq_getElem?_getD] at hn
  intro e
  rw [e] at hn
  exact hn rfl

theorem last_of_top {xs : List Nat} (h : 0 < xs.length) (ht : Top xs) : xs.getD (xs.length - 1) 0 ≠ 0 := by
  unfold Top at ht
  rw [List.getLast?_eq_getElem?] at ht
  rw [List.getD_eq_getElem?_getD]
  have hlt : xs.length - 1 < xs.length := Nat.sub_lt h (by decide)
  rw [List.getElem?_eq_getElem hlt] at ht ⊢
  intro e
  exact ht (congrArg some e)

theorem drop_last_one {xs : List Nat} (h : 0 < xs.length) : xs.drop (xs.length - 1) = [xs.getD (xs.length - 1) 0] := by
  have hlt : xs.length - 1 < xs.length := Nat.sub_lt h (by decide)
  rw [List.drop_eq_getElem_cons hlt, List.getD_eq_getElem?_getD, List.getElem?_eq_getElem hlt, List.drop_of_length_le (by omega)]
  rfl

theorem val_ge {b : Nat} {xs : List Nat} (h : 0 < xs.length) (ht : Top xs) : b ^ (xs.length - 1) ≤ val b xs := by
  have hs := val_split b xs (xs.length - 1) (Nat.sub_le _ _)
  have hl := last_of_top h ht
  have e : val b [xs.getD (xs.length - 1) 0] = xs.getD (xs.length - 1) 0 := by simp [val]
  rw [drop_last_one h, e] at hs
  have h1 : b ^ (xs.length - 1) * 1 ≤ b ^ (xs.length - 1) * xs.getD (xs.length - 1) 0 := Nat.mul_le_mul_left _ (Nat.pos_of_ne_zero hl)
  rw [Nat.mul_one] at h1
  rw [hs]
  exact Nat.le_trans h1 (Nat.le_add_left _ _)

theorem val_pos {b : Nat} {xs : List Nat} (hb : 0 < b) (h : 0 < xs.length) (ht : Top xs) : 0 < val b xs :=
  Nat.lt_of_lt_of_le (Nat.pow_pos hb) (val_ge h ht)

theorem len_of_val {b : Nat} {xs ys : List Nat} (hb : 1 < b) (hy : Ok b ys) (tx : Top xs) (hv : val b xs ≤ val b ys) : xs.length ≤ ys.length := by
  rcases Nat.lt_or_ge ys.length xs.length with h | h
  · exfalso
    have h1 := val_ge (b := b) (by omega) tx
    have h2 := val_lt hy
    have h3 : b ^ ys.length ≤ b ^ (xs.length - 1) := Nat.pow_le_pow_right (by omega) (by omega)
    omega
  · exact h

theorem eq_of_val {b : Nat} (hb : 0 < b) : ∀ (xs ys : List Nat), Ok b xs → Ok b ys → xs.length = ys.length → val b xs = val b ys → xs = ys := by
  intro xs
  induction xs with
  | nil => intro ys _ _ hl _; exact (List.eq_nil_of_length_eq_zero (by simpa using hl.symm)).symm
  | cons x xs ih =>
    intro ys hx hy hl hv
    cases ys with
    | nil => simp at hl
    | cons y ys =>
      have h1 := hx.head
      have h2 := hy.head
      rw [val_cons, val_cons] at hv
      have e1 : (x + b * val b xs) % b = x := by rw [Nat.add_mul_mod_self_left]; exact Nat.mod_eq_of_lt h1
      have e2 : (y + b * val b ys) % b = y := by rw [Nat.add_mul_mod_self_left]; exact Nat.mod_eq_of_lt h2
      have e : x = y := by rw [← e1, ← e2, hv]
      subst e
      have e3 : b * val b xs = b * val b ys := by omega
      have e4 := Nat.eq_of_mul_eq_mul_left hb e3
      rw [ih ys hx.tail hy.tail (by simpa using hl) e4]

/-- Digits without zeros at the top are told by their number. -/
theorem uniq {b : Nat} (hb : 1 < b) {xs ys : List Nat} (hx : Ok b xs) (hy : Ok b ys) (tx : Top xs) (ty : Top ys) (h : val b xs = val b ys) : xs = ys :=
  eq_of_val (by omega) xs ys hx hy (Nat.le_antisymm (len_of_val hb hy tx (by omega)) (len_of_val hb hx ty (by omega))) h

theorem val_eq_zero {b : Nat} (hb : 0 < b) {xs : List Nat} (ht : Top xs) (h : val b xs = 0) : xs = [] := by
  rcases Nat.eq_zero_or_pos xs.length with e | e
  · exact List.eq_nil_of_length_eq_zero e
  · have := val_pos hb e ht; omega

/-- The first difference from the top decides. -/
theorem val_lt_of_top {b : Nat} {xs ys : List Nat} (hx : Ok b xs) (k : Nat) (hkx : k < xs.length) (hky : k < ys.length) (hd : xs.drop (k + 1) = ys.drop (k + 1))
    (h : xs.getD k 0 < ys.getD k 0) : val b xs < val b ys := by
  have s1 := val_split b xs k (by omega)
  have s2 := val_split b ys k (by omega)
  have d1 : xs.drop k = xs.getD k 0 :: xs.drop (k + 1) := by
    rw [List.drop_eq_getElem_cons hkx, List.getD_eq_getElem?_getD, List.getElem?_eq_getElem hkx]; rfl
  have d2 : ys.drop k = ys.getD k 0 :: ys.drop (k + 1) := by
    rw [List.drop_eq_getElem_cons hky, List.getD_eq_getElem?_getD, List.getElem?_eq_getElem hky]; rfl
  rw [d1, val_cons] at s1
  rw [d2, val_cons, ← hd] at s2
  have l1 := val_lt (hx.take k)
  rw [List.length_take, Nat.min_eq_left (by omega)] at l1
  rw [s1, s2, Nat.mul_add, Nat.mul_add]
  have : b ^ k * (xs.getD k 0 + 1) ≤ b ^ k * ys.getD k 0 := Nat.mul_le_mul_left _ h
  rw [Nat.mul_add] at this
  omega

/-- What is cut off at the top are zeros: the number stays. -/
theorem val_cut {b : Nat} {xs : List Nat} (k : Nat) (hk : k ≤ xs.length) (h : ∀ i, k ≤ i → i < xs.length → xs.getD i 0 = 0) : val b (xs.take k) = val b xs := by
  have s := val_split b xs k hk
  have : xs.drop k = List.replicate (xs.length - k) 0 := by
    apply List.ext_getElem
    · simp
    · intro i h1 h2
      simp only [List.length_drop] at h1
      have := h (k + i) (by omega) (by omega)
      rw [List.getD_eq_getElem?_getD, List.getElem?_eq_getElem (by omega)] at this
      simpa using this
  rw [this, val_zeros] at s
  omega

/-- b to the power of k and one more. -/
theorem pow_up (b k : Nat) : b ^ (k + 1) = b ^ k * b := Nat.pow_succ ..

theorem val_take_succ (b : Nat) (xs : List Nat) (k : Nat) (hk : k < xs.length) : val b (xs.take (k + 1)) = val b (xs.take k) + b ^ k * xs.getD k 0 := by
  have e : xs.take (k + 1) = xs.take k ++ [xs.getD k 0] := by
    rw [List.take_succ_eq_append_getElem hk, List.getD_eq_getElem?_getD, List.getElem?_eq_getElem hk]; rfl
  rw [e, val_snoc, List.length_take, Nat.min_eq_left (by omega)]

theorem val_drop_pred (b : Nat) (xs : List Nat) (k : Nat) (hk : k < xs.length) : val b (xs.drop k) = xs.getD k 0 + b * val b (xs.drop (k + 1)) := by
  rw [List.drop_eq_getElem_cons hk, val_cons, List.getD_eq_getElem?_getD, List.getElem?_eq_getElem hk]; rfl

/-- One step of an addition: v the number of the digits so far, c the carry, d the digit that lies there, y what is added. -/
theorem add_step (b P v v' c d y t : Nat) (ht : t = c + d + y) (hs : v' + P * d = v + P * (t % b)) : v' + P * b * (t / b) = v + P * (c + y) := by
  have h := Nat.div_add_mod t b
  have h2 : P * b * (t / b) + P * (t % b) = P * t := by
    rw [Nat.mul_assoc, ← Nat.mul_add, h]
  subst ht
  rw [Nat.mul_add, Nat.mul_add] at h2
  rw [Nat.mul_add]
  omega

/-- One step of a subtraction: q the borrow so far, d the digit that lies there, y what is taken away, r the new digit, q' the new borrow. -/
theorem sub_step (b P v v' q d y r q' : Nat) (hr : r + y + q = d + b * q') (hs : v' + P * d = v + P * r) (w u : Nat) (hv : v + w = u + P * q) : v' + (w + P * y) = u + P * b * q' := by
  have h : P * r + P * y + P * q = P * d + P * b * q' := by
    rw [Nat.mul_assoc, ← Nat.mul_add, ← Nat.mul_add, hr, Nat.mul_add]
  omega

end Lm
