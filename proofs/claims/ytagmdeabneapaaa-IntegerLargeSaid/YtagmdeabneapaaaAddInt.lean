/- What Add, Sub, Mul, Cmp, Sign, Abs, Make of package integer do. -/
import Derived.Test.YtagmdeabneapaaaProd
import Derived.Test.YtagmdeabneapaaaCompare
namespace Go.Proofs.Ytagmdeabneapaaa
open Go.RowKit

/-- A struct of two cells lies at h. -/
def Two (w : World) (h : Nat) (a b : Value) : Prop := w.cell? ⟨h, 0, none⟩ = some a ∧ w.cell? ⟨h, 1, none⟩ = some b
/-- A result's variable lies at r, empty. -/
def Res (w : World) (r : Nat) : Prop := Two w r (.bool false) (.slice none 0 0) ∧ w.frozen? ⟨r, 0, none⟩ = false ∧ w.frozen? ⟨r, 1, none⟩ = false

theorem Two.step {W0 W w1 : World} {h : Nat} {a b : Value} (t : Two W0 h a b) (hb : Below W.heap.size W w1) (hh : W.heap = W0.heap) (hl : h < W0.heap.size) : Two w1 h a b := by
  have e : ∀ p, W.cell? p = W0.cell? p := fun p => by simp [World.cell?, hh]
  have hl' : h < W.heap.size := by rw [hh]; exact hl
  exact ⟨((hb.cell (p := ⟨h, 0, none⟩) hl').trans (e _)).trans t.1, ((hb.cell (p := ⟨h, 1, none⟩) hl').trans (e _)).trans t.2⟩
theorem Two.far {w : World} {h r : Nat} {a b : Value} (t : Two w h a b) (hne : r ≠ h) (u v : Value) : Two ((w.setCell ⟨r, 0, none⟩ u).setCell ⟨r, 1, none⟩ v) h a b :=
  ⟨(World.cell?_setCell_other _ _ _ _ (fun e => hne (by injection e))).trans ((World.cell?_setCell_other _ _ _ _ (fun e => hne (by injection e))).trans t.1),
    (World.cell?_setCell_other _ _ _ _ (fun e => hne (by injection e))).trans ((World.cell?_setCell_other _ _ _ _ (fun e => hne (by injection e))).trans t.2)⟩
theorem Res.step {W0 W w1 : World} {r : Nat} (t : Res W0 r) (hb : Below W.heap.size W w1) (hh : W.heap = W0.heap) (hl : r < W0.heap.size) : Res w1 r := by
  have e : ∀ p, W.frozen? p = W0.frozen? p := fun p => by simp [World.frozen?, hh]
  have hl' : r < W.heap.size := by rw [hh]; exact hl
  exact ⟨t.1.step hb hh hl, ((hb.frozen (p := ⟨r, 0, none⟩) hl').trans (e _)).trans t.2.1, ((hb.frozen (p := ⟨r, 1, none⟩) hl').trans (e _)).trans t.2.2⟩
theorem Two.new (w : World) (a b : Value) (t : TypeId) : Two (w.alloc (.cells #[a, b] t)) w.heap.size a b := cell2 w a b t
theorem Two.alloc {w : World} {h : Nat} {a b : Value} (t : Two w h a b) (hl : h < w.heap.size) (o : Obj) : Two (w.alloc o) h a b :=
  ⟨(World.cell?_alloc_lt w o ⟨h, 0, none⟩ hl).trans t.1, (World.cell?_alloc_lt w o ⟨h, 1, none⟩ hl).trans t.2⟩
theorem Res.new (w : World) (t : TypeId) : Res (w.alloc (.cells #[.bool false, .slice none 0 0] t)) w.heap.size := by
  refine ⟨cell2 w _ _ t, ?_, ?_⟩ <;> go_simp
theorem size_alloc (w : World) (o : Obj) : (w.alloc o).heap.size = w.heap.size + 1 := by simp

theorem res_stored {w w2 : World} {r : Nat} {s : Bool} {A : Option Addr} {c : Nat} {zs : List Nat} {z : Int} (hk : Res w2 r) (hs : SignOf s z) (hl : Limbs w2 A c zs z.natAbs)
    (hb : Below w.heap.size w w2) (hr : w.heap.size ≤ r) :
    IsInt w ((w2.setCell ⟨r, 0, none⟩ (.bool s)).setCell ⟨r, 1, none⟩ (.slice A zs.length c)) z (.returned (.agg #[.bool s, .slice A zs.length c])) :=
  int_stored (h := r) (r := r) ⟨hk.1.1, hk.1.2, hk.1.1, hk.1.2, hk.2.1, hk.2.2⟩ hs hl hb hr

/-- The world in which a method of two integers begins its work: both boxed, the result's variable empty. -/
def begun2 (w : World) (a b c d : Value) (t : TypeId) : World := ((w.alloc (.cells #[a, b] t)).alloc (.cells #[c, d] t)).alloc (.cells #[.bool false, .slice none 0 0] t)
theorem begun2_size (w : World) (a b c d : Value) (t : TypeId) : (begun2 w a b c d t).heap.size = w.heap.size + 3 := by simp [begun2]
theorem begun2_below (w : World) (a b c d : Value) (t : TypeId) : Below w.heap.size w (begun2 w a b c d t) :=
  (((Below.refl _ _).alloc (Nat.le_refl _) _).alloc (by simp) _).alloc (by simp; omega) _
theorem begun2_x (w : World) (a b c d : Value) (t : TypeId) : Two (begun2 w a b c d t) w.heap.size a b := ((Two.new w a b t).alloc (by simp) _).alloc (by simp; omega) _
theorem begun2_y (w : World) (a b c d : Value) (t : TypeId) : Two (begun2 w a b c d t) (w.heap.size + 1) c d := by
  have h := (Two.new (w.alloc (.cells #[a, b] t)) c d t).alloc (by simp) (.cells #[.bool false, .slice none 0 0] t)
  rw [size_alloc] at h
  exact h
theorem begun2_r (w : World) (a b c d : Value) (t : TypeId) : Res (begun2 w a b c d t) (w.heap.size + 2) := by
  have h := Res.new ((w.alloc (.cells #[a, b] t)).alloc (.cells #[c, d] t)) t
  rw [size_alloc, size_alloc] at h
  exact h

theorem add_len {w : World} {A : Option Addr} {c : Nat} {zs xs ys : List Nat} (h : Limbs w A c zs (Lm.val B32 xs + Lm.val B32 ys)) (ox : Lm.Ok B32 xs) (oy : Lm.Ok B32 ys) (hl1 : xs.length ≤ 900000) (hl2 : ys.length ≤ 900000) : zs.length ≤ 1000000 := by
  rcases Nat.le_total ys.length xs.length with hle | hle
  · have := h.len (sum_fits ox oy hle)
    omega
  · have := h.len (m := ys.length + 1) (by rw [Nat.add_comm]; exact sum_fits oy ox hle)
    omega

theorem add_same {x y : Int} {b : Bool} (hx : SignOf b x) (hy : SignOf b y) : ofSign b (x.natAbs + y.natAbs) = x + y := by
  unfold SignOf at hx hy
  unfold ofSign
  by_cases h : x < 0 <;> by_cases h' : y < 0 <;> simp [h, h'] at hx hy <;> subst hx <;> simp_all <;> omega

theorem begun_then {w W0 W w' : World} (h1 : Below w.heap.size w W0) (h2 : Below W.heap.size W w') (hh : W.heap = W0.heap) (ho : W.os = W0.os) (ht : W.tape = W0.tape) (hu : W.output = W0.output) : Below w.heap.size w w' :=
  below_then ⟨ho.trans h1.os, ht.trans h1.tape, hu.trans h1.output, by rw [hh]; exact h1.size, fun k hk => by rw [hh]; exact h1.block k hk⟩ h2

theorem ord_nonneg {a b : Nat} (h : b ≤ a) : 0 ≤ ordOf a b := by
  unfold ordOf
  rw [if_neg (by omega)]
  split <;> omega
theorem compare_ge (A : Option Addr) (c : Nat) (xs : List Nat) (A' : Option Addr) (c' : Nat) (ys : List Nat) (w : World) (hx : Nums w .u32 A xs) (hy : Nums w .u32 A' ys)
    (ox : Lm.Ok B32 xs) (oy : Lm.Ok B32 ys) (tx : Lm.Top xs) (ty : Lm.Top ys) (hl : xs.length ≤ 1000000) (h : Lm.val B32 ys ≤ Lm.val B32 xs) :
    Calls Try.prog 84 #[.slice A xs.length c, .slice A' ys.length c'] w fun e w' => Drew w w' ∧ ∃ k : Int, 0 ≤ k ∧ e = .returned (.int .i64 k) :=
  (compare_any A c xs A' c' ys w hx hy ox oy tx ty hl).mono fun _ _ ⟨hd, he⟩ => ⟨hd, _, ord_nonneg h, he⟩
theorem compare_lt (A : Option Addr) (c : Nat) (xs : List Nat) (A' : Option Addr) (c' : Nat) (ys : List Nat) (w : World) (hx : Nums w .u32 A xs) (hy : Nums w .u32 A' ys)
    (ox : Lm.Ok B32 xs) (oy : Lm.Ok B32 ys) (tx : Lm.Top xs) (ty : Lm.Top ys) (hl : xs.length ≤ 1000000) (h : Lm.val B32 xs < Lm.val B32 ys) :
    Calls Try.prog 84 #[.slice A xs.length c, .slice A' ys.length c'] w fun e w' => Drew w w' ∧ e = .returned (.int .i64 (-1)) :=
  (compare_any A c xs A' c' ys w hx hy ox oy tx ty hl).mono fun _ _ ⟨hd, he⟩ => ⟨hd, by rw [he, ord_lt h]⟩

theorem add_parts {x y : Int} {b1 b2 : Bool} (hx : SignOf b1 x) (hy : SignOf b2 y) (hne : (b1 == b2) = false) (h : y.natAbs ≤ x.natAbs) : ofSign b1 (x.natAbs - y.natAbs) = x + y := by
  unfold SignOf at hx hy
  unfold ofSign
  by_cases h1 : x < 0 <;> by_cases h2 : y < 0 <;> simp [h1, h2] at hx hy <;> subst hx <;> subst hy <;> simp_all <;> omega

theorem Limbs.shorter {w : World} {A A' : Option Addr} {c c' n n' : Nat} {zs zs' : List Nat} (h : Limbs w A c zs n) (h' : Limbs w A' c' zs' n') (hle : n' ≤ n) : zs'.length ≤ zs.length :=
  Lm.len_of_val B32_one h.2.2.1 h'.2.2.2.1 (by rw [h.2.2.2.2, h'.2.2.2.2]; exact hle)
theorem sub_len {w : World} {A : Option Addr} {c : Nat} {zs xs : List Nat} {m : Nat} (h : Limbs w A c zs (Lm.val B32 xs - m)) (ox : Lm.Ok B32 xs) (hl1 : xs.length ≤ 900000) : zs.length ≤ 1000000 := by
  have := h.len (m := xs.length) (Nat.lt_of_le_of_lt (Nat.sub_le _ _) (Lm.val_lt ox))
  omega

set_option maxRecDepth 100000 in
set_option maxHeartbeats 2000000 in
theorem add_alike (b : Bool) (A1 : Option Addr) (c1 : Nat) (zs1 : List Nat) (A2 : Option Addr) (c2 : Nat) (zs2 : List Nat) (x y : Int) (w : World) (hs1 : SignOf b x) (hs2 : SignOf b y)
    (h1 : Limbs w A1 c1 zs1 x.natAbs) (h2 : Limbs w A2 c2 zs2 y.natAbs) (hl1 : zs1.length ≤ 900000) (hl2 : zs2.length ≤ 900000) :
    Calls Try.prog 38 #[.agg #[.bool b, .slice A1 zs1.length c1], .agg #[.bool b, .slice A2 zs2.length c2]] w fun e w' => IsInt w w' (x + y) e := by
  have hbb := begun2_below w (.bool b) (.slice A1 zs1.length c1) (.bool b) (.slice A2 zs2.length c2) 28
  have hx0 := begun2_x w (.bool b) (.slice A1 zs1.length c1) (.bool b) (.slice A2 zs2.length c2) 28
  have hy0 := begun2_y w (.bool b) (.slice A1 zs1.length c1) (.bool b) (.slice A2 zs2.length c2) 28
  have hr0 := begun2_r w (.bool b) (.slice A1 zs1.length c1) (.bool b) (.slice A2 zs2.length c2) 28
  have hsz := begun2_size w (.bool b) (.slice A1 zs1.length c1) (.bool b) (.slice A2 zs2.length c2) 28
  have hn1 := h1.2.1.below hbb
  have hn2 := h2.2.1.below hbb
  have H := Lib.hid (And.intro hbb (And.intro hx0 (And.intro hy0 (And.intro hr0 hsz))))
  clear hbb hx0 hy0 hr0 hsz
  go_enter Try.func38, Try.ntmps38
  go_wp2_with fail
  go_region_held3 (fun w' => w'.cell? ⟨w.heap.size, 0, none⟩ = some (.bool b) ∧ w'.cell? ⟨w.heap.size, 1, none⟩ = some (.slice A1 zs1.length c1) ∧ w'.cell? ⟨w.heap.size + 1, 0, none⟩ = some (.bool b) ∧ w'.cell? ⟨w.heap.size + 1, 1, none⟩ = some (.slice A2 zs2.length c2))
    (((try dsimp only); (repeat' apply And.intro) <;> (first | (with_reducible assumption) | go_keep)))
    ((first | (go_at_call 86; refine (sum_any A1 c1 zs1 A2 c2 zs2 _ (by exact hn1) (by exact hn2) h1.2.2.1 h2.2.2.1 hl1 hl2).mono ?_; rintro e w1 ⟨A3, c3, zs3, rfl, hl3, hb1⟩; have k1x := H.out.2.1.step hb1 rfl (by rw [H.out.2.2.2.2]; omega); have k1y := H.out.2.2.1.step hb1 rfl (by rw [H.out.2.2.2.2]; omega); have k1r := H.out.2.2.2.1.step hb1 rfl (by rw [H.out.2.2.2.2]; omega); obtain ⟨px0, px1⟩ := id k1x; obtain ⟨py0, py1⟩ := id k1y; have hle3 := add_len hl3 h1.2.2.1 h2.2.2.1 hl1 hl2; have hs1' : w.heap.size + 3 ≤ w1.heap.size := Nat.le_trans (Nat.le_of_eq H.out.2.2.2.2.symm) hb1.size) | (go_at_call 70; refine (signed_to b A3 c3 zs3 (x + y) _ (by exact hl3.2.1) hl3.2.2.1 hle3 hl3.1 (by rw [hl3.2.2.2.2, h1.2.2.2.2, h2.2.2.2.2]; exact add_same hs1 hs2)).mono ?_; rintro e w2 ⟨v2, rfl, ⟨b4, A4, c4, zs4, rfl, hsg4, hl4⟩, hb2⟩; have k2x := k1x.step hb2 rfl (by omega); have k2y := k1y.step hb2 rfl (by omega); have k2r := k1r.step hb2 rfl (by omega); obtain ⟨hx0, hx1⟩ := id k2x; obtain ⟨hy0, hy1⟩ := id k2y; obtain ⟨⟨hr0, hr1⟩, hf0, hf1⟩ := id k2r; obtain ⟨qx0, qx1⟩ := k2x.far (r := w.heap.size + 1 + 1) (by omega) (.bool b4) (.slice A4 zs4.length c4); obtain ⟨qy0, qy1⟩ := k2y.far (r := w.heap.size + 1 + 1) (by omega) (.bool b4) (.slice A4 zs4.length c4))))
  go_wp2
  refine bodyPost_ret (v := .agg #[.bool b4, .slice A4 zs4.length c4]) (by simp [results, Try.results38, go_sem, hr0, hr1]) rfl ?_
  exact res_stored k2r hsg4 hl4 (below_then (below_then H.out.1.drew hb1) hb2) (by omega)
set_option maxRecDepth 100000 in
set_option maxHeartbeats 2000000 in
theorem add_ge (b1 b2 : Bool) (A1 : Option Addr) (c1 : Nat) (zs1 : List Nat) (A2 : Option Addr) (c2 : Nat) (zs2 : List Nat) (x y : Int) (w : World) (hs1 : SignOf b1 x) (hs2 : SignOf b2 y) (hne : (b1 == b2) = false) (hge : y.natAbs ≤ x.natAbs)
    (h1 : Limbs w A1 c1 zs1 x.natAbs) (h2 : Limbs w A2 c2 zs2 y.natAbs) (hl1 : zs1.length ≤ 900000) (_hl2 : zs2.length ≤ 900000) :
    Calls Try.prog 38 #[.agg #[.bool b1, .slice A1 zs1.length c1], .agg #[.bool b2, .slice A2 zs2.length c2]] w fun e w' => IsInt w w' (x + y) e := by
  have hbb := begun2_below w (.bool b1) (.slice A1 zs1.length c1) (.bool b2) (.slice A2 zs2.length c2) 28
  have hx0 := begun2_x w (.bool b1) (.slice A1 zs1.length c1) (.bool b2) (.slice A2 zs2.length c2) 28
  have hy0 := begun2_y w (.bool b1) (.slice A1 zs1.length c1) (.bool b2) (.slice A2 zs2.length c2) 28
  have hr0 := begun2_r w (.bool b1) (.slice A1 zs1.length c1) (.bool b2) (.slice A2 zs2.length c2) 28
  have hsz := begun2_size w (.bool b1) (.slice A1 zs1.length c1) (.bool b2) (.slice A2 zs2.length c2) 28
  have hn1 := h1.2.1.below hbb
  have hn2 := h2.2.1.below hbb
  have H := Lib.hid (And.intro hbb (And.intro hx0 (And.intro hy0 (And.intro hr0 hsz))))
  clear hbb hx0 hy0 hr0 hsz
  go_enter Try.func38, Try.ntmps38
  go_wp2_with fail
  refine (compare_ge A1 c1 zs1 A2 c2 zs2 _ (by exact hn1) (by exact hn2) h1.2.2.1 h2.2.2.1 h1.2.2.2.1 h2.2.2.2.1 (by omega) (by rw [h1.2.2.2.2, h2.2.2.2.2]; exact hge)).mono ?_
  rintro e w' ⟨⟨n, rfl⟩, k, hk, rfl⟩
  go_wp2_with fail
  go_region_held3 (fun w' => w'.cell? ⟨w.heap.size, 0, none⟩ = some (.bool b1) ∧ w'.cell? ⟨w.heap.size, 1, none⟩ = some (.slice A1 zs1.length c1) ∧ w'.cell? ⟨w.heap.size + 1, 0, none⟩ = some (.bool b2) ∧ w'.cell? ⟨w.heap.size + 1, 1, none⟩ = some (.slice A2 zs2.length c2))
    (((try dsimp only); (repeat' apply And.intro) <;> (first | (with_reducible assumption) | go_keep)))
    ((first | (go_at_call 87; refine (difference_any A1 c1 zs1 A2 c2 zs2 _ (by exact hn1) (by exact hn2) h1.2.2.1 h2.2.2.1 hl1 (h1.shorter h2 hge) (by rw [h1.2.2.2.2, h2.2.2.2.2]; exact hge)).mono ?_; rintro e w1 ⟨A3, c3, zs3, rfl, hl3, hb1⟩; have k1x := H.out.2.1.step hb1 rfl (by rw [H.out.2.2.2.2]; omega); have k1y := H.out.2.2.1.step hb1 rfl (by rw [H.out.2.2.2.2]; omega); have k1r := H.out.2.2.2.1.step hb1 rfl (by rw [H.out.2.2.2.2]; omega); obtain ⟨px0, px1⟩ := id k1x; obtain ⟨py0, py1⟩ := id k1y; have hle3 := sub_len hl3 h1.2.2.1 hl1; have hs1' : w.heap.size + 3 ≤ w1.heap.size := Nat.le_trans (Nat.le_of_eq H.out.2.2.2.2.symm) hb1.size) | (go_at_call 70; refine (signed_to b1 A3 c3 zs3 (x + y) _ (by exact hl3.2.1) hl3.2.2.1 hle3 hl3.1 (by rw [hl3.2.2.2.2, h1.2.2.2.2, h2.2.2.2.2]; exact add_parts hs1 hs2 hne hge)).mono ?_; rintro e w2 ⟨v2, rfl, ⟨b4, A4, c4, zs4, rfl, hsg4, hl4⟩, hb2⟩; have k2x := k1x.step hb2 rfl (by omega); have k2y := k1y.step hb2 rfl (by omega); have k2r := k1r.step hb2 rfl (by omega); obtain ⟨hx0, hx1⟩ := id k2x; obtain ⟨hy0, hy1⟩ := id k2y; obtain ⟨⟨hr0, hr1⟩, hf0, hf1⟩ := id k2r; obtain ⟨qx0, qx1⟩ := k2x.far (r := w.heap.size + 1 + 1) (by omega) (.bool b4) (.slice A4 zs4.length c4); obtain ⟨qy0, qy1⟩ := k2y.far (r := w.heap.size + 1 + 1) (by omega) (.bool b4) (.slice A4 zs4.length c4))))
  go_wp2
  refine bodyPost_ret (v := .agg #[.bool b4, .slice A4 zs4.length c4]) (by simp [results, Try.results38, go_sem, hr0, hr1]) rfl ?_
  exact res_stored k2r hsg4 hl4 (below_then (begun_then H.out.1 hb1 rfl rfl rfl rfl) hb2) (by omega)
set_option maxRecDepth 100000 in
set_option maxHeartbeats 2000000 in
theorem add_lt (b1 b2 : Bool) (A1 : Option Addr) (c1 : Nat) (zs1 : List Nat) (A2 : Option Addr) (c2 : Nat) (zs2 : List Nat) (x y : Int) (w : World) (hs1 : SignOf b1 x) (hs2 : SignOf b2 y) (hne : (b1 == b2) = false) (hlt : x.natAbs < y.natAbs)
    (h1 : Limbs w A1 c1 zs1 x.natAbs) (h2 : Limbs w A2 c2 zs2 y.natAbs) (hl1 : zs1.length ≤ 900000) (hl2 : zs2.length ≤ 900000) :
    Calls Try.prog 38 #[.agg #[.bool b1, .slice A1 zs1.length c1], .agg #[.bool b2, .slice A2 zs2.length c2]] w fun e w' => IsInt w w' (x + y) e := by
  have hbb := begun2_below w (.bool b1) (.slice A1 zs1.length c1) (.bool b2) (.slice A2 zs2.length c2) 28
  have hx0 := begun2_x w (.bool b1) (.slice A1 zs1.length c1) (.bool b2) (.slice A2 zs2.length c2) 28
  have hy0 := begun2_y w (.bool b1) (.slice A1 zs1.length c1) (.bool b2) (.slice A2 zs2.length c2) 28
  have hr0 := begun2_r w (.bool b1) (.slice A1 zs1.length c1) (.bool b2) (.slice A2 zs2.length c2) 28
  have hsz := begun2_size w (.bool b1) (.slice A1 zs1.length c1) (.bool b2) (.slice A2 zs2.length c2) 28
  have hn1 := h1.2.1.below hbb
  have hn2 := h2.2.1.below hbb
  have H := Lib.hid (And.intro hbb (And.intro hx0 (And.intro hy0 (And.intro hr0 hsz))))
  clear hbb hx0 hy0 hr0 hsz
  go_enter Try.func38, Try.ntmps38
  go_wp2_with fail
  refine (compare_lt A1 c1 zs1 A2 c2 zs2 _ (by exact hn1) (by exact hn2) h1.2.2.1 h2.2.2.1 h1.2.2.2.1 h2.2.2.2.1 (by omega) (by rw [h1.2.2.2.2, h2.2.2.2.2]; exact hlt)).mono ?_
  rintro e w' ⟨⟨n, rfl⟩, rfl⟩
  go_wp2_with fail
  go_region_held3 (fun w' => w'.cell? ⟨w.heap.size, 0, none⟩ = some (.bool b1) ∧ w'.cell? ⟨w.heap.size, 1, none⟩ = some (.slice A1 zs1.length c1) ∧ w'.cell? ⟨w.heap.size + 1, 0, none⟩ = some (.bool b2) ∧ w'.cell? ⟨w.heap.size + 1, 1, none⟩ = some (.slice A2 zs2.length c2))
    (((try dsimp only); (repeat' apply And.intro) <;> (first | (with_reducible assumption) | go_keep)))
    ((first | (go_at_call 87; refine (difference_any A2 c2 zs2 A1 c1 zs1 _ (by exact hn2) (by exact hn1) h2.2.2.1 h1.2.2.1 hl2 (h2.shorter h1 (Nat.le_of_lt hlt)) (by rw [h1.2.2.2.2, h2.2.2.2.2]; exact Nat.le_of_lt hlt)).mono ?_; rintro e w1 ⟨A3, c3, zs3, rfl, hl3, hb1⟩; have k1x := H.out.2.1.step hb1 rfl (by rw [H.out.2.2.2.2]; omega); have k1y := H.out.2.2.1.step hb1 rfl (by rw [H.out.2.2.2.2]; omega); have k1r := H.out.2.2.2.1.step hb1 rfl (by rw [H.out.2.2.2.2]; omega); obtain ⟨px0, px1⟩ := id k1x; obtain ⟨py0, py1⟩ := id k1y; have hle3 := sub_len hl3 h2.2.2.1 hl2; have hs1' : w.heap.size + 3 ≤ w1.heap.size := Nat.le_trans (Nat.le_of_eq H.out.2.2.2.2.symm) hb1.size) | (go_at_call 70; refine (signed_to b2 A3 c3 zs3 (x + y) _ (by exact hl3.2.1) hl3.2.2.1 hle3 hl3.1 (by rw [hl3.2.2.2.2, h1.2.2.2.2, h2.2.2.2.2]; rw [Int.add_comm]; exact add_parts hs2 hs1 (by rw [← hne]; cases b1 <;> cases b2 <;> rfl) (Nat.le_of_lt hlt))).mono ?_; rintro e w2 ⟨v2, rfl, ⟨b4, A4, c4, zs4, rfl, hsg4, hl4⟩, hb2⟩; have k2x := k1x.step hb2 rfl (by omega); have k2y := k1y.step hb2 rfl (by omega); have k2r := k1r.step hb2 rfl (by omega); obtain ⟨hx0, hx1⟩ := id k2x; obtain ⟨hy0, hy1⟩ := id k2y; obtain ⟨⟨hr0, hr1⟩, hf0, hf1⟩ := id k2r; obtain ⟨qx0, qx1⟩ := k2x.far (r := w.heap.size + 1 + 1) (by omega) (.bool b4) (.slice A4 zs4.length c4); obtain ⟨qy0, qy1⟩ := k2y.far (r := w.heap.size + 1 + 1) (by omega) (.bool b4) (.slice A4 zs4.length c4))))
  go_wp2
  refine bodyPost_ret (v := .agg #[.bool b4, .slice A4 zs4.length c4]) (by simp [results, Try.results38, go_sem, hr0, hr1]) rfl ?_
  exact res_stored k2r hsg4 hl4 (below_then (begun_then H.out.1 hb1 rfl rfl rfl rfl) hb2) (by omega)
/-- x + y, whatever their signs. -/
theorem Add_any (v1 v2 : Value) (x y : Int) (m : Nat) (w : World) (h1 : IntAt w v1 x) (h2 : IntAt w v2 y) (hm : m ≤ 900000) (hx : x.natAbs < B32 ^ m) (hy : y.natAbs < B32 ^ m) :
    Calls Try.prog 38 #[v1, v2] w fun e w' => IsInt w w' (x + y) e := by
  obtain ⟨b1, A1, c1, zs1, rfl, hs1, hl1⟩ := h1
  obtain ⟨b2, A2, c2, zs2, rfl, hs2, hl2⟩ := h2
  have k1 := Nat.le_trans (hl1.len hx) hm
  have k2 := Nat.le_trans (hl2.len hy) hm
  rcases hb : (b1 == b2) with _ | _
  · rcases Nat.lt_or_ge x.natAbs y.natAbs with h | h
    · exact add_lt b1 b2 A1 c1 zs1 A2 c2 zs2 x y w hs1 hs2 hb h hl1 hl2 k1 k2
    · exact add_ge b1 b2 A1 c1 zs1 A2 c2 zs2 x y w hs1 hs2 hb h hl1 hl2 k1 k2
  · have e : b1 = b2 := by simpa using hb
    subst e
    exact add_alike b1 A1 c1 zs1 A2 c2 zs2 x y w hs1 hs2 hl1 hl2 k1 k2
end Go.Proofs.Ytagmdeabneapaaa
