/- Joined texts: AddInt, MulInt, SubInt, CmpInt, New. -/
import Derived.Test.YtllkajlmfbikhaaDoorBaseA
namespace Go.Proofs.YtllkajlmfbikhaaDoor
open Go.RowKit
set_option linter.unusedSimpArgs false

/-- A struct of two cells lies at h. -/
def Two (w : World) (h : Nat) (a b : Value) : Prop := w.cell? ⟨h, 0, none⟩ = some a ∧ w.cell? ⟨h, 1, none⟩ = some b
/-- A result's variable lies at r, empty. -/
def Res (w : World) (r : Nat) : Prop := Two w r (.bool false) (.slice none 0 0) ∧ w.frozen? ⟨r, 0, none⟩ = false ∧ w.frozen? ⟨r, 1, none⟩ = false

theorem Two.step {W0 W w1 : World} {h : Nat} {a b : Value} (t : Two W0 h a b) (hb : Below W.heap.size W w1) (hh : W.heap = W0.heap) (hl : h < W0.heap.size) : Two w1 h a b := by
  have e : ∀ p, W.cell? p = W0.cell? p := fun p => by simp [World.cell?, hh]
  have hl' : h < W.heap.size := by rw [hh]; exact hl
  exact ⟨((hb.cell (p := ⟨h, 0, none⟩) hl').trans (e _)).trans t.1, ((hb.cell (p := ⟨h, 1, none⟩) hl').trans (e _)).trans t.2⟩
theorem Two.far {w : World} {h r : Nat} {a b : Value} (t : Two w h a b) (hne : r ≠ h) (u v : Value) : Two ((w.setCell ⟨r, 0, none⟩ u).setCell ⟨r, 1, none⟩ v) h a b :=
  ⟨(World.cell?_setCell_other _ _ _ _ (fun e => hne (by injection e))).trans ((World.cell?_setCell_other _ _ _ _ (fun e => hne (by injection e))).trans t.1),
    (World.cell?_setCell_other _ _ _ _ (fun e => hne (by injection e))).trans ((World.cell?_setCell_other _ _ _ _ (fun e => hne (by injection e))).trans t.2)⟩
theorem Res.step {W0 W w1 : World} {r : Nat} (t : Res W0 r) (hb : Below W.heap.size W w1) (hh : W.heap = W0.heap) (hl : r < W0.heap.size) : Res w1 r := by
  have e : ∀ p, W.frozen? p = W0.frozen? p := fun p => by simp [World.frozen?, hh]
  have hl' : r < W.heap.size := by rw [hh]; exact hl
  exact ⟨t.1.step hb hh hl, ((hb.frozen (p := ⟨r, 0, none⟩) hl').trans (e _)).trans t.2.1, ((hb.frozen (p := ⟨r, 1, none⟩) hl').trans (e _)).trans t.2.2⟩
theorem Two.new (w : World) (a b : Value) (t : TypeId) : Two (w.alloc (.cells #[a, b] t)) w.heap.size a b := cell2 w a b t
theorem Two.alloc {w : World} {h : Nat} {a b : Value} (t : Two w h a b) (hl : h < w.heap.size) (o : Obj) : Two (w.alloc o) h a b :=
  ⟨(World.cell?_alloc_lt w o ⟨h, 0, none⟩ hl).trans t.1, (World.cell?_alloc_lt w o ⟨h, 1, none⟩ hl).trans t.2⟩
theorem Res.new (w : World) (t : TypeId) : Res (w.alloc (.cells #[.bool false, .slice none 0 0] t)) w.heap.size := by
  refine ⟨cell2 w _ _ t, ?_, ?_⟩ <;> go_simp
theorem size_alloc (w : World) (o : Obj) : (w.alloc o).heap.size = w.heap.size + 1 := by simp

theorem res_stored {w w2 : World} {r : Nat} {s : Bool} {A : Option Addr} {c : Nat} {zs : List Nat} {z : Int} (hk : Res w2 r) (hs : SignOf s z) (hl : Limbs w2 A c zs z.natAbs)
    (hb : Below w.heap.size w w2) (hr : w.heap.size ≤ r) :
    IsInt w ((w2.setCell ⟨r, 0, none⟩ (.bool s)).setCell ⟨r, 1, none⟩ (.slice A zs.length c)) z (.returned (.agg #[.bool s, .slice A zs.length c])) :=
  int_stored (h := r) (r := r) ⟨hk.1.1, hk.1.2, hk.1.1, hk.1.2, hk.2.1, hk.2.2⟩ hs hl hb hr

/-- The world in which a method of two integers begins its work: both boxed, the result's variable empty. -/
def begun2 (w : World) (a b c d : Value) (t : TypeId) : World := ((w.alloc (.cells #[a, b] t)).alloc (.cells #[c, d] t)).alloc (.cells #[.bool false, .slice none 0 0] t)
theorem begun2_size (w : World) (a b c d : Value) (t : TypeId) : (begun2 w a b c d t).heap.size = w.heap.size + 3 := by simp [begun2]
theorem begun2_below (w : World) (a b c d : Value) (t : TypeId) : Below w.heap.size w (begun2 w a b c d t) :=
  (((Below.refl _ _).alloc (Nat.le_refl _) _).alloc (by simp) _).alloc (by simp; omega) _
theorem begun2_x (w : World) (a b c d : Value) (t : TypeId) : Two (begun2 w a b c d t) w.heap.size a b := ((Two.new w a b t).alloc (by simp) _).alloc (by simp; omega) _
theorem begun2_y (w : World) (a b c d : Value) (t : TypeId) : Two (begun2 w a b c d t) (w.heap.size + 1) c d := by
  have h := (Two.new (w.alloc (.cells #[a, b] t)) c d t).alloc (by simp) (.cells #[.bool false, .slice none 0 0] t)
  rw [size_alloc] at h
  exact h
theorem begun2_r (w : World) (a b c d : Value) (t : TypeId) : Res (begun2 w a b c d t) (w.heap.size + 2) := by
  have h := Res.new ((w.alloc (.cells #[a, b] t)).alloc (.cells #[c, d] t)) t
  rw [size_alloc, size_alloc] at h
  exact h

theorem add_len {w : World} {A : Option Addr} {c : Nat} {zs xs ys : List Nat} (h : Limbs w A c zs (Lm.val B32 xs + Lm.val B32 ys)) (ox : Lm.Ok B32 xs) (oy : Lm.Ok B32 ys) (hl1 : xs.length ≤ 900000) (hl2 : ys.length ≤ 900000) : zs.length ≤ 1000000 := by
  rcases Nat.le_total ys.length xs.length with hle | hle
  · have := h.len (sum_fits ox oy hle)
    omega
  · have := h.len (m := ys.length + 1) (by rw [Nat.add_comm]; exact sum_fits oy ox hle)
    omega

theorem add_same {x y : Int} {b : Bool} (hx : SignOf b x) (hy : SignOf b y) : ofSign b (x.natAbs + y.natAbs) = x + y := by
  unfold SignOf at hx hy
  unfold ofSign
  by_cases h : x < 0 <;> by_cases h' : y < 0 <;> simp [h, h'] at hx hy <;> subst hx <;> simp_all <;> omega

theorem begun_then {w W0 W w' : World} (h1 : Below w.heap.size w W0) (h2 : Below W.heap.size W w') (hh : W.heap = W0.heap) (ho : W.os = W0.os) (ht : W.tape = W0.tape) (hu : W.output = W0.output) : Below w.heap.size w w' :=
  below_then ⟨ho.trans h1.os, ht.trans h1.tape, hu.trans h1.output, by rw [hh]; exact h1.size, fun k hk => by rw [hh]; exact h1.block k hk⟩ h2

theorem ord_nonneg {a b : Nat} (h : b ≤ a) : 0 ≤ ordOf a b := by
  unfold ordOf
  rw [if_neg (by omega)]
  split <;> omega
theorem compare_ge (A : Option Addr) (c : Nat) (xs : List Nat) (A' : Option Addr) (c' : Nat) (ys : List Nat) (w : World) (hx : Nums w .u32 A xs) (hy : Nums w .u32 A' ys)
    (ox : Lm.Ok B32 xs) (oy : Lm.Ok B32 ys) (tx : Lm.Top xs) (ty : Lm.Top ys) (hl : xs.length ≤ 1000000) (h : Lm.val B32 ys ≤ Lm.val B32 xs) :
    Calls Tryd.prog 64 #[.slice A xs.length c, .slice A' ys.length c'] w fun e w' => Drew w w' ∧ ∃ k : Int, 0 ≤ k ∧ e = .returned (.int .i64 k) :=
  (compare_any A c xs A' c' ys w hx hy ox oy tx ty hl).mono fun _ _ ⟨hd, he⟩ => ⟨hd, _, ord_nonneg h, he⟩
theorem compare_lt (A : Option Addr) (c : Nat) (xs : List Nat) (A' : Option Addr) (c' : Nat) (ys : List Nat) (w : World) (hx : Nums w .u32 A xs) (hy : Nums w .u32 A' ys)
    (ox : Lm.Ok B32 xs) (oy : Lm.Ok B32 ys) (tx : Lm.Top xs) (ty : Lm.Top ys) (hl : xs.length ≤ 1000000) (h : Lm.val B32 xs < Lm.val B32 ys) :
    Calls Tryd.prog 64 #[.slice A xs.length c, .slice A' ys.length c'] w fun e w' => Drew w w' ∧ e = .returned (.int .i64 (-1)) :=
  (compare_any A c xs A' c' ys w hx hy ox oy tx ty hl).mono fun _ _ ⟨hd, he⟩ => ⟨hd, by rw [he, ord_lt h]⟩

theorem add_parts {x y : Int} {b1 b2 : Bool} (hx : SignOf b1 x) (hy : SignOf b2 y) (hne : (b1 == b2) = false) (h : y.natAbs ≤ x.natAbs) : ofSign b1 (x.natAbs - y.natAbs) = x + y := by
  unfold SignOf at hx hy
  unfold ofSign
  by_cases h1 : x < 0 <;> by_cases h2 : y < 0 <;> simp [h1, h2] at hx hy <;> subst hx <;> subst hy <;> simp_all <;> omega

theorem Limbs.shorter {w : World} {A A' : Option Addr} {c c' n n' : Nat} {zs zs' : List Nat} (h : Limbs w A c zs n) (h' : Limbs w A' c' zs' n') (hle : n' ≤ n) : zs'.length ≤ zs.length :=
  Lm.len_of_val B32_one h.2.2.1 h'.2.2.2.1 (by rw [h.2.2.2.2, h'.2.2.2.2]; exact hle)
theorem sub_len {w : World} {A : Option Addr} {c : Nat} {zs xs : List Nat} {m : Nat} (h : Limbs w A c zs (Lm.val B32 xs - m)) (ox : Lm.Ok B32 xs) (hl1 : xs.length ≤ 900000) : zs.length ≤ 1000000 := by
  have := h.len (m := xs.length) (Nat.lt_of_le_of_lt (Nat.sub_le _ _) (Lm.val_lt ox))
  omega

set_option maxRecDepth 100000 in
set_option maxHeartbeats 2000000 in
theorem add_alike (b : Bool) (A1 : Option Addr) (c1 : Nat) (zs1 : List Nat) (A2 : Option Addr) (c2 : Nat) (zs2 : List Nat) (x y : Int) (w : World) (hs1 : SignOf b x) (hs2 : SignOf b y)
    (h1 : Limbs w A1 c1 zs1 x.natAbs) (h2 : Limbs w A2 c2 zs2 y.natAbs) (hl1 : zs1.length ≤ 900000) (hl2 : zs2.length ≤ 900000) :
    Calls Tryd.prog 92 #[.agg #[.bool b, .slice A1 zs1.length c1], .agg #[.bool b, .slice A2 zs2.length c2]] w fun e w' => IsInt w w' (x + y) e := by
  have hbb := begun2_below w (.bool b) (.slice A1 zs1.length c1) (.bool b) (.slice A2 zs2.length c2) 28
  have hx0 := begun2_x w (.bool b) (.slice A1 zs1.length c1) (.bool b) (.slice A2 zs2.length c2) 28
  have hy0 := begun2_y w (.bool b) (.slice A1 zs1.length c1) (.bool b) (.slice A2 zs2.length c2) 28
  have hr0 := begun2_r w (.bool b) (.slice A1 zs1.length c1) (.bool b) (.slice A2 zs2.length c2) 28
  have hsz := begun2_size w (.bool b) (.slice A1 zs1.length c1) (.bool b) (.slice A2 zs2.length c2) 28
  have hn1 := h1.2.1.below hbb
  have hn2 := h2.2.1.below hbb
  have H := Lib.hid (And.intro hbb (And.intro hx0 (And.intro hy0 (And.intro hr0 hsz))))
  clear hbb hx0 hy0 hr0 hsz
  go_enter Tryd.func92, Tryd.ntmps92
  go_wp2_with fail
  go_region_held3 (fun w' => w'.cell? ⟨w.heap.size, 0, none⟩ = some (.bool b) ∧ w'.cell? ⟨w.heap.size, 1, none⟩ = some (.slice A1 zs1.length c1) ∧ w'.cell? ⟨w.heap.size + 1, 0, none⟩ = some (.bool b) ∧ w'.cell? ⟨w.heap.size + 1, 1, none⟩ = some (.slice A2 zs2.length c2))
    (((try dsimp only); (repeat' apply And.intro) <;> (first | (with_reducible assumption) | go_keep)))
    ((first | (go_at_call 94; refine (sum_any A1 c1 zs1 A2 c2 zs2 _ (by exact hn1) (by exact hn2) h1.2.2.1 h2.2.2.1 hl1 hl2).mono ?_; rintro e w1 ⟨A3, c3, zs3, rfl, hl3, hb1⟩; have k1x := H.out.2.1.step hb1 rfl (by rw [H.out.2.2.2.2]; omega); have k1y := H.out.2.2.1.step hb1 rfl (by rw [H.out.2.2.2.2]; omega); have k1r := H.out.2.2.2.1.step hb1 rfl (by rw [H.out.2.2.2.2]; omega); obtain ⟨px0, px1⟩ := id k1x; obtain ⟨py0, py1⟩ := id k1y; have hle3 := add_len hl3 h1.2.2.1 h2.2.2.1 hl1 hl2; have hs1' : w.heap.size + 3 ≤ w1.heap.size := Nat.le_trans (Nat.le_of_eq H.out.2.2.2.2.symm) hb1.size) | (go_at_call 27; refine (signed_to b A3 c3 zs3 (x + y) _ (by exact hl3.2.1) hl3.2.2.1 hle3 hl3.1 (by rw [hl3.2.2.2.2, h1.2.2.2.2, h2.2.2.2.2]; exact add_same hs1 hs2)).mono ?_; rintro e w2 ⟨v2, rfl, ⟨b4, A4, c4, zs4, rfl, hsg4, hl4⟩, hb2⟩; have k2x := k1x.step hb2 rfl (by omega); have k2y := k1y.step hb2 rfl (by omega); have k2r := k1r.step hb2 rfl (by omega); obtain ⟨hx0, hx1⟩ := id k2x; obtain ⟨hy0, hy1⟩ := id k2y; obtain ⟨⟨hr0, hr1⟩, hf0, hf1⟩ := id k2r; obtain ⟨qx0, qx1⟩ := k2x.far (r := w.heap.size + 1 + 1) (by omega) (.bool b4) (.slice A4 zs4.length c4); obtain ⟨qy0, qy1⟩ := k2y.far (r := w.heap.size + 1 + 1) (by omega) (.bool b4) (.slice A4 zs4.length c4))))
  go_wp2
  refine bodyPost_ret (v := .agg #[.bool b4, .slice A4 zs4.length c4]) (by simp [results, Tryd.results92, go_sem, hr0, hr1]) rfl ?_
  exact res_stored k2r hsg4 hl4 (below_then (below_then H.out.1.drew hb1) hb2) (by omega)
set_option maxRecDepth 100000 in
set_option maxHeartbeats 2000000 in
theorem add_ge (b1 b2 : Bool) (A1 : Option Addr) (c1 : Nat) (zs1 : List Nat) (A2 : Option Addr) (c2 : Nat) (zs2 : List Nat) (x y : Int) (w : World) (hs1 : SignOf b1 x) (hs2 : SignOf b2 y) (hne : (b1 == b2) = false) (hge : y.natAbs ≤ x.natAbs)
    (h1 : Limbs w A1 c1 zs1 x.natAbs) (h2 : Limbs w A2 c2 zs2 y.natAbs) (hl1 : zs1.length ≤ 900000) (_hl2 : zs2.length ≤ 900000) :
    Calls Tryd.prog 92 #[.agg #[.bool b1, .slice A1 zs1.length c1], .agg #[.bool b2, .slice A2 zs2.length c2]] w fun e w' => IsInt w w' (x + y) e := by
  have hbb := begun2_below w (.bool b1) (.slice A1 zs1.length c1) (.bool b2) (.slice A2 zs2.length c2) 28
  have hx0 := begun2_x w (.bool b1) (.slice A1 zs1.length c1) (.bool b2) (.slice A2 zs2.length c2) 28
  have hy0 := begun2_y w (.bool b1) (.slice A1 zs1.length c1) (.bool b2) (.slice A2 zs2.length c2) 28
  have hr0 := begun2_r w (.bool b1) (.slice A1 zs1.length c1) (.bool b2) (.slice A2 zs2.length c2) 28
  have hsz := begun2_size w (.bool b1) (.slice A1 zs1.length c1) (.bool b2) (.slice A2 zs2.length c2) 28
  have hn1 := h1.2.1.below hbb
  have hn2 := h2.2.1.below hbb
  have H := Lib.hid (And.intro hbb (And.intro hx0 (And.intro hy0 (And.intro hr0 hsz))))
  clear hbb hx0 hy0 hr0 hsz
  go_enter Tryd.func92, Tryd.ntmps92
  go_wp2_with fail
  refine (compare_ge A1 c1 zs1 A2 c2 zs2 _ (by exact hn1) (by exact hn2) h1.2.2.1 h2.2.2.1 h1.2.2.2.1 h2.2.2.2.1 (by omega) (by rw [h1.2.2.2.2, h2.2.2.2.2]; exact hge)).mono ?_
  rintro e w' ⟨⟨n, rfl⟩, k, hk, rfl⟩
  go_wp2_with fail
  go_region_held3 (fun w' => w'.cell? ⟨w.heap.size, 0, none⟩ = some (.bool b1) ∧ w'.cell? ⟨w.heap.size, 1, none⟩ = some (.slice A1 zs1.length c1) ∧ w'.cell? ⟨w.heap.size + 1, 0, none⟩ = some (.bool b2) ∧ w'.cell? ⟨w.heap.size + 1, 1, none⟩ = some (.slice A2 zs2.length c2))
    (((try dsimp only); (repeat' apply And.intro) <;> (first | (with_reducible assumption) | go_keep)))
    ((first | (go_at_call 85; refine (difference_any A1 c1 zs1 A2 c2 zs2 _ (by exact hn1) (by exact hn2) h1.2.2.1 h2.2.2.1 hl1 (h1.shorter h2 hge) (by rw [h1.2.2.2.2, h2.2.2.2.2]; exact hge)).mono ?_; rintro e w1 ⟨A3, c3, zs3, rfl, hl3, hb1⟩; have k1x := H.out.2.1.step hb1 rfl (by rw [H.out.2.2.2.2]; omega); have k1y := H.out.2.2.1.step hb1 rfl (by rw [H.out.2.2.2.2]; omega); have k1r := H.out.2.2.2.1.step hb1 rfl (by rw [H.out.2.2.2.2]; omega); obtain ⟨px0, px1⟩ := id k1x; obtain ⟨py0, py1⟩ := id k1y; have hle3 := sub_len hl3 h1.2.2.1 hl1; have hs1' : w.heap.size + 3 ≤ w1.heap.size := Nat.le_trans (Nat.le_of_eq H.out.2.2.2.2.symm) hb1.size) | (go_at_call 27; refine (signed_to b1 A3 c3 zs3 (x + y) _ (by exact hl3.2.1) hl3.2.2.1 hle3 hl3.1 (by rw [hl3.2.2.2.2, h1.2.2.2.2, h2.2.2.2.2]; exact add_parts hs1 hs2 hne hge)).mono ?_; rintro e w2 ⟨v2, rfl, ⟨b4, A4, c4, zs4, rfl, hsg4, hl4⟩, hb2⟩; have k2x := k1x.step hb2 rfl (by omega); have k2y := k1y.step hb2 rfl (by omega); have k2r := k1r.step hb2 rfl (by omega); obtain ⟨hx0, hx1⟩ := id k2x; obtain ⟨hy0, hy1⟩ := id k2y; obtain ⟨⟨hr0, hr1⟩, hf0, hf1⟩ := id k2r; obtain ⟨qx0, qx1⟩ := k2x.far (r := w.heap.size + 1 + 1) (by omega) (.bool b4) (.slice A4 zs4.length c4); obtain ⟨qy0, qy1⟩ := k2y.far (r := w.heap.size + 1 + 1) (by omega) (.bool b4) (.slice A4 zs4.length c4))))
  go_wp2
  refine bodyPost_ret (v := .agg #[.bool b4, .slice A4 zs4.length c4]) (by simp [results, Tryd.results92, go_sem, hr0, hr1]) rfl ?_
  exact res_stored k2r hsg4 hl4 (below_then (begun_then H.out.1 hb1 rfl rfl rfl rfl) hb2) (by omega)
set_option maxRecDepth 100000 in
set_option maxHeartbeats 2000000 in
theorem add_lt (b1 b2 : Bool) (A1 : Option Addr) (c1 : Nat) (zs1 : List Nat) (A2 : Option Addr) (c2 : Nat) (zs2 : List Nat) (x y : Int) (w : World) (hs1 : SignOf b1 x) (hs2 : SignOf b2 y) (hne : (b1 == b2) = false) (hlt : x.natAbs < y.natAbs)
    (h1 : Limbs w A1 c1 zs1 x.natAbs) (h2 : Limbs w A2 c2 zs2 y.natAbs) (hl1 : zs1.length ≤ 900000) (hl2 : zs2.length ≤ 900000) :
    Calls Tryd.prog 92 #[.agg #[.bool b1, .slice A1 zs1.length c1], .agg #[.bool b2, .slice A2 zs2.length c2]] w fun e w' => IsInt w w' (x + y) e := by
  have hbb := begun2_below w (.bool b1) (.slice A1 zs1.length c1) (.bool b2) (.slice A2 zs2.length c2) 28
  have hx0 := begun2_x w (.bool b1) (.slice A1 zs1.length c1) (.bool b2) (.slice A2 zs2.length c2) 28
  have hy0 := begun2_y w (.bool b1) (.slice A1 zs1.length c1) (.bool b2) (.slice A2 zs2.length c2) 28
  have hr0 := begun2_r w (.bool b1) (.slice A1 zs1.length c1) (.bool b2) (.slice A2 zs2.length c2) 28
  have hsz := begun2_size w (.bool b1) (.slice A1 zs1.length c1) (.bool b2) (.slice A2 zs2.length c2) 28
  have hn1 := h1.2.1.below hbb
  have hn2 := h2.2.1.below hbb
  have H := Lib.hid (And.intro hbb (And.intro hx0 (And.intro hy0 (And.intro hr0 hsz))))
  clear hbb hx0 hy0 hr0 hsz
  go_enter Tryd.func92, Tryd.ntmps92
  go_wp2_with fail
  refine (compare_lt A1 c1 zs1 A2 c2 zs2 _ (by exact hn1) (by exact hn2) h1.2.2.1 h2.2.2.1 h1.2.2.2.1 h2.2.2.2.1 (by omega) (by rw [h1.2.2.2.2, h2.2.2.2.2]; exact hlt)).mono ?_
  rintro e w' ⟨⟨n, rfl⟩, rfl⟩
  go_wp2_with fail
  go_region_held3 (fun w' => w'.cell? ⟨w.heap.size, 0, none⟩ = some (.bool b1) ∧ w'.cell? ⟨w.heap.size, 1, none⟩ = some (.slice A1 zs1.length c1) ∧ w'.cell? ⟨w.heap.size + 1, 0, none⟩ = some (.bool b2) ∧ w'.cell? ⟨w.heap.size + 1, 1, none⟩ = some (.slice A2 zs2.length c2))
    (((try dsimp only); (repeat' apply And.intro) <;> (first | (with_reducible assumption) | go_keep)))
    ((first | (go_at_call 85; refine (difference_any A2 c2 zs2 A1 c1 zs1 _ (by exact hn2) (by exact hn1) h2.2.2.1 h1.2.2.1 hl2 (h2.shorter h1 (Nat.le_of_lt hlt)) (by rw [h1.2.2.2.2, h2.2.2.2.2]; exact Nat.le_of_lt hlt)).mono ?_; rintro e w1 ⟨A3, c3, zs3, rfl, hl3, hb1⟩; have k1x := H.out.2.1.step hb1 rfl (by rw [H.out.2.2.2.2]; omega); have k1y := H.out.2.2.1.step hb1 rfl (by rw [H.out.2.2.2.2]; omega); have k1r := H.out.2.2.2.1.step hb1 rfl (by rw [H.out.2.2.2.2]; omega); obtain ⟨px0, px1⟩ := id k1x; obtain ⟨py0, py1⟩ := id k1y; have hle3 := sub_len hl3 h2.2.2.1 hl2; have hs1' : w.heap.size + 3 ≤ w1.heap.size := Nat.le_trans (Nat.le_of_eq H.out.2.2.2.2.symm) hb1.size) | (go_at_call 27; refine (signed_to b2 A3 c3 zs3 (x + y) _ (by exact hl3.2.1) hl3.2.2.1 hle3 hl3.1 (by rw [hl3.2.2.2.2, h1.2.2.2.2, h2.2.2.2.2]; rw [Int.add_comm]; exact add_parts hs2 hs1 (by rw [← hne]; cases b1 <;> cases b2 <;> rfl) (Nat.le_of_lt hlt))).mono ?_; rintro e w2 ⟨v2, rfl, ⟨b4, A4, c4, zs4, rfl, hsg4, hl4⟩, hb2⟩; have k2x := k1x.step hb2 rfl (by omega); have k2y := k1y.step hb2 rfl (by omega); have k2r := k1r.step hb2 rfl (by omega); obtain ⟨hx0, hx1⟩ := id k2x; obtain ⟨hy0, hy1⟩ := id k2y; obtain ⟨⟨hr0, hr1⟩, hf0, hf1⟩ := id k2r; obtain ⟨qx0, qx1⟩ := k2x.far (r := w.heap.size + 1 + 1) (by omega) (.bool b4) (.slice A4 zs4.length c4); obtain ⟨qy0, qy1⟩ := k2y.far (r := w.heap.size + 1 + 1) (by omega) (.bool b4) (.slice A4 zs4.length c4))))
  go_wp2
  refine bodyPost_ret (v := .agg #[.bool b4, .slice A4 zs4.length c4]) (by simp [results, Tryd.results92, go_sem, hr0, hr1]) rfl ?_
  exact res_stored k2r hsg4 hl4 (below_then (begun_then H.out.1 hb1 rfl rfl rfl rfl) hb2) (by omega)
/-- x + y, whatever their signs. -/
theorem Add_any (v1 v2 : Value) (x y : Int) (m : Nat) (w : World) (h1 : IntAt w v1 x) (h2 : IntAt w v2 y) (hm : m ≤ 900000) (hx : x.natAbs < B32 ^ m) (hy : y.natAbs < B32 ^ m) :
    Calls Tryd.prog 92 #[v1, v2] w fun e w' => IsInt w w' (x + y) e := by
  obtain ⟨b1, A1, c1, zs1, rfl, hs1, hl1⟩ := h1
  obtain ⟨b2, A2, c2, zs2, rfl, hs2, hl2⟩ := h2
  have k1 := Nat.le_trans (hl1.len hx) hm
  have k2 := Nat.le_trans (hl2.len hy) hm
  rcases hb : (b1 == b2) with _ | _
  · rcases Nat.lt_or_ge x.natAbs y.natAbs with h | h
    · exact add_lt b1 b2 A1 c1 zs1 A2 c2 zs2 x y w hs1 hs2 hb h hl1 hl2 k1 k2
    · exact add_ge b1 b2 A1 c1 zs1 A2 c2 zs2 x y w hs1 hs2 hb h hl1 hl2 k1 k2
  · have e : b1 = b2 := by simpa using hb
    subst e
    exact add_alike b1 A1 c1 zs1 A2 c2 zs2 x y w hs1 hs2 hl1 hl2 k1 k2

theorem mul_len {w : World} {A : Option Addr} {c : Nat} {zs xs ys : List Nat} (h : Limbs w A c zs (Lm.val B32 xs * Lm.val B32 ys)) (ox : Lm.Ok B32 xs) (oy : Lm.Ok B32 ys) (hl1 : xs.length ≤ 400000) (hl2 : ys.length ≤ 400000) : zs.length ≤ 1000000 := by
  have := h.len (m := xs.length + ys.length) (by rw [Nat.pow_add]; exact Nat.mul_lt_mul'' (Lm.val_lt ox) (Lm.val_lt oy))
  omega

theorem mul_parts {x y : Int} {b1 b2 b3 : Bool} (hx : SignOf b1 x) (hy : SignOf b2 y) (h : (b1 != b2) = b3) : ofSign b3 (x.natAbs * y.natAbs) = x * y := by
  unfold SignOf at hx hy
  subst hx
  subst hy
  subst h
  unfold ofSign
  rw [← Int.natAbs_mul]
  by_cases h1 : x < 0 <;> by_cases h2 : y < 0
  · have h3 := Int.mul_pos_of_neg_of_neg h1 h2
    simp [h1, h2]
    omega
  · have h3 := Int.mul_nonpos_of_nonpos_of_nonneg (Int.le_of_lt h1) (Int.not_lt.1 h2)
    simp [h1, h2]
    omega
  · have h3 := Int.mul_nonpos_of_nonneg_of_nonpos (Int.not_lt.1 h1) (Int.le_of_lt h2)
    simp [h1, h2]
    omega
  · have h3 := Int.mul_nonneg (Int.not_lt.1 h1) (Int.not_lt.1 h2)
    simp [h1, h2]
    omega

theorem IntAt.step {W0 W w1 : World} {v : Value} {z : Int} (t : IntAt W0 v z) (hb : Below W.heap.size W w1) (hh : W.heap = W0.heap) : IntAt w1 v z := by
  have e : ∀ p, W.cell? p = W0.cell? p := fun p => by simp [World.cell?, hh]
  obtain ⟨b, A, c, zs, rfl, hs, h1, h2, h3⟩ := t
  refine ⟨b, A, c, zs, rfl, hs, h1, fun hn => ?_, h3⟩
  obtain ⟨ad, ea, hlt, hc⟩ := h2 hn
  rw [← hh] at hlt
  exact ⟨ad, ea, Nat.lt_of_lt_of_le hlt hb.size, fun j hj => ((hb.cell (by rw [block_of_add]; exact hlt)).trans (e _)).trans (hc j hj)⟩

set_option maxRecDepth 100000 in
set_option maxHeartbeats 2000000 in
theorem sub_ints (b1 b2 : Bool) (A1 : Option Addr) (c1 : Nat) (zs1 : List Nat) (A2 : Option Addr) (c2 : Nat) (zs2 : List Nat) (x y : Int) (m : Nat) (w : World) (hs1 : SignOf b1 x) (hs2 : SignOf b2 y)
    (h1 : Limbs w A1 c1 zs1 x.natAbs) (h2 : Limbs w A2 c2 zs2 y.natAbs) (hm : m ≤ 900000) (hx : x.natAbs < B32 ^ m) (hy : y.natAbs < B32 ^ m) :
    Calls Tryd.prog 86 #[.agg #[.bool b1, .slice A1 zs1.length c1], .agg #[.bool b2, .slice A2 zs2.length c2]] w fun e w' => IsInt w w' (x - y) e := by
  have hbb := begun2_below w (.bool b1) (.slice A1 zs1.length c1) (.bool b2) (.slice A2 zs2.length c2) 28
  have hx0 := begun2_x w (.bool b1) (.slice A1 zs1.length c1) (.bool b2) (.slice A2 zs2.length c2) 28
  have hy0 := begun2_y w (.bool b1) (.slice A1 zs1.length c1) (.bool b2) (.slice A2 zs2.length c2) 28
  have hr0 := begun2_r w (.bool b1) (.slice A1 zs1.length c1) (.bool b2) (.slice A2 zs2.length c2) 28
  have hsz := begun2_size w (.bool b1) (.slice A1 zs1.length c1) (.bool b2) (.slice A2 zs2.length c2) 28
  have hi1 : IntAt (begun2 w (.bool b1) (.slice A1 zs1.length c1) (.bool b2) (.slice A2 zs2.length c2) 28) (.agg #[.bool b1, .slice A1 zs1.length c1]) x := ⟨b1, A1, c1, zs1, rfl, hs1, h1.below hbb⟩
  have hi2 : IntAt (begun2 w (.bool b1) (.slice A1 zs1.length c1) (.bool b2) (.slice A2 zs2.length c2) 28) (.agg #[.bool b2, .slice A2 zs2.length c2]) y := ⟨b2, A2, c2, zs2, rfl, hs2, h2.below hbb⟩
  have H := Lib.hid (And.intro hbb (And.intro hx0 (And.intro hy0 (And.intro hr0 hsz))))
  clear hbb hx0 hy0 hr0 hsz
  go_enter Tryd.func86, Tryd.ntmps86
  go_wp2_with fail
  go_region_held3 (fun w' => w'.cell? ⟨w.heap.size, 0, none⟩ = some (.bool b1) ∧ w'.cell? ⟨w.heap.size, 1, none⟩ = some (.slice A1 zs1.length c1) ∧ w'.cell? ⟨w.heap.size + 1, 0, none⟩ = some (.bool b2) ∧ w'.cell? ⟨w.heap.size + 1, 1, none⟩ = some (.slice A2 zs2.length c2))
    (((try dsimp only); (repeat' apply And.intro) <;> (first | (with_reducible assumption) | go_keep)))
    ((first | (go_at_call 93; refine (Neg_any (.agg #[.bool b2, .slice A2 zs2.length c2]) y m _ (by exact hi2) hy (by omega)).mono ?_; rintro e w1 ⟨v1, rfl, hi3, hb1⟩; have hi1' := hi1.step hb1 rfl; have k1x := H.out.2.1.step hb1 rfl (by rw [H.out.2.2.2.2]; omega); have k1y := H.out.2.2.1.step hb1 rfl (by rw [H.out.2.2.2.2]; omega); have k1r := H.out.2.2.2.1.step hb1 rfl (by rw [H.out.2.2.2.2]; omega); obtain ⟨px0, px1⟩ := id k1x; obtain ⟨py0, py1⟩ := id k1y; have hs1' : w.heap.size + 3 ≤ w1.heap.size := Nat.le_trans (Nat.le_of_eq H.out.2.2.2.2.symm) hb1.size) | (go_at_call 92; refine (Add_any (.agg #[.bool b1, .slice A1 zs1.length c1]) v1 x (-y) m _ (by exact hi1') (by exact hi3) hm hx (by rw [Int.natAbs_neg]; exact hy)).mono ?_; rintro e w2 ⟨v2, rfl, ⟨b4, A4, c4, zs4, rfl, hsg4, hl4⟩, hb2⟩; have k2x := k1x.step hb2 rfl (by omega); have k2y := k1y.step hb2 rfl (by omega); have k2r := k1r.step hb2 rfl (by omega); obtain ⟨hx0, hx1⟩ := id k2x; obtain ⟨hy0, hy1⟩ := id k2y; obtain ⟨⟨hr0, hr1⟩, hf0, hf1⟩ := id k2r; obtain ⟨qx0, qx1⟩ := k2x.far (r := w.heap.size + 1 + 1) (by omega) (.bool b4) (.slice A4 zs4.length c4); obtain ⟨qy0, qy1⟩ := k2y.far (r := w.heap.size + 1 + 1) (by omega) (.bool b4) (.slice A4 zs4.length c4))))
  go_wp2
  refine bodyPost_ret (v := .agg #[.bool b4, .slice A4 zs4.length c4]) (by simp [results, Tryd.results86, go_sem, hr0, hr1]) rfl ?_
  exact res_stored k2r hsg4 hl4 (below_then (below_then H.out.1.drew hb1) hb2) (by omega)

/-- x - y. -/
theorem Sub_any (v1 v2 : Value) (x y : Int) (m : Nat) (w : World) (h1 : IntAt w v1 x) (h2 : IntAt w v2 y) (hm : m ≤ 900000) (hx : x.natAbs < B32 ^ m) (hy : y.natAbs < B32 ^ m) :
    Calls Tryd.prog 86 #[v1, v2] w fun e w' => IsInt w w' (x - y) e := by
  obtain ⟨b1, A1, c1, zs1, rfl, hs1, hl1⟩ := h1
  obtain ⟨b2, A2, c2, zs2, rfl, hs2, hl2⟩ := h2
  exact sub_ints b1 b2 A1 c1 zs1 A2 c2 zs2 x y m w hs1 hs2 hl1 hl2 hm hx hy

/-- The order of two integers, as Cmp tells it. -/
def cmpZ (x y : Int) : Int := if x < y then -1 else if y < x then 1 else 0
/-- A number is handed back; what was there is as it was. -/
def IsNum (w w' : World) (n : Int) (e : Ending) : Prop := e = .returned (.int .i64 n) ∧ Below w.heap.size w w'
/-- An answer is handed back; what was there is as it was. -/
def IsBool (w w' : World) (b : Bool) (e : Ending) : Prop := e = .returned (.bool b) ∧ Below w.heap.size w w'

theorem cmp_signs1 {x y : Int} (hx : SignOf true x) (hy : SignOf false y) : cmpZ x y = -1 := by
  simp [SignOf] at hx hy
  unfold cmpZ
  rw [if_pos (by omega)]
theorem cmp_signs2 {x y : Int} (hx : SignOf false x) (hy : SignOf true y) : cmpZ x y = 1 := by
  simp [SignOf] at hx hy
  unfold cmpZ
  rw [if_neg (by omega), if_pos (by omega)]
theorem cmp_pos {x y : Int} (hx : SignOf false x) (hy : SignOf false y) : ordOf x.natAbs y.natAbs = cmpZ x y := by
  simp [SignOf] at hx hy
  have e1 : (x.natAbs < y.natAbs) = (x < y) := propext ⟨fun _ => by omega, fun _ => by omega⟩
  have e2 : (y.natAbs < x.natAbs) = (y < x) := propext ⟨fun _ => by omega, fun _ => by omega⟩
  simp only [ordOf, cmpZ, e1, e2]
theorem cmp_neg {x y : Int} (hx : SignOf true x) (hy : SignOf true y) : ordOf y.natAbs x.natAbs = cmpZ x y := by
  simp [SignOf] at hx hy
  have e1 : (x.natAbs < y.natAbs) = (y < x) := propext ⟨fun _ => by omega, fun _ => by omega⟩
  have e2 : (y.natAbs < x.natAbs) = (x < y) := propext ⟨fun _ => by omega, fun _ => by omega⟩
  simp only [ordOf, cmpZ, e1, e2]
theorem sign_of_neg {z : Int} (h : SignOf true z) : z < 0 := by simpa [SignOf] using h
theorem sign_of_pos {z : Int} (h : SignOf false z) : 0 ≤ z := by simpa [SignOf] using h

theorem boxed2_below (w : World) (o o' : Obj) : Below w.heap.size w ((w.alloc o).alloc o') := ((Below.refl _ _).alloc (Nat.le_refl _) _).alloc (by simp) _

set_option maxRecDepth 100000 in
set_option maxHeartbeats 1000000 in
theorem cmp_ints (b1 b2 : Bool) (A1 : Option Addr) (c1 : Nat) (zs1 : List Nat) (A2 : Option Addr) (c2 : Nat) (zs2 : List Nat) (x y : Int) (w : World) (hs1 : SignOf b1 x) (hs2 : SignOf b2 y)
    (h1 : Limbs w A1 c1 zs1 x.natAbs) (h2 : Limbs w A2 c2 zs2 y.natAbs) (hl1 : zs1.length ≤ 900000) (hl2 : zs2.length ≤ 900000) :
    Calls Tryd.prog 37 #[.agg #[.bool b1, .slice A1 zs1.length c1], .agg #[.bool b2, .slice A2 zs2.length c2]] w fun e w' => IsNum w w' (cmpZ x y) e := by
  cases b1 <;> cases b2
  · have hn1 := h1.2.1.below (boxed2_below w (.cells #[.bool false, .slice A1 zs1.length c1] 28) (.cells #[.bool false, .slice A2 zs2.length c2] 28))
    have hn2 := h2.2.1.below (boxed2_below w (.cells #[.bool false, .slice A1 zs1.length c1] 28) (.cells #[.bool false, .slice A2 zs2.length c2] 28))
    go_enter Tryd.func37, Tryd.ntmps37
    go_wp2_with fail
    refine (compare_any A1 c1 zs1 A2 c2 zs2 _ hn1 hn2 h1.2.2.1 h2.2.2.1 h1.2.2.2.1 h2.2.2.2.1 (by omega)).mono ?_
    rintro e w' ⟨hd, rfl⟩
    go_wp2
    go_ret
    exact ⟨by rw [← cmp_pos hs1 hs2, ← h1.2.2.2.2, ← h2.2.2.2.2]; rfl, (boxed2_below _ _ _).trans (hd.below _)⟩
  · go_enter Tryd.func37, Tryd.ntmps37
    go_wp2
    go_ret
    exact ⟨by rw [cmp_signs2 hs1 hs2]; rfl, boxed2_below _ _ _⟩
  · go_enter Tryd.func37, Tryd.ntmps37
    go_wp2
    go_ret
    exact ⟨by rw [cmp_signs1 hs1 hs2]; rfl, boxed2_below _ _ _⟩
  · have hn1 := h1.2.1.below (boxed2_below w (.cells #[.bool true, .slice A1 zs1.length c1] 28) (.cells #[.bool true, .slice A2 zs2.length c2] 28))
    have hn2 := h2.2.1.below (boxed2_below w (.cells #[.bool true, .slice A1 zs1.length c1] 28) (.cells #[.bool true, .slice A2 zs2.length c2] 28))
    go_enter Tryd.func37, Tryd.ntmps37
    go_wp2_with fail
    refine (compare_any A2 c2 zs2 A1 c1 zs1 _ hn2 hn1 h2.2.2.1 h1.2.2.1 h2.2.2.2.1 h1.2.2.2.1 (by omega)).mono ?_
    rintro e w' ⟨hd, rfl⟩
    go_wp2
    go_ret
    exact ⟨by rw [← cmp_neg hs1 hs2, ← h1.2.2.2.2, ← h2.2.2.2.2]; rfl, (boxed2_below _ _ _).trans (hd.below _)⟩

/-- x against y. -/
theorem Cmp_any (v1 v2 : Value) (x y : Int) (m : Nat) (w : World) (h1 : IntAt w v1 x) (h2 : IntAt w v2 y) (hm : m ≤ 900000) (hx : x.natAbs < B32 ^ m) (hy : y.natAbs < B32 ^ m) :
    Calls Tryd.prog 37 #[v1, v2] w fun e w' => IsNum w w' (cmpZ x y) e := by
  obtain ⟨b1, A1, c1, zs1, rfl, hs1, hl1⟩ := h1
  obtain ⟨b2, A2, c2, zs2, rfl, hs2, hl2⟩ := h2
  exact cmp_ints b1 b2 A1 c1 zs1 A2 c2 zs2 x y w hs1 hs2 hl1 hl2 (Nat.le_trans (hl1.len hx) hm) (Nat.le_trans (hl2.len hy) hm)

theorem sign_zero {w : World} {A : Option Addr} {c : Nat} {zs : List Nat} {z : Int} (h : Limbs w A c zs z.natAbs) (h0 : zs.length = 0) : z.sign = 0 := by
  have hz : zs = [] := List.eq_nil_of_length_eq_zero h0
  subst hz
  have hv : 0 = z.natAbs := h.2.2.2.2
  have hz : z = 0 := by omega
  rw [hz]
  rfl
theorem sign_pos {w : World} {A : Option Addr} {c : Nat} {zs : List Nat} {z : Int} (h : Limbs w A c zs z.natAbs) (h0 : 0 < zs.length) : z ≠ 0 := by
  have := Lm.val_pos B32_pos h0 h.2.2.2.1
  rw [h.2.2.2.2] at this
  omega

set_option maxRecDepth 100000 in
set_option maxHeartbeats 1000000 in
theorem Sign_any (v : Value) (z : Int) (m : Nat) (w : World) (h : IntAt w v z) (hm : m ≤ 900000) (hz : z.natAbs < B32 ^ m) :
    Calls Tryd.prog 10 #[v] w fun e w' => IsNum w w' z.sign e := by
  obtain ⟨b, A, c, zs, rfl, hs, hl⟩ := h
  have hlen := Nat.le_trans (hl.len hz) hm
  rcases Nat.eq_zero_or_pos zs.length with h0 | h0
  · have H := Lib.hid (sign_zero hl h0)
    rw [h0]
    clear hl h0
    go_enter Tryd.func10, Tryd.ntmps10
    go_wp2
    go_ret
    exact ⟨by rw [H.out]; rfl, (Below.refl _ _).alloc (Nat.le_refl _) _⟩
  · have hne := sign_pos hl h0
    have hf : ((zs.length : Int) == 0) = false := by rw [beq_eq_false_iff_ne]; omega
    cases b
    · have hp : z.sign = 1 := Int.sign_eq_one_of_pos (by have := sign_of_pos hs; omega)
      have H := Lib.hid hp
      clear hp hl hne hs
      go_enter Tryd.func10, Tryd.ntmps10
      go_wp2
      go_ret
      exact ⟨by rw [H.out]; rfl, (Below.refl _ _).alloc (Nat.le_refl _) _⟩
    · have hp : z.sign = -1 := Int.sign_eq_neg_one_of_neg (sign_of_neg hs)
      have H := Lib.hid hp
      clear hp hl hne hs
      go_enter Tryd.func10, Tryd.ntmps10
      go_wp2
      go_ret
      exact ⟨by rw [H.out]; rfl, (Below.refl _ _).alloc (Nat.le_refl _) _⟩

theorem cmp_eq (x y : Int) : (cmpZ x y == 0) = decide (x = y) := by
  unfold cmpZ
  by_cases h : x < y
  · rw [if_pos h]
    simp; omega
  · rw [if_neg h]
    by_cases h' : y < x
    · rw [if_pos h']
      simp; omega
    · rw [if_neg h']
      simp; omega

set_option maxRecDepth 100000 in
set_option maxHeartbeats 1000000 in
theorem same_ints (b1 b2 : Bool) (A1 : Option Addr) (c1 : Nat) (zs1 : List Nat) (A2 : Option Addr) (c2 : Nat) (zs2 : List Nat) (x y : Int) (m : Nat) (w : World)
    (h1 : IntAt w (.agg #[.bool b1, .slice A1 zs1.length c1]) x) (h2 : IntAt w (.agg #[.bool b2, .slice A2 zs2.length c2]) y) (hm : m ≤ 900000) (hx : x.natAbs < B32 ^ m) (hy : y.natAbs < B32 ^ m) :
    Calls Tryd.prog 13 #[.agg #[.bool b1, .slice A1 zs1.length c1], .agg #[.bool b2, .slice A2 zs2.length c2]] w fun e w' => IsBool w w' (decide (x = y)) e := by
  have hi1 := h1.below (boxed2_below w (.cells #[.bool b1, .slice A1 zs1.length c1] 28) (.cells #[.bool b2, .slice A2 zs2.length c2] 28))
  have hi2 := h2.below (boxed2_below w (.cells #[.bool b1, .slice A1 zs1.length c1] 28) (.cells #[.bool b2, .slice A2 zs2.length c2] 28))
  have hc := Cmp_any _ _ x y m _ hi1 hi2 hm hx hy
  have HC := Lib.hid hc
  clear hc hi1 hi2
  go_enter Tryd.func13, Tryd.ntmps13
  go_wp2_with fail
  refine HC.out.mono ?_
  rintro e w' ⟨rfl, hb⟩
  go_wp2
  go_ret
  exact ⟨by rw [← cmp_eq]; rfl, below_then (boxed2_below _ _ _) hb⟩

theorem copied_lims (A : Option Addr) (c : Nat) (xs : List Nat) (w : World) (h : Nums w .u32 A xs) (ho : Lm.Ok B32 xs) (hl : xs.length ≤ 1000000) (hc : xs.length ≤ c) :
    Calls Tryd.prog 49 #[.slice A xs.length c] w fun e w' => IsLims w w' (Lm.val B32 xs) e :=
  (copied_any A c xs w h hl hc).mono fun _ _ ⟨k, ⟨A1, c1, he, hown, hb⟩, hk, hz, hp⟩ =>
    ⟨A1, c1, xs.take k, he, ⟨by obtain ⟨A2, c2, e2, hle⟩ := own_form hown; injection e2 with _ _ e3; omega, Nums.of_own hown rfl, ho.take k, top_take hk hp, Lm.val_cut k hk hz⟩, hb⟩

set_option maxRecDepth 100000 in
set_option maxHeartbeats 1000000 in
theorem Make_any (b : Bool) (A : Option Addr) (c : Nat) (xs : List Nat) (w : World) (h : Nums w .u32 A xs) (ho : Lm.Ok B32 xs) (hl : xs.length ≤ 900000) (hc : xs.length ≤ c) :
    Calls Tryd.prog 22 #[.bool b, .slice A xs.length c] w fun e w' => IsInt w w' (ofSign b (Lm.val B32 xs)) e := by
  have hr0 := Res.new w 28
  have H := Lib.hid hr0
  clear hr0
  have hn := h.alloc (.cells #[.bool false, .slice none 0 0] 28)
  go_enter Tryd.func22, Tryd.ntmps22
  go_wp2_with fail
  refine (copied_lims A c xs _ hn ho (by omega) hc).mono ?_
  rintro e w1 ⟨A1, c1, zs, rfl, hlim, hb1⟩
  have hlen : zs.length ≤ 1000000 := by have := hlim.len (Lm.val_lt ho); omega
  have hsz : w.heap.size + 1 ≤ w1.heap.size := by have := hb1.size; simpa using this
  have k1 := H.out.step hb1 rfl (by simp)
  clear hn
  go_wp2_with fail
  refine (signed_to b A1 c1 zs (ofSign b (Lm.val B32 xs)) w1 hlim.2.1 hlim.2.2.1 hlen hlim.1 (by rw [hlim.2.2.2.2])).mono ?_
  rintro e w2 ⟨v2, rfl, ⟨b4, A4, c4, zs4, rfl, hsg4, hl4⟩, hb2⟩
  have k2 := k1.step hb2 rfl (by omega)
  obtain ⟨⟨hr0, hr1⟩, hf0, hf1⟩ := id k2
  go_wp2
  refine bodyPost_ret (v := .agg #[.bool b4, .slice A4 zs4.length c4]) (by simp [results, Tryd.results22, go_sem, hr0, hr1]) rfl ?_
  exact res_stored k2 hsg4 hl4 (below_then (below_then ((Below.refl _ _).alloc (Nat.le_refl _) _) hb1) hb2) (Nat.le_refl _)

theorem nums2 (w : World) (a b : Nat) : Nums (w.alloc (.cells #[.int .u32 a, .int .u32 b] 86)) .u32 (some ⟨w.heap.size, 0, none⟩) [a, b] := fun _ => by
  refine ⟨_, rfl, by simp, fun j hj => ?_⟩
  match j, hj with
  | 0, _ => exact (cell2 w (.int .u32 a) (.int .u32 b) 86).1
  | 1, _ => exact (cell2 w (.int .u32 a) (.int .u32 b) 86).2

set_option maxRecDepth 100000 in
set_option maxHeartbeats 1000000 in
theorem word_any (n : Nat) (w : World) (h : n < 18446744073709551616) : Calls Tryd.prog 40 #[.int .u64 n] w fun e w' => IsLims w w' n e := by
  have ho : Lm.Ok B32 [n % B32, n / B32] := .cons (Nat.mod_lt _ B32_pos) (.cons (by unfold B32; omega) (.nil _))
  have hv : Lm.val B32 [n % B32, n / B32] = n := by
    simp only [Lm.val, Nat.mul_zero, Nat.add_zero]
    exact Nat.mod_add_div n B32
  have hn := nums2 w (n % B32) (n / B32)
  have ht := trim_any (some ⟨w.heap.size, 0, none⟩) 2 [n % B32, n / B32] _ hn (by simp) (by simp)
  rw [← limb_mod n n rfl, ← limb_div n n rfl] at ht
  simp only [List.length_cons, List.length_nil, Nat.zero_add, Nat.reduceAdd] at ht
  have HT := Lib.hid (And.intro ht (And.intro ho (And.intro hv hn)))
  clear ht ho hv hn
  go_enter Tryd.func40, Tryd.ntmps40
  go_wp2_with fail
  refine HT.out.1.mono ?_
  rintro e w4 ⟨rfl, k, rfl, hk, hz, hp⟩
  have HP := Lib.hid (And.intro hk (And.intro hz hp))
  clear hk hz hp
  go_wp2
  go_ret
  refine lims_of_trim ⟨k, rfl, HP.out⟩ ?_ HT.out.2.1 (by simp) HT.out.2.2.1 ((Below.refl _ _).alloc (Nat.le_refl _) _)
  have := HT.out.2.2.2
  rwa [← limb_mod n n rfl, ← limb_div n n rfl] at this

theorem wrap_neg (n : Nat) (h : 0 < n) (h1 : n ≤ 9223372036854775808) : IntKind.u64.wrap (-IntKind.u64.wrap (-(n : Int))) = (n : Int) := by
  rw [IntKind.wrap_u64, IntKind.wrap_u64]
  omega
theorem wrap_pos (n : Nat) (h1 : n < 9223372036854775808) : IntKind.u64.wrap (n : Int) = (n : Int) := by
  rw [IntKind.wrap_u64]
  omega

set_option maxRecDepth 100000 in
set_option maxHeartbeats 1000000 in
theorem New_neg (n : Nat) (w : World) (h : 0 < n) (h1 : n ≤ 9223372036854775808) : Calls Tryd.prog 17 #[.int .i64 (-(n : Int))] w fun e w' => IsInt w w' (-(n : Int)) e := by
  have hr0 := Res.new w 28
  have H := Lib.hid hr0
  have HN := Lib.hid (And.intro h1 (wrap_neg n h h1))
  clear hr0 h1
  go_enter Tryd.func17, Tryd.ntmps17
  go_wp2_with fail
  rw [HN.out.2]
  refine (word_any n _ (by have := HN.out.1; omega)).mono ?_
  rintro e w1 ⟨A1, c1, zs, rfl, hlim, hb1⟩
  have hlen : zs.length ≤ 2 := hlim.len (by have := HN.out.1; unfold B32; omega)
  have hsz : w.heap.size + 1 ≤ w1.heap.size := by have := hb1.size; simpa using this
  have k1 := H.out.step hb1 rfl (by simp)
  go_wp2_with fail
  refine (signed_to true A1 c1 zs (-(n : Int)) w1 hlim.2.1 hlim.2.2.1 (by omega) hlim.1 (by rw [hlim.2.2.2.2]; rfl)).mono ?_
  rintro e w2 ⟨v2, rfl, ⟨b4, A4, c4, zs4, rfl, hsg4, hl4⟩, hb2⟩
  have k2 := k1.step hb2 rfl (by omega)
  obtain ⟨⟨hr0, hr1⟩, hf0, hf1⟩ := id k2
  go_wp2
  refine bodyPost_ret (v := .agg #[.bool b4, .slice A4 zs4.length c4]) (by simp [results, Tryd.results17, go_sem, hr0, hr1]) rfl ?_
  exact res_stored k2 hsg4 hl4 (below_then (below_then ((Below.refl _ _).alloc (Nat.le_refl _) _) hb1) hb2) (Nat.le_refl _)

set_option maxRecDepth 100000 in
set_option maxHeartbeats 1000000 in
theorem New_pos (n : Nat) (w : World) (h1 : n < 9223372036854775808) : Calls Tryd.prog 17 #[.int .i64 (n : Int)] w fun e w' => IsInt w w' (n : Int) e := by
  have hr0 := Res.new w 28
  have H := Lib.hid hr0
  have HN := Lib.hid (And.intro h1 (wrap_pos n h1))
  have h0 : (0 : Int) ≤ (n : Int) := Int.natCast_nonneg n
  clear hr0 h1
  go_enter Tryd.func17, Tryd.ntmps17
  go_wp2_with fail
  go_show
  rw [HN.out.2]
  refine (word_any n _ (by have := HN.out.1; omega)).mono ?_
  rintro e w1 ⟨A1, c1, zs, rfl, hlim, hb1⟩
  have hlen : zs.length ≤ 2 := hlim.len (by have := HN.out.1; unfold B32; omega)
  have hsz : w.heap.size + 1 ≤ w1.heap.size := by have := hb1.size; simpa using this
  have k1 := H.out.step hb1 rfl (by simp)
  go_wp2_with fail
  refine (signed_to false A1 c1 zs (n : Int) w1 hlim.2.1 hlim.2.2.1 (by omega) hlim.1 (by rw [hlim.2.2.2.2]; rfl)).mono ?_
  rintro e w2 ⟨v2, rfl, ⟨b4, A4, c4, zs4, rfl, hsg4, hl4⟩, hb2⟩
  have k2 := k1.step hb2 rfl (by omega)
  obtain ⟨⟨hr0, hr1⟩, hf0, hf1⟩ := id k2
  go_wp2
  refine bodyPost_ret (v := .agg #[.bool b4, .slice A4 zs4.length c4]) (by simp [results, Tryd.results17, go_sem, hr0, hr1]) rfl ?_
  exact res_stored k2 hsg4 hl4 (below_then (below_then ((Below.refl _ _).alloc (Nat.le_refl _) _) hb1) hb2) (Nat.le_refl _)
end Go.Proofs.YtllkajlmfbikhaaDoor
