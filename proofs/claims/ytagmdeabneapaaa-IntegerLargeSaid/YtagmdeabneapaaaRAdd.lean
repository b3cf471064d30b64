/- What Add, Neg, Sub, Sign, Cmp of the reference do. -/
import Derived.Test.YtagmdeabneapaaaRMinus
namespace Go.Proofs.Ytagmdeabneapaaa
open Go.RowKit

theorem Digs.len {w : World} {A : Option Addr} {c n m : Nat} {ds : List Nat} (h : Digs w A c ds n) (hs : n < BD ^ m) : ds.length ≤ m := by
  rcases Nat.lt_or_ge m ds.length with hlt | hge
  · have h1 := Lm.val_ge (b := BD) (Nat.lt_of_le_of_lt (Nat.zero_le _) hlt) h.2.2.2.1
    rw [h.2.2.2.2] at h1
    have h2 : BD ^ m ≤ BD ^ (ds.length - 1) := Nat.pow_le_pow_right BD_pos (by omega)
    omega
  · exact hge
theorem Digs.shorter {w : World} {A A' : Option Addr} {c c' n n' : Nat} {zs zs' : List Nat} (h : Digs w A c zs n) (h' : Digs w A' c' zs' n') (hle : n' ≤ n) : zs'.length ≤ zs.length :=
  Lm.len_of_val BD_one h.2.2.1 h'.2.2.2.1 (by rw [h.2.2.2.2, h'.2.2.2.2]; exact hle)
theorem made_to (b : Bool) (A : Option Addr) (c : Nat) (xs : List Nat) (z : Int) (w : World) (h : Nums w .i64 A xs) (ho : Lm.Ok BD xs) (hl : xs.length ≤ 1000000) (hc : xs.length ≤ c) (hz : ofSign b (Lm.val BD xs) = z) :
    Calls Try.prog 72 #[.bool b, .slice A xs.length c] w fun e w' => IsRef w w' z e := by
  subst hz
  exact made_any b A c xs w h ho hl hc

theorem rcompare_ge (A : Option Addr) (c : Nat) (xs : List Nat) (A' : Option Addr) (c' : Nat) (ys : List Nat) (w : World) (hx : Nums w .i64 A xs) (hy : Nums w .i64 A' ys)
    (ox : Lm.Ok BD xs) (oy : Lm.Ok BD ys) (tx : Lm.Top xs) (ty : Lm.Top ys) (hl : xs.length ≤ 1000000) (h : Lm.val BD ys ≤ Lm.val BD xs) :
    Calls Try.prog 89 #[.slice A xs.length c, .slice A' ys.length c'] w fun e w' => Drew w w' ∧ ∃ k : Int, 0 ≤ k ∧ e = .returned (.int .i64 k) :=
  (rcompare_any A c xs A' c' ys w hx hy ox oy tx ty hl).mono fun _ _ ⟨hd, he⟩ => ⟨hd, _, ord_nonneg h, he⟩
theorem rcompare_lt (A : Option Addr) (c : Nat) (xs : List Nat) (A' : Option Addr) (c' : Nat) (ys : List Nat) (w : World) (hx : Nums w .i64 A xs) (hy : Nums w .i64 A' ys)
    (ox : Lm.Ok BD xs) (oy : Lm.Ok BD ys) (tx : Lm.Top xs) (ty : Lm.Top ys) (hl : xs.length ≤ 1000000) (h : Lm.val BD xs < Lm.val BD ys) :
    Calls Try.prog 89 #[.slice A xs.length c, .slice A' ys.length c'] w fun e w' => Drew w w' ∧ e = .returned (.int .i64 (-1)) :=
  (rcompare_any A c xs A' c' ys w hx hy ox oy tx ty hl).mono fun _ _ ⟨hd, he⟩ => ⟨hd, by rw [he, ord_lt h]⟩

set_option maxRecDepth 100000 in
set_option maxHeartbeats 2000000 in
theorem radd_alike (b : Bool) (A1 : Option Addr) (c1 : Nat) (zs1 : List Nat) (A2 : Option Addr) (c2 : Nat) (zs2 : List Nat) (x y : Int) (w : World) (hs1 : SignOf b x) (hs2 : SignOf b y)
    (h1 : Digs w A1 c1 zs1 x.natAbs) (h2 : Digs w A2 c2 zs2 y.natAbs) (hl1 : zs1.length ≤ 900000) (hl2 : zs2.length ≤ 900000) :
    Calls Try.prog 39 #[.agg #[.bool b, .slice A1 zs1.length c1], .agg #[.bool b, .slice A2 zs2.length c2]] w fun e w' => IsRef w w' (x + y) e := by
  have hbb := begun2_below w (.bool b) (.slice A1 zs1.length c1) (.bool b) (.slice A2 zs2.length c2) 31
  have hx0 := begun2_x w (.bool b) (.slice A1 zs1.length c1) (.bool b) (.slice A2 zs2.length c2) 31
  have hy0 := begun2_y w (.bool b) (.slice A1 zs1.length c1) (.bool b) (.slice A2 zs2.length c2) 31
  have hr0 := begun2_r w (.bool b) (.slice A1 zs1.length c1) (.bool b) (.slice A2 zs2.length c2) 31
  have hsz := begun2_size w (.bool b) (.slice A1 zs1.length c1) (.bool b) (.slice A2 zs2.length c2) 31
  have hn1 := h1.2.1.below hbb
  have hn2 := h2.2.1.below hbb
  have H := Lib.hid (And.intro hbb (And.intro hx0 (And.intro hy0 (And.intro hr0 hsz))))
  clear hbb hx0 hy0 hr0 hsz
  go_enter Try.func39, Try.ntmps39
  go_wp2_with fail
  go_region_held3 (fun w' => w'.cell? ⟨w.heap.size, 0, none⟩ = some (.bool b) ∧ w'.cell? ⟨w.heap.size, 1, none⟩ = some (.slice A1 zs1.length c1) ∧ w'.cell? ⟨w.heap.size + 1, 0, none⟩ = some (.bool b) ∧ w'.cell? ⟨w.heap.size + 1, 1, none⟩ = some (.slice A2 zs2.length c2))
    (((try dsimp only); (repeat' apply And.intro) <;> (first | (with_reducible assumption) | go_keep)))
    ((first | (go_at_call 88; refine (plus_any A1 c1 zs1 A2 c2 zs2 900000 _ (by exact hn1) (by exact hn2) h1.2.2.1 h2.2.2.1 hl1 hl2 (by decide)).mono ?_; rintro e w1 ⟨A3, c3, zs3, rfl, hc3, hn3, ho3, hv3, hle3', hb1⟩; have k1x := H.out.2.1.step hb1 rfl (by rw [H.out.2.2.2.2]; (try omega)); have k1y := H.out.2.2.1.step hb1 rfl (by rw [H.out.2.2.2.2]; (try omega)); have k1r := H.out.2.2.2.1.step hb1 rfl (by rw [H.out.2.2.2.2]; (try omega)); obtain ⟨px0, px1⟩ := id k1x; obtain ⟨py0, py1⟩ := id k1y; have hle3 : zs3.length ≤ 1000000 := (by omega); have hs1' : w.heap.size + 3 ≤ w1.heap.size := Nat.le_trans (Nat.le_of_eq H.out.2.2.2.2.symm) hb1.size) | (go_at_call 72; refine (made_to b A3 c3 zs3 (x + y) _ (by exact hn3) ho3 hle3 hc3 (by rw [hv3, h1.2.2.2.2, h2.2.2.2.2]; exact add_same hs1 hs2)).mono ?_; rintro e w2 ⟨v2, rfl, ⟨b4, A4, c4, zs4, rfl, hsg4, hl4⟩, hb2⟩; have k2x := k1x.step hb2 rfl (by omega); have k2y := k1y.step hb2 rfl (by omega); have k2r := k1r.step hb2 rfl (by omega); obtain ⟨hx0, hx1⟩ := id k2x; obtain ⟨hy0, hy1⟩ := id k2y; obtain ⟨⟨hr0, hr1⟩, hf0, hf1⟩ := id k2r; obtain ⟨qx0, qx1⟩ := k2x.far (r := w.heap.size + 1 + 1) (by omega) (.bool b4) (.slice A4 zs4.length c4); obtain ⟨qy0, qy1⟩ := k2y.far (r := w.heap.size + 1 + 1) (by omega) (.bool b4) (.slice A4 zs4.length c4))))
  go_wp2
  refine bodyPost_ret (v := .agg #[.bool b4, .slice A4 zs4.length c4]) (by simp [results, Try.results39, go_sem, hr0, hr1]) rfl ?_
  exact ref_stored k2r hsg4 hl4 (below_then (below_then H.out.1.drew hb1) hb2) (by omega)
set_option maxRecDepth 100000 in
set_option maxHeartbeats 2000000 in
theorem radd_ge (b1 b2 : Bool) (A1 : Option Addr) (c1 : Nat) (zs1 : List Nat) (A2 : Option Addr) (c2 : Nat) (zs2 : List Nat) (x y : Int) (w : World) (hs1 : SignOf b1 x) (hs2 : SignOf b2 y) (hne : (b1 == b2) = false) (hge : y.natAbs ≤ x.natAbs)
    (h1 : Digs w A1 c1 zs1 x.natAbs) (h2 : Digs w A2 c2 zs2 y.natAbs) (hl1 : zs1.length ≤ 900000) (_hl2 : zs2.length ≤ 900000) :
    Calls Try.prog 39 #[.agg #[.bool b1, .slice A1 zs1.length c1], .agg #[.bool b2, .slice A2 zs2.length c2]] w fun e w' => IsRef w w' (x + y) e := by
  have hbb := begun2_below w (.bool b1) (.slice A1 zs1.length c1) (.bool b2) (.slice A2 zs2.length c2) 31
  have hx0 := begun2_x w (.bool b1) (.slice A1 zs1.length c1) (.bool b2) (.slice A2 zs2.length c2) 31
  have hy0 := begun2_y w (.bool b1) (.slice A1 zs1.length c1) (.bool b2) (.slice A2 zs2.length c2) 31
  have hr0 := begun2_r w (.bool b1) (.slice A1 zs1.length c1) (.bool b2) (.slice A2 zs2.length c2) 31
  have hsz := begun2_size w (.bool b1) (.slice A1 zs1.length c1) (.bool b2) (.slice A2 zs2.length c2) 31
  have hn1 := h1.2.1.below hbb
  have hn2 := h2.2.1.below hbb
  have H := Lib.hid (And.intro hbb (And.intro hx0 (And.intro hy0 (And.intro hr0 hsz))))
  clear hbb hx0 hy0 hr0 hsz
  go_enter Try.func39, Try.ntmps39
  go_wp2_with fail
  refine (rcompare_ge A1 c1 zs1 A2 c2 zs2 _ (by exact hn1) (by exact hn2) h1.2.2.1 h2.2.2.1 h1.2.2.2.1 h2.2.2.2.1 (by omega) (by rw [h1.2.2.2.2, h2.2.2.2.2]; exact hge)).mono ?_
  rintro e w' ⟨⟨n, rfl⟩, k, hk, rfl⟩
  go_wp2_with fail
  go_region_held3 (fun w' => w'.cell? ⟨w.heap.size, 0, none⟩ = some (.bool b1) ∧ w'.cell? ⟨w.heap.size, 1, none⟩ = some (.slice A1 zs1.length c1) ∧ w'.cell? ⟨w.heap.size + 1, 0, none⟩ = some (.bool b2) ∧ w'.cell? ⟨w.heap.size + 1, 1, none⟩ = some (.slice A2 zs2.length c2))
    (((try dsimp only); (repeat' apply And.intro) <;> (first | (with_reducible assumption) | go_keep)))
    ((first | (go_at_call 90; refine (minus_any A1 c1 zs1 A2 c2 zs2 _ (by exact hn1) (by exact hn2) h1.2.2.1 h2.2.2.1 (h1.shorter h2 hge) (by omega) (by rw [h1.2.2.2.2, h2.2.2.2.2]; exact hge)).mono ?_; rintro e w1 ⟨A3, c3, zs3, rfl, hl3, hle3', hb1⟩; have k1x := H.out.2.1.step hb1 rfl (by rw [H.out.2.2.2.2]; (try omega)); have k1y := H.out.2.2.1.step hb1 rfl (by rw [H.out.2.2.2.2]; (try omega)); have k1r := H.out.2.2.2.1.step hb1 rfl (by rw [H.out.2.2.2.2]; (try omega)); obtain ⟨px0, px1⟩ := id k1x; obtain ⟨py0, py1⟩ := id k1y; have hle3 : zs3.length ≤ 1000000 := (by omega); have hs1' : w.heap.size + 3 ≤ w1.heap.size := Nat.le_trans (Nat.le_of_eq H.out.2.2.2.2.symm) hb1.size) | (go_at_call 72; refine (made_to b1 A3 c3 zs3 (x + y) _ (by exact hl3.2.1) hl3.2.2.1 hle3 hl3.1 (by rw [hl3.2.2.2.2, h1.2.2.2.2, h2.2.2.2.2]; exact add_parts hs1 hs2 hne hge)).mono ?_; rintro e w2 ⟨v2, rfl, ⟨b4, A4, c4, zs4, rfl, hsg4, hl4⟩, hb2⟩; have k2x := k1x.step hb2 rfl (by omega); have k2y := k1y.step hb2 rfl (by omega); have k2r := k1r.step hb2 rfl (by omega); obtain ⟨hx0, hx1⟩ := id k2x; obtain ⟨hy0, hy1⟩ := id k2y; obtain ⟨⟨hr0, hr1⟩, hf0, hf1⟩ := id k2r; obtain ⟨qx0, qx1⟩ := k2x.far (r := w.heap.size + 1 + 1) (by omega) (.bool b4) (.slice A4 zs4.length c4); obtain ⟨qy0, qy1⟩ := k2y.far (r := w.heap.size + 1 + 1) (by omega) (.bool b4) (.slice A4 zs4.length c4))))
  go_wp2
  refine bodyPost_ret (v := .agg #[.bool b4, .slice A4 zs4.length c4]) (by simp [results, Try.results39, go_sem, hr0, hr1]) rfl ?_
  exact ref_stored k2r hsg4 hl4 (below_then (begun_then H.out.1 hb1 rfl rfl rfl rfl) hb2) (by omega)
set_option maxRecDepth 100000 in
set_option maxHeartbeats 2000000 in
theorem radd_lt (b1 b2 : Bool) (A1 : Option Addr) (c1 : Nat) (zs1 : List Nat) (A2 : Option Addr) (c2 : Nat) (zs2 : List Nat) (x y : Int) (w : World) (hs1 : SignOf b1 x) (hs2 : SignOf b2 y) (hne : (b1 == b2) = false) (hlt : x.natAbs < y.natAbs)
    (h1 : Digs w A1 c1 zs1 x.natAbs) (h2 : Digs w A2 c2 zs2 y.natAbs) (hl1 : zs1.length ≤ 900000) (hl2 : zs2.length ≤ 900000) :
    Calls Try.prog 39 #[.agg #[.bool b1, .slice A1 zs1.length c1], .agg #[.bool b2, .slice A2 zs2.length c2]] w fun e w' => IsRef w w' (x + y) e := by
  have hbb := begun2_below w (.bool b1) (.slice A1 zs1.length c1) (.bool b2) (.slice A2 zs2.length c2) 31
  have hx0 := begun2_x w (.bool b1) (.slice A1 zs1.length c1) (.bool b2) (.slice A2 zs2.length c2) 31
  have hy0 := begun2_y w (.bool b1) (.slice A1 zs1.length c1) (.bool b2) (.slice A2 zs2.length c2) 31
  have hr0 := begun2_r w (.bool b1) (.slice A1 zs1.length c1) (.bool b2) (.slice A2 zs2.length c2) 31
  have hsz := begun2_size w (.bool b1) (.slice A1 zs1.length c1) (.bool b2) (.slice A2 zs2.length c2) 31
  have hn1 := h1.2.1.below hbb
  have hn2 := h2.2.1.below hbb
  have H := Lib.hid (And.intro hbb (And.intro hx0 (And.intro hy0 (And.intro hr0 hsz))))
  clear hbb hx0 hy0 hr0 hsz
  go_enter Try.func39, Try.ntmps39
  go_wp2_with fail
  refine (rcompare_lt A1 c1 zs1 A2 c2 zs2 _ (by exact hn1) (by exact hn2) h1.2.2.1 h2.2.2.1 h1.2.2.2.1 h2.2.2.2.1 (by omega) (by rw [h1.2.2.2.2, h2.2.2.2.2]; exact hlt)).mono ?_
  rintro e w' ⟨⟨n, rfl⟩, rfl⟩
  go_wp2_with fail
  go_region_held3 (fun w' => w'.cell? ⟨w.heap.size, 0, none⟩ = some (.bool b1) ∧ w'.cell? ⟨w.heap.size, 1, none⟩ = some (.slice A1 zs1.length c1) ∧ w'.cell? ⟨w.heap.size + 1, 0, none⟩ = some (.bool b2) ∧ w'.cell? ⟨w.heap.size + 1, 1, none⟩ = some (.slice A2 zs2.length c2))
    (((try dsimp only); (repeat' apply And.intro) <;> (first | (with_reducible assumption) | go_keep)))
    ((first | (go_at_call 90; refine (minus_any A2 c2 zs2 A1 c1 zs1 _ (by exact hn2) (by exact hn1) h2.2.2.1 h1.2.2.1 (h2.shorter h1 (Nat.le_of_lt hlt)) (by omega) (by rw [h1.2.2.2.2, h2.2.2.2.2]; exact Nat.le_of_lt hlt)).mono ?_; rintro e w1 ⟨A3, c3, zs3, rfl, hl3, hle3', hb1⟩; have k1x := H.out.2.1.step hb1 rfl (by rw [H.out.2.2.2.2]; (try omega)); have k1y := H.out.2.2.1.step hb1 rfl (by rw [H.out.2.2.2.2]; (try omega)); have k1r := H.out.2.2.2.1.step hb1 rfl (by rw [H.out.2.2.2.2]; (try omega)); obtain ⟨px0, px1⟩ := id k1x; obtain ⟨py0, py1⟩ := id k1y; have hle3 : zs3.length ≤ 1000000 := (by omega); have hs1' : w.heap.size + 3 ≤ w1.heap.size := Nat.le_trans (Nat.le_of_eq H.out.2.2.2.2.symm) hb1.size) | (go_at_call 72; refine (made_to b2 A3 c3 zs3 (x + y) _ (by exact hl3.2.1) hl3.2.2.1 hle3 hl3.1 (by rw [hl3.2.2.2.2, h1.2.2.2.2, h2.2.2.2.2]; rw [Int.add_comm]; exact add_parts hs2 hs1 (by rw [← hne]; cases b1 <;> cases b2 <;> rfl) (Nat.le_of_lt hlt))).mono ?_; rintro e w2 ⟨v2, rfl, ⟨b4, A4, c4, zs4, rfl, hsg4, hl4⟩, hb2⟩; have k2x := k1x.step hb2 rfl (by omega); have k2y := k1y.step hb2 rfl (by omega); have k2r := k1r.step hb2 rfl (by omega); obtain ⟨hx0, hx1⟩ := id k2x; obtain ⟨hy0, hy1⟩ := id k2y; obtain ⟨⟨hr0, hr1⟩, hf0, hf1⟩ := id k2r; obtain ⟨qx0, qx1⟩ := k2x.far (r := w.heap.size + 1 + 1) (by omega) (.bool b4) (.slice A4 zs4.length c4); obtain ⟨qy0, qy1⟩ := k2y.far (r := w.heap.size + 1 + 1) (by omega) (.bool b4) (.slice A4 zs4.length c4))))
  go_wp2
  refine bodyPost_ret (v := .agg #[.bool b4, .slice A4 zs4.length c4]) (by simp [results, Try.results39, go_sem, hr0, hr1]) rfl ?_
  exact ref_stored k2r hsg4 hl4 (below_then (begun_then H.out.1 hb1 rfl rfl rfl rfl) hb2) (by omega)
/-- x + y, whatever their signs. -/
theorem RAdd_any (v1 v2 : Value) (x y : Int) (m : Nat) (w : World) (h1 : RefAt w v1 x) (h2 : RefAt w v2 y) (hm : m ≤ 900000) (hx : x.natAbs < BD ^ m) (hy : y.natAbs < BD ^ m) :
    Calls Try.prog 39 #[v1, v2] w fun e w' => IsRef w w' (x + y) e := by
  obtain ⟨b1, A1, c1, zs1, rfl, hs1, hl1⟩ := h1
  obtain ⟨b2, A2, c2, zs2, rfl, hs2, hl2⟩ := h2
  have k1 := Nat.le_trans (hl1.len hx) hm
  have k2 := Nat.le_trans (hl2.len hy) hm
  rcases hb : (b1 == b2) with _ | _
  · rcases Nat.lt_or_ge x.natAbs y.natAbs with h | h
    · exact radd_lt b1 b2 A1 c1 zs1 A2 c2 zs2 x y w hs1 hs2 hb h hl1 hl2 k1 k2
    · exact radd_ge b1 b2 A1 c1 zs1 A2 c2 zs2 x y w hs1 hs2 hb h hl1 hl2 k1 k2
  · have e : b1 = b2 := by simpa using hb
    subst e
    exact radd_alike b1 A1 c1 zs1 A2 c2 zs2 x y w hs1 hs2 hl1 hl2 k1 k2
end Go.Proofs.Ytagmdeabneapaaa
