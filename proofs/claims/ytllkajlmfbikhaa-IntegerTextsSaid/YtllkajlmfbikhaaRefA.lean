/- Joined texts: Ref, RefNew, RDigs, RMinus, RAdd. -/
import Derived.Test.YtllkajlmfbikhaaDivide
import Derived.Maps.AppendAt
namespace Go.Proofs.Ytllkajlmfbikhaa
open Go.RowKit
set_option linter.unusedSimpArgs false

/-- The reference's base. -/
def BD : Nat := 65536
theorem BD_pos : 0 < BD := by decide
theorem BD_one : 1 < BD := by decide

/-- The slice value holds the reference's digits of n, without zeros at the top. -/
def Digs (w : World) (A : Option Addr) (c : Nat) (ds : List Nat) (n : Nat) : Prop :=
  ds.length ≤ c ∧ Nums w .i64 A ds ∧ Lm.Ok BD ds ∧ Lm.Top ds ∧ Lm.val BD ds = n
/-- The value is the reference's integer z. -/
def RefAt (w : World) (v : Value) (z : Int) : Prop :=
  ∃ b A c ds, v = .agg #[.bool b, .slice A ds.length c] ∧ SignOf b z ∧ Digs w A c ds z.natAbs
theorem Digs.step {W0 W w1 : World} {A : Option Addr} {c n : Nat} {ds : List Nat} (t : Digs W0 A c ds n) (hb : Below W.heap.size W w1) (hh : W.heap = W0.heap) : Digs w1 A c ds n := by
  have e : ∀ p, W.cell? p = W0.cell? p := fun p => by simp [World.cell?, hh]
  refine ⟨t.1, fun hn => ?_, t.2.2⟩
  obtain ⟨ad, ea, hlt, hc⟩ := t.2.1 hn
  rw [← hh] at hlt
  exact ⟨ad, ea, Nat.lt_of_lt_of_le hlt hb.size, fun j hj => ((hb.cell (by rw [block_of_add]; exact hlt)).trans (e _)).trans (hc j hj)⟩
theorem RefAt.step {W0 W w1 : World} {v : Value} {z : Int} (t : RefAt W0 v z) (hb : Below W.heap.size W w1) (hh : W.heap = W0.heap) : RefAt w1 v z := by
  obtain ⟨b, A, c, ds, e, hs, hd⟩ := t
  exact ⟨b, A, c, ds, e, hs, hd.step hb hh⟩
theorem RefAt.below {w w' : World} {v : Value} {z : Int} (h : RefAt w v z) (hb : Below w.heap.size w w') : RefAt w' v z := h.step hb rfl

set_option maxHeartbeats 400000 in
theorem trimmed_any (A : Option Addr) (c : Nat) (xs : List Nat) (w : World) (h : Nums w .i64 A xs) (hl : xs.length ≤ 1000000) (hc : xs.length ≤ c) :
    Calls Try.prog 112 #[.slice A xs.length c] w fun e w' => w = w' ∧ Trimmed A c xs e := by
  go_enter Try.func112, Try.ntmps112
  go_wp2
  go_loop [3] (fun i => ∃ k : Nat, i = .int .i64 k ∧ k ≤ xs.length ∧ ZeroFrom xs k) (fun i => (intOf i).toNat)
  case atStart => exact ⟨xs.length, rfl, Nat.le_refl _, fun i h1 h2 => by omega⟩
  case round =>
    obtain ⟨k, rfl, hk, hz⟩ := hrel
    by_cases h0 : 0 < k
    · obtain ⟨ad, rfl, _, hcell⟩ := h.at_ (j := k - 1) (by omega)
      have hcd := hcell (k - 1) (by omega)
      clear hcell
      obtain ⟨d, hd⟩ : ∃ d, xs.getD (k - 1) 0 = d := ⟨_, rfl⟩
      rw [hd] at hcd
      have HD := Lib.hid hd
      clear hd
      by_cases hd0 : d = 0
      · subst hd0
        go_wp2
        go_round
        case rel => exact ⟨k - 1, by go_num, by omega, zero_down h0 HD.out hz⟩
        case measure => simp [intOf]; omega
      · have hne : ((d : Int) == 0) = false := by simp; omega
        go_wp2
        go_ret
        exact ⟨rfl, k, rfl, hk, hz, fun _ => by rw [HD.out]; exact hd0⟩
    · obtain rfl : k = 0 := by omega
      go_wp2
      go_ret
      exact ⟨rfl, 0, rfl, hk, hz, fun h => absurd h (by omega)⟩

def IsRef (w w' : World) (z : Int) (e : Ending) : Prop := ∃ v, e = .returned v ∧ RefAt w' v z ∧ Below w.heap.size w w'

theorem ref_zero (w : World) (A : Option Addr) (c : Nat) : RefAt w (.agg #[.bool false, .slice A 0 c]) 0 := ⟨false, A, c, [], rfl, by simp [SignOf], by simp, Nums.nil _ _ _, Lm.Ok.nil _, Lm.Top.nil, rfl⟩

theorem digs_take {w : World} {A : Option Addr} {c : Nat} {xs : List Nat} {n : Nat} (h : Nums w .i64 A xs) (ho : Lm.Ok BD xs) (hc : xs.length ≤ c) (hn : n ≤ xs.length) (hz : ZeroFrom xs n) (hp : 0 < n → xs.getD (n - 1) 0 ≠ 0) :
    Digs w A c (xs.take n) (Lm.val BD xs) :=
  ⟨by rw [List.length_take]; omega, h.take n, ho.take n, top_take hn hp, Lm.val_cut n hn hz⟩
theorem ref_of {w : World} {A : Option Addr} {c : Nat} {zs : List Nat} {n : Nat} (b : Bool) (h : Digs w A c zs n) (hn : 0 < n) :
    RefAt w (.agg #[.bool b, .slice A zs.length c]) (ofSign b n) := by
  refine ⟨b, A, c, zs, rfl, ?_, ?_⟩
  · unfold SignOf
    cases b <;> simp [ofSign] <;> omega
  · have e : (ofSign b n).natAbs = n := by cases b <;> simp [ofSign]
    rw [e]
    exact h

set_option maxRecDepth 100000 in
set_option maxHeartbeats 1000000 in
theorem made_any (b : Bool) (A : Option Addr) (c : Nat) (xs : List Nat) (w : World) (h : Nums w .i64 A xs) (ho : Lm.Ok BD xs) (hl : xs.length ≤ 1000000) (hc : xs.length ≤ c) :
    Calls Try.prog 72 #[.bool b, .slice A xs.length c] w fun e w' => IsRef w w' (ofSign b (Lm.val BD xs)) e := by
  cases b
  · go_enter Try.func72, Try.ntmps72
    go_wp2_with fail
    refine (trimmed_any A c xs _ (h.alloc _) hl hc).mono ?_
    rintro e w' ⟨rfl, n, rfl, hn, hz, hp⟩
    have HZ := Lib.hid (And.intro hz hp)
    clear hz hp
    by_cases h0 : 0 < n
    · go_wp2
      refine bodyPost_ret (v := .agg #[.bool false, .slice A n c]) (by simp [results, Try.results72, go_sem]) rfl ⟨_, rfl, ?_, (Below.refl _ _).alloc (Nat.le_refl _) _⟩
      have hlim := (digs_take (h.alloc (.cells #[.bool false, .slice A n c] 31)) ho hc hn HZ.out.1 HZ.out.2)
      have hlen : (xs.take n).length = n := by rw [List.length_take]; omega
      have hpos : 0 < Lm.val BD xs := by
        rw [← hlim.2.2.2.2]
        exact Lm.val_pos BD_pos (by omega) hlim.2.2.2.1
      have hi := ref_of false hlim hpos
      rw [hlen] at hi
      exact hi
    · obtain rfl : n = 0 := by omega
      go_wp2
      refine bodyPost_ret (v := .agg #[.bool false, .slice A 0 c]) (by simp [results, Try.results72, go_sem]) rfl ⟨_, rfl, ?_, (Below.refl _ _).alloc (Nat.le_refl _) _⟩
      have hv : Lm.val BD xs = 0 := by
        rw [← Lm.val_cut 0 (Nat.zero_le _) HZ.out.1]
        rfl
      rw [hv]
      exact ref_zero _ _ _
  · go_enter Try.func72, Try.ntmps72
    go_wp2_with fail
    refine (trimmed_any A c xs _ (h.alloc _) hl hc).mono ?_
    rintro e w' ⟨rfl, n, rfl, hn, hz, hp⟩
    have HZ := Lib.hid (And.intro hz hp)
    clear hz hp
    by_cases h0 : 0 < n
    · go_wp2
      refine bodyPost_ret (v := .agg #[.bool true, .slice A n c]) (by simp [results, Try.results72, go_sem]) rfl ⟨_, rfl, ?_, (Below.refl _ _).alloc (Nat.le_refl _) _⟩
      have hlim := (digs_take (h.alloc (.cells #[.bool true, .slice A n c] 31)) ho hc hn HZ.out.1 HZ.out.2)
      have hlen : (xs.take n).length = n := by rw [List.length_take]; omega
      have hpos : 0 < Lm.val BD xs := by
        rw [← hlim.2.2.2.2]
        exact Lm.val_pos BD_pos (by omega) hlim.2.2.2.1
      have hi := ref_of true hlim hpos
      rw [hlen] at hi
      exact hi
    · obtain rfl : n = 0 := by omega
      go_wp2
      refine bodyPost_ret (v := .agg #[.bool false, .slice A 0 c]) (by simp [results, Try.results72, go_sem]) rfl ⟨_, rfl, ?_, (Below.refl _ _).alloc (Nat.le_refl _) _⟩
      have hv : Lm.val BD xs = 0 := by
        rw [← Lm.val_cut 0 (Nat.zero_le _) HZ.out.1]
        rfl
      rw [hv]
      exact ref_zero _ _ _

theorem Try.info3 : (Try.prog.info? 3).map (fun i => (i.zero, i.size, i.bytes)) = some (some (.int .i64 0), 1, 8) := by kernel_rfl

/-- The digits of n that have been told, and what is left of it. -/
def Told (n u : Nat) (ds : List Nat) : Prop := Lm.Ok BD ds ∧ Lm.val BD ds + BD ^ ds.length * u = n

theorem told_step {n u : Nat} {ds : List Nat} (h : Told n u ds) : Told n (u / BD) (ds ++ [u % BD]) := by
  refine ⟨h.1.append (.cons (Nat.mod_lt _ BD_pos) (.nil _)), ?_⟩
  rw [Lm.val_snoc, List.length_append, List.length_singleton, Nat.pow_succ, Nat.add_assoc, Nat.mul_assoc, ← Nat.mul_add, Nat.mod_add_div]
  exact h.2
theorem told_len {n u : Nat} {ds : List Nat} (h : Told n u ds) (hu : 0 < u) (hn : n < 18446744073709551616) : ds.length < 4 := by
  rcases Nat.lt_or_ge ds.length 4 with hlt | hge
  · exact hlt
  · have h1 : BD ^ 4 ≤ BD ^ ds.length := Nat.pow_le_pow_right BD_pos hge
    have h2 : BD ^ ds.length * 1 ≤ BD ^ ds.length * u := Nat.mul_le_mul_left _ hu
    have h3 : BD ^ 4 = 18446744073709551616 := by decide
    have := h.2
    omega
theorem told_end {n : Nat} {ds : List Nat} (h : Told n 0 ds) : Lm.val BD ds = n := by simpa using h.2
theorem cells_snoc (k : IntKind) (ds : List Nat) (d : Nat) (x : Int) (h : x = (d : Int)) : cellsOf k ds ++ [.int k x] = cellsOf k (ds ++ [d]) := by
  subst h
  simp [cellsOf]
theorem digit_mod (u : Nat) : (u : Int) % 65536 = ((u % BD : Nat) : Int) := by unfold BD; omega
theorem digit_div (u : Nat) : (u : Int) / 65536 = ((u / BD : Nat) : Int) := by unfold BD; omega

theorem ref_stored {w w2 : World} {r : Nat} {s : Bool} {A : Option Addr} {c : Nat} {zs : List Nat} {z : Int} (hk : Res w2 r) (hs : SignOf s z) (hl : Digs w2 A c zs z.natAbs)
    (hb : Below w.heap.size w w2) (hr : w.heap.size ≤ r) :
    IsRef w ((w2.setCell ⟨r, 0, none⟩ (.bool s)).setCell ⟨r, 1, none⟩ (.slice A zs.length c)) z (.returned (.agg #[.bool s, .slice A zs.length c])) :=
  ⟨_, rfl, ⟨s, A, c, zs, rfl, hs, hl.1, hl.2.1.res hk.1 _ _, hl.2.2⟩, (hb.setCell (p := ⟨r, 0, none⟩) hr _).setCell (p := ⟨r, 1, none⟩) hr _⟩

set_option maxRecDepth 100000 in
set_option maxHeartbeats 1000000 in
theorem RNew_neg (n : Nat) (w : World) (h : 0 < n) (h1 : n ≤ 9223372036854775808) : Calls Try.prog 18 #[.int .i64 (-(n : Int))] w fun e w' => IsRef w w' (-(n : Int)) e := by
  obtain ⟨i0, hi0, hz0, hz1, hz2⟩ := info_parts Try.info3
  have HI := Lib.hid (And.intro hi0 (And.intro hz0 (And.intro hz1 hz2)))
  have hr0 := Res.new w 31
  have H := Lib.hid hr0
  have HN := Lib.hid (And.intro h1 (wrap_neg n h h1))
  clear hr0 h1 hi0 hz0 hz1 hz2
  go_enter Try.func18, Try.ntmps18
  go_wp2
  rw [HN.out.2]
  go_loopw [3, 4] (fun uv dv wr => ∃ (u : Nat) (ds : List Nat), uv = .int .u64 u ∧ wr.ownsRow (w.heap.size + 1) 3 1 dv ds.length (cellsOf .i64 ds) ∧ Told n u ds ∧ u ≤ n ∧ ds.length ≤ 4 ∧ Below (w.heap.size + 1) (w.alloc (.cells #[.bool false, .slice none 0 0] 31)) wr) (fun uv _ _ => (intOf uv).toNat)
  case atStart => exact ⟨n, [], rfl, World.ownsRow_nil _ _ _ _, ⟨.nil _, by simp [Lm.val]⟩, Nat.le_refl _, by simp, Below.refl _ _⟩
  case round =>
    obtain ⟨u, ds, rfl, hown, htold, hun, hl4, hbel⟩ := hrel
    obtain ⟨A, c, rfl, hle⟩ := own_form hown
    have hsz : w.heap.size + 1 ≤ wr.heap.size := by have := hbel.size; simpa using this
    by_cases hu : 0 < u
    · have hlen := told_len htold hu (by have := HN.out.1; omega)
      have hub : u ≤ 9223372036854775808 := Nat.le_trans hun HN.out.1
      have HU := Lib.hid hub
      clear hub
      have hpos : (0 : Int) < (u : Int) := by omega
      go_wp2_with (at_builtin; refine wpList_append_own _ rfl _ _ 29 rfl (w.heap.size + 1) 3 i0 (.int .i64 0) 1 8 Try.underlying29 HI.out.1 HI.out.2.1 HI.out.2.2.1 HI.out.2.2.2 rfl (by decide) _ ds.length (cellsOf .i64 ds) rfl (hown.alloc _) ⟨wr.heap.size, 0, none⟩ 1 1 [.int .i64 ((u : Int) % 65536)] rfl rfl (cell_one_new _ _ _) (by simp [Value.oneCell']) (by unfold maxLen; omega) (by omega) (by simp; omega) ?_; intro v1 w1 hown1 hg1 _)
      go_roundw
      case rel =>
        refine ⟨u / BD, ds ++ [u % BD], ?_, ?_, told_step htold, Nat.le_trans (Nat.div_le_self _ _) hun, by simp; omega, (hbel.alloc hsz _).grown hg1 (by simp; omega) (fun k hk => (hown.lt k hk).1)⟩
        · have := HU.out
          rw [IntWalk.u64_in _ (by omega), digit_div]
        · rw [List.length_append, List.length_singleton, ← cells_snoc .i64 ds (u % BD) _ (digit_mod u)]
          exact hown1
      case measure => have := HU.out; rw [IntWalk.u64_in _ (by omega)]; simp [intOf]; omega
    · obtain rfl : u = 0 := by omega
      have hbel' : Below (w.alloc (.cells #[.bool false, .slice none 0 0] 31)).heap.size (w.alloc (.cells #[.bool false, .slice none 0 0] 31)) wr := by rw [size_alloc]; exact hbel
      have k1 := H.out.step hbel' rfl (by simp)
      have hm := made_any true A c ds wr (Nums.of_own hown rfl) htold.1 (by omega) hle
      have HM := Lib.hid (And.intro hm htold)
      clear hm
      go_wp2_with fail
      refine HM.out.1.mono ?_
      rintro e w2 ⟨v2, rfl, ⟨b4, A4, c4, zs4, rfl, hsg4, hl4⟩, hb2⟩
      have k2 := k1.step hb2 rfl (by omega)
      obtain ⟨⟨hr0, hr1⟩, hf0, hf1⟩ := id k2
      go_wp2
      refine bodyPost_ret (v := .agg #[.bool b4, .slice A4 zs4.length c4]) (by simp [results, Try.results18, go_sem, hr0, hr1]) rfl ?_
      have hz : ofSign true (Lm.val BD ds) = -(n : Int) := by rw [told_end HM.out.2]; rfl
      rw [hz] at hsg4 hl4
      exact ref_stored k2 hsg4 hl4 (below_then (below_then ((Below.refl _ _).alloc (Nat.le_refl _) _) hbel') hb2) (Nat.le_refl _)

set_option maxRecDepth 100000 in
set_option maxHeartbeats 1000000 in
theorem RNew_pos (n : Nat) (w : World) (h1 : n < 9223372036854775808) : Calls Try.prog 18 #[.int .i64 (n : Int)] w fun e w' => IsRef w w' (n : Int) e := by
  obtain ⟨i0, hi0, hz0, hz1, hz2⟩ := info_parts Try.info3
  have HI := Lib.hid (And.intro hi0 (And.intro hz0 (And.intro hz1 hz2)))
  have hr0 := Res.new w 31
  have H := Lib.hid hr0
  have HN := Lib.hid (And.intro (Nat.le_of_lt h1) (wrap_pos n h1))
  have h0 : (0 : Int) ≤ (n : Int) := Int.natCast_nonneg n
  clear hr0 h1 hi0 hz0 hz1 hz2
  go_enter Try.func18, Try.ntmps18
  go_wp2
  rw [HN.out.2]
  go_loopw [3, 4] (fun uv dv wr => ∃ (u : Nat) (ds : List Nat), uv = .int .u64 u ∧ wr.ownsRow (w.heap.size + 1) 3 1 dv ds.length (cellsOf .i64 ds) ∧ Told n u ds ∧ u ≤ n ∧ ds.length ≤ 4 ∧ Below (w.heap.size + 1) (w.alloc (.cells #[.bool false, .slice none 0 0] 31)) wr) (fun uv _ _ => (intOf uv).toNat)
  case atStart => exact ⟨n, [], rfl, World.ownsRow_nil _ _ _ _, ⟨.nil _, by simp [Lm.val]⟩, Nat.le_refl _, by simp, Below.refl _ _⟩
  case round =>
    obtain ⟨u, ds, rfl, hown, htold, hun, hl4, hbel⟩ := hrel
    obtain ⟨A, c, rfl, hle⟩ := own_form hown
    have hsz : w.heap.size + 1 ≤ wr.heap.size := by have := hbel.size; simpa using this
    by_cases hu : 0 < u
    · have hlen := told_len htold hu (by have := HN.out.1; omega)
      have hub : u ≤ 9223372036854775808 := Nat.le_trans hun HN.out.1
      have HU := Lib.hid hub
      clear hub
      have hpos : (0 : Int) < (u : Int) := by omega
      go_wp2_with (at_builtin; refine wpList_append_own _ rfl _ _ 29 rfl (w.heap.size + 1) 3 i0 (.int .i64 0) 1 8 Try.underlying29 HI.out.1 HI.out.2.1 HI.out.2.2.1 HI.out.2.2.2 rfl (by decide) _ ds.length (cellsOf .i64 ds) rfl (hown.alloc _) ⟨wr.heap.size, 0, none⟩ 1 1 [.int .i64 ((u : Int) % 65536)] rfl rfl (cell_one_new _ _ _) (by simp [Value.oneCell']) (by unfold maxLen; omega) (by omega) (by simp; omega) ?_; intro v1 w1 hown1 hg1 _)
      go_roundw
      case rel =>
        refine ⟨u / BD, ds ++ [u % BD], ?_, ?_, told_step htold, Nat.le_trans (Nat.div_le_self _ _) hun, by simp; omega, (hbel.alloc hsz _).grown hg1 (by simp; omega) (fun k hk => (hown.lt k hk).1)⟩
        · have := HU.out
          rw [IntWalk.u64_in _ (by omega), digit_div]
        · rw [List.length_append, List.length_singleton, ← cells_snoc .i64 ds (u % BD) _ (digit_mod u)]
          exact hown1
      case measure => have := HU.out; rw [IntWalk.u64_in _ (by omega)]; simp [intOf]; omega
    · obtain rfl : u = 0 := by omega
      have hbel' : Below (w.alloc (.cells #[.bool false, .slice none 0 0] 31)).heap.size (w.alloc (.cells #[.bool false, .slice none 0 0] 31)) wr := by rw [size_alloc]; exact hbel
      have k1 := H.out.step hbel' rfl (by simp)
      have hm := made_any false A c ds wr (Nums.of_own hown rfl) htold.1 (by omega) hle
      have HM := Lib.hid (And.intro hm htold)
      clear hm
      go_wp2_with fail
      refine HM.out.1.mono ?_
      rintro e w2 ⟨v2, rfl, ⟨b4, A4, c4, zs4, rfl, hsg4, hl4⟩, hb2⟩
      have k2 := k1.step hb2 rfl (by omega)
      obtain ⟨⟨hr0, hr1⟩, hf0, hf1⟩ := id k2
      go_wp2
      refine bodyPost_ret (v := .agg #[.bool b4, .slice A4 zs4.length c4]) (by simp [results, Try.results18, go_sem, hr0, hr1]) rfl ?_
      have hz : ofSign false (Lm.val BD ds) = (n : Int) := by rw [told_end HM.out.2]; rfl
      rw [hz] at hsg4 hl4
      exact ref_stored k2 hsg4 hl4 (below_then (below_then ((Below.refl _ _).alloc (Nat.le_refl _) _) hbel') hb2) (Nat.le_refl _)

theorem rshorter_lt {xs ys : List Nat} (hx : Lm.Ok BD xs) (ty : Lm.Top ys) (h : xs.length < ys.length) : Lm.val BD xs < Lm.val BD ys := by
  have h1 := Lm.val_lt hx
  have h2 := Lm.val_ge (b := BD) (by omega) ty
  have h3 : BD ^ xs.length ≤ BD ^ (ys.length - 1) := Nat.pow_le_pow_right BD_pos (by omega)
  omega

set_option maxHeartbeats 1000000 in
theorem rcompare_any (A : Option Addr) (c : Nat) (xs : List Nat) (A' : Option Addr) (c' : Nat) (ys : List Nat) (w : World) (hx : Nums w .i64 A xs) (hy : Nums w .i64 A' ys)
    (ox : Lm.Ok BD xs) (oy : Lm.Ok BD ys) (tx : Lm.Top xs) (ty : Lm.Top ys) (hl : xs.length ≤ 1000000) :
    Calls Try.prog 89 #[.slice A xs.length c, .slice A' ys.length c'] w fun e w' => IsOrd w w' (Lm.val BD xs) (Lm.val BD ys) e := by
  by_cases h1 : xs.length < ys.length
  · have ho := ord_lt (rshorter_lt ox ty h1)
    have HO := Lib.hid ho
    have hne : ((xs.length : Int) != (ys.length : Int)) = true := by rw [bne_iff_ne]; omega
    clear ho
    go_enter Try.func89, Try.ntmps89
    go_wp2
    go_ret
    exact ⟨.refl _, by rw [HO.out]; rfl⟩
  by_cases h2 : ys.length < xs.length
  · have ho := ord_gt (rshorter_lt oy tx h2)
    have HO := Lib.hid ho
    have hne : ((xs.length : Int) != (ys.length : Int)) = true := by rw [bne_iff_ne]; omega
    clear ho
    go_enter Try.func89, Try.ntmps89
    go_wp2
    go_ret
    exact ⟨.refl _, by rw [HO.out]; rfl⟩
  have hln : ys.length = xs.length := by omega
  have HL := Lib.hid hln
  rw [hln]
  clear hln h1 h2
  go_enter Try.func89, Try.ntmps89
  go_wp2
  go_loopw [5] (fun iv wr => ∃ k : Nat, iv = .int .i64 ((k : Int) - 1) ∧ k ≤ xs.length ∧ SameFrom xs ys k ∧ ∃ n, wr = w.drewN n) (fun iv _ => (intOf iv + 1).toNat)
  case atStart => exact ⟨xs.length, rfl, Nat.le_refl _, by unfold SameFrom; rw [List.drop_length, ← HL.out, List.drop_length], 0, rfl⟩
  case round =>
    obtain ⟨k, rfl, hk, hs, n, rfl⟩ := hrel
    by_cases h0 : 0 < k
    · obtain ⟨ad, rfl, _, hcx⟩ := hx.at_ (j := k - 1) (by omega)
      obtain ⟨ad', rfl, _, hcy⟩ := hy.at_ (j := k - 1) (by rw [HL.out]; omega)
      have hdx := hcx (k - 1) (by omega)
      have hdy := hcy (k - 1) (by rw [HL.out]; omega)
      clear hcx hcy
      obtain ⟨d, hd⟩ : ∃ d, xs.getD (k - 1) 0 = d := ⟨_, rfl⟩
      obtain ⟨y, hyd⟩ : ∃ y, ys.getD (k - 1) 0 = y := ⟨_, rfl⟩
      rw [hd] at hdx
      rw [hyd] at hdy
      have HD := Lib.hid hd
      have HY := Lib.hid hyd
      clear hd hyd
      obtain ⟨j, hj⟩ : ∃ j, k = j + 1 := ⟨k - 1, by omega⟩
      subst hj
      simp only [Nat.add_sub_cancel] at hdx hdy HD HY
      rw [show (((j + 1 : Nat) : Int) - 1) = (j : Int) from by omega]
      have hord : IsFirst xs ys j := ⟨by omega, by rw [HL.out]; omega, hs⟩
      clear hs
      by_cases hlt : d < y
      · go_wp2
        go_quiet (fail)
        go_wp2
        go_ret
        exact ⟨(Drew.mk _ _).more _, by rw [ord_lt (Lm.val_lt_of_top ox j hord.1 hord.2.1 hord.2.2 (by rw [HD.out, HY.out]; exact hlt))]; rfl⟩
      · by_cases hgt : y < d
        · go_wp2
          go_quiet (fail)
          go_wp2
          go_quiet (fail)
          go_wp2
          go_ret
          exact ⟨((Drew.mk _ _).more _).more _, by rw [ord_gt (Lm.val_lt_of_top oy j hord.2.1 hord.1 hord.2.2.symm (by rw [HD.out, HY.out]; exact hgt))]; rfl⟩
        · have heq : d = y := by omega
          subst heq
          go_wp2
          go_quiet (fail)
          go_wp2
          go_quiet (fail)
          go_wp2
          go_roundw
          case rel => exact ⟨j, rfl, by omega, same_down HL.out.symm (by omega) (k := j + 1) (by omega) hord.2.2 HD.out HY.out, _, rfl⟩
          case measure => simp [intOf]
    · obtain rfl : k = 0 := by omega
      have he : xs = ys := by simpa [SameFrom] using hs
      have HE := Lib.hid he
      clear he hs
      go_wp2
      go_ret
      exact ⟨.mk _ _, by rw [ord_eq (by rw [HE.out])]; rfl⟩

/-- MARK: a new row of digits of the number n, at most l of them. -/
def IsDigL (w w' : World) (n l : Nat) (e : Ending) : Prop :=
  ∃ A c ds, e = .returned (.slice A (List.length ds) c) ∧ ds.length ≤ c ∧ Nums w' .i64 A ds ∧ Lm.Ok BD ds ∧ Lm.val BD ds = n ∧ ds.length ≤ l ∧ Below w.heap.size w w'

theorem val_take_any (b : Nat) (xs : List Nat) (k : Nat) : Lm.val b (xs.take (k + 1)) = Lm.val b (xs.take k) + b ^ k * xs.getD k 0 := by
  by_cases h : k < xs.length
  · exact Lm.val_take_succ b xs k h
  · rw [List.take_of_length_le (by omega), List.take_of_length_le (by omega), List.getD_eq_getElem?_getD, List.getElem?_eq_none (by omega)]
    simp

structure Plus (xs ys ds : List Nat) (i c : Nat) : Prop where
  len : ds.length = i
  ok : Lm.Ok BD ds
  carry : c ≤ 1
  sum : Lm.val BD ds + BD ^ i * c = Lm.val BD (xs.take i) + Lm.val BD (ys.take i)

theorem Plus.step {xs ys ds : List Nat} {i c x y t : Nat} (h : Plus xs ys ds i c) (hx : xs.getD i 0 = x) (hy : ys.getD i 0 = y) (ht : t = c + x + y) (lx : x < BD) (ly : y < BD) : Plus xs ys (ds ++ [t % BD]) (i + 1) (t / BD) := by
  refine ⟨by rw [List.length_append, List.length_singleton, h.len], h.ok.append (.cons (Nat.mod_lt _ BD_pos) (.nil _)), ?_, ?_⟩
  · have := h.carry
    unfold BD at *
    omega
  · rw [val_take_any, val_take_any, hx, hy, Lm.val_snoc, h.len, Nat.pow_succ, Nat.add_assoc, Nat.mul_assoc, ← Nat.mul_add, Nat.mod_add_div, ht, Nat.mul_add, Nat.mul_add]
    have := h.sum
    omega
theorem far_zero {xs : List Nat} {i : Nat} (h : ¬ i < xs.length) : xs.getD i 0 = 0 := by
  rw [List.getD_eq_getElem?_getD, List.getElem?_eq_none (by omega)]
  rfl
theorem dig_lt {xs : List Nat} (ho : Lm.Ok BD xs) (k : Nat) : xs.getD k 0 < BD := ho.getD BD_pos k

set_option maxRecDepth 100000 in
set_option maxHeartbeats 4000000 in
theorem plus_any (A : Option Addr) (c : Nat) (xs : List Nat) (A' : Option Addr) (c' : Nat) (ys : List Nat) (L : Nat) (w : World) (hx : Nums w .i64 A xs) (hy : Nums w .i64 A' ys)
    (ox : Lm.Ok BD xs) (oy : Lm.Ok BD ys) (lx : xs.length ≤ L) (ly : ys.length ≤ L) (hL : L ≤ 1000000) :
    Calls Try.prog 88 #[.slice A xs.length c, .slice A' ys.length c'] w fun e w' => IsDigL w w' (Lm.val BD xs + Lm.val BD ys) (L + 1) e := by
  obtain ⟨i0, hi0, hz0, hz1, hz2⟩ := info_parts Try.info3
  have HI := Lib.hid (And.intro hi0 (And.intro hz0 (And.intro hz1 hz2)))
  have HX := Lib.hid (And.intro hx (And.intro hy (And.intro ox oy)))
  clear hi0 hz0 hz1 hz2 hx hy ox oy
  go_enter Try.func88, Try.ntmps88
  go_wp2
  go_loopw [5, 6, 7] (fun ov cv iv wr => ∃ (i q : Nat) (ds : List Nat), wr.ownsRow w.heap.size 3 1 ov ds.length (cellsOf .i64 ds) ∧ cv = .int .i64 q ∧ iv = .int .i64 i ∧ Plus xs ys ds i q ∧ i ≤ L + 1 ∧ (i = L + 1 → q = 0) ∧ Below w.heap.size w wr) (fun _ _ iv _ => L + 1 - (intOf iv).toNat)
  case atStart => exact ⟨0, 0, [], World.ownsRow_nil _ _ _ _, rfl, rfl, ⟨rfl, .nil _, by omega, by simp [Lm.val]⟩, by omega, fun _ => rfl, Below.refl _ _⟩
  case round =>
    obtain ⟨i, q, ds, hown, rfl, rfl, hplus, hi, hend, hbel⟩ := hrel
    obtain ⟨A5, c5, rfl, hle⟩ := own_form hown
    have hsz : w.heap.size ≤ wr.heap.size := hbel.size
    have hdl : ds.length ≤ 1000001 := by rw [hplus.len]; omega
    have q0 : (0 : Int) ≤ (q : Int) := Int.natCast_nonneg q
    have q1 : (q : Int) ≤ 1 := by have := hplus.carry; omega
    have HPL := Lib.hid (And.intro hplus (And.intro hbel hend))
    clear hplus hbel hend
    by_cases hxi : i < xs.length
    · obtain ⟨ad, rfl, _, hcx⟩ := (HX.out.1.below HPL.out.2.1).at_ hxi
      have hdx := hcx i hxi
      have hlx := dig_lt HX.out.2.2.1 i
      clear hcx
      obtain ⟨x, hx⟩ : ∃ x, xs.getD i 0 = x := ⟨_, rfl⟩
      rw [hx] at hdx hlx
      have x0 : (0 : Int) ≤ (x : Int) := Int.natCast_nonneg x
      have x1 : (x : Int) ≤ 65535 := by unfold BD at hlx; omega
      have HXD := Lib.hid (And.intro hx hlx)
      clear hx hlx
      by_cases hyi : i < ys.length
      · skip
        obtain ⟨ad', rfl, _, hcy⟩ := (HX.out.2.1.below HPL.out.2.1).at_ hyi
        have hdy := hcy i hyi
        have hly := dig_lt HX.out.2.2.2 i
        clear hcy
        obtain ⟨y, hy⟩ : ∃ y, ys.getD i 0 = y := ⟨_, rfl⟩
        rw [hy] at hdy hly
        have y0 : (0 : Int) ≤ (y : Int) := Int.natCast_nonneg y
        have y1 : (y : Int) ≤ 65535 := by unfold BD at hly; omega
        have HYD := Lib.hid (And.intro hy hly)
        clear hy hly
        go_wp2_with (at_builtin; refine wpList_append_own _ rfl _ _ 29 rfl w.heap.size 3 i0 (.int .i64 0) 1 8 Try.underlying29 HI.out.1 HI.out.2.1 HI.out.2.2.1 HI.out.2.2.2 rfl (by decide) _ ds.length (cellsOf .i64 ds) rfl (hown.alloc _) ⟨wr.heap.size, 0, none⟩ 1 1 [.int .i64 (((q : Int) + (x : Int) + (y : Int)) % 65536)] rfl rfl (cell_one_new _ _ _) (by simp [Value.oneCell']) (by unfold maxLen; omega) (by omega) (by simp; omega) ?_; intro v1 w1 hown1 hg1 _)
        go_roundw
        case rel =>
          have hst := HPL.out.1.step HXD.out.1 HYD.out.1 (t := q + x + y) (by omega) HXD.out.2 HYD.out.2
          refine ⟨i + 1, (q + x + y) / BD, ds ++ [(q + x + y) % BD], ?_, ?_, by go_num, hst, by omega, ?_, (HPL.out.2.1.alloc hsz _).grown hg1 (by simp; omega) (fun k hk => (hown.lt k hk).1)⟩
          · rw [List.length_append, List.length_singleton, ← cells_snoc .i64 ds ((q + x + y) % BD) (((q : Int) + (x : Int) + (y : Int)) % 65536) (by unfold BD; omega)]
            exact hown1
          · exact congrArg (Value.int IntKind.i64) (by unfold BD; omega)
          · intro h; exact absurd h (by omega)
        case measure => simp [intOf]; omega
      · have hfy := far_zero hyi
        have HYD := Lib.hid (And.intro hfy BD_pos)
        clear hfy
        go_wp2_with (at_builtin; refine wpList_append_own _ rfl _ _ 29 rfl w.heap.size 3 i0 (.int .i64 0) 1 8 Try.underlying29 HI.out.1 HI.out.2.1 HI.out.2.2.1 HI.out.2.2.2 rfl (by decide) _ ds.length (cellsOf .i64 ds) rfl (hown.alloc _) ⟨wr.heap.size, 0, none⟩ 1 1 [.int .i64 (((q : Int) + (x : Int)) % 65536)] rfl rfl (cell_one_new _ _ _) (by simp [Value.oneCell']) (by unfold maxLen; omega) (by omega) (by simp; omega) ?_; intro v1 w1 hown1 hg1 _)
        go_roundw
        case rel =>
          have hst := HPL.out.1.step HXD.out.1 HYD.out.1 (t := q + x) (by omega) HXD.out.2 HYD.out.2
          refine ⟨i + 1, (q + x) / BD, ds ++ [(q + x) % BD], ?_, ?_, by go_num, hst, by omega, ?_, (HPL.out.2.1.alloc hsz _).grown hg1 (by simp; omega) (fun k hk => (hown.lt k hk).1)⟩
          · rw [List.length_append, List.length_singleton, ← cells_snoc .i64 ds ((q + x) % BD) (((q : Int) + (x : Int)) % 65536) (by unfold BD; omega)]
            exact hown1
          · exact congrArg (Value.int IntKind.i64) (by unfold BD; omega)
          · intro h; exact absurd h (by omega)
        case measure => simp [intOf]; omega
    · have hfx := far_zero hxi
      have HXD := Lib.hid (And.intro hfx BD_pos)
      clear hfx
      by_cases hyi : i < ys.length
      · skip
        obtain ⟨ad', rfl, _, hcy⟩ := (HX.out.2.1.below HPL.out.2.1).at_ hyi
        have hdy := hcy i hyi
        have hly := dig_lt HX.out.2.2.2 i
        clear hcy
        obtain ⟨y, hy⟩ : ∃ y, ys.getD i 0 = y := ⟨_, rfl⟩
        rw [hy] at hdy hly
        have y0 : (0 : Int) ≤ (y : Int) := Int.natCast_nonneg y
        have y1 : (y : Int) ≤ 65535 := by unfold BD at hly; omega
        have HYD := Lib.hid (And.intro hy hly)
        clear hy hly
        go_wp2_with (at_builtin; refine wpList_append_own _ rfl _ _ 29 rfl w.heap.size 3 i0 (.int .i64 0) 1 8 Try.underlying29 HI.out.1 HI.out.2.1 HI.out.2.2.1 HI.out.2.2.2 rfl (by decide) _ ds.length (cellsOf .i64 ds) rfl (hown.alloc _) ⟨wr.heap.size, 0, none⟩ 1 1 [.int .i64 (((q : Int) + (y : Int)) % 65536)] rfl rfl (cell_one_new _ _ _) (by simp [Value.oneCell']) (by unfold maxLen; omega) (by omega) (by simp; omega) ?_; intro v1 w1 hown1 hg1 _)
        go_roundw
        case rel =>
          have hst := HPL.out.1.step HXD.out.1 HYD.out.1 (t := q + y) (by omega) HXD.out.2 HYD.out.2
          refine ⟨i + 1, (q + y) / BD, ds ++ [(q + y) % BD], ?_, ?_, by go_num, hst, by omega, ?_, (HPL.out.2.1.alloc hsz _).grown hg1 (by simp; omega) (fun k hk => (hown.lt k hk).1)⟩
          · rw [List.length_append, List.length_singleton, ← cells_snoc .i64 ds ((q + y) % BD) (((q : Int) + (y : Int)) % 65536) (by unfold BD; omega)]
            exact hown1
          · exact congrArg (Value.int IntKind.i64) (by unfold BD; omega)
          · intro h; exact absurd h (by omega)
        case measure => simp [intOf]; omega
      · have hfy := far_zero hyi
        have HYD := Lib.hid (And.intro hfy BD_pos)
        clear hfy
        by_cases hq : 0 < q
        · obtain rfl : q = 1 := by omega
          have HEQ := Lib.hid (show i ≤ L by have := HPL.out.2.2; omega)
          go_wp2_with (at_builtin; refine wpList_append_own _ rfl _ _ 29 rfl w.heap.size 3 i0 (.int .i64 0) 1 8 Try.underlying29 HI.out.1 HI.out.2.1 HI.out.2.2.1 HI.out.2.2.2 rfl (by decide) _ ds.length (cellsOf .i64 ds) rfl (hown.alloc _) ⟨wr.heap.size, 0, none⟩ 1 1 [.int .i64 1] rfl rfl (cell_one_new _ _ _) (by simp [Value.oneCell']) (by unfold maxLen; omega) (by omega) (by simp; omega) ?_; intro v1 w1 hown1 hg1 _)
          go_roundw
          case rel =>
            have hst := HPL.out.1.step HXD.out.1 HYD.out.1 (t := 1) (by rfl) HXD.out.2 HYD.out.2
            refine ⟨i + 1, (1) / BD, ds ++ [(1) % BD], ?_, ?_, by go_num, hst, by have := HEQ.out; omega, ?_, (HPL.out.2.1.alloc hsz _).grown hg1 (by simp; omega) (fun k hk => (hown.lt k hk).1)⟩
            · rw [List.length_append, List.length_singleton, ← cells_snoc .i64 ds ((1) % BD) 1 (by unfold BD; rfl)]
              exact hown1
            · exact congrArg (Value.int IntKind.i64) (by unfold BD; rfl)
            · intro _; unfold BD; rfl
          case measure => have := HEQ.out; simp [intOf]; omega
        · obtain rfl : q = 0 := by omega
          have HQ := Lib.hid (And.intro hxi hyi)
          go_wp2
          go_ret
          refine ⟨A5, c5, ds, rfl, hle, Nums.of_own hown rfl, HPL.out.1.ok, ?_, by have := HPL.out.1.len; omega, HPL.out.2.1⟩
          have := HPL.out.1.sum
          rw [List.take_of_length_le (by have := HQ.out.1; omega), List.take_of_length_le (by have := HQ.out.2; omega)] at this
          omega

structure Minus (xs ys ds : List Nat) (i q : Nat) : Prop where
  len : ds.length = i
  ok : Lm.Ok BD ds
  borrow : q ≤ 1
  sum : Lm.val BD ds + Lm.val BD (ys.take i) = Lm.val BD (xs.take i) + BD ^ i * q

theorem Minus.step {xs ys ds : List Nat} {i q x y d r : Nat} (h : Minus xs ys ds i q) (hx : xs.getD i 0 = x) (hy : ys.getD i 0 = y) (hd : d + q + y = x + BD * r) (ld : d < BD) (lr : r ≤ 1) : Minus xs ys (ds ++ [d]) (i + 1) r := by
  refine ⟨by rw [List.length_append, List.length_singleton, h.len], h.ok.append (.cons ld (.nil _)), lr, ?_⟩
  rw [val_take_any, val_take_any, hx, hy, Lm.val_snoc, h.len, Nat.pow_succ, Nat.mul_assoc]
  have h1 : BD ^ i * (d + q + y) = BD ^ i * (x + BD * r) := by rw [hd]
  rw [Nat.mul_add, Nat.mul_add, Nat.mul_add] at h1
  have := h.sum
  omega

theorem Minus.done_ {xs ys ds : List Nat} {q : Nat} (h : Minus xs ys ds xs.length q) (hl : ys.length ≤ xs.length) (hv : Lm.val BD ys ≤ Lm.val BD xs) : Lm.val BD ds = Lm.val BD xs - Lm.val BD ys := by
  have h1 := h.sum
  rw [List.take_length, List.take_of_length_le hl] at h1
  have h2 := Lm.val_lt h.ok
  rw [h.len] at h2
  have h3 := h.borrow
  rcases (show q = 0 ∨ q = 1 by omega) with rfl | rfl
  · omega
  · omega

/-- A row of digits of the number n, without zeros at the top. -/
def IsDigs (w w' : World) (n l : Nat) (e : Ending) : Prop :=
  ∃ A c ds, e = .returned (.slice A (List.length ds) c) ∧ Digs w' A c ds n ∧ ds.length ≤ l ∧ Below w.heap.size w w'

set_option maxRecDepth 100000 in
set_option maxHeartbeats 4000000 in
theorem minus_any (A : Option Addr) (c : Nat) (xs : List Nat) (A' : Option Addr) (c' : Nat) (ys : List Nat) (w : World) (hx : Nums w .i64 A xs) (hy : Nums w .i64 A' ys)
    (ox : Lm.Ok BD xs) (oy : Lm.Ok BD ys) (hl : ys.length ≤ xs.length) (hL : xs.length ≤ 1000000) (hv : Lm.val BD ys ≤ Lm.val BD xs) :
    Calls Try.prog 90 #[.slice A xs.length c, .slice A' ys.length c'] w fun e w' => IsDigs w w' (Lm.val BD xs - Lm.val BD ys) xs.length e := by
  obtain ⟨i0, hi0, hz0, hz1, hz2⟩ := info_parts Try.info3
  have HI := Lib.hid (And.intro hi0 (And.intro hz0 (And.intro hz1 hz2)))
  have HX := Lib.hid (And.intro hx (And.intro hy (And.intro ox (And.intro oy hv))))
  clear hi0 hz0 hz1 hz2 hx hy ox oy hv
  go_enter Try.func90, Try.ntmps90
  go_wp2
  go_loopw [5, 6, 7] (fun ov cv iv wr => ∃ (i q : Nat) (ds : List Nat), wr.ownsRow w.heap.size 3 1 ov ds.length (cellsOf .i64 ds) ∧ cv = .int .i64 q ∧ iv = .int .i64 i ∧ Minus xs ys ds i q ∧ i ≤ xs.length ∧ Below w.heap.size w wr) (fun _ _ iv _ => xs.length - (intOf iv).toNat)
  case atStart => exact ⟨0, 0, [], World.ownsRow_nil _ _ _ _, rfl, rfl, ⟨rfl, .nil _, by omega, by simp [Lm.val]⟩, Nat.zero_le _, Below.refl _ _⟩
  case round =>
    obtain ⟨i, q, ds, hown, rfl, rfl, hminus, hi, hbel⟩ := hrel
    obtain ⟨A5, c5, rfl, hle⟩ := own_form hown
    have hsz : w.heap.size ≤ wr.heap.size := hbel.size
    have hdl : ds.length ≤ 1000000 := by rw [hminus.len]; omega
    have q0 : (0 : Int) ≤ (q : Int) := Int.natCast_nonneg q
    have q1 : (q : Int) ≤ 1 := by have := hminus.borrow; omega
    have HPL := Lib.hid (And.intro hminus hbel)
    clear hminus hbel
    by_cases hxi : i < xs.length
    · obtain ⟨ad, rfl, _, hcx⟩ := (HX.out.1.below HPL.out.2).at_ hxi
      have hdx := hcx i hxi
      have hlx := dig_lt HX.out.2.2.1 i
      clear hcx
      obtain ⟨x, hx⟩ : ∃ x, xs.getD i 0 = x := ⟨_, rfl⟩
      rw [hx] at hdx hlx
      have x0 : (0 : Int) ≤ (x : Int) := Int.natCast_nonneg x
      have x1 : (x : Int) ≤ 65535 := by unfold BD at hlx; omega
      have HXD := Lib.hid (And.intro hx hlx)
      clear hx hlx
      by_cases hyi : i < ys.length
      · obtain ⟨ad', rfl, _, hcy⟩ := (HX.out.2.1.below HPL.out.2).at_ hyi
        have hdy := hcy i hyi
        have hly := dig_lt HX.out.2.2.2.1 i
        clear hcy
        obtain ⟨y, hy⟩ : ∃ y, ys.getD i 0 = y := ⟨_, rfl⟩
        rw [hy] at hdy hly
        have y0 : (0 : Int) ≤ (y : Int) := Int.natCast_nonneg y
        have y1 : (y : Int) ≤ 65535 := by unfold BD at hly; omega
        have HYD := Lib.hid (And.intro hy hly)
        clear hy hly
        by_cases hneg : ((x : Int) - (q : Int) - (y : Int)) < 0
        · have HN := Lib.hid (show x < q + y by omega)
          go_wp2_with (at_builtin; refine wpList_append_own _ rfl _ _ 29 rfl w.heap.size 3 i0 (.int .i64 0) 1 8 Try.underlying29 HI.out.1 HI.out.2.1 HI.out.2.2.1 HI.out.2.2.2 rfl (by decide) _ ds.length (cellsOf .i64 ds) rfl (hown.alloc _) ⟨wr.heap.size, 0, none⟩ 1 1 [.int .i64 (((x : Int) - (q : Int) - (y : Int)) + 65536)] rfl rfl (cell_one_new _ _ _) (by simp [Value.oneCell']) (by unfold maxLen; omega) (by omega) (by simp; omega) ?_; intro v1 w1 hown1 hg1 _)
          go_roundw
          case rel =>
            have hst := HPL.out.1.step HXD.out.1 HYD.out.1 (d := (x + BD - q - y)) (r := 1) (by (try unfold BD); have := HN.out; have := HXD.out.2; have := HYD.out.2; unfold BD at *; omega) (by (try unfold BD); have := HN.out; have := HXD.out.2; have := HYD.out.2; unfold BD at *; omega) (by omega)
            refine ⟨i + 1, 1, ds ++ [(x + BD - q - y)], ?_, rfl, by go_num, hst, by omega, (HPL.out.2.alloc hsz _).grown hg1 (by simp; omega) (fun k hk => (hown.lt k hk).1)⟩
            rw [List.length_append, List.length_singleton, ← cells_snoc .i64 ds (x + BD - q - y) (((x : Int) - (q : Int) - (y : Int)) + 65536) (by (try unfold BD); have := HN.out; have := HXD.out.2; have := HYD.out.2; unfold BD at *; omega)]
            exact hown1
          case measure => simp [intOf]; omega
        · have hneg' : (0 : Int) ≤ ((x : Int) - (q : Int) - (y : Int)) := by omega
          have HN := Lib.hid (show q + y ≤ x by omega)
          go_wp2_with (at_builtin; refine wpList_append_own _ rfl _ _ 29 rfl w.heap.size 3 i0 (.int .i64 0) 1 8 Try.underlying29 HI.out.1 HI.out.2.1 HI.out.2.2.1 HI.out.2.2.2 rfl (by decide) _ ds.length (cellsOf .i64 ds) rfl (hown.alloc _) ⟨wr.heap.size, 0, none⟩ 1 1 [.int .i64 ((x : Int) - (q : Int) - (y : Int))] rfl rfl (cell_one_new _ _ _) (by simp [Value.oneCell']) (by unfold maxLen; omega) (by omega) (by simp; omega) ?_; intro v1 w1 hown1 hg1 _)
          go_roundw
          case rel =>
            have hst := HPL.out.1.step HXD.out.1 HYD.out.1 (d := (x - q - y)) (r := 0) (by (try unfold BD); have := HN.out; have := HXD.out.2; have := HYD.out.2; unfold BD at *; omega) (by (try unfold BD); have := HN.out; have := HXD.out.2; have := HYD.out.2; unfold BD at *; omega) (by omega)
            refine ⟨i + 1, 0, ds ++ [(x - q - y)], ?_, rfl, by go_num, hst, by omega, (HPL.out.2.alloc hsz _).grown hg1 (by simp; omega) (fun k hk => (hown.lt k hk).1)⟩
            rw [List.length_append, List.length_singleton, ← cells_snoc .i64 ds (x - q - y) ((x : Int) - (q : Int) - (y : Int)) (by (try unfold BD); have := HN.out; have := HXD.out.2; have := HYD.out.2; unfold BD at *; omega)]
            exact hown1
          case measure => simp [intOf]; omega
      · have hfy := far_zero hyi
        have HYD := Lib.hid (And.intro hfy BD_pos)
        clear hfy
        by_cases hneg : ((x : Int) - (q : Int)) < 0
        · have HN := Lib.hid (show x < q + 0 by omega)
          go_wp2_with (at_builtin; refine wpList_append_own _ rfl _ _ 29 rfl w.heap.size 3 i0 (.int .i64 0) 1 8 Try.underlying29 HI.out.1 HI.out.2.1 HI.out.2.2.1 HI.out.2.2.2 rfl (by decide) _ ds.length (cellsOf .i64 ds) rfl (hown.alloc _) ⟨wr.heap.size, 0, none⟩ 1 1 [.int .i64 (((x : Int) - (q : Int)) + 65536)] rfl rfl (cell_one_new _ _ _) (by simp [Value.oneCell']) (by unfold maxLen; omega) (by omega) (by simp; omega) ?_; intro v1 w1 hown1 hg1 _)
          go_roundw
          case rel =>
            have hst := HPL.out.1.step HXD.out.1 HYD.out.1 (d := (x + BD - q - 0)) (r := 1) (by (try unfold BD); have := HN.out; have := HXD.out.2; have := HYD.out.2; unfold BD at *; omega) (by (try unfold BD); have := HN.out; have := HXD.out.2; have := HYD.out.2; unfold BD at *; omega) (by omega)
            refine ⟨i + 1, 1, ds ++ [(x + BD - q - 0)], ?_, rfl, by go_num, hst, by omega, (HPL.out.2.alloc hsz _).grown hg1 (by simp; omega) (fun k hk => (hown.lt k hk).1)⟩
            rw [List.length_append, List.length_singleton, ← cells_snoc .i64 ds (x + BD - q - 0) (((x : Int) - (q : Int)) + 65536) (by (try unfold BD); have := HN.out; have := HXD.out.2; have := HYD.out.2; unfold BD at *; omega)]
            exact hown1
          case measure => simp [intOf]; omega
        · have hneg' : (0 : Int) ≤ ((x : Int) - (q : Int)) := by omega
          have HN := Lib.hid (show q + 0 ≤ x by omega)
          go_wp2_with (at_builtin; refine wpList_append_own _ rfl _ _ 29 rfl w.heap.size 3 i0 (.int .i64 0) 1 8 Try.underlying29 HI.out.1 HI.out.2.1 HI.out.2.2.1 HI.out.2.2.2 rfl (by decide) _ ds.length (cellsOf .i64 ds) rfl (hown.alloc _) ⟨wr.heap.size, 0, none⟩ 1 1 [.int .i64 ((x : Int) - (q : Int))] rfl rfl (cell_one_new _ _ _) (by simp [Value.oneCell']) (by unfold maxLen; omega) (by omega) (by simp; omega) ?_; intro v1 w1 hown1 hg1 _)
          go_roundw
          case rel =>
            have hst := HPL.out.1.step HXD.out.1 HYD.out.1 (d := (x - q - 0)) (r := 0) (by (try unfold BD); have := HN.out; have := HXD.out.2; have := HYD.out.2; unfold BD at *; omega) (by (try unfold BD); have := HN.out; have := HXD.out.2; have := HYD.out.2; unfold BD at *; omega) (by omega)
            refine ⟨i + 1, 0, ds ++ [(x - q - 0)], ?_, rfl, by go_num, hst, by omega, (HPL.out.2.alloc hsz _).grown hg1 (by simp; omega) (fun k hk => (hown.lt k hk).1)⟩
            rw [List.length_append, List.length_singleton, ← cells_snoc .i64 ds (x - q - 0) ((x : Int) - (q : Int)) (by (try unfold BD); have := HN.out; have := HXD.out.2; have := HYD.out.2; unfold BD at *; omega)]
            exact hown1
          case measure => simp [intOf]; omega
    · obtain rfl : i = xs.length := by omega
      have htr := trimmed_any A5 c5 ds wr (Nums.of_own hown rfl) (by omega) hle
      have HT := Lib.hid (And.intro htr (Nums.of_own hown rfl : Nums wr .i64 A5 ds))
      have HLE := Lib.hid hle
      clear htr hle
      go_wp2_with fail
      refine HT.out.1.mono ?_
      rintro e w' ⟨rfl, n, rfl, hn, hz, hp⟩
      have HZ := Lib.hid (And.intro hz hp)
      clear hz hp
      go_wp2
      go_ret
      have hd := digs_take HT.out.2 HPL.out.1.ok HLE.out hn HZ.out.1 HZ.out.2
      rw [HPL.out.1.done_ hl HX.out.2.2.2.2] at hd
      have hlen : (ds.take n).length = n := by rw [List.length_take]; omega
      refine ⟨A5, c5, ds.take n, by rw [hlen]; rfl, hd, by have := HPL.out.1.len; rw [hlen]; omega, HPL.out.2⟩

theorem Digs.len {w : World} {A : Option Addr} {c n m : Nat} {ds : List Nat} (h : Digs w A c ds n) (hs : n < BD ^ m) : ds.length ≤ m := by
  rcases Nat.lt_or_ge m ds.length with hlt | hge
  · have h1 := Lm.val_ge (b := BD) (Nat.lt_of_le_of_lt (Nat.zero_le _) hlt) h.2.2.2.1
    rw [h.2.2.2.2] at h1
    have h2 : BD ^ m ≤ BD ^ (ds.length - 1) := Nat.pow_le_pow_right BD_pos (by omega)
    omega
  · exact hge
theorem Digs.shorter {w : World} {A A' : Option Addr} {c c' n n' : Nat} {zs zs' : List Nat} (h : Digs w A c zs n) (h' : Digs w A' c' zs' n') (hle : n' ≤ n) : zs'.length ≤ zs.length :=
  Lm.len_of_val BD_one h.2.2.1 h'.2.2.2.1 (by rw [h.2.2.2.2, h'.2.2.2.2]; exact hle)
theorem made_to (b : Bool) (A : Option Addr) (c : Nat) (xs : List Nat) (z : Int) (w : World) (h : Nums w .i64 A xs) (ho : Lm.Ok BD xs) (hl : xs.length ≤ 1000000) (hc : xs.length ≤ c) (hz : ofSign b (Lm.val BD xs) = z) :
    Calls Try.prog 72 #[.bool b, .slice A xs.length c] w fun e w' => IsRef w w' z e := by
  subst hz
  exact made_any b A c xs w h ho hl hc

theorem rcompare_ge (A : Option Addr) (c : Nat) (xs : List Nat) (A' : Option Addr) (c' : Nat) (ys : List Nat) (w : World) (hx : Nums w .i64 A xs) (hy : Nums w .i64 A' ys)
    (ox : Lm.Ok BD xs) (oy : Lm.Ok BD ys) (tx : Lm.Top xs) (ty : Lm.Top ys) (hl : xs.length ≤ 1000000) (h : Lm.val BD ys ≤ Lm.val BD xs) :
    Calls Try.prog 89 #[.slice A xs.length c, .slice A' ys.length c'] w fun e w' => Drew w w' ∧ ∃ k : Int, 0 ≤ k ∧ e = .returned (.int .i64 k) :=
  (rcompare_any A c xs A' c' ys w hx hy ox oy tx ty hl).mono fun _ _ ⟨hd, he⟩ => ⟨hd, _, ord_nonneg h, he⟩
theorem rcompare_lt (A : Option Addr) (c : Nat) (xs : List Nat) (A' : Option Addr) (c' : Nat) (ys : List Nat) (w : World) (hx : Nums w .i64 A xs) (hy : Nums w .i64 A' ys)
    (ox : Lm.Ok BD xs) (oy : Lm.Ok BD ys) (tx : Lm.Top xs) (ty : Lm.Top ys) (hl : xs.length ≤ 1000000) (h : Lm.val BD xs < Lm.val BD ys) :
    Calls Try.prog 89 #[.slice A xs.length c, .slice A' ys.length c'] w fun e w' => Drew w w' ∧ e = .returned (.int .i64 (-1)) :=
  (rcompare_any A c xs A' c' ys w hx hy ox oy tx ty hl).mono fun _ _ ⟨hd, he⟩ => ⟨hd, by rw [he, ord_lt h]⟩

set_option maxRecDepth 100000 in
set_option maxHeartbeats 2000000 in
theorem radd_alike (b : Bool) (A1 : Option Addr) (c1 : Nat) (zs1 : List Nat) (A2 : Option Addr) (c2 : Nat) (zs2 : List Nat) (x y : Int) (w : World) (hs1 : SignOf b x) (hs2 : SignOf b y)
    (h1 : Digs w A1 c1 zs1 x.natAbs) (h2 : Digs w A2 c2 zs2 y.natAbs) (hl1 : zs1.length ≤ 900000) (hl2 : zs2.length ≤ 900000) :
    Calls Try.prog 39 #[.agg #[.bool b, .slice A1 zs1.length c1], .agg #[.bool b, .slice A2 zs2.length c2]] w fun e w' => IsRef w w' (x + y) e := by
  have hbb := begun2_below w (.bool b) (.slice A1 zs1.length c1) (.bool b) (.slice A2 zs2.length c2) 31
  have hx0 := begun2_x w (.bool b) (.slice A1 zs1.length c1) (.bool b) (.slice A2 zs2.length c2) 31
  have hy0 := begun2_y w (.bool b) (.slice A1 zs1.length c1) (.bool b) (.slice A2 zs2.length c2) 31
  have hr0 := begun2_r w (.bool b) (.slice A1 zs1.length c1) (.bool b) (.slice A2 zs2.length c2) 31
  have hsz := begun2_size w (.bool b) (.slice A1 zs1.length c1) (.bool b) (.slice A2 zs2.length c2) 31
  have hn1 := h1.2.1.below hbb
  have hn2 := h2.2.1.below hbb
  have H := Lib.hid (And.intro hbb (And.intro hx0 (And.intro hy0 (And.intro hr0 hsz))))
  clear hbb hx0 hy0 hr0 hsz
  go_enter Try.func39, Try.ntmps39
  go_wp2_with fail
  go_region_held3 (fun w' => w'.cell? ⟨w.heap.size, 0, none⟩ = some (.bool b) ∧ w'.cell? ⟨w.heap.size, 1, none⟩ = some (.slice A1 zs1.length c1) ∧ w'.cell? ⟨w.heap.size + 1, 0, none⟩ = some (.bool b) ∧ w'.cell? ⟨w.heap.size + 1, 1, none⟩ = some (.slice A2 zs2.length c2))
    (((try dsimp only); (repeat' apply And.intro) <;> (first | (with_reducible assumption) | go_keep)))
    ((first | (go_at_call 88; refine (plus_any A1 c1 zs1 A2 c2 zs2 900000 _ (by exact hn1) (by exact hn2) h1.2.2.1 h2.2.2.1 hl1 hl2 (by decide)).mono ?_; rintro e w1 ⟨A3, c3, zs3, rfl, hc3, hn3, ho3, hv3, hle3', hb1⟩; have k1x := H.out.2.1.step hb1 rfl (by rw [H.out.2.2.2.2]; (try omega)); have k1y := H.out.2.2.1.step hb1 rfl (by rw [H.out.2.2.2.2]; (try omega)); have k1r := H.out.2.2.2.1.step hb1 rfl (by rw [H.out.2.2.2.2]; (try omega)); obtain ⟨px0, px1⟩ := id k1x; obtain ⟨py0, py1⟩ := id k1y; have hle3 : zs3.length ≤ 1000000 := (by omega); have hs1' : w.heap.size + 3 ≤ w1.heap.size := Nat.le_trans (Nat.le_of_eq H.out.2.2.2.2.symm) hb1.size) | (go_at_call 72; refine (made_to b A3 c3 zs3 (x + y) _ (by exact hn3) ho3 hle3 hc3 (by rw [hv3, h1.2.2.2.2, h2.2.2.2.2]; exact add_same hs1 hs2)).mono ?_; rintro e w2 ⟨v2, rfl, ⟨b4, A4, c4, zs4, rfl, hsg4, hl4⟩, hb2⟩; have k2x := k1x.step hb2 rfl (by omega); have k2y := k1y.step hb2 rfl (by omega); have k2r := k1r.step hb2 rfl (by omega); obtain ⟨hx0, hx1⟩ := id k2x; obtain ⟨hy0, hy1⟩ := id k2y; obtain ⟨⟨hr0, hr1⟩, hf0, hf1⟩ := id k2r; obtain ⟨qx0, qx1⟩ := k2x.far (r := w.heap.size + 1 + 1) (by omega) (.bool b4) (.slice A4 zs4.length c4); obtain ⟨qy0, qy1⟩ := k2y.far (r := w.heap.size + 1 + 1) (by omega) (.bool b4) (.slice A4 zs4.length c4))))
  go_wp2
  refine bodyPost_ret (v := .agg #[.bool b4, .slice A4 zs4.length c4]) (by simp [results, Try.results39, go_sem, hr0, hr1]) rfl ?_
  exact ref_stored k2r hsg4 hl4 (below_then (below_then H.out.1.drew hb1) hb2) (by omega)
set_option maxRecDepth 100000 in
set_option maxHeartbeats 2000000 in
theorem radd_ge (b1 b2 : Bool) (A1 : Option Addr) (c1 : Nat) (zs1 : List Nat) (A2 : Option Addr) (c2 : Nat) (zs2 : List Nat) (x y : Int) (w : World) (hs1 : SignOf b1 x) (hs2 : SignOf b2 y) (hne : (b1 == b2) = false) (hge : y.natAbs ≤ x.natAbs)
    (h1 : Digs w A1 c1 zs1 x.natAbs) (h2 : Digs w A2 c2 zs2 y.natAbs) (hl1 : zs1.length ≤ 900000) (_hl2 : zs2.length ≤ 900000) :
    Calls Try.prog 39 #[.agg #[.bool b1, .slice A1 zs1.length c1], .agg #[.bool b2, .slice A2 zs2.length c2]] w fun e w' => IsRef w w' (x + y) e := by
  have hbb := begun2_below w (.bool b1) (.slice A1 zs1.length c1) (.bool b2) (.slice A2 zs2.length c2) 31
  have hx0 := begun2_x w (.bool b1) (.slice A1 zs1.length c1) (.bool b2) (.slice A2 zs2.length c2) 31
  have hy0 := begun2_y w (.bool b1) (.slice A1 zs1.length c1) (.bool b2) (.slice A2 zs2.length c2) 31
  have hr0 := begun2_r w (.bool b1) (.slice A1 zs1.length c1) (.bool b2) (.slice A2 zs2.length c2) 31
  have hsz := begun2_size w (.bool b1) (.slice A1 zs1.length c1) (.bool b2) (.slice A2 zs2.length c2) 31
  have hn1 := h1.2.1.below hbb
  have hn2 := h2.2.1.below hbb
  have H := Lib.hid (And.intro hbb (And.intro hx0 (And.intro hy0 (And.intro hr0 hsz))))
  clear hbb hx0 hy0 hr0 hsz
  go_enter Try.func39, Try.ntmps39
  go_wp2_with fail
  refine (rcompare_ge A1 c1 zs1 A2 c2 zs2 _ (by exact hn1) (by exact hn2) h1.2.2.1 h2.2.2.1 h1.2.2.2.1 h2.2.2.2.1 (by omega) (by rw [h1.2.2.2.2, h2.2.2.2.2]; exact hge)).mono ?_
  rintro e w' ⟨⟨n, rfl⟩, k, hk, rfl⟩
  go_wp2_with fail
  go_region_held3 (fun w' => w'.cell? ⟨w.heap.size, 0, none⟩ = some (.bool b1) ∧ w'.cell? ⟨w.heap.size, 1, none⟩ = some (.slice A1 zs1.length c1) ∧ w'.cell? ⟨w.heap.size + 1, 0, none⟩ = some (.bool b2) ∧ w'.cell? ⟨w.heap.size + 1, 1, none⟩ = some (.slice A2 zs2.length c2))
    (((try dsimp only); (repeat' apply And.intro) <;> (first | (with_reducible assumption) | go_keep)))
    ((first | (go_at_call 90; refine (minus_any A1 c1 zs1 A2 c2 zs2 _ (by exact hn1) (by exact hn2) h1.2.2.1 h2.2.2.1 (h1.shorter h2 hge) (by omega) (by rw [h1.2.2.2.2, h2.2.2.2.2]; exact hge)).mono ?_; rintro e w1 ⟨A3, c3, zs3, rfl, hl3, hle3', hb1⟩; have k1x := H.out.2.1.step hb1 rfl (by rw [H.out.2.2.2.2]; (try omega)); have k1y := H.out.2.2.1.step hb1 rfl (by rw [H.out.2.2.2.2]; (try omega)); have k1r := H.out.2.2.2.1.step hb1 rfl (by rw [H.out.2.2.2.2]; (try omega)); obtain ⟨px0, px1⟩ := id k1x; obtain ⟨py0, py1⟩ := id k1y; have hle3 : zs3.length ≤ 1000000 := (by omega); have hs1' : w.heap.size + 3 ≤ w1.heap.size := Nat.le_trans (Nat.le_of_eq H.out.2.2.2.2.symm) hb1.size) | (go_at_call 72; refine (made_to b1 A3 c3 zs3 (x + y) _ (by exact hl3.2.1) hl3.2.2.1 hle3 hl3.1 (by rw [hl3.2.2.2.2, h1.2.2.2.2, h2.2.2.2.2]; exact add_parts hs1 hs2 hne hge)).mono ?_; rintro e w2 ⟨v2, rfl, ⟨b4, A4, c4, zs4, rfl, hsg4, hl4⟩, hb2⟩; have k2x := k1x.step hb2 rfl (by omega); have k2y := k1y.step hb2 rfl (by omega); have k2r := k1r.step hb2 rfl (by omega); obtain ⟨hx0, hx1⟩ := id k2x; obtain ⟨hy0, hy1⟩ := id k2y; obtain ⟨⟨hr0, hr1⟩, hf0, hf1⟩ := id k2r; obtain ⟨qx0, qx1⟩ := k2x.far (r := w.heap.size + 1 + 1) (by omega) (.bool b4) (.slice A4 zs4.length c4); obtain ⟨qy0, qy1⟩ := k2y.far (r := w.heap.size + 1 + 1) (by omega) (.bool b4) (.slice A4 zs4.length c4))))
  go_wp2
  refine bodyPost_ret (v := .agg #[.bool b4, .slice A4 zs4.length c4]) (by simp [results, Try.results39, go_sem, hr0, hr1]) rfl ?_
  exact ref_stored k2r hsg4 hl4 (below_then (begun_then H.out.1 hb1 rfl rfl rfl rfl) hb2) (by omega)
set_option maxRecDepth 100000 in
set_option maxHeartbeats 2000000 in
theorem radd_lt (b1 b2 : Bool) (A1 : Option Addr) (c1 : Nat) (zs1 : List Nat) (A2 : Option Addr) (c2 : Nat) (zs2 : List Nat) (x y : Int) (w : World) (hs1 : SignOf b1 x) (hs2 : SignOf b2 y) (hne : (b1 == b2) = false) (hlt : x.natAbs < y.natAbs)
    (h1 : Digs w A1 c1 zs1 x.natAbs) (h2 : Digs w A2 c2 zs2 y.natAbs) (hl1 : zs1.length ≤ 900000) (hl2 : zs2.length ≤ 900000) :
    Calls Try.prog 39 #[.agg #[.bool b1, .slice A1 zs1.length c1], .agg #[.bool b2, .slice A2 zs2.length c2]] w fun e w' => IsRef w w' (x + y) e := by
  have hbb := begun2_below w (.bool b1) (.slice A1 zs1.length c1) (.bool b2) (.slice A2 zs2.length c2) 31
  have hx0 := begun2_x w (.bool b1) (.slice A1 zs1.length c1) (.bool b2) (.slice A2 zs2.length c2) 31
  have hy0 := begun2_y w (.bool b1) (.slice A1 zs1.length c1) (.bool b2) (.slice A2 zs2.length c2) 31
  have hr0 := begun2_r w (.bool b1) (.slice A1 zs1.length c1) (.bool b2) (.slice A2 zs2.length c2) 31
  have hsz := begun2_size w (.bool b1) (.slice A1 zs1.length c1) (.bool b2) (.slice A2 zs2.length c2) 31
  have hn1 := h1.2.1.below hbb
  have hn2 := h2.2.1.below hbb
  have H := Lib.hid (And.intro hbb (And.intro hx0 (And.intro hy0 (And.intro hr0 hsz))))
  clear hbb hx0 hy0 hr0 hsz
  go_enter Try.func39, Try.ntmps39
  go_wp2_with fail
  refine (rcompare_lt A1 c1 zs1 A2 c2 zs2 _ (by exact hn1) (by exact hn2) h1.2.2.1 h2.2.2.1 h1.2.2.2.1 h2.2.2.2.1 (by omega) (by rw [h1.2.2.2.2, h2.2.2.2.2]; exact hlt)).mono ?_
  rintro e w' ⟨⟨n, rfl⟩, rfl⟩
  go_wp2_with fail
  go_region_held3 (fun w' => w'.cell? ⟨w.heap.size, 0, none⟩ = some (.bool b1) ∧ w'.cell? ⟨w.heap.size, 1, none⟩ = some (.slice A1 zs1.length c1) ∧ w'.cell? ⟨w.heap.size + 1, 0, none⟩ = some (.bool b2) ∧ w'.cell? ⟨w.heap.size + 1, 1, none⟩ = some (.slice A2 zs2.length c2))
    (((try dsimp only); (repeat' apply And.intro) <;> (first | (with_reducible assumption) | go_keep)))
    ((first | (go_at_call 90; refine (minus_any A2 c2 zs2 A1 c1 zs1 _ (by exact hn2) (by exact hn1) h2.2.2.1 h1.2.2.1 (h2.shorter h1 (Nat.le_of_lt hlt)) (by omega) (by rw [h1.2.2.2.2, h2.2.2.2.2]; exact Nat.le_of_lt hlt)).mono ?_; rintro e w1 ⟨A3, c3, zs3, rfl, hl3, hle3', hb1⟩; have k1x := H.out.2.1.step hb1 rfl (by rw [H.out.2.2.2.2]; (try omega)); have k1y := H.out.2.2.1.step hb1 rfl (by rw [H.out.2.2.2.2]; (try omega)); have k1r := H.out.2.2.2.1.step hb1 rfl (by rw [H.out.2.2.2.2]; (try omega)); obtain ⟨px0, px1⟩ := id k1x; obtain ⟨py0, py1⟩ := id k1y; have hle3 : zs3.length ≤ 1000000 := (by omega); have hs1' : w.heap.size + 3 ≤ w1.heap.size := Nat.le_trans (Nat.le_of_eq H.out.2.2.2.2.symm) hb1.size) | (go_at_call 72; refine (made_to b2 A3 c3 zs3 (x + y) _ (by exact hl3.2.1) hl3.2.2.1 hle3 hl3.1 (by rw [hl3.2.2.2.2, h1.2.2.2.2, h2.2.2.2.2]; rw [Int.add_comm]; exact add_parts hs2 hs1 (by rw [← hne]; cases b1 <;> cases b2 <;> rfl) (Nat.le_of_lt hlt))).mono ?_; rintro e w2 ⟨v2, rfl, ⟨b4, A4, c4, zs4, rfl, hsg4, hl4⟩, hb2⟩; have k2x := k1x.step hb2 rfl (by omega); have k2y := k1y.step hb2 rfl (by omega); have k2r := k1r.step hb2 rfl (by omega); obtain ⟨hx0, hx1⟩ := id k2x; obtain ⟨hy0, hy1⟩ := id k2y; obtain ⟨⟨hr0, hr1⟩, hf0, hf1⟩ := id k2r; obtain ⟨qx0, qx1⟩ := k2x.far (r := w.heap.size + 1 + 1) (by omega) (.bool b4) (.slice A4 zs4.length c4); obtain ⟨qy0, qy1⟩ := k2y.far (r := w.heap.size + 1 + 1) (by omega) (.bool b4) (.slice A4 zs4.length c4))))
  go_wp2
  refine bodyPost_ret (v := .agg #[.bool b4, .slice A4 zs4.length c4]) (by simp [results, Try.results39, go_sem, hr0, hr1]) rfl ?_
  exact ref_stored k2r hsg4 hl4 (below_then (begun_then H.out.1 hb1 rfl rfl rfl rfl) hb2) (by omega)
/-- x + y, whatever their signs. -/
theorem RAdd_any (v1 v2 : Value) (x y : Int) (m : Nat) (w : World) (h1 : RefAt w v1 x) (h2 : RefAt w v2 y) (hm : m ≤ 900000) (hx : x.natAbs < BD ^ m) (hy : y.natAbs < BD ^ m) :
    Calls Try.prog 39 #[v1, v2] w fun e w' => IsRef w w' (x + y) e := by
  obtain ⟨b1, A1, c1, zs1, rfl, hs1, hl1⟩ := h1
  obtain ⟨b2, A2, c2, zs2, rfl, hs2, hl2⟩ := h2
  have k1 := Nat.le_trans (hl1.len hx) hm
  have k2 := Nat.le_trans (hl2.len hy) hm
  rcases hb : (b1 == b2) with _ | _
  · rcases Nat.lt_or_ge x.natAbs y.natAbs with h | h
    · exact radd_lt b1 b2 A1 c1 zs1 A2 c2 zs2 x y w hs1 hs2 hb h hl1 hl2 k1 k2
    · exact radd_ge b1 b2 A1 c1 zs1 A2 c2 zs2 x y w hs1 hs2 hb h hl1 hl2 k1 k2
  · have e : b1 = b2 := by simpa using hb
    subst e
    exact radd_alike b1 A1 c1 zs1 A2 c2 zs2 x y w hs1 hs2 hl1 hl2 k1 k2
end Go.Proofs.Ytllkajlmfbikhaa
