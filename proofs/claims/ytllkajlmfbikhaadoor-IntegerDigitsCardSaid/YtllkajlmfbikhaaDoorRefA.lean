/- Joined texts: Ref, RefNew, RDigs, RMinus, RAdd. -/
import Derived.Test.YtllkajlmfbikhaaDoorDivide
import Derived.Maps.AppendAt
namespace Go.Proofs.YtllkajlmfbikhaaDoor
open Go.RowKit
set_option linter.unusedSimpArgs false

/-- The reference's base. -/
def BD : Nat := 65536
theorem BD_pos : 0 < BD := by decide
theorem BD_one : 1 < BD := by decide

/-- The slice value holds the reference's digits of n, without zeros at the top. -/
def Digs (w : World) (A : Option Addr) (c : Nat) (ds : List Nat) (n : Nat) : Prop :=
  ds.length ≤ c ∧ Nums w .i64 A ds ∧ Lm.Ok BD ds ∧ Lm.Top ds ∧ Lm.val BD ds = n
/-- The value is the reference's integer z. -/
def RefAt (w : World) (v : Value) (z : Int) : Prop :=
  ∃ b A c ds, v = .agg #[.bool b, .slice A ds.length c] ∧ SignOf b z ∧ Digs w A c ds z.natAbs
theorem Digs.step {W0 W w1 : World} {A : Option Addr} {c n : Nat} {ds : List Nat} (t : Digs W0 A c ds n) (hb : Below W.heap.size W w1) (hh : W.heap = W0.heap) : Digs w1 A c ds n := by
  have e : ∀ p, W.cell? p = W0.cell? p := fun p => by simp [World.cell?, hh]
  refine ⟨t.1, fun hn => ?_, t.2.2⟩
  obtain ⟨ad, ea, hlt, hc⟩ := t.2.1 hn
  rw [← hh] at hlt
  exact ⟨ad, ea, Nat.lt_of_lt_of_le hlt hb.size, fun j hj => ((hb.cell (by rw [block_of_add]; exact hlt)).trans (e _)).trans (hc j hj)⟩
theorem RefAt.step {W0 W w1 : World} {v : Value} {z : Int} (t : RefAt W0 v z) (hb : Below W.heap.size W w1) (hh : W.heap = W0.heap) : RefAt w1 v z := by
  obtain ⟨b, A, c, ds, e, hs, hd⟩ := t
  exact ⟨b, A, c, ds, e, hs, hd.step hb hh⟩
theorem RefAt.below {w w' : World} {v : Value} {z : Int} (h : RefAt w v z) (hb : Below w.heap.size w w') : RefAt w' v z := h.step hb rfl

set_option maxHeartbeats 400000 in
theorem trimmed_any (A : Option Addr) (c : Nat) (xs : List Nat) (w : World) (h : Nums w .i64 A xs) (hl : xs.length ≤ 1000000) (hc : xs.length ≤ c) :
    Calls Tryd.prog 73 #[.slice A xs.length c] w fun e w' => w = w' ∧ Trimmed A c xs e := by
  go_enter Tryd.func73, Tryd.ntmps73
  go_wp2
  go_loop [3] (fun i => ∃ k : Nat, i = .int .i64 k ∧ k ≤ xs.length ∧ ZeroFrom xs k) (fun i => (intOf i).toNat)
  case atStart => exact ⟨xs.length, rfl, Nat.le_refl _, fun i h1 h2 => by omega⟩
  case round =>
    obtain ⟨k, rfl, hk, hz⟩ := hrel
    by_cases h0 : 0 < k
    · obtain ⟨ad, rfl, _, hcell⟩ := h.at_ (j := k - 1) (by omega)
      have hcd := hcell (k - 1) (by omega)
      clear hcell
      obtain ⟨d, hd⟩ : ∃ d, xs.getD (k - 1) 0 = d := ⟨_, rfl⟩
      rw [hd] at hcd
      have HD := Lib.hid hd
      clear hd
      by_cases hd0 : d = 0
      · subst hd0
        go_wp2
        go_round
        case rel => exact ⟨k - 1, by go_num, by omega, zero_down h0 HD.out hz⟩
        case measure => simp [intOf]; omega
      · have hne : ((d : Int) == 0) = false := by simp; omega
        go_wp2
        go_ret
        exact ⟨rfl, k, rfl, hk, hz, fun _ => by rw [HD.out]; exact hd0⟩
    · obtain rfl : k = 0 := by omega
      go_wp2
      go_ret
      exact ⟨rfl, 0, rfl, hk, hz, fun h => absurd h (by omega)⟩

def IsRef (w w' : World) (z : Int) (e : Ending) : Prop := ∃ v, e = .returned v ∧ RefAt w' v z ∧ Below w.heap.size w w'

theorem ref_zero (w : World) (A : Option Addr) (c : Nat) : RefAt w (.agg #[.bool false, .slice A 0 c]) 0 := ⟨false, A, c, [], rfl, by simp [SignOf], by simp, Nums.nil _ _ _, Lm.Ok.nil _, Lm.Top.nil, rfl⟩

theorem digs_take {w : World} {A : Option Addr} {c : Nat} {xs : List Nat} {n : Nat} (h : Nums w .i64 A xs) (ho : Lm.Ok BD xs) (hc : xs.length ≤ c) (hn : n ≤ xs.length) (hz : ZeroFrom xs n) (hp : 0 < n → xs.getD (n - 1) 0 ≠ 0) :
    Digs w A c (xs.take n) (Lm.val BD xs) :=
  ⟨by rw [List.length_take]; omega, h.take n, ho.take n, top_take hn hp, Lm.val_cut n hn hz⟩
theorem ref_of {w : World} {A : Option Addr} {c : Nat} {zs : List Nat} {n : Nat} (b : Bool) (h : Digs w A c zs n) (hn : 0 < n) :
    RefAt w (.agg #[.bool b, .slice A zs.length c]) (ofSign b n) := by
  refine ⟨b, A, c, zs, rfl, ?_, ?_⟩
  · unfold SignOf
    cases b <;> simp [ofSign] <;> omega
  · have e : (ofSign b n).natAbs = n := by cases b <;> simp [ofSign]
    rw [e]
    exact h

set_option maxRecDepth 100000 in
set_option maxHeartbeats 1000000 in
theorem made_any (b : Bool) (A : Option Addr) (c : Nat) (xs : List Nat) (w : World) (h : Nums w .i64 A xs) (ho : Lm.Ok BD xs) (hl : xs.length ≤ 1000000) (hc : xs.length ≤ c) :
    Calls Tryd.prog 48 #[.bool b, .slice A xs.length c] w fun e w' => IsRef w w' (ofSign b (Lm.val BD xs)) e := by
  cases b
  · go_enter Tryd.func48, Tryd.ntmps48
    go_wp2_with fail
    refine (trimmed_any A c xs _ (h.alloc _) hl hc).mono ?_
    rintro e w' ⟨rfl, n, rfl, hn, hz, hp⟩
    have HZ := Lib.hid (And.intro hz hp)
    clear hz hp
    by_cases h0 : 0 < n
    · go_wp2
      refine bodyPost_ret (v := .agg #[.bool false, .slice A n c]) (by simp [results, Tryd.results48, go_sem]) rfl ⟨_, rfl, ?_, (Below.refl _ _).alloc (Nat.le_refl _) _⟩
      have hlim := (digs_take (h.alloc (.cells #[.bool false, .slice A n c] 53)) ho hc hn HZ.out.1 HZ.out.2)
      have hlen : (xs.take n).length = n := by rw [List.length_take]; omega
      have hpos : 0 < Lm.val BD xs := by
        rw [← hlim.2.2.2.2]
        exact Lm.val_pos BD_pos (by omega) hlim.2.2.2.1
      have hi := ref_of false hlim hpos
      rw [hlen] at hi
      exact hi
    · obtain rfl : n = 0 := by omega
      go_wp2
      refine bodyPost_ret (v := .agg #[.bool false, .slice A 0 c]) (by simp [results, Tryd.results48, go_sem]) rfl ⟨_, rfl, ?_, (Below.refl _ _).alloc (Nat.le_refl _) _⟩
      have hv : Lm.val BD xs = 0 := by
        rw [← Lm.val_cut 0 (Nat.zero_le _) HZ.out.1]
        rfl
      rw [hv]
      exact ref_zero _ _ _
  · go_enter Tryd.func48, Tryd.ntmps48
    go_wp2_with fail
    refine (trimmed_any A c xs _ (h.alloc _) hl hc).mono ?_
    rintro e w' ⟨rfl, n, rfl, hn, hz, hp⟩
    have HZ := Lib.hid (And.intro hz hp)
    clear hz hp
    by_cases h0 : 0 < n
    · go_wp2
      refine bodyPost_ret (v := .agg #[.bool true, .slice A n c]) (by simp [results, Tryd.results48, go_sem]) rfl ⟨_, rfl, ?_, (Below.refl _ _).alloc (Nat.le_refl _) _⟩
      have hlim := (digs_take (h.alloc (.cells #[.bool true, .slice A n c] 53)) ho hc hn HZ.out.1 HZ.out.2)
      have hlen : (xs.take n).length = n := by rw [List.length_take]; omega
      have hpos : 0 < Lm.val BD xs := by
        rw [← hlim.2.2.2.2]
        exact Lm.val_pos BD_pos (by omega) hlim.2.2.2.1
      have hi := ref_of true hlim hpos
      rw [hlen] at hi
      exact hi
    · obtain rfl : n = 0 := by omega
      go_wp2
      refine bodyPost_ret (v := .agg #[.bool false, .slice A 0 c]) (by simp [results, Tryd.results48, go_sem]) rfl ⟨_, rfl, ?_, (Below.refl _ _).alloc (Nat.le_refl _) _⟩
      have hv : Lm.val BD xs = 0 := by
        rw [← Lm.val_cut 0 (Nat.zero_le _) HZ.out.1]
        rfl
      rw [hv]
      exact ref_zero _ _ _

theorem Tryd.info3 : (Tryd.prog.info? 3).map (fun i => (i.zero, i.size, i.bytes)) = some (some (.int .i64 0), 1, 8) := by kernel_rfl

/-- The digits of n that have been told, and what is left of it. -/
def Told (n u : Nat) (ds : List Nat) : Prop := Lm.Ok BD ds ∧ Lm.val BD ds + BD ^ ds.length * u = n

theorem told_step {n u : Nat} {ds : List Nat} (h : Told n u ds) : Told n (u / BD) (ds ++ [u % BD]) := by
  refine ⟨h.1.append (.cons (Nat.mod_lt _ BD_pos) (.nil _)), ?_⟩
  rw [Lm.val_snoc, List.length_append, List.length_singleton, Nat.pow_succ, Nat.add_assoc, Nat.mul_assoc, ← Nat.mul_add, Nat.mod_add_div]
  exact h.2
theorem told_len {n u : Nat} {ds : List Nat} (h : Told n u ds) (hu : 0 < u) (hn : n < 18446744073709551616) : ds.length < 4 := by
  rcases Nat.lt_or_ge ds.length 4 with hlt | hge
  · exact hlt
  · have h1 : BD ^ 4 ≤ BD ^ ds.length := Nat.pow_le_pow_right BD_pos hge
    have h2 : BD ^ ds.length * 1 ≤ BD ^ ds.length * u := Nat.mul_le_mul_left _ hu
    have h3 : BD ^ 4 = 18446744073709551616 := by decide
    have := h.2
    omega
theorem told_end {n : Nat} {ds : List Nat} (h : Told n 0 ds) : Lm.val BD ds = n := by simpa using h.2
theorem cells_snoc (k : IntKind) (ds : List Nat) (d : Nat) (x : Int) (h : x = (d : Int)) : cellsOf k ds ++ [.int k x] = cellsOf k (ds ++ [d]) := by
  subst h
  simp [cellsOf]
theorem digit_mod (u : Nat) : (u : Int) % 65536 = ((u % BD : Nat) : Int) := by unfold BD; omega
theorem digit_div (u : Nat) : (u : Int) / 65536 = ((u / BD : Nat) : Int) := by unfold BD; omega

theorem ref_stored {w w2 : World} {r : Nat} {s : Bool} {A : Option Addr} {c : Nat} {zs : List Nat} {z : Int} (hk : Res w2 r) (hs : SignOf s z) (hl : Digs w2 A c zs z.natAbs)
    (hb : Below w.heap.size w w2) (hr : w.heap.size ≤ r) :
    IsRef w ((w2.setCell ⟨r, 0, none⟩ (.bool s)).setCell ⟨r, 1, none⟩ (.slice A zs.length c)) z (.returned (.agg #[.bool s, .slice A zs.length c])) :=
  ⟨_, rfl, ⟨s, A, c, zs, rfl, hs, hl.1, hl.2.1.res hk.1 _ _, hl.2.2⟩, (hb.setCell (p := ⟨r, 0, none⟩) hr _).setCell (p := ⟨r, 1, none⟩) hr _⟩

set_option maxRecDepth 100000 in
set_option maxHeartbeats 1000000 in
theorem RNew_neg (n : Nat) (w : World) (h : 0 < n) (h1 : n ≤ 9223372036854775808) : Calls Tryd.prog 21 #[.int .i64 (-(n : Int))] w fun e w' => IsRef w w' (-(n : Int)) e := by
  obtain ⟨i0, hi0, hz0, hz1, hz2⟩ := info_parts Tryd.info3
  have HI := Lib.hid (And.intro hi0 (And.intro hz0 (And.intro hz1 hz2)))
  have hr0 := Res.new w 53
  have H := Lib.hid hr0
  have HN := Lib.hid (And.intro h1 (wrap_neg n h h1))
  clear hr0 h1 hi0 hz0 hz1 hz2
  go_enter Tryd.func21, Tryd.ntmps21
  go_wp2
  rw [HN.out.2]
  go_loopw [3, 4] (fun uv dv wr => ∃ (u : Nat) (ds : List Nat), uv = .int .u64 u ∧ wr.ownsRow (w.heap.size + 1) 3 1 dv ds.length (cellsOf .i64 ds) ∧ Told n u ds ∧ u ≤ n ∧ ds.length ≤ 4 ∧ Below (w.heap.size + 1) (w.alloc (.cells #[.bool false, .slice none 0 0] 53)) wr) (fun uv _ _ => (intOf uv).toNat)
  case atStart => exact ⟨n, [], rfl, World.ownsRow_nil _ _ _ _, ⟨.nil _, by simp [Lm.val]⟩, Nat.le_refl _, by simp, Below.refl _ _⟩
  case round =>
    obtain ⟨u, ds, rfl, hown, htold, hun, hl4, hbel⟩ := hrel
    obtain ⟨A, c, rfl, hle⟩ := own_form hown
    have hsz : w.heap.size + 1 ≤ wr.heap.size := by have := hbel.size; simpa using this
    by_cases hu : 0 < u
    · have hlen := told_len htold hu (by have := HN.out.1; omega)
      have hub : u ≤ 9223372036854775808 := Nat.le_trans hun HN.out.1
      have HU := Lib.hid hub
      clear hub
      have hpos : (0 : Int) < (u : Int) := by omega
      go_wp2_with (at_builtin; refine wpList_append_own _ rfl _ _ 51 rfl (w.heap.size + 1) 3 i0 (.int .i64 0) 1 8 Tryd.underlying51 HI.out.1 HI.out.2.1 HI.out.2.2.1 HI.out.2.2.2 rfl (by decide) _ ds.length (cellsOf .i64 ds) rfl (hown.alloc _) ⟨wr.heap.size, 0, none⟩ 1 1 [.int .i64 ((u : Int) % 65536)] rfl rfl (cell_one_new _ _ _) (by simp [Value.oneCell']) (by unfold maxLen; omega) (by omega) (by simp; omega) ?_; intro v1 w1 hown1 hg1 _)
      go_roundw
      case rel =>
        refine ⟨u / BD, ds ++ [u % BD], ?_, ?_, told_step htold, Nat.le_trans (Nat.div_le_self _ _) hun, by simp; omega, (hbel.alloc hsz _).grown hg1 (by simp; omega) (fun k hk => (hown.lt k hk).1)⟩
        · have := HU.out
          rw [IntWalk.u64_in _ (by omega), digit_div]
        · rw [List.length_append, List.length_singleton, ← cells_snoc .i64 ds (u % BD) _ (digit_mod u)]
          exact hown1
      case measure => have := HU.out; rw [IntWalk.u64_in _ (by omega)]; simp [intOf]; omega
    · obtain rfl : u = 0 := by omega
      have hbel' : Below (w.alloc (.cells #[.bool false, .slice none 0 0] 53)).heap.size (w.alloc (.cells #[.bool false, .slice none 0 0] 53)) wr := by rw [size_alloc]; exact hbel
      have k1 := H.out.step hbel' rfl (by simp)
      have hm := made_any true A c ds wr (Nums.of_own hown rfl) htold.1 (by omega) hle
      have HM := Lib.hid (And.intro hm htold)
      clear hm
      go_wp2_with fail
      refine HM.out.1.mono ?_
      rintro e w2 ⟨v2, rfl, ⟨b4, A4, c4, zs4, rfl, hsg4, hl4⟩, hb2⟩
      have k2 := k1.step hb2 rfl (by omega)
      obtain ⟨⟨hr0, hr1⟩, hf0, hf1⟩ := id k2
      go_wp2
      refine bodyPost_ret (v := .agg #[.bool b4, .slice A4 zs4.length c4]) (by simp [results, Tryd.results21, go_sem, hr0, hr1]) rfl ?_
      have hz : ofSign true (Lm.val BD ds) = -(n : Int) := by rw [told_end HM.out.2]; rfl
      rw [hz] at hsg4 hl4
      exact ref_stored k2 hsg4 hl4 (below_then (below_then ((Below.refl _ _).alloc (Nat.le_refl _) _) hbel') hb2) (Nat.le_refl _)

set_option maxRecDepth 100000 in
set_option maxHeartbeats 1000000 in
theorem RNew_pos (n : Nat) (w : World) (h1 : n < 9223372036854775808) : Calls Tryd.prog 21 #[.int .i64 (n : Int)] w fun e w' => IsRef w w' (n : Int) e := by
  obtain ⟨i0, hi0, hz0, hz1, hz2⟩ := info_parts Tryd.info3
  have HI := Lib.hid (And.intro hi0 (And.intro hz0 (And.intro hz1 hz2)))
  have hr0 := Res.new w 53
  have H := Lib.hid hr0
  have HN := Lib.hid (And.intro (Nat.le_of_lt h1) (wrap_pos n h1))
  have h0 : (0 : Int) ≤ (n : Int) := Int.natCast_nonneg n
  clear hr0 h1 hi0 hz0 hz1 hz2
  go_enter Tryd.func21, Tryd.ntmps21
  go_wp2
  rw [HN.out.2]
  go_loopw [3, 4] (fun uv dv wr => ∃ (u : Nat) (ds : List Nat), uv = .int .u64 u ∧ wr.ownsRow (w.heap.size + 1) 3 1 dv ds.length (cellsOf .i64 ds) ∧ Told n u ds ∧ u ≤ n ∧ ds.length ≤ 4 ∧ Below (w.heap.size + 1) (w.alloc (.cells #[.bool false, .slice none 0 0] 53)) wr) (fun uv _ _ => (intOf uv).toNat)
  case atStart => exact ⟨n, [], rfl, World.ownsRow_nil _ _ _ _, ⟨.nil _, by simp [Lm.val]⟩, Nat.le_refl _, by simp, Below.refl _ _⟩
  case round =>
    obtain ⟨u, ds, rfl, hown, htold, hun, hl4, hbel⟩ := hrel
    obtain ⟨A, c, rfl, hle⟩ := own_form hown
    have hsz : w.heap.size + 1 ≤ wr.heap.size := by have := hbel.size; simpa using this
    by_cases hu : 0 < u
    · have hlen := told_len htold hu (by have := HN.out.1; omega)
      have hub : u ≤ 9223372036854775808 := Nat.le_trans hun HN.out.1
      have HU := Lib.hid hub
      clear hub
      have hpos : (0 : Int) < (u : Int) := by omega
      go_wp2_with (at_builtin; refine wpList_append_own _ rfl _ _ 51 rfl (w.heap.size + 1) 3 i0 (.int .i64 0) 1 8 Tryd.underlying51 HI.out.1 HI.out.2.1 HI.out.2.2.1 HI.out.2.2.2 rfl (by decide) _ ds.length (cellsOf .i64 ds) rfl (hown.alloc _) ⟨wr.heap.size, 0, none⟩ 1 1 [.int .i64 ((u : Int) % 65536)] rfl rfl (cell_one_new _ _ _) (by simp [Value.oneCell']) (by unfold maxLen; omega) (by omega) (by simp; omega) ?_; intro v1 w1 hown1 hg1 _)
      go_roundw
      case rel =>
        refine ⟨u / BD, ds ++ [u % BD], ?_, ?_, told_step htold, Nat.le_trans (Nat.div_le_self _ _) hun, by simp; omega, (hbel.alloc hsz _).grown hg1 (by simp; omega) (fun k hk => (hown.lt k hk).1)⟩
        · have := HU.out
          rw [IntWalk.u64_in _ (by omega), digit_div]
        · rw [List.length_append, List.length_singleton, ← cells_snoc .i64 ds (u % BD) _ (digit_mod u)]
          exact hown1
      case measure => have := HU.out; rw [IntWalk.u64_in _ (by omega)]; simp [intOf]; omega
    · obtain rfl : u = 0 := by omega
      have hbel' : Below (w.alloc (.cells #[.bool false, .slice none 0 0] 53)).heap.size (w.alloc (.cells #[.bool false, .slice none 0 0] 53)) wr := by rw [size_alloc]; exact hbel
      have k1 := H.out.step hbel' rfl (by simp)
      have hm := made_any false A c ds wr (Nums.of_own hown rfl) htold.1 (by omega) hle
      have HM := Lib.hid (And.intro hm htold)
      clear hm
      go_wp2_with fail
      refine HM.out.1.mono ?_
      rintro e w2 ⟨v2, rfl, ⟨b4, A4, c4, zs4, rfl, hsg4, hl4⟩, hb2⟩
      have k2 := k1.step hb2 rfl (by omega)
      obtain ⟨⟨hr0, hr1⟩, hf0, hf1⟩ := id k2
      go_wp2
      refine bodyPost_ret (v := .agg #[.bool b4, .slice A4 zs4.length c4]) (by simp [results, Tryd.results21, go_sem, hr0, hr1]) rfl ?_
      have hz : ofSign false (Lm.val BD ds) = (n : Int) := by rw [told_end HM.out.2]; rfl
      rw [hz] at hsg4 hl4
      exact ref_stored k2 hsg4 hl4 (below_then (below_then ((Below.refl _ _).alloc (Nat.le_refl _) _) hbel') hb2) (Nat.le_refl _)

theorem rshorter_lt {xs ys : List Nat} (hx : Lm.Ok BD xs) (ty : Lm.Top ys) (h : xs.length < ys.length) : Lm.val BD xs < Lm.val BD ys := by
  have h1 := Lm.val_lt hx
  have h2 := Lm.val_ge (b := BD) (by omega) ty
  have h3 : BD ^ xs.length ≤ BD ^ (ys.length - 1) := Nat.pow_le_pow_right BD_pos (by omega)
  omega

/-- MARK: a new row of digits of the number n, at most l of them. -/
def IsDigL (w w' : World) (n l : Nat) (e : Ending) : Prop :=
  ∃ A c ds, e = .returned (.slice A (List.length ds) c) ∧ ds.length ≤ c ∧ Nums w' .i64 A ds ∧ Lm.Ok BD ds ∧ Lm.val BD ds = n ∧ ds.length ≤ l ∧ Below w.heap.size w w'

theorem val_take_any (b : Nat) (xs : List Nat) (k : Nat) : Lm.val b (xs.take (k + 1)) = Lm.val b (xs.take k) + b ^ k * xs.getD k 0 := by
  by_cases h : k < xs.length
  · exact Lm.val_take_succ b xs k h
  · rw [List.take_of_length_le (by omega), List.take_of_length_le (by omega), List.getD_eq_getElem?_getD, List.getElem?_eq_none (by omega)]
    simp

structure Plus (xs ys ds : List Nat) (i c : Nat) : Prop where
  len : ds.length = i
  ok : Lm.Ok BD ds
  carry : c ≤ 1
  sum : Lm.val BD ds + BD ^ i * c = Lm.val BD (xs.take i) + Lm.val BD (ys.take i)

theorem Plus.step {xs ys ds : List Nat} {i c x y t : Nat} (h : Plus xs ys ds i c) (hx : xs.getD i 0 = x) (hy : ys.getD i 0 = y) (ht : t = c + x + y) (lx : x < BD) (ly : y < BD) : Plus xs ys (ds ++ [t % BD]) (i + 1) (t / BD) := by
  refine ⟨by rw [List.length_append, List.length_singleton, h.len], h.ok.append (.cons (Nat.mod_lt _ BD_pos) (.nil _)), ?_, ?_⟩
  · have := h.carry
    unfold BD at *
    omega
  · rw [val_take_any, val_take_any, hx, hy, Lm.val_snoc, h.len, Nat.pow_succ, Nat.add_assoc, Nat.mul_assoc, ← Nat.mul_add, Nat.mod_add_div, ht, Nat.mul_add, Nat.mul_add]
    have := h.sum
    omega
theorem far_zero {xs : List Nat} {i : Nat} (h : ¬ i < xs.length) : xs.getD i 0 = 0 := by
  rw [List.getD_eq_getElem?_getD, List.getElem?_eq_none (by omega)]
  rfl
theorem dig_lt {xs : List Nat} (ho : Lm.Ok BD xs) (k : Nat) : xs.getD k 0 < BD := ho.getD BD_pos k

structure Minus (xs ys ds : List Nat) (i q : Nat) : Prop where
  len : ds.length = i
  ok : Lm.Ok BD ds
  borrow : q ≤ 1
  sum : Lm.val BD ds + Lm.val BD (ys.take i) = Lm.val BD (xs.take i) + BD ^ i * q

theorem Minus.step {xs ys ds : List Nat} {i q x y d r : Nat} (h : Minus xs ys ds i q) (hx : xs.getD i 0 = x) (hy : ys.getD i 0 = y) (hd : d + q + y = x + BD * r) (ld : d < BD) (lr : r ≤ 1) : Minus xs ys (ds ++ [d]) (i + 1) r := by
  refine ⟨by rw [List.length_append, List.length_singleton, h.len], h.ok.append (.cons ld (.nil _)), lr, ?_⟩
  rw [val_take_any, val_take_any, hx, hy, Lm.val_snoc, h.len, Nat.pow_succ, Nat.mul_assoc]
  have h1 : BD ^ i * (d + q + y) = BD ^ i * (x + BD * r) := by rw [hd]
  rw [Nat.mul_add, Nat.mul_add, Nat.mul_add] at h1
  have := h.sum
  omega

theorem Minus.done_ {xs ys ds : List Nat} {q : Nat} (h : Minus xs ys ds xs.length q) (hl : ys.length ≤ xs.length) (hv : Lm.val BD ys ≤ Lm.val BD xs) : Lm.val BD ds = Lm.val BD xs - Lm.val BD ys := by
  have h1 := h.sum
  rw [List.take_length, List.take_of_length_le hl] at h1
  have h2 := Lm.val_lt h.ok
  rw [h.len] at h2
  have h3 := h.borrow
  rcases (show q = 0 ∨ q = 1 by omega) with rfl | rfl
  · omega
  · omega

/-- A row of digits of the number n, without zeros at the top. -/
def IsDigs (w w' : World) (n l : Nat) (e : Ending) : Prop :=
  ∃ A c ds, e = .returned (.slice A (List.length ds) c) ∧ Digs w' A c ds n ∧ ds.length ≤ l ∧ Below w.heap.size w w'

theorem Digs.len {w : World} {A : Option Addr} {c n m : Nat} {ds : List Nat} (h : Digs w A c ds n) (hs : n < BD ^ m) : ds.length ≤ m := by
  rcases Nat.lt_or_ge m ds.length with hlt | hge
  · have h1 := Lm.val_ge (b := BD) (Nat.lt_of_le_of_lt (Nat.zero_le _) hlt) h.2.2.2.1
    rw [h.2.2.2.2] at h1
    have h2 : BD ^ m ≤ BD ^ (ds.length - 1) := Nat.pow_le_pow_right BD_pos (by omega)
    omega
  · exact hge
theorem Digs.shorter {w : World} {A A' : Option Addr} {c c' n n' : Nat} {zs zs' : List Nat} (h : Digs w A c zs n) (h' : Digs w A' c' zs' n') (hle : n' ≤ n) : zs'.length ≤ zs.length :=
  Lm.len_of_val BD_one h.2.2.1 h'.2.2.2.1 (by rw [h.2.2.2.2, h'.2.2.2.2]; exact hle)
theorem made_to (b : Bool) (A : Option Addr) (c : Nat) (xs : List Nat) (z : Int) (w : World) (h : Nums w .i64 A xs) (ho : Lm.Ok BD xs) (hl : xs.length ≤ 1000000) (hc : xs.length ≤ c) (hz : ofSign b (Lm.val BD xs) = z) :
    Calls Tryd.prog 48 #[.bool b, .slice A xs.length c] w fun e w' => IsRef w w' z e := by
  subst hz
  exact made_any b A c xs w h ho hl hc

end Go.Proofs.YtllkajlmfbikhaaDoor
