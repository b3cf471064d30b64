/- What compare, plus, minus of the reference do: its digits as numbers. -/
import Derived.Test.YtagmdeabneapaaaRefNew
namespace Go.Proofs.Ytagmdeabneapaaa
open Go.RowKit

theorem rshorter_lt {xs ys : List Nat} (hx : Lm.Ok BD xs) (ty : Lm.Top ys) (h : xs.length < ys.length) : Lm.val BD xs < Lm.val BD ys := by
  have h1 := Lm.val_lt hx
  have h2 := Lm.val_ge (b := BD) (by omega) ty
  have h3 : BD ^ xs.length ≤ BD ^ (ys.length - 1) := Nat.pow_le_pow_right BD_pos (by omega)
  omega

set_option maxHeartbeats 1000000 in
theorem rcompare_any (A : Option Addr) (c : Nat) (xs : List Nat) (A' : Option Addr) (c' : Nat) (ys : List Nat) (w : World) (hx : Nums w .i64 A xs) (hy : Nums w .i64 A' ys)
    (ox : Lm.Ok BD xs) (oy : Lm.Ok BD ys) (tx : Lm.Top xs) (ty : Lm.Top ys) (hl : xs.length ≤ 1000000) :
    Calls Try.prog 89 #[.slice A xs.length c, .slice A' ys.length c'] w fun e w' => IsOrd w w' (Lm.val BD xs) (Lm.val BD ys) e := by
  by_cases h1 : xs.length < ys.length
  · have ho := ord_lt (rshorter_lt ox ty h1)
    have HO := Lib.hid ho
    have hne : ((xs.length : Int) != (ys.length : Int)) = true := by rw [bne_iff_ne]; omega
    clear ho
    go_enter Try.func89, Try.ntmps89
    go_wp2
    go_ret
    exact ⟨.refl _, by rw [HO.out]; rfl⟩
  by_cases h2 : ys.length < xs.length
  · have ho := ord_gt (rshorter_lt oy tx h2)
    have HO := Lib.hid ho
    have hne : ((xs.length : Int) != (ys.length : Int)) = true := by rw [bne_iff_ne]; omega
    clear ho
    go_enter Try.func89, Try.ntmps89
    go_wp2
    go_ret
    exact ⟨.refl _, by rw [HO.out]; rfl⟩
  have hln : ys.length = xs.length := by omega
  have HL := Lib.hid hln
  rw [hln]
  clear hln h1 h2
  go_enter Try.func89, Try.ntmps89
  go_wp2
  go_loopw [5] (fun iv wr => ∃ k : Nat, iv = .int .i64 ((k : Int) - 1) ∧ k ≤ xs.length ∧ SameFrom xs ys k ∧ ∃ n, wr = w.drewN n) (fun iv _ => (intOf iv + 1).toNat)
  case atStart => exact ⟨xs.length, rfl, Nat.le_refl _, by unfold SameFrom; rw [List.drop_length, ← HL.out, List.drop_length], 0, rfl⟩
  case round =>
    obtain ⟨k, rfl, hk, hs, n, rfl⟩ := hrel
    by_cases h0 : 0 < k
    · obtain ⟨ad, rfl, _, hcx⟩ := hx.at_ (j := k - 1) (by omega)
      obtain ⟨ad', rfl, _, hcy⟩ := hy.at_ (j := k - 1) (by rw [HL.out]; omega)
      have hdx := hcx (k - 1) (by omega)
      have hdy := hcy (k - 1) (by rw [HL.out]; omega)
      clear hcx hcy
      obtain ⟨d, hd⟩ : ∃ d, xs.getD (k - 1) 0 = d := ⟨_, rfl⟩
      obtain ⟨y, hyd⟩ : ∃ y, ys.getD (k - 1) 0 = y := ⟨_, rfl⟩
      rw [hd] at hdx
      rw [hyd] at hdy
      have HD := Lib.hid hd
      have HY := Lib.hid hyd
      clear hd hyd
      obtain ⟨j, hj⟩ : ∃ j, k = j + 1 := ⟨k - 1, by omega⟩
      subst hj
      simp only [Nat.add_sub_cancel] at hdx hdy HD HY
      rw [show (((j + 1 : Nat) : Int) - 1) = (j : Int) from by omega]
      have hord : IsFirst xs ys j := ⟨by omega, by rw [HL.out]; omega, hs⟩
      clear hs
      by_cases hlt : d < y
      · go_wp2
        go_quiet (fail)
        go_wp2
        go_ret
        exact ⟨(Drew.mk _ _).more _, by rw [ord_lt (Lm.val_lt_of_top ox j hord.1 hord.2.1 hord.2.2 (by rw [HD.out, HY.out]; exact hlt))]; rfl⟩
      · by_cases hgt : y < d
        · go_wp2
          go_quiet (fail)
          go_wp2
          go_quiet (fail)
          go_wp2
          go_ret
          exact ⟨((Drew.mk _ _).more _).more _, by rw [ord_gt (Lm.val_lt_of_top oy j hord.2.1 hord.1 hord.2.2.symm (by rw [HD.out, HY.out]; exact hgt))]; rfl⟩
        · have heq : d = y := by omega
          subst heq
          go_wp2
          go_quiet (fail)
          go_wp2
          go_quiet (fail)
          go_wp2
          go_roundw
          case rel => exact ⟨j, rfl, by omega, same_down HL.out.symm (by omega) (k := j + 1) (by omega) hord.2.2 HD.out HY.out, _, rfl⟩
          case measure => simp [intOf]
    · obtain rfl : k = 0 := by omega
      have he : xs = ys := by simpa [SameFrom] using hs
      have HE := Lib.hid he
      clear he hs
      go_wp2
      go_ret
      exact ⟨.mk _ _, by rw [ord_eq (by rw [HE.out])]; rfl⟩

/-- MARK: a new row of digits of the number n, at most l of them. -/
def IsDigL (w w' : World) (n l : Nat) (e : Ending) : Prop :=
  ∃ A c ds, e = .returned (.slice A (List.length ds) c) ∧ ds.length ≤ c ∧ Nums w' .i64 A ds ∧ Lm.Ok BD ds ∧ Lm.val BD ds = n ∧ ds.length ≤ l ∧ Below w.heap.size w w'

theorem val_take_any (b : Nat) (xs : List Nat) (k : Nat) : Lm.val b (xs.take (k + 1)) = Lm.val b (xs.take k) + b ^ k * xs.getD k 0 := by
  by_cases h : k < xs.length
  · exact Lm.val_take_succ b xs k h
  · rw [List.take_of_length_le (by omega), List.take_of_length_le (by omega), List.getD_eq_getElem?_getD, List.getElem?_eq_none (by omega)]
    simp

structure Plus (xs ys ds : List Nat) (i c : Nat) : Prop where
  len : ds.length = i
  ok : Lm.Ok BD ds
  carry : c ≤ 1
  sum : Lm.val BD ds + BD ^ i * c = Lm.val BD (xs.take i) + Lm.val BD (ys.take i)

theorem Plus.step {xs ys ds : List Nat} {i c x y t : Nat} (h : Plus xs ys ds i c) (hx : xs.getD i 0 = x) (hy : ys.getD i 0 = y) (ht : t = c + x + y) (lx : x < BD) (ly : y < BD) : Plus xs ys (ds ++ [t % BD]) (i + 1) (t / BD) := by
  refine ⟨by rw [List.length_append, List.length_singleton, h.len], h.ok.append (.cons (Nat.mod_lt _ BD_pos) (.nil _)), ?_, ?_⟩
  · have := h.carry
    unfold BD at *
    omega
  · rw [val_take_any, val_take_any, hx, hy, Lm.val_snoc, h.len, Nat.pow_succ, Nat.add_assoc, Nat.mul_assoc, ← Nat.mul_add, Nat.mod_add_div, ht, Nat.mul_add, Nat.mul_add]
    have := h.sum
    omega
theorem far_zero {xs : List Nat} {i : Nat} (h : ¬ i < xs.length) : xs.getD i 0 = 0 := by
  rw [List.getD_eq_getElem?_getD, List.getElem?_eq_none (by omega)]
  rfl
theorem dig_lt {xs : List Nat} (ho : Lm.Ok BD xs) (k : Nat) : xs.getD k 0 < BD := ho.getD BD_pos k

set_option maxRecDepth 100000 in
set_option maxHeartbeats 4000000 in
theorem plus_any (A : Option Addr) (c : Nat) (xs : List Nat) (A' : Option Addr) (c' : Nat) (ys : List Nat) (L : Nat) (w : World) (hx : Nums w .i64 A xs) (hy : Nums w .i64 A' ys)
    (ox : Lm.Ok BD xs) (oy : Lm.Ok BD ys) (lx : xs.length ≤ L) (ly : ys.length ≤ L) (hL : L ≤ 1000000) :
    Calls Try.prog 88 #[.slice A xs.length c, .slice A' ys.length c'] w fun e w' => IsDigL w w' (Lm.val BD xs + Lm.val BD ys) (L + 1) e := by
  obtain ⟨i0, hi0, hz0, hz1, hz2⟩ := info_parts Try.info3
  have HI := Lib.hid (And.intro hi0 (And.intro hz0 (And.intro hz1 hz2)))
  have HX := Lib.hid (And.intro hx (And.intro hy (And.intro ox oy)))
  clear hi0 hz0 hz1 hz2 hx hy ox oy
  go_enter Try.func88, Try.ntmps88
  go_wp2
  go_loopw [5, 6, 7] (fun ov cv iv wr => ∃ (i q : Nat) (ds : List Nat), wr.ownsRow w.heap.size 3 1 ov ds.length (cellsOf .i64 ds) ∧ cv = .int .i64 q ∧ iv = .int .i64 i ∧ Plus xs ys ds i q ∧ i ≤ L + 1 ∧ (i = L + 1 → q = 0) ∧ Below w.heap.size w wr) (fun _ _ iv _ => L + 1 - (intOf iv).toNat)
  case atStart => exact ⟨0, 0, [], World.ownsRow_nil _ _ _ _, rfl, rfl, ⟨rfl, .nil _, by omega, by simp [Lm.val]⟩, by omega, fun _ => rfl, Below.refl _ _⟩
  case round =>
    obtain ⟨i, q, ds, hown, rfl, rfl, hplus, hi, hend, hbel⟩ := hrel
    obtain ⟨A5, c5, rfl, hle⟩ := own_form hown
    have hsz : w.heap.size ≤ wr.heap.size := hbel.size
    have hdl : ds.length ≤ 1000001 := by rw [hplus.len]; omega
    have q0 : (0 : Int) ≤ (q : Int) := Int.natCast_nonneg q
    have q1 : (q : Int) ≤ 1 := by have := hplus.carry; omega
    have HPL := Lib.hid (And.intro hplus (And.intro hbel hend))
    clear hplus hbel hend
    by_cases hxi : i < xs.length
    · obtain ⟨ad, rfl, _, hcx⟩ := (HX.out.1.below HPL.out.2.1).at_ hxi
      have hdx := hcx i hxi
      have hlx := dig_lt HX.out.2.2.1 i
      clear hcx
      obtain ⟨x, hx⟩ : ∃ x, xs.getD i 0 = x := ⟨_, rfl⟩
      rw [hx] at hdx hlx
      have x0 : (0 : Int) ≤ (x : Int) := Int.natCast_nonneg x
      have x1 : (x : Int) ≤ 65535 := by unfold BD at hlx; omega
      have HXD := Lib.hid (And.intro hx hlx)
      clear hx hlx
      by_cases hyi : i < ys.length
      · skip
        obtain ⟨ad', rfl, _, hcy⟩ := (HX.out.2.1.below HPL.out.2.1).at_ hyi
        have hdy := hcy i hyi
        have hly := dig_lt HX.out.2.2.2 i
        clear hcy
        obtain ⟨y, hy⟩ : ∃ y, ys.getD i 0 = y := ⟨_, rfl⟩
        rw [hy] at hdy hly
        have y0 : (0 : Int) ≤ (y : Int) := Int.natCast_nonneg y
        have y1 : (y : Int) ≤ 65535 := by unfold BD at hly; omega
        have HYD := Lib.hid (And.intro hy hly)
        clear hy hly
        go_wp2_with (at_builtin; refine wpList_append_own _ rfl _ _ 29 rfl w.heap.size 3 i0 (.int .i64 0) 1 8 Try.underlying29 HI.out.1 HI.out.2.1 HI.out.2.2.1 HI.out.2.2.2 rfl (by decide) _ ds.length (cellsOf .i64 ds) rfl (hown.alloc _) ⟨wr.heap.size, 0, none⟩ 1 1 [.int .i64 (((q : Int) + (x : Int) + (y : Int)) % 65536)] rfl rfl (cell_one_new _ _ _) (by simp [Value.oneCell']) (by unfold maxLen; omega) (by omega) (by simp; omega) ?_; intro v1 w1 hown1 hg1 _)
        go_roundw
        case rel =>
          have hst := HPL.out.1.step HXD.out.1 HYD.out.1 (t := q + x + y) (by omega) HXD.out.2 HYD.out.2
          refine ⟨i + 1, (q + x + y) / BD, ds ++ [(q + x + y) % BD], ?_, ?_, by go_num, hst, by omega, ?_, (HPL.out.2.1.alloc hsz _).grown hg1 (by simp; omega) (fun k hk => (hown.lt k hk).1)⟩
          · rw [List.length_append, List.length_singleton, ← cells_snoc .i64 ds ((q + x + y) % BD) (((q : Int) + (x : Int) + (y : Int)) % 65536) (by unfold BD; omega)]
            exact hown1
          · exact congrArg (Value.int IntKind.i64) (by unfold BD; omega)
          · intro h; exact absurd h (by omega)
        case measure => simp [intOf]; omega
      · have hfy := far_zero hyi
        have HYD := Lib.hid (And.intro hfy BD_pos)
        clear hfy
        go_wp2_with (at_builtin; refine wpList_append_own _ rfl _ _ 29 rfl w.heap.size 3 i0 (.int .i64 0) 1 8 Try.underlying29 HI.out.1 HI.out.2.1 HI.out.2.2.1 HI.out.2.2.2 rfl (by decide) _ ds.length (cellsOf .i64 ds) rfl (hown.alloc _) ⟨wr.heap.size, 0, none⟩ 1 1 [.int .i64 (((q : Int) + (x : Int)) % 65536)] rfl rfl (cell_one_new _ _ _) (by simp [Value.oneCell']) (by unfold maxLen; omega) (by omega) (by simp; omega) ?_; intro v1 w1 hown1 hg1 _)
        go_roundw
        case rel =>
          have hst := HPL.out.1.step HXD.out.1 HYD.out.1 (t := q + x) (by omega) HXD.out.2 HYD.out.2
          refine ⟨i + 1, (q + x) / BD, ds ++ [(q + x) % BD], ?_, ?_, by go_num, hst, by omega, ?_, (HPL.out.2.1.alloc hsz _).grown hg1 (by simp; omega) (fun k hk => (hown.lt k hk).1)⟩
          · rw [List.length_append, List.length_singleton, ← cells_snoc .i64 ds ((q + x) % BD) (((q : Int) + (x : Int)) % 65536) (by unfold BD; omega)]
            exact hown1
          · exact congrArg (Value.int IntKind.i64) (by unfold BD; omega)
          · intro h; exact absurd h (by omega)
        case measure => simp [intOf]; omega
    · have hfx := far_zero hxi
      have HXD := Lib.hid (And.intro hfx BD_pos)
      clear hfx
      by_cases hyi : i < ys.length
      · skip
        obtain ⟨ad', rfl, _, hcy⟩ := (HX.out.2.1.below HPL.out.2.1).at_ hyi
        have hdy := hcy i hyi
        have hly := dig_lt HX.out.2.2.2 i
        clear hcy
        obtain ⟨y, hy⟩ : ∃ y, ys.getD i 0 = y := ⟨_, rfl⟩
        rw [hy] at hdy hly
        have y0 : (0 : Int) ≤ (y : Int) := Int.natCast_nonneg y
        have y1 : (y : Int) ≤ 65535 := by unfold BD at hly; omega
        have HYD := Lib.hid (And.intro hy hly)
        clear hy hly
        go_wp2_with (at_builtin; refine wpList_append_own _ rfl _ _ 29 rfl w.heap.size 3 i0 (.int .i64 0) 1 8 Try.underlying29 HI.out.1 HI.out.2.1 HI.out.2.2.1 HI.out.2.2.2 rfl (by decide) _ ds.length (cellsOf .i64 ds) rfl (hown.alloc _) ⟨wr.heap.size, 0, none⟩ 1 1 [.int .i64 (((q : Int) + (y : Int)) % 65536)] rfl rfl (cell_one_new _ _ _) (by simp [Value.oneCell']) (by unfold maxLen; omega) (by omega) (by simp; omega) ?_; intro v1 w1 hown1 hg1 _)
        go_roundw
        case rel =>
          have hst := HPL.out.1.step HXD.out.1 HYD.out.1 (t := q + y) (by omega) HXD.out.2 HYD.out.2
          refine ⟨i + 1, (q + y) / BD, ds ++ [(q + y) % BD], ?_, ?_, by go_num, hst, by omega, ?_, (HPL.out.2.1.alloc hsz _).grown hg1 (by simp; omega) (fun k hk => (hown.lt k hk).1)⟩
          · rw [List.length_append, List.length_singleton, ← cells_snoc .i64 ds ((q + y) % BD) (((q : Int) + (y : Int)) % 65536) (by unfold BD; omega)]
            exact hown1
          · exact congrArg (Value.int IntKind.i64) (by unfold BD; omega)
          · intro h; exact absurd h (by omega)
        case measure => simp [intOf]; omega
      · have hfy := far_zero hyi
        have HYD := Lib.hid (And.intro hfy BD_pos)
        clear hfy
        by_cases hq : 0 < q
        · obtain rfl : q = 1 := by omega
          have HEQ := Lib.hid (show i ≤ L by have := HPL.out.2.2; omega)
          go_wp2_with (at_builtin; refine wpList_append_own _ rfl _ _ 29 rfl w.heap.size 3 i0 (.int .i64 0) 1 8 Try.underlying29 HI.out.1 HI.out.2.1 HI.out.2.2.1 HI.out.2.2.2 rfl (by decide) _ ds.length (cellsOf .i64 ds) rfl (hown.alloc _) ⟨wr.heap.size, 0, none⟩ 1 1 [.int .i64 1] rfl rfl (cell_one_new _ _ _) (by simp [Value.oneCell']) (by unfold maxLen; omega) (by omega) (by simp; omega) ?_; intro v1 w1 hown1 hg1 _)
          go_roundw
          case rel =>
            have hst := HPL.out.1.step HXD.out.1 HYD.out.1 (t := 1) (by rfl) HXD.out.2 HYD.out.2
            refine ⟨i + 1, (1) / BD, ds ++ [(1) % BD], ?_, ?_, by go_num, hst, by have := HEQ.out; omega, ?_, (HPL.out.2.1.alloc hsz _).grown hg1 (by simp; omega) (fun k hk => (hown.lt k hk).1)⟩
            · rw [List.length_append, List.length_singleton, ← cells_snoc .i64 ds ((1) % BD) 1 (by unfold BD; rfl)]
              exact hown1
            · exact congrArg (Value.int IntKind.i64) (by unfold BD; rfl)
            · intro _; unfold BD; rfl
          case measure => have := HEQ.out; simp [intOf]; omega
        · obtain rfl : q = 0 := by omega
          have HQ := Lib.hid (And.intro hxi hyi)
          go_wp2
          go_ret
          refine ⟨A5, c5, ds, rfl, hle, Nums.of_own hown rfl, HPL.out.1.ok, ?_, by have := HPL.out.1.len; omega, HPL.out.2.1⟩
          have := HPL.out.1.sum
          rw [List.take_of_length_le (by have := HQ.out.1; omega), List.take_of_length_le (by have := HQ.out.2; omega)] at this
          omega
end Go.Proofs.Ytagmdeabneapaaa
