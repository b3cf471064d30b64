/- What Text of package integer does: the text of any integer in any radix. -/
import Derived.Test.YtllkajlmfbikhaaDoorBackwards
import Derived.RegionTactic
import Derived.Laws.BytesArg
namespace Go.Proofs.YtllkajlmfbikhaaDoor
open Go.RowKit

/-- A row that is turned round, as far as i elements on both sides. -/
def Rev (bs zs : List Nat) (i : Nat) : Prop := zs.length = bs.length ∧ ∀ t, t < bs.length → zs.getD t 0 = if t < i ∨ bs.length - i ≤ t then bs.getD (bs.length - 1 - t) 0 else bs.getD t 0
theorem Rev.start (bs : List Nat) : Rev bs bs 0 := ⟨rfl, fun t ht => by rw [if_neg (by omega)]⟩
theorem getD_set_tx (xs : List Nat) (p d : Nat) (h : p < xs.length) : (xs.set p d).getD p 0 = d := by
  rw [List.getD_eq_getElem?_getD, List.getElem?_set, if_pos rfl, if_pos h]; rfl
theorem Rev.step {bs zs : List Nat} {i j a b : Nat} (h : Rev bs zs i) (hij : i < j) (hn : i + j + 1 = bs.length) (ha : zs.getD i 0 = a) (hb : zs.getD j 0 = b) : Rev bs ((zs.set i b).set j a) (i + 1) := by
  obtain ⟨hl, h⟩ := h
  refine ⟨by simp [hl], fun t ht => ?_⟩
  by_cases e1 : t = j
  · subst e1
    rw [getD_set_tx _ _ _ (by rw [List.length_set]; omega), if_pos (by omega), ← ha, h i (by omega), if_neg (by omega)]
    congr 1; omega
  · rw [Lm.getD_set_ne _ _ _ _ (fun e => e1 e.symm)]
    by_cases e2 : t = i
    · subst e2
      rw [getD_set_tx _ _ _ (by omega), if_pos (by omega), ← hb, h j (by omega), if_neg (by omega)]
      congr 1; omega
    · rw [Lm.getD_set_ne _ _ _ _ (fun e => e2 e.symm), h t ht]
      by_cases e3 : t < i ∨ bs.length - i ≤ t
      · rw [if_pos e3, if_pos (by omega)]
      · rw [if_neg e3, if_neg (by omega)]
theorem Rev.end_ {bs zs : List Nat} {i j : Nat} (h : Rev bs zs i) (hij : ¬ i < j) (hn : i + j + 1 = bs.length) : zs = bs.reverse := by
  obtain ⟨hl, h⟩ := h
  refine List.ext_getElem (by rw [List.length_reverse, hl]) fun t h1 h2 => ?_
  have h3 := h t (by omega)
  rw [List.getD_eq_getElem?_getD, List.getElem?_eq_getElem h1, Option.getD_some] at h3
  rw [h3, List.getElem_reverse]
  by_cases e3 : t < i ∨ bs.length - i ≤ t
  · rw [if_pos e3, List.getD_eq_getElem?_getD, List.getElem?_eq_getElem (by omega), Option.getD_some]
  · rw [if_neg e3, List.getD_eq_getElem?_getD, List.getElem?_eq_getElem (by omega), Option.getD_some]
    congr 1; omega

set_option maxRecDepth 100000 in
set_option maxHeartbeats 2000000 in
theorem reverse_any (g cap : Nat) (cur : Array Value) (bs : List Nat) (w : World) (h : Seg w g 0 .u8 5 cur bs) (h0 : 0 < bs.length) (hl : bs.length ≤ 100000000) :
    Calls Tryd.prog 25 #[.slice (some ⟨g, 0, none⟩) bs.length cap] w fun e w' => e = .returned (.tuple #[]) ∧ (∃ cur', Seg w' g 0 .u8 5 cur' bs.reverse) ∧ w.grownBy w' (some g) := by
  obtain ⟨n1, hn1⟩ : ∃ n1, bs.length = n1 + 1 := ⟨bs.length - 1, by omega⟩
  have HN := Lib.hid hn1
  have hn1l : n1 ≤ 100000000 := by omega
  have H := Lib.hid h
  rw [hn1]
  clear h h0 hl hn1
  go_enter Tryd.func25, Tryd.ntmps25
  go_wp2
  go_loopw [2, 3] (fun iv jv wr => ∃ (i j : Nat) (zs : List Nat), iv = .int .i64 i ∧ jv = .int .i64 j ∧ i ≤ n1 ∧ Hid (i + j = n1 ∧ Rev bs zs i ∧ (∃ cur', Seg wr g 0 .u8 5 cur' zs) ∧ w.grownBy wr (some g))) (fun iv _ _ => n1 + 1 - (intOf iv).toNat)
  case atStart => exact ⟨0, n1, bs, rfl, by go_num, Nat.zero_le _, Lib.hid ⟨by omega, Rev.start bs, ⟨cur, H.out⟩, World.grownBy.refl _ _⟩⟩
  case round =>
    obtain ⟨i, j, zs, rfl, rfl, hi, HR⟩ := hrel
    obtain ⟨cur', hs⟩ := HR.out.2.2.1
    have hln := HR.out.2.1.1
    have hij := HR.out.1
    by_cases hlt : i < j
    · obtain ⟨a, ha⟩ : ∃ a, zs.getD i 0 = a := ⟨_, rfl⟩
      obtain ⟨b, hb⟩ : ∃ b, zs.getD j 0 = b := ⟨_, rfl⟩
      have ci := hs.cell (j := i) (by rw [hln, HN.out]; omega)
      have cj := hs.cell (j := j) (by rw [hln, HN.out]; omega)
      have fi := hs.frozen i
      have fj := hs.frozen j
      rw [ha, Nat.zero_add] at ci
      rw [hb, Nat.zero_add] at cj
      have HAB := Lib.hid (And.intro ha (And.intro hb hs))
      have hjn : j ≤ n1 := by omega
      clear ha hb hs hln hij
      go_wp2
      go_region
      all_goals go_wp2
      all_goals go_roundw
      case rel =>
        have hs2 := (HAB.out.2.2.set_ i b).set_ j a
        simp only [Nat.zero_add] at hs2
        have hg := (grown_store wr g i (.int .u8 (b : Nat))).trans (grown_store (wr.setCell ⟨g, i, none⟩ (.int .u8 (b : Nat))) g j (.int .u8 (a : Nat)))
        have hs3 : Seg ((wr.setCell ⟨g, i, none⟩ (.int .u8 (b : Nat))).setCell ⟨g, j, none⟩ (.int .u8 (a : Nat))).drew g 0 .u8 5 _ _ := ⟨hs2.blk, hs2.fit, hs2.at_⟩
        have hg3 : wr.grownBy ((wr.setCell ⟨g, i, none⟩ (.int .u8 (b : Nat))).setCell ⟨g, j, none⟩ (.int .u8 (a : Nat))).drew (some g) := ⟨hg.os, hg.tape, hg.output, hg.size, hg.block⟩
        refine ⟨i + 1, j - 1, _, by go_num, by go_num, by omega, Lib.hid ⟨by have := HR.out.1; omega, HR.out.2.1.step hlt (by have := HR.out.1; have := HN.out; omega) HAB.out.1 HAB.out.2.1, ⟨_, hs3⟩, grown_trans HR.out.2.2.2 hg3⟩⟩
      case measure => simp [intOf]; omega
    · clear hln hij
      go_wp2
      go_end0
      refine ⟨rfl, ⟨cur', ?_⟩, HR.out.2.2.2⟩
      rw [← HR.out.2.1.end_ hlt (by have := HR.out.1; have := HN.out; omega)]
      exact hs

/-- A text is handed back, without an error. -/
def IsTextE (w w' : World) (r : Nat) (z : Int) (e : Ending) : Prop := ∃ bs, e = .returned (.tuple #[.string (Tx.str bs), .int .i64 0]) ∧ Tx.TextOf r z bs ∧ bs.length ≤ 100000000 ∧ Below w.heap.size w w'

theorem own_take {w : World} {B n c m : Nat} {e : TypeId} {A : Option Addr} {k : IntKind} {xs : List Nat} (h : w.ownsRow B e 1 (.slice A n c) n (cellsOf k xs)) (hm : m ≤ n) (h0 : 0 < m) : w.ownsRow B e 1 (.slice A m c) m (cellsOf k (xs.take m)) := by
  have hl := h.1
  rw [cellsOf_length] at hl
  refine ⟨by rw [cellsOf_length, List.length_take]; omega, .inr ?_⟩
  rcases h.2 with ⟨_, h1⟩ | ⟨g, cap, cur, hv, hb, hg, hnc, hcl, hcs, ht⟩
  · omega
  · simp only [Value.slice.injEq] at hv
    obtain ⟨rfl, _, rfl⟩ := hv
    refine ⟨g, c, cur, rfl, hb, hg, by omega, hcl, hcs, ?_⟩
    have : cellsOf k (xs.take m) = (cellsOf k xs).take m := by unfold cellsOf; rw [List.map_take]
    rw [this, ← ht, List.take_take]
    congr 1; omega

theorem own_map {w : World} {B n c m : Nat} {e : TypeId} {A : Option Addr} {xs : List Nat} : w.ownsRow B e 1 (.slice A n c) m (cellsOf .u8 ((xs.map Tx.chr).take n)) = w.ownsRow B e 1 (.slice A n c) m (cellsOf .u8 ((xs.take n).map Tx.chr)) := by
  rw [List.map_take]

/-- What is left of the digits when zeros are taken away. -/
def Stripped (ds : List Nat) (m : Nat) : Prop := m ≤ ds.length ∧ ∀ i, m ≤ i → i < ds.length → ds.getD i 0 = 0
theorem Stripped.pos {r m : Nat} {ds : List Nat} (h : Stripped ds m) (hv : 0 < Lm.val r ds) : 0 < m := by
  rcases Nat.eq_zero_or_pos m with e | e
  · subst e
    have := Lm.val_cut (b := r) 0 (Nat.zero_le _) h.2
    rw [List.take_zero] at this
    rw [← this] at hv
    exact absurd hv (by simp [Lm.val])
  · exact e
theorem Stripped.step {m : Nat} {ds : List Nat} (h : Stripped ds m) (h0 : 0 < m) (hz : ds.getD (m - 1) 0 = 0) : Stripped ds (m - 1) := ⟨by have := h.1; omega, fun i h1 h2 => by
  by_cases e : i = m - 1
  · subst e; exact hz
  · exact h.2 i (by omega) h2⟩
theorem Stripped.text {r m : Nat} {z : Int} {ds : List Nat} (h : Stripped ds m) (h0 : 0 < m) (hz : ds.getD (m - 1) 0 ≠ 0) (ho : Lm.Ok r ds) (hv : Lm.val r ds = z.natAbs) (hz0 : z ≠ 0) :
    Tx.TextOf r z ((if z < 0 then [45] else []) ++ ((ds.take m).map Tx.chr).reverse) := by
  refine .inr ⟨ds.take m, hz0, ho.take m, ?_, by rw [Lm.val_cut m h.1 h.2, hv], rfl⟩
  have hl : (ds.take m).length = m := by rw [List.length_take]; have := h.1; omega
  refine Lm.top_of_last ?_
  rw [hl, List.getD_eq_getElem?_getD, List.getElem?_take, if_pos (by omega), ← List.getD_eq_getElem?_getD]
  exact hz

theorem text_str {l : List Nat} : strOfNums (l.map fun c => ((c : Nat) : Int)) = Tx.str l := rfl
theorem str_zero : (⟨#[48]⟩ : ByteArray) = Tx.str [48] := by decide

theorem getD_cast (l : List Nat) (i : Nat) : (l.map fun c => ((c : Nat) : Int)).getD i 0 = ((l.getD i 0 : Nat) : Int) := by
  rw [List.getD_eq_getElem?_getD, List.getElem?_map, List.getD_eq_getElem?_getD]
  cases l[i]? <;> rfl
theorem convert_seg (g ct n : Nat) (cur : Array Value) (bs : List Nat) (w : World) (h : Seg w g 0 .u8 5 cur bs) (hn : bs.length = n) :
    (convert 57 9 (.slice (some ⟨g, 0, none⟩) n ct)).run Tryd.prog w = .ok (.string (Tx.str bs)) w :=
  run_convert_bytes_arg (P := Tryd.prog) (w := w) 57 5 Tryd.underlying57 Tryd.underlying5 g 0 n ct (bs.map fun c => ((c : Nat) : Int)) (by rw [List.length_map, hn]) (fun i hi => by
    rw [getD_cast]
    exact h.cell (j := i) (by omega)) 9 Tryd.underlying9

set_option maxRecDepth 100000 in
set_option maxHeartbeats 4000000 in
theorem text_zero (v : Value) (r : Nat) (w : World) (h : IntAt w v 0) (h2 : 2 ≤ r) (h36 : r ≤ 36) : Calls Tryd.prog 7 #[v, .int .i64 r] w fun e w' => IsTextE w w' r 0 e := by
  obtain ⟨b, A, c, xs, rfl, hs, hl⟩ := h
  have hb0 : Below w.heap.size w (w.alloc (.cells #[.bool b, .slice A xs.length c] 28)) := (Below.refl _ _).alloc (Nat.le_refl _) _
  have hi0 : IntAt (w.alloc (.cells #[.bool b, .slice A xs.length c] 28)) (.agg #[.bool b, .slice A xs.length c]) 0 := ⟨b, A, c, xs, rfl, hs, hl.below hb0⟩
  have hsg := Sign_any _ 0 1 _ hi0 (by decide) (by decide)
  have hx0 := Two.new w (.bool b) (.slice A xs.length c) 28
  have hrd := radix_yes r (w.alloc (.cells #[.bool b, .slice A xs.length c] 28)) h2 h36
  have H := Lib.hid (And.intro hb0 (And.intro hsg (And.intro hrd hx0)))
  clear hb0 hi0 hsg hx0 hrd hs hl h2 h36
  go_enter Tryd.func7, Tryd.ntmps7
  go_wp2_with fail
  refine H.out.2.2.1.mono ?_
  rintro e w' ⟨rfl, rfl⟩
  obtain ⟨px0, px1⟩ := H.out.2.2.2
  go_wp2_with fail
  refine H.out.2.1.mono ?_
  rintro e w1 ⟨rfl, hb1⟩
  rw [show (0 : Int).sign = 0 from rfl]
  clear px0 px1
  go_wp2
  go_ret2
  exact ⟨[48], by rw [str_zero]; rfl, .inl ⟨rfl, rfl⟩, by decide, below_then H.out.1 hb1⟩

set_option maxRecDepth 100000 in
set_option maxHeartbeats 4000000 in
theorem text_some (v : Value) (z : Int) (r M : Nat) (w : World) (h : IntAt w v z) (h2 : 2 ≤ r) (h36 : r ≤ 36) (hM : M ≤ 20000) (hz : z.natAbs < B32 ^ M) (h0 : z ≠ 0) : Calls Tryd.prog 7 #[v, .int .i64 r] w fun e w' => IsTextE w w' r z e := by
  obtain ⟨i0, hi0, hz0, hz1, hz2⟩ := info_parts infoTx
  have HI := Lib.hid (And.intro hi0 (And.intro hz0 (And.intro hz1 hz2)))
  clear hi0 hz0 hz1 hz2
  obtain ⟨b, A, c, xs, rfl, hs, hl⟩ := h
  have hb0 : Below w.heap.size w (w.alloc (.cells #[.bool b, .slice A xs.length c] 28)) := (Below.refl _ _).alloc (Nat.le_refl _) _
  have hl0 := hl.below hb0
  have hi0 : IntAt (w.alloc (.cells #[.bool b, .slice A xs.length c] 28)) (.agg #[.bool b, .slice A xs.length c]) z := ⟨b, A, c, xs, rfl, hs, hl0⟩
  have hsg := Sign_any _ z M _ hi0 (by omega) hz
  have hx0 := Two.new w (.bool b) (.slice A xs.length c) 28
  have hrd := radix_yes r (w.alloc (.cells #[.bool b, .slice A xs.length c] 28)) h2 h36
  have H := Lib.hid (And.intro hb0 (And.intro hsg (And.intro hrd (And.intro hx0 hl0))))
  obtain ⟨sg, hsgn⟩ : ∃ sg, z.sign = sg := ⟨_, rfl⟩
  have hsne : (sg == 0) = false := by
    rw [← hsgn]
    simpa [Int.sign_eq_zero_iff_zero] using h0
  have HZ := Lib.hid (And.intro hs (And.intro h0 (And.intro hz (And.intro h2 (And.intro h36 (And.intro hM hsgn))))))
  clear hb0 hi0 hsg hx0 hrd hs hl hl0 h0 hz h2 h36 hM hsgn
  go_enter Tryd.func7, Tryd.ntmps7
  go_wp2_with fail
  refine H.out.2.2.1.mono ?_
  rintro e w' ⟨rfl, rfl⟩
  obtain ⟨px0, px1⟩ := H.out.2.2.2.1
  go_wp2_with fail
  refine H.out.2.1.mono ?_
  rintro e w1 ⟨rfl, hb1⟩
  rw [HZ.out.2.2.2.2.2.2]
  have k1 := H.out.2.2.2.1.step hb1 rfl (by simp)
  obtain ⟨kx0, kx1⟩ := id k1
  have hl1 := H.out.2.2.2.2.below hb1
  have hbk := backwards_any A c r z.natAbs M xs w1 hl1 HZ.out.2.2.2.1 HZ.out.2.2.2.2.1 HZ.out.2.2.1 HZ.out.2.2.2.2.2.1
  have hbb := below_then H.out.1 hb1
  have hsz1 : w.heap.size + 1 ≤ w1.heap.size := by have := hb1.size; simpa using this
  have HB := Lib.hid (And.intro hbk (And.intro hbb k1))
  have HS1 := Lib.hid hsz1
  clear px0 px1 hl1 hbk hbb k1 hb1 hsz1
  go_wp2_with fail
  refine HB.out.1.mono ?_
  rintro e w3 ⟨v3, ds, rfl, hown, hok, hval, hdl, hb3⟩
  obtain ⟨At, ct, rfl, hle⟩ := own_form hown
  have hvp : 0 < Lm.val r ds := by rw [hval]; have := HZ.out.2.1; omega
  have hds : ds.length ≤ 20000000 := by have := HZ.out.2.2.2.2.2.1; omega
  have k3 := HB.out.2.2.step hb3 rfl (by have := HS1.out; omega)
  obtain ⟨qx0, qx1⟩ := id k3
  have HO := Lib.hid (And.intro hok (And.intro hval (And.intro hvp hdl)))
  have hw3 := below_then HB.out.2.1 hb3
  have HW := Lib.hid (And.intro hw3 (And.intro hb3.size k3))
  have HCT := Lib.hid hle
  clear kx0 kx1 hle hok hval hvp hdl hb3 hw3 k3
  go_wp2
  go_loopg [6] ds.length (fun q tv wr => ∃ (m : Nat), tv = .slice At m ct ∧ wr = w3 ∧ Hid (m = q ∧ Stripped ds m))
  case atStart => exact ⟨ds.length, rfl, rfl, Lib.hid ⟨rfl, Nat.le_refl _, fun i h1 h2 => by omega⟩⟩
  case round =>
    obtain ⟨m, rfl, rfl, HM⟩ := hrel
    have hm0 := HM.out.2.pos HO.out.2.2.1
    have hml := HM.out.2.1
    obtain ⟨m1, rfl⟩ : ∃ m1, m = m1 + 1 := ⟨m - 1, by omega⟩
    have hmc : m1 + 1 ≤ ct := by have := HCT.out; omega
    have hml2 : m1 ≤ 20000000 := by omega
    obtain ⟨g, cur, rfl, hg, hseg⟩ := seg_of_own hown (by omega)
    have hdl36 : ds.getD m1 0 < 36 := by have := HO.out.1.getD (by have := HZ.out.2.2.2.1; omega) m1; have := HZ.out.2.2.2.2.1; omega
    obtain ⟨d, hd⟩ : ∃ d, ds.getD m1 0 = d := ⟨_, rfl⟩
    have hc := hseg.cell (j := m1) (by rw [List.length_map]; omega)
    have hcd : (ds.map Tx.chr).getD m1 0 = Tx.chr d := by
      rw [← hd, List.getD_eq_getElem?_getD, List.getElem?_map, List.getD_eq_getElem?_getD, List.getElem?_eq_getElem (by omega)]; rfl
    rw [hcd, Nat.zero_add] at hc
    rw [hd] at hdl36
    by_cases hd0 : d = 0
    · subst hd0
      rw [show Tx.chr 0 = 48 from rfl] at hc
      have HD := Lib.hid hd
      clear hd hcd hseg hdl36 hm0 hg
      go_wp2
      go_roundg m1
      case rel => exact ⟨m1, rfl, rfl, Lib.hid ⟨rfl, HM.out.2.step (by omega) HD.out⟩⟩
      case measure => have := HM.out.1; omega
    · obtain ⟨x, hx⟩ : ∃ x, Tx.chr d = x := ⟨_, rfl⟩
      rw [hx] at hc
      have hxl : x ≤ 90 := by rw [← hx]; exact Tx.chr_le hdl36
      have hxne : ((x : Int) == 48) = false := by
        have : x ≠ 48 := fun e => hd0 (Tx.chr_zero (hx.trans e))
        simp; omega
      have hot := own_take hown (m := m1 + 1) (by omega) (by omega)
      have htx := HM.out.2.text (r := r) (z := z) (by omega) (by rw [Nat.add_sub_cancel, hd]; exact hd0) HO.out.1 HO.out.2.1 HZ.out.2.1
      have HT := Lib.hid (And.intro hot htx)
      clear hd hcd hseg hdl36 hm0 hd0 hx hot htx hg
      cases b
      · have hzp : ¬ z < 0 := by simpa [SignOf] using HZ.out.1
        rw [if_neg hzp, List.nil_append] at HT
        obtain ⟨bs, hbs⟩ : ∃ bs, (ds.take (m1 + 1)).map Tx.chr = bs := ⟨_, rfl⟩
        have HBS := Lib.hid hbs
        have hbl : bs.length = m1 + 1 := by rw [← hbs, List.length_map, List.length_take]; omega
        have hot := HT.out.1
        rw [own_map, hbs] at hot
        obtain ⟨g', cur', e1, hgg, hseg⟩ := seg_of_own hot (by omega)
        injection e1 with e1
        injection e1 with e1
        subst e1
        have hrv := reverse_any g ct cur' bs wr hseg (by omega) (by omega)
        rw [hbl] at hrv
        have HRV := Lib.hid (And.intro hrv (And.intro hbl hgg))
        clear hrv hbl hgg hot hseg hbs hzp
        go_wp2_with fail
        refine HRV.out.1.mono ?_
        rintro e w4 ⟨rfl, ⟨cur4, hs4⟩, hg4⟩
        have hcv := convert_seg g ct (m1 + 1) cur4 bs.reverse w4 hs4 (by rw [List.length_reverse]; exact HRV.out.2.1)
        go_wp2
        go_ret2
        exact ⟨bs.reverse, rfl, by have := HT.out.2; rw [HBS.out] at this; exact this, by rw [List.length_reverse, HRV.out.2.1]; omega, HW.out.1.trans ((grown_below hg4 HRV.out.2.2 HW.out.2.1).mono (by have := HS1.out; omega))⟩
      · have hzn : z < 0 := by simpa [SignOf] using HZ.out.1
        rw [if_pos hzn] at HT
        obtain ⟨bs, hbs⟩ : ∃ bs, (ds.take (m1 + 1)).map Tx.chr = bs := ⟨_, rfl⟩
        have HBS := Lib.hid hbs
        have hbl : bs.length = m1 + 1 := by rw [← hbs, List.length_map, List.length_take]; omega
        have hot := HT.out.1
        rw [own_map, hbs] at hot
        have hsz3 : w1.heap.size ≤ wr.heap.size := HW.out.2.1
        have HBL := Lib.hid hbl
        clear hbs hzn hbl
        go_wp2_with (at_builtin; refine wpList_append_own _ rfl _ _ 57 rfl w1.heap.size 5 i0 (.int .u8 0) 1 1 Tryd.underlying57 HI.out.1 HI.out.2.1 HI.out.2.2.1 HI.out.2.2.2 rfl (by decide) _ (m1 + 1) (cellsOf .u8 bs) rfl (hot.alloc _) ⟨wr.heap.size, 0, none⟩ 1 1 [.int .u8 45] rfl rfl (cell_one_new _ _ _) (by simp [Value.oneCell']) (by unfold maxLen; omega) (by omega) (by simp; omega) ?_; intro v1 w2 hown1 hg1 _; have hlt1 := hot.lt; rw [show cellsOf .u8 bs ++ [Value.int .u8 45] = cellsOf .u8 (bs ++ [45]) from by simp [cellsOf]] at hown1; obtain ⟨At2, ct2, rfl, _⟩ := own_form hown1; obtain ⟨g2, cur2, rfl, hg2, hseg2⟩ := seg_of_own hown1 (by omega); have hb2 : Below w1.heap.size wr w2 := ((Below.refl _ _).alloc hsz3 _).grown hg1 (by simp; omega) (fun k hk => (hlt1 k hk).1); have HB2 := Lib.hid (And.intro hb2 (And.intro hg2 hseg2)); clear hb2 hg2 hseg2 hown1 hg1 hlt1 hot hc)
        have hl2 : (bs ++ [45]).length = m1 + 1 + 1 := by rw [List.length_append, List.length_singleton, HBL.out]
        have hrv := reverse_any g2 ct2 cur2 (bs ++ [45]) w2 HB2.out.2.2 (by omega) (by omega)
        rw [hl2] at hrv
        have HRV := Lib.hid (And.intro hrv hl2)
        clear hrv hl2
        go_wp2_with fail
        refine HRV.out.1.mono ?_
        rintro e w4 ⟨rfl, ⟨cur4, hs4⟩, hg4⟩
        have hcv := convert_seg g2 ct2 (m1 + 1 + 1) cur4 (bs ++ [45]).reverse w4 hs4 (by rw [List.length_reverse]; exact HRV.out.2)
        go_wp2
        go_ret2
        exact ⟨45 :: bs.reverse, rfl, by have := HT.out.2; rw [HBS.out] at this; simpa using this, by rw [List.length_cons, List.length_reverse, HBL.out]; omega, (HW.out.1.trans (HB2.out.1.mono (by have := HS1.out; omega))).trans ((grown_below hg4 HB2.out.2.1 (Nat.le_trans hsz3 HB2.out.1.size)).mono (by have := HS1.out; omega))⟩

theorem Text_any (v : Value) (z : Int) (r M : Nat) (w : World) (h : IntAt w v z) (h2 : 2 ≤ r) (h36 : r ≤ 36) (hM : M ≤ 20000) (hz : z.natAbs < B32 ^ M) : Calls Tryd.prog 7 #[v, .int .i64 r] w fun e w' => IsTextE w w' r z e := by
  by_cases h0 : z = 0
  · subst h0; exact text_zero v r w h h2 h36
  · exact text_some v z r M w h h2 h36 hM hz h0

/-- The error of a radix that is not permitted. -/
def IsNoText (w w' : World) (e : Ending) : Prop := e = .returned (.tuple #[.string ⟨#[]⟩, .int .i64 1]) ∧ Below w.heap.size w w'
set_option maxRecDepth 100000 in
set_option maxHeartbeats 4000000 in
theorem Text_none (v : Value) (z r : Int) (w : World) (h : IntAt w v z) (hr : r < 2 ∨ 36 < r) : Calls Tryd.prog 7 #[v, .int .i64 r] w fun e w' => IsNoText w w' e := by
  obtain ⟨b, A, c, xs, rfl, hs, hl⟩ := h
  have hb0 : Below w.heap.size w (w.alloc (.cells #[.bool b, .slice A xs.length c] 28)) := (Below.refl _ _).alloc (Nat.le_refl _) _
  have hrd := radix_no r (w.alloc (.cells #[.bool b, .slice A xs.length c] 28)) hr
  have H := Lib.hid (And.intro hb0 hrd)
  clear hb0 hrd hs hl hr
  go_enter Tryd.func7, Tryd.ntmps7
  go_wp2_with fail
  refine H.out.2.mono ?_
  rintro e w' ⟨rfl, rfl⟩
  go_wp2
  go_ret2
  exact ⟨rfl, H.out.1⟩
end Go.Proofs.YtllkajlmfbikhaaDoor
