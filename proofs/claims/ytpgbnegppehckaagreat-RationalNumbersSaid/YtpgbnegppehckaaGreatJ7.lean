/- Joined texts: TextP, QText, TAwake, TShort, NumLaw, Frame, FrameQ. -/
import Derived.Test.YtpgbnegppehckaaGreatJ6
import Derived.RegionTactic
import Derived.Laws.BytesArg
import Derived.Test.YtpgbnegppehckaaGreatJ4
import Derived.Test.YtpgbnegppehckaaGreatJ1
import Derived.Test.YtpgbnegppehckaaGreatRows
import Derived.ProofKit
import Derived.OpenShut
import Derived.ShutString
import Derived.ChangeOld
import Derived.Lib.SmallJoins
set_option linter.unusedSimpArgs false
set_option maxRecDepth 100000
set_option maxHeartbeats 8000000
namespace Go.Proofs.YtpgbnegppehckaaGreat
open Go.RowKit
def Rev (bs zs : List Nat) (i : Nat) : Prop := zs.length = bs.length ∧ ∀ t, t < bs.length → zs.getD t 0 = if t < i ∨ bs.length - i ≤ t then bs.getD (bs.length - 1 - t) 0 else bs.getD t 0
theorem Rev.start (bs : List Nat) : Rev bs bs 0 := ⟨rfl, fun t ht => by rw [if_neg (by omega)]⟩
theorem getD_set_tx (xs : List Nat) (p d : Nat) (h : p < xs.length) : (xs.set p d).getD p 0 = d := by
  rw [List.getD_eq_getElem?_getD, List.getElem?_set, if_pos rfl, if_pos h]; rfl
theorem Rev.step {bs zs : List Nat} {i j a b : Nat} (h : Rev bs zs i) (hij : i < j) (hn : i + j + 1 = bs.length) (ha : zs.getD i 0 = a) (hb : zs.getD j 0 = b) : Rev bs ((zs.set i b).set j a) (i + 1) := by
  obtain ⟨hl, h⟩ := h
  refine ⟨by simp [hl], fun t ht => ?_⟩
  by_cases e1 : t = j
  · subst e1
    rw [getD_set_tx _ _ _ (by rw [List.length_set]; omega), if_pos (by omega), ← ha, h i (by omega), if_neg (by omega)]
    congr 1; omega
  · rw [Lm.getD_set_ne _ _ _ _ (fun e => e1 e.symm)]
    by_cases e2 : t = i
    · subst e2
      rw [getD_set_tx _ _ _ (by omega), if_pos (by omega), ← hb, h j (by omega), if_neg (by omega)]
      congr 1; omega
    · rw [Lm.getD_set_ne _ _ _ _ (fun e => e2 e.symm), h t ht]
      by_cases e3 : t < i ∨ bs.length - i ≤ t
      · rw [if_pos e3, if_pos (by omega)]
      · rw [if_neg e3, if_neg (by omega)]
theorem Rev.end_ {bs zs : List Nat} {i j : Nat} (h : Rev bs zs i) (hij : ¬ i < j) (hn : i + j + 1 = bs.length) : zs = bs.reverse := by
  obtain ⟨hl, h⟩ := h
  refine List.ext_getElem (by rw [List.length_reverse, hl]) fun t h1 h2 => ?_
  have h3 := h t (by omega)
  rw [List.getD_eq_getElem?_getD, List.getElem?_eq_getElem h1, Option.getD_some] at h3
  rw [h3, List.getElem_reverse]
  by_cases e3 : t < i ∨ bs.length - i ≤ t
  · rw [if_pos e3, List.getD_eq_getElem?_getD, List.getElem?_eq_getElem (by omega), Option.getD_some]
  · rw [if_neg e3, List.getD_eq_getElem?_getD, List.getElem?_eq_getElem (by omega), Option.getD_some]
    congr 1; omega
theorem reverse_any (g cap : Nat) (cur : Array Value) (bs : List Nat) (w : World) (h : Seg w g 0 .u8 5 cur bs) (h0 : 0 < bs.length) (hl : bs.length ≤ 100000000) :
    Calls Tryz.prog 144 #[.slice (some ⟨g, 0, none⟩) bs.length cap] w fun e w' => e = .returned (.tuple #[]) ∧ (∃ cur', Seg w' g 0 .u8 5 cur' bs.reverse) ∧ w.grownBy w' (some g) := by
  obtain ⟨n1, hn1⟩ : ∃ n1, bs.length = n1 + 1 := ⟨bs.length - 1, by omega⟩
  have HN := Lib.hid hn1
  have hn1l : n1 ≤ 100000000 := by omega
  have H := Lib.hid h
  rw [hn1]
  clear h h0 hl hn1
  go_enter Tryz.func144, Tryz.ntmps144
  go_wp2
  go_loopw [2, 3] (fun iv jv wr => ∃ (i j : Nat) (zs : List Nat), iv = .int .i64 i ∧ jv = .int .i64 j ∧ i ≤ n1 ∧ Hid (i + j = n1 ∧ Rev bs zs i ∧ (∃ cur', Seg wr g 0 .u8 5 cur' zs) ∧ w.grownBy wr (some g))) (fun iv _ _ => n1 + 1 - (intOf iv).toNat)
  case atStart => exact ⟨0, n1, bs, rfl, by go_num, Nat.zero_le _, Lib.hid ⟨by omega, Rev.start bs, ⟨cur, H.out⟩, World.grownBy.refl _ _⟩⟩
  case round =>
   obtain ⟨i, j, zs, rfl, rfl, hi, HR⟩ := hrel
   obtain ⟨cur', hs⟩ := HR.out.2.2.1
   have hln := HR.out.2.1.1
   have hij := HR.out.1
   by_cases hlt : i < j
   · obtain ⟨a, ha⟩ : ∃ a, zs.getD i 0 = a := ⟨_, rfl⟩
     obtain ⟨b, hb⟩ : ∃ b, zs.getD j 0 = b := ⟨_, rfl⟩
     have ci := hs.cell (j := i) (by rw [hln, HN.out]; omega)
     have cj := hs.cell (j := j) (by rw [hln, HN.out]; omega)
     have fi := hs.frozen i
     have fj := hs.frozen j
     rw [ha, Nat.zero_add] at ci
     rw [hb, Nat.zero_add] at cj
     have HAB := Lib.hid (And.intro ha (And.intro hb hs))
     have hjn : j ≤ n1 := by omega
     clear ha hb hs hln hij
     go_wp2
     go_region
     all_goals go_wp2
     all_goals go_roundw
     case rel =>
      have hs2 := (HAB.out.2.2.set_ i b).set_ j a
      simp only [Nat.zero_add] at hs2
      have hg := (grown_store wr g i (.int .u8 (b : Nat))).trans (grown_store (wr.setCell ⟨g, i, none⟩ (.int .u8 (b : Nat))) g j (.int .u8 (a : Nat)))
      have hs3 : Seg ((wr.setCell ⟨g, i, none⟩ (.int .u8 (b : Nat))).setCell ⟨g, j, none⟩ (.int .u8 (a : Nat))).drew g 0 .u8 5 _ _ := ⟨hs2.blk, hs2.fit, hs2.at_⟩
      have hg3 : wr.grownBy ((wr.setCell ⟨g, i, none⟩ (.int .u8 (b : Nat))).setCell ⟨g, j, none⟩ (.int .u8 (a : Nat))).drew (some g) := ⟨hg.os, hg.tape, hg.output, hg.size, hg.block⟩
      refine ⟨i + 1, j - 1, _, by go_num, by go_num, by omega, Lib.hid ⟨by have := HR.out.1; omega, HR.out.2.1.step hlt (by have := HR.out.1; have := HN.out; omega) HAB.out.1 HAB.out.2.1, ⟨_, hs3⟩, grown_trans HR.out.2.2.2 hg3⟩⟩
     case measure => simp [intOf]; omega
   · clear hln hij
     go_wp2
     go_end0
     refine ⟨rfl, ⟨cur', ?_⟩, HR.out.2.2.2⟩
     rw [← HR.out.2.1.end_ hlt (by have := HR.out.1; have := HN.out; omega)]
     exact hs
def IsTextE (w w' : World) (r : Nat) (z : Int) (e : Ending) : Prop := ∃ bs, e = .returned (.tuple #[.string (Tx.str bs), .int .i64 0]) ∧ Tx.TextOf r z bs ∧ bs.length ≤ 100000000 ∧ Below w.heap.size w w'
theorem own_take {w : World} {B n c m : Nat} {e : TypeId} {A : Option Addr} {k : IntKind} {xs : List Nat} (h : w.ownsRow B e 1 (.slice A n c) n (cellsOf k xs)) (hm : m ≤ n) (h0 : 0 < m) : w.ownsRow B e 1 (.slice A m c) m (cellsOf k (xs.take m)) := by
  have hl := h.1
  rw [cellsOf_length] at hl
  refine ⟨by rw [cellsOf_length, List.length_take]; omega, .inr ?_⟩
  rcases h.2 with ⟨_, h1⟩ | ⟨g, cap, cur, hv, hb, hg, hnc, hcl, hcs, ht⟩
  · omega
  · simp only [Value.slice.injEq] at hv
    obtain ⟨rfl, _, rfl⟩ := hv
    refine ⟨g, c, cur, rfl, hb, hg, by omega, hcl, hcs, ?_⟩
    have : cellsOf k (xs.take m) = (cellsOf k xs).take m := by unfold cellsOf; rw [List.map_take]
    rw [this, ← ht, List.take_take]
    congr 1; omega
theorem own_map {w : World} {B n c m : Nat} {e : TypeId} {A : Option Addr} {xs : List Nat} : w.ownsRow B e 1 (.slice A n c) m (cellsOf .u8 ((xs.map Tx.chr).take n)) = w.ownsRow B e 1 (.slice A n c) m (cellsOf .u8 ((xs.take n).map Tx.chr)) := by
  rw [List.map_take]
def Stripped (ds : List Nat) (m : Nat) : Prop := m ≤ ds.length ∧ ∀ i, m ≤ i → i < ds.length → ds.getD i 0 = 0
theorem Stripped.pos {r m : Nat} {ds : List Nat} (h : Stripped ds m) (hv : 0 < Lm.val r ds) : 0 < m := by
  rcases Nat.eq_zero_or_pos m with e | e
  · subst e
    have := Lm.val_cut (b := r) 0 (Nat.zero_le _) h.2
    rw [List.take_zero] at this
    rw [← this] at hv
    exact absurd hv (by simp [Lm.val])
  · exact e
theorem Stripped.step {m : Nat} {ds : List Nat} (h : Stripped ds m) (h0 : 0 < m) (hz : ds.getD (m - 1) 0 = 0) : Stripped ds (m - 1) := ⟨by have := h.1; omega, fun i h1 h2 => by
  by_cases e : i = m - 1
  · subst e; exact hz
  · exact h.2 i (by omega) h2⟩
theorem Stripped.text {r m : Nat} {z : Int} {ds : List Nat} (h : Stripped ds m) (h0 : 0 < m) (hz : ds.getD (m - 1) 0 ≠ 0) (ho : Lm.Ok r ds) (hv : Lm.val r ds = z.natAbs) (hz0 : z ≠ 0) :
    Tx.TextOf r z ((if z < 0 then [45] else []) ++ ((ds.take m).map Tx.chr).reverse) := by
  refine .inr ⟨ds.take m, hz0, ho.take m, ?_, by rw [Lm.val_cut m h.1 h.2, hv], rfl⟩
  have hl : (ds.take m).length = m := by rw [List.length_take]; have := h.1; omega
  refine Lm.top_of_last ?_
  rw [hl, List.getD_eq_getElem?_getD, List.getElem?_take, if_pos (by omega), ← List.getD_eq_getElem?_getD]
  exact hz
theorem str_zero : (⟨#[48]⟩ : ByteArray) = Tx.str [48] := by decide
theorem getD_cast (l : List Nat) (i : Nat) : (l.map fun c => ((c : Nat) : Int)).getD i 0 = ((l.getD i 0 : Nat) : Int) := by
  rw [List.getD_eq_getElem?_getD, List.getElem?_map, List.getD_eq_getElem?_getD]
  cases l[i]? <;> rfl
theorem convert_seg (g ct n : Nat) (cur : Array Value) (bs : List Nat) (w : World) (h : Seg w g 0 .u8 5 cur bs) (hn : bs.length = n) :
    (convert 169 9 (.slice (some ⟨g, 0, none⟩) n ct)).run Tryz.prog w = .ok (.string (Tx.str bs)) w :=
  run_convert_bytes_arg (P := Tryz.prog) (w := w) 169 5 Tryz.underlying169 Tryz.underlying5 g 0 n ct (bs.map fun c => ((c : Nat) : Int)) (by rw [List.length_map, hn]) (fun i hi => by
    rw [getD_cast]
    exact h.cell (j := i) (by omega)) 9 Tryz.underlying9
theorem text_zero (v : Value) (r : Nat) (w : World) (h : IntAt w v 0) (h2 : 2 ≤ r) (h36 : r ≤ 36) : Calls Tryz.prog 107 #[v, .int .i64 r] w fun e w' => IsTextE w w' r 0 e := by
  obtain ⟨b, A, c, xs, rfl, hs, hl⟩ := h
  have hb0 : Below w.heap.size w (w.alloc (.cells #[.bool b, .slice A xs.length c] 31)) := (Below.refl _ _).alloc (Nat.le_refl _) _
  have hi0 : IntAt (w.alloc (.cells #[.bool b, .slice A xs.length c] 31)) (.agg #[.bool b, .slice A xs.length c]) 0 := ⟨b, A, c, xs, rfl, hs, hl.below hb0⟩
  have hsg := Sign_any _ 0 1 _ hi0 (by decide) (by decide)
  have hx0 := Two.new w (.bool b) (.slice A xs.length c) 31
  have hrd := radix_yes r (w.alloc (.cells #[.bool b, .slice A xs.length c] 31)) h2 h36
  have H := Lib.hid (And.intro hb0 (And.intro hsg (And.intro hrd hx0)))
  clear hb0 hi0 hsg hx0 hrd hs hl h2 h36
  go_enter Tryz.func107, Tryz.ntmps107
  go_wp2_with fail
  refine H.out.2.2.1.mono ?_
  rintro e w' ⟨rfl, rfl⟩
  obtain ⟨px0, px1⟩ := H.out.2.2.2
  go_wp2_with fail
  refine H.out.2.1.mono ?_
  rintro e w1 ⟨rfl, hb1⟩
  rw [show (0 : Int).sign = 0 from rfl]
  clear px0 px1
  go_wp2
  go_ret2
  exact ⟨[48], by rw [str_zero]; rfl, .inl ⟨rfl, rfl⟩, by decide, below_then H.out.1 hb1⟩
theorem text_some (v : Value) (z : Int) (r M : Nat) (w : World) (h : IntAt w v z) (h2 : 2 ≤ r) (h36 : r ≤ 36) (hM : M ≤ 20000) (hz : z.natAbs < B32 ^ M) (h0 : z ≠ 0) : Calls Tryz.prog 107 #[v, .int .i64 r] w fun e w' => IsTextE w w' r z e := by
  obtain ⟨i0, hi0, hz0, hz1, hz2⟩ := info_parts infoTx
  have HI := Lib.hid (And.intro hi0 (And.intro hz0 (And.intro hz1 hz2)))
  clear hi0 hz0 hz1 hz2
  obtain ⟨b, A, c, xs, rfl, hs, hl⟩ := h
  have hb0 : Below w.heap.size w (w.alloc (.cells #[.bool b, .slice A xs.length c] 31)) := (Below.refl _ _).alloc (Nat.le_refl _) _
  have hl0 := hl.below hb0
  have hi0 : IntAt (w.alloc (.cells #[.bool b, .slice A xs.length c] 31)) (.agg #[.bool b, .slice A xs.length c]) z := ⟨b, A, c, xs, rfl, hs, hl0⟩
  have hsg := Sign_any _ z M _ hi0 (by omega) hz
  have hx0 := Two.new w (.bool b) (.slice A xs.length c) 31
  have hrd := radix_yes r (w.alloc (.cells #[.bool b, .slice A xs.length c] 31)) h2 h36
  have H := Lib.hid (And.intro hb0 (And.intro hsg (And.intro hrd (And.intro hx0 hl0))))
  obtain ⟨sg, hsgn⟩ : ∃ sg, z.sign = sg := ⟨_, rfl⟩
  have hsne : (sg == 0) = false := by
    rw [← hsgn]
    simpa [Int.sign_eq_zero_iff_zero] using h0
  have HZ := Lib.hid (And.intro hs (And.intro h0 (And.intro hz (And.intro h2 (And.intro h36 (And.intro hM hsgn))))))
  clear hb0 hi0 hsg hx0 hrd hs hl hl0 h0 hz h2 h36 hM hsgn
  go_enter Tryz.func107, Tryz.ntmps107
  go_wp2_with fail
  refine H.out.2.2.1.mono ?_
  rintro e w' ⟨rfl, rfl⟩
  obtain ⟨px0, px1⟩ := H.out.2.2.2.1
  go_wp2_with fail
  refine H.out.2.1.mono ?_
  rintro e w1 ⟨rfl, hb1⟩
  rw [HZ.out.2.2.2.2.2.2]
  have k1 := H.out.2.2.2.1.step hb1 rfl (by simp)
  obtain ⟨kx0, kx1⟩ := id k1
  have hl1 := H.out.2.2.2.2.below hb1
  have hbk := backwards_any A c r z.natAbs M xs w1 hl1 HZ.out.2.2.2.1 HZ.out.2.2.2.2.1 HZ.out.2.2.1 HZ.out.2.2.2.2.2.1
  have hbb := below_then H.out.1 hb1
  have hsz1 : w.heap.size + 1 ≤ w1.heap.size := by have := hb1.size; simpa using this
  have HB := Lib.hid (And.intro hbk (And.intro hbb k1))
  have HS1 := Lib.hid hsz1
  clear px0 px1 hl1 hbk hbb k1 hb1 hsz1
  go_wp2_with fail
  refine HB.out.1.mono ?_
  rintro e w3 ⟨v3, ds, rfl, hown, hok, hval, hdl, hb3⟩
  obtain ⟨At, ct, rfl, hle⟩ := own_form hown
  have hvp : 0 < Lm.val r ds := by rw [hval]; have := HZ.out.2.1; omega
  have hds : ds.length ≤ 20000000 := by have := HZ.out.2.2.2.2.2.1; omega
  have k3 := HB.out.2.2.step hb3 rfl (by have := HS1.out; omega)
  obtain ⟨qx0, qx1⟩ := id k3
  have HO := Lib.hid (And.intro hok (And.intro hval (And.intro hvp hdl)))
  have hw3 := below_then HB.out.2.1 hb3
  have HW := Lib.hid (And.intro hw3 (And.intro hb3.size k3))
  have HCT := Lib.hid hle
  clear kx0 kx1 hle hok hval hvp hdl hb3 hw3 k3
  go_wp2
  go_loopg [6] ds.length (fun q tv wr => ∃ (m : Nat), tv = .slice At m ct ∧ wr = w3 ∧ Hid (m = q ∧ Stripped ds m))
  case atStart => exact ⟨ds.length, rfl, rfl, Lib.hid ⟨rfl, Nat.le_refl _, fun i h1 h2 => by omega⟩⟩
  case round =>
   obtain ⟨m, rfl, rfl, HM⟩ := hrel
   have hm0 := HM.out.2.pos HO.out.2.2.1
   have hml := HM.out.2.1
   obtain ⟨m1, rfl⟩ : ∃ m1, m = m1 + 1 := ⟨m - 1, by omega⟩
   have hmc : m1 + 1 ≤ ct := by have := HCT.out; omega
   have hml2 : m1 ≤ 20000000 := by omega
   obtain ⟨g, cur, rfl, hg, hseg⟩ := seg_of_own hown (by omega)
   have hdl36 : ds.getD m1 0 < 36 := by have := HO.out.1.getD (by have := HZ.out.2.2.2.1; omega) m1; have := HZ.out.2.2.2.2.1; omega
   obtain ⟨d, hd⟩ : ∃ d, ds.getD m1 0 = d := ⟨_, rfl⟩
   have hc := hseg.cell (j := m1) (by rw [List.length_map]; omega)
   have hcd : (ds.map Tx.chr).getD m1 0 = Tx.chr d := by
     rw [← hd, List.getD_eq_getElem?_getD, List.getElem?_map, List.getD_eq_getElem?_getD, List.getElem?_eq_getElem (by omega)]; rfl
   rw [hcd, Nat.zero_add] at hc
   rw [hd] at hdl36
   by_cases hd0 : d = 0
   · subst hd0
     rw [show Tx.chr 0 = 48 from rfl] at hc
     have HD := Lib.hid hd
     clear hd hcd hseg hdl36 hm0 hg
     go_wp2
     go_roundg m1
     case rel => exact ⟨m1, rfl, rfl, Lib.hid ⟨rfl, HM.out.2.step (by omega) HD.out⟩⟩
     case measure => have := HM.out.1; omega
   · obtain ⟨x, hx⟩ : ∃ x, Tx.chr d = x := ⟨_, rfl⟩
     rw [hx] at hc
     have hxl : x ≤ 90 := by rw [← hx]; exact Tx.chr_le hdl36
     have hxne : ((x : Int) == 48) = false := by
       have : x ≠ 48 := fun e => hd0 (Tx.chr_zero (hx.trans e))
       simp; omega
     have hot := own_take hown (m := m1 + 1) (by omega) (by omega)
     have htx := HM.out.2.text (r := r) (z := z) (by omega) (by rw [Nat.add_sub_cancel, hd]; exact hd0) HO.out.1 HO.out.2.1 HZ.out.2.1
     have HT := Lib.hid (And.intro hot htx)
     clear hd hcd hseg hdl36 hm0 hd0 hx hot htx hg
     cases b
     · have hzp : ¬ z < 0 := by simpa [SignOf] using HZ.out.1
       rw [if_neg hzp, List.nil_append] at HT
       obtain ⟨bs, hbs⟩ : ∃ bs, (ds.take (m1 + 1)).map Tx.chr = bs := ⟨_, rfl⟩
       have HBS := Lib.hid hbs
       have hbl : bs.length = m1 + 1 := by rw [← hbs, List.length_map, List.length_take]; omega
       have hot := HT.out.1
       rw [own_map, hbs] at hot
       obtain ⟨g', cur', e1, hgg, hseg⟩ := seg_of_own hot (by omega)
       injection e1 with e1
       injection e1 with e1
       subst e1
       have hrv := reverse_any g ct cur' bs wr hseg (by omega) (by omega)
       rw [hbl] at hrv
       have HRV := Lib.hid (And.intro hrv (And.intro hbl hgg))
       clear hrv hbl hgg hot hseg hbs hzp
       go_wp2_with fail
       refine HRV.out.1.mono ?_
       rintro e w4 ⟨rfl, ⟨cur4, hs4⟩, hg4⟩
       have hcv := convert_seg g ct (m1 + 1) cur4 bs.reverse w4 hs4 (by rw [List.length_reverse]; exact HRV.out.2.1)
       go_wp2
       go_ret2
       exact ⟨bs.reverse, rfl, by have := HT.out.2; rw [HBS.out] at this; exact this, by rw [List.length_reverse, HRV.out.2.1]; omega, HW.out.1.trans ((grown_below hg4 HRV.out.2.2 HW.out.2.1).mono (by have := HS1.out; omega))⟩
     · have hzn : z < 0 := by simpa [SignOf] using HZ.out.1
       rw [if_pos hzn] at HT
       obtain ⟨bs, hbs⟩ : ∃ bs, (ds.take (m1 + 1)).map Tx.chr = bs := ⟨_, rfl⟩
       have HBS := Lib.hid hbs
       have hbl : bs.length = m1 + 1 := by rw [← hbs, List.length_map, List.length_take]; omega
       have hot := HT.out.1
       rw [own_map, hbs] at hot
       have hsz3 : w1.heap.size ≤ wr.heap.size := HW.out.2.1
       have HBL := Lib.hid hbl
       clear hbs hzn hbl
       go_wp2_with (at_builtin; refine wpList_append_own _ rfl _ _ 169 rfl w1.heap.size 5 i0 (.int .u8 0) 1 1 Tryz.underlying169 HI.out.1 HI.out.2.1 HI.out.2.2.1 HI.out.2.2.2 rfl (by decide) _ (m1 + 1) (cellsOf .u8 bs) rfl (hot.alloc _) ⟨wr.heap.size, 0, none⟩ 1 1 [.int .u8 45] rfl rfl (cell_one_new _ _ _) (by simp [Value.oneCell']) (by unfold maxLen; omega) (by omega) (by simp; omega) ?_; intro v1 w2 hown1 hg1 _; have hlt1 := hot.lt; rw [show cellsOf .u8 bs ++ [Value.int .u8 45] = cellsOf .u8 (bs ++ [45]) from by simp [cellsOf]] at hown1; obtain ⟨At2, ct2, rfl, _⟩ := own_form hown1; obtain ⟨g2, cur2, rfl, hg2, hseg2⟩ := seg_of_own hown1 (by omega); have hb2 : Below w1.heap.size wr w2 := ((Below.refl _ _).alloc hsz3 _).grown hg1 (by simp; omega) (fun k hk => (hlt1 k hk).1); have HB2 := Lib.hid (And.intro hb2 (And.intro hg2 hseg2)); clear hb2 hg2 hseg2 hown1 hg1 hlt1 hot hc)
       have hl2 : (bs ++ [45]).length = m1 + 1 + 1 := by rw [List.length_append, List.length_singleton, HBL.out]
       have hrv := reverse_any g2 ct2 cur2 (bs ++ [45]) w2 HB2.out.2.2 (by omega) (by omega)
       rw [hl2] at hrv
       have HRV := Lib.hid (And.intro hrv hl2)
       clear hrv hl2
       go_wp2_with fail
       refine HRV.out.1.mono ?_
       rintro e w4 ⟨rfl, ⟨cur4, hs4⟩, hg4⟩
       have hcv := convert_seg g2 ct2 (m1 + 1 + 1) cur4 (bs ++ [45]).reverse w4 hs4 (by rw [List.length_reverse]; exact HRV.out.2)
       go_wp2
       go_ret2
       exact ⟨45 :: bs.reverse, rfl, by have := HT.out.2; rw [HBS.out] at this; simpa using this, by rw [List.length_cons, List.length_reverse, HBL.out]; omega, (HW.out.1.trans (HB2.out.1.mono (by have := HS1.out; omega))).trans ((grown_below hg4 HB2.out.2.1 (Nat.le_trans hsz3 HB2.out.1.size)).mono (by have := HS1.out; omega))⟩
theorem Text_any (v : Value) (z : Int) (r M : Nat) (w : World) (h : IntAt w v z) (h2 : 2 ≤ r) (h36 : r ≤ 36) (hM : M ≤ 20000) (hz : z.natAbs < B32 ^ M) : Calls Tryz.prog 107 #[v, .int .i64 r] w fun e w' => IsTextE w w' r z e := by
  by_cases h0 : z = 0
  · subst h0; exact text_zero v r w h h2 h36
  · exact text_some v z r M w h h2 h36 hM hz h0
end Go.Proofs.YtpgbnegppehckaaGreat
namespace Go.Proofs.YtpgbnegppehckaaGreat.FK
open Go.RowKit Go.Proofs.YtpgbnegppehckaaGreat.RK
theorem rat_hi {w : World} {b b2 : Bool} {A A2 : Option Addr} {n c n2 c2 : Nat} {z d : Int} (h : RatAt w (.agg #[.bool b, .slice A n c, .bool b2, .slice A2 n2 c2]) z d) : IntAt w (.agg #[.bool b2, .slice A2 n2 c2]) (kept d) := by
  obtain ⟨b1, A1, c1, xs1, b2, A2, c2, xs2, e, s1, l1, s2, l2, lo⟩ := h
  simp only [Value.agg.injEq, Array.mk.injEq, List.cons.injEq, Value.bool.injEq, Value.slice.injEq, and_true] at e
  obtain ⟨_, _, rfl, rfl, rfl, rfl⟩ := e
  exact ⟨_, _, _, _, rfl, s2, l2⟩
theorem kept_ne {d : Int} (h : d ≠ 1) : kept d = d := by unfold kept; rw [if_neg h]
theorem fit_kept {d : Int} {K : Nat} (h : d.natAbs < K) : (kept d).natAbs < K := by
  unfold kept
  split
  · exact Nat.lt_of_le_of_lt (Nat.zero_le _) h
  · exact h
theorem text_bytes {r : Nat} {z : Int} {bs : List Nat} (h : Tx.TextOf r z bs) (h36 : r ≤ 36) : ∀ c ∈ bs, c < 256 := by
  intro c hc
  rcases h with ⟨_, rfl⟩ | ⟨ds, _, ho, _, _, rfl⟩
  · simp at hc; omega
  · rw [List.mem_append] at hc
    rcases hc with hc | hc
    · split at hc
      · simp at hc; omega
      · simp at hc
    · rw [List.mem_reverse, List.mem_map] at hc
      obtain ⟨d, hd, rfl⟩ := hc
      have := Tx.chr_le (d := d) (Nat.lt_of_lt_of_le (ho d hd) h36)
      omega
theorem text_size {r : Nat} {z : Int} {bs : List Nat} (h : Tx.TextOf r z bs) (h36 : r ≤ 36) : (Tx.str bs).size = bs.length := by
  rw [← Tx.bts_length, Tx.bts_str (text_bytes h h36)]
def QTextOf (r : Nat) (x d : Int) (l : List Nat) : Prop := (d = 1 ∧ Tx.TextOf r x l) ∨ (d ≠ 1 ∧ ∃ t1 t2, Tx.TextOf r x t1 ∧ Tx.TextOf r d t2 ∧ l = t1 ++ 47 :: t2)
def IsQText (w w' : World) (r : Nat) (x d : Int) (e : Ending) : Prop := ∃ s, e = .returned (.tuple #[.string s, .int .i64 0]) ∧ QTextOf r x d (Tx.bts s) ∧ Below w.heap.size w w'
theorem qtext_whole (v : Value) (x d : Int) (r m : Nat) (w : World) (h : RatAt w v x d) (h2 : 2 ≤ r) (h36 : r ≤ 36) (hm : m ≤ 20000) (hx : x.natAbs < B32 ^ m) (hd : d.natAbs < B32 ^ m) (h1 : d = 1) :
    Calls Tryz.prog 56 #[v, .int .i64 r] w fun e w' => IsQText w w' r x d e := by
  obtain ⟨b1, A1, n1, c1, bb1, AA1, nn1, cc1, rfl, h⟩ := open3 h
  have HP := Lib.hid (show ∀ v w, IntAt w v x → Calls Tryz.prog 107 #[v, .int .i64 r] w fun e w' => IsTextE w w' r x e from fun v w k => Text_any v x r m w k h2 h36 hm hx)
  have HQ := Lib.hid (show ∀ v w, IntAt w v d → Calls Tryz.prog 107 #[v, .int .i64 r] w fun e w' => IsTextE w w' r d e from fun v w k => Text_any v d r m w k h2 h36 hm hd)
  have HW0 := Lib.hid (show ∀ v w, RatAt w v x d → Calls Tryz.prog 22 #[v] w fun e w' => IsBool w w' true e from fun v w k => by
    have := QWhole_any v x d m w k (by omega) (fit_kept hd)
    rw [decide_eq_true h1] at this
    exact this)
  have gh0 := (FVars.told (FVars.nil w.heap.size w) (t := ⟨false, 0, b1, A1, n1, c1, bb1, AA1, nn1, cc1, x, d, 3⟩) (At.step (t := ⟨false, 0, b1, A1, n1, c1, bb1, AA1, nn1, cc1, x, d, 3⟩) (h) (Below.refl w.heap.size w) rfl) rfl).laid4 38 (show 3 ≤ 3 from by decide) (by exact Nat.le_refl _)
  have gb : Below w.heap.size w (w.alloc (.cells #[.bool b1, .slice A1 n1 c1, .bool bb1, .slice AA1 nn1 cc1] 38)) := ((Below.refl w.heap.size w).alloc (by exact Nat.le_refl _) (.cells #[.bool b1, .slice A1 n1 c1, .bool bb1, .slice AA1 nn1 cc1] 38))
  simp only [size_alloc] at gh0
  obtain ⟨W, hW⟩ : ∃ W : World, (w.alloc (.cells #[.bool b1, .slice A1 n1 c1, .bool bb1, .slice AA1 nn1 cc1] 38)) = W := ⟨_, rfl⟩
  rw [hW] at gh0 gb
  have HC := Lib.hid (And.intro gh0 gb)
  have HW := Lib.hid hW
  clear gb hW gh0
  have H1 := Lib.hid (And.intro h1 h36)
  clear h h2 hm hx hd h1 h36
  go_enter Tryz.func56, Tryz.ntmps56
  go_upto_region 1 with fail
  rw [HW.out]
  clear HW
  obtain ⟨px0, px1, px2, px3⟩ : Quad W w.heap.size (.bool b1) (.slice A1 n1 c1) (.bool bb1) (.slice AA1 nn1 cc1) := (HC.out.1.all 0 _ rfl).lies rfl
  go_wp2_with fail
  refine (HP.out _ _ (rat_lo (HC.out.1.all 0 _ rfl).at_)).mono ?_
  rintro e wq1 ⟨bs, rfl, tx, ln, hb1⟩
  have HC1 := Lib.hid (And.intro (HC.out.1.step hb1 rfl) (below_then HC.out.2 hb1))
  clear px0 px1 px2 px3
  clear hb1 HC
  have HT := Lib.hid (And.intro tx ln)
  clear tx ln
  obtain ⟨px0, px1, px2, px3⟩ : Quad wq1 w.heap.size (.bool b1) (.slice A1 n1 c1) (.bool bb1) (.slice AA1 nn1 cc1) := (HC1.out.1.all 0 _ rfl).lies rfl
  go_wp2_with fail
  refine (HW0.out _ _ (HC1.out.1.all 0 _ rfl).at_).mono ?_
  rintro e wq2 ⟨rfl, hb2⟩
  have HC2 := Lib.hid (And.intro (HC1.out.1.step hb2 rfl) (below_then HC1.out.2 hb2))
  clear px0 px1 px2 px3
  clear hb2 HC1
  go_wp2
  go_ret2
  exact ⟨Tx.str bs, rfl, .inl ⟨H1.out.1, by rw [Tx.bts_str (text_bytes HT.out.1 H1.out.2)]; exact HT.out.1⟩, HC2.out.2⟩
theorem qtext_frac (v : Value) (x d : Int) (r m : Nat) (w : World) (h : RatAt w v x d) (h2 : 2 ≤ r) (h36 : r ≤ 36) (hm : m ≤ 20000) (hx : x.natAbs < B32 ^ m) (hd : d.natAbs < B32 ^ m) (h1 : d ≠ 1) :
    Calls Tryz.prog 56 #[v, .int .i64 r] w fun e w' => IsQText w w' r x d e := by
  obtain ⟨b1, A1, n1, c1, bb1, AA1, nn1, cc1, rfl, h⟩ := open3 h
  have HP := Lib.hid (show ∀ v w, IntAt w v x → Calls Tryz.prog 107 #[v, .int .i64 r] w fun e w' => IsTextE w w' r x e from fun v w k => Text_any v x r m w k h2 h36 hm hx)
  have HQ := Lib.hid (show ∀ v w, IntAt w v d → Calls Tryz.prog 107 #[v, .int .i64 r] w fun e w' => IsTextE w w' r d e from fun v w k => Text_any v d r m w k h2 h36 hm hd)
  have HW0 := Lib.hid (show ∀ v w, RatAt w v x d → Calls Tryz.prog 22 #[v] w fun e w' => IsBool w w' false e from fun v w k => by
    have := QWhole_any v x d m w k (by omega) (fit_kept hd)
    rw [decide_eq_false h1] at this
    exact this)
  have HK := Lib.hid (kept_ne h1)
  have gh0 := (FVars.told (FVars.nil w.heap.size w) (t := ⟨false, 0, b1, A1, n1, c1, bb1, AA1, nn1, cc1, x, d, 3⟩) (At.step (t := ⟨false, 0, b1, A1, n1, c1, bb1, AA1, nn1, cc1, x, d, 3⟩) (h) (Below.refl w.heap.size w) rfl) rfl).laid4 38 (show 3 ≤ 3 from by decide) (by exact Nat.le_refl _)
  have gb : Below w.heap.size w (w.alloc (.cells #[.bool b1, .slice A1 n1 c1, .bool bb1, .slice AA1 nn1 cc1] 38)) := ((Below.refl w.heap.size w).alloc (by exact Nat.le_refl _) (.cells #[.bool b1, .slice A1 n1 c1, .bool bb1, .slice AA1 nn1 cc1] 38))
  simp only [size_alloc] at gh0
  obtain ⟨W, hW⟩ : ∃ W : World, (w.alloc (.cells #[.bool b1, .slice A1 n1 c1, .bool bb1, .slice AA1 nn1 cc1] 38)) = W := ⟨_, rfl⟩
  rw [hW] at gh0 gb
  have HC := Lib.hid (And.intro gh0 gb)
  have HW := Lib.hid hW
  clear gb hW gh0
  have H1 := Lib.hid (And.intro h1 h36)
  clear h h2 hm hx hd h1 h36
  go_enter Tryz.func56, Tryz.ntmps56
  go_upto_region 1 with fail
  rw [HW.out]
  clear HW
  obtain ⟨px0, px1, px2, px3⟩ : Quad W w.heap.size (.bool b1) (.slice A1 n1 c1) (.bool bb1) (.slice AA1 nn1 cc1) := (HC.out.1.all 0 _ rfl).lies rfl
  go_wp2_with fail
  refine (HP.out _ _ (rat_lo (HC.out.1.all 0 _ rfl).at_)).mono ?_
  rintro e wq1 ⟨bs, rfl, tx, ln, hb1⟩
  have HC1 := Lib.hid (And.intro (HC.out.1.step hb1 rfl) (below_then HC.out.2 hb1))
  clear px0 px1 px2 px3
  clear hb1 HC
  have HT := Lib.hid (And.intro tx ln)
  clear tx ln
  obtain ⟨px0, px1, px2, px3⟩ : Quad wq1 w.heap.size (.bool b1) (.slice A1 n1 c1) (.bool bb1) (.slice AA1 nn1 cc1) := (HC1.out.1.all 0 _ rfl).lies rfl
  go_wp2_with fail
  refine (HW0.out _ _ (HC1.out.1.all 0 _ rfl).at_).mono ?_
  rintro e wq2 ⟨rfl, hb2⟩
  have HC2 := Lib.hid (And.intro (HC1.out.1.step hb2 rfl) (below_then HC1.out.2 hb2))
  clear px0 px1 px2 px3
  clear hb2 HC1
  have HI := Lib.hid (show IntAt wq2 _ d from HK.out ▸ rat_hi (HC2.out.1.all 0 _ rfl).at_)
  obtain ⟨px0, px1, px2, px3⟩ : Quad wq2 w.heap.size (.bool b1) (.slice A1 n1 c1) (.bool bb1) (.slice AA1 nn1 cc1) := (HC2.out.1.all 0 _ rfl).lies rfl
  go_wp2_with fail
  refine (HQ.out _ _ HI.out).mono ?_
  rintro e wq3 ⟨cs, rfl, ty, lm, hb3⟩
  have HC3 := Lib.hid (And.intro (HC2.out.1.step hb3 rfl) (below_then HC2.out.2 hb3))
  clear px0 px1 px2 px3
  clear hb3 HC2
  have HU := Lib.hid (And.intro ty lm)
  clear ty lm HI
  have ha1 := fun W : World => run_string_add_sum (P := Tryz.prog) W (Tx.str bs) ⟨#[47]⟩ (by rw [text_size HT.out.1 H1.out.2]; have := HT.out.2; have : (⟨#[47]⟩ : ByteArray).size = 1 := rfl; omega)
  have ha2 := fun W : World => run_string_add_sum (P := Tryz.prog) W (Tx.str bs ++ ⟨#[47]⟩) (Tx.str cs) (by rw [ByteArray.size_append, text_size HT.out.1 H1.out.2, text_size HU.out.1 H1.out.2]; have := HT.out.2; have := HU.out.2; have : (⟨#[47]⟩ : ByteArray).size = 1 := rfl; omega)
  go_wp2
  go_ret2
  refine ⟨_, rfl, .inr ⟨H1.out.1, bs, cs, HT.out.1, HU.out.1, ?_⟩, HC3.out.2⟩
  rw [Tx.bts_append, Tx.bts_append, Tx.bts_str (text_bytes HT.out.1 H1.out.2), Tx.bts_str (text_bytes HU.out.1 H1.out.2)]
  simp [Tx.bts]
theorem qtext_any (v : Value) (x d : Int) (r m : Nat) (w : World) (h : RatAt w v x d) (h2 : 2 ≤ r) (h36 : r ≤ 36) (hm : m ≤ 20000) (hx : x.natAbs < B32 ^ m) (hd : d.natAbs < B32 ^ m) :
    Calls Tryz.prog 56 #[v, .int .i64 r] w fun e w' => IsQText w w' r x d e := by
  by_cases h1 : d = 1
  · exact qtext_whole v x d r m w h h2 h36 hm hx hd h1
  · exact qtext_frac v x d r m w h h2 h36 hm hx hd h1
end Go.Proofs.YtpgbnegppehckaaGreat.FK
namespace Go.Proofs.YtpgbnegppehckaaGreat.FK
open Go.RowKit Go.Proofs.YtpgbnegppehckaaGreat.RK
theorem plain10 (a : ByteArray) (n : Int) (w : World) (h0 : 0 < a.size) (hs : a.size ≤ 20000) (hm : a[0].toNat ≠ 45) (hp : a[0].toNat ≠ 43) (hd : Tx.AllDig 10 (Tx.bts a)) (hn : ofSign false (Tx.numOf 10 (Tx.bts a)) = n) :
    Calls Tryz.prog 109 #[.string a, .int .i64 10] w fun e w' => IsIE w w' n 0 e := by
  refine (parse_plain a 10 w (by decide) (by decide) hs h0 hm hp).mono fun e w' h => ?_
  rcases h with ⟨_, h⟩ | ⟨h, _⟩
  · rw [← hn]; exact h
  · exact absurd hd h
theorem plus10 (a t : ByteArray) (n : Int) (w : World) (h0 : 0 < a.size) (hs : a.size ≤ 20000) (hp : a[0].toNat = 43) (ht : a.extract 1 a.size = t) (h1 : 0 < t.size) (hd : Tx.AllDig 10 (Tx.bts t)) (hn : ofSign false (Tx.numOf 10 (Tx.bts t)) = n) :
    Calls Tryz.prog 109 #[.string a, .int .i64 10] w fun e w' => IsIE w w' n 0 e := by
  refine (parse_plus a t 10 w (by decide) (by decide) hs h0 hp ht h1).mono fun e w' h => ?_
  rcases h with ⟨_, h⟩ | ⟨h, _⟩
  · rw [← hn]; exact h
  · exact absurd hd h
theorem new_is (n d X D : Int) (hn : n.natAbs < B32 ^ 1) (hd : d.natAbs < B32 ^ 1) (h0 : d ≠ 0) (hX : Qx.num n d = X) (hD : Qx.den n d = D) : Hid (NewB n d X D 0 1) := by
  rw [← hX, ← hD]
  exact Lib.hid (new_some n d 1 (by decide) (by decide) hn hd h0)
theorem parse1 (w : World) : Calls Tryz.prog 58 #[.string ⟨#[43, 48, 54, 47, 52]⟩, .int .i64 10] w fun e w' => IsRatE w w' 3 2 0 e :=
  qparse_some ⟨#[43, 48, 54, 47, 52]⟩ ⟨#[43, 48, 54]⟩ ⟨#[52]⟩ 10 6 4 3 2 0 3 1 w (by decide) (by rw [ByteArray.toList_eq]; decide) (by decide) (by decide) (by decide) (by decide)
    (fun w => plus10 _ ⟨#[48, 54]⟩ 6 w (by decide) (by decide) (by decide) (by decide) (by decide) (by unfold Tx.AllDig; decide) (by decide))
    (fun w => plain10 _ 4 w (by decide) (by decide) (by decide) (by decide) (by unfold Tx.AllDig; decide) (by decide)) (by decide) (by decide) (by decide) (new_is 6 4 3 2 (by decide) (by decide) (by decide) (by decide) (by decide))
theorem parse2 (w : World) : Calls Tryz.prog 58 #[.string ⟨#[51, 49, 47, 49, 48, 48]⟩, .int .i64 10] w fun e w' => IsRatE w w' 31 100 0 e :=
  qparse_some ⟨#[51, 49, 47, 49, 48, 48]⟩ ⟨#[51, 49]⟩ ⟨#[49, 48, 48]⟩ 10 31 100 31 100 0 2 1 w (by decide) (by rw [ByteArray.toList_eq]; decide) (by decide) (by decide) (by decide) (by decide)
    (fun w => plain10 _ 31 w (by decide) (by decide) (by decide) (by decide) (by unfold Tx.AllDig; decide) (by decide))
    (fun w => plain10 _ 100 w (by decide) (by decide) (by decide) (by decide) (by unfold Tx.AllDig; decide) (by decide)) (by decide) (by decide) (by decide) (new_is 31 100 31 100 (by decide) (by decide) (by decide) (by decide) (by decide))
theorem parse3 (w : World) : Calls Tryz.prog 58 #[.string ⟨#[51, 50, 47, 49, 48, 48]⟩, .int .i64 10] w fun e w' => IsRatE w w' 8 25 0 e :=
  qparse_some ⟨#[51, 50, 47, 49, 48, 48]⟩ ⟨#[51, 50]⟩ ⟨#[49, 48, 48]⟩ 10 32 100 8 25 0 2 1 w (by decide) (by rw [ByteArray.toList_eq]; decide) (by decide) (by decide) (by decide) (by decide)
    (fun w => plain10 _ 32 w (by decide) (by decide) (by decide) (by decide) (by unfold Tx.AllDig; decide) (by decide))
    (fun w => plain10 _ 100 w (by decide) (by decide) (by decide) (by decide) (by unfold Tx.AllDig; decide) (by decide)) (by decide) (by decide) (by decide) (new_is 32 100 8 25 (by decide) (by decide) (by decide) (by decide) (by decide))
theorem text_is (v : Value) (x d : Int) (s : ByteArray) (t1 t2 : List Nat) (w : World) (h : RatAt w v x d) (hx : x.natAbs < B32 ^ 1) (hd : d.natAbs < B32 ^ 1) (h1 : d ≠ 1) (k1 : Tx.TextOf 10 x t1) (k2 : Tx.TextOf 10 d t2) (hs : Tx.bts s = t1 ++ 47 :: t2) :
    Calls Tryz.prog 56 #[v, .int .i64 10] w fun e w' => e = .returned (.tuple #[.string s, .int .i64 0]) ∧ Below w.heap.size w w' := by
  refine (qtext_any v x d 10 1 w h (by decide) (by decide) (by decide) hx hd).mono fun e w' h => ?_
  obtain ⟨u, rfl, hu, hb⟩ := h
  rcases hu with ⟨q, _⟩ | ⟨_, a, b, ha, hb2, hl⟩
  · exact absurd q h1
  · rw [ha.uniq (by decide) k1, hb2.uniq (by decide) k2, ← hs] at hl
    rw [Tx.bts_inj hl]
    exact ⟨rfl, hb⟩
theorem digit_text (d : Nat) (h0 : 0 < d) (h1 : d < 10) : Tx.TextOf 10 (d : Int) [48 + d] :=
  .inr ⟨[d], by omega, fun q hq => by simp at hq; omega, Lm.top_of_last (by simp; omega), by simp [Lm.val], by simp [Tx.chr, h1]⟩
theorem text16 : Tx.TextOf 10 16 [49, 54] := .inr ⟨[6, 1], by decide, fun q hq => by simp at hq; omega, Lm.top_of_last (by simp), by decide, by decide⟩
def nT (t : Nat) : Int := if t = 0 then 31 else if t = 1 then 25 else 31
def eT (t : Nat) : Int := if t = 0 then 100 else if t = 1 then 8 else 7
def mT (t : Nat) : Int := if t = 0 then 8 else if t = 1 then 100 else 8
def cT (t : Nat) : Int := if t = 0 then 25 else if t = 1 then 31 else 1
def lT (t : Nat) : List Int := if t = 0 then [] else if t = 1 then [0] else [0, 3]
theorem upto2 {p : Nat → Prop} (h0 : p 0) (h1 : p 1) (h2 : p 2) : ∀ t, t ≤ 2 → p t := fun t ht => by
  match t, ht with
  | 0, _ => exact h0
  | 1, _ => exact h1
  | 2, _ => exact h2
theorem upto1 {p : Nat → Prop} (h0 : p 0) (h1 : p 1) : ∀ t, t < 2 → p t := fun t ht => by
  match t, ht with
  | 0, _ => exact h0
  | 1, _ => exact h1
theorem trace1 : Trace 31 100 8 25 2 1 nT eT mT cT lT :=
  ⟨by decide, by decide, by decide, rfl, rfl, rfl, rfl, rfl, upto2 (by decide) (by decide) (by decide), upto2 (by decide) (by decide) (by decide), upto2 (by decide) (by decide) (by decide), upto2 (by decide) (by decide) (by decide),
    upto2 (by decide) (by decide) (by decide), upto2 (by decide) (by decide) (by decide), upto2 (by decide) (by decide) (by decide), upto1 (by decide) (by decide)⟩
def fN (j : Nat) : Int := if j = 0 then 5 else if j = 1 then 16 else 5
def fE (j : Nat) : Int := if j = 0 then 16 else if j = 1 then 5 else 1
theorem chain1 : Chain [0, 3, 5] 2 1 fN fE :=
  ⟨rfl, by decide, by decide, by decide, fun j z hz => by
    match j, hz with
    | 0, hz => simp at hz; subst hz; decide
    | 1, hz => simp at hz; subst hz; decide
    | 2, hz => simp at hz; subst hz; decide
    | j + 3, hz => simp at hz, upto2 (by decide) (by decide) (by decide), upto2 (by decide) (by decide) (by decide), rfl, rfl, upto1 (fun z hz => by simp at hz; subst hz; decide) (fun z hz => by simp at hz; subst hz; decide), upto1 (by decide) (by decide)⟩
theorem between1 (v1 v2 : Value) (w : World) (h1 : RatAt w v1 31 100) (h2 : RatAt w v2 8 25) : Calls Tryz.prog 105 #[v1, v2] w fun e w' => IsRat w w' 5 16 e :=
  between_is v1 v2 31 100 8 25 5 16 5 2 1 nT eT mT cT lT w h1 h2 trace1 (.inr ⟨by decide, by decide, by decide⟩) fun v w h => contract_is v [0, 3, 5] 2 1 fN fE 5 16 0 w h chain1 1 (new_is 5 16 5 16 (by decide) (by decide) (by decide) (by decide) (by decide))
theorem simplest1 (v1 v2 : Value) (w : World) (h1 : RatAt w v1 31 100) (h2 : RatAt w v2 8 25) : Calls Tryz.prog 54 #[v1, v2] w fun e w' => IsRatE w w' 5 16 0 e :=
  simplest_pos v1 v2 31 100 8 25 5 16 (-1) 1 w h1 h2 (by decide) (by decide) (by decide) (by decide) (by decide) (by decide) (by decide) (by decide) between1
theorem tawake_aux (x1 d1 x2 d2 x3 d3 x4 d4 : Int) (w : World) (p1 : ∀ w, Calls Tryz.prog 58 #[.string ⟨#[43, 48, 54, 47, 52]⟩, .int .i64 10] w fun e w' => IsRatE w w' x1 d1 0 e)
    (t1 : ∀ v w, RatAt w v x1 d1 → Calls Tryz.prog 56 #[v, .int .i64 10] w fun e w' => e = .returned (.tuple #[.string ⟨#[51, 47, 50]⟩, .int .i64 0]) ∧ Below w.heap.size w w')
    (p2 : ∀ w, Calls Tryz.prog 58 #[.string ⟨#[51, 49, 47, 49, 48, 48]⟩, .int .i64 10] w fun e w' => IsRatE w w' x2 d2 0 e) (p3 : ∀ w, Calls Tryz.prog 58 #[.string ⟨#[51, 50, 47, 49, 48, 48]⟩, .int .i64 10] w fun e w' => IsRatE w w' x3 d3 0 e)
    (s : ∀ v1 v2 w, RatAt w v1 x2 d2 → RatAt w v2 x3 d3 → Calls Tryz.prog 54 #[v1, v2] w fun e w' => IsRatE w w' x4 d4 0 e)
    (t2 : ∀ v w, RatAt w v x4 d4 → Calls Tryz.prog 56 #[v, .int .i64 10] w fun e w' => e = .returned (.tuple #[.string ⟨#[53, 47, 49, 54]⟩, .int .i64 0]) ∧ Below w.heap.size w w') :
    Calls Tryz.prog 14 #[] w fun e w' => IsBool w w' true e := by
  have HA := Lib.hid (And.intro p1 (And.intro t1 (And.intro p2 (And.intro p3 (And.intro s t2)))))
  have HC := Lib.hid (And.intro (FVars.nil w.heap.size w) (Below.refl w.heap.size w))
  clear p1 t1 p2 p3 s t2
  go_enter Tryz.func14, Tryz.ntmps14
  go_wp2_with fail
  refine (HA.out.1 _).mono ?_
  rintro e wq1 ⟨qv1, rfl, hq1, hb1⟩
  obtain ⟨qb1, qA1, qn1, qc1, qbb1, qAA1, qnn1, qcc1, rfl, hq1⟩ := open3 hq1
  have hv1 := (FVars.told (FVars.step HC.out.1 hb1 rfl) (t := ⟨false, 0, qb1, qA1, qn1, qc1, qbb1, qAA1, qnn1, qcc1, x1, d1, 3⟩) hq1 rfl).laid4 38 (show 3 ≤ 3 from by decide) (Nat.le_trans HC.out.2.size hb1.size)
  have hl1 : Below w.heap.size w (wq1.alloc (.cells #[.bool qb1, .slice qA1 qn1 qc1, .bool qbb1, .slice qAA1 qnn1 qcc1] 38)) := ((below_then HC.out.2 hb1).alloc (Nat.le_trans HC.out.2.size hb1.size) (.cells #[.bool qb1, .slice qA1 qn1 qc1, .bool qbb1, .slice qAA1 qnn1 qcc1] 38))
  obtain ⟨Wq1, hW1⟩ : ∃ W : World, W = wq1.alloc (.cells #[.bool qb1, .slice qA1 qn1 qc1, .bool qbb1, .slice qAA1 qnn1 qcc1] 38) := ⟨_, rfl⟩
  obtain ⟨rrq1, hsq1⟩ : ∃ r : Nat, r = wq1.heap.size := ⟨_, rfl⟩
  rw [← hW1] at hv1 hl1
  rw [← hsq1] at hv1
  have HC1 := Lib.hid (And.intro hv1 hl1)
  have HW1 := Lib.hid hW1
  have HRq1 := Lib.hid hsq1
  clear hv1 hl1 hW1 hb1 hsq1 hq1 HC
  go_upto_region 2 with fail
  rw [← HW1.out]
  rw [← HRq1.out]
  clear HW1 HRq1
  obtain ⟨px0, px1, px2, px3⟩ : Quad Wq1 rrq1 (.bool qb1) (.slice qA1 qn1 qc1) (.bool qbb1) (.slice qAA1 qnn1 qcc1) := (HC1.out.1.all 0 _ rfl).lies rfl
  go_wp2_with fail
  refine (HA.out.2.1 _ _ ((HC1.out.1.all 0 _ rfl).at_)).mono ?_
  rintro e wq2 ⟨rfl, hb2⟩
  have HC2 := Lib.hid (And.intro (HC1.out.1.step hb2 rfl) (below_then HC1.out.2 hb2))
  clear px0 px1 px2 px3
  clear hb2 HC1
  go_wp2_with fail
  refine (HA.out.2.2.1 _).mono ?_
  rintro e wq3 ⟨qv3, rfl, hq3, hb3⟩
  obtain ⟨qb3, qA3, qn3, qc3, qbb3, qAA3, qnn3, qcc3, rfl, hq3⟩ := open3 hq3
  have hv3 := (FVars.told (FVars.step HC2.out.1 hb3 rfl) (t := ⟨false, 0, qb3, qA3, qn3, qc3, qbb3, qAA3, qnn3, qcc3, x2, d2, 3⟩) hq3 rfl).laid4 38 (show 3 ≤ 3 from by decide) (Nat.le_trans HC2.out.2.size hb3.size)
  have hl3 : Below w.heap.size w (wq3.alloc (.cells #[.bool qb3, .slice qA3 qn3 qc3, .bool qbb3, .slice qAA3 qnn3 qcc3] 38)) := ((below_then HC2.out.2 hb3).alloc (Nat.le_trans HC2.out.2.size hb3.size) (.cells #[.bool qb3, .slice qA3 qn3 qc3, .bool qbb3, .slice qAA3 qnn3 qcc3] 38))
  obtain ⟨Wq3, hW3⟩ : ∃ W : World, W = wq3.alloc (.cells #[.bool qb3, .slice qA3 qn3 qc3, .bool qbb3, .slice qAA3 qnn3 qcc3] 38) := ⟨_, rfl⟩
  obtain ⟨rrq3, hsq3⟩ : ∃ r : Nat, r = wq3.heap.size := ⟨_, rfl⟩
  rw [← hW3] at hv3 hl3
  rw [← hsq3] at hv3
  have HC3 := Lib.hid (And.intro hv3 hl3)
  have HW3 := Lib.hid hW3
  have HRq3 := Lib.hid hsq3
  clear hv3 hl3 hW3 hb3 hsq3 hq3 HC2
  go_upto_region 4 with fail
  rw [← HW3.out]
  rw [← HRq3.out]
  clear HW3 HRq3
  go_wp2_with fail
  refine (HA.out.2.2.2.1 _).mono ?_
  rintro e wq4 ⟨qv4, rfl, hq4, hb4⟩
  obtain ⟨qb4, qA4, qn4, qc4, qbb4, qAA4, qnn4, qcc4, rfl, hq4⟩ := open3 hq4
  have hv4 := (FVars.told (FVars.step HC3.out.1 hb4 rfl) (t := ⟨false, 0, qb4, qA4, qn4, qc4, qbb4, qAA4, qnn4, qcc4, x3, d3, 3⟩) hq4 rfl).laid4 38 (show 3 ≤ 3 from by decide) (Nat.le_trans HC3.out.2.size hb4.size)
  have hl4 : Below w.heap.size w (wq4.alloc (.cells #[.bool qb4, .slice qA4 qn4 qc4, .bool qbb4, .slice qAA4 qnn4 qcc4] 38)) := ((below_then HC3.out.2 hb4).alloc (Nat.le_trans HC3.out.2.size hb4.size) (.cells #[.bool qb4, .slice qA4 qn4 qc4, .bool qbb4, .slice qAA4 qnn4 qcc4] 38))
  obtain ⟨Wq4, hW4⟩ : ∃ W : World, W = wq4.alloc (.cells #[.bool qb4, .slice qA4 qn4 qc4, .bool qbb4, .slice qAA4 qnn4 qcc4] 38) := ⟨_, rfl⟩
  obtain ⟨rrq4, hsq4⟩ : ∃ r : Nat, r = wq4.heap.size := ⟨_, rfl⟩
  rw [← hW4] at hv4 hl4
  rw [← hsq4] at hv4
  have HC4 := Lib.hid (And.intro hv4 hl4)
  have HW4 := Lib.hid hW4
  have HRq4 := Lib.hid hsq4
  clear hv4 hl4 hW4 hb4 hsq4 hq4 HC3
  go_upto_region 5 with fail
  rw [← HW4.out]
  rw [← HRq4.out]
  clear HW4 HRq4
  obtain ⟨plow0, plow1, plow2, plow3⟩ : Quad Wq4 rrq3 (.bool qb3) (.slice qA3 qn3 qc3) (.bool qbb3) (.slice qAA3 qnn3 qcc3) := (HC4.out.1.all 1 _ rfl).lies rfl
  obtain ⟨phigh0, phigh1, phigh2, phigh3⟩ : Quad Wq4 rrq4 (.bool qb4) (.slice qA4 qn4 qc4) (.bool qbb4) (.slice qAA4 qnn4 qcc4) := (HC4.out.1.all 0 _ rfl).lies rfl
  go_wp2_with fail
  refine (HA.out.2.2.2.2.1 _ _ _ ((HC4.out.1.all 1 _ rfl).at_) ((HC4.out.1.all 0 _ rfl).at_)).mono ?_
  rintro e wq5 ⟨qv5, rfl, hq5, hb5⟩
  obtain ⟨qb5, qA5, qn5, qc5, qbb5, qAA5, qnn5, qcc5, rfl, hq5⟩ := open3 hq5
  have hv5 := (FVars.told (FVars.step HC4.out.1 hb5 rfl) (t := ⟨false, 0, qb5, qA5, qn5, qc5, qbb5, qAA5, qnn5, qcc5, x4, d4, 3⟩) hq5 rfl).laid4 38 (show 3 ≤ 3 from by decide) (Nat.le_trans HC4.out.2.size hb5.size)
  have hl5 : Below w.heap.size w (wq5.alloc (.cells #[.bool qb5, .slice qA5 qn5 qc5, .bool qbb5, .slice qAA5 qnn5 qcc5] 38)) := ((below_then HC4.out.2 hb5).alloc (Nat.le_trans HC4.out.2.size hb5.size) (.cells #[.bool qb5, .slice qA5 qn5 qc5, .bool qbb5, .slice qAA5 qnn5 qcc5] 38))
  obtain ⟨Wq5, hW5⟩ : ∃ W : World, W = wq5.alloc (.cells #[.bool qb5, .slice qA5 qn5 qc5, .bool qbb5, .slice qAA5 qnn5 qcc5] 38) := ⟨_, rfl⟩
  obtain ⟨rrq5, hsq5⟩ : ∃ r : Nat, r = wq5.heap.size := ⟨_, rfl⟩
  rw [← hW5] at hv5 hl5
  rw [← hsq5] at hv5
  have HC5 := Lib.hid (And.intro hv5 hl5)
  have HW5 := Lib.hid hW5
  have HRq5 := Lib.hid hsq5
  clear plow0 plow1 plow2 plow3 phigh0 phigh1 phigh2 phigh3
  clear hv5 hl5 hW5 hb5 hsq5 hq5 HC4
  go_upto_region 6 with fail
  rw [← HW5.out]
  rw [← HRq5.out]
  clear HW5 HRq5
  obtain ⟨py0, py1, py2, py3⟩ : Quad Wq5 rrq5 (.bool qb5) (.slice qA5 qn5 qc5) (.bool qbb5) (.slice qAA5 qnn5 qcc5) := (HC5.out.1.all 0 _ rfl).lies rfl
  go_wp2_with fail
  refine (HA.out.2.2.2.2.2 _ _ ((HC5.out.1.all 0 _ rfl).at_)).mono ?_
  rintro e wq6 ⟨rfl, hb6⟩
  have HC6 := Lib.hid (And.intro (HC5.out.1.step hb6 rfl) (below_then HC5.out.2 hb6))
  clear py0 py1 py2 py3
  clear hb6 HC5
  have hmax : ∀ w : World, (Builtin.max_ #[39, 39, 39, 39, 39, 39] 39 #[.int .i64 0, .int .i64 0, .int .i64 0, .int .i64 0, .int .i64 0, .int .i64 0]).run Tryz.prog w = .ok (.int .i64 0) w := fun _ => by kernel_rfl
  go_wp2
  go_ret
  exact ⟨rfl, HC6.out.2⟩
theorem tawake_any (w : World) : Calls Tryz.prog 14 #[] w fun e w' => IsBool w w' true e :=
  tawake_aux 3 2 31 100 8 25 5 16 w parse1 (fun v w h => text_is v 3 2 _ [51] [50] w h (by decide) (by decide) (by decide) (digit_text 3 (by decide) (by decide)) (digit_text 2 (by decide) (by decide)) (by decide)) parse2 parse3 simplest1
    (fun v w h => text_is v 5 16 _ [53] [49, 54] w h (by decide) (by decide) (by decide) (digit_text 5 (by decide) (by decide)) text16 (by decide))
end Go.Proofs.YtpgbnegppehckaaGreat.FK
namespace Go.Proofs.YtpgbnegppehckaaGreat.FK
open Go.RowKit
structure QVal where
  s : Bool
  A : Option Addr
  n : Nat
  c : Nat
  s2 : Bool
  A2 : Option Addr
  n2 : Nat
  c2 : Nat
def QRow (w : World) (g : Nat) (l : List QVal) : Prop := g < w.heap.size ∧ ∀ i x, l[i]? = some x → w.cell? ⟨g, i * 4, none⟩ = some (.bool x.s) ∧ w.cell? ⟨g, i * 4 + 1, none⟩ = some (.slice x.A x.n x.c) ∧ w.cell? ⟨g, i * 4 + 2, none⟩ = some (.bool x.s2) ∧ w.cell? ⟨g, i * 4 + 3, none⟩ = some (.slice x.A2 x.n2 x.c2)
theorem QRow.step {W0 W w1 : World} {g : Nat} {l : List QVal} (t : QRow W0 g l) (hb : Below W.heap.size W w1) (hh : W.heap = W0.heap) : QRow w1 g l := by
  have e : ∀ p, W.cell? p = W0.cell? p := fun p => by simp [World.cell?, hh]
  have hl' : g < W.heap.size := by rw [hh]; exact t.1
  have f : ∀ o, w1.cell? ⟨g, o, none⟩ = W0.cell? ⟨g, o, none⟩ := fun o => (hb.cell (p := ⟨g, o, none⟩) hl').trans (e _)
  exact ⟨Nat.lt_of_lt_of_le hl' hb.size, fun i x hx => ⟨(f _).trans (t.2 i x hx).1, (f _).trans (t.2 i x hx).2.1, (f _).trans (t.2 i x hx).2.2.1, (f _).trans (t.2 i x hx).2.2.2⟩⟩
theorem longQ_any (s : Bool) (A : Option Addr) (n c : Nat) (s2 : Bool) (A2 : Option Addr) (n2 c2 : Nat) (b M : Nat) (w : World) (r : Bool) (hb : w.cell? ⟨b, 0, none⟩ = some (.int .i64 (M : Int))) (hbl : b < w.heap.size) (h : decide (n ≤ M ∧ n2 ≤ M) = r) :
    Calls Tryz.prog 73 #[.agg #[.bool s, .slice A n c, .bool s2, .slice A2 n2 c2], .pointer (some ⟨b, 0, none⟩)] w fun e w' => IsBool w w' (!r) e := by
  have sh := RK.short2 M s s2 A A2 n n2 c c2 (w.alloc (.cells #[.bool s, .slice A n c, .bool s2, .slice A2 n2 c2] 26)) r h
  have hb0 : Below w.heap.size w ((w.alloc (.cells #[.bool s, .slice A n c, .bool s2, .slice A2 n2 c2] 26)).alloc (.cells #[.bool s, .slice A n c, .bool s2, .slice A2 n2 c2] 24)) := RK.boxed2_b _ _ _
  rw [size_alloc] at sh
  have H := Lib.hid (And.intro sh hb0)
  clear sh hb0 h
  cases r with
  | true =>
    go_enter Tryz.func73, Tryz.ntmps73
    go_wp2_with fail
    refine H.out.1.mono ?_
    rintro e w1 ⟨rfl, hb1⟩
    go_wp2
    go_ret
    exact ⟨rfl, below_then H.out.2 hb1⟩
  | false =>
    go_enter Tryz.func73, Tryz.ntmps73
    go_wp2_with fail
    refine H.out.1.mono ?_
    rintro e w1 ⟨rfl, hb1⟩
    go_wp2
    go_ret
    exact ⟨rfl, below_then H.out.2 hb1⟩
def AllQ (M : Nat) (l : List QVal) : Prop := ∀ x ∈ l, x.n ≤ M ∧ x.n2 ≤ M
instance (M : Nat) (l : List QVal) : Decidable (AllQ M l) := inferInstanceAs (Decidable (∀ x ∈ l, x.n ≤ M ∧ x.n2 ≤ M))
def IsIdxQ (w w' : World) (M : Nat) (l : List QVal) (e : Ending) : Prop :=
  (∃ r : Int, e = .returned (.int .i64 r) ∧ ((0 ≤ r ∧ ¬ AllQ M l) ∨ (r = -1 ∧ AllQ M l))) ∧ Below w.heap.size w w'
theorem allQ_snoc {M k : Nat} {l : List QVal} {x : QVal} (h : AllQ M (l.take k)) (hx : l[k]? = some x) (hn : x.n ≤ M ∧ x.n2 ≤ M) : AllQ M (l.take (k + 1)) := by
  intro y hy
  have hk : k < l.length := by
    rcases Nat.lt_or_ge k l.length with h | h
    · exact h
    · rw [List.getElem?_eq_none h] at hx; cases hx
  rw [List.take_succ_eq_append_getElem hk, List.mem_append] at hy
  rcases hy with hy | hy
  · exact h y hy
  · rw [List.getElem?_eq_getElem hk] at hx
    injection hx with hx
    simp at hy
    subst hy
    rw [hx]
    exact hn
theorem indexQ_any (g b M : Nat) (l : List QVal) (w : World) (h : QRow w g l) (hb : w.cell? ⟨b, 0, none⟩ = some (.int .i64 (M : Int))) (hbl : b < w.heap.size) (hlen : l.length ≤ 1000) :
    Calls Tryz.prog 117 #[.slice (some ⟨g, 0, none⟩) l.length l.length, .func (.func 73) #[] #[.pointer (some ⟨b, 0, none⟩)]] w fun e w' => IsIdxQ w w' M l e := by
  have H := Lib.hid (And.intro h (And.intro hb hbl))
  clear h hb hbl
  go_enter Tryz.func117, Tryz.ntmps117
  go_wp2
  go_loopw [8] (fun iv wr => ∃ i : Nat, iv = .int .i64 i ∧ i ≤ l.length ∧ AllQ M (l.take i) ∧ Below w.heap.size w wr) (fun iv _ => l.length - (intOf iv).toNat)
  case atStart => exact ⟨0, rfl, Nat.zero_le _, fun x hx => by simp at hx, Below.refl _ _⟩
  case round =>
   obtain ⟨i, rfl, hi, hall, hbr⟩ := hrel
   have hc : wr.cell? ⟨b, 0, none⟩ = some (.int .i64 (M : Int)) := (hbr.cell (p := ⟨b, 0, none⟩) H.out.2.2).trans H.out.2.1
   have hl : b < wr.heap.size := Nat.lt_of_lt_of_le H.out.2.2 hbr.size
   by_cases hlt : i < l.length
   · obtain ⟨x, hx⟩ : ∃ x, l[i]? = some x := ⟨_, List.getElem?_eq_getElem hlt⟩
     obtain ⟨ta, tb, tc, td⟩ := (H.out.1.step hbr rfl).2 i x hx
     have i0 : (0 : Int) ≤ (i : Int) := Int.natCast_nonneg i
     have i1 : (i : Int) < (l.length : Int) := by omega
     by_cases hs : x.n ≤ M ∧ x.n2 ≤ M
     · have HC := Lib.hid (And.intro (longQ_any x.s x.A x.n x.c x.s2 x.A2 x.n2 x.c2 b M _ true hc hl (decide_eq_true hs)) (And.intro hx (And.intro hall (And.intro hbr hs))))
       clear hx hall hbr hs
       go_wp2_with fail
       refine HC.out.1.mono ?_
       rintro e w2 ⟨rfl, hb2⟩
       go_wp2
       go_roundw
       case rel => exact ⟨i + 1, by go_num, by omega, allQ_snoc HC.out.2.2.1 HC.out.2.1 HC.out.2.2.2.2, HC.out.2.2.2.1.trans (hb2.mono HC.out.2.2.2.1.size)⟩
       case measure => simp [intOf]; omega
     · have HC := Lib.hid (And.intro (longQ_any x.s x.A x.n x.c x.s2 x.A2 x.n2 x.c2 b M _ false hc hl (decide_eq_false hs)) (And.intro hx (And.intro hall (And.intro hbr hs))))
       clear hx hall hbr hs
       go_wp2_with fail
       refine HC.out.1.mono ?_
       rintro e w2 ⟨rfl, hb2⟩
       go_wp2
       go_ret
       refine ⟨⟨_, rfl, .inl ⟨i0, fun q => HC.out.2.2.2.2 (q x ?_)⟩⟩, HC.out.2.2.2.1.trans (hb2.mono HC.out.2.2.2.1.size)⟩
       exact List.mem_of_getElem? HC.out.2.1
   · obtain rfl : i = l.length := by omega
     rw [List.take_length] at hall
     have HC := Lib.hid (And.intro hall hbr)
     clear hall hbr
     go_wp2
     go_ret
     exact ⟨⟨-1, rfl, .inr ⟨rfl, HC.out.1⟩⟩, HC.out.2⟩
theorem containsQ_any (g b M : Nat) (l : List QVal) (w : World) (h : QRow w g l) (hb : w.cell? ⟨b, 0, none⟩ = some (.int .i64 (M : Int))) (hbl : b < w.heap.size) (hlen : l.length ≤ 1000) :
    Calls Tryz.prog 72 #[.slice (some ⟨g, 0, none⟩) l.length l.length, .func (.func 73) #[] #[.pointer (some ⟨b, 0, none⟩)]] w fun e w' => IsBool w w' (decide (¬ AllQ M l)) e := by
  have H := Lib.hid (indexQ_any g b M l w h hb hbl hlen)
  clear h hb hbl
  by_cases hn : AllQ M l
  · rw [decide_eq_false (p := ¬ AllQ M l) (not_not_intro hn)]
    go_enter Tryz.func72, Tryz.ntmps72
    go_wp2_with fail
    refine H.out.mono ?_
    rintro e w2 ⟨⟨r, rfl, hr⟩, hb2⟩
    rcases hr with ⟨hr, hm⟩ | ⟨rfl, hm⟩
    · exact absurd hn hm
    · go_wp2
      go_ret
      exact ⟨rfl, hb2⟩
  · rw [decide_eq_true (p := ¬ AllQ M l) hn]
    go_enter Tryz.func72, Tryz.ntmps72
    go_wp2_with fail
    refine H.out.mono ?_
    rintro e w2 ⟨⟨r, rfl, hr⟩, hb2⟩
    rcases hr with ⟨hr, hm⟩ | ⟨rfl, hm⟩
    · go_wp2
      go_ret
      exact ⟨rfl, hb2⟩
    · exact absurd hm hn
theorem shortQ_any (g M : Nat) (l : List QVal) (w : World) (h : QRow w g l) (hlen : l.length ≤ 1000) :
    Calls Tryz.prog 13 #[.int .i64 (M : Int), .slice (some ⟨g, 0, none⟩) l.length l.length] w fun e w' => IsBool w w' (decide (AllQ M l)) e := by
  have hb0 : Below w.heap.size w (w.alloc (.cells #[.int .i64 (M : Int)] 3)) := (Below.refl _ _).alloc (Nat.le_refl _) _
  have hc : (w.alloc (.cells #[.int .i64 (M : Int)] 3)).cell? ⟨w.heap.size, 0, none⟩ = some (.int .i64 (M : Int)) := by go_simp
  have hcs := containsQ_any g w.heap.size M l _ (h.step hb0 rfl) hc (by rw [size_alloc]; omega) hlen
  by_cases hn : AllQ M l
  · rw [decide_eq_false (p := ¬ AllQ M l) (not_not_intro hn)] at hcs
    rw [decide_eq_true hn]
    have H := Lib.hid (And.intro hcs hb0)
    clear h hb0 hc hcs
    go_enter Tryz.func13, Tryz.ntmps13
    go_wp2_with fail
    refine H.out.1.mono ?_
    rintro e w2 ⟨rfl, hb2⟩
    go_wp2
    go_ret
    exact ⟨rfl, below_then H.out.2 hb2⟩
  · rw [decide_eq_true (p := ¬ AllQ M l) hn] at hcs
    rw [decide_eq_false hn]
    have H := Lib.hid (And.intro hcs hb0)
    clear h hb0 hc hcs
    go_enter Tryz.func13, Tryz.ntmps13
    go_wp2_with fail
    refine H.out.1.mono ?_
    rintro e w2 ⟨rfl, hb2⟩
    go_wp2
    go_ret
    exact ⟨rfl, below_then H.out.2 hb2⟩
theorem tshort1 (M : Nat) (s1 s2 : Bool) (A1 A2 : Option Addr) (n1 n2 c1 c2 : Nat) (w : World) (b : Bool) (hb : decide (n1 ≤ M ∧ n2 ≤ M) = b) :
    Calls Tryz.prog 13 #[.int .i64 (M : Int), .slice (some ⟨w.heap.size, 0, none⟩) 1 1] (w.alloc (.cells #[.bool s1, .slice A1 n1 c1, .bool s2, .slice A2 n2 c2] 26)) fun e w' => IsBool (w.alloc (.cells #[.bool s1, .slice A1 n1 c1, .bool s2, .slice A2 n2 c2] 26)) w' b e := by
  have hr : QRow (w.alloc (.cells #[.bool s1, .slice A1 n1 c1, .bool s2, .slice A2 n2 c2] 26)) w.heap.size [⟨s1, A1, n1, c1, s2, A2, n2, c2⟩] :=
    ⟨by simp, fun i x hi => by
      match i, hi with
      | 0, hi => simp at hi; subst hi; refine ⟨?_, ?_, ?_, ?_⟩ <;> go_simp⟩
  have h := shortQ_any w.heap.size M [⟨s1, A1, n1, c1, s2, A2, n2, c2⟩] _ hr (by simp)
  rw [show decide (AllQ M [⟨s1, A1, n1, c1, s2, A2, n2, c2⟩]) = b by rw [← hb]; exact decide_eq_decide.2 ⟨fun k => k _ (List.mem_cons_self ..), fun k y hy => by simp at hy; subst hy; exact k⟩] at h
  exact h
end Go.Proofs.YtpgbnegppehckaaGreat.FK
namespace Go.Proofs.YtpgbnegppehckaaGreat.FK
open Go.RowKit Go.Proofs.YtpgbnegppehckaaGreat.RK
theorem up8 {x : Int} (h : x.natAbs < B32 ^ 4) : x.natAbs < B32 ^ (2 * 4) := Nat.lt_of_lt_of_le h (Nat.pow_le_pow_right B32_pos (by decide))
theorem numbers_short (n d yn yd X D er P Q : Int) (v1 v2 v3 : Value) (w : World) (h1 : NAt w v1 n) (h2 : NAt w v2 d) (h3 : QAt w v3 yn yd)
    (hl : ∀ b1 A1 n1 c1 b2 A2 n2 c2, v1 = .agg #[.bool b1, .slice A1 n1 c1] → v2 = .agg #[.bool b2, .slice A2 n2 c2] → n1 ≤ 4 ∧ n2 ≤ 4) (hq : ∀ b1 A1 n1 c1 b2 A2 n2 c2, v3 = .agg #[.bool b1, .slice A1 n1 c1, .bool b2, .slice A2 n2 c2] → n1 ≤ 4 ∧ n2 ≤ 4)
    (nb : Hid (NewB n d X D er 4)) (ob : Hid (OfB yn yd P Q 4)) (fn : n.natAbs < B32 ^ 4) :
    Calls Tryz.prog 3 #[v1, v2, v3] w fun e w' => IsBool w w' true e := by
  obtain ⟨b1, A1, n1, c1, rfl, h1⟩ := open2 h1
  obtain ⟨b2, A2, n2, c2, rfl, h2⟩ := open2 h2
  obtain ⟨b3, A3, n3, c3, bb3, AA3, nn3, cc3, rfl, h3⟩ := open5 h3
  have hs := hl _ _ _ _ _ _ _ _ rfl rfl
  have ht := hq _ _ _ _ _ _ _ _ rfl
  clear hl hq
  obtain ⟨c, hc⟩ : ∃ c, cmpZ (X * Q) (P * D) = c := ⟨_, rfl⟩
  obtain ⟨g, hg⟩ : ∃ g, X.sign = g := ⟨_, rfl⟩
  obtain ⟨o, ho⟩ : ∃ o, decide (D = 1) = o := ⟨_, rfl⟩
  have HA := Lib.hid (And.intro (show ∀ v w, RatAt w v X D → Calls Tryz.prog 22 #[v] w fun e w' => IsBool w w' o e from fun v w k => by rw [← ho]; exact QWhole_any v X D 4 w k (by decide) (fit_kept nb.out.fd))
    (And.intro (show ∀ v w, SAt w v X D → Calls Tryz.prog 23 #[v] w fun e w' => IsBool w w' o e from fun v w k => by rw [← ho]; exact SWhole_any v X D (2 * 4) w k (by decide) (by decide) (toD nb.out.fd))
    (And.intro (show ∀ v w, RatAt w v X D → Calls Tryz.prog 24 #[v] w fun e w' => IsNum w w' g e from fun v w k => by rw [← hg]; exact QSign_any v X D 4 w k (by decide) nb.out.fx)
    (And.intro (show ∀ v w, SAt w v X D → Calls Tryz.prog 25 #[v] w fun e w' => IsNum w w' g e from fun v w k => by rw [← hg]; exact SSign_any v X D (2 * 4) w k (by decide) (toD nb.out.fx))
    (And.intro (show ∀ v1 v2 w, RatAt w v1 X D → RatAt w v2 P Q → Calls Tryz.prog 26 #[v1, v2] w fun e w' => IsNum w w' c e from fun v1 v2 w k1 k2 => by rw [← hc]; exact QCmp_any v1 v2 X D P Q 4 w k1 k2 (by decide) nb.out.fx nb.out.fd ob.out.fx ob.out.fd)
    (And.intro (show ∀ v1 v2 w, SAt w v1 X D → SAt w v2 P Q → Calls Tryz.prog 27 #[v1, v2] w fun e w' => IsNum w w' c e from fun v1 v2 w k1 k2 => by rw [← hc]; exact SCmp_any v1 v2 X D P Q (2 * 4) w k1 k2 (by decide) (toD nb.out.fx) (toD nb.out.fd) (toD ob.out.fx) (toD ob.out.fd))
    (And.intro (show ∀ v1 v2 w, RatAt w v1 X D → SAt w v2 X D → Calls Tryz.prog 19 #[v1, v2] w fun e w' => IsBool w w' true e from fun v1 v2 w k1 k2 => TIs_true v1 v2 X D (2 * 4) w k1 k2 (by decide) (up8 nb.out.fx) (up8 nb.out.fd) (toD nb.out.fx) (toD nb.out.fd))
    (And.intro (show ∀ v1 v2 w, RatAt w v1 P Q → SAt w v2 P Q → Calls Tryz.prog 19 #[v1, v2] w fun e w' => IsBool w w' true e from fun v1 v2 w k1 k2 => TIs_true v1 v2 P Q (2 * 4) w k1 k2 (by decide) (up8 ob.out.fx) (up8 ob.out.fd) (toD ob.out.fx) (toD ob.out.fd))
      (show ∀ v1 v2 w, RatAt w v1 n 1 → SAt w v2 n 1 → Calls Tryz.prog 19 #[v1, v2] w fun e w' => IsBool w w' true e from fun v1 v2 w k1 k2 => TIs_true v1 v2 n 1 (2 * 4) w k1 k2 (by decide) (up8 fn) (by decide) (toD fn) (by decide))))))))))
  have sh := short2 4 b1 b2 A1 A2 n1 n2 c1 c2 (((w.alloc (.cells #[.bool b1, .slice A1 n1 c1] 24)).alloc (.cells #[.bool b2, .slice A2 n2 c2] 24)).alloc (.cells #[.bool b3, .slice A3 n3 c3, .bool bb3, .slice AA3 nn3 cc3] 26)) true (decide_eq_true hs)
  have st := fun W : World => tshort1 4 b3 bb3 A3 AA3 n3 nn3 c3 cc3 W true (decide_eq_true ht)
  have gh0 := (FVars.told (FVars.nil w.heap.size w) (t := ⟨false, 0, b1, A1, n1, c1, false, none, 0, 0, n, 0, 2⟩) (At.step (t := ⟨false, 0, b1, A1, n1, c1, false, none, 0, 0, n, 0, 2⟩) (h1) (Below.refl w.heap.size w) rfl) rfl).laid2 24 (show 2 < 3 from by decide) (by exact Nat.le_refl _)
  have gh1 := (FVars.told gh0 (t := ⟨false, 0, b2, A2, n2, c2, false, none, 0, 0, d, 0, 2⟩) (At.step (t := ⟨false, 0, b2, A2, n2, c2, false, none, 0, 0, d, 0, 2⟩) (h2) ((Below.refl w.heap.size w).alloc (by exact Nat.le_refl _) (.cells #[.bool b1, .slice A1 n1 c1] 24)) rfl) rfl).laid2 24 (show 2 < 3 from by decide) (by simp only [size_alloc]; omega)
  have gh2 := (FVars.told gh1 (t := ⟨false, 0, b3, A3, n3, c3, bb3, AA3, nn3, cc3, yn, yd, 5⟩) (At.step (t := ⟨false, 0, b3, A3, n3, c3, bb3, AA3, nn3, cc3, yn, yd, 5⟩) (h3) (((Below.refl w.heap.size w).alloc (by exact Nat.le_refl _) (.cells #[.bool b1, .slice A1 n1 c1] 24)).alloc (by simp only [size_alloc]; omega) (.cells #[.bool b2, .slice A2 n2 c2] 24)) rfl) rfl).laid4 26 (show 3 ≤ 5 from by decide) (by simp only [size_alloc]; omega)
  have gb : Below w.heap.size w (((w.alloc (.cells #[.bool b1, .slice A1 n1 c1] 24)).alloc (.cells #[.bool b2, .slice A2 n2 c2] 24)).alloc (.cells #[.bool b3, .slice A3 n3 c3, .bool bb3, .slice AA3 nn3 cc3] 26)) := ((((Below.refl w.heap.size w).alloc (by exact Nat.le_refl _) (.cells #[.bool b1, .slice A1 n1 c1] 24)).alloc (by simp only [size_alloc]; omega) (.cells #[.bool b2, .slice A2 n2 c2] 24)).alloc (by simp only [size_alloc]; omega) (.cells #[.bool b3, .slice A3 n3 c3, .bool bb3, .slice AA3 nn3 cc3] 26))
  simp only [size_alloc] at gh2
  obtain ⟨W, hW⟩ : ∃ W : World, (((w.alloc (.cells #[.bool b1, .slice A1 n1 c1] 24)).alloc (.cells #[.bool b2, .slice A2 n2 c2] 24)).alloc (.cells #[.bool b3, .slice A3 n3 c3, .bool bb3, .slice AA3 nn3 cc3] 26)) = W := ⟨_, rfl⟩
  rw [hW] at gh2 gb sh
  have HC := Lib.hid (And.intro gh2 gb)
  have HSH := Lib.hid sh
  have HW := Lib.hid hW
  clear sh
  clear gb hW gh0 gh1 gh2
  have HT := Lib.hid st
  clear h1 h2 h3 hs ht hc hg ho fn st
  go_enter Tryz.func3, Tryz.ntmps3
  go_upto_region 1 with fail
  rw [HW.out]
  clear HW
  obtain ⟨pn0, pn1⟩ : Two W w.heap.size (.bool b1) (.slice A1 n1 c1) := (HC.out.1.all 2 _ rfl).lies rfl
  obtain ⟨pd0, pd1⟩ : Two W (w.heap.size + 1) (.bool b2) (.slice A2 n2 c2) := (HC.out.1.all 1 _ rfl).lies rfl
  obtain ⟨py0, py1, py2, py3⟩ : Quad W (w.heap.size + 1 + 1) (.bool b3) (.slice A3 n3 c3) (.bool bb3) (.slice AA3 nn3 cc3) := (HC.out.1.all 0 _ rfl).lies rfl
  have HC0 := Lib.hid (And.intro (HC.out.1.alloc (.cells #[.bool b1, .slice A1 n1 c1, .bool b2, .slice A2 n2 c2] 24)) (HC.out.2.alloc HC.out.2.size (.cells #[.bool b1, .slice A1 n1 c1, .bool b2, .slice A2 n2 c2] 24)))
  go_wp2_with fail
  refine HSH.out.mono ?_
  rintro e w1 ⟨rfl, hb1⟩
  have HC1 := Lib.hid (And.intro (HC0.out.1.step hb1 rfl) (below_then HC0.out.2 hb1))
  clear hb1 HC HC0
  clear pn0 pn1 pd0 pd1 py0 py1 py2 py3
  obtain ⟨py0, py1, py2, py3⟩ : Quad w1 (w.heap.size + 1 + 1) (.bool b3) (.slice A3 n3 c3) (.bool bb3) (.slice AA3 nn3 cc3) := (HC1.out.1.all 0 _ rfl).lies rfl
  have HC2 := Lib.hid (And.intro (HC1.out.1.alloc (.cells #[.bool b3, .slice A3 n3 c3, .bool bb3, .slice AA3 nn3 cc3] 26)) (HC1.out.2.alloc HC1.out.2.size (.cells #[.bool b3, .slice A3 n3 c3, .bool bb3, .slice AA3 nn3 cc3] 26)))
  go_wp2_with fail
  refine (HT.out w1).mono ?_
  rintro e w2 ⟨rfl, hb2⟩
  have HC3 := Lib.hid (And.intro (HC2.out.1.step hb2 rfl) (below_then HC2.out.2 hb2))
  clear hb2 HC1 HC2
  clear py0 py1 py2 py3
  obtain ⟨pn0, pn1⟩ : Two w2 w.heap.size (.bool b1) (.slice A1 n1 c1) := (HC3.out.1.all 2 _ rfl).lies rfl
  go_wp2_with fail
  refine (of_is _ n _ ((HC3.out.1.all 2 _ rfl).at_)).mono ?_
  rintro e wq101 ⟨qv101, rv101, rfl, hq101, hr101, hb101⟩
  obtain ⟨qb101, qA101, qn101, qc101, rfl, hq101⟩ := open0 hq101
  obtain ⟨rb101, rA101, rn101, rc101, rfl, hr101⟩ := open1 hr101
  have hv101 := (((FVars.told (FVars.told (FVars.step HC3.out.1 hb101 rfl) (t := ⟨false, 0, rb101, rA101, rn101, rc101, false, none, 0, 0, n, 0, 1⟩) hr101 rfl) (t := ⟨false, 0, qb101, qA101, qn101, qc101, false, none, 0, 0, n, 0, 0⟩) hq101 rfl).laid2 31 lyK (Nat.le_trans HC3.out.2.size hb101.size)).swap).laid2 34 lyL (Nat.le_trans (Nat.le_trans HC3.out.2.size hb101.size) (by simp))
  rw [size_alloc] at hv101
  have hl101 : Below w.heap.size w ((wq101.alloc (.cells #[.bool qb101, .slice qA101 qn101 qc101] 31)).alloc (.cells #[.bool rb101, .slice rA101 rn101 rc101] 34)) := (((below_then HC3.out.2 hb101).alloc (Nat.le_trans HC3.out.2.size hb101.size) (.cells #[.bool qb101, .slice qA101 qn101 qc101] 31)).alloc (Nat.le_trans (Nat.le_trans HC3.out.2.size hb101.size) (by simp)) (.cells #[.bool rb101, .slice rA101 rn101 rc101] 34))
  obtain ⟨Wq101, hW101⟩ : ∃ W : World, W = (wq101.alloc (.cells #[.bool qb101, .slice qA101 qn101 qc101] 31)).alloc (.cells #[.bool rb101, .slice rA101 rn101 rc101] 34) := ⟨_, rfl⟩
  obtain ⟨rrq101, hsq101⟩ : ∃ r : Nat, r = wq101.heap.size := ⟨_, rfl⟩
  obtain ⟨rrr101, hsr101⟩ : ∃ r : Nat, r = wq101.heap.size + 1 := ⟨_, rfl⟩
  rw [← hW101] at hv101 hl101
  rw [← hsr101] at hv101
  rw [← hsq101] at hv101
  have HC101 := Lib.hid (And.intro hv101 hl101)
  have HW101 := Lib.hid hW101
  have HRq101 := Lib.hid hsq101
  have HRr101 := Lib.hid hsr101
  clear pn0 pn1
  clear hv101 hl101 hW101 hb101 hsq101 hq101 hsr101 hr101 HC3
  go_upto_region 4 with fail
  rw [← HW101.out]
  rw [← HRr101.out]
  rw [← HRq101.out]
  clear HW101 HRq101 HRr101
  obtain ⟨pd0, pd1⟩ : Two Wq101 (w.heap.size + 1) (.bool b2) (.slice A2 n2 c2) := (HC101.out.1.all 3 _ rfl).lies rfl
  go_wp2_with fail
  refine (of_is _ d _ ((HC101.out.1.all 3 _ rfl).at_)).mono ?_
  rintro e wq102 ⟨qv102, rv102, rfl, hq102, hr102, hb102⟩
  obtain ⟨qb102, qA102, qn102, qc102, rfl, hq102⟩ := open0 hq102
  obtain ⟨rb102, rA102, rn102, rc102, rfl, hr102⟩ := open1 hr102
  have hv102 := (((FVars.told (FVars.told (FVars.step HC101.out.1 hb102 rfl) (t := ⟨false, 0, rb102, rA102, rn102, rc102, false, none, 0, 0, d, 0, 1⟩) hr102 rfl) (t := ⟨false, 0, qb102, qA102, qn102, qc102, false, none, 0, 0, d, 0, 0⟩) hq102 rfl).laid2 31 lyK (Nat.le_trans HC101.out.2.size hb102.size)).swap).laid2 34 lyL (Nat.le_trans (Nat.le_trans HC101.out.2.size hb102.size) (by simp))
  rw [size_alloc] at hv102
  have hl102 : Below w.heap.size w ((wq102.alloc (.cells #[.bool qb102, .slice qA102 qn102 qc102] 31)).alloc (.cells #[.bool rb102, .slice rA102 rn102 rc102] 34)) := (((below_then HC101.out.2 hb102).alloc (Nat.le_trans HC101.out.2.size hb102.size) (.cells #[.bool qb102, .slice qA102 qn102 qc102] 31)).alloc (Nat.le_trans (Nat.le_trans HC101.out.2.size hb102.size) (by simp)) (.cells #[.bool rb102, .slice rA102 rn102 rc102] 34))
  obtain ⟨Wq102, hW102⟩ : ∃ W : World, W = (wq102.alloc (.cells #[.bool qb102, .slice qA102 qn102 qc102] 31)).alloc (.cells #[.bool rb102, .slice rA102 rn102 rc102] 34) := ⟨_, rfl⟩
  obtain ⟨rrq102, hsq102⟩ : ∃ r : Nat, r = wq102.heap.size := ⟨_, rfl⟩
  obtain ⟨rrr102, hsr102⟩ : ∃ r : Nat, r = wq102.heap.size + 1 := ⟨_, rfl⟩
  rw [← hW102] at hv102 hl102
  rw [← hsr102] at hv102
  rw [← hsq102] at hv102
  have HC102 := Lib.hid (And.intro hv102 hl102)
  have HW102 := Lib.hid hW102
  have HRq102 := Lib.hid hsq102
  have HRr102 := Lib.hid hsr102
  clear pd0 pd1
  clear hv102 hl102 hW102 hb102 hsq102 hq102 hsr102 hr102 HC101
  go_upto_region 5 with fail
  rw [← HW102.out]
  rw [← HRr102.out]
  rw [← HRq102.out]
  clear HW102 HRq102 HRr102
  obtain ⟨pa0, pa1⟩ : Two Wq102 rrq101 (.bool qb101) (.slice qA101 qn101 qc101) := (HC102.out.1.all 3 _ rfl).lies rfl
  obtain ⟨pb0, pb1⟩ : Two Wq102 rrq102 (.bool qb102) (.slice qA102 qn102 qc102) := (HC102.out.1.all 1 _ rfl).lies rfl
  go_wp2_with fail
  refine (nb.out.p _ _ _ ((HC102.out.1.all 3 _ rfl).at_) ((HC102.out.1.all 1 _ rfl).at_)).mono ?_
  rintro e wq103 ⟨qv103, rfl, hq103, hb103⟩
  obtain ⟨qb103, qA103, qn103, qc103, qbb103, qAA103, qnn103, qcc103, rfl, hq103⟩ := open3 hq103
  have hv103 := (FVars.told (FVars.step HC102.out.1 hb103 rfl) (t := ⟨false, 0, qb103, qA103, qn103, qc103, qbb103, qAA103, qnn103, qcc103, X, D, 3⟩) hq103 rfl).laid4 38 (show 3 ≤ 3 from by decide) (Nat.le_trans HC102.out.2.size hb103.size)
  have hl103 : Below w.heap.size w (wq103.alloc (.cells #[.bool qb103, .slice qA103 qn103 qc103, .bool qbb103, .slice qAA103 qnn103 qcc103] 38)) := ((below_then HC102.out.2 hb103).alloc (Nat.le_trans HC102.out.2.size hb103.size) (.cells #[.bool qb103, .slice qA103 qn103 qc103, .bool qbb103, .slice qAA103 qnn103 qcc103] 38))
  obtain ⟨Wq103, hW103⟩ : ∃ W : World, W = wq103.alloc (.cells #[.bool qb103, .slice qA103 qn103 qc103, .bool qbb103, .slice qAA103 qnn103 qcc103] 38) := ⟨_, rfl⟩
  obtain ⟨rrq103, hsq103⟩ : ∃ r : Nat, r = wq103.heap.size := ⟨_, rfl⟩
  rw [← hW103] at hv103 hl103
  rw [← hsq103] at hv103
  have HC103 := Lib.hid (And.intro hv103 hl103)
  have HW103 := Lib.hid hW103
  have HRq103 := Lib.hid hsq103
  clear pa0 pa1 pb0 pb1
  clear hv103 hl103 hW103 hb103 hsq103 hq103 HC102
  go_upto_region 6 with fail
  rw [← HW103.out]
  rw [← HRq103.out]
  clear HW103 HRq103
  obtain ⟨pu0, pu1⟩ : Two Wq103 rrr101 (.bool rb101) (.slice rA101 rn101 rc101) := (HC103.out.1.all 3 _ rfl).lies rfl
  obtain ⟨pv0, pv1⟩ : Two Wq103 rrr102 (.bool rb102) (.slice rA102 rn102 rc102) := (HC103.out.1.all 1 _ rfl).lies rfl
  go_wp2_with fail
  refine (nb.out.q _ _ _ ((HC103.out.1.all 3 _ rfl).at_) ((HC103.out.1.all 1 _ rfl).at_)).mono ?_
  rintro e wq104 ⟨qv104, rfl, hq104, hb104⟩
  obtain ⟨qb104, qA104, qn104, qc104, qbb104, qAA104, qnn104, qcc104, rfl, hq104⟩ := open4 hq104
  have hv104 := (FVars.told (FVars.step HC103.out.1 hb104 rfl) (t := ⟨false, 0, qb104, qA104, qn104, qc104, qbb104, qAA104, qnn104, qcc104, X, D, 4⟩) hq104 rfl).laid4 43 (show 3 ≤ 4 from by decide) (Nat.le_trans HC103.out.2.size hb104.size)
  have hl104 : Below w.heap.size w (wq104.alloc (.cells #[.bool qb104, .slice qA104 qn104 qc104, .bool qbb104, .slice qAA104 qnn104 qcc104] 43)) := ((below_then HC103.out.2 hb104).alloc (Nat.le_trans HC103.out.2.size hb104.size) (.cells #[.bool qb104, .slice qA104 qn104 qc104, .bool qbb104, .slice qAA104 qnn104 qcc104] 43))
  obtain ⟨Wq104, hW104⟩ : ∃ W : World, W = wq104.alloc (.cells #[.bool qb104, .slice qA104 qn104 qc104, .bool qbb104, .slice qAA104 qnn104 qcc104] 43) := ⟨_, rfl⟩
  obtain ⟨rrq104, hsq104⟩ : ∃ r : Nat, r = wq104.heap.size := ⟨_, rfl⟩
  rw [← hW104] at hv104 hl104
  rw [← hsq104] at hv104
  have HC104 := Lib.hid (And.intro hv104 hl104)
  have HW104 := Lib.hid hW104
  have HRq104 := Lib.hid hsq104
  clear pu0 pu1 pv0 pv1
  clear hv104 hl104 hW104 hb104 hsq104 hq104 HC103
  go_upto_region 7 with fail
  rw [← HW104.out]
  rw [← HRq104.out]
  clear HW104 HRq104
  obtain ⟨py0, py1, py2, py3⟩ : Quad Wq104 (w.heap.size + 1 + 1) (.bool b3) (.slice A3 n3 c3) (.bool bb3) (.slice AA3 nn3 cc3) := (HC104.out.1.all 6 _ rfl).lies rfl
  go_wp2_with fail
  refine (ob.out.p _ _ ((HC104.out.1.all 6 _ rfl).at_)).mono ?_
  rintro e wq105 ⟨qv105, rv105, rfl, hq105, hr105, hb105⟩
  obtain ⟨qb105, qA105, qn105, qc105, qbb105, qAA105, qnn105, qcc105, rfl, hq105⟩ := open3 hq105
  obtain ⟨rb105, rA105, rn105, rc105, rbb105, rAA105, rnn105, rcc105, rfl, hr105⟩ := open4 hr105
  have hv105 := (((FVars.told (FVars.told (FVars.step HC104.out.1 hb105 rfl) (t := ⟨false, 0, rb105, rA105, rn105, rc105, rbb105, rAA105, rnn105, rcc105, P, Q, 4⟩) hr105 rfl) (t := ⟨false, 0, qb105, qA105, qn105, qc105, qbb105, qAA105, qnn105, qcc105, P, Q, 3⟩) hq105 rfl).laid4 38 (show 3 ≤ 3 from by decide) (Nat.le_trans HC104.out.2.size hb105.size)).swap).laid4 43 (show 3 ≤ 4 from by decide) (Nat.le_trans (Nat.le_trans HC104.out.2.size hb105.size) (by simp))
  rw [size_alloc] at hv105
  have hl105 : Below w.heap.size w ((wq105.alloc (.cells #[.bool qb105, .slice qA105 qn105 qc105, .bool qbb105, .slice qAA105 qnn105 qcc105] 38)).alloc (.cells #[.bool rb105, .slice rA105 rn105 rc105, .bool rbb105, .slice rAA105 rnn105 rcc105] 43)) := (((below_then HC104.out.2 hb105).alloc (Nat.le_trans HC104.out.2.size hb105.size) (.cells #[.bool qb105, .slice qA105 qn105 qc105, .bool qbb105, .slice qAA105 qnn105 qcc105] 38)).alloc (Nat.le_trans (Nat.le_trans HC104.out.2.size hb105.size) (by simp)) (.cells #[.bool rb105, .slice rA105 rn105 rc105, .bool rbb105, .slice rAA105 rnn105 rcc105] 43))
  obtain ⟨Wq105, hW105⟩ : ∃ W : World, W = (wq105.alloc (.cells #[.bool qb105, .slice qA105 qn105 qc105, .bool qbb105, .slice qAA105 qnn105 qcc105] 38)).alloc (.cells #[.bool rb105, .slice rA105 rn105 rc105, .bool rbb105, .slice rAA105 rnn105 rcc105] 43) := ⟨_, rfl⟩
  obtain ⟨rrq105, hsq105⟩ : ∃ r : Nat, r = wq105.heap.size := ⟨_, rfl⟩
  obtain ⟨rrr105, hsr105⟩ : ∃ r : Nat, r = wq105.heap.size + 1 := ⟨_, rfl⟩
  rw [← hW105] at hv105 hl105
  rw [← hsr105] at hv105
  rw [← hsq105] at hv105
  have HC105 := Lib.hid (And.intro hv105 hl105)
  have HW105 := Lib.hid hW105
  have HRq105 := Lib.hid hsq105
  have HRr105 := Lib.hid hsr105
  clear py0 py1 py2 py3
  clear hv105 hl105 hW105 hb105 hsq105 hq105 hsr105 hr105 HC104
  go_upto_region 8 with fail
  rw [← HW105.out]
  rw [← HRr105.out]
  rw [← HRq105.out]
  clear HW105 HRq105 HRr105
  have HD106 := Lib.hid (And.intro HC105.out.1.drew HC105.out.2.drew)
  refine wp_region_held_drew (S := fun w' => Quad w' rrq103 (.bool qb103) (.slice qA103 qn103 qc103) (.bool qbb103) (.slice qAA103 qnn103 qcc103) ∧ Quad w' rrq104 (.bool qb104) (.slice qA104 qn104 qc104) (.bool qbb104) (.slice qAA104 qnn104 qcc104) ∧ Two w' rrq101 (.bool qb101) (.slice qA101 qn101 qc101) ∧ Two w' rrr101 (.bool rb101) (.slice rA101 rn101 rc101) ∧ Quad w' rrq105 (.bool qb105) (.slice qA105 qn105 qc105) (.bool qbb105) (.slice qAA105 qnn105 qcc105) ∧ Quad w' rrr105 (.bool rb105) (.slice rA105 rn105 rc105) (.bool rbb105) (.slice rAA105 rnn105 rcc105)) (by kernel_rfl) (⟨(HD106.out.1.all 3 _ rfl).lies rfl, (HD106.out.1.all 2 _ rfl).lies rfl, (HD106.out.1.all 7 _ rfl).lies rfl, (HD106.out.1.all 6 _ rfl).lies rfl, (HD106.out.1.all 1 _ rfl).lies rfl, (HD106.out.1.all 0 _ rfl).lies rfl⟩) (fun hH0 => ?_)
  refine wpAnyH_take (i := 0) (v := (.int .i64 er)) rfl (by kernel_rfl) (by kernel_rfl) (by kernel_rfl) (fun _ _ _ h => h) (Or.inl ⟨by kernel_rfl, fun _ _ => by kernel_rfl⟩) hH0 ?r1
  change wpAnyH _ _ _ _ _ _ _ (Act.put _ (some 56) _) _
  simp only [Act.put, lyA, lyZ, lyS]
  refine wpAnyH_take (i := 1) (v := (.int .i64 er)) rfl (by kernel_rfl) (by kernel_rfl) (by kernel_rfl) (fun _ _ _ h => h) (Or.inl ⟨by kernel_rfl, fun _ _ => by kernel_rfl⟩) hH0 ?r2
  change wpAnyH _ _ _ _ _ _ _ (Act.put _ (some 57) _) _
  simp only [Act.put, lyA, lyZ, lyS]
  refine wpAnyH_take (i := 2) (v := (.bool true)) rfl (by kernel_rfl) (by kernel_rfl) (by kernel_rfl) (fun _ _ _ h => h) (Or.inl ⟨by kernel_rfl, fun w0 hS0 => by go_simp⟩) hH0 ?r3
  change wpAnyH _ _ _ _ _ _ _ (Act.put _ (some 58) _) _
  simp only [Act.put, lyA, lyZ, lyS]
  refine wpAnyH_take (i := 3) (v := (.bool true)) rfl (by kernel_rfl) (by kernel_rfl) (by kernel_rfl) (fun _ _ _ h => h) (Or.inl ⟨by kernel_rfl, fun _ _ => by kernel_rfl⟩) hH0 ?r4
  change wpAnyH _ _ _ _ _ _ _ (Act.put _ (some 59) _) _
  simp only [Act.put, lyA, lyZ, lyS]
  refine wpAnyH_take (i := 4) (v := (.agg #[.bool qb103, .slice qA103 qn103 qc103, .bool qbb103, .slice qAA103 qnn103 qcc103])) rfl (by kernel_rfl) (by kernel_rfl) (by kernel_rfl) (fun _ _ _ h => h) (Or.inl ⟨by kernel_rfl, fun w0 hS0 => load3 (hS0.1) (.tmp 11) (by kernel_rfl) (by kernel_rfl)⟩) hH0 ?r5
  change wpAnyH _ _ _ _ _ _ _ (Act.put _ (some 60) _) _
  simp only [Act.put, lyA, lyZ, lyS]
  refine wpAnyH_take (i := 5) (v := (.agg #[.bool qb104, .slice qA104 qn104 qc104, .bool qbb104, .slice qAA104 qnn104 qcc104])) rfl (by kernel_rfl) (by kernel_rfl) (by kernel_rfl) (fun _ _ _ h => h) (Or.inl ⟨by kernel_rfl, fun w0 hS0 => load4 (hS0.2.1) (.tmp 13) (by kernel_rfl) (by kernel_rfl)⟩) hH0 ?r6
  change wpAnyH _ _ _ _ _ _ _ (Act.put _ (some 61) _) _
  simp only [Act.put, lyA, lyZ, lyS]
  refine wpAnyH_ready (rs := [6]) (by kernel_rfl) (by simp) ?_
  refine AllReadyH.cons rfl (fun K hK0 => ?d7) (AllReadyH.nil)
  have hK := hK0.out
  clear hK0
  rw [if_pos (by kernel_rfl)]
  refine wp_go_call 19 #[(.agg #[.bool qb103, .slice qA103 qn103 qc103, .bool qbb103, .slice qAA103 qnn103 qcc103]), (.agg #[.bool qb104, .slice qA104 qn104 qc104, .bool qbb104, .slice qAA104 qnn104 qcc104])] (fun _ => by kernel_rfl) ((HA.out.2.2.2.2.2.2.1 _ _ _ ((HD106.out.1.all 3 _ rfl).at_) ((HD106.out.1.all 2 _ rfl).at_)).mono ?_)
  rintro e wq107 ⟨rfl, hb107⟩
  have HD107 := Lib.hid (And.intro (HD106.out.1.step hb107 rfl) (below_then HD106.out.2 hb107))
  clear hb107 HD106
  refine ⟨(.bool true), rfl, hK _ _ (⟨(HD107.out.1.all 3 _ rfl).lies rfl, (HD107.out.1.all 2 _ rfl).lies rfl, (HD107.out.1.all 7 _ rfl).lies rfl, (HD107.out.1.all 6 _ rfl).lies rfl, (HD107.out.1.all 1 _ rfl).lies rfl, (HD107.out.1.all 0 _ rfl).lies rfl⟩) (fun hH107 => ?_)⟩
  clear hK K hH0
  change wpAnyH _ _ _ _ _ _ _ (Act.put _ (some 62) _) _
  simp only [Act.put, lyA, lyZ, lyS]
  refine wpAnyH_take (i := 7) (v := (.bool true)) rfl (by kernel_rfl) (by kernel_rfl) (by kernel_rfl) (fun _ _ _ h => h) (Or.inl ⟨by kernel_rfl, fun _ _ => by kernel_rfl⟩) hH107 ?r8
  change wpAnyH _ _ _ _ _ _ _ (Act.put _ (some 63) _) _
  simp only [Act.put, lyA, lyZ, lyS]
  refine wpAnyH_take (i := 8) (v := (.bool true)) rfl (by kernel_rfl) (by kernel_rfl) (by kernel_rfl) (fun _ _ _ h => h) (Or.inl ⟨by kernel_rfl, fun _ _ => by kernel_rfl⟩) hH107 ?r9
  change wpAnyH _ _ _ _ _ _ _ (Act.put _ (some 64) _) _
  simp only [Act.put, lyA, lyZ, lyS]
  refine wpAnyH_take (i := 9) (v := (.agg #[.bool qb101, .slice qA101 qn101 qc101])) rfl (by kernel_rfl) (by kernel_rfl) (by kernel_rfl) (fun _ _ _ h => h) (Or.inl ⟨by kernel_rfl, fun w0 hS0 => load0 (hS0.2.2.1) (.tmp 7) (by kernel_rfl) (by kernel_rfl)⟩) hH107 ?r10
  change wpAnyH _ _ _ _ _ _ _ (Act.put _ (some 65) _) _
  simp only [Act.put, lyA, lyZ, lyS]
  refine wpAnyH_take (i := 11) (v := (.agg #[.bool rb101, .slice rA101 rn101 rc101])) rfl (by kernel_rfl) (by kernel_rfl) (by kernel_rfl) (fun _ _ _ h => h) (Or.inl ⟨by kernel_rfl, fun w0 hS0 => load1 (hS0.2.2.2.1) (.tmp 8) (by kernel_rfl) (by kernel_rfl)⟩) hH107 ?r11
  change wpAnyH _ _ _ _ _ _ _ (Act.put _ (some 67) _) _
  simp only [Act.put, lyA, lyZ, lyS]
  refine wpAnyH_ready (rs := [10]) (by kernel_rfl) (by simp) ?_
  refine AllReadyH.cons rfl (fun K hK0 => ?d12) (AllReadyH.nil)
  have hK := hK0.out
  clear hK0
  rw [if_pos (by kernel_rfl)]
  refine wp_go_call 20 #[(.agg #[.bool qb101, .slice qA101 qn101 qc101])] (fun _ => by kernel_rfl) ((QOf_any _ n _ ((HD107.out.1.all 7 _ rfl).at_)).mono ?_)
  rintro e wq108 ⟨qv108, rfl, hq108, hb108⟩
  obtain ⟨qb108, qA108, qn108, qc108, qbb108, qAA108, qnn108, qcc108, rfl, hq108⟩ := open3 hq108
  have HD108 := Lib.hid (And.intro (FVars.told (HD107.out.1.step hb108 rfl) (t := ⟨false, 0, qb108, qA108, qn108, qc108, qbb108, qAA108, qnn108, qcc108, n, 1, 3⟩) hq108 rfl) (below_then HD107.out.2 hb108))
  clear hq108 hb108 HD107
  refine ⟨(.agg #[.bool qb108, .slice qA108 qn108 qc108, .bool qbb108, .slice qAA108 qnn108 qcc108]), rfl, hK _ _ (⟨(HD108.out.1.all 4 _ rfl).lies rfl, (HD108.out.1.all 3 _ rfl).lies rfl, (HD108.out.1.all 8 _ rfl).lies rfl, (HD108.out.1.all 7 _ rfl).lies rfl, (HD108.out.1.all 2 _ rfl).lies rfl, (HD108.out.1.all 1 _ rfl).lies rfl⟩) (fun hH108 => ?_)⟩
  clear hK K hH107
  change wpAnyH _ _ _ _ _ _ _ (Act.put _ (some 66) _) _
  simp only [Act.put, lyA, lyZ, lyS]
  refine wpAnyH_ready (rs := [12]) (by kernel_rfl) (by simp) ?_
  refine AllReadyH.cons rfl (fun K hK0 => ?d13) (AllReadyH.nil)
  have hK := hK0.out
  clear hK0
  rw [if_pos (by kernel_rfl)]
  refine wp_go_call 21 #[(.agg #[.bool rb101, .slice rA101 rn101 rc101])] (fun _ => by kernel_rfl) ((SOf_any _ n _ ((HD108.out.1.all 7 _ rfl).at_)).mono ?_)
  rintro e wq109 ⟨qv109, rfl, hq109, hb109⟩
  obtain ⟨qb109, qA109, qn109, qc109, qbb109, qAA109, qnn109, qcc109, rfl, hq109⟩ := open4 hq109
  have HD109 := Lib.hid (And.intro (FVars.told (HD108.out.1.step hb109 rfl) (t := ⟨false, 0, qb109, qA109, qn109, qc109, qbb109, qAA109, qnn109, qcc109, n, 1, 4⟩) hq109 rfl) (below_then HD108.out.2 hb109))
  clear hq109 hb109 HD108
  refine ⟨(.agg #[.bool qb109, .slice qA109 qn109 qc109, .bool qbb109, .slice qAA109 qnn109 qcc109]), rfl, hK _ _ (⟨(HD109.out.1.all 5 _ rfl).lies rfl, (HD109.out.1.all 4 _ rfl).lies rfl, (HD109.out.1.all 9 _ rfl).lies rfl, (HD109.out.1.all 8 _ rfl).lies rfl, (HD109.out.1.all 3 _ rfl).lies rfl, (HD109.out.1.all 2 _ rfl).lies rfl⟩) (fun hH109 => ?_)⟩
  clear hK K hH108
  change wpAnyH _ _ _ _ _ _ _ (Act.put _ (some 68) _) _
  simp only [Act.put, lyA, lyZ, lyS]
  refine wpAnyH_ready (rs := [13]) (by kernel_rfl) (by simp) ?_
  refine AllReadyH.cons rfl (fun K hK0 => ?d14) (AllReadyH.nil)
  have hK := hK0.out
  clear hK0
  rw [if_pos (by kernel_rfl)]
  refine wp_go_call 19 #[(.agg #[.bool qb108, .slice qA108 qn108 qc108, .bool qbb108, .slice qAA108 qnn108 qcc108]), (.agg #[.bool qb109, .slice qA109 qn109 qc109, .bool qbb109, .slice qAA109 qnn109 qcc109])] (fun _ => by kernel_rfl) ((HA.out.2.2.2.2.2.2.2.2 _ _ _ ((HD109.out.1.all 1 _ rfl).at_) ((HD109.out.1.all 0 _ rfl).at_)).mono ?_)
  rintro e wq110 ⟨rfl, hb110⟩
  have HD110 := Lib.hid (And.intro (HD109.out.1.step hb110 rfl) (below_then HD109.out.2 hb110))
  clear hb110 HD109
  refine ⟨(.bool true), rfl, hK _ _ (⟨(HD110.out.1.all 5 _ rfl).lies rfl, (HD110.out.1.all 4 _ rfl).lies rfl, (HD110.out.1.all 9 _ rfl).lies rfl, (HD110.out.1.all 8 _ rfl).lies rfl, (HD110.out.1.all 3 _ rfl).lies rfl, (HD110.out.1.all 2 _ rfl).lies rfl⟩) (fun hH110 => ?_)⟩
  clear hK K hH109
  change wpAnyH _ _ _ _ _ _ _ (Act.put _ (some 69) _) _
  simp only [Act.put, lyA, lyZ, lyS]
  refine wpAnyH_take (i := 14) (v := (.bool true)) rfl (by kernel_rfl) (by kernel_rfl) (by kernel_rfl) (fun _ _ _ h => h) (Or.inl ⟨by kernel_rfl, fun _ _ => by kernel_rfl⟩) hH110 ?r15
  change wpAnyH _ _ _ _ _ _ _ (Act.put _ (some 70) _) _
  simp only [Act.put, lyA, lyZ, lyS]
  refine wpAnyH_take (i := 15) (v := (.bool true)) rfl (by kernel_rfl) (by kernel_rfl) (by kernel_rfl) (fun _ _ _ h => h) (Or.inl ⟨by kernel_rfl, fun _ _ => by kernel_rfl⟩) hH110 ?r16
  change wpAnyH _ _ _ _ _ _ _ (Act.put _ (some 71) _) _
  simp only [Act.put, lyA, lyZ, lyS]
  refine wpAnyH_take (i := 16) (v := (.agg #[.bool qb105, .slice qA105 qn105 qc105, .bool qbb105, .slice qAA105 qnn105 qcc105])) rfl (by kernel_rfl) (by kernel_rfl) (by kernel_rfl) (fun _ _ _ h => h) (Or.inl ⟨by kernel_rfl, fun w0 hS0 => load3 (hS0.2.2.2.2.1) (.tmp 15) (by kernel_rfl) (by kernel_rfl)⟩) hH110 ?r17
  change wpAnyH _ _ _ _ _ _ _ (Act.put _ (some 72) _) _
  simp only [Act.put, lyA, lyZ, lyS]
  refine wpAnyH_take (i := 17) (v := (.agg #[.bool rb105, .slice rA105 rn105 rc105, .bool rbb105, .slice rAA105 rnn105 rcc105])) rfl (by kernel_rfl) (by kernel_rfl) (by kernel_rfl) (fun _ _ _ h => h) (Or.inl ⟨by kernel_rfl, fun w0 hS0 => load4 (hS0.2.2.2.2.2) (.tmp 16) (by kernel_rfl) (by kernel_rfl)⟩) hH110 ?r18
  change wpAnyH _ _ _ _ _ _ _ (Act.put _ (some 73) _) _
  simp only [Act.put, lyA, lyZ, lyS]
  refine wpAnyH_ready (rs := [18]) (by kernel_rfl) (by simp) ?_
  refine AllReadyH.cons rfl (fun K hK0 => ?d19) (AllReadyH.nil)
  have hK := hK0.out
  clear hK0
  rw [if_pos (by kernel_rfl)]
  refine wp_go_call 19 #[(.agg #[.bool qb105, .slice qA105 qn105 qc105, .bool qbb105, .slice qAA105 qnn105 qcc105]), (.agg #[.bool rb105, .slice rA105 rn105 rc105, .bool rbb105, .slice rAA105 rnn105 rcc105])] (fun _ => by kernel_rfl) ((HA.out.2.2.2.2.2.2.2.1 _ _ _ ((HD110.out.1.all 3 _ rfl).at_) ((HD110.out.1.all 2 _ rfl).at_)).mono ?_)
  rintro e wq111 ⟨rfl, hb111⟩
  have HD111 := Lib.hid (And.intro (HD110.out.1.step hb111 rfl) (below_then HD110.out.2 hb111))
  clear hb111 HD110
  refine ⟨(.bool true), rfl, hK _ _ (⟨(HD111.out.1.all 5 _ rfl).lies rfl, (HD111.out.1.all 4 _ rfl).lies rfl, (HD111.out.1.all 9 _ rfl).lies rfl, (HD111.out.1.all 8 _ rfl).lies rfl, (HD111.out.1.all 3 _ rfl).lies rfl, (HD111.out.1.all 2 _ rfl).lies rfl⟩) (fun hH111 => ?_)⟩
  clear hK K hH110
  change wpAnyH _ _ _ _ _ _ _ (Act.put _ (some 74) _) _
  simp only [Act.put, lyA, lyZ, lyS]
  refine wpAnyH_take (i := 19) (v := (.bool true)) rfl (by kernel_rfl) (by kernel_rfl) (by kernel_rfl) (fun _ _ _ h => h) (Or.inl ⟨by kernel_rfl, fun _ _ => by kernel_rfl⟩) hH111 ?r20
  change wpAnyH _ _ _ _ _ _ _ (Act.put _ (some 75) _) _
  simp only [Act.put, lyA, lyZ, lyS]
  refine wpAnyH_take (i := 20) (v := (.bool true)) rfl (by kernel_rfl) (by kernel_rfl) (by kernel_rfl) (fun _ _ _ h => h) (Or.inl ⟨by kernel_rfl, fun _ _ => by kernel_rfl⟩) hH111 ?r21
  change wpAnyH _ _ _ _ _ _ _ (Act.put _ (some 76) _) _
  simp only [Act.put, lyA, lyZ, lyS]
  refine wpAnyH_take (i := 21) (v := (.agg #[.bool qb103, .slice qA103 qn103 qc103, .bool qbb103, .slice qAA103 qnn103 qcc103])) rfl (by kernel_rfl) (by kernel_rfl) (by kernel_rfl) (fun _ _ _ h => h) (Or.inl ⟨by kernel_rfl, fun w0 hS0 => load3 (hS0.1) (.tmp 11) (by kernel_rfl) (by kernel_rfl)⟩) hH111 ?r22
  change wpAnyH _ _ _ _ _ _ _ (Act.put _ (some 77) _) _
  simp only [Act.put, lyA, lyZ, lyS]
  refine wpAnyH_take (i := 23) (v := (.agg #[.bool qb104, .slice qA104 qn104 qc104, .bool qbb104, .slice qAA104 qnn104 qcc104])) rfl (by kernel_rfl) (by kernel_rfl) (by kernel_rfl) (fun _ _ _ h => h) (Or.inl ⟨by kernel_rfl, fun w0 hS0 => load4 (hS0.2.1) (.tmp 13) (by kernel_rfl) (by kernel_rfl)⟩) hH111 ?r23
  change wpAnyH _ _ _ _ _ _ _ (Act.put _ (some 79) _) _
  simp only [Act.put, lyA, lyZ, lyS]
  refine wpAnyH_ready (rs := [22]) (by kernel_rfl) (by simp) ?_
  refine AllReadyH.cons rfl (fun K hK0 => ?d24) (AllReadyH.nil)
  have hK := hK0.out
  clear hK0
  rw [if_pos (by kernel_rfl)]
  refine wp_go_call 22 #[(.agg #[.bool qb103, .slice qA103 qn103 qc103, .bool qbb103, .slice qAA103 qnn103 qcc103])] (fun _ => by kernel_rfl) ((HA.out.1 _ _ ((HD111.out.1.all 5 _ rfl).at_)).mono ?_)
  rintro e wq112 ⟨rfl, hb112⟩
  have HD112 := Lib.hid (And.intro (HD111.out.1.step hb112 rfl) (below_then HD111.out.2 hb112))
  clear hb112 HD111
  refine ⟨(.bool o), rfl, hK _ _ (⟨(HD112.out.1.all 5 _ rfl).lies rfl, (HD112.out.1.all 4 _ rfl).lies rfl, (HD112.out.1.all 9 _ rfl).lies rfl, (HD112.out.1.all 8 _ rfl).lies rfl, (HD112.out.1.all 3 _ rfl).lies rfl, (HD112.out.1.all 2 _ rfl).lies rfl⟩) (fun hH112 => ?_)⟩
  clear hK K hH111
  change wpAnyH _ _ _ _ _ _ _ (Act.put _ (some 78) _) _
  simp only [Act.put, lyA, lyZ, lyS]
  refine wpAnyH_ready (rs := [24]) (by kernel_rfl) (by simp) ?_
  refine AllReadyH.cons rfl (fun K hK0 => ?d25) (AllReadyH.nil)
  have hK := hK0.out
  clear hK0
  rw [if_pos (by kernel_rfl)]
  refine wp_go_call 23 #[(.agg #[.bool qb104, .slice qA104 qn104 qc104, .bool qbb104, .slice qAA104 qnn104 qcc104])] (fun _ => by kernel_rfl) ((HA.out.2.1 _ _ ((HD112.out.1.all 4 _ rfl).at_)).mono ?_)
  rintro e wq113 ⟨rfl, hb113⟩
  have HD113 := Lib.hid (And.intro (HD112.out.1.step hb113 rfl) (below_then HD112.out.2 hb113))
  clear hb113 HD112
  refine ⟨(.bool o), rfl, hK _ _ (⟨(HD113.out.1.all 5 _ rfl).lies rfl, (HD113.out.1.all 4 _ rfl).lies rfl, (HD113.out.1.all 9 _ rfl).lies rfl, (HD113.out.1.all 8 _ rfl).lies rfl, (HD113.out.1.all 3 _ rfl).lies rfl, (HD113.out.1.all 2 _ rfl).lies rfl⟩) (fun hH113 => ?_)⟩
  clear hK K hH112
  change wpAnyH _ _ _ _ _ _ _ (Act.put _ (some 80) _) _
  simp only [Act.put, lyA, lyZ, lyS]
  refine wpAnyH_take (i := 25) (v := (.bool true)) rfl (by kernel_rfl) (by kernel_rfl) (by kernel_rfl) (fun _ _ _ h => h) (Or.inl ⟨by kernel_rfl, fun w0 hS0 => by go_simp⟩) hH113 ?r26
  change wpAnyH _ _ _ _ _ _ _ (Act.put _ (some 81) _) _
  simp only [Act.put, lyA, lyZ, lyS]
  refine wpAnyH_take (i := 26) (v := (.bool true)) rfl (by kernel_rfl) (by kernel_rfl) (by kernel_rfl) (fun _ _ _ h => h) (Or.inl ⟨by kernel_rfl, fun _ _ => by kernel_rfl⟩) hH113 ?r27
  change wpAnyH _ _ _ _ _ _ _ (Act.put _ (some 82) _) _
  simp only [Act.put, lyA, lyZ, lyS]
  refine wpAnyH_take (i := 27) (v := (.bool true)) rfl (by kernel_rfl) (by kernel_rfl) (by kernel_rfl) (fun _ _ _ h => h) (Or.inl ⟨by kernel_rfl, fun _ _ => by kernel_rfl⟩) hH113 ?r28
  change wpAnyH _ _ _ _ _ _ _ (Act.put _ (some 83) _) _
  simp only [Act.put, lyA, lyZ, lyS]
  refine wpAnyH_take (i := 28) (v := (.agg #[.bool qb103, .slice qA103 qn103 qc103, .bool qbb103, .slice qAA103 qnn103 qcc103])) rfl (by kernel_rfl) (by kernel_rfl) (by kernel_rfl) (fun _ _ _ h => h) (Or.inl ⟨by kernel_rfl, fun w0 hS0 => load3 (hS0.1) (.tmp 11) (by kernel_rfl) (by kernel_rfl)⟩) hH113 ?r29
  change wpAnyH _ _ _ _ _ _ _ (Act.put _ (some 84) _) _
  simp only [Act.put, lyA, lyZ, lyS]
  refine wpAnyH_take (i := 30) (v := (.agg #[.bool qb104, .slice qA104 qn104 qc104, .bool qbb104, .slice qAA104 qnn104 qcc104])) rfl (by kernel_rfl) (by kernel_rfl) (by kernel_rfl) (fun _ _ _ h => h) (Or.inl ⟨by kernel_rfl, fun w0 hS0 => load4 (hS0.2.1) (.tmp 13) (by kernel_rfl) (by kernel_rfl)⟩) hH113 ?r30
  change wpAnyH _ _ _ _ _ _ _ (Act.put _ (some 86) _) _
  simp only [Act.put, lyA, lyZ, lyS]
  refine wpAnyH_ready (rs := [29]) (by kernel_rfl) (by simp) ?_
  refine AllReadyH.cons rfl (fun K hK0 => ?d31) (AllReadyH.nil)
  have hK := hK0.out
  clear hK0
  rw [if_pos (by kernel_rfl)]
  refine wp_go_call 24 #[(.agg #[.bool qb103, .slice qA103 qn103 qc103, .bool qbb103, .slice qAA103 qnn103 qcc103])] (fun _ => by kernel_rfl) ((HA.out.2.2.1 _ _ ((HD113.out.1.all 5 _ rfl).at_)).mono ?_)
  rintro e wq114 ⟨rfl, hb114⟩
  have HD114 := Lib.hid (And.intro (HD113.out.1.step hb114 rfl) (below_then HD113.out.2 hb114))
  clear hb114 HD113
  refine ⟨(.int .i64 g), rfl, hK _ _ (⟨(HD114.out.1.all 5 _ rfl).lies rfl, (HD114.out.1.all 4 _ rfl).lies rfl, (HD114.out.1.all 9 _ rfl).lies rfl, (HD114.out.1.all 8 _ rfl).lies rfl, (HD114.out.1.all 3 _ rfl).lies rfl, (HD114.out.1.all 2 _ rfl).lies rfl⟩) (fun hH114 => ?_)⟩
  clear hK K hH113
  change wpAnyH _ _ _ _ _ _ _ (Act.put _ (some 85) _) _
  simp only [Act.put, lyA, lyZ, lyS]
  refine wpAnyH_ready (rs := [31]) (by kernel_rfl) (by simp) ?_
  refine AllReadyH.cons rfl (fun K hK0 => ?d32) (AllReadyH.nil)
  have hK := hK0.out
  clear hK0
  rw [if_pos (by kernel_rfl)]
  refine wp_go_call 25 #[(.agg #[.bool qb104, .slice qA104 qn104 qc104, .bool qbb104, .slice qAA104 qnn104 qcc104])] (fun _ => by kernel_rfl) ((HA.out.2.2.2.1 _ _ ((HD114.out.1.all 4 _ rfl).at_)).mono ?_)
  rintro e wq115 ⟨rfl, hb115⟩
  have HD115 := Lib.hid (And.intro (HD114.out.1.step hb115 rfl) (below_then HD114.out.2 hb115))
  clear hb115 HD114
  refine ⟨(.int .i64 g), rfl, hK _ _ (⟨(HD115.out.1.all 5 _ rfl).lies rfl, (HD115.out.1.all 4 _ rfl).lies rfl, (HD115.out.1.all 9 _ rfl).lies rfl, (HD115.out.1.all 8 _ rfl).lies rfl, (HD115.out.1.all 3 _ rfl).lies rfl, (HD115.out.1.all 2 _ rfl).lies rfl⟩) (fun hH115 => ?_)⟩
  clear hK K hH114
  change wpAnyH _ _ _ _ _ _ _ (Act.put _ (some 87) _) _
  simp only [Act.put, lyA, lyZ, lyS]
  refine wpAnyH_take (i := 32) (v := (.bool true)) rfl (by kernel_rfl) (by kernel_rfl) (by kernel_rfl) (fun _ _ _ h => h) (Or.inl ⟨by kernel_rfl, fun w0 hS0 => by go_simp⟩) hH115 ?r33
  change wpAnyH _ _ _ _ _ _ _ (Act.put _ (some 88) _) _
  simp only [Act.put, lyA, lyZ, lyS]
  refine wpAnyH_take (i := 33) (v := (.bool true)) rfl (by kernel_rfl) (by kernel_rfl) (by kernel_rfl) (fun _ _ _ h => h) (Or.inl ⟨by kernel_rfl, fun _ _ => by kernel_rfl⟩) hH115 ?r34
  change wpAnyH _ _ _ _ _ _ _ (Act.put _ (some 89) _) _
  simp only [Act.put, lyA, lyZ, lyS]
  refine wpAnyH_take (i := 34) (v := (.bool true)) rfl (by kernel_rfl) (by kernel_rfl) (by kernel_rfl) (fun _ _ _ h => h) (Or.inl ⟨by kernel_rfl, fun _ _ => by kernel_rfl⟩) hH115 ?r35
  change wpAnyH _ _ _ _ _ _ _ (Act.put _ (some 90) _) _
  simp only [Act.put, lyA, lyZ, lyS]
  refine wpAnyH_take (i := 35) (v := (.agg #[.bool qb103, .slice qA103 qn103 qc103, .bool qbb103, .slice qAA103 qnn103 qcc103])) rfl (by kernel_rfl) (by kernel_rfl) (by kernel_rfl) (fun _ _ _ h => h) (Or.inl ⟨by kernel_rfl, fun w0 hS0 => load3 (hS0.1) (.tmp 11) (by kernel_rfl) (by kernel_rfl)⟩) hH115 ?r36
  change wpAnyH _ _ _ _ _ _ _ (Act.put _ (some 91) _) _
  simp only [Act.put, lyA, lyZ, lyS]
  refine wpAnyH_take (i := 36) (v := (.agg #[.bool qb105, .slice qA105 qn105 qc105, .bool qbb105, .slice qAA105 qnn105 qcc105])) rfl (by kernel_rfl) (by kernel_rfl) (by kernel_rfl) (fun _ _ _ h => h) (Or.inl ⟨by kernel_rfl, fun w0 hS0 => load3 (hS0.2.2.2.2.1) (.tmp 15) (by kernel_rfl) (by kernel_rfl)⟩) hH115 ?r37
  change wpAnyH _ _ _ _ _ _ _ (Act.put _ (some 92) _) _
  simp only [Act.put, lyA, lyZ, lyS]
  refine wpAnyH_take (i := 38) (v := (.agg #[.bool qb104, .slice qA104 qn104 qc104, .bool qbb104, .slice qAA104 qnn104 qcc104])) rfl (by kernel_rfl) (by kernel_rfl) (by kernel_rfl) (fun _ _ _ h => h) (Or.inl ⟨by kernel_rfl, fun w0 hS0 => load4 (hS0.2.1) (.tmp 13) (by kernel_rfl) (by kernel_rfl)⟩) hH115 ?r38
  change wpAnyH _ _ _ _ _ _ _ (Act.put _ (some 94) _) _
  simp only [Act.put, lyA, lyZ, lyS]
  refine wpAnyH_take (i := 39) (v := (.agg #[.bool rb105, .slice rA105 rn105 rc105, .bool rbb105, .slice rAA105 rnn105 rcc105])) rfl (by kernel_rfl) (by kernel_rfl) (by kernel_rfl) (fun _ _ _ h => h) (Or.inl ⟨by kernel_rfl, fun w0 hS0 => load4 (hS0.2.2.2.2.2) (.tmp 16) (by kernel_rfl) (by kernel_rfl)⟩) hH115 ?r39
  change wpAnyH _ _ _ _ _ _ _ (Act.put _ (some 95) _) _
  simp only [Act.put, lyA, lyZ, lyS]
  refine wpAnyH_ready (rs := [37]) (by kernel_rfl) (by simp) ?_
  refine AllReadyH.cons rfl (fun K hK0 => ?d40) (AllReadyH.nil)
  have hK := hK0.out
  clear hK0
  rw [if_pos (by kernel_rfl)]
  refine wp_go_call 26 #[(.agg #[.bool qb103, .slice qA103 qn103 qc103, .bool qbb103, .slice qAA103 qnn103 qcc103]), (.agg #[.bool qb105, .slice qA105 qn105 qc105, .bool qbb105, .slice qAA105 qnn105 qcc105])] (fun _ => by kernel_rfl) ((HA.out.2.2.2.2.1 _ _ _ ((HD115.out.1.all 5 _ rfl).at_) ((HD115.out.1.all 3 _ rfl).at_)).mono ?_)
  rintro e wq116 ⟨rfl, hb116⟩
  have HD116 := Lib.hid (And.intro (HD115.out.1.step hb116 rfl) (below_then HD115.out.2 hb116))
  clear hb116 HD115
  refine ⟨(.int .i64 c), rfl, hK _ _ (⟨(HD116.out.1.all 5 _ rfl).lies rfl, (HD116.out.1.all 4 _ rfl).lies rfl, (HD116.out.1.all 9 _ rfl).lies rfl, (HD116.out.1.all 8 _ rfl).lies rfl, (HD116.out.1.all 3 _ rfl).lies rfl, (HD116.out.1.all 2 _ rfl).lies rfl⟩) (fun hH116 => ?_)⟩
  clear hK K hH115
  change wpAnyH _ _ _ _ _ _ _ (Act.put _ (some 93) _) _
  simp only [Act.put, lyA, lyZ, lyS]
  refine wpAnyH_ready (rs := [40]) (by kernel_rfl) (by simp) ?_
  refine AllReadyH.cons rfl (fun K hK0 => ?d41) (AllReadyH.nil)
  have hK := hK0.out
  clear hK0
  rw [if_pos (by kernel_rfl)]
  refine wp_go_call 27 #[(.agg #[.bool qb104, .slice qA104 qn104 qc104, .bool qbb104, .slice qAA104 qnn104 qcc104]), (.agg #[.bool rb105, .slice rA105 rn105 rc105, .bool rbb105, .slice rAA105 rnn105 rcc105])] (fun _ => by kernel_rfl) ((HA.out.2.2.2.2.2.1 _ _ _ ((HD116.out.1.all 4 _ rfl).at_) ((HD116.out.1.all 2 _ rfl).at_)).mono ?_)
  rintro e wq117 ⟨rfl, hb117⟩
  have HD117 := Lib.hid (And.intro (HD116.out.1.step hb117 rfl) (below_then HD116.out.2 hb117))
  clear hb117 HD116
  refine ⟨(.int .i64 c), rfl, hK _ _ (⟨(HD117.out.1.all 5 _ rfl).lies rfl, (HD117.out.1.all 4 _ rfl).lies rfl, (HD117.out.1.all 9 _ rfl).lies rfl, (HD117.out.1.all 8 _ rfl).lies rfl, (HD117.out.1.all 3 _ rfl).lies rfl, (HD117.out.1.all 2 _ rfl).lies rfl⟩) (fun hH117 => ?_)⟩
  clear hK K hH116
  change wpAnyH _ _ _ _ _ _ _ (Act.put _ (some 96) _) _
  simp only [Act.put, lyA, lyZ, lyS]
  refine wpAnyH_take (i := 41) (v := (.bool true)) rfl (by kernel_rfl) (by kernel_rfl) (by kernel_rfl) (fun _ _ _ h => h) (Or.inl ⟨by kernel_rfl, fun w0 hS0 => by go_simp⟩) hH117 ?r42
  change wpAnyH _ _ _ _ _ _ _ (Act.put _ (some 97) _) _
  simp only [Act.put, lyA, lyZ, lyS]
  refine wpAnyH_take (i := 42) (v := (.bool true)) rfl (by kernel_rfl) (by kernel_rfl) (by kernel_rfl) (fun _ _ _ h => h) (Or.inl ⟨by kernel_rfl, fun _ _ => by kernel_rfl⟩) hH117 ?r43
  change wpAnyH _ _ _ _ _ _ _ (Act.put _ (some 98) _) _
  simp only [Act.put, lyA, lyZ, lyS]
  refine wpAnyH_take (i := 43) (v := (.bool true)) rfl (by kernel_rfl) (by kernel_rfl) (by kernel_rfl) (fun _ _ _ h => h) (Or.inl ⟨by kernel_rfl, fun _ _ => by kernel_rfl⟩) hH117 ?r44
  change wpAnyH _ _ _ _ _ _ _ (Act.put _ (some 99) _) _
  simp only [Act.put, lyA, lyZ, lyS]
  refine wpAnyH_ready (rs := [44]) (by kernel_rfl) (by simp) ?_
  refine AllReadyH.cons rfl (fun K hK0 => ?d45) (AllReadyH.nil)
  have hK := hK0.out
  clear hK0
  rw [if_pos (by kernel_rfl)]
  refine wp_go_call 14 #[] (fun _ => by kernel_rfl) ((tawake_any _).mono ?_)
  rintro e wq118 ⟨rfl, hb118⟩
  have HD118 := Lib.hid (And.intro (HD117.out.1.step hb118 rfl) (below_then HD117.out.2 hb118))
  clear hb118 HD117
  refine ⟨(.bool true), rfl, hK _ _ (⟨(HD118.out.1.all 5 _ rfl).lies rfl, (HD118.out.1.all 4 _ rfl).lies rfl, (HD118.out.1.all 9 _ rfl).lies rfl, (HD118.out.1.all 8 _ rfl).lies rfl, (HD118.out.1.all 3 _ rfl).lies rfl, (HD118.out.1.all 2 _ rfl).lies rfl⟩) (fun hH118 => ?_)⟩
  clear hK K hH117
  change wpAnyH _ _ _ _ _ _ _ (Act.put _ (some 100) _) _
  simp only [Act.put, lyA, lyZ, lyS]
  refine wpAnyH_take (i := 45) (v := (.bool true)) rfl (by kernel_rfl) (by kernel_rfl) (by kernel_rfl) (fun _ _ _ h => h) (Or.inl ⟨by kernel_rfl, fun _ _ => by kernel_rfl⟩) hH118 ?r46
  change wpAnyH _ _ _ _ _ _ _ (Act.put _ (some 101) _) _
  simp only [Act.put, lyA, lyZ, lyS]
  refine wpAnyH_take (i := 46) (v := (.bool true)) rfl (by kernel_rfl) (by kernel_rfl) (by kernel_rfl) (fun _ _ _ h => h) (Or.inl ⟨by kernel_rfl, fun _ _ => by kernel_rfl⟩) hH118 ?r47
  change wpAnyH _ _ _ _ _ _ _ (Act.put _ (some 6) _) _
  simp only [Act.put, lyA, lyZ, lyS]
  refine wpAnyH_done (by kernel_rfl) ?_ _
  go_wp2
  go_ret
  exact ⟨rfl, HD118.out.2⟩
end Go.Proofs.YtpgbnegppehckaaGreat.FK
namespace Go.Proofs.YtpgbnegppehckaaGreat
open Go.ChangeShapes Go.WideShapes Go.ChangeAt Go.RowKit
theorem own : ownKnob Tryz.prog.godebug = none := by kernel_rfl
theorem laidOut : laidOutB Tryz.prog = true := by kernel_rfl
theorem wf_u32 {n : Int} (h : (Lit.int .u32 n).wf = true) : 0 ≤ n ∧ n < 4294967296 := by
  simp only [Lit.wf, Bool.and_eq_true, decide_eq_true_eq] at h
  rw [show IntKind.u32.min = 0 from rfl, show IntKind.u32.max = 4294967295 from rfl] at h
  omega
theorem open_limbs {H : Type} {enc : TypeId × Value → H} {W : World} {fuel : Nat} {v : Value} {y : DataW H × List MemPlace} (h : DataW.trod enc Tryz.prog W 0 (fun _ => true) true fuel 22 [v] = some y)
    (hlt : ∀ x ∈ y.2, x.block < W.heap.size) :
    ∃ A c xs, v = .slice A xs.length c ∧ Nums W .u32 A xs ∧ Lm.Ok B32 xs ∧ xs.length ≤ c ∧ c ≤ maxLen := by
  rcases open_ints Tryz.underlying22 Tryz.underlying132 (by kernel_rfl) h with ⟨hcs, _⟩ | ⟨x, l, c, zs, hcs, _, hl, hm, hz, hx, hcell, hwz⟩
  · simp only [List.cons.injEq, and_true] at hcs
    exact ⟨none, 0, [], hcs, Nums.nil _ _ _, Lm.Ok.nil _, Nat.le_refl _, by simp⟩
  · simp only [List.cons.injEq, and_true] at hcs
    simp only [if_true] at hz
    have hpos : ∀ i, i < zs.length → 0 ≤ zs.getD i 0 ∧ zs.getD i 0 < 4294967296 := fun i hi => by
      exact wf_u32 (hwz (zs.getD i 0) (by rw [List.getD_eq_getElem?_getD, List.getElem?_eq_getElem hi]; exact List.getElem_mem hi))
    have hlen : ((zs.take l).map Int.toNat).length = l := by
      rw [List.length_map, List.length_take]
      omega
    have hget : ∀ j, j < l → (((zs.take l).map Int.toNat).getD j 0 : Int) = zs.getD j 0 := fun j hj => by
      have h1 := hpos j (by omega)
      have hj' : j < zs.length := by omega
      rw [List.getD_eq_getElem?_getD, List.getElem?_map, List.getElem?_take, if_pos hj, List.getElem?_eq_getElem hj']
      rw [List.getD_eq_getElem?_getD, List.getElem?_eq_getElem hj'] at *
      simp at h1 ⊢
      omega
    refine ⟨some x, c, (zs.take l).map Int.toNat, by rw [hlen]; exact hcs, fun hn => ?_, ?_, by omega, hm⟩
    · rw [hlen] at hn
      refine ⟨x, rfl, ?_, fun j hj => ?_⟩
      · rw [hx] at hlt
        exact hlt (MemPlace.cell x.block (x.off + 0)) (by
          unfold MemPlace.row
          exact List.mem_map.mpr ⟨0, List.mem_range.mpr (by omega), rfl⟩)
      · rw [hlen] at hj
        rw [hget j hj]
        exact hcell j (by omega)
    · intro d hd
      rw [List.mem_map] at hd
      obtain ⟨z, hz1, rfl⟩ := hd
      have := wf_u32 (hwz z (List.mem_of_mem_take hz1))
      unfold B32
      omega
def IsN (W : World) (v : Value) : Prop := ∃ s A c xs, v = .agg #[.bool s, .slice A (List.length xs) c] ∧ Nums W .u32 A xs ∧ Lm.Ok B32 xs ∧ xs.length ≤ c ∧ c ≤ maxLen
theorem open_N {H : Type} {enc : TypeId × Value → H} {W : World} {r : Reach} {b0 : Nat} {v : Value} {d : DataW H} {p : List MemPlace} (hok : Value.okWide Tryz.prog W r b0 24 v)
    (h : DataW.Trod enc Tryz.prog W 0 (fun _ => true) true 24 v d p) (hlt : ∀ x ∈ p, x.block < W.heap.size) : IsN W v := by
  obtain ⟨v0, v1, y0, y1, n, rfl, _, rfl, h0, h1⟩ := Go.Joins.open_agg2 Tryz.underlying24 (by kernel_rfl) (by kernel_rfl) hok h
  obtain ⟨A, c, xs, rfl, hn, ho, hl, hm⟩ := open_limbs h1 (fun x hx => hlt x (List.mem_append_right _ hx))
  obtain ⟨s, rfl⟩ : ∃ s, v0 = .bool s := by
    obtain ⟨s, hs, _⟩ := DataW.trod_bool Tryz.underlying4 h0
    simp only [List.cons.injEq, and_true] at hs
    exact ⟨s, hs⟩
  exact ⟨s, A, c, xs, rfl, hn, ho, hl, hm⟩
end Go.Proofs.YtpgbnegppehckaaGreat
namespace Go.Proofs.YtpgbnegppehckaaGreat
open Go.ChangeShapes Go.WideShapes Go.ChangeAt Go.RowKit
theorem cellsB : Tryz.prog.cellsOf 4 = 1 := by kernel_rfl
theorem cellsU : Tryz.prog.cellsOf 22 = 1 := by kernel_rfl
theorem cellsN : Tryz.prog.cellsOf 24 = 2 := by kernel_rfl
theorem cellsQ : Tryz.prog.cellsOf 26 = 4 := by kernel_rfl
theorem open_N2 {H : Type} {enc : TypeId × Value → H} {W : World} {fuel : Nat} {c0 c1 : Value} {y : DataW H × List MemPlace} (h : DataW.trod enc Tryz.prog W 0 (fun _ => true) true fuel 24 [c0, c1] = some y) (hlt : ∀ x ∈ y.2, x.block < W.heap.size) : IsN W (.agg #[c0, c1]) := by
  obtain ⟨y0, y1, n, rfl, _, h0, h1⟩ := trod_struct2 Tryz.underlying24 h
  have k0 : DataW.trod enc Tryz.prog W 0 (fun _ => true) true n 4 [c0] = some y0 := by simpa [cellsB] using h0
  have k1 : DataW.trod enc Tryz.prog W 0 (fun _ => true) true n 22 [c1] = some y1 := by simpa [cellsU] using h1
  obtain ⟨A, c, xs, rfl, hn, ho, hl, hm⟩ := open_limbs k1 (fun x hx => hlt x (List.mem_append_right _ hx))
  obtain ⟨s, rfl⟩ : ∃ s, c0 = .bool s := by
    obtain ⟨s, hs, _⟩ := DataW.trod_bool Tryz.underlying4 k0
    simp only [List.cons.injEq, and_true] at hs
    exact ⟨s, hs⟩
  exact ⟨s, A, c, xs, rfl, hn, ho, hl, hm⟩
def IsQ (W : World) (v : Value) : Prop := ∃ s A n c s2 A2 n2 c2, v = .agg #[.bool s, .slice A n c, .bool s2, .slice A2 n2 c2] ∧ IsN W (.agg #[.bool s, .slice A n c]) ∧ IsN W (.agg #[.bool s2, .slice A2 n2 c2])
theorem isN_form {W : World} {c0 c1 : Value} (h : IsN W (.agg #[c0, c1])) : ∃ s A n c, c0 = .bool s ∧ c1 = .slice A n c := by
  obtain ⟨s, A, c, xs, e, _⟩ := h
  simp only [Value.agg.injEq, Array.mk.injEq, List.cons.injEq, and_true] at e
  exact ⟨s, A, _, c, e.1, e.2⟩
theorem open_Q {H : Type} {enc : TypeId × Value → H} {W : World} {r : Reach} {b0 : Nat} {v : Value} {d : DataW H} {p : List MemPlace} (hok : Value.okWide Tryz.prog W r b0 26 v)
    (h : DataW.Trod enc Tryz.prog W 0 (fun _ => true) true 26 v d p) (hlt : ∀ x ∈ p, x.block < W.heap.size) : IsQ W v := by
  obtain ⟨cs, rfl, hsz⟩ := okWide_struct Tryz.underlying26 hok
  obtain ⟨c0, c1, c2, c3, rfl⟩ := Go.Joins.array4 (hsz.trans cellsQ)
  obtain ⟨fuel, hf⟩ := h
  obtain ⟨y0, y1, n, hx, _, h0, h1⟩ := trod_struct2 Tryz.underlying26 hf
  have k0 : DataW.trod enc Tryz.prog W 0 (fun _ => true) true n 24 [c0, c1] = some y0 := by simpa [Value.cells, cellsN] using h0
  have k1 : DataW.trod enc Tryz.prog W 0 (fun _ => true) true n 24 [c2, c3] = some y1 := by simpa [Value.cells, cellsN] using h1
  simp only [Prod.mk.injEq] at hx
  have i0 := open_N2 k0 (fun x hx' => hlt x (by rw [hx.2]; exact List.mem_append_left _ hx'))
  have i1 := open_N2 k1 (fun x hx' => hlt x (by rw [hx.2]; exact List.mem_append_right _ hx'))
  obtain ⟨s, A, n1, c, rfl, rfl⟩ := isN_form i0
  obtain ⟨s2, A2, n2, c2', rfl, rfl⟩ := isN_form i1
  exact ⟨s, A, n1, c, s2, A2, n2, c2', rfl, i0, i1⟩
theorem isN_nat {W : World} {b : Bool} {A : Option Addr} {n c m : Nat} (h : IsN W (.agg #[.bool b, .slice A n c])) (hl : n ≤ m) (hm : m ≤ 400000) : ∃ z : Int, RK.NAt W (.agg #[.bool b, .slice A n c]) z ∧ z.natAbs < B32 ^ m := by
  obtain ⟨s, A', c', xs, e, hn, ho, hc, _⟩ := h
  simp only [Value.agg.injEq, Array.mk.injEq, List.cons.injEq, Value.bool.injEq, Value.slice.injEq, and_true] at e
  obtain ⟨rfl, rfl, rfl, rfl⟩ := e
  refine ⟨ofSign b (Lm.val B32 xs), ⟨b, A, c, xs, rfl, hn, ho, hc, by omega, rfl⟩, ?_⟩
  have h := Nat.lt_of_lt_of_le (Lm.val_lt ho) (Nat.pow_le_pow_right B32_pos hl)
  unfold ofSign
  cases b <;> simp <;> exact h
end Go.Proofs.YtpgbnegppehckaaGreat
