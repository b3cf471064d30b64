/- What Parse of the reference does. -/
import Derived.Test.YtllkajlmfbikhaaRText
import Derived.Test.YtllkajlmfbikhaaParseQ
import Derived.Test.YtllkajlmfbikhaaRPower
namespace Go.Proofs.Ytllkajlmfbikhaa
open Go.RowKit
set_option linter.unusedSimpArgs false

/-- The text so far: p bytes are digits, and the digits ys say their number. -/
structure RRead (r : Nat) (l : List Nat) (p : Nat) (ys : List Nat) : Prop where
  le : p ≤ l.length
  dig : Tx.AllDig r (l.take p)
  ok : Lm.Ok BD ys
  num : Lm.val BD ys = Tx.numOf r (l.take p)
  len : ys.length ≤ p
theorem RRead.start (r : Nat) (l : List Nat) : RRead r l 0 [] := ⟨Nat.zero_le _, fun c hc => by simp at hc, Lm.Ok.nil _, rfl, Nat.zero_le _⟩
theorem RRead.step {r p d : Nat} {l ys zs : List Nat} (h : RRead r l p ys) (hp : p < l.length) (hd : Tx.dig (l.getD p 0) = d) (hr : d < r) (ho : Lm.Ok BD zs) (hv : Lm.val BD zs = Lm.val BD ys * r + d) (hz : zs.length ≤ ys.length + 1) : RRead r l (p + 1) zs := by
  have hst := Part.step (u := Tx.numOf r (l.take p)) ⟨h.dig, rfl⟩ hp hd hr
  exact ⟨by omega, hst.1, ho, by rw [hst.2, hv, h.num], by have := h.len; omega⟩
theorem own_le {w : World} {B n c m : Nat} {e : TypeId} {A : Option Addr} {xs : List Value} (h : w.ownsRow B e 1 (.slice A n c) m xs) : m ≤ c := by
  obtain ⟨A2, c2, e2, hle⟩ := own_form h
  simp only [Value.slice.injEq] at e2
  omega
theorem carryD {q x r t : Nat} (hq : q < r) (hx : x < BD) (ht : t = q + x * r) : t / BD < r := by
  refine Nat.div_lt_of_lt_mul ?_
  have h : x * r ≤ (BD - 1) * r := Nat.mul_le_mul_right r (by omega)
  have h2 : BD * r = (BD - 1) * r + r := by
    have : BD = (BD - 1) + 1 := by unfold BD; rfl
    rw [this, Nat.add_mul]; simp
  omega

set_option maxRecDepth 100000 in
set_option maxHeartbeats 8000000 in
theorem rparse_low (s : ByteArray) (r : Int) (w : World) (hr : r < 2) :
    Calls Try.prog 63 #[.string s, .int .i64 r] w fun e w' => IsRE w w' 0 1 e := by
  have hb0 : Below w.heap.size w (w.alloc (.cells #[.bool false, .slice none 0 0] 31)) := (Below.refl _ _).alloc (Nat.le_refl _) _
  have hR := Res.new w 31
  have hsz0 : (w.alloc (.cells #[.bool false, .slice none 0 0] 31)).heap.size = w.heap.size + 1 := by simp
  obtain ⟨W0, hW0⟩ : ∃ W : World, W = w.alloc (.cells #[.bool false, .slice none 0 0] 31) := ⟨_, rfl⟩
  rw [← hW0] at hb0 hR hsz0
  have HW0 := Lib.hid hW0
  have HS0 := Lib.hid hsz0
  have H := Lib.hid (And.intro hR hb0)
  obtain ⟨⟨hr0, hr1⟩, hf0, hf1⟩ := id hR
  clear hb0 hR hsz0 hW0
  go_enter Try.func63, Try.ntmps63
  go_upto_region 1 with fail
  rw [← HW0.out]
  go_wp2
  have q := H.out.1.1.stored (.bool false) (.slice none 0 0)
  obtain ⟨q0, q1⟩ := id q
  refine bodyPost_ret (v := .tuple #[.agg #[.bool false, .slice none 0 0], .int .i64 1]) (by simp [results, Try.results63, go_sem, q0, q1]) rfl ?_
  exact refE_stored (z := 0) (zs := []) H.out.1 (by simp [SignOf]) ⟨Nat.le_refl _, Nums.nil _ _ _, Lm.Ok.nil _, Lm.Top.nil, rfl⟩ H.out.2 (by omega)

set_option maxRecDepth 100000 in
set_option maxHeartbeats 8000000 in
theorem rparse_high (s : ByteArray) (r : Int) (w : World) (hr : 36 < r) :
    Calls Try.prog 63 #[.string s, .int .i64 r] w fun e w' => IsRE w w' 0 1 e := by
  have hb0 : Below w.heap.size w (w.alloc (.cells #[.bool false, .slice none 0 0] 31)) := (Below.refl _ _).alloc (Nat.le_refl _) _
  have hR := Res.new w 31
  have hsz0 : (w.alloc (.cells #[.bool false, .slice none 0 0] 31)).heap.size = w.heap.size + 1 := by simp
  obtain ⟨W0, hW0⟩ : ∃ W : World, W = w.alloc (.cells #[.bool false, .slice none 0 0] 31) := ⟨_, rfl⟩
  rw [← hW0] at hb0 hR hsz0
  have HW0 := Lib.hid hW0
  have HS0 := Lib.hid hsz0
  have H := Lib.hid (And.intro hR hb0)
  obtain ⟨⟨hr0, hr1⟩, hf0, hf1⟩ := id hR
  have hr3 : ¬ r < 2 := by omega
  clear hb0 hR hsz0 hW0
  go_enter Try.func63, Try.ntmps63
  go_upto_region 1 with fail
  rw [← HW0.out]
  go_wp2
  have q := H.out.1.1.stored (.bool false) (.slice none 0 0)
  obtain ⟨q0, q1⟩ := id q
  refine bodyPost_ret (v := .tuple #[.agg #[.bool false, .slice none 0 0], .int .i64 1]) (by simp [results, Try.results63, go_sem, q0, q1]) rfl ?_
  exact refE_stored (z := 0) (zs := []) H.out.1 (by simp [SignOf]) ⟨Nat.le_refl _, Nums.nil _ _ _, Lm.Ok.nil _, Lm.Top.nil, rfl⟩ H.out.2 (by omega)

set_option maxRecDepth 100000 in
set_option maxHeartbeats 8000000 in
theorem rparse_empty (s : ByteArray) (r : Nat) (w : World) (h2 : 2 ≤ r) (h36 : r ≤ 36) (h0 : s.size = 0) :
    Calls Try.prog 63 #[.string s, .int .i64 r] w fun e w' => IsRE w w' 0 2 e := by
  have hb0 : Below w.heap.size w (w.alloc (.cells #[.bool false, .slice none 0 0] 31)) := (Below.refl _ _).alloc (Nat.le_refl _) _
  have hR := Res.new w 31
  have hsz0 : (w.alloc (.cells #[.bool false, .slice none 0 0] 31)).heap.size = w.heap.size + 1 := by simp
  obtain ⟨W0, hW0⟩ : ∃ W : World, W = w.alloc (.cells #[.bool false, .slice none 0 0] 31) := ⟨_, rfl⟩
  rw [← hW0] at hb0 hR hsz0
  have HW0 := Lib.hid hW0
  have HS0 := Lib.hid hsz0
  have H := Lib.hid (And.intro hR hb0)
  obtain ⟨⟨hr0, hr1⟩, hf0, hf1⟩ := id hR
  have k2 : (2 : Int) ≤ r := by omega
  have k36 : (r : Int) ≤ 36 := by omega
  clear h2 h36
  clear hb0 hR hsz0 hW0
  go_enter Try.func63, Try.ntmps63
  go_upto_region 1 with fail
  rw [← HW0.out]
  go_wp2
  have q := H.out.1.1.stored (.bool false) (.slice none 0 0)
  obtain ⟨q0, q1⟩ := id q
  refine bodyPost_ret (v := .tuple #[.agg #[.bool false, .slice none 0 0], .int .i64 2]) (by simp [results, Try.results63, go_sem, q0, q1]) rfl ?_
  exact refE_stored (z := 0) (zs := []) H.out.1 (by simp [SignOf]) ⟨Nat.le_refl _, Nums.nil _ _ _, Lm.Ok.nil _, Lm.Top.nil, rfl⟩ H.out.2 (by omega)

set_option maxRecDepth 100000 in
set_option maxHeartbeats 8000000 in
theorem rparse_plain (s : ByteArray) (r : Nat) (w : World) (h2 : 2 ≤ r) (h36 : r ≤ 36) (hs : s.size ≤ 20000) (h0 : 0 < s.size) (hm : s[0].toNat ≠ 45) (hp : s[0].toNat ≠ 43) :
    Calls Try.prog 63 #[.string s, .int .i64 r] w fun e w' => (Tx.AllDig r (Tx.bts s) ∧ IsRE w w' (ofSign false (Tx.numOf r (Tx.bts s))) 0 e) ∨ (¬ Tx.AllDig r (Tx.bts s) ∧ IsRE w w' 0 2 e) := by
  have hb0 : Below w.heap.size w (w.alloc (.cells #[.bool false, .slice none 0 0] 31)) := (Below.refl _ _).alloc (Nat.le_refl _) _
  have hR := Res.new w 31
  have hsz0 : (w.alloc (.cells #[.bool false, .slice none 0 0] 31)).heap.size = w.heap.size + 1 := by simp
  obtain ⟨W0, hW0⟩ : ∃ W : World, W = w.alloc (.cells #[.bool false, .slice none 0 0] 31) := ⟨_, rfl⟩
  rw [← hW0] at hb0 hR hsz0
  have HW0 := Lib.hid hW0
  have HS0 := Lib.hid hsz0
  have H := Lib.hid (And.intro hR hb0)
  obtain ⟨⟨hr0, hr1⟩, hf0, hf1⟩ := id hR
  have k2 : (2 : Int) ≤ r := by omega
  have k36 : (r : Int) ≤ 36 := by omega
  obtain ⟨i0, hi0, hz0, hz1, hz2⟩ := info_parts Try.info3
  have HI := Lib.hid (And.intro hi0 (And.intro hz0 (And.intro hz1 hz2)))
  clear hi0 hz0 hz1 hz2
  obtain ⟨l, hl⟩ : ∃ l, Tx.bts s = l := ⟨_, rfl⟩
  have hll : l.length = s.size := by rw [← hl, Tx.bts_length]
  have HL := Lib.hid (And.intro hl hll)
  rw [hl]
  have hm' : ((s[0].toNat : Int) == 45) = false := by simp; omega
  have hp' : ((s[0].toNat : Int) == 43) = false := by simp; omega
  have hz9 : ((s.size : Int) == 0) = false := by rw [beq_eq_false_iff_ne]; omega
  clear h2 h36 hm hp hl hll
  clear hb0 hR hsz0 hW0
  go_enter Try.func63, Try.ntmps63
  go_upto_region 1 with fail
  rw [← HW0.out]
  go_wp2
  go_loopw [7, 8] (fun dv iv wr => ∃ (i : Nat) (A : Option Addr) (c : Nat) (ys : List Nat), iv = .int .i64 i ∧ dv = .slice A ys.length c ∧ i ≤ s.size ∧ ys.length ≤ 20000 ∧ Hid (RRead r l i ys ∧ wr.ownsRow W0.heap.size 3 1 (.slice A ys.length c) ys.length (cellsOf .i64 ys) ∧ Below W0.heap.size W0 wr)) (fun _ iv _ => s.size - (intOf iv).toNat)
  case atStart => exact ⟨0, none, 0, [], rfl, rfl, Nat.zero_le _, by simp, Lib.hid ⟨RRead.start r l, World.ownsRow_nil _ _ _ _, Below.refl _ _⟩⟩
  case round =>
    obtain ⟨i, A, c, ys, rfl, rfl, hi, hyl, HA⟩ := hrel
    have r1 := H.out.1.step HA.out.2.2 rfl (by have := HS0.out; omega)
    obtain ⟨⟨kr0, kr1⟩, kf0, kf1⟩ := id r1
    have hb1 := below_then H.out.2 HA.out.2.2
    have HR := Lib.hid (And.intro r1 hb1)
    clear r1 hb1
    by_cases hit : i < s.size
    · obtain ⟨d, hd⟩ : ∃ d, Tx.dig (s[i].toNat) = d := ⟨_, rfl⟩
      have hdv := RDigit_any (s[i].toNat) wr (UInt8.toNat_lt _)
      rw [hd] at hdv
      rw [Tx.bts_at s i hit, HL.out.1] at hd
      have hdl : d ≤ 36 := by rw [← hd]; exact Tx.dig_le _
      have HD := Lib.hid (And.intro hdv hd)
      clear hdv hd
      by_cases hdr : d < r
      · go_wp2_with fail
        refine HD.out.1.mono ?_
        rintro e w' ⟨rfl, rfl⟩
        go_wp2
        go_loopw [9, 10] (fun cv kv wx => ∃ (k q : Nat) (zs : List Nat), kv = .int .i64 k ∧ cv = .int .i64 q ∧ k ≤ ys.length ∧ q < r ∧ Hid (Tx.MA BD ys zs r d k q ∧ wx.ownsRow W0.heap.size 3 1 (.slice A ys.length c) ys.length (cellsOf .i64 zs) ∧ Below W0.heap.size W0 wx)) (fun _ kv _ => ys.length - (intOf kv).toNat)
        case atStart => exact ⟨0, d, ys, rfl, rfl, Nat.zero_le _, hdr, Lib.hid ⟨Tx.MA.start HA.out.1.ok, HA.out.2.1, HA.out.2.2⟩⟩
        case round =>
          clear kr0 kr1 kf0 kf1
          obtain ⟨k, q, zs, rfl, rfl, hk, hq, HM⟩ := hrel
          have hzl := HM.out.1.len
          have HZL := Lib.hid hzl
          clear hzl
          by_cases hky : k < ys.length
          · obtain ⟨g, cur, rfl, hg, hseg⟩ := seg_of_own HM.out.2.1 (by omega)
            have hc := hseg.cell (j := k) (by have := HZL.out; omega)
            have hfz := hseg.frozen k
            obtain ⟨x, hx⟩ : ∃ x, zs.getD k 0 = x := ⟨_, rfl⟩
            have hxl := dig_lt HM.out.1.ok k
            rw [hx] at hc hxl
            rw [Nat.zero_add] at hc
            have hxi : x ≤ 65535 := by unfold BD at hxl; omega
            obtain ⟨p, hp⟩ : ∃ p, x * r = p := ⟨_, rfl⟩
            have hp' : (x : Int) * (r : Int) = (p : Int) := by rw [← hp, Int.natCast_mul]
            have hpl : p ≤ 65535 * 36 := by rw [← hp]; exact Nat.mul_le_mul hxi (by omega)
            have hpl2 : p ≤ 2359260 := by omega
            have HDD := Lib.hid (And.intro hx (And.intro hp (And.intro hxl (And.intro hg hseg.lt))))
            clear hx hp hseg hxl hg hpl
            go_wp2
            go_roundw
            case rel =>
              have hct := carryD (q := q) (x := x) (r := r) (t := q + p) hq HDD.out.2.2.1 (by rw [HDD.out.2.1])
              have hst := HM.out.1.step BD_pos hky HDD.out.1 (t := q + p) (by rw [HDD.out.2.1])
              have ho := own_set HM.out.2.1 hky ((q + p) % BD)
              have e1 : ((p : Int) + (q : Int)) % 65536 = (((q + p) % BD : Nat) : Int) := by unfold BD; omega
              refine ⟨k + 1, (q + p) / BD, _, by go_num, congrArg (Value.int .i64) (by unfold BD; omega), by omega, hct, Lib.hid ⟨hst, ?_, ?_⟩⟩
              · rw [e1]; exact ho
              · exact HM.out.2.2.trans (grown_below (grown_store _ _ _ _) HDD.out.2.2.2.1 HM.out.2.2.size)
            case measure => simp [intOf]; omega
          · obtain rfl : k = ys.length := by omega
            have hsz := HM.out.2.2.size
            by_cases hq0 : 0 < q
            · have hot := HM.out.2.1
              go_wp2_with (at_builtin; refine wpList_append_own _ rfl _ _ 29 rfl W0.heap.size 3 i0 (.int .i64 0) 1 8 Try.underlying29 HI.out.1 HI.out.2.1 HI.out.2.2.1 HI.out.2.2.2 rfl (by decide) _ ys.length (cellsOf .i64 zs) rfl (hot.alloc _) ⟨wr.heap.size, 0, none⟩ 1 1 [.int .i64 (q : Int)] rfl rfl (cell_one_new _ _ _) (by simp [Value.oneCell']) (by unfold maxLen; omega) (by omega) (by simp; omega) ?_; intro v1 w2 hown1 hg1 _; rw [show cellsOf .i64 zs ++ [Value.int .i64 (q : Int)] = cellsOf .i64 (zs ++ [q]) from by simp [cellsOf]] at hown1; obtain ⟨A2, c2, rfl, _⟩ := own_form hown1; have hlt1 := hot.lt; have hb2 : Below W0.heap.size wr w2 := ((Below.refl _ _).alloc hsz _).grown hg1 (by simp; omega) (fun k hk => (hlt1 k hk).1); have HB2 := Lib.hid (And.intro hb2 hown1); clear hb2 hown1 hg1 hlt1 hot)
              go_roundw
              case rel =>
                have hl2 : (zs ++ [q]).length = ys.length + 1 := by rw [List.length_append, List.length_singleton, HZL.out]
                refine ⟨i + 1, A2, c2, zs ++ [q], by go_num, by rw [hl2], by omega, by rw [hl2]; have := HA.out.1.len; have := HL.out.2; omega, Lib.hid ⟨HA.out.1.step (by have := HL.out.2; omega) HD.out.2 hdr (HM.out.1.ok.append (Lm.Ok.cons (by unfold BD; omega) (Lm.Ok.nil _))) HM.out.1.val1 (by omega), by rw [hl2]; exact HB2.out.2, HM.out.2.2.trans HB2.out.1⟩⟩
              case measure => simp [intOf]; omega
            · obtain rfl : q = 0 := by omega
              go_wp2
              go_roundw
              case rel =>
                refine ⟨i + 1, A, c, zs, by go_num, by rw [HZL.out], by omega, by rw [HZL.out]; exact hyl, Lib.hid ⟨HA.out.1.step (by have := HL.out.2; omega) HD.out.2 hdr HM.out.1.ok HM.out.1.val0 (by have := HZL.out; omega), by rw [HZL.out]; exact HM.out.2.1, HM.out.2.2⟩⟩
              case measure => simp [intOf]; omega
      · have hnd : ¬ Tx.AllDig r l := not_dig (i := i) (by have := HL.out.2; omega) (by rw [HD.out.2]; omega)
        have HND := Lib.hid hnd
        clear hnd
        go_wp2_with fail
        refine HD.out.1.mono ?_
        rintro e w' ⟨rfl, rfl⟩
        go_wp2
        have q := HR.out.1.1.stored (.bool false) (.slice none 0 0)
        obtain ⟨q0, q1⟩ := id q
        refine bodyPost_ret (v := .tuple #[.agg #[.bool false, .slice none 0 0], .int .i64 2]) (by simp [results, Try.results63, go_sem, q0, q1]) rfl ?_
        exact .inr ⟨HND.out, refE_stored (z := 0) (zs := []) HR.out.1 (by simp [SignOf]) ⟨Nat.le_refl _, Nums.nil _ _ _, Lm.Ok.nil _, Lm.Top.nil, rfl⟩ HR.out.2 (by omega)⟩
    · have htk : l.take i = l := List.take_of_length_le (by have := HL.out.2; omega)
      have hle := own_le HA.out.2.1
      have hrd := HA.out.1
      have hdg := hrd.dig
      have hnm := hrd.num
      rw [htk] at hdg hnm
      have hmd := made_any false A c ys wr (Nums.of_own HA.out.2.1 rfl) hrd.ok (by omega) (by omega)
      rw [hnm] at hmd
      have HG := Lib.hid (And.intro hmd (And.intro hdg HR.out.1))
      have hz1 := HA.out.2.2.size
      clear hmd hdg hrd hnm htk hle kr0 kr1 kf0 kf1
      go_wp2_with fail
      refine HG.out.1.mono ?_
      rintro e w2 ⟨v2, rfl, ⟨b2, A3, c3, zs2, rfl, hs2, hl2⟩, hb2⟩
      have r2 := HG.out.2.2.step hb2 rfl (by have := HS0.out; omega)
      obtain ⟨⟨kr0, kr1⟩, kf0, kf1⟩ := id r2
      have b4 := below_then HR.out.2 hb2
      go_wp2
      have q := r2.1.stored (.bool b2) (.slice A3 zs2.length c3)
      obtain ⟨q0, q1⟩ := id q
      refine bodyPost_ret (v := .tuple #[.agg #[.bool b2, .slice A3 zs2.length c3], .int .i64 0]) (by simp [results, Try.results63, go_sem, q0, q1]) rfl ?_
      exact .inl ⟨HG.out.2.1, refE_stored r2 hs2 hl2 b4 (by omega)⟩

set_option maxRecDepth 100000 in
set_option maxHeartbeats 8000000 in
theorem rparse_minus (s t : ByteArray) (r : Nat) (w : World) (h2 : 2 ≤ r) (h36 : r ≤ 36) (hs : s.size ≤ 20000) (h0 : 0 < s.size) (hm : s[0].toNat = 45) (ht : s.extract 1 s.size = t) (h1 : 0 < t.size) :
    Calls Try.prog 63 #[.string s, .int .i64 r] w fun e w' => (Tx.AllDig r (Tx.bts t) ∧ IsRE w w' (ofSign true (Tx.numOf r (Tx.bts t))) 0 e) ∨ (¬ Tx.AllDig r (Tx.bts t) ∧ IsRE w w' 0 2 e) := by
  have hb0 : Below w.heap.size w (w.alloc (.cells #[.bool false, .slice none 0 0] 31)) := (Below.refl _ _).alloc (Nat.le_refl _) _
  have hR := Res.new w 31
  have hsz0 : (w.alloc (.cells #[.bool false, .slice none 0 0] 31)).heap.size = w.heap.size + 1 := by simp
  obtain ⟨W0, hW0⟩ : ∃ W : World, W = w.alloc (.cells #[.bool false, .slice none 0 0] 31) := ⟨_, rfl⟩
  rw [← hW0] at hb0 hR hsz0
  have HW0 := Lib.hid hW0
  have HS0 := Lib.hid hsz0
  have H := Lib.hid (And.intro hR hb0)
  obtain ⟨⟨hr0, hr1⟩, hf0, hf1⟩ := id hR
  have k2 : (2 : Int) ≤ r := by omega
  have k36 : (r : Int) ≤ 36 := by omega
  obtain ⟨i0, hi0, hz0, hz1, hz2⟩ := info_parts Try.info3
  have HI := Lib.hid (And.intro hi0 (And.intro hz0 (And.intro hz1 hz2)))
  clear hi0 hz0 hz1 hz2
  obtain ⟨l, hl⟩ : ∃ l, Tx.bts t = l := ⟨_, rfl⟩
  have hll : l.length = t.size := by rw [← hl, Tx.bts_length]
  have HL := Lib.hid (And.intro hl hll)
  rw [hl]
  have htl : t.size ≤ 20000 := by rw [← ht, ByteArray.size_extract]; omega
  have hm' : (s[0].toNat : Int) = 45 := by omega
  have hz9 : ((t.size : Int) == 0) = false := by rw [beq_eq_false_iff_ne]; omega
  clear h2 h36 hm hl hll
  clear hb0 hR hsz0 hW0
  go_enter Try.func63, Try.ntmps63
  go_upto_region 1 with fail
  rw [← HW0.out]
  go_wp2
  go_loopw [7, 8] (fun dv iv wr => ∃ (i : Nat) (A : Option Addr) (c : Nat) (ys : List Nat), iv = .int .i64 i ∧ dv = .slice A ys.length c ∧ i ≤ t.size ∧ ys.length ≤ 20000 ∧ Hid (RRead r l i ys ∧ wr.ownsRow W0.heap.size 3 1 (.slice A ys.length c) ys.length (cellsOf .i64 ys) ∧ Below W0.heap.size W0 wr)) (fun _ iv _ => t.size - (intOf iv).toNat)
  case atStart => exact ⟨0, none, 0, [], rfl, rfl, Nat.zero_le _, by simp, Lib.hid ⟨RRead.start r l, World.ownsRow_nil _ _ _ _, Below.refl _ _⟩⟩
  case round =>
    obtain ⟨i, A, c, ys, rfl, rfl, hi, hyl, HA⟩ := hrel
    have r1 := H.out.1.step HA.out.2.2 rfl (by have := HS0.out; omega)
    obtain ⟨⟨kr0, kr1⟩, kf0, kf1⟩ := id r1
    have hb1 := below_then H.out.2 HA.out.2.2
    have HR := Lib.hid (And.intro r1 hb1)
    clear r1 hb1
    by_cases hit : i < t.size
    · obtain ⟨d, hd⟩ : ∃ d, Tx.dig (t[i].toNat) = d := ⟨_, rfl⟩
      have hdv := RDigit_any (t[i].toNat) wr (UInt8.toNat_lt _)
      rw [hd] at hdv
      rw [Tx.bts_at t i hit, HL.out.1] at hd
      have hdl : d ≤ 36 := by rw [← hd]; exact Tx.dig_le _
      have HD := Lib.hid (And.intro hdv hd)
      clear hdv hd
      by_cases hdr : d < r
      · go_wp2_with fail
        refine HD.out.1.mono ?_
        rintro e w' ⟨rfl, rfl⟩
        go_wp2
        go_loopw [9, 10] (fun cv kv wx => ∃ (k q : Nat) (zs : List Nat), kv = .int .i64 k ∧ cv = .int .i64 q ∧ k ≤ ys.length ∧ q < r ∧ Hid (Tx.MA BD ys zs r d k q ∧ wx.ownsRow W0.heap.size 3 1 (.slice A ys.length c) ys.length (cellsOf .i64 zs) ∧ Below W0.heap.size W0 wx)) (fun _ kv _ => ys.length - (intOf kv).toNat)
        case atStart => exact ⟨0, d, ys, rfl, rfl, Nat.zero_le _, hdr, Lib.hid ⟨Tx.MA.start HA.out.1.ok, HA.out.2.1, HA.out.2.2⟩⟩
        case round =>
          clear kr0 kr1 kf0 kf1
          obtain ⟨k, q, zs, rfl, rfl, hk, hq, HM⟩ := hrel
          have hzl := HM.out.1.len
          have HZL := Lib.hid hzl
          clear hzl
          by_cases hky : k < ys.length
          · obtain ⟨g, cur, rfl, hg, hseg⟩ := seg_of_own HM.out.2.1 (by omega)
            have hc := hseg.cell (j := k) (by have := HZL.out; omega)
            have hfz := hseg.frozen k
            obtain ⟨x, hx⟩ : ∃ x, zs.getD k 0 = x := ⟨_, rfl⟩
            have hxl := dig_lt HM.out.1.ok k
            rw [hx] at hc hxl
            rw [Nat.zero_add] at hc
            have hxi : x ≤ 65535 := by unfold BD at hxl; omega
            obtain ⟨p, hp⟩ : ∃ p, x * r = p := ⟨_, rfl⟩
            have hp' : (x : Int) * (r : Int) = (p : Int) := by rw [← hp, Int.natCast_mul]
            have hpl : p ≤ 65535 * 36 := by rw [← hp]; exact Nat.mul_le_mul hxi (by omega)
            have hpl2 : p ≤ 2359260 := by omega
            have HDD := Lib.hid (And.intro hx (And.intro hp (And.intro hxl (And.intro hg hseg.lt))))
            clear hx hp hseg hxl hg hpl
            go_wp2
            go_roundw
            case rel =>
              have hct := carryD (q := q) (x := x) (r := r) (t := q + p) hq HDD.out.2.2.1 (by rw [HDD.out.2.1])
              have hst := HM.out.1.step BD_pos hky HDD.out.1 (t := q + p) (by rw [HDD.out.2.1])
              have ho := own_set HM.out.2.1 hky ((q + p) % BD)
              have e1 : ((p : Int) + (q : Int)) % 65536 = (((q + p) % BD : Nat) : Int) := by unfold BD; omega
              refine ⟨k + 1, (q + p) / BD, _, by go_num, congrArg (Value.int .i64) (by unfold BD; omega), by omega, hct, Lib.hid ⟨hst, ?_, ?_⟩⟩
              · rw [e1]; exact ho
              · exact HM.out.2.2.trans (grown_below (grown_store _ _ _ _) HDD.out.2.2.2.1 HM.out.2.2.size)
            case measure => simp [intOf]; omega
          · obtain rfl : k = ys.length := by omega
            have hsz := HM.out.2.2.size
            by_cases hq0 : 0 < q
            · have hot := HM.out.2.1
              go_wp2_with (at_builtin; refine wpList_append_own _ rfl _ _ 29 rfl W0.heap.size 3 i0 (.int .i64 0) 1 8 Try.underlying29 HI.out.1 HI.out.2.1 HI.out.2.2.1 HI.out.2.2.2 rfl (by decide) _ ys.length (cellsOf .i64 zs) rfl (hot.alloc _) ⟨wr.heap.size, 0, none⟩ 1 1 [.int .i64 (q : Int)] rfl rfl (cell_one_new _ _ _) (by simp [Value.oneCell']) (by unfold maxLen; omega) (by omega) (by simp; omega) ?_; intro v1 w2 hown1 hg1 _; rw [show cellsOf .i64 zs ++ [Value.int .i64 (q : Int)] = cellsOf .i64 (zs ++ [q]) from by simp [cellsOf]] at hown1; obtain ⟨A2, c2, rfl, _⟩ := own_form hown1; have hlt1 := hot.lt; have hb2 : Below W0.heap.size wr w2 := ((Below.refl _ _).alloc hsz _).grown hg1 (by simp; omega) (fun k hk => (hlt1 k hk).1); have HB2 := Lib.hid (And.intro hb2 hown1); clear hb2 hown1 hg1 hlt1 hot)
              go_roundw
              case rel =>
                have hl2 : (zs ++ [q]).length = ys.length + 1 := by rw [List.length_append, List.length_singleton, HZL.out]
                refine ⟨i + 1, A2, c2, zs ++ [q], by go_num, by rw [hl2], by omega, by rw [hl2]; have := HA.out.1.len; have := HL.out.2; omega, Lib.hid ⟨HA.out.1.step (by have := HL.out.2; omega) HD.out.2 hdr (HM.out.1.ok.append (Lm.Ok.cons (by unfold BD; omega) (Lm.Ok.nil _))) HM.out.1.val1 (by omega), by rw [hl2]; exact HB2.out.2, HM.out.2.2.trans HB2.out.1⟩⟩
              case measure => simp [intOf]; omega
            · obtain rfl : q = 0 := by omega
              go_wp2
              go_roundw
              case rel =>
                refine ⟨i + 1, A, c, zs, by go_num, by rw [HZL.out], by omega, by rw [HZL.out]; exact hyl, Lib.hid ⟨HA.out.1.step (by have := HL.out.2; omega) HD.out.2 hdr HM.out.1.ok HM.out.1.val0 (by have := HZL.out; omega), by rw [HZL.out]; exact HM.out.2.1, HM.out.2.2⟩⟩
              case measure => simp [intOf]; omega
      · have hnd : ¬ Tx.AllDig r l := not_dig (i := i) (by have := HL.out.2; omega) (by rw [HD.out.2]; omega)
        have HND := Lib.hid hnd
        clear hnd
        go_wp2_with fail
        refine HD.out.1.mono ?_
        rintro e w' ⟨rfl, rfl⟩
        go_wp2
        have q := HR.out.1.1.stored (.bool false) (.slice none 0 0)
        obtain ⟨q0, q1⟩ := id q
        refine bodyPost_ret (v := .tuple #[.agg #[.bool false, .slice none 0 0], .int .i64 2]) (by simp [results, Try.results63, go_sem, q0, q1]) rfl ?_
        exact .inr ⟨HND.out, refE_stored (z := 0) (zs := []) HR.out.1 (by simp [SignOf]) ⟨Nat.le_refl _, Nums.nil _ _ _, Lm.Ok.nil _, Lm.Top.nil, rfl⟩ HR.out.2 (by omega)⟩
    · have htk : l.take i = l := List.take_of_length_le (by have := HL.out.2; omega)
      have hle := own_le HA.out.2.1
      have hrd := HA.out.1
      have hdg := hrd.dig
      have hnm := hrd.num
      rw [htk] at hdg hnm
      have hmd := made_any true A c ys wr (Nums.of_own HA.out.2.1 rfl) hrd.ok (by omega) (by omega)
      rw [hnm] at hmd
      have HG := Lib.hid (And.intro hmd (And.intro hdg HR.out.1))
      have hz1 := HA.out.2.2.size
      clear hmd hdg hrd hnm htk hle kr0 kr1 kf0 kf1
      go_wp2_with fail
      refine HG.out.1.mono ?_
      rintro e w2 ⟨v2, rfl, ⟨b2, A3, c3, zs2, rfl, hs2, hl2⟩, hb2⟩
      have r2 := HG.out.2.2.step hb2 rfl (by have := HS0.out; omega)
      obtain ⟨⟨kr0, kr1⟩, kf0, kf1⟩ := id r2
      have b4 := below_then HR.out.2 hb2
      go_wp2
      have q := r2.1.stored (.bool b2) (.slice A3 zs2.length c3)
      obtain ⟨q0, q1⟩ := id q
      refine bodyPost_ret (v := .tuple #[.agg #[.bool b2, .slice A3 zs2.length c3], .int .i64 0]) (by simp [results, Try.results63, go_sem, q0, q1]) rfl ?_
      exact .inl ⟨HG.out.2.1, refE_stored r2 hs2 hl2 b4 (by omega)⟩

set_option maxRecDepth 100000 in
set_option maxHeartbeats 8000000 in
theorem rparse_minus_none (s t : ByteArray) (r : Nat) (w : World) (h2 : 2 ≤ r) (h36 : r ≤ 36) (hs : s.size ≤ 20000) (h0 : 0 < s.size) (hm : s[0].toNat = 45) (ht : s.extract 1 s.size = t) (h1 : t.size = 0) :
    Calls Try.prog 63 #[.string s, .int .i64 r] w fun e w' => IsRE w w' 0 2 e := by
  have hb0 : Below w.heap.size w (w.alloc (.cells #[.bool false, .slice none 0 0] 31)) := (Below.refl _ _).alloc (Nat.le_refl _) _
  have hR := Res.new w 31
  have hsz0 : (w.alloc (.cells #[.bool false, .slice none 0 0] 31)).heap.size = w.heap.size + 1 := by simp
  obtain ⟨W0, hW0⟩ : ∃ W : World, W = w.alloc (.cells #[.bool false, .slice none 0 0] 31) := ⟨_, rfl⟩
  rw [← hW0] at hb0 hR hsz0
  have HW0 := Lib.hid hW0
  have HS0 := Lib.hid hsz0
  have H := Lib.hid (And.intro hR hb0)
  obtain ⟨⟨hr0, hr1⟩, hf0, hf1⟩ := id hR
  have k2 : (2 : Int) ≤ r := by omega
  have k36 : (r : Int) ≤ 36 := by omega
  have hm' : (s[0].toNat : Int) = 45 := by omega
  clear h2 h36 hm
  clear hb0 hR hsz0 hW0
  go_enter Try.func63, Try.ntmps63
  go_upto_region 1 with fail
  rw [← HW0.out]
  go_wp2
  have q := H.out.1.1.stored (.bool false) (.slice none 0 0)
  obtain ⟨q0, q1⟩ := id q
  refine bodyPost_ret (v := .tuple #[.agg #[.bool false, .slice none 0 0], .int .i64 2]) (by simp [results, Try.results63, go_sem, q0, q1]) rfl ?_
  exact refE_stored (z := 0) (zs := []) H.out.1 (by simp [SignOf]) ⟨Nat.le_refl _, Nums.nil _ _ _, Lm.Ok.nil _, Lm.Top.nil, rfl⟩ H.out.2 (by omega)

set_option maxRecDepth 100000 in
set_option maxHeartbeats 8000000 in
theorem rparse_plus (s t : ByteArray) (r : Nat) (w : World) (h2 : 2 ≤ r) (h36 : r ≤ 36) (hs : s.size ≤ 20000) (h0 : 0 < s.size) (hm : s[0].toNat = 43) (ht : s.extract 1 s.size = t) (h1 : 0 < t.size) :
    Calls Try.prog 63 #[.string s, .int .i64 r] w fun e w' => (Tx.AllDig r (Tx.bts t) ∧ IsRE w w' (ofSign false (Tx.numOf r (Tx.bts t))) 0 e) ∨ (¬ Tx.AllDig r (Tx.bts t) ∧ IsRE w w' 0 2 e) := by
  have hb0 : Below w.heap.size w (w.alloc (.cells #[.bool false, .slice none 0 0] 31)) := (Below.refl _ _).alloc (Nat.le_refl _) _
  have hR := Res.new w 31
  have hsz0 : (w.alloc (.cells #[.bool false, .slice none 0 0] 31)).heap.size = w.heap.size + 1 := by simp
  obtain ⟨W0, hW0⟩ : ∃ W : World, W = w.alloc (.cells #[.bool false, .slice none 0 0] 31) := ⟨_, rfl⟩
  rw [← hW0] at hb0 hR hsz0
  have HW0 := Lib.hid hW0
  have HS0 := Lib.hid hsz0
  have H := Lib.hid (And.intro hR hb0)
  obtain ⟨⟨hr0, hr1⟩, hf0, hf1⟩ := id hR
  have k2 : (2 : Int) ≤ r := by omega
  have k36 : (r : Int) ≤ 36 := by omega
  obtain ⟨i0, hi0, hz0, hz1, hz2⟩ := info_parts Try.info3
  have HI := Lib.hid (And.intro hi0 (And.intro hz0 (And.intro hz1 hz2)))
  clear hi0 hz0 hz1 hz2
  obtain ⟨l, hl⟩ : ∃ l, Tx.bts t = l := ⟨_, rfl⟩
  have hll : l.length = t.size := by rw [← hl, Tx.bts_length]
  have HL := Lib.hid (And.intro hl hll)
  rw [hl]
  have htl : t.size ≤ 20000 := by rw [← ht, ByteArray.size_extract]; omega
  have hm' : (s[0].toNat : Int) = 43 := by omega
  have hz9 : ((t.size : Int) == 0) = false := by rw [beq_eq_false_iff_ne]; omega
  clear h2 h36 hm hl hll
  clear hb0 hR hsz0 hW0
  go_enter Try.func63, Try.ntmps63
  go_upto_region 1 with fail
  rw [← HW0.out]
  go_wp2
  go_loopw [7, 8] (fun dv iv wr => ∃ (i : Nat) (A : Option Addr) (c : Nat) (ys : List Nat), iv = .int .i64 i ∧ dv = .slice A ys.length c ∧ i ≤ t.size ∧ ys.length ≤ 20000 ∧ Hid (RRead r l i ys ∧ wr.ownsRow W0.heap.size 3 1 (.slice A ys.length c) ys.length (cellsOf .i64 ys) ∧ Below W0.heap.size W0 wr)) (fun _ iv _ => t.size - (intOf iv).toNat)
  case atStart => exact ⟨0, none, 0, [], rfl, rfl, Nat.zero_le _, by simp, Lib.hid ⟨RRead.start r l, World.ownsRow_nil _ _ _ _, Below.refl _ _⟩⟩
  case round =>
    obtain ⟨i, A, c, ys, rfl, rfl, hi, hyl, HA⟩ := hrel
    have r1 := H.out.1.step HA.out.2.2 rfl (by have := HS0.out; omega)
    obtain ⟨⟨kr0, kr1⟩, kf0, kf1⟩ := id r1
    have hb1 := below_then H.out.2 HA.out.2.2
    have HR := Lib.hid (And.intro r1 hb1)
    clear r1 hb1
    by_cases hit : i < t.size
    · obtain ⟨d, hd⟩ : ∃ d, Tx.dig (t[i].toNat) = d := ⟨_, rfl⟩
      have hdv := RDigit_any (t[i].toNat) wr (UInt8.toNat_lt _)
      rw [hd] at hdv
      rw [Tx.bts_at t i hit, HL.out.1] at hd
      have hdl : d ≤ 36 := by rw [← hd]; exact Tx.dig_le _
      have HD := Lib.hid (And.intro hdv hd)
      clear hdv hd
      by_cases hdr : d < r
      · go_wp2_with fail
        refine HD.out.1.mono ?_
        rintro e w' ⟨rfl, rfl⟩
        go_wp2
        go_loopw [9, 10] (fun cv kv wx => ∃ (k q : Nat) (zs : List Nat), kv = .int .i64 k ∧ cv = .int .i64 q ∧ k ≤ ys.length ∧ q < r ∧ Hid (Tx.MA BD ys zs r d k q ∧ wx.ownsRow W0.heap.size 3 1 (.slice A ys.length c) ys.length (cellsOf .i64 zs) ∧ Below W0.heap.size W0 wx)) (fun _ kv _ => ys.length - (intOf kv).toNat)
        case atStart => exact ⟨0, d, ys, rfl, rfl, Nat.zero_le _, hdr, Lib.hid ⟨Tx.MA.start HA.out.1.ok, HA.out.2.1, HA.out.2.2⟩⟩
        case round =>
          clear kr0 kr1 kf0 kf1
          obtain ⟨k, q, zs, rfl, rfl, hk, hq, HM⟩ := hrel
          have hzl := HM.out.1.len
          have HZL := Lib.hid hzl
          clear hzl
          by_cases hky : k < ys.length
          · obtain ⟨g, cur, rfl, hg, hseg⟩ := seg_of_own HM.out.2.1 (by omega)
            have hc := hseg.cell (j := k) (by have := HZL.out; omega)
            have hfz := hseg.frozen k
            obtain ⟨x, hx⟩ : ∃ x, zs.getD k 0 = x := ⟨_, rfl⟩
            have hxl := dig_lt HM.out.1.ok k
            rw [hx] at hc hxl
            rw [Nat.zero_add] at hc
            have hxi : x ≤ 65535 := by unfold BD at hxl; omega
            obtain ⟨p, hp⟩ : ∃ p, x * r = p := ⟨_, rfl⟩
            have hp' : (x : Int) * (r : Int) = (p : Int) := by rw [← hp, Int.natCast_mul]
            have hpl : p ≤ 65535 * 36 := by rw [← hp]; exact Nat.mul_le_mul hxi (by omega)
            have hpl2 : p ≤ 2359260 := by omega
            have HDD := Lib.hid (And.intro hx (And.intro hp (And.intro hxl (And.intro hg hseg.lt))))
            clear hx hp hseg hxl hg hpl
            go_wp2
            go_roundw
            case rel =>
              have hct := carryD (q := q) (x := x) (r := r) (t := q + p) hq HDD.out.2.2.1 (by rw [HDD.out.2.1])
              have hst := HM.out.1.step BD_pos hky HDD.out.1 (t := q + p) (by rw [HDD.out.2.1])
              have ho := own_set HM.out.2.1 hky ((q + p) % BD)
              have e1 : ((p : Int) + (q : Int)) % 65536 = (((q + p) % BD : Nat) : Int) := by unfold BD; omega
              refine ⟨k + 1, (q + p) / BD, _, by go_num, congrArg (Value.int .i64) (by unfold BD; omega), by omega, hct, Lib.hid ⟨hst, ?_, ?_⟩⟩
              · rw [e1]; exact ho
              · exact HM.out.2.2.trans (grown_below (grown_store _ _ _ _) HDD.out.2.2.2.1 HM.out.2.2.size)
            case measure => simp [intOf]; omega
          · obtain rfl : k = ys.length := by omega
            have hsz := HM.out.2.2.size
            by_cases hq0 : 0 < q
            · have hot := HM.out.2.1
              go_wp2_with (at_builtin; refine wpList_append_own _ rfl _ _ 29 rfl W0.heap.size 3 i0 (.int .i64 0) 1 8 Try.underlying29 HI.out.1 HI.out.2.1 HI.out.2.2.1 HI.out.2.2.2 rfl (by decide) _ ys.length (cellsOf .i64 zs) rfl (hot.alloc _) ⟨wr.heap.size, 0, none⟩ 1 1 [.int .i64 (q : Int)] rfl rfl (cell_one_new _ _ _) (by simp [Value.oneCell']) (by unfold maxLen; omega) (by omega) (by simp; omega) ?_; intro v1 w2 hown1 hg1 _; rw [show cellsOf .i64 zs ++ [Value.int .i64 (q : Int)] = cellsOf .i64 (zs ++ [q]) from by simp [cellsOf]] at hown1; obtain ⟨A2, c2, rfl, _⟩ := own_form hown1; have hlt1 := hot.lt; have hb2 : Below W0.heap.size wr w2 := ((Below.refl _ _).alloc hsz _).grown hg1 (by simp; omega) (fun k hk => (hlt1 k hk).1); have HB2 := Lib.hid (And.intro hb2 hown1); clear hb2 hown1 hg1 hlt1 hot)
              go_roundw
              case rel =>
                have hl2 : (zs ++ [q]).length = ys.length + 1 := by rw [List.length_append, List.length_singleton, HZL.out]
                refine ⟨i + 1, A2, c2, zs ++ [q], by go_num, by rw [hl2], by omega, by rw [hl2]; have := HA.out.1.len; have := HL.out.2; omega, Lib.hid ⟨HA.out.1.step (by have := HL.out.2; omega) HD.out.2 hdr (HM.out.1.ok.append (Lm.Ok.cons (by unfold BD; omega) (Lm.Ok.nil _))) HM.out.1.val1 (by omega), by rw [hl2]; exact HB2.out.2, HM.out.2.2.trans HB2.out.1⟩⟩
              case measure => simp [intOf]; omega
            · obtain rfl : q = 0 := by omega
              go_wp2
              go_roundw
              case rel =>
                refine ⟨i + 1, A, c, zs, by go_num, by rw [HZL.out], by omega, by rw [HZL.out]; exact hyl, Lib.hid ⟨HA.out.1.step (by have := HL.out.2; omega) HD.out.2 hdr HM.out.1.ok HM.out.1.val0 (by have := HZL.out; omega), by rw [HZL.out]; exact HM.out.2.1, HM.out.2.2⟩⟩
              case measure => simp [intOf]; omega
      · have hnd : ¬ Tx.AllDig r l := not_dig (i := i) (by have := HL.out.2; omega) (by rw [HD.out.2]; omega)
        have HND := Lib.hid hnd
        clear hnd
        go_wp2_with fail
        refine HD.out.1.mono ?_
        rintro e w' ⟨rfl, rfl⟩
        go_wp2
        have q := HR.out.1.1.stored (.bool false) (.slice none 0 0)
        obtain ⟨q0, q1⟩ := id q
        refine bodyPost_ret (v := .tuple #[.agg #[.bool false, .slice none 0 0], .int .i64 2]) (by simp [results, Try.results63, go_sem, q0, q1]) rfl ?_
        exact .inr ⟨HND.out, refE_stored (z := 0) (zs := []) HR.out.1 (by simp [SignOf]) ⟨Nat.le_refl _, Nums.nil _ _ _, Lm.Ok.nil _, Lm.Top.nil, rfl⟩ HR.out.2 (by omega)⟩
    · have htk : l.take i = l := List.take_of_length_le (by have := HL.out.2; omega)
      have hle := own_le HA.out.2.1
      have hrd := HA.out.1
      have hdg := hrd.dig
      have hnm := hrd.num
      rw [htk] at hdg hnm
      have hmd := made_any false A c ys wr (Nums.of_own HA.out.2.1 rfl) hrd.ok (by omega) (by omega)
      rw [hnm] at hmd
      have HG := Lib.hid (And.intro hmd (And.intro hdg HR.out.1))
      have hz1 := HA.out.2.2.size
      clear hmd hdg hrd hnm htk hle kr0 kr1 kf0 kf1
      go_wp2_with fail
      refine HG.out.1.mono ?_
      rintro e w2 ⟨v2, rfl, ⟨b2, A3, c3, zs2, rfl, hs2, hl2⟩, hb2⟩
      have r2 := HG.out.2.2.step hb2 rfl (by have := HS0.out; omega)
      obtain ⟨⟨kr0, kr1⟩, kf0, kf1⟩ := id r2
      have b4 := below_then HR.out.2 hb2
      go_wp2
      have q := r2.1.stored (.bool b2) (.slice A3 zs2.length c3)
      obtain ⟨q0, q1⟩ := id q
      refine bodyPost_ret (v := .tuple #[.agg #[.bool b2, .slice A3 zs2.length c3], .int .i64 0]) (by simp [results, Try.results63, go_sem, q0, q1]) rfl ?_
      exact .inl ⟨HG.out.2.1, refE_stored r2 hs2 hl2 b4 (by omega)⟩

set_option maxRecDepth 100000 in
set_option maxHeartbeats 8000000 in
theorem rparse_plus_none (s t : ByteArray) (r : Nat) (w : World) (h2 : 2 ≤ r) (h36 : r ≤ 36) (hs : s.size ≤ 20000) (h0 : 0 < s.size) (hm : s[0].toNat = 43) (ht : s.extract 1 s.size = t) (h1 : t.size = 0) :
    Calls Try.prog 63 #[.string s, .int .i64 r] w fun e w' => IsRE w w' 0 2 e := by
  have hb0 : Below w.heap.size w (w.alloc (.cells #[.bool false, .slice none 0 0] 31)) := (Below.refl _ _).alloc (Nat.le_refl _) _
  have hR := Res.new w 31
  have hsz0 : (w.alloc (.cells #[.bool false, .slice none 0 0] 31)).heap.size = w.heap.size + 1 := by simp
  obtain ⟨W0, hW0⟩ : ∃ W : World, W = w.alloc (.cells #[.bool false, .slice none 0 0] 31) := ⟨_, rfl⟩
  rw [← hW0] at hb0 hR hsz0
  have HW0 := Lib.hid hW0
  have HS0 := Lib.hid hsz0
  have H := Lib.hid (And.intro hR hb0)
  obtain ⟨⟨hr0, hr1⟩, hf0, hf1⟩ := id hR
  have k2 : (2 : Int) ≤ r := by omega
  have k36 : (r : Int) ≤ 36 := by omega
  have hm' : (s[0].toNat : Int) = 43 := by omega
  clear h2 h36 hm
  clear hb0 hR hsz0 hW0
  go_enter Try.func63, Try.ntmps63
  go_upto_region 1 with fail
  rw [← HW0.out]
  go_wp2
  have q := H.out.1.1.stored (.bool false) (.slice none 0 0)
  obtain ⟨q0, q1⟩ := id q
  refine bodyPost_ret (v := .tuple #[.agg #[.bool false, .slice none 0 0], .int .i64 2]) (by simp [results, Try.results63, go_sem, q0, q1]) rfl ?_
  exact refE_stored (z := 0) (zs := []) H.out.1 (by simp [SignOf]) ⟨Nat.le_refl _, Nums.nil _ _ _, Lm.Ok.nil _, Lm.Top.nil, rfl⟩ H.out.2 (by omega)

end Go.Proofs.Ytllkajlmfbikhaa
