/- What Digit and Text of the reference do. -/
import Derived.Test.YtllkajlmfbikhaaTextP
import Derived.Test.YtllkajlmfbikhaaRefA
import Derived.Laws.Concat
namespace Go.Proofs.Ytllkajlmfbikhaa
open Go.RowKit
set_option linter.unusedSimpArgs false

set_option maxRecDepth 100000 in
set_option maxHeartbeats 1000000 in
theorem RDigit_any (c : Nat) (w : World) (hc : c < 256) : Calls Try.prog 114 #[.int .u8 c] w fun e w' => e = .returned (.int .i64 ((Tx.dig c : Nat) : Int)) ∧ w = w' := by
  have hc' : (c : Int) ≤ 255 := by omega
  rcases (show c < 48 ∨ (48 ≤ c ∧ c ≤ 57) ∨ (58 ≤ c ∧ c ≤ 64) ∨ (65 ≤ c ∧ c ≤ 90) ∨ (91 ≤ c ∧ c ≤ 96) ∨ (97 ≤ c ∧ c ≤ 122) ∨ 123 ≤ c from by omega) with h | ⟨h, k⟩ | ⟨h, k⟩ | ⟨h, k⟩ | ⟨h, k⟩ | ⟨h, k⟩ | h
  · obtain ⟨d, hd⟩ : ∃ d, Tx.dig c = d := ⟨_, rfl⟩
    have he : d = 36 := by rw [← hd]; unfold Tx.dig; (repeat' split) <;> omega
    rw [hd, he]
    have h1 : (c : Int) < 48 := by omega
    clear h hd he
    go_enter Try.func114, Try.ntmps114
    go_wp2
    go_ret
    exact ⟨rfl, rfl⟩
  · have he : ((Tx.dig c : Nat) : Int) = (c : Int) - 48 := by unfold Tx.dig; (repeat' split) <;> omega
    rw [he]
    have h1 : 48 ≤ (c : Int) := by omega
    have h2 : (c : Int) ≤ 57 := by omega
    clear h k he
    go_enter Try.func114, Try.ntmps114
    go_wp2
    go_ret
    exact ⟨rfl, rfl⟩
  · have he : ((Tx.dig c : Nat) : Int) = 36 := by unfold Tx.dig; (repeat' split) <;> omega
    rw [he]
    have h1 : 58 ≤ (c : Int) := by omega
    have h2 : (c : Int) ≤ 64 := by omega
    clear h k he
    go_enter Try.func114, Try.ntmps114
    go_wp2
    go_ret
    exact ⟨rfl, rfl⟩
  · have he : ((Tx.dig c : Nat) : Int) = (c : Int) - 65 + 10 := by unfold Tx.dig; (repeat' split) <;> omega
    rw [he]
    have h1 : 65 ≤ (c : Int) := by omega
    have h2 : (c : Int) ≤ 90 := by omega
    clear h k he
    go_enter Try.func114, Try.ntmps114
    go_wp2
    go_ret
    exact ⟨rfl, rfl⟩
  · have he : ((Tx.dig c : Nat) : Int) = 36 := by unfold Tx.dig; (repeat' split) <;> omega
    rw [he]
    have h1 : 91 ≤ (c : Int) := by omega
    have h2 : (c : Int) ≤ 96 := by omega
    clear h k he
    go_enter Try.func114, Try.ntmps114
    go_wp2
    go_ret
    exact ⟨rfl, rfl⟩
  · have he : ((Tx.dig c : Nat) : Int) = (c : Int) - 97 + 10 := by unfold Tx.dig; (repeat' split) <;> omega
    rw [he]
    have h1 : 97 ≤ (c : Int) := by omega
    have h2 : (c : Int) ≤ 122 := by omega
    clear h k he
    go_enter Try.func114, Try.ntmps114
    go_wp2
    go_ret
    exact ⟨rfl, rfl⟩
  · have he : ((Tx.dig c : Nat) : Int) = 36 := by unfold Tx.dig; (repeat' split) <;> omega
    rw [he]
    have h1 : 123 ≤ (c : Int) := by omega
    clear h he
    go_enter Try.func114, Try.ntmps114
    go_wp2
    go_ret
    exact ⟨rfl, rfl⟩

theorem made_zeroI (n : Nat) : (madeCells (Value.int .i64 0).cells (n * 1)).toList = cellsOf .i64 (List.replicate n 0) := by
  rw [show (Value.int .i64 0).cells = #[Value.int .i64 0] from rfl, toList_madeCells_one, Nat.mul_one]
  simp [cellsOf]

/-- The digits of the reference's own Text: digit by digit. -/
theorem str_digit (d : Nat) (h : d < 36) (s : ByteArray) (l : List Nat) (hs : Tx.bts s = l) : Tx.bts (digitBytes.extract d (d + 1) ++ s) = Tx.chr d :: l := by
  rw [Tx.bts_append, hs, Tx.bts_extract]
  have : ∀ d : Fin 36, ((Tx.bts digitBytes).take (d.val + 1)).drop d.val = [Tx.chr d.val] := by decide
  rw [this ⟨d, h⟩]
  rfl

theorem Tx.Tl.short {r n m L : Nat} {ds : List Nat} (h : Tx.Tl r n m ds) (hm : 0 < m) (hr : 2 ≤ r) (hn : n < BD ^ L) (hL : L ≤ 200000) : ds.length ≤ 3200000 := by
  have h1 : r ^ ds.length ≤ n := by
    rw [← h.num]
    exact Nat.le_trans (Nat.le_mul_of_pos_right _ hm) (Nat.le_add_left _ _)
  have h2 : 2 ^ ds.length ≤ r ^ ds.length := Nat.pow_le_pow_left hr _
  have h3 : (2 : Nat) ^ ds.length < 2 ^ (16 * L) := by
    have : BD ^ L = 2 ^ (16 * L) := by rw [Nat.pow_mul]; rfl
    omega
  have := (Nat.pow_lt_pow_iff_right (by decide : 1 < 2)).1 h3
  omega

def IsTextR (w w' : World) (r : Nat) (z : Int) (e : Ending) : Prop := ∃ s, e = .returned (.tuple #[.string s, .int .i64 0]) ∧ Tx.TextOf r z (Tx.bts s) ∧ Below w.heap.size w w'

theorem text_pos {r n : Nat} {b : Bool} {z : Int} {ds : List Nat} (hs : SignOf b z) (hn : z.natAbs = n) (h0 : 0 < n) (h : Tx.Tl r n 0 ds) : Tx.TextOf r z ((if b = true then [45] else []) ++ (ds.map Tx.chr).reverse) := by
  obtain ⟨h1, h2, h3⟩ := h.end_
  refine .inr ⟨ds, by omega, h1, h2, by rw [h3, hn], ?_⟩
  unfold SignOf at hs
  subst hs
  by_cases hz : z < 0 <;> simp [hz]

set_option maxRecDepth 100000 in
set_option maxHeartbeats 8000000 in
theorem RText_pos (b : Bool) (A : Option Addr) (c n r : Nat) (xs : List Nat) (z : Int) (w : World) (hs : SignOf b z) (h : Digs w A c xs n) (hn : z.natAbs = n) (h0 : 0 < n) (h2 : 2 ≤ r) (h36 : r ≤ 36) (hl : xs.length ≤ 200000) :
    Calls Try.prog 61 #[.agg #[.bool b, .slice A xs.length c], .int .i64 r] w fun e w' => IsTextR w w' r z e := by
  obtain ⟨i0, hi0, hz0, hz1, hz2⟩ := info_parts Try.info3
  have HI := Lib.hid (And.intro hi0 (And.intro hz0 (And.intro hz1 hz2)))
  have k2 : (2 : Int) ≤ r := by omega
  have k36 : (r : Int) ≤ 36 := by omega
  have hb0 : Below w.heap.size w (w.alloc (.cells #[.bool b, .slice A xs.length c] 31)) := (Below.refl _ _).alloc (Nat.le_refl _) _
  have hx0 := Two.new w (.bool b) (.slice A xs.length c) 31
  have hd0 := h.step hb0 rfl
  have hnx : n < BD ^ xs.length := by rw [← h.2.2.2.2]; exact Lm.val_lt h.2.2.1
  have HN := Lib.hid hnx
  clear hnx
  have H := Lib.hid (And.intro hb0 (And.intro hx0 (And.intro hd0 (And.intro hs (And.intro hn (And.intro h0 (And.intro h2 h36)))))))
  have hsz0 : (w.alloc (.cells #[.bool b, .slice A xs.length c] 31)).heap.size = w.heap.size + 1 := by simp
  obtain ⟨W0, hW0⟩ : ∃ W : World, W = w.alloc (.cells #[.bool b, .slice A xs.length c] 31) := ⟨_, rfl⟩
  rw [← hW0] at H hsz0
  have HW0 := Lib.hid hW0
  have HS0 := Lib.hid hsz0
  clear hi0 hz0 hz1 hz2 hb0 hx0 hd0 hs hn h0 h2 h36 h hsz0 hW0
  obtain ⟨px0, px1⟩ := id H.out.2.1
  go_enter Try.func61, Try.ntmps61
  go_upto_region 1 with fail
  rw [← HW0.out]
  go_wp2
  go_loopg [6, 7] n (fun m sv dv wr => ∃ (s : ByteArray) (A' : Option Addr) (c' : Nat) (zs ds : List Nat), sv = .string s ∧ dv = .slice A' zs.length c' ∧ zs.length ≤ 200000 ∧ s.size ≤ 4000000 ∧ Hid (Digs wr A' c' zs m ∧ Tx.Tl r n m ds ∧ Tx.bts s = (ds.map Tx.chr).reverse ∧ (m < n → ds ≠ []) ∧ Below W0.heap.size W0 wr))
  case atStart => exact ⟨⟨#[]⟩, A, c, xs, [], rfl, rfl, hl, by decide, Lib.hid ⟨H.out.2.2.1, Tx.Tl.start r n, rfl, fun h => absurd h (Nat.lt_irrefl _), Below.refl _ _⟩⟩
  case round =>
    obtain ⟨s, A', c', zs, ds, rfl, rfl, hzl, hsl, HL⟩ := hrel
    by_cases hz : 0 < zs.length
    · have HM := Lib.hid (show i0.bytes * zs.length ≤ 281474976710656 ∧ zs.length ≤ maxLen from ⟨by rw [HI.out.2.2.2]; omega, by unfold maxLen; omega⟩)
      have hm : 0 < gk := by rw [← HL.out.1.2.2.2.2]; exact Lm.val_pos BD_pos hz HL.out.1.2.2.2.1
      have HMP := Lib.hid hm
      obtain ⟨b1, hB1⟩ : ∃ b1, b1 = wr.heap.size := ⟨_, rfl⟩
      have HB1 := Lib.hid hB1
      clear hm hB1
      go_wp2_with (at_make; go_loud (refine wpList_make_full _ rfl _ _ 29 rfl wr.heap.size 3 i0 (.int .i64 0) 1 Try.underlying29 HI.out.1 HI.out.2.1 HI.out.2.2.1 _ _ _ _ zs.length rfl rfl (by omega) (by omega) HM.out.1 HM.out.2 (Nat.le_refl _) ?_); intro w1 hown1 hg1; rw [made_zeroI] at hown1; have HB := Lib.hid (own_block hown1); have hb1 : Below wr.heap.size wr w1 := (Below.refl _ _).grown hg1 (Nat.le_refl _) (fun k hk => by cases hk); clear hown1 hg1; rw [← HB1.out] at HB; rw [← HB1.out])
      have hz0 : Seg w1 b1 0 .i64 3 _ (List.replicate zs.length 0) := seg_of_block HB.out
      have hx1 := HL.out.1.2.1.below hb1
      have hoffx : 0 < zs.length → Off A' b1 := fun hn => off_below HL.out.1.2.1 hn (by rw [HB1.out]; exact Nat.le_refl _)
      have hbw : Below W0.heap.size W0 w1 := below_then HL.out.2.2.2.2 hb1
      have HX := Lib.hid (And.intro hx1 (And.intro hoffx (And.intro hbw hz0)))
      clear hz0 hx1 hoffx hbw hb1 HB HM
      go_wp2
      go_loopw [9, 10] (fun rv iv wx => ∃ (i m : Nat) (qs : List Nat), iv = .int .i64 ((i : Int) - 1) ∧ rv = .int .i64 m ∧ i ≤ zs.length ∧ (m : Int) ≤ 35 ∧ Hid (Tx.Qd BD zs qs r i m ∧ SegTo wx b1 0 .i64 3 (cellsOf .i64 (List.replicate zs.length 0)).toArray qs ∧ w1.grownBy wx (some b1))) (fun _ iv _ => (intOf iv + 1).toNat)
      case atStart => exact ⟨zs.length, 0, _, rfl, rfl, Nat.le_refl _, by omega, Lib.hid ⟨Tx.Qd.start BD_pos (by have := H.out.2.2.2.2.2.2.1; omega), .refl HX.out.2.2.2, World.grownBy.refl _ _⟩⟩
      case round =>
        obtain ⟨i, m, qs, rfl, rfl, hi, hm, HQ⟩ := hrel
        by_cases h0 : 0 < i
        · obtain ⟨j, rfl⟩ : ∃ j, i = j + 1 := ⟨i - 1, by omega⟩
          rw [show (((j + 1 : Nat) : Int) - 1) = (j : Int) from by omega]
          obtain ⟨ax, rfl, _, hcell⟩ := (HX.out.1.grown HQ.out.2.2 HX.out.2.1).at_ (j := j) (by omega)
          have hcx := hcell j (by omega)
          obtain ⟨x, hxd⟩ : ∃ x, zs.getD j 0 = x := ⟨_, rfl⟩
          have hxl := dig_lt HL.out.1.2.2.1 j
          rw [hxd] at hcx hxl
          have hxi : (x : Int) ≤ 65535 := by unfold BD at hxl; omega
          obtain ⟨cur', hs1, hs2, hs3⟩ := id HQ.out.2.1
          have hcz := hs1.cell (j := j) (by rw [HQ.out.1.len]; omega)
          have hfz := hs1.frozen (0 + j)
          simp only [Nat.zero_add] at hcz hfz
          obtain ⟨t, ht⟩ : ∃ t, m * 65536 + x = t := ⟨_, rfl⟩
          obtain ⟨a, ha⟩ : ∃ a, t / r = a := ⟨_, rfl⟩
          obtain ⟨o, ho⟩ : ∃ o, t % r = o := ⟨_, rfl⟩
          have hti : (m : Int) * 65536 + (x : Int) = (t : Int) := by omega
          have hdiv : (t : Int) / (r : Int) = (a : Int) := by rw [← ha]; simp
          have hmod : (t : Int) % (r : Int) = (o : Int) := by rw [← ho]; simp
          have hor : o < r := by rw [← ho]; exact Nat.mod_lt _ (by omega)
          have ho35 : (o : Int) ≤ 35 := by omega
          have hal : a ≤ t := by rw [← ha]; exact Nat.div_le_self _ _
          have htl : (t : Int) ≤ 2400000 := by omega
          have hai : (a : Int) ≤ 2400000 := by omega
          have HD := Lib.hid (And.intro hxd (And.intro hxl (And.intro ht (And.intro ha ho))))
          clear hxd hxl hs1 hs2 hs3 hcell ht ha ho hor hal
          go_wp2
          go_roundw
          case rel =>
            have hst := HQ.out.1.step (by omega) HD.out.1 HD.out.2.1 (t := t) (by unfold BD; exact HD.out.2.2.1.symm)
            rw [HD.out.2.2.2.1, HD.out.2.2.2.2] at hst
            exact ⟨j, o, _, rfl, by first | rfl | exact congrArg (Value.int .i64) hmod, by omega, by omega, Lib.hid ⟨hst, HQ.out.2.1.set0 (j := j) (by rw [HQ.out.1.len]; omega) _, grown_trans HQ.out.2.2 (grown_store _ _ _ _)⟩⟩
          case measure => simp [intOf]
        · obtain rfl : i = 0 := by omega
          obtain ⟨hnum, hrest⟩ := HQ.out.1.end_
          have hsn : Nums wr .i64 (some ⟨b1, 0, none⟩) qs := by obtain ⟨cur', hs1, _⟩ := HQ.out.2.1; exact hs1.nums
          have htr := trimmed_any (some ⟨b1, 0, none⟩) zs.length qs wr hsn (by rw [HQ.out.1.len]; omega) (by rw [HQ.out.1.len]; exact Nat.le_refl _)
          rw [HQ.out.1.len] at htr
          have HT := Lib.hid (And.intro htr (And.intro hsn (And.intro hnum hrest)))
          clear htr hsn hnum hrest
          go_wp2_with fail
          refine HT.out.1.mono ?_
          rintro e w' ⟨rfl, k, rfl, hk, hzf, hp⟩
          have hd := digs_take HT.out.2.1 HQ.out.1.ok (by rw [HQ.out.1.len]; exact Nat.le_refl _) hk hzf hp
          rw [HT.out.2.2.1, HL.out.1.2.2.2.2] at hd
          have hmr : m = gk % r := by rw [HT.out.2.2.2, HL.out.1.2.2.2.2]
          have hst := HL.out.2.1.step HMP.out H.out.2.2.2.2.2.2.1
          rw [← hmr] at hst
          have hbt := str_digit m (by omega) s _ HL.out.2.2.1
          have hml : m + 1 ≤ 36 := by omega
          have hkz : k ≤ zs.length := by rw [← HQ.out.1.len]; exact hk
          have hkl : (qs.take k).length = k := by rw [List.length_take, HQ.out.1.len]; omega
          have HE := Lib.hid (And.intro hd (And.intro hst (And.intro hbt (And.intro hkl hmr))))
          have hdl : ds.length ≤ 3200000 := HL.out.2.1.short HMP.out H.out.2.2.2.2.2.2.1 HN.out hl
          have hssz : s.size = ds.length := by rw [← Tx.bts_length, HL.out.2.2.1, List.length_reverse, List.length_map]
          have hadd := run_string_add_sum (P := Try.prog) wr (digitBytes.extract m (m + 1)) s (by rw [ByteArray.size_extract]; have : digitBytes.size = 36 := rfl; omega)
          unfold digitBytes at hadd
          have HSS := Lib.hid (And.intro hdl hssz)
          clear hd hst hbt hzf hp hkl hmr hdl hssz
          go_wp2
          go_roundg (gk / r)
          case rel =>
            refine ⟨_, some ⟨b1, 0, none⟩, zs.length, qs.take k, ds ++ [m], rfl, by rw [HE.out.2.2.2.1], by rw [HE.out.2.2.2.1]; omega, by rw [ByteArray.size_append, ByteArray.size_extract]; have := HSS.out.1; have := HSS.out.2; have : digitBytes.size = 36 := rfl; unfold digitBytes at this; omega, Lib.hid ⟨HE.out.1, HE.out.2.1, ?_, fun _ => by simp, ?_⟩⟩
            · have := HE.out.2.2.1
              rw [List.map_append, List.reverse_append]
              exact this
            · exact HX.out.2.2.1.trans (grown_below HQ.out.2.2 (by have := HB1.out; have := HL.out.2.2.2.2.size; omega) HX.out.2.2.1.size)
          case measure => exact Nat.div_lt_self HMP.out H.out.2.2.2.2.2.2.1
    · have hze : zs = [] := List.eq_nil_of_length_eq_zero (by omega)
      have hm : gk = 0 := by rw [← HL.out.1.2.2.2.2, hze]; rfl
      have hsn : s.toList.isEmpty = false := by
        rw [ByteArray.toList_eq]
        have h1 := HL.out.2.2.2.1 (by rw [hm]; exact H.out.2.2.2.2.2.1)
        cases h2 : s.data.toList with
        | cons a l => rfl
        | nil =>
          exfalso
          have h3 : Tx.bts s = [] := by unfold Tx.bts; rw [h2]; rfl
          rw [HL.out.2.2.1] at h3
          simp at h3
          exact h1 h3
      have htl := HL.out.2.1
      rw [hm] at htl
      have htx := text_pos H.out.2.2.2.1 H.out.2.2.2.2.1 H.out.2.2.2.2.2.1 htl
      rw [← HL.out.2.2.1] at htx
      have hbel := below_then H.out.1 HL.out.2.2.2.2
      obtain ⟨qx0, qx1⟩ := H.out.2.1.step HL.out.2.2.2.2 rfl (by have := HS0.out; omega)
      have HF := Lib.hid (And.intro htx hbel)
      clear htl htx hbel
      cases b
      · go_wp2
        go_ret2
        exact ⟨s, rfl, by have := HF.out.1; simpa using this, HF.out.2⟩
      · have hadd := run_string_add_sum (P := Try.prog) wr ⟨#[45]⟩ s (by have : (⟨#[45]⟩ : ByteArray).size = 1 := rfl; omega)
        go_wp2
        go_ret2
        exact ⟨_, rfl, by have := HF.out.1; rw [Tx.bts_append]; exact this, HF.out.2⟩

set_option maxRecDepth 100000 in
set_option maxHeartbeats 4000000 in
theorem RText_zero (A : Option Addr) (c r : Nat) (w : World) (h2 : 2 ≤ r) (h36 : r ≤ 36) : Calls Try.prog 61 #[.agg #[.bool false, .slice A 0 c], .int .i64 r] w fun e w' => IsTextR w w' r 0 e := by
  have k2 : (2 : Int) ≤ r := by omega
  have k36 : (r : Int) ≤ 36 := by omega
  have hb0 : Below w.heap.size w (w.alloc (.cells #[.bool false, .slice A 0 c] 31)) := (Below.refl _ _).alloc (Nat.le_refl _) _
  clear h2 h36
  go_enter Try.func61, Try.ntmps61
  go_wp2
  go_loopg [6, 7] 0 (fun _ sv dv wr => sv = .string ⟨#[]⟩ ∧ dv = .slice A 0 c ∧ wr = w.alloc (.cells #[.bool false, .slice A 0 c] 31))
  case atStart => exact ⟨rfl, rfl, rfl⟩
  case round =>
    obtain ⟨rfl, rfl, rfl⟩ := hrel
    go_wp2
    go_ret2
    exact ⟨⟨#[48]⟩, rfl, .inl ⟨rfl, by decide⟩, hb0⟩

set_option maxRecDepth 100000 in
set_option maxHeartbeats 4000000 in
theorem RText_low (b : Bool) (A : Option Addr) (n c : Nat) (r : Int) (w : World) (h : r < 2) : Calls Try.prog 61 #[.agg #[.bool b, .slice A n c], .int .i64 r] w fun e w' => IsNoText w w' e := by
  have hb0 : Below w.heap.size w (w.alloc (.cells #[.bool b, .slice A n c] 31)) := (Below.refl _ _).alloc (Nat.le_refl _) _
  go_enter Try.func61, Try.ntmps61
  go_wp2
  go_ret2
  exact ⟨rfl, hb0⟩
set_option maxRecDepth 100000 in
set_option maxHeartbeats 4000000 in
theorem RText_high (b : Bool) (A : Option Addr) (n c : Nat) (r : Int) (w : World) (h : 36 < r) : Calls Try.prog 61 #[.agg #[.bool b, .slice A n c], .int .i64 r] w fun e w' => IsNoText w w' e := by
  have hb0 : Below w.heap.size w (w.alloc (.cells #[.bool b, .slice A n c] 31)) := (Below.refl _ _).alloc (Nat.le_refl _) _
  have h1 : ¬ r < 2 := by omega
  go_enter Try.func61, Try.ntmps61
  go_wp2
  go_ret2
  exact ⟨rfl, hb0⟩

theorem RText_any (v : Value) (z : Int) (r M : Nat) (w : World) (h : RefAt w v z) (h2 : 2 ≤ r) (h36 : r ≤ 36) (hM : M ≤ 200000) (hz : z.natAbs < BD ^ M) : Calls Try.prog 61 #[v, .int .i64 r] w fun e w' => IsTextR w w' r z e := by
  obtain ⟨b, A, c, ds, rfl, hs, hd⟩ := h
  by_cases h0 : z = 0
  · subst h0
    have hn : ds = [] := by
      rcases Nat.eq_zero_or_pos ds.length with e | e
      · exact List.eq_nil_of_length_eq_zero e
      · have := Lm.val_pos BD_pos e hd.2.2.2.1
        rw [hd.2.2.2.2] at this
        exact absurd this (by decide)
    subst hn
    obtain rfl : b = false := by simpa [SignOf] using hs
    exact RText_zero A c r w h2 h36
  · exact RText_pos b A c z.natAbs r ds z w hs hd rfl (by omega) h2 h36 (Nat.le_trans (hd.len hz) hM)
theorem RText_none (v : Value) (z r : Int) (w : World) (h : RefAt w v z) (hr : r < 2 ∨ 36 < r) : Calls Try.prog 61 #[v, .int .i64 r] w fun e w' => IsNoText w w' e := by
  obtain ⟨b, A, c, ds, rfl, hs, hd⟩ := h
  rcases hr with hr | hr
  · exact RText_low b A _ c r w hr
  · exact RText_high b A _ c r w hr
end Go.Proofs.Ytllkajlmfbikhaa
