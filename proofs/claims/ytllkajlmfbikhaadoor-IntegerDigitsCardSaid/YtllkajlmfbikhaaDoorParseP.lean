/- What parseDigits and Parse of package integer do: the integer that a text says in any radix. -/
import Derived.Test.YtllkajlmfbikhaaDoorMulAdd
namespace Go.Proofs.YtllkajlmfbikhaaDoor
open Go.RowKit

/-- The digits of a text: a number, or none. -/
def IsPar (w w' : World) (r : Nat) (l : List Nat) (e : Ending) : Prop :=
  (Tx.AllDig r l ∧ ∃ A c ys, e = .returned (.tuple #[.slice A ys.length c, .bool true]) ∧ Limbs w' A c ys (Tx.numOf r l) ∧ ys.length ≤ l.length ∧ Below w.heap.size w w') ∨
  (¬ Tx.AllDig r l ∧ e = .returned (.tuple #[.slice none 0 0, .bool false]) ∧ Below w.heap.size w w')

/-- Within a chunk: the first i bytes are digits, and say a number. -/
def Part (r : Nat) (l : List Nat) (i u : Nat) : Prop := Tx.AllDig r (l.take i) ∧ Tx.numOf r (l.take i) = u
theorem Part.start (r : Nat) (l : List Nat) : Part r l 0 0 := ⟨fun c hc => by simp at hc, rfl⟩
theorem take_snoc (l : List Nat) (i : Nat) (h : i < l.length) : l.take (i + 1) = l.take i ++ [l.getD i 0] := by
  rw [List.take_succ_eq_append_getElem h, List.getD_eq_getElem?_getD, List.getElem?_eq_getElem h]; rfl
theorem Part.step {r i u d : Nat} {l : List Nat} (h : Part r l i u) (hi : i < l.length) (hd : Tx.dig (l.getD i 0) = d) (hr : d < r) : Part r l (i + 1) (u * r + d) := by
  refine ⟨?_, ?_⟩
  · rw [take_snoc l i hi]
    refine h.1.append fun c hc => ?_
    rw [List.mem_singleton.1 hc, hd]; exact hr
  · rw [take_snoc l i hi, Tx.numOf_snoc, h.2, hd]
theorem Part.lt {r i u k p : Nat} {l : List Nat} (h : Part r l i u) (hi : i ≤ k) (hr : 0 < r) (hp : p = r ^ k) : u < p := by
  have h1 := Tx.numOf_lt h.1
  rw [h.2] at h1
  have h2 : r ^ (l.take i).length ≤ r ^ k := Nat.pow_le_pow_right hr (by rw [List.length_take]; omega)
  omega
theorem not_dig {r i : Nat} {l : List Nat} (hi : i < l.length) (h : r ≤ Tx.dig (l.getD i 0)) : ¬ Tx.AllDig r l := fun h1 => by
  have := h1 (l.getD i 0) (by rw [List.getD_eq_getElem?_getD, List.getElem?_eq_getElem hi]; exact List.getElem_mem hi)
  omega
theorem Tx.AllDig.drop {r p : Nat} {l : List Nat} (h : Tx.AllDig r l) : Tx.AllDig r (l.drop p) := fun c hc => h c (List.mem_of_mem_drop hc)

/-- The text so far: p bytes have been taken; the rest is a whole number of chunks, if any have been. -/
structure Read (r k : Nat) (l : List Nat) (p : Nat) (ys : List Nat) : Prop where
  le : p ≤ l.length
  dig : Tx.AllDig r (l.take p)
  ok : Lm.Ok B32 ys
  top : Lm.Top ys
  num : Lm.val B32 ys = Tx.numOf r (l.take p)
  len : ys.length ≤ p
  first : p = 0 ∨ (l.length - p) % k = 0
theorem Read.start (r k : Nat) (l : List Nat) : Read r k l 0 [] := ⟨Nat.zero_le _, fun c hc => by simp at hc, Lm.Ok.nil _, Lm.Top.nil, rfl, Nat.zero_le _, .inl rfl⟩
theorem chunk_size {m k n : Nat} (hm : 0 < m) (hk : 0 < k) (hn : n = (m - 1) % k + 1) : n ≤ m ∧ n ≤ k ∧ 0 < n ∧ (m - n) % k = 0 ∧ (m % k = 0 → n = k) := by
  have h1 := Nat.mod_lt (m - 1) hk
  have h2 := Nat.mod_le (m - 1) k
  have h3 := Nat.div_add_mod (m - 1) k
  refine ⟨by omega, by omega, by omega, ?_, fun h => ?_⟩
  · rw [show m - n = k * ((m - 1) / k) from by omega]
    exact Nat.mul_mod_right _ _
  · have h4 := Nat.div_add_mod m k
    rw [h, Nat.add_zero] at h4
    refine Classical.byContradiction fun hne => ?_
    have h5 : (m - 1) % k + 1 < k := by omega
    have h6 : k * (m / k) = k * ((m - 1) / k) + n := by omega
    have h7 : (k * (m / k)) % k = (k * ((m - 1) / k) + n) % k := by rw [h6]
    rw [Nat.mul_mod_right, Nat.mul_add_mod, Nat.mod_eq_of_lt (by omega)] at h7
    omega
theorem Read.step {r k p n u P : Nat} {l ys zs : List Nat} (h : Read r k l p ys) (hk : 0 < k) (hP : P = r ^ k) (hp : p < l.length) (hn : n = (l.length - p - 1) % k + 1) (hpt : Part r (l.drop p) n u)
    (ho : Lm.Ok B32 zs) (ht : Lm.Top zs) (hv : Lm.val B32 zs = Lm.val B32 ys * P + u) (hz : zs.length ≤ ys.length + 1) : Read r k l (p + n) zs := by
  obtain ⟨c1, c2, c3, c4, c5⟩ := chunk_size (m := l.length - p) (by omega) hk hn
  have hta : l.take (p + n) = l.take p ++ (l.drop p).take n := List.take_add
  refine ⟨by omega, by rw [hta]; exact h.dig.append hpt.1, ho, ht, ?_, by have := h.len; omega, .inr (by rw [show l.length - (p + n) = l.length - p - n from by omega]; exact c4)⟩
  rw [hta, Tx.numOf_append, hpt.2, hv, h.num]
  have hln : ((l.drop p).take n).length = n := by rw [List.length_take, List.length_drop]; omega
  rw [hln]
  rcases h.first with h0 | h0
  · subst h0
    simp [Tx.numOf_nil]
  · rw [c5 h0, hP]
theorem Read.len_ok {r k p : Nat} {l ys : List Nat} (h : Read r k l p ys) (hl : l.length ≤ 20000) : ys.length ≤ 20000 := by have := h.le; have := h.len; omega

set_option maxRecDepth 100000 in
set_option maxHeartbeats 8000000 in
theorem parseDigits_any (s : ByteArray) (r : Nat) (w : World) (h2 : 2 ≤ r) (h36 : r ≤ 36) (hs : s.size ≤ 20000) : Calls Tryd.prog 26 #[.string s, .int .i64 r] w fun e w' => IsPar w w' r (Tx.bts s) e := by
  have k2 : (2 : Int) ≤ r := by omega
  have k36 : (r : Int) ≤ 36 := by omega
  have hck := chunk_any r w h2 h36
  have HK := Lib.hid hck
  have HR := Lib.hid (And.intro h2 h36)
  obtain ⟨l, hl⟩ : ∃ l, Tx.bts s = l := ⟨_, rfl⟩
  have hll : l.length = s.size := by rw [← hl, Tx.bts_length]
  have HL := Lib.hid (And.intro hl hll)
  rw [hl]
  clear hck h2 h36 hl hll
  go_enter Tryd.func26, Tryd.ntmps26
  go_wp2_with fail
  refine HK.out.mono ?_
  rintro e w1 ⟨k, P, rfl, hP, hk6, hk31, hP2, hPl, hb1⟩
  have hb1' := hb1.alloc hb1.size (.cells #[.int .i64 k, .int .u32 P] 94)
  have HP := Lib.hid (And.intro hP (And.intro hk6 (And.intro hk31 (And.intro hP2 hPl))))
  have hcells : Two (w1.alloc (.cells #[.int .i64 k, .int .u32 P] 94)) w1.heap.size (.int .i64 k) (.int .u32 P) := Two.new _ _ _ _
  have HC := Lib.hid (And.intro hcells (And.intro hb1' hb1.size))
  have hki : (k : Int) ≤ 31 := by omega
  have hkj : (6 : Int) ≤ k := by omega
  have hPi : (P : Int) ≤ 4294967295 := by omega
  have hPj : (2 : Int) ≤ (P : Int) := by omega
  clear hP hk6 hk31 hP2 hPl hcells hb1' hb1 HK
  go_upto_region 2 with fail
  obtain ⟨W1, hW1⟩ : ∃ W : World, W = w1.alloc (.cells #[.int .i64 k, .int .u32 P] 94) := ⟨_, rfl⟩
  obtain ⟨b1, hB1⟩ : ∃ b : Nat, b = w1.heap.size := ⟨_, rfl⟩
  rw [← hW1, ← hB1] at HC
  rw [← hW1, ← hB1]
  have hsz1 : b1 + 1 = W1.heap.size := by rw [hW1, hB1]; simp
  have HS := Lib.hid hsz1
  clear hW1 hB1 hsz1
  go_wp2
  go_loopw [0, 7] (fun sv lv wr => ∃ (p : Nat) (s' : ByteArray) (A : Option Addr) (c : Nat) (ys : List Nat), sv = .string s' ∧ lv = .slice A ys.length c ∧ s'.size ≤ 20000 ∧ Hid (Tx.bts s' = l.drop p ∧ Read r k l p ys ∧ wr.ownsRow (b1 + 1) 86 1 (.slice A ys.length c) ys.length (cellsOf .u32 ys) ∧ Below W1.heap.size W1 wr)) (fun sv _ _ => match sv with | .string s' => s'.size | _ => 0)
  case atStart => exact ⟨0, s, none, 0, [], rfl, rfl, hs, Lib.hid ⟨by rw [HL.out.1]; rfl, Read.start r k l, World.ownsRow_nil _ _ _ _, Below.refl _ _⟩⟩
  case round =>
    obtain ⟨p, s', A, c, ys, rfl, rfl, hs', HA⟩ := hrel
    have hsl : s'.size = l.length - p := by rw [← Tx.bts_length, HA.out.1, List.length_drop]
    have HSL := Lib.hid hsl
    clear hsl
    by_cases h0 : 0 < s'.size
    · obtain ⟨n0, hn0⟩ : ∃ n0, (s'.size - 1) % k = n0 := ⟨_, rfl⟩
      have hmod : ((s'.size : Int) - 1) % (k : Int) = (n0 : Int) := by
        rw [show ((s'.size : Int) - 1) = ((s'.size - 1 : Nat) : Int) from by omega, ← hn0]; simp
      have hcs := chunk_size (m := s'.size) (k := k) (n := n0 + 1) h0 (by have := HP.out.2.1; omega) (by rw [hn0])
      have hnm := hcs.1
      have hnk := hcs.2.1
      have HN := Lib.hid (And.intro hn0 hcs)
      obtain ⟨q0, q1⟩ := Two.step HC.out.1 HA.out.2.2.2 rfl (by have := HS.out; omega)
      have hk1 : ¬ (k : Int) = 0 := by omega
      clear hn0 hcs
      go_wp2
      rw [hmod]
      clear hmod
      go_loopw [9, 25] (fun uv iv wx => ∃ (i u : Nat), iv = .int .i64 i ∧ uv = .int .u32 u ∧ i ≤ n0 + 1 ∧ (u : Int) ≤ 4294967295 ∧ Hid (Part r (l.drop p) i u) ∧ wr = wx) (fun _ iv _ => n0 + 1 - (intOf iv).toNat)
      case atStart => exact ⟨0, 0, rfl, rfl, Nat.zero_le _, by omega, Lib.hid (Part.start r _), rfl⟩
      case round =>
        obtain ⟨i, u, rfl, rfl, hi, hu, HU, rfl⟩ := hrel
        by_cases hin : i < n0 + 1
        · have his : i < s'.size := by omega
          obtain ⟨d, hd⟩ : ∃ d, Tx.dig (s'[i].toNat) = d := ⟨_, rfl⟩
          have hdv := digitValue_any (s'[i].toNat) wr (UInt8.toNat_lt _)
          rw [hd] at hdv
          rw [Tx.bts_at s' i his, HA.out.1] at hd
          have hdl : d ≤ 36 := by rw [← hd]; exact Tx.dig_le _
          have HD := Lib.hid (And.intro hdv hd)
          clear hdv hd
          by_cases hdr : d < r
          · obtain ⟨q, hq⟩ : ∃ q, u * r = q := ⟨_, rfl⟩
            have hq' : (u : Int) * (r : Int) = (q : Int) := by rw [← hq, Int.natCast_mul]
            have hst := HU.out.step (by rw [List.length_drop, ← HSL.out]; exact his) HD.out.2 hdr
            rw [hq] at hst
            have hlt := hst.lt (k := k) (p := P) (by omega) (by omega) HP.out.1
            have hq1 : (q : Int) + (d : Int) ≤ 4294967295 := by omega
            have hq2 : (q : Int) ≤ 4294967295 := by omega
            have HST := Lib.hid hst
            clear hq hst hlt
            go_wp2_with fail
            refine HD.out.1.mono ?_
            rintro e w' ⟨rfl, rfl⟩
            go_wp2
            go_roundw
            case rel => exact ⟨i + 1, q + d, by go_num, by go_num, by omega, by omega, HST, trivial⟩
            case measure => simp [intOf]; omega
          · have hnd : ¬ Tx.AllDig r l := fun h => not_dig (l := l.drop p) (i := i) (r := r) (by rw [List.length_drop, ← HSL.out]; exact his) (by rw [HD.out.2]; omega) h.drop
            have HND := Lib.hid hnd
            clear hnd
            go_wp2_with fail
            refine HD.out.1.mono ?_
            rintro e w' ⟨rfl, rfl⟩
            go_wp2
            go_ret2
            exact .inr ⟨HND.out, rfl, below_then HC.out.2.1 HA.out.2.2.2⟩
        · obtain rfl : i = n0 + 1 := by omega
          have hma := multiplyAdd_any (b1 + 1) A c ys P u wr HA.out.2.2.1 HA.out.2.1.ok HA.out.2.1.top (by have := HA.out.2.1.len_ok (by have := HL.out.2; omega); omega) (by omega) (by omega) (by omega) (by have := HA.out.2.2.2.size; have := HS.out; omega)
          have HMA := Lib.hid hma
          clear hma
          go_wp2_with fail
          refine HMA.out.mono ?_
          rintro e w4 ⟨A4, c4, zs, rfl, hown4, ho4, ht4, hv4, hl4, hb4⟩
          have hst := HA.out.2.1.step (k := k) (n := n0 + 1) (P := P) (l := l) (by omega) HP.out.1 (by have := HSL.out; omega) (by rw [← HSL.out, HN.out.1]) HU.out ho4 ht4 hv4 hl4
          have hbt : Tx.bts (s'.extract (n0 + 1) s'.size) = l.drop (p + (n0 + 1)) := by
            rw [Tx.bts_extract, HA.out.1, ← Tx.bts_length, HA.out.1, List.take_of_length_le (Nat.le_refl _), List.drop_drop]
          have hsz4 : (s'.extract (n0 + 1) s'.size).size ≤ 20000 ∧ (s'.extract (n0 + 1) s'.size).size < s'.size := by rw [ByteArray.size_extract]; omega
          have hb5 : Below W1.heap.size W1 w4 := HA.out.2.2.2.trans (by rw [← HS.out]; exact hb4)
          have HG := Lib.hid (And.intro hst (And.intro hbt (And.intro hsz4 (And.intro hown4 hb5))))
          clear hst hbt hsz4 hown4 hb5 ho4 ht4 hv4 hl4 hb4
          go_wp2
          go_roundw
          case rel => exact ⟨p + (n0 + 1), _, A4, c4, zs, rfl, rfl, HG.out.2.2.1.1, Lib.hid ⟨HG.out.2.1, HG.out.1, HG.out.2.2.2.1, HG.out.2.2.2.2⟩⟩
          case measure => exact HG.out.2.2.1.2
    · have hz : l.drop p = [] := List.eq_nil_of_length_eq_zero (by rw [List.length_drop]; have := HSL.out; omega)
      have htk : l.take p = l := List.take_of_length_le (by have := HSL.out; have := HA.out.2.1.le; omega)
      have HT := Lib.hid htk
      clear hz htk
      go_wp2
      go_ret2
      have hrd := HA.out.2.1
      have hdg := hrd.dig
      have hnm := hrd.num
      rw [HT.out] at hdg hnm
      obtain ⟨A2, c2, e2, hle⟩ := own_form HA.out.2.2.1
      injection e2 with _ _ e3
      exact .inl ⟨hdg, A, c, ys, rfl, ⟨by omega, Nums.of_own HA.out.2.2.1 rfl, hrd.ok, hrd.top, hnm⟩, by have := hrd.len; have := hrd.le; omega, below_then HC.out.2.1 HA.out.2.2.2⟩
end Go.Proofs.YtllkajlmfbikhaaDoor
