/- What backwards of package integer does: the digits of a number, the last one first. -/
import Derived.Test.YtllkajlmfbikhaaDoorChunk
import Derived.Test.YtllkajlmfbikhaaDoorDivLimb
import Derived.Maps.AppendAt
namespace Go.Proofs.YtllkajlmfbikhaaDoor
open Go.RowKit

theorem infoTx : (Tryd.prog.info? 5).map (fun i => (i.zero, i.size, i.bytes)) = some (some (.int .u8 0), 1, 1) := by kernel_rfl

/-- Digits of n, the last one first, in a row of the call's own. -/
def IsBack (w w' : World) (r n L : Nat) (e : Ending) : Prop := ∃ v ds, e = .returned v ∧ w'.ownsRow w.heap.size 5 1 v ds.length (cellsOf .u8 (ds.map Tx.chr)) ∧ Lm.Ok r ds ∧ Lm.val r ds = n ∧ ds.length ≤ 31 * (32 * L + 1) ∧ Below w.heap.size w w'

theorem back_rounds {n m j L : Nat} (h : m * 2 ^ j ≤ n) (hm : 0 < m) (hn : n < B32 ^ L) : j ≤ 32 * L := by
  have h1 : 2 ^ j ≤ n := Nat.le_trans (Nat.le_mul_of_pos_left _ hm) h
  have h2 : (2 : Nat) ^ j < 2 ^ (32 * L) := by
    have : B32 ^ L = 2 ^ (32 * L) := by rw [Nat.pow_mul]; rfl
    omega
  have := (Nat.pow_lt_pow_iff_right (by decide : 1 < 2)).1 h2
  omega
theorem back_halve {n m j p : Nat} (h : m * 2 ^ j ≤ n) (hp : 2 ≤ p) : m / p * 2 ^ (j + 1) ≤ n := by
  have h1 : m / p ≤ m / 2 := Nat.div_le_div_left hp (by decide)
  have h2 : m / 2 * 2 ≤ m := Nat.div_mul_le_self m 2
  have h3 : m / p * 2 ≤ m := Nat.le_trans (Nat.mul_le_mul_right 2 h1) h2
  rw [Nat.pow_succ, ← Nat.mul_assoc, Nat.mul_right_comm]
  exact Nat.le_trans (Nat.mul_le_mul_right _ h3) h
theorem back_less {m p : Nat} (hm : 0 < m) (hp : 2 ≤ p) : m / p < m := Nat.div_lt_self hm hp

/-- The digits of the rest so far. -/
def Low (r rest : Nat) (i : Nat) (es : List Nat) : Prop := es.length = i ∧ Lm.Ok r es ∧ Lm.val r es + r ^ i * (rest / r ^ i) = rest
theorem Low.zero (r rest : Nat) : Low r rest 0 [] := ⟨rfl, Lm.Ok.nil _, by simp [Lm.val]⟩
theorem Low.succ {r rest i u : Nat} {es : List Nat} (h : Low r rest i es) (hu : rest / r ^ i = u) (hr : 0 < r) : Low r rest (i + 1) (es ++ [u % r]) ∧ rest / r ^ (i + 1) = u / r := by
  obtain ⟨h1, h2, h3⟩ := h
  have hd : rest / r ^ (i + 1) = u / r := by rw [Nat.pow_succ, ← Nat.div_div_eq_div_mul, hu]
  refine ⟨⟨by simp [h1], h2.append (Lm.Ok.cons (Nat.mod_lt _ hr) (Lm.Ok.nil _)), ?_⟩, hd⟩
  rw [hd, Lm.val_snoc, h1]
  rw [hu] at h3
  have hm := Nat.div_add_mod u r
  have : r ^ i * u = r ^ i * (r * (u / r)) + r ^ i * (u % r) := by rw [← Nat.mul_add, hm]
  rw [Nat.pow_succ, Nat.mul_assoc]
  omega
theorem Low.end_ {r rest k p : Nat} {es : List Nat} (h : Low r rest k es) (hp : p = r ^ k) (hl : rest < p) : Lm.val r es = rest := by
  have h3 := h.2.2
  rw [Nat.div_eq_of_lt (by rw [← hp]; exact hl), Nat.mul_zero, Nat.add_zero] at h3
  exact h3

/-- A quotient in a block of the call's own, and a rest of one limb. -/
def IsQuoN (w w' : World) (n y : Nat) (e : Ending) : Prop := ∃ c zs, e = .returned (.tuple #[.slice (some ⟨w.heap.size, 0, none⟩) zs.length c, .int .u32 ((n % y : Nat) : Int)]) ∧ Limbs w' (some ⟨w.heap.size, 0, none⟩) c zs (n / y) ∧ Below w.heap.size w w'

set_option maxRecDepth 100000 in
set_option maxHeartbeats 1000000 in
theorem divideByLimb_new (A : Option Addr) (c : Nat) (xs : List Nat) (y : Nat) (w : World) (hx : Nums w .u32 A xs) (ox : Lm.Ok B32 xs) (hl : xs.length ≤ 900000) (hy0 : 0 < y) (hy : y < 4294967296) :
    Calls Tryd.prog 51 #[.slice A xs.length c, .int .u32 y] w fun e w' => IsQuoN w w' (Lm.val B32 xs) y e := by
  obtain ⟨i0, hi0, hz0, hz1, hz2⟩ := info_parts Tryd.info86
  have HI := Lib.hid (And.intro hi0 (And.intro hz0 (And.intro hz1 hz2)))
  have HM := Lib.hid (show i0.bytes * xs.length ≤ 281474976710656 ∧ xs.length ≤ maxLen from ⟨by rw [hz2]; omega, by unfold maxLen; omega⟩)
  clear hi0 hz0 hz1 hz2
  go_enter Tryd.func51, Tryd.ntmps51
  go_wp2_with (at_make; go_loud (refine wpList_make_full _ rfl _ _ 22 rfl w.heap.size 86 i0 (.int .u32 0) 1 Tryd.underlying22 HI.out.1 HI.out.2.1 HI.out.2.2.1 _ _ _ _ xs.length rfl rfl (by omega) (by omega) HM.out.1 HM.out.2 (Nat.le_refl _) ?_); intro w1 hown1 hg1; rw [made_zero] at hown1; have HB := Lib.hid (own_block hown1); have hb1 : Below w.heap.size w w1 := (Below.refl _ _).grown hg1 (Nat.le_refl _) (fun k hk => by cases hk); clear hown1)
  have hz0 : Seg w1 w.heap.size 0 .u32 86 _ (List.replicate xs.length 0) := seg_of_block HB.out
  have hx1 := hx.below hb1
  have hoffx : 0 < xs.length → Off A w.heap.size := fun hn => off_below hx hn (Nat.le_refl _)
  clear hx HB HI HM
  go_loopw [7, 8] (fun rv iv wr => ∃ (i r : Nat) (zs : List Nat), iv = .int .i64 ((i : Int) - 1) ∧ rv = .int .u32 r ∧ i ≤ xs.length ∧ Quo xs zs y i r ∧ SegTo wr w.heap.size 0 .u32 86 (cellsOf .u32 (List.replicate xs.length 0)).toArray zs ∧ w1.grownBy wr (some w.heap.size)) (fun _ iv _ => (intOf iv + 1).toNat)
  case atStart =>
    exact ⟨xs.length, 0, _, rfl, rfl, Nat.le_refl _, ⟨by simp, Lm.Ok.zeros B32_pos _, by simp [Lm.val], hy0⟩, .refl hz0, World.grownBy.refl _ _⟩
  case round =>
    obtain ⟨i, r, zs, rfl, rfl, hi, hquo, hseg, hgr⟩ := hrel
    by_cases h0 : 0 < i
    · obtain ⟨j, rfl⟩ : ∃ j, i = j + 1 := ⟨i - 1, by omega⟩
      rw [show (((j + 1 : Nat) : Int) - 1) = (j : Int) from by omega]
      have hxr := hx1.grown hgr hoffx
      obtain ⟨ax, rfl, _, hcell⟩ := hxr.at_ (j := j) (by omega)
      have hcx := hcell j (by omega)
      have hxl := limb_lt ox j
      obtain ⟨x, hxd⟩ : ∃ x, xs.getD j 0 = x := ⟨_, rfl⟩
      rw [hxd] at hcx hxl
      obtain ⟨cur', hs1, hs2, hs3⟩ := id hseg
      have hcz := hs1.cell (j := j) (by rw [hquo.len]; omega)
      have hfz := hs1.frozen (0 + j)
      simp only [Nat.zero_add] at hcz hfz
      have hrl := hquo.rest
      have HD := Lib.hid hxd
      clear hxd hs1 hs2 hs3 hcell hz0
      go_wp2_with fail
      refine (div32_any r x y _ hxl hy hrl).mono ?_
      rintro e w' ⟨⟨n, rfl⟩, rfl⟩
      go_wp2
      go_roundw
      case rel =>
        refine ⟨j, _, _, rfl, rfl, by omega, quo_step hquo (by omega) HD.out hxl hy, ?_, ?_⟩
        · exact (hseg.drewN n).set0 (j := j) (by rw [hquo.len]; omega) _
        · exact grown_trans (grown_drewN hgr n) (grown_store (wr.drewN n) _ _ _)
      case measure => simp [intOf]
    · obtain rfl : i = 0 := by omega
      obtain ⟨hnum, rfl⟩ := quo_end hquo
      have htr := trim_any (some ⟨w.heap.size, 0, none⟩) xs.length zs wr (by obtain ⟨cur', hs1, _⟩ := hseg; exact hs1.nums) (by rw [hquo.len]; omega) (by rw [hquo.len]; exact Nat.le_refl _)
      rw [hquo.len] at htr
      have HT := Lib.hid (And.intro htr hnum)
      clear htr hnum
      go_wp2_with fail
      refine HT.out.1.mono ?_
      rintro e w4 ⟨rfl, k, rfl, hk, hz, hp⟩
      have HP := Lib.hid (And.intro hk (And.intro hz hp))
      clear hk hz hp
      go_wp2
      go_ret2
      obtain ⟨A3, c3, zs3, he, hl3, hb3⟩ := lims_of_trim (w := w) (n := Lm.val B32 xs / y) ⟨k, rfl, HP.out⟩ (by obtain ⟨cur', hs1, _⟩ := hseg; exact hs1.nums) hquo.ok (by rw [hquo.len]; exact Nat.le_refl _) HT.out.2 (hb1.trans (grown_below hgr (Nat.le_refl _) hb1.size))
      injection he with he
      injection he with h1 h2 h3
      subst h1
      exact ⟨c3, zs3, by rw [← h2, ← h3]; rfl, hl3, hb3⟩

theorem own_kept {w w' : World} {base : Nat} {e : TypeId} {size n : Nat} {v : Value} {xs : List Value} (h : w.ownsRow base e size v n xs) (hb : Below w.heap.size w w') : w'.ownsRow base e size v n xs :=
  h.kept (below_grown hb none) (by cases v.ownBlock <;> simp)

theorem own_down {w : World} {B B' : Nat} {e : TypeId} {size n : Nat} {v : Value} {xs : List Value} (h : w.ownsRow B' e size v n xs) (hB : B ≤ B') : w.ownsRow B e size v n xs :=
  ⟨h.1, h.2.imp id fun ⟨g, cap, cur, h1, h2, h3⟩ => ⟨g, cap, cur, h1, Nat.le_trans hB h2, h3⟩⟩
theorem Limbs.grown_to {w w' : World} {A : Option Addr} {c n : Nat} {zs : List Nat} {row : Option Nat} (h : Limbs w A c zs n) (hg : w.grownBy w' row) (ho : ∀ ad, A = some ad → row ≠ some ad.block) : Limbs w' A c zs n := by
  refine ⟨h.1, fun hn => ?_, h.2.2⟩
  obtain ⟨ad, e, hb, hc⟩ := h.2.1 hn
  refine ⟨ad, e, Nat.lt_of_lt_of_le hb hg.size, fun j hj => ?_⟩
  rw [← hc j hj]
  exact World.cell?_of_block (hg.block _ (by rw [block_of_add]; exact hb) (fun h' => by rw [block_of_add] at h'; exact ho ad e h'.symm))
theorem Limbs.alloc {w : World} {A : Option Addr} {c n : Nat} {zs : List Nat} (h : Limbs w A c zs n) (o : Obj) : Limbs (w.alloc o) A c zs n := ⟨h.1, h.2.1.alloc o, h.2.2⟩

/-- The digits told so far, and what is left. -/
def Back (r n m j k : Nat) (ds : List Nat) : Prop := Lm.Ok r ds ∧ Lm.val r ds + r ^ ds.length * m = n ∧ m * 2 ^ j ≤ n ∧ ds.length = k * j
theorem Back.zero (r n k : Nat) : Back r n n 0 k [] := ⟨Lm.Ok.nil _, by simp [Lm.val], by simp, rfl⟩
theorem Back.succ {r n m j k p : Nat} {ds es : List Nat} (h : Back r n m j k ds) (hp : p = r ^ k) (hp2 : 2 ≤ p) (he : Low r (m % p) k es) : Back r n (m / p) (j + 1) k (ds ++ es) := by
  obtain ⟨h1, h2, h3, h4⟩ := h
  refine ⟨h1.append he.2.1, ?_, back_halve h3 hp2, by rw [List.length_append, h4, he.1, Nat.mul_succ]⟩
  rw [Lm.val_append, he.end_ hp (Nat.mod_lt _ (by omega)), List.length_append, he.1, Nat.pow_add, ← hp, ← h2]
  have hm := Nat.div_add_mod m p
  have : r ^ ds.length * m = r ^ ds.length * (p * (m / p)) + r ^ ds.length * (m % p) := by rw [← Nat.mul_add, hm]
  rw [Nat.mul_assoc]
  omega
theorem Back.room {r n m j k L : Nat} {ds : List Nat} (h : Back r n m j k ds) (hm : 0 < m) (hn : n < B32 ^ L) (hk : k ≤ 31) : ds.length + 31 ≤ 31 * (32 * L + 1) := by
  have h1 := back_rounds h.2.2.1 hm hn
  have h2 : ds.length ≤ 31 * j := by rw [h.2.2.2]; exact Nat.mul_le_mul_right _ hk
  omega

/-- The digits' bytes. -/
def digitBytes : ByteArray := ⟨#[48, 49, 50, 51, 52, 53, 54, 55, 56, 57, 65, 66, 67, 68, 69, 70, 71, 72, 73, 74, 75, 76, 77, 78, 79, 80, 81, 82, 83, 84, 85, 86, 87, 88, 89, 90]⟩
theorem digit_byte : ∀ d : Fin 36, (digitBytes.data[d.val]'(by have := d.isLt; exact this)).toNat = Tx.chr d.val := by decide
theorem digit_at (d : Nat) (h : d < digitBytes.size) : (digitBytes[d]'h).toNat = Tx.chr d := digit_byte ⟨d, h⟩

set_option maxRecDepth 100000 in
set_option maxHeartbeats 4000000 in
theorem backwards_any (A : Option Addr) (c r n L : Nat) (xs : List Nat) (w : World) (h : Limbs w A c xs n) (h2 : 2 ≤ r) (h36 : r ≤ 36) (hL : n < B32 ^ L) (hl : L ≤ 20000) :
    Calls Tryd.prog 24 #[.slice A xs.length c, .int .i64 r] w fun e w' => IsBack w w' r n L e := by
  obtain ⟨i0, hi0, hz0, hz1, hz2⟩ := info_parts infoTx
  have HI := Lib.hid (And.intro hi0 (And.intro hz0 (And.intro hz1 hz2)))
  have hxl : xs.length ≤ L := h.len hL
  have HR := Lib.hid (And.intro h2 (And.intro h36 (And.intro hL (And.intro hl hxl))))
  have k2 : (2 : Int) ≤ r := by omega
  have k36 : (r : Int) ≤ 36 := by omega
  have hck := chunk_any r w h2 h36
  have HK := Lib.hid hck
  clear hi0 hz0 hz1 hz2 h2 h36 hL hl hxl hck
  have HH := Lib.hid h
  clear h
  go_enter Tryd.func24, Tryd.ntmps24
  go_wp2_with fail
  refine HK.out.mono ?_
  rintro e w1 ⟨k, p, rfl, hp, hk6, hk31, hp2, hpl, hb1⟩
  have hb1' := hb1.alloc hb1.size (.cells #[.int .i64 k, .int .u32 p] 94)
  have hl1 := HH.out.below hb1'
  have HP := Lib.hid (And.intro hp (And.intro hk6 (And.intro hk31 (And.intro hp2 hpl))))
  have hcells : Two (w1.alloc (.cells #[.int .i64 k, .int .u32 p] 94)) w1.heap.size (.int .i64 k) (.int .u32 p) := Two.new _ _ _ _
  have hw1 : w.heap.size ≤ w1.heap.size := hb1.size
  have HC := Lib.hid (And.intro hcells (And.intro hb1' hl1))
  have hki : (k : Int) ≤ 31 := by omega
  have hpi : (p : Int) ≤ 4294967295 := by omega
  have hpj : (2 : Int) ≤ (p : Int) := by omega
  clear hp hk6 hk31 hp2 hpl hcells hb1' hl1 hb1 HK HH
  go_upto_region 2 with fail
  obtain ⟨W1, hW1⟩ : ∃ W : World, W = w1.alloc (.cells #[.int .i64 k, .int .u32 p] 94) := ⟨_, rfl⟩
  obtain ⟨b1, hB1⟩ : ∃ b : Nat, b = w1.heap.size := ⟨_, rfl⟩
  rw [← hW1, ← hB1] at HC
  rw [← hB1] at hw1
  rw [← hW1, ← hB1]
  have hsz1 : b1 + 1 = W1.heap.size := by rw [hW1, hB1]; simp
  have HS := Lib.hid hsz1
  clear hW1 hB1 hsz1
  go_wp2
  go_loopg [0, 6] n (fun m xv tv wr => ∃ (j : Nat) (A' : Option Addr) (c' : Nat) (zs ds : List Nat), xv = .slice A' zs.length c' ∧ Hid (Limbs wr A' c' zs m ∧ zs.length ≤ L) ∧ Hid (Back r n m j k ds ∧ ds.length ≤ 31 * (32 * L + 1)) ∧ wr.ownsRow (b1 + 1) 5 1 tv ds.length (cellsOf .u8 (ds.map Tx.chr)) ∧ Hid (Below W1.heap.size W1 wr))
  case atStart => exact ⟨0, A, c, xs, [], rfl, Lib.hid ⟨HC.out.2.2, HR.out.2.2.2.2⟩, Lib.hid ⟨Back.zero r n k, Nat.zero_le _⟩, World.ownsRow_nil _ _ _ _, Lib.hid (Below.refl _ _)⟩
  case round =>
    obtain ⟨j, A', c', zs, ds, rfl, HL, HB, hown, HW⟩ := hrel
    obtain ⟨At, ct, rfl, hle⟩ := own_form hown
    by_cases h0 : 0 < zs.length
    · have hm : 0 < gk := by
        rw [← HL.out.1.2.2.2.2]
        exact Lm.val_pos B32_pos h0 HL.out.1.2.2.2.1
      have hroom := HB.out.1.room hm HR.out.2.2.1 HP.out.2.2.1
      have hL2 := HR.out.2.2.2.1
      have hdsl : ds.length ≤ 20000000 := by omega
      have hd := divideByLimb_new A' c' zs p wr HL.out.1.2.1 HL.out.1.2.2.1 (by have := HL.out.2; omega) (by have := HP.out.2.2.2.1; omega) (by have := HP.out.2.2.2.2; omega)
      rw [HL.out.1.2.2.2.2] at hd
      have HD := Lib.hid (And.intro hd hroom)
      have HM := Lib.hid hm
      obtain ⟨q0, q1⟩ := Two.step HC.out.1 HW.out rfl (by have := HS.out; omega)
      clear hd hm hroom hL2 hle
      obtain ⟨bq, hbqe⟩ : ∃ bq, bq = wr.heap.size := ⟨_, rfl⟩
      have hlt := fun q hq => (hown.lt q hq).2
      rw [← hbqe] at hlt
      rw [hbqe] at hlt
      have HLT := Lib.hid hlt
      clear hlt
      go_wp2_with fail
      refine HD.out.1.mono ?_
      rintro e w3 ⟨cq, zq, rfl, hq, hbq⟩
      rw [← hbqe] at hq
      rw [← hbqe]
      have hown3 := own_kept hown hbq
      have hW3 := HW.out.trans (hbq.mono HW.out.size)
      have hql : zq.length ≤ L := Nat.le_trans (hq.len (m := zs.length) (Nat.lt_of_le_of_lt (Nat.div_le_self _ _) (by rw [← HL.out.1.2.2.2.2]; exact Lm.val_lt HL.out.1.2.2.1))) HL.out.2
      have hbl : bq < w3.heap.size ∨ zq = [] := by
        rcases Nat.eq_zero_or_pos zq.length with e0 | e0
        · exact .inr (List.eq_nil_of_length_eq_zero e0)
        · obtain ⟨ad, he, hlt, _⟩ := hq.2.1 e0
          injection he with he
          subst he
          exact .inl hlt
      have hoff : (Value.slice At ds.length ct).ownBlock ≠ some bq := fun e1 => by
        have := HLT.out bq e1
        omega
      have HQ := Lib.hid (And.intro hq (And.intro hql (And.intro hbl hoff)))
      obtain ⟨rest, hrest⟩ : ∃ rest, gk % p = rest := ⟨_, rfl⟩
      have hrl : rest ≤ 4294967295 := by have := Nat.mod_lt gk (show 0 < p by have := HP.out.2.2.2.1; omega); have := HP.out.2.2.2.2; omega
      rw [hrest]
      have HRE := Lib.hid (And.intro hrest hrl)
      obtain ⟨z0, z1⟩ := Two.step HC.out.1 hW3 rfl (by have := HS.out; omega)
      have HW3 := Lib.hid hW3
      clear q0 q1 hown hq hql hbl hoff hbq hrest hrl h0 hW3 hbqe
      go_wp2
      go_loopw [6, 8, 24] (fun tv rv iv wr => ∃ (i u : Nat) (es fs : List Nat), iv = .int .i64 i ∧ rv = .int .u32 u ∧ (u : Int) ≤ 4294967295 ∧ i ≤ k ∧ Hid (fs = ds ++ es ∧ Low r rest i es ∧ rest / r ^ i = u) ∧ wr.ownsRow (b1 + 1) 5 1 tv fs.length (cellsOf .u8 (fs.map Tx.chr)) ∧ Hid (Below W1.heap.size W1 wr ∧ Limbs wr (some ⟨bq, 0, none⟩) cq zq (gk / p) ∧ (zq = [] ∨ (bq < wr.heap.size ∧ tv.ownBlock ≠ some bq)))) (fun _ _ iv _ => k - (intOf iv).toNat)
      case atStart => exact ⟨0, rest, [], ds, rfl, rfl, by have := HRE.out.2; omega, Nat.zero_le _, Lib.hid ⟨by simp, Low.zero r rest, by simp⟩, hown3, Lib.hid ⟨HW3.out, HQ.out.1, HQ.out.2.2.1.elim (fun h => .inr ⟨h, HQ.out.2.2.2⟩) .inl⟩⟩
      case round =>
        clear hown3 z0 z1
        obtain ⟨i, u, es, fs, rfl, rfl, hu, hi, HLo, hown, HWi⟩ := hrel
        obtain ⟨At2, ct2, rfl, hle⟩ := own_form hown
        have hel : es.length = i := HLo.out.2.1.1
        have hlen : fs.length ≤ 20000031 := by rw [HLo.out.1, List.length_append]; omega
        have HEL := Lib.hid hel
        clear hel hle
        by_cases hik : i < k
        · obtain ⟨d, hd⟩ : ∃ d, u % r = d := ⟨_, rfl⟩
          obtain ⟨t, ht⟩ : ∃ t, u / r = t := ⟨_, rfl⟩
          have hr0 := HR.out.1
          have hdr : d < r := by rw [← hd]; exact Nat.mod_lt _ (by omega)
          have hr36 := HR.out.2.1
          have hd35 : (d : Int) ≤ 35 := by omega
          have hmod : (u : Int) % (r : Int) = (d : Int) := by rw [← hd]; simp
          have hdiv : (u : Int) / (r : Int) = (t : Int) := by rw [← ht]; simp
          have htl : t ≤ u := by rw [← ht]; exact Nat.div_le_self _ _
          have htl4 : (t : Int) ≤ 4294967295 := by omega
          have HDT := Lib.hid (And.intro hd (And.intro ht (And.intro hdr htl)))
          clear hd ht hdr hr0 hr36 htl
          have hsz : b1 + 1 ≤ wr.heap.size := by have := HWi.out.1.size; have := HS.out; omega
          go_wp2_with (at_builtin; refine wpList_append_own_at _ rfl _ _ 57 rfl (b1 + 1) 5 i0 (.int .u8 0) 1 1 Tryd.underlying57 HI.out.1 HI.out.2.1 HI.out.2.2.1 HI.out.2.2.2 rfl (by decide) _ fs.length (cellsOf .u8 (fs.map Tx.chr)) rfl (hown.alloc _) ⟨wr.heap.size, 0, none⟩ 1 1 [_] rfl rfl (cell_one_new _ _ _) (by simp [Value.oneCell']) (by unfold maxLen; omega) (by omega) (by simp; omega) ?_; intro v1 w4 hown1 hg1 _ hat1)
          go_roundw
          case rel =>
            obtain ⟨hlow, hdv⟩ := HLo.out.2.1.succ HLo.out.2.2 (by have := HR.out.1; omega)
            rw [HDT.out.1] at hlow
            rw [HDT.out.2.1] at hdv
            have hbel : Below W1.heap.size W1 w4 := (HWi.out.1.alloc HWi.out.1.size _).grown hg1 (by have := HWi.out.1.size; simp; omega) (fun q hq => by have := (hown.lt q hq).1; have := HS.out; omega)
            have e1 : cellsOf .u8 ((fs ++ [d]).map Tx.chr) = cellsOf .u8 (fs.map Tx.chr) ++ [.int .u8 ((Tx.chr d : Nat) : Int)] := by simp [cellsOf]
            have hsz2 : wr.heap.size + 1 ≤ w4.heap.size := by have := hg1.size; simpa using this
            refine ⟨i + 1, t, es ++ [d], fs ++ [d], by go_num, rfl, by have := HDT.out.2.2.2; omega, by omega, Lib.hid ⟨by rw [HLo.out.1, List.append_assoc], hlow, hdv⟩, ?_, Lib.hid ⟨hbel, ?_, ?_⟩⟩
            · rw [e1, List.length_append, List.length_singleton, ← digit_at d (by show d < 36; omega)]
              exact hown1
            · rcases HWi.out.2.2 with hb | ⟨hb, ho⟩
              · have hz := HWi.out.2.1
                rw [hb] at hz ⊢
                exact ⟨hz.1, Nums.nil _ _ _, hz.2.2⟩
              · exact (HWi.out.2.1.alloc _).grown_to hg1 (fun ad he e2 => by injection he with he; subst he; exact ho e2)
            · rcases HWi.out.2.2 with hb | ⟨hb, ho⟩
              · exact .inl hb
              · refine .inr ⟨by omega, ?_⟩
                rcases hat1 with h1 | h1
                · rw [h1]; exact ho
                · rw [h1]; intro e2; injection e2 with e2; simp at e2; omega
          case measure => simp [intOf]; omega
        · obtain rfl : i = k := by omega
          go_wp2
          go_roundg (gk / p)
          case rel =>
            have hp2 := HP.out.2.2.2.1
            have hlow := HLo.out.2.1
            rw [← HRE.out.1] at hlow
            refine ⟨j + 1, _, cq, zq, fs, rfl, Lib.hid ⟨HWi.out.2.1, HQ.out.2.1⟩, Lib.hid ⟨?_, ?_⟩, hown, Lib.hid HWi.out.1⟩
            · rw [HLo.out.1]; exact HB.out.1.succ HP.out.1 hp2 hlow
            · rw [HLo.out.1, List.length_append, HEL.out]; have := HD.out.2; have := HP.out.2.2.1; omega
          case measure => exact back_less HM.out HP.out.2.2.2.1
    · have hz : zs = [] := List.eq_nil_of_length_eq_zero (by omega)
      have hm : gk = 0 := by rw [← HL.out.1.2.2.2.2, hz]; rfl
      subst hz
      clear hle
      go_wp2
      go_ret
      refine ⟨_, ds, rfl, own_down hown (by omega), HB.out.1.1, ?_, HB.out.2, below_then HC.out.2.1 HW.out⟩
      have := HB.out.1.2.1
      rw [hm] at this
      simpa using this
end Go.Proofs.YtllkajlmfbikhaaDoor
