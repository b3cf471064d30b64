/- What Parse of package integer does. -/
import Derived.Test.YtllkajlmfbikhaaDoorParseP
import Derived.Test.YtllkajlmfbikhaaDoorBaseB
import Derived.Test.YtllkajlmfbikhaaDoorDivide
namespace Go.Proofs.YtllkajlmfbikhaaDoor
open Go.RowKit
set_option linter.unusedSimpArgs false

def IsIE (w w' : World) (z k : Int) (e : Ending) : Prop := ∃ v, e = .returned (.tuple #[v, .int .i64 k]) ∧ IntAt w' v z ∧ Below w.heap.size w w'
theorem intE_stored {w w2 : World} {r : Nat} {s : Bool} {A : Option Addr} {c : Nat} {zs : List Nat} {z k : Int} (hk : Res w2 r) (hs : SignOf s z) (hl : Limbs w2 A c zs z.natAbs) (hb : Below w.heap.size w w2) (hr : w.heap.size ≤ r) :
    IsIE w ((w2.setCell ⟨r, 0, none⟩ (.bool s)).setCell ⟨r, 1, none⟩ (.slice A zs.length c)) z k (.returned (.tuple #[.agg #[.bool s, .slice A zs.length c], .int .i64 k])) := by
  obtain ⟨v5, he5, hi5, hb5⟩ := res_stored hk hs hl hb hr
  injection he5 with he5
  subst he5
  exact ⟨_, rfl, hi5, hb5⟩

theorem zero_int (w : World) : IntAt w (.agg #[.bool false, .slice none 0 0]) 0 := ⟨false, none, 0, [], rfl, by simp [SignOf], ⟨Nat.le_refl _, Nums.nil _ _ _, Lm.Ok.nil _, Lm.Top.nil, rfl⟩⟩
theorem ne_empty {s : ByteArray} (h : 0 < s.size) : s.toList.isEmpty = false := by
  have hl := ByteArray.toList_eq s
  rw [hl]
  cases h1 : s.data.toList with
  | nil => exfalso; have : s.data.toList.length = s.size := Array.length_toList; rw [h1] at this; simp at this; omega
  | cons a l => rfl
theorem is_empty {s : ByteArray} (h : s.size = 0) : s.toList.isEmpty = true := by
  rw [ByteArray.toList_eq s]
  have : s.data.toList.length = s.size := Array.length_toList
  rw [List.eq_nil_of_length_eq_zero (this.trans h)]; rfl
set_option maxRecDepth 100000 in
set_option maxHeartbeats 8000000 in
theorem parse_radix (s : ByteArray) (r : Int) (w : World) (hr : r < 2 ∨ 36 < r) :
    Calls Tryd.prog 8 #[.string s, .int .i64 r] w fun e w' => IsIE w w' 0 1 e := by
  have hb0 : Below w.heap.size w (w.alloc (.cells #[.bool false, .slice none 0 0] 28)) := (Below.refl _ _).alloc (Nat.le_refl _) _
  have hR := Res.new w 28
  have hrd := radix_no r (w.alloc (.cells #[.bool false, .slice none 0 0] 28)) hr
  have H := Lib.hid (And.intro hrd (And.intro hR hb0))
  clear hrd hR hb0 hr
  go_enter Tryd.func8, Tryd.ntmps8
  go_wp2_with fail
  refine H.out.1.mono ?_
  rintro e w' ⟨rfl, rfl⟩
  obtain ⟨⟨hr0, hr1⟩, hf0, hf1⟩ := id H.out.2.1
  go_wp2
  refine bodyPost_ret (v := .tuple #[.agg #[.bool false, .slice none 0 0], .int .i64 1]) (by simp [results, Tryd.results8, go_sem]) rfl ?_
  exact ⟨_, rfl, zero_int _, H.out.2.2⟩

set_option maxRecDepth 100000 in
set_option maxHeartbeats 8000000 in
theorem parse_empty (s : ByteArray) (r : Nat) (w : World) (h2 : 2 ≤ r) (h36 : r ≤ 36) (h0 : s.size = 0) :
    Calls Tryd.prog 8 #[.string s, .int .i64 r] w fun e w' => IsIE w w' 0 2 e := by
  have hb0 : Below w.heap.size w (w.alloc (.cells #[.bool false, .slice none 0 0] 28)) := (Below.refl _ _).alloc (Nat.le_refl _) _
  have hR := Res.new w 28
  have hrd := radix_yes r (w.alloc (.cells #[.bool false, .slice none 0 0] 28)) h2 h36
  have H := Lib.hid (And.intro hrd (And.intro hR hb0))
  have hemp := is_empty h0
  clear hrd hR hb0 h2 h36
  go_enter Tryd.func8, Tryd.ntmps8
  go_wp2_with fail
  refine H.out.1.mono ?_
  rintro e w' ⟨rfl, rfl⟩
  obtain ⟨⟨hr0, hr1⟩, hf0, hf1⟩ := id H.out.2.1
  go_wp2
  refine bodyPost_ret (v := .tuple #[.agg #[.bool false, .slice none 0 0], .int .i64 2]) (by simp [results, Tryd.results8, go_sem]) rfl ?_
  exact ⟨_, rfl, zero_int _, H.out.2.2⟩

set_option maxRecDepth 100000 in
set_option maxHeartbeats 8000000 in
theorem parse_plain (s : ByteArray) (r : Nat) (w : World) (h2 : 2 ≤ r) (h36 : r ≤ 36) (hs : s.size ≤ 20000) (h0 : 0 < s.size) (hm : s[0].toNat ≠ 45) (hp : s[0].toNat ≠ 43) :
    Calls Tryd.prog 8 #[.string s, .int .i64 r] w fun e w' => (Tx.AllDig r (Tx.bts s) ∧ IsIE w w' (ofSign false (Tx.numOf r (Tx.bts s))) 0 e) ∨ (¬ Tx.AllDig r (Tx.bts s) ∧ IsIE w w' 0 2 e) := by
  have hb0 : Below w.heap.size w (w.alloc (.cells #[.bool false, .slice none 0 0] 28)) := (Below.refl _ _).alloc (Nat.le_refl _) _
  have hR := Res.new w 28
  have hrd := radix_yes r (w.alloc (.cells #[.bool false, .slice none 0 0] 28)) h2 h36
  have hpd := parseDigits_any s r (w.alloc (.cells #[.bool false, .slice none 0 0] 28)) h2 h36 hs
  have hsl : (Tx.bts s).length ≤ 20000 := by rw [Tx.bts_length]; exact hs
  have H := Lib.hid (And.intro hrd (And.intro hR (And.intro hb0 hpd)))
  have hm' : ((s[0].toNat : Int) == 45) = false := by simp; omega
  have hp' : ((s[0].toNat : Int) == 43) = false := by simp; omega
  have hne := ne_empty h0
  clear hrd hR hb0 h2 h36 hpd hm hp
  go_enter Tryd.func8, Tryd.ntmps8
  go_wp2_with fail
  refine H.out.1.mono ?_
  rintro e w' ⟨rfl, rfl⟩
  obtain ⟨⟨hr0, hr1⟩, hf0, hf1⟩ := id H.out.2.1
  go_wp2_with fail
  refine H.out.2.2.2.mono ?_
  rintro e w1 (⟨hdig, A1, c1, ys, rfl, hl1, hyl, hb1⟩ | ⟨hdig, rfl, hb1⟩)
  · have r1 := H.out.2.1.step hb1 rfl (by simp)
    obtain ⟨⟨kr0, kr1⟩, kf0, kf1⟩ := id r1
    have hb2 := below_then H.out.2.2.1 hb1
    have hsg := signed_any false A1 c1 ys w1 hl1.2.1 hl1.2.2.1 (by omega) hl1.1
    rw [hl1.2.2.2.2] at hsg
    have HG := Lib.hid (And.intro hsg (And.intro r1 (And.intro hb2 hdig)))
    have hz1 := hb1.size
    rw [size_alloc] at hz1
    clear hsg r1 hb1 hb2 hdig hl1 hyl hr0 hr1 hf0 hf1
    go_wp2_with fail
    refine HG.out.1.mono ?_
    rintro e w2 ⟨v2, rfl, ⟨b2, A2, c2, zs2, rfl, hs2, hl2⟩, hb2⟩
    have r2 := HG.out.2.1.step hb2 rfl (by omega)
    obtain ⟨⟨hr0, hr1⟩, hf0, hf1⟩ := id r2
    have b4 := below_then HG.out.2.2.1 hb2
    go_wp2
    have q := r2.1.stored (.bool b2) (.slice A2 zs2.length c2)
    obtain ⟨q0, q1⟩ := id q
    refine bodyPost_ret (v := .tuple #[.agg #[.bool b2, .slice A2 zs2.length c2], .int .i64 0]) (by simp [results, Tryd.results8, go_sem, q0, q1]) rfl ?_
    exact .inl ⟨HG.out.2.2.2, intE_stored r2 hs2 hl2 b4 (by omega)⟩
  · have r1 := H.out.2.1.step hb1 rfl (by simp)
    obtain ⟨⟨kr0, kr1⟩, kf0, kf1⟩ := id r1
    have hb2 := below_then H.out.2.2.1 hb1
    have HG := Lib.hid (And.intro r1 (And.intro hb2 hdig))
    clear r1 hb1 hb2 hdig hr0 hr1 hf0 hf1
    go_wp2
    have q := HG.out.1.1.stored (.bool false) (.slice none 0 0)
    obtain ⟨q0, q1⟩ := id q
    refine bodyPost_ret (v := .tuple #[.agg #[.bool false, .slice none 0 0], .int .i64 2]) (by simp [results, Tryd.results8, go_sem, q0, q1]) rfl ?_
    exact .inr ⟨HG.out.2.2, intE_stored (z := 0) (zs := []) HG.out.1 (by simp [SignOf]) ⟨Nat.le_refl _, Nums.nil _ _ _, Lm.Ok.nil _, Lm.Top.nil, rfl⟩ HG.out.2.1 (by omega)⟩

set_option maxRecDepth 100000 in
set_option maxHeartbeats 8000000 in
theorem parse_minus (s t : ByteArray) (r : Nat) (w : World) (h2 : 2 ≤ r) (h36 : r ≤ 36) (hs : s.size ≤ 20000) (h0 : 0 < s.size) (hm : s[0].toNat = 45) (ht : s.extract 1 s.size = t) (h1 : 0 < t.size) :
    Calls Tryd.prog 8 #[.string s, .int .i64 r] w fun e w' => (Tx.AllDig r (Tx.bts t) ∧ IsIE w w' (ofSign true (Tx.numOf r (Tx.bts t))) 0 e) ∨ (¬ Tx.AllDig r (Tx.bts t) ∧ IsIE w w' 0 2 e) := by
  have hb0 : Below w.heap.size w (w.alloc (.cells #[.bool false, .slice none 0 0] 28)) := (Below.refl _ _).alloc (Nat.le_refl _) _
  have hR := Res.new w 28
  have hrd := radix_yes r (w.alloc (.cells #[.bool false, .slice none 0 0] 28)) h2 h36
  have htl : t.size ≤ 20000 := by rw [← ht, ByteArray.size_extract]; omega
  have hpd := parseDigits_any t r (w.alloc (.cells #[.bool false, .slice none 0 0] 28)) h2 h36 htl
  have hsl : (Tx.bts t).length ≤ 20000 := by rw [Tx.bts_length]; exact htl
  have H := Lib.hid (And.intro hrd (And.intro hR (And.intro hb0 hpd)))
  have hm' : (s[0].toNat : Int) = 45 := by omega
  have hne := ne_empty h0
  have hnt := ne_empty h1
  clear hrd hR hb0 h2 h36 hpd hm htl
  go_enter Tryd.func8, Tryd.ntmps8
  go_wp2_with fail
  refine H.out.1.mono ?_
  rintro e w' ⟨rfl, rfl⟩
  obtain ⟨⟨hr0, hr1⟩, hf0, hf1⟩ := id H.out.2.1
  go_wp2_with fail
  refine H.out.2.2.2.mono ?_
  rintro e w1 (⟨hdig, A1, c1, ys, rfl, hl1, hyl, hb1⟩ | ⟨hdig, rfl, hb1⟩)
  · have r1 := H.out.2.1.step hb1 rfl (by simp)
    obtain ⟨⟨kr0, kr1⟩, kf0, kf1⟩ := id r1
    have hb2 := below_then H.out.2.2.1 hb1
    have hsg := signed_any true A1 c1 ys w1 hl1.2.1 hl1.2.2.1 (by omega) hl1.1
    rw [hl1.2.2.2.2] at hsg
    have HG := Lib.hid (And.intro hsg (And.intro r1 (And.intro hb2 hdig)))
    have hz1 := hb1.size
    rw [size_alloc] at hz1
    clear hsg r1 hb1 hb2 hdig hl1 hyl hr0 hr1 hf0 hf1
    go_wp2_with fail
    refine HG.out.1.mono ?_
    rintro e w2 ⟨v2, rfl, ⟨b2, A2, c2, zs2, rfl, hs2, hl2⟩, hb2⟩
    have r2 := HG.out.2.1.step hb2 rfl (by omega)
    obtain ⟨⟨hr0, hr1⟩, hf0, hf1⟩ := id r2
    have b4 := below_then HG.out.2.2.1 hb2
    go_wp2
    have q := r2.1.stored (.bool b2) (.slice A2 zs2.length c2)
    obtain ⟨q0, q1⟩ := id q
    refine bodyPost_ret (v := .tuple #[.agg #[.bool b2, .slice A2 zs2.length c2], .int .i64 0]) (by simp [results, Tryd.results8, go_sem, q0, q1]) rfl ?_
    exact .inl ⟨HG.out.2.2.2, intE_stored r2 hs2 hl2 b4 (by omega)⟩
  · have r1 := H.out.2.1.step hb1 rfl (by simp)
    obtain ⟨⟨kr0, kr1⟩, kf0, kf1⟩ := id r1
    have hb2 := below_then H.out.2.2.1 hb1
    have HG := Lib.hid (And.intro r1 (And.intro hb2 hdig))
    clear r1 hb1 hb2 hdig hr0 hr1 hf0 hf1
    go_wp2
    have q := HG.out.1.1.stored (.bool false) (.slice none 0 0)
    obtain ⟨q0, q1⟩ := id q
    refine bodyPost_ret (v := .tuple #[.agg #[.bool false, .slice none 0 0], .int .i64 2]) (by simp [results, Tryd.results8, go_sem, q0, q1]) rfl ?_
    exact .inr ⟨HG.out.2.2, intE_stored (z := 0) (zs := []) HG.out.1 (by simp [SignOf]) ⟨Nat.le_refl _, Nums.nil _ _ _, Lm.Ok.nil _, Lm.Top.nil, rfl⟩ HG.out.2.1 (by omega)⟩

set_option maxRecDepth 100000 in
set_option maxHeartbeats 8000000 in
theorem parse_minus_none (s t : ByteArray) (r : Nat) (w : World) (h2 : 2 ≤ r) (h36 : r ≤ 36) (hs : s.size ≤ 20000) (h0 : 0 < s.size) (hm : s[0].toNat = 45) (ht : s.extract 1 s.size = t) (h1 : t.size = 0) :
    Calls Tryd.prog 8 #[.string s, .int .i64 r] w fun e w' => IsIE w w' 0 2 e := by
  have hb0 : Below w.heap.size w (w.alloc (.cells #[.bool false, .slice none 0 0] 28)) := (Below.refl _ _).alloc (Nat.le_refl _) _
  have hR := Res.new w 28
  have hrd := radix_yes r (w.alloc (.cells #[.bool false, .slice none 0 0] 28)) h2 h36
  have H := Lib.hid (And.intro hrd (And.intro hR hb0))
  have hm' : (s[0].toNat : Int) = 45 := by omega
  have hne := ne_empty h0
  have hnt := is_empty h1
  clear hrd hR hb0 h2 h36 hm
  go_enter Tryd.func8, Tryd.ntmps8
  go_wp2_with fail
  refine H.out.1.mono ?_
  rintro e w' ⟨rfl, rfl⟩
  obtain ⟨⟨hr0, hr1⟩, hf0, hf1⟩ := id H.out.2.1
  go_wp2
  refine bodyPost_ret (v := .tuple #[.agg #[.bool false, .slice none 0 0], .int .i64 2]) (by simp [results, Tryd.results8, go_sem]) rfl ?_
  exact ⟨_, rfl, zero_int _, H.out.2.2⟩

set_option maxRecDepth 100000 in
set_option maxHeartbeats 8000000 in
theorem parse_plus (s t : ByteArray) (r : Nat) (w : World) (h2 : 2 ≤ r) (h36 : r ≤ 36) (hs : s.size ≤ 20000) (h0 : 0 < s.size) (hm : s[0].toNat = 43) (ht : s.extract 1 s.size = t) (h1 : 0 < t.size) :
    Calls Tryd.prog 8 #[.string s, .int .i64 r] w fun e w' => (Tx.AllDig r (Tx.bts t) ∧ IsIE w w' (ofSign false (Tx.numOf r (Tx.bts t))) 0 e) ∨ (¬ Tx.AllDig r (Tx.bts t) ∧ IsIE w w' 0 2 e) := by
  have hb0 : Below w.heap.size w (w.alloc (.cells #[.bool false, .slice none 0 0] 28)) := (Below.refl _ _).alloc (Nat.le_refl _) _
  have hR := Res.new w 28
  have hrd := radix_yes r (w.alloc (.cells #[.bool false, .slice none 0 0] 28)) h2 h36
  have htl : t.size ≤ 20000 := by rw [← ht, ByteArray.size_extract]; omega
  have hpd := parseDigits_any t r (w.alloc (.cells #[.bool false, .slice none 0 0] 28)) h2 h36 htl
  have hsl : (Tx.bts t).length ≤ 20000 := by rw [Tx.bts_length]; exact htl
  have H := Lib.hid (And.intro hrd (And.intro hR (And.intro hb0 hpd)))
  have hm' : (s[0].toNat : Int) = 43 := by omega
  have hne := ne_empty h0
  have hnt := ne_empty h1
  clear hrd hR hb0 h2 h36 hpd hm htl
  go_enter Tryd.func8, Tryd.ntmps8
  go_wp2_with fail
  refine H.out.1.mono ?_
  rintro e w' ⟨rfl, rfl⟩
  obtain ⟨⟨hr0, hr1⟩, hf0, hf1⟩ := id H.out.2.1
  go_wp2_with fail
  refine H.out.2.2.2.mono ?_
  rintro e w1 (⟨hdig, A1, c1, ys, rfl, hl1, hyl, hb1⟩ | ⟨hdig, rfl, hb1⟩)
  · have r1 := H.out.2.1.step hb1 rfl (by simp)
    obtain ⟨⟨kr0, kr1⟩, kf0, kf1⟩ := id r1
    have hb2 := below_then H.out.2.2.1 hb1
    have hsg := signed_any false A1 c1 ys w1 hl1.2.1 hl1.2.2.1 (by omega) hl1.1
    rw [hl1.2.2.2.2] at hsg
    have HG := Lib.hid (And.intro hsg (And.intro r1 (And.intro hb2 hdig)))
    have hz1 := hb1.size
    rw [size_alloc] at hz1
    clear hsg r1 hb1 hb2 hdig hl1 hyl hr0 hr1 hf0 hf1
    go_wp2_with fail
    refine HG.out.1.mono ?_
    rintro e w2 ⟨v2, rfl, ⟨b2, A2, c2, zs2, rfl, hs2, hl2⟩, hb2⟩
    have r2 := HG.out.2.1.step hb2 rfl (by omega)
    obtain ⟨⟨hr0, hr1⟩, hf0, hf1⟩ := id r2
    have b4 := below_then HG.out.2.2.1 hb2
    go_wp2
    have q := r2.1.stored (.bool b2) (.slice A2 zs2.length c2)
    obtain ⟨q0, q1⟩ := id q
    refine bodyPost_ret (v := .tuple #[.agg #[.bool b2, .slice A2 zs2.length c2], .int .i64 0]) (by simp [results, Tryd.results8, go_sem, q0, q1]) rfl ?_
    exact .inl ⟨HG.out.2.2.2, intE_stored r2 hs2 hl2 b4 (by omega)⟩
  · have r1 := H.out.2.1.step hb1 rfl (by simp)
    obtain ⟨⟨kr0, kr1⟩, kf0, kf1⟩ := id r1
    have hb2 := below_then H.out.2.2.1 hb1
    have HG := Lib.hid (And.intro r1 (And.intro hb2 hdig))
    clear r1 hb1 hb2 hdig hr0 hr1 hf0 hf1
    go_wp2
    have q := HG.out.1.1.stored (.bool false) (.slice none 0 0)
    obtain ⟨q0, q1⟩ := id q
    refine bodyPost_ret (v := .tuple #[.agg #[.bool false, .slice none 0 0], .int .i64 2]) (by simp [results, Tryd.results8, go_sem, q0, q1]) rfl ?_
    exact .inr ⟨HG.out.2.2, intE_stored (z := 0) (zs := []) HG.out.1 (by simp [SignOf]) ⟨Nat.le_refl _, Nums.nil _ _ _, Lm.Ok.nil _, Lm.Top.nil, rfl⟩ HG.out.2.1 (by omega)⟩

set_option maxRecDepth 100000 in
set_option maxHeartbeats 8000000 in
theorem parse_plus_none (s t : ByteArray) (r : Nat) (w : World) (h2 : 2 ≤ r) (h36 : r ≤ 36) (hs : s.size ≤ 20000) (h0 : 0 < s.size) (hm : s[0].toNat = 43) (ht : s.extract 1 s.size = t) (h1 : t.size = 0) :
    Calls Tryd.prog 8 #[.string s, .int .i64 r] w fun e w' => IsIE w w' 0 2 e := by
  have hb0 : Below w.heap.size w (w.alloc (.cells #[.bool false, .slice none 0 0] 28)) := (Below.refl _ _).alloc (Nat.le_refl _) _
  have hR := Res.new w 28
  have hrd := radix_yes r (w.alloc (.cells #[.bool false, .slice none 0 0] 28)) h2 h36
  have H := Lib.hid (And.intro hrd (And.intro hR hb0))
  have hm' : (s[0].toNat : Int) = 43 := by omega
  have hne := ne_empty h0
  have hnt := is_empty h1
  clear hrd hR hb0 h2 h36 hm
  go_enter Tryd.func8, Tryd.ntmps8
  go_wp2_with fail
  refine H.out.1.mono ?_
  rintro e w' ⟨rfl, rfl⟩
  obtain ⟨⟨hr0, hr1⟩, hf0, hf1⟩ := id H.out.2.1
  go_wp2
  refine bodyPost_ret (v := .tuple #[.agg #[.bool false, .slice none 0 0], .int .i64 2]) (by simp [results, Tryd.results8, go_sem]) rfl ?_
  exact ⟨_, rfl, zero_int _, H.out.2.2⟩

end Go.Proofs.YtllkajlmfbikhaaDoor
