/- New, New of a heap, Used of package heap; what awake of the laws does. -/
import Derived.Test.YtaggmddmldfpkaaHeapB
namespace Go.Proofs.Ytaggmddmldfpkaa
open Go.RowKit
set_option linter.unusedSimpArgs false

theorem u64_and_nat (a b : Nat) (ha : a < 18446744073709551616) (hb : b < 18446744073709551616) : bits .and .u64 (a : Int) (b : Int) = ((a &&& b : Nat) : Int) := by
  unfold bits
  have h1 : (BitVec.ofInt 64 (a : Int)).toNat = a := by rw [BitVec.ofInt_natCast, BitVec.toNat_ofNat]; exact Nat.mod_eq_of_lt ha
  have h2 : (BitVec.ofInt 64 (b : Int)).toNat = b := by rw [BitVec.ofInt_natCast, BitVec.toNat_ofNat]; exact Nat.mod_eq_of_lt hb
  show IntKind.u64.wrap ((BitVec.ofInt 64 (a : Int) &&& BitVec.ofInt 64 (b : Int)).toNat : Int) = _
  rw [BitVec.toNat_and, h1, h2]
  have : a &&& b ≤ a := Nat.and_le_left
  exact wraps_u64 _ (by omega) (by omega)
theorem and32 (n k : Nat) (hk : k < 32) : (n * 64 + k) &&& 32 = 0 := by
  refine Nat.eq_of_testBit_eq fun i => ?_
  rw [Nat.testBit_and, show (32 : Nat) = 2 ^ 5 from rfl, Nat.testBit_two_pow, Nat.zero_testBit]
  by_cases h : 5 = i
  · subst h
    rw [Nat.testBit_eq_decide_div_mod_eq, decide_eq_false (by omega)]
    rfl
  · rw [decide_eq_false h, Bool.and_false]
theorem head_raw (n k : Nat) (hk : k < 32) (hn : n ≤ 1000000) : bits .and .u64 ((n * 64 + k : Nat) : Int) 32 = 0 := by
  have h2 := u64_and_nat (n * 64 + k) 32 (by omega) (by decide)
  rw [and32 n k hk] at h2
  exact h2

set_option maxRecDepth 100000 in
theorem israw_no (x : Int) (w : World) (h : bits .and .u64 x 32 = 0) : Calls Try.prog 96 #[.int .u64 x] w fun e w' => IsOne w w' (.bool false) e := by
  go_enter Try.func96, Try.ntmps96
  go_wp2
  go_ret
  exact ⟨rfl, rfl⟩
set_option maxRecDepth 100000 in
theorem length_any (x n : Int) (w : World) (h : x / 64 = n) (h0 : 0 ≤ n) (h1 : n ≤ 1000000) : Calls Try.prog 98 #[.int .u64 x] w fun e w' => IsOne w w' (.int .i64 n) e := by
  have hi := IntWalk.i64_in n (by omega)
  go_enter Try.func98, Try.ntmps98
  go_wp2
  go_ret
  exact ⟨rfl, rfl⟩
set_option maxRecDepth 100000 in
theorem size_any (n k : Nat) (hk : k < 32) (hn : n ≤ 1000000) (w : World) : Calls Try.prog 104 #[.int .u64 ((n * 64 + k : Nat) : Int)] w fun e w' => IsOne w w' (.int .i64 ((n : Int) + 1)) e := by
  have h1 := israw_no _ w (head_raw n k hk hn)
  have h2 := length_any ((n * 64 + k : Nat) : Int) (n : Int) w (by omega) (by omega) (by omega)
  obtain ⟨x, hx⟩ : ∃ x, ((n * 64 + k : Nat) : Int) = x := ⟨_, rfl⟩
  rw [hx] at h1 h2 ⊢
  have n0 : (0 : Int) ≤ (n : Int) := Int.natCast_nonneg n
  have n1 : (n : Int) ≤ 1000000 := by omega
  have H := Lib.hid (And.intro h1 h2)
  clear hx h1 h2 hk hn
  go_enter Try.func104, Try.ntmps104
  go_wp2_with fail
  refine H.out.1.mono ?_
  rintro e w1 ⟨rfl, rfl⟩
  go_wp2_with fail
  refine H.out.2.mono ?_
  rintro e w1 ⟨rfl, rfl⟩
  go_wp2
  go_ret
  exact ⟨congrArg Ending.returned (congrArg (Value.int IntKind.i64) (Int.add_comm 1 (n : Int))), rfl⟩

set_option maxRecDepth 100000 in
theorem newHeader_any (n k : Nat) (hk : k < 32) (hn : n ≤ 1000000) (w : World) : Calls Try.prog 102 #[.int .i64 (k : Int), .bool false, .int .i64 (n : Int)] w fun e w' => IsOne w w' (.int .u64 ((n * 64 + k : Nat) : Int)) e := by
  have h1 := IntWalk.u64_in (n : Int) (by omega)
  have h2 := IntWalk.u64_in ((n : Int) * 64) (by omega)
  have h3 := IntWalk.u64_in (k : Int) (by omega)
  have h4 : bits .or .u64 ((n : Int) * 64) (k : Int) = ((n * 64 + k : Nat) : Int) := by
    have h := bits_join_low .u64 64 (by decide) wraps_u64 6 (k : Int) ((n : Int) * 64) (by omega) (by omega) (by omega) (by omega) (by omega) (by omega)
    rw [bor_comm, h]
    omega
  obtain ⟨x, hx⟩ : ∃ x, ((n * 64 + k : Nat) : Int) = x := ⟨_, rfl⟩
  rw [hx] at h4 ⊢
  clear hx hk hn
  go_enter Try.func102, Try.ntmps102
  go_wp2
  go_ret
  exact ⟨rfl, rfl⟩

set_option maxRecDepth 100000 in
theorem checkNew_any (n k : Int) (w : World) (k1 : 1 ≤ k) (k2 : k ≤ 31) (n0 : 0 ≤ n) (n1 : n ≤ 16384) : Calls Try.prog 103 #[.int .i64 k, .int .i64 n] w fun e w' => IsOne w w' (.int .i64 0) e := by
  go_enter Try.func103, Try.ntmps103
  go_wp2
  go_ret
  exact ⟨rfl, rfl⟩

set_option maxRecDepth 100000 in
theorem reference_any (p : Int) (w : World) (p0 : 0 ≤ p) (p1 : p ≤ 100000) : Calls Try.prog 88 #[.int .i64 p] w fun e w' => IsOne w w' (.int .u64 (p * 8 + 3)) e := by
  have h1 := IntWalk.u64_in p (by omega)
  have ht := tagged_any 3 p w (by decide) (by decide)
  rw [show p * 8 % 18446744073709551616 = p * 8 by omega] at ht
  obtain ⟨x, hx⟩ : ∃ x, p * 8 + 3 = x := ⟨_, rfl⟩
  rw [hx] at ht ⊢
  clear hx
  go_enter Try.func88, Try.ntmps88
  go_wp2_with fail
  refine ht.mono ?_
  rintro e w1 ⟨rfl, rfl⟩
  go_wp2
  go_ret
  exact ⟨rfl, rfl⟩

section
variable {w : World} {base g : Nat} {lim yg old mv nx : Int} {wv hv rv : Value} {ws hs : List Nat}
set_option maxRecDepth 100000 in
theorem isMade_yes (h : HeapAt w base g lim yg wv hv old mv rv nx ws hs) (hl : 0 < ws.length) : Calls Try.prog 57 #[.pointer (some ⟨g, 0, none⟩)] w fun e w' => IsOne w w' (.bool true) e := by
  have c2 := (h.cell 2).trans (show (heapCells lim yg wv hv old mv rv nx)[2]? = some wv from rfl)
  obtain ⟨A1, n1, rfl, hn1⟩ := own_form h.own1
  have H := Lib.hid h
  clear h hn1
  go_enter Try.func57, Try.ntmps57
  go_wp2
  go_ret
  exact ⟨rfl, rfl⟩
set_option maxRecDepth 100000 in
theorem Used_any (h : HeapAt w base g lim yg wv hv old mv rv nx ws hs) : Calls Try.prog 46 #[.pointer (some ⟨g, 0, none⟩)] w fun e w' => IsOne w w' (.int .i64 (ws.length : Int)) e := by
  have c2 := (h.cell 2).trans (show (heapCells lim yg wv hv old mv rv nx)[2]? = some wv from rfl)
  obtain ⟨A1, n1, rfl, hn1⟩ := own_form h.own1
  have H := Lib.hid h
  clear h hn1
  go_enter Try.func46, Try.ntmps46
  go_wp2
  go_ret
  exact ⟨rfl, rfl⟩
def IsOneD (w w' : World) (v : Value) (e : Ending) : Prop := e = .returned v ∧ ∃ n, w' = w.drewN n
set_option maxRecDepth 100000 in
theorem hasRoom_yes (h : HeapAt w base g lim yg wv hv old mv rv nx ws hs) (s : Int) (s0 : 0 ≤ s) (s1 : s ≤ 100000) (hl : (ws.length : Int) + s ≤ lim) (hlim : lim ≤ 100000) : Calls Try.prog 60 #[.pointer (some ⟨g, 0, none⟩), .int .i64 s] w fun e w' => IsOneD w w' (.bool true) e := by
  have c2 := (h.cell 2).trans (show (heapCells lim yg wv hv old mv rv nx)[2]? = some wv from rfl)
  have c0 := (h.cell 0).trans (show (heapCells lim yg wv hv old mv rv nx)[0]? = some (.int .i64 lim) from rfl)
  obtain ⟨A1, n1, rfl, hn1⟩ := own_form h.own1
  have H := Lib.hid h
  have l0 : (0 : Int) ≤ (ws.length : Int) := Int.natCast_nonneg _
  have l1 : (ws.length : Int) ≤ 100000 := by omega
  clear h hn1
  go_enter Try.func60, Try.ntmps60
  go_wp2_with fail
  go_quiet (fail)
  go_wp2
  go_ret
  exact ⟨rfl, _, rfl⟩

/-- What New of a heap leaves. -/
def Newed (w w' : World) (base g : Nat) (lim yg old mv : Int) (rv : Value) (nx : Int) (ws : List Nat) (n k : Nat) (e : Ending) : Prop :=
  e = .returned (.tuple #[.int .u64 ((ws.length : Int) * 8 + 3), .int .i64 0]) ∧ (∃ wv hv hs, HeapAt w' base g lim yg wv hv old mv rv nx (ws ++ (n * 64 + k) :: List.replicate n 3) hs ∧ ws.length + 1 + n ≤ 64 * hs.length ∧ hs.length ≤ 1100) ∧ Below base w w'

set_option maxRecDepth 100000 in
set_option maxHeartbeats 1000000 in
theorem PNew_any (h : HeapAt w base g lim yg wv hv old mv rv nx ws hs) (hb : base ≤ w.heap.size) (hl : 0 < ws.length) (n k : Nat) (k1 : 1 ≤ k) (k2 : k ≤ 31) (hn : n ≤ 16384) (hr : (ws.length : Int) + (n : Int) + 1 ≤ lim) (hlim : lim ≤ 65536)
    (h2 : ws.length ≤ 64 * hs.length) (h3 : hs.length ≤ 1100) :
    Calls Try.prog 54 #[.pointer (some ⟨g, 0, none⟩), .int .i64 (k : Int), .int .i64 (n : Int)] w fun e w' => Newed w w' base g lim yg old mv rv nx ws n k e := by
  have a1 := isMade_yes h hl
  have a2 := checkNew_any (n : Int) (k : Int) w (by omega) (by omega) (by omega) (by omega)
  have a3 := newHeader_any n k (by omega) (by omega) w
  have a4 := size_any n k (by omega) (by omega) w
  have a5 := hasRoom_yes h ((n : Int) + 1) (by omega) (by omega) (by omega) (by omega)
  have a6 : ∀ q, Calls Try.prog 101 #[.pointer (some ⟨g, 0, none⟩), .int .u64 ((n * 64 + k : Nat) : Int)] (w.drewN q) fun e w' => Added (w.drewN q) w' base g lim yg old mv rv nx ws (n * 64 + k) n e := fun q =>
    add_any base g lim yg old mv nx wv hv rv ws hs (n * 64 + k) n _ (h.drewN q) hb (fun W => size_any n k (by omega) (by omega) W) (by omega) h2 h3
  have a7 : ∀ W, Calls Try.prog 88 #[.int .i64 (ws.length : Int)] W fun e W' => IsOne W W' (.int .u64 ((ws.length : Int) * 8 + 3)) e := fun W => reference_any _ W (by omega) (by omega)
  obtain ⟨x, hx⟩ : ∃ x, n * 64 + k = x := ⟨_, rfl⟩
  rw [hx] at a3 a4 a6
  have H := Lib.hid (And.intro a1 (And.intro a2 (And.intro a3 (And.intro a4 (And.intro a5 (And.intro a6 (And.intro a7 hx)))))))
  clear a1 a2 a3 a4 a5 a6 a7 hx h hb hl k1 k2 hn hr hlim h2 h3
  go_enter Try.func54, Try.ntmps54
  go_wp2_with fail
  refine H.out.1.mono ?_
  rintro e w1 ⟨rfl, rfl⟩
  go_wp2_with fail
  refine H.out.2.1.mono ?_
  rintro e w1 ⟨rfl, rfl⟩
  go_wp2_with fail
  refine H.out.2.2.1.mono ?_
  rintro e w1 ⟨rfl, rfl⟩
  go_wp2_with fail
  refine H.out.2.2.2.1.mono ?_
  rintro e w1 ⟨rfl, rfl⟩
  go_wp2_with fail
  refine H.out.2.2.2.2.1.mono ?_
  rintro e w1 ⟨rfl, q, rfl⟩
  go_wp2_with fail
  refine (H.out.2.2.2.2.2.1 q).mono ?_
  rintro e w2 ⟨rfl, hh, hb2⟩
  have HH := Lib.hid (And.intro hh hb2)
  clear hh hb2
  go_wp2_with fail
  refine (H.out.2.2.2.2.2.2.1 _).mono ?_
  rintro e w3 ⟨rfl, rfl⟩
  go_wp2
  go_ret2
  obtain ⟨wv', hv', hs', b1, b2, b3⟩ := HH.out.1
  exact ⟨rfl, ⟨wv', hv', hs', by rw [H.out.2.2.2.2.2.2.2]; exact b1, b2, b3⟩, ⟨HH.out.2.os, HH.out.2.tape, HH.out.2.output, HH.out.2.size, HH.out.2.block⟩⟩
end

theorem heap_zero (w : World) (lim yg : Int) : HeapAt (w.alloc (.cells (heapCells lim yg (.slice none 0 0) (.slice none 0 0) 0 0 (.slice none 0 0) 0) 156)) w.heap.size w.heap.size lim yg (.slice none 0 0) (.slice none 0 0) 0 0 (.slice none 0 0) 0 [] [] :=
  ⟨Nat.le_refl _, heap_alloc_new w _, World.ownsRow_nil _ _ _ _, World.ownsRow_nil _ _ _ _⟩

/-- What New leaves: the first object alone. -/
def Begun (w w' : World) (lim yg : Int) (e : Ending) : Prop :=
  e = .returned (.tuple #[.pointer (some ⟨w.heap.size, 0, none⟩), .int .i64 0]) ∧ (∃ wv hv hs, HeapAt w' w.heap.size w.heap.size lim yg wv hv 6 0 (.slice none 0 0) 0 [321, 3, 3, 3, 3, 3] hs ∧ 6 ≤ 64 * hs.length ∧ hs.length ≤ 1100) ∧ Below w.heap.size w w'

set_option maxRecDepth 100000 in
set_option maxHeartbeats 1000000 in
theorem New_any (lim yg : Int) (w : World) (l0 : 64 ≤ lim) (l1 : lim ≤ 65536) (y0 : 1 ≤ yg) (y1 : yg ≤ lim) : Calls Try.prog 53 #[.int .i64 lim, .int .i64 yg] w fun e w' => Begun w w' lim yg e := by
  have a1 : ∀ W, Calls Try.prog 102 #[.int .i64 1, .bool false, .int .i64 5] W fun e W' => IsOne W W' (.int .u64 321) e := fun W => newHeader_any 5 1 (by decide) (by decide) W
  have a2 := add_any w.heap.size w.heap.size lim yg 0 0 0 (.slice none 0 0) (.slice none 0 0) (.slice none 0 0) [] [] 321 5 _ (heap_zero w lim yg) (by simp) (fun W => size_any 5 1 (by decide) (by decide) W) (by simp) (by simp) (by simp)
  have H := Lib.hid (And.intro a1 a2)
  clear a1 a2
  go_enter Try.func53, Try.ntmps53
  go_wp2_with fail
  refine (H.out.1 _).mono ?_
  rintro e w1 ⟨rfl, rfl⟩
  go_wp2_with fail
  refine H.out.2.mono ?_
  rintro e w2 ⟨rfl, ⟨wv, hv, hs, hh, b2, b3⟩, hb2⟩
  have hh' : HeapAt w2 w.heap.size w.heap.size lim yg wv hv 0 0 (.slice none 0 0) 0 [321, 3, 3, 3, 3, 3] hs := hh
  have c2 := (hh'.cell 2).trans (show (heapCells lim yg wv hv 0 0 (.slice none 0 0) 0)[2]? = some wv from rfl)
  have c4 := (hh'.cell 4).trans (show (heapCells lim yg wv hv 0 0 (.slice none 0 0) 0)[4]? = some (.int .i64 0) from rfl)
  have f4 := hh'.fz 4
  obtain ⟨A1, n1, rfl, hn1⟩ := own_form hh'.own1
  have HH := Lib.hid (And.intro hh' (And.intro b2 (And.intro b3 hb2)))
  clear hh hh' b2 b3 hb2 hn1
  go_wp2
  go_ret2
  exact ⟨rfl, ⟨_, _, hs, HH.out.1.olds 6, HH.out.2.1, HH.out.2.2.1⟩, (((Below.refl _ _).alloc (Nat.le_refl _) _).trans HH.out.2.2.2).setCell (p := ⟨w.heap.size, 4, none⟩) (Nat.le_refl _) (.int .i64 6)⟩

def IsBool (w w' : World) (b : Bool) (e : Ending) : Prop := e = .returned (.bool b) ∧ Below w.heap.size w w'

set_option maxRecDepth 100000 in
set_option maxHeartbeats 1000000 in
theorem awake_any (w : World) : Calls Try.prog 18 #[] w fun e w' => IsBool w w' true e := by
  have a1 := New_any 64 64 w (by decide) (by decide) (by decide) (by decide)
  have H := Lib.hid a1
  clear a1
  go_enter Try.func18, Try.ntmps18
  go_wp2_with fail
  refine H.out.mono ?_
  rintro e w1 ⟨rfl, ⟨wv, hv, hs, hh, b2, b3⟩, hb1⟩
  have hs1 := hb1.size
  have n1 := PNew_any hh hs1 (by decide) 2 10 (by decide) (by decide) (by decide) (by decide) (by decide) b2 b3
  have HN := Lib.hid (And.intro n1 (And.intro hb1 hs1))
  clear n1 hb1 hs1 hh b2 b3
  go_wp2_with fail
  refine HN.out.1.mono ?_
  rintro e w2 ⟨rfl, ⟨wv2, hv2, hs2, hh2, b2, b3⟩, hb2⟩
  have hu := Used_any hh2
  have hf := fix_any (-1) w2
  rw [show fixW (-1) = 18446744073709551608 from by decide, show fixE (-1) = 0 from by decide] at hf
  have HU := Lib.hid (And.intro hu (And.intro hf (HN.out.2.1.trans hb2)))
  clear hu hf hb2 hh2 b2 b3
  go_wp2_with fail
  refine HU.out.2.1.mono ?_
  rintro e w3 ⟨rfl, rfl⟩
  go_wp2_with fail
  refine HU.out.1.mono ?_
  rintro e w3 ⟨rfl, rfl⟩
  go_wp2
  go_ret
  exact ⟨rfl, HU.out.2.2⟩
end Go.Proofs.Ytaggmddmldfpkaa
