/- What low and Int64 of package integer do. -/
import Derived.Test.YtllkajlmfbikhaaLen
namespace Go.Proofs.Ytllkajlmfbikhaa
open Go.RowKit

theorem or_zero64 (a : Nat) (h : a < 4294967296) : bits .or .u64 (0 : Int) (a : Int) = (a : Int) := by
  have := u64_or_nat 0 a (by decide) (by omega)
  simpa using this
theorem or_join64 (a b : Nat) (ha : a < 4294967296) (hb : b < 4294967296) : bits .or .u64 (a : Int) ((b : Int) * 4294967296) = ((a + 4294967296 * b : Nat) : Int) := by
  have h := u64_or_nat a (b * 4294967296) (by omega) (by omega)
  have e : ((b * 4294967296 : Nat) : Int) = (b : Int) * 4294967296 := by omega
  rw [e] at h
  rw [h]
  congr 1
  have := Nat.two_pow_add_eq_or_of_lt (i := 32) (b := a) (by omega) b
  rw [Nat.or_comm, Nat.mul_comm b, ← this]
  omega

/-- The state of low's loop over at most two limbs. -/
def LowAt (zs : List Nat) (nv iv : Value) : Prop := ∃ i : Nat, i ≤ zs.length ∧ iv = .int .i64 i ∧ nv = .int .u64 ((Lm.val B32 (zs.take i) : Nat) : Int)

set_option maxRecDepth 100000 in
set_option maxHeartbeats 1000000 in
theorem low_any (A : Option Addr) (c n : Nat) (zs : List Nat) (w : World) (h : Limbs w A c zs n) (hl : zs.length ≤ 2) :
    Calls Try.prog 73 #[.slice A zs.length c] w fun e w' => e = .returned (.int .u64 (n : Int)) ∧ w = w' := by
  have HL := Lib.hid h
  clear h
  go_enter Try.func73, Try.ntmps73
  go_wp2
  go_loop [3, 8] (fun nv iv => LowAt zs nv iv) (fun _ iv => zs.length - (intOf iv).toNat)
  case atStart => exact ⟨0, Nat.zero_le _, rfl, rfl⟩
  case round =>
    obtain ⟨i, hi, rfl, rfl⟩ := hrel
    by_cases hlt : i < zs.length
    · obtain ⟨ad, rfl, _, hcell⟩ := HL.out.2.1.at_ hlt
      have hcd := hcell i hlt
      have hlim := last_lt HL.out.2.2.1 i
      have hst := Lm.val_take_succ B32 zs i hlt
      clear hcell
      obtain ⟨d, hd⟩ : ∃ d, zs.getD i 0 = d := ⟨_, rfl⟩
      rw [hd] at hcd hlim hst
      rcases (show i = 0 ∨ i = 1 by omega) with rfl | rfl
      · rw [show ad.add 0 = ad from by unfold Addr.add; simp] at hcd
        have hor := or_zero64 d hlim
        have h0 : Lm.val B32 (zs.take 0) = 0 := rfl
        rw [h0] at hst
        have HS := Lib.hid hst
        have hpos : (0 : Int) < (zs.length : Int) := by omega
        have d0 : (0 : Int) ≤ (d : Int) := Int.natCast_nonneg d
        have d1 : (d : Int) ≤ 4294967295 := by unfold B32 at hlim; omega
        clear hst hd h0 hlim
        go_wp2
        go_round
        case rel => exact ⟨1, by omega, rfl, congrArg (Value.int IntKind.u64) (by rw [show Lm.val B32 [] = 0 from rfl]; rw [HS.out]; exact hor.trans (by simp))⟩
        case measure => simp [intOf]; omega
      · rw [show ad.add 1 = ⟨ad.block, ad.off + 1, none⟩ from rfl] at hcd
        have h0 : Lm.val B32 (zs.take 1) < B32 := by
          have := Lm.val_lt (HL.out.2.2.1.take 1)
          rw [List.length_take, Nat.min_eq_left (by omega)] at this
          simpa using this
        obtain ⟨a, ha⟩ : ∃ a, Lm.val B32 (zs.take 1) = a := ⟨_, rfl⟩
        rw [ha] at hst h0 ⊢
        have hor := or_join64 a d h0 hlim
        have HS := Lib.hid hst
        have hpos : (1 : Int) < (zs.length : Int) := by omega
        have d0 : (0 : Int) ≤ (d : Int) := Int.natCast_nonneg d
        have d1 : (d : Int) ≤ 4294967295 := by unfold B32 at hlim; omega
        clear hst hd h0 hlim ha
        go_wp2
        go_round
        case rel => exact ⟨2, by omega, rfl, congrArg (Value.int IntKind.u64) (by rw [HS.out]; unfold B32; omega)⟩
        case measure => simp [intOf]; omega
    · have hie : i = zs.length := by omega
      subst hie
      go_wp2
      go_ret
      refine ⟨congrArg Ending.returned (congrArg (Value.int IntKind.u64) ?_), rfl⟩
      rw [HL.out.2.2.2.2]

theorem wrap64_neg (n : Nat) (h : 0 < n) (h1 : n ≤ 9223372036854775808) : wrap64 (IntKind.u64.wrap (-(n : Int))) = -(n : Int) := by
  unfold wrap64
  rw [IntKind.wrap_u64]
  omega

/-- Does the number fit 64 bits? -/
def fits64 (z : Int) : Bool := decide (-9223372036854775808 ≤ z ∧ z < 9223372036854775808)
/-- A number of 64 bits, and whether it fits. -/
def Is64 (w w' : World) (z : Int) (e : Ending) : Prop :=
  e = .returned (.tuple #[.int .i64 (if fits64 z then z else 0), .bool (fits64 z)]) ∧ Below w.heap.size w w'

set_option maxRecDepth 100000 in
set_option maxHeartbeats 1000000 in
theorem Int64_any (v : Value) (z : Int) (m : Nat) (w : World) (h : IntAt w v z) (hm : m ≤ 900000) (hlen : z.natAbs < B32 ^ m) : Calls Try.prog 19 #[v] w fun e w' => Is64 w w' z e := by
  obtain ⟨b, A, c, zs, rfl, hs, hl⟩ := h
  have hlen1 := Nat.le_trans (hl.len hlen) hm
  have hbelow : Below w.heap.size w (w.alloc (.cells #[.bool b, .slice A zs.length c] 28)) := (Below.refl _ _).alloc (Nat.le_refl _) _
  have hw := hl.below hbelow
  by_cases h2 : zs.length ≤ 2
  · have hgt : ¬ (2 : Int) < (zs.length : Int) := by omega
    have hlow := low_any A c z.natAbs zs _ hw h2
    have hlt : z.natAbs < 18446744073709551616 := by
      have := Lm.val_lt hl.2.2.1
      rw [hl.2.2.2.2] at this
      exact Nat.lt_of_lt_of_le this (Nat.le_trans (Nat.pow_le_pow_right B32_pos h2) (by decide))
    obtain ⟨n, hn⟩ : ∃ n, z.natAbs = n := ⟨_, rfl⟩
    rw [hn] at hlow hlt
    have H := Lib.hid (And.intro hlow (And.intro hbelow (And.intro hs (And.intro hn hlt))))
    clear hlow hbelow hw hl hs hn hlt hlen hlen1
    cases b
    · have hz := sign_of_pos H.out.2.2.1
      by_cases h63 : n < 9223372036854775808
      · have hd : decide ((n : Int) < 9223372036854775808) = true := decide_eq_true (by omega)
        have HF := Lib.hid (show fits64 z = true from decide_eq_true (by have := H.out.2.2.2.1; omega))
        go_enter Try.func19, Try.ntmps19
        go_wp2_with fail
        refine H.out.1.mono ?_
        rintro e w' ⟨rfl, rfl⟩
        go_wp2
        go_ret2
        exact ⟨by rw [HF.out, if_pos rfl, ← (show (n : Int) = z by have := H.out.2.2.2.1; omega)]; rfl, H.out.2.1⟩
      · have hd : decide ((n : Int) < 9223372036854775808) = false := decide_eq_false (by omega)
        have HF := Lib.hid (show fits64 z = false from decide_eq_false (by have := H.out.2.2.2.1; omega))
        go_enter Try.func19, Try.ntmps19
        go_wp2_with fail
        refine H.out.1.mono ?_
        rintro e w' ⟨rfl, rfl⟩
        go_wp2
        go_ret2
        exact ⟨by rw [HF.out]; rfl, H.out.2.1⟩
    · have hz := sign_of_neg H.out.2.2.1
      by_cases h63 : n ≤ 9223372036854775808
      · have hd : decide ((n : Int) ≤ 9223372036854775808) = true := decide_eq_true (by omega)
        have HF := Lib.hid (show fits64 z = true from decide_eq_true (by have := H.out.2.2.2.1; omega))
        go_enter Try.func19, Try.ntmps19
        go_wp2_with fail
        refine H.out.1.mono ?_
        rintro e w' ⟨rfl, rfl⟩
        go_wp2
        go_ret2
        have hv := wrap64_neg n (by have := H.out.2.2.2.1; omega) (by omega)
        refine ⟨?_, H.out.2.1⟩
        rw [HF.out, if_pos rfl]
        have ez : z = wrap64 (IntKind.u64.wrap (-(n : Int))) := (show z = -(n : Int) by have := H.out.2.2.2.1; omega).trans hv.symm
        rw [ez]
        rfl
      · have hd : decide ((n : Int) ≤ 9223372036854775808) = false := decide_eq_false (by omega)
        have HF := Lib.hid (show fits64 z = false from decide_eq_false (by have := H.out.2.2.2.1; omega))
        go_enter Try.func19, Try.ntmps19
        go_wp2_with fail
        refine H.out.1.mono ?_
        rintro e w' ⟨rfl, rfl⟩
        go_wp2
        go_ret2
        exact ⟨by rw [HF.out]; rfl, H.out.2.1⟩
  · have hgt : (2 : Int) < (zs.length : Int) := by omega
    have hbig : fits64 z = false := by
      refine decide_eq_false ?_
      have h1 := Lm.val_ge (b := B32) (show 0 < zs.length by omega) hl.2.2.2.1
      rw [hl.2.2.2.2] at h1
      have h3 : B32 ^ 2 ≤ B32 ^ (zs.length - 1) := Nat.pow_le_pow_right B32_pos (by omega)
      have h4 : B32 ^ 2 = 18446744073709551616 := by decide
      omega
    have H := Lib.hid (And.intro hbig hbelow)
    clear hbig hbelow hw hl hs hlen hlen1 h2
    go_enter Try.func19, Try.ntmps19
    go_wp2
    go_ret2
    exact ⟨by rw [H.out.1]; rfl, H.out.2⟩
end Go.Proofs.Ytllkajlmfbikhaa
