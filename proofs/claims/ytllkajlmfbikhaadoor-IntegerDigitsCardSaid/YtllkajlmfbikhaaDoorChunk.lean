/- The radix, the chunk of a radix, and the value of a digit. -/
import Derived.Test.YtllkajlmfbikhaaDoorTextMath
import Derived.Deep.LoopGhost
import Derived.Test.YtllkajlmfbikhaaDoorBaseB
namespace Go.Proofs.YtllkajlmfbikhaaDoor
open Go.RowKit

set_option maxRecDepth 100000 in
set_option maxHeartbeats 1000000 in
theorem radix_yes (r : Nat) (w : World) (h2 : 2 ≤ r) (h36 : r ≤ 36) : Calls Tryd.prog 23 #[.int .i64 r] w fun e w' => e = .returned (.bool true) ∧ w = w' := by
  have k2 : (2 : Int) ≤ r := by omega
  have k36 : (r : Int) ≤ 36 := by omega
  clear h2 h36
  go_enter Tryd.func23, Tryd.ntmps23
  go_wp2
  go_ret
  exact ⟨rfl, rfl⟩

set_option maxRecDepth 100000 in
set_option maxHeartbeats 1000000 in
theorem radix_low (r : Int) (w : World) (h : r < 2) : Calls Tryd.prog 23 #[.int .i64 r] w fun e w' => e = .returned (.bool false) ∧ w = w' := by
  go_enter Tryd.func23, Tryd.ntmps23
  go_wp2
  go_ret
  exact ⟨rfl, rfl⟩

set_option maxRecDepth 100000 in
set_option maxHeartbeats 1000000 in
theorem radix_high (r : Int) (w : World) (h : 36 < r) : Calls Tryd.prog 23 #[.int .i64 r] w fun e w' => e = .returned (.bool false) ∧ w = w' := by
  have k : ¬ r < 2 := by omega
  have k' : 2 ≤ r := by omega
  have k'' : ¬ r ≤ 36 := by omega
  clear h
  go_enter Tryd.func23, Tryd.ntmps23
  go_wp2
  go_ret
  exact ⟨rfl, rfl⟩

theorem radix_no (r : Int) (w : World) (h : r < 2 ∨ 36 < r) : Calls Tryd.prog 23 #[.int .i64 r] w fun e w' => e = .returned (.bool false) ∧ w = w' := by
  rcases h with h | h
  · exact radix_low r w h
  · exact radix_high r w h

/-- The world in which chunkOf has gone i rounds. -/
def chunkIn (w : World) (i p : Nat) : World := (w.alloc (.cells #[.int .i64 0, .int .u32 0] 94)).alloc (.cells #[.int .i64 i, .int .u32 p] 94)

/-- A chunk of the radix: as many digits as fit. -/
def IsChunkOf (w w' : World) (r : Nat) (e : Ending) : Prop := ∃ k p : Nat, e = .returned (.agg #[.int .i64 k, .int .u32 p]) ∧ p = r ^ k ∧ 6 ≤ k ∧ k ≤ 31 ∧ 2 ≤ p ∧ p ≤ 4294967295 ∧ Below w.heap.size w w'

theorem chunk_less {r i p : Nat} (h2 : 2 ≤ r) (hp : p = r ^ i) (h : p ≤ 4294967295) : i ≤ 31 := by
  have h1 : 2 ^ i ≤ r ^ i := Nat.pow_le_pow_left h2 i
  have h3 : 2 ^ i < 2 ^ 32 := Nat.lt_of_le_of_lt (Nat.le_trans h1 (hp ▸ h)) (by decide)
  have := (Nat.pow_lt_pow_iff_right (by decide : 1 < 2)).1 h3
  omega
theorem chunk_more {r i p : Nat} (h36 : r ≤ 36) (hp : p = r ^ i) (h : ¬ p * r ≤ 4294967295) : 6 ≤ i := by
  refine Nat.not_lt.1 fun hi => h ?_
  rw [hp, ← Nat.pow_succ]
  have h0 : r ^ (i + 1) ≤ 36 ^ (i + 1) := Nat.pow_le_pow_left h36 _
  have h1 : 36 ^ (i + 1) ≤ 36 ^ 6 := Nat.pow_le_pow_right (by decide) hi
  exact Nat.le_trans h0 (Nat.le_trans h1 (by decide))

set_option maxRecDepth 100000 in
set_option maxHeartbeats 2000000 in
theorem chunk_any (r : Nat) (w : World) (h2 : 2 ≤ r) (h36 : r ≤ 36) : Calls Tryd.prog 50 #[.int .i64 r] w fun e w' => IsChunkOf w w' r e := by
  have k2 : (2 : Int) ≤ r := by omega
  have k36 : (r : Int) ≤ 36 := by omega
  have HR := Lib.hid (And.intro h2 h36)
  clear h2 h36
  go_enter Tryd.func50, Tryd.ntmps50
  go_wp2
  go_loopg [] 31 (fun k wr => ∃ i p : Nat, Hid (p = r ^ i) ∧ (p : Int) ≤ 4294967295 ∧ i + k = 31 ∧ wr = chunkIn w i p)
  case atStart => exact ⟨0, 1, Lib.hid (by simp), by omega, rfl, rfl⟩
  case round =>
    obtain ⟨i, p, hp, hpl, hi, rfl⟩ := hrel
    unfold chunkIn
    by_cases hlt : p * r ≤ 4294967295
    · obtain ⟨q, hq⟩ : ∃ q, p * r = q := ⟨_, rfl⟩
      have hq' : (p : Int) * (r : Int) = (q : Int) := by rw [← hq]; simp
      have hql : (q : Int) ≤ 4294967295 := by omega
      have hi1 := chunk_less HR.out.1 (show q = r ^ (i + 1) from by rw [← hq, hp.out, Nat.pow_succ]) (by omega)
      have HQ := Lib.hid (show q = r ^ (i + 1) from by rw [← hq, hp.out, Nat.pow_succ])
      clear hq hlt
      go_wp2
      go_roundg (gk - 1)
      case rel => exact ⟨i + 1, q, HQ, hql, by omega, rfl⟩
      case measure => omega
    · have hk := chunk_more HR.out.2 hp.out hlt
      obtain ⟨q, hq⟩ : ∃ q, p * r = q := ⟨_, rfl⟩
      have hq' : (p : Int) * (r : Int) = (q : Int) := by rw [← hq]; simp
      have hql : ¬ (q : Int) ≤ 4294967295 := by omega
      have hqt : (q : Int) ≤ 154618822620 := by
        rw [← hq']
        have : (p : Int) * (r : Int) ≤ 4294967295 * 36 := Int.mul_le_mul hpl k36 (by omega) (by omega)
        omega
      have hp2 : 2 ≤ p := by
        rw [hp.out]
        have h1 : r ^ 1 ≤ r ^ i := Nat.pow_le_pow_right (by have := HR.out.1; omega) (by omega)
        have h2 := HR.out.1
        rw [Nat.pow_one] at h1
        omega
      clear hq hlt
      go_wp2
      refine bodyPost_ret (v := .agg #[.int .i64 i, .int .u32 p]) (by simp [results, Tryd.results50, go_sem]) rfl ?_
      exact ⟨i, p, rfl, hp.out, hk, by omega, hp2, by omega, boxed2_below _ _ _⟩

set_option maxRecDepth 100000 in
set_option maxHeartbeats 1000000 in
theorem digitValue_any (c : Nat) (w : World) (hc : c < 256) : Calls Tryd.prog 52 #[.int .u8 c] w fun e w' => e = .returned (.int .i64 ((Tx.dig c : Nat) : Int)) ∧ w = w' := by
  have hc' : (c : Int) ≤ 255 := by omega
  rcases (show c < 48 ∨ (48 ≤ c ∧ c ≤ 57) ∨ (58 ≤ c ∧ c ≤ 64) ∨ (65 ≤ c ∧ c ≤ 90) ∨ (91 ≤ c ∧ c ≤ 96) ∨ (97 ≤ c ∧ c ≤ 122) ∨ 123 ≤ c from by omega) with h | ⟨h, k⟩ | ⟨h, k⟩ | ⟨h, k⟩ | ⟨h, k⟩ | ⟨h, k⟩ | h
  · obtain ⟨d, hd⟩ : ∃ d, Tx.dig c = d := ⟨_, rfl⟩
    have he : d = 36 := by rw [← hd]; unfold Tx.dig; (repeat' split) <;> omega
    rw [hd, he]
    have h1 : (c : Int) < 48 := by omega
    clear h hd he
    go_enter Tryd.func52, Tryd.ntmps52
    go_wp2
    go_ret
    exact ⟨rfl, rfl⟩
  · have he : ((Tx.dig c : Nat) : Int) = (c : Int) - 48 := by unfold Tx.dig; (repeat' split) <;> omega
    rw [he]
    have h1 : 48 ≤ (c : Int) := by omega
    have h2 : (c : Int) ≤ 57 := by omega
    clear h k he
    go_enter Tryd.func52, Tryd.ntmps52
    go_wp2
    go_ret
    exact ⟨rfl, rfl⟩
  · have he : ((Tx.dig c : Nat) : Int) = 36 := by unfold Tx.dig; (repeat' split) <;> omega
    rw [he]
    have h1 : 58 ≤ (c : Int) := by omega
    have h2 : (c : Int) ≤ 64 := by omega
    clear h k he
    go_enter Tryd.func52, Tryd.ntmps52
    go_wp2
    go_ret
    exact ⟨rfl, rfl⟩
  · have he : ((Tx.dig c : Nat) : Int) = (c : Int) - 65 + 10 := by unfold Tx.dig; (repeat' split) <;> omega
    rw [he]
    have h1 : 65 ≤ (c : Int) := by omega
    have h2 : (c : Int) ≤ 90 := by omega
    clear h k he
    go_enter Tryd.func52, Tryd.ntmps52
    go_wp2
    go_ret
    exact ⟨rfl, rfl⟩
  · have he : ((Tx.dig c : Nat) : Int) = 36 := by unfold Tx.dig; (repeat' split) <;> omega
    rw [he]
    have h1 : 91 ≤ (c : Int) := by omega
    have h2 : (c : Int) ≤ 96 := by omega
    clear h k he
    go_enter Tryd.func52, Tryd.ntmps52
    go_wp2
    go_ret
    exact ⟨rfl, rfl⟩
  · have he : ((Tx.dig c : Nat) : Int) = (c : Int) - 97 + 10 := by unfold Tx.dig; (repeat' split) <;> omega
    rw [he]
    have h1 : 97 ≤ (c : Int) := by omega
    have h2 : (c : Int) ≤ 122 := by omega
    clear h k he
    go_enter Tryd.func52, Tryd.ntmps52
    go_wp2
    go_ret
    exact ⟨rfl, rfl⟩
  · have he : ((Tx.dig c : Nat) : Int) = 36 := by unfold Tx.dig; (repeat' split) <;> omega
    rw [he]
    have h1 : 123 ≤ (c : Int) := by omega
    clear h he
    go_enter Tryd.func52, Tryd.ntmps52
    go_wp2
    go_ret
    exact ⟨rfl, rfl⟩
end Go.Proofs.YtllkajlmfbikhaaDoor
