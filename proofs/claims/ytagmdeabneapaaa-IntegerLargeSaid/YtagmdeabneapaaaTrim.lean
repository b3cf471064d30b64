/- What trim, Clone, copied and signed of package integer do: the walks of their text. -/
import Derived.Test.YtagmdeabneapaaaMem
import Derived.Test.YtagmdeabneapaaaProg
import Derived.Outline
namespace Go.Proofs.Ytagmdeabneapaaa
open Go.RowKit

/-- From k on there are zeros. -/
def ZeroFrom (xs : List Nat) (k : Nat) : Prop := ∀ i, k ≤ i → i < xs.length → xs.getD i 0 = 0
/-- What trim leaves: a cut at n, behind which there are zeros. -/
def Trimmed (A : Option Addr) (c : Nat) (xs : List Nat) (e : Ending) : Prop :=
  ∃ n, e = .returned (.slice A n c) ∧ n ≤ xs.length ∧ ZeroFrom xs n ∧ (0 < n → xs.getD (n - 1) 0 ≠ 0)

theorem zero_down {xs : List Nat} {k : Nat} (h0 : 0 < k) (hd : xs.getD (k - 1) 0 = 0) (hz : ZeroFrom xs k) : ZeroFrom xs (k - 1) := fun i h1 h2 => by
  by_cases e : i = k - 1
  · rw [e]; exact hd
  · exact hz i (by omega) h2

set_option maxHeartbeats 400000 in
theorem trim_any (A : Option Addr) (c : Nat) (xs : List Nat) (w : World) (h : Nums w .u32 A xs) (hl : xs.length ≤ 1000000) (hc : xs.length ≤ c) :
    Calls Try.prog 116 #[.slice A xs.length c] w fun e w' => w = w' ∧ Trimmed A c xs e := by
  go_enter Try.func116, Try.ntmps116
  go_wp2
  go_loop [3] (fun i => ∃ k : Nat, i = .int .i64 k ∧ k ≤ xs.length ∧ ZeroFrom xs k) (fun i => (intOf i).toNat)
  case atStart => exact ⟨xs.length, rfl, Nat.le_refl _, fun i h1 h2 => by omega⟩
  case round =>
    obtain ⟨k, rfl, hk, hz⟩ := hrel
    by_cases h0 : 0 < k
    · obtain ⟨ad, rfl, _, hcell⟩ := h.at_ (j := k - 1) (by omega)
      have hcd := hcell (k - 1) (by omega)
      clear hcell
      obtain ⟨d, hd⟩ : ∃ d, xs.getD (k - 1) 0 = d := ⟨_, rfl⟩
      rw [hd] at hcd
      have HD := Lib.hid hd
      clear hd
      by_cases hd0 : d = 0
      · subst hd0
        go_wp2
        go_round
        case rel => exact ⟨k - 1, by go_num, by omega, zero_down h0 HD.out hz⟩
        case measure => simp [intOf]; omega
      · have hne : ((d : Int) == 0) = false := by simp; omega
        go_wp2
        go_ret
        exact ⟨rfl, k, rfl, hk, hz, fun _ => by rw [HD.out]; exact hd0⟩
    · obtain rfl : k = 0 := by omega
      go_wp2
      go_ret
      exact ⟨rfl, 0, rfl, hk, hz, fun h => absurd h (by omega)⟩
end Go.Proofs.Ytagmdeabneapaaa
