/- For the law IntegerDigits: the library's contracts for its strings. -/
import Derived.Test.YtllkajlmfbikhaaDoorDigMath
import Derived.Test.YtllkajlmfbikhaaDoorKitD
import Derived.Test.YtllkajlmfbikhaaDoorAwake
import Derived.Test.YtllkajlmfbikhaaDoorShelf
import Derived.Laws.Concat
namespace Go.Proofs.YtllkajlmfbikhaaDoor
open Go.RowKit
set_option linter.unusedSimpArgs false

theorem row1 (w : World) (s1 : Bool) (A1 : Option Addr) (n1 c1 : Nat) (t : TypeId) : NRow (w.alloc (.cells #[.bool s1, .slice A1 n1 c1] t)) w.heap.size [⟨s1, A1, n1, c1⟩] :=
  ⟨by simp, fun i x hi => by
    match i, hi with
    | 0, hi => simp at hi; subst hi; constructor <;> go_simp⟩
theorem fits_of (s : Bool) {xs : List Nat} {m : Nat} (ho : Lm.Ok B32 xs) (hl : xs.length ≤ m) : Fits (ofSign s (Lm.val B32 xs)) m := by
  have h := Nat.lt_of_lt_of_le (Lm.val_lt ho) (Nat.pow_le_pow_right B32_pos hl)
  unfold Fits ofSign
  cases s <;> simp <;> exact h
theorem trim_is (s : ByteArray) (l : List Nat) (hl : (if (Tx.bts s).head? = some 45 then (Tx.bts s).tail else Tx.bts s) = l) : ∃ g, Tx.bts g = l ∧ ∀ w, Calls Tryd.prog 9 #[.string s, .string ⟨#[45]⟩] w fun e w' => e = .returned (.string g) ∧ w = w' :=
  ⟨⟨(Lib.trimPrefix s.data.toList [45]).toArray⟩, (bts_trim s 45).trans hl, fun w => (Tryd.strings_TrimPrefix s ⟨#[45]⟩ w).mono fun _ _ h => ⟨h.1, h.2.symm⟩⟩
theorem has_is (s : ByteArray) (k : UInt8) (b : Bool) (hb : decide ((Tx.bts s).head? = some k.toNat) = b) (w : World) : Calls Tryd.prog 14 #[.string s, .string ⟨#[k]⟩] w fun e w' => e = .returned (.bool b) ∧ w = w' :=
  (Tryd.strings_HasPrefix s ⟨#[k]⟩ w).mono fun _ _ h => ⟨by rw [h.1, ← hb, ← has_one], h.2.symm⟩
theorem rep_is (n : Nat) (hn : n ≤ 19) : ∃ g, Tx.bts g = List.replicate n 48 ∧ ∀ w, Calls Tryd.prog 11 #[.string ⟨#[48]⟩, .int .i64 (n : Int)] w fun e w' => e = .returned (.string g) ∧ Below w.heap.size w w' :=
  ⟨_, bts_repeat n, fun w => Tryd.strings_Repeat ⟨#[48]⟩ n w (by omega) (by have : (⟨#[48]⟩ : ByteArray).size = 1 := rfl; rw [this]; omega)⟩
theorem low_is (s : ByteArray) (l : List Nat) (hl : Tx.bts s = l) (hc : ∀ c ∈ l, c < 128) (hs : l.length ≤ 20000) : ∃ g, Tx.bts g = l.map lowN ∧ ∀ w, Calls Tryd.prog 12 #[.string s] w fun e w' => e = .returned (.string g) ∧ Below w.heap.size w w' :=
  ⟨_, by rw [← hl]; exact bts_lower s, fun w => Tryd.strings_ToLower_ascii s w (by rw [size_bts hl]; omega) (fun j b hb => by
    refine hc b.toNat ?_
    rw [← hl]
    exact List.mem_map.2 ⟨b, List.mem_of_getElem? hb, rfl⟩)⟩
theorem ne48 {g : ByteArray} {l : List Nat} (h : Tx.bts g = l) (hh : l.head? ≠ some 48) : ¬ g.toList = [48] := fun e => by
  rw [ByteArray.toList_eq] at e
  unfold Tx.bts at h
  rw [e] at h
  exact hh (by rw [← h]; rfl)
theorem same_is (x : Int) (hx : Fits x 8) (v v2 : Value) (w : World) (h : IntAt w v x) (h2 : IntAt w v2 x) : Calls Tryd.prog 13 #[v, v2] w fun e w' => IsBool w w' true e := by
  obtain ⟨b1, A1, c1, zs1, rfl, s1, l1⟩ := h
  obtain ⟨b2, A2, c2, zs2, rfl, s2, l2⟩ := h2
  have h := same_ints b1 b2 A1 c1 zs1 A2 c2 zs2 x x 8 w ⟨b1, A1, c1, zs1, rfl, s1, l1⟩ ⟨b2, A2, c2, zs2, rfl, s2, l2⟩ (by decide) hx hx
  rw [decide_eq_true (rfl : x = x)] at h
  exact h
end Go.Proofs.YtllkajlmfbikhaaDoor
