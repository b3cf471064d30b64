/- What trimmed, made, New of the reference do: its integers as numbers. -/
import Derived.Test.YtagmdeabneapaaaDivide
namespace Go.Proofs.Ytagmdeabneapaaa
open Go.RowKit

/-- The reference's base. -/
def BD : Nat := 65536
theorem BD_pos : 0 < BD := by decide
theorem BD_one : 1 < BD := by decide

/-- The slice value holds the reference's digits of n, without zeros at the top. -/
def Digs (w : World) (A : Option Addr) (c : Nat) (ds : List Nat) (n : Nat) : Prop :=
  ds.length ≤ c ∧ Nums w .i64 A ds ∧ Lm.Ok BD ds ∧ Lm.Top ds ∧ Lm.val BD ds = n
/-- The value is the reference's integer z. -/
def RefAt (w : World) (v : Value) (z : Int) : Prop :=
  ∃ b A c ds, v = .agg #[.bool b, .slice A ds.length c] ∧ SignOf b z ∧ Digs w A c ds z.natAbs
theorem Digs.step {W0 W w1 : World} {A : Option Addr} {c n : Nat} {ds : List Nat} (t : Digs W0 A c ds n) (hb : Below W.heap.size W w1) (hh : W.heap = W0.heap) : Digs w1 A c ds n := by
  have e : ∀ p, W.cell? p = W0.cell? p := fun p => by simp [World.cell?, hh]
  refine ⟨t.1, fun hn => ?_, t.2.2⟩
  obtain ⟨ad, ea, hlt, hc⟩ := t.2.1 hn
  rw [← hh] at hlt
  exact ⟨ad, ea, Nat.lt_of_lt_of_le hlt hb.size, fun j hj => ((hb.cell (by rw [block_of_add]; exact hlt)).trans (e _)).trans (hc j hj)⟩
theorem RefAt.step {W0 W w1 : World} {v : Value} {z : Int} (t : RefAt W0 v z) (hb : Below W.heap.size W w1) (hh : W.heap = W0.heap) : RefAt w1 v z := by
  obtain ⟨b, A, c, ds, e, hs, hd⟩ := t
  exact ⟨b, A, c, ds, e, hs, hd.step hb hh⟩
theorem RefAt.below {w w' : World} {v : Value} {z : Int} (h : RefAt w v z) (hb : Below w.heap.size w w') : RefAt w' v z := h.step hb rfl

set_option maxHeartbeats 400000 in
theorem trimmed_any (A : Option Addr) (c : Nat) (xs : List Nat) (w : World) (h : Nums w .i64 A xs) (hl : xs.length ≤ 1000000) (hc : xs.length ≤ c) :
    Calls Try.prog 112 #[.slice A xs.length c] w fun e w' => w = w' ∧ Trimmed A c xs e := by
  go_enter Try.func112, Try.ntmps112
  go_wp2
  go_loop [3] (fun i => ∃ k : Nat, i = .int .i64 k ∧ k ≤ xs.length ∧ ZeroFrom xs k) (fun i => (intOf i).toNat)
  case atStart => exact ⟨xs.length, rfl, Nat.le_refl _, fun i h1 h2 => by omega⟩
  case round =>
    obtain ⟨k, rfl, hk, hz⟩ := hrel
    by_cases h0 : 0 < k
    · obtain ⟨ad, rfl, _, hcell⟩ := h.at_ (j := k - 1) (by omega)
      have hcd := hcell (k - 1) (by omega)
      clear hcell
      obtain ⟨d, hd⟩ : ∃ d, xs.getD (k - 1) 0 = d := ⟨_, rfl⟩
      rw [hd] at hcd
      have HD := Lib.hid hd
      clear hd
      by_cases hd0 : d = 0
      · subst hd0
        go_wp2
        go_round
        case rel => exact ⟨k - 1, by go_num, by omega, zero_down h0 HD.out hz⟩
        case measure => simp [intOf]; omega
      · have hne : ((d : Int) == 0) = false := by simp; omega
        go_wp2
        go_ret
        exact ⟨rfl, k, rfl, hk, hz, fun _ => by rw [HD.out]; exact hd0⟩
    · obtain rfl : k = 0 := by omega
      go_wp2
      go_ret
      exact ⟨rfl, 0, rfl, hk, hz, fun h => absurd h (by omega)⟩

def IsRef (w w' : World) (z : Int) (e : Ending) : Prop := ∃ v, e = .returned v ∧ RefAt w' v z ∧ Below w.heap.size w w'

theorem ref_zero (w : World) (A : Option Addr) (c : Nat) : RefAt w (.agg #[.bool false, .slice A 0 c]) 0 := ⟨false, A, c, [], rfl, by simp [SignOf], by simp, Nums.nil _ _ _, Lm.Ok.nil _, Lm.Top.nil, rfl⟩

theorem digs_take {w : World} {A : Option Addr} {c : Nat} {xs : List Nat} {n : Nat} (h : Nums w .i64 A xs) (ho : Lm.Ok BD xs) (hc : xs.length ≤ c) (hn : n ≤ xs.length) (hz : ZeroFrom xs n) (hp : 0 < n → xs.getD (n - 1) 0 ≠ 0) :
    Digs w A c (xs.take n) (Lm.val BD xs) :=
  ⟨by rw [List.length_take]; omega, h.take n, ho.take n, top_take hn hp, Lm.val_cut n hn hz⟩
theorem ref_of {w : World} {A : Option Addr} {c : Nat} {zs : List Nat} {n : Nat} (b : Bool) (h : Digs w A c zs n) (hn : 0 < n) :
    RefAt w (.agg #[.bool b, .slice A zs.length c]) (ofSign b n) := by
  refine ⟨b, A, c, zs, rfl, ?_, ?_⟩
  · unfold SignOf
    cases b <;> simp [ofSign] <;> omega
  · have e : (ofSign b n).natAbs = n := by cases b <;> simp [ofSign]
    rw [e]
    exact h

set_option maxRecDepth 100000 in
set_option maxHeartbeats 1000000 in
theorem made_any (b : Bool) (A : Option Addr) (c : Nat) (xs : List Nat) (w : World) (h : Nums w .i64 A xs) (ho : Lm.Ok BD xs) (hl : xs.length ≤ 1000000) (hc : xs.length ≤ c) :
    Calls Try.prog 72 #[.bool b, .slice A xs.length c] w fun e w' => IsRef w w' (ofSign b (Lm.val BD xs)) e := by
  cases b
  · go_enter Try.func72, Try.ntmps72
    go_wp2_with fail
    refine (trimmed_any A c xs _ (h.alloc _) hl hc).mono ?_
    rintro e w' ⟨rfl, n, rfl, hn, hz, hp⟩
    have HZ := Lib.hid (And.intro hz hp)
    clear hz hp
    by_cases h0 : 0 < n
    · go_wp2
      refine bodyPost_ret (v := .agg #[.bool false, .slice A n c]) (by simp [results, Try.results72, go_sem]) rfl ⟨_, rfl, ?_, (Below.refl _ _).alloc (Nat.le_refl _) _⟩
      have hlim := (digs_take (h.alloc (.cells #[.bool false, .slice A n c] 31)) ho hc hn HZ.out.1 HZ.out.2)
      have hlen : (xs.take n).length = n := by rw [List.length_take]; omega
      have hpos : 0 < Lm.val BD xs := by
        rw [← hlim.2.2.2.2]
        exact Lm.val_pos BD_pos (by omega) hlim.2.2.2.1
      have hi := ref_of false hlim hpos
      rw [hlen] at hi
      exact hi
    · obtain rfl : n = 0 := by omega
      go_wp2
      refine bodyPost_ret (v := .agg #[.bool false, .slice A 0 c]) (by simp [results, Try.results72, go_sem]) rfl ⟨_, rfl, ?_, (Below.refl _ _).alloc (Nat.le_refl _) _⟩
      have hv : Lm.val BD xs = 0 := by
        rw [← Lm.val_cut 0 (Nat.zero_le _) HZ.out.1]
        rfl
      rw [hv]
      exact ref_zero _ _ _
  · go_enter Try.func72, Try.ntmps72
    go_wp2_with fail
    refine (trimmed_any A c xs _ (h.alloc _) hl hc).mono ?_
    rintro e w' ⟨rfl, n, rfl, hn, hz, hp⟩
    have HZ := Lib.hid (And.intro hz hp)
    clear hz hp
    by_cases h0 : 0 < n
    · go_wp2
      refine bodyPost_ret (v := .agg #[.bool true, .slice A n c]) (by simp [results, Try.results72, go_sem]) rfl ⟨_, rfl, ?_, (Below.refl _ _).alloc (Nat.le_refl _) _⟩
      have hlim := (digs_take (h.alloc (.cells #[.bool true, .slice A n c] 31)) ho hc hn HZ.out.1 HZ.out.2)
      have hlen : (xs.take n).length = n := by rw [List.length_take]; omega
      have hpos : 0 < Lm.val BD xs := by
        rw [← hlim.2.2.2.2]
        exact Lm.val_pos BD_pos (by omega) hlim.2.2.2.1
      have hi := ref_of true hlim hpos
      rw [hlen] at hi
      exact hi
    · obtain rfl : n = 0 := by omega
      go_wp2
      refine bodyPost_ret (v := .agg #[.bool false, .slice A 0 c]) (by simp [results, Try.results72, go_sem]) rfl ⟨_, rfl, ?_, (Below.refl _ _).alloc (Nat.le_refl _) _⟩
      have hv : Lm.val BD xs = 0 := by
        rw [← Lm.val_cut 0 (Nat.zero_le _) HZ.out.1]
        rfl
      rw [hv]
      exact ref_zero _ _ _
end Go.Proofs.Ytagmdeabneapaaa
