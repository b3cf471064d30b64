/- What slices.Clone at uint32, copied and signed of package integer do. -/
import Derived.Test.YtagmdeabneapaaaTrim
namespace Go.Proofs.Ytagmdeabneapaaa
open Go.RowKit

theorem Try.info99 : (Try.prog.info? 99).map (fun i => (i.zero, i.size, i.bytes)) = some (some (.int .u32 0), 1, 4) := by kernel_rfl

/-- Numbers as cells. -/
def cellsOf (k : IntKind) (xs : List Nat) : List Value := xs.map fun x => Value.int k ((x : Nat) : Int)
theorem cellsOf_length (k : IntKind) (xs : List Nat) : (cellsOf k xs).length = xs.length := by simp [cellsOf]
theorem cellsOf_one (k : IntKind) (xs : List Nat) : ∀ u ∈ cellsOf k xs, u.oneCell' = true := by
  intro u hu
  obtain ⟨_, _, rfl⟩ := List.mem_map.1 hu
  rfl
theorem cellsOf_at {k : IntKind} {xs : List Nat} {j : Nat} (hj : j < xs.length) : (cellsOf k xs)[j]? = some (.int k ((xs.getD j 0 : Nat) : Int)) := by
  unfold cellsOf
  rw [List.getElem?_map, List.getElem?_eq_getElem hj, List.getD_eq_getElem?_getD, List.getElem?_eq_getElem hj]
  rfl
theorem Nums.news {w : World} {k : IntKind} {ad : Addr} {xs : List Nat} (h : Nums w k (some ad) xs) : ∀ j u, (cellsOf k xs)[j]? = some u → w.cell? (ad.add j) = some u := by
  intro j u hu
  have hj : j < xs.length := by simpa [cellsOf_length] using (List.getElem?_eq_some_iff.1 hu).1
  obtain ⟨ad', e, _, hc⟩ := h (by omega)
  injection e with e
  subst e
  rw [hc j hj, ← hu, cellsOf_at hj]
/-- A row that the call made: it reads as numbers, and may be written. -/
theorem seg_of_own {w : World} {base : Nat} {e : TypeId} {k : IntKind} {A : Option Addr} {n c : Nat} {xs : List Nat} (h : w.ownsRow base e 1 (.slice A n c) n (cellsOf k xs)) (hn : 0 < n) :
    ∃ g cur, A = some ⟨g, 0, none⟩ ∧ base ≤ g ∧ Seg w g 0 k e cur xs := by
  have hl := h.1
  rw [cellsOf_length] at hl
  rcases h.2 with ⟨_, h0⟩ | ⟨g, cap, cur, hv, hb, hg, hnc, _, hcs, htake⟩
  · omega
  · simp only [Value.slice.injEq] at hv
    obtain ⟨rfl, _, _⟩ := hv
    refine ⟨g, cur, rfl, hb, hg, by omega, fun j hj => ?_⟩
    have hc := cellsOf_at (k := k) hj
    rw [← htake, List.getElem?_take, if_pos (by omega)] at hc
    simpa using hc

theorem own_form {w : World} {base : Nat} {e : TypeId} {v : Value} {n : Nat} {xs : List Value} (h : w.ownsRow base e 1 v n xs) : ∃ A c, v = .slice A n c ∧ n ≤ c := by
  rcases h.2 with ⟨rfl, rfl⟩ | ⟨g, cap, _, rfl, _, _, hnc, _⟩
  · exact ⟨none, 0, rfl, Nat.le_refl _⟩
  · exact ⟨_, cap, rfl, hnc⟩

def Cloned (w w' : World) (xs : List Nat) (e : Ending) : Prop :=
  ∃ A c, e = .returned (.slice A xs.length c) ∧ w'.ownsRow w.heap.size 99 1 (.slice A xs.length c) xs.length (cellsOf .u32 xs) ∧ Below w.heap.size w w'

set_option maxHeartbeats 400000 in
theorem clone_nil (c : Nat) (w : World) : Calls Try.prog 118 #[.slice none 0 c] w fun e w' => e = .returned (.slice none 0 0) ∧ w = w' := by
  have hnil := fun W : World => Lib.run_eql_slice_nil W 22 99 none 0 c 0 0 Try.underlying22
  simp only [Option.isNone_none] at hnil
  go_enter Try.func118, Try.ntmps118
  go_wp2
  go_ret
  exact ⟨rfl, rfl⟩

set_option maxHeartbeats 400000 in
theorem clone_some (ad : Addr) (c : Nat) (xs : List Nat) (w : World) (h : Nums w .u32 (some ad) xs) (hl : xs.length ≤ 1000000) :
    Calls Try.prog 118 #[.slice (some ad) xs.length c] w fun e w' => Cloned w w' xs e := by
  obtain ⟨i0, hi0, hz0, hz1, hz2⟩ := info_parts Try.info99
  have HI := Lib.hid (And.intro hi0 (And.intro hz0 (And.intro hz1 hz2)))
  clear hi0 hz0 hz1 hz2
  have hnil := fun W : World => Lib.run_eql_slice_nil W 22 99 (some ad) xs.length c 0 0 Try.underlying22
  simp only [Option.isNone_some] at hnil
  have hown := World.ownsRow_lit (base := w.heap.size) (e := 99) (size := 1) w #[] 0 (Nat.le_refl _) (by unfold maxLen; omega) (by simp)
  have hcells := (h.alloc (.cells #[] 99)).news
  have hb0 : Below w.heap.size w (w.alloc (.cells #[] 99)) := (Below.refl _ _).alloc (Nat.le_refl _) _
  have HO := Lib.hid (And.intro hown (And.intro hcells hb0))
  clear hown hcells hb0
  go_enter Try.func118, Try.ntmps118
  go_wp2_with (at_builtin; refine wpList_append_own _ rfl _ _ 22 rfl w.heap.size 99 i0 (.int .u32 0) 1 4 Try.underlying22 HI.out.1 HI.out.2.1 HI.out.2.2.1 HI.out.2.2.2 rfl (by decide) _ 0 [] rfl HO.out.1 ad xs.length c (cellsOf .u32 xs) rfl (by simp [cellsOf_length]) HO.out.2.1 (cellsOf_one _ _) (by unfold maxLen; omega) (by omega) (by simp) ?_; intro v1 w1 hown1 hg1 _)
  simp only [Nat.zero_add, List.nil_append] at hown1
  go_ret
  obtain ⟨A, c', rfl, _⟩ := own_form hown1
  exact ⟨A, c', rfl, hown1, HO.out.2.2.grown hg1 (by simp) (fun k hk => by have e : some w.heap.size = some k := hk; injection e with e; omega)⟩

theorem clone_any (A : Option Addr) (c : Nat) (xs : List Nat) (w : World) (h : Nums w .u32 A xs) (hl : xs.length ≤ 1000000) :
    Calls Try.prog 118 #[.slice A xs.length c] w fun e w' => Cloned w w' xs e := by
  rcases A with _ | ad
  · have hx : xs = [] := by
      rcases Nat.eq_zero_or_pos xs.length with h0 | h0
      · exact List.eq_nil_of_length_eq_zero h0
      · obtain ⟨ad, e, _⟩ := h h0; cases e
    subst hx
    refine (clone_nil c w).mono ?_
    rintro e w' ⟨rfl, rfl⟩
    exact ⟨none, 0, rfl, World.ownsRow_nil _ _ _ _, Below.refl _ _⟩
  · exact clone_some ad c xs w h hl

def Copied (w w' : World) (xs : List Nat) (e : Ending) : Prop :=
  ∃ n, Cloned w w' (xs.take n) e ∧ n ≤ xs.length ∧ ZeroFrom xs n ∧ (0 < n → xs.getD (n - 1) 0 ≠ 0)

set_option maxHeartbeats 400000 in
theorem copied_any (A : Option Addr) (c : Nat) (xs : List Nat) (w : World) (h : Nums w .u32 A xs) (hl : xs.length ≤ 1000000) (hc : xs.length ≤ c) :
    Calls Try.prog 85 #[.slice A xs.length c] w fun e w' => Copied w w' xs e := by
  go_enter Try.func85, Try.ntmps85
  go_wp2_with fail
  refine (trim_any A c xs w h hl hc).mono ?_
  rintro e w' ⟨rfl, n, rfl, hn, hz, hp⟩
  have HZ := Lib.hid (And.intro hz hp)
  clear hz hp
  have hcl := clone_any A c (xs.take n) w (h.take n) (by rw [List.length_take]; omega)
  rw [show (xs.take n).length = n from by rw [List.length_take]; omega] at hcl
  have HC := Lib.hid hcl
  clear hcl
  go_wp2_with fail
  refine HC.out.mono ?_
  rintro e w' ⟨A', c', rfl, hown, hb⟩
  go_wp2
  go_ret
  exact ⟨n, ⟨A', c', by rw [show (xs.take n).length = n from by rw [List.length_take]; omega]; rfl, hown, hb⟩, hn, HZ.out.1, HZ.out.2⟩
end Go.Proofs.Ytagmdeabneapaaa
