/- What sum of package integer does. -/
import Derived.Test.YtagmdeabneapaaaAdd
import Derived.Test.YtagmdeabneapaaaLimbs
import Derived.Laws.CopyOwn
namespace Go.Proofs.Ytagmdeabneapaaa
open Go.RowKit

/-- A slice of limbs of n is handed back; what was there is as it was. -/
def IsLims (w w' : World) (n : Nat) (e : Ending) : Prop := ∃ A c zs, e = .returned (.slice A zs.length c) ∧ Limbs w' A c zs n ∧ Below w.heap.size w w'

theorem made_zero (n : Nat) : (madeCells (Value.int .u32 0).cells (n * 1)).toList = cellsOf .u32 (List.replicate n 0) := by
  rw [show (Value.int .u32 0).cells = #[Value.int .u32 0] from rfl, toList_madeCells_one, Nat.mul_one]
  simp [cellsOf]

/-- What trim leaves of a row that the call made. -/
theorem lims_of_trim {w w' : World} {A : Option Addr} {c : Nat} {xs : List Nat} {e : Ending} {n : Nat} (h : Trimmed A c xs e) (hn : Nums w' .u32 A xs) (ho : Lm.Ok B32 xs) (hc : xs.length ≤ c) (hv : Lm.val B32 xs = n) (hb : Below w.heap.size w w') : IsLims w w' n e := by
  obtain ⟨k, rfl, hk, hz, hp⟩ := h
  have hl : (xs.take k).length = k := by rw [List.length_take]; omega
  exact ⟨A, c, xs.take k, by rw [hl], hv ▸ limbs_take hn ho hc hk hz hp, hb⟩

/-- Digits with zeros behind them. -/
theorem copy_over (xs : List Nat) (n : Nat) : splice (cellsOf .u32 (List.replicate n 0)) 0 (cellsOf .u32 xs) = cellsOf .u32 (xs ++ List.replicate (n - xs.length) 0) := by
  unfold splice cellsOf
  simp

theorem own_block {w : World} {base : Nat} {e : TypeId} {g n : Nat} {ys : List Value} (h : w.ownsRow base e 1 (.slice (some ⟨g, 0, none⟩) n n) n ys) : w.heap[g]? = some (.cells ys.toArray e (0, 0)) := by
  rcases h.2 with ⟨hv, _⟩ | ⟨g', cap, cur, hv, _, hg, _, _, hcs, htake⟩
  · cases hv
  · simp only [Value.slice.injEq, Option.some.injEq, Addr.mk.injEq, and_true, true_and] at hv
    obtain ⟨rfl, rfl⟩ := hv
    rw [hg, ← htake, List.take_of_length_le (by rw [Array.length_toList, hcs]; exact Nat.le_refl _)]

theorem copy_src {w : World} {k : IntKind} {A : Option Addr} {xs : List Nat} (h : Nums w k A xs) {g : Nat} : 0 < (cellsOf k xs).length → (some (⟨g, 0, none⟩ : Addr) = some ⟨g, 0, none⟩ ∧ ∃ ad, A = some ad ∧ ∀ j v, (cellsOf k xs)[j]? = some v → w.cell? (ad.add j) = some v) := fun hn => by
  rw [cellsOf_length] at hn
  obtain ⟨ad, rfl, _, _⟩ := h hn
  exact ⟨rfl, ad, rfl, h.news⟩

theorem seg_of_block {w : World} {g : Nat} {k : IntKind} {e : TypeId} {zs : List Nat} (h : w.heap[g]? = some (.cells (cellsOf k zs).toArray e (0, 0))) : Seg w g 0 k e (cellsOf k zs).toArray zs :=
  ⟨h, by simp [cellsOf_length], fun j hj => by simpa using cellsOf_at (k := k) hj⟩

theorem off_below {A : Option Addr} {w : World} {k : IntKind} {xs : List Nat} {g : Nat} (h : Nums w k A xs) (hn : 0 < xs.length) (hg : w.heap.size ≤ g) : Off A g := fun ad e => by
  obtain ⟨ad', e', hb, _⟩ := h hn
  rw [e] at e'
  injection e' with e'
  subst e'
  omega

/-- The sum of two numbers fits one limb more than the longer one has. -/
theorem sum_fits {xs ys : List Nat} (ox : Lm.Ok B32 xs) (oy : Lm.Ok B32 ys) (h : ys.length ≤ xs.length) : Lm.val B32 xs + Lm.val B32 ys < B32 ^ (xs.length + 1) := by
  have h1 := Lm.val_lt ox
  have h2 := Lm.val_lt oy
  have h3 : B32 ^ ys.length ≤ B32 ^ xs.length := Nat.pow_le_pow_right B32_pos h
  rw [Nat.pow_succ]
  have h4 : B32 ^ xs.length * 2 ≤ B32 ^ xs.length * B32 := Nat.mul_le_mul_left _ (by decide)
  omega

set_option maxRecDepth 100000 in
set_option maxHeartbeats 1000000 in
theorem sum_long (A : Option Addr) (c : Nat) (xs : List Nat) (A' : Option Addr) (c' : Nat) (ys : List Nat) (w : World) (hx : Nums w .u32 A xs) (hy : Nums w .u32 A' ys)
    (ox : Lm.Ok B32 xs) (oy : Lm.Ok B32 ys) (hl : xs.length ≤ 900000) (hle : ys.length ≤ xs.length) :
    Calls Try.prog 86 #[.slice A xs.length c, .slice A' ys.length c'] w fun e w' => IsLims w w' (Lm.val B32 xs + Lm.val B32 ys) e := by
  obtain ⟨i0, hi0, hz0, hz1, hz2⟩ := info_parts Try.info99
  have HI := Lib.hid (And.intro hi0 (And.intro hz0 (And.intro hz1 hz2)))
  have HM := Lib.hid (show i0.bytes * (xs.length + 1) ≤ 281474976710656 ∧ xs.length + 1 ≤ maxLen from ⟨by rw [hz2]; omega, by unfold maxLen; omega⟩)
  clear hi0 hz0 hz1 hz2
  have HS := Lib.hid (show (Try.prog.info? 99).map (·.size) = some 1 from by kernel_rfl)
  have HN := Lib.hid (show (cellsOf .u32 xs).length = Nat.min xs.length (xs.length + 1) ∧ 0 + (cellsOf .u32 xs).length ≤ (cellsOf .u32 (List.replicate (xs.length + 1) 0)).length from ⟨by rw [cellsOf_length]; exact (Nat.min_eq_left (by omega)).symm, by simp [cellsOf_length]⟩)
  go_enter Try.func86, Try.ntmps86
  go_wp2_with (first | (at_make; go_loud (refine wpList_make_full _ rfl _ _ 22 rfl w.heap.size 99 i0 (.int .u32 0) 1 Try.underlying22 HI.out.1 HI.out.2.1 HI.out.2.2.1 _ _ _ _ (xs.length + 1) rfl rfl (by omega) (by omega) HM.out.1 HM.out.2 (Nat.le_refl _) ?_); intro w1 hown1 hg1; rw [made_zero] at hown1; have HB := Lib.hid (own_block hown1); have hb1 : Below w.heap.size w w1 := (Below.refl _ _).grown hg1 (Nat.le_refl _) (fun k hk => by cases hk)) | (with_reducible refine wpList_copy_splice (o := ⟨some 19, _, _, _, _, _⟩) rfl (.tmp 17) (.tmp 18) 22 22 rfl 99 Try.underlying22 HS.out _ A _ _ xs.length c rfl rfl w.heap.size 0 _ 99 HB.out (cellsOf .u32 xs) HN.out.1 (copy_src (hx.below hb1)) HN.out.2 (cellsOf_one _ _) w.heap.size w hb1 (Nat.le_refl _) ?_; intro w2 HB2 hb2))
  have hz0 : Seg w2 w.heap.size 0 .u32 99 _ (xs ++ List.replicate (xs.length + 1 - xs.length) 0) := seg_of_block (by rw [← copy_over]; exact HB2.out)
  have hlen : (xs ++ List.replicate (xs.length + 1 - xs.length) 0).length = xs.length + 1 := by simp
  have hval : Lm.val B32 (xs ++ List.replicate (xs.length + 1 - xs.length) 0) = Lm.val B32 xs := by rw [Lm.val_append, Lm.val_zeros]; simp
  have hinc := increase_any w.heap.size 0 (xs.length + 1) _ _ A' c' ys w2 hz0 (hy.below hb2) (fun hn => off_below hy hn (Nat.le_refl _)) (ox.append (Lm.Ok.zeros B32_pos _)) oy (by omega) (by omega) (by rw [hlen, hval]; exact sum_fits ox oy hle)
  rw [hlen] at hinc
  have HV := Lib.hid (And.intro hlen hval)
  clear hz0 hlen hval HB HB2 HN HS HM HI
  refine hinc.mono ?_
  clear hinc
  rintro e w3 ⟨rfl, zs, hzl, hzo, hzv, ⟨cur', hseg, -, -⟩, hg3⟩
  rw [HV.out.2] at hzv
  have htr := trim_any (some ⟨w.heap.size, 0, none⟩) (xs.length + 1) zs w3 hseg.nums (by omega) (by omega)
  rw [hzl] at htr
  have HT := Lib.hid htr
  have HZ := Lib.hid (And.intro hzl hzv)
  clear htr hzl hzv hown1
  go_wp2_with fail
  refine HT.out.mono ?_
  rintro e w4 ⟨rfl, k, rfl, hk, hz, hp⟩
  have HP := Lib.hid (And.intro hk (And.intro hz hp))
  clear hk hz hp
  go_wp2
  go_ret
  exact lims_of_trim ⟨k, rfl, HP.out⟩ hseg.nums hzo (Nat.le_of_eq HZ.out.1) HZ.out.2 (hb2.trans (grown_below hg3 (Nat.le_refl _) hb2.size))
set_option maxRecDepth 100000 in
set_option maxHeartbeats 1000000 in
theorem sum_short (A : Option Addr) (c : Nat) (xs : List Nat) (A' : Option Addr) (c' : Nat) (ys : List Nat) (w : World) (hx : Nums w .u32 A xs) (hy : Nums w .u32 A' ys)
    (ox : Lm.Ok B32 xs) (oy : Lm.Ok B32 ys) (hl : xs.length ≤ 900000) (hlt : ys.length < xs.length) :
    Calls Try.prog 86 #[.slice A' ys.length c', .slice A xs.length c] w fun e w' => IsLims w w' (Lm.val B32 xs + Lm.val B32 ys) e := by
  have hle : ys.length ≤ xs.length := Nat.le_of_lt hlt
  obtain ⟨i0, hi0, hz0, hz1, hz2⟩ := info_parts Try.info99
  have HI := Lib.hid (And.intro hi0 (And.intro hz0 (And.intro hz1 hz2)))
  have HM := Lib.hid (show i0.bytes * (xs.length + 1) ≤ 281474976710656 ∧ xs.length + 1 ≤ maxLen from ⟨by rw [hz2]; omega, by unfold maxLen; omega⟩)
  clear hi0 hz0 hz1 hz2
  have HS := Lib.hid (show (Try.prog.info? 99).map (·.size) = some 1 from by kernel_rfl)
  have HN := Lib.hid (show (cellsOf .u32 xs).length = Nat.min xs.length (xs.length + 1) ∧ 0 + (cellsOf .u32 xs).length ≤ (cellsOf .u32 (List.replicate (xs.length + 1) 0)).length from ⟨by rw [cellsOf_length]; exact (Nat.min_eq_left (by omega)).symm, by simp [cellsOf_length]⟩)
  go_enter Try.func86, Try.ntmps86
  go_wp2_with (first | (at_make; go_loud (refine wpList_make_full _ rfl _ _ 22 rfl w.heap.size 99 i0 (.int .u32 0) 1 Try.underlying22 HI.out.1 HI.out.2.1 HI.out.2.2.1 _ _ _ _ (xs.length + 1) rfl rfl (by omega) (by omega) HM.out.1 HM.out.2 (Nat.le_refl _) ?_); intro w1 hown1 hg1; rw [made_zero] at hown1; have HB := Lib.hid (own_block hown1); have hb1 : Below w.heap.size w w1 := (Below.refl _ _).grown hg1 (Nat.le_refl _) (fun k hk => by cases hk)) | (with_reducible refine wpList_copy_splice (o := ⟨some 19, _, _, _, _, _⟩) rfl (.tmp 17) (.tmp 18) 22 22 rfl 99 Try.underlying22 HS.out _ A _ _ xs.length c rfl rfl w.heap.size 0 _ 99 HB.out (cellsOf .u32 xs) HN.out.1 (copy_src (hx.below hb1)) HN.out.2 (cellsOf_one _ _) w.heap.size w hb1 (Nat.le_refl _) ?_; intro w2 HB2 hb2))
  have hz0 : Seg w2 w.heap.size 0 .u32 99 _ (xs ++ List.replicate (xs.length + 1 - xs.length) 0) := seg_of_block (by rw [← copy_over]; exact HB2.out)
  have hlen : (xs ++ List.replicate (xs.length + 1 - xs.length) 0).length = xs.length + 1 := by simp
  have hval : Lm.val B32 (xs ++ List.replicate (xs.length + 1 - xs.length) 0) = Lm.val B32 xs := by rw [Lm.val_append, Lm.val_zeros]; simp
  have hinc := increase_any w.heap.size 0 (xs.length + 1) _ _ A' c' ys w2 hz0 (hy.below hb2) (fun hn => off_below hy hn (Nat.le_refl _)) (ox.append (Lm.Ok.zeros B32_pos _)) oy (by omega) (by omega) (by rw [hlen, hval]; exact sum_fits ox oy hle)
  rw [hlen] at hinc
  have HV := Lib.hid (And.intro hlen hval)
  clear hz0 hlen hval HB HB2 HN HS HM HI
  refine hinc.mono ?_
  clear hinc
  rintro e w3 ⟨rfl, zs, hzl, hzo, hzv, ⟨cur', hseg, -, -⟩, hg3⟩
  rw [HV.out.2] at hzv
  have htr := trim_any (some ⟨w.heap.size, 0, none⟩) (xs.length + 1) zs w3 hseg.nums (by omega) (by omega)
  rw [hzl] at htr
  have HT := Lib.hid htr
  have HZ := Lib.hid (And.intro hzl hzv)
  clear htr hzl hzv hown1
  go_wp2_with fail
  refine HT.out.mono ?_
  rintro e w4 ⟨rfl, k, rfl, hk, hz, hp⟩
  have HP := Lib.hid (And.intro hk (And.intro hz hp))
  clear hk hz hp
  go_wp2
  go_ret
  exact lims_of_trim ⟨k, rfl, HP.out⟩ hseg.nums hzo (Nat.le_of_eq HZ.out.1) HZ.out.2 (hb2.trans (grown_below hg3 (Nat.le_refl _) hb2.size))
theorem sum_any (A : Option Addr) (c : Nat) (xs : List Nat) (A' : Option Addr) (c' : Nat) (ys : List Nat) (w : World) (hx : Nums w .u32 A xs) (hy : Nums w .u32 A' ys)
    (ox : Lm.Ok B32 xs) (oy : Lm.Ok B32 ys) (hl : xs.length ≤ 900000) (hl' : ys.length ≤ 900000) :
    Calls Try.prog 86 #[.slice A xs.length c, .slice A' ys.length c'] w fun e w' => IsLims w w' (Lm.val B32 xs + Lm.val B32 ys) e := by
  rcases Nat.lt_or_ge xs.length ys.length with h | h
  · rw [Nat.add_comm]
    exact sum_short A' c' ys A c xs w hy hx oy ox hl' h
  · exact sum_long A c xs A' c' ys w hx hy ox oy hl h
end Go.Proofs.Ytagmdeabneapaaa
