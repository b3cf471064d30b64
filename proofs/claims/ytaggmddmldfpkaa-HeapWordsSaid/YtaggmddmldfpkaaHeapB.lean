/- What add of package heap does: an object behind all others. -/
import Derived.Test.YtaggmddmldfpkaaHeapA
namespace Go.Proofs.Ytaggmddmldfpkaa
open Go.RowKit
set_option linter.unusedSimpArgs false

theorem Try.infoWord : (Try.prog.info? 23).map (fun i => (i.zero, i.size, i.bytes)) = some (some (.int .u64 0), 1, 8) := by kernel_rfl
theorem Try.infoU64 : (Try.prog.info? 22).map (fun i => (i.zero, i.size, i.bytes)) = some (some (.int .u64 0), 1, 8) := by kernel_rfl
theorem undWords : Try.prog.underlying 32 = some (.slice 23) := by kernel_rfl
theorem undU64s : Try.prog.underlying 153 = some (.slice 22) := by kernel_rfl

/-- What add leaves: the place, the heap with more words, and heads for them. -/
def Added (w w' : World) (base g : Nat) (lim yg old mv : Int) (rv : Value) (nx : Int) (ws : List Nat) (x m : Nat) (e : Ending) : Prop :=
  e = .returned (.int .i64 ws.length) ∧ (∃ wv hv hs, HeapAt w' base g lim yg wv hv old mv rv nx (ws ++ x :: List.replicate m 3) hs ∧ ws.length + 1 + m ≤ 64 * hs.length ∧ hs.length ≤ 1100) ∧ Below base w w'

theorem snoc3 (ws : List Nat) (x k : Nat) : ws ++ x :: List.replicate k 3 ++ [3] = ws ++ x :: List.replicate (k + 1) 3 := by
  rw [List.append_assoc, List.cons_append, List.replicate_succ']

set_option maxRecDepth 100000 in
set_option maxHeartbeats 2000000 in
theorem add_any (base g : Nat) (lim yg old mv nx : Int) (wv hv rv : Value) (ws hs : List Nat) (x m : Nat) (w : World) (h : HeapAt w base g lim yg wv hv old mv rv nx ws hs) (hb : base ≤ w.heap.size)
    (hsz : ∀ W, Calls Try.prog 104 #[.int .u64 x] W fun e W' => IsOne W W' (.int .i64 ((m : Int) + 1)) e) (hl : ws.length + m ≤ 70000) (h2 : ws.length ≤ 64 * hs.length) (h3 : hs.length ≤ 1100) :
    Calls Try.prog 101 #[.pointer (some ⟨g, 0, none⟩), .int .u64 x] w fun e w' => Added w w' base g lim yg old mv rv nx ws x m e := by
  obtain ⟨i0, hi0, hz0, hz1, hz2⟩ := info_parts Try.infoWord
  obtain ⟨j0, hj0, hy0, hy1, hy2⟩ := info_parts Try.infoU64
  have HI := Lib.hid (And.intro hi0 (And.intro hz0 (And.intro hz1 hz2)))
  have HJ := Lib.hid (And.intro hj0 (And.intro hy0 (And.intro hy1 hy2)))
  have HL := Lib.hid (And.intro hl (And.intro h2 (And.intro h3 (And.intro hb hsz))))
  have H := Lib.hid h
  have m0 : (0 : Int) ≤ (m : Int) := Int.natCast_nonneg m
  have m1 : (m : Int) ≤ 70000 := by omega
  have c2 := (h.cell 2).trans (show (heapCells lim yg wv hv old mv rv nx)[2]? = some wv from rfl)
  obtain ⟨A1, n1, rfl, hn1⟩ := own_form h.own1
  clear hi0 hz0 hz1 hz2 hj0 hy0 hy1 hy2 hl h2 h3 hb hsz h
  go_enter Try.func101, Try.ntmps101
  go_wp2_with (at_builtin; refine wpList_append_own _ rfl _ _ 32 rfl base 23 i0 (.int .u64 0) 1 8 undWords HI.out.1 HI.out.2.1 HI.out.2.2.1 HI.out.2.2.2 rfl (by decide) _ ws.length (cellsOf .u64 ws) rfl ((H.out.alloc _).own1) ⟨w.heap.size, 0, none⟩ 1 1 [.int .u64 (x : Int)] rfl rfl (cell_one_new _ _ _) (by simp [Value.oneCell']) (by have := HL.out.1; unfold maxLen; omega) (by have := HL.out.1; omega) (by have := HL.out.2.2.2.1; simp; omega) ?_; intro v1 w1 hown1 hg1 _; obtain ⟨A2, n2, rfl, hn2⟩ := own_form hown1; have d2 := (cell_of_row w1 g 2 _ _ (0, 0) ((H.out.alloc _).blk1 hg1)).trans (show (heapCells lim yg (.slice A1 ws.length n1) hv old mv rv nx)[2]? = some (.slice A1 ws.length n1) from rfl); have f2 := frozen_of_row w1 g 2 _ _ ((H.out.alloc _).blk1 hg1))
  refine (HL.out.2.2.2.2 _).mono ?_
  rintro e w2 ⟨rfl, rfl⟩
  rw [cells_snoc .u64 ws x (x : Int) rfl] at hown1
  have hB : Below base w w1 := ((Below.refl base w).alloc HL.out.2.2.2.1 _).grown hg1 (by have := HL.out.2.2.2.1; simp; omega) (fun k hk => (H.out.own1.lt k hk).1)
  have h1 := (H.out.alloc _).words hg1 (by simp) hown1
  have hB1 := hB.setCell (p := ⟨g, 2, none⟩) H.out.lo (.slice A2 (ws.length + 1) n2)
  obtain ⟨W1, hW1⟩ : ∃ X : World, X = w1.setCell ⟨g, 2, none⟩ (.slice A2 (ws.length + 1) n2) := ⟨_, rfl⟩
  rw [← hW1] at h1 hB1 ⊢
  have HA := Lib.hid (And.intro h1 hB1)
  clear hW1 h1 hB1 hB hown1 hg1 d2 f2 c2 hn1 hn2
  go_wp2
  go_loopw [24] (fun iv wr => ∃ (k : Nat) (wv : Value), iv = .int .i64 k ∧ k ≤ m ∧ HeapAt wr base g lim yg wv hv old mv rv nx (ws ++ x :: List.replicate k 3) hs ∧ Below base w wr) (fun iv _ => m - (intOf iv).toNat)
  case atStart => exact ⟨0, _, rfl, Nat.zero_le _, HA.out.1, HA.out.2⟩
  case round =>
    clear HA
    obtain ⟨k, wv, rfl, hk, hh, hbel⟩ := hrel
    obtain ⟨us, hus⟩ : ∃ us, ws ++ x :: List.replicate k 3 = us := ⟨_, rfl⟩
    rw [hus] at hh
    have hul : us.length = ws.length + 1 + k := by rw [← hus]; simp; omega
    by_cases hkm : k < m
    · have c2 := (hh.cell 2).trans (show (heapCells lim yg wv hv old mv rv nx)[2]? = some wv from rfl)
      obtain ⟨Ar, nr, rfl, hnr⟩ := own_form hh.own1
      have HR := Lib.hid hh
      have HU := Lib.hid (show us.length ≤ 70000 by have := HL.out.1; omega)
      have HUL := Lib.hid hul
      clear hh hnr hul
      go_wp2_with (at_builtin; (refine wpList_append_own _ rfl _ _ 32 rfl base 23 i0 (.int .u64 0) 1 8 undWords HI.out.1 HI.out.2.1 HI.out.2.2.1 HI.out.2.2.2 rfl (by decide) _ us.length (cellsOf .u64 us) rfl ((HR.out.alloc _).own1) ⟨wr.heap.size, 0, none⟩ 1 1 [.int .u64 3] rfl rfl (cell_one_new _ _ _) (by simp [Value.oneCell']) (by have := HL.out.1; have := HU.out; unfold maxLen; omega) (by have := HL.out.1; have := HU.out; omega) (by have := HL.out.2.2.2.1; have := hbel.size; simp; omega) ?_); intro v1 w3 hown1 hg1 _; obtain ⟨A3, n3, rfl, hn3⟩ := own_form hown1; have d2 := (cell_of_row w3 g 2 _ _ (0, 0) ((HR.out.alloc _).blk1 hg1)).trans (show (heapCells lim yg (.slice Ar us.length nr) hv old mv rv nx)[2]? = some (.slice Ar us.length nr) from rfl); have f2 := frozen_of_row w3 g 2 _ _ ((HR.out.alloc _).blk1 hg1))
      rw [cells_snoc .u64 us 3 3 rfl] at hown1
      have hB : Below base w w3 := (hbel.alloc (Nat.le_trans HL.out.2.2.2.1 hbel.size) _).grown hg1 (by have := HL.out.2.2.2.1; have := hbel.size; simp; omega) (fun k hk => (HR.out.own1.lt k hk).1)
      have h1 := (HR.out.alloc _).words hg1 (by simp) hown1
      have hB1 := hB.setCell (p := ⟨g, 2, none⟩) H.out.lo (.slice A3 (us.length + 1) n3)
      go_roundw
      case rel => exact ⟨k + 1, _, by go_num, by omega, by rw [← snoc3, hus]; exact h1, hB1⟩
      case measure => simp [intOf]; omega
    · obtain rfl : k = m := by omega
      have HR0 := Lib.hid (And.intro hh (And.intro hbel hul))
      clear hh hbel hul
      go_wp2
      go_loopg [] ((us.length + 63) / 64) (fun q wr => ∃ (hv : Value) (hs' : List Nat), hs'.length + q = hs.length + (us.length + 63) / 64 ∧ hs'.length ≤ 1100 ∧ ws.length ≤ 64 * hs'.length ∧ HeapAt wr base g lim yg wv hv old mv rv nx us hs' ∧ Below base w wr)
      case atStart => exact ⟨hv, hs, rfl, HL.out.2.2.1, HL.out.2.1, HR0.out.1, HR0.out.2.1⟩
      case round =>
        obtain ⟨hv2, hs', hq, hle, hge, hh, hbel⟩ := hrel
        obtain ⟨Aw, nw, rfl, hnw⟩ := own_form hh.own1
        obtain ⟨Ar, nr, rfl, hnr⟩ := own_form hh.own2
        have HG := Lib.hid (And.intro hq (And.intro hle (And.intro hge (And.intro hnw hnr))))
        have c2 := (hh.cell 2).trans (show (heapCells lim yg (.slice Aw us.length nw) (.slice Ar hs'.length nr) old mv rv nx)[2]? = some (.slice Aw us.length nw) from rfl)
        have c3 := (hh.cell 3).trans (show (heapCells lim yg (.slice Aw us.length nw) (.slice Ar hs'.length nr) old mv rv nx)[3]? = some (.slice Ar hs'.length nr) from rfl)
        have HR := Lib.hid hh
        have l0 : (0 : Int) ≤ (hs'.length : Int) := Int.natCast_nonneg _
        have l1 : (hs'.length : Int) ≤ 1100 := by omega
        clear hq hge hnw hnr hh hle
        by_cases hlt : (hs'.length : Int) * 64 < (us.length : Int)
        · go_wp2_with fail
          go_quiet (fail)
          have hV1 := HR.out.drewN nq
          have hV2 := below_drewN hbel nq
          obtain ⟨V, hV⟩ : ∃ V, wr.drewN nq = V := ⟨_, rfl⟩
          rw [hV] at hV1 hV2 ⊢
          have HV := Lib.hid (And.intro hV1 hV2)
          clear hV c2 c3 HR hbel
          have c3 := (hV1.cell 3).trans (show (heapCells lim yg (.slice Aw us.length nw) (.slice Ar hs'.length nr) old mv rv nx)[3]? = some (.slice Ar hs'.length nr) from rfl)
          clear hV1 hV2
          go_wp2_with (at_builtin; refine wpList_append_own _ rfl _ _ 153 rfl base 22 j0 (.int .u64 0) 1 8 undU64s HJ.out.1 HJ.out.2.1 HJ.out.2.2.1 HJ.out.2.2.2 rfl (by decide) _ hs'.length (cellsOf .u64 hs') rfl ((HV.out.1.alloc _).own2) ⟨V.heap.size, 0, none⟩ 1 1 [.int .u64 0] rfl rfl (cell_one_new _ _ _) (by simp [Value.oneCell']) (by have := HG.out.2.1; unfold maxLen; omega) (by have := HG.out.2.1; omega) (by have := HL.out.2.2.2.1; have := HV.out.2.size; simp; omega) ?_; intro v1 w3 hown1 hg1 _; obtain ⟨A3, n3, rfl, hn3⟩ := own_form hown1; have d3 := (cell_of_row w3 g 3 _ _ (0, 0) ((HV.out.1.alloc _).blk2 hg1)).trans (show (heapCells lim yg (.slice Aw us.length nw) (.slice Ar hs'.length nr) old mv rv nx)[3]? = some (.slice Ar hs'.length nr) from rfl); have f3 := frozen_of_row w3 g 3 _ _ ((HV.out.1.alloc _).blk2 hg1))
          rw [cells_snoc .u64 hs' 0 0 rfl] at hown1
          have hB : Below base w w3 := (HV.out.2.alloc (Nat.le_trans HL.out.2.2.2.1 HV.out.2.size) _).grown hg1 (by have := HL.out.2.2.2.1; have := HV.out.2.size; simp; omega) (fun k hk => (HV.out.1.own2.lt k hk).1)
          have h1 := (HV.out.1.alloc _).heads hg1 (by simp) hown1
          have hB1 := hB.setCell (p := ⟨g, 3, none⟩) H.out.lo (.slice A3 (hs'.length + 1) n3)
          go_roundg (gk - 1)
          case rel => exact ⟨_, hs' ++ [0], by have := HG.out.1; simp; omega, by have := HR0.out.2.2; have := HL.out.1; simp; omega, by have := HG.out.2.2.1; simp; omega, h1, hB1⟩
          case measure => have := HG.out.1; omega
        · go_wp2_with fail
          go_quiet (fail)
          have hV1 := HR.out.drewN nq
          have hV2 := below_drewN hbel nq
          obtain ⟨V, hV⟩ : ∃ V, wr.drewN nq = V := ⟨_, rfl⟩
          rw [hV] at hV1 hV2 ⊢
          have HV := Lib.hid (And.intro hV1 hV2)
          clear hV c2 c3 HR hbel
          go_wp2_with fail
          have hql : ws.length / 64 < hs'.length := by have := HR0.out.2.2; omega
          obtain ⟨gh, ch, hvv, hcell, hfz⟩ := HV.out.1.headsAt hql
          injection hvv with e1 _ e3
          subst e1 e3
          have c3 := (HV.out.1.cell 3).trans (show (heapCells lim yg (.slice Aw us.length nw) (.slice (some ⟨gh, 0, none⟩) hs'.length nr) old mv rv nx)[3]? = some (.slice (some ⟨gh, 0, none⟩) hs'.length nr) from rfl)
          clear hV1 hV2
          have i0 : (0 : Int) ≤ (ws.length : Int) := Int.natCast_nonneg _
          have i1 : (ws.length : Int) ≤ 70000 := by have := HL.out.1; omega
          have hlq : (ws.length : Int) / 64 < (hs'.length : Int) := by omega
          have hq0 : (0 : Int) ≤ (ws.length : Int) / 64 := by omega
          have hidx : ((ws.length : Int) / 64).toNat = ws.length / 64 := by omega
          have hr0 : (0 : Int) ≤ (ws.length : Int) % 64 := by omega
          obtain ⟨d, hd⟩ : ∃ d, hs'.getD (ws.length / 64) 0 = d := ⟨_, rfl⟩
          rw [hd] at hcell
          have HS := Lib.hid (And.intro hlt hql)
          clear hlt hql hd
          go_region
          obtain ⟨d', hd', _⟩ := u64_some (d : Int) (IntKind.u64.wrap (2 ^ (ws.length % 64)))
          rw [hd']
          have h9 := (HV.out.1.marked (ws.length / 64) d').drewN 1
          have hbase : base ≤ gh := by
            rcases id HV.out.1.own2.2 with ⟨e, _⟩ | ⟨_, _, _, e, hb9, _⟩
            · simp at e
            · injection e with e _ _
              injection e with e
              injection e with e _ _
              omega
          have hB9 := below_drewN (HV.out.2.setCell (p := ⟨gh, ws.length / 64, none⟩) hbase (.int .u64 (d' : Int))) 1
          have HE := Lib.hid (And.intro h9 hB9)
          clear h9 hB9 hd' hcell hfz c3
          go_wp2
          go_ret
          exact ⟨rfl, ⟨_, _, hs'.set (ws.length / 64) d', by rw [hus]; exact HE.out.1, by have := HS.out.1; have := HR0.out.2.2; simp; omega, by have := HG.out.2.1; simp; omega⟩, HE.out.2⟩
end Go.Proofs.Ytaggmddmldfpkaa
