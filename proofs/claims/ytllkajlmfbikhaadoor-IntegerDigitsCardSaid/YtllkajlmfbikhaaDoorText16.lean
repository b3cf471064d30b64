/- What chunkOf and backwards of package integer do for 255 in the radix 16. -/
import Derived.Test.YtllkajlmfbikhaaDoorBoole
import Derived.Deep.LoopGhost
namespace Go.Proofs.YtllkajlmfbikhaaDoor
open Go.RowKit

/-- The world in which chunkOf has gone i rounds. -/
def chunkAt (w : World) (i : Nat) : World := (w.alloc (.cells #[.int .i64 0, .int .u32 0] 94)).alloc (.cells #[.int .i64 i, .int .u32 (16 ^ i)] 94)

def IsChunk (w w' : World) (e : Ending) : Prop := e = .returned (.agg #[.int .i64 7, .int .u32 268435456]) ∧ Below w.heap.size w w'

set_option maxRecDepth 100000 in
set_option maxHeartbeats 2000000 in
theorem chunk16 (w : World) : Calls Tryd.prog 50 #[.int .i64 16] w fun e w' => IsChunk w w' e := by
  go_enter Tryd.func50, Tryd.ntmps50
  go_wp2
  go_loopg [] 7 (fun k wr => ∃ i : Nat, i + k = 7 ∧ wr = chunkAt w i)
  case atStart => exact ⟨0, rfl, rfl⟩
  case round =>
    obtain ⟨i, hi, rfl⟩ := hrel
    rcases (show i = 0 ∨ i = 1 ∨ i = 2 ∨ i = 3 ∨ i = 4 ∨ i = 5 ∨ i = 6 ∨ i = 7 from by omega) with rfl | rfl | rfl | rfl | rfl | rfl | rfl | rfl
    · rw [show chunkAt w 0 = (w.alloc (.cells #[.int .i64 0, .int .u32 0] 94)).alloc (.cells #[.int .i64 0, .int .u32 1] 94) from rfl]
      go_wp2
      go_roundg (gk - 1)
      case rel => exact ⟨1, by omega, rfl⟩
      case measure => omega
    · rw [show chunkAt w 1 = (w.alloc (.cells #[.int .i64 0, .int .u32 0] 94)).alloc (.cells #[.int .i64 1, .int .u32 16] 94) from rfl]
      go_wp2
      go_roundg (gk - 1)
      case rel => exact ⟨2, by omega, rfl⟩
      case measure => omega
    · rw [show chunkAt w 2 = (w.alloc (.cells #[.int .i64 0, .int .u32 0] 94)).alloc (.cells #[.int .i64 2, .int .u32 256] 94) from rfl]
      go_wp2
      go_roundg (gk - 1)
      case rel => exact ⟨3, by omega, rfl⟩
      case measure => omega
    · rw [show chunkAt w 3 = (w.alloc (.cells #[.int .i64 0, .int .u32 0] 94)).alloc (.cells #[.int .i64 3, .int .u32 4096] 94) from rfl]
      go_wp2
      go_roundg (gk - 1)
      case rel => exact ⟨4, by omega, rfl⟩
      case measure => omega
    · rw [show chunkAt w 4 = (w.alloc (.cells #[.int .i64 0, .int .u32 0] 94)).alloc (.cells #[.int .i64 4, .int .u32 65536] 94) from rfl]
      go_wp2
      go_roundg (gk - 1)
      case rel => exact ⟨5, by omega, rfl⟩
      case measure => omega
    · rw [show chunkAt w 5 = (w.alloc (.cells #[.int .i64 0, .int .u32 0] 94)).alloc (.cells #[.int .i64 5, .int .u32 1048576] 94) from rfl]
      go_wp2
      go_roundg (gk - 1)
      case rel => exact ⟨6, by omega, rfl⟩
      case measure => omega
    · rw [show chunkAt w 6 = (w.alloc (.cells #[.int .i64 0, .int .u32 0] 94)).alloc (.cells #[.int .i64 6, .int .u32 16777216] 94) from rfl]
      go_wp2
      go_roundg (gk - 1)
      case rel => exact ⟨7, by omega, rfl⟩
      case measure => omega
    · rw [show chunkAt w 7 = (w.alloc (.cells #[.int .i64 0, .int .u32 0] 94)).alloc (.cells #[.int .i64 7, .int .u32 268435456] 94) from rfl]
      go_wp2
      refine bodyPost_ret (v := .agg #[.int .i64 7, .int .u32 268435456]) (by simp [results, Tryd.results50, go_sem]) rfl ?_
      exact ⟨rfl, boxed2_below _ _ _⟩

theorem Tryd.info5 : (Tryd.prog.info? 5).map (fun i => (i.zero, i.size, i.bytes)) = some (some (.int .u8 0), 1, 1) := by kernel_rfl

/-- The bytes of 255 in the radix 16, the last one first, filled up to a chunk. -/
def told7 : List Nat := [70, 70, 48, 48, 48, 48, 48]

def IsTold (w w' : World) (bs : List Nat) (e : Ending) : Prop := ∃ v, e = .returned v ∧ w'.ownsRow w.heap.size 5 1 v bs.length (cellsOf .u8 bs) ∧ Below w.heap.size w w'

set_option maxRecDepth 100000 in
set_option maxHeartbeats 2000000 in
theorem backwards16 (A : Option Addr) (c : Nat) (w : World) (h : Limbs w A c [255] 255) : Calls Tryd.prog 24 #[.slice A 1 c, .int .i64 16] w fun e w' => IsTold w w' told7 e := by
  obtain ⟨i0, hi0, hz0, hz1, hz2⟩ := info_parts Tryd.info5
  have HI := Lib.hid (And.intro hi0 (And.intro hz0 (And.intro hz1 hz2)))
  clear hi0 hz0 hz1 hz2
  go_enter Tryd.func24, Tryd.ntmps24
  go_wp2_with fail
  refine (chunk16 w).mono ?_
  rintro e w1 ⟨rfl, hb1⟩
  have hl1 := h.step ((hb1.alloc hb1.size (.cells #[.int .i64 7, .int .u32 268435456] 94))) rfl
  have hb1' := hb1.alloc hb1.size (.cells #[.int .i64 7, .int .u32 268435456] 94)
  go_wp2
  go_loopg [0, 6] 1 (fun k xv tv wr => (k = 1 ∧ xv = .slice A 1 c ∧ tv = .slice none 0 0 ∧ wr = w1.alloc (.cells #[.int .i64 7, .int .u32 268435456] 94)) ∨ (k = 0 ∧ ∃ A' c', xv = .slice A' 0 c' ∧ wr.ownsRow w.heap.size 5 1 tv 7 (cellsOf .u8 told7) ∧ Below w.heap.size w wr))
  case atStart => exact .inl ⟨rfl, rfl, rfl, rfl⟩
  case round =>
    rcases hrel with ⟨rfl, rfl, rfl, rfl⟩ | ⟨rfl, A', c', rfl, hown, hbel⟩
    · have hd := divideByLimb_any A c [255] 268435456 _ hl1.2.1 hl1.2.2.1 (by decide) (by decide) (by decide)
      have HD := Lib.hid hd
      clear hd
      go_wp2_with fail
      refine HD.out.mono ?_
      rintro e w3 ⟨Aq, cq, zq, rfl, hq, hbq⟩
      have hzq : zq = [] := Lm.val_eq_zero B32_pos hq.2.2.2.1 (by rw [hq.2.2.2.2]; decide)
      subst hzq
      have hb3 : Below w.heap.size w w3 := below_then hb1' hbq
      have hcell : w3.cell? ⟨w1.heap.size, 0, none⟩ = some (.int .i64 7) := (hbq.cell (p := ⟨w1.heap.size, 0, none⟩) (by simp)).trans (cell2 w1 (.int .i64 7) (.int .u32 268435456) 94).1
      rw [show Lm.val B32 [255] % 268435456 = 255 from by decide]
      clear hl1 hb1'
      go_wp2

      go_loopw [6, 8, 24] (fun tv rv iv wr => ∃ i : Nat, iv = .int .i64 i ∧ rv = .int .u32 ((255 / 16 ^ i : Nat) : Int) ∧ i ≤ 7 ∧ wr.ownsRow w.heap.size 5 1 tv i (cellsOf .u8 (told7.take i)) ∧ Below w.heap.size w wr) (fun _ _ iv _ => 7 - (intOf iv).toNat)
      case atStart => exact ⟨0, rfl, rfl, by omega, World.ownsRow_nil _ _ _ _, hb3⟩
      case round =>
        obtain ⟨i, rfl, rfl, hi, hown, hbel⟩ := hrel
        obtain ⟨At, ct, rfl, hle⟩ := own_form hown
        have hsz : w.heap.size ≤ wr.heap.size := hbel.size
        clear hcell
        rcases (show i = 0 ∨ i = 1 ∨ i = 2 ∨ i = 3 ∨ i = 4 ∨ i = 5 ∨ i = 6 ∨ i = 7 from by omega) with rfl | rfl | rfl | rfl | rfl | rfl | rfl | rfl
        · go_wp2_with (at_builtin; refine wpList_append_own _ rfl _ _ 57 rfl w.heap.size 5 i0 (.int .u8 0) 1 1 Tryd.underlying57 HI.out.1 HI.out.2.1 HI.out.2.2.1 HI.out.2.2.2 rfl (by decide) _ 0 (cellsOf .u8 (told7.take 0)) rfl (hown.alloc _) ⟨wr.heap.size, 0, none⟩ 1 1 [.int .u8 70] rfl rfl (cell_one_new _ _ _) (by simp [Value.oneCell']) (by decide) (by decide) (by simp; omega) ?_; intro v1 w2 hown1 hg1 _)
          go_roundw
          case rel => exact ⟨1, rfl, by rw [show (255 / 16 ^ 1 : Nat) = 15 from by decide]; rfl, by omega, hown1, (hbel.alloc hsz _).grown hg1 (by simp; omega) (fun k hk => (hown.lt k hk).1)⟩
          case measure => simp [intOf]
        · go_wp2_with (at_builtin; refine wpList_append_own _ rfl _ _ 57 rfl w.heap.size 5 i0 (.int .u8 0) 1 1 Tryd.underlying57 HI.out.1 HI.out.2.1 HI.out.2.2.1 HI.out.2.2.2 rfl (by decide) _ 1 (cellsOf .u8 (told7.take 1)) rfl (hown.alloc _) ⟨wr.heap.size, 0, none⟩ 1 1 [.int .u8 70] rfl rfl (cell_one_new _ _ _) (by simp [Value.oneCell']) (by decide) (by decide) (by simp; omega) ?_; intro v1 w2 hown1 hg1 _)
          go_roundw
          case rel => exact ⟨2, rfl, by rw [show (255 / 16 ^ 2 : Nat) = 0 from by decide]; rfl, by omega, hown1, (hbel.alloc hsz _).grown hg1 (by simp; omega) (fun k hk => (hown.lt k hk).1)⟩
          case measure => simp [intOf]
        · go_wp2_with (at_builtin; refine wpList_append_own _ rfl _ _ 57 rfl w.heap.size 5 i0 (.int .u8 0) 1 1 Tryd.underlying57 HI.out.1 HI.out.2.1 HI.out.2.2.1 HI.out.2.2.2 rfl (by decide) _ 2 (cellsOf .u8 (told7.take 2)) rfl (hown.alloc _) ⟨wr.heap.size, 0, none⟩ 1 1 [.int .u8 48] rfl rfl (cell_one_new _ _ _) (by simp [Value.oneCell']) (by decide) (by decide) (by simp; omega) ?_; intro v1 w2 hown1 hg1 _)
          go_roundw
          case rel => exact ⟨3, rfl, by rw [show (255 / 16 ^ 3 : Nat) = 0 from by decide]; rfl, by omega, hown1, (hbel.alloc hsz _).grown hg1 (by simp; omega) (fun k hk => (hown.lt k hk).1)⟩
          case measure => simp [intOf]
        · go_wp2_with (at_builtin; refine wpList_append_own _ rfl _ _ 57 rfl w.heap.size 5 i0 (.int .u8 0) 1 1 Tryd.underlying57 HI.out.1 HI.out.2.1 HI.out.2.2.1 HI.out.2.2.2 rfl (by decide) _ 3 (cellsOf .u8 (told7.take 3)) rfl (hown.alloc _) ⟨wr.heap.size, 0, none⟩ 1 1 [.int .u8 48] rfl rfl (cell_one_new _ _ _) (by simp [Value.oneCell']) (by decide) (by decide) (by simp; omega) ?_; intro v1 w2 hown1 hg1 _)
          go_roundw
          case rel => exact ⟨4, rfl, by rw [show (255 / 16 ^ 4 : Nat) = 0 from by decide]; rfl, by omega, hown1, (hbel.alloc hsz _).grown hg1 (by simp; omega) (fun k hk => (hown.lt k hk).1)⟩
          case measure => simp [intOf]
        · go_wp2_with (at_builtin; refine wpList_append_own _ rfl _ _ 57 rfl w.heap.size 5 i0 (.int .u8 0) 1 1 Tryd.underlying57 HI.out.1 HI.out.2.1 HI.out.2.2.1 HI.out.2.2.2 rfl (by decide) _ 4 (cellsOf .u8 (told7.take 4)) rfl (hown.alloc _) ⟨wr.heap.size, 0, none⟩ 1 1 [.int .u8 48] rfl rfl (cell_one_new _ _ _) (by simp [Value.oneCell']) (by decide) (by decide) (by simp; omega) ?_; intro v1 w2 hown1 hg1 _)
          go_roundw
          case rel => exact ⟨5, rfl, by rw [show (255 / 16 ^ 5 : Nat) = 0 from by decide]; rfl, by omega, hown1, (hbel.alloc hsz _).grown hg1 (by simp; omega) (fun k hk => (hown.lt k hk).1)⟩
          case measure => simp [intOf]
        · go_wp2_with (at_builtin; refine wpList_append_own _ rfl _ _ 57 rfl w.heap.size 5 i0 (.int .u8 0) 1 1 Tryd.underlying57 HI.out.1 HI.out.2.1 HI.out.2.2.1 HI.out.2.2.2 rfl (by decide) _ 5 (cellsOf .u8 (told7.take 5)) rfl (hown.alloc _) ⟨wr.heap.size, 0, none⟩ 1 1 [.int .u8 48] rfl rfl (cell_one_new _ _ _) (by simp [Value.oneCell']) (by decide) (by decide) (by simp; omega) ?_; intro v1 w2 hown1 hg1 _)
          go_roundw
          case rel => exact ⟨6, rfl, by rw [show (255 / 16 ^ 6 : Nat) = 0 from by decide]; rfl, by omega, hown1, (hbel.alloc hsz _).grown hg1 (by simp; omega) (fun k hk => (hown.lt k hk).1)⟩
          case measure => simp [intOf]
        · go_wp2_with (at_builtin; refine wpList_append_own _ rfl _ _ 57 rfl w.heap.size 5 i0 (.int .u8 0) 1 1 Tryd.underlying57 HI.out.1 HI.out.2.1 HI.out.2.2.1 HI.out.2.2.2 rfl (by decide) _ 6 (cellsOf .u8 (told7.take 6)) rfl (hown.alloc _) ⟨wr.heap.size, 0, none⟩ 1 1 [.int .u8 48] rfl rfl (cell_one_new _ _ _) (by simp [Value.oneCell']) (by decide) (by decide) (by simp; omega) ?_; intro v1 w2 hown1 hg1 _)
          go_roundw
          case rel => exact ⟨7, rfl, by rw [show (255 / 16 ^ 7 : Nat) = 0 from by decide]; rfl, by omega, hown1, (hbel.alloc hsz _).grown hg1 (by simp; omega) (fun k hk => (hown.lt k hk).1)⟩
          case measure => simp [intOf]
        · go_wp2
          go_roundg 0
          case rel => exact .inr ⟨rfl, Aq, cq, rfl, hown, hbel⟩
          case measure => omega
    · go_wp2
      go_ret
      exact ⟨_, rfl, hown, hbel⟩
end Go.Proofs.YtllkajlmfbikhaaDoor
