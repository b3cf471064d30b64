/- Joined texts: RMake, RBits, RCount, Int64, RInt64, ShortN, Of, Numbers, BoolA, ShiftA, PowA, QExact, Window, GcdMath, Ahead, Mixed, Apply, Divisor, Gcd, QNew, QCmp. -/
import Derived.Test.YtpgbnegppehckaaGreatJ1
import Derived.StillTailTactics
import Derived.Deep.DeepCutAuto
import Derived.IntWalk
import Derived.Outline
import Derived.Deep.QuietTactic
import Derived.BigQuiet
import Derived.Laws.BitsLemmas
import Derived.Deep.LoopGhost
import Derived.Deep.RegionWith
import Derived.Deep.CutBlock
import Derived.Deep.RegionHeld3
import Derived.Deep.DeepFit
set_option linter.unusedSimpArgs false
set_option maxRecDepth 100000
set_option maxHeartbeats 8000000
namespace Go.Proofs.YtpgbnegppehckaaGreat
open Go.RowKit
structure Halves (xs ds : List Nat) (i : Nat) : Prop where
  len : ds.length = 2 * i
  ok : Lm.Ok BD ds
  val : Lm.val BD ds = Lm.val B32 (xs.take i)
theorem Halves.step {xs ds : List Nat} {i d : Nat} (h : Halves xs ds i) (hi : i < xs.length) (hd : xs.getD i 0 = d) (hl : d < B32) : Halves xs (ds ++ [d % BD, d / BD]) (i + 1) := by
  have hb : d / BD < BD := by unfold BD B32 at *; omega
  refine ⟨by rw [List.length_append, h.len]; simp; omega, h.ok.append (.cons (Nat.mod_lt _ BD_pos) (.cons hb (.nil _))), ?_⟩
  rw [Lm.val_append, h.val, h.len, Lm.val_take_succ B32 xs i hi, hd]
  have e : BD ^ (2 * i) = B32 ^ i := by rw [Nat.pow_mul]; rfl
  rw [e]
  congr 2
  simp only [Lm.val]
  have := Nat.mod_add_div d BD
  omega
theorem RMake_any (b : Bool) (A : Option Addr) (c : Nat) (xs : List Nat) (w : World) (hx : Nums w .u32 A xs) (ho : Lm.Ok B32 xs) (hl : xs.length ≤ 400000) :
    Calls Tryz.prog 75 #[.bool b, .slice A xs.length c] w fun e w' => IsRef w w' (ofSign b (Lm.val B32 xs)) e := by
  obtain ⟨i0, hi0, hz0, hz1, hz2⟩ := info_parts Tryz.info3
  have HI := Lib.hid (And.intro hi0 (And.intro hz0 (And.intro hz1 hz2)))
  have hr0 := Res.new w 34
  have HX := Lib.hid (And.intro hr0 (And.intro hx ho))
  clear hi0 hz0 hz1 hz2 hr0 hx ho
  go_enter Tryz.func75, Tryz.ntmps75
  go_wp2
  go_loopw [5, 6] (fun dv iv wr => ∃ (i : Nat) (ds : List Nat), wr.ownsRow (w.heap.size + 1) 3 1 dv ds.length (cellsOf .i64 ds) ∧ iv = .int .i64 i ∧ i ≤ xs.length ∧ Halves xs ds i ∧ Below (w.heap.size + 1) (w.alloc (.cells #[.bool false, .slice none 0 0] 34)) wr) (fun _ iv _ => xs.length - (intOf iv).toNat)
  case atStart => exact ⟨0, [], World.ownsRow_nil _ _ _ _, rfl, Nat.zero_le _, ⟨rfl, .nil _, by simp [Lm.val]⟩, Below.refl _ _⟩
  case round =>
   obtain ⟨i, ds, hown, rfl, hi, hh, hbel⟩ := hrel
   obtain ⟨A5, c5, rfl, hle⟩ := own_form hown
   have hsz : w.heap.size + 1 ≤ wr.heap.size := by have := hbel.size; simpa using this
   have hbel' : Below (w.alloc (.cells #[.bool false, .slice none 0 0] 34)).heap.size (w.alloc (.cells #[.bool false, .slice none 0 0] 34)) wr := by rw [size_alloc]; exact hbel
   have hbw : Below w.heap.size w wr := below_then ((Below.refl _ _).alloc (Nat.le_refl _) _) hbel'
   by_cases hlt : i < xs.length
   · obtain ⟨ad, rfl, hadw0, hcell0⟩ := HX.out.2.1.at_ hlt
     have hadw : (ad.add i).block < w.heap.size := by rw [block_of_add]; exact hadw0
     have hcd : wr.cell? (ad.add i) = some (.int .u32 ((xs.getD i 0 : Nat) : Int)) := (hbw.cell (p := ad.add i) hadw).trans (hcell0 i hlt)
     have hlim : xs.getD i 0 < B32 := HX.out.2.2.getD B32_pos i
     clear hcell0 hadw0
     obtain ⟨d, hd⟩ : ∃ d, xs.getD i 0 = d := ⟨_, rfl⟩
     rw [hd] at hcd hlim
     have hadb : (ad.add i).block < wr.heap.size := World.block_lt_of_cell? wr _ hcd
     have d0 : (0 : Int) ≤ (d : Int) := Int.natCast_nonneg d
     have d1 : (d : Int) ≤ 4294967295 := by unfold B32 at hlim; omega
     have hlen2 : ds.length ≤ 800000 := by rw [hh.len]; omega
     have hi0 : (0 : Int) ≤ (i : Int) := Int.natCast_nonneg i
     have hi1 : (i : Int) < (xs.length : Int) := by omega
     have f1 : (d : Int).tmod 65536 = (d : Int) % 65536 := Int.tmod_eq_emod_of_nonneg d0
     have f2 : IntKind.i64.wrap ((d : Int) % 65536) = (d : Int) % 65536 := IntWalk.i64_in _ (by omega)
     have f3 : IntKind.u32.wrap ((d : Int) / 65536) = (d : Int) / 65536 := IntWalk.u32_in _ (by omega)
     have f4 : IntKind.i64.wrap ((d : Int) / 65536) = (d : Int) / 65536 := IntWalk.i64_in _ (by omega)
     have f5 : IntKind.u32.wrap ((d : Int) % 65536) = (d : Int) % 65536 := IntWalk.u32_in _ (by omega)
     have f6 : (d : Int).tdiv 65536 = (d : Int) / 65536 := Int.tdiv_eq_ediv_of_nonneg d0
     have HD := Lib.hid (And.intro hd (And.intro hlim (And.intro hh (And.intro hbel hbw))))
     clear hd hlim hh hbel hbel' hbw
     go_wp2_with fail
     refine wp_region_held_drew (S := (fun w' => w'.cell? (ad.add i) = some (.int .u32 (d : Int)))) (by kernel_rfl) (hcd) (fun hH0 => ?_)
     refine wpAnyH_take (i := 0) (v := ?v1) rfl (by kernel_rfl) (by kernel_rfl) (by kernel_rfl) (fun _ _ _ h => h) (Or.inl ⟨by rfl, ?y1⟩) hH0 ?r1
     case y1 => (intro w0 hS0; (try dsimp only at hS0); go_simp <;> with_reducible rfl)
     change wpAnyH _ _ _ _ _ _ _ (Act.put _ (some 13) _) _
     simp only [Act.put, lyA, lyZ, lyS]
     refine wpAnyH_take (i := 1) (v := ?v2) rfl (by kernel_rfl) (by kernel_rfl) (by kernel_rfl) (fun _ _ _ h => h) (Or.inl ⟨by rfl, ?y2⟩) hH0 ?r2
     case y2 => (intro w0 hS0; (try dsimp only at hS0); go_simp <;> with_reducible rfl)
     change wpAnyH _ _ _ _ _ _ _ (Act.put _ (some 14) _) _
     simp only [Act.put, lyA, lyZ, lyS]
     refine wpAnyH_take (i := 2) (v := ?v3) rfl (by kernel_rfl) (by kernel_rfl) (by kernel_rfl) (fun _ _ _ h => h) (Or.inl ⟨by rfl, ?y3⟩) hH0 ?r3
     case y3 => (intro w0 hS0; (try dsimp only at hS0); go_simp <;> with_reducible rfl)
     change wpAnyH _ _ _ _ _ _ _ (Act.put _ (some 15) _) _
     simp only [Act.put, lyA, lyZ, lyS]
     refine wpAnyH_take (i := 3) (v := ?v4) rfl (by kernel_rfl) (by kernel_rfl) (by kernel_rfl) (fun _ _ _ h => h) (Or.inl ⟨by rfl, ?y4⟩) hH0 ?r4
     case y4 => (intro w0 hS0; (try dsimp only at hS0); go_simp <;> with_reducible rfl)
     change wpAnyH _ _ _ _ _ _ _ (Act.put _ (some 16) _) _
     simp only [Act.put, lyA, lyZ, lyS]
     refine wpAnyH_take (i := 4) (v := ?v5) rfl (by kernel_rfl) (by kernel_rfl) (by kernel_rfl) (fun _ _ _ h => h) (Or.inl ⟨by rfl, ?y5⟩) hH0 ?r5
     case y5 => (intro w0 hS0; (try dsimp only at hS0); go_simp <;> with_reducible rfl)
     change wpAnyH _ _ _ _ _ _ _ (Act.put _ (some 17) _) _
     simp only [Act.put, lyA, lyZ, lyS]
     refine wpAnyH_take (i := 5) (v := ?v6) rfl (by kernel_rfl) (by kernel_rfl) (by kernel_rfl) (fun _ _ _ h => h) (Or.inl ⟨by rfl, ?y6⟩) hH0 ?r6
     case y6 => (intro w0 hS0; (try dsimp only at hS0); go_simp <;> with_reducible rfl)
     change wpAnyH _ _ _ _ _ _ _ (Act.put _ (some 18) _) _
     simp only [Act.put, lyA, lyZ, lyS]
     refine wpAnyH_take (i := 6) (v := ?v7) rfl (by kernel_rfl) (by kernel_rfl) (by kernel_rfl) (fun _ _ _ h => h) (Or.inl ⟨by rfl, ?y7⟩) hH0 ?r7
     case y7 => (intro w0 hS0; (try dsimp only at hS0); go_simp <;> with_reducible rfl)
     change wpAnyH _ _ _ _ _ _ _ (Act.put _ (some 19) _) _
     simp only [Act.put, lyA, lyZ, lyS]
     refine wpAnyH_take (i := 7) (v := ?v8) rfl (by kernel_rfl) (by kernel_rfl) (by kernel_rfl) (fun _ _ _ h => h) (Or.inl ⟨by rfl, ?y8⟩) hH0 ?r8
     case y8 => (intro w0 hS0; (try dsimp only at hS0); go_simp <;> with_reducible rfl)
     change wpAnyH _ _ _ _ _ _ _ (Act.put _ (some 20) _) _
     simp only [Act.put, lyA, lyZ, lyS]
     refine wpAnyH_take (i := 8) (v := ?v9) rfl (by kernel_rfl) (by kernel_rfl) (by kernel_rfl) (fun _ _ _ h => h) (Or.inl ⟨by rfl, ?y9⟩) hH0 ?r9
     case y9 => (intro w0 hS0; (try dsimp only at hS0); go_simp <;> with_reducible rfl)
     change wpAnyH _ _ _ _ _ _ _ (Act.put _ (some 21) _) _
     simp only [Act.put, lyA, lyZ, lyS]
     refine wpAnyH_take (i := 9) (v := ?v10) rfl (by kernel_rfl) (by kernel_rfl) (by kernel_rfl) (fun _ _ _ h => h) (Or.inl ⟨by rfl, ?y10⟩) hH0 ?r10
     case y10 => (intro w0 hS0; (try dsimp only at hS0); go_simp <;> with_reducible rfl)
     change wpAnyH _ _ _ _ _ _ _ (Act.put _ (some 22) _) _
     simp only [Act.put, lyA, lyZ, lyS]
     refine wpAnyH_take (i := 10) (v := ?v11) rfl (by kernel_rfl) (by kernel_rfl) (by kernel_rfl) (fun _ _ _ h => h) (Or.inl ⟨by rfl, ?y11⟩) hH0 ?r11
     case y11 => (intro w0 hS0; (try dsimp only at hS0); go_simp <;> with_reducible rfl)
     change wpAnyH _ _ _ _ _ _ _ (Act.put _ (some 23) _) _
     simp only [Act.put, lyA, lyZ, lyS]
     refine wpAnyH_take (i := 11) (v := ?v12) rfl (by kernel_rfl) (by kernel_rfl) (by kernel_rfl) (fun _ _ _ h => h) (Or.inl ⟨by rfl, ?y12⟩) hH0 ?r12
     case y12 => (intro w0 hS0; (try dsimp only at hS0); go_simp <;> with_reducible rfl)
     change wpAnyH _ _ _ _ _ _ _ (Act.put _ (some 24) _) _
     simp only [Act.put, lyA, lyZ, lyS]
     refine wpAnyH_take (i := 12) (v := ?v13) rfl (by kernel_rfl) (by kernel_rfl) (by kernel_rfl) (fun _ _ _ h => h) (Or.inl ⟨by rfl, ?y13⟩) hH0 ?r13
     case y13 => (intro w0 hS0; (try dsimp only at hS0); go_simp <;> with_reducible rfl)
     change wpAnyH _ _ _ _ _ _ _ (Act.put _ (some 25) _) _
     simp only [Act.put, lyA, lyZ, lyS]
     refine wpAnyH_ready (rs := [13]) (by kernel_rfl) (by simp) ?_
     refine AllReadyH.cons rfl (fun K hK0 => ?_) AllReadyH.nil
     have hK := hK0.out
     clear hK0
     rw [if_pos (by rfl)]
     go_simp
     (try dsimp only)
     refine hK _ _ ((World.cell?_alloc_lt _ _ _ hadb).trans hcd) (fun hH1 => ?_)
     clear hK K hH0
     (try simp only [Act.put, lyA, lyZ, lyS])
     refine wpAnyH_ready (rs := [14]) (by kernel_rfl) (by simp) ?_
     refine AllReadyH.cons rfl (fun K hK0 => ?_) AllReadyH.nil
     have hK := hK0.out
     clear hK0
     rw [if_pos (by rfl)]
     refine wp_append_own _ (.tmp 13) (.tmp 26) 32 ?eho (w.heap.size + 1) 3 i0 (.int .i64 0) 1 8 Tryz.underlying32 HI.out.1 HI.out.2.1 HI.out.2.2.1 HI.out.2.2.2 rfl (by decide) (.slice A5 ds.length c5) ds.length (cellsOf .i64 ds) ?ehs (hown.alloc (.cells #[.int .i64 ((d : Int) % 65536), .int .i64 ((d : Int) / 65536)] 3)) ⟨wr.heap.size, 0, none⟩ 2 2 [.int .i64 ((d : Int) % 65536), .int .i64 ((d : Int) / 65536)] ?ehx rfl (cell_two_new wr (.int .i64 ((d : Int) % 65536)) (.int .i64 ((d : Int) / 65536)) 3) (by simp [Value.oneCell']) (by unfold maxLen; omega) (by omega) (by simp; omega) ?egoal
     case eho => rfl
     case ehs => rfl
     case ehx => rfl
     intro v1 w1 hown1 hg1 _
     have hb1 : Below (w.heap.size + 1) wr w1 := (((Below.refl _ _).drew).alloc hsz _).grown hg1 (by simp; omega) (fun k hk => (hown.lt k hk).1)
     (try dsimp only)
     refine hK _ _ ((hb1.cell (p := ad.add i) (Nat.lt_succ_of_lt hadw)).trans hcd) (fun hH2 => ?_)
     clear hK K hH1
     (try simp only [Act.put, lyA, lyZ, lyS])
     refine wpAnyH_take (i := 15) (v := ?v14) rfl (by kernel_rfl) (by kernel_rfl) (by kernel_rfl) (fun _ _ _ h => h) (Or.inl ⟨by rfl, ?y14⟩) hH2 ?r14
     case y14 => (intro w0 hS0; (try dsimp only at hS0); go_simp <;> with_reducible rfl)
     change wpAnyH _ _ _ _ _ _ _ (Act.put _ (some 5) _) _
     simp only [Act.put, lyA, lyZ, lyS]
     refine wpAnyH_done (by kernel_rfl) ?_ _
     go_wp2
     go_roundw
     case rel =>
      have hst := HD.out.2.2.1.step hlt HD.out.1 HD.out.2.1
      refine ⟨i + 1, ds ++ [d % BD, d / BD], ?_, by go_num, by omega, hst, HD.out.2.2.2.1.trans hb1⟩
      have e : cellsOf .i64 (ds ++ [d % BD, d / BD]) = cellsOf .i64 ds ++ [.int .i64 ((d : Int) % 65536), .int .i64 ((d : Int) / 65536)] := by
        simp [cellsOf, BD]
      rw [e, List.length_append]
      exact hown1
     case measure => simp [intOf]; omega
   · obtain rfl : i = xs.length := by omega
     have k1 := HX.out.1.step hbel' rfl (by simp)
     have hlen2 : ds.length ≤ 1000000 := by rw [hh.len]; omega
     have hm := made_to b A5 c5 ds (ofSign b (Lm.val B32 xs)) wr (Nums.of_own hown rfl) hh.ok hlen2 hle (by rw [hh.val, List.take_length])
     have HM := Lib.hid hm
     clear hm hh
     go_wp2_with fail
     refine HM.out.mono ?_
     rintro e w2 ⟨v2, rfl, ⟨b4, A4, c4, zs4, rfl, hsg4, hl4⟩, hb2⟩
     have k2 := k1.step hb2 rfl (by omega)
     obtain ⟨⟨hr0, hr1⟩, hf0, hf1⟩ := id k2
     go_wp2
     refine bodyPost_ret (v := .agg #[.bool b4, .slice A4 zs4.length c4]) (by simp [results, Tryz.results75, go_sem, hr0, hr1]) rfl ?_
     exact ref_stored k2 hsg4 hl4 (below_then hbw hb2) (Nat.le_refl _)
end Go.Proofs.YtpgbnegppehckaaGreat
namespace Go.Proofs.YtpgbnegppehckaaGreat
open Go.RowKit
end Go.Proofs.YtpgbnegppehckaaGreat
namespace Go.Proofs.YtpgbnegppehckaaGreat
open Go.RowKit
end Go.Proofs.YtpgbnegppehckaaGreat
namespace Go.Proofs.YtpgbnegppehckaaGreat
open Go.RowKit
theorem or_zero64 (a : Nat) (h : a < 4294967296) : bits .or .u64 (0 : Int) (a : Int) = (a : Int) := by
  have := u64_or_nat 0 a (by decide) (by omega)
  simpa using this
theorem or_join64 (a b : Nat) (ha : a < 4294967296) (hb : b < 4294967296) : bits .or .u64 (a : Int) ((b : Int) * 4294967296) = ((a + 4294967296 * b : Nat) : Int) := by
  have h := u64_or_nat a (b * 4294967296) (by omega) (by omega)
  have e : ((b * 4294967296 : Nat) : Int) = (b : Int) * 4294967296 := by omega
  rw [e] at h
  rw [h]
  congr 1
  have := Nat.two_pow_add_eq_or_of_lt (i := 32) (b := a) (by omega) b
  rw [Nat.or_comm, Nat.mul_comm b, ← this]
  omega
def LowAt (zs : List Nat) (nv iv : Value) : Prop := ∃ i : Nat, i ≤ zs.length ∧ iv = .int .i64 i ∧ nv = .int .u64 ((Lm.val B32 (zs.take i) : Nat) : Int)
theorem low_any (A : Option Addr) (c n : Nat) (zs : List Nat) (w : World) (h : Limbs w A c zs n) (hl : zs.length ≤ 2) :
    Calls Tryz.prog 154 #[.slice A zs.length c] w fun e w' => e = .returned (.int .u64 (n : Int)) ∧ w = w' := by
  have HL := Lib.hid h
  clear h
  go_enter Tryz.func154, Tryz.ntmps154
  go_wp2
  go_loop [3, 8] (fun nv iv => LowAt zs nv iv) (fun _ iv => zs.length - (intOf iv).toNat)
  case atStart => exact ⟨0, Nat.zero_le _, rfl, rfl⟩
  case round =>
   obtain ⟨i, hi, rfl, rfl⟩ := hrel
   by_cases hlt : i < zs.length
   · obtain ⟨ad, rfl, _, hcell⟩ := HL.out.2.1.at_ hlt
     have hcd := hcell i hlt
     have hlim := last_lt HL.out.2.2.1 i
     have hst := Lm.val_take_succ B32 zs i hlt
     clear hcell
     obtain ⟨d, hd⟩ : ∃ d, zs.getD i 0 = d := ⟨_, rfl⟩
     rw [hd] at hcd hlim hst
     rcases (show i = 0 ∨ i = 1 by omega) with rfl | rfl
     · rw [show ad.add 0 = ad from by unfold Addr.add; simp] at hcd
       have hor := or_zero64 d hlim
       have h0 : Lm.val B32 (zs.take 0) = 0 := rfl
       rw [h0] at hst
       have HS := Lib.hid hst
       have hpos : (0 : Int) < (zs.length : Int) := by omega
       have d0 : (0 : Int) ≤ (d : Int) := Int.natCast_nonneg d
       have d1 : (d : Int) ≤ 4294967295 := by unfold B32 at hlim; omega
       clear hst hd h0 hlim
       go_wp2
       go_round
       case rel => exact ⟨1, by omega, rfl, congrArg (Value.int IntKind.u64) (by rw [show Lm.val B32 [] = 0 from rfl]; rw [HS.out]; exact hor.trans (by simp))⟩
       case measure => simp [intOf]; omega
     · rw [show ad.add 1 = ⟨ad.block, ad.off + 1, none⟩ from rfl] at hcd
       have h0 : Lm.val B32 (zs.take 1) < B32 := by
         have := Lm.val_lt (HL.out.2.2.1.take 1)
         rw [List.length_take, Nat.min_eq_left (by omega)] at this
         simpa using this
       obtain ⟨a, ha⟩ : ∃ a, Lm.val B32 (zs.take 1) = a := ⟨_, rfl⟩
       rw [ha] at hst h0 ⊢
       have hor := or_join64 a d h0 hlim
       have HS := Lib.hid hst
       have hpos : (1 : Int) < (zs.length : Int) := by omega
       have d0 : (0 : Int) ≤ (d : Int) := Int.natCast_nonneg d
       have d1 : (d : Int) ≤ 4294967295 := by unfold B32 at hlim; omega
       clear hst hd h0 hlim ha
       go_wp2
       go_round
       case rel => exact ⟨2, by omega, rfl, congrArg (Value.int IntKind.u64) (by rw [HS.out]; unfold B32; omega)⟩
       case measure => simp [intOf]; omega
   · have hie : i = zs.length := by omega
     subst hie
     go_wp2
     go_ret
     refine ⟨congrArg Ending.returned (congrArg (Value.int IntKind.u64) ?_), rfl⟩
     rw [HL.out.2.2.2.2]
end Go.Proofs.YtpgbnegppehckaaGreat
namespace Go.Proofs.YtpgbnegppehckaaGreat
open Go.RowKit
theorem rcmp_is (v1 v2 : Value) (x y p : Int) (m : Nat) (w : World) (h1 : RefAt w v1 x) (h2 : RefAt w v2 y) (hm : m < 900000) (hx : x.natAbs < BD ^ m) (hy : y.natAbs < BD ^ m) (hp : cmpZ x y = p) :
    Calls Tryz.prog 85 #[v1, v2] w fun e w' => IsNum w w' p e := by
  subst hp
  exact RCmp_any v1 v2 x y m w h1 h2 hm hx hy
end Go.Proofs.YtpgbnegppehckaaGreat
namespace Go.Proofs.YtpgbnegppehckaaGreat
open Go.RowKit
structure NVal where
  s : Bool
  A : Option Addr
  n : Nat
  c : Nat
def NRow (w : World) (g : Nat) (l : List NVal) : Prop := g < w.heap.size ∧ ∀ i x, l[i]? = some x → w.cell? ⟨g, i * 2, none⟩ = some (.bool x.s) ∧ w.cell? ⟨g, i * 2 + 1, none⟩ = some (.slice x.A x.n x.c)
theorem NRow.step {W0 W w1 : World} {g : Nat} {l : List NVal} (t : NRow W0 g l) (hb : Below W.heap.size W w1) (hh : W.heap = W0.heap) : NRow w1 g l := by
  have e : ∀ p, W.cell? p = W0.cell? p := fun p => by simp [World.cell?, hh]
  have hl' : g < W.heap.size := by rw [hh]; exact t.1
  have f : ∀ o, w1.cell? ⟨g, o, none⟩ = W0.cell? ⟨g, o, none⟩ := fun o => (hb.cell (p := ⟨g, o, none⟩) hl').trans (e _)
  exact ⟨Nat.lt_of_lt_of_le hl' hb.size, fun i x hx => ⟨(f _).trans (t.2 i x hx).1, (f _).trans (t.2 i x hx).2⟩⟩
theorem longN_yes (s : Bool) (A : Option Addr) (n c b M : Nat) (w : World) (hb : w.cell? ⟨b, 0, none⟩ = some (.int .i64 (M : Int))) (hbl : b < w.heap.size) (h : M < n) :
    Calls Tryz.prog 71 #[.agg #[.bool s, .slice A n c], .pointer (some ⟨b, 0, none⟩)] w fun e w' => IsBool w w' true e := by
  go_enter Tryz.func71, Tryz.ntmps71
  go_wp2
  go_ret
  exact ⟨rfl, (Below.refl _ _).alloc (Nat.le_refl _) _⟩
theorem longN_no (s : Bool) (A : Option Addr) (n c b M : Nat) (w : World) (hb : w.cell? ⟨b, 0, none⟩ = some (.int .i64 (M : Int))) (hbl : b < w.heap.size) (h : n ≤ M) :
    Calls Tryz.prog 71 #[.agg #[.bool s, .slice A n c], .pointer (some ⟨b, 0, none⟩)] w fun e w' => IsBool w w' false e := by
  have hd : ¬ M < n := by omega
  go_enter Tryz.func71, Tryz.ntmps71
  go_wp2
  go_ret
  exact ⟨rfl, (Below.refl _ _).alloc (Nat.le_refl _) _⟩
def AllS (M : Nat) (l : List NVal) : Prop := ∀ x ∈ l, x.n ≤ M
instance (M : Nat) (l : List NVal) : Decidable (AllS M l) := inferInstanceAs (Decidable (∀ x ∈ l, x.n ≤ M))
def IsIdxN (w w' : World) (M : Nat) (l : List NVal) (e : Ending) : Prop :=
  (∃ r : Int, e = .returned (.int .i64 r) ∧ ((0 ≤ r ∧ ¬ AllS M l) ∨ (r = -1 ∧ AllS M l))) ∧ Below w.heap.size w w'
theorem allS_snoc {M k : Nat} {l : List NVal} {x : NVal} (h : AllS M (l.take k)) (hx : l[k]? = some x) (hn : x.n ≤ M) : AllS M (l.take (k + 1)) := by
  intro y hy
  have hk : k < l.length := by
    rcases Nat.lt_or_ge k l.length with h | h
    · exact h
    · rw [List.getElem?_eq_none h] at hx; cases hx
  rw [List.take_succ_eq_append_getElem hk, List.mem_append] at hy
  rcases hy with hy | hy
  · exact h y hy
  · rw [List.getElem?_eq_getElem hk] at hx
    injection hx with hx
    simp at hy
    subst hy
    rw [hx]
    exact hn
theorem indexN_any (g b M : Nat) (l : List NVal) (w : World) (h : NRow w g l) (hb : w.cell? ⟨b, 0, none⟩ = some (.int .i64 (M : Int))) (hbl : b < w.heap.size) (hlen : l.length ≤ 1000) :
    Calls Tryz.prog 116 #[.slice (some ⟨g, 0, none⟩) l.length l.length, .func (.func 71) #[] #[.pointer (some ⟨b, 0, none⟩)]] w fun e w' => IsIdxN w w' M l e := by
  have H := Lib.hid (And.intro h (And.intro hb hbl))
  clear h hb hbl
  go_enter Tryz.func116, Tryz.ntmps116
  go_wp2
  go_loopw [8] (fun iv wr => ∃ i : Nat, iv = .int .i64 i ∧ i ≤ l.length ∧ AllS M (l.take i) ∧ Below w.heap.size w wr) (fun iv _ => l.length - (intOf iv).toNat)
  case atStart => exact ⟨0, rfl, Nat.zero_le _, fun x hx => by simp at hx, Below.refl _ _⟩
  case round =>
   obtain ⟨i, rfl, hi, hall, hbr⟩ := hrel
   have hc : wr.cell? ⟨b, 0, none⟩ = some (.int .i64 (M : Int)) := (hbr.cell (p := ⟨b, 0, none⟩) H.out.2.2).trans H.out.2.1
   have hl : b < wr.heap.size := Nat.lt_of_lt_of_le H.out.2.2 hbr.size
   by_cases hlt : i < l.length
   · obtain ⟨x, hx⟩ : ∃ x, l[i]? = some x := ⟨_, List.getElem?_eq_getElem hlt⟩
     obtain ⟨ta, tb⟩ := (H.out.1.step hbr rfl).2 i x hx
     have i0 : (0 : Int) ≤ (i : Int) := Int.natCast_nonneg i
     have i1 : (i : Int) < (l.length : Int) := by omega
     by_cases hs : x.n ≤ M
     · have HC := Lib.hid (And.intro (longN_no x.s x.A x.n x.c b M _ hc hl hs) (And.intro hx (And.intro hall hbr)))
       clear hx hall hbr
       go_wp2_with fail
       refine HC.out.1.mono ?_
       rintro e w2 ⟨rfl, hb2⟩
       go_wp2
       go_roundw
       case rel => exact ⟨i + 1, by go_num, by omega, allS_snoc HC.out.2.2.1 HC.out.2.1 hs, HC.out.2.2.2.trans (hb2.mono HC.out.2.2.2.size)⟩
       case measure => simp [intOf]; omega
     · have HC := Lib.hid (And.intro (longN_yes x.s x.A x.n x.c b M _ hc hl (by omega)) (And.intro hx (And.intro hall hbr)))
       clear hx hall hbr
       go_wp2_with fail
       refine HC.out.1.mono ?_
       rintro e w2 ⟨rfl, hb2⟩
       go_wp2
       go_ret
       refine ⟨⟨_, rfl, .inl ⟨i0, fun q => hs (q x ?_)⟩⟩, HC.out.2.2.2.trans (hb2.mono HC.out.2.2.2.size)⟩
       exact List.mem_of_getElem? HC.out.2.1
   · obtain rfl : i = l.length := by omega
     rw [List.take_length] at hall
     have HC := Lib.hid (And.intro hall hbr)
     clear hall hbr
     go_wp2
     go_ret
     exact ⟨⟨-1, rfl, .inr ⟨rfl, HC.out.1⟩⟩, HC.out.2⟩
theorem containsN_any (g b M : Nat) (l : List NVal) (w : World) (h : NRow w g l) (hb : w.cell? ⟨b, 0, none⟩ = some (.int .i64 (M : Int))) (hbl : b < w.heap.size) (hlen : l.length ≤ 1000) :
    Calls Tryz.prog 70 #[.slice (some ⟨g, 0, none⟩) l.length l.length, .func (.func 71) #[] #[.pointer (some ⟨b, 0, none⟩)]] w fun e w' => IsBool w w' (decide (¬ AllS M l)) e := by
  have H := Lib.hid (indexN_any g b M l w h hb hbl hlen)
  clear h hb hbl
  by_cases hn : AllS M l
  · rw [decide_eq_false (p := ¬ AllS M l) (not_not_intro hn)]
    go_enter Tryz.func70, Tryz.ntmps70
    go_wp2_with fail
    refine H.out.mono ?_
    rintro e w2 ⟨⟨r, rfl, hr⟩, hb2⟩
    rcases hr with ⟨hr, hm⟩ | ⟨rfl, hm⟩
    · exact absurd hn hm
    · go_wp2
      go_ret
      exact ⟨rfl, hb2⟩
  · rw [decide_eq_true (p := ¬ AllS M l) hn]
    go_enter Tryz.func70, Tryz.ntmps70
    go_wp2_with fail
    refine H.out.mono ?_
    rintro e w2 ⟨⟨r, rfl, hr⟩, hb2⟩
    rcases hr with ⟨hr, hm⟩ | ⟨rfl, hm⟩
    · go_wp2
      go_ret
      exact ⟨rfl, hb2⟩
    · exact absurd hm hn
theorem shortN_any (g M : Nat) (l : List NVal) (w : World) (h : NRow w g l) (hlen : l.length ≤ 1000) :
    Calls Tryz.prog 12 #[.int .i64 (M : Int), .slice (some ⟨g, 0, none⟩) l.length l.length] w fun e w' => IsBool w w' (decide (AllS M l)) e := by
  have hb0 : Below w.heap.size w (w.alloc (.cells #[.int .i64 (M : Int)] 3)) := (Below.refl _ _).alloc (Nat.le_refl _) _
  have hc : (w.alloc (.cells #[.int .i64 (M : Int)] 3)).cell? ⟨w.heap.size, 0, none⟩ = some (.int .i64 (M : Int)) := by go_simp
  have hcs := containsN_any g w.heap.size M l _ (h.step hb0 rfl) hc (by rw [size_alloc]; omega) hlen
  by_cases hn : AllS M l
  · rw [decide_eq_false (p := ¬ AllS M l) (not_not_intro hn)] at hcs
    rw [decide_eq_true hn]
    have H := Lib.hid (And.intro hcs hb0)
    clear h hb0 hc hcs
    go_enter Tryz.func12, Tryz.ntmps12
    go_wp2_with fail
    refine H.out.1.mono ?_
    rintro e w2 ⟨rfl, hb2⟩
    go_wp2
    go_ret
    exact ⟨rfl, below_then H.out.2 hb2⟩
  · rw [decide_eq_true (p := ¬ AllS M l) hn] at hcs
    rw [decide_eq_false hn]
    have H := Lib.hid (And.intro hcs hb0)
    clear h hb0 hc hcs
    go_enter Tryz.func12, Tryz.ntmps12
    go_wp2_with fail
    refine H.out.1.mono ?_
    rintro e w2 ⟨rfl, hb2⟩
    go_wp2
    go_ret
    exact ⟨rfl, below_then H.out.2 hb2⟩
end Go.Proofs.YtpgbnegppehckaaGreat
namespace Go.Proofs.YtpgbnegppehckaaGreat
open Go.RowKit
def IsOf (w w' : World) (z : Int) (e : Ending) : Prop := ∃ v1 v2, e = .returned (.tuple #[v1, v2]) ∧ IntAt w' v1 z ∧ RefAt w' v2 z ∧ Below w.heap.size w w'
theorem Res.alloc {w : World} {r : Nat} (t : Res w r) (hl : r < w.heap.size) (o : Obj) : Res (w.alloc o) r := t.step ((Below.refl _ _).alloc (Nat.le_refl _) o) rfl hl
theorem Of_any (b : Bool) (A : Option Addr) (c : Nat) (xs : List Nat) (w : World) (hx : Nums w .u32 A xs) (ho : Lm.Ok B32 xs) (hl : xs.length ≤ 400000) (hc : xs.length ≤ c) :
    Calls Tryz.prog 15 #[.agg #[.bool b, .slice A xs.length c]] w fun e w' => IsOf w w' (ofSign b (Lm.val B32 xs)) e := by
  have hx1 := Two.new w (.bool b) (.slice A xs.length c) 24
  have hx2 := (hx1.alloc (by simp) (.cells #[.bool false, .slice none 0 0] 31)).alloc (by simp; omega) (.cells #[.bool false, .slice none 0 0] 34)
  have hp0 := Res.new (w.alloc (.cells #[.bool b, .slice A xs.length c] 24)) 31
  rw [size_alloc] at hp0
  have hp := hp0.alloc (by simp) (.cells #[.bool false, .slice none 0 0] 34)
  have hq := Res.new ((w.alloc (.cells #[.bool b, .slice A xs.length c] 24)).alloc (.cells #[.bool false, .slice none 0 0] 31)) 34
  rw [size_alloc, size_alloc] at hq
  have hbel : Below w.heap.size w (((w.alloc (.cells #[.bool b, .slice A xs.length c] 24)).alloc (.cells #[.bool false, .slice none 0 0] 31)).alloc (.cells #[.bool false, .slice none 0 0] 34)) := (((Below.refl _ _).alloc (Nat.le_refl _) _).alloc (by simp) _).alloc (by simp; omega) _
  have hsz : (((w.alloc (.cells #[.bool b, .slice A xs.length c] 24)).alloc (.cells #[.bool false, .slice none 0 0] 31)).alloc (.cells #[.bool false, .slice none 0 0] 34)).heap.size = w.heap.size + 3 := by simp
  have hn := hx.below hbel
  have H := Lib.hid (And.intro hbel (And.intro hx2 (And.intro hp (And.intro hq (And.intro hsz hn)))))
  clear hx1 hx2 hp0 hp hq hbel hsz hn hx
  go_enter Tryz.func15, Tryz.ntmps15
  go_wp2_with fail
  refine wp_region_held_drew (S := (fun w' => w'.cell? ⟨w.heap.size, 0, none⟩ = some (.bool b) ∧ w'.cell? ⟨w.heap.size, 1, none⟩ = some (.slice A xs.length c))) (by kernel_rfl) (H.out.2.1) (fun hH0 => ?_)
  refine wpAnyH_take (i := 0) (v := ?v1) rfl (by kernel_rfl) (by kernel_rfl) (by kernel_rfl) (fun _ _ _ h => h) (Or.inl ⟨by rfl, ?y1⟩) hH0 ?r1
  case y1 => (intro w0 hS0; (try dsimp only at hS0); go_simp <;> with_reducible rfl)
  change wpAnyH _ _ _ _ _ _ _ (Act.put _ (some 4) _) _
  simp only [Act.put, lyA, lyZ, lyS]
  refine wpAnyH_take (i := 1) (v := ?v2) rfl (by kernel_rfl) (by kernel_rfl) (by kernel_rfl) (fun _ _ _ h => h) (Or.inl ⟨by rfl, ?y2⟩) hH0 ?r2
  case y2 => (intro w0 hS0; (try dsimp only at hS0); go_simp <;> with_reducible rfl)
  change wpAnyH _ _ _ _ _ _ _ (Act.put _ (some 5) _) _
  simp only [Act.put, lyA, lyZ, lyS]
  refine wpAnyH_take (i := 2) (v := ?v3) rfl (by kernel_rfl) (by kernel_rfl) (by kernel_rfl) (fun _ _ _ h => h) (Or.inl ⟨by rfl, ?y3⟩) hH0 ?r3
  case y3 => (intro w0 hS0; (try dsimp only at hS0); go_simp <;> with_reducible rfl)
  change wpAnyH _ _ _ _ _ _ _ (Act.put _ (some 6) _) _
  simp only [Act.put, lyA, lyZ, lyS]
  refine wpAnyH_take (i := 3) (v := ?v4) rfl (by kernel_rfl) (by kernel_rfl) (by kernel_rfl) (fun _ _ _ h => h) (Or.inl ⟨by rfl, ?y4⟩) hH0 ?r4
  case y4 => (intro w0 hS0; (try dsimp only at hS0); go_simp <;> with_reducible rfl)
  change wpAnyH _ _ _ _ _ _ _ (Act.put _ (some 7) _) _
  simp only [Act.put, lyA, lyZ, lyS]
  refine wpAnyH_take (i := 5) (v := ?v5) rfl (by kernel_rfl) (by kernel_rfl) (by kernel_rfl) (fun _ _ _ h => h) (Or.inl ⟨by rfl, ?y5⟩) hH0 ?r5
  case y5 => (intro w0 hS0; (try dsimp only at hS0); go_simp <;> with_reducible rfl)
  change wpAnyH _ _ _ _ _ _ _ (Act.put _ (some 9) _) _
  simp only [Act.put, lyA, lyZ, lyS]
  refine wpAnyH_take (i := 6) (v := ?v6) rfl (by kernel_rfl) (by kernel_rfl) (by kernel_rfl) (fun _ _ _ h => h) (Or.inl ⟨by rfl, ?y6⟩) hH0 ?r6
  case y6 => (intro w0 hS0; (try dsimp only at hS0); go_simp <;> with_reducible rfl)
  change wpAnyH _ _ _ _ _ _ _ (Act.put _ (some 10) _) _
  simp only [Act.put, lyA, lyZ, lyS]
  refine wpAnyH_take (i := 7) (v := ?v7) rfl (by kernel_rfl) (by kernel_rfl) (by kernel_rfl) (fun _ _ _ h => h) (Or.inl ⟨by rfl, ?y7⟩) hH0 ?r7
  case y7 => (intro w0 hS0; (try dsimp only at hS0); go_simp <;> with_reducible rfl)
  change wpAnyH _ _ _ _ _ _ _ (Act.put _ (some 11) _) _
  simp only [Act.put, lyA, lyZ, lyS]
  refine wpAnyH_take (i := 8) (v := ?v8) rfl (by kernel_rfl) (by kernel_rfl) (by kernel_rfl) (fun _ _ _ h => h) (Or.inl ⟨by rfl, ?y8⟩) hH0 ?r8
  case y8 => (intro w0 hS0; (try dsimp only at hS0); go_simp <;> with_reducible rfl)
  change wpAnyH _ _ _ _ _ _ _ (Act.put _ (some 12) _) _
  simp only [Act.put, lyA, lyZ, lyS]
  refine wpAnyH_ready (rs := [4]) (by kernel_rfl) (by simp) ?_
  refine AllReadyH.cons rfl (fun K hK0 => ?_) AllReadyH.nil
  have hK := hK0.out
  clear hK0
  rw [if_pos (by rfl)]
  go_simp
  refine (Make_any b A c xs _ (by exact H.out.2.2.2.2.2) ho (by omega) hc).mono ?_
  rintro e w1 ⟨v1, rfl, ⟨b1, A1, c1, zs1, rfl, hs1, hl1⟩, hb1⟩
  have k1x := H.out.2.1.step hb1 rfl (by rw [H.out.2.2.2.2.1]; omega)
  have k1p := H.out.2.2.1.step hb1 rfl (by rw [H.out.2.2.2.2.1]; omega)
  have k1q := H.out.2.2.2.1.step hb1 rfl (by rw [H.out.2.2.2.2.1]; omega)
  have n1 := H.out.2.2.2.2.2.below (w := _) (w' := w1) ⟨hb1.os, hb1.tape, hb1.output, hb1.size, hb1.block⟩
  have bl1 := begun_then H.out.1 hb1 rfl rfl rfl rfl
  have j1 : w.heap.size + 3 ≤ w1.heap.size := Nat.le_trans (Nat.le_of_eq H.out.2.2.2.2.1.symm) hb1.size
  (try dsimp only)
  refine hK _ _ (k1x) (fun hH1 => ?_)
  clear hK K hH0
  (try simp only [Act.put, lyA, lyZ, lyS])
  refine wpAnyH_ready (rs := [9]) (by kernel_rfl) (by simp) ?_
  refine AllReadyH.cons rfl (fun K hK0 => ?_) AllReadyH.nil
  have hK := hK0.out
  clear hK0
  rw [if_pos (by rfl)]
  go_simp
  refine (RMake_any b A c xs _ (by exact n1) ho hl).mono ?_
  rintro e w2 ⟨v2, rfl, ⟨b2, A2, c2, zs2, rfl, hs2, hl2⟩, hb2⟩
  have k2x := k1x.step hb2 rfl (by omega)
  have k2p := k1p.step hb2 rfl (by omega)
  have k2q := k1q.step hb2 rfl (by omega)
  have hl1' := hl1.below hb2
  have bl2 := below_then bl1 hb2
  have j2 : w.heap.size + 3 ≤ w2.heap.size := Nat.le_trans j1 hb2.size
  obtain ⟨⟨p0, p1⟩, pf0, pf1⟩ := id k2p
  obtain ⟨⟨q0, q1⟩, qf0, qf1⟩ := id k2q
  (try dsimp only)
  refine hK _ _ (k2x) (fun hH2 => ?_)
  clear hK K hH1
  (try simp only [Act.put, lyA, lyZ, lyS])
  refine wpAnyH_ready (rs := [10]) (by kernel_rfl) (by simp) ?_
  refine AllReadyH.cons rfl (fun K hK0 => ?_) AllReadyH.nil
  have hK := hK0.out
  clear hK0
  rw [if_pos (by rfl)]
  go_simp
  (try dsimp only)
  refine hK _ _ (k2x.far (r := w.heap.size + 1) (by omega) (.bool b1) (.slice A1 zs1.length c1)) (fun hH3 => ?_)
  clear hK K hH2
  (try simp only [Act.put, lyA, lyZ, lyS])
  refine wpAnyH_ready (rs := [11]) (by kernel_rfl) (by simp) ?_
  refine AllReadyH.cons rfl (fun K hK0 => ?_) AllReadyH.nil
  have hK := hK0.out
  clear hK0
  rw [if_pos (by rfl)]
  go_simp
  (try dsimp only)
  refine hK _ _ ((k2x.far (r := w.heap.size + 1) (by omega) (.bool b1) (.slice A1 zs1.length c1)).far (r := w.heap.size + 1 + 1) (by omega) (.bool b2) (.slice A2 zs2.length c2)) (fun hH4 => ?_)
  clear hK K hH3
  (try simp only [Act.put, lyA, lyZ, lyS])
  refine wpAnyH_done (by kernel_rfl) ?_ _
  go_wp2_with fail
  have e1 := (k2p.1.stored (.bool b1) (.slice A1 zs1.length c1)).far (r := w.heap.size + 1 + 1) (by omega) (.bool b2) (.slice A2 zs2.length c2)
  have e0 := k2q.1.far (r := w.heap.size + 1) (by omega) (.bool b1) (.slice A1 zs1.length c1)
  have e2 := e0.stored (.bool b2) (.slice A2 zs2.length c2)
  obtain ⟨e1a, e1b⟩ := id e1
  obtain ⟨e2a, e2b⟩ := id e2
  have hn3 := (hl1'.2.1.res k2p.1 (.bool b1) (.slice A1 zs1.length c1)).res e0 (.bool b2) (.slice A2 zs2.length c2)
  have hn4 := (hl2.2.1.res k2p.1 (.bool b1) (.slice A1 zs1.length c1)).res e0 (.bool b2) (.slice A2 zs2.length c2)
  refine bodyPost_ret (v := .tuple #[.agg #[.bool b1, .slice A1 zs1.length c1], .agg #[.bool b2, .slice A2 zs2.length c2]]) (by simp [results, Tryz.results15, go_sem, e1a, e1b, e2a, e2b]) rfl ?_
  exact ⟨_, _, rfl, ⟨b1, A1, c1, zs1, rfl, hs1, hl1'.1, hn3, hl1'.2.2⟩, ⟨b2, A2, c2, zs2, rfl, hs2, hl2.1, hn4, hl2.2.2⟩, (((bl2.setCell (p := ⟨w.heap.size + 1, 0, none⟩) (by simp) _).setCell (p := ⟨w.heap.size + 1, 1, none⟩) (by simp) _).setCell (p := ⟨w.heap.size + 1 + 1, 0, none⟩) (by simp; omega) _).setCell (p := ⟨w.heap.size + 1 + 1, 1, none⟩) (by simp; omega) _⟩
end Go.Proofs.YtpgbnegppehckaaGreat
namespace Go.Proofs.YtpgbnegppehckaaGreat
open Go.RowKit
end Go.Proofs.YtpgbnegppehckaaGreat
namespace Go.Proofs.YtpgbnegppehckaaGreat
open Go.RowKit
theorem limb_test {xs : List Nat} (ho : Lm.Ok B32 xs) (i : Nat) : (Lm.val B32 xs).testBit i = (xs.getD (i / 32) 0).testBit (i % 32) := by
  induction xs generalizing i with
  | nil => simp [Lm.val]
  | cons x xs ih =>
    have hx := ho.head
    rw [Lm.val_cons]
    have e : x + B32 * Lm.val B32 xs = 2 ^ 32 * Lm.val B32 xs + x := by unfold B32; omega
    rw [e, Nat.testBit_two_pow_mul_add _ hx]
    by_cases h : i < 32
    · rw [if_pos h, Nat.div_eq_of_lt h, Nat.mod_eq_of_lt h]
      rfl
    · rw [if_neg h, ih ho.tail (i - 32)]
      have e1 : i / 32 = (i - 32) / 32 + 1 := by omega
      have e2 : i % 32 = (i - 32) % 32 := by omega
      rw [e1, e2]
      rfl
end Go.Proofs.YtpgbnegppehckaaGreat
namespace Go.Proofs.YtpgbnegppehckaaGreat
open Go.RowKit
structure LeftAt (xs zs : List Nat) (l s i : Nat) : Prop where
  len : zs.length = xs.length + l + 1
  ok : Lm.Ok B32 zs
  zero : ∀ k, l + i < k → zs.getD k 0 = 0
  top : zs.getD (l + i) 0 < 2 ^ s
  num : Lm.val B32 zs = Lm.val B32 (xs.take i) * (B32 ^ l * 2 ^ s)
theorem B32_split (s : Nat) (hs : s < 32) : B32 = 2 ^ s * 2 ^ (32 - s) := by
  rw [← Nat.pow_add, show s + (32 - s) = 32 by omega]; rfl
theorem moved_low (x s : Nat) (hs : s < 32) : x * 2 ^ s % B32 = 2 ^ s * (x % 2 ^ (32 - s)) := by
  rw [B32_split s hs, Nat.mul_comm x, Nat.mul_mod_mul_left]
theorem moved_high (x s : Nat) (hx : x < 4294967296) : x * 2 ^ s / B32 < 2 ^ s := by
  rw [Nat.div_lt_iff_lt_mul B32_pos, Nat.mul_comm (2 ^ s)]
  exact Nat.mul_lt_mul_of_pos_right hx (Nat.two_pow_pos s)
theorem moved_or (x d s : Nat) (hs : s < 32) (hd : d < 2 ^ s) : d ||| x * 2 ^ s % B32 = d + x * 2 ^ s % B32 := by
  rw [moved_low x s hs, Nat.or_comm, Nat.add_comm d]
  exact (Nat.two_pow_add_eq_or_of_lt hd _).symm
theorem moved_lt (x d s : Nat) (hs : s < 32) (hd : d < 2 ^ s) : d + x * 2 ^ s % B32 < B32 := by
  rw [moved_low x s hs]
  have h : x % 2 ^ (32 - s) < 2 ^ (32 - s) := Nat.mod_lt _ (Nat.two_pow_pos _)
  have h2 : 2 ^ s * (x % 2 ^ (32 - s) + 1) ≤ 2 ^ s * 2 ^ (32 - s) := Nat.mul_le_mul_left _ h
  rw [← B32_split s hs, Nat.mul_add] at h2
  omega
theorem getD_set2 (zs : List Nat) (a b u v k : Nat) (ha : a ≠ k) (hb : b ≠ k) : ((zs.set a u).set b v).getD k 0 = zs.getD k 0 := by
  rw [Lm.getD_set_ne _ _ _ _ hb, Lm.getD_set_ne _ _ _ _ ha]
theorem left_start (xs : List Nat) (l s : Nat) : LeftAt xs (List.replicate (xs.length + l + 1) 0) l s 0 := by
  have hz : ∀ k, (List.replicate (xs.length + l + 1) 0).getD k 0 = 0 := fun k => by
    rw [List.getD_eq_getElem?_getD]
    by_cases hk : k < xs.length + l + 1 <;> simp [hk]
  exact ⟨by simp, Lm.Ok.zeros B32_pos _, fun k _ => hz k, by rw [hz]; exact Nat.two_pow_pos s, by rw [Lm.val_zeros]; simp [Lm.val]⟩
theorem left_step {xs zs : List Nat} {l s i x d : Nat} (h : LeftAt xs zs l s i) (hi : i < xs.length) (hs : s < 32) (hx : xs.getD i 0 = x) (hxl : x < 4294967296) (hd : zs.getD (l + i) 0 = d) :
    LeftAt xs ((zs.set (l + i) (d + x * 2 ^ s % B32)).set (l + i + 1) (x * 2 ^ s / B32)) l s (i + 1) := by
  have hdl : d < 2 ^ s := hd ▸ h.top
  have hh := moved_high x s hxl
  have h32 : 2 ^ s < B32 := by rw [B32_split s hs]; exact (Nat.lt_mul_iff_one_lt_right (Nat.two_pow_pos s)).mpr (Nat.one_lt_two_pow (by omega))
  refine ⟨by simpa using h.len, (h.ok.set _ _ (moved_lt x d s hs hdl)).set _ _ (by omega), fun k hk => ?_, ?_, ?_⟩
  · rw [getD_set2 _ _ _ _ _ _ (by omega) (by omega)]
    exact h.zero k (by omega)
  · rw [show l + (i + 1) = l + i + 1 by omega, getD_set_eq _ _ _ (by rw [List.length_set, h.len]; omega)]
    exact hh
  · have e1 := Lm.val_set B32 zs (l + i) (d + x * 2 ^ s % B32) (by rw [h.len]; omega)
    have e2 := Lm.val_set B32 (zs.set (l + i) (d + x * 2 ^ s % B32)) (l + i + 1) (x * 2 ^ s / B32) (by rw [List.length_set, h.len]; omega)
    rw [Lm.getD_set_ne _ _ _ _ (by omega), h.zero (l + i + 1) (by omega), Nat.mul_zero, Nat.add_zero] at e2
    rw [hd] at e1
    rw [e2, Lm.val_take_succ _ _ _ hi, hx, Nat.add_mul, ← h.num]
    have e3 : B32 ^ (l + i) * (x * 2 ^ s % B32) + B32 ^ (l + i + 1) * (x * 2 ^ s / B32) = B32 ^ (l + i) * (x * 2 ^ s) := by
      rw [Nat.pow_succ, Nat.mul_assoc, ← Nat.mul_add, Nat.mod_add_div]
    have e4 : B32 ^ i * x * (B32 ^ l * 2 ^ s) = B32 ^ (l + i) * (x * 2 ^ s) := by
      rw [Nat.pow_add]; ac_rfl
    rw [e4, ← e3]
    rw [Nat.mul_add] at e1
    omega
theorem left_end {xs zs : List Nat} {n : Nat} (h : LeftAt xs zs (n / 32) (n % 32) xs.length) : Lm.val B32 zs = Lm.val B32 xs * 2 ^ n := by
  rw [h.num, List.take_length, B32_pow, ← Nat.pow_add, show 32 * (n / 32) + n % 32 = n by omega]
structure RightAt (xs zs : List Nat) (l s i : Nat) : Prop where
  len : zs.length = xs.length - l
  ok : Lm.Ok B32 zs
  done_ : ∀ j, j < i → zs.getD j 0 = Lm.val B32 ((xs.drop (l + j)).take 2) / 2 ^ s % B32
theorem right_start (xs : List Nat) (l s : Nat) : RightAt xs (List.replicate (xs.length - l) 0) l s 0 := ⟨by simp, Lm.Ok.zeros B32_pos _, fun j hj => absurd hj (Nat.not_lt_zero _)⟩
theorem right_step {xs zs : List Nat} {l s i t : Nat} (h : RightAt xs zs l s i) (hi : i < xs.length - l) (ht : Lm.val B32 ((xs.drop (l + i)).take 2) = t) : RightAt xs (zs.set i (t / 2 ^ s % B32)) l s (i + 1) := by
  refine ⟨by simpa using h.len, h.ok.set _ _ (Nat.mod_lt _ B32_pos), fun j hj => ?_⟩
  by_cases e : j = i
  · subst e
    rw [getD_set_eq _ _ _ (by rw [h.len]; exact hi), ht]
  · rw [Lm.getD_set_ne _ _ _ _ (by omega)]
    exact h.done_ j (by omega)
theorem getD_take2 (xs : List Nat) (a q : Nat) (hq : q < 2) : ((xs.drop a).take 2).getD q 0 = xs.getD (a + q) 0 := by
  rw [List.getD_eq_getElem?_getD, List.getD_eq_getElem?_getD, List.getElem?_take, if_pos hq, List.getElem?_drop]
theorem right_end {xs zs : List Nat} {n : Nat} (h : RightAt xs zs (n / 32) (n % 32) (xs.length - n / 32)) (ho : Lm.Ok B32 xs) : Lm.val B32 zs = Lm.val B32 xs / 2 ^ n := by
  apply Nat.eq_of_testBit_eq
  intro i
  rw [limb_test h.ok, Nat.testBit_div_two_pow, limb_test ho]
  by_cases hj : i / 32 < xs.length - n / 32
  · rw [h.done_ _ hj, show B32 = 2 ^ 32 from rfl, Nat.testBit_mod_two_pow, decide_eq_true (Nat.mod_lt i (by decide)), Bool.true_and, Nat.testBit_div_two_pow, show 2 ^ 32 = B32 from rfl, limb_test ((ho.drop _).take _),
      getD_take2 _ _ _ (by omega), show n / 32 + i / 32 + (i % 32 + n % 32) / 32 = (i + n) / 32 by omega, show (i % 32 + n % 32) % 32 = (i + n) % 32 by omega]
  · rw [List.getD_eq_getElem?_getD, List.getElem?_eq_none (by rw [h.len]; omega), List.getD_eq_getElem?_getD, List.getElem?_eq_none (by omega)]
    simp
theorem right_far {xs : List Nat} {n : Nat} (ho : Lm.Ok B32 xs) (h : xs.length ≤ n / 32) : Lm.val B32 xs / 2 ^ n = 0 := by
  apply Nat.div_eq_of_lt
  refine Nat.lt_of_lt_of_le (Lm.val_lt ho) ?_
  rw [B32_pow]
  exact Nat.pow_le_pow_right (by decide) (by omega)
theorem moved_64 (x s : Nat) (hs : s < 32) (hx : x < 4294967296) : IntKind.u64.wrap ((x : Int) * 2 ^ s) = ((x * 2 ^ s : Nat) : Int) := by
  have h1 : 2 ^ s ≤ 2 ^ 31 := Nat.pow_le_pow_right (by decide) (by omega)
  have h2 : x * 2 ^ s ≤ 4294967295 * 2 ^ 31 := Nat.mul_le_mul (by omega) h1
  have e : (x : Int) * 2 ^ s = ((x * 2 ^ s : Nat) : Int) := by norm_cast
  rw [e]
  generalize x * 2 ^ s = t at *
  rw [IntKind.wrap_u64]
  omega
theorem left_low (d x s : Nat) (hs : s < 32) (hd : d < 2 ^ s) (hx : x < 4294967296) : bits .or .u32 (d : Int) (IntKind.u64.wrap ((x : Int) * 2 ^ s) % 4294967296) = ((d + x * 2 ^ s % B32 : Nat) : Int) := by
  have h32 : 2 ^ s ≤ 2 ^ 31 := Nat.pow_le_pow_right (by decide) (by omega)
  have hm := Nat.mod_lt (x * 2 ^ s) B32_pos
  rw [moved_64 x s hs hx, limb_mod (x * 2 ^ s) _ rfl, u32_or_nat d (x * 2 ^ s % B32) (by omega) hm, moved_or x d s hs hd]
theorem left_high (x s : Nat) (hs : s < 32) (hx : x < 4294967296) : IntKind.u64.wrap ((x : Int) * 2 ^ s) / 4294967296 % 4294967296 = ((x * 2 ^ s / B32 : Nat) : Int) := by
  have h := moved_high x s hx
  have h32 : 2 ^ s ≤ 2 ^ 31 := Nat.pow_le_pow_right (by decide) (by omega)
  rw [moved_64 x s hs hx, limb_div (x * 2 ^ s) _ rfl]
  generalize x * 2 ^ s / B32 = t at *
  omega
theorem left_some (A : Option Addr) (c m : Nat) (xs : List Nat) (n : Nat) (w : World) (h : Limbs w A c xs m) (hl : xs.length ≤ 400000) (hn : n ≤ 12000000) (h0 : 0 < xs.length) :
    Calls Tryz.prog 161 #[.slice A xs.length c, .int .i64 (n : Int)] w fun e w' => IsLims w w' (m * 2 ^ n) e := by
  obtain ⟨i0, hi0, hz0, hz1, hz2⟩ := info_parts Tryz.info132
  have HI := Lib.hid (And.intro hi0 (And.intro hz0 (And.intro hz1 hz2)))
  have HM := Lib.hid (show i0.bytes * (xs.length + n / 32 + 1) ≤ 281474976710656 ∧ xs.length + n / 32 + 1 ≤ maxLen from ⟨by rw [hz2]; omega, by unfold maxLen; omega⟩)
  clear hi0 hz0 hz1 hz2
  have hne : ((xs.length : Int) == 0) = false := by rw [beq_eq_false_iff_ne]; omega
  obtain ⟨l, hl0⟩ : ∃ l, n / 32 = l := ⟨_, rfl⟩
  obtain ⟨s, hs0⟩ : ∃ s, n % 32 = s := ⟨_, rfl⟩
  have hq : (n : Int) / 32 = (l : Int) := by omega
  have hr : (n : Int) % 32 = (s : Int) := by omega
  have hl1 : l ≤ 375000 := by omega
  have hs1 : s < 32 := by omega
  rw [hl0] at HM
  have hx := h.2.1
  have ox := h.2.2.1
  have hend : ∀ zs, LeftAt xs zs l s xs.length → Lm.val B32 zs = m * 2 ^ n := fun zs hz => by
    have := left_end (n := n) (by rw [hl0, hs0]; exact hz)
    rw [this, h.2.2.2.2]
  have HE := Lib.hid hend
  have HN := Lib.hid (And.intro hl0 hs0)
  clear hl0 hs0 hend h
  go_enter Tryz.func161, Tryz.ntmps161
  go_wp2_with (at_make; go_loud (refine wpList_make_full _ rfl _ _ 22 rfl w.heap.size 132 i0 (.int .u32 0) 1 Tryz.underlying22 HI.out.1 HI.out.2.1 HI.out.2.2.1 _ _ _ _ (xs.length + l + 1) rfl rfl (by omega) (by omega) HM.out.1 HM.out.2 (Nat.le_refl _) ?_); intro w1 hown1 hg1; rw [made_zero] at hown1; have HB := Lib.hid (own_block hown1); have hb1 : Below w.heap.size w w1 := (Below.refl _ _).grown hg1 (Nat.le_refl _) (fun k hk => by cases hk); clear hown1)
  have hz0 : Seg w1 w.heap.size 0 .u32 132 _ (List.replicate (xs.length + l + 1) 0) := seg_of_block HB.out
  have hx1 := hx.below hb1
  have hoffx : 0 < xs.length → Off A w.heap.size := fun hn => off_below hx hn (Nat.le_refl _)
  clear hx HB HI HM
  go_loopw [26] (fun iv wr => ∃ (i : Nat) (zs : List Nat), iv = .int .i64 i ∧ i ≤ xs.length ∧ LeftAt xs zs l s i ∧ SegTo wr w.heap.size 0 .u32 132 (cellsOf .u32 (List.replicate (xs.length + l + 1) 0)).toArray zs ∧ w1.grownBy wr (some w.heap.size)) (fun iv _ => xs.length - (intOf iv).toNat)
  case atStart => exact ⟨0, _, rfl, Nat.zero_le _, left_start xs l s, .refl hz0, World.grownBy.refl _ _⟩
  case round =>
   obtain ⟨i, zs, rfl, hi, hat, hseg, hgr⟩ := hrel
   by_cases hiy : i < xs.length
   · have hxr := hx1.grown hgr hoffx
     obtain ⟨ad, rfl, _, hcell⟩ := hxr.at_ hiy
     have hcx := hcell i hiy
     have hxl := limb_lt ox i
     obtain ⟨x, hxv⟩ : ∃ x, xs.getD i 0 = x := ⟨_, rfl⟩
     rw [hxv] at hcx hxl
     obtain ⟨cur', hs1', hs2, hs3⟩ := id hseg
     have hcz := hs1'.cell (j := l + i) (by rw [hat.len]; omega)
     have hcz1 := hs1'.cell (j := l + i + 1) (by rw [hat.len]; omega)
     have hfz := hs1'.frozen (0 + (l + i))
     have hfz1 := hs1'.frozen (0 + (l + i + 1))
     have hdl := hat.top
     obtain ⟨d, hd⟩ : ∃ d, zs.getD (l + i) 0 = d := ⟨_, rfl⟩
     obtain ⟨d1, hd1⟩ : ∃ d, zs.getD (l + i + 1) 0 = d := ⟨_, rfl⟩
     rw [hd] at hcz hdl
     rw [hd1] at hcz1
     simp only [Nat.zero_add] at hcz hfz hcz1 hfz1
     have HD := Lib.hid (And.intro hd hxv)
     clear hd hxv hs1' hs2 hs3 hcell hd1
     go_wp2
     go_roundw
     case rel =>
      have e1 := left_low d x s hs1 hdl hxl
      have e2 := left_high x s hs1 hxl
      refine ⟨i + 1, _, by go_num, by omega, left_step hat hiy hs1 HD.out.2 hxl HD.out.1, ?_, ?_⟩
      · rw [e1, e2]
        exact (hseg.set0 (j := l + i) (by rw [hat.len]; omega) _).set0 (j := l + i + 1) (by rw [List.length_set, hat.len]; omega) _
      · exact grown_trans (grown_trans hgr (grown_store _ _ _ _)) (grown_store _ _ _ _)
     case measure => simp [intOf]; omega
   · have hie : i = xs.length := by omega
     subst hie
     have hnum := HE.out zs hat
     have htr := trim_any (some ⟨w.heap.size, 0, none⟩) (xs.length + l + 1) zs wr (by obtain ⟨cur', hs1, _⟩ := hseg; exact hs1.nums) (by rw [hat.len]; omega) (by rw [hat.len]; exact Nat.le_refl _)
     rw [hat.len] at htr
     have HT := Lib.hid htr
     have HX := Lib.hid hnum
     clear htr hnum
     go_wp2_with fail
     refine HT.out.mono ?_
     rintro e w4 ⟨rfl, k, rfl, hk, hz, hp⟩
     have HP := Lib.hid (And.intro hk (And.intro hz hp))
     clear hk hz hp
     go_wp2
     go_ret
     exact lims_of_trim ⟨k, rfl, HP.out⟩ (by obtain ⟨cur', hs1, _⟩ := hseg; exact hs1.nums) hat.ok (by rw [hat.len]; exact Nat.le_refl _) HX.out (hb1.trans (grown_below hgr (Nat.le_refl _) hb1.size))
theorem left_none (c n : Nat) (A : Option Addr) (w : World) : Calls Tryz.prog 161 #[.slice A 0 c, .int .i64 (n : Int)] w fun e w' => IsLims w w' 0 e := by
  go_enter Tryz.func161, Tryz.ntmps161
  go_wp2
  go_ret
  exact ⟨none, 0, [], rfl, ⟨Nat.le_refl _, Nums.nil _ _ _, Lm.Ok.nil _, Lm.Top.nil, rfl⟩, Below.refl _ _⟩
theorem left_any (A : Option Addr) (c m : Nat) (xs : List Nat) (n : Nat) (w : World) (h : Limbs w A c xs m) (hl : xs.length ≤ 400000) (hn : n ≤ 12000000) :
    Calls Tryz.prog 161 #[.slice A xs.length c, .int .i64 (n : Int)] w fun e w' => IsLims w w' (m * 2 ^ n) e := by
  rcases Nat.eq_zero_or_pos xs.length with h0 | h0
  · have hx : xs = [] := List.eq_nil_of_length_eq_zero h0
    subst hx
    have hm : m = 0 := h.2.2.2.2.symm
    subst hm
    rw [Nat.zero_mul]
    exact left_none c n A w
  · exact left_some A c m xs n w h hl hn h0
theorem low_long (A : Option Addr) (c : Nat) (zs : List Nat) (w : World) (h : Nums w .u32 A zs) (ho : Lm.Ok B32 zs) (hl : 2 < zs.length) :
    Calls Tryz.prog 154 #[.slice A zs.length c] w fun e w' => e = .returned (.int .u64 ((Lm.val B32 (zs.take 2) : Nat) : Int)) ∧ w = w' := by
  have HL := Lib.hid (And.intro h ho)
  have hpos : (2 : Int) < (zs.length : Int) := by omega
  clear h ho
  go_enter Tryz.func154, Tryz.ntmps154
  go_wp2
  go_loop [3, 8] (fun nv iv => LowAt (zs.take 2) nv iv) (fun _ iv => 2 - (intOf iv).toNat)
  case atStart => exact ⟨0, Nat.zero_le _, rfl, rfl⟩
  case round =>
   obtain ⟨i, hi, rfl, rfl⟩ := hrel
   have hi2 : i ≤ 2 := by rw [List.length_take] at hi; omega
   have htt : ∀ j, j ≤ 2 → (zs.take 2).take j = zs.take j := fun j hj => by rw [List.take_take, Nat.min_eq_left hj]
   rw [htt i hi2]
   by_cases hlt : i < 2
   · obtain ⟨ad, rfl, _, hcell⟩ := HL.out.1.at_ (j := i) (by omega)
     have hcd := hcell i (by omega)
     have hlim := last_lt HL.out.2 i
     have hst := Lm.val_take_succ B32 zs i (by omega)
     clear hcell
     obtain ⟨d, hd⟩ : ∃ d, zs.getD i 0 = d := ⟨_, rfl⟩
     rw [hd] at hcd hlim hst
     rcases (show i = 0 ∨ i = 1 by omega) with rfl | rfl
     · rw [show ad.add 0 = ad from by unfold Addr.add; simp] at hcd
       have hor := or_zero64 d hlim
       have h0 : Lm.val B32 (zs.take 0) = 0 := rfl
       rw [h0] at hst
       have HS := Lib.hid (And.intro hst (htt 1 (by decide)))
       have d0 : (0 : Int) ≤ (d : Int) := Int.natCast_nonneg d
       have d1 : (d : Int) ≤ 4294967295 := by unfold B32 at hlim; omega
       have hp0 : (0 : Int) < (zs.length : Int) := by omega
       clear hst hd h0 hlim htt hi
       go_wp2
       go_round
       case rel => exact ⟨1, by rw [List.length_take]; omega, rfl, congrArg (Value.int IntKind.u64) (by rw [HS.out.2, show Lm.val B32 [] = 0 from rfl]; rw [HS.out.1]; exact hor.trans (by simp))⟩
       case measure => simp [intOf]
     · rw [show ad.add 1 = ⟨ad.block, ad.off + 1, none⟩ from rfl] at hcd
       have h0 : Lm.val B32 (zs.take 1) < B32 := by
         have := Lm.val_lt (HL.out.2.take 1)
         rw [List.length_take, Nat.min_eq_left (by omega)] at this
         simpa using this
       obtain ⟨a, ha⟩ : ∃ a, Lm.val B32 (zs.take 1) = a := ⟨_, rfl⟩
       rw [ha] at hst h0 ⊢
       have hor := or_join64 a d h0 hlim
       have HS := Lib.hid (And.intro hst (htt 2 (by decide)))
       have d0 : (0 : Int) ≤ (d : Int) := Int.natCast_nonneg d
       have d1 : (d : Int) ≤ 4294967295 := by unfold B32 at hlim; omega
       have hp1 : (1 : Int) < (zs.length : Int) := by omega
       clear hst hd h0 hlim ha htt hi
       go_wp2
       go_round
       case rel => exact ⟨2, by rw [List.length_take]; omega, rfl, congrArg (Value.int IntKind.u64) (by rw [HS.out.2, HS.out.1]; unfold B32; omega)⟩
       case measure => simp [intOf]
   · have hie : i = 2 := by omega
     subst hie
     go_wp2
     go_ret
     exact ⟨rfl, rfl⟩
theorem Nums.drop {w : World} {k : IntKind} {ad : Addr} {xs : List Nat} (h : Nums w k (some ad) xs) (a : Nat) : Nums w k (some (ad.add a)) (xs.drop a) := fun hn => by
  rw [List.length_drop] at hn
  obtain ⟨ad', e, hb, hc⟩ := h (by omega)
  injection e with e
  subst e
  refine ⟨_, rfl, by rw [block_of_add]; exact hb, fun j hj => ?_⟩
  rw [List.length_drop] at hj
  rw [add_of_add, hc (a + j) (by omega), List.getD_eq_getElem?_getD, List.getD_eq_getElem?_getD, List.getElem?_drop]
theorem top_drop {xs : List Nat} (h : Lm.Top xs) (a : Nat) (ha : a < xs.length) : Lm.Top (xs.drop a) := by
  unfold Lm.Top at *
  rw [List.getLast?_drop, if_neg (by omega)]
  exact h
theorem low_part (ad : Addr) (c a : Nat) (xs : List Nat) (w : World) (h : Nums w .u32 (some ad) xs) (ho : Lm.Ok B32 xs) (ht : Lm.Top xs) (ha : a < xs.length) (hc : xs.length ≤ c) :
    Calls Tryz.prog 154 #[.slice (some (ad.add a)) (xs.length - a) (c - a)] w fun e w' => e = .returned (.int .u64 ((Lm.val B32 ((xs.drop a).take 2) : Nat) : Int)) ∧ w = w' := by
  have hl : (xs.drop a).length = xs.length - a := List.length_drop ..
  rw [← hl]
  rcases Nat.lt_or_ge 2 (xs.drop a).length with h2 | h2
  · exact low_long _ _ (xs.drop a) w (h.drop a) (ho.drop a) h2
  · have := low_any (some (ad.add a)) (c - a) _ (xs.drop a) w ⟨by rw [hl]; omega, h.drop a, ho.drop a, top_drop ht a ha, rfl⟩ h2
    rw [List.take_of_length_le h2]
    exact this
theorem low_two {xs : List Nat} (ho : Lm.Ok B32 xs) (a : Nat) : Lm.val B32 ((xs.drop a).take 2) < 18446744073709551616 := by
  have h := Lm.val_lt ((ho.drop a).take 2)
  refine Nat.lt_of_lt_of_le h (Nat.le_trans (Nat.pow_le_pow_right B32_pos (List.length_take_le _ _)) (by decide))
theorem shr_limb (t s : Nat) : ((t : Int) / 2 ^ s) % 4294967296 = ((t / 2 ^ s % B32 : Nat) : Int) := by
  have e : ((2 : Int) ^ s) = ((2 ^ s : Nat) : Int) := by norm_cast
  rw [e, ← Int.natCast_ediv]
  exact limb_mod _ _ rfl
theorem right_some (A : Option Addr) (c m : Nat) (xs : List Nat) (n : Nat) (w : World) (h : Limbs w A c xs m) (hl : xs.length ≤ 900000) (hn : n ≤ 100000000) (h0 : n / 32 < xs.length) :
    Calls Tryz.prog 162 #[.slice A xs.length c, .int .i64 (n : Int)] w fun e w' => IsLims w w' (m / 2 ^ n) e := by
  obtain ⟨i0, hi0, hz0, hz1, hz2⟩ := info_parts Tryz.info132
  have HI := Lib.hid (And.intro hi0 (And.intro hz0 (And.intro hz1 hz2)))
  obtain ⟨l, hl0⟩ : ∃ l, n / 32 = l := ⟨_, rfl⟩
  obtain ⟨s, hs0⟩ : ∃ s, n % 32 = s := ⟨_, rfl⟩
  rw [hl0] at h0
  have HM := Lib.hid (show i0.bytes * (xs.length - l) ≤ 281474976710656 ∧ xs.length - l ≤ maxLen from ⟨by rw [hz2]; omega, by unfold maxLen; omega⟩)
  clear hi0 hz0 hz1 hz2
  have hq : (n : Int) / 32 = (l : Int) := by omega
  have hr : (n : Int) % 32 = (s : Int) := by omega
  have hs1 : s < 32 := by omega
  have hlt : ¬ (xs.length : Int) ≤ (l : Int) := by omega
  have hsub : (xs.length : Int) - (l : Int) = ((xs.length - l : Nat) : Int) := by omega
  have hend : ∀ zs, RightAt xs zs l s (xs.length - l) → Lm.val B32 zs = m / 2 ^ n := fun zs hz => by
    have := right_end (n := n) (by rw [hl0, hs0]; exact hz) h.2.2.1
    rw [this, h.2.2.2.2]
  obtain ⟨ad, rfl, hadl, _⟩ := h.2.1 (by omega)
  have HE := Lib.hid (And.intro hend h)
  have HS := Lib.hid hsub
  clear hl0 hs0 hend hsub
  go_enter Tryz.func162, Tryz.ntmps162
  go_wp2_with (at_make; go_loud (rw [HS.out]; refine wpList_make_full _ rfl _ _ 22 rfl w.heap.size 132 i0 (.int .u32 0) 1 Tryz.underlying22 HI.out.1 HI.out.2.1 HI.out.2.2.1 _ _ _ _ (xs.length - l) rfl rfl (by omega) (by omega) HM.out.1 HM.out.2 (Nat.le_refl _) ?_); intro w1 hown1 hg1; rw [made_zero] at hown1; have HB := Lib.hid (own_block hown1); have hb1 : Below w.heap.size w w1 := (Below.refl _ _).grown hg1 (Nat.le_refl _) (fun k hk => by cases hk); clear hown1)
  have hz0 : Seg w1 w.heap.size 0 .u32 132 _ (List.replicate (xs.length - l) 0) := seg_of_block HB.out
  have hx1 := h.2.1.below hb1
  have hoffx : 0 < xs.length → Off (some ad) w.heap.size := fun hn => off_below h.2.1 hn (Nat.le_refl _)
  have hcap := h.1
  clear HB HI HM h
  go_loopw [24] (fun iv wr => ∃ (i : Nat) (zs : List Nat), iv = .int .i64 i ∧ i ≤ xs.length - l ∧ RightAt xs zs l s i ∧ SegTo wr w.heap.size 0 .u32 132 (cellsOf .u32 (List.replicate (xs.length - l) 0)).toArray zs ∧ w1.grownBy wr (some w.heap.size)) (fun iv _ => xs.length - l - (intOf iv).toNat)
  case atStart => exact ⟨0, _, rfl, Nat.zero_le _, right_start xs l s, .refl hz0, World.grownBy.refl _ _⟩
  case round =>
   obtain ⟨i, zs, rfl, hi, hat, hseg, hgr⟩ := hrel
   by_cases hiy : i < xs.length - l
   · have hxr := hx1.grown hgr hoffx
     have hlo := low_part ad c (l + i) xs wr hxr HE.out.2.2.2.1 HE.out.2.2.2.2.1 (by omega) hcap
     obtain ⟨t, ht⟩ : ∃ t, Lm.val B32 ((xs.drop (l + i)).take 2) = t := ⟨_, rfl⟩
     have htl := low_two HE.out.2.2.2.1 (l + i)
     rw [ht] at hlo htl
     obtain ⟨cur', hs1', hs2, hs3⟩ := id hseg
     have hcz := hs1'.cell (j := i) (by rw [hat.len]; omega)
     have hfz := hs1'.frozen (0 + i)
     obtain ⟨d, hd⟩ : ∃ d, zs.getD i 0 = d := ⟨_, rfl⟩
     rw [hd] at hcz
     simp only [Nat.zero_add] at hcz hfz
     have HD := Lib.hid (And.intro hlo (And.intro ht htl))
     have hiy' : (l : Int) + (i : Int) < (xs.length : Int) := by omega
     clear hd hs1' hs2 hs3 hlo ht htl hxr hx1
     go_wp2_with fail
     refine HD.out.1.mono ?_
     rintro e w' ⟨rfl, rfl⟩
     go_wp2
     go_roundw
     case rel =>
      have e1 := shr_limb t s
      refine ⟨i + 1, _, by go_num, by omega, right_step hat hiy HD.out.2.1, ?_, ?_⟩
      · rw [e1]
        exact hseg.set0 (j := i) (by rw [hat.len]; omega) _
      · exact grown_trans hgr (grown_store _ _ _ _)
     case measure => simp [intOf]; omega
   · have hie : i = xs.length - l := by omega
     subst hie
     have hnum := HE.out.1 zs hat
     have htr := trim_any (some ⟨w.heap.size, 0, none⟩) (xs.length - l) zs wr (by obtain ⟨cur', hs1, _⟩ := hseg; exact hs1.nums) (by rw [hat.len]; omega) (by rw [hat.len]; exact Nat.le_refl _)
     rw [hat.len] at htr
     have HT := Lib.hid htr
     have HX := Lib.hid hnum
     clear htr hnum
     go_wp2_with fail
     refine HT.out.mono ?_
     rintro e w4 ⟨rfl, k, rfl, hk, hz, hp⟩
     have HP := Lib.hid (And.intro hk (And.intro hz hp))
     clear hk hz hp
     go_wp2
     go_ret
     exact lims_of_trim ⟨k, rfl, HP.out⟩ (by obtain ⟨cur', hs1, _⟩ := hseg; exact hs1.nums) hat.ok (by rw [hat.len]; exact Nat.le_refl _) HX.out (hb1.trans (grown_below hgr (Nat.le_refl _) hb1.size))
theorem right_none (A : Option Addr) (c m : Nat) (xs : List Nat) (n : Nat) (w : World) (h : Limbs w A c xs m) (hn : n ≤ 9223372036854775807) (h0 : xs.length ≤ n / 32) :
    Calls Tryz.prog 162 #[.slice A xs.length c, .int .i64 (n : Int)] w fun e w' => IsLims w w' (m / 2 ^ n) e := by
  have hv := right_far h.2.2.1 h0
  rw [h.2.2.2.2] at hv
  rw [hv]
  have hle : (xs.length : Int) ≤ (n : Int) / 32 := by omega
  clear h hv h0
  go_enter Tryz.func162, Tryz.ntmps162
  go_wp2
  go_ret
  exact ⟨none, 0, [], rfl, ⟨Nat.le_refl _, Nums.nil _ _ _, Lm.Ok.nil _, Lm.Top.nil, rfl⟩, Below.refl _ _⟩
theorem right_any (A : Option Addr) (c m : Nat) (xs : List Nat) (n : Nat) (w : World) (h : Limbs w A c xs m) (hl : xs.length ≤ 900000) (hn : n ≤ 9223372036854775807) :
    Calls Tryz.prog 162 #[.slice A xs.length c, .int .i64 (n : Int)] w fun e w' => IsLims w w' (m / 2 ^ n) e := by
  rcases Nat.lt_or_ge (n / 32) xs.length with h0 | h0
  · exact right_some A c m xs n w h hl (by omega) h0
  · exact right_none A c m xs n w h hn h0
theorem bl_limbs {w : World} {A : Option Addr} {c n : Nat} {zs : List Nat} (h : Limbs w A c zs n) : bl n ≤ 32 * zs.length := by
  rw [bl_le, ← B32_pow, ← h.2.2.2.2]
  exact Lm.val_lt h.2.2.1
def begun1 (w : World) (a b : Value) (t : TypeId) : World := (w.alloc (.cells #[a, b] t)).alloc (.cells #[.bool false, .slice none 0 0] t)
theorem begun1_below (w : World) (a b : Value) (t : TypeId) : Below w.heap.size w (begun1 w a b t) := ((Below.refl _ _).alloc (Nat.le_refl _) _).alloc (by simp) _
theorem begun1_x (w : World) (a b : Value) (t : TypeId) : Two (begun1 w a b t) w.heap.size a b := (Two.new w a b t).alloc (by simp) _
theorem begun1_r (w : World) (a b : Value) (t : TypeId) : Res (begun1 w a b t) (w.heap.size + 1) := by
  have h := Res.new (w.alloc (.cells #[a, b] t)) t
  rw [size_alloc] at h
  exact h
def shBig (z n : Int) : Prop := 0 < n ∧ z ≠ 0 ∧ 65536 - (bl (magOf z) : Int) < n
instance (z n : Int) : Decidable (shBig z n) := by unfold shBig; exact inferInstance
def IsIE (w w' : World) (z k : Int) (e : Ending) : Prop := ∃ v, e = .returned (.tuple #[v, .int .i64 k]) ∧ IntAt w' v z ∧ Below w.heap.size w w'
theorem intE_stored {w w2 : World} {r : Nat} {s : Bool} {A : Option Addr} {c : Nat} {zs : List Nat} {z k : Int} (hk : Res w2 r) (hs : SignOf s z) (hl : Limbs w2 A c zs z.natAbs) (hb : Below w.heap.size w w2) (hr : w.heap.size ≤ r) :
    IsIE w ((w2.setCell ⟨r, 0, none⟩ (.bool s)).setCell ⟨r, 1, none⟩ (.slice A zs.length c)) z k (.returned (.tuple #[.agg #[.bool s, .slice A zs.length c], .int .i64 k])) := by
  obtain ⟨v5, he5, hi5, hb5⟩ := res_stored hk hs hl hb hr
  injection he5 with he5
  subst he5
  exact ⟨_, rfl, hi5, hb5⟩
def okSize (n : Int) : Prop := 0 ≤ n ∧ n ≤ 65536
instance (n : Int) : Decidable (okSize n) := by unfold okSize; exact inferInstance
end Go.Proofs.YtpgbnegppehckaaGreat
namespace Go.Proofs.YtpgbnegppehckaaGreat
open Go.RowKit
structure Tops (B P D0 V0 f s t p D V : Nat) : Prop where
  hD : D = D0 + P * (f * B + s)
  hV : V = V0 + P * (t * B + p)
  d0 : D0 < P
  v0 : V0 < P
  f0 : 0 < f
  sB : s < B
  pB : p < B
  lt : V < B * D
theorem Tops.dpos {B P D0 V0 f s t p D V : Nat} (h : Tops B P D0 V0 f s t p D V) (_hB : 0 < B) : P * B ≤ D := by
  rw [h.hD]
  have h1 : 1 * B ≤ f * B := Nat.mul_le_mul_right B h.f0
  have h2 : P * B ≤ P * (f * B + s) := Nat.mul_le_mul_left P (by omega)
  omega
theorem Tops.ppos {B P D0 V0 f s t p D V : Nat} (h : Tops B P D0 V0 f s t p D V) : 0 < P := Nat.lt_of_le_of_lt (Nat.zero_le _) h.d0
theorem Tops.qB {B P D0 V0 f s t p D V : Nat} (h : Tops B P D0 V0 f s t p D V) (hB : 0 < B) : V / D < B := by
  have hD : 0 < D := Nat.lt_of_lt_of_le (Nat.mul_pos h.ppos hB) (h.dpos hB)
  rw [Nat.div_lt_iff_lt_mul hD]
  exact h.lt
theorem Tops.first {B P D0 V0 f s t p D V : Nat} (h : Tops B P D0 V0 f s t p D V) : V / D ≤ t / f := by
  rw [Nat.le_div_iff_mul_le h.f0]
  have h1 : V / D * D ≤ V := Nat.div_mul_le_self V D
  generalize V / D = q at *
  have h2 : q * (P * (f * B)) ≤ q * D := Nat.mul_le_mul_left q (by rw [h.hD]; have : P * (f * B) ≤ P * (f * B + s) := Nat.mul_le_mul_left P (by omega); omega)
  have h3 : V < P * (t * B + B) := by
    have a1 : P * (t * B + p + 1) ≤ P * (t * B + B) := Nat.mul_le_mul_left P (by have := h.pB; omega)
    have a2 : P * (t * B + p + 1) = P * (t * B + p) + P := by rw [Nat.mul_add P (t * B + p), Nat.mul_one]
    have a3 := h.v0
    have a4 := h.hV
    omega
  have h4 : P * B * (q * f) < P * B * (t + 1) := by
    have e1 : q * (P * (f * B)) = P * B * (q * f) := by ac_rfl
    have e2 : P * (t * B + B) = P * B * (t + 1) := by rw [Nat.mul_add, Nat.mul_add, Nat.mul_one]; ac_rfl
    rw [← e1, ← e2]
    omega
  have := Nat.lt_of_mul_lt_mul_left h4
  omega
theorem Tops.down {B P D0 V0 f s t p D V g r : Nat} (h : Tops B P D0 V0 f s t p D V) (hr : g * f + r = t) (hg : V / D ≤ g) (hc : r * B + p < g * s) : V / D ≤ g - 1 := by
  have h1 : V / D * D ≤ V := Nat.div_mul_le_self V D
  rcases Nat.lt_or_ge (V / D) g with h2 | h2
  · omega
  · exfalso
    have e : V / D = g := Nat.le_antisymm hg h2
    rw [e] at h1
    have h3 : g * (P * (f * B + s)) ≤ g * D := Nat.mul_le_mul_left g (by rw [h.hD]; omega)
    have h4 : V < P * (t * B + p + 1) := by rw [h.hV, Nat.mul_add P (t * B + p)]; have := h.v0; omega
    have e1 : g * (P * (f * B + s)) = P * (g * f * B + g * s) := by rw [Nat.mul_left_comm, Nat.mul_add]; congr 2; ac_rfl
    have h5 : P * (g * f * B + g * s) < P * (t * B + p + 1) := by rw [← e1]; omega
    have h6 := Nat.lt_of_mul_lt_mul_left h5
    rw [← hr, Nat.add_mul] at h6
    omega
theorem Tops.last {B P D0 V0 f s t p D V g r : Nat} (h : Tops B P D0 V0 f s t p D V) (hB : 0 < B) (hr : g * f + r = t) (hg : V / D ≤ g) (hgB : g < B) (hc : g * s ≤ r * B + p) : g = V / D ∨ g = V / D + 1 := by
  have hD : 0 < D := Nat.lt_of_lt_of_le (Nat.mul_pos h.ppos hB) (h.dpos hB)
  rcases Nat.lt_or_ge (V / D + 1) g with h2 | h2
  · exfalso
    have e : V < (V / D + 1) * D := by have := Nat.lt_div_mul_add hD (a := V); rw [Nat.add_mul, Nat.one_mul]; exact this
    generalize V / D = q at *
    have h3 : (q + 1) * D + D ≤ g * D := by
      have : (q + 2) * D ≤ g * D := Nat.mul_le_mul_right D h2
      rw [show q + 2 = q + 1 + 1 by omega, Nat.add_mul (q + 1), Nat.one_mul] at this
      exact this
    have h4 : g * D ≤ g * P + V := by
      have e1 : g * D = g * D0 + P * (g * f * B + g * s) := by rw [h.hD, Nat.mul_add, Nat.mul_left_comm g P, Nat.mul_add g]; congr 3; ac_rfl
      have h5 : P * (g * f * B + g * s) ≤ P * (t * B + p) := Nat.mul_le_mul_left P (by rw [← hr, Nat.add_mul]; omega)
      have h6 : g * D0 ≤ g * P := Nat.mul_le_mul_left g (Nat.le_of_lt h.d0)
      rw [e1, h.hV]
      omega
    have h7 : g * P ≤ P * B := by rw [Nat.mul_comm]; exact Nat.mul_le_mul_left P (Nat.le_of_lt hgB)
    have h8 := h.dpos hB
    omega
  · omega
structure Take (ps ds zs : List Nat) (g i c b : Nat) : Prop where
  len : zs.length = ps.length
  ok : Lm.Ok B32 zs
  rest : ∀ j, i ≤ j → zs.getD j 0 = ps.getD j 0
  num : Lm.val B32 zs + g * Lm.val B32 (ds.take i) = Lm.val B32 ps + B32 ^ i * (c + b)
  carry : c < B32
  borrow : b ≤ 1
theorem take_start {ps ds : List Nat} {g : Nat} (ho : Lm.Ok B32 ps) : Take ps ds ps g 0 0 0 := ⟨rfl, ho, fun _ _ => rfl, by simp [Lm.val], B32_pos, by omega⟩
theorem take_carry {c g x : Nat} (hc : c < B32) (hg : g < B32) (hx : x < B32) : c + g * x ≤ 18446744073709551615 := by
  have h : g * x ≤ 4294967295 * 4294967295 := Nat.mul_le_mul (by unfold B32 at hg; omega) (by unfold B32 at hx; omega)
  unfold B32 at *
  omega
theorem take_step {ps ds zs : List Nat} {g i c b x p r b' t : Nat} (h : Take ps ds zs g i c b) (hi : i < ds.length) (hp : i < ps.length) (hx : ds.getD i 0 = x) (hxl : x < B32) (hg : g < B32) (hpv : zs.getD i 0 = p)
    (ht : t = c + g * x) (hr : r + t % B32 + b = p + B32 * b') (hrl : r < B32) (hb : b' ≤ 1) : Take ps ds (zs.set i r) g (i + 1) (t / B32) b' := by
  have hs := Lm.val_set B32 zs i r (by rw [h.len]; exact hp)
  rw [hpv] at hs
  have hn := h.num
  have hc := take_carry h.carry hg hxl
  refine ⟨by simpa using h.len, h.ok.set _ _ hrl, fun j hj => ?_, ?_, ?_, hb⟩
  · rw [Lm.getD_set_ne _ _ _ _ (by omega)]; exact h.rest j (by omega)
  · rw [Lm.val_take_succ _ _ _ hi, hx, Nat.pow_succ, Nat.mul_add g]
    have hdm := Nat.div_add_mod t B32
    generalize t / B32 = hi_ at *
    generalize t % B32 = lo at *
    have e1 : g * (B32 ^ i * x) = B32 ^ i * (g * x) := by ac_rfl
    have e2 : B32 ^ i * (r + lo + b) = B32 ^ i * (p + B32 * b') := by rw [hr]
    have e3 : B32 ^ i * (B32 * hi_ + lo) = B32 ^ i * (c + g * x) := by rw [hdm, ht]
    rw [e1, Nat.mul_assoc, Nat.mul_add]
    rw [Nat.mul_add, Nat.mul_add, Nat.mul_add] at e2
    rw [Nat.mul_add, Nat.mul_add] at e3
    rw [Nat.mul_add] at hn
    rw [Nat.mul_add]
    generalize g * Lm.val B32 (ds.take i) = u1 at *
    generalize B32 ^ i * (g * x) = u2 at *
    generalize B32 ^ i * r = u3 at *
    generalize B32 ^ i * lo = u4 at *
    generalize B32 ^ i * b = u5 at *
    generalize B32 ^ i * p = u6 at *
    generalize B32 ^ i * (B32 * b') = u7 at *
    generalize B32 ^ i * (B32 * hi_) = u8 at *
    generalize B32 ^ i * c = u9 at *
    omega
  · rw [Nat.div_lt_iff_lt_mul B32_pos, ht]
    unfold B32
    omega
theorem take_end {ps ds zs : List Nat} {g c b p r b' : Nat} (h : Take ps ds zs g ds.length c b) (hl : ps.length = ds.length + 1) (hpv : zs.getD ds.length 0 = p) (hr : r + c + b = p + B32 * b') :
    Lm.val B32 (zs.set ds.length r) + g * Lm.val B32 ds = Lm.val B32 ps + B32 ^ (ds.length + 1) * b' := by
  have hs := Lm.val_set B32 zs ds.length r (by rw [h.len]; omega)
  rw [hpv] at hs
  have hn := h.num
  rw [List.take_length] at hn
  have e2 : B32 ^ ds.length * (r + c + b) = B32 ^ ds.length * (p + B32 * b') := by rw [hr]
  rw [Nat.mul_add, Nat.mul_add, Nat.mul_add] at e2
  rw [Nat.mul_add] at hn
  rw [Nat.pow_succ, Nat.mul_assoc]
  generalize g * Lm.val B32 ds = u1 at *
  generalize B32 ^ ds.length * r = u3 at *
  generalize B32 ^ ds.length * c = u4 at *
  generalize B32 ^ ds.length * b = u5 at *
  generalize B32 ^ ds.length * p = u6 at *
  generalize B32 ^ ds.length * (B32 * b') = u7 at *
  omega
theorem give_end {ps ds zs : List Nat} {c p r : Nat} (h : Inc ps ds zs ds.length c) (hl : ps.length = ds.length + 1) (hpv : zs.getD ds.length 0 = p) (hr : r = (p + c) % B32) :
    Lm.val B32 (zs.set ds.length r) = (Lm.val B32 ps + Lm.val B32 ds) % B32 ^ (ds.length + 1) := by
  have hlen : zs.length = ds.length + 1 := by rw [h.len, hl]
  have hs := Lm.val_set B32 zs ds.length r (by omega)
  rw [hpv] at hs
  have hn := h.num
  rw [List.take_length] at hn
  have hok : Lm.Ok B32 (zs.set ds.length r) := h.ok.set _ _ (by rw [hr]; exact Nat.mod_lt _ B32_pos)
  have hlt := Lm.val_lt hok
  rw [List.length_set, hlen] at hlt
  have hdm := Nat.div_add_mod (p + c) B32
  rw [← hr] at hdm
  have e : B32 ^ ds.length * (B32 * ((p + c) / B32) + r) = B32 ^ ds.length * (p + c) := by rw [hdm]
  rw [Nat.mul_add, Nat.mul_add] at e
  have e2 : Lm.val B32 ps + Lm.val B32 ds = Lm.val B32 (zs.set ds.length r) + B32 ^ (ds.length + 1) * ((p + c) / B32) := by
    rw [Nat.pow_succ, Nat.mul_assoc]
    generalize B32 ^ ds.length * r = u3 at *
    generalize B32 ^ ds.length * (B32 * ((p + c) / B32)) = u4 at *
    generalize B32 ^ ds.length * p = u5 at *
    generalize B32 ^ ds.length * c = u6 at *
    omega
  rw [e2, Nat.add_mul_mod_self_left, Nat.mod_eq_of_lt hlt]
theorem digit_right {V D z g : Nat} (hg : g = V / D ∨ g = V / D + 1) (h : z + g * D = V) (hD : 0 < D) : g = V / D ∧ z = V % D := by
  have h1 := Nat.div_add_mod V D
  rw [Nat.mul_comm] at h1
  rcases hg with rfl | rfl
  · exact ⟨rfl, by omega⟩
  · exfalso
    rw [Nat.add_mul, Nat.one_mul] at h
    have := Nat.mod_lt V hD
    omega
theorem digit_less {V D z g M : Nat} (hg : g = V / D ∨ g = V / D + 1) (h : z + g * D = V + M) (hz : z < M) (hD : 0 < D) (hDM : D ≤ M) : g = V / D + 1 ∧ (z + D) % M = V % D := by
  have h1 := Nat.div_add_mod V D
  rw [Nat.mul_comm] at h1
  have h2 := Nat.mod_lt V hD
  rcases hg with rfl | rfl
  · omega
  · refine ⟨rfl, ?_⟩
    rw [Nat.add_mul, Nat.one_mul] at h
    have e : z + D = V % D + M := by omega
    rw [e, Nat.add_mod_right, Nat.mod_eq_of_lt (by omega)]
theorem two_tops (xs : List Nat) (k : Nat) (hk : k + 2 = xs.length) : Lm.val B32 xs = Lm.val B32 (xs.take k) + B32 ^ k * (xs.getD (k + 1) 0 * B32 + xs.getD k 0) := by
  have h1 := Lm.val_split B32 xs k (by omega)
  have h2 := Lm.val_drop_pred B32 xs k (by omega)
  have h3 := Lm.val_drop_pred B32 xs (k + 1) (by omega)
  have h4 : xs.drop (k + 1 + 1) = [] := List.drop_of_length_le (by omega)
  rw [h4] at h3
  rw [h1, h2, h3]
  simp only [Lm.val, Nat.mul_zero, Nat.add_zero]
  congr 2
  rw [Nat.mul_comm, Nat.add_comm]
theorem three_tops (xs : List Nat) (k : Nat) (hk : k + 3 = xs.length) : Lm.val B32 xs = Lm.val B32 (xs.take k) + B32 ^ k * ((xs.getD (k + 2) 0 * B32 + xs.getD (k + 1) 0) * B32 + xs.getD k 0) := by
  have h1 := Lm.val_split B32 xs k (by omega)
  have h2 := Lm.val_drop_pred B32 xs k (by omega)
  have h3 := Lm.val_drop_pred B32 xs (k + 1) (by omega)
  have h4 := Lm.val_drop_pred B32 xs (k + 1 + 1) (by omega)
  have h5 : xs.drop (k + 1 + 1 + 1) = [] := List.drop_of_length_le (by omega)
  rw [h5] at h4
  rw [h1, h2, h3, h4]
  simp only [Lm.val, Nat.mul_zero, Nat.add_zero]
  congr 2
  rw [Nat.add_mul, Nat.mul_add, Nat.mul_assoc, Nat.mul_comm B32 (xs.getD (k + 1) 0)]
  have e : B32 * (B32 * xs.getD (k + 1 + 1) 0) = xs.getD (k + 2) 0 * (B32 * B32) := by rw [← Nat.mul_assoc, Nat.mul_comm]
  rw [e]
  omega
theorem tops_of {ps ds : List Nat} {n : Nat} (op : Lm.Ok B32 ps) (od : Lm.Ok B32 ds) (ln : ds.length = n + 2) (lp : ps.length = n + 3) (hf : 0 < ds.getD (n + 1) 0) (hv : Lm.val B32 ps < B32 * Lm.val B32 ds) :
    Tops B32 (B32 ^ n) (Lm.val B32 (ds.take n)) (Lm.val B32 (ps.take n)) (ds.getD (n + 1) 0) (ds.getD n 0) (ps.getD (n + 2) 0 * B32 + ps.getD (n + 1) 0) (ps.getD n 0) (Lm.val B32 ds) (Lm.val B32 ps) := by
  have h1 := Lm.val_lt (od.take n)
  have h2 := Lm.val_lt (op.take n)
  rw [List.length_take, Nat.min_eq_left (by omega)] at h1 h2
  exact ⟨two_tops ds n ln.symm, three_tops ps n lp.symm, h1, h2, hf, limb_lt od n, limb_lt op n, hv⟩
theorem guess_any (A : Option Addr) (cp : Nat) (ps : List Nat) (A' : Option Addr) (c : Nat) (ds : List Nat) (n : Nat) (w : World) (hp : Nums w .u32 A ps) (hd : Nums w .u32 A' ds)
    (op : Lm.Ok B32 ps) (od : Lm.Ok B32 ds) (ln : ds.length = n + 2) (lp : ps.length = n + 3) (hn : n ≤ 900000) (hf : 0 < ds.getD (n + 1) 0) (hv : Lm.val B32 ps < B32 * Lm.val B32 ds) :
    Calls Tryz.prog 181 #[.slice A ps.length cp, .slice A' ds.length c] w fun e w' => Drew w w' ∧ ∃ g : Nat, e = .returned (.int .u64 g) ∧ g ≤ 4294967295 ∧ (g = Lm.val B32 ps / Lm.val B32 ds ∨ g = Lm.val B32 ps / Lm.val B32 ds + 1) := by
  have ht := tops_of op od ln lp hf hv
  obtain ⟨ap, rfl, hpb, hpc⟩ := hp (by omega)
  obtain ⟨ad, rfl, hdb, hdc⟩ := hd (by omega)
  have c2 := hpc (n + 2) (by omega)
  have c1 := hpc (n + 1) (by omega)
  have c0 := hpc n (by omega)
  have e1 := hdc (n + 1) (by omega)
  have e0 := hdc n (by omega)
  have b2 := limb_lt op (n + 2)
  have b1 := limb_lt op (n + 1)
  have b0 := limb_lt op n
  have d1 := limb_lt od (n + 1)
  have d0 := limb_lt od n
  obtain ⟨p2, hp2⟩ : ∃ x, ps.getD (n + 2) 0 = x := ⟨_, rfl⟩
  obtain ⟨p1, hp1⟩ : ∃ x, ps.getD (n + 1) 0 = x := ⟨_, rfl⟩
  obtain ⟨p0, hp0⟩ : ∃ x, ps.getD n 0 = x := ⟨_, rfl⟩
  obtain ⟨f, hf1⟩ : ∃ x, ds.getD (n + 1) 0 = x := ⟨_, rfl⟩
  obtain ⟨s, hs0⟩ : ∃ x, ds.getD n 0 = x := ⟨_, rfl⟩
  obtain ⟨V, hV⟩ : ∃ x, Lm.val B32 ps = x := ⟨_, rfl⟩
  obtain ⟨D, hD⟩ : ∃ x, Lm.val B32 ds = x := ⟨_, rfl⟩
  rw [hp2, hp1, hp0, hf1, hs0, hV, hD] at ht
  rw [hV, hD]
  rw [hp2] at c2 b2
  rw [hp1] at c1 b1
  rw [hp0] at c0 b0
  rw [hf1] at e1 d1 hf
  rw [hs0] at e0 d0
  have HT := Lib.hid ht
  have hj := join_int p2 p1 b2 b1
  obtain ⟨t, htop⟩ : ∃ t, p2 * 4294967296 + p1 = t := ⟨_, rfl⟩
  rw [htop] at hj
  have htl : t < 18446744073709551616 := by omega
  have HJ := Lib.hid htop
  obtain ⟨N, hN⟩ : ∃ N, ds.length = N := ⟨_, rfl⟩
  obtain ⟨L, hL⟩ : ∃ L, ps.length = L := ⟨_, rfl⟩
  rw [hN, hL]
  rw [hN] at ln
  rw [hL] at lp
  rw [show n + 2 = N from ln.symm] at c2
  rw [show n + 1 = N - 1 by omega] at c1 e1
  rw [show n = N - 2 by omega] at c0 e0
  have i1 : ((N : Int) - 1).toNat = N - 1 := by omega
  have i2 : ((N : Int) - 2).toNat = N - 2 := by omega
  have j1 : (N : Int) < (L : Int) := by omega
  have j2 : (2 : Int) ≤ (N : Int) := by omega
  have j3 : (N : Int) ≤ 900002 := by omega
  have j4 : (1 : Int) ≤ (N : Int) := by omega
  have k1 : IntKind.i64.wrap ((N : Int) - 1) = (N : Int) - 1 := IntWalk.i64_in _ (by omega)
  have k2 : IntKind.i64.wrap ((N : Int) - 2) = (N : Int) - 2 := IntWalk.i64_in _ (by omega)
  have k3 : (0 : Int) ≤ (N : Int) - 1 := by omega
  have k4 : (0 : Int) ≤ (N : Int) - 2 := by omega
  have k5 : (N : Int) - 1 < (L : Int) := by omega
  have k6 : (N : Int) - 2 < (L : Int) := by omega
  have k7 : (N : Int) - 1 < (N : Int) := by omega
  have k8 : (N : Int) - 2 < (N : Int) := by omega
  clear hN hL ln lp hp2 hp1 hp0 hf1 hs0 hV hD hpc hdc ht htop hv hp hd hpb hdb
  have htB : (p2 * B32 + p1) = t := by have := HJ.out; unfold B32; exact this
  rw [htB] at HT
  have hQq : V / D ≤ t / f := HT.out.first
  have hqB := HT.out.qB B32_pos
  have hDp : 0 < D := Nat.lt_of_lt_of_le (Nat.mul_pos HT.out.ppos B32_pos) (HT.out.dpos B32_pos)
  obtain ⟨Q, hQ⟩ : ∃ Q, t / f = Q := ⟨_, rfl⟩
  have hQi : (t : Int) / (f : Int) = (Q : Int) := by rw [← hQ, Int.natCast_ediv]
  have hQt : Q ≤ t := by rw [← hQ]; exact Nat.div_le_self _ _
  have hwQ : IntKind.u64.wrap (Q : Int) = (Q : Int) := IntWalk.u64_in _ (by omega)
  have hQf : Q * f ≤ t := by rw [← hQ]; exact Nat.div_mul_le_self t f
  have hfne : ¬ (f : Int) = 0 := by omega
  rw [hQ] at hQq
  obtain ⟨q, hq⟩ : ∃ q, V / D = q := ⟨_, rfl⟩
  rw [hq] at hQq hqB ⊢
  have HQ := Lib.hid (And.intro hQq (And.intro hqB (And.intro hQt (And.intro hQf (And.intro hq (And.intro htl HJ.out))))))
  have hcase : ∃ g r m : Nat, g = min Q 4294967295 ∧ g * f = m ∧ m + r = t := ⟨min Q 4294967295, t - min Q 4294967295 * f, _, rfl, rfl, Nat.add_sub_cancel' (Nat.le_trans (Nat.mul_le_mul_right f (Nat.min_le_left _ _)) hQf)⟩
  obtain ⟨g, r, m, hg, hm, hr⟩ := hcase
  have hwm : IntKind.u64.wrap (m : Int) = (m : Int) := IntWalk.u64_in _ (by omega)
  have hwr : IntKind.u64.wrap ((t : Int) - (m : Int)) = (r : Int) := by rw [IntWalk.u64_in _ (by omega)]; omega
  have hq1 : q ≤ g := by rw [hg]; unfold B32 at hqB; omega
  have hgf : g * f + r = t := by omega
  have hgl : g ≤ 4294967295 := by omega
  have HG := Lib.hid (And.intro hq1 (And.intro hgf hgl))
  by_cases hmin : Q ≤ 4294967295
  · have hgQ : g = Q := by omega
    subst hgQ
    have hmul : (g : Int) * (f : Int) = (m : Int) := by rw [← hm, Int.natCast_mul]
    have hmi : (g : Int) ≤ 4294967295 := by omega
    clear hg hm hr hq1 hgf hgl hQq hqB hQt hQf hq htB hQ htl hDp hmin
    go_enter Tryz.func181, Tryz.ntmps181
    go_wp2
    go_quiet (fail)
    go_wp2
    go_quiet (fail)
    go_wp2
    go_loop [9, 10] (fun gv rv => ∃ g r : Nat, gv = .int .u64 g ∧ rv = .int .u64 r ∧ q ≤ g ∧ g * f + r = t ∧ g ≤ 4294967295) (fun gv _ => (intOf gv).toNat)
    case atStart => exact ⟨g, r, rfl, rfl, HG.out.1, HG.out.2.1, HG.out.2.2⟩
    case round =>
     clear hmul hmi hwm hwr hwQ hQi k1 k3 k5 k7
     obtain ⟨g, r, rfl, rfl, h1, h2, h3⟩ := hrel
     have hgs : g * s ≤ 18446744065119617025 := limb_prod (by omega) d0
     obtain ⟨gs, hgs1⟩ : ∃ x, g * s = x := ⟨_, rfl⟩
     rw [hgs1] at hgs
     have hgsi : (g : Int) * (s : Int) = (gs : Int) := by rw [← hgs1, Int.natCast_mul]
     have hgsw : IntKind.u64.wrap (gs : Int) = (gs : Int) := IntWalk.u64_in _ (by omega)
     by_cases hr1 : r ≤ 4294967295
     · have hr1i : (r : Int) ≤ 4294967295 := by omega
       have hj2 := join_int r p0 (by omega) b0
       obtain ⟨rp, hrp⟩ : ∃ x, r * 4294967296 + p0 = x := ⟨_, rfl⟩
       rw [hrp] at hj2
       by_cases hc : rp < gs
       · have hci : (rp : Int) < (gs : Int) := by omega
         have hg0 : 0 < g := by
           rcases Nat.eq_zero_or_pos g with h | h
           · rw [h, Nat.zero_mul] at hgs1; omega
           · exact h
         have hg1 : (1 : Int) ≤ (g : Int) := by omega
         have hdown := HT.out.down (g := g) (r := r) h2 (by rw [HQ.out.2.2.2.2.1]; exact h1) (by rw [hgs1]; unfold B32; omega)
         rw [HQ.out.2.2.2.2.1] at hdown
         have hnew : (g - 1) * f + (r + f) = t := by rw [Nat.sub_mul, Nat.one_mul]; have : 1 * f ≤ g * f := Nat.mul_le_mul_right f hg0; omega
         have hgi : (g : Int) ≤ 4294967295 := by omega
         have HX := Lib.hid (And.intro hdown (And.intro hnew h3))
         clear h1 h2 h3 hgs hgs1 hrp hr1 hc hdown hnew
         go_wp2
         go_round
         case rel => exact ⟨g - 1, r + f, by go_num, by go_num, HX.out.1, HX.out.2.1, by have := HX.out.2.2; omega⟩
         case measure => simp [intOf]; omega
       · have hci : ¬ (rp : Int) < (gs : Int) := by omega
         have hlast := HT.out.last B32_pos (g := g) (r := r) h2 (by rw [HQ.out.2.2.2.2.1]; exact h1) (by unfold B32; omega) (by rw [hgs1]; unfold B32; omega)
         rw [HQ.out.2.2.2.2.1] at hlast
         have HX := Lib.hid (And.intro hlast h3)
         clear h1 h2 h3 hgs hgs1 hrp hr1 hc hlast
         go_wp2
         go_ret
         exact ⟨.mk _ _, g, rfl, HX.out.2, HX.out.1⟩
     · have hr1i : ¬ (r : Int) ≤ 4294967295 := by omega
       have hlast := HT.out.last B32_pos (g := g) (r := r) h2 (by rw [HQ.out.2.2.2.2.1]; exact h1) (by unfold B32; omega) (by rw [hgs1]; unfold B32; omega)
       rw [HQ.out.2.2.2.2.1] at hlast
       have HX := Lib.hid (And.intro hlast h3)
       clear h1 h2 h3 hgs hgs1 hr1 hlast
       go_wp2
       go_ret
       exact ⟨.mk _ _, g, rfl, HX.out.2, HX.out.1⟩
  · have hgQ : g = 4294967295 := by omega
    subst hgQ
    have hmul : (4294967295 : Int) * (f : Int) = (m : Int) := by rw [← hm, Int.natCast_mul]; rfl
    have hmi : ¬ (Q : Int) ≤ 4294967295 := by omega
    clear hg hm hr hq1 hgf hgl hQq hqB hQt hQf hq htB hQ htl hDp hmin
    go_enter Tryz.func181, Tryz.ntmps181
    go_wp2
    go_quiet (fail)
    go_wp2
    go_quiet (fail)
    go_wp2
    go_loop [9, 10] (fun gv rv => ∃ g r : Nat, gv = .int .u64 g ∧ rv = .int .u64 r ∧ q ≤ g ∧ g * f + r = t ∧ g ≤ 4294967295) (fun gv _ => (intOf gv).toNat)
    case atStart => exact ⟨4294967295, r, rfl, rfl, HG.out.1, HG.out.2.1, HG.out.2.2⟩
    case round =>
     clear hmul hmi hwm hwr hwQ hQi k1 k3 k5 k7
     obtain ⟨g, r, rfl, rfl, h1, h2, h3⟩ := hrel
     have hgs : g * s ≤ 18446744065119617025 := limb_prod (by omega) d0
     obtain ⟨gs, hgs1⟩ : ∃ x, g * s = x := ⟨_, rfl⟩
     rw [hgs1] at hgs
     have hgsi : (g : Int) * (s : Int) = (gs : Int) := by rw [← hgs1, Int.natCast_mul]
     have hgsw : IntKind.u64.wrap (gs : Int) = (gs : Int) := IntWalk.u64_in _ (by omega)
     by_cases hr1 : r ≤ 4294967295
     · have hr1i : (r : Int) ≤ 4294967295 := by omega
       have hj2 := join_int r p0 (by omega) b0
       obtain ⟨rp, hrp⟩ : ∃ x, r * 4294967296 + p0 = x := ⟨_, rfl⟩
       rw [hrp] at hj2
       by_cases hc : rp < gs
       · have hci : (rp : Int) < (gs : Int) := by omega
         have hg0 : 0 < g := by
           rcases Nat.eq_zero_or_pos g with h | h
           · rw [h, Nat.zero_mul] at hgs1; omega
           · exact h
         have hg1 : (1 : Int) ≤ (g : Int) := by omega
         have hdown := HT.out.down (g := g) (r := r) h2 (by rw [HQ.out.2.2.2.2.1]; exact h1) (by rw [hgs1]; unfold B32; omega)
         rw [HQ.out.2.2.2.2.1] at hdown
         have hnew : (g - 1) * f + (r + f) = t := by rw [Nat.sub_mul, Nat.one_mul]; have : 1 * f ≤ g * f := Nat.mul_le_mul_right f hg0; omega
         have hgi : (g : Int) ≤ 4294967295 := by omega
         have HX := Lib.hid (And.intro hdown (And.intro hnew h3))
         clear h1 h2 h3 hgs hgs1 hrp hr1 hc hdown hnew
         go_wp2
         go_round
         case rel => exact ⟨g - 1, r + f, by go_num, by go_num, HX.out.1, HX.out.2.1, by have := HX.out.2.2; omega⟩
         case measure => simp [intOf]; omega
       · have hci : ¬ (rp : Int) < (gs : Int) := by omega
         have hlast := HT.out.last B32_pos (g := g) (r := r) h2 (by rw [HQ.out.2.2.2.2.1]; exact h1) (by unfold B32; omega) (by rw [hgs1]; unfold B32; omega)
         rw [HQ.out.2.2.2.2.1] at hlast
         have HX := Lib.hid (And.intro hlast h3)
         clear h1 h2 h3 hgs hgs1 hrp hr1 hc hlast
         go_wp2
         go_ret
         exact ⟨.mk _ _, g, rfl, HX.out.2, HX.out.1⟩
     · have hr1i : ¬ (r : Int) ≤ 4294967295 := by omega
       have hlast := HT.out.last B32_pos (g := g) (r := r) h2 (by rw [HQ.out.2.2.2.2.1]; exact h1) (by unfold B32; omega) (by rw [hgs1]; unfold B32; omega)
       rw [HQ.out.2.2.2.2.1] at hlast
       have HX := Lib.hid (And.intro hlast h3)
       clear h1 h2 h3 hgs hgs1 hr1 hlast
       go_wp2
       go_ret
       exact ⟨.mk _ _, g, rfl, HX.out.2, HX.out.1⟩
def IsRow (w w' : World) (g off : Nat) (cur : Array Value) (n : Nat) (P : List Nat → Prop) : Prop :=
  ∃ zs, zs.length = n ∧ Lm.Ok B32 zs ∧ P zs ∧ SegTo w' g off .u32 132 cur zs ∧ w.grownBy w' (some g)
theorem takeAway_any (g off cap : Nat) (cur : Array Value) (ps : List Nat) (A : Option Addr) (c : Nat) (ds : List Nat) (dg : Nat) (w : World) (hp : Seg w g off .u32 132 cur ps) (hd : Nums w .u32 A ds) (ho : 0 < ds.length → Off A g)
    (op : Lm.Ok B32 ps) (od : Lm.Ok B32 ds) (hl : ps.length = ds.length + 1) (hl2 : ds.length ≤ 900000) (hg : dg ≤ 4294967295) :
    Calls Tryz.prog 182 #[.slice (some ⟨g, off, none⟩) ps.length cap, .slice A ds.length c, .int .u64 (dg : Int)] w fun e w' =>
      ∃ b : Nat, e = .returned (.bool ((b : Int) == 1)) ∧ b ≤ 1 ∧ IsRow w w' g off cur ps.length (fun zs => Lm.val B32 zs + dg * Lm.val B32 ds = Lm.val B32 ps + B32 ^ (ds.length + 1) * b) := by
  have hgB : dg < B32 := by unfold B32; omega
  have HG := Lib.hid hgB
  have HL := Lib.hid hl
  have hlt0 : ds.length < ps.length := by omega
  clear hgB hl
  go_enter Tryz.func182, Tryz.ntmps182
  go_wp2
  go_loopw [7, 8, 14] (fun cv bv iv wr => ∃ (i cy bo : Nat) (zs : List Nat), iv = .int .i64 i ∧ cv = .int .u64 cy ∧ bv = .int .u32 bo ∧ i ≤ ds.length ∧ Take ps ds zs dg i cy bo ∧ SegTo wr g off .u32 132 cur zs ∧ w.grownBy wr (some g)) (fun _ _ iv _ => ds.length - (intOf iv).toNat)
  case atStart => exact ⟨0, 0, 0, ps, rfl, rfl, rfl, Nat.zero_le _, take_start op, .refl hp, World.grownBy.refl _ _⟩
  case round =>
   obtain ⟨i, cy, bo, zs, rfl, rfl, rfl, hi, htk, hseg, hgr⟩ := hrel
   have hbo := htk.borrow
   have hcy := htk.carry
   obtain ⟨cur', hs1, hs2, hs3⟩ := id hseg
   by_cases hlt : i < ds.length
   · have hdr := hd.grown hgr ho
     obtain ⟨ad, rfl, _, hcell⟩ := hdr.at_ hlt
     have hcx := hcell i hlt
     have hxl := limb_lt od i
     have hcz := hs1.cell (j := i) (by rw [htk.len]; omega)
     have hfz := hs1.frozen (off + i)
     have hpl := limb_lt htk.ok i
     obtain ⟨x, hx⟩ : ∃ x, ds.getD i 0 = x := ⟨_, rfl⟩
     obtain ⟨p, hpv⟩ : ∃ x, zs.getD i 0 = x := ⟨_, rfl⟩
     rw [hx] at hcx hxl
     rw [hpv] at hcz hpl
     have hprod := limb_prod (x := dg) (f := x) (by omega) hxl
     obtain ⟨m, hm⟩ : ∃ m, dg * x = m := ⟨_, rfl⟩
     rw [hm] at hprod
     have hmi : (dg : Int) * (x : Int) = (m : Int) := by rw [← hm, Int.natCast_mul]
     have hsum := take_carry hcy HG.out hxl
     rw [hm] at hsum
     obtain ⟨t, ht⟩ : ∃ t, cy + m = t := ⟨_, rfl⟩
     rw [ht] at hsum
     have hmw : IntKind.u64.wrap (m : Int) = (m : Int) := IntWalk.u64_in _ (by omega)
     have hti : (cy : Int) + (m : Int) = (t : Int) := by omega
     have htw : IntKind.u64.wrap (t : Int) = (t : Int) := IntWalk.u64_in _ (by omega)
     have hlo : (t : Int) % 4294967296 = ((t % B32 : Nat) : Int) := limb_mod t _ rfl
     have hhi : (t : Int) / 4294967296 = ((t / B32 : Nat) : Int) := limb_div t _ rfl
     have hlol : t % B32 < 4294967296 := Nat.mod_lt _ B32_pos
     obtain ⟨lo, hlov⟩ : ∃ l, t % B32 = l := ⟨_, rfl⟩
     obtain ⟨hh, hhv⟩ : ∃ l, t / B32 = l := ⟨_, rfl⟩
     rw [hlov] at hlo hlol
     rw [hhv] at hhi
     have hhl : (hh : Int) ≤ 4294967295 := by rw [← hhv]; unfold B32; omega
     have HD := Lib.hid (And.intro hx (And.intro hpv (And.intro hm (And.intro ht (And.intro hlov hhv)))))
     clear hx hpv hm ht hlov hhv hs1 hs2 hs3 hcell hprod hsum
     go_wp2_with fail
     refine (sub32_any p lo bo _ hpl hlol hbo).mono ?_
     rintro e w' ⟨rfl, r, b', rfl, hr, hb', he⟩
     have HE := Lib.hid he
     clear he
     go_wp2
     go_roundw
     case rel =>
      have hst := take_step htk hlt (by omega) HD.out.1 hxl HG.out HD.out.2.1 (t := t) (r := r) (b' := b') (by rw [← HD.out.2.2.2.1, HD.out.2.2.1]) (by rw [HD.out.2.2.2.2.1]; exact HE.out) hr hb'
      rw [HD.out.2.2.2.2.2] at hst
      exact ⟨i + 1, hh, b', _, by go_num, rfl, rfl, by omega, hst, hseg.set_ (by rw [htk.len]; omega) r, grown_trans hgr (grown_store _ _ _ _)⟩
     case measure => simp [intOf]; omega
   · have hie : i = ds.length := by omega
     subst hie
     have hcz := hs1.cell (j := ds.length) (by rw [htk.len]; omega)
     have hfz := hs1.frozen (off + ds.length)
     have hpl := limb_lt htk.ok ds.length
     obtain ⟨p, hpv⟩ : ∃ x, zs.getD ds.length 0 = x := ⟨_, rfl⟩
     rw [hpv] at hcz hpl
     have hcy' : cy < 4294967296 := hcy
     have hlo : (cy : Int) % 4294967296 = (cy : Int) := by omega
     have hbound : (ds.length : Int) < (ps.length : Int) := by omega
     have HD := Lib.hid (And.intro hpv (And.intro htk (And.intro hseg hgr)))
     clear hpv hs1 hs2 hs3 htk hseg hgr
     go_wp2_with fail
     refine (sub32_any p cy bo _ hpl hcy' hbo).mono ?_
     rintro e w' ⟨rfl, r, b', rfl, hr, hb', he⟩
     have HE := Lib.hid he
     clear he
     go_wp2
     go_ret
     have hlen := HD.out.2.1.len
     exact ⟨b', rfl, hb', _, by rw [List.length_set]; exact hlen, HD.out.2.1.ok.set _ _ hr, take_end HD.out.2.1 HL.out HD.out.1 HE.out, HD.out.2.2.1.set_ (by rw [hlen]; omega) r, grown_trans HD.out.2.2.2 (grown_store _ _ _ _)⟩
def IsAdd (w w' : World) (x y b : Nat) (e : Ending) : Prop := w = w' ∧ ∃ d q : Nat, e = .returned (.tuple #[.int .u32 d, .int .u32 q]) ∧ d < 4294967296 ∧ q ≤ 1 ∧ d + 4294967296 * q = x + y + b
theorem add32_any (x y b : Nat) (w : World) (hx : x < 4294967296) (hy : y < 4294967296) (hb : b ≤ 1) :
    Calls Tryz.prog 186 #[.int .u32 x, .int .u32 y, .int .u32 b] w fun e w' => IsAdd w w' x y b e := by
  go_enter Tryz.func186, Tryz.ntmps186
  go_wp2
  go_ret2
  refine ⟨rfl, (x + y + b) % 4294967296, (x + y + b) / 4294967296, ?_, by omega, by omega, by omega⟩
  have e1 : ((x : Int) + (y : Int) + (b : Int)) % 4294967296 = (((x + y + b) % 4294967296 : Nat) : Int) := by omega
  have e2 : ((x : Int) + (y : Int) + (b : Int)) / 4294967296 = (((x + y + b) / 4294967296 : Nat) : Int) := by omega
  rw [← e1, ← e2]
  rfl
theorem inc_add {zs0 ys zs : List Nat} {i q d y r q' : Nat} (h : Inc zs0 ys zs i q) (hi : i < zs0.length) (hd : zs.getD i 0 = d) (hy : Lm.val B32 (ys.take (i + 1)) = Lm.val B32 (ys.take i) + B32 ^ i * y)
    (he : r + 4294967296 * q' = d + y + q) (hr : r < 4294967296) (hdl : d < 4294967296) (hyl : y < 4294967296) : Inc zs0 ys (zs.set i r) (i + 1) q' := by
  have h1 := inc_step h hi hd hdl hyl hy (t := q + d + y) rfl
  have hc := h.carry
  have e1 : (q + d + y) % B32 = r := by unfold B32; omega
  have e2 : (q + d + y) / B32 = q' := by unfold B32; omega
  rw [e1, e2] at h1
  exact h1
theorem giveBack_any (g off cap : Nat) (cur : Array Value) (ps : List Nat) (A : Option Addr) (c : Nat) (ds : List Nat) (w : World) (hp : Seg w g off .u32 132 cur ps) (hd : Nums w .u32 A ds) (ho : 0 < ds.length → Off A g)
    (op : Lm.Ok B32 ps) (od : Lm.Ok B32 ds) (hl : ps.length = ds.length + 1) (hl2 : ds.length ≤ 900000) :
    Calls Tryz.prog 183 #[.slice (some ⟨g, off, none⟩) ps.length cap, .slice A ds.length c] w fun e w' =>
      e = .returned (.tuple #[]) ∧ IsRow w w' g off cur ps.length (fun zs => Lm.val B32 zs = (Lm.val B32 ps + Lm.val B32 ds) % B32 ^ (ds.length + 1)) := by
  have HL := Lib.hid hl
  have hlt0 : ds.length < ps.length := by omega
  clear hl
  go_enter Tryz.func183, Tryz.ntmps183
  go_wp2
  go_loopw [4, 9] (fun cv iv wr => ∃ (i cy : Nat) (zs : List Nat), iv = .int .i64 i ∧ cv = .int .u32 cy ∧ i ≤ ds.length ∧ Inc ps ds zs i cy ∧ SegTo wr g off .u32 132 cur zs ∧ w.grownBy wr (some g)) (fun _ iv _ => ds.length - (intOf iv).toNat)
  case atStart => exact ⟨0, 0, ps, rfl, rfl, Nat.zero_le _, ⟨rfl, op, fun _ _ => rfl, by simp [Lm.val], by omega⟩, .refl hp, World.grownBy.refl _ _⟩
  case round =>
   obtain ⟨i, cy, zs, rfl, rfl, hi, hinc, hseg, hgr⟩ := hrel
   have hcy := hinc.carry
   obtain ⟨cur', hs1, hs2, hs3⟩ := id hseg
   by_cases hlt : i < ds.length
   · have hdr := hd.grown hgr ho
     obtain ⟨ad, rfl, _, hcell⟩ := hdr.at_ hlt
     have hcx := hcell i hlt
     have hxl := limb_lt od i
     have hcz := hs1.cell (j := i) (by rw [hinc.len]; omega)
     have hfz := hs1.frozen (off + i)
     have hpl := limb_lt hinc.ok i
     obtain ⟨x, hx⟩ : ∃ x, ds.getD i 0 = x := ⟨_, rfl⟩
     obtain ⟨p, hpv⟩ : ∃ x, zs.getD i 0 = x := ⟨_, rfl⟩
     rw [hx] at hcx hxl
     rw [hpv] at hcz hpl
     have HD := Lib.hid (And.intro hx hpv)
     clear hx hpv hs1 hs2 hs3 hcell
     go_wp2_with fail
     refine (add32_any p x cy _ hpl hxl hcy).mono ?_
     rintro e w' ⟨rfl, r, q', rfl, hr, hq', he⟩
     have HE := Lib.hid he
     clear he
     go_wp2
     go_roundw
     case rel =>
      exact ⟨i + 1, q', _, by go_num, rfl, by omega, inc_add hinc (by omega) HD.out.2 (by rw [Lm.val_take_succ _ _ _ hlt, HD.out.1]) HE.out hr hpl hxl, hseg.set_ (by rw [hinc.len]; omega) r, grown_trans hgr (grown_store _ _ _ _)⟩
     case measure => simp [intOf]; omega
   · have hie : i = ds.length := by omega
     subst hie
     have hcz := hs1.cell (j := ds.length) (by rw [hinc.len]; omega)
     have hfz := hs1.frozen (off + ds.length)
     have hpl := limb_lt hinc.ok ds.length
     obtain ⟨p, hpv⟩ : ∃ x, zs.getD ds.length 0 = x := ⟨_, rfl⟩
     rw [hpv] at hcz hpl
     have hbound : (ds.length : Int) < (ps.length : Int) := by omega
     have HD := Lib.hid (And.intro hpv (And.intro hinc (And.intro hseg hgr)))
     clear hpv hs1 hs2 hs3 hinc hseg hgr
     have HE := Lib.hid (limb_mod (p + cy) ((p : Int) + (cy : Int)) (by omega))
     go_wp2
     go_end0
     have hlen := HD.out.2.1.len
     have HL' := HL.out
     refine ⟨rfl, zs.set ds.length ((p + cy) % B32), by rw [List.length_set]; exact hlen, HD.out.2.1.ok.set _ _ (Nat.mod_lt _ B32_pos), give_end HD.out.2.1 HL.out HD.out.1 rfl, ?_, grown_trans HD.out.2.2.2 (grown_store _ _ _ _)⟩
     rw [HE.out]
     exact HD.out.2.2.1.set_ (by rw [hlen]; omega) _
theorem Seg.drewN {w : World} {g off : Nat} {k : IntKind} {e : TypeId} {cur : Array Value} {xs : List Nat} (h : Seg w g off k e cur xs) (n : Nat) : Seg (w.drewN n) g off k e cur xs := ⟨h.blk, h.fit, h.at_⟩
theorem takeDigit_any (g off cap : Nat) (cur : Array Value) (ps : List Nat) (A : Option Addr) (c : Nat) (ds : List Nat) (n : Nat) (w : World) (hp : Seg w g off .u32 132 cur ps) (hd : Nums w .u32 A ds) (ho : 0 < ds.length → Off A g)
    (op : Lm.Ok B32 ps) (od : Lm.Ok B32 ds) (ln : ds.length = n + 2) (lp : ps.length = n + 3) (hn : n ≤ 800000) (hf : 0 < ds.getD (n + 1) 0) (hv : Lm.val B32 ps < B32 * Lm.val B32 ds) :
    Calls Tryz.prog 173 #[.slice (some ⟨g, off, none⟩) ps.length cap, .slice A ds.length c] w fun e w' =>
      e = .returned (.int .u32 ((Lm.val B32 ps / Lm.val B32 ds : Nat) : Int)) ∧ IsRow w w' g off cur ps.length (fun zs => Lm.val B32 zs = Lm.val B32 ps % Lm.val B32 ds) := by
  have hgs := guess_any (some ⟨g, off, none⟩) cap ps A c ds n w hp.nums hd op od ln lp (by omega) hf hv
  have ht := tops_of op od ln lp hf hv
  have hD : 0 < Lm.val B32 ds := Nat.lt_of_lt_of_le (Nat.mul_pos ht.ppos B32_pos) (ht.dpos B32_pos)
  have hqB := ht.qB B32_pos
  have hDM : Lm.val B32 ds ≤ B32 ^ (ds.length + 1) := Nat.le_trans (Nat.le_of_lt (Lm.val_lt od)) (Nat.pow_le_pow_right B32_pos (by omega))
  have HG := Lib.hid (And.intro hgs (And.intro hD (And.intro hDM (And.intro hqB (And.intro ln lp)))))
  have hlt0 : ds.length < ps.length := by omega
  have hl9 : ds.length ≤ 900000 := by omega
  have hl1 : ps.length = ds.length + 1 := by omega
  have HL := Lib.hid hl1
  clear hgs ht hD hDM hqB ln lp hl1
  obtain ⟨V, hV⟩ : ∃ x, Lm.val B32 ps = x := ⟨_, rfl⟩
  obtain ⟨D, hDv⟩ : ∃ x, Lm.val B32 ds = x := ⟨_, rfl⟩
  rw [hV, hDv] at HG ⊢
  have HVD := Lib.hid (And.intro hV hDv)
  clear hV hDv hv
  go_enter Tryz.func173, Tryz.ntmps173
  go_wp2_with fail
  refine HG.out.1.mono ?_
  rintro e w1 ⟨⟨m, rfl⟩, gd, rfl, hg1, hgq⟩
  have hp1 := hp.drewN m
  have hd1 := hd.drewN m
  by_cases h0 : gd = 0
  · subst h0
    have hq0 : V / D = 0 := by generalize V / D = x at hgq ⊢; omega
    have HQ := Lib.hid hq0
    clear hq0 hgq
    go_wp2
    go_ret
    refine ⟨by rw [HQ.out]; rfl, ps, rfl, op, ?_, .refl hp1, grown_drewN (World.grownBy.refl _ _) m⟩
    have := Nat.div_add_mod V D
    rw [HQ.out, Nat.mul_zero, Nat.zero_add] at this
    show Lm.val B32 ps = V % D
    rw [HVD.out.1]
    exact this.symm
  · have hne : ((gd : Int) == 0) = false := by rw [beq_eq_false_iff_ne]; omega
    have HQ := Lib.hid hgq
    clear hgq h0
    go_wp2_with fail
    refine (takeAway_any g off cap cur ps A c ds gd (w.drewN m) hp1 hd1 ho op od HL.out hl9 hg1).mono ?_
    rintro e w2 ⟨b, rfl, hb, zs, hzl, hzo, hzv, hzs, hgr2⟩
    rw [HVD.out.1, HVD.out.2] at hzv
    rcases (show b = 0 ∨ b = 1 by omega) with rfl | rfl
    · have hfin := digit_right HQ.out (by rw [Nat.mul_zero, Nat.add_zero] at hzv; exact hzv) HG.out.2.1
      have hcast : (gd : Int) % 4294967296 = (gd : Int) := by omega
      have HX := Lib.hid (And.intro hfin (And.intro hzo (And.intro hzs hgr2)))
      clear hfin hzv hzo hzs hgr2
      go_wp2
      go_ret
      exact ⟨by rw [← HX.out.1.1]; rfl, zs, hzl, HX.out.2.1, HX.out.1.2, HX.out.2.2.1, grown_trans (grown_drewN (World.grownBy.refl _ _) m) HX.out.2.2.2⟩
    · have hzlt := Lm.val_lt hzo
      rw [hzl, HL.out] at hzlt
      have hfin := digit_less HQ.out (by rw [Nat.mul_one] at hzv; exact hzv) hzlt HG.out.2.1 HG.out.2.2.1
      obtain ⟨q, hq⟩ : ∃ q, V / D = q := ⟨_, rfl⟩
      rw [hq] at hfin
      have hgd := hfin.1
      subst hgd
      have hcast : ((q + 1 : Nat) : Int) - 1 = (q : Int) := by omega
      have hq32 : (q : Int) % 4294967296 = (q : Int) := by omega
      have hd2 := hd1.grown hgr2 ho
      obtain ⟨cur2, s2, z2, o2⟩ := id hzs
      have hgb := giveBack_any g off cap cur2 zs A c ds w2 s2 hd2 ho hzo od (by rw [hzl]; exact HL.out) hl9
      rw [hzl] at hgb
      have HX := Lib.hid (And.intro hfin (And.intro hzs (And.intro hgr2 (And.intro hgb (And.intro hzl hq)))))
      have HO := Lib.hid (And.intro z2 o2)
      clear hfin hzv hzo hzs hgr2 hgb hzlt s2 z2 o2 hd2 hq hzl
      go_wp2_with fail
      refine HX.out.2.2.2.1.mono ?_
      rintro e w3 ⟨rfl, ys, hyl, hyo, hyv, hys, hgr3⟩
      go_wp2
      go_ret
      obtain ⟨c3, s3, z3, o3⟩ := hys
      refine ⟨by rw [HX.out.2.2.2.2.2]; rfl, ys, hyl, hyo, ?_, ⟨c3, s3, z3.trans HO.out.1, fun j hj => (o3 j hj).trans (HO.out.2 j (by rw [HX.out.2.2.2.2.1]; rw [hyl] at hj; exact hj))⟩, grown_trans (grown_trans (grown_drewN (World.grownBy.refl _ _) m) HX.out.2.2.1) hgr3⟩
      show Lm.val B32 ys = V % D
      rw [hyv, HVD.out.2]
      exact HX.out.1.2
theorem lz32_any (d : Nat) (w : World) (h : d < B32) : Calls Tryz.prog 172 #[.int .u32 (d : Int)] w fun e w' => e = .returned (.int .i64 ((32 - bl d : Nat) : Int)) ∧ w = w' := by
  have hb : bl d ≤ 32 := bl_le.mpr h
  have b0 : (0 : Int) ≤ (bl d : Int) := Int.natCast_nonneg _
  have b1 : (bl d : Int) ≤ 32 := by omega
  have HL := Lib.hid (len32_any d w h)
  go_enter Tryz.func172, Tryz.ntmps172
  go_wp2_with fail
  refine HL.out.mono ?_
  rintro e w' ⟨rfl, rfl⟩
  go_wp2
  go_ret
  refine ⟨?_, rfl⟩
  have e : (32 : Int) - (bl d : Int) = ((32 - bl d : Nat) : Int) := by omega
  rw [← e]
  rfl
structure DivAt (X D : Nat) (qs rs : List Nat) (m L i : Nat) : Prop where
  lq : qs.length = m
  oq : Lm.Ok B32 qs
  lr : rs.length = L
  or_ : Lm.Ok B32 rs
  num : Lm.val B32 rs + D * (B32 ^ i * Lm.val B32 (qs.drop i)) = X
  small : Lm.val B32 (rs.drop i) < D
def partOf (rs : List Nat) (j k : Nat) : List Nat := (rs.drop j).take k
def putPart (rs : List Nat) (j : Nat) (zs : List Nat) : List Nat := rs.take j ++ zs ++ rs.drop (j + zs.length)
theorem part_len {rs : List Nat} {j k : Nat} (h : j + k ≤ rs.length) : (partOf rs j k).length = k := by unfold partOf; rw [List.length_take, List.length_drop]; omega
theorem part_zero {X D : Nat} {qs rs : List Nat} {m L j n : Nat} (h : DivAt X D qs rs m L (j + 1)) (hD : D ≤ B32 ^ n) (hj : j + 1 + n ≤ L) : Lm.val B32 (rs.drop (j + 1 + n)) = 0 := by
  have h1 := Lm.val_split B32 (rs.drop (j + 1)) n (by rw [List.length_drop, h.lr]; omega)
  rw [List.drop_drop] at h1
  have h2 := h.small
  rcases Nat.eq_zero_or_pos (Lm.val B32 (rs.drop (j + 1 + n))) with e | e
  · exact e
  · have : B32 ^ n * 1 ≤ B32 ^ n * Lm.val B32 (rs.drop (j + 1 + n)) := Nat.mul_le_mul_left _ e
    omega
theorem part_val {X D : Nat} {qs rs : List Nat} {m L j n : Nat} (h : DivAt X D qs rs m L (j + 1)) (hD : D ≤ B32 ^ n) (hj : j + 1 + n ≤ L) : Lm.val B32 (partOf rs j (n + 1)) = Lm.val B32 (rs.drop j) := by
  have h1 := Lm.val_split B32 (rs.drop j) (n + 1) (by rw [List.length_drop, h.lr]; omega)
  rw [List.drop_drop, show j + (n + 1) = j + 1 + n by omega, part_zero h hD hj] at h1
  unfold partOf
  omega
theorem part_lt {X D : Nat} {qs rs : List Nat} {m L j n : Nat} (h : DivAt X D qs rs m L (j + 1)) (hD : D ≤ B32 ^ n) (hj : j + 1 + n ≤ L) : Lm.val B32 (partOf rs j (n + 1)) < B32 * D := by
  rw [part_val h hD hj, Lm.val_drop_pred B32 rs j (by rw [h.lr]; omega)]
  have h1 := limb_lt h.or_ j
  have h2 : B32 * (Lm.val B32 (rs.drop (j + 1)) + 1) ≤ B32 * D := Nat.mul_le_mul_left _ h.small
  rw [Nat.mul_add] at h2
  unfold B32 at *
  omega
theorem div_step {X D : Nat} {qs rs zs : List Nat} {m L j n V : Nat} (h : DivAt X D qs rs m L (j + 1)) (hD : D ≤ B32 ^ n) (hD0 : 0 < D) (hj : j + 1 + n ≤ L) (hjm : j < m) (hV : Lm.val B32 (partOf rs j (n + 1)) = V)
    (hl : zs.length = n + 1) (ho : Lm.Ok B32 zs) (hz : Lm.val B32 zs = V % D) (hq : V / D < B32) : DivAt X D (qs.set j (V / D)) (putPart rs j zs) m L j := by
  have hlr := h.lr
  have hlq := h.lq
  have e0 := part_zero h hD hj
  have htl : (rs.take j).length = j := by rw [List.length_take]; omega
  have e1 : Lm.val B32 (putPart rs j zs) = Lm.val B32 (rs.take j) + B32 ^ j * (V % D) := by
    unfold putPart
    rw [Lm.val_append, Lm.val_append, htl, hz, hl, show j + (n + 1) = j + 1 + n by omega, e0, Nat.mul_zero, Nat.add_zero]
  have e2 : Lm.val B32 rs = Lm.val B32 (rs.take j) + B32 ^ j * V := by
    rw [Lm.val_split B32 rs j (by omega), ← part_val h hD hj, hV]
  have e3 : Lm.val B32 ((qs.set j (V / D)).drop j) = V / D + B32 * Lm.val B32 (qs.drop (j + 1)) := by
    rw [Lm.val_drop_pred B32 _ j (by rw [List.length_set]; omega), getD_set_eq _ _ _ (by omega), List.drop_set, if_pos (by omega)]
  refine ⟨by rw [List.length_set]; exact hlq, h.oq.set _ _ hq, ?_, ?_, ?_, ?_⟩
  · unfold putPart
    rw [List.length_append, List.length_append, htl, List.length_drop, hl]
    omega
  · unfold putPart
    exact ((h.or_.take j).append ho).append (h.or_.drop _)
  · have hn := h.num
    have hdm := Nat.div_add_mod V D
    rw [e1, e3]
    rw [e2, Nat.pow_succ, Nat.mul_assoc] at hn
    rw [← hn, Nat.mul_add (B32 ^ j), Nat.mul_add D]
    have e4 : B32 ^ j * V = B32 ^ j * (V % D) + D * (B32 ^ j * (V / D)) := by
      rw [Nat.mul_left_comm D, ← Nat.mul_add, Nat.add_comm, hdm]
    rw [e4]
    omega
  · have e5 : (putPart rs j zs).drop j = zs ++ rs.drop (j + zs.length) := by
      unfold putPart
      rw [List.append_assoc, List.drop_append, htl, Nat.sub_self, List.drop_zero, List.drop_of_length_le (by omega), List.nil_append]
    rw [e5, Lm.val_append, hl, show j + (n + 1) = j + 1 + n by omega, e0, Nat.mul_zero, Nat.add_zero, hz]
    exact Nat.mod_lt _ hD0
theorem div_end {X D : Nat} {qs rs : List Nat} {m L : Nat} (h : DivAt X D qs rs m L 0) : Lm.val B32 qs = X / D ∧ Lm.val B32 rs = X % D := by
  have hn := h.num
  have hs := h.small
  rw [List.drop_zero] at hn hs
  rw [Nat.pow_zero, Nat.one_mul] at hn
  have hD : 0 < D := Nat.lt_of_le_of_lt (Nat.zero_le _) hs
  rw [← hn]
  constructor
  · rw [Nat.add_mul_div_left _ _ hD, Nat.div_eq_of_lt hs, Nat.zero_add]
  · rw [Nat.add_mul_mod_self_left, Nat.mod_eq_of_lt hs]
theorem Seg.part {w : World} {g : Nat} {e : TypeId} {cur : Array Value} {rs : List Nat} (h : Seg w g 0 .u32 e cur rs) (j k : Nat) (hj : j + k ≤ rs.length) : Seg w g j .u32 e cur (partOf rs j k) := by
  have hl := part_len hj
  refine ⟨h.blk, by rw [hl]; have := h.fit; omega, fun i hi => ?_⟩
  rw [hl] at hi
  have := h.at_ (j + i) (by omega)
  rw [Nat.zero_add] at this
  rw [this]
  unfold partOf
  rw [List.getD_eq_getElem?_getD, List.getD_eq_getElem?_getD, List.getElem?_take, if_pos hi, List.getElem?_drop]
theorem put_at (rs zs : List Nat) (j i : Nat) (hj : j + zs.length ≤ rs.length) : (putPart rs j zs).getD i 0 = if i < j then rs.getD i 0 else if i < j + zs.length then zs.getD (i - j) 0 else rs.getD i 0 := by
  have htl : (rs.take j).length = j := by rw [List.length_take]; omega
  unfold putPart
  rw [List.getD_eq_getElem?_getD, List.append_assoc, List.getElem?_append, htl]
  by_cases h1 : i < j
  · rw [if_pos h1, if_pos h1, List.getElem?_take, if_pos h1, List.getD_eq_getElem?_getD]
  · rw [if_neg h1, if_neg h1, List.getElem?_append]
    by_cases h2 : i < j + zs.length
    · rw [if_pos (by omega), if_pos h2, List.getD_eq_getElem?_getD]
    · rw [if_neg (by omega), if_neg h2, List.getElem?_drop, show j + zs.length + (i - j - zs.length) = i by omega, List.getD_eq_getElem?_getD]
theorem SegTo.join {w w' : World} {g : Nat} {e : TypeId} {cur : Array Value} {rs zs : List Nat} {j : Nat} (h : Seg w g 0 .u32 e cur rs) (hj : j + zs.length ≤ rs.length) (t : SegTo w' g j .u32 e cur zs) : ∃ cur', Seg w' g 0 .u32 e cur' (putPart rs j zs) := by
  obtain ⟨cur', s1, z1, o1⟩ := t
  have hl : (putPart rs j zs).length = rs.length := by
    unfold putPart
    rw [List.length_append, List.length_append, List.length_take, List.length_drop]
    omega
  refine ⟨cur', s1.blk, by rw [hl, z1]; exact h.fit, fun i hi => ?_⟩
  rw [hl] at hi
  rw [put_at rs zs j i hj, Nat.zero_add]
  by_cases h1 : i < j
  · rw [if_pos h1, o1 i (Or.inl h1)]
    have := h.at_ i hi
    rwa [Nat.zero_add] at this
  · rw [if_neg h1]
    by_cases h2 : i < j + zs.length
    · rw [if_pos h2]
      have := s1.at_ (i - j) (by omega)
      rwa [show j + (i - j) = i by omega] at this
    · rw [if_neg h2, o1 i (Or.inr (by omega))]
      have := h.at_ i hi
      rwa [Nat.zero_add] at this
structure Moved (x y s D X n m L : Nat) (ds rs : List Nat) : Prop where
  sl : s ≤ 31
  hD : D = y * 2 ^ s
  hX : X = x * 2 ^ s
  dl : ds.length = n + 2
  dv : Lm.val B32 ds = D
  dt : 0 < ds.getD (n + 1) 0
  dB : D ≤ B32 ^ (n + 2)
  d0 : 0 < D
  start : DivAt X D (List.replicate m 0) rs m L m
theorem shift_of {ys : List Nat} {n y : Nat} (ho : Lm.Ok B32 ys) (ht : Lm.Top ys) (hl : ys.length = n + 2) (hv : Lm.val B32 ys = y) : y * 2 ^ (32 - bl (ys.getD (n + 1) 0)) < B32 ^ (n + 2) ∧ B32 ^ (n + 1) ≤ y ∧ 32 - bl (ys.getD (n + 1) 0) ≤ 31 := by
  have h1 := bl_val (xs := ys) (by omega) ho ht
  have h2 := Lm.val_ge (b := B32) (xs := ys) (by omega) ht
  have h3 := Lm.last_of_top (xs := ys) (by omega) ht
  rw [hl, show n + 2 - 1 = n + 1 by omega] at h1 h2 h3
  rw [hv] at h1 h2
  have h4 := bl_pos h3
  have h5 : bl (ys.getD (n + 1) 0) ≤ 32 := bl_le.mpr (limb_lt ho _)
  refine ⟨?_, h2, by omega⟩
  have h6 := lt_bl y
  have h7 : y * 2 ^ (32 - bl (ys.getD (n + 1) 0)) < 2 ^ bl y * 2 ^ (32 - bl (ys.getD (n + 1) 0)) := Nat.mul_lt_mul_of_pos_right h6 (Nat.two_pow_pos _)
  rw [← Nat.pow_add, h1, show 32 * (n + 1) + bl (ys.getD (n + 1) 0) + (32 - bl (ys.getD (n + 1) 0)) = 32 * (n + 2) by omega, ← B32_pow] at h7
  exact h7
theorem moved_of {x y s n xl : Nat} {ds ts : List Nat} (hs : s ≤ 31) (hy : y * 2 ^ s < B32 ^ (n + 2)) (hy2 : B32 ^ (n + 1) ≤ y) (hx : x < B32 ^ xl) (hxy : n + 2 ≤ xl)
    (od : Lm.Ok B32 ds) (td : Lm.Top ds) (vd : Lm.val B32 ds = y * 2 ^ s) (ot : Lm.Ok B32 ts) (tt : Lm.Top ts) (vt : Lm.val B32 ts = x * 2 ^ s) :
    ts.length ≤ xl + 1 ∧ Moved x y s (y * 2 ^ s) (x * 2 ^ s) n (xl - (n + 2) + 1) (xl + 1) ds (ts ++ List.replicate (xl + 1 - ts.length) 0) := by
  have hp := Nat.two_pow_pos s
  have hyD : y ≤ y * 2 ^ s := Nat.le_mul_of_pos_right y hp
  have hy0 : 0 < y := Nat.lt_of_lt_of_le (Nat.pow_pos B32_pos) hy2
  have hX1 : x * 2 ^ s < B32 ^ (xl + 1) := by
    rw [Nat.pow_succ]
    have h1 : 2 ^ s ≤ B32 := by
      have : 2 ^ s ≤ 2 ^ 31 := Nat.pow_le_pow_right (by decide) hs
      unfold B32
      omega
    exact Nat.lt_of_lt_of_le (Nat.mul_lt_mul_of_pos_right hx hp) (Nat.mul_le_mul_left _ h1)
  have htl : ts.length ≤ xl + 1 := by
    rcases Nat.lt_or_ge (xl + 1) ts.length with h | h
    · have h1 := Lm.val_ge (b := B32) (by omega) tt
      have h2 : B32 ^ (xl + 1) ≤ B32 ^ (ts.length - 1) := Nat.pow_le_pow_right B32_pos (by omega)
      omega
    · exact h
  have hdl : ds.length = n + 2 := by
    apply Nat.le_antisymm
    · rcases Nat.lt_or_ge (n + 2) ds.length with h | h
      · have h1 := Lm.val_ge (b := B32) (by omega) td
        have h2 : B32 ^ (n + 2) ≤ B32 ^ (ds.length - 1) := Nat.pow_le_pow_right B32_pos (by omega)
        omega
      · exact h
    · rcases Nat.lt_or_ge ds.length (n + 2) with h | h
      · have h1 := Lm.val_lt od
        have h2 : B32 ^ ds.length ≤ B32 ^ (n + 1) := Nat.pow_le_pow_right B32_pos (by omega)
        omega
      · exact h
  have hv0 : Lm.val B32 (ts ++ List.replicate (xl + 1 - ts.length) 0) = x * 2 ^ s := by rw [Lm.val_append, Lm.val_zeros, Nat.mul_zero, Nat.add_zero, vt]
  have hrl : (ts ++ List.replicate (xl + 1 - ts.length) 0).length = xl + 1 := by rw [List.length_append, List.length_replicate]; omega
  refine ⟨htl, hs, rfl, rfl, hdl, vd, ?_, Nat.le_of_lt hy, by omega, ⟨by simp, Lm.Ok.zeros B32_pos _, hrl, ot.append (Lm.Ok.zeros B32_pos _), ?_, ?_⟩⟩
  · have := Lm.last_of_top (xs := ds) (by omega) td
    rw [hdl, show n + 2 - 1 = n + 1 by omega] at this
    exact Nat.pos_of_ne_zero this
  · rw [hv0, List.drop_of_length_le (by simp), Lm.val_nil, Nat.mul_zero, Nat.mul_zero, Nat.add_zero]
  · have h1 := Lm.val_split B32 (ts ++ List.replicate (xl + 1 - ts.length) 0) (xl - (n + 2) + 1) (by rw [hrl]; omega)
    rw [hv0] at h1
    have h2 : x < y * B32 ^ (xl - (n + 2) + 1) := by
      have e : B32 ^ xl = B32 ^ (n + 1) * B32 ^ (xl - (n + 2) + 1) := by rw [← Nat.pow_add]; congr 1; omega
      rw [e] at hx
      exact Nat.lt_of_lt_of_le hx (Nat.mul_le_mul_right _ hy2)
    have h3 : x * 2 ^ s < y * 2 ^ s * B32 ^ (xl - (n + 2) + 1) := by
      have := Nat.mul_lt_mul_of_pos_right h2 hp
      rw [Nat.mul_right_comm y] 
      exact this
    rw [Nat.mul_comm (y * 2 ^ s)] at h3
    exact Nat.lt_of_mul_lt_mul_left (a := B32 ^ (xl - (n + 2) + 1)) (by omega)
theorem divide_many (A : Option Addr) (c : Nat) (xs : List Nat) (A' : Option Addr) (c' : Nat) (ys : List Nat) (x y n : Nat) (w : World) (hx : Limbs w A c xs x) (hy : Limbs w A' c' ys y) (hl : xs.length ≤ 300000) (hn : ys.length = n + 2) (hxy : y ≤ x) :
    Calls Tryz.prog 153 #[.slice A xs.length c, .slice A' ys.length c'] w fun e w' => IsDivs w w' x y e := by
  have hc := compare_ge A c xs A' c' ys w hx.2.1 hy.2.1 hx.2.2.1 hy.2.2.1 hx.2.2.2.1 hy.2.2.2.1 (by omega) (by rw [hx.2.2.2.2, hy.2.2.2.2]; exact hxy)
  have hll : ys.length ≤ xs.length := Lm.len_of_val B32_one hx.2.2.1 hy.2.2.2.1 (by rw [hx.2.2.2.2, hy.2.2.2.2]; exact hxy)
  have hsh := shift_of hy.2.2.1 hy.2.2.2.1 hn hy.2.2.2.2
  obtain ⟨ad, rfl, hadb, hcell⟩ := hy.2.1 (by omega)
  have hcy := hcell (n + 1) (by omega)
  have htl := limb_lt hy.2.2.1 (n + 1)
  obtain ⟨top, htop⟩ : ∃ t, ys.getD (n + 1) 0 = t := ⟨_, rfl⟩
  rw [htop] at hcy htl hsh
  obtain ⟨s, hs⟩ : ∃ s, 32 - bl top = s := ⟨_, rfl⟩
  rw [hs] at hsh
  have hz := lz32_any top
  rw [hs] at hz
  obtain ⟨N, hN⟩ : ∃ N, ys.length = N := ⟨_, rfl⟩
  obtain ⟨xl, hxl⟩ : ∃ N, xs.length = N := ⟨_, rfl⟩
  have hxlt := Lm.val_lt hx.2.2.1
  rw [hx.2.2.2.2, hxl] at hxlt
  obtain ⟨i0, hi0, hz0, hz1, hz2⟩ := info_parts Tryz.info132
  have HI := Lib.hid (And.intro hi0 (And.intro hz0 (And.intro hz1 hz2)))
  have HM := Lib.hid (show (i0.bytes * (xl + 1) ≤ 281474976710656 ∧ xl + 1 ≤ maxLen) ∧ (i0.bytes * (xl - N + 1) ≤ 281474976710656 ∧ xl - N + 1 ≤ maxLen) from ⟨⟨by rw [hz2]; omega, by unfold maxLen; omega⟩, by rw [hz2]; omega, by unfold maxLen; omega⟩)
  have HS := Lib.hid (show (Tryz.prog.info? 132).map (·.size) = some 1 from by kernel_rfl)
  clear hi0 hz0 hz1 hz2
  have H := Lib.hid (And.intro hc (And.intro hx (And.intro hy (And.intro hsh (And.intro hxlt (And.intro hn (And.intro hN (And.intro hxl hxy))))))))
  have HZ := Lib.hid hz
  rw [hN, hxl]
  rw [hN] at hn hll
  rw [hxl] at hll hl
  have i1 : ((N : Int) - 1).toNat = N - 1 := by omega
  have i0' : (0 : Int) ≤ (N : Int) - 1 := by omega
  rw [show n + 1 = N - 1 by omega] at hcy
  have i2 : (1 : Int) ≤ (N : Int) := by omega
  have i3 : ((N : Int) == 1) = false := by rw [beq_eq_false_iff_ne]; omega
  have i4 : (N : Int) ≤ (xl : Int) := by omega
  have i5 : (xl : Int) ≤ 300000 := by omega
  have hs31 : s ≤ 31 := hsh.2.2
  have hmI : (xl : Int) - (N : Int) + 1 = ((xl - N + 1 : Nat) : Int) := by omega
  have HmI := Lib.hid hmI
  clear hc hx hy hsh hxlt hn hN hxl hxy hz hs htop hcell hll hmI
  go_enter Tryz.func153, Tryz.ntmps153
  go_wp2_with fail
  refine (show Calls Tryz.prog 114 #[.slice A xl c, .slice (some ad) N c'] w _ from by have h := H.out.1; rw [H.out.2.2.2.2.2.2.1, H.out.2.2.2.2.2.2.2.1] at h; exact h).mono ?_
  rintro e w' ⟨⟨dn, rfl⟩, k, hk, rfl⟩
  go_wp2_with fail
  refine (HZ.out _ htl).mono ?_
  rintro e w' ⟨rfl, rfl⟩
  have hx1 : Limbs (w.drewN dn) A c xs x := H.out.2.1
  have hy1 : Limbs (w.drewN dn) (some ad) c' ys y := H.out.2.2.1
  have hlf := left_any (some ad) c' y ys s (w.drewN dn) hy1 (by rw [H.out.2.2.2.2.2.2.1]; omega) (by omega)
  rw [H.out.2.2.2.2.2.2.1] at hlf
  have HLF := Lib.hid hlf
  clear hlf hy1
  go_wp2_with fail
  refine HLF.out.mono ?_
  rintro e w1 ⟨Ad, cd, ds, rfl, hds, hb1⟩
  have hx2 := hx1.step hb1 rfl
  clear hx1
  go_wp2_with (at_make; go_loud (refine wpList_make_full _ rfl _ _ 22 rfl w1.heap.size 132 i0 (.int .u32 0) 1 Tryz.underlying22 HI.out.1 HI.out.2.1 HI.out.2.2.1 _ _ _ _ (xl + 1) rfl rfl (by omega) (by omega) HM.out.1.1 HM.out.1.2 (Nat.le_refl _) ?_); intro w2 hown1 hg1; rw [made_zero] at hown1; have HB := Lib.hid (own_block hown1); have hb2 : Below w1.heap.size w1 w2 := (Below.refl _ _).grown hg1 (Nat.le_refl _) (fun k hk => by cases hk); clear hown1 hg1)
  have hx3 := hx2.below hb2
  have hlf := left_any A c x xs s w2 hx3 (by rw [H.out.2.2.2.2.2.2.2.1]; exact Nat.le_trans hl (by decide)) (by omega)
  rw [H.out.2.2.2.2.2.2.2.1] at hlf
  have HLX := Lib.hid hlf
  clear hlf hx2 hx3
  refine HLX.out.mono ?_
  rintro e w3 ⟨At, ct, ts, rfl, hts, hb3⟩
  have hgl : w1.heap.size < w2.heap.size := (Array.getElem?_eq_some_iff.1 HB.out).1
  have HB2 := Lib.hid ((hb3.block w1.heap.size hgl).trans HB.out)
  have hmv := moved_of (x := x) (y := y) (xl := xl) hs31 H.out.2.2.2.1.1 H.out.2.2.2.1.2.1 H.out.2.2.2.2.1 (by have a := H.out.2.2.2.2.2.1; have b := H.out.2.2.2.2.2.2.1; omega) hds.2.2.1 hds.2.2.2.1 hds.2.2.2.2 hts.2.2.1 hts.2.2.2.1 hts.2.2.2.2
  have hmin : Nat.min ts.length (xl + 1) = ts.length := Nat.min_eq_left hmv.1
  have HN := Lib.hid (show (cellsOf .u32 ts).length = Nat.min ts.length (xl + 1) ∧ 0 + (cellsOf .u32 ts).length ≤ (cellsOf .u32 (List.replicate (xl + 1) 0)).length from ⟨by rw [cellsOf_length, hmin], by simp [cellsOf_length]; exact hmv.1⟩)
  have hsrc := hts.2.1
  have HMV := Lib.hid hmv
  have HDS := Lib.hid (And.intro hds (And.intro hb1 (And.intro hb2 hb3)))
  clear hmv hmin HB hts hds hb1
  go_wp2_with (first | (with_reducible refine wpList_copy_splice (o := ⟨some 51, _, _, _, _, _⟩) rfl (.tmp 47) (.tmp 50) 22 22 rfl 132 Tryz.underlying22 HS.out _ At _ _ ts.length ct rfl rfl w1.heap.size 0 _ 132 HB2.out (cellsOf .u32 ts) HN.out.1 (copy_src hsrc) HN.out.2 (cellsOf_one _ _) w1.heap.size w3 (Below.refl _ _) (by omega) ?_; intro w4 HB3 hb4) | (at_make; go_loud (rw [HmI.out]; refine wpList_make_full _ rfl _ _ 22 rfl w4.heap.size 132 i0 (.int .u32 0) 1 Tryz.underlying22 HI.out.1 HI.out.2.1 HI.out.2.2.1 _ _ _ _ (xl - N + 1) rfl rfl (by omega) (by omega) HM.out.2.1 HM.out.2.2 (Nat.le_refl _) ?_); intro w5 hown1 hg1; rw [made_zero] at hown1; have HB4 := Lib.hid (own_block hown1); have hb5 : Below w4.heap.size w4 w5 := (Below.refl _ _).grown hg1 (Nat.le_refl _) (fun k hk => by cases hk); clear hown1 hg1))
  have hseg1 : Seg w5 w1.heap.size 0 .u32 132 _ (ts ++ List.replicate (xl + 1 - ts.length) 0) := (seg_of_block (by rw [← copy_over]; exact HB3.out)).keep (hb5.block w1.heap.size (Array.getElem?_eq_some_iff.1 HB3.out).1)
  have hseg2 : Seg w5 w4.heap.size 0 .u32 132 _ (List.replicate (xl - N + 1) 0) := seg_of_block HB4.out
  have hg12 : w1.heap.size < w4.heap.size := (Array.getElem?_eq_some_iff.1 HB3.out).1
  have hmv := HMV.out.2
  have hnN : n + 2 = N := by have a := H.out.2.2.2.2.2.1; have b := H.out.2.2.2.2.2.2.1; omega
  rw [hnN] at hmv
  have hb15 : Below w1.heap.size w1 w5 := ((HDS.out.2.2.1.trans (HDS.out.2.2.2.mono HDS.out.2.2.1.size)).trans hb4).trans (hb5.mono (Nat.le_of_lt hg12))
  have hdn := HDS.out.1.2.1.below hb15
  have hb01 := HDS.out.2.1
  have hbw : Below w.heap.size w w5 := below_then (w := w) ⟨hb01.os, hb01.tape, hb01.output, hb01.size, hb01.block⟩ hb15
  have HX := Lib.hid (And.intro hmv (And.intro hnN HDS.out.1))
  clear HB2 HB3 HB4 HI HM HS HN hsrc hb5 hb4 HmI hb15 hb01 hb2 hb3
  go_loopw [11] (fun iv wr => ∃ (i : Nat) (qs rs : List Nat) (cq cr : Array Value), iv = .int .i64 ((i : Int) - 1) ∧ i ≤ xl - N + 1 ∧ DivAt (x * 2 ^ s) (y * 2 ^ s) qs rs (xl - N + 1) (xl + 1) i ∧ Seg wr w1.heap.size 0 .u32 132 cr rs ∧ Seg wr w4.heap.size 0 .u32 132 cq qs ∧ Nums wr .u32 Ad ds ∧ Below w.heap.size w wr) (fun iv _ => (intOf iv + 1).toNat)
  case atStart => exact ⟨xl - N + 1, _, _, _, _, by go_num, Nat.le_refl _, HX.out.1.start, hseg1, hseg2, hdn, hbw⟩
  case round =>
   clear hseg1 hseg2 hdn hbw hmv
   obtain ⟨i, qs, rs, cq, cr, rfl, hi, hat, hs1, hs2, hdn, hbw⟩ := hrel
   by_cases h0 : 0 < i
   · obtain ⟨j, rfl⟩ : ∃ j, i = j + 1 := ⟨i - 1, by omega⟩
     rw [show (((j + 1 : Nat) : Int) - 1) = (j : Int) from by omega]
     have hjm : (j : Int) ≤ (xl : Int) - (N : Int) := by omega
     have hdsl : ds.length ≤ xl := by rw [HX.out.1.dl]; have := HX.out.2.1; omega
     have hoff : 0 < ds.length → Off Ad w1.heap.size := fun hn => off_below HX.out.2.2.2.1 hn (Nat.le_refl _)
     have hoff2 : 0 < ds.length → Off Ad w4.heap.size := fun hn => off_below HX.out.2.2.2.1 hn (Nat.le_of_lt hg12)
     have hnN := HX.out.2.1
     have hlr := hat.lr
     have hjL : j + 1 + (n + 2) ≤ xl + 1 := by omega
     have hpt := hs1.part j (n + 3) (by omega)
     have hpv := part_lt hat HX.out.1.dB hjL
     have hst := fun zs => div_step (zs := zs) hat HX.out.1.dB HX.out.1.d0 hjL (by omega) rfl
     have hpo : Lm.Ok B32 (partOf rs j (n + 2 + 1)) := (hat.or_.drop j).take _
     have hpl := part_len (rs := rs) (j := j) (k := n + 3) (by omega)
     obtain ⟨ps, hps⟩ : ∃ ps, partOf rs j (n + 3) = ps := ⟨_, rfl⟩
     rw [show n + 2 + 1 = n + 3 from rfl, hps] at hpv hpo
     rw [hps] at hpt hpl
     have htk := takeDigit_any w1.heap.size j (xl + 1 - j) cr ps Ad cd ds n wr hpt hdn hoff hpo HX.out.2.2.2.2.1 HX.out.1.dl hpl (by omega) HX.out.1.dt (by rw [HX.out.1.dv]; exact hpv)
     rw [show ps.length = j + N + 1 - j by omega, HX.out.1.dv] at htk
     obtain ⟨V, hV⟩ : ∃ V, Lm.val B32 ps = V := ⟨_, rfl⟩
     rw [hV] at htk
     have hqB : V / (y * 2 ^ s) < B32 := by rw [Nat.div_lt_iff_lt_mul HX.out.1.d0, ← hV]; exact hpv
     obtain ⟨q, hq⟩ : ∃ q, V / (y * 2 ^ s) = q := ⟨_, rfl⟩
     rw [hq] at htk hqB
     have hcq := hs2.at_ j (by rw [hat.lq]; omega)
     obtain ⟨dq, hdq⟩ : ∃ d, qs.getD j 0 = d := ⟨_, rfl⟩
     rw [hdq, Nat.zero_add] at hcq
     have HT := Lib.hid (And.intro htk (And.intro hoff (And.intro hoff2 (And.intro hst (And.intro hps (And.intro hV (And.intro hq (And.intro hpl (And.intro hqB hcq)))))))))
     have HA := Lib.hid (And.intro hat (And.intro hs1 (And.intro hs2 (And.intro hdn hbw))))
     clear htk hoff hoff2 hst hps hV hq hpl hqB hcq hdq hpt hpv hpo hlr hjL hat hs1 hs2 hdn hbw hnN
     go_wp2_with fail
     refine HT.out.1.mono ?_
     rintro e w' ⟨rfl, zs, hzl, hzo, hzv, hzs, hgr⟩
     have hs2' := HA.out.2.2.1.grown hgr (fun e => by injection e; omega)
     have hcz : w'.cell? ⟨w4.heap.size, j, none⟩ = some (.int .u32 (dq : Int)) := by
       rw [cell_of_row w' w4.heap.size j cq _ (0, 0) hs2'.blk]
       exact HT.out.2.2.2.2.2.2.2.2.2
     have hfz := hs2'.frozen j
     have hql : (q : Int) ≤ 4294967295 := by have := HT.out.2.2.2.2.2.2.2.2.1; unfold B32 at this; omega
     have HZ2 := Lib.hid (And.intro hzl (And.intro hzo (And.intro hzv (And.intro hzs (And.intro hgr hs2')))))
     clear hzl hzo hzv hzs hgr hs2'
     have hjm2 : j < xl - N + 1 := by omega
     go_wp2
     go_roundw
     case rel =>
      have hzl : zs.length = n + 3 := by have := HZ2.out.1; have := HX.out.2.1; omega
      have hlr := HA.out.1.lr
      have hnN := HX.out.2.1
      obtain ⟨cr', hs1'⟩ := SegTo.join HA.out.2.1 (zs := zs) (by omega) HZ2.out.2.2.2.1
      have hzv : Lm.val B32 zs = V % (y * 2 ^ s) := HZ2.out.2.2.1
      have hfin := HT.out.2.2.2.1 zs hzl HZ2.out.2.1 (by rw [show n + 2 + 1 = n + 3 from rfl, HT.out.2.2.2.2.1, HT.out.2.2.2.2.2.1]; exact hzv) (by rw [show n + 2 + 1 = n + 3 from rfl, HT.out.2.2.2.2.1, HT.out.2.2.2.2.2.1, HT.out.2.2.2.2.2.2.1]; exact HT.out.2.2.2.2.2.2.2.2.1)
      rw [show n + 2 + 1 = n + 3 from rfl, HT.out.2.2.2.2.1, HT.out.2.2.2.2.2.1, HT.out.2.2.2.2.2.2.1] at hfin
      have hset := HZ2.out.2.2.2.2.2.set_ j q
      rw [Nat.zero_add] at hset
      have hgr2 := grown_store w' w4.heap.size j (.int .u32 (q : Int))
      have hgw := HZ2.out.2.2.2.2.1
      refine ⟨j, qs.set j q, putPart rs j zs, _, cr', rfl, by omega, hfin, hs1'.grown hgr2 (fun e => by injection e; omega), hset, (HA.out.2.2.2.1.grown hgw HT.out.2.1).grown hgr2 HT.out.2.2.1, ?_⟩
      have hbw := HA.out.2.2.2.2
      have hww1 : w.heap.size ≤ w1.heap.size := HDS.out.2.1.size
      have hw1r := hs1'.lt
      have h1r := HA.out.2.1.lt
      exact (hbw.trans (grown_below hgw hww1 hbw.size)).trans (grown_below hgr2 (by omega) (Nat.le_trans hbw.size hgw.size))
     case measure => simp [intOf]
   · obtain rfl : i = 0 := by omega
     rw [show ((0 : Nat) : Int) - 1 = -1 by omega]
     have hend := div_end hat
     have htq := trim_any (some ⟨w4.heap.size, 0, none⟩) (xl - N + 1) qs wr hs2.nums (by rw [hat.lq]; omega) (by rw [hat.lq]; exact Nat.le_refl _)
     have htr := trim_any (some ⟨w1.heap.size, 0, none⟩) (xl + 1) rs wr hs1.nums (by rw [hat.lr]; omega) (by rw [hat.lr]; exact Nat.le_refl _)
     rw [hat.lq] at htq
     rw [hat.lr] at htr
     have HT := Lib.hid (And.intro htq (And.intro htr (And.intro hend (And.intro hat (And.intro hs1.nums hs2.nums)))))
     have HA := Lib.hid hbw
     clear htq htr hend hat hs1 hs2 hbw hdn
     go_wp2_with fail
     refine HT.out.1.mono ?_
     rintro e w' ⟨rfl, kq, rfl, hkq, hzq, hpq⟩
     have HKQ := Lib.hid (And.intro hkq (And.intro hzq hpq))
     clear hkq hzq hpq
     go_wp2_with fail
     refine HT.out.2.1.mono ?_
     rintro e w' ⟨rfl, kr, rfl, hkr, hzr, hpr⟩
     have hlimr := limbs_take HT.out.2.2.2.2.1 HT.out.2.2.2.1.or_ (c := xl + 1) (by rw [HT.out.2.2.2.1.lr]; exact Nat.le_refl _) hkr hzr hpr
     have hlimq := limbs_take HT.out.2.2.2.2.2 HT.out.2.2.2.1.oq (c := xl - N + 1) (by rw [HT.out.2.2.2.1.lq]; exact Nat.le_refl _) HKQ.out.1 HKQ.out.2.1 HKQ.out.2.2
     have hlenr : (rs.take kr).length = kr := by rw [List.length_take]; omega
     have hlenq : (qs.take kq).length = kq := by rw [List.length_take]; have := HKQ.out.1; omega
     have hkrl : kr ≤ xl + 1 := by rw [← HT.out.2.2.2.1.lr]; exact hkr
     have hrt := right_any _ _ _ (rs.take kr) s wr hlimr (by rw [hlenr]; omega) (by omega)
     rw [hlenr] at hrt
     have HRT := Lib.hid (And.intro hrt (And.intro hlimq hlenq))
     clear hrt hlimq hlenq hlimr hlenr hkr hzr hpr hkrl
     go_wp2_with fail
     refine HRT.out.1.mono ?_
     rintro e w6 ⟨A6, c6, zs6, rfl, hl6, hb6⟩
     go_wp2
     go_ret2
     have hp := Nat.two_pow_pos s
     rw [HT.out.2.2.1.2, Nat.mul_mod_mul_right, Nat.mul_div_cancel _ hp] at hl6
     have hq6 := HRT.out.2.1.below hb6
     rw [HT.out.2.2.1.1, Nat.mul_div_mul_right _ _ hp] at hq6
     exact ⟨_, _, qs.take kq, _, _, zs6, by rw [HRT.out.2.2]; rfl, hq6, hl6, below_then HA.out hb6⟩
theorem divide_less (A : Option Addr) (c : Nat) (xs : List Nat) (A' : Option Addr) (c' : Nat) (ys : List Nat) (a d : Nat) (w : World) (hx : Limbs w A c xs a) (hy : Limbs w A' c' ys d) (hl : xs.length ≤ 900000) (h : a < d) :
    Calls Tryz.prog 153 #[.slice A xs.length c, .slice A' ys.length c'] w fun e w' => IsDivs w w' a d e := by
  have hc := compare_lt A c xs A' c' ys w hx.2.1 hy.2.1 hx.2.2.1 hy.2.2.1 hx.2.2.2.1 hy.2.2.2.1 (by omega) (by rw [hx.2.2.2.2, hy.2.2.2.2]; exact h)
  have HC := Lib.hid hc
  have hx' := hx.2.1
  clear hc
  go_enter Tryz.func153, Tryz.ntmps153
  go_wp2_with fail
  refine HC.out.mono ?_
  rintro e w' ⟨⟨n, rfl⟩, rfl⟩
  go_wp2_with fail
  refine (clone_any A c xs (w.drewN n) (by exact hx') (by omega)).mono ?_
  intro e w1 hcl
  obtain ⟨A1, c1, rfl, hl1, hb1⟩ := limbs_cloned (w := w.drewN n) (by exact ⟨hx.1, hx', hx.2.2⟩) hcl
  go_wp2
  go_ret2
  exact ⟨none, 0, [], A1, c1, xs, rfl, ⟨by simp, Nums.nil _ _ _, .nil _, Lm.Top.nil, by rw [Nat.div_eq_of_lt h]; rfl⟩, by rw [Nat.mod_eq_of_lt h]; exact hl1, ⟨hb1.os, hb1.tape, hb1.output, hb1.size, hb1.block⟩⟩
theorem divide_all (A : Option Addr) (c : Nat) (xs : List Nat) (A' : Option Addr) (c' : Nat) (ys : List Nat) (x y : Nat) (w : World) (hx : Limbs w A c xs x) (hy : Limbs w A' c' ys y) (hl : xs.length ≤ 300000) (h0 : 0 < y) :
    Calls Tryz.prog 153 #[.slice A xs.length c, .slice A' ys.length c'] w fun e w' => IsDivs w w' x y e := by
  rcases Nat.lt_or_ge x y with h | h
  · exact divide_less A c xs A' c' ys x y w hx hy (by omega) h
  · match ys, hy with
    | [], hy => have := hy.2.2.2.2; rw [Lm.val_nil] at this; omega
    | [d], hy =>
      have hd : d = y := by have := hy.2.2.2.2; simpa [Lm.val] using this
      subst hd
      exact divide_one A c xs A' c' d x w hx hy (by omega) h0
    | d :: e :: zs, hy => exact divide_many A c xs A' c' (d :: e :: zs) x y zs.length w hx hy hl rfl h
theorem divide_stt (A1 : Option Addr) (c1 : Nat) (zs1 : List Nat) (A2 : Option Addr) (c2 : Nat) (zs2 : List Nat) (x y : Int) (w : World) (hs1 : SignOf true x) (hs2 : SignOf true y)
    (h1 : Limbs w A1 c1 zs1 x.natAbs) (h2 : Limbs w A2 c2 zs2 y.natAbs) (hl1 : zs1.length ≤ 300000) (hl2 : zs2.length ≤ 300000) (hy0 : y ≠ 0) :
    Calls Tryz.prog 120 #[.agg #[.bool true, .slice A1 zs1.length c1], .agg #[.bool true, .slice A2 zs2.length c2]] w fun e w' => IsQuoRem w w' x y e := by
  have hd0 : 0 < y.natAbs := by omega
  have hbb := (begun2_below w (.bool true) (.slice A1 zs1.length c1) (.bool true) (.slice A2 zs2.length c2) 31).alloc (begun2_below w (.bool true) (.slice A1 zs1.length c1) (.bool true) (.slice A2 zs2.length c2) 31).size (.cells #[.bool false, .slice none 0 0] 31)
  have hsz0 := begun2_size w (.bool true) (.slice A1 zs1.length c1) (.bool true) (.slice A2 zs2.length c2) 31
  have hx0 := (begun2_x w (.bool true) (.slice A1 zs1.length c1) (.bool true) (.slice A2 zs2.length c2) 31).alloc (by omega) (.cells #[.bool false, .slice none 0 0] 31)
  have hy0 := (begun2_y w (.bool true) (.slice A1 zs1.length c1) (.bool true) (.slice A2 zs2.length c2) 31).alloc (by omega) (.cells #[.bool false, .slice none 0 0] 31)
  have hr0 := (begun2_r w (.bool true) (.slice A1 zs1.length c1) (.bool true) (.slice A2 zs2.length c2) 31).step ((Below.refl _ _).alloc (Nat.le_refl _) (.cells #[.bool false, .slice none 0 0] 31)) rfl (by omega)
  have hq0 := Res.new (begun2 w (.bool true) (.slice A1 zs1.length c1) (.bool true) (.slice A2 zs2.length c2) 31) 31
  rw [hsz0] at hq0
  have hsz : (begun4 w (.bool true) (.slice A1 zs1.length c1) (.bool true) (.slice A2 zs2.length c2) 31).heap.size = w.heap.size + 4 := by unfold begun4; rw [size_alloc, hsz0]
  have hi2 : IntAt (begun4 w (.bool true) (.slice A1 zs1.length c1) (.bool true) (.slice A2 zs2.length c2) 31) (.agg #[.bool true, .slice A2 zs2.length c2]) y := ⟨true, A2, c2, zs2, rfl, hs2, h2.below hbb⟩
  have hl2' := h2.below hbb
  have hl1' := h1.below hbb
  have hyb : y.natAbs < B32 ^ zs2.length := by rw [← h2.2.2.2.2]; exact Lm.val_lt h2.2.2.1
  have hsg := Sign_any _ y zs2.length _ hi2 (by omega) hyb
  have hyn : (y.sign == 0) = false := by rw [beq_eq_false_iff_ne]; intro h; have := Int.sign_eq_zero_iff_zero.1 h; omega
  have H := Lib.hid (And.intro hbb (And.intro hx0 (And.intro hy0 (And.intro hr0 (And.intro hq0 (And.intro hsz (And.intro hsg (And.intro hl1' (And.intro hl2' hd0)))))))))
  have tok1 : True := trivial
  clear hbb hsz0 hx0 hy0 hr0 hq0 hsz hi2 hl2' hl1' hyb hsg hd0
  go_enter Tryz.func120, Tryz.ntmps120
  go_wp2_with fail
  refine H.out.2.2.2.2.2.2.1.mono ?_
  rintro e w1 ⟨rfl, hb1⟩
  have j1 : w.heap.size + 4 ≤ w1.heap.size := Nat.le_trans (Nat.le_of_eq H.out.2.2.2.2.2.1.symm) hb1.size
  have k1x := H.out.2.1.step hb1 rfl (Nat.lt_of_lt_of_eq (m := w.heap.size + 4) (by omega) H.out.2.2.2.2.2.1.symm)
  have k1y := H.out.2.2.1.step hb1 rfl (Nat.lt_of_lt_of_eq (m := w.heap.size + 4) (by omega) H.out.2.2.2.2.2.1.symm)
  have k1r := H.out.2.2.2.1.step hb1 rfl (Nat.lt_of_lt_of_eq (m := w.heap.size + 4) (by omega) H.out.2.2.2.2.2.1.symm)
  have k1q := H.out.2.2.2.2.1.step hb1 rfl (Nat.lt_of_lt_of_eq (m := w.heap.size + 4) (by omega) H.out.2.2.2.2.2.1.symm)
  obtain ⟨px0, px1⟩ := id k1x
  obtain ⟨py0, py1⟩ := id k1y
  have hdv := divide_all A1 c1 zs1 A2 c2 zs2 x.natAbs y.natAbs w1 (H.out.2.2.2.2.2.2.2.1.step hb1 rfl) (H.out.2.2.2.2.2.2.2.2.1.step hb1 rfl) hl1 H.out.2.2.2.2.2.2.2.2.2
  have HD := Lib.hid hdv
  clear hdv
  go_wp2_with fail
  refine HD.out.mono ?_
  rintro e w2 ⟨Aq, cq, zq, Ar, cr, zr, rfl, hq, hr, hb2⟩
  have j2 : w.heap.size + 4 ≤ w2.heap.size := Nat.le_trans j1 hb2.size
  have k2x := k1x.step hb2 rfl (by omega)
  have k2y := k1y.step hb2 rfl (by omega)
  have k2r := k1r.step hb2 rfl (by omega)
  have k2q := k1q.step hb2 rfl (by omega)
  have hlq : zq.length ≤ 1000000 := by have := small_len (m := 300000) hq zs1 h1.2.2.1 (by rw [h1.2.2.2.2]; exact Nat.div_le_self _ _) hl1; omega
  have hlr : zr.length ≤ 1000000 := by have := small_len (m := 300000) hr zs1 h1.2.2.1 (by rw [h1.2.2.2.2]; exact Nat.mod_le _ _) hl1; omega
  clear px0 px1 py0 py1
  obtain ⟨px0, px1⟩ := id k2x
  obtain ⟨py0, py1⟩ := id k2y
  go_wp2_with fail
  go_region_held3 (fun w' => w'.cell? ⟨w.heap.size, 0, none⟩ = some (.bool true) ∧ w'.cell? ⟨w.heap.size + 1, 0, none⟩ = some (.bool true))
    (((try dsimp only); (repeat' apply And.intro) <;> (first | (with_reducible assumption) | go_keep)))
    ((first | (go_at_call 112; have _t := tok1; refine (signed_to false Aq cq zq (x.tdiv y) _ (by exact hq.2.1) hq.2.2.1 hlq hq.1 (by rw [hq.2.2.2.2]; exact div_parts hs1 hs2 rfl)).mono ?_; rintro e w3 ⟨v3, rfl, ⟨b3, A3, c3, zs3, rfl, hsg3, hl3⟩, hb3⟩; clear tok1; have j3 : w.heap.size + 4 ≤ w3.heap.size := Nat.le_trans j2 hb3.size; have k3x := k2x.step hb3 rfl (by omega); have k3y := k2y.step hb3 rfl (by omega); have k3r := k2r.step hb3 rfl (by omega); have k3q := k2q.step hb3 rfl (by omega); have hr3 := hr.step hb3 rfl; obtain ⟨qx0, qx1⟩ := id k3x; obtain ⟨qy0, qy1⟩ := id k3y) | (go_at_call 112; refine (signed_to true Ar cr zr (x.tmod y) _ (by exact hr3.2.1) hr3.2.2.1 hlr hr3.1 (by rw [hr3.2.2.2.2]; exact mod_parts hs1)).mono ?_; rintro e w4 ⟨v4, rfl, ⟨b4, A4, c4, zs4, rfl, hsg4, hl4⟩, hb4⟩; have k4x := k3x.step hb4 rfl (by omega); have k4y := k3y.step hb4 rfl (by omega); have k4r := k3r.step hb4 rfl (by omega); have k4q := k3q.step hb4 rfl (by omega); have hl3' := hl3.step hb4 rfl; obtain ⟨sx0, sx1⟩ := id k4x; obtain ⟨sy0, sy1⟩ := id k4y; obtain ⟨⟨hr0, hr1⟩, hf0, hf1⟩ := id k4r; obtain ⟨⟨hq0, hq1⟩, hg0, hg1⟩ := id k4q; have m1 := k4x.far (r := w.heap.size + 2) (by omega) (.bool b3) (.slice A3 zs3.length c3); have m2 := k4y.far (r := w.heap.size + 2) (by omega) (.bool b3) (.slice A3 zs3.length c3); have m3 := m1.far (r := w.heap.size + 3) (by omega) (.bool b4) (.slice A4 zs4.length c4); have m4 := m2.far (r := w.heap.size + 3) (by omega) (.bool b4) (.slice A4 zs4.length c4); obtain ⟨m1a, m1b⟩ := id m1; obtain ⟨m2a, m2b⟩ := id m2; obtain ⟨m3a, m3b⟩ := id m3; obtain ⟨m4a, m4b⟩ := id m4)))
  go_wp2
  have e1 := (k4r.1.stored (.bool b3) (.slice A3 zs3.length c3)).far (r := w.heap.size + 3) (by omega) (.bool b4) (.slice A4 zs4.length c4)
  have e0 := k4q.1.far (r := w.heap.size + 2) (by omega) (.bool b3) (.slice A3 zs3.length c3)
  have e2 := e0.stored (.bool b4) (.slice A4 zs4.length c4)
  obtain ⟨e1a, e1b⟩ := id e1
  obtain ⟨e2a, e2b⟩ := id e2
  have hn3 := (hl3'.2.1.res k4r.1 (.bool b3) (.slice A3 zs3.length c3)).res e0 (.bool b4) (.slice A4 zs4.length c4)
  have hn4 := (hl4.2.1.res k4r.1 (.bool b3) (.slice A3 zs3.length c3)).res e0 (.bool b4) (.slice A4 zs4.length c4)
  have hbe := below_then (below_then (begun_then (begun_then H.out.1 hb1 rfl rfl rfl rfl) hb2 rfl rfl rfl rfl) ⟨hb3.os, hb3.tape, hb3.output, hb3.size, hb3.block⟩) hb4
  refine bodyPost_ret (v := .tuple #[.agg #[.bool b3, .slice A3 zs3.length c3], .agg #[.bool b4, .slice A4 zs4.length c4], .int .i64 0]) (by simp [results, Tryz.results120, go_sem, e1a, e1b, e2a, e2b]) rfl ?_
  exact ⟨_, _, rfl, ⟨b3, A3, c3, zs3, rfl, hsg3, hl3'.1, hn3, hl3'.2.2⟩, ⟨b4, A4, c4, zs4, rfl, hsg4, hl4.1, hn4, hl4.2.2⟩,
    (((hbe.setCell (p := ⟨w.heap.size + 2, 0, none⟩) (by simp) _).setCell (p := ⟨w.heap.size + 2, 1, none⟩) (by simp) _).setCell (p := ⟨w.heap.size + 3, 0, none⟩) (by simp) _).setCell (p := ⟨w.heap.size + 3, 1, none⟩) (by simp) _⟩
theorem divide_stf (A1 : Option Addr) (c1 : Nat) (zs1 : List Nat) (A2 : Option Addr) (c2 : Nat) (zs2 : List Nat) (x y : Int) (w : World) (hs1 : SignOf true x) (hs2 : SignOf false y)
    (h1 : Limbs w A1 c1 zs1 x.natAbs) (h2 : Limbs w A2 c2 zs2 y.natAbs) (hl1 : zs1.length ≤ 300000) (hl2 : zs2.length ≤ 300000) (hy0 : y ≠ 0) :
    Calls Tryz.prog 120 #[.agg #[.bool true, .slice A1 zs1.length c1], .agg #[.bool false, .slice A2 zs2.length c2]] w fun e w' => IsQuoRem w w' x y e := by
  have hd0 : 0 < y.natAbs := by omega
  have hbb := (begun2_below w (.bool true) (.slice A1 zs1.length c1) (.bool false) (.slice A2 zs2.length c2) 31).alloc (begun2_below w (.bool true) (.slice A1 zs1.length c1) (.bool false) (.slice A2 zs2.length c2) 31).size (.cells #[.bool false, .slice none 0 0] 31)
  have hsz0 := begun2_size w (.bool true) (.slice A1 zs1.length c1) (.bool false) (.slice A2 zs2.length c2) 31
  have hx0 := (begun2_x w (.bool true) (.slice A1 zs1.length c1) (.bool false) (.slice A2 zs2.length c2) 31).alloc (by omega) (.cells #[.bool false, .slice none 0 0] 31)
  have hy0 := (begun2_y w (.bool true) (.slice A1 zs1.length c1) (.bool false) (.slice A2 zs2.length c2) 31).alloc (by omega) (.cells #[.bool false, .slice none 0 0] 31)
  have hr0 := (begun2_r w (.bool true) (.slice A1 zs1.length c1) (.bool false) (.slice A2 zs2.length c2) 31).step ((Below.refl _ _).alloc (Nat.le_refl _) (.cells #[.bool false, .slice none 0 0] 31)) rfl (by omega)
  have hq0 := Res.new (begun2 w (.bool true) (.slice A1 zs1.length c1) (.bool false) (.slice A2 zs2.length c2) 31) 31
  rw [hsz0] at hq0
  have hsz : (begun4 w (.bool true) (.slice A1 zs1.length c1) (.bool false) (.slice A2 zs2.length c2) 31).heap.size = w.heap.size + 4 := by unfold begun4; rw [size_alloc, hsz0]
  have hi2 : IntAt (begun4 w (.bool true) (.slice A1 zs1.length c1) (.bool false) (.slice A2 zs2.length c2) 31) (.agg #[.bool false, .slice A2 zs2.length c2]) y := ⟨false, A2, c2, zs2, rfl, hs2, h2.below hbb⟩
  have hl2' := h2.below hbb
  have hl1' := h1.below hbb
  have hyb : y.natAbs < B32 ^ zs2.length := by rw [← h2.2.2.2.2]; exact Lm.val_lt h2.2.2.1
  have hsg := Sign_any _ y zs2.length _ hi2 (by omega) hyb
  have hyn : (y.sign == 0) = false := by rw [beq_eq_false_iff_ne]; intro h; have := Int.sign_eq_zero_iff_zero.1 h; omega
  have H := Lib.hid (And.intro hbb (And.intro hx0 (And.intro hy0 (And.intro hr0 (And.intro hq0 (And.intro hsz (And.intro hsg (And.intro hl1' (And.intro hl2' hd0)))))))))
  have tok1 : True := trivial
  clear hbb hsz0 hx0 hy0 hr0 hq0 hsz hi2 hl2' hl1' hyb hsg hd0
  go_enter Tryz.func120, Tryz.ntmps120
  go_wp2_with fail
  refine H.out.2.2.2.2.2.2.1.mono ?_
  rintro e w1 ⟨rfl, hb1⟩
  have j1 : w.heap.size + 4 ≤ w1.heap.size := Nat.le_trans (Nat.le_of_eq H.out.2.2.2.2.2.1.symm) hb1.size
  have k1x := H.out.2.1.step hb1 rfl (Nat.lt_of_lt_of_eq (m := w.heap.size + 4) (by omega) H.out.2.2.2.2.2.1.symm)
  have k1y := H.out.2.2.1.step hb1 rfl (Nat.lt_of_lt_of_eq (m := w.heap.size + 4) (by omega) H.out.2.2.2.2.2.1.symm)
  have k1r := H.out.2.2.2.1.step hb1 rfl (Nat.lt_of_lt_of_eq (m := w.heap.size + 4) (by omega) H.out.2.2.2.2.2.1.symm)
  have k1q := H.out.2.2.2.2.1.step hb1 rfl (Nat.lt_of_lt_of_eq (m := w.heap.size + 4) (by omega) H.out.2.2.2.2.2.1.symm)
  obtain ⟨px0, px1⟩ := id k1x
  obtain ⟨py0, py1⟩ := id k1y
  have hdv := divide_all A1 c1 zs1 A2 c2 zs2 x.natAbs y.natAbs w1 (H.out.2.2.2.2.2.2.2.1.step hb1 rfl) (H.out.2.2.2.2.2.2.2.2.1.step hb1 rfl) hl1 H.out.2.2.2.2.2.2.2.2.2
  have HD := Lib.hid hdv
  clear hdv
  go_wp2_with fail
  refine HD.out.mono ?_
  rintro e w2 ⟨Aq, cq, zq, Ar, cr, zr, rfl, hq, hr, hb2⟩
  have j2 : w.heap.size + 4 ≤ w2.heap.size := Nat.le_trans j1 hb2.size
  have k2x := k1x.step hb2 rfl (by omega)
  have k2y := k1y.step hb2 rfl (by omega)
  have k2r := k1r.step hb2 rfl (by omega)
  have k2q := k1q.step hb2 rfl (by omega)
  have hlq : zq.length ≤ 1000000 := by have := small_len (m := 300000) hq zs1 h1.2.2.1 (by rw [h1.2.2.2.2]; exact Nat.div_le_self _ _) hl1; omega
  have hlr : zr.length ≤ 1000000 := by have := small_len (m := 300000) hr zs1 h1.2.2.1 (by rw [h1.2.2.2.2]; exact Nat.mod_le _ _) hl1; omega
  clear px0 px1 py0 py1
  obtain ⟨px0, px1⟩ := id k2x
  obtain ⟨py0, py1⟩ := id k2y
  go_wp2_with fail
  go_region_held3 (fun w' => w'.cell? ⟨w.heap.size, 0, none⟩ = some (.bool true) ∧ w'.cell? ⟨w.heap.size + 1, 0, none⟩ = some (.bool false))
    (((try dsimp only); (repeat' apply And.intro) <;> (first | (with_reducible assumption) | go_keep)))
    ((first | (go_at_call 112; have _t := tok1; refine (signed_to true Aq cq zq (x.tdiv y) _ (by exact hq.2.1) hq.2.2.1 hlq hq.1 (by rw [hq.2.2.2.2]; exact div_parts hs1 hs2 rfl)).mono ?_; rintro e w3 ⟨v3, rfl, ⟨b3, A3, c3, zs3, rfl, hsg3, hl3⟩, hb3⟩; clear tok1; have j3 : w.heap.size + 4 ≤ w3.heap.size := Nat.le_trans j2 hb3.size; have k3x := k2x.step hb3 rfl (by omega); have k3y := k2y.step hb3 rfl (by omega); have k3r := k2r.step hb3 rfl (by omega); have k3q := k2q.step hb3 rfl (by omega); have hr3 := hr.step hb3 rfl; obtain ⟨qx0, qx1⟩ := id k3x; obtain ⟨qy0, qy1⟩ := id k3y) | (go_at_call 112; refine (signed_to true Ar cr zr (x.tmod y) _ (by exact hr3.2.1) hr3.2.2.1 hlr hr3.1 (by rw [hr3.2.2.2.2]; exact mod_parts hs1)).mono ?_; rintro e w4 ⟨v4, rfl, ⟨b4, A4, c4, zs4, rfl, hsg4, hl4⟩, hb4⟩; have k4x := k3x.step hb4 rfl (by omega); have k4y := k3y.step hb4 rfl (by omega); have k4r := k3r.step hb4 rfl (by omega); have k4q := k3q.step hb4 rfl (by omega); have hl3' := hl3.step hb4 rfl; obtain ⟨sx0, sx1⟩ := id k4x; obtain ⟨sy0, sy1⟩ := id k4y; obtain ⟨⟨hr0, hr1⟩, hf0, hf1⟩ := id k4r; obtain ⟨⟨hq0, hq1⟩, hg0, hg1⟩ := id k4q; have m1 := k4x.far (r := w.heap.size + 2) (by omega) (.bool b3) (.slice A3 zs3.length c3); have m2 := k4y.far (r := w.heap.size + 2) (by omega) (.bool b3) (.slice A3 zs3.length c3); have m3 := m1.far (r := w.heap.size + 3) (by omega) (.bool b4) (.slice A4 zs4.length c4); have m4 := m2.far (r := w.heap.size + 3) (by omega) (.bool b4) (.slice A4 zs4.length c4); obtain ⟨m1a, m1b⟩ := id m1; obtain ⟨m2a, m2b⟩ := id m2; obtain ⟨m3a, m3b⟩ := id m3; obtain ⟨m4a, m4b⟩ := id m4)))
  go_wp2
  have e1 := (k4r.1.stored (.bool b3) (.slice A3 zs3.length c3)).far (r := w.heap.size + 3) (by omega) (.bool b4) (.slice A4 zs4.length c4)
  have e0 := k4q.1.far (r := w.heap.size + 2) (by omega) (.bool b3) (.slice A3 zs3.length c3)
  have e2 := e0.stored (.bool b4) (.slice A4 zs4.length c4)
  obtain ⟨e1a, e1b⟩ := id e1
  obtain ⟨e2a, e2b⟩ := id e2
  have hn3 := (hl3'.2.1.res k4r.1 (.bool b3) (.slice A3 zs3.length c3)).res e0 (.bool b4) (.slice A4 zs4.length c4)
  have hn4 := (hl4.2.1.res k4r.1 (.bool b3) (.slice A3 zs3.length c3)).res e0 (.bool b4) (.slice A4 zs4.length c4)
  have hbe := below_then (below_then (begun_then (begun_then H.out.1 hb1 rfl rfl rfl rfl) hb2 rfl rfl rfl rfl) ⟨hb3.os, hb3.tape, hb3.output, hb3.size, hb3.block⟩) hb4
  refine bodyPost_ret (v := .tuple #[.agg #[.bool b3, .slice A3 zs3.length c3], .agg #[.bool b4, .slice A4 zs4.length c4], .int .i64 0]) (by simp [results, Tryz.results120, go_sem, e1a, e1b, e2a, e2b]) rfl ?_
  exact ⟨_, _, rfl, ⟨b3, A3, c3, zs3, rfl, hsg3, hl3'.1, hn3, hl3'.2.2⟩, ⟨b4, A4, c4, zs4, rfl, hsg4, hl4.1, hn4, hl4.2.2⟩,
    (((hbe.setCell (p := ⟨w.heap.size + 2, 0, none⟩) (by simp) _).setCell (p := ⟨w.heap.size + 2, 1, none⟩) (by simp) _).setCell (p := ⟨w.heap.size + 3, 0, none⟩) (by simp) _).setCell (p := ⟨w.heap.size + 3, 1, none⟩) (by simp) _⟩
theorem divide_sft (A1 : Option Addr) (c1 : Nat) (zs1 : List Nat) (A2 : Option Addr) (c2 : Nat) (zs2 : List Nat) (x y : Int) (w : World) (hs1 : SignOf false x) (hs2 : SignOf true y)
    (h1 : Limbs w A1 c1 zs1 x.natAbs) (h2 : Limbs w A2 c2 zs2 y.natAbs) (hl1 : zs1.length ≤ 300000) (hl2 : zs2.length ≤ 300000) (hy0 : y ≠ 0) :
    Calls Tryz.prog 120 #[.agg #[.bool false, .slice A1 zs1.length c1], .agg #[.bool true, .slice A2 zs2.length c2]] w fun e w' => IsQuoRem w w' x y e := by
  have hd0 : 0 < y.natAbs := by omega
  have hbb := (begun2_below w (.bool false) (.slice A1 zs1.length c1) (.bool true) (.slice A2 zs2.length c2) 31).alloc (begun2_below w (.bool false) (.slice A1 zs1.length c1) (.bool true) (.slice A2 zs2.length c2) 31).size (.cells #[.bool false, .slice none 0 0] 31)
  have hsz0 := begun2_size w (.bool false) (.slice A1 zs1.length c1) (.bool true) (.slice A2 zs2.length c2) 31
  have hx0 := (begun2_x w (.bool false) (.slice A1 zs1.length c1) (.bool true) (.slice A2 zs2.length c2) 31).alloc (by omega) (.cells #[.bool false, .slice none 0 0] 31)
  have hy0 := (begun2_y w (.bool false) (.slice A1 zs1.length c1) (.bool true) (.slice A2 zs2.length c2) 31).alloc (by omega) (.cells #[.bool false, .slice none 0 0] 31)
  have hr0 := (begun2_r w (.bool false) (.slice A1 zs1.length c1) (.bool true) (.slice A2 zs2.length c2) 31).step ((Below.refl _ _).alloc (Nat.le_refl _) (.cells #[.bool false, .slice none 0 0] 31)) rfl (by omega)
  have hq0 := Res.new (begun2 w (.bool false) (.slice A1 zs1.length c1) (.bool true) (.slice A2 zs2.length c2) 31) 31
  rw [hsz0] at hq0
  have hsz : (begun4 w (.bool false) (.slice A1 zs1.length c1) (.bool true) (.slice A2 zs2.length c2) 31).heap.size = w.heap.size + 4 := by unfold begun4; rw [size_alloc, hsz0]
  have hi2 : IntAt (begun4 w (.bool false) (.slice A1 zs1.length c1) (.bool true) (.slice A2 zs2.length c2) 31) (.agg #[.bool true, .slice A2 zs2.length c2]) y := ⟨true, A2, c2, zs2, rfl, hs2, h2.below hbb⟩
  have hl2' := h2.below hbb
  have hl1' := h1.below hbb
  have hyb : y.natAbs < B32 ^ zs2.length := by rw [← h2.2.2.2.2]; exact Lm.val_lt h2.2.2.1
  have hsg := Sign_any _ y zs2.length _ hi2 (by omega) hyb
  have hyn : (y.sign == 0) = false := by rw [beq_eq_false_iff_ne]; intro h; have := Int.sign_eq_zero_iff_zero.1 h; omega
  have H := Lib.hid (And.intro hbb (And.intro hx0 (And.intro hy0 (And.intro hr0 (And.intro hq0 (And.intro hsz (And.intro hsg (And.intro hl1' (And.intro hl2' hd0)))))))))
  have tok1 : True := trivial
  clear hbb hsz0 hx0 hy0 hr0 hq0 hsz hi2 hl2' hl1' hyb hsg hd0
  go_enter Tryz.func120, Tryz.ntmps120
  go_wp2_with fail
  refine H.out.2.2.2.2.2.2.1.mono ?_
  rintro e w1 ⟨rfl, hb1⟩
  have j1 : w.heap.size + 4 ≤ w1.heap.size := Nat.le_trans (Nat.le_of_eq H.out.2.2.2.2.2.1.symm) hb1.size
  have k1x := H.out.2.1.step hb1 rfl (Nat.lt_of_lt_of_eq (m := w.heap.size + 4) (by omega) H.out.2.2.2.2.2.1.symm)
  have k1y := H.out.2.2.1.step hb1 rfl (Nat.lt_of_lt_of_eq (m := w.heap.size + 4) (by omega) H.out.2.2.2.2.2.1.symm)
  have k1r := H.out.2.2.2.1.step hb1 rfl (Nat.lt_of_lt_of_eq (m := w.heap.size + 4) (by omega) H.out.2.2.2.2.2.1.symm)
  have k1q := H.out.2.2.2.2.1.step hb1 rfl (Nat.lt_of_lt_of_eq (m := w.heap.size + 4) (by omega) H.out.2.2.2.2.2.1.symm)
  obtain ⟨px0, px1⟩ := id k1x
  obtain ⟨py0, py1⟩ := id k1y
  have hdv := divide_all A1 c1 zs1 A2 c2 zs2 x.natAbs y.natAbs w1 (H.out.2.2.2.2.2.2.2.1.step hb1 rfl) (H.out.2.2.2.2.2.2.2.2.1.step hb1 rfl) hl1 H.out.2.2.2.2.2.2.2.2.2
  have HD := Lib.hid hdv
  clear hdv
  go_wp2_with fail
  refine HD.out.mono ?_
  rintro e w2 ⟨Aq, cq, zq, Ar, cr, zr, rfl, hq, hr, hb2⟩
  have j2 : w.heap.size + 4 ≤ w2.heap.size := Nat.le_trans j1 hb2.size
  have k2x := k1x.step hb2 rfl (by omega)
  have k2y := k1y.step hb2 rfl (by omega)
  have k2r := k1r.step hb2 rfl (by omega)
  have k2q := k1q.step hb2 rfl (by omega)
  have hlq : zq.length ≤ 1000000 := by have := small_len (m := 300000) hq zs1 h1.2.2.1 (by rw [h1.2.2.2.2]; exact Nat.div_le_self _ _) hl1; omega
  have hlr : zr.length ≤ 1000000 := by have := small_len (m := 300000) hr zs1 h1.2.2.1 (by rw [h1.2.2.2.2]; exact Nat.mod_le _ _) hl1; omega
  clear px0 px1 py0 py1
  obtain ⟨px0, px1⟩ := id k2x
  obtain ⟨py0, py1⟩ := id k2y
  go_wp2_with fail
  go_region_held3 (fun w' => w'.cell? ⟨w.heap.size, 0, none⟩ = some (.bool false) ∧ w'.cell? ⟨w.heap.size + 1, 0, none⟩ = some (.bool true))
    (((try dsimp only); (repeat' apply And.intro) <;> (first | (with_reducible assumption) | go_keep)))
    ((first | (go_at_call 112; have _t := tok1; refine (signed_to true Aq cq zq (x.tdiv y) _ (by exact hq.2.1) hq.2.2.1 hlq hq.1 (by rw [hq.2.2.2.2]; exact div_parts hs1 hs2 rfl)).mono ?_; rintro e w3 ⟨v3, rfl, ⟨b3, A3, c3, zs3, rfl, hsg3, hl3⟩, hb3⟩; clear tok1; have j3 : w.heap.size + 4 ≤ w3.heap.size := Nat.le_trans j2 hb3.size; have k3x := k2x.step hb3 rfl (by omega); have k3y := k2y.step hb3 rfl (by omega); have k3r := k2r.step hb3 rfl (by omega); have k3q := k2q.step hb3 rfl (by omega); have hr3 := hr.step hb3 rfl; obtain ⟨qx0, qx1⟩ := id k3x; obtain ⟨qy0, qy1⟩ := id k3y) | (go_at_call 112; refine (signed_to false Ar cr zr (x.tmod y) _ (by exact hr3.2.1) hr3.2.2.1 hlr hr3.1 (by rw [hr3.2.2.2.2]; exact mod_parts hs1)).mono ?_; rintro e w4 ⟨v4, rfl, ⟨b4, A4, c4, zs4, rfl, hsg4, hl4⟩, hb4⟩; have k4x := k3x.step hb4 rfl (by omega); have k4y := k3y.step hb4 rfl (by omega); have k4r := k3r.step hb4 rfl (by omega); have k4q := k3q.step hb4 rfl (by omega); have hl3' := hl3.step hb4 rfl; obtain ⟨sx0, sx1⟩ := id k4x; obtain ⟨sy0, sy1⟩ := id k4y; obtain ⟨⟨hr0, hr1⟩, hf0, hf1⟩ := id k4r; obtain ⟨⟨hq0, hq1⟩, hg0, hg1⟩ := id k4q; have m1 := k4x.far (r := w.heap.size + 2) (by omega) (.bool b3) (.slice A3 zs3.length c3); have m2 := k4y.far (r := w.heap.size + 2) (by omega) (.bool b3) (.slice A3 zs3.length c3); have m3 := m1.far (r := w.heap.size + 3) (by omega) (.bool b4) (.slice A4 zs4.length c4); have m4 := m2.far (r := w.heap.size + 3) (by omega) (.bool b4) (.slice A4 zs4.length c4); obtain ⟨m1a, m1b⟩ := id m1; obtain ⟨m2a, m2b⟩ := id m2; obtain ⟨m3a, m3b⟩ := id m3; obtain ⟨m4a, m4b⟩ := id m4)))
  go_wp2
  have e1 := (k4r.1.stored (.bool b3) (.slice A3 zs3.length c3)).far (r := w.heap.size + 3) (by omega) (.bool b4) (.slice A4 zs4.length c4)
  have e0 := k4q.1.far (r := w.heap.size + 2) (by omega) (.bool b3) (.slice A3 zs3.length c3)
  have e2 := e0.stored (.bool b4) (.slice A4 zs4.length c4)
  obtain ⟨e1a, e1b⟩ := id e1
  obtain ⟨e2a, e2b⟩ := id e2
  have hn3 := (hl3'.2.1.res k4r.1 (.bool b3) (.slice A3 zs3.length c3)).res e0 (.bool b4) (.slice A4 zs4.length c4)
  have hn4 := (hl4.2.1.res k4r.1 (.bool b3) (.slice A3 zs3.length c3)).res e0 (.bool b4) (.slice A4 zs4.length c4)
  have hbe := below_then (below_then (begun_then (begun_then H.out.1 hb1 rfl rfl rfl rfl) hb2 rfl rfl rfl rfl) ⟨hb3.os, hb3.tape, hb3.output, hb3.size, hb3.block⟩) hb4
  refine bodyPost_ret (v := .tuple #[.agg #[.bool b3, .slice A3 zs3.length c3], .agg #[.bool b4, .slice A4 zs4.length c4], .int .i64 0]) (by simp [results, Tryz.results120, go_sem, e1a, e1b, e2a, e2b]) rfl ?_
  exact ⟨_, _, rfl, ⟨b3, A3, c3, zs3, rfl, hsg3, hl3'.1, hn3, hl3'.2.2⟩, ⟨b4, A4, c4, zs4, rfl, hsg4, hl4.1, hn4, hl4.2.2⟩,
    (((hbe.setCell (p := ⟨w.heap.size + 2, 0, none⟩) (by simp) _).setCell (p := ⟨w.heap.size + 2, 1, none⟩) (by simp) _).setCell (p := ⟨w.heap.size + 3, 0, none⟩) (by simp) _).setCell (p := ⟨w.heap.size + 3, 1, none⟩) (by simp) _⟩
theorem divide_sff (A1 : Option Addr) (c1 : Nat) (zs1 : List Nat) (A2 : Option Addr) (c2 : Nat) (zs2 : List Nat) (x y : Int) (w : World) (hs1 : SignOf false x) (hs2 : SignOf false y)
    (h1 : Limbs w A1 c1 zs1 x.natAbs) (h2 : Limbs w A2 c2 zs2 y.natAbs) (hl1 : zs1.length ≤ 300000) (hl2 : zs2.length ≤ 300000) (hy0 : y ≠ 0) :
    Calls Tryz.prog 120 #[.agg #[.bool false, .slice A1 zs1.length c1], .agg #[.bool false, .slice A2 zs2.length c2]] w fun e w' => IsQuoRem w w' x y e := by
  have hd0 : 0 < y.natAbs := by omega
  have hbb := (begun2_below w (.bool false) (.slice A1 zs1.length c1) (.bool false) (.slice A2 zs2.length c2) 31).alloc (begun2_below w (.bool false) (.slice A1 zs1.length c1) (.bool false) (.slice A2 zs2.length c2) 31).size (.cells #[.bool false, .slice none 0 0] 31)
  have hsz0 := begun2_size w (.bool false) (.slice A1 zs1.length c1) (.bool false) (.slice A2 zs2.length c2) 31
  have hx0 := (begun2_x w (.bool false) (.slice A1 zs1.length c1) (.bool false) (.slice A2 zs2.length c2) 31).alloc (by omega) (.cells #[.bool false, .slice none 0 0] 31)
  have hy0 := (begun2_y w (.bool false) (.slice A1 zs1.length c1) (.bool false) (.slice A2 zs2.length c2) 31).alloc (by omega) (.cells #[.bool false, .slice none 0 0] 31)
  have hr0 := (begun2_r w (.bool false) (.slice A1 zs1.length c1) (.bool false) (.slice A2 zs2.length c2) 31).step ((Below.refl _ _).alloc (Nat.le_refl _) (.cells #[.bool false, .slice none 0 0] 31)) rfl (by omega)
  have hq0 := Res.new (begun2 w (.bool false) (.slice A1 zs1.length c1) (.bool false) (.slice A2 zs2.length c2) 31) 31
  rw [hsz0] at hq0
  have hsz : (begun4 w (.bool false) (.slice A1 zs1.length c1) (.bool false) (.slice A2 zs2.length c2) 31).heap.size = w.heap.size + 4 := by unfold begun4; rw [size_alloc, hsz0]
  have hi2 : IntAt (begun4 w (.bool false) (.slice A1 zs1.length c1) (.bool false) (.slice A2 zs2.length c2) 31) (.agg #[.bool false, .slice A2 zs2.length c2]) y := ⟨false, A2, c2, zs2, rfl, hs2, h2.below hbb⟩
  have hl2' := h2.below hbb
  have hl1' := h1.below hbb
  have hyb : y.natAbs < B32 ^ zs2.length := by rw [← h2.2.2.2.2]; exact Lm.val_lt h2.2.2.1
  have hsg := Sign_any _ y zs2.length _ hi2 (by omega) hyb
  have hyn : (y.sign == 0) = false := by rw [beq_eq_false_iff_ne]; intro h; have := Int.sign_eq_zero_iff_zero.1 h; omega
  have H := Lib.hid (And.intro hbb (And.intro hx0 (And.intro hy0 (And.intro hr0 (And.intro hq0 (And.intro hsz (And.intro hsg (And.intro hl1' (And.intro hl2' hd0)))))))))
  have tok1 : True := trivial
  clear hbb hsz0 hx0 hy0 hr0 hq0 hsz hi2 hl2' hl1' hyb hsg hd0
  go_enter Tryz.func120, Tryz.ntmps120
  go_wp2_with fail
  refine H.out.2.2.2.2.2.2.1.mono ?_
  rintro e w1 ⟨rfl, hb1⟩
  have j1 : w.heap.size + 4 ≤ w1.heap.size := Nat.le_trans (Nat.le_of_eq H.out.2.2.2.2.2.1.symm) hb1.size
  have k1x := H.out.2.1.step hb1 rfl (Nat.lt_of_lt_of_eq (m := w.heap.size + 4) (by omega) H.out.2.2.2.2.2.1.symm)
  have k1y := H.out.2.2.1.step hb1 rfl (Nat.lt_of_lt_of_eq (m := w.heap.size + 4) (by omega) H.out.2.2.2.2.2.1.symm)
  have k1r := H.out.2.2.2.1.step hb1 rfl (Nat.lt_of_lt_of_eq (m := w.heap.size + 4) (by omega) H.out.2.2.2.2.2.1.symm)
  have k1q := H.out.2.2.2.2.1.step hb1 rfl (Nat.lt_of_lt_of_eq (m := w.heap.size + 4) (by omega) H.out.2.2.2.2.2.1.symm)
  obtain ⟨px0, px1⟩ := id k1x
  obtain ⟨py0, py1⟩ := id k1y
  have hdv := divide_all A1 c1 zs1 A2 c2 zs2 x.natAbs y.natAbs w1 (H.out.2.2.2.2.2.2.2.1.step hb1 rfl) (H.out.2.2.2.2.2.2.2.2.1.step hb1 rfl) hl1 H.out.2.2.2.2.2.2.2.2.2
  have HD := Lib.hid hdv
  clear hdv
  go_wp2_with fail
  refine HD.out.mono ?_
  rintro e w2 ⟨Aq, cq, zq, Ar, cr, zr, rfl, hq, hr, hb2⟩
  have j2 : w.heap.size + 4 ≤ w2.heap.size := Nat.le_trans j1 hb2.size
  have k2x := k1x.step hb2 rfl (by omega)
  have k2y := k1y.step hb2 rfl (by omega)
  have k2r := k1r.step hb2 rfl (by omega)
  have k2q := k1q.step hb2 rfl (by omega)
  have hlq : zq.length ≤ 1000000 := by have := small_len (m := 300000) hq zs1 h1.2.2.1 (by rw [h1.2.2.2.2]; exact Nat.div_le_self _ _) hl1; omega
  have hlr : zr.length ≤ 1000000 := by have := small_len (m := 300000) hr zs1 h1.2.2.1 (by rw [h1.2.2.2.2]; exact Nat.mod_le _ _) hl1; omega
  clear px0 px1 py0 py1
  obtain ⟨px0, px1⟩ := id k2x
  obtain ⟨py0, py1⟩ := id k2y
  go_wp2_with fail
  go_region_held3 (fun w' => w'.cell? ⟨w.heap.size, 0, none⟩ = some (.bool false) ∧ w'.cell? ⟨w.heap.size + 1, 0, none⟩ = some (.bool false))
    (((try dsimp only); (repeat' apply And.intro) <;> (first | (with_reducible assumption) | go_keep)))
    ((first | (go_at_call 112; have _t := tok1; refine (signed_to false Aq cq zq (x.tdiv y) _ (by exact hq.2.1) hq.2.2.1 hlq hq.1 (by rw [hq.2.2.2.2]; exact div_parts hs1 hs2 rfl)).mono ?_; rintro e w3 ⟨v3, rfl, ⟨b3, A3, c3, zs3, rfl, hsg3, hl3⟩, hb3⟩; clear tok1; have j3 : w.heap.size + 4 ≤ w3.heap.size := Nat.le_trans j2 hb3.size; have k3x := k2x.step hb3 rfl (by omega); have k3y := k2y.step hb3 rfl (by omega); have k3r := k2r.step hb3 rfl (by omega); have k3q := k2q.step hb3 rfl (by omega); have hr3 := hr.step hb3 rfl; obtain ⟨qx0, qx1⟩ := id k3x; obtain ⟨qy0, qy1⟩ := id k3y) | (go_at_call 112; refine (signed_to false Ar cr zr (x.tmod y) _ (by exact hr3.2.1) hr3.2.2.1 hlr hr3.1 (by rw [hr3.2.2.2.2]; exact mod_parts hs1)).mono ?_; rintro e w4 ⟨v4, rfl, ⟨b4, A4, c4, zs4, rfl, hsg4, hl4⟩, hb4⟩; have k4x := k3x.step hb4 rfl (by omega); have k4y := k3y.step hb4 rfl (by omega); have k4r := k3r.step hb4 rfl (by omega); have k4q := k3q.step hb4 rfl (by omega); have hl3' := hl3.step hb4 rfl; obtain ⟨sx0, sx1⟩ := id k4x; obtain ⟨sy0, sy1⟩ := id k4y; obtain ⟨⟨hr0, hr1⟩, hf0, hf1⟩ := id k4r; obtain ⟨⟨hq0, hq1⟩, hg0, hg1⟩ := id k4q; have m1 := k4x.far (r := w.heap.size + 2) (by omega) (.bool b3) (.slice A3 zs3.length c3); have m2 := k4y.far (r := w.heap.size + 2) (by omega) (.bool b3) (.slice A3 zs3.length c3); have m3 := m1.far (r := w.heap.size + 3) (by omega) (.bool b4) (.slice A4 zs4.length c4); have m4 := m2.far (r := w.heap.size + 3) (by omega) (.bool b4) (.slice A4 zs4.length c4); obtain ⟨m1a, m1b⟩ := id m1; obtain ⟨m2a, m2b⟩ := id m2; obtain ⟨m3a, m3b⟩ := id m3; obtain ⟨m4a, m4b⟩ := id m4)))
  go_wp2
  have e1 := (k4r.1.stored (.bool b3) (.slice A3 zs3.length c3)).far (r := w.heap.size + 3) (by omega) (.bool b4) (.slice A4 zs4.length c4)
  have e0 := k4q.1.far (r := w.heap.size + 2) (by omega) (.bool b3) (.slice A3 zs3.length c3)
  have e2 := e0.stored (.bool b4) (.slice A4 zs4.length c4)
  obtain ⟨e1a, e1b⟩ := id e1
  obtain ⟨e2a, e2b⟩ := id e2
  have hn3 := (hl3'.2.1.res k4r.1 (.bool b3) (.slice A3 zs3.length c3)).res e0 (.bool b4) (.slice A4 zs4.length c4)
  have hn4 := (hl4.2.1.res k4r.1 (.bool b3) (.slice A3 zs3.length c3)).res e0 (.bool b4) (.slice A4 zs4.length c4)
  have hbe := below_then (below_then (begun_then (begun_then H.out.1 hb1 rfl rfl rfl rfl) hb2 rfl rfl rfl rfl) ⟨hb3.os, hb3.tape, hb3.output, hb3.size, hb3.block⟩) hb4
  refine bodyPost_ret (v := .tuple #[.agg #[.bool b3, .slice A3 zs3.length c3], .agg #[.bool b4, .slice A4 zs4.length c4], .int .i64 0]) (by simp [results, Tryz.results120, go_sem, e1a, e1b, e2a, e2b]) rfl ?_
  exact ⟨_, _, rfl, ⟨b3, A3, c3, zs3, rfl, hsg3, hl3'.1, hn3, hl3'.2.2⟩, ⟨b4, A4, c4, zs4, rfl, hsg4, hl4.1, hn4, hl4.2.2⟩,
    (((hbe.setCell (p := ⟨w.heap.size + 2, 0, none⟩) (by simp) _).setCell (p := ⟨w.heap.size + 2, 1, none⟩) (by simp) _).setCell (p := ⟨w.heap.size + 3, 0, none⟩) (by simp) _).setCell (p := ⟨w.heap.size + 3, 1, none⟩) (by simp) _⟩
def IsDivE (w w' : World) (q r k : Int) (e : Ending) : Prop := ∃ v1 v2, e = .returned (.tuple #[v1, v2, .int .i64 k]) ∧ IntAt w' v1 q ∧ IntAt w' v2 r ∧ Below w.heap.size w w'
theorem divide_some (v1 v2 : Value) (x y : Int) (m : Nat) (w : World) (h1 : IntAt w v1 x) (h2 : IntAt w v2 y) (hm : m ≤ 300000) (hx : x.natAbs < B32 ^ m) (hy : y.natAbs < B32 ^ m) (h0 : y ≠ 0) :
    Calls Tryz.prog 120 #[v1, v2] w fun e w' => IsDivE w w' (x.tdiv y) (x.tmod y) 0 e := by
  obtain ⟨b1, A1, c1, zs1, rfl, hs1, hd1⟩ := h1
  obtain ⟨b2, A2, c2, zs2, rfl, hs2, hd2⟩ := h2
  have l1 := Nat.le_trans (hd1.len hx) hm
  have l2 := Nat.le_trans (hd2.len hy) hm
  cases b1 <;> cases b2
  · exact divide_sff A1 c1 zs1 A2 c2 zs2 x y w hs1 hs2 hd1 hd2 l1 l2 h0
  · exact divide_sft A1 c1 zs1 A2 c2 zs2 x y w hs1 hs2 hd1 hd2 l1 l2 h0
  · exact divide_stf A1 c1 zs1 A2 c2 zs2 x y w hs1 hs2 hd1 hd2 l1 l2 h0
  · exact divide_stt A1 c1 zs1 A2 c2 zs2 x y w hs1 hs2 hd1 hd2 l1 l2 h0
section
variable {w wr w' : World} {L : Nat} {cur : Array Value} {zs : List Nat} {v : Nat}
end
theorem compare_limbs {A : Option Addr} {c : Nat} {xs : List Nat} {A' : Option Addr} {c' : Nat} {ys : List Nat} {w : World} {x y : Nat} (g : Int) (hx : Limbs w A c xs x) (hy : Limbs w A' c' ys y) (hl : xs.length ≤ 1000000) (hg : ordOf x y = g) :
    Calls Tryz.prog 114 #[.slice A xs.length c, .slice A' ys.length c'] w fun e w' => Drew w w' ∧ e = .returned (.int .i64 g) := by
  have h := compare_any A c xs A' c' ys w hx.2.1 hy.2.1 hx.2.2.1 hy.2.2.1 hx.2.2.2.1 hy.2.2.2.1 hl
  rw [hx.2.2.2.2, hy.2.2.2.2] at h
  exact h.mono fun _ _ ⟨hd, he⟩ => ⟨hd, by rw [he, hg]⟩
end Go.Proofs.YtpgbnegppehckaaGreat
namespace Go.Proofs.YtpgbnegppehckaaGreat
open Go.RowKit
theorem exact_any (v1 v2 : Value) (x y z : Int) (m : Nat) (w : World) (h1 : IntAt w v1 x) (h2 : IntAt w v2 y) (hm : m ≤ 300000) (hx : x.natAbs < B32 ^ m) (hy : y.natAbs < B32 ^ m) (h0 : y ≠ 0) (hz : x.tdiv y = z) :
    Calls Tryz.prog 78 #[v1, v2] w fun e w' => IsInt w w' z e := by
  obtain ⟨b1, A1, c1, xs1, rfl, s1, l1⟩ := h1
  obtain ⟨b2, A2, c2, xs2, rfl, s2, l2⟩ := h2
  have hb0 := begun2_below w (.bool b1) (.slice A1 xs1.length c1) (.bool b2) (.slice A2 xs2.length c2) 31
  have hX := begun2_x w (.bool b1) (.slice A1 xs1.length c1) (.bool b2) (.slice A2 xs2.length c2) 31
  have hY := begun2_y w (.bool b1) (.slice A1 xs1.length c1) (.bool b2) (.slice A2 xs2.length c2) 31
  have hR := begun2_r w (.bool b1) (.slice A1 xs1.length c1) (.bool b2) (.slice A2 xs2.length c2) 31
  have hsz := begun2_size w (.bool b1) (.slice A1 xs1.length c1) (.bool b2) (.slice A2 xs2.length c2) 31
  obtain ⟨W, hW⟩ : ∃ W, begun2 w (.bool b1) (.slice A1 xs1.length c1) (.bool b2) (.slice A2 xs2.length c2) 31 = W := ⟨_, rfl⟩
  rw [hW] at hb0 hX hY hR hsz
  unfold begun2 at hW
  have hdv := divide_some _ _ x y m W ⟨b1, A1, c1, xs1, rfl, s1, l1.below hb0⟩ ⟨b2, A2, c2, xs2, rfl, s2, l2.below hb0⟩ hm hx hy h0
  rw [hz] at hdv
  have H := Lib.hid (And.intro hdv (And.intro hb0 (And.intro hR (And.intro hW hsz))))
  obtain ⟨px0, px1⟩ := id hX
  obtain ⟨py0, py1⟩ := id hY
  clear hdv hb0 hX hY hR hW hsz s1 l1 s2 l2 hx hy h0 hz
  go_enter Tryz.func78, Tryz.ntmps78
  go_upto_region 1 with fail
  rw [H.out.2.2.2.1]
  go_wp2_with fail
  refine H.out.1.mono ?_
  rintro e w1 ⟨v1, v2, rfl, ⟨qb, qA, qc, qs, rfl, qg, ql⟩, ⟨rb, rA, rc, rs, rfl, _, _⟩, hb1⟩
  have r1 := H.out.2.2.1.step hb1 rfl (by have := H.out.2.2.2.2; omega)
  have b1' := below_then H.out.2.1 hb1
  have hz1 := hb1.size
  have hbb := boxed2_below w1 (.cells #[.bool qb, .slice qA qs.length qc] 31) (.cells #[.bool rb, .slice rA rs.length rc] 31)
  have q5 := (Two.new w1 (.bool qb) (.slice qA qs.length qc) 31).alloc (by simp) (.cells #[.bool rb, .slice rA rs.length rc] 31)
  have r2 := r1.step hbb rfl (by have := H.out.2.2.2.2; omega)
  have b2' := below_then b1' hbb
  have l2 := ql.below hbb
  obtain ⟨W2, hW2⟩ : ∃ W2 : World, W2 = (w1.alloc (.cells #[.bool qb, .slice qA qs.length qc] 31)).alloc (.cells #[.bool rb, .slice rA rs.length rc] 31) := ⟨_, rfl⟩
  obtain ⟨p, hp⟩ : ∃ p : Nat, p = w1.heap.size := ⟨_, rfl⟩
  rw [← hW2, ← hp] at q5
  rw [← hW2] at r2 b2' l2
  have HQ := Lib.hid (And.intro r2 (And.intro b2' (And.intro l2 qg)))
  have HW2 := Lib.hid hW2
  have HP := Lib.hid hp
  have hpw : w.heap.size + 3 ≤ p := by rw [hp]; have := H.out.2.2.2.2; omega
  obtain ⟨q50, q51⟩ := id q5
  obtain ⟨⟨kr0, kr1⟩, kf0, kf1⟩ := id r2
  clear r1 b1' hz1 hbb q5 r2 b2' l2 hW2 hp ql qg hb1 px0 px1 py0 py1
  go_upto_region 2 with fail
  rw [← HW2.out, ← HP.out]
  clear HW2 HP
  go_wp2
  have q := HQ.out.1.1.stored (.bool qb) (.slice qA qs.length qc)
  obtain ⟨q0, q1⟩ := id q
  refine bodyPost_ret (v := .agg #[.bool qb, .slice qA qs.length qc]) (by simp [results, Tryz.results78, go_sem, q0, q1]) rfl ?_
  exact res_stored HQ.out.1 HQ.out.2.2.2 HQ.out.2.2.1 HQ.out.2.1 (by omega)
end Go.Proofs.YtpgbnegppehckaaGreat
namespace Go.Proofs.YtpgbnegppehckaaGreat
open Go.RowKit
theorem two_mod (x s k : Nat) (hk : s + k = 64) : x * 2 ^ k % 18446744073709551616 = x % 2 ^ s * 2 ^ k := by
  have e : 18446744073709551616 = 2 ^ s * 2 ^ k := by rw [← Nat.pow_add, hk]
  rw [e, Nat.mul_mod_mul_right]
theorem win_or (t x s k : Nat) (hs : s < 32) (hk : s + k = 64) (ht : t < 18446744073709551616) :
    bits .or .u64 (((t / 2 ^ s : Nat) : Nat) : Int) (((x * 2 ^ k % 18446744073709551616 : Nat)) : Int) = ((t / 2 ^ s + x % 2 ^ s * 2 ^ k : Nat) : Int) := by
  have e : 18446744073709551616 = 2 ^ k * 2 ^ s := by rw [← Nat.pow_add, Nat.add_comm, hk]
  have h1 : t / 2 ^ s < 2 ^ k := Nat.div_lt_of_lt_mul (by rw [Nat.mul_comm, ← e]; exact ht)
  have h2 : 2 ^ k ≤ 2 ^ 64 := Nat.pow_le_pow_right (by decide) (by omega)
  have h3 := Nat.mod_lt (x * 2 ^ k) (show 0 < 18446744073709551616 by decide)
  rw [u64_or_nat _ _ (by omega) h3, two_mod x s k hk]
  congr 1
  have := Nat.two_pow_add_eq_or_of_lt (i := k) (b := t / 2 ^ s) h1 (x % 2 ^ s)
  rw [Nat.or_comm, Nat.mul_comm (x % 2 ^ s), ← this]
  omega
theorem win_math {xs : List Nat} {n l s k : Nat} (ho : Lm.Ok B32 xs) (hn : n = 32 * l + s) (hk : s + k = 64) (hl : l ≤ xs.length) :
    Lm.val B32 xs / 2 ^ n % 18446744073709551616 = (Lm.val B32 ((xs.drop l).take 2) / 2 ^ s + Lm.val B32 (xs.drop (l + 2)) % 2 ^ s * 2 ^ k) := by
  have e64 : 18446744073709551616 = 2 ^ s * 2 ^ k := by rw [← Nat.pow_add, hk]
  have h0 := Lm.val_split B32 xs l hl
  have hlt := Lm.val_lt (ho.take l)
  rw [List.length_take, Nat.min_eq_left hl] at hlt
  have h1 : Lm.val B32 xs / 2 ^ n = Lm.val B32 (xs.drop l) / 2 ^ s := by
    rw [hn, Nat.pow_add, ← Nat.div_div_eq_div_mul, ← B32_pow, h0, Nat.add_mul_div_left _ _ (Nat.pow_pos B32_pos), Nat.div_eq_of_lt hlt, Nat.zero_add]
  have h2 : Lm.val B32 (xs.drop l) = Lm.val B32 ((xs.drop l).take 2) + 18446744073709551616 * Lm.val B32 (xs.drop (l + 2)) := by
    rcases Nat.lt_or_ge (xs.drop l).length 2 with g | g
    · rw [List.take_of_length_le (by omega), List.drop_of_length_le (l := xs) (i := l + 2) (by rw [List.length_drop] at g; omega)]
      simp [Lm.val]
    · have := Lm.val_split B32 (xs.drop l) 2 g
      rw [List.drop_drop] at this
      rw [this]
      rfl
  have ht := low_two ho l
  rw [h1, h2]
  generalize Lm.val B32 ((xs.drop l).take 2) = t at *
  generalize Lm.val B32 (xs.drop (l + 2)) = T at *
  have hsp := Nat.two_pow_pos s
  have h3 : (t + 18446744073709551616 * T) / 2 ^ s = t / 2 ^ s + 2 ^ k * T := by
    rw [e64, Nat.mul_assoc, Nat.add_mul_div_left _ _ hsp]
  have h4 : t / 2 ^ s < 2 ^ k := Nat.div_lt_of_lt_mul (by rw [← e64]; exact ht)
  have h5 : T = T % 2 ^ s + 2 ^ s * (T / 2 ^ s) := (Nat.mod_add_div _ _).symm
  have h6 : T % 2 ^ s < 2 ^ s := Nat.mod_lt _ hsp
  rw [h3]
  have h7 : t / 2 ^ s + 2 ^ k * T = (t / 2 ^ s + T % 2 ^ s * 2 ^ k) + 18446744073709551616 * (T / 2 ^ s) := by
    generalize T % 2 ^ s = r at *
    generalize T / 2 ^ s = q at *
    generalize t / 2 ^ s = u at *
    rw [h5, e64]
    grind
  rw [h7, Nat.add_mul_mod_self_left, Nat.mod_eq_of_lt]
  have h8 : (T % 2 ^ s + 1) * 2 ^ k ≤ 2 ^ s * 2 ^ k := Nat.mul_le_mul_right _ h6
  rw [Nat.succ_mul] at h8
  omega
theorem win_top {xs : List Nat} {l s : Nat} (hl : l + 2 < xs.length) (hs : s < 32) : Lm.val B32 (xs.drop (l + 2)) % 2 ^ s = xs.getD (l + 2) 0 % 2 ^ s := by
  rw [Lm.val_drop_pred B32 xs (l + 2) hl]
  have e : B32 = 2 ^ s * 2 ^ (32 - s) := by rw [← Nat.pow_add, show s + (32 - s) = 32 by omega]; rfl
  rw [e, Nat.mul_assoc, Nat.add_mul_mod_self_left]
theorem shl_wrap (x k : Nat) : IntKind.u64.wrap ((x : Int) * 2 ^ k) = ((x * 2 ^ k % 18446744073709551616 : Nat) : Int) := by
  have e : (x : Int) * 2 ^ k = ((x * 2 ^ k : Nat) : Int) := by norm_cast
  rw [e]
  generalize x * 2 ^ k = t at *
  rw [IntKind.wrap_u64]
  omega
theorem shr_nat (t s : Nat) : ((t : Int) / 2 ^ s) = ((t / 2 ^ s : Nat) : Int) := by
  have e : ((2 : Int) ^ s) = ((2 ^ s : Nat) : Int) := by norm_cast
  rw [e, ← Int.natCast_ediv]
theorem window_low (ad : Addr) (c : Nat) (xs : List Nat) (n : Nat) (w : World) (h : Nums w .u32 (some ad) xs) (ho : Lm.Ok B32 xs) (ht : Lm.Top xs) (hc : xs.length ≤ c) (hl : xs.length ≤ 900000) (hn : n ≤ 100000000) (h0 : n / 32 < xs.length) (h2 : xs.length ≤ n / 32 + 2) :
    Calls Tryz.prog 170 #[.slice (some ad) xs.length c, .int .i64 (n : Int)] w fun e w' => e = .returned (.int .u64 ((Lm.val B32 xs / 2 ^ n % 18446744073709551616 : Nat) : Int)) ∧ w = w' := by
  obtain ⟨l, hl0⟩ : ∃ l, n / 32 = l := ⟨_, rfl⟩
  obtain ⟨s, hs0⟩ : ∃ s, n % 32 = s := ⟨_, rfl⟩
  rw [hl0] at h0 h2
  have hq : (n : Int) / 32 = (l : Int) := by omega
  have hr : (n : Int) % 32 = (s : Int) := by omega
  have hs1 : s < 32 := by omega
  have hlt : ¬ (xs.length : Int) ≤ (l : Int) := by omega
  have hm := win_math (n := n) (l := l) (s := s) (k := 64 - s) ho (by omega) (by omega) (by omega)
  rw [List.drop_of_length_le (l := xs) (i := l + 2) h2, show Lm.val B32 [] = 0 from rfl, Nat.zero_mod, Nat.zero_mul, Nat.add_zero] at hm
  have hlo := low_part ad c l xs w h ho ht h0 hc
  obtain ⟨t, htt⟩ : ∃ t, Lm.val B32 ((xs.drop l).take 2) = t := ⟨_, rfl⟩
  have htl := low_two ho l
  rw [htt] at hlo htl hm
  rw [hm]
  obtain ⟨ad', e1, hadl, _⟩ := h (by omega)
  injection e1 with e1
  subst e1
  have HD := Lib.hid (And.intro hlo htl)
  have hno : ¬ (l : Int) + 2 < (xs.length : Int) := by omega
  clear hl0 hs0 hm htt htl hlo h ht ho h2
  go_enter Tryz.func170, Tryz.ntmps170
  go_wp2_with fail
  refine HD.out.1.mono ?_
  rintro e w' ⟨rfl, rfl⟩
  go_wp2
  go_ret
  exact ⟨congrArg Ending.returned (congrArg (Value.int IntKind.u64) (shr_nat t s)), rfl⟩
theorem window_top (ad : Addr) (c : Nat) (xs : List Nat) (n : Nat) (w : World) (h : Nums w .u32 (some ad) xs) (ho : Lm.Ok B32 xs) (ht : Lm.Top xs) (hc : xs.length ≤ c) (hl : xs.length ≤ 900000) (hn : n ≤ 100000000) (h2 : n / 32 + 2 < xs.length) :
    Calls Tryz.prog 170 #[.slice (some ad) xs.length c, .int .i64 (n : Int)] w fun e w' => e = .returned (.int .u64 ((Lm.val B32 xs / 2 ^ n % 18446744073709551616 : Nat) : Int)) ∧ w = w' := by
  obtain ⟨l, hl0⟩ : ∃ l, n / 32 = l := ⟨_, rfl⟩
  obtain ⟨s, hs0⟩ : ∃ s, n % 32 = s := ⟨_, rfl⟩
  rw [hl0] at h2
  have hq : (n : Int) / 32 = (l : Int) := by omega
  have hr : (n : Int) % 32 = (s : Int) := by omega
  have hs1 : s < 32 := by omega
  obtain ⟨k, hk⟩ : ∃ k, s + k = 64 := ⟨64 - s, by omega⟩
  have hk2 : (64 : Int) - (s : Int) = (k : Int) := by omega
  have hlt : ¬ (xs.length : Int) ≤ (l : Int) := by omega
  have hm := win_math (n := n) (l := l) (s := s) (k := k) ho (by omega) hk (by omega)
  rw [win_top h2 hs1] at hm
  have hlo := low_part ad c l xs w h ho ht (by omega) hc
  obtain ⟨t, htt⟩ : ∃ t, Lm.val B32 ((xs.drop l).take 2) = t := ⟨_, rfl⟩
  have htl := low_two ho l
  rw [htt] at hlo htl hm
  obtain ⟨ad', e1, hadl, hcell⟩ := h (by omega)
  injection e1 with e1
  subst e1
  have hcx := hcell (l + 2) h2
  have hxl := limb_lt ho (l + 2)
  obtain ⟨x, hxd⟩ : ∃ x, xs.getD (l + 2) 0 = x := ⟨_, rfl⟩
  obtain ⟨l2, hl2⟩ : ∃ l2, l + 2 = l2 := ⟨_, rfl⟩
  have hl3 : (l : Int) + 2 = (l2 : Int) := by omega
  have hl4 : (l2 : Int) < (xs.length : Int) := by omega
  rw [hxd] at hcx hxl hm
  rw [hl2] at hcx
  rw [hm]
  have hor := win_or t x s k hs1 hk htl
  rw [← shl_wrap, ← shr_nat] at hor
  have HD := Lib.hid (And.intro hlo (And.intro htl hor))
  clear hl0 hs0 hm htt htl hlo h ht ho h2 hcell hxd hor hk hl2
  go_enter Tryz.func170, Tryz.ntmps170
  go_wp2_with fail
  refine HD.out.1.mono ?_
  rintro e w' ⟨rfl, rfl⟩
  go_wp2
  go_ret
  exact ⟨congrArg Ending.returned (congrArg (Value.int IntKind.u64) HD.out.2.2), rfl⟩
theorem window_none (A : Option Addr) (c : Nat) (xs : List Nat) (n : Nat) (w : World) (ho : Lm.Ok B32 xs) (hn : n ≤ 100000000) (h0 : xs.length ≤ n / 32) :
    Calls Tryz.prog 170 #[.slice A xs.length c, .int .i64 (n : Int)] w fun e w' => e = .returned (.int .u64 ((Lm.val B32 xs / 2 ^ n % 18446744073709551616 : Nat) : Int)) ∧ w = w' := by
  rw [right_far ho h0, Nat.zero_mod, show ((0 : Nat) : Int) = 0 from rfl]
  have hle : (xs.length : Int) ≤ (n : Int) / 32 := by omega
  clear ho h0
  go_enter Tryz.func170, Tryz.ntmps170
  go_wp2
  go_ret
  exact ⟨rfl, rfl⟩
theorem window_any (A : Option Addr) (c m : Nat) (xs : List Nat) (n : Nat) (w : World) (h : Limbs w A c xs m) (hl : xs.length ≤ 900000) (hn : n ≤ 100000000) :
    Calls Tryz.prog 170 #[.slice A xs.length c, .int .i64 (n : Int)] w fun e w' => e = .returned (.int .u64 ((m / 2 ^ n % 18446744073709551616 : Nat) : Int)) ∧ w = w' := by
  obtain ⟨hc, hx, ho, ht, rfl⟩ := h
  rcases Nat.lt_or_ge (n / 32) xs.length with h0 | h0
  · obtain ⟨ad, rfl, _⟩ := id (hx (by omega))
    rcases Nat.lt_or_ge (n / 32 + 2) xs.length with h2 | h2
    · exact window_top ad c xs n w hx ho ht hc hl hn h2
    · exact window_low ad c xs n w hx ho ht hc hl hn h0 h2
  · exact window_none A c xs n w ho hn h0
end Go.Proofs.YtpgbnegppehckaaGreat
namespace Go.Proofs.YtpgbnegppehckaaGreat.Gcd
structure Look (m0 n0 m n a0 a1 a2 b0 b1 b2 : Nat) (odd : Bool) : Prop where
  rel : if odd then m + b1 * n0 = a1 * m0 ∧ n + a2 * m0 = b2 * n0 ∧ b2 * a1 = a2 * b1 + 1 else m + a1 * m0 = b1 * n0 ∧ n + b2 * n0 = a2 * m0 ∧ a2 * b1 = b2 * a1 + 1
  le : n ≤ m
  b2p : 1 ≤ b2
  b12 : b1 ≤ b2
  ab2 : a2 ≤ b2
  ab1 : a1 ≤ b1 ∨ (b1 = 0 ∧ a2 = 0 ∧ b2 = 1 ∧ a1 = 1)
  a2p : b1 ≠ 0 → 1 ≤ a2
  prev : b0 ≠ 0 → ∃ p, (if odd then p + a0 * m0 = b0 * n0 ∧ b0 * a1 = a0 * b1 + 1 else p + b0 * n0 = a0 * m0 ∧ a0 * b1 = b0 * a1 + 1) ∧ b1 ≤ m ∧ m + b0 + b1 ≤ p ∧ a1 ≤ b1 ∧ a0 ≤ b0 ∧ b0 ≤ b1 ∧ 1 ≤ a1
theorem look_start (m0 n0 : Nat) (h : n0 ≤ m0) : Look m0 n0 m0 n0 0 1 0 0 0 1 true :=
  ⟨by simp, h, by decide, by decide, by decide, .inr ⟨rfl, rfl, rfl, rfl⟩, fun h => absurd rfl h, fun h => absurd rfl h⟩
section
variable {m0 n0 m n a0 a1 a2 b0 b1 b2 : Nat} {odd : Bool}
theorem Look.whole (h : Look m0 n0 m n a0 a1 a2 b0 b1 b2 odd) : b2 * m + b1 * n = m0 := by
  have hr := h.rel
  cases odd
  · simp only [Bool.false_eq_true, if_false] at hr
    obtain ⟨h1, h2, h3⟩ := hr
    grind
  · simp only [if_true] at hr
    obtain ⟨h1, h2, h3⟩ := hr
    grind
theorem Look.sum_le (h : Look m0 n0 m n a0 a1 a2 b0 b1 b2 odd) (hn : b2 ≤ n) : b1 + b2 ≤ m0 := by
  have hw := h.whole
  have h1 := h.b2p
  have h2 := h.le
  have k1 : b2 * 1 ≤ b2 * m := Nat.mul_le_mul_left _ (by omega)
  have k2 : b1 * 1 ≤ b1 * n := Nat.mul_le_mul_left _ (by omega)
  omega
theorem Look.step (h : Look m0 n0 m n a0 a1 a2 b0 b1 b2 odd) (hn : b2 ≤ n) (hm : n + b1 + b2 ≤ m) : Look m0 n0 n (m % n) a1 a2 (a1 + m / n * a2) b1 b2 (b1 + m / n * b2) (!odd) := by
  have hnp : 0 < n := Nat.lt_of_lt_of_le h.b2p hn
  have hdm := Nat.div_add_mod m n
  have hlt := Nat.mod_lt m hnp
  have hq : 1 ≤ m / n := (Nat.one_le_div_iff hnp).2 h.le
  obtain ⟨q, hqe⟩ : ∃ q, m / n = q := ⟨_, rfl⟩
  obtain ⟨r, hre⟩ : ∃ r, m % n = r := ⟨_, rfl⟩
  rw [hqe] at hdm hq ⊢
  rw [hre] at hdm hlt ⊢
  have hr := h.rel
  have k1 : 1 * b2 ≤ q * b2 := Nat.mul_le_mul_right _ hq
  have k2 : 1 * a2 ≤ q * a2 := Nat.mul_le_mul_right _ hq
  have k3 : q * a2 ≤ q * b2 := Nat.mul_le_mul_left _ h.ab2
  have hb2 := h.b2p
  have hb12 := h.b12
  have ha2 : a2 ≤ b2 := h.ab2
  have ha12 : 1 ≤ a1 + a2 := by
    cases odd
    · simp only [Bool.false_eq_true, if_false] at hr
      rcases Nat.eq_zero_or_pos a2 with e | e
      · have := hr.2.2; rw [e, Nat.zero_mul] at this; omega
      · omega
    · simp only [if_true] at hr
      rcases Nat.eq_zero_or_pos a1 with e | e
      · have := hr.2.2; rw [e, Nat.mul_zero] at this; omega
      · omega
  refine ⟨?_, by omega, by omega, by omega, ?_, .inl ha2, fun _ => by omega, fun hb => ⟨m, ?_, hn, by omega, ha2, ?_, hb12, h.a2p hb⟩⟩
  · cases odd
    · simp only [Bool.false_eq_true, if_false] at hr
      obtain ⟨h1, h2, h3⟩ := hr
      simp only [Bool.not_false, if_true]
      exact ⟨h2, by grind, by grind⟩
    · simp only [if_true] at hr
      obtain ⟨h1, h2, h3⟩ := hr
      simp only [Bool.not_true, Bool.false_eq_true, if_false]
      exact ⟨h2, by grind, by grind⟩
  · rcases h.ab1 with e | ⟨e1, e2, e3, e4⟩
    · omega
    · subst e1 e2 e3 e4; omega
  · cases odd
    · simp only [Bool.false_eq_true, if_false] at hr
      obtain ⟨h1, h2, h3⟩ := hr
      simp only [Bool.not_false, if_true]
      exact ⟨h1, by grind⟩
    · simp only [if_true] at hr
      obtain ⟨h1, h2, h3⟩ := hr
      simp only [Bool.not_true, Bool.false_eq_true, if_false]
      exact ⟨h1, by grind⟩
  · rcases h.ab1 with e | ⟨e1, _⟩
    · exact e
    · exact absurd e1 hb
theorem Look.next_le (h : Look m0 n0 m n a0 a1 a2 b0 b1 b2 odd) (hn : b2 ≤ n) (hm : n + b1 + b2 ≤ m) : b1 + m / n * b2 ≤ m0 ∧ a1 + m / n * a2 ≤ m0 := by
  have hs := h.step hn hm
  have hw := hs.whole
  have hnp : 0 < n := Nat.lt_of_lt_of_le h.b2p hn
  have k1 : (b1 + m / n * b2) * 1 ≤ (b1 + m / n * b2) * n := Nat.mul_le_mul_left _ hnp
  have := hs.ab2
  omega
structure Good (A B a0 b0 a1 b1 : Nat) (odd : Bool) (X Y : Nat) : Prop where
  rel : if odd then X + a0 * A = b0 * B ∧ Y + b1 * B = a1 * A else X + b0 * B = a0 * A ∧ Y + a1 * A = b1 * B
  le : Y ≤ X
  leB : X ≤ B
  less : X + Y < A + B
  same : Nat.gcd X Y = Nat.gcd A B
  small : a0 < 4294967296 ∧ b0 < 4294967296 ∧ a1 < 4294967296 ∧ b1 < 4294967296
theorem Look.good (h : Look m0 n0 m n a0 a1 a2 b0 b1 b2 odd) (hb : b0 ≠ 0) {A B t al be : Nat} (hA : A = m0 * t + al) (hB : B = n0 * t + be) (hal : al < t) (hbe : be < t) (hA0 : 0 < A) (hm0 : m0 < 18446744073709551616) :
    ∃ X Y, Good A B a0 b0 a1 b1 odd X Y := by
  obtain ⟨p, hp, c1, c2, c3, c4, c5, c6⟩ := h.prev hb
  have hr := h.rel
  have hw : b1 * p + b0 * m = m0 := by
    cases odd
    · simp only [Bool.false_eq_true, if_false] at hr hp
      obtain ⟨h1, h2, h3⟩ := hr
      obtain ⟨h4, h5⟩ := hp
      grind
    · simp only [if_true] at hr hp
      obtain ⟨h1, h2, h3⟩ := hr
      obtain ⟨h4, h5⟩ := hp
      grind
  have hb1 : b1 < 4294967296 := by
    rcases Nat.lt_or_ge b1 4294967296 with hlt | hge
    · exact hlt
    · have k1 : 4294967296 * 4294967296 ≤ b1 * p := Nat.mul_le_mul hge (by omega)
      omega
  have ht : 0 < t := by omega
  -- in integers
  have key : ∃ X Y : Nat, (if odd then X + a0 * A = b0 * B ∧ Y + b1 * B = a1 * A else X + b0 * B = a0 * A ∧ Y + a1 * A = b1 * B) ∧ Y ≤ X := by
    have e1 : a0 * al ≤ a0 * t := Nat.mul_le_mul_left _ (by omega)
    have e2 : b0 * be ≤ b0 * t := Nat.mul_le_mul_left _ (by omega)
    have e3 : a1 * al ≤ a1 * t := Nat.mul_le_mul_left _ (by omega)
    have e4 : b1 * be ≤ b1 * t := Nat.mul_le_mul_left _ (by omega)
    have f1 : a0 * t ≤ b0 * t := Nat.mul_le_mul_right _ c4
    have f2 : a1 * t ≤ b1 * t := Nat.mul_le_mul_right _ c3
    have f3 : b1 * t ≤ m * t := Nat.mul_le_mul_right _ c1
    have f4 : (m + b0 + b1) * t ≤ p * t := Nat.mul_le_mul_right _ c2
    rw [Nat.add_mul, Nat.add_mul] at f4
    cases odd
    · simp only [Bool.false_eq_true, if_false] at hr hp ⊢
      obtain ⟨h1, h2, h3⟩ := hr
      obtain ⟨h4, h5⟩ := hp
      have g1 : a0 * A = b0 * B + (p * t + a0 * al) - b0 * be := by
        have : a0 * A + b0 * be = b0 * B + (p * t + a0 * al) := by subst hA hB; grind
        omega
      have g2 : b1 * B = a1 * A + (m * t + b1 * be) - a1 * al := by
        have : b1 * B + a1 * al = a1 * A + (m * t + b1 * be) := by subst hA hB; grind
        omega
      exact ⟨p * t + a0 * al - b0 * be, m * t + b1 * be - a1 * al, ⟨by omega, by omega⟩, by omega⟩
    · simp only [if_true] at hr hp ⊢
      obtain ⟨h1, h2, h3⟩ := hr
      obtain ⟨h4, h5⟩ := hp
      have g1 : b0 * B = a0 * A + (p * t + b0 * be) - a0 * al := by
        have : b0 * B + a0 * al = a0 * A + (p * t + b0 * be) := by subst hA hB; grind
        omega
      have g2 : a1 * A = b1 * B + (m * t + a1 * al) - b1 * be := by
        have : a1 * A + b1 * be = b1 * B + (m * t + a1 * al) := by subst hA hB; grind
        omega
      exact ⟨p * t + b0 * be - a0 * al, m * t + a1 * al - b1 * be, ⟨by omega, by omega⟩, by omega⟩
  obtain ⟨X, Y, hXY, hle⟩ := key
  have back : A = b1 * X + b0 * Y ∧ B = a1 * X + a0 * Y := by
    cases odd
    · simp only [Bool.false_eq_true, if_false] at hp hXY
      obtain ⟨h4, h5⟩ := hp
      obtain ⟨h6, h7⟩ := hXY
      exact ⟨by grind, by grind⟩
    · simp only [if_true] at hp hXY
      obtain ⟨h4, h5⟩ := hp
      obtain ⟨h6, h7⟩ := hXY
      exact ⟨by grind, by grind⟩
  have hX1 : X ≤ B := by
    have : 1 * X ≤ a1 * X := Nat.mul_le_mul_right _ c6
    have := back.2
    omega
  have hXA : X + Y ≤ A := by
    have k1 : 1 * X ≤ b1 * X := Nat.mul_le_mul_right _ (by omega)
    have k2 : 1 * Y ≤ b0 * Y := Nat.mul_le_mul_right _ (by omega)
    have := back.1
    omega
  have hX0 : 0 < X := by
    rcases Nat.eq_zero_or_pos X with e | e
    · have e2 : Y = 0 := by omega
      have := back.1
      rw [e, e2] at this
      simp at this
      omega
    · exact e
  have hsame : Nat.gcd X Y = Nat.gcd A B := by
    apply Nat.dvd_antisymm
    · apply Nat.dvd_gcd
      · rw [back.1]; exact Nat.dvd_add (Nat.dvd_trans (Nat.gcd_dvd_left X Y) (Nat.dvd_mul_left ..)) (Nat.dvd_trans (Nat.gcd_dvd_right X Y) (Nat.dvd_mul_left ..))
      · rw [back.2]; exact Nat.dvd_add (Nat.dvd_trans (Nat.gcd_dvd_left X Y) (Nat.dvd_mul_left ..)) (Nat.dvd_trans (Nat.gcd_dvd_right X Y) (Nat.dvd_mul_left ..))
    · have dA := Nat.gcd_dvd_left A B
      have dB := Nat.gcd_dvd_right A B
      cases odd
      · simp only [Bool.false_eq_true, if_false] at hXY
        apply Nat.dvd_gcd
        · exact (Nat.dvd_add_left (Nat.dvd_trans dB (Nat.dvd_mul_left B b0))).1 (by rw [hXY.1]; exact Nat.dvd_trans dA (Nat.dvd_mul_left ..))
        · exact (Nat.dvd_add_left (Nat.dvd_trans dA (Nat.dvd_mul_left A a1))).1 (by rw [hXY.2]; exact Nat.dvd_trans dB (Nat.dvd_mul_left ..))
      · simp only [if_true] at hXY
        apply Nat.dvd_gcd
        · exact (Nat.dvd_add_left (Nat.dvd_trans dA (Nat.dvd_mul_left A a0))).1 (by rw [hXY.1]; exact Nat.dvd_trans dB (Nat.dvd_mul_left ..))
        · exact (Nat.dvd_add_left (Nat.dvd_trans dB (Nat.dvd_mul_left B b1))).1 (by rw [hXY.2]; exact Nat.dvd_trans dA (Nat.dvd_mul_left ..))
  exact ⟨X, Y, hXY, hle, hX1, by omega, hsame, by omega, by omega, by omega, hb1⟩
end
end Go.Proofs.YtpgbnegppehckaaGreat.Gcd
namespace Go.Proofs.YtpgbnegppehckaaGreat
open Go.RowKit Gcd
def Five (w : World) (h : Nat) (a b c d e : Value) : Prop :=
  w.cell? ⟨h, 0, none⟩ = some a ∧ w.cell? ⟨h, 1, none⟩ = some b ∧ w.cell? ⟨h, 2, none⟩ = some c ∧ w.cell? ⟨h, 3, none⟩ = some d ∧ w.cell? ⟨h, 4, none⟩ = some e ∧
  w.frozen? ⟨h, 0, none⟩ = false ∧ w.frozen? ⟨h, 1, none⟩ = false ∧ w.frozen? ⟨h, 2, none⟩ = false ∧ w.frozen? ⟨h, 3, none⟩ = false ∧ w.frozen? ⟨h, 4, none⟩ = false
theorem five_new (w : World) (a b c d e : Value) (t : TypeId) : Five (w.alloc (.cells #[a, b, c, d, e] t)) w.heap.size a b c d e := by
  unfold Five
  refine ⟨?_, ?_, ?_, ?_, ?_, ?_, ?_, ?_, ?_, ?_⟩ <;> go_simp
theorem five_below {w w' : World} {h : Nat} {a b c d e : Value} (k : Five w h a b c d e) (hb : Below w.heap.size w w') (hh : h < w.heap.size) : Five w' h a b c d e := by
  obtain ⟨k0, k1, k2, k3, k4, k5, k6, k7, k8, k9⟩ := k
  exact ⟨(hb.cell (p := ⟨h, 0, none⟩) hh).trans k0, (hb.cell (p := ⟨h, 1, none⟩) hh).trans k1, (hb.cell (p := ⟨h, 2, none⟩) hh).trans k2, (hb.cell (p := ⟨h, 3, none⟩) hh).trans k3, (hb.cell (p := ⟨h, 4, none⟩) hh).trans k4,
    (hb.frozen (p := ⟨h, 0, none⟩) hh).trans k5, (hb.frozen (p := ⟨h, 1, none⟩) hh).trans k6, (hb.frozen (p := ⟨h, 2, none⟩) hh).trans k7, (hb.frozen (p := ⟨h, 3, none⟩) hh).trans k8, (hb.frozen (p := ⟨h, 4, none⟩) hh).trans k9⟩
def stepsV (a0 b0 a1 b1 : Nat) (odd : Bool) : Value := .agg #[.int .u64 a0, .int .u64 b0, .int .u64 a1, .int .u64 b1, .bool odd]
def IsAhead (w w' : World) (A B : Nat) (e : Ending) : Prop := Below w.heap.size w w' ∧ ∃ (a0 b0 a1 b1 : Nat) (odd : Bool), e = .returned (.tuple #[stepsV a0 b0 a1 b1 odd, .bool (decide (b0 ≠ 0))]) ∧ (b0 ≠ 0 → ∃ X Y, Gcd.Good A B a0 b0 a1 b1 odd X Y)
def AtLook (m0 n0 : Nat) (mv nv u0 u1 u2 v0 v1 v2 ov : Value) : Prop := ∃ (m n a0 a1 a2 b0 b1 b2 : Nat) (odd : Bool), mv = .int .u64 m ∧ nv = .int .u64 n ∧ u0 = .int .u64 a0 ∧ u1 = .int .u64 a1 ∧ u2 = .int .u64 a2 ∧ v0 = .int .u64 b0 ∧ v1 = .int .u64 b1 ∧ v2 = .int .u64 b2 ∧ ov = .bool odd ∧ Look m0 n0 m n a0 a1 a2 b0 b1 b2 odd
theorem top_part {a b : Nat} (hab : b ≤ a) (hb : 64 ≤ bl a) : a / 2 ^ (bl a - 64) < 18446744073709551616 ∧ b / 2 ^ (bl a - 64) ≤ a / 2 ^ (bl a - 64) := by
  refine ⟨?_, Nat.div_le_div_right hab⟩
  rw [Nat.div_lt_iff_lt_mul (Nat.two_pow_pos _)]
  have h := bl_le.1 (Nat.le_refl (bl a))
  have e : 18446744073709551616 * 2 ^ (bl a - 64) = 2 ^ bl a := by
    rw [show (18446744073709551616 : Nat) = 2 ^ 64 from rfl, ← Nat.pow_add]
    congr 1
    omega
  rw [e]
  exact h
theorem look_out {a b m0 n0 m n a0 a1 a2 b0 b1 b2 : Nat} {odd : Bool} {at_ : Nat} (h : Look m0 n0 m n a0 a1 a2 b0 b1 b2 odd) (ha : a / 2 ^ at_ = m0) (hb : b / 2 ^ at_ = n0) (hm : m0 < 18446744073709551616) (h0 : 0 < a) (hb0 : b0 ≠ 0) : ∃ X Y, Gcd.Good a b a0 b0 a1 b1 odd X Y := by
  have hp := Nat.two_pow_pos at_
  refine h.good hb0 (t := 2 ^ at_) (al := a % 2 ^ at_) (be := b % 2 ^ at_) ?_ ?_ (Nat.mod_lt _ hp) (Nat.mod_lt _ hp) h0 hm
  · rw [← ha, Nat.mul_comm]; exact (Nat.div_add_mod _ _).symm
  · rw [← hb, Nat.mul_comm]; exact (Nat.div_add_mod _ _).symm
theorem lookAhead_any (A : Option Addr) (c a : Nat) (xs : List Nat) (B : Option Addr) (c' b : Nat) (ys : List Nat) (w : World) (ha : Limbs w A c xs a) (hb : Limbs w B c' ys b) (hl : xs.length ≤ 400000) (hl' : ys.length ≤ 400000) (hab : b ≤ a) (h64 : 64 ≤ bl a) :
    Calls Tryz.prog 151 #[.slice A xs.length c, .slice B ys.length c'] w fun e w' => IsAhead w w' a b e := by
  obtain ⟨hm1, hn1⟩ := top_part hab h64
  have hbl := bl_limbs ha
  obtain ⟨at_, hat⟩ : ∃ k, bl a - 64 = k := ⟨_, rfl⟩
  rw [hat] at hm1 hn1
  obtain ⟨m0, hm0⟩ : ∃ k, a / 2 ^ at_ = k := ⟨_, rfl⟩
  obtain ⟨n0, hn0⟩ : ∃ k, b / 2 ^ at_ = k := ⟨_, rfl⟩
  rw [hm0] at hm1 hn1
  rw [hn0] at hn1
  have h0 : 0 < a := by
    rcases Nat.eq_zero_or_pos a with e | e
    · subst e; have : bl 0 = 0 := rfl; omega
    · exact e
  obtain ⟨W, hW⟩ : ∃ W, W = w.alloc (.cells #[.int .u64 0, .int .u64 0, .int .u64 0, .int .u64 0, .bool false] 178) := ⟨_, rfl⟩
  have h5 : Five W w.heap.size (.int .u64 0) (.int .u64 0) (.int .u64 0) (.int .u64 0) (.bool false) := by rw [hW]; exact five_new _ _ _ _ _ _ _
  have hbW : Below w.heap.size w W := by rw [hW]; exact (Below.refl _ _).alloc (Nat.le_refl _) _
  have hla : Limbs W A c xs a := by rw [hW]; exact ⟨ha.1, ha.2.1.alloc _, ha.2.2⟩
  have hlb : Limbs W B c' ys b := by rw [hW]; exact ⟨hb.1, hb.2.1.alloc _, hb.2.2⟩
  have H1 := Lib.hid (width_any A c a xs W hla (by omega))
  have H2 := window_any A c a xs at_ W hla (by omega) (by omega)
  have H3 := window_any B c' b ys at_ W hlb (by omega) (by omega)
  rw [hm0, Nat.mod_eq_of_lt hm1] at H2
  rw [hn0, Nat.mod_eq_of_lt (by omega)] at H3
  have H4 := Lib.hid (And.intro H2 H3)
  have hWs : w.heap.size < W.heap.size := by rw [hW]; simp
  have HW := Lib.hid (And.intro h5 (And.intro hbW hWs))
  clear hWs
  have hsub : (bl a : Int) - 64 = (at_ : Int) := by omega
  have HE : Hid (∀ m n a0 a1 a2 b0 b1 b2 odd, Look m0 n0 m n a0 a1 a2 b0 b1 b2 odd → b0 ≠ 0 → ∃ X Y, Gcd.Good a b a0 b0 a1 b1 odd X Y) := Lib.hid fun m n a0 a1 a2 b0 b1 b2 odd h hb0 => look_out h hm0 hn0 hm1 h0 hb0
  have hbl2 : (bl a : Int) ≤ 20000000 := by omega
  have HS := Lib.hid (look_start m0 n0 hn1)
  clear h5 hbW hla hlb H2 H3 ha hb hab h64 hat hm0 hn0 h0 hbl hl hl' hn1
  go_enter Tryz.func151, Tryz.ntmps151
  go_wp2_with fail
  rw [← hW]
  clear hW
  refine H1.out.mono ?_
  rintro e w1 ⟨rfl, rfl⟩
  go_wp2_with fail
  refine H4.out.1.mono ?_
  rintro e w1 ⟨rfl, rfl⟩
  go_wp2_with fail
  refine H4.out.2.mono ?_
  rintro e w1 ⟨rfl, rfl⟩
  go_wp2_with fail
  clear H1 H4 hsub hbl2
  go_loopw [7, 8, 9, 10, 11, 12, 13, 14, 15] (fun mv nv u0 u1 u2 v0 v1 v2 ov wr => AtLook m0 n0 mv nv u0 u1 u2 v0 v1 v2 ov ∧ Drew W wr) (fun _ nv _ _ _ _ _ _ _ _ => (intOf nv).toNat)
  case atStart => exact ⟨⟨m0, n0, 0, 1, 0, 0, 0, 1, true, rfl, rfl, rfl, rfl, rfl, rfl, rfl, rfl, rfl, HS.out⟩, Drew.refl _⟩
  case round =>
   obtain ⟨⟨m, n, a0, a1, a2, b0, b1, b2, odd, rfl, rfl, rfl, rfl, rfl, rfl, rfl, rfl, rfl, hlk⟩, hdr⟩ := hrel
   by_cases hnb : b2 ≤ n
   · have hsum := hlk.sum_le hnb
     have hle := hlk.le
     have c1 : (b2 : Int) ≤ (n : Int) := by omega
     obtain ⟨d, hd⟩ : ∃ d, m - n = d := ⟨_, rfl⟩
     obtain ⟨t, ht⟩ : ∃ t, b1 + b2 = t := ⟨_, rfl⟩
     have c2 : (m : Int) - (n : Int) = (d : Int) := by omega
     have c3 : (b1 : Int) + (b2 : Int) = (t : Int) := by omega
     have hmw : m ≤ 18446744073709551615 := by
       have h1 := hlk.whole
       have h2 : 1 * m ≤ b2 * m := Nat.mul_le_mul_right _ hlk.b2p
       omega
     have c4 : d ≤ 18446744073709551615 := by omega
     have c5 : t ≤ 18446744073709551615 := by omega
     by_cases hgo : t ≤ d
     · have c6 : (t : Int) ≤ (d : Int) := by omega
       have hnx := hlk.next_le hnb (by omega)
       have hst := hlk.step hnb (by omega)
       obtain ⟨q, hq⟩ : ∃ q, m / n = q := ⟨_, rfl⟩
       obtain ⟨r, hr⟩ : ∃ r, m % n = r := ⟨_, rfl⟩
       rw [hq] at hnx hst
       rw [hr] at hst
       obtain ⟨qa, hqa⟩ : ∃ x, q * a2 = x := ⟨_, rfl⟩
       obtain ⟨qb, hqb⟩ : ∃ x, q * b2 = x := ⟨_, rfl⟩
       rw [hqa] at hst hnx
       rw [hqb] at hst hnx
       have hnp : 0 < n := Nat.lt_of_lt_of_le hlk.b2p hnb
       have hrn : r < n := by rw [← hr]; exact Nat.mod_lt _ hnp
       have hqm : q ≤ m := by rw [← hq]; exact Nat.div_le_self _ _
       have q0 : (m : Int) / (n : Int) = (q : Int) := by rw [← Int.natCast_ediv, hq]
       have r0 : (m : Int) % (n : Int) = (r : Int) := by rw [← Int.natCast_emod, hr]
       have hne : ((n : Int) != 0) = true := by rw [bne_iff_ne]; omega
       have hne' : ¬ (n : Int) = 0 := by omega
       have hn1 : (1 : Int) ≤ (n : Int) := by omega
       have k1 : (q : Int) * (a2 : Int) = (qa : Int) := by rw [← hqa, Int.natCast_mul]
       have k2 : (q : Int) * (b2 : Int) = (qb : Int) := by rw [← hqb, Int.natCast_mul]
       have s1 : a1 + qa ≤ 18446744073709551615 := by omega
       have s2 : b1 + qb ≤ 18446744073709551615 := by omega
       have s3 : qa ≤ 18446744073709551615 := by omega
       have s4 : qb ≤ 18446744073709551615 := by omega
       have s5 : q ≤ 18446744073709551615 := by omega
       have HD := Lib.hid (And.intro hst (And.intro hdr hrn))
       clear hst hdr hlk hnx hq hr hqa hqb hd ht hsum hm1
       go_upto_region 7 with fail
       go_quiet (fail)
       go_wp2
       go_roundw
       case rel =>
        rw [r0]
        exact ⟨⟨n, r, a1, a2, a1 + qa, b1, b2, b1 + qb, !odd, rfl, rfl, rfl, rfl, congrArg (Value.int IntKind.u64) (Int.natCast_add _ _).symm, rfl, rfl, congrArg (Value.int IntKind.u64) (Int.natCast_add _ _).symm, rfl, HD.out.1⟩, HD.out.2.1.more _⟩
       case measure =>
        have := HD.out.2.2
        rw [r0]
        simp [intOf]
        omega
     · have c6 : ¬ (t : Int) ≤ (d : Int) := by omega
       clear hd ht hsum hgo hle hmw
       obtain ⟨g0, g1, g2, g3, g4, g5, g6, g7, g8, g9⟩ := five_below HW.out.1 (hdr.below _) HW.out.2.2
       obtain ⟨bo, hbo⟩ : ∃ bo, ((b0 : Int) != 0) = bo := ⟨_, rfl⟩
       have hbd : bo = decide (b0 ≠ 0) := by
         rw [← hbo]
         rcases Nat.eq_zero_or_pos b0 with e | e
         · subst e; rfl
         · rw [decide_eq_true (by omega), bne_iff_ne]; omega
       have HD := Lib.hid (And.intro (And.intro hbd (HE.out _ _ _ _ _ _ _ _ _ hlk)) hdr)
       clear hlk hdr hbd
       go_wp2
       refine bodyPost_ret (v := .tuple #[stepsV a0 b0 a1 b1 odd, .bool bo]) (by simp [stepsV, results, Tryz.results151, go_sem, g0, g1, g2, g3, g4]) rfl ?_
       have hb := below_then HW.out.2.1 (HD.out.2.below _)
       exact ⟨((((hb.setCell (p := ⟨w.heap.size, 0, none⟩) (Nat.le_refl _) _).setCell (p := ⟨w.heap.size, 1, none⟩) (Nat.le_refl _) _).setCell (p := ⟨w.heap.size, 2, none⟩) (Nat.le_refl _) _).setCell (p := ⟨w.heap.size, 3, none⟩) (Nat.le_refl _) _).setCell (p := ⟨w.heap.size, 4, none⟩) (Nat.le_refl _) _, a0, b0, a1, b1, odd, by rw [← HD.out.1.1], HD.out.1.2⟩
   · have c1 : ¬ (b2 : Int) ≤ (n : Int) := by omega
     clear hnb
     obtain ⟨g0, g1, g2, g3, g4, g5, g6, g7, g8, g9⟩ := five_below HW.out.1 (hdr.below _) HW.out.2.2
     obtain ⟨bo, hbo⟩ : ∃ bo, ((b0 : Int) != 0) = bo := ⟨_, rfl⟩
     have hbd : bo = decide (b0 ≠ 0) := by
       rw [← hbo]
       rcases Nat.eq_zero_or_pos b0 with e | e
       · subst e; rfl
       · rw [decide_eq_true (by omega), bne_iff_ne]; omega
     have HD := Lib.hid (And.intro (And.intro hbd (HE.out _ _ _ _ _ _ _ _ _ hlk)) hdr)
     clear hlk hdr hbd
     go_wp2
     refine bodyPost_ret (v := .tuple #[stepsV a0 b0 a1 b1 odd, .bool bo]) (by simp [stepsV, results, Tryz.results151, go_sem, g0, g1, g2, g3, g4]) rfl ?_
     have hb := below_then HW.out.2.1 (HD.out.2.below _)
     exact ⟨((((hb.setCell (p := ⟨w.heap.size, 0, none⟩) (Nat.le_refl _) _).setCell (p := ⟨w.heap.size, 1, none⟩) (Nat.le_refl _) _).setCell (p := ⟨w.heap.size, 2, none⟩) (Nat.le_refl _) _).setCell (p := ⟨w.heap.size, 3, none⟩) (Nat.le_refl _) _).setCell (p := ⟨w.heap.size, 4, none⟩) (Nat.le_refl _) _, a0, b0, a1, b1, odd, by rw [← HD.out.1.1], HD.out.1.2⟩
end Go.Proofs.YtpgbnegppehckaaGreat
namespace Go.Proofs.YtpgbnegppehckaaGreat
open Go.RowKit
theorem mix_take (xs : List Nat) (i : Nat) : Lm.val B32 (xs.take (i + 1)) = Lm.val B32 (xs.take i) + B32 ^ i * xs.getD i 0 := by
  rcases Nat.lt_or_ge i xs.length with h | h
  · rw [Lm.val_take_succ _ _ _ h]
  · rw [List.take_of_length_le h, List.take_of_length_le (by omega), List.getD_eq_getElem?_getD, List.getElem?_eq_none h]
    simp
structure Mixing (L m n : Nat) (xs ys zs : List Nat) (i P M q : Nat) : Prop where
  len : zs.length = L
  ok : Lm.Ok B32 zs
  rest : ∀ j, i ≤ j → zs.getD j 0 = 0
  num : Lm.val B32 zs + n * Lm.val B32 (ys.take i) + B32 ^ i * P = m * Lm.val B32 (xs.take i) + B32 ^ i * (M + q)
  hP : P ≤ 4294967295
  hM : M ≤ 4294967295
  hq : q ≤ 1
theorem carry_parts {P m x : Nat} (hP : P ≤ 4294967295) (hm : m ≤ 4294967295) (hx : x < 4294967296) : ∃ a s p P' : Nat, m * x = a ∧ (m : Int) * (x : Int) = (a : Int) ∧ P + a = s ∧ s ≤ 18446744073709551615 ∧ s % 4294967296 = p ∧ s / 4294967296 = P' ∧ P + m * x = p + 4294967296 * P' ∧ p < 4294967296 ∧ P' ≤ 4294967295 := by
  refine ⟨m * x, P + m * x, (P + m * x) % 4294967296, (P + m * x) / 4294967296, rfl, (Int.natCast_mul _ _).symm, rfl, ?_, rfl, rfl, by omega, by omega, ?_⟩
  all_goals
    have h : m * x ≤ 4294967295 * 4294967295 := Nat.mul_le_mul hm (by omega)
    omega
theorem mixing_step {L m n : Nat} {xs ys zs : List Nat} {i P M q p P' mm M' d q' : Nat} (h : Mixing L m n xs ys zs i P M q) (hi : i < L) (h1 : P + m * xs.getD i 0 = p + 4294967296 * P') (h2 : M + n * ys.getD i 0 = mm + 4294967296 * M')
    (h3 : d + mm + q = p + 4294967296 * q') (hd : d < 4294967296) (hP : P' ≤ 4294967295) (hM : M' ≤ 4294967295) (hq : q' ≤ 1) : Mixing L m n xs ys (zs.set i d) (i + 1) P' M' q' := by
  have hs := Lm.val_set B32 zs i d (by rw [h.len]; exact hi)
  rw [h.rest i (Nat.le_refl _)] at hs
  refine ⟨by simpa using h.len, h.ok.set _ _ hd, fun j hj => ?_, ?_, hP, hM, hq⟩
  · rw [List.getD_eq_getElem?_getD, List.getElem?_set, if_neg (by omega), ← List.getD_eq_getElem?_getD]
    exact h.rest j (by omega)
  · have hn := h.num
    rw [mix_take, mix_take, Nat.pow_succ]
    generalize B32 ^ i = T at *
    generalize xs.getD i 0 = x at *
    generalize ys.getD i 0 = y at *
    generalize Lm.val B32 (xs.take i) = X at *
    generalize Lm.val B32 (ys.take i) = Y at *
    have e : B32 = 4294967296 := rfl
    rw [e]
    grind
theorem mixing_start (L m n : Nat) (xs ys : List Nat) : Mixing L m n xs ys (List.replicate L 0) 0 0 0 0 :=
  ⟨by simp, Lm.Ok.zeros B32_pos _, fun k _ => by rw [List.getD_eq_getElem?_getD]; by_cases hk : k < L <;> simp [hk], by rw [Lm.val_zeros]; simp [Lm.val], by omega, by omega, by omega⟩
theorem mixing_end {L m n : Nat} {xs ys zs : List Nat} {P M q R : Nat} (h : Mixing L m n xs ys zs L P M q) (hx : xs.length ≤ L) (hy : ys.length ≤ L) (hR : R + n * Lm.val B32 ys = m * Lm.val B32 xs) (hRL : R < B32 ^ L) : Lm.val B32 zs = R := by
  have hn := h.num
  rw [List.take_of_length_le hx, List.take_of_length_le hy] at hn
  have hz := Lm.val_lt h.ok
  rw [h.len] at hz
  have e : Lm.val B32 zs + B32 ^ L * P = R + B32 ^ L * (M + q) := by omega
  rcases Nat.lt_trichotomy P (M + q) with hlt | heq | hgt
  · have : B32 ^ L * (P + 1) ≤ B32 ^ L * (M + q) := Nat.mul_le_mul_left _ hlt
    rw [Nat.mul_succ] at this
    omega
  · rw [heq] at e; omega
  · have : B32 ^ L * (M + q + 1) ≤ B32 ^ L * P := Nat.mul_le_mul_left _ hgt
    rw [Nat.mul_succ] at this
    omega
theorem mixed_x (A : Option Addr) (c : Nat) (xs : List Nat) (m : Nat) (A' : Option Addr) (c' : Nat) (ys : List Nat) (n R : Nat) (w : World) (hx : Nums w .u32 A xs) (hy : Nums w .u32 A' ys)
    (ox : Lm.Ok B32 xs) (oy : Lm.Ok B32 ys) (hl : xs.length ≤ 400000) (hm : m ≤ 4294967295) (hn : n ≤ 4294967295) (hmax : ¬ xs.length < ys.length) (h0 : 0 < xs.length) (hR : R + n * Lm.val B32 ys = m * Lm.val B32 xs) (hRL : R < B32 ^ xs.length) :
    Calls Tryz.prog 171 #[.slice A xs.length c, .int .u64 m, .slice A' ys.length c', .int .u64 n] w fun e w' => IsLims w w' R e := by
  have HR := Lib.hid (And.intro hR hRL)
  obtain ⟨i0, hi0, hz0, hz1, hz2⟩ := info_parts Tryz.info132
  have HI := Lib.hid (And.intro hi0 (And.intro hz0 (And.intro hz1 hz2)))
  have HM := Lib.hid (show i0.bytes * xs.length ≤ 281474976710656 ∧ xs.length ≤ maxLen from ⟨by rw [hz2]; omega, by unfold maxLen; omega⟩)
  clear hi0 hz0 hz1 hz2 hR hRL
  go_enter Tryz.func171, Tryz.ntmps171
  go_wp2_with (at_make; go_loud (refine wpList_make_full _ rfl _ _ 22 rfl w.heap.size 132 i0 (.int .u32 0) 1 Tryz.underlying22 HI.out.1 HI.out.2.1 HI.out.2.2.1 _ _ _ _ xs.length rfl rfl (by omega) (by omega) HM.out.1 HM.out.2 (Nat.le_refl _) ?_); intro w1 hown1 hg1; rw [made_zero] at hown1; have HB := Lib.hid (own_block hown1); have hb1 : Below w.heap.size w w1 := (Below.refl _ _).grown hg1 (Nat.le_refl _) (fun k hk => by cases hk); clear hown1)
  have hz0 : Seg w1 w.heap.size 0 .u32 132 _ (List.replicate xs.length 0) := seg_of_block HB.out
  have hx1 := hx.below hb1
  have hy1 := hy.below hb1
  have hoffx : 0 < xs.length → Off A w.heap.size := fun hn => off_below hx hn (Nat.le_refl _)
  have hoffy : 0 < ys.length → Off A' w.heap.size := fun hn => off_below hy hn (Nat.le_refl _)
  clear hx hy HB HI HM
  go_loopw [10, 11, 12, 22] (fun pv mv qv iv wr => ∃ (i P M q : Nat) (zs : List Nat), iv = .int .i64 i ∧ pv = .int .u64 P ∧ mv = .int .u64 M ∧ qv = .int .u32 q ∧ i ≤ xs.length ∧ Mixing xs.length m n xs ys zs i P M q ∧ SegTo wr w.heap.size 0 .u32 132 (cellsOf .u32 (List.replicate xs.length 0)).toArray zs ∧ w1.grownBy wr (some w.heap.size)) (fun _ _ _ iv _ => xs.length - (intOf iv).toNat)
  case atStart =>
   exact ⟨0, 0, 0, 0, _, rfl, rfl, rfl, rfl, Nat.zero_le _, mixing_start _ _ _ _ _, .refl hz0, World.grownBy.refl _ _⟩
  case round =>
   obtain ⟨i, P, M, q, zs, rfl, rfl, rfl, rfl, hi, hmix, hseg, hgr⟩ := hrel
   have hP := hmix.hP
   have hM := hmix.hM
   have hq := hmix.hq
   by_cases hiL : i < xs.length
   · obtain ⟨cur', hs1, hs2, hs3⟩ := id hseg
     have hcz := hs1.cell (j := i) (by rw [hmix.len]; omega)
     have hfz := hs1.frozen (0 + i)
     rw [hmix.rest i (Nat.le_refl _)] at hcz
     simp only [Nat.zero_add] at hcz hfz
     have hxr := hx1.grown hgr hoffx
     have hyr := hy1.grown hgr hoffy
     clear hs1 hs2 hs3
     have hix : i < xs.length := hiL
     by_cases hiy : i < ys.length
     · obtain ⟨ax, rfl, _, hcell⟩ := hxr.at_ hix
       have hcx := hcell i hix
       have hxl := limb_lt ox i
       clear hcell
       obtain ⟨ay, rfl, _, hcell⟩ := hyr.at_ hiy
       have hcy := hcell i hiy
       have hyl := limb_lt oy i
       clear hcell
       obtain ⟨x, hxd⟩ : ∃ x, xs.getD i 0 = x := ⟨_, rfl⟩
       obtain ⟨y, hyd⟩ : ∃ y, ys.getD i 0 = y := ⟨_, rfl⟩
       rw [hxd] at hxl hcx
       rw [hyd] at hyl hcy
       obtain ⟨a, s, p, P1, ha, ha2, hs, hsl, hp1, hp2, hp3, hp4, hp5⟩ := carry_parts hP hm hxl
       obtain ⟨b, t, r, M1, hb, hb2, ht, htl, hr1, hr2, hr3, hr4, hr5⟩ := carry_parts hM hn hyl
       have HD := Lib.hid (And.intro hxd (And.intro hyd (And.intro hp3 hr3)))
       have c1 : (((P : Int) + (a : Int)) % 4294967296 : Int) = (p : Int) := by omega
       have c2 : (((M : Int) + (b : Int)) % 4294967296 : Int) = (r : Int) := by omega
       clear hxd hyd hp3 hr3 ha hb
       go_wp2_with fail
       try rw [c1]
       try rw [c2]
       refine (sub32_any p r q _ hp4 hr4 hq).mono ?_
       rintro e w' ⟨rfl, d, q1, rfl, hd, hq1, he⟩
       have HE := Lib.hid he
       clear he
       go_wp2
       go_roundw
       case rel =>
        refine ⟨i + 1, P1, M1, q1, _, by go_num, ?_, ?_, rfl, by omega, mixing_step hmix hiL (by rw [HD.out.1]; exact HD.out.2.2.1) (by rw [HD.out.2.1]; exact HD.out.2.2.2) HE.out hd hp5 hr5 hq1, ?_, ?_⟩
        · congr 1; omega
        · congr 1; omega
        · simpa using hseg.set_ (j := i) (by rw [hmix.len]; omega) d
        · exact grown_trans hgr (grown_store _ _ _ _)
       case measure => simp [intOf]; omega
     · obtain ⟨ax, rfl, _, hcell⟩ := hxr.at_ hix
       have hcx := hcell i hix
       have hxl := limb_lt ox i
       clear hcell
       have hye : ys.getD i 0 = 0 := by rw [List.getD_eq_getElem?_getD, List.getElem?_eq_none (by omega)]; rfl
       have hyl : ys.getD i 0 < 4294967296 := by rw [hye]; decide
       obtain ⟨x, hxd⟩ : ∃ x, xs.getD i 0 = x := ⟨_, rfl⟩
       obtain ⟨y, hyd⟩ : ∃ y, ys.getD i 0 = y := ⟨_, rfl⟩
       rw [hxd] at hxl hcx
       rw [hyd] at hyl hye
       obtain ⟨a, s, p, P1, ha, ha2, hs, hsl, hp1, hp2, hp3, hp4, hp5⟩ := carry_parts hP hm hxl
       obtain ⟨b, t, r, M1, hb, hb2, ht, htl, hr1, hr2, hr3, hr4, hr5⟩ := carry_parts hM hn hyl
       obtain rfl : b = 0 := by rw [← hb, hye, Nat.mul_zero]
       obtain rfl : t = M := by omega
       obtain rfl : r = t := by omega
       have HD := Lib.hid (And.intro hxd (And.intro hyd (And.intro hp3 hr3)))
       have c1 : (((P : Int) + (a : Int)) % 4294967296 : Int) = (p : Int) := by omega
       clear hxd hyd hp3 hr3 ha hb
       clear hb2 hye
       go_wp2_with fail
       try rw [c1]
       try rw [c2]
       refine (sub32_any p r q _ hp4 hr4 hq).mono ?_
       rintro e w' ⟨rfl, d, q1, rfl, hd, hq1, he⟩
       have HE := Lib.hid he
       clear he
       go_wp2
       go_roundw
       case rel =>
        refine ⟨i + 1, P1, M1, q1, _, by go_num, ?_, ?_, rfl, by omega, mixing_step hmix hiL (by rw [HD.out.1]; exact HD.out.2.2.1) (by rw [HD.out.2.1]; exact HD.out.2.2.2) HE.out hd hp5 hr5 hq1, ?_, ?_⟩
        · congr 1; omega
        · congr 1; omega
        · simpa using hseg.set_ (j := i) (by rw [hmix.len]; omega) d
        · exact grown_trans hgr (grown_store _ _ _ _)
       case measure => simp [intOf]; omega
   · have hie : i = xs.length := by omega
     subst hie
     have htr := trim_any (some ⟨w.heap.size, 0, none⟩) xs.length zs wr (by obtain ⟨cur', hs1, _⟩ := hseg; exact hs1.nums) (by rw [hmix.len]; omega) (by rw [hmix.len]; exact Nat.le_refl _)
     rw [hmix.len] at htr
     have HT := Lib.hid htr
     clear htr
     go_wp2_with fail
     refine HT.out.mono ?_
     rintro e w4 ⟨rfl, k, rfl, hk, hz, hp⟩
     have HP := Lib.hid (And.intro hk (And.intro hz hp))
     clear hk hz hp
     go_wp2
     go_ret
     exact lims_of_trim ⟨k, rfl, HP.out⟩ (by obtain ⟨cur', hs1, _⟩ := hseg; exact hs1.nums) hmix.ok (by rw [hmix.len]; exact Nat.le_refl _) (mixing_end hmix (by omega) (by omega) HR.out.1 HR.out.2) (hb1.trans (grown_below hgr (Nat.le_refl _) hb1.size))
theorem mixed_y (A : Option Addr) (c : Nat) (xs : List Nat) (m : Nat) (A' : Option Addr) (c' : Nat) (ys : List Nat) (n R : Nat) (w : World) (hx : Nums w .u32 A xs) (hy : Nums w .u32 A' ys)
    (ox : Lm.Ok B32 xs) (oy : Lm.Ok B32 ys) (hl' : ys.length ≤ 400000) (hm : m ≤ 4294967295) (hn : n ≤ 4294967295) (hmax : xs.length < ys.length) (h0 : 0 < ys.length) (hR : R + n * Lm.val B32 ys = m * Lm.val B32 xs) (hRL : R < B32 ^ ys.length) :
    Calls Tryz.prog 171 #[.slice A xs.length c, .int .u64 m, .slice A' ys.length c', .int .u64 n] w fun e w' => IsLims w w' R e := by
  have HR := Lib.hid (And.intro hR hRL)
  obtain ⟨i0, hi0, hz0, hz1, hz2⟩ := info_parts Tryz.info132
  have HI := Lib.hid (And.intro hi0 (And.intro hz0 (And.intro hz1 hz2)))
  have HM := Lib.hid (show i0.bytes * ys.length ≤ 281474976710656 ∧ ys.length ≤ maxLen from ⟨by rw [hz2]; omega, by unfold maxLen; omega⟩)
  clear hi0 hz0 hz1 hz2 hR hRL
  go_enter Tryz.func171, Tryz.ntmps171
  go_wp2_with (at_make; go_loud (refine wpList_make_full _ rfl _ _ 22 rfl w.heap.size 132 i0 (.int .u32 0) 1 Tryz.underlying22 HI.out.1 HI.out.2.1 HI.out.2.2.1 _ _ _ _ ys.length rfl rfl (by omega) (by omega) HM.out.1 HM.out.2 (Nat.le_refl _) ?_); intro w1 hown1 hg1; rw [made_zero] at hown1; have HB := Lib.hid (own_block hown1); have hb1 : Below w.heap.size w w1 := (Below.refl _ _).grown hg1 (Nat.le_refl _) (fun k hk => by cases hk); clear hown1)
  have hz0 : Seg w1 w.heap.size 0 .u32 132 _ (List.replicate ys.length 0) := seg_of_block HB.out
  have hx1 := hx.below hb1
  have hy1 := hy.below hb1
  have hoffx : 0 < xs.length → Off A w.heap.size := fun hn => off_below hx hn (Nat.le_refl _)
  have hoffy : 0 < ys.length → Off A' w.heap.size := fun hn => off_below hy hn (Nat.le_refl _)
  clear hx hy HB HI HM
  go_loopw [10, 11, 12, 22] (fun pv mv qv iv wr => ∃ (i P M q : Nat) (zs : List Nat), iv = .int .i64 i ∧ pv = .int .u64 P ∧ mv = .int .u64 M ∧ qv = .int .u32 q ∧ i ≤ ys.length ∧ Mixing ys.length m n xs ys zs i P M q ∧ SegTo wr w.heap.size 0 .u32 132 (cellsOf .u32 (List.replicate ys.length 0)).toArray zs ∧ w1.grownBy wr (some w.heap.size)) (fun _ _ _ iv _ => ys.length - (intOf iv).toNat)
  case atStart =>
   exact ⟨0, 0, 0, 0, _, rfl, rfl, rfl, rfl, Nat.zero_le _, mixing_start _ _ _ _ _, .refl hz0, World.grownBy.refl _ _⟩
  case round =>
   obtain ⟨i, P, M, q, zs, rfl, rfl, rfl, rfl, hi, hmix, hseg, hgr⟩ := hrel
   have hP := hmix.hP
   have hM := hmix.hM
   have hq := hmix.hq
   by_cases hiL : i < ys.length
   · obtain ⟨cur', hs1, hs2, hs3⟩ := id hseg
     have hcz := hs1.cell (j := i) (by rw [hmix.len]; omega)
     have hfz := hs1.frozen (0 + i)
     rw [hmix.rest i (Nat.le_refl _)] at hcz
     simp only [Nat.zero_add] at hcz hfz
     have hxr := hx1.grown hgr hoffx
     have hyr := hy1.grown hgr hoffy
     clear hs1 hs2 hs3
     have hiy : i < ys.length := hiL
     by_cases hix : i < xs.length
     · obtain ⟨ax, rfl, _, hcell⟩ := hxr.at_ hix
       have hcx := hcell i hix
       have hxl := limb_lt ox i
       clear hcell
       obtain ⟨ay, rfl, _, hcell⟩ := hyr.at_ hiy
       have hcy := hcell i hiy
       have hyl := limb_lt oy i
       clear hcell
       obtain ⟨x, hxd⟩ : ∃ x, xs.getD i 0 = x := ⟨_, rfl⟩
       obtain ⟨y, hyd⟩ : ∃ y, ys.getD i 0 = y := ⟨_, rfl⟩
       rw [hxd] at hxl hcx
       rw [hyd] at hyl hcy
       obtain ⟨a, s, p, P1, ha, ha2, hs, hsl, hp1, hp2, hp3, hp4, hp5⟩ := carry_parts hP hm hxl
       obtain ⟨b, t, r, M1, hb, hb2, ht, htl, hr1, hr2, hr3, hr4, hr5⟩ := carry_parts hM hn hyl
       have HD := Lib.hid (And.intro hxd (And.intro hyd (And.intro hp3 hr3)))
       have c1 : (((P : Int) + (a : Int)) % 4294967296 : Int) = (p : Int) := by omega
       have c2 : (((M : Int) + (b : Int)) % 4294967296 : Int) = (r : Int) := by omega
       clear hxd hyd hp3 hr3 ha hb
       go_wp2_with fail
       try rw [c1]
       try rw [c2]
       refine (sub32_any p r q _ hp4 hr4 hq).mono ?_
       rintro e w' ⟨rfl, d, q1, rfl, hd, hq1, he⟩
       have HE := Lib.hid he
       clear he
       go_wp2
       go_roundw
       case rel =>
        refine ⟨i + 1, P1, M1, q1, _, by go_num, ?_, ?_, rfl, by omega, mixing_step hmix hiL (by rw [HD.out.1]; exact HD.out.2.2.1) (by rw [HD.out.2.1]; exact HD.out.2.2.2) HE.out hd hp5 hr5 hq1, ?_, ?_⟩
        · congr 1; omega
        · congr 1; omega
        · simpa using hseg.set_ (j := i) (by rw [hmix.len]; omega) d
        · exact grown_trans hgr (grown_store _ _ _ _)
       case measure => simp [intOf]; omega
     · have hxe : xs.getD i 0 = 0 := by rw [List.getD_eq_getElem?_getD, List.getElem?_eq_none (by omega)]; rfl
       have hxl : xs.getD i 0 < 4294967296 := by rw [hxe]; decide
       obtain ⟨ay, rfl, _, hcell⟩ := hyr.at_ hiy
       have hcy := hcell i hiy
       have hyl := limb_lt oy i
       clear hcell
       obtain ⟨x, hxd⟩ : ∃ x, xs.getD i 0 = x := ⟨_, rfl⟩
       obtain ⟨y, hyd⟩ : ∃ y, ys.getD i 0 = y := ⟨_, rfl⟩
       rw [hxd] at hxl hxe
       rw [hyd] at hyl hcy
       obtain ⟨a, s, p, P1, ha, ha2, hs, hsl, hp1, hp2, hp3, hp4, hp5⟩ := carry_parts hP hm hxl
       obtain ⟨b, t, r, M1, hb, hb2, ht, htl, hr1, hr2, hr3, hr4, hr5⟩ := carry_parts hM hn hyl
       obtain rfl : a = 0 := by rw [← ha, hxe, Nat.mul_zero]
       obtain rfl : s = P := by omega
       obtain rfl : p = s := by omega
       have HD := Lib.hid (And.intro hxd (And.intro hyd (And.intro hp3 hr3)))
       have c2 : (((M : Int) + (b : Int)) % 4294967296 : Int) = (r : Int) := by omega
       clear hxd hyd hp3 hr3 ha hb
       clear ha2 hxe
       go_wp2_with fail
       try rw [c1]
       try rw [c2]
       refine (sub32_any p r q _ hp4 hr4 hq).mono ?_
       rintro e w' ⟨rfl, d, q1, rfl, hd, hq1, he⟩
       have HE := Lib.hid he
       clear he
       go_wp2
       go_roundw
       case rel =>
        refine ⟨i + 1, P1, M1, q1, _, by go_num, ?_, ?_, rfl, by omega, mixing_step hmix hiL (by rw [HD.out.1]; exact HD.out.2.2.1) (by rw [HD.out.2.1]; exact HD.out.2.2.2) HE.out hd hp5 hr5 hq1, ?_, ?_⟩
        · congr 1; omega
        · congr 1; omega
        · simpa using hseg.set_ (j := i) (by rw [hmix.len]; omega) d
        · exact grown_trans hgr (grown_store _ _ _ _)
       case measure => simp [intOf]; omega
   · have hie : i = ys.length := by omega
     subst hie
     have htr := trim_any (some ⟨w.heap.size, 0, none⟩) ys.length zs wr (by obtain ⟨cur', hs1, _⟩ := hseg; exact hs1.nums) (by rw [hmix.len]; omega) (by rw [hmix.len]; exact Nat.le_refl _)
     rw [hmix.len] at htr
     have HT := Lib.hid htr
     clear htr
     go_wp2_with fail
     refine HT.out.mono ?_
     rintro e w4 ⟨rfl, k, rfl, hk, hz, hp⟩
     have HP := Lib.hid (And.intro hk (And.intro hz hp))
     clear hk hz hp
     go_wp2
     go_ret
     exact lims_of_trim ⟨k, rfl, HP.out⟩ (by obtain ⟨cur', hs1, _⟩ := hseg; exact hs1.nums) hmix.ok (by rw [hmix.len]; exact Nat.le_refl _) (mixing_end hmix (by omega) (by omega) HR.out.1 HR.out.2) (hb1.trans (grown_below hgr (Nat.le_refl _) hb1.size))
theorem mixed_any (A : Option Addr) (c : Nat) (xs : List Nat) (m : Nat) (A' : Option Addr) (c' : Nat) (ys : List Nat) (n R : Nat) (w : World) (hx : Nums w .u32 A xs) (hy : Nums w .u32 A' ys)
    (ox : Lm.Ok B32 xs) (oy : Lm.Ok B32 ys) (hl : xs.length ≤ 400000) (hl' : ys.length ≤ 400000) (hm : m ≤ 4294967295) (hn : n ≤ 4294967295) (h0 : 0 < ys.length) (hR : R + n * Lm.val B32 ys = m * Lm.val B32 xs) (hRL : R < B32 ^ xs.length ∨ R < B32 ^ ys.length) :
    Calls Tryz.prog 171 #[.slice A xs.length c, .int .u64 m, .slice A' ys.length c', .int .u64 n] w fun e w' => IsLims w w' R e := by
  rcases Nat.lt_or_ge xs.length ys.length with h | h
  · exact mixed_y A c xs m A' c' ys n R w hx hy ox oy hl' hm hn h h0 hR (hRL.elim (fun g => Nat.lt_of_lt_of_le g (Nat.pow_le_pow_right B32_pos (by omega))) id)
  · exact mixed_x A c xs m A' c' ys n R w hx hy ox oy hl hm hn (by omega) (by omega) hR (hRL.elim id (fun g => Nat.lt_of_lt_of_le g (Nat.pow_le_pow_right B32_pos (by omega))))
end Go.Proofs.YtpgbnegppehckaaGreat
namespace Go.Proofs.YtpgbnegppehckaaGreat
open Go.RowKit Gcd
theorem five_on {W0 W w1 : World} {h : Nat} {a b c d e : Value} (k : Five W0 h a b c d e) (hb : Below W.heap.size W w1) (hh : W.heap = W0.heap) (hl : h < W0.heap.size) : Five w1 h a b c d e := by
  have e1 : ∀ p, W.cell? p = W0.cell? p := fun p => by simp [World.cell?, hh]
  have e2 : ∀ p, W.frozen? p = W0.frozen? p := fun p => by simp [World.frozen?, hh]
  obtain ⟨k0, k1, k2, k3, k4, k5, k6, k7, k8, k9⟩ := k
  refine five_below (w := W) ⟨(e1 _).trans k0, (e1 _).trans k1, (e1 _).trans k2, (e1 _).trans k3, (e1 _).trans k4, (e2 _).trans k5, (e2 _).trans k6, (e2 _).trans k7, (e2 _).trans k8, (e2 _).trans k9⟩ hb (by rw [hh]; exact hl)
def IsTwo (w w' : World) (a b : Nat) (e : Ending) : Prop :=
  ∃ A c zs A' c' zs', e = .returned (.tuple #[.slice A zs.length c, .slice A' zs'.length c']) ∧ Limbs w' A c zs a ∧ Limbs w' A' c' zs' b ∧ Below w.heap.size w w'
theorem apply_odd (a0 b0 a1 b1 : Nat) (A : Option Addr) (c1 a : Nat) (xs : List Nat) (B : Option Addr) (c2 b : Nat) (ys : List Nat) (X Y : Nat) (w : World) (ha : Limbs w A c1 xs a) (hb : Limbs w B c2 ys b) (hl : xs.length ≤ 400000) (hl' : ys.length ≤ 400000) (h0 : 0 < ys.length) (h0' : 0 < xs.length)
    (hg : Gcd.Good a b a0 b0 a1 b1 true X Y) : Calls Tryz.prog 152 #[stepsV a0 b0 a1 b1 true, .slice A xs.length c1, .slice B ys.length c2] w fun e w' => IsTwo w w' X Y e := by
  unfold stepsV
  obtain ⟨hr, hle, hlB, _, _, s1, s2, s3, s4⟩ := hg
  simp only [if_true] at hr
  obtain ⟨hr1, hr2⟩ := hr
  have e1 : a0 ≤ 4294967295 := by omega
  have e2 : b0 ≤ 4294967295 := by omega
  have e3 : a1 ≤ 4294967295 := by omega
  have e4 : b1 ≤ 4294967295 := by omega
  have hXl : X < B32 ^ ys.length := by
    have := Lm.val_lt hb.2.2.1
    rw [hb.2.2.2.2] at this
    exact Nat.lt_of_le_of_lt hlB this
  have hYl : Y < B32 ^ ys.length := Nat.lt_of_le_of_lt hle hXl
  obtain ⟨W, hW⟩ : ∃ W, W = w.alloc (.cells #[.int .u64 a0, .int .u64 b0, .int .u64 a1, .int .u64 b1, .bool true] 178) := ⟨_, rfl⟩
  have h5 : Five W w.heap.size (.int .u64 a0) (.int .u64 b0) (.int .u64 a1) (.int .u64 b1) (.bool true) := by rw [hW]; exact five_new _ _ _ _ _ _ _
  have hbW : Below w.heap.size w W := by rw [hW]; exact (Below.refl _ _).alloc (Nat.le_refl _) _
  have hWs : w.heap.size < W.heap.size := by rw [hW]; simp
  have hla : Limbs W A c1 xs a := by rw [hW]; exact ⟨ha.1, ha.2.1.alloc _, ha.2.2⟩
  have hlb : Limbs W B c2 ys b := by rw [hW]; exact ⟨hb.1, hb.2.1.alloc _, hb.2.2⟩
  have hx : Nums W .u32 A xs := hla.2.1
  have hy : Nums W .u32 B ys := hlb.2.1
  rw [← ha.2.2.2.2, ← hb.2.2.2.2] at hr1 hr2
  have ox := ha.2.2.1
  have oy := hb.2.2.1
  have H := Lib.hid (And.intro h5 (And.intro hbW (And.intro hWs (And.intro hla (And.intro hlb (And.intro hr1 (And.intro hr2 (And.intro hXl hYl))))))))
  obtain ⟨g0, g1, g2, g3, g4, _⟩ := id h5
  clear h5 hbW hWs hla hlb ha hb hr1 hr2 hXl hYl hlB hle s1 s2 s3 s4
  go_enter Tryz.func152, Tryz.ntmps152
  go_wp2_with fail
  rw [← hW]
  clear hW
  go_wp2_with fail
  have tok1 : True := trivial
  go_region_held3 (fun w' => w'.cell? ⟨w.heap.size, 0, none⟩ = some (.int .u64 a0) ∧ w'.cell? ⟨w.heap.size, 1, none⟩ = some (.int .u64 b0) ∧ w'.cell? ⟨w.heap.size, 2, none⟩ = some (.int .u64 a1) ∧ w'.cell? ⟨w.heap.size, 3, none⟩ = some (.int .u64 b1))
    (((try dsimp only); (repeat' apply And.intro) <;> (first | (with_reducible assumption) | go_keep)))
    ((first | (go_at_call 171; have _t := tok1; refine (mixed_any B c2 ys b0 A c1 xs a0 X _ (by exact hy) (by exact hx) oy ox hl' hl e2 e1 h0' H.out.2.2.2.2.2.1 (.inl H.out.2.2.2.2.2.2.2.1)).mono ?_; rintro e w1 ⟨A3, c3, zs3, rfl, hl3, hb1⟩; clear tok1; obtain ⟨p0, p1, p2, p3, p4, _⟩ := five_on H.out.1 hb1 rfl H.out.2.2.1; have hs1 : w.heap.size < w1.heap.size := Nat.lt_of_lt_of_le H.out.2.2.1 hb1.size) | (go_at_call 171; refine (mixed_any A c1 xs a1 B c2 ys b1 Y _ (by exact (H.out.2.2.2.1.step hb1 rfl).2.1) (by exact (H.out.2.2.2.2.1.step hb1 rfl).2.1) ox oy hl hl' e3 e4 h0 H.out.2.2.2.2.2.2.1 (.inr H.out.2.2.2.2.2.2.2.2)).mono ?_; rintro e w2 ⟨A4, c4, zs4, rfl, hl4, hb2⟩; obtain ⟨q0, q1, q2, q3, q4, _⟩ := five_on (five_on H.out.1 hb1 rfl H.out.2.2.1) hb2 rfl hs1)))
  go_wp2
  go_ret2
  exact ⟨A3, c3, zs3, A4, c4, zs4, rfl, hl3.step hb2 rfl, hl4, below_then (below_then H.out.2.1.drew hb1) hb2⟩
theorem apply_even (a0 b0 a1 b1 : Nat) (A : Option Addr) (c1 a : Nat) (xs : List Nat) (B : Option Addr) (c2 b : Nat) (ys : List Nat) (X Y : Nat) (w : World) (ha : Limbs w A c1 xs a) (hb : Limbs w B c2 ys b) (hl : xs.length ≤ 400000) (hl' : ys.length ≤ 400000) (h0 : 0 < ys.length) (h0' : 0 < xs.length)
    (hg : Gcd.Good a b a0 b0 a1 b1 false X Y) : Calls Tryz.prog 152 #[stepsV a0 b0 a1 b1 false, .slice A xs.length c1, .slice B ys.length c2] w fun e w' => IsTwo w w' X Y e := by
  unfold stepsV
  obtain ⟨hr, hle, hlB, _, _, s1, s2, s3, s4⟩ := hg
  simp only [Bool.false_eq_true, if_false] at hr
  obtain ⟨hr1, hr2⟩ := hr
  have e1 : a0 ≤ 4294967295 := by omega
  have e2 : b0 ≤ 4294967295 := by omega
  have e3 : a1 ≤ 4294967295 := by omega
  have e4 : b1 ≤ 4294967295 := by omega
  have hXl : X < B32 ^ ys.length := by
    have := Lm.val_lt hb.2.2.1
    rw [hb.2.2.2.2] at this
    exact Nat.lt_of_le_of_lt hlB this
  have hYl : Y < B32 ^ ys.length := Nat.lt_of_le_of_lt hle hXl
  obtain ⟨W, hW⟩ : ∃ W, W = w.alloc (.cells #[.int .u64 a0, .int .u64 b0, .int .u64 a1, .int .u64 b1, .bool false] 178) := ⟨_, rfl⟩
  have h5 : Five W w.heap.size (.int .u64 a0) (.int .u64 b0) (.int .u64 a1) (.int .u64 b1) (.bool false) := by rw [hW]; exact five_new _ _ _ _ _ _ _
  have hbW : Below w.heap.size w W := by rw [hW]; exact (Below.refl _ _).alloc (Nat.le_refl _) _
  have hWs : w.heap.size < W.heap.size := by rw [hW]; simp
  have hla : Limbs W A c1 xs a := by rw [hW]; exact ⟨ha.1, ha.2.1.alloc _, ha.2.2⟩
  have hlb : Limbs W B c2 ys b := by rw [hW]; exact ⟨hb.1, hb.2.1.alloc _, hb.2.2⟩
  have hx : Nums W .u32 A xs := hla.2.1
  have hy : Nums W .u32 B ys := hlb.2.1
  rw [← ha.2.2.2.2, ← hb.2.2.2.2] at hr1 hr2
  have ox := ha.2.2.1
  have oy := hb.2.2.1
  have H := Lib.hid (And.intro h5 (And.intro hbW (And.intro hWs (And.intro hla (And.intro hlb (And.intro hr1 (And.intro hr2 (And.intro hXl hYl))))))))
  obtain ⟨g0, g1, g2, g3, g4, _⟩ := id h5
  clear h5 hbW hWs hla hlb ha hb hr1 hr2 hXl hYl hlB hle s1 s2 s3 s4
  go_enter Tryz.func152, Tryz.ntmps152
  go_wp2_with fail
  rw [← hW]
  clear hW
  go_wp2_with fail
  have tok1 : True := trivial
  go_region_held3 (fun w' => w'.cell? ⟨w.heap.size, 0, none⟩ = some (.int .u64 a0) ∧ w'.cell? ⟨w.heap.size, 1, none⟩ = some (.int .u64 b0) ∧ w'.cell? ⟨w.heap.size, 2, none⟩ = some (.int .u64 a1) ∧ w'.cell? ⟨w.heap.size, 3, none⟩ = some (.int .u64 b1))
    (((try dsimp only); (repeat' apply And.intro) <;> (first | (with_reducible assumption) | go_keep)))
    ((first | (go_at_call 171; have _t := tok1; refine (mixed_any A c1 xs a0 B c2 ys b0 X _ (by exact hx) (by exact hy) ox oy hl hl' e1 e2 h0 H.out.2.2.2.2.2.1 (.inr H.out.2.2.2.2.2.2.2.1)).mono ?_; rintro e w1 ⟨A3, c3, zs3, rfl, hl3, hb1⟩; clear tok1; obtain ⟨p0, p1, p2, p3, p4, _⟩ := five_on H.out.1 hb1 rfl H.out.2.2.1; have hs1 : w.heap.size < w1.heap.size := Nat.lt_of_lt_of_le H.out.2.2.1 hb1.size) | (go_at_call 171; refine (mixed_any B c2 ys b1 A c1 xs a1 Y _ (by exact (H.out.2.2.2.2.1.step hb1 rfl).2.1) (by exact (H.out.2.2.2.1.step hb1 rfl).2.1) oy ox hl' hl e4 e3 h0' H.out.2.2.2.2.2.2.1 (.inl H.out.2.2.2.2.2.2.2.2)).mono ?_; rintro e w2 ⟨A4, c4, zs4, rfl, hl4, hb2⟩; obtain ⟨q0, q1, q2, q3, q4, _⟩ := five_on (five_on H.out.1 hb1 rfl H.out.2.2.1) hb2 rfl hs1)))
  go_wp2
  go_ret2
  exact ⟨A3, c3, zs3, A4, c4, zs4, rfl, hl3.step hb2 rfl, hl4, below_then (below_then H.out.2.1.drew hb1) hb2⟩
theorem apply_any (a0 b0 a1 b1 : Nat) (odd : Bool) (A : Option Addr) (c1 a : Nat) (xs : List Nat) (B : Option Addr) (c2 b : Nat) (ys : List Nat) (X Y : Nat) (w : World) (ha : Limbs w A c1 xs a) (hb : Limbs w B c2 ys b) (hl : xs.length ≤ 400000) (hl' : ys.length ≤ 400000) (h0 : 0 < ys.length) (h0' : 0 < xs.length)
    (hg : Gcd.Good a b a0 b0 a1 b1 odd X Y) : Calls Tryz.prog 152 #[stepsV a0 b0 a1 b1 odd, .slice A xs.length c1, .slice B ys.length c2] w fun e w' => IsTwo w w' X Y e := by
  cases odd
  · exact apply_even a0 b0 a1 b1 A c1 a xs B c2 b ys X Y w ha hb hl hl' h0 h0' hg
  · exact apply_odd a0 b0 a1 b1 A c1 a xs B c2 b ys X Y w ha hb hl hl' h0 h0' hg
end Go.Proofs.YtpgbnegppehckaaGreat
namespace Go.Proofs.YtpgbnegppehckaaGreat
open Go.RowKit Gcd
theorem gcd_next (a b : Nat) : Nat.gcd b (a % b) = Nat.gcd a b := by
  rw [Nat.gcd_comm b, ← Nat.gcd_rec, Nat.gcd_comm]
theorem wide_two {w : World} {A : Option Addr} {c b a : Nat} {ys : List Nat} (h : Limbs w A c ys b) (hl : 2 < ys.length) (hab : b ≤ a) : 64 ≤ bl a ∧ 0 < b := by
  have h1 := Lm.val_ge (b := B32) (Nat.lt_of_le_of_lt (Nat.zero_le _) hl) h.2.2.2.1
  rw [h.2.2.2.2] at h1
  have h2 : B32 ^ 2 ≤ B32 ^ (ys.length - 1) := Nat.pow_le_pow_right B32_pos (by omega)
  have e : B32 ^ 2 = 18446744073709551616 := by decide
  rw [e] at h2
  refine ⟨?_, by omega⟩
  rcases Nat.lt_or_ge (bl a) 64 with hlt | hge
  · have h3 := bl_le.1 (show bl a ≤ 63 by omega)
    have e2 : (2 : Nat) ^ 63 = 9223372036854775808 := by decide
    rw [e2] at h3
    omega
  · exact hge
theorem limbs_pos {w : World} {A : Option Addr} {c b : Nat} {ys : List Nat} (h : Limbs w A c ys b) (hb : 0 < b) : 0 < ys.length := by
  rcases Nat.eq_zero_or_pos ys.length with e | e
  · have := List.eq_nil_of_length_eq_zero e
    subst this
    have := h.2.2.2.2
    rw [Lm.val_nil] at this
    omega
  · exact e
theorem limbs_shorter {w w' : World} {A B : Option Addr} {c c' a b : Nat} {xs ys : List Nat} (h : Limbs w A c xs a) (h2 : Limbs w' B c' ys b) (hab : a ≤ b) : xs.length ≤ ys.length := by
  have := Lm.val_lt h2.2.2.1
  rw [h2.2.2.2.2] at this
  exact h.len (Nat.lt_of_le_of_lt hab this)
theorem limbs_two {w : World} {A : Option Addr} {c b : Nat} {ys : List Nat} (h : Limbs w A c ys b) (hl : ys.length ≤ 2) : b ≤ 18446744073709551615 := by
  have h1 := Lm.val_lt h.2.2.1
  rw [h.2.2.2.2] at h1
  have h2 : B32 ^ ys.length ≤ B32 ^ 2 := Nat.pow_le_pow_right B32_pos hl
  have e : B32 ^ 2 = 18446744073709551616 := by decide
  rw [e] at h2
  omega
def GcdAt (w : World) (g k : Nat) (av bv : Value) (wr : World) : Prop := ∃ (A : Option Addr) (c : Nat) (xs : List Nat) (a : Nat) (B : Option Addr) (c' : Nat) (ys : List Nat) (b : Nat),
  av = .slice A xs.length c ∧ bv = .slice B ys.length c' ∧ Limbs wr A c xs a ∧ Limbs wr B c' ys b ∧ b ≤ a ∧ xs.length ≤ 300000 ∧ Nat.gcd a b = g ∧ a + b = k ∧ Below w.heap.size w wr
theorem divisor_any (A : Option Addr) (c m : Nat) (xs : List Nat) (B : Option Addr) (c' n : Nat) (ys : List Nat) (w : World) (hx : Limbs w A c xs m) (hy : Limbs w B c' ys n) (hl : xs.length ≤ 300000) (hl' : ys.length ≤ 300000) :
    Calls Tryz.prog 119 #[.slice A xs.length c, .slice B ys.length c'] w fun e w' => IsLims w w' (Nat.gcd m n) e := by
  obtain ⟨g, hg⟩ : ∃ g, Nat.gcd m n = g := ⟨_, rfl⟩
  rw [hg]
  have HG := Lib.hid hg
  clear hg
  have H := Lib.hid (And.intro hx hy)
  clear hx hy
  go_enter Tryz.func119, Tryz.ntmps119
  go_wp2_with fail
  refine (clone_any A c xs w H.out.1.2.1 (by omega)).mono ?_
  intro e w1 hk1
  obtain ⟨A1, c1, rfl, hl1, hb1⟩ := limbs_cloned H.out.1 hk1
  clear hk1
  have hy1 := H.out.2.below hb1
  have H1 := Lib.hid (And.intro hl1 (And.intro hy1 hb1))
  clear hl1 hy1 hb1
  go_wp2_with fail
  refine (clone_any B c' ys w1 H1.out.2.1.2.1 (by omega)).mono ?_
  intro e w2 hk2
  obtain ⟨B1, d1, rfl, hl2, hb2⟩ := limbs_cloned H1.out.2.1 hk2
  clear hk2
  have H2 := Lib.hid (And.intro (H1.out.1.below hb2) (And.intro hl2 (below_then H1.out.2.2 hb2)))
  clear hl2 hb2
  obtain ⟨o, ho⟩ : ∃ o, ordOf m n = o := ⟨_, rfl⟩
  have hc := compare_limbs o H2.out.1 H2.out.2.1 (by omega) ho
  have HC := Lib.hid hc
  have HO := Lib.hid ho
  clear hc ho
  go_wp2_with fail
  refine HC.out.mono ?_
  rintro e w3 ⟨⟨k3, rfl⟩, rfl⟩
  go_upto_if 22 with fail
  go_cut [5, 6] (fun av bv wx => GcdAt w g (m + n) av bv wx)
  case first => as_aux_lemma =>
   have hA := H2.out.1.below ((Drew.mk w2 k3).below _)
   have hB := H2.out.2.1.below ((Drew.mk w2 k3).below _)
   by_cases hlt : o < 0
   · go_wp2
     go_meet
     refine ⟨B1, d1, ys, n, A1, c1, xs, m, rfl, rfl, hB, hA, ?_, hl', by rw [Nat.gcd_comm]; exact HG.out, by omega, ?_⟩
     · have := HO.out
       unfold ordOf at this
       split at this <;> omega
     · exact below_then H2.out.2.2 ((Drew.mk w2 k3).below _)
   · go_wp2
     go_meet
     refine ⟨A1, c1, xs, m, B1, d1, ys, n, rfl, rfl, hA, hB, ?_, hl, HG.out, rfl, ?_⟩
     · have := HO.out
       unfold ordOf at this
       split at this <;> omega
     · exact below_then H2.out.2.2 ((Drew.mk w2 k3).below _)
  case rest =>
   have HS := Lib.hid hcut
   clear hcut HC HO H1 H2
   go_wp2_with fail
   go_loopg [5, 6] (m + n) (fun k av bv wr => GcdAt w g k av bv wr)
   case atStart => exact HS.out
   case round =>
    obtain ⟨Ap, cp, ps, a, Bp, dp, qs, b, rfl, rfl, hap, hbp, hab, hpl, hgc, hk, hbw⟩ := hrel
    subst hk
    by_cases h2 : 2 < qs.length
    · have hi2 : (2 : Int) < (qs.length : Int) := by omega
      obtain ⟨hw64, hb0⟩ := wide_two hbp h2 hab
      have hql := limbs_shorter hbp hap hab
      have hp0 := limbs_pos hap (by omega)
      have HA := Lib.hid (lookAhead_any Ap cp a ps Bp dp b qs wr hap hbp (by omega) (by omega) hab hw64)
      have HP := Lib.hid (And.intro hap (And.intro hbp (And.intro hab (And.intro hgc (And.intro hbw hb0)))))
      clear hap hbp hab hgc hbw hb0 hw64
      go_wp2_with fail
      refine HA.out.mono ?_
      rintro e w1 ⟨hb1, a0, b0, a1, b1, odd, rfl, hgood⟩
      have HQ := Lib.hid (And.intro (HP.out.1.below hb1) (And.intro (HP.out.2.1.below hb1) (And.intro (below_then HP.out.2.2.2.2.1 hb1) hgood)))
      clear hb1 hgood
      unfold stepsV
      by_cases hbz : b0 ≠ 0
      · rw [decide_eq_true hbz]
        go_wp2_with fail
        have hbA : Below w1.heap.size w1 (w1.alloc (.cells #[.int .u64 a0, .int .u64 b0, .int .u64 a1, .int .u64 b1, .bool odd] 178)) := (Below.refl _ _).alloc (Nat.le_refl _) _
        have hbw2 := below_then HQ.out.2.2.1 hbA
        have hA2 := HQ.out.1.below hbA
        have hB2 := HQ.out.2.1.below hbA
        obtain ⟨X, Y, hgd⟩ := HQ.out.2.2.2 hbz
        have HB := Lib.hid (apply_any a0 b0 a1 b1 odd Ap cp a ps Bp dp b qs X Y _ hA2 hB2 (by omega) (by omega) (by omega) hp0 hgd)
        have HR := Lib.hid (And.intro hbw2 hgd)
        clear hbA hbw2 hA2 hB2 hgd
        refine HB.out.mono ?_
        rintro e w3 ⟨A3, c3, z3, A4, c4, z4, rfl, hl3, hl4, hb3⟩
        have hsh := limbs_shorter hl3 HP.out.2.1 HR.out.2.leB
        have HF := Lib.hid (And.intro hl3 (And.intro hl4 hb3))
        clear hl3 hl4 hb3
        go_wp2
        go_roundg (X + Y)
        case rel => exact ⟨A3, c3, z3, X, A4, c4, z4, Y, rfl, rfl, HF.out.1, HF.out.2.1, HR.out.2.le, by omega, HR.out.2.same.trans HP.out.2.2.2.1, rfl, below_then HR.out.1 HF.out.2.2⟩
        case measure => have := HR.out.2.less; omega
      · rw [decide_eq_false hbz]
        go_wp2_with fail
        have hbA : Below w1.heap.size w1 (w1.alloc (.cells #[.int .u64 a0, .int .u64 b0, .int .u64 a1, .int .u64 b1, .bool odd] 178)) := (Below.refl _ _).alloc (Nat.le_refl _) _
        have hbw2 := below_then HQ.out.2.2.1 hbA
        have hA2 := HQ.out.1.below hbA
        have hB2 := HQ.out.2.1.below hbA
        have HB := Lib.hid (divide_all Ap cp ps Bp dp qs a b _ hA2 hB2 hpl HP.out.2.2.2.2.2)
        have HR := Lib.hid (And.intro hbw2 hB2)
        clear hbA hbw2 hA2 hB2
        refine HB.out.mono ?_
        rintro e w3 ⟨Aq, cq, zq, Ar, cr, zr, rfl, hq3, hr3, hb3⟩
        have hmod := Nat.mod_lt a HP.out.2.2.2.2.2
        have HF := Lib.hid (And.intro (HR.out.2.below hb3) (And.intro hr3 (And.intro (below_then HR.out.1 hb3) hmod)))
        clear hq3 hr3 hb3 hmod
        go_wp2
        go_roundg (b + a % b)
        case rel => exact ⟨Bp, dp, qs, b, Ar, cr, zr, a % b, rfl, rfl, HF.out.1, HF.out.2.1, Nat.le_of_lt HF.out.2.2.2, by omega, (gcd_next a b).trans HP.out.2.2.2.1, rfl, HF.out.2.2.1⟩
        case measure => have := HF.out.2.2.2; have := HP.out.2.2.1; omega
    · have hi2 : ¬ (2 : Int) < (qs.length : Int) := by omega
      rcases Nat.eq_zero_or_pos qs.length with hq0 | hq0
      · obtain rfl := List.eq_nil_of_length_eq_zero hq0
        have hb0 : b = 0 := by have := hbp.2.2.2.2; rw [Lm.val_nil] at this; exact this.symm
        subst hb0
        rw [Nat.gcd_zero_right] at hgc
        subst hgc
        have HP := Lib.hid (And.intro hap hbw)
        have hl0 : (([] : List Nat).length : Int) = 0 := rfl
        clear hap hbp hab hbw
        go_wp2
        go_ret
        exact ⟨Ap, cp, ps, rfl, HP.out.1, HP.out.2⟩
      · have hne : ((qs.length : Int) == 0) = false := by rw [beq_eq_false_iff_ne]; omega
        have hb0 : 0 < b := by
          rcases Nat.eq_zero_or_pos b with e | e
          · subst e
            have := hbp.len (m := 0) (by decide)
            omega
          · exact e
        have HB := Lib.hid (divide_all Ap cp ps Bp dp qs a b wr hap hbp hpl hb0)
        have hbl := limbs_two hbp (by omega)
        have HP := Lib.hid (And.intro hbp (And.intro hgc (And.intro hbw (And.intro hb0 hbl))))
        clear hap hbp hab hgc hbw hb0 hbl
        go_wp2_with fail
        refine HB.out.mono ?_
        rintro e w3 ⟨Aq, cq, zq, Ar, cr, zr, rfl, hq3, hr3, hb3⟩
        have hmod := Nat.mod_lt a HP.out.2.2.2.1
        have hsh := limbs_shorter hr3 HP.out.1 (Nat.le_of_lt hmod)
        have L1 := low_any Bp dp b qs w3 (HP.out.1.below hb3) (by omega)
        have L2 := low_any Ar cr (a % b) zr w3 hr3 (by omega)
        obtain ⟨r, hr⟩ : ∃ r, a % b = r := ⟨_, rfl⟩
        have hgr : Nat.gcd b r = g := by rw [← hr, gcd_next]; exact HP.out.2.1
        rw [hr] at L2 hmod
        have HL := Lib.hid (And.intro L1 L2)
        have HF := Lib.hid (And.intro (below_then HP.out.2.2.1 hb3) (And.intro hmod hgr))
        clear hq3 hr3 hb3 hmod L1 L2 hr hgr
        go_wp2_with fail
        refine HL.out.1.mono ?_
        rintro e wl ⟨rfl, rfl⟩
        go_wp2_with fail
        refine HL.out.2.mono ?_
        rintro e wl ⟨rfl, rfl⟩
        go_wp2_with fail
        go_loopw [13, 14] (fun mv nv wx => ∃ i j : Nat, mv = .int .u64 i ∧ nv = .int .u64 j ∧ Nat.gcd i j = g ∧ i ≤ 18446744073709551615 ∧ j ≤ 18446744073709551615 ∧ Drew w3 wx) (fun _ nv _ => (intOf nv).toNat)
        case atStart => exact ⟨b, r, rfl, rfl, HF.out.2.2, HP.out.2.2.2.2, by have := HF.out.2.1; have := HP.out.2.2.2.2; omega, Drew.refl _⟩
        case round =>
         obtain ⟨i, j, rfl, rfl, hgc, hi, hj, hdr⟩ := hrel
         rcases Nat.eq_zero_or_pos j with hj0 | hj0
         · have hne2 : ((j : Int) != 0) = false := by subst hj0; rfl
           have hgi : i = g := by rw [hj0, Nat.gcd_zero_right] at hgc; exact hgc
           have HD := Lib.hid (And.intro hdr hgi)
           have HW := Lib.hid (word_any i wr (by omega))
           clear hdr hgc hgi
           go_wp2_with fail
           refine HW.out.mono ?_
           rintro e w4 ⟨A4, c4, z4, rfl, hl4, hb4⟩
           go_wp2
           go_ret
           exact ⟨A4, c4, z4, rfl, by rw [← HD.out.2]; exact hl4, below_then (below_then HF.out.1 (HD.out.1.below _)) hb4⟩
         · have hne2 : ((j : Int) != 0) = true := by rw [bne_iff_ne]; omega
           have hne3 : ¬ (j : Int) = 0 := by omega
           have hj1 : (1 : Int) ≤ (j : Int) := by omega
           obtain ⟨t, ht⟩ : ∃ t, i % j = t := ⟨_, rfl⟩
           have htj : t < j := by rw [← ht]; exact Nat.mod_lt _ hj0
           have t0 : (i : Int) % (j : Int) = (t : Int) := by rw [← Int.natCast_emod, ht]
           have HD := Lib.hid (And.intro hdr (And.intro (show Nat.gcd j t = g by rw [← ht, gcd_next]; exact hgc) htj))
           clear hdr hgc ht
           go_upto_region 15 with fail
           go_quiet (fail)
           go_wp2
           go_roundw
           case rel =>
            rw [t0]
            exact ⟨j, t, rfl, rfl, HD.out.2.1, hj, by omega, HD.out.1.more _⟩
           case measure =>
            have := HD.out.2.2
            rw [t0]
            simp [intOf]
            omega
end Go.Proofs.YtpgbnegppehckaaGreat
namespace Go.Proofs.YtpgbnegppehckaaGreat
open Go.RowKit
theorem gcd_fits {w : World} {A : Option Addr} {c m : Nat} {zs : List Nat} {x y : Nat} (h : Limbs w A c zs (Nat.gcd x y)) (hm : m ≤ 300000) (hx : x < B32 ^ m) (hy : y < B32 ^ m) : zs.length ≤ 1000000 := by
  have hg : Nat.gcd x y < B32 ^ m := by
    rcases Nat.eq_zero_or_pos x with e | e
    · rw [e, Nat.gcd_zero_left]; exact hy
    · exact Nat.lt_of_le_of_lt (Nat.gcd_le_left y e) hx
  have := h.len hg
  omega
theorem Gcd_any (v1 v2 : Value) (x y : Int) (m : Nat) (w : World) (h1 : IntAt w v1 x) (h2 : IntAt w v2 y) (hm : m ≤ 300000) (hx : x.natAbs < B32 ^ m) (hy : y.natAbs < B32 ^ m) :
    Calls Tryz.prog 76 #[v1, v2] w fun e w' => IsInt w w' ((Int.gcd x y : Nat) : Int) e := by
  obtain ⟨b1, A1, c1, zs1, rfl, hs1, hd1⟩ := h1
  obtain ⟨b2, A2, c2, zs2, rfl, hs2, hd2⟩ := h2
  have l1 := Nat.le_trans (hd1.len hx) hm
  have l2 := Nat.le_trans (hd2.len hy) hm
  have hb0 := begun2_below w (.bool b1) (.slice A1 zs1.length c1) (.bool b2) (.slice A2 zs2.length c2) 31
  have hT1 := begun2_x w (.bool b1) (.slice A1 zs1.length c1) (.bool b2) (.slice A2 zs2.length c2) 31
  have hT2 := begun2_y w (.bool b1) (.slice A1 zs1.length c1) (.bool b2) (.slice A2 zs2.length c2) 31
  have hR := begun2_r w (.bool b1) (.slice A1 zs1.length c1) (.bool b2) (.slice A2 zs2.length c2) 31
  have hsz := begun2_size w (.bool b1) (.slice A1 zs1.length c1) (.bool b2) (.slice A2 zs2.length c2) 31
  obtain ⟨W, hW⟩ : ∃ W, begun2 w (.bool b1) (.slice A1 zs1.length c1) (.bool b2) (.slice A2 zs2.length c2) 31 = W := ⟨_, rfl⟩
  rw [hW] at hb0 hT1 hT2 hR hsz
  unfold begun2 at hW
  have HD := Lib.hid (divisor_any A1 c1 x.natAbs zs1 A2 c2 y.natAbs zs2 W (hd1.below hb0) (hd2.below hb0) l1 l2)
  have H := Lib.hid (And.intro hb0 (And.intro hR (And.intro hsz (And.intro hx hy))))
  obtain ⟨p0, p1⟩ := id hT1
  obtain ⟨q0, q1⟩ := id hT2
  clear hb0 hT1 hT2 hR hsz hx hy hd1 hd2
  go_enter Tryz.func76, Tryz.ntmps76
  go_upto_region 1 with fail
  try rw [hW]
  clear hW
  go_wp2_with fail
  refine HD.out.mono ?_
  rintro e w1 ⟨A3, c3, z3, rfl, hl3, hb1⟩
  have hsg := signed_to false A3 c3 z3 ((Int.gcd x y : Nat) : Int) w1 hl3.2.1 hl3.2.2.1 (gcd_fits hl3 hm H.out.2.2.2.1 H.out.2.2.2.2) hl3.1 (by rw [hl3.2.2.2.2]; rfl)
  have HG := Lib.hid hsg
  have HB := Lib.hid (And.intro (H.out.2.1.step hb1 rfl (by rw [H.out.2.2.1]; omega)) (And.intro (below_then H.out.1 hb1) (Nat.le_trans (Nat.le_of_eq H.out.2.2.1.symm) hb1.size)))
  clear hsg hl3 hb1
  go_wp2_with fail
  refine HG.out.mono ?_
  rintro e w4 ⟨v4, rfl, ⟨b4, A4, c4, zs4, rfl, hsg4, hl4⟩, hb4⟩
  have r4 := HB.out.1.step hb4 rfl (by have := HB.out.2.2; omega)
  have b4' := below_then HB.out.2.1 hb4
  obtain ⟨⟨hr0, hr1⟩, hf0, hf1⟩ := id r4
  go_wp2
  have q := r4.1.stored (.bool b4) (.slice A4 zs4.length c4)
  obtain ⟨q0, q1⟩ := id q
  refine bodyPost_ret (v := .agg #[.bool b4, .slice A4 zs4.length c4]) (by simp [results, Tryz.results76, go_sem, q0, q1]) rfl ?_
  exact res_stored r4 hsg4 hl4 b4' (by omega)
end Go.Proofs.YtpgbnegppehckaaGreat
namespace Go.Proofs.YtpgbnegppehckaaGreat
open Go.RowKit
structure QW (w W : World) (b1 : Bool) (A1 : Option Addr) (n1 c1 : Nat) (b2 : Bool) (A2 : Option Addr) (n2 c2 : Nat) : Prop where
  x : Two W w.heap.size (.bool b1) (.slice A1 n1 c1)
  y : Two W (w.heap.size + 1) (.bool b2) (.slice A2 n2 c2)
  r : ResF W (w.heap.size + 2)
  fx : W.frozen? ⟨w.heap.size, 0, none⟩ = false ∧ W.frozen? ⟨w.heap.size, 1, none⟩ = false
  fy : W.frozen? ⟨w.heap.size + 1, 0, none⟩ = false ∧ W.frozen? ⟨w.heap.size + 1, 1, none⟩ = false
  below : Below w.heap.size w W
  size : w.heap.size + 3 ≤ W.heap.size
theorem QW.step {w W0 W w1 : World} {b1 : Bool} {A1 : Option Addr} {n1 c1 : Nat} {b2 : Bool} {A2 : Option Addr} {n2 c2 : Nat} (h : QW w W0 b1 A1 n1 c1 b2 A2 n2 c2) (hb : Below W.heap.size W w1)
    (hh : W.heap = W0.heap) (ho : W.os = W0.os) (ht : W.tape = W0.tape) (hu : W.output = W0.output) : QW w w1 b1 A1 n1 c1 b2 A2 n2 c2 := by
  have hz := h.size
  have e : ∀ p, W.frozen? p = W0.frozen? p := fun p => by simp [World.frozen?, hh]
  have k : ∀ r o, r < W0.heap.size → w1.frozen? ⟨r, o, none⟩ = W0.frozen? ⟨r, o, none⟩ := fun r o hr => (hb.frozen (p := ⟨r, o, none⟩) (by rw [hh]; exact hr)).trans (e _)
  exact ⟨h.x.step hb hh (by omega), h.y.step hb hh (by omega), h.r.step hb hh (by omega), ⟨(k _ 0 (by omega)).trans h.fx.1, (k _ 1 (by omega)).trans h.fx.2⟩, ⟨(k _ 0 (by omega)).trans h.fy.1, (k _ 1 (by omega)).trans h.fy.2⟩,
    begun_then h.below hb hh ho ht hu, by have := hb.size; rw [hh] at this; omega⟩
theorem QW.begin (w : World) (b1 : Bool) (A1 : Option Addr) (n1 c1 : Nat) (b2 : Bool) (A2 : Option Addr) (n2 c2 : Nat) :
    QW w (((w.alloc (.cells #[.bool b1, .slice A1 n1 c1] 31)).alloc (.cells #[.bool b2, .slice A2 n2 c2] 31)).alloc (.cells #[.bool false, .slice none 0 0, .bool false, .slice none 0 0] 38)) b1 A1 n1 c1 b2 A2 n2 c2 := by
  have hb1 := boxed2_below w (.cells #[.bool b1, .slice A1 n1 c1] 31) (.cells #[.bool b2, .slice A2 n2 c2] 31)
  have hb0 := hb1.alloc (by simp; omega) (.cells #[.bool false, .slice none 0 0, .bool false, .slice none 0 0] 38)
  have hX := ((Two.new w (.bool b1) (.slice A1 n1 c1) 31).alloc (by simp) (.cells #[.bool b2, .slice A2 n2 c2] 31)).alloc (by simp; omega) (.cells #[.bool false, .slice none 0 0, .bool false, .slice none 0 0] 38)
  have hY := (Two.new (w.alloc (.cells #[.bool b1, .slice A1 n1 c1] 31)) (.bool b2) (.slice A2 n2 c2) 31).alloc (by simp) (.cells #[.bool false, .slice none 0 0, .bool false, .slice none 0 0] 38)
  have hR := ResF.new ((w.alloc (.cells #[.bool b1, .slice A1 n1 c1] 31)).alloc (.cells #[.bool b2, .slice A2 n2 c2] 31)) 38
  rw [size_alloc] at hY
  rw [size_alloc, size_alloc] at hR
  refine ⟨hX, hY, hR, ?_, ?_, hb0, by simp⟩ <;> constructor <;> go_simp
structure Q7 (w W : World) (b1 : Bool) (A1 : Option Addr) (n1 c1 : Nat) (b2 : Bool) (A2 : Option Addr) (n2 c2 : Nat) (r : Nat) (b3 : Bool) (A3 : Option Addr) (n3 c3 : Nat) (x y g : Int) : Prop where
  q : QW w W b1 A1 n1 c1 b2 A2 n2 c2
  z : Two W r (.bool b3) (.slice A3 n3 c3)
  lt : r < W.heap.size
  ge : w.heap.size + 3 ≤ r
  ix : IntAt W (.agg #[.bool b1, .slice A1 n1 c1]) x
  iy : IntAt W (.agg #[.bool b2, .slice A2 n2 c2]) y
  ig : IntAt W (.agg #[.bool b3, .slice A3 n3 c3]) g
theorem Q7.step {w W0 W w1 : World} {b1 : Bool} {A1 : Option Addr} {n1 c1 : Nat} {b2 : Bool} {A2 : Option Addr} {n2 c2 r : Nat} {b3 : Bool} {A3 : Option Addr} {n3 c3 : Nat} {x y g : Int} (h : Q7 w W0 b1 A1 n1 c1 b2 A2 n2 c2 r b3 A3 n3 c3 x y g) (hb : Below W.heap.size W w1)
    (hh : W.heap = W0.heap) (ho : W.os = W0.os) (ht : W.tape = W0.tape) (hu : W.output = W0.output) : Q7 w w1 b1 A1 n1 c1 b2 A2 n2 c2 r b3 A3 n3 c3 x y g :=
  ⟨h.q.step hb hh ho ht hu, h.z.step hb hh h.lt, by have := hb.size; rw [hh] at this; have := h.lt; omega, h.ge, h.ix.step hb hh, h.iy.step hb hh, h.ig.step hb hh⟩
theorem qint_of {w : World} {b : Bool} {A : Option Addr} {c : Nat} {xs : List Nat} {z : Int} (s : SignOf b z) (l : Limbs w A c xs z.natAbs) : IntAt w (.agg #[.bool b, .slice A xs.length c]) z := ⟨b, A, c, xs, rfl, s, l⟩
theorem fit_gcd {x y : Int} {K : Nat} (h0 : y ≠ 0) (h : y.natAbs < K) : (((Int.gcd x y : Nat) : Int)).natAbs < K := by
  rw [Int.natAbs_natCast]
  exact Nat.lt_of_le_of_lt (Nat.le_of_dvd (by omega) (Nat.gcd_dvd_right ..)) h
theorem fit_den {n d : Int} {K : Nat} (h : d.natAbs < K) : (Qx.den n d).natAbs < K := by
  unfold Qx.den
  rw [Int.natAbs_tdiv]
  refine Nat.lt_of_le_of_lt (Nat.div_le_self _ _) ?_
  split
  · rw [Int.natAbs_neg]; exact h
  · exact h
theorem cell_past4 {w : World} {q r o : Nat} {v a b c d : Value} (hne : r ≠ q) (h : w.cell? ⟨q, o, none⟩ = some v) : ((((w.setCell ⟨r, 0, none⟩ a).setCell ⟨r, 1, none⟩ b).setCell ⟨r, 2, none⟩ c).setCell ⟨r, 3, none⟩ d).cell? ⟨q, o, none⟩ = some v :=
  (World.cell?_setCell_other _ _ _ _ (fun e => hne (by injection e))).trans ((World.cell?_setCell_other _ _ _ _ (fun e => hne (by injection e))).trans ((World.cell?_setCell_other _ _ _ _ (fun e => hne (by injection e))).trans ((World.cell?_setCell_other _ _ _ _ (fun e => hne (by injection e))).trans h)))
theorem gcd_ne {x y : Int} (h0 : y ≠ 0) : ((Int.gcd x y : Nat) : Int) ≠ 0 := by
  have := Qx.gcd_pos (n := x) h0
  omega
theorem QNew_zero (v1 v2 : Value) (n d : Int) (m : Nat) (w : World) (h1 : IntAt w v1 n) (h2 : IntAt w v2 d) (hm0 : 0 < m) (hm : m ≤ 300000) (hn : n.natAbs < B32 ^ m) (hd : d.natAbs < B32 ^ m) (h0 : d = 0) :
    Calls Tryz.prog 16 #[v1, v2] w fun e w' => IsRatE w w' 0 1 6 e := by
  obtain ⟨b1, A1, c1, xs1, rfl, s1, l1⟩ := h1
  obtain ⟨b2, A2, c2, xs2, rfl, s2, l2⟩ := h2
  have hq := QW.begin w b1 A1 xs1.length c1 b2 A2 xs2.length c2
  obtain ⟨W, hW⟩ : ∃ W : World, ((w.alloc (.cells #[.bool b1, .slice A1 xs1.length c1] 31)).alloc (.cells #[.bool b2, .slice A2 xs2.length c2] 31)).alloc (.cells #[.bool false, .slice none 0 0, .bool false, .slice none 0 0] 38) = W := ⟨_, rfl⟩
  rw [hW] at hq
  have i1 := qint_of s1 (l1.below hq.below)
  have i2 := qint_of s2 (l2.below hq.below)
  have hsg := Sign_any _ d m W i2 (by omega) hd
  rw [show d.sign = 0 from by rw [h0]; rfl] at hsg
  have H := Lib.hid (And.intro hsg (And.intro hq (And.intro i1 i2)))
  have HN := Lib.hid (And.intro hm0 (And.intro hm (And.intro hn (And.intro hd h0))))
  have HW := Lib.hid hW
  obtain ⟨py0, py1⟩ := id hq.y
  clear hsg hq i1 i2 hm0 hm hn hd h0 s1 l1 s2 l2 hW
  go_enter Tryz.func16, Tryz.ntmps16
  go_upto_region 1 with fail
  rw [HW.out]
  clear HW
  go_wp2_with fail
  refine H.out.1.mono ?_
  rintro e w1 ⟨rfl, hb1⟩
  have q1 := H.out.2.1.step hb1 rfl rfl rfl rfl
  have HQ := Lib.hid (And.intro q1 (And.intro (H.out.2.2.1.step hb1 rfl) (H.out.2.2.2.step hb1 rfl)))
  clear py0 py1 q1 hb1 H
  obtain ⟨⟨k0, k1, k2, k3⟩, f0, f1, f2, f3⟩ := id HQ.out.1.r
  go_wp2
  obtain ⟨q0, q1, q2, q3⟩ := Quad.put HQ.out.1.r.1 (.bool false) (.slice none 0 0) (.bool false) (.slice none 0 0)
  unfold put4 at q0 q1 q2 q3
  refine bodyPost_ret (v := .tuple #[.agg #[.bool false, .slice none 0 0, .bool false, .slice none 0 0], .int .i64 6]) (by simp [results, Tryz.results16, go_sem, q0, q1, q2, q3]) rfl ?_
  exact ratE_stored (n := 0) (d := 1) (xs1 := []) (xs2 := []) HQ.out.1.r (by simp [SignOf]) (limbs_zero _) (by simp [SignOf, kept]) (by simp [kept]; exact limbs_zero _) (low_one 0) HQ.out.1.below (by omega)
theorem QNew_pos (v1 v2 : Value) (n d : Int) (m : Nat) (w : World) (h1 : IntAt w v1 n) (h2 : IntAt w v2 d) (hm0 : 0 < m) (hm : m ≤ 300000) (hn : n.natAbs < B32 ^ m) (hd : d.natAbs < B32 ^ m) (h0 : 0 < d) :
    Calls Tryz.prog 16 #[v1, v2] w fun e w' => IsRatE w w' (Qx.num n d) (Qx.den n d) 0 e := by
  obtain ⟨b1, A1, c1, xs1, rfl, s1, l1⟩ := h1
  obtain ⟨b2, A2, c2, xs2, rfl, s2, l2⟩ := h2
  have hq := QW.begin w b1 A1 xs1.length c1 b2 A2 xs2.length c2
  obtain ⟨W, hW⟩ : ∃ W : World, ((w.alloc (.cells #[.bool b1, .slice A1 xs1.length c1] 31)).alloc (.cells #[.bool b2, .slice A2 xs2.length c2] 31)).alloc (.cells #[.bool false, .slice none 0 0, .bool false, .slice none 0 0] 38) = W := ⟨_, rfl⟩
  rw [hW] at hq
  have i1 := qint_of s1 (l1.below hq.below)
  have i2 := qint_of s2 (l2.below hq.below)
  have hsg := Sign_any _ d m W i2 (by omega) hd
  rw [show d.sign = 1 from Int.sign_eq_one_of_pos h0] at hsg
  have H := Lib.hid (And.intro hsg (And.intro hq (And.intro i1 i2)))
  have HN := Lib.hid (And.intro hm0 (And.intro hm (And.intro hn (And.intro hd h0))))
  have HW := Lib.hid hW
  obtain ⟨py0, py1⟩ := id hq.y
  clear hsg hq i1 i2 hm0 hm hn hd h0 s1 l1 s2 l2 hW
  go_enter Tryz.func16, Tryz.ntmps16
  go_upto_region 1 with fail
  rw [HW.out]
  clear HW
  go_wp2_with fail
  refine H.out.1.mono ?_
  rintro e w1 ⟨rfl, hb1⟩
  have q1 := H.out.2.1.step hb1 rfl rfl rfl rfl
  have HQ := Lib.hid (And.intro q1 (And.intro (H.out.2.2.1.step hb1 rfl) (H.out.2.2.2.step hb1 rfl)))
  clear py0 py1 q1 hb1 H
  have HA := Lib.hid (show ((Int.gcd n d : Nat) : Int) = ((Int.gcd n d : Nat) : Int) ∧ Int.tdiv n (Int.gcd n d : Nat) = Qx.num n d ∧ Int.tdiv d (Int.gcd n d : Nat) = Qx.den n d ∧ d ≠ 0 ∧ Int.natAbs n < B32 ^ m ∧ Int.natAbs d < B32 ^ m ∧ Qx.Low (Qx.num n d) (Qx.den n d) ∧ (Qx.den n d).natAbs < B32 ^ m from
    ⟨rfl, by unfold Qx.num; rw [if_neg (by have := HN.out.2.2.2.2; omega)], by unfold Qx.den; rw [if_neg (by have := HN.out.2.2.2.2; omega)], by have := HN.out.2.2.2.2; omega, HN.out.2.2.1, HN.out.2.2.2.1, Qx.low_of (by have := HN.out.2.2.2.2; omega), fit_den HN.out.2.2.2.1⟩)
  go_upto_region 6 with fail
  obtain ⟨px0, px1⟩ := id HQ.out.1.x
  obtain ⟨py0, py1⟩ := id HQ.out.1.y
  go_wp2_with fail
  refine (Gcd_any _ _ n d m _ HQ.out.2.1 HQ.out.2.2 HN.out.2.1 HA.out.2.2.2.2.1 HA.out.2.2.2.2.2.1).mono ?_
  rintro e w6 ⟨v6, rfl, ⟨b6, A6, c6, xs6, rfl, s6, l6⟩, hb6⟩
  have hal : Below w6.heap.size w6 (w6.alloc (.cells #[.bool b6, .slice A6 xs6.length c6] 31)) := (Below.refl _ _).alloc (Nat.le_refl _) _
  have h7 : Q7 w (w6.alloc (.cells #[.bool b6, .slice A6 xs6.length c6] 31)) b1 A1 xs1.length c1 b2 A2 xs2.length c2 w6.heap.size b6 A6 xs6.length c6 n d ((Int.gcd n d : Nat) : Int) :=
    ⟨(HQ.out.1.step hb6 rfl rfl rfl rfl).step hal rfl rfl rfl rfl, Two.new w6 _ _ _, by simp, (HQ.out.1.step hb6 rfl rfl rfl rfl).size, (HQ.out.2.1.step hb6 rfl).step hal rfl, (HQ.out.2.2.step hb6 rfl).step hal rfl, qint_of s6 (l6.step hal rfl)⟩
  obtain ⟨W7, hW7⟩ : ∃ W7 : World, W7 = w6.alloc (.cells #[.bool b6, .slice A6 xs6.length c6] 31) := ⟨_, rfl⟩
  obtain ⟨r, hr⟩ : ∃ r : Nat, r = w6.heap.size := ⟨_, rfl⟩
  rw [← hW7, ← hr] at h7
  have H7 := Lib.hid h7
  have HW7 := Lib.hid hW7
  have HR := Lib.hid hr
  clear h7 hW7 hr hal s6 l6 hb6 px0 px1 py0 py1 HQ
  go_upto_region 7 with fail
  rw [← HW7.out, ← HR.out]
  clear HW7 HR
  have tok2 : True := trivial
  obtain ⟨px0, px1⟩ := id H7.out.q.x
  obtain ⟨py0, py1⟩ := id H7.out.q.y
  obtain ⟨pz0, pz1⟩ := id H7.out.z
  go_region_held3 (fun w' => (w'.cell? ⟨w.heap.size, 0, none⟩ = some (.bool b1) ∧ w'.cell? ⟨w.heap.size, 1, none⟩ = some (.slice A1 xs1.length c1)) ∧ (w'.cell? ⟨w.heap.size + 1, 0, none⟩ = some (.bool b2) ∧ w'.cell? ⟨w.heap.size + 1, 1, none⟩ = some (.slice A2 xs2.length c2)) ∧ (w'.cell? ⟨r, 0, none⟩ = some (.bool b6) ∧ w'.cell? ⟨r, 1, none⟩ = some (.slice A6 xs6.length c6)))
    (((try dsimp only); (repeat' apply And.intro) <;> (first | (with_reducible assumption) | (with_reducible refine cell_past4 ?_ ?_; omega; with_reducible assumption) | go_keep)))
    ((first
      | (have _t := tok2; go_at_call 78; refine (exact_any _ _ n ((Int.gcd n d : Nat) : Int) (Qx.num n d) m _ (by exact (H7.out.ix.step (Below.refl _ _) rfl)) (by exact (H7.out.ig.step (Below.refl _ _) rfl)) HN.out.2.1 HA.out.2.2.2.2.1 (fit_gcd HA.out.2.2.2.1 HA.out.2.2.2.2.2.1) (gcd_ne HA.out.2.2.2.1) HA.out.2.1).mono ?_; rintro e w8 ⟨v8, rfl, ⟨b8, A8, c8, xs8, rfl, s8, l8⟩, hb8⟩; have q8 := H7.out.step hb8 rfl rfl rfl rfl; have i8 := qint_of s8 l8; obtain ⟨pa0, pa1⟩ := id q8.q.x; obtain ⟨pb0, pb1⟩ := id q8.q.y; obtain ⟨pc0, pc1⟩ := id q8.z; clear tok2 s8 l8 hb8)
      | (go_at_call 78; refine (exact_any _ _ d ((Int.gcd n d : Nat) : Int) (Qx.den n d) m _ (by exact q8.iy) (by exact q8.ig) HN.out.2.1 HA.out.2.2.2.2.2.1 (fit_gcd HA.out.2.2.2.1 HA.out.2.2.2.2.2.1) (gcd_ne HA.out.2.2.2.1) HA.out.2.2.1).mono ?_; rintro e w9 ⟨v9, rfl, ⟨b9, A9, c9, xs9, rfl, s9, l9⟩, hb9⟩; have q9 := q8.step hb9 rfl rfl rfl rfl; have i9 := i8.step hb9 rfl; have j9 := qint_of s9 l9; obtain ⟨pd0, pd1⟩ := id q9.q.x; obtain ⟨pe0, pe1⟩ := id q9.q.y; obtain ⟨pf0, pf1⟩ := id q9.z; clear s9 l9 hb9 q8 i8 pa0 pa1 pb0 pb1 pc0 pc1)
      | (go_at_call 77; refine (lowest_any _ _ (Qx.num n d) (Qx.den n d) m _ (by exact i9) (by exact j9) HN.out.1 HN.out.2.1 HA.out.2.2.2.2.2.2.2 HA.out.2.2.2.2.2.2.1).mono ?_; rintro e w10 ⟨v10, rfl, ⟨bn, An, cn, xn, bd, Ad, cd, xd, rfl, sn, ln, sd, ld, lo⟩, hb10⟩; have q10 := q9.step hb10 rfl rfl rfl rfl; obtain ⟨pg0, pg1⟩ := id q10.q.x; obtain ⟨ph0, ph1⟩ := id q10.q.y; obtain ⟨pk0, pk1⟩ := id q10.z; obtain ⟨⟨k0, k1, k2, k3⟩, f0, f1, f2, f3⟩ := id q10.q.r; have hne : w.heap.size + 2 ≠ r := (by have := q10.ge; omega); have HF := Lib.hid (And.intro q10 (And.intro sn (And.intro ln (And.intro sd (And.intro ld lo))))); clear q9 i9 j9 hb10 pd0 pd1 pe0 pe1 pf0 pf1 q10 sn ln sd ld lo)))
  have HF := HF
  go_wp2
  obtain ⟨q0, q1, q2, q3⟩ := Quad.put HF.out.1.q.r.1 (.bool bn) (.slice An xn.length cn) (.bool bd) (.slice Ad xd.length cd)
  unfold put4 at q0 q1 q2 q3
  refine bodyPost_ret (v := .tuple #[.agg #[.bool bn, .slice An xn.length cn, .bool bd, .slice Ad xd.length cd], .int .i64 0]) (by simp [results, Tryz.results16, go_sem, q0, q1, q2, q3]) rfl ?_
  exact ratE_stored HF.out.1.q.r HF.out.2.1 HF.out.2.2.1 HF.out.2.2.2.1 HF.out.2.2.2.2.1 HF.out.2.2.2.2.2 HF.out.1.q.below (by omega)
theorem frz2 (W : World) (q p : Addr) (u : Value) : (W.setCell p u).frozen? q = W.frozen? q := by go_simp
theorem Quad.far2 {w : World} {h r : Nat} {a b c d : Value} (t : Quad w h a b c d) (hne : r ≠ h) (u v : Value) : Quad ((w.setCell ⟨r, 0, none⟩ u).setCell ⟨r, 1, none⟩ v) h a b c d := by
  have k : ∀ o, ((w.setCell ⟨r, 0, none⟩ u).setCell ⟨r, 1, none⟩ v).cell? ⟨h, o, none⟩ = w.cell? ⟨h, o, none⟩ := fun o =>
    (World.cell?_setCell_other _ _ _ _ (fun e => hne (by injection e))).trans (World.cell?_setCell_other _ _ _ _ (fun e => hne (by injection e)))
  exact ⟨(k 0).trans t.c0, (k 1).trans t.c1, (k 2).trans t.c2, (k 3).trans t.c3⟩
theorem ResF.far2 {w : World} {h r : Nat} (t : ResF w h) (hne : r ≠ h) (u v : Value) : ResF ((w.setCell ⟨r, 0, none⟩ u).setCell ⟨r, 1, none⟩ v) h :=
  ⟨t.1.far2 hne u v, by rw [frz2, frz2]; exact t.2.1, by rw [frz2, frz2]; exact t.2.2.1, by rw [frz2, frz2]; exact t.2.2.2.1, by rw [frz2, frz2]; exact t.2.2.2.2⟩
theorem IntAt.past2 {W : World} {v : Value} {z : Int} (h : IntAt W v z) {r : Nat} {b : Bool} {A : Option Addr} {n c : Nat} (t : Two W r (.bool b) (.slice A n c)) (u x : Value) : IntAt ((W.setCell ⟨r, 0, none⟩ u).setCell ⟨r, 1, none⟩ x) v z := by
  obtain ⟨b0, A0, c0, zs, e, hs, hl⟩ := h
  have h0 := t.1; have h1 := t.2
  refine ⟨b0, A0, c0, zs, e, hs, hl.1, (hl.2.1.store h0 (fun _ e => by cases e) u).store (u := .slice A n c) ?_ (fun _ e => by cases e) x, hl.2.2⟩
  go_simp
theorem QW.put22 {w W : World} {b1 : Bool} {A1 : Option Addr} {n1 c1 : Nat} {b2 : Bool} {A2 : Option Addr} {n2 c2 : Nat} (h : QW w W b1 A1 n1 c1 b2 A2 n2 c2) (b3 : Bool) (A3 : Option Addr) (n3 c3 : Nat) (b4 : Bool) (A4 : Option Addr) (n4 c4 : Nat) :
    QW w ((((W.setCell ⟨w.heap.size, 0, none⟩ (.bool b3)).setCell ⟨w.heap.size, 1, none⟩ (.slice A3 n3 c3)).setCell ⟨w.heap.size + 1, 0, none⟩ (.bool b4)).setCell ⟨w.heap.size + 1, 1, none⟩ (.slice A4 n4 c4)) b3 A3 n3 c3 b4 A4 n4 c4 := by
  refine ⟨(h.x.stored _ _).far (by omega) _ _, (h.y.far (by omega) _ _).stored _ _, (h.r.far2 (by omega) _ _).far2 (by omega) _ _, ⟨?_, ?_⟩, ⟨?_, ?_⟩,
    (((h.below.setCell (p := ⟨w.heap.size, 0, none⟩) (Nat.le_refl _) _).setCell (p := ⟨w.heap.size, 1, none⟩) (Nat.le_refl _) _).setCell (p := ⟨w.heap.size + 1, 0, none⟩) (Nat.le_succ _) _).setCell (p := ⟨w.heap.size + 1, 1, none⟩) (Nat.le_succ _) _, ?_⟩
  · rw [frz2, frz2, frz2, frz2]; exact h.fx.1
  · rw [frz2, frz2, frz2, frz2]; exact h.fx.2
  · rw [frz2, frz2, frz2, frz2]; exact h.fy.1
  · rw [frz2, frz2, frz2, frz2]; exact h.fy.2
  · have := h.size; simp [World.setCell]; exact this
theorem QW.int22 {w W : World} {b1 : Bool} {A1 : Option Addr} {n1 c1 : Nat} {b2 : Bool} {A2 : Option Addr} {n2 c2 : Nat} (h : QW w W b1 A1 n1 c1 b2 A2 n2 c2) {v : Value} {z : Int} (hv : IntAt W v z) (b3 : Bool) (A3 : Option Addr) (n3 c3 : Nat) (b4 : Bool) (A4 : Option Addr) (n4 c4 : Nat) :
    IntAt ((((W.setCell ⟨w.heap.size, 0, none⟩ (.bool b3)).setCell ⟨w.heap.size, 1, none⟩ (.slice A3 n3 c3)).setCell ⟨w.heap.size + 1, 0, none⟩ (.bool b4)).setCell ⟨w.heap.size + 1, 1, none⟩ (.slice A4 n4 c4)) v z :=
  (hv.past2 h.x _ _).past2 (h.y.far (by omega) _ _) _ _
theorem QNew_neg (v1 v2 : Value) (n d : Int) (m : Nat) (w : World) (h1 : IntAt w v1 n) (h2 : IntAt w v2 d) (hm0 : 0 < m) (hm : m ≤ 300000) (hn : n.natAbs < B32 ^ m) (hd : d.natAbs < B32 ^ m) (h0 : d < 0) :
    Calls Tryz.prog 16 #[v1, v2] w fun e w' => IsRatE w w' (Qx.num n d) (Qx.den n d) 0 e := by
  obtain ⟨b1, A1, c1, xs1, rfl, s1, l1⟩ := h1
  obtain ⟨b2, A2, c2, xs2, rfl, s2, l2⟩ := h2
  have hq := QW.begin w b1 A1 xs1.length c1 b2 A2 xs2.length c2
  obtain ⟨W, hW⟩ : ∃ W : World, ((w.alloc (.cells #[.bool b1, .slice A1 xs1.length c1] 31)).alloc (.cells #[.bool b2, .slice A2 xs2.length c2] 31)).alloc (.cells #[.bool false, .slice none 0 0, .bool false, .slice none 0 0] 38) = W := ⟨_, rfl⟩
  rw [hW] at hq
  have i1 := qint_of s1 (l1.below hq.below)
  have i2 := qint_of s2 (l2.below hq.below)
  have hsg := Sign_any _ d m W i2 (by omega) hd
  rw [show d.sign = (-1) from Int.sign_eq_neg_one_of_neg h0] at hsg
  have H := Lib.hid (And.intro hsg (And.intro hq (And.intro i1 i2)))
  have HN := Lib.hid (And.intro hm0 (And.intro hm (And.intro hn (And.intro hd h0))))
  have HW := Lib.hid hW
  obtain ⟨py0, py1⟩ := id hq.y
  clear hsg hq i1 i2 hm0 hm hn hd h0 s1 l1 s2 l2 hW
  go_enter Tryz.func16, Tryz.ntmps16
  go_upto_region 1 with fail
  rw [HW.out]
  clear HW
  go_wp2_with fail
  refine H.out.1.mono ?_
  rintro e w1 ⟨rfl, hb1⟩
  have q1 := H.out.2.1.step hb1 rfl rfl rfl rfl
  have HQ := Lib.hid (And.intro q1 (And.intro (H.out.2.2.1.step hb1 rfl) (H.out.2.2.2.step hb1 rfl)))
  clear py0 py1 q1 hb1 H
  go_upto_block 0 with fail
  go_cut [] (fun wx => ∃ b1 A1 c1 xs1 b2 A2 c2 xs2, QW w wx b1 A1 (List.length xs1) c1 b2 A2 (List.length xs2) c2 ∧ IntAt wx (.agg #[.bool b1, .slice A1 (List.length xs1) c1]) (-n) ∧ IntAt wx (.agg #[.bool b2, .slice A2 (List.length xs2) c2]) (-d))
  case first => as_aux_lemma =>
   go_upto_region 5 with fail
   obtain ⟨px0, px1⟩ := id HQ.out.1.x
   obtain ⟨py0, py1⟩ := id HQ.out.1.y
   obtain ⟨⟨fx0, fx1⟩, fy0, fy1⟩ := And.intro HQ.out.1.fx HQ.out.1.fy
   have hm6 : m ≤ 1000000 := by have := HN.out.2.1; omega
   have HM := Lib.hid hm6
   clear hm6
   go_region_with (first
     | (go_at_call_of 62 b1; refine (Neg_any _ n m _ (by exact (HQ.out.2.1.step (Below.refl _ _) rfl)) HN.out.2.2.1 HM.out).mono ?_; rintro e w3 ⟨v3, rfl, ⟨b3, A3, c3, xs3, rfl, s3, l3⟩, hb3⟩; have q3 := HQ.out.1.step hb3 rfl rfl rfl rfl; have j3 := HQ.out.2.2.step hb3 rfl; have i3 := qint_of s3 l3; obtain ⟨px0, px1⟩ := id q3.x; obtain ⟨py0, py1⟩ := id q3.y)
     | (go_at_call_of 62 b2; refine (Neg_any _ d m _ (by exact (j3.step (Below.refl _ _) rfl)) HN.out.2.2.2.1 HM.out).mono ?_; rintro e w4 ⟨v4, rfl, ⟨b4, A4, c4, xs4, rfl, s4, l4⟩, hb4⟩; have q4 := q3.step hb4 rfl rfl rfl rfl; have i4 := i3.step hb4 rfl; have j4 := qint_of s4 l4; obtain ⟨pa0, pa1⟩ := id q4.x; obtain ⟨pb0, pb1⟩ := id q4.y; obtain ⟨⟨fa0, fa1⟩, fb0, fb1⟩ := And.intro q4.fx q4.fy))
   all_goals (go_wp2_with fail; go_meet; exact ⟨b3, A3, c3, xs3, b4, A4, c4, xs4, q4.put22 b3 A3 xs3.length c3 b4 A4 xs4.length c4, q4.int22 i4 b3 A3 xs3.length c3 b4 A4 xs4.length c4, q4.int22 j4 b3 A3 xs3.length c3 b4 A4 xs4.length c4⟩)
  case rest =>
  obtain ⟨b1, A1, c1, xs1, b2, A2, c2, xs2, hq5, hi5, hj5⟩ := hcut
  have HQ5 := Lib.hid (And.intro hq5 (And.intro hi5 hj5))
  clear hq5 hi5 hj5
  have HA := Lib.hid (show ((Int.gcd (-n) (-d) : Nat) : Int) = ((Int.gcd (-n) (-d) : Nat) : Int) ∧ Int.tdiv (-n) (Int.gcd (-n) (-d) : Nat) = Qx.num n d ∧ Int.tdiv (-d) (Int.gcd (-n) (-d) : Nat) = Qx.den n d ∧ (-d) ≠ 0 ∧ Int.natAbs (-n) < B32 ^ m ∧ Int.natAbs (-d) < B32 ^ m ∧ Qx.Low (Qx.num n d) (Qx.den n d) ∧ (Qx.den n d).natAbs < B32 ^ m from
    ⟨rfl, by unfold Qx.num; rw [if_pos (by have := HN.out.2.2.2.2; omega), Int.neg_gcd, Int.gcd_neg], by unfold Qx.den; rw [if_pos (by have := HN.out.2.2.2.2; omega), Int.neg_gcd, Int.gcd_neg], by have := HN.out.2.2.2.2; omega, by rw [Int.natAbs_neg]; exact HN.out.2.2.1, by rw [Int.natAbs_neg]; exact HN.out.2.2.2.1, Qx.low_of (by have := HN.out.2.2.2.2; omega), fit_den HN.out.2.2.2.1⟩)
  go_upto_region 6 with fail
  obtain ⟨px0, px1⟩ := id HQ5.out.1.x
  obtain ⟨py0, py1⟩ := id HQ5.out.1.y
  go_wp2_with fail
  refine (Gcd_any _ _ (-n) (-d) m _ HQ5.out.2.1 HQ5.out.2.2 HN.out.2.1 HA.out.2.2.2.2.1 HA.out.2.2.2.2.2.1).mono ?_
  rintro e w6 ⟨v6, rfl, ⟨b6, A6, c6, xs6, rfl, s6, l6⟩, hb6⟩
  have hal : Below w6.heap.size w6 (w6.alloc (.cells #[.bool b6, .slice A6 xs6.length c6] 31)) := (Below.refl _ _).alloc (Nat.le_refl _) _
  have h7 : Q7 w (w6.alloc (.cells #[.bool b6, .slice A6 xs6.length c6] 31)) b1 A1 xs1.length c1 b2 A2 xs2.length c2 w6.heap.size b6 A6 xs6.length c6 (-n) (-d) ((Int.gcd (-n) (-d) : Nat) : Int) :=
    ⟨(HQ5.out.1.step hb6 rfl rfl rfl rfl).step hal rfl rfl rfl rfl, Two.new w6 _ _ _, by simp, (HQ5.out.1.step hb6 rfl rfl rfl rfl).size, (HQ5.out.2.1.step hb6 rfl).step hal rfl, (HQ5.out.2.2.step hb6 rfl).step hal rfl, qint_of s6 (l6.step hal rfl)⟩
  obtain ⟨W7, hW7⟩ : ∃ W7 : World, W7 = w6.alloc (.cells #[.bool b6, .slice A6 xs6.length c6] 31) := ⟨_, rfl⟩
  obtain ⟨r, hr⟩ : ∃ r : Nat, r = w6.heap.size := ⟨_, rfl⟩
  rw [← hW7, ← hr] at h7
  have H7 := Lib.hid h7
  have HW7 := Lib.hid hW7
  have HR := Lib.hid hr
  clear h7 hW7 hr hal s6 l6 hb6 px0 px1 py0 py1 HQ5
  go_upto_region 7 with fail
  rw [← HW7.out, ← HR.out]
  clear HW7 HR
  have tok2 : True := trivial
  obtain ⟨px0, px1⟩ := id H7.out.q.x
  obtain ⟨py0, py1⟩ := id H7.out.q.y
  obtain ⟨pz0, pz1⟩ := id H7.out.z
  go_region_held3 (fun w' => (w'.cell? ⟨w.heap.size, 0, none⟩ = some (.bool b1) ∧ w'.cell? ⟨w.heap.size, 1, none⟩ = some (.slice A1 xs1.length c1)) ∧ (w'.cell? ⟨w.heap.size + 1, 0, none⟩ = some (.bool b2) ∧ w'.cell? ⟨w.heap.size + 1, 1, none⟩ = some (.slice A2 xs2.length c2)) ∧ (w'.cell? ⟨r, 0, none⟩ = some (.bool b6) ∧ w'.cell? ⟨r, 1, none⟩ = some (.slice A6 xs6.length c6)))
    (((try dsimp only); (repeat' apply And.intro) <;> (first | (with_reducible assumption) | (with_reducible refine cell_past4 ?_ ?_; omega; with_reducible assumption) | go_keep)))
    ((first
      | (have _t := tok2; go_at_call 78; refine (exact_any _ _ (-n) ((Int.gcd (-n) (-d) : Nat) : Int) (Qx.num n d) m _ (by exact (H7.out.ix.step (Below.refl _ _) rfl)) (by exact (H7.out.ig.step (Below.refl _ _) rfl)) HN.out.2.1 HA.out.2.2.2.2.1 (fit_gcd HA.out.2.2.2.1 HA.out.2.2.2.2.2.1) (gcd_ne HA.out.2.2.2.1) HA.out.2.1).mono ?_; rintro e w8 ⟨v8, rfl, ⟨b8, A8, c8, xs8, rfl, s8, l8⟩, hb8⟩; have q8 := H7.out.step hb8 rfl rfl rfl rfl; have i8 := qint_of s8 l8; obtain ⟨pa0, pa1⟩ := id q8.q.x; obtain ⟨pb0, pb1⟩ := id q8.q.y; obtain ⟨pc0, pc1⟩ := id q8.z; clear tok2 s8 l8 hb8)
      | (go_at_call 78; refine (exact_any _ _ (-d) ((Int.gcd (-n) (-d) : Nat) : Int) (Qx.den n d) m _ (by exact q8.iy) (by exact q8.ig) HN.out.2.1 HA.out.2.2.2.2.2.1 (fit_gcd HA.out.2.2.2.1 HA.out.2.2.2.2.2.1) (gcd_ne HA.out.2.2.2.1) HA.out.2.2.1).mono ?_; rintro e w9 ⟨v9, rfl, ⟨b9, A9, c9, xs9, rfl, s9, l9⟩, hb9⟩; have q9 := q8.step hb9 rfl rfl rfl rfl; have i9 := i8.step hb9 rfl; have j9 := qint_of s9 l9; obtain ⟨pd0, pd1⟩ := id q9.q.x; obtain ⟨pe0, pe1⟩ := id q9.q.y; obtain ⟨pf0, pf1⟩ := id q9.z; clear s9 l9 hb9 q8 i8 pa0 pa1 pb0 pb1 pc0 pc1)
      | (go_at_call 77; refine (lowest_any _ _ (Qx.num n d) (Qx.den n d) m _ (by exact i9) (by exact j9) HN.out.1 HN.out.2.1 HA.out.2.2.2.2.2.2.2 HA.out.2.2.2.2.2.2.1).mono ?_; rintro e w10 ⟨v10, rfl, ⟨bn, An, cn, xn, bd, Ad, cd, xd, rfl, sn, ln, sd, ld, lo⟩, hb10⟩; have q10 := q9.step hb10 rfl rfl rfl rfl; obtain ⟨pg0, pg1⟩ := id q10.q.x; obtain ⟨ph0, ph1⟩ := id q10.q.y; obtain ⟨pk0, pk1⟩ := id q10.z; obtain ⟨⟨k0, k1, k2, k3⟩, f0, f1, f2, f3⟩ := id q10.q.r; have hne : w.heap.size + 2 ≠ r := (by have := q10.ge; omega); have HF := Lib.hid (And.intro q10 (And.intro sn (And.intro ln (And.intro sd (And.intro ld lo))))); clear q9 i9 j9 hb10 pd0 pd1 pe0 pe1 pf0 pf1 q10 sn ln sd ld lo)))
  have HF := HF
  go_wp2
  obtain ⟨q0, q1, q2, q3⟩ := Quad.put HF.out.1.q.r.1 (.bool bn) (.slice An xn.length cn) (.bool bd) (.slice Ad xd.length cd)
  unfold put4 at q0 q1 q2 q3
  refine bodyPost_ret (v := .tuple #[.agg #[.bool bn, .slice An xn.length cn, .bool bd, .slice Ad xd.length cd], .int .i64 0]) (by simp [results, Tryz.results16, go_sem, q0, q1, q2, q3]) rfl ?_
  exact ratE_stored HF.out.1.q.r HF.out.2.1 HF.out.2.2.1 HF.out.2.2.2.1 HF.out.2.2.2.2.1 HF.out.2.2.2.2.2 HF.out.1.q.below (by omega)
end Go.Proofs.YtpgbnegppehckaaGreat
namespace Go.Proofs.YtpgbnegppehckaaGreat
open Go.RowKit
structure QC (w W : World) (b1 : Bool) (A1 : Option Addr) (n1 c1 : Nat) (b2 : Bool) (A2 : Option Addr) (n2 c2 : Nat) (b3 : Bool) (A3 : Option Addr) (n3 c3 : Nat) (b4 : Bool) (A4 : Option Addr) (n4 c4 : Nat) (x d y e : Int) : Prop where
  qx : Quad W w.heap.size (.bool b1) (.slice A1 n1 c1) (.bool b2) (.slice A2 n2 c2)
  qy : Quad W (w.heap.size + 1) (.bool b3) (.slice A3 n3 c3) (.bool b4) (.slice A4 n4 c4)
  rx : RatAt W (.agg #[.bool b1, .slice A1 n1 c1, .bool b2, .slice A2 n2 c2]) x d
  ry : RatAt W (.agg #[.bool b3, .slice A3 n3 c3, .bool b4, .slice A4 n4 c4]) y e
  ix : IntAt W (.agg #[.bool b1, .slice A1 n1 c1]) x
  iy : IntAt W (.agg #[.bool b3, .slice A3 n3 c3]) y
  below : Below w.heap.size w W
  size : w.heap.size + 2 ≤ W.heap.size
theorem QC.step {w W0 W w1 : World} {b1 : Bool} {A1 : Option Addr} {n1 c1 : Nat} {b2 : Bool} {A2 : Option Addr} {n2 c2 : Nat} {b3 : Bool} {A3 : Option Addr} {n3 c3 : Nat} {b4 : Bool} {A4 : Option Addr} {n4 c4 : Nat} {x d y e : Int}
    (h : QC w W0 b1 A1 n1 c1 b2 A2 n2 c2 b3 A3 n3 c3 b4 A4 n4 c4 x d y e) (hb : Below W.heap.size W w1)
    (hh : W.heap = W0.heap) (ho : W.os = W0.os) (ht : W.tape = W0.tape) (hu : W.output = W0.output) : QC w w1 b1 A1 n1 c1 b2 A2 n2 c2 b3 A3 n3 c3 b4 A4 n4 c4 x d y e := by
  have hz := h.size
  exact ⟨h.qx.step hb hh (by omega), h.qy.step hb hh (by omega), h.rx.step hb hh, h.ry.step hb hh, h.ix.step hb hh, h.iy.step hb hh, begun_then h.below hb hh ho ht hu, by have := hb.size; rw [hh] at this; omega⟩
theorem QC.alloc {w W : World} {b1 : Bool} {A1 : Option Addr} {n1 c1 : Nat} {b2 : Bool} {A2 : Option Addr} {n2 c2 : Nat} {b3 : Bool} {A3 : Option Addr} {n3 c3 : Nat} {b4 : Bool} {A4 : Option Addr} {n4 c4 : Nat} {x d y e : Int}
    (h : QC w W b1 A1 n1 c1 b2 A2 n2 c2 b3 A3 n3 c3 b4 A4 n4 c4 x d y e) (o : Obj) : QC w (W.alloc o) b1 A1 n1 c1 b2 A2 n2 c2 b3 A3 n3 c3 b4 A4 n4 c4 x d y e :=
  h.step ((Below.refl _ _).alloc (Nat.le_refl _) o) rfl rfl rfl rfl
theorem QC.begin (w : World) {b1 : Bool} {A1 : Option Addr} {c1 : Nat} {xs1 : List Nat} {b2 : Bool} {A2 : Option Addr} {c2 : Nat} {xs2 : List Nat} {b3 : Bool} {A3 : Option Addr} {c3 : Nat} {xs3 : List Nat} {b4 : Bool} {A4 : Option Addr} {c4 : Nat} {xs4 : List Nat} {x d y e : Int}
    (s1 : SignOf b1 x) (l1 : Limbs w A1 c1 xs1 x.natAbs) (s2 : SignOf b2 (kept d)) (l2 : Limbs w A2 c2 xs2 (kept d).natAbs) (lo : Qx.Low x d) (s3 : SignOf b3 y) (l3 : Limbs w A3 c3 xs3 y.natAbs) (s4 : SignOf b4 (kept e)) (l4 : Limbs w A4 c4 xs4 (kept e).natAbs) (lo' : Qx.Low y e) (t : TypeId) :
    QC w ((w.alloc (.cells #[.bool b1, .slice A1 xs1.length c1, .bool b2, .slice A2 xs2.length c2] t)).alloc (.cells #[.bool b3, .slice A3 xs3.length c3, .bool b4, .slice A4 xs4.length c4] t)) b1 A1 xs1.length c1 b2 A2 xs2.length c2 b3 A3 xs3.length c3 b4 A4 xs4.length c4 x d y e := by
  have hb := boxed2_below w (.cells #[.bool b1, .slice A1 xs1.length c1, .bool b2, .slice A2 xs2.length c2] t) (.cells #[.bool b3, .slice A3 xs3.length c3, .bool b4, .slice A4 xs4.length c4] t)
  have hx := (Quad.new w (.bool b1) (.slice A1 xs1.length c1) (.bool b2) (.slice A2 xs2.length c2) t).alloc (by simp) (.cells #[.bool b3, .slice A3 xs3.length c3, .bool b4, .slice A4 xs4.length c4] t)
  have hy := Quad.new (w.alloc (.cells #[.bool b1, .slice A1 xs1.length c1, .bool b2, .slice A2 xs2.length c2] t)) (.bool b3) (.slice A3 xs3.length c3) (.bool b4) (.slice A4 xs4.length c4) t
  rw [size_alloc] at hy
  exact ⟨hx, hy, ⟨b1, A1, c1, xs1, b2, A2, c2, xs2, rfl, s1, l1.below hb, s2, l2.below hb, lo⟩, ⟨b3, A3, c3, xs3, b4, A4, c4, xs4, rfl, s3, l3.below hb, s4, l4.below hb, lo'⟩, ⟨b1, A1, c1, xs1, rfl, s1, l1.below hb⟩, ⟨b3, A3, c3, xs3, rfl, s3, l3.below hb⟩, hb, by simp⟩
def IsV (W : World) (r : Nat) (z : Int) : Prop := ∃ (b : Bool) (A : Option Addr) (c : Nat) (xs : List Nat), Two W r (.bool b) (.slice A (List.length xs) c) ∧ IntAt W (.agg #[.bool b, .slice A (List.length xs) c]) z ∧ r < W.heap.size
theorem cell_past2 {w : World} {q r o : Nat} {v a b : Value} (hne : r ≠ q) (h : w.cell? ⟨q, o, none⟩ = some v) : ((w.setCell ⟨r, 0, none⟩ a).setCell ⟨r, 1, none⟩ b).cell? ⟨q, o, none⟩ = some v :=
  (World.cell?_setCell_other _ _ _ _ (fun e => hne (by injection e))).trans ((World.cell?_setCell_other _ _ _ _ (fun e => hne (by injection e))).trans h)
theorem qsize_put (W : World) (p q : Addr) (u v : Value) : ((W.setCell p u).setCell q v).heap.size = W.heap.size := by simp [World.setCell]
theorem Limbs.past2 {W : World} {A : Option Addr} {c n : Nat} {xs : List Nat} (h : Limbs W A c xs n) {r : Nat} {b : Bool} {A' : Option Addr} {n' c' : Nat} (t : Two W r (.bool b) (.slice A' n' c')) (u x : Value) : Limbs ((W.setCell ⟨r, 0, none⟩ u).setCell ⟨r, 1, none⟩ x) A c xs n := by
  have h0 := t.1; have h1 := t.2
  refine ⟨h.1, (h.2.1.store h0 (fun _ e => by cases e) u).store (u := .slice A' n' c') ?_ (fun _ e => by cases e) x, h.2.2⟩
  go_simp
theorem RatAt.past2 {W : World} {v : Value} {z y : Int} (h : RatAt W v z y) {r : Nat} {b : Bool} {A : Option Addr} {n c : Nat} (t : Two W r (.bool b) (.slice A n c)) (u x : Value) : RatAt ((W.setCell ⟨r, 0, none⟩ u).setCell ⟨r, 1, none⟩ x) v z y := by
  obtain ⟨b1, A1, c1, xs1, b2, A2, c2, xs2, rfl, s1, l1, s2, l2, lo⟩ := h
  exact ⟨b1, A1, c1, xs1, b2, A2, c2, xs2, rfl, s1, l1.past2 t u x, s2, l2.past2 t u x, lo⟩
theorem QC.past {w W : World} {b1 : Bool} {A1 : Option Addr} {n1 c1 : Nat} {b2 : Bool} {A2 : Option Addr} {n2 c2 : Nat} {b3 : Bool} {A3 : Option Addr} {n3 c3 : Nat} {b4 : Bool} {A4 : Option Addr} {n4 c4 : Nat} {x d y e : Int}
    (h : QC w W b1 A1 n1 c1 b2 A2 n2 c2 b3 A3 n3 c3 b4 A4 n4 c4 x d y e) {r : Nat} {b : Bool} {A : Option Addr} {n c : Nat} (t : Two W r (.bool b) (.slice A n c)) (hr : w.heap.size + 2 ≤ r) (u v : Value) :
    QC w ((W.setCell ⟨r, 0, none⟩ u).setCell ⟨r, 1, none⟩ v) b1 A1 n1 c1 b2 A2 n2 c2 b3 A3 n3 c3 b4 A4 n4 c4 x d y e :=
  ⟨h.qx.far2 (by omega) u v, h.qy.far2 (by omega) u v, h.rx.past2 t u v, h.ry.past2 t u v, h.ix.past2 t u v, h.iy.past2 t u v, (h.below.setCell (p := ⟨r, 0, none⟩) (by show w.heap.size ≤ r; omega) u).setCell (p := ⟨r, 1, none⟩) (by show w.heap.size ≤ r; omega) v, by rw [qsize_put]; exact h.size⟩
theorem fit_mul {x y : Int} {m : Nat} (hx : x.natAbs < B32 ^ m) (hy : y.natAbs < B32 ^ m) : (x * y).natAbs < B32 ^ (m + m) := by
  rw [Int.natAbs_mul, Nat.pow_add]
  exact Nat.mul_lt_mul'' hx hy
theorem qint_in {w : World} {b : Bool} {A : Option Addr} {c : Nat} {xs : List Nat} {z : Int} (s : SignOf b z) (l : Limbs w A c xs z.natAbs) : IntAt w (.agg #[.bool b, .slice A xs.length c]) z := ⟨b, A, c, xs, rfl, s, l⟩
theorem Mul_little (v1 v2 : Value) (x y : Int) (m k : Nat) (w : World) (h1 : IntAt w v1 x) (h2 : IntAt w v2 y) (hm : m ≤ 39) (hx : x.natAbs < B32 ^ m) (hk : k ≤ 39) (hy : y.natAbs < B32 ^ k) :
    Calls Tryz.prog 86 #[v1, v2] w fun e w' => IsInt w w' (x * y) e := Mul_small v1 v2 x y m k w h1 h2 (by omega) hx (by omega) hy
theorem QCmp_any (v1 v2 : Value) (x d y e : Int) (m : Nat) (w : World) (h1 : RatAt w v1 x d) (h2 : RatAt w v2 y e) (hm : m ≤ 39) (hx : x.natAbs < B32 ^ m) (hd : d.natAbs < B32 ^ m) (hy : y.natAbs < B32 ^ m) (he : e.natAbs < B32 ^ m) :
    Calls Tryz.prog 26 #[v1, v2] w fun f w' => IsNum w w' (cmpZ (x * e) (y * d)) f := by
  obtain ⟨b1, A1, c1, xs1, b2, A2, c2, xs2, rfl, s1, l1, s2, l2, lo⟩ := h1
  obtain ⟨b3, A3, c3, xs3, b4, A4, c4, xs4, rfl, s3, l3, s4, l4, lo'⟩ := h2
  have q0 := QC.begin w s1 l1 s2 l2 lo s3 l3 s4 l4 lo' 38
  obtain ⟨W, hW⟩ : ∃ W : World, (w.alloc (.cells #[.bool b1, .slice A1 xs1.length c1, .bool b2, .slice A2 xs2.length c2] 38)).alloc (.cells #[.bool b3, .slice A3 xs3.length c3, .bool b4, .slice A4 xs4.length c4] 38) = W := ⟨_, rfl⟩
  rw [hW] at q0
  have q1 := q0.step (Below.refl _ _).drew rfl rfl rfl rfl
  have q2 := q1.alloc (.cells #[.bool false, .slice none 0 0] 31)
  have r2 : Res (W.drew.alloc (.cells #[.bool false, .slice none 0 0] 31)) W.heap.size := Res.new W.drew 31
  have hws := q0.size
  have H := Lib.hid (And.intro q0 (And.intro q1 (And.intro q2 r2)))
  have HN := Lib.hid (And.intro hm (And.intro hx (And.intro hd (And.intro hy he))))
  have hm4 : m ≤ 39 := hm
  have hm9 : m ≤ 900000 := by omega
  have HM := Lib.hid (And.intro hm4 hm9)
  have HW := Lib.hid hW
  clear q0 q1 q2 r2 hm hx hd hy he s1 l1 s2 l2 lo s3 l3 s4 l4 lo' hW hm4 hm9
  go_enter Tryz.func26, Tryz.ntmps26
  go_upto_region 1 with fail
  rw [HW.out]
  clear HW
  go_cut [5] (fun s5 wx => ∃ r : Nat, s5 = .pointer (some ⟨r, 0, none⟩) ∧ w.heap.size + 2 ≤ r ∧ IsV wx r (x * e) ∧ QC w wx b1 A1 xs1.length c1 b2 A2 xs2.length c2 b3 A3 xs3.length c3 b4 A4 xs4.length c4 x d y e)
  case first => as_aux_lemma =>
   obtain ⟨px0, px1, px2, px3⟩ := id H.out.1.qx
   obtain ⟨py0, py1, py2, py3⟩ := id H.out.1.qy
   go_region_held3 (fun w' => (w'.cell? ⟨w.heap.size, 0, none⟩ = some (.bool b1) ∧ w'.cell? ⟨w.heap.size, 1, none⟩ = some (.slice A1 xs1.length c1)) ∧ (w'.cell? ⟨w.heap.size + 1, 0, none⟩ = some (.bool b3) ∧ w'.cell? ⟨w.heap.size + 1, 1, none⟩ = some (.slice A3 xs3.length c3) ∧ w'.cell? ⟨w.heap.size + 1, 2, none⟩ = some (.bool b4) ∧ w'.cell? ⟨w.heap.size + 1, 3, none⟩ = some (.slice A4 xs4.length c4)))
     (((try dsimp only); (repeat' apply And.intro) <;> (first | (with_reducible assumption) | (with_reducible refine cell_past2 ?_ ?_; omega; with_reducible assumption) | go_keep)))
     ((first
       | (go_at_call 67; go_fit (QDenominator_any _ y e m _ H.out.2.1.ry HM.out.2 HN.out.2.2.2.2); rintro f w9 ⟨v9, rfl, ⟨b9, A9, c9, xs9, rfl, s9, l9⟩, hb9⟩; have q9 := H.out.2.1.step hb9 rfl rfl rfl rfl; have d9 := qint_in s9 l9; have a9 : True := trivial; obtain ⟨pa0, pa1, pa2, pa3⟩ := id q9.qx; obtain ⟨pb0, pb1, pb2, pb3⟩ := id q9.qy; have zs9 := q9.size; clear hb9 s9 l9)
       | (go_at_call 67; go_fit (QDenominator_any _ y e m _ H.out.2.2.1.ry HM.out.2 HN.out.2.2.2.2); rintro f w9 ⟨v9, rfl, ⟨b9, A9, c9, xs9, rfl, s9, l9⟩, hb9⟩; have q9 := H.out.2.2.1.step hb9 rfl rfl rfl rfl; have d9 := qint_in s9 l9; have z9 : W.heap.size < w9.heap.size := Nat.lt_of_lt_of_le (Nat.lt_of_lt_of_eq (Nat.lt_succ_self _) (size_alloc W.drew _).symm) hb9.size; have r9 := H.out.2.2.2.step hb9 rfl (Nat.lt_of_lt_of_eq (Nat.lt_succ_self _) (size_alloc W.drew _).symm); obtain ⟨pa0, pa1, pa2, pa3⟩ := id q9.qx; obtain ⟨pb0, pb1, pb2, pb3⟩ := id q9.qy; have zs9 := q9.size; clear hb9 s9 l9)
       | (go_at_call 86; go_fit (Mul_little _ _ x e m m _ q9.ix d9 HM.out.1 HN.out.2.1 HM.out.1 HN.out.2.2.2.2); rintro f w10 ⟨v10, rfl, ⟨b5, A5, c5, xs5, rfl, s5, l5⟩, hb10⟩; have q10 := q9.step hb10 rfl rfl rfl rfl; have i10 := qint_in s5 l5; obtain ⟨pc0, pc1, pc2, pc3⟩ := id q10.qx; obtain ⟨pd0, pd1, pd2, pd3⟩ := id q10.qy; have zs10 := q10.size; (try (have r10 := r9.step hb10 rfl z9; have z10 := Nat.lt_of_lt_of_le z9 hb10.size; obtain ⟨⟨k0, k1⟩, f0, f1⟩ := id r10)); clear q9 d9 s5 l5)
       | (go_at_call 86; go_fit (Mul_little _ _ x e m m (w9.alloc (.cells #[.bool false, .slice none 0 0] 31)) (q9.alloc _).ix (d9.step ((Below.refl _ _).alloc (Nat.le_refl _) _) rfl) HM.out.1 HN.out.2.1 HM.out.1 HN.out.2.2.2.2); rintro f w10 ⟨v10, rfl, ⟨b5, A5, c5, xs5, rfl, s5, l5⟩, hb10⟩; have q10 := (q9.alloc _).step hb10 rfl rfl rfl rfl; have i10 := qint_in s5 l5; obtain ⟨pc0, pc1, pc2, pc3⟩ := id q10.qx; obtain ⟨pd0, pd1, pd2, pd3⟩ := id q10.qy; have zs10 := q10.size; have r10 := (Res.new w9 31).step hb10 rfl (Nat.lt_of_lt_of_eq (Nat.lt_succ_self _) (size_alloc w9 _).symm); have z10 := Nat.lt_of_lt_of_le (Nat.lt_of_lt_of_eq (Nat.lt_succ_self w9.heap.size) (size_alloc w9 _).symm) hb10.size; obtain ⟨⟨k0, k1⟩, f0, f1⟩ := id r10; clear q9 d9 s5 l5)))
   all_goals (go_wp2_with fail; go_meet; first
     | exact ⟨_, rfl, zs10, ⟨b5, A5, c5, xs5, Two.new w10 _ _ _, i10.step ((Below.refl _ _).alloc (Nat.le_refl _) _) rfl, Nat.lt_of_lt_of_eq (Nat.lt_succ_self _) (size_alloc _ _).symm⟩, q10.alloc _⟩
     | exact ⟨_, rfl, hws, ⟨b5, A5, c5, xs5, r10.1.stored _ _, i10.past2 r10.1 _ _, Nat.lt_of_lt_of_eq z10 (qsize_put _ _ _ _ _).symm⟩, q10.past r10.1 hws _ _⟩
     | exact ⟨_, rfl, zs9, ⟨b5, A5, c5, xs5, r10.1.stored _ _, i10.past2 r10.1 _ _, Nat.lt_of_lt_of_eq z10 (qsize_put _ _ _ _ _).symm⟩, q10.past r10.1 zs9 _ _⟩)
  case rest =>
  obtain ⟨r, rfl, hr, ⟨b5, A5, c5, xs5, t5, i5, lt5⟩, q5⟩ := hcut
  have qd := q5.step (Below.refl _ _).drew rfl rfl rfl rfl
  have HK := Lib.hid (And.intro qd (And.intro q5 i5))
  have hmm : m + m ≤ 900000 := by have := HN.out.1; omega
  have HM2 := Lib.hid (And.intro hmm (And.intro (fit_mul HN.out.2.1 HN.out.2.2.2.2) (fit_mul HN.out.2.2.2.1 HN.out.2.2.1)))
  have HT5 := Lib.hid t5
  obtain ⟨p50, p51⟩ := id t5
  obtain ⟨px0, px1, px2, px3⟩ := id q5.qx
  obtain ⟨py0, py1, py2, py3⟩ := id q5.qy
  clear qd q5 i5 hmm t5 H
  go_upto_region 2 with fail
  go_region_held3 (fun w' => ((w'.cell? ⟨w.heap.size, 0, none⟩ = some (.bool b1) ∧ w'.cell? ⟨w.heap.size, 1, none⟩ = some (.slice A1 xs1.length c1)) ∧ (w'.cell? ⟨w.heap.size, 2, none⟩ = some (.bool b2) ∧ w'.cell? ⟨w.heap.size, 3, none⟩ = some (.slice A2 xs2.length c2))) ∧ (w'.cell? ⟨w.heap.size + 1, 0, none⟩ = some (.bool b3) ∧ w'.cell? ⟨w.heap.size + 1, 1, none⟩ = some (.slice A3 xs3.length c3)) ∧ (w'.cell? ⟨r, 0, none⟩ = some (.bool b5) ∧ w'.cell? ⟨r, 1, none⟩ = some (.slice A5 xs5.length c5)))
    (((try dsimp only); (repeat' apply And.intro) <;> (first | (with_reducible assumption) | go_keep)))
    ((first
      | (go_at_call 67; go_fit (QDenominator_any _ x d m _ HK.out.1.rx HM.out.2 HN.out.2.2.1); rintro f w9 ⟨v9, rfl, ⟨b9, A9, c9, xs9, rfl, s9, l9⟩, hb9⟩; have q9 := HK.out.1.step hb9 rfl rfl rfl rfl; have d9 := qint_in s9 l9; have t9 := HT5.out.step hb9 rfl lt5; have i9 := HK.out.2.2.step hb9 rfl; have lt9 := Nat.lt_of_lt_of_le lt5 hb9.size; obtain ⟨pa0, pa1, pa2, pa3⟩ := id q9.qx; obtain ⟨pb0, pb1, pb2, pb3⟩ := id q9.qy; obtain ⟨pc0, pc1⟩ := id t9; clear hb9 s9 l9)
      | (go_at_call 86; go_fit (Mul_little _ _ y d m m _ q9.iy d9 HM.out.1 HN.out.2.2.2.1 HM.out.1 HN.out.2.2.1); rintro f w10 ⟨v10, rfl, ⟨b6, A6, c6, xs6, rfl, s6, l6⟩, hb10⟩; have q10 := q9.step hb10 rfl rfl rfl rfl; have i10 := qint_in s6 l6; have t10 := t9.step hb10 rfl lt9; have j10 := i9.step hb10 rfl; have lt10 := Nat.lt_of_lt_of_le lt9 hb10.size; obtain ⟨pd0, pd1, pd2, pd3⟩ := id q10.qx; obtain ⟨pe0, pe1, pe2, pe3⟩ := id q10.qy; obtain ⟨pf0, pf1⟩ := id t10; clear q9 d9 s6 l6 t9 i9 hb10)
      | (go_at_call 63; go_fit (Cmp_any _ _ (x * e) (y * d) (m + m) _ j10 i10 HM2.out.1 HM2.out.2.1 HM2.out.2.2); rintro f w11 ⟨rfl, hb11⟩; have q11 := q10.step hb11 rfl rfl rfl rfl; have t11 := t10.step hb11 rfl lt10; obtain ⟨pg0, pg1, pg2, pg3⟩ := id q11.qx; obtain ⟨ph0, ph1, ph2, ph3⟩ := id q11.qy; obtain ⟨pk0, pk1⟩ := id t11; have HB := Lib.hid q11.below; clear q10 i10 j10 t10 q11 t11 hb11)))
  go_wp2
  go_ret
  exact ⟨rfl, HB.out⟩
end Go.Proofs.YtpgbnegppehckaaGreat
