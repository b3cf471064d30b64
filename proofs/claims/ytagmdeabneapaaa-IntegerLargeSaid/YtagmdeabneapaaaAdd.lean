/- What increase and sum of package integer do. -/
import Derived.Test.YtagmdeabneapaaaTrim
namespace Go.Proofs.Ytagmdeabneapaaa
open Go.RowKit

/-- The digits of a sum, as far as i: the digits zs, and a carry c. -/
structure Inc (zs0 ys zs : List Nat) (i c : Nat) : Prop where
  len : zs.length = zs0.length
  ok : Lm.Ok B32 zs
  rest : ∀ j, i ≤ j → zs.getD j 0 = zs0.getD j 0
  num : Lm.val B32 zs + B32 ^ i * c = Lm.val B32 zs0 + Lm.val B32 (ys.take i)
  carry : c ≤ 1

theorem inc_step {zs0 ys zs : List Nat} {i q d y t : Nat} (h : Inc zs0 ys zs i q) (hi : i < zs0.length) (hd : zs.getD i 0 = d) (hdl : d < 4294967296) (hyl : y < 4294967296)
    (hy : Lm.val B32 (ys.take (i + 1)) = Lm.val B32 (ys.take i) + B32 ^ i * y) (ht : t = q + d + y) : Inc zs0 ys (zs.set i (t % B32)) (i + 1) (t / B32) := by
  have hs := Lm.val_set B32 zs i (t % B32) (by rw [h.len]; exact hi)
  rw [hd] at hs
  have hc := h.carry
  have hn := h.num
  refine ⟨by simpa using h.len, h.ok.set _ _ (Nat.mod_lt _ B32_pos), fun j hj => ?_, ?_, ?_⟩
  · rw [← h.rest j (by omega), List.getD_eq_getElem?_getD, List.getElem?_set, if_neg (by omega), ← List.getD_eq_getElem?_getD]
  · rw [hy, Nat.pow_succ, Lm.add_step B32 (B32 ^ i) (Lm.val B32 zs) _ q d y t ht hs, Nat.mul_add]
    omega
  · subst ht
    unfold B32
    omega

theorem inc_end {zs0 ys zs : List Nat} {i : Nat} (h : Inc zs0 ys zs i 0) (hi : ys.length ≤ i) : Lm.val B32 zs = Lm.val B32 zs0 + Lm.val B32 ys := by
  have hn := h.num
  rw [List.take_of_length_le hi] at hn
  simpa using hn

theorem inc_room {zs0 ys zs : List Nat} {i q : Nat} (h : Inc zs0 ys zs i q) (hq : 0 < q) (hi : ys.length ≤ i) (hv : Lm.val B32 zs0 + Lm.val B32 ys < B32 ^ zs0.length) : i < zs0.length := by
  rcases Nat.lt_or_ge i zs0.length with hlt | hge
  · exact hlt
  · have hn := h.num
    rw [List.take_of_length_le hi] at hn
    have h1 : B32 ^ zs0.length ≤ B32 ^ i := Nat.pow_le_pow_right B32_pos hge
    have h2 : B32 ^ i * 1 ≤ B32 ^ i * q := Nat.mul_le_mul_left _ hq
    omega

theorem limb_mod (t : Nat) (n : Int) (h : n = (t : Int)) : n % 4294967296 = ((t % B32 : Nat) : Int) := by subst h; unfold B32; omega
theorem limb_div (t : Nat) (n : Int) (h : n = (t : Int)) : n / 4294967296 = ((t / B32 : Nat) : Int) := by subst h; unfold B32; omega

set_option maxHeartbeats 400000 in
theorem increase_any (g off cap : Nat) (cur : Array Value) (zs0 : List Nat) (A : Option Addr) (c : Nat) (ys : List Nat) (w : World)
    (hz : Seg w g off .u32 99 cur zs0) (hy : Nums w .u32 A ys) (ho : 0 < ys.length → Off A g) (hzo : Lm.Ok B32 zs0) (hyo : Lm.Ok B32 ys) (hl : ys.length ≤ zs0.length) (hl2 : zs0.length ≤ 1000000)
    (hv : Lm.val B32 zs0 + Lm.val B32 ys < B32 ^ zs0.length) :
    Calls Try.prog 122 #[.slice (some ⟨g, off, none⟩) zs0.length cap, .slice A ys.length c] w fun e w' => e = .returned (.tuple #[]) ∧
      ∃ zs, zs.length = zs0.length ∧ Lm.Ok B32 zs ∧ Lm.val B32 zs = Lm.val B32 zs0 + Lm.val B32 ys ∧ SegTo w' g off .u32 99 cur zs ∧ w.grownBy w' (some g) := by
  go_enter Try.func122, Try.ntmps122
  go_wp2
  have HV := Lib.hid hv
  clear hv
  go_loopw [4, 5] (fun cv iv wr => ∃ (i q : Nat) (zs : List Nat), iv = .int .i64 i ∧ cv = .int .u64 q ∧ i ≤ zs0.length ∧ Inc zs0 ys zs i q ∧ SegTo wr g off .u32 99 cur zs ∧ w.grownBy wr (some g)) (fun _ iv _ => zs0.length - (intOf iv).toNat)
  case atStart =>
    exact ⟨0, 0, zs0, rfl, rfl, Nat.zero_le _, ⟨rfl, hzo, fun _ _ => rfl, by simp [Lm.val], by omega⟩, .refl hz, World.grownBy.refl _ _⟩
  case round =>
    obtain ⟨i, q, zs, rfl, rfl, hi, hinc, hseg, hgr⟩ := hrel
    have hyr := hy.grown hgr ho
    have hq := hinc.carry
    by_cases hiy : i < ys.length
    · obtain ⟨ad, rfl, _, hcell⟩ := hyr.at_ hiy
      have hcy := hcell i hiy
      clear hcell
      obtain ⟨cur', hs1, hs2, hs3⟩ := id hseg
      have hcz := hs1.cell (j := i) (by rw [hinc.len]; omega)
      have hfz := hs1.frozen (off + i)
      have hdl := limb_lt hinc.ok i
      have hyl := limb_lt hyo i
      obtain ⟨d, hd⟩ : ∃ d, zs.getD i 0 = d := ⟨_, rfl⟩
      obtain ⟨y, hyd⟩ : ∃ y, ys.getD i 0 = y := ⟨_, rfl⟩
      rw [hd] at hcz hdl
      rw [hyd] at hcy hyl
      have HD := Lib.hid hd
      have HY := Lib.hid hyd
      clear hd hyd hs1 hs2 hs3 hy hz hzo
      go_wp2
      go_roundw
      case rel =>
        refine ⟨i + 1, _, _, by go_num, by rw [limb_div (q + d + y) _ (by omega)], by omega, inc_step hinc (by omega) HD.out hdl hyl (by rw [Lm.val_take_succ _ _ _ hiy, HY.out]) rfl, ?_, ?_⟩
        · rw [limb_mod (q + d + y) _ (by omega)]
          exact hseg.set_ (by rw [hinc.len]; omega) _
        · exact grown_trans hgr (grown_store _ _ _ _)
      case measure => simp [intOf]; omega
    · by_cases hq0 : q = 0
      · subst hq0
        go_wp2
        go_end0
        exact ⟨rfl, zs, hinc.len, hinc.ok, inc_end hinc (by omega), hseg, hgr⟩
      · have hroom := inc_room hinc (by omega) (by omega) HV.out
        obtain ⟨cur', hs1, hs2, hs3⟩ := id hseg
        have hcz := hs1.cell (j := i) (by rw [hinc.len]; omega)
        have hfz := hs1.frozen (off + i)
        have hdl := limb_lt hinc.ok i
        obtain ⟨d, hd⟩ : ∃ d, zs.getD i 0 = d := ⟨_, rfl⟩
        rw [hd] at hcz hdl
        have HD := Lib.hid hd
        have hqp : 0 < q := by omega
        clear hd hs1 hs2 hs3 hy hz hzo hq0
        go_wp2
        go_roundw
        case rel =>
          refine ⟨i + 1, _, _, by go_num, by rw [limb_div (q + d + 0) _ (by omega)], by omega, inc_step hinc (by omega) HD.out hdl (by omega) (by rw [List.take_of_length_le (by omega), List.take_of_length_le (by omega)]; simp) rfl, ?_, ?_⟩
          · rw [limb_mod (q + d + 0) _ (by omega)]
            exact hseg.set_ (by rw [hinc.len]; omega) _
          · exact grown_trans hgr (grown_store _ _ _ _)
        case measure => simp [intOf]; omega
end Go.Proofs.Ytagmdeabneapaaa
