/- The law IntegerDigits: it answers true. -/
import Derived.Test.YtllkajlmfbikhaaDoorDigKit
namespace Go.Proofs.YtllkajlmfbikhaaDoor
open Go.RowKit
set_option linter.unusedSimpArgs false

set_option maxRecDepth 100000 in
set_option maxHeartbeats 8000000 in
theorem digits_neg (m n : Nat) (s1 : Bool) (A1 : Option Addr) (c1 : Nat) (xs1 : List Nat) (w : World)
    (h1 : Plain w A1 c1 xs1) (l1 : xs1.length ≤ 8) (hm : m ≤ 255) (hn : n ≤ 255) (hcase : ofSign s1 (Lm.val B32 xs1) < 0) :
    Calls Tryd.prog 3 #[.agg #[.bool s1, .slice A1 xs1.length c1], .int .u8 (m : Int), .int .u8 (n : Int)] w fun e w' => IsBool w w' true e := by
  have hb0 : Below w.heap.size w (w.alloc (.cells #[.bool s1, .slice A1 xs1.length c1] 24)) := (Below.refl _ _).alloc (Nat.le_refl _) _
  have hx0 : Two (w.alloc (.cells #[.bool s1, .slice A1 xs1.length c1] 24)) w.heap.size (.bool s1) (.slice A1 xs1.length c1) := Two.new w _ _ 24
  have hsz : (w.alloc (.cells #[.bool s1, .slice A1 xs1.length c1] 24)).heap.size = w.heap.size + 1 := by rw [size_alloc]
  have hba : Below (w.alloc (.cells #[.bool s1, .slice A1 xs1.length c1] 24)).heap.size (w.alloc (.cells #[.bool s1, .slice A1 xs1.length c1] 24)) ((w.alloc (.cells #[.bool s1, .slice A1 xs1.length c1] 24)).alloc (.cells #[.bool s1, .slice A1 xs1.length c1] 24)) := (Below.refl _ _).alloc (Nat.le_refl _) _
  have hx1 := hx0.step hba rfl (by omega)
  have hsh : Calls Tryd.prog 4 #[.int .i64 8, .slice (some ⟨w.heap.size + 1, 0, none⟩) 1 1] ((w.alloc (.cells #[.bool s1, .slice A1 xs1.length c1] 24)).alloc (.cells #[.bool s1, .slice A1 xs1.length c1] 24)) fun e w' => IsBool ((w.alloc (.cells #[.bool s1, .slice A1 xs1.length c1] 24)).alloc (.cells #[.bool s1, .slice A1 xs1.length c1] 24)) w' true e := by
    have hr := row1 (w.alloc (.cells #[.bool s1, .slice A1 xs1.length c1] 24)) s1 A1 xs1.length c1 24
    rw [hsz] at hr
    have := shortN_any (w.heap.size + 1) 8 [⟨s1, A1, xs1.length, c1⟩] _ hr (by simp)
    rw [decide_eq_true (show AllS 8 [⟨s1, A1, xs1.length, c1⟩] from fun y hy => by simp at hy; subst hy; exact l1)] at this
    exact this
  have H := Lib.hid (And.intro hsh (And.intro (below_then hb0 hba) (And.intro hx1 hsz)))
  have HP := Lib.hid (And.intro h1 (fits_of s1 h1.2.1 l1))
  clear hb0 hx0 hsz hba hx1 hsh h1 l1
  go_enter Tryd.func3, Tryd.ntmps3
  go_wp2_with fail
  refine H.out.1.mono ?_
  rintro e w1 ⟨rfl, hb1⟩
  have sz0 : w.heap.size + 2 ≤ w1.heap.size := by have := hb1.size; have h2 := H.out.2.2.2; rw [size_alloc] at this; omega
  have kx := H.out.2.2.1.step hb1 rfl (by rw [size_alloc]; have := H.out.2.2.2; omega)
  have bl1 := below_then H.out.2.1 hb1
  have hba : Below w1.heap.size w1 (w1.alloc (.cells #[.bool s1, .slice A1 xs1.length c1] 24)) := (Below.refl _ _).alloc (Nat.le_refl _) _
  have bl2 := below_then bl1 hba
  have hmk := madeN_any w1.heap.size [⟨s1, A1, xs1.length, c1⟩] [ofSign s1 (Lm.val B32 xs1)] _ (row1 w1 s1 A1 xs1.length c1 24)
    ⟨rfl, fun i x z hx hz => by
      match i, hx, hz with
      | 0, hx, hz => simp at hx hz; subst hx hz; exact ⟨xs1, rfl, HP.out.1.step bl2 rfl, rfl⟩⟩ (by simp) (by simp)
  obtain ⟨x, hx⟩ : ∃ x, ofSign s1 (Lm.val B32 xs1) = x := ⟨_, rfl⟩
  have hfx := HP.out.2
  rw [hx] at hfx hmk hcase
  have HM := Lib.hid (And.intro (show Calls Tryd.prog 6 #[.slice (some ⟨w1.heap.size, 0, none⟩) 1 1] _ _ from hmk) (And.intro bl2 hfx))
  have HX := Lib.hid hcase
  obtain ⟨px0, px1⟩ := id kx
  clear hb1 kx bl1 hba bl2 hmk hx hfx HP H hcase
  go_wp2_with fail
  refine HM.out.1.mono ?_
  rintro e w2 ⟨g, cc, rfl, hcc, hlt, hcells, hb2⟩
  obtain ⟨u1, v1, f0, f1, ⟨b1, B1, k1, d1, rfl, rfl, _, hi1⟩⟩ := hcells 0 x rfl
  have bl2 := below_then HM.out.2.1 hb2
  have hv2 := ((Vars.nil w2).cons (t := ⟨false, 0, b1, B1, k1, d1, x⟩) ⟨fun e => (by cases e), fun e => (by cases e), hi1⟩).laid 28
  have hl2 := bl2.alloc (Nat.le_trans (Nat.le_refl _) bl2.size) (.cells #[.bool b1, .slice B1 k1 d1] 28)
  have HF := Lib.hid HM.out.2.2
  simp only [List.length_cons, List.length_nil, Nat.mul_zero, Nat.zero_add] at f0 f1 hcc ⊢
  obtain ⟨W2, hW2⟩ : ∃ W : World, W = w2.alloc (.cells #[.bool b1, .slice B1 k1 d1] 28) := ⟨_, rfl⟩
  obtain ⟨r2, hr2⟩ : ∃ r : Nat, r = w2.heap.size := ⟨_, rfl⟩
  rw [← hW2] at hv2 hl2
  rw [← hr2] at hv2
  have HC := Lib.hid (And.intro hv2 hl2)
  have HW := Lib.hid hW2
  have HR := Lib.hid hr2
  clear hcells hi1 bl2 hb2 px0 px1 HM hv2 hl2 hW2 hr2
  have hcc' : (1 : Int) ≤ (cc : Int) := by omega
  have a0 := fun o1 : Obj => (World.cell?_alloc_lt w2 o1 ⟨g, 0, none⟩ hlt).trans f0
  have a1 := fun o1 : Obj => (World.cell?_alloc_lt w2 o1 ⟨g, 1, none⟩ hlt).trans f1
  go_upto_region 4 with fail
  rw [← HW.out, ← HR.out]
  clear HW HR f0 f1 a0 a1 hcc' hcc hlt
  obtain ⟨q, hq⟩ : ∃ q, m % 35 = q := ⟨_, rfl⟩
  obtain ⟨kk, hkk⟩ : ∃ k, 2 + q = k := ⟨_, rfl⟩
  obtain ⟨n0, hn0⟩ : ∃ k, n % 20 = k := ⟨_, rfl⟩
  have hqI : (m : Int) % 35 = (q : Int) := by omega
  have hkI : (2 : Int) + (q : Int) = (kk : Int) := by omega
  have hnI : (n : Int) % 20 = (n0 : Int) := by omega
  have hn19 : n0 ≤ 19 := by omega
  have hq34 : q ≤ 34 := by omega
  have h2 : 2 ≤ kk := by omega
  have h36 : kk ≤ 36 := by omega
  have HK := Lib.hid (And.intro h2 h36)
  clear hq hkk hn0 h2 h36
  go_upto_region 5 with fail
  obtain ⟨px0, px1⟩ : Two W2 r2 (.bool b1) (.slice B1 k1 d1) := (HC.out.1 0 _ rfl).two rfl
  go_wp2_with fail
  refine (Text_any _ x kk 8 _ ((HC.out.1 0 _ rfl).at_) HK.out.1 HK.out.2 (by decide) HF.out).mono ?_
  rintro e wq1 ⟨bs, rfl, htx, _, hb1⟩
  clear px0 px1
  have HC1 := Lib.hid (And.intro (HC.out.1.step hb1 rfl) (below_then HC.out.2 hb1))
  clear hb1 HC
  obtain ⟨ts, hbs, hpt⟩ := TextOf.parts htx HK.out.1 HK.out.2
  rw [if_pos HX.out] at hbs
  have hsm : ∀ c ∈ bs, c < 256 := fun c hc => by
    rw [hbs] at hc
    rcases List.mem_cons.1 hc with hc | hc
    · omega
    · have := hpt.small HK.out.2 c hc; omega
  obtain ⟨s, hs⟩ : ∃ s, Tx.str bs = s := ⟨_, rfl⟩
  have hsb : Tx.bts s = 45 :: ts := by rw [← hs, Tx.bts_str hsm, hbs]; rfl
  have htl : ts.length ≤ 257 := hpt.short 8 HF.out
  obtain ⟨g, hg, htr⟩ := trim_is s ts (by rw [hsb]; rfl)
  obtain ⟨rp, hrp, hrc⟩ := rep_is n0 hn19
  obtain ⟨lw, hlw, hlc⟩ := low_is g ts hg (hpt.small HK.out.2) (by omega)
  have hh1 := has_is s 45 true (by rw [hsb]; rfl)
  have hh2 := has_is g 48 false (by rw [hg]; exact decide_eq_false (hpt.head (by have := HX.out; omega)))
  have hlow := hpt.low HK.out.2 n0
  have hub : Tx.bts ((⟨#[45]⟩ ++ rp) ++ lw) = 45 :: (List.replicate n0 48 ++ ts.map lowN) := by rw [Tx.bts_append, Tx.bts_append, hrp, hlw, List.append_assoc]; rfl
  have hul : (List.replicate n0 48 ++ ts.map lowN).length + 1 ≤ 20000 := by rw [List.length_append, List.length_replicate, List.length_map]; omega
  have hp2 := fun w : World => parse_sign_minus ((⟨#[45]⟩ ++ rp) ++ lw) (List.replicate n0 48 ++ ts.map lowN) kk x w HK.out.1 HK.out.2 hub hul hlow.2.2 hlow.1 (by rw [hlow.2.1]; have := HX.out; omega)
  have hp1 := fun w : World => parse_sign_minus s ts kk x w HK.out.1 HK.out.2 hsb (by omega) hpt.ne (hpt.all HK.out.2) (by rw [hpt.num]; have := HX.out; omega)
  have hsz1 : rp.size ≤ 19 := by rw [size_bts hrp, List.length_replicate]; exact hn19
  have hsz2 : lw.size ≤ 257 := by rw [size_bts hlw, List.length_map]; exact htl
  have had1 := fun W : World => run_string_add_sum (P := Tryd.prog) W ⟨#[45]⟩ rp (by have : (⟨#[45]⟩ : ByteArray).size = 1 := rfl; omega)
  have had2 := fun W : World => run_string_add_sum (P := Tryd.prog) W (⟨#[45]⟩ ++ rp) lw (by rw [ByteArray.size_append]; have : (⟨#[45]⟩ : ByteArray).size = 1 := rfl; omega)
  have HT := Lib.hid (And.intro htx (And.intro htr (And.intro hrc (And.intro hlc (And.intro hh1 (And.intro hp1 hp2))))))
  have HS := Lib.hid hs
  have HH2 := Lib.hid hh2
  have hsg : x.sign = (-1) := Int.sign_eq_neg_one_of_neg HX.out
  have HSG := Lib.hid (show ∀ (v : Value) (w : World), IntAt w v x → Calls Tryd.prog 10 #[v] w fun e w' => IsNum w w' (-1) e from fun v w h => by rw [← hsg]; exact Sign_any v x 8 w h (by decide) HF.out)
  have hgn := ne48 hg (hpt.head (by have := HX.out; omega))
  have HGB := Lib.hid (And.intro hg hpt)
  clear htx hbs hpt hsm hsb htl hg htr hrp hrc hlw hlc hh1 hh2 hlow hub hul hp1 hp2 hsz1 hsz2 hsg
  rw [hs]
  clear hs
  go_wp2_with fail
  refine (HT.out.2.2.2.2.2.1 _).mono ?_
  rintro e wq2 ⟨qv2, rfl, ⟨qb2, qA2, qc2, qs2, rfl, qg2, ql2⟩, hb2⟩
  have hv2 := ((HC1.out.1.step hb2 rfl).told qg2 ql2).laid 28
  have hl2 : Below w.heap.size w (wq2.alloc (.cells #[.bool qb2, .slice qA2 qs2.length qc2] 28)) := (below_then HC1.out.2 hb2).alloc (Nat.le_trans HC1.out.2.size hb2.size) _
  obtain ⟨Wq2, hW2⟩ : ∃ W : World, W = wq2.alloc (.cells #[.bool qb2, .slice qA2 qs2.length qc2] 28) := ⟨_, rfl⟩
  obtain ⟨rq2, hr2⟩ : ∃ r : Nat, r = wq2.heap.size := ⟨_, rfl⟩
  rw [← hW2] at hv2 hl2
  rw [← hr2] at hv2
  have HC2 := Lib.hid (And.intro hv2 hl2)
  have HW2 := Lib.hid hW2
  have HR2 := Lib.hid hr2
  clear hv2 hl2 hW2 hr2 qg2 ql2 hb2 HC1
  go_upto_region 7 with fail
  rw [← HW2.out, ← HR2.out]
  clear HW2 HR2
  go_wp2_with fail
  refine (HT.out.2.1 _).mono ?_
  rintro e wq3 ⟨rfl, rfl⟩
  obtain ⟨px0, px1⟩ : Two Wq2 r2 (.bool b1) (.slice B1 k1 d1) := (HC2.out.1 1 _ rfl).two rfl
  go_wp2_with fail
  refine (HSG.out _ _ ((HC2.out.1 1 _ rfl).at_)).mono ?_
  rintro e wq4 ⟨rfl, hb4⟩
  clear px0 px1
  have HC4 := Lib.hid (And.intro (HC2.out.1.step hb4 rfl) (below_then HC2.out.2 hb4))
  clear hb4 HC2
  go_wp2_with fail
  refine (HT.out.2.2.1 _).mono ?_
  rintro e wq5 ⟨rfl, hb5⟩
  have HC5 := Lib.hid (And.intro (HC4.out.1.step hb5 rfl) (below_then HC4.out.2 hb5))
  clear hb5 HC4
  go_wp2_with fail
  refine (HT.out.2.2.2.1 _).mono ?_
  rintro e wq6 ⟨rfl, hb6⟩
  have HC6 := Lib.hid (And.intro (HC5.out.1.step hb6 rfl) (below_then HC5.out.2 hb6))
  clear hb6 HC5
  go_wp2_with fail
  refine (HT.out.2.2.2.2.2.2 _).mono ?_
  rintro e wq7 ⟨qv7, rfl, ⟨qb7, qA7, qc7, qs7, rfl, qg7, ql7⟩, hb7⟩
  have hv7 := ((HC6.out.1.step hb7 rfl).told qg7 ql7).laid 28
  have hl7 : Below w.heap.size w (wq7.alloc (.cells #[.bool qb7, .slice qA7 qs7.length qc7] 28)) := (below_then HC6.out.2 hb7).alloc (Nat.le_trans HC6.out.2.size hb7.size) _
  obtain ⟨Wq7, hW7⟩ : ∃ W : World, W = wq7.alloc (.cells #[.bool qb7, .slice qA7 qs7.length qc7] 28) := ⟨_, rfl⟩
  obtain ⟨rq7, hr7⟩ : ∃ r : Nat, r = wq7.heap.size := ⟨_, rfl⟩
  rw [← hW7] at hv7 hl7
  rw [← hr7] at hv7
  have HC7 := Lib.hid (And.intro hv7 hl7)
  have HW7 := Lib.hid hW7
  have HR7 := Lib.hid hr7
  clear hv7 hl7 hW7 hr7 qg7 ql7 hb7 HC6
  go_upto_region 12 with fail
  rw [← HW7.out, ← HR7.out]
  clear HW7 HR7
  obtain ⟨pz0, pz1⟩ : Two Wq7 rq7 (.bool qb7) (.slice qA7 qs7.length qc7) := (HC7.out.1 0 _ rfl).two rfl
  go_wp2_with fail
  refine (Text_any _ x kk 8 _ ((HC7.out.1 0 _ rfl).at_) HK.out.1 HK.out.2 (by decide) HF.out).mono ?_
  rintro e wq8 ⟨bs2, rfl, htx2, _, hb8⟩
  clear pz0 pz1
  have HC8 := Lib.hid (And.intro (HC7.out.1.step hb8 rfl) (below_then HC7.out.2 hb8))
  clear hb8 HC7
  rw [Tx.TextOf.uniq (by have := HK.out.1; omega) htx2 HT.out.1, HS.out]
  clear htx2
  have hmax : ∀ w : World, (Builtin.max_ #[31, 31, 31, 31] 31 #[.int .i64 0, .int .i64 0, .int .i64 0, .int .i64 0]).run Tryd.prog w = .ok (.int .i64 0) w := fun _ => by kernel_rfl
  obtain ⟨py0, py1⟩ : Two wq8 rq2 (.bool qb2) (.slice qA2 qs2.length qc2) := (HC8.out.1 1 _ rfl).two rfl
  obtain ⟨px0, px1⟩ : Two wq8 r2 (.bool b1) (.slice B1 k1 d1) := (HC8.out.1 2 _ rfl).two rfl
  go_wp2_with fail
  refine (same_is x HF.out _ _ _ ((HC8.out.1 1 _ rfl).at_) ((HC8.out.1 2 _ rfl).at_)).mono ?_
  rintro e wq9 ⟨rfl, hb9⟩
  clear py0 py1 px0 px1
  have HC9 := Lib.hid (And.intro (HC8.out.1.step hb9 rfl) (below_then HC8.out.2 hb9))
  clear hb9 HC8
  obtain ⟨pz0, pz1⟩ : Two wq9 rq7 (.bool qb7) (.slice qA7 qs7.length qc7) := (HC9.out.1 0 _ rfl).two rfl
  obtain ⟨px0, px1⟩ : Two wq9 r2 (.bool b1) (.slice B1 k1 d1) := (HC9.out.1 2 _ rfl).two rfl
  go_wp2_with fail
  refine (same_is x HF.out _ _ _ ((HC9.out.1 0 _ rfl).at_) ((HC9.out.1 2 _ rfl).at_)).mono ?_
  rintro e wq10 ⟨rfl, hb10⟩
  clear pz0 pz1 px0 px1
  have HC10 := Lib.hid (And.intro (HC9.out.1.step hb10 rfl) (below_then HC9.out.2 hb10))
  clear hb10 HC9
  obtain ⟨px0, px1⟩ : Two wq10 r2 (.bool b1) (.slice B1 k1 d1) := (HC10.out.1 2 _ rfl).two rfl
  go_wp2_with fail
  refine (HSG.out _ _ ((HC10.out.1 2 _ rfl).at_)).mono ?_
  rintro e wq11 ⟨rfl, hb11⟩
  clear px0 px1
  have HC11 := Lib.hid (And.intro (HC10.out.1.step hb11 rfl) (below_then HC10.out.2 hb11))
  clear hb11 HC10
  go_wp2_with fail
  refine (HT.out.2.2.2.2.1 _).mono ?_
  rintro e wq12 ⟨rfl, rfl⟩
  go_wp2_with fail
  refine (HH2.out _).mono ?_
  rintro e wq13 ⟨rfl, rfl⟩
  go_wp2_with fail
  refine (awake_any _).mono ?_
  rintro e wq14 ⟨rfl, hb14⟩
  have HC14 := Lib.hid (And.intro (HC11.out.1.step hb14 rfl) (below_then HC11.out.2 hb14))
  clear hb14 HC11
  go_wp2
  go_ret
  exact ⟨rfl, HC14.out.2⟩

set_option maxRecDepth 100000 in
set_option maxHeartbeats 8000000 in
theorem digits_zero (m n : Nat) (s1 : Bool) (A1 : Option Addr) (c1 : Nat) (xs1 : List Nat) (w : World)
    (h1 : Plain w A1 c1 xs1) (l1 : xs1.length ≤ 8) (hm : m ≤ 255) (hn : n ≤ 255) (hcase : ofSign s1 (Lm.val B32 xs1) = 0) :
    Calls Tryd.prog 3 #[.agg #[.bool s1, .slice A1 xs1.length c1], .int .u8 (m : Int), .int .u8 (n : Int)] w fun e w' => IsBool w w' true e := by
  have hb0 : Below w.heap.size w (w.alloc (.cells #[.bool s1, .slice A1 xs1.length c1] 24)) := (Below.refl _ _).alloc (Nat.le_refl _) _
  have hx0 : Two (w.alloc (.cells #[.bool s1, .slice A1 xs1.length c1] 24)) w.heap.size (.bool s1) (.slice A1 xs1.length c1) := Two.new w _ _ 24
  have hsz : (w.alloc (.cells #[.bool s1, .slice A1 xs1.length c1] 24)).heap.size = w.heap.size + 1 := by rw [size_alloc]
  have hba : Below (w.alloc (.cells #[.bool s1, .slice A1 xs1.length c1] 24)).heap.size (w.alloc (.cells #[.bool s1, .slice A1 xs1.length c1] 24)) ((w.alloc (.cells #[.bool s1, .slice A1 xs1.length c1] 24)).alloc (.cells #[.bool s1, .slice A1 xs1.length c1] 24)) := (Below.refl _ _).alloc (Nat.le_refl _) _
  have hx1 := hx0.step hba rfl (by omega)
  have hsh : Calls Tryd.prog 4 #[.int .i64 8, .slice (some ⟨w.heap.size + 1, 0, none⟩) 1 1] ((w.alloc (.cells #[.bool s1, .slice A1 xs1.length c1] 24)).alloc (.cells #[.bool s1, .slice A1 xs1.length c1] 24)) fun e w' => IsBool ((w.alloc (.cells #[.bool s1, .slice A1 xs1.length c1] 24)).alloc (.cells #[.bool s1, .slice A1 xs1.length c1] 24)) w' true e := by
    have hr := row1 (w.alloc (.cells #[.bool s1, .slice A1 xs1.length c1] 24)) s1 A1 xs1.length c1 24
    rw [hsz] at hr
    have := shortN_any (w.heap.size + 1) 8 [⟨s1, A1, xs1.length, c1⟩] _ hr (by simp)
    rw [decide_eq_true (show AllS 8 [⟨s1, A1, xs1.length, c1⟩] from fun y hy => by simp at hy; subst hy; exact l1)] at this
    exact this
  have H := Lib.hid (And.intro hsh (And.intro (below_then hb0 hba) (And.intro hx1 hsz)))
  have HP := Lib.hid (And.intro h1 (fits_of s1 h1.2.1 l1))
  clear hb0 hx0 hsz hba hx1 hsh h1 l1
  go_enter Tryd.func3, Tryd.ntmps3
  go_wp2_with fail
  refine H.out.1.mono ?_
  rintro e w1 ⟨rfl, hb1⟩
  have sz0 : w.heap.size + 2 ≤ w1.heap.size := by have := hb1.size; have h2 := H.out.2.2.2; rw [size_alloc] at this; omega
  have kx := H.out.2.2.1.step hb1 rfl (by rw [size_alloc]; have := H.out.2.2.2; omega)
  have bl1 := below_then H.out.2.1 hb1
  have hba : Below w1.heap.size w1 (w1.alloc (.cells #[.bool s1, .slice A1 xs1.length c1] 24)) := (Below.refl _ _).alloc (Nat.le_refl _) _
  have bl2 := below_then bl1 hba
  have hmk := madeN_any w1.heap.size [⟨s1, A1, xs1.length, c1⟩] [ofSign s1 (Lm.val B32 xs1)] _ (row1 w1 s1 A1 xs1.length c1 24)
    ⟨rfl, fun i x z hx hz => by
      match i, hx, hz with
      | 0, hx, hz => simp at hx hz; subst hx hz; exact ⟨xs1, rfl, HP.out.1.step bl2 rfl, rfl⟩⟩ (by simp) (by simp)
  obtain ⟨x, hx⟩ : ∃ x, ofSign s1 (Lm.val B32 xs1) = x := ⟨_, rfl⟩
  have hfx := HP.out.2
  rw [hx] at hfx hmk hcase
  have HM := Lib.hid (And.intro (show Calls Tryd.prog 6 #[.slice (some ⟨w1.heap.size, 0, none⟩) 1 1] _ _ from hmk) (And.intro bl2 hfx))
  have HX := Lib.hid hcase
  obtain ⟨px0, px1⟩ := id kx
  clear hb1 kx bl1 hba bl2 hmk hx hfx HP H hcase
  go_wp2_with fail
  refine HM.out.1.mono ?_
  rintro e w2 ⟨g, cc, rfl, hcc, hlt, hcells, hb2⟩
  obtain ⟨u1, v1, f0, f1, ⟨b1, B1, k1, d1, rfl, rfl, _, hi1⟩⟩ := hcells 0 x rfl
  have bl2 := below_then HM.out.2.1 hb2
  have hv2 := ((Vars.nil w2).cons (t := ⟨false, 0, b1, B1, k1, d1, x⟩) ⟨fun e => (by cases e), fun e => (by cases e), hi1⟩).laid 28
  have hl2 := bl2.alloc (Nat.le_trans (Nat.le_refl _) bl2.size) (.cells #[.bool b1, .slice B1 k1 d1] 28)
  have HF := Lib.hid HM.out.2.2
  simp only [List.length_cons, List.length_nil, Nat.mul_zero, Nat.zero_add] at f0 f1 hcc ⊢
  obtain ⟨W2, hW2⟩ : ∃ W : World, W = w2.alloc (.cells #[.bool b1, .slice B1 k1 d1] 28) := ⟨_, rfl⟩
  obtain ⟨r2, hr2⟩ : ∃ r : Nat, r = w2.heap.size := ⟨_, rfl⟩
  rw [← hW2] at hv2 hl2
  rw [← hr2] at hv2
  have HC := Lib.hid (And.intro hv2 hl2)
  have HW := Lib.hid hW2
  have HR := Lib.hid hr2
  clear hcells hi1 bl2 hb2 px0 px1 HM hv2 hl2 hW2 hr2
  have hcc' : (1 : Int) ≤ (cc : Int) := by omega
  have a0 := fun o1 : Obj => (World.cell?_alloc_lt w2 o1 ⟨g, 0, none⟩ hlt).trans f0
  have a1 := fun o1 : Obj => (World.cell?_alloc_lt w2 o1 ⟨g, 1, none⟩ hlt).trans f1
  go_upto_region 4 with fail
  rw [← HW.out, ← HR.out]
  clear HW HR f0 f1 a0 a1 hcc' hcc hlt
  obtain ⟨q, hq⟩ : ∃ q, m % 35 = q := ⟨_, rfl⟩
  obtain ⟨kk, hkk⟩ : ∃ k, 2 + q = k := ⟨_, rfl⟩
  obtain ⟨n0, hn0⟩ : ∃ k, n % 20 = k := ⟨_, rfl⟩
  have hqI : (m : Int) % 35 = (q : Int) := by omega
  have hkI : (2 : Int) + (q : Int) = (kk : Int) := by omega
  have hnI : (n : Int) % 20 = (n0 : Int) := by omega
  have hn19 : n0 ≤ 19 := by omega
  have hq34 : q ≤ 34 := by omega
  have h2 : 2 ≤ kk := by omega
  have h36 : kk ≤ 36 := by omega
  have HK := Lib.hid (And.intro h2 h36)
  clear hq hkk hn0 h2 h36
  go_upto_region 5 with fail
  obtain ⟨px0, px1⟩ : Two W2 r2 (.bool b1) (.slice B1 k1 d1) := (HC.out.1 0 _ rfl).two rfl
  go_wp2_with fail
  refine (Text_any _ x kk 8 _ ((HC.out.1 0 _ rfl).at_) HK.out.1 HK.out.2 (by decide) HF.out).mono ?_
  rintro e wq1 ⟨bs, rfl, htx, _, hb1⟩
  clear px0 px1
  have HC1 := Lib.hid (And.intro (HC.out.1.step hb1 rfl) (below_then HC.out.2 hb1))
  clear hb1 HC
  obtain ⟨ts, hbs, hpt⟩ := TextOf.parts htx HK.out.1 HK.out.2
  rw [if_neg (by have := HX.out; omega), List.nil_append] at hbs
  have hsm : ∀ c ∈ bs, c < 256 := fun c hc => by
    rw [hbs] at hc
    have := hpt.small HK.out.2 c hc; omega
  obtain ⟨s, hs⟩ : ∃ s, Tx.str bs = s := ⟨_, rfl⟩
  have hsb : Tx.bts s = ts := by rw [← hs, Tx.bts_str hsm, hbs]
  have htl : ts.length ≤ 257 := hpt.short 8 HF.out
  have htz : ts = [48] := hpt.zero HX.out
  obtain ⟨g, hg, htr⟩ := trim_is s ts (by rw [hsb, if_neg (hpt.plainHead HK.out.2).1])
  obtain ⟨rp, hrp, hrc⟩ := rep_is n0 hn19
  obtain ⟨lw, hlw, hlc⟩ := low_is g ts hg (hpt.small HK.out.2) (by omega)
  have hh1 := has_is s 45 false (by rw [hsb]; exact decide_eq_false (hpt.plainHead HK.out.2).1)
  have hgz : g = ⟨#[48]⟩ := Tx.bts_inj (by rw [hg, htz]; rfl)
  have hlow := hpt.low HK.out.2 n0
  have hub : Tx.bts ((⟨#[43]⟩ ++ rp) ++ lw) = 43 :: (List.replicate n0 48 ++ ts.map lowN) := by rw [Tx.bts_append, Tx.bts_append, hrp, hlw, List.append_assoc]; rfl
  have hul : (List.replicate n0 48 ++ ts.map lowN).length + 1 ≤ 20000 := by rw [List.length_append, List.length_replicate, List.length_map]; omega
  have hp2 := fun w : World => parse_sign_plus ((⟨#[43]⟩ ++ rp) ++ lw) (List.replicate n0 48 ++ ts.map lowN) kk x w HK.out.1 HK.out.2 hub hul hlow.2.2 hlow.1 (by rw [hlow.2.1]; have := HX.out; omega)
  have hp1 := fun w : World => parse_list s ts kk x w HK.out.1 HK.out.2 hsb (by omega) hpt.ne (hpt.plainHead HK.out.2) (hpt.all HK.out.2) (by rw [hpt.num]; have := HX.out; omega)
  have hsz1 : rp.size ≤ 19 := by rw [size_bts hrp, List.length_replicate]; exact hn19
  have hsz2 : lw.size ≤ 257 := by rw [size_bts hlw, List.length_map]; exact htl
  have had1 := fun W : World => run_string_add_sum (P := Tryd.prog) W ⟨#[43]⟩ rp (by have : (⟨#[43]⟩ : ByteArray).size = 1 := rfl; omega)
  have had2 := fun W : World => run_string_add_sum (P := Tryd.prog) W (⟨#[43]⟩ ++ rp) lw (by rw [ByteArray.size_append]; have : (⟨#[43]⟩ : ByteArray).size = 1 := rfl; omega)
  have HT := Lib.hid (And.intro htx (And.intro htr (And.intro hrc (And.intro hlc (And.intro hh1 (And.intro hp1 hp2))))))
  have HS := Lib.hid hs
  have hsg : x.sign = 0 := by rw [HX.out]; rfl
  have HSG := Lib.hid (show ∀ (v : Value) (w : World), IntAt w v x → Calls Tryd.prog 10 #[v] w fun e w' => IsNum w w' 0 e from fun v w h => by rw [← hsg]; exact Sign_any v x 8 w h (by decide) HF.out)
  clear htx hbs hpt hsm hsb htl htz hg htr hrp hrc hlw hlc hh1 hlow hub hul hp1 hp2 hsz1 hsz2 hsg
  rw [hs]
  clear hs
  go_wp2_with fail
  refine (HT.out.2.2.2.2.2.1 _).mono ?_
  rintro e wq2 ⟨qv2, rfl, ⟨qb2, qA2, qc2, qs2, rfl, qg2, ql2⟩, hb2⟩
  have hv2 := ((HC1.out.1.step hb2 rfl).told qg2 ql2).laid 28
  have hl2 : Below w.heap.size w (wq2.alloc (.cells #[.bool qb2, .slice qA2 qs2.length qc2] 28)) := (below_then HC1.out.2 hb2).alloc (Nat.le_trans HC1.out.2.size hb2.size) _
  obtain ⟨Wq2, hW2⟩ : ∃ W : World, W = wq2.alloc (.cells #[.bool qb2, .slice qA2 qs2.length qc2] 28) := ⟨_, rfl⟩
  obtain ⟨rq2, hr2⟩ : ∃ r : Nat, r = wq2.heap.size := ⟨_, rfl⟩
  rw [← hW2] at hv2 hl2
  rw [← hr2] at hv2
  have HC2 := Lib.hid (And.intro hv2 hl2)
  have HW2 := Lib.hid hW2
  have HR2 := Lib.hid hr2
  clear hv2 hl2 hW2 hr2 qg2 ql2 hb2 HC1
  go_upto_region 7 with fail
  rw [← HW2.out, ← HR2.out]
  clear HW2 HR2
  go_wp2_with fail
  refine (HT.out.2.1 _).mono ?_
  rintro e wq3 ⟨rfl, rfl⟩
  subst hgz
  obtain ⟨px0, px1⟩ : Two Wq2 r2 (.bool b1) (.slice B1 k1 d1) := (HC2.out.1 1 _ rfl).two rfl
  go_wp2_with fail
  refine (HSG.out _ _ ((HC2.out.1 1 _ rfl).at_)).mono ?_
  rintro e wq4 ⟨rfl, hb4⟩
  clear px0 px1
  have HC4 := Lib.hid (And.intro (HC2.out.1.step hb4 rfl) (below_then HC2.out.2 hb4))
  clear hb4 HC2
  go_wp2_with fail
  refine (HT.out.2.2.1 _).mono ?_
  rintro e wq5 ⟨rfl, hb5⟩
  have HC5 := Lib.hid (And.intro (HC4.out.1.step hb5 rfl) (below_then HC4.out.2 hb5))
  clear hb5 HC4
  go_wp2_with fail
  refine (HT.out.2.2.2.1 _).mono ?_
  rintro e wq6 ⟨rfl, hb6⟩
  have HC6 := Lib.hid (And.intro (HC5.out.1.step hb6 rfl) (below_then HC5.out.2 hb6))
  clear hb6 HC5
  go_wp2_with fail
  refine (HT.out.2.2.2.2.2.2 _).mono ?_
  rintro e wq7 ⟨qv7, rfl, ⟨qb7, qA7, qc7, qs7, rfl, qg7, ql7⟩, hb7⟩
  have hv7 := ((HC6.out.1.step hb7 rfl).told qg7 ql7).laid 28
  have hl7 : Below w.heap.size w (wq7.alloc (.cells #[.bool qb7, .slice qA7 qs7.length qc7] 28)) := (below_then HC6.out.2 hb7).alloc (Nat.le_trans HC6.out.2.size hb7.size) _
  obtain ⟨Wq7, hW7⟩ : ∃ W : World, W = wq7.alloc (.cells #[.bool qb7, .slice qA7 qs7.length qc7] 28) := ⟨_, rfl⟩
  obtain ⟨rq7, hr7⟩ : ∃ r : Nat, r = wq7.heap.size := ⟨_, rfl⟩
  rw [← hW7] at hv7 hl7
  rw [← hr7] at hv7
  have HC7 := Lib.hid (And.intro hv7 hl7)
  have HW7 := Lib.hid hW7
  have HR7 := Lib.hid hr7
  clear hv7 hl7 hW7 hr7 qg7 ql7 hb7 HC6
  go_upto_region 12 with fail
  rw [← HW7.out, ← HR7.out]
  clear HW7 HR7
  obtain ⟨pz0, pz1⟩ : Two Wq7 rq7 (.bool qb7) (.slice qA7 qs7.length qc7) := (HC7.out.1 0 _ rfl).two rfl
  go_wp2_with fail
  refine (Text_any _ x kk 8 _ ((HC7.out.1 0 _ rfl).at_) HK.out.1 HK.out.2 (by decide) HF.out).mono ?_
  rintro e wq8 ⟨bs2, rfl, htx2, _, hb8⟩
  clear pz0 pz1
  have HC8 := Lib.hid (And.intro (HC7.out.1.step hb8 rfl) (below_then HC7.out.2 hb8))
  clear hb8 HC7
  rw [Tx.TextOf.uniq (by have := HK.out.1; omega) htx2 HT.out.1, HS.out]
  clear htx2
  have hmax : ∀ w : World, (Builtin.max_ #[31, 31, 31, 31] 31 #[.int .i64 0, .int .i64 0, .int .i64 0, .int .i64 0]).run Tryd.prog w = .ok (.int .i64 0) w := fun _ => by kernel_rfl
  obtain ⟨py0, py1⟩ : Two wq8 rq2 (.bool qb2) (.slice qA2 qs2.length qc2) := (HC8.out.1 1 _ rfl).two rfl
  obtain ⟨px0, px1⟩ : Two wq8 r2 (.bool b1) (.slice B1 k1 d1) := (HC8.out.1 2 _ rfl).two rfl
  go_wp2_with fail
  refine (same_is x HF.out _ _ _ ((HC8.out.1 1 _ rfl).at_) ((HC8.out.1 2 _ rfl).at_)).mono ?_
  rintro e wq9 ⟨rfl, hb9⟩
  clear py0 py1 px0 px1
  have HC9 := Lib.hid (And.intro (HC8.out.1.step hb9 rfl) (below_then HC8.out.2 hb9))
  clear hb9 HC8
  obtain ⟨pz0, pz1⟩ : Two wq9 rq7 (.bool qb7) (.slice qA7 qs7.length qc7) := (HC9.out.1 0 _ rfl).two rfl
  obtain ⟨px0, px1⟩ : Two wq9 r2 (.bool b1) (.slice B1 k1 d1) := (HC9.out.1 2 _ rfl).two rfl
  go_wp2_with fail
  refine (same_is x HF.out _ _ _ ((HC9.out.1 0 _ rfl).at_) ((HC9.out.1 2 _ rfl).at_)).mono ?_
  rintro e wq10 ⟨rfl, hb10⟩
  clear pz0 pz1 px0 px1
  have HC10 := Lib.hid (And.intro (HC9.out.1.step hb10 rfl) (below_then HC9.out.2 hb10))
  clear hb10 HC9
  obtain ⟨px0, px1⟩ : Two wq10 r2 (.bool b1) (.slice B1 k1 d1) := (HC10.out.1 2 _ rfl).two rfl
  go_wp2_with fail
  refine (HSG.out _ _ ((HC10.out.1 2 _ rfl).at_)).mono ?_
  rintro e wq11 ⟨rfl, hb11⟩
  clear px0 px1
  have HC11 := Lib.hid (And.intro (HC10.out.1.step hb11 rfl) (below_then HC10.out.2 hb11))
  clear hb11 HC10
  go_wp2_with fail
  refine (HT.out.2.2.2.2.1 _).mono ?_
  rintro e wq12 ⟨rfl, rfl⟩
  go_wp2_with fail
  refine (awake_any _).mono ?_
  rintro e wq13 ⟨rfl, hb13⟩
  have HC13 := Lib.hid (And.intro (HC11.out.1.step hb13 rfl) (below_then HC11.out.2 hb13))
  clear hb13 HC11
  go_wp2
  go_ret
  exact ⟨rfl, HC13.out.2⟩

set_option maxRecDepth 100000 in
set_option maxHeartbeats 8000000 in
theorem digits_pos (m n : Nat) (s1 : Bool) (A1 : Option Addr) (c1 : Nat) (xs1 : List Nat) (w : World)
    (h1 : Plain w A1 c1 xs1) (l1 : xs1.length ≤ 8) (hm : m ≤ 255) (hn : n ≤ 255) (hcase : 0 < ofSign s1 (Lm.val B32 xs1)) :
    Calls Tryd.prog 3 #[.agg #[.bool s1, .slice A1 xs1.length c1], .int .u8 (m : Int), .int .u8 (n : Int)] w fun e w' => IsBool w w' true e := by
  have hb0 : Below w.heap.size w (w.alloc (.cells #[.bool s1, .slice A1 xs1.length c1] 24)) := (Below.refl _ _).alloc (Nat.le_refl _) _
  have hx0 : Two (w.alloc (.cells #[.bool s1, .slice A1 xs1.length c1] 24)) w.heap.size (.bool s1) (.slice A1 xs1.length c1) := Two.new w _ _ 24
  have hsz : (w.alloc (.cells #[.bool s1, .slice A1 xs1.length c1] 24)).heap.size = w.heap.size + 1 := by rw [size_alloc]
  have hba : Below (w.alloc (.cells #[.bool s1, .slice A1 xs1.length c1] 24)).heap.size (w.alloc (.cells #[.bool s1, .slice A1 xs1.length c1] 24)) ((w.alloc (.cells #[.bool s1, .slice A1 xs1.length c1] 24)).alloc (.cells #[.bool s1, .slice A1 xs1.length c1] 24)) := (Below.refl _ _).alloc (Nat.le_refl _) _
  have hx1 := hx0.step hba rfl (by omega)
  have hsh : Calls Tryd.prog 4 #[.int .i64 8, .slice (some ⟨w.heap.size + 1, 0, none⟩) 1 1] ((w.alloc (.cells #[.bool s1, .slice A1 xs1.length c1] 24)).alloc (.cells #[.bool s1, .slice A1 xs1.length c1] 24)) fun e w' => IsBool ((w.alloc (.cells #[.bool s1, .slice A1 xs1.length c1] 24)).alloc (.cells #[.bool s1, .slice A1 xs1.length c1] 24)) w' true e := by
    have hr := row1 (w.alloc (.cells #[.bool s1, .slice A1 xs1.length c1] 24)) s1 A1 xs1.length c1 24
    rw [hsz] at hr
    have := shortN_any (w.heap.size + 1) 8 [⟨s1, A1, xs1.length, c1⟩] _ hr (by simp)
    rw [decide_eq_true (show AllS 8 [⟨s1, A1, xs1.length, c1⟩] from fun y hy => by simp at hy; subst hy; exact l1)] at this
    exact this
  have H := Lib.hid (And.intro hsh (And.intro (below_then hb0 hba) (And.intro hx1 hsz)))
  have HP := Lib.hid (And.intro h1 (fits_of s1 h1.2.1 l1))
  clear hb0 hx0 hsz hba hx1 hsh h1 l1
  go_enter Tryd.func3, Tryd.ntmps3
  go_wp2_with fail
  refine H.out.1.mono ?_
  rintro e w1 ⟨rfl, hb1⟩
  have sz0 : w.heap.size + 2 ≤ w1.heap.size := by have := hb1.size; have h2 := H.out.2.2.2; rw [size_alloc] at this; omega
  have kx := H.out.2.2.1.step hb1 rfl (by rw [size_alloc]; have := H.out.2.2.2; omega)
  have bl1 := below_then H.out.2.1 hb1
  have hba : Below w1.heap.size w1 (w1.alloc (.cells #[.bool s1, .slice A1 xs1.length c1] 24)) := (Below.refl _ _).alloc (Nat.le_refl _) _
  have bl2 := below_then bl1 hba
  have hmk := madeN_any w1.heap.size [⟨s1, A1, xs1.length, c1⟩] [ofSign s1 (Lm.val B32 xs1)] _ (row1 w1 s1 A1 xs1.length c1 24)
    ⟨rfl, fun i x z hx hz => by
      match i, hx, hz with
      | 0, hx, hz => simp at hx hz; subst hx hz; exact ⟨xs1, rfl, HP.out.1.step bl2 rfl, rfl⟩⟩ (by simp) (by simp)
  obtain ⟨x, hx⟩ : ∃ x, ofSign s1 (Lm.val B32 xs1) = x := ⟨_, rfl⟩
  have hfx := HP.out.2
  rw [hx] at hfx hmk hcase
  have HM := Lib.hid (And.intro (show Calls Tryd.prog 6 #[.slice (some ⟨w1.heap.size, 0, none⟩) 1 1] _ _ from hmk) (And.intro bl2 hfx))
  have HX := Lib.hid hcase
  obtain ⟨px0, px1⟩ := id kx
  clear hb1 kx bl1 hba bl2 hmk hx hfx HP H hcase
  go_wp2_with fail
  refine HM.out.1.mono ?_
  rintro e w2 ⟨g, cc, rfl, hcc, hlt, hcells, hb2⟩
  obtain ⟨u1, v1, f0, f1, ⟨b1, B1, k1, d1, rfl, rfl, _, hi1⟩⟩ := hcells 0 x rfl
  have bl2 := below_then HM.out.2.1 hb2
  have hv2 := ((Vars.nil w2).cons (t := ⟨false, 0, b1, B1, k1, d1, x⟩) ⟨fun e => (by cases e), fun e => (by cases e), hi1⟩).laid 28
  have hl2 := bl2.alloc (Nat.le_trans (Nat.le_refl _) bl2.size) (.cells #[.bool b1, .slice B1 k1 d1] 28)
  have HF := Lib.hid HM.out.2.2
  simp only [List.length_cons, List.length_nil, Nat.mul_zero, Nat.zero_add] at f0 f1 hcc ⊢
  obtain ⟨W2, hW2⟩ : ∃ W : World, W = w2.alloc (.cells #[.bool b1, .slice B1 k1 d1] 28) := ⟨_, rfl⟩
  obtain ⟨r2, hr2⟩ : ∃ r : Nat, r = w2.heap.size := ⟨_, rfl⟩
  rw [← hW2] at hv2 hl2
  rw [← hr2] at hv2
  have HC := Lib.hid (And.intro hv2 hl2)
  have HW := Lib.hid hW2
  have HR := Lib.hid hr2
  clear hcells hi1 bl2 hb2 px0 px1 HM hv2 hl2 hW2 hr2
  have hcc' : (1 : Int) ≤ (cc : Int) := by omega
  have a0 := fun o1 : Obj => (World.cell?_alloc_lt w2 o1 ⟨g, 0, none⟩ hlt).trans f0
  have a1 := fun o1 : Obj => (World.cell?_alloc_lt w2 o1 ⟨g, 1, none⟩ hlt).trans f1
  go_upto_region 4 with fail
  rw [← HW.out, ← HR.out]
  clear HW HR f0 f1 a0 a1 hcc' hcc hlt
  obtain ⟨q, hq⟩ : ∃ q, m % 35 = q := ⟨_, rfl⟩
  obtain ⟨kk, hkk⟩ : ∃ k, 2 + q = k := ⟨_, rfl⟩
  obtain ⟨n0, hn0⟩ : ∃ k, n % 20 = k := ⟨_, rfl⟩
  have hqI : (m : Int) % 35 = (q : Int) := by omega
  have hkI : (2 : Int) + (q : Int) = (kk : Int) := by omega
  have hnI : (n : Int) % 20 = (n0 : Int) := by omega
  have hn19 : n0 ≤ 19 := by omega
  have hq34 : q ≤ 34 := by omega
  have h2 : 2 ≤ kk := by omega
  have h36 : kk ≤ 36 := by omega
  have HK := Lib.hid (And.intro h2 h36)
  clear hq hkk hn0 h2 h36
  go_upto_region 5 with fail
  obtain ⟨px0, px1⟩ : Two W2 r2 (.bool b1) (.slice B1 k1 d1) := (HC.out.1 0 _ rfl).two rfl
  go_wp2_with fail
  refine (Text_any _ x kk 8 _ ((HC.out.1 0 _ rfl).at_) HK.out.1 HK.out.2 (by decide) HF.out).mono ?_
  rintro e wq1 ⟨bs, rfl, htx, _, hb1⟩
  clear px0 px1
  have HC1 := Lib.hid (And.intro (HC.out.1.step hb1 rfl) (below_then HC.out.2 hb1))
  clear hb1 HC
  obtain ⟨ts, hbs, hpt⟩ := TextOf.parts htx HK.out.1 HK.out.2
  rw [if_neg (by have := HX.out; omega), List.nil_append] at hbs
  have hsm : ∀ c ∈ bs, c < 256 := fun c hc => by
    rw [hbs] at hc
    have := hpt.small HK.out.2 c hc; omega
  obtain ⟨s, hs⟩ : ∃ s, Tx.str bs = s := ⟨_, rfl⟩
  have hsb : Tx.bts s = ts := by rw [← hs, Tx.bts_str hsm, hbs]
  have htl : ts.length ≤ 257 := hpt.short 8 HF.out
  obtain ⟨g, hg, htr⟩ := trim_is s ts (by rw [hsb, if_neg (hpt.plainHead HK.out.2).1])
  obtain ⟨rp, hrp, hrc⟩ := rep_is n0 hn19
  obtain ⟨lw, hlw, hlc⟩ := low_is g ts hg (hpt.small HK.out.2) (by omega)
  have hh1 := has_is s 45 false (by rw [hsb]; exact decide_eq_false (hpt.plainHead HK.out.2).1)
  have hh2 := has_is g 48 false (by rw [hg]; exact decide_eq_false (hpt.head (by have := HX.out; omega)))
  have hlow := hpt.low HK.out.2 n0
  have hub : Tx.bts ((⟨#[43]⟩ ++ rp) ++ lw) = 43 :: (List.replicate n0 48 ++ ts.map lowN) := by rw [Tx.bts_append, Tx.bts_append, hrp, hlw, List.append_assoc]; rfl
  have hul : (List.replicate n0 48 ++ ts.map lowN).length + 1 ≤ 20000 := by rw [List.length_append, List.length_replicate, List.length_map]; omega
  have hp2 := fun w : World => parse_sign_plus ((⟨#[43]⟩ ++ rp) ++ lw) (List.replicate n0 48 ++ ts.map lowN) kk x w HK.out.1 HK.out.2 hub hul hlow.2.2 hlow.1 (by rw [hlow.2.1]; have := HX.out; omega)
  have hp1 := fun w : World => parse_list s ts kk x w HK.out.1 HK.out.2 hsb (by omega) hpt.ne (hpt.plainHead HK.out.2) (hpt.all HK.out.2) (by rw [hpt.num]; have := HX.out; omega)
  have hsz1 : rp.size ≤ 19 := by rw [size_bts hrp, List.length_replicate]; exact hn19
  have hsz2 : lw.size ≤ 257 := by rw [size_bts hlw, List.length_map]; exact htl
  have had1 := fun W : World => run_string_add_sum (P := Tryd.prog) W ⟨#[43]⟩ rp (by have : (⟨#[43]⟩ : ByteArray).size = 1 := rfl; omega)
  have had2 := fun W : World => run_string_add_sum (P := Tryd.prog) W (⟨#[43]⟩ ++ rp) lw (by rw [ByteArray.size_append]; have : (⟨#[43]⟩ : ByteArray).size = 1 := rfl; omega)
  have HT := Lib.hid (And.intro htx (And.intro htr (And.intro hrc (And.intro hlc (And.intro hh1 (And.intro hp1 hp2))))))
  have HS := Lib.hid hs
  have HH2 := Lib.hid hh2
  have hsg : x.sign = 1 := Int.sign_eq_one_of_pos HX.out
  have HSG := Lib.hid (show ∀ (v : Value) (w : World), IntAt w v x → Calls Tryd.prog 10 #[v] w fun e w' => IsNum w w' 1 e from fun v w h => by rw [← hsg]; exact Sign_any v x 8 w h (by decide) HF.out)
  have hgn := ne48 hg (hpt.head (by have := HX.out; omega))
  have HGB := Lib.hid (And.intro hg hpt)
  clear htx hbs hpt hsm hsb htl hg htr hrp hrc hlw hlc hh1 hh2 hlow hub hul hp1 hp2 hsz1 hsz2 hsg
  rw [hs]
  clear hs
  go_wp2_with fail
  refine (HT.out.2.2.2.2.2.1 _).mono ?_
  rintro e wq2 ⟨qv2, rfl, ⟨qb2, qA2, qc2, qs2, rfl, qg2, ql2⟩, hb2⟩
  have hv2 := ((HC1.out.1.step hb2 rfl).told qg2 ql2).laid 28
  have hl2 : Below w.heap.size w (wq2.alloc (.cells #[.bool qb2, .slice qA2 qs2.length qc2] 28)) := (below_then HC1.out.2 hb2).alloc (Nat.le_trans HC1.out.2.size hb2.size) _
  obtain ⟨Wq2, hW2⟩ : ∃ W : World, W = wq2.alloc (.cells #[.bool qb2, .slice qA2 qs2.length qc2] 28) := ⟨_, rfl⟩
  obtain ⟨rq2, hr2⟩ : ∃ r : Nat, r = wq2.heap.size := ⟨_, rfl⟩
  rw [← hW2] at hv2 hl2
  rw [← hr2] at hv2
  have HC2 := Lib.hid (And.intro hv2 hl2)
  have HW2 := Lib.hid hW2
  have HR2 := Lib.hid hr2
  clear hv2 hl2 hW2 hr2 qg2 ql2 hb2 HC1
  go_upto_region 7 with fail
  rw [← HW2.out, ← HR2.out]
  clear HW2 HR2
  go_wp2_with fail
  refine (HT.out.2.1 _).mono ?_
  rintro e wq3 ⟨rfl, rfl⟩
  obtain ⟨px0, px1⟩ : Two Wq2 r2 (.bool b1) (.slice B1 k1 d1) := (HC2.out.1 1 _ rfl).two rfl
  go_wp2_with fail
  refine (HSG.out _ _ ((HC2.out.1 1 _ rfl).at_)).mono ?_
  rintro e wq4 ⟨rfl, hb4⟩
  clear px0 px1
  have HC4 := Lib.hid (And.intro (HC2.out.1.step hb4 rfl) (below_then HC2.out.2 hb4))
  clear hb4 HC2
  go_wp2_with fail
  refine (HT.out.2.2.1 _).mono ?_
  rintro e wq5 ⟨rfl, hb5⟩
  have HC5 := Lib.hid (And.intro (HC4.out.1.step hb5 rfl) (below_then HC4.out.2 hb5))
  clear hb5 HC4
  go_wp2_with fail
  refine (HT.out.2.2.2.1 _).mono ?_
  rintro e wq6 ⟨rfl, hb6⟩
  have HC6 := Lib.hid (And.intro (HC5.out.1.step hb6 rfl) (below_then HC5.out.2 hb6))
  clear hb6 HC5
  go_wp2_with fail
  refine (HT.out.2.2.2.2.2.2 _).mono ?_
  rintro e wq7 ⟨qv7, rfl, ⟨qb7, qA7, qc7, qs7, rfl, qg7, ql7⟩, hb7⟩
  have hv7 := ((HC6.out.1.step hb7 rfl).told qg7 ql7).laid 28
  have hl7 : Below w.heap.size w (wq7.alloc (.cells #[.bool qb7, .slice qA7 qs7.length qc7] 28)) := (below_then HC6.out.2 hb7).alloc (Nat.le_trans HC6.out.2.size hb7.size) _
  obtain ⟨Wq7, hW7⟩ : ∃ W : World, W = wq7.alloc (.cells #[.bool qb7, .slice qA7 qs7.length qc7] 28) := ⟨_, rfl⟩
  obtain ⟨rq7, hr7⟩ : ∃ r : Nat, r = wq7.heap.size := ⟨_, rfl⟩
  rw [← hW7] at hv7 hl7
  rw [← hr7] at hv7
  have HC7 := Lib.hid (And.intro hv7 hl7)
  have HW7 := Lib.hid hW7
  have HR7 := Lib.hid hr7
  clear hv7 hl7 hW7 hr7 qg7 ql7 hb7 HC6
  go_upto_region 12 with fail
  rw [← HW7.out, ← HR7.out]
  clear HW7 HR7
  obtain ⟨pz0, pz1⟩ : Two Wq7 rq7 (.bool qb7) (.slice qA7 qs7.length qc7) := (HC7.out.1 0 _ rfl).two rfl
  go_wp2_with fail
  refine (Text_any _ x kk 8 _ ((HC7.out.1 0 _ rfl).at_) HK.out.1 HK.out.2 (by decide) HF.out).mono ?_
  rintro e wq8 ⟨bs2, rfl, htx2, _, hb8⟩
  clear pz0 pz1
  have HC8 := Lib.hid (And.intro (HC7.out.1.step hb8 rfl) (below_then HC7.out.2 hb8))
  clear hb8 HC7
  rw [Tx.TextOf.uniq (by have := HK.out.1; omega) htx2 HT.out.1, HS.out]
  clear htx2
  have hmax : ∀ w : World, (Builtin.max_ #[31, 31, 31, 31] 31 #[.int .i64 0, .int .i64 0, .int .i64 0, .int .i64 0]).run Tryd.prog w = .ok (.int .i64 0) w := fun _ => by kernel_rfl
  obtain ⟨py0, py1⟩ : Two wq8 rq2 (.bool qb2) (.slice qA2 qs2.length qc2) := (HC8.out.1 1 _ rfl).two rfl
  obtain ⟨px0, px1⟩ : Two wq8 r2 (.bool b1) (.slice B1 k1 d1) := (HC8.out.1 2 _ rfl).two rfl
  go_wp2_with fail
  refine (same_is x HF.out _ _ _ ((HC8.out.1 1 _ rfl).at_) ((HC8.out.1 2 _ rfl).at_)).mono ?_
  rintro e wq9 ⟨rfl, hb9⟩
  clear py0 py1 px0 px1
  have HC9 := Lib.hid (And.intro (HC8.out.1.step hb9 rfl) (below_then HC8.out.2 hb9))
  clear hb9 HC8
  obtain ⟨pz0, pz1⟩ : Two wq9 rq7 (.bool qb7) (.slice qA7 qs7.length qc7) := (HC9.out.1 0 _ rfl).two rfl
  obtain ⟨px0, px1⟩ : Two wq9 r2 (.bool b1) (.slice B1 k1 d1) := (HC9.out.1 2 _ rfl).two rfl
  go_wp2_with fail
  refine (same_is x HF.out _ _ _ ((HC9.out.1 0 _ rfl).at_) ((HC9.out.1 2 _ rfl).at_)).mono ?_
  rintro e wq10 ⟨rfl, hb10⟩
  clear pz0 pz1 px0 px1
  have HC10 := Lib.hid (And.intro (HC9.out.1.step hb10 rfl) (below_then HC9.out.2 hb10))
  clear hb10 HC9
  obtain ⟨px0, px1⟩ : Two wq10 r2 (.bool b1) (.slice B1 k1 d1) := (HC10.out.1 2 _ rfl).two rfl
  go_wp2_with fail
  refine (HSG.out _ _ ((HC10.out.1 2 _ rfl).at_)).mono ?_
  rintro e wq11 ⟨rfl, hb11⟩
  clear px0 px1
  have HC11 := Lib.hid (And.intro (HC10.out.1.step hb11 rfl) (below_then HC10.out.2 hb11))
  clear hb11 HC10
  go_wp2_with fail
  refine (HT.out.2.2.2.2.1 _).mono ?_
  rintro e wq12 ⟨rfl, rfl⟩
  go_wp2_with fail
  refine (HH2.out _).mono ?_
  rintro e wq13 ⟨rfl, rfl⟩
  go_wp2_with fail
  refine (awake_any _).mono ?_
  rintro e wq14 ⟨rfl, hb14⟩
  have HC14 := Lib.hid (And.intro (HC11.out.1.step hb14 rfl) (below_then HC11.out.2 hb14))
  clear hb14 HC11
  go_wp2
  go_ret
  exact ⟨rfl, HC14.out.2⟩
end Go.Proofs.YtllkajlmfbikhaaDoor
