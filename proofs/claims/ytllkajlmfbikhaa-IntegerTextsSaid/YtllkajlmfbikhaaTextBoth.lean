/- Text and Parse of the program and of the reference have the same answers: for the law IntegerTexts. -/
import Derived.Test.YtllkajlmfbikhaaRParse
import Derived.Test.YtllkajlmfbikhaaMixKit
namespace Go.Proofs.Ytllkajlmfbikhaa.RK
open Go.RowKit
set_option linter.unusedSimpArgs false

def IsStrE (w w' : World) (t : ByteArray) (k : Int) (e : Ending) : Prop := e = .returned (.tuple #[.string t, .int .i64 k]) ∧ Below w.heap.size w w'
structure TextB (z : Int) (s : ByteArray) (r : Int) (t : ByteArray) (et y ey : Int) : Prop where
  pt : ∀ v w, IntAt w v z → Calls Try.prog 60 #[v, .int .i64 r] w fun e w' => IsStrE w w' t et e
  qt : ∀ v w, RefAt w v z → Calls Try.prog 61 #[v, .int .i64 r] w fun e w' => IsStrE w w' t et e
  pp : ∀ w, Calls Try.prog 62 #[.string s, .int .i64 r] w fun e w' => IsIE w w' y ey e
  qp : ∀ w, Calls Try.prog 63 #[.string s, .int .i64 r] w fun e w' => IsRE w w' y ey e
  fy : FitD y 80

theorem text_exists {r : Nat} (hr : 2 ≤ r) : ∀ n : Nat, ∃ ds, Lm.Ok r ds ∧ Lm.Top ds ∧ Lm.val r ds = n := by
  intro n
  induction n using Nat.strongRecOn with
  | ind n ih =>
    by_cases h0 : n = 0
    · subst h0; exact ⟨[], Lm.Ok.nil _, Lm.Top.nil, rfl⟩
    · obtain ⟨ds, h1, h2, h3⟩ := ih (n / r) (Nat.div_lt_self (by omega) (by omega))
      refine ⟨(n % r) :: ds, Lm.Ok.cons (Nat.mod_lt _ (by omega)) h1, ?_, by rw [Lm.val_cons, h3, Nat.add_comm]; exact Nat.div_add_mod n r⟩
      unfold Lm.Top at h2 ⊢
      cases ds with
      | nil =>
        have hd := Nat.div_add_mod n r
        rw [← h3] at hd
        simp [Lm.val] at hd
        simp; omega
      | cons d ds => rw [List.getLast?_cons_cons]; exact h2
theorem textOf_exists {r : Nat} (hr : 2 ≤ r) (z : Int) : ∃ bs, Tx.TextOf r z bs := by
  by_cases h0 : z = 0
  · exact ⟨_, .inl ⟨h0, rfl⟩⟩
  · obtain ⟨ds, h1, h2, h3⟩ := text_exists hr z.natAbs
    exact ⟨_, .inr ⟨ds, h0, h1, h2, h3, rfl⟩⟩
theorem fit_said {r : Nat} {l : List Nat} (b : Bool) (h : Tx.AllDig r l) (hr : r ≤ 36) (hl : l.length ≤ 200) : FitD (ofSign b (Tx.numOf r l)) 80 := by
  have h1 := Tx.numOf_lt h
  have h2 : r ^ l.length ≤ 64 ^ l.length := Nat.pow_le_pow_left (by omega) _
  have h3 : 64 ^ l.length ≤ 64 ^ 200 := Nat.pow_le_pow_right (by decide) hl
  have h4 : (64 : Nat) ^ 200 ≤ BD ^ 80 := by decide +kernel
  have h5 : Tx.numOf r l < BD ^ 80 := Nat.lt_of_lt_of_le h1 (Nat.le_trans h2 (Nat.le_trans h3 h4))
  unfold FitD ofSign
  cases b <;> simp <;> exact h5
theorem fit_zero : FitD 0 80 := by unfold FitD; exact Nat.pow_pos BD_pos

/-- What both Parses answer. -/
theorem parse_same (s : ByteArray) (r : Nat) (h2 : 2 ≤ r) (h36 : r ≤ 36) (hs : s.size ≤ 200) : ∃ y ey, FitD y 80 ∧ (∀ w, Calls Try.prog 62 #[.string s, .int .i64 r] w fun e w' => IsIE w w' y ey e) ∧ (∀ w, Calls Try.prog 63 #[.string s, .int .i64 r] w fun e w' => IsRE w w' y ey e) := by
  have hs2 : s.size ≤ 20000 := by omega
  rcases Nat.eq_zero_or_pos s.size with h0 | h0
  · exact ⟨0, 2, fit_zero, fun w => parse_empty s r w h2 h36 h0, fun w => rparse_empty s r w h2 h36 h0⟩
  · have key : ∀ (t : ByteArray) (b : Bool), t.size ≤ 200 →
        (∀ w, Calls Try.prog 62 #[.string s, .int .i64 r] w fun e w' => (Tx.AllDig r (Tx.bts t) ∧ IsIE w w' (ofSign b (Tx.numOf r (Tx.bts t))) 0 e) ∨ (¬ Tx.AllDig r (Tx.bts t) ∧ IsIE w w' 0 2 e)) →
        (∀ w, Calls Try.prog 63 #[.string s, .int .i64 r] w fun e w' => (Tx.AllDig r (Tx.bts t) ∧ IsRE w w' (ofSign b (Tx.numOf r (Tx.bts t))) 0 e) ∨ (¬ Tx.AllDig r (Tx.bts t) ∧ IsRE w w' 0 2 e)) →
        ∃ y ey, FitD y 80 ∧ (∀ w, Calls Try.prog 62 #[.string s, .int .i64 r] w fun e w' => IsIE w w' y ey e) ∧ (∀ w, Calls Try.prog 63 #[.string s, .int .i64 r] w fun e w' => IsRE w w' y ey e) := by
      intro t b ht hp hq
      by_cases hd : Tx.AllDig r (Tx.bts t)
      · refine ⟨_, 0, fit_said b hd h36 (by rw [Tx.bts_length]; exact ht), fun w => (hp w).mono fun e w' h => ?_, fun w => (hq w).mono fun e w' h => ?_⟩
        · rcases h with ⟨_, h⟩ | ⟨hn, _⟩
          · exact h
          · exact absurd hd hn
        · rcases h with ⟨_, h⟩ | ⟨hn, _⟩
          · exact h
          · exact absurd hd hn
      · refine ⟨0, 2, fit_zero, fun w => (hp w).mono fun e w' h => ?_, fun w => (hq w).mono fun e w' h => ?_⟩
        · rcases h with ⟨hn, _⟩ | ⟨_, h⟩
          · exact absurd hn hd
          · exact h
        · rcases h with ⟨hn, _⟩ | ⟨_, h⟩
          · exact absurd hn hd
          · exact h
    have htl : (s.extract 1 s.size).size ≤ 200 := by rw [ByteArray.size_extract]; omega
    by_cases hm : s[0].toNat = 45
    · rcases Nat.eq_zero_or_pos (s.extract 1 s.size).size with h1 | h1
      · exact ⟨0, 2, fit_zero, fun w => parse_minus_none s _ r w h2 h36 hs2 h0 hm rfl h1, fun w => rparse_minus_none s _ r w h2 h36 hs2 h0 hm rfl h1⟩
      · exact key _ true htl (fun w => parse_minus s _ r w h2 h36 hs2 h0 hm rfl h1) (fun w => rparse_minus s _ r w h2 h36 hs2 h0 hm rfl h1)
    · by_cases hp : s[0].toNat = 43
      · rcases Nat.eq_zero_or_pos (s.extract 1 s.size).size with h1 | h1
        · exact ⟨0, 2, fit_zero, fun w => parse_plus_none s _ r w h2 h36 hs2 h0 hp rfl h1, fun w => rparse_plus_none s _ r w h2 h36 hs2 h0 hp rfl h1⟩
        · exact key _ false htl (fun w => parse_plus s _ r w h2 h36 hs2 h0 hp rfl h1) (fun w => rparse_plus s _ r w h2 h36 hs2 h0 hp rfl h1)
      · exact key s false hs (fun w => parse_plain s r w h2 h36 hs2 h0 hm hp) (fun w => rparse_plain s r w h2 h36 hs2 h0 hm hp)

theorem texts_same (z : Int) (s : ByteArray) (r : Int) (hz : z.natAbs < B32 ^ 12) (hs : s.size ≤ 200) : ∃ t et y ey, Hid (TextB z s r t et y ey) := by
  by_cases hr : r < 2 ∨ 36 < r
  · refine ⟨⟨#[]⟩, 1, 0, 1, Lib.hid ⟨fun v w h => (Text_none v z r w h hr).mono fun e w' h => h, fun v w h => (RText_none v z r w h hr).mono fun e w' h => h, fun w => parse_radix s r w hr, fun w => ?_, fit_zero⟩⟩
    rcases hr with hr | hr
    · exact rparse_low s r w hr
    · exact rparse_high s r w hr
  · obtain ⟨n, rfl⟩ : ∃ n : Nat, r = (n : Int) := ⟨r.toNat, by omega⟩
    have h2 : 2 ≤ n := by omega
    have h36 : n ≤ 36 := by omega
    obtain ⟨bs, hbs⟩ := textOf_exists h2 z
    obtain ⟨y, ey, f, p, q⟩ := parse_same s n h2 h36 hs
    refine ⟨Tx.str bs, 0, y, ey, Lib.hid ⟨fun v w h => (Text_any v z n 12 w h h2 h36 (by decide) hz).mono fun e w' h => ?_, fun v w h => (RText_any v z n 24 w h h2 h36 (by decide) (by rw [show (24 : Nat) = 2 * 12 from rfl, Nat.pow_mul]; exact hz)).mono fun e w' h => ?_, p, q, f⟩⟩
    · obtain ⟨us, rfl, hu, _, hb⟩ := h
      rw [Tx.TextOf.uniq (by omega) hbs hu]
      exact ⟨rfl, hb⟩
    · obtain ⟨u, rfl, hu, hb⟩ := h
      rw [Tx.TextOf.uniq (by omega) hbs hu, Tx.str_bts]
      exact ⟨rfl, hb⟩
end Go.Proofs.Ytllkajlmfbikhaa.RK
