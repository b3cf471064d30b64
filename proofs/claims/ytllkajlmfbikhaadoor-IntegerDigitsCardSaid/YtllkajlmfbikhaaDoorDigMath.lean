/- For the law IntegerDigits: what texts of integers are made of, and what Parse says of them. -/
import Derived.Test.YtllkajlmfbikhaaDoorParseQ
import Derived.Test.YtllkajlmfbikhaaDoorTextP
import Derived.Lib.Strings
import Derived.Lib.Case
import Derived.Lib.Repeat
namespace Go.Proofs.YtllkajlmfbikhaaDoor
open Go.RowKit
set_option linter.unusedSimpArgs false

/-- The small letter of a great one. -/
def lowN (c : Nat) : Nat := if 65 ≤ c ∧ c ≤ 90 then c + 32 else c
theorem dig_low (d : Nat) (h : d < 36) : Tx.dig (lowN (Tx.chr d)) = d := by
  unfold Tx.dig lowN Tx.chr
  (repeat' split) <;> omega

/-- The digits' bytes of a text. -/
structure Parts (r : Nat) (z : Int) (ts : List Nat) : Prop where
  ne : ts ≠ []
  dg : ∀ c ∈ ts, ∃ d, d < r ∧ c = Tx.chr d
  num : Tx.numOf r ts = z.natAbs
  zero : z = 0 → ts = [48]
  head : z ≠ 0 → ts.head? ≠ some 48
  short : ∀ M, z.natAbs < B32 ^ M → ts.length ≤ 32 * M + 1
theorem chr_ne (d : Nat) (_ : d < 36) : Tx.chr d ≠ 45 ∧ Tx.chr d ≠ 43 := by have := Tx.chr_ge d; omega

theorem TextOf.parts {r : Nat} {z : Int} {bs : List Nat} (h : Tx.TextOf r z bs) (h2 : 2 ≤ r) (h36 : r ≤ 36) : ∃ ts, bs = (if z < 0 then [45] else []) ++ ts ∧ Parts r z ts := by
  rcases h with ⟨rfl, rfl⟩ | ⟨ds, h0, h1, ht, h3, rfl⟩
  · exact ⟨[48], by simp, by simp, fun c hc => ⟨0, by omega, (List.mem_singleton.1 hc).trans (by decide)⟩, by simp [Tx.numOf, Tx.dig], fun _ => rfl, fun h => absurd rfl h, fun M _ => by simp⟩
  · refine ⟨(ds.map Tx.chr).reverse, rfl, ?_, ?_, by rw [(Tx.numOf_digits h1 h36).1, h3], fun h => absurd h h0, fun _ => ?_, ?_⟩
    · intro e
      simp at e
      subst e
      simp [Lm.val] at h3
      omega
    · intro c hc
      rw [List.mem_reverse] at hc
      obtain ⟨d, hd, rfl⟩ := List.mem_map.1 hc
      exact ⟨d, h1 d hd, rfl⟩
    · rw [List.head?_reverse, List.getLast?_map]
      intro e
      cases hl : ds.getLast? with
      | none => rw [hl] at e; simp at e
      | some d =>
        rw [hl] at e
        simp at e
        have := Tx.chr_zero e
        subst this
        exact ht hl
    · intro M hM
      rw [List.length_reverse, List.length_map]
      rcases Nat.eq_zero_or_pos ds.length with e | e
      · omega
      · have hg := Lm.val_ge (b := r) e ht
        rw [h3] at hg
        have h4 : 2 ^ (ds.length - 1) ≤ r ^ (ds.length - 1) := Nat.pow_le_pow_left h2 _
        have h5 : (2 : Nat) ^ (ds.length - 1) < 2 ^ (32 * M) := by
          have : B32 ^ M = 2 ^ (32 * M) := by rw [Nat.pow_mul]; rfl
          omega
        have := (Nat.pow_lt_pow_iff_right (by decide : 1 < 2)).1 h5
        omega
theorem Parts.all {r : Nat} {z : Int} {ts : List Nat} (h : Parts r z ts) (h36 : r ≤ 36) : Tx.AllDig r ts := fun c hc => by
  obtain ⟨d, hd, rfl⟩ := h.dg c hc
  rw [Tx.dig_chr (by omega)]
  exact hd
theorem Parts.small {r : Nat} {z : Int} {ts : List Nat} (h : Parts r z ts) (h36 : r ≤ 36) : ∀ c ∈ ts, c < 128 := fun c hc => by
  obtain ⟨d, hd, rfl⟩ := h.dg c hc
  have := Tx.chr_le (d := d) (by omega)
  omega
theorem Parts.plainHead {r : Nat} {z : Int} {ts : List Nat} (h : Parts r z ts) (h36 : r ≤ 36) : ts.head? ≠ some 45 ∧ ts.head? ≠ some 43 := by
  have hd := h.dg
  cases ts with
  | nil => simp
  | cons c ts =>
    obtain ⟨d, hdr, rfl⟩ := hd c (List.mem_cons_self ..)
    have := chr_ne d (by omega)
    simp [this.1, this.2]
theorem Parts.low {r : Nat} {z : Int} {ts : List Nat} (h : Parts r z ts) (h36 : r ≤ 36) (n : Nat) :
    Tx.AllDig r (List.replicate n 48 ++ ts.map lowN) ∧ Tx.numOf r (List.replicate n 48 ++ ts.map lowN) = z.natAbs ∧ List.replicate n 48 ++ ts.map lowN ≠ [] := by
  have h0 : Tx.numOf r (List.replicate n 48) = 0 := by
    induction n with
    | zero => rfl
    | succ n ih => rw [List.replicate_succ', Tx.numOf_snoc, ih]; simp [Tx.dig]
  have hm : ∀ us : List Nat, (∀ c ∈ us, ∃ d, d < r ∧ c = Tx.chr d) → Tx.numOf r (us.map lowN) = Tx.numOf r us := by
    refine Tx.rev_ind (p := fun us => (∀ c ∈ us, ∃ d, d < r ∧ c = Tx.chr d) → Tx.numOf r (us.map lowN) = Tx.numOf r us) (fun _ => rfl) (fun us c ih hu => ?_)
    obtain ⟨d, hd, rfl⟩ := hu c (List.mem_append_right _ (List.mem_singleton.2 rfl))
    rw [List.map_append, List.map_cons, List.map_nil, Tx.numOf_snoc, Tx.numOf_snoc, ih (fun x hx => hu x (List.mem_append_left _ hx)), dig_low d (by omega), Tx.dig_chr (by omega)]
  refine ⟨fun c hc => ?_, by rw [Tx.numOf_append, h0, hm ts h.dg, h.num]; simp, ?_⟩
  · rcases List.mem_append.1 hc with hc | hc
    · rw [List.eq_of_mem_replicate hc]
      obtain ⟨x, hx⟩ := List.exists_mem_of_ne_nil _ h.ne
      obtain ⟨d, hd, _⟩ := h.dg x hx
      have : Tx.dig 48 = 0 := by decide
      omega
    · obtain ⟨x, hx, rfl⟩ := List.mem_map.1 hc
      obtain ⟨d, hd, rfl⟩ := h.dg x hx
      rw [dig_low d (by omega)]; exact hd
  · intro e
    have := congrArg List.length e
    rw [List.length_append, List.length_map] at this
    exact h.ne (List.eq_nil_of_length_eq_zero (by simp at this; simpa using this.2))

theorem size_bts {s : ByteArray} {l : List Nat} (h : Tx.bts s = l) : s.size = l.length := by rw [← h, Tx.bts_length]
theorem at0_bts {s : ByteArray} {c : Nat} {l : List Nat} (h : Tx.bts s = c :: l) (h0 : 0 < s.size) : s[0].toNat = c := by rw [Tx.bts_at s 0 h0, h]; rfl
theorem tail_bts {s : ByteArray} {c : Nat} {l : List Nat} (h : Tx.bts s = c :: l) : Tx.bts (s.extract 1 s.size) = l := by
  rw [Tx.bts_extract, h, List.take_of_length_le (by rw [size_bts h]; exact Nat.le_refl _)]; rfl

/-- Parse of a text without a sign. -/
theorem parse_list (s : ByteArray) (l : List Nat) (r : Nat) (z : Int) (w : World) (h2 : 2 ≤ r) (h36 : r ≤ 36) (hb : Tx.bts s = l) (hl : l.length ≤ 20000) (hn : l ≠ []) (hh : l.head? ≠ some 45 ∧ l.head? ≠ some 43) (hd : Tx.AllDig r l) (hz : (Tx.numOf r l : Int) = z) :
    Calls Tryd.prog 8 #[.string s, .int .i64 r] w fun e w' => IsIE w w' z 0 e := by
  cases l with
  | nil => exact absurd rfl hn
  | cons c l =>
    have h0 : 0 < s.size := by rw [size_bts hb]; simp
    have hc := at0_bts hb h0
    simp at hh
    refine (parse_plain s r w h2 h36 (by rw [size_bts hb]; exact hl) h0 (by rw [hc]; exact hh.1) (by rw [hc]; exact hh.2)).mono fun e w' h => ?_
    rw [hb] at h
    rcases h with ⟨_, h⟩ | ⟨h, _⟩
    · rw [← hz]; exact h
    · exact absurd hd h
theorem parse_sign_minus (s : ByteArray) (l : List Nat) (r : Nat) (z : Int) (w : World) (h2 : 2 ≤ r) (h36 : r ≤ 36) (hb : Tx.bts s = 45 :: l) (hl : l.length + 1 ≤ 20000) (hn : l ≠ []) (hd : Tx.AllDig r l) (hz : -(Tx.numOf r l : Int) = z) :
    Calls Tryd.prog 8 #[.string s, .int .i64 r] w fun e w' => IsIE w w' z 0 e := by
  have h0 : 0 < s.size := by rw [size_bts hb]; simp
  have ht := tail_bts hb
  refine (parse_minus s _ r w h2 h36 (by rw [size_bts hb]; exact hl) h0 (at0_bts hb h0) rfl (by rw [size_bts ht]; exact List.length_pos_iff.2 hn)).mono fun e w' h => ?_
  rw [ht] at h
  rcases h with ⟨_, h⟩ | ⟨h, _⟩
  · rw [← hz]; exact h
  · exact absurd hd h
theorem parse_sign_plus (s : ByteArray) (l : List Nat) (r : Nat) (z : Int) (w : World) (h2 : 2 ≤ r) (h36 : r ≤ 36) (hb : Tx.bts s = 43 :: l) (hl : l.length + 1 ≤ 20000) (hn : l ≠ []) (hd : Tx.AllDig r l) (hz : (Tx.numOf r l : Int) = z) :
    Calls Tryd.prog 8 #[.string s, .int .i64 r] w fun e w' => IsIE w w' z 0 e := by
  have h0 : 0 < s.size := by rw [size_bts hb]; simp
  have ht := tail_bts hb
  refine (parse_plus s _ r w h2 h36 (by rw [size_bts hb]; exact hl) h0 (at0_bts hb h0) rfl (by rw [size_bts ht]; exact List.length_pos_iff.2 hn)).mono fun e w' h => ?_
  rw [ht] at h
  rcases h with ⟨_, h⟩ | ⟨h, _⟩
  · rw [← hz]; exact h
  · exact absurd hd h

/-- Bytes of the library's texts. -/
theorem bts_mk (l : List UInt8) : Tx.bts ⟨l.toArray⟩ = l.map UInt8.toNat := rfl
theorem low_byte (b : UInt8) : (Lib.lowerB b).toNat = lowN b.toNat := by
  have key : ∀ n : Fin 256, (Lib.lowerB (UInt8.ofNat n.val)).toNat = lowN n.val := by decide +kernel
  have := key ⟨b.toNat, UInt8.toNat_lt b⟩
  rwa [UInt8.ofNat_toNat] at this
theorem bts_lower (s : ByteArray) : Tx.bts ⟨(Lib.toLowerA s.data.toList).toArray⟩ = (Tx.bts s).map lowN := by
  rw [bts_mk]
  unfold Lib.toLowerA Tx.bts
  rw [List.map_map, List.map_map]
  exact List.map_congr_left fun b _ => low_byte b
theorem bts_repeat (n : Nat) : Tx.bts ⟨(Lib.repeatL [48] n).toArray⟩ = List.replicate n 48 := by
  rw [bts_mk]
  induction n with
  | zero => rfl
  | succ n ih =>
    unfold Lib.repeatL
    rw [List.map_append, ih, List.replicate_succ]
    rfl
theorem has_one (s : ByteArray) (k : UInt8) : Lib.hasPrefix s.data.toList [k] = decide ((Tx.bts s).head? = some k.toNat) := by
  unfold Lib.hasPrefix Tx.bts
  cases s.data.toList with
  | nil => rfl
  | cons b l =>
    rw [List.map_cons, List.head?_cons]
    by_cases h : k = b
    · subst h; simp [List.isPrefixOf]
    · have : b.toNat ≠ k.toNat := fun e => h (UInt8.toNat_inj.1 e).symm
      simp [List.isPrefixOf, h, this]
theorem bts_trim (s : ByteArray) (k : UInt8) : Tx.bts ⟨(Lib.trimPrefix s.data.toList [k]).toArray⟩ = if (Tx.bts s).head? = some k.toNat then (Tx.bts s).tail else Tx.bts s := by
  rw [bts_mk]
  unfold Lib.trimPrefix
  rw [has_one]
  by_cases h : (Tx.bts s).head? = some k.toNat
  · rw [if_pos h, decide_eq_true h]
    unfold Tx.bts
    rw [← List.map_tail]
    simp
  · rw [if_neg h, decide_eq_false h]
    rfl
end Go.Proofs.YtllkajlmfbikhaaDoor
