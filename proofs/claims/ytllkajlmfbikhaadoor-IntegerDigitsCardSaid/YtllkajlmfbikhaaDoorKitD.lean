/- For the walk of a law: its variables and the values at hand, all in one fact; steps of a region by the kernel alone. -/
import Derived.Test.YtllkajlmfbikhaaDoorMadeN

import Derived.Test.YtllkajlmfbikhaaDoorStep
import Derived.Test.YtllkajlmfbikhaaDoorRingBase
import Derived.Deep.DeepCutAuto
import Derived.BigRegion
import Derived.IntWalk
import Derived.Outline
namespace Go.Proofs.YtllkajlmfbikhaaDoor
open Go.RowKit
set_option linter.unusedSimpArgs false

/-- A value of integer.Int at hand: in the variable at r, if 'here'; it is z. -/
structure VarT where
  here : Bool
  r : Nat
  b : Bool
  A : Option Addr
  n : Nat
  c : Nat
  z : Int
structure IsVar (w : World) (t : VarT) : Prop where
  lt : t.here = true → t.r < w.heap.size
  two : t.here = true → Two w t.r (.bool t.b) (.slice t.A t.n t.c)
  at_ : IntAt w (.agg #[.bool t.b, .slice t.A t.n t.c]) t.z
def Vars (w : World) (l : List VarT) : Prop := ∀ (i : Nat) (t : VarT), l[i]? = some t → IsVar w t
theorem IsVar.step {W0 W w1 : World} {t : VarT} (h : IsVar W0 t) (hb : Below W.heap.size W w1) (hh : W.heap = W0.heap) : IsVar w1 t :=
  ⟨fun e => Nat.lt_of_lt_of_le (h.lt e) (by rw [← hh]; exact hb.size), fun e => (h.two e).step hb hh (h.lt e), h.at_.step hb hh⟩
theorem Vars.step {W0 W w1 : World} {l : List VarT} (h : Vars W0 l) (hb : Below W.heap.size W w1) (hh : W.heap = W0.heap) : Vars w1 l := fun i t ht => (h i t ht).step hb hh
theorem Vars.nil (w : World) : Vars w [] := fun i t ht => by simp at ht
theorem Vars.cons {w : World} {l : List VarT} {t : VarT} (h : Vars w l) (ht : IsVar w t) : Vars w (t :: l) := fun i u hu => by
  cases i with
  | zero => simp at hu; subst hu; exact ht
  | succ i => exact h i u (by simpa using hu)
/-- A value that was handed back. -/
theorem Vars.told {w : World} {l : List VarT} (h : Vars w l) {b : Bool} {A : Option Addr} {c : Nat} {zs : List Nat} {z : Int} (hs : SignOf b z) (hl : Limbs w A c zs z.natAbs) : Vars w (⟨false, 0, b, A, zs.length, c, z⟩ :: l) :=
  h.cons ⟨fun e => (by cases e), fun e => (by cases e), ⟨b, A, c, zs, rfl, hs, hl⟩⟩
/-- A new variable that holds the value of before. -/
theorem Vars.laid {w : World} {l : List VarT} {t : VarT} (h : Vars w (t :: l)) (T : TypeId) : Vars (w.alloc (.cells #[.bool t.b, .slice t.A t.n t.c] T)) (⟨true, w.heap.size, t.b, t.A, t.n, t.c, t.z⟩ :: l) := by
  have hb : Below w.heap.size w (w.alloc (.cells #[.bool t.b, .slice t.A t.n t.c] T)) := (Below.refl _ _).alloc (Nat.le_refl _) _
  have h1 : Vars (w.alloc (.cells #[.bool t.b, .slice t.A t.n t.c] T)) l := fun i u hu => (h (i + 1) u (by simpa using hu)).step hb rfl
  exact h1.cons ⟨fun _ => by simp, fun _ => Two.new w _ _ T, ((h 0 t rfl).at_.step hb rfl)⟩
/-- The cells of the variables. -/
def Cells (l : List VarT) (w : World) : Prop := ∀ (i : Nat) (t : VarT), l[i]? = some t → t.here = true → Two w t.r (.bool t.b) (.slice t.A t.n t.c)
theorem Vars.cells {w : World} {l : List VarT} (h : Vars w l) : Cells l w := fun i t ht e => (h i t ht).two e
/-- Some of the variables. -/
theorem Vars.sub {w : World} {l : List VarT} (h : Vars w l) (m : List VarT) (hm : ∀ t ∈ m, ∃ i : Nat, l[i]? = some t) : Vars w m := fun i t ht => by
  obtain ⟨j, hj⟩ := hm t (List.mem_of_getElem? ht)
  exact h j t hj

section
variable {P : Program} {ops : Array Oper} {Q : Exit → Act → World → Prop} {rest : List Oper} {o : Oper} {a : Act} {w w' : World}
theorem fl_val (v : Value) (hw : Region.wanted o (yielded ops a.tmps) = true) (he : (execOp a.eval o).run P w = .ok (.value v) w') (k : wpList P ops Q rest (a.put o.dst v) w') : wpList P ops Q (o :: rest) a w := by
  unfold wpList
  rw [if_pos hw]
  refine .inl ?_
  unfold Oper.wp
  rw [he]
  exact k
theorem fl_skip (hw : Region.wanted o (yielded ops a.tmps) = true) (he : (execOp a.eval o).run P w = .ok .skip w') (k : wpList P ops Q rest (a.put o.dst undef) w') : wpList P ops Q (o :: rest) a w := by
  unfold wpList
  rw [if_pos hw]
  refine .inl ?_
  unfold Oper.wp
  rw [he]
  exact k
theorem fl_not (hw : Region.wanted o (yielded ops a.tmps) = false) (k : wpList P ops Q rest (a.put o.dst undef) w) : wpList P ops Q (o :: rest) a w := by
  unfold wpList
  rw [if_neg (by rw [hw]; decide)]
  exact k
theorem fl_call (f : FuncId) (args : Array Value) (hw : Region.wanted o (yielded ops a.tmps) = true) (he : (execOp a.eval o).run P w = .ok (.enter f args) w)
    (hc : Calls P f args w fun e w' => ∃ v, e = .returned v ∧ wpList P ops Q rest (a.put o.dst v) w') : wpList P ops Q (o :: rest) a w := by
  unfold wpList
  rw [if_pos hw]
  refine .inl ?_
  unfold Oper.wp
  rw [he, Oper.upon_enter]
  exact hc.mono (fun e w' ⟨v, he, h⟩ => by subst he; exact h)
end

theorem wp_go_val {P : Program} {o : Oper} {a : Act} {w w' : World} {K : Act → World → Prop} {Q : Exit → Act → World → Prop} (v : Value) (he : (execOp a.eval o).run P w = .ok (.value v) w') (k : K (a.put o.dst v) w') : o.wp P a w K Q := by
  unfold Oper.wp
  rw [he]
  exact k
theorem wp_go_skip {P : Program} {o : Oper} {a : Act} {w w' : World} {K : Act → World → Prop} {Q : Exit → Act → World → Prop} (he : (execOp a.eval o).run P w = .ok .skip w') (k : K (a.put o.dst undef) w') : o.wp P a w K Q := by
  unfold Oper.wp
  rw [he]
  exact k
theorem Vars.skip {w : World} {l : List VarT} {a b : VarT} (h : Vars w (a :: b :: l)) : Vars w (a :: l) :=
  Vars.cons (fun i t ht => h (i + 2) t (by simpa using ht)) (h 0 a rfl)
theorem Vars.tail {w : World} {l : List VarT} {a : VarT} (h : Vars w (a :: l)) : Vars w l := fun i t ht => h (i + 1) t (by simpa using ht)
theorem Vars.drew {w : World} {l : List VarT} (h : Vars w l) : Vars w.drew l := h.step (Below.refl w.drew.heap.size w.drew) rfl
theorem Vars.alloc {w : World} {l : List VarT} (h : Vars w l) (o : Obj) : Vars (w.alloc o) l := h.step ((Below.refl _ _).alloc (Nat.le_refl _) o) rfl
/-- The value of before is stored into a variable that was made for it. -/
theorem Vars.put {Wa W : World} {l : List VarT} {t : VarT} {r : Nat} (ha : Vars Wa l) (h : Vars W (t :: l)) (hr : Res W r) (hra : Wa.heap.size ≤ r) (hrW : r < W.heap.size) :
    Vars ((W.setCell ⟨r, 0, none⟩ (.bool t.b)).setCell ⟨r, 1, none⟩ (.slice t.A t.n t.c)) (⟨true, r, t.b, t.A, t.n, t.c, t.z⟩ :: l) := by
  have hs : ((W.setCell ⟨r, 0, none⟩ (.bool t.b)).setCell ⟨r, 1, none⟩ (.slice t.A t.n t.c)).heap.size = W.heap.size := by simp [World.setCell]
  have hi : ∀ {v : Value} {z : Int}, IntAt W v z → IntAt ((W.setCell ⟨r, 0, none⟩ (.bool t.b)).setCell ⟨r, 1, none⟩ (.slice t.A t.n t.c)) v z := fun hv => by
    obtain ⟨b, A, c, zs, e, hsg, hl⟩ := hv
    exact ⟨b, A, c, zs, e, hsg, hl.1, hl.2.1.res hr.1 _ _, hl.2.2⟩
  have h1 : Vars ((W.setCell ⟨r, 0, none⟩ (.bool t.b)).setCell ⟨r, 1, none⟩ (.slice t.A t.n t.c)) l := fun i u hu => by
    have hv := h.tail i u hu
    refine ⟨fun e => by rw [hs]; exact hv.lt e, fun e => (hv.two e).far (by have := (ha i u hu).lt e; omega) _ _, hi hv.at_⟩
  exact h1.cons ⟨fun _ => by rw [hs]; exact hrW, fun _ => hr.1.stored _ _, hi (h 0 t rfl).at_⟩

theorem run_load {ρ : Operand → Value} {o : Oper} {w : World} {r : Nat} {a b : Value} (h : Two w r a b) (x : Operand) (ho : o.op = .load 28 x) (hx : ρ x = .pointer (some ⟨r, 0, none⟩)) :
    (execOp ρ o).run Tryd.prog w = .ok (.value (.agg #[a, b])) w := by
  obtain ⟨h0, h1⟩ := h
  obtain ⟨dst, op, ty, pos, after, guard⟩ := o
  simp only at ho
  subst ho
  go_simp
theorem run_alloc (ρ : Operand → Value) (o : Oper) (w : World) (ho : o.op = .alloc 28) :
    (execOp ρ o).run Tryd.prog w = .ok (.value (.pointer (some ⟨w.heap.size, 0, none⟩))) (w.alloc (.cells #[.bool false, .slice none 0 0] 28)) := by
  obtain ⟨dst, op, ty, pos, after, guard⟩ := o
  simp only at ho
  subst ho
  go_simp
theorem run_store (ρ : Operand → Value) (o : Oper) (w : World) (b : Bool) (A : Option Addr) (n c : Nat) (x y : Operand) (ho : o.op = .store 28 x y) (hx : ρ x = .pointer (some ⟨w.heap.size, 0, none⟩)) (hy : ρ y = .agg #[.bool b, .slice A n c]) :
    (execOp ρ o).run Tryd.prog (w.alloc (.cells #[.bool false, .slice none 0 0] 28)) = .ok .skip (w.alloc (.cells #[.bool b, .slice A n c] 28)) := by
  obtain ⟨dst, op, ty, pos, after, guard⟩ := o
  simp only at ho
  subst ho
  go_simp
theorem run_store2 {ρ : Operand → Value} {o : Oper} {w : World} {r : Nat} (h : Res w r) (b : Bool) (A : Option Addr) (n c : Nat) (x y : Operand) (ho : o.op = .store 28 x y) (hx : ρ x = .pointer (some ⟨r, 0, none⟩)) (hy : ρ y = .agg #[.bool b, .slice A n c]) :
    (execOp ρ o).run Tryd.prog w = .ok .skip ((w.setCell ⟨r, 0, none⟩ (.bool b)).setCell ⟨r, 1, none⟩ (.slice A n c)) := by
  obtain ⟨⟨h0, h1⟩, h2, h3⟩ := h
  obtain ⟨dst, op, ty, pos, after, guard⟩ := o
  simp only at ho
  subst ho
  go_simp
end Go.Proofs.YtllkajlmfbikhaaDoor
