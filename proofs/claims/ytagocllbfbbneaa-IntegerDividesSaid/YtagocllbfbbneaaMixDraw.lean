/- For regions that draw, in the walks of laws over both kinds of integers (wip/mixdraw.py). -/
import Derived.Test.YtagocllbfbbneaaMixKit
namespace Go.Proofs.Ytagocllbfbbneaa.RK
open Go.RowKit
set_option linter.unusedSimpArgs false

/-- The cells of the variables. -/
def MCells (l : List MVar) (w : World) : Prop := ∀ (i : Nat) (t : MVar), l[i]? = some t → t.here = true → Two w t.r (.bool t.b) (.slice t.A t.n t.c)
theorem MVars.cells {w : World} {l : List MVar} (h : MVars w l) : MCells l w := fun i t ht e => (h i t ht).two e
theorem MVars.drew {w : World} {l : List MVar} (h : MVars w l) : MVars w.drew l := h.step (Below.refl w.drew.heap.size w.drew) rfl
theorem run_loadP {ρ : Operand → Value} {o : Oper} {w : World} {r : Nat} {a b : Value} (h : Two w r a b) (x : Operand) (ho : o.op = .load 28 x) (hx : ρ x = .pointer (some ⟨r, 0, none⟩)) :
    (execOp ρ o).run Try.prog w = .ok (.value (.agg #[a, b])) w := by
  obtain ⟨h0, h1⟩ := h
  obtain ⟨dst, op, ty, pos, after, guard⟩ := o
  simp only at ho
  subst ho
  go_simp
end Go.Proofs.Ytagocllbfbbneaa.RK
