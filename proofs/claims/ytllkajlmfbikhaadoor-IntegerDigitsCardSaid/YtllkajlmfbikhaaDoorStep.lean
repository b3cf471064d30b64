/- A call of a Go function inside a region, met by its contract without the walk's simplifier. -/
import Derived.Test.YtllkajlmfbikhaaDoorBaseA
namespace Go.Proofs.YtllkajlmfbikhaaDoor
open Go.RowKit

theorem wp_go_call {P : Program} {o : Oper} {a : Act} {w : World} {K : Act → World → Prop} {Q : Exit → Act → World → Prop} (f : FuncId) (args : Array Value)
    (he : ∀ w, (execOp a.eval o).run P w = .ok (.enter f args) w) (hc : Calls P f args w fun e w' => ∃ v, e = .returned v ∧ K (a.put o.dst v) w') : o.wp P a w K Q := by
  unfold Oper.wp
  rw [he w, Oper.upon_enter]
  exact hc.mono (fun e w' ⟨v, he, h⟩ => by subst he; exact h)
end Go.Proofs.YtllkajlmfbikhaaDoor
