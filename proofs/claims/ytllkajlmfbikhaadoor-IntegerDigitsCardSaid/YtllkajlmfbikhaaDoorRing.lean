/- What the law IntegerRing does: it answers true. -/
import Derived.Test.YtllkajlmfbikhaaDoorMade
import Derived.RegionTactic
import Derived.BigRegion
namespace Go.Proofs.YtllkajlmfbikhaaDoor
open Go.RowKit

/-- The world in which the law begins its work: three numbers in boxes, and the slice of the three. -/
def ringAt (w : World) (s1 : Bool) (a1 : Value) (s2 : Bool) (a2 : Value) (s3 : Bool) (a3 : Value) : World :=
  ((w.alloc (.cells #[.bool s1, a1] 24)).alloc (.cells #[.bool s2, a2] 24)).alloc (.cells #[.bool s3, a3] 24)

theorem ringAt_below (w : World) (s1 : Bool) (a1 : Value) (s2 : Bool) (a2 : Value) (s3 : Bool) (a3 : Value) : Below w.heap.size w (ringAt w s1 a1 s2 a2 s3 a3) :=
  (((Below.refl _ _).alloc (Nat.le_refl _) _).alloc (by simp) _).alloc (by simp; omega) _
theorem ringAt_size (w : World) (s1 : Bool) (a1 : Value) (s2 : Bool) (a2 : Value) (s3 : Bool) (a3 : Value) : (ringAt w s1 a1 s2 a2 s3 a3).heap.size = w.heap.size + 3 := by simp [ringAt]

theorem Three.new (w : World) (s1 : Bool) (A1 : Option Addr) (n1 c1 : Nat) (s2 : Bool) (A2 : Option Addr) (n2 c2 : Nat) (s3 : Bool) (A3 : Option Addr) (n3 c3 : Nat) (t : TypeId) :
    Three (w.alloc (.cells #[.bool s1, .slice A1 n1 c1, .bool s2, .slice A2 n2 c2, .bool s3, .slice A3 n3 c3] t)) w.heap.size s1 A1 n1 c1 s2 A2 n2 c2 s3 A3 n3 c3 := by
  refine ⟨by simp, ?_, ?_, ?_, ?_, ?_, ?_⟩ <;> go_simp

end Go.Proofs.YtllkajlmfbikhaaDoor
