import Derived.Test.YtlliliddljkbfaaGreatC15
import Derived.Deep.DeepCutAuto
import Derived.Deep.Light
namespace Go.Proofs.YtlliliddljkbfaaGreat
set_option maxHeartbeats 64000000
set_option maxRecDepth 100000
open Go.RowKit Sp
section
def SB (w : World) (g : Nat) (a b c d e f : Value) : Prop := w.heap[g]? = some (.cells #[a, b, c, d, e, f] 278 (0, 0))
section
variable {w w' : World} {g : Nat} {a b c d e f : Value}
theorem SB.lt (h : SB w g a b c d e f) : g < w.heap.size := (Array.getElem?_eq_some_iff.1 h).1
theorem SB.cs (h : SB w g a b c d e f) : w.cell? ⟨g, 0, none⟩ = some a ∧ w.cell? ⟨g, 1, none⟩ = some b ∧ w.cell? ⟨g, 2, none⟩ = some c ∧ w.cell? ⟨g, 3, none⟩ = some d ∧ w.cell? ⟨g, 4, none⟩ = some e ∧ w.cell? ⟨g, 5, none⟩ = some f := by
  refine ⟨?_, ?_, ?_, ?_, ?_, ?_⟩ <;> (unfold World.cell?; rw [h]; rfl)
theorem SB.fz (h : SB w g a b c d e f) (o : Nat) : w.frozen? ⟨g, o, none⟩ = false := by
  unfold World.frozen?; rw [h]; rfl
theorem SB.keep (h : SB w g a b c d e f) (e' : w'.heap[g]? = w.heap[g]?) : SB w' g a b c d e f := by unfold SB; rw [e']; exact h
theorem SB.below (h : SB w g a b c d e f) (hb : Below w.heap.size w w') : SB w' g a b c d e f := h.keep (hb.block g h.lt)
theorem SB.alloc (h : SB w g a b c d e f) (o : Obj) : SB (w.alloc o) g a b c d e f := h.keep (Below.heap_alloc _ _ _ h.lt)
end
def set6 (w : World) (g : Nat) (a b c d e f : Value) : World := (((((w.setCell ⟨g, 0, none⟩ a).setCell ⟨g, 1, none⟩ b).setCell ⟨g, 2, none⟩ c).setCell ⟨g, 3, none⟩ d).setCell ⟨g, 4, none⟩ e).setCell ⟨g, 5, none⟩ f
theorem set6_below {B g : Nat} {x w : World} (h : Below B x w) (hg : B ≤ g) (a b c d e f : Value) : Below B x (set6 w g a b c d e f) :=
  (((((h.setCell hg a).setCell hg b).setCell hg c).setCell hg d).setCell hg e).setCell hg f
end
end Go.Proofs.YtlliliddljkbfaaGreat
