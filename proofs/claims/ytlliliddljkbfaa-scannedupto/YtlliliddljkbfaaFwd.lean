/-
  A scope out of whose loops the run jumps forward to labels: a law over any program.
-/
import Derived.Scope
import Derived.ScopeJumps
namespace Go.Proofs.Ytlliliddljkbfaa
open Go

def fwdQ (P : Program) (c : Code) (Q : Exit → Act → World → Prop) : Exit → Act → World → Prop
  | .goto l, a, w => ∃ rest, findLabel c l = some rest ∧ rest.wp P (Exit.noGoto Q) a w
  | e, a, w => Q e a w

/-- What the walk inside the scope may use of the ways out: behind a name. -/
structure Fwd (P : Program) (c : Code) (Q Q' : Exit → Act → World → Prop) : Prop where
  go : ∀ l rest a w, findLabel c l = some rest → rest.wp P (Exit.noGoto Q) a w → Q' (.goto l) a w
  norm : ∀ a w, Q .normal a w → Q' .normal a w
  ret : ∀ a w, Q .ret a w → Q' .ret a w
  any : ∀ e a w, Exit.noGoto Q e a w → Q' e a w

theorem wp_scope_fwd {P : Program} {c : Code} {Q : Exit → Act → World → Prop} {a : Act} {w : World}
    (h : ∀ Q' : Exit → Act → World → Prop, Fwd P c Q Q' → c.wp P Q' a w) : (Code.scope c).wp P Q a w := by
  have h' := h (fwdQ P c Q) ⟨fun l rest a w hf hr => ⟨rest, hf, hr⟩, fun a w hq => hq, fun a w hq => hq, fun e a w hq => by cases e <;> first | exact hq | exact hq.elim⟩
  intro b k cs
  obtain ⟨e, a₁, w₁, hq, harr⟩ := h' b (.inScope c :: k) cs
  cases e with
  | normal => exact ⟨.normal, a₁, w₁, hq, .head step_scope (Steps.trans harr (.one step_inScope))⟩
  | exit id => exact ⟨.exit id, a₁, w₁, hq, fun k' hk => .head step_scope (harr k' (by simp [exitTo, hk]))⟩
  | goto l =>
    obtain ⟨rest, hf, hr⟩ := hq
    have hg : gotoIn l (.inScope c :: k) = some (.code rest :: .inScope c :: k) := by simp [gotoIn, hf]
    obtain ⟨e₂, a₂, w₂, hq₂, harr₂⟩ := hr b (.inScope c :: k) cs
    have hs := Steps.head (P := P) step_scope (harr _ hg)
    cases e₂ with
    | normal => exact ⟨.normal, a₂, w₂, hq₂, Steps.trans hs (Steps.trans harr₂ (.one step_inScope))⟩
    | exit id => exact ⟨.exit id, a₂, w₂, hq₂, fun k' hk => Steps.trans hs (harr₂ k' (by simp [exitTo, hk]))⟩
    | goto l' => exact hq₂.elim
    | ret => exact ⟨_, a₂, w₂, hq₂, .of_steps hs harr₂⟩
    | panic ch => exact ⟨_, a₂, w₂, hq₂, .of_steps hs harr₂⟩
    | outgrown => exact ⟨_, a₂, w₂, hq₂, .of_steps hs harr₂⟩
  | ret => exact ⟨_, a₁, w₁, hq, .of_steps (.one step_scope) harr⟩
  | panic ch => exact ⟨_, a₁, w₁, hq, .of_steps (.one step_scope) harr⟩
  | outgrown => exact ⟨_, a₁, w₁, hq, .of_steps (.one step_scope) harr⟩
end Go.Proofs.Ytlliliddljkbfaa
