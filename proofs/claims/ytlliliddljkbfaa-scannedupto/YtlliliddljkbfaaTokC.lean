/-
  Lists of tokens, cell by cell.
-/
import Derived.Test.YtlliliddljkbfaaChan
namespace Go.Proofs.Ytlliliddljkbfaa
open Go.RowKit Go.Conc Sp

/-- A list of tokens, cell by cell. -/
def tokCells : List Tok → List Value
  | [] => []
  | t :: r => [.int .i64 t.kind, .string t.word, .string t.unit] ++ tokCells r
theorem tokCells_append : ∀ a b : List Tok, tokCells (a ++ b) = tokCells a ++ tokCells b
  | [], b => rfl
  | t :: a, b => by simp [tokCells, tokCells_append a b]
theorem tokCells_one (t : Tok) : tokCells [t] = [.int .i64 t.kind, .string t.word, .string t.unit] := rfl
theorem tok_oneCell (t : Tok) : ∀ u ∈ [Value.int .i64 t.kind, .string t.word, .string t.unit], u.oneCell' = true := by simp [Value.oneCell']
theorem toks_len (s : ByteArray) : (toks s).length ≤ s.size := by
  have := tokF_len s s.size (com s 0) (com_le (Nat.zero_le _))
  unfold toks; omega
theorem ownsRow_setChan {w : World} {base : Nat} {e : TypeId} {size : Nat} {v : Value} {n : Nat} {xs : List Value} (h : w.ownsRow base e size v n xs) {c : Nat} (hc : c < base) (cap : Nat) (buf : Array Value) (cl : Bool) (s r : Nat) (tm : Bool) : (w.setChan c cap buf cl s r tm).ownsRow base e size v n xs := by
  refine ⟨h.1, ?_⟩
  rcases h.2 with hn | ⟨g, cap', cur, rfl, hbg, hgg, rest⟩
  · exact .inl hn
  · refine .inr ⟨g, cap', cur, rfl, hbg, ?_, rest⟩
    rw [heap_setChan_other _ _ _ _ _ _ _ _ (by omega)]
    exact hgg
end Go.Proofs.Ytlliliddljkbfaa
