/-
  Laws over any program: a string's bytes appended within the capacity; a slice of bytes made a string. And this program's element types.
-/
import Derived.Test.YtlliliddljkbfaaRows
import Derived.WalkKit
import Derived.WalkSpells
import Derived.WalkLawsBesides
import Derived.Laws.IdiomStrings
import Derived.Deep.AppendSrc
import Derived.Deep.LoopGhost
namespace Go.Proofs.Ytlliliddljkbfaa
open Go.RowKit
set_option maxRecDepth 100000

theorem wpList_append_str {P : Program} (w : World) {ops : Array Oper} {rest : List Oper} {o : Oper} {a : Act} {Q : Exit → Act → World → Prop}
    (hg : o.guard = none) (s x : Operand) (t tx : TypeId) (hop : o.op = Op.call { callee := Callee.builtin Builtin.append, args := #[s, x], argTypes := #[t, tx] })
    (base : Nat) (e : TypeId) (i : TypeInfo) (h1 : P.underlying t = some (.slice e)) (h1x : P.underlying tx = some .string) (h2 : P.info? e = some i) (h4 : i.size = 1)
    (g k cap : Nat) (xs : List Value) (hs : a.eval s = .slice (some ⟨g, 0, none⟩) k cap) (hown : w.ownsRow base e 1 (.slice (some ⟨g, 0, none⟩) k cap) k xs) (str : ByteArray) (hx : a.eval x = .string str) (b1 : k + str.size ≤ cap)
    (hK : ∀ w', w'.ownsRow base e 1 (.slice (some ⟨g, 0, none⟩) (k + str.size) cap) (k + str.size) (xs ++ byteCells str) → w.grownBy w' (some g) → wpList P ops Q rest (a.put o.dst (.slice (some ⟨g, 0, none⟩) (k + str.size) cap)) w') :
    wpList P ops Q (o :: rest) a w := by
  refine wpList_plain hg fun K hK' => ?_
  have hl : (byteCells str).length = str.size := byteCells_length str
  have hone : ∀ u ∈ byteCells str, u.oneCell' = true := (Src.ofString (P := P) w h1x str).one
  rcases hown.2 with ⟨hv, _⟩ | ⟨g', cap', cur, hv, hb, hgg, hnc, hcm, hcs, htake⟩
  · cases hv
  · have hv' : g = g' ∧ cap = cap' := by
      injection hv with e1 e2 e3
      injection e1 with e1
      injection e1 with e1
      exact ⟨e1, e3⟩
    obtain ⟨rfl, rfl⟩ := hv'
    have hx0 := hown.1
    have hst := run_storeCells_at P g k e (byteCells str) 0 cur w hgg (by rw [hl, hcs]; omega) hone
    simp only [Nat.add_zero] at hst
    have hrun : (Builtin.append_ #[t, tx] o.type #[.slice (some ⟨g, 0, none⟩) k cap, .string str]).run P w =
        .ok (.slice (some ⟨g, 0, none⟩) (k + str.size) cap) (w.setRow g (cur.toList.take k ++ byteCells str ++ cur.toList.drop (k + (byteCells str).length)).toArray) := by
      have hf := firstCells_string (P := P) str w
      simp [Builtin.append_, run_underlying h1, run_underlying h1x, sizeOf, typeInfo, h2, h4, Builtin.lenOf, b1, hf, Addr.add_lit, hst]
    unfold Oper.wp
    simp only [execOp, hop, resolve, invoke, builtin, Sem.run_bind, Sem.run_pure, Result.andThen_ok, List.map_toArray, List.map_cons, List.map_nil, hs, hx, hrun]
    refine hK' _ _ (hK _ ⟨?_, .inr ⟨g, cap, _, rfl, hb, setRow_heap w g cur _ e _ hgg, b1, hcm, ?_, ?_⟩⟩ ⟨rfl, rfl, rfl, by simp, fun k' _ hk => setRow_other w g k' _ (fun e => hk (by rw [e]))⟩)
    · rw [List.length_append, hx0, hl]; omega
    · simp only [List.size_toArray, List.length_append, List.length_take, List.length_drop, Array.length_toList, hl]
      omega
    · have h3 : (k + str.size) * 1 = (cur.toList.take k ++ byteCells str).length := by
        simp only [List.length_append, List.length_take, Array.length_toList, hl]; omega
      rw [h3]
      dsimp only
      rw [List.take_left]
      congr 1
      rw [← htake]
      simp

/-- 'string(b)' of an owned row of bytes. -/
theorem conv_own {P : Program} (w : World) (src dst e : TypeId) (hs : P.underlying src = some (.slice e)) (he : P.underlying e = some (.int .u8)) (hd : P.underlying dst = some .string)
    {base : Nat} {v : Value} (l : List UInt8) (hown : w.ownsRow base e 1 v l.length (l.map fun b => Value.int .u8 (b.toNat : Int))) :
    (convert src dst v).run P w = .ok (.string ⟨l.toArray⟩) w := by
  rcases hown.2 with ⟨rfl, h0⟩ | ⟨g, cap, cur, rfl, hb, hgg, hnc, hcm, hcs, htake⟩
  · have : l = [] := List.eq_nil_of_length_eq_zero h0
    subst this
    rw [run_convert_bytes_nil w src e hs he 0 0 dst hd]
    rfl
  · refine run_convert_bytes_back w src dst e ⟨g, 0, none⟩ cap l hs he hd ?_
    intro j hj
    exact hown.cells (g := g) rfl j _ (by simp [hj])

theorem byteCells_map (s : ByteArray) : byteCells s = s.data.toList.map fun b => Value.int .u8 (b.toNat : Int) := rfl

theorem info_u8 : ∃ i, Try.prog.info? 5 = some i ∧ i.zero = some (.int .u8 0) ∧ i.size = 1 ∧ i.bytes = 1 := info_parts (by kernel_rfl)
theorem info_str : ∃ i, Try.prog.info? 9 = some i ∧ i.zero = some (.string ⟨#[]⟩) ∧ i.size = 1 ∧ i.bytes = 16 := info_parts (by kernel_rfl)
theorem info_tok : ∃ i, Try.prog.info? 35 = some i ∧ i.zero = some (.agg #[.int .i64 0, .string ⟨#[]⟩, .string ⟨#[]⟩]) ∧ i.size = 3 ∧ i.bytes = 40 := info_parts (by kernel_rfl)
end Go.Proofs.Ytlliliddljkbfaa
