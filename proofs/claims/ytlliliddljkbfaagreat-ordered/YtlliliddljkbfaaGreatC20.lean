import Derived.Test.YtlliliddljkbfaaGreatC5
import Derived.Test.YtlliliddljkbfaaGreatC11
import Derived.Test.YtlliliddljkbfaaGreatC19
namespace Go.Proofs.YtlliliddljkbfaaGreat
set_option maxHeartbeats 64000000
set_option maxRecDepth 100000
open Go.RowKit Sp
section
structure Fr where
  tok : Tok
  ins : List Nd
  v : Value
  cs : List Value
def Fr.cells (f : Fr) : List Value := [.int .i64 f.tok.kind, .string f.tok.word, .string f.tok.unit, .string (closing f.tok), f.v]
def Fin_ (base : Nat) (w : World) (v : Value) (L : List Fr) (b : Nat) : Prop := base ≤ b ∧ b < w.heap.size ∧ some b ≠ v.ownBlock ∧ ∀ f ∈ L, some b ≠ f.v.ownBlock
structure Stk (base : Nat) (w : World) (v : Value) (L : List Fr) : Prop where
  row : w.ownsRow base 195 5 v L.length (L.flatMap Fr.cells)
  own : ∀ f ∈ L, w.ownsRow base 199 4 f.v f.ins.length f.cs
  kid : ∀ f ∈ L, KidC (Fin_ base w v L) w f.ins f.cs
  ok : ∀ f ∈ L, TokOK f.tok
  dist : L.Pairwise (fun a b => ∀ k, a.v.ownBlock = some k → b.v.ownBlock ≠ some k)
def stackOf (L : List Fr) : Stack := (L.map (fun f => (f.tok, f.ins))).reverse
theorem stackOf_snoc (L : List Fr) (f : Fr) : stackOf (L ++ [f]) = (f.tok, f.ins) :: stackOf L := by simp [stackOf]
theorem stackOf_len (L : List Fr) : (stackOf L).length = L.length := by simp [stackOf]
theorem flat_cells_len (L : List Fr) : (L.flatMap Fr.cells).length = L.length * 5 := by
  induction L with
  | nil => rfl
  | cons f r ih => simp only [List.flatMap_cons, List.length_append, ih, Fr.cells, List.length_cons, List.length_nil]; omega
theorem own_keep {w w' : World} {base e s n : Nat} {v : Value} {xs : List Value} (h : w.ownsRow base e s v n xs) (hw : ∀ g, v.ownBlock = some g → w'.heap[g]? = w.heap[g]?) : w'.ownsRow base e s v n xs := by
  refine ⟨h.1, ?_⟩
  rcases h.2 with hn | ⟨g, cap, cur, rfl, hbg, hgg, rest⟩
  · exact .inl hn
  · exact .inr ⟨g, cap, cur, rfl, hbg, by rw [hw g rfl]; exact hgg, rest⟩
section
variable {base : Nat} {w w' : World} {v : Value} {L : List Fr}
theorem Stk.keep (h : Stk base w v L) (hs : w.heap.size ≤ w'.heap.size) (hw : ∀ g, base ≤ g → g < w.heap.size → w'.heap[g]? = w.heap[g]?) : Stk base w' v L :=
  ⟨own_keep h.row fun g hg => hw g (h.row.lt g hg).1 (h.row.lt g hg).2,
   fun f hf => own_keep (h.own f hf) fun g hg => hw g ((h.own f hf).lt g hg).1 ((h.own f hf).lt g hg).2,
   fun f hf => (h.kid f hf).keep (fun g hg => ⟨hg.1, by have := hg.2.1; omega, hg.2.2⟩) fun g hg => hw g hg.1 hg.2.1, h.ok, h.dist⟩
theorem Stk.apart (h : Stk base w v L) {f : Fr} (hf : f ∈ L) (k : Nat) (hk : v.ownBlock = some k) : f.v.ownBlock ≠ some k :=
  own_apart h.row (h.own f hf) (by decide) k hk
theorem Stk.drop {f : Fr} (h : Stk base w v (L ++ [f])) (h6 : f.ins.length ≤ 600) {g n cap : Nat} (e : v = .slice (some ⟨g, 0, none⟩) n cap) :
    Stk base w (.slice (some ⟨g, 0, none⟩) L.length cap) L ∧ Sl (Fin_ base w (.slice (some ⟨g, 0, none⟩) L.length cap) L) w f.v f.ins := by
  subst e
  have hl := h.row.1
  have hrow : w.ownsRow base 195 5 (.slice (some ⟨g, 0, none⟩) L.length cap) L.length (L.flatMap Fr.cells) := by
    refine ⟨flat_cells_len L, .inr ?_⟩
    rcases h.row.2 with ⟨hv, _⟩ | ⟨g', cap', cur, hv, hbg, hgg, hnc, hcm, hcs, htk⟩
    · cases hv
    · cases hv
      refine ⟨g, cap, cur, rfl, hbg, hgg, by simp at hnc; omega, hcm, hcs, ?_⟩
      have h1 : (cur.toList.take ((L ++ [f]).length * 5)).take (L.length * 5) = cur.toList.take (L.length * 5) := by
        rw [List.take_take, Nat.min_eq_left (by simp only [List.length_append, List.length_cons, List.length_nil]; omega)]
      rw [← h1, htk, List.flatMap_append, ← flat_cells_len L, List.take_left']
      rfl
  have hS : ∀ b, Fin_ base w (.slice (some ⟨g, 0, none⟩) n cap) (L ++ [f]) b → Fin_ base w (.slice (some ⟨g, 0, none⟩) L.length cap) L b := fun b hb => ⟨hb.1, hb.2.1, hb.2.2.1, fun q hq => hb.2.2.2 q (by simp [hq])⟩
  have hdist := List.pairwise_append.1 h.dist
  refine ⟨⟨hrow, fun q hq => h.own q (by simp [hq]), fun q hq => (h.kid q (by simp [hq])).keep hS fun _ _ => rfl, fun q hq => h.ok q (by simp [hq]), hdist.1⟩, ?_⟩
  have ho := h.own f (by simp)
  have hk : KidC (Fin_ base w (.slice (some ⟨g, 0, none⟩) L.length cap) L) w f.ins f.cs := (h.kid f (by simp)).keep hS fun _ _ => rfl
  rcases ho.2 with ⟨hv, hn⟩ | ⟨g', cap', cur, hv, hbg, hgg, hnc, hcm, hcs, htk⟩
  · have : f.ins = [] := List.eq_nil_of_length_eq_zero hn
    rw [hv, this]; exact Sl.nil _ _
  · rw [hv]
    have hf1 : some g' ≠ Value.ownBlock (.slice (some ⟨g, 0, none⟩) L.length cap) := by
      intro e
      have := h.apart (f := f) (by simp) g rfl
      rw [hv] at this
      exact this (by rw [show Value.ownBlock (.slice (some ⟨g, 0, none⟩) L.length cap) = some g from rfl] at e; cases e; rfl)
    have hf2 : ∀ q ∈ L, some g' ≠ q.v.ownBlock := by
      intro q hq e
      exact hdist.2.2 q hq f (by simp) g' e.symm (by rw [hv]; rfl)
    refine ⟨_, cap', rfl, ⟨hnc, h6⟩, fun _ => ⟨g', 0, rfl, KidC.lies ⟨hbg, (Array.getElem?_eq_some_iff.1 hgg).1, hf1, hf2⟩ f.ins f.cs 0 hk fun j u hu => ?_⟩⟩
    have := ho.cells (g := g') (by rw [hv]; rfl) j u hu
    rw [Addr.add_lit, Nat.zero_add] at this
    rw [Nat.zero_add]
    exact this
theorem Stk.push (h : Stk base w v L) (t : Tok) (ht : TokOK t) {v2 : Value}
    (hrow : w'.ownsRow base 195 5 v2 (L.length + 1) (L.flatMap Fr.cells ++ [.int .i64 t.kind, .string t.word, .string t.unit, .string (closing t), .slice none 0 0]))
    (hs : w.heap.size ≤ w'.heap.size) (hw : ∀ g, g < w.heap.size → some g ≠ v.ownBlock → w'.heap[g]? = w.heap[g]?) (hat : v2.ownBlock = v.ownBlock ∨ ∃ b, v2.ownBlock = some b ∧ w.heap.size ≤ b) :
    Stk base w' v2 (L ++ [⟨t, [], .slice none 0 0, []⟩]) := by
  have hnv : ∀ g, g < w.heap.size → some g ≠ v.ownBlock → some g ≠ v2.ownBlock := by
    intro g hg h1
    rcases hat with e | ⟨b, e, hb⟩
    · rw [e]; exact h1
    · rw [e]; intro e2; cases e2; omega
  have hS : ∀ b, Fin_ base w v L b → Fin_ base w' v2 (L ++ [⟨t, [], .slice none 0 0, []⟩]) b := fun b hb => ⟨hb.1, by have := hb.2.1; omega, hnv b hb.2.1 hb.2.2.1, fun q hq => by
    rcases List.mem_append.1 hq with h1 | h1
    · exact hb.2.2.2 q h1
    · rw [List.mem_singleton.1 h1]; simp [Value.ownBlock]⟩
  have hnew : ∀ q ∈ L ++ [(⟨t, [], .slice none 0 0, []⟩ : Fr)], q ∈ L ∨ q = ⟨t, [], .slice none 0 0, []⟩ := fun q hq => by simpa using hq
  refine ⟨?_, fun q hq => ?_, fun q hq => ?_, fun q hq => ?_, ?_⟩
  · rw [List.length_append, List.flatMap_append]
    simpa [Fr.cells] using hrow
  · rcases hnew q hq with h1 | rfl
    · exact own_keep (h.own q h1) fun g hg => hw g ((h.own q h1).lt g hg).2 fun e => h.apart h1 g e.symm hg
    · exact World.ownsRow_nil _ _ _ _
  · rcases hnew q hq with h1 | rfl
    · exact (h.kid q h1).keep hS fun g hg => hw g hg.2.1 hg.2.2.1
    · rfl
  · rcases hnew q hq with h1 | rfl
    · exact h.ok q h1
    · exact ht
  · refine List.pairwise_append.2 ⟨h.dist, by simp, fun a _ b hb k _ => ?_⟩
    rw [List.mem_singleton.1 hb]
    simp [Value.ownBlock]
theorem set_blk (xs : List Value) (k : Nat) (hk : xs.length = k * 5) (a b c d e e2 : Value) : (xs ++ [a, b, c, d, e]).set (k * 5 + 4) e2 = xs ++ [a, b, c, d, e2] := by
  rw [← hk, List.set_append_right _ _ (by omega)]
  simp
theorem Stk.grow {f : Fr} (h : Stk base w v (L ++ [f])) {n : Nd} {kv : Value} (hk : Sl (Fin_ base w v (L ++ [f])) w kv n.kids ∧ TokOK n.t) {v2 : Value} {cs2 : List Value}
    (hcs : cs2 = f.cs ++ [.int .i64 n.t.kind, .string n.t.word, .string n.t.unit, kv])
    (hown : w'.ownsRow base 199 4 v2 (f.ins.length + 1) cs2)
    (hrow : w'.ownsRow base 195 5 v (L.length + 1) (L.flatMap Fr.cells ++ [.int .i64 f.tok.kind, .string f.tok.word, .string f.tok.unit, .string (closing f.tok), v2]))
    (hs : w.heap.size ≤ w'.heap.size) (hw : ∀ g, g < w.heap.size → some g ≠ v.ownBlock → some g ≠ f.v.ownBlock → w'.heap[g]? = w.heap[g]?) (hat : v2.ownBlock = f.v.ownBlock ∨ ∃ b, v2.ownBlock = some b ∧ w.heap.size ≤ b) :
    Stk base w' v (L ++ [⟨f.tok, f.ins ++ [n], v2, cs2⟩]) := by
  subst hcs
  have hdist := List.pairwise_append.1 h.dist
  have hn2 : ∀ g, g < w.heap.size → some g ≠ f.v.ownBlock → some g ≠ v2.ownBlock := by
    intro g hg h1
    rcases hat with e | ⟨b, e, hb⟩
    · rw [e]; exact h1
    · rw [e]; intro e2; cases e2; omega
  have hS : ∀ b, Fin_ base w v (L ++ [f]) b → Fin_ base w' v (L ++ [⟨f.tok, f.ins ++ [n], v2, f.cs ++ [.int .i64 n.t.kind, .string n.t.word, .string n.t.unit, kv]⟩]) b := fun b hb => ⟨hb.1, by have := hb.2.1; omega, hb.2.2.1, fun q hq => by
    rcases List.mem_append.1 hq with h1 | h1
    · exact hb.2.2.2 q (by simp [h1])
    · rw [List.mem_singleton.1 h1]; exact hn2 b hb.2.1 (hb.2.2.2 f (by simp))⟩
  have hW : ∀ g, Fin_ base w v (L ++ [f]) g → w'.heap[g]? = w.heap[g]? := fun g hg => hw g hg.2.1 hg.2.2.1 (hg.2.2.2 f (by simp))
  have hnew : ∀ q ∈ L ++ [(⟨f.tok, f.ins ++ [n], v2, f.cs ++ [.int .i64 n.t.kind, .string n.t.word, .string n.t.unit, kv]⟩ : Fr)], q ∈ L ∨ q = ⟨f.tok, f.ins ++ [n], v2, f.cs ++ [.int .i64 n.t.kind, .string n.t.word, .string n.t.unit, kv]⟩ := fun q hq => by simpa using hq
  refine ⟨?_, fun q hq => ?_, fun q hq => ?_, fun q hq => ?_, ?_⟩
  · rw [List.length_append, List.flatMap_append]
    simpa [Fr.cells] using hrow
  · rcases hnew q hq with h1 | rfl
    · exact own_keep (h.own q (by simp [h1])) fun g hg => hw g ((h.own q (by simp [h1])).lt g hg).2 (fun e => h.apart (f := q) (by simp [h1]) g e.symm hg) (fun e => hdist.2.2 q h1 f (by simp) g hg e.symm)
    · simpa using hown
  · rcases hnew q hq with h1 | rfl
    · exact (h.kid q (by simp [h1])).keep hS hW
    · exact KidC.snoc _ _ ((h.kid f (by simp)).keep hS hW) n kv ⟨hk.1.keep hS hW, hk.2⟩
  · rcases hnew q hq with h1 | rfl
    · exact h.ok q (by simp [h1])
    · exact h.ok f (by simp)
  · refine List.pairwise_append.2 ⟨hdist.1, by simp, fun a ha b hb k hk => ?_⟩
    rw [List.mem_singleton.1 hb]
    have := ((h.own a (by simp [ha])).lt k hk).2
    rcases hat with e | ⟨b', e, hb'⟩
    · show v2.ownBlock ≠ some k
      rw [e]; exact hdist.2.2 a ha f (by simp) k hk
    · show v2.ownBlock ≠ some k
      rw [e]; intro e2; cases e2; omega
theorem Stk.put {f : Fr} (h : Stk base w v (L ++ [f])) {g co : Nat} (e : v = .slice (some ⟨g, 0, none⟩) (L.length + 1) co) (n : Nd) (kv : Value) (hk : Sl (Fin_ base w v (L ++ [f])) w kv n.kids ∧ TokOK n.t) {W w4 : World} {gv vc : Nat} {z0 z1 z2 z3 : Value}
    (hWs : w.heap.size ≤ W.heap.size) (hW : ∀ k, k < w.heap.size → W.heap[k]? = w.heap[k]?)
    (hown : w4.ownsRow base 199 4 (.slice (some ⟨gv, 0, none⟩) (f.ins.length + 1) vc) (f.ins.length + 1) (f.cs ++ [z0, z1, z2, z3])) (hgr : W.grownBy w4 f.v.ownBlock) (hat : some gv = f.v.ownBlock ∨ some gv = some W.heap.size) :
    Stk base (((((w4.setCell ⟨g, L.length * 5 + 4, none⟩ (.slice (some ⟨gv, 0, none⟩) (f.ins.length + 1) vc)).setCell ⟨gv, f.ins.length * 4, none⟩ (.int .i64 n.t.kind)).setCell ⟨gv, f.ins.length * 4 + 1, none⟩ (.string n.t.word)).setCell ⟨gv, f.ins.length * 4 + 2, none⟩ (.string n.t.unit)).setCell ⟨gv, f.ins.length * 4 + 3, none⟩ kv)
      v (L ++ [⟨f.tok, f.ins ++ [n], .slice (some ⟨gv, 0, none⟩) (f.ins.length + 1) vc, f.cs ++ [.int .i64 n.t.kind, .string n.t.word, .string n.t.unit, kv]⟩]) := by
  have hap : some g ≠ f.v.ownBlock := fun e2 => h.apart (f := f) (by simp) g (by rw [e]; rfl) e2.symm
  have hgo := h.row.lt g (by rw [e]; rfl)
  have hrow0 : w.ownsRow base 195 5 v (L.length + 1) (L.flatMap Fr.cells ++ [.int .i64 f.tok.kind, .string f.tok.word, .string f.tok.unit, .string (closing f.tok), f.v]) := by
    have := h.row
    rw [List.length_append, List.flatMap_append] at this
    simpa [Fr.cells] using this
  have rowW := own_keep (w' := W) hrow0 fun k hk => hW k (hrow0.lt k hk).2
  have row4 := rowW.kept hgr (.inr (by rw [e]; exact hap))
  have hcl : f.cs.length = f.ins.length * 4 := (h.own f (by simp)).1
  have hs := hgr.size
  have hne : gv ≠ g := by
    rintro rfl
    rcases hat with e2 | e2
    · exact hap e2
    · cases e2; omega
  subst e
  obtain ⟨s5, g5⟩ := row4.stored (L.length * 5 + 4) (.slice (some ⟨gv, 0, none⟩) (f.ins.length + 1) vc)
  have o5 := hown.kept g5 (.inr (by simp [Value.ownBlock]; exact hne))
  obtain ⟨o6, g6⟩ := o5.stored (f.ins.length * 4) (.int .i64 n.t.kind)
  obtain ⟨o7, g7⟩ := o6.stored (f.ins.length * 4 + 1) (.string n.t.word)
  obtain ⟨o8, g8⟩ := o7.stored (f.ins.length * 4 + 2) (.string n.t.unit)
  obtain ⟨o9, g9⟩ := o8.stored (f.ins.length * 4 + 3) kv
  rw [set_node _ _ hcl] at o9
  rw [set_blk _ _ (flat_cells_len L)] at s5
  have hro : Value.ownBlock (.slice (some ⟨g, 0, none⟩) (L.length + 1) co) ≠ some gv := by simp [Value.ownBlock]; exact fun e => hne e.symm
  have s9 := (((s5.kept g6 (.inr hro)).kept g7 (.inr hro)).kept g8 (.inr hro)).kept g9 (.inr hro)
  have hz5 := g5.size
  have hz6 := g6.size
  have hz7 := g7.size
  have hz8 := g8.size
  have hz9 := g9.size
  refine h.grow hk rfl o9 s9 (by omega) (fun k hk h2 h1 => ?_) ?_
  · have hgg : some k ≠ some gv := by
      rcases hat with e2 | e2
      · rw [e2]; exact h1
      · cases e2; intro e3; cases e3; omega
    rw [g9.block k (by omega) hgg, g8.block k (by omega) hgg, g7.block k (by omega) hgg, g6.block k (by omega) hgg, g5.block k (by omega) h2, hgr.block k (by omega) h1, hW k hk]
  · rcases hat with e2 | e2
    · exact .inl e2
    · cases e2; exact .inr ⟨_, rfl, hWs⟩
end
theorem setCell_comm (w : World) {a b : Addr} (h : a.block ≠ b.block) (x y : Value) : (w.setCell a x).setCell b y = (w.setCell b y).setCell a x := by
  unfold World.setCell
  simp only
  congr 1
  apply Array.ext_getElem?
  intro i
  simp only [Array.getElem?_modify]
  by_cases h1 : a.block = i
  · have h2 : ¬ b.block = i := fun e => h (h1.trans e.symm)
    simp [h1, h2]
  · simp [h1]
end
def bt (s : ByteArray) (k : Nat) : UInt8 := if h : k < s.size then s[k] else 0
theorem bt_in {s : ByteArray} {k : Nat} (h : k < s.size) : bt s k = s[k] := by unfold bt; rw [dif_pos h]
theorem pk_bt {s : ByteArray} {k : Nat} (h : k < s.size) : pk s k = ((bt s k).toNat : Int) := by rw [bt_in h]; unfold pk; rw [dif_pos h]
def pcs (ok : Nat → Bool) (s : ByteArray) : Nat → List ByteArray
  | 0 => []
  | k + 1 => pcs ok s k ++ [if ok k = true then b1 (bt s k) else escO (bt s k)]
theorem pcs_len (ok : Nat → Bool) (s : ByteArray) (k : Nat) : (pcs ok s k).length = k := by
  induction k with
  | zero => rfl
  | succ k ih => simp [pcs, ih]
theorem pcs_total (ok : Nat → Bool) (s : ByteArray) (k : Nat) : total (pcs ok s k) ≤ 4 * k := by
  induction k with
  | zero => simp [pcs, total]
  | succ k ih =>
    unfold pcs
    rw [total_append]
    have : (if ok k = true then b1 (bt s k) else escO (bt s k)).size ≤ 4 := by
      split
      · show 1 ≤ 4; omega
      · show 4 ≤ 4; omega
    simp only [total]
    omega
theorem app_nob (a : ByteArray) : a ++ nob = a := by
  apply ByteArray.ext
  rw [ByteArray.data_append]
  simp [nob]
theorem pcs_succ (ok : Nat → Bool) (s : ByteArray) (k : Nat) : pcs ok s (k + 1) = pcs ok s k ++ [if ok k = true then b1 (bt s k) else escO (bt s k)] := rfl
theorem outF_pcs (ok : Nat → UInt8 → Bool) (s : ByteArray) : ∀ (n k : Nat), k + n = s.size → joinB (pcs (fun i => ok i (bt s i)) s k) ++ outF ok k (s.data.toList.drop k) = joinB (pcs (fun i => ok i (bt s i)) s s.size) := by
  intro n
  induction n with
  | zero =>
    intro k h
    have : k = s.size := by omega
    subst this
    rw [List.drop_of_length_le (by rw [Array.length_toList]; exact Nat.le_refl _)]
    show joinB _ ++ nob = _
    exact app_nob _
  | succ n ih =>
    intro k h
    have hk : k < s.data.toList.length := by simp only [Array.length_toList]; show k < s.size; omega
    rw [List.drop_eq_getElem_cons hk]
    have hb : s.data.toList[k] = bt s k := by rw [bt_in (show k < s.size by omega)]; rfl
    rw [hb]
    unfold outF
    have := ih (k + 1) (by omega)
    rw [pcs_succ, joinB_snoc, ByteArray.append_assoc] at this
    exact this
theorem outF_all (ok : Nat → UInt8 → Bool) (s : ByteArray) : outF ok 0 s.data.toList = joinB (pcs (fun i => ok i (bt s i)) s s.size) := by
  have := outF_pcs ok s s.size 0 (by omega)
  simpa [pcs, joinB] using this
theorem one_b1 {s : ByteArray} {k : Nat} (h : k < s.size) : one s k = b1 (bt s k) := by
  rw [bt_in h]
  unfold one b1
  apply ByteArray.ext
  rw [ByteArray.data_extract]
  apply Array.ext
  · simp; omega
  · intro i h1 h2
    simp at h2
    subst h2
    simp
    rfl
theorem bytewise_c (s : ByteArray) (g : Nat) (cs : Array Value) (ok : Nat → Bool) (w : World) (hs : s.size ≤ 4000000)
    (hg : ∀ (args : Array Value) (w : World), (callFunc g args).run Tryz.prog w = .ok (.enter g args) w)
    (hf : ∀ i, i < s.size → ∀ w', Below w.heap.size w w' → Calls Tryz.prog g (#[.int .i64 (i : Int)] ++ cs) w' fun ex w'' => ex = .returned (.bool (ok i)) ∧ Below w'.heap.size w' w'') :
    Calls Tryz.prog 249 #[.string s, .func (.func g) #[] cs] w fun e w' => e = .returned (.string (joinB (pcs ok s s.size))) ∧ Below w.heap.size w w' := by
  have HF : Hid (∀ i, i < s.size → ∀ w', Below w.heap.size w w' → Calls Tryz.prog g (#[.int .i64 (i : Int)] ++ cs) w' fun ex w'' => ex = .returned (.bool (ok i)) ∧ Below w'.heap.size w' w'') := hf
  clear hf
  obtain ⟨iS, hiS⟩ := info_str
  have HI : Hid (Tryz.prog.info? 9 = some iS ∧ iS.zero = some (.string ⟨#[]⟩) ∧ iS.size = 1 ∧ iS.bytes = 16) := hiS
  clear hiS
  go_enter Tryz.func249, Tryz.ntmps249
  go_wp2_with fail
  go_loopg [5, 9] s.size (fun gg v5 v wr => ∃ (u : Value) (k : Nat), u = v5 ∧ k + gg = s.size ∧ v = .int .i64 (k : Int) ∧ Aside (wr.ownsRow w.heap.size 9 1 u k ((pcs ok s k).map Value.string) ∧ Below w.heap.size w wr))
  case atStart => exact ⟨_, 0, rfl, by omega, rfl, World.ownsRow_nil _ _ _ _, Below.refl _ _⟩
  case round =>
    obtain ⟨u, k, rfl, hk, rfl, hA⟩ := hrel
    have O1 : Hid (wr.ownsRow w.heap.size 9 1 u k ((pcs ok s k).map Value.string)) := hA.out.1
    have B1 : Hid (Below w.heap.size w wr) := hA.out.2
    clear hA
    have hsz := B1.out.size
    by_cases hlt : k < s.size
    · have h1 : (k : Int) < (s.size : Int) := by omega
      have hc := HF.out k hlt wr B1.out
      have HC : Hid (Calls Tryz.prog g (#[.int .i64 (k : Int)] ++ cs) wr fun ex w'' => ex = .returned (.bool (ok k)) ∧ Below wr.heap.size wr w'') := hc
      clear hc
      have hw1 : IntKind.i64.wrap ((k : Int) + 1) = (k : Int) + 1 := by rw [IntKind.wrap_i64]; omega
      have hsl := slice1 s k hlt
      rw [one_b1 hlt] at hsl
      have hix := index_pk s k hlt
      rw [pk_bt hlt] at hix
      go_wp2_with fail
      refine HC.out.mono ?_
      obtain ⟨b, Hb⟩ : ∃ b, Hid (ok k = b) := ⟨_, hid rfl⟩
      rw [Hb.out]
      rintro e w1 ⟨rfl, hb1⟩
      have B2 : Hid (Below w.heap.size w w1) := B1.out.trans (hb1.mono hsz)
      have O2 : Hid (w1.ownsRow w.heap.size 9 1 u k ((pcs ok s k).map Value.string)) := own_keep O1.out fun r hr => hb1.block r (O1.out.lt r hr).2
      have hsz2 := B2.out.size
      clear hb1
      cases b
      · go_wp2_with fail
        refine (wEscape_c (bt s k) _).mono ?_
        rintro e w2 ⟨rfl, hb2⟩
        have B3 : Hid (Below w.heap.size w w2) := B2.out.trans (hb2.mono hsz2)
        have O3 : Hid (w2.ownsRow w.heap.size 9 1 u k ((pcs ok s k).map Value.string)) := own_keep O2.out fun r hr => hb2.block r (O2.out.lt r hr).2
        have hsz3 := B3.out.size
        clear hb2
        have HP : Hid (pcs ok s (k + 1) = pcs ok s k ++ [escO (bt s k)]) := by show _ = _; rw [pcs_succ, Hb.out]; rfl
        go_wp2_with (at_builtin; go_must (refine wpList_append_own _ rfl _ _ 26 rfl w.heap.size 9 iS (.string ⟨#[]⟩) 1 16 Tryz.underlying26 HI.out.1 HI.out.2.1 HI.out.2.2.1 HI.out.2.2.2 rfl (by omega) u k ((pcs ok s k).map Value.string) rfl (O3.out.alloc _) ⟨w2.heap.size, 0, none⟩ 1 1 [.string (escO (bt s k))] rfl rfl (cell_one_new _ _ _) (str_oneCell _) (by unfold maxLen; omega) (by omega) (by simp; omega) ?_))
        intro v4 w4 hown4 hgr4 _
        have O4 : Hid (w4.ownsRow w.heap.size 9 1 v4 (k + 1) ((pcs ok s (k + 1)).map Value.string)) := by show World.ownsRow _ _ _ _ _ _ _; rw [HP.out, List.map_append]; exact hown4
        have B4 : Hid (Below w.heap.size w w4) := (B3.out.alloc hsz3 _).grown hgr4 (by simp; omega) (fun rr hr => (O3.out.lt rr hr).1)
        clear hown4 hgr4
        go_wp2_with fail
        go_roundg (gk - 1)
        case measure => omega
        case rel => exact ⟨v4, k + 1, rfl, by omega, by congr 1, O4.out, B4.out⟩
      · have HP : Hid (pcs ok s (k + 1) = pcs ok s k ++ [b1 (bt s k)]) := by show _ = _; rw [pcs_succ, Hb.out]; rfl
        go_wp2_with (at_builtin; go_must (refine wpList_append_own _ rfl _ _ 26 rfl w.heap.size 9 iS (.string ⟨#[]⟩) 1 16 Tryz.underlying26 HI.out.1 HI.out.2.1 HI.out.2.2.1 HI.out.2.2.2 rfl (by omega) u k ((pcs ok s k).map Value.string) rfl (O2.out.alloc _) ⟨w1.heap.size, 0, none⟩ 1 1 [.string (b1 (bt s k))] rfl rfl (cell_one_new _ _ _) (str_oneCell _) (by unfold maxLen; omega) (by omega) (by simp; omega) ?_))
        intro v4 w4 hown4 hgr4 _
        have O4 : Hid (w4.ownsRow w.heap.size 9 1 v4 (k + 1) ((pcs ok s (k + 1)).map Value.string)) := by show World.ownsRow _ _ _ _ _ _ _; rw [HP.out, List.map_append]; exact hown4
        have B4 : Hid (Below w.heap.size w w4) := (B2.out.alloc hsz2 _).grown hgr4 (by simp; omega) (fun rr hr => (O2.out.lt rr hr).1)
        clear hown4 hgr4
        go_wp2_with fail
        go_roundg (gk - 1)
        case measure => omega
        case rel => exact ⟨v4, k + 1, rfl, by omega, by congr 1, O4.out, B4.out⟩
    · have h1 : (s.size : Int) ≤ (k : Int) := by omega
      have hke : k = s.size := by omega
      subst hke
      have hpt := pcs_total ok s s.size
      have hpl := pcs_len ok s s.size
      have O5 : Hid (wr.ownsRow w.heap.size 9 1 u (pcs ok s s.size).length ((pcs ok s s.size).map Value.string)) := by show World.ownsRow _ _ _ _ _ _ _; rw [hpl]; exact O1.out
      go_wp2_with fail
      refine (Join_c (pcs ok s s.size) w.heap.size u _ O5.out (by omega) (by omega)).mono ?_
      rintro e w5 ⟨rfl, hb5⟩
      have B5 : Hid (Below w.heap.size w w5) := B1.out.trans (hb5.mono hsz)
      clear hb5
      go_wp2_with fail
      go_ret
      exact ⟨rfl, B5.out⟩
end Go.Proofs.YtlliliddljkbfaaGreat
