import Derived.Test.YtlliliddljkbfaaGreatC4
import Derived.Test.YtlliliddljkbfaaGreatC5
import Derived.Test.YtlliliddljkbfaaGreatC7
namespace Go.Proofs.YtlliliddljkbfaaGreat.Sp
set_option maxHeartbeats 64000000
set_option maxRecDepth 100000
abbrev Stack := List (Tok × List Nd)
def fin : Stack → List Tok → List Nd
  | [], _ => []
  | [(_, ins)], ts => ins ++ (kids nob ts).1
  | (t, ins) :: (t2, ins2) :: R, ts => fin ((t2, ins2 ++ [.mk t (ins ++ (kids (closing t) ts).1)]) :: R) (kids (closing t) ts).2
termination_by s => s.length
def dst : Stack → Nat
  | [] => 0
  | (_, ins) :: R => max (R.length + depth ins) (dst R)
def OpensS : Stack → Prop
  | [] => False
  | [(t, _)] => closing t = nob
  | (t, _) :: r :: R => closing t ≠ nob ∧ OpensS (r :: R)
theorem fin_one (t : Tok) (ins : List Nd) (ts : List Tok) : fin [(t, ins)] ts = ins ++ (kids nob ts).1 := by unfold fin; rfl
theorem fin_two (t t2 : Tok) (ins ins2 : List Nd) (R : Stack) (ts : List Tok) : fin ((t, ins) :: (t2, ins2) :: R) ts = fin ((t2, ins2 ++ [.mk t (ins ++ (kids (closing t) ts).1)]) :: R) (kids (closing t) ts).2 := by
  conv => lhs; unfold fin
theorem closing_cases (t : Tok) : closing t = nob ∨ closing t = b1 41 ∨ closing t = b1 93 ∨ closing t = b1 125 := by
  unfold closing
  repeat' split
  all_goals simp
theorem sign_closes {t t0 : Tok} (h : signT t (closing t0) = true) (h0 : closing t0 ≠ nob) : closing t = nob := by
  unfold signT at h
  simp at h
  obtain ⟨h1, h2⟩ := h
  unfold closing
  rw [if_neg (by omega), if_pos h1, h2]
  rcases closing_cases t0 with e | e | e | e
  · exact absurd e h0
  all_goals rw [e]; decide
theorem fin_open {t : Tok} (h : closing t ≠ nob) (t0 : Tok) (ins : List Nd) (R : Stack) (r : List Tok) (hO : OpensS ((t0, ins) :: R)) : fin ((t, []) :: (t0, ins) :: R) r = fin ((t0, ins) :: R) (t :: r) := by
  have hi : inside t r = kids (closing t) r := by unfold inside; rw [if_neg h]
  rw [fin_two]
  have hne : ¬ (closing t0 ≠ nob ∧ signT t (closing t0) = true) := fun q => h (sign_closes q.2 q.1)
  cases R with
  | nil =>
    rw [fin_one, fin_one, kids_cons (fun q => q.1 rfl), hi]
    simp
  | cons x R =>
    obtain ⟨t2, ins2⟩ := x
    rw [fin_two, fin_two, kids_cons hne, hi]
    simp
theorem fin_close {t t0 : Tok} (ins : List Nd) (t2 : Tok) (ins2 : List Nd) (R : Stack) (r : List Tok) (h : signT t (closing t0) = true) (h0 : closing t0 ≠ nob) : fin ((t0, ins) :: (t2, ins2) :: R) (t :: r) = fin ((t2, ins2 ++ [.mk t0 ins]) :: R) r := by
  rw [fin_two, kids_end ⟨h0, h⟩]
  simp
theorem fin_leaf {t : Tok} (h : closing t = nob) (t0 : Tok) (ins : List Nd) (R : Stack) (r : List Tok) (hn : ¬ (closing t0 ≠ nob ∧ signT t (closing t0) = true)) : fin ((t0, ins ++ [.mk t []]) :: R) r = fin ((t0, ins) :: R) (t :: r) := by
  have hi : inside t r = ([], r) := by unfold inside; rw [if_pos h]
  cases R with
  | nil =>
    rw [fin_one, fin_one, kids_cons (fun q => q.1 rfl), hi]
    simp
  | cons x R =>
    obtain ⟨t2, ins2⟩ := x
    rw [fin_two, fin_two, kids_cons hn, hi]
    simp
theorem fin_end (t0 : Tok) (ins : List Nd) (t2 : Tok) (ins2 : List Nd) (R : Stack) : fin ((t0, ins) :: (t2, ins2) :: R) [] = fin ((t2, ins2 ++ [.mk t0 ins]) :: R) [] := by
  rw [fin_two, kids_nil]
  simp
theorem dst_close (t0 : Tok) (ins : List Nd) (t2 : Tok) (ins2 : List Nd) (R : Stack) (h0 : closing t0 ≠ nob) : dst ((t2, ins2 ++ [.mk t0 ins]) :: R) = dst ((t0, ins) :: (t2, ins2) :: R) := by
  simp only [dst, depth_snoc, depthN_some (n := .mk t0 ins) h0, List.length_cons, Nd.kids_mk]
  omega
theorem dst_leaf {t : Tok} (h : closing t = nob) (t0 : Tok) (ins : List Nd) (R : Stack) : dst ((t0, ins ++ [.mk t []]) :: R) = dst ((t0, ins) :: R) := by
  simp only [dst, depth_snoc, depthN_none (n := .mk t []) h]
  omega
theorem dst_open (t : Tok) (R : Stack) : dst ((t, []) :: R) = max (dst R) R.length := by
  simp only [dst, depth]
  omega
theorem OpensS.ne {S : Stack} (h : OpensS S) : S ≠ [] := by rintro rfl; exact h
theorem OpensS.push {S : Stack} (h : OpensS S) {t : Tok} (ht : closing t ≠ nob) (ins : List Nd) : OpensS ((t, ins) :: S) := by
  cases S with
  | nil => exact h.elim
  | cons r R => exact ⟨ht, h⟩
theorem OpensS.same {t : Tok} {i j : List Nd} {R : Stack} (h : OpensS ((t, i) :: R)) : OpensS ((t, j) :: R) := by
  cases R with
  | nil => exact h
  | cons r R => exact h
theorem OpensS.pop {t t2 : Tok} {i i2 j : List Nd} {R : Stack} (h : OpensS ((t, i) :: (t2, i2) :: R)) : closing t ≠ nob ∧ OpensS ((t2, j) :: R) := ⟨h.1, OpensS.same (i := i2) h.2⟩
theorem fin_nodes (ts : List Tok) : fin [(Tok.k 0, [])] ts = nodes ts := by rw [fin_one]; rfl
end Go.Proofs.YtlliliddljkbfaaGreat.Sp
namespace Go.Proofs.YtlliliddljkbfaaGreat
set_option maxHeartbeats 64000000
set_option maxRecDepth 100000
open Go.RowKit Sp
section
structure Fr where
  tok : Tok
  ins : List Nd
  v : Value
  cs : List Value
def Fr.cells (f : Fr) : List Value := [.int .i64 f.tok.kind, .string f.tok.word, .string f.tok.unit, .string (closing f.tok), f.v]
def Fin_ (base : Nat) (w : World) (v : Value) (L : List Fr) (b : Nat) : Prop := base ≤ b ∧ b < w.heap.size ∧ some b ≠ v.ownBlock ∧ ∀ f ∈ L, some b ≠ f.v.ownBlock
structure Stk (base : Nat) (w : World) (v : Value) (L : List Fr) : Prop where
  row : w.ownsRow base 195 5 v L.length (L.flatMap Fr.cells)
  own : ∀ f ∈ L, w.ownsRow base 199 4 f.v f.ins.length f.cs
  kid : ∀ f ∈ L, KidC (Fin_ base w v L) w f.ins f.cs
  ok : ∀ f ∈ L, TokOK f.tok
  dist : L.Pairwise (fun a b => ∀ k, a.v.ownBlock = some k → b.v.ownBlock ≠ some k)
def stackOf (L : List Fr) : Stack := (L.map (fun f => (f.tok, f.ins))).reverse
theorem stackOf_snoc (L : List Fr) (f : Fr) : stackOf (L ++ [f]) = (f.tok, f.ins) :: stackOf L := by simp [stackOf]
theorem stackOf_len (L : List Fr) : (stackOf L).length = L.length := by simp [stackOf]
theorem flat_cells_len (L : List Fr) : (L.flatMap Fr.cells).length = L.length * 5 := by
  induction L with
  | nil => rfl
  | cons f r ih => simp only [List.flatMap_cons, List.length_append, ih, Fr.cells, List.length_cons, List.length_nil]; omega
theorem own_keep {w w' : World} {base e s n : Nat} {v : Value} {xs : List Value} (h : w.ownsRow base e s v n xs) (hw : ∀ g, v.ownBlock = some g → w'.heap[g]? = w.heap[g]?) : w'.ownsRow base e s v n xs := by
  refine ⟨h.1, ?_⟩
  rcases h.2 with hn | ⟨g, cap, cur, rfl, hbg, hgg, rest⟩
  · exact .inl hn
  · exact .inr ⟨g, cap, cur, rfl, hbg, by rw [hw g rfl]; exact hgg, rest⟩
section
variable {base : Nat} {w w' : World} {v : Value} {L : List Fr}
theorem Stk.keep (h : Stk base w v L) (hs : w.heap.size ≤ w'.heap.size) (hw : ∀ g, base ≤ g → g < w.heap.size → w'.heap[g]? = w.heap[g]?) : Stk base w' v L :=
  ⟨own_keep h.row fun g hg => hw g (h.row.lt g hg).1 (h.row.lt g hg).2,
   fun f hf => own_keep (h.own f hf) fun g hg => hw g ((h.own f hf).lt g hg).1 ((h.own f hf).lt g hg).2,
   fun f hf => (h.kid f hf).keep (fun g hg => ⟨hg.1, by have := hg.2.1; omega, hg.2.2⟩) fun g hg => hw g hg.1 hg.2.1, h.ok, h.dist⟩
theorem Stk.apart (h : Stk base w v L) {f : Fr} (hf : f ∈ L) (k : Nat) (hk : v.ownBlock = some k) : f.v.ownBlock ≠ some k :=
  own_apart h.row (h.own f hf) (by decide) k hk
theorem Stk.drop {f : Fr} (h : Stk base w v (L ++ [f])) (h6 : f.ins.length ≤ 600) {g n cap : Nat} (e : v = .slice (some ⟨g, 0, none⟩) n cap) :
    Stk base w (.slice (some ⟨g, 0, none⟩) L.length cap) L ∧ Sl (Fin_ base w (.slice (some ⟨g, 0, none⟩) L.length cap) L) w f.v f.ins := by
  subst e
  have hl := h.row.1
  have hrow : w.ownsRow base 195 5 (.slice (some ⟨g, 0, none⟩) L.length cap) L.length (L.flatMap Fr.cells) := by
    refine ⟨flat_cells_len L, .inr ?_⟩
    rcases h.row.2 with ⟨hv, _⟩ | ⟨g', cap', cur, hv, hbg, hgg, hnc, hcm, hcs, htk⟩
    · cases hv
    · cases hv
      refine ⟨g, cap, cur, rfl, hbg, hgg, by simp at hnc; omega, hcm, hcs, ?_⟩
      have h1 : (cur.toList.take ((L ++ [f]).length * 5)).take (L.length * 5) = cur.toList.take (L.length * 5) := by
        rw [List.take_take, Nat.min_eq_left (by simp only [List.length_append, List.length_cons, List.length_nil]; omega)]
      rw [← h1, htk, List.flatMap_append, ← flat_cells_len L, List.take_left']
      rfl
  have hS : ∀ b, Fin_ base w (.slice (some ⟨g, 0, none⟩) n cap) (L ++ [f]) b → Fin_ base w (.slice (some ⟨g, 0, none⟩) L.length cap) L b := fun b hb => ⟨hb.1, hb.2.1, hb.2.2.1, fun q hq => hb.2.2.2 q (by simp [hq])⟩
  have hdist := List.pairwise_append.1 h.dist
  refine ⟨⟨hrow, fun q hq => h.own q (by simp [hq]), fun q hq => (h.kid q (by simp [hq])).keep hS fun _ _ => rfl, fun q hq => h.ok q (by simp [hq]), hdist.1⟩, ?_⟩
  have ho := h.own f (by simp)
  have hk : KidC (Fin_ base w (.slice (some ⟨g, 0, none⟩) L.length cap) L) w f.ins f.cs := (h.kid f (by simp)).keep hS fun _ _ => rfl
  rcases ho.2 with ⟨hv, hn⟩ | ⟨g', cap', cur, hv, hbg, hgg, hnc, hcm, hcs, htk⟩
  · have : f.ins = [] := List.eq_nil_of_length_eq_zero hn
    rw [hv, this]; exact Sl.nil _ _
  · rw [hv]
    have hf1 : some g' ≠ Value.ownBlock (.slice (some ⟨g, 0, none⟩) L.length cap) := by
      intro e
      have := h.apart (f := f) (by simp) g rfl
      rw [hv] at this
      exact this (by rw [show Value.ownBlock (.slice (some ⟨g, 0, none⟩) L.length cap) = some g from rfl] at e; cases e; rfl)
    have hf2 : ∀ q ∈ L, some g' ≠ q.v.ownBlock := by
      intro q hq e
      exact hdist.2.2 q hq f (by simp) g' e.symm (by rw [hv]; rfl)
    refine ⟨_, cap', rfl, ⟨hnc, h6⟩, fun _ => ⟨g', 0, rfl, KidC.lies ⟨hbg, (Array.getElem?_eq_some_iff.1 hgg).1, hf1, hf2⟩ f.ins f.cs 0 hk fun j u hu => ?_⟩⟩
    have := ho.cells (g := g') (by rw [hv]; rfl) j u hu
    rw [Addr.add_lit, Nat.zero_add] at this
    rw [Nat.zero_add]
    exact this
theorem Stk.push (h : Stk base w v L) (t : Tok) (ht : TokOK t) {v2 : Value}
    (hrow : w'.ownsRow base 195 5 v2 (L.length + 1) (L.flatMap Fr.cells ++ [.int .i64 t.kind, .string t.word, .string t.unit, .string (closing t), .slice none 0 0]))
    (hs : w.heap.size ≤ w'.heap.size) (hw : ∀ g, g < w.heap.size → some g ≠ v.ownBlock → w'.heap[g]? = w.heap[g]?) (hat : v2.ownBlock = v.ownBlock ∨ ∃ b, v2.ownBlock = some b ∧ w.heap.size ≤ b) :
    Stk base w' v2 (L ++ [⟨t, [], .slice none 0 0, []⟩]) := by
  have hnv : ∀ g, g < w.heap.size → some g ≠ v.ownBlock → some g ≠ v2.ownBlock := by
    intro g hg h1
    rcases hat with e | ⟨b, e, hb⟩
    · rw [e]; exact h1
    · rw [e]; intro e2; cases e2; omega
  have hS : ∀ b, Fin_ base w v L b → Fin_ base w' v2 (L ++ [⟨t, [], .slice none 0 0, []⟩]) b := fun b hb => ⟨hb.1, by have := hb.2.1; omega, hnv b hb.2.1 hb.2.2.1, fun q hq => by
    rcases List.mem_append.1 hq with h1 | h1
    · exact hb.2.2.2 q h1
    · rw [List.mem_singleton.1 h1]; simp [Value.ownBlock]⟩
  have hnew : ∀ q ∈ L ++ [(⟨t, [], .slice none 0 0, []⟩ : Fr)], q ∈ L ∨ q = ⟨t, [], .slice none 0 0, []⟩ := fun q hq => by simpa using hq
  refine ⟨?_, fun q hq => ?_, fun q hq => ?_, fun q hq => ?_, ?_⟩
  · rw [List.length_append, List.flatMap_append]
    simpa [Fr.cells] using hrow
  · rcases hnew q hq with h1 | rfl
    · exact own_keep (h.own q h1) fun g hg => hw g ((h.own q h1).lt g hg).2 fun e => h.apart h1 g e.symm hg
    · exact World.ownsRow_nil _ _ _ _
  · rcases hnew q hq with h1 | rfl
    · exact (h.kid q h1).keep hS fun g hg => hw g hg.2.1 hg.2.2.1
    · rfl
  · rcases hnew q hq with h1 | rfl
    · exact h.ok q h1
    · exact ht
  · refine List.pairwise_append.2 ⟨h.dist, by simp, fun a _ b hb k _ => ?_⟩
    rw [List.mem_singleton.1 hb]
    simp [Value.ownBlock]
theorem set_blk (xs : List Value) (k : Nat) (hk : xs.length = k * 5) (a b c d e e2 : Value) : (xs ++ [a, b, c, d, e]).set (k * 5 + 4) e2 = xs ++ [a, b, c, d, e2] := by
  rw [← hk, List.set_append_right _ _ (by omega)]
  simp
theorem Stk.grow {f : Fr} (h : Stk base w v (L ++ [f])) {n : Nd} {kv : Value} (hk : Sl (Fin_ base w v (L ++ [f])) w kv n.kids ∧ TokOK n.t) {v2 : Value} {cs2 : List Value}
    (hcs : cs2 = f.cs ++ [.int .i64 n.t.kind, .string n.t.word, .string n.t.unit, kv])
    (hown : w'.ownsRow base 199 4 v2 (f.ins.length + 1) cs2)
    (hrow : w'.ownsRow base 195 5 v (L.length + 1) (L.flatMap Fr.cells ++ [.int .i64 f.tok.kind, .string f.tok.word, .string f.tok.unit, .string (closing f.tok), v2]))
    (hs : w.heap.size ≤ w'.heap.size) (hw : ∀ g, g < w.heap.size → some g ≠ v.ownBlock → some g ≠ f.v.ownBlock → w'.heap[g]? = w.heap[g]?) (hat : v2.ownBlock = f.v.ownBlock ∨ ∃ b, v2.ownBlock = some b ∧ w.heap.size ≤ b) :
    Stk base w' v (L ++ [⟨f.tok, f.ins ++ [n], v2, cs2⟩]) := by
  subst hcs
  have hdist := List.pairwise_append.1 h.dist
  have hn2 : ∀ g, g < w.heap.size → some g ≠ f.v.ownBlock → some g ≠ v2.ownBlock := by
    intro g hg h1
    rcases hat with e | ⟨b, e, hb⟩
    · rw [e]; exact h1
    · rw [e]; intro e2; cases e2; omega
  have hS : ∀ b, Fin_ base w v (L ++ [f]) b → Fin_ base w' v (L ++ [⟨f.tok, f.ins ++ [n], v2, f.cs ++ [.int .i64 n.t.kind, .string n.t.word, .string n.t.unit, kv]⟩]) b := fun b hb => ⟨hb.1, by have := hb.2.1; omega, hb.2.2.1, fun q hq => by
    rcases List.mem_append.1 hq with h1 | h1
    · exact hb.2.2.2 q (by simp [h1])
    · rw [List.mem_singleton.1 h1]; exact hn2 b hb.2.1 (hb.2.2.2 f (by simp))⟩
  have hW : ∀ g, Fin_ base w v (L ++ [f]) g → w'.heap[g]? = w.heap[g]? := fun g hg => hw g hg.2.1 hg.2.2.1 (hg.2.2.2 f (by simp))
  have hnew : ∀ q ∈ L ++ [(⟨f.tok, f.ins ++ [n], v2, f.cs ++ [.int .i64 n.t.kind, .string n.t.word, .string n.t.unit, kv]⟩ : Fr)], q ∈ L ∨ q = ⟨f.tok, f.ins ++ [n], v2, f.cs ++ [.int .i64 n.t.kind, .string n.t.word, .string n.t.unit, kv]⟩ := fun q hq => by simpa using hq
  refine ⟨?_, fun q hq => ?_, fun q hq => ?_, fun q hq => ?_, ?_⟩
  · rw [List.length_append, List.flatMap_append]
    simpa [Fr.cells] using hrow
  · rcases hnew q hq with h1 | rfl
    · exact own_keep (h.own q (by simp [h1])) fun g hg => hw g ((h.own q (by simp [h1])).lt g hg).2 (fun e => h.apart (f := q) (by simp [h1]) g e.symm hg) (fun e => hdist.2.2 q h1 f (by simp) g hg e.symm)
    · simpa using hown
  · rcases hnew q hq with h1 | rfl
    · exact (h.kid q (by simp [h1])).keep hS hW
    · exact KidC.snoc _ _ ((h.kid f (by simp)).keep hS hW) n kv ⟨hk.1.keep hS hW, hk.2⟩
  · rcases hnew q hq with h1 | rfl
    · exact h.ok q (by simp [h1])
    · exact h.ok f (by simp)
  · refine List.pairwise_append.2 ⟨hdist.1, by simp, fun a ha b hb k hk => ?_⟩
    rw [List.mem_singleton.1 hb]
    have := ((h.own a (by simp [ha])).lt k hk).2
    rcases hat with e | ⟨b', e, hb'⟩
    · show v2.ownBlock ≠ some k
      rw [e]; exact hdist.2.2 a ha f (by simp) k hk
    · show v2.ownBlock ≠ some k
      rw [e]; intro e2; cases e2; omega
theorem Stk.put {f : Fr} (h : Stk base w v (L ++ [f])) {g co : Nat} (e : v = .slice (some ⟨g, 0, none⟩) (L.length + 1) co) (n : Nd) (kv : Value) (hk : Sl (Fin_ base w v (L ++ [f])) w kv n.kids ∧ TokOK n.t) {W w4 : World} {gv vc : Nat} {z0 z1 z2 z3 : Value}
    (hWs : w.heap.size ≤ W.heap.size) (hW : ∀ k, k < w.heap.size → W.heap[k]? = w.heap[k]?)
    (hown : w4.ownsRow base 199 4 (.slice (some ⟨gv, 0, none⟩) (f.ins.length + 1) vc) (f.ins.length + 1) (f.cs ++ [z0, z1, z2, z3])) (hgr : W.grownBy w4 f.v.ownBlock) (hat : some gv = f.v.ownBlock ∨ some gv = some W.heap.size) :
    Stk base (((((w4.setCell ⟨g, L.length * 5 + 4, none⟩ (.slice (some ⟨gv, 0, none⟩) (f.ins.length + 1) vc)).setCell ⟨gv, f.ins.length * 4, none⟩ (.int .i64 n.t.kind)).setCell ⟨gv, f.ins.length * 4 + 1, none⟩ (.string n.t.word)).setCell ⟨gv, f.ins.length * 4 + 2, none⟩ (.string n.t.unit)).setCell ⟨gv, f.ins.length * 4 + 3, none⟩ kv)
      v (L ++ [⟨f.tok, f.ins ++ [n], .slice (some ⟨gv, 0, none⟩) (f.ins.length + 1) vc, f.cs ++ [.int .i64 n.t.kind, .string n.t.word, .string n.t.unit, kv]⟩]) := by
  have hap : some g ≠ f.v.ownBlock := fun e2 => h.apart (f := f) (by simp) g (by rw [e]; rfl) e2.symm
  have hgo := h.row.lt g (by rw [e]; rfl)
  have hrow0 : w.ownsRow base 195 5 v (L.length + 1) (L.flatMap Fr.cells ++ [.int .i64 f.tok.kind, .string f.tok.word, .string f.tok.unit, .string (closing f.tok), f.v]) := by
    have := h.row
    rw [List.length_append, List.flatMap_append] at this
    simpa [Fr.cells] using this
  have rowW := own_keep (w' := W) hrow0 fun k hk => hW k (hrow0.lt k hk).2
  have row4 := rowW.kept hgr (.inr (by rw [e]; exact hap))
  have hcl : f.cs.length = f.ins.length * 4 := (h.own f (by simp)).1
  have hs := hgr.size
  have hne : gv ≠ g := by
    rintro rfl
    rcases hat with e2 | e2
    · exact hap e2
    · cases e2; omega
  subst e
  obtain ⟨s5, g5⟩ := row4.stored (L.length * 5 + 4) (.slice (some ⟨gv, 0, none⟩) (f.ins.length + 1) vc)
  have o5 := hown.kept g5 (.inr (by simp [Value.ownBlock]; exact hne))
  obtain ⟨o6, g6⟩ := o5.stored (f.ins.length * 4) (.int .i64 n.t.kind)
  obtain ⟨o7, g7⟩ := o6.stored (f.ins.length * 4 + 1) (.string n.t.word)
  obtain ⟨o8, g8⟩ := o7.stored (f.ins.length * 4 + 2) (.string n.t.unit)
  obtain ⟨o9, g9⟩ := o8.stored (f.ins.length * 4 + 3) kv
  rw [set_node _ _ hcl] at o9
  rw [set_blk _ _ (flat_cells_len L)] at s5
  have hro : Value.ownBlock (.slice (some ⟨g, 0, none⟩) (L.length + 1) co) ≠ some gv := by simp [Value.ownBlock]; exact fun e => hne e.symm
  have s9 := (((s5.kept g6 (.inr hro)).kept g7 (.inr hro)).kept g8 (.inr hro)).kept g9 (.inr hro)
  have hz5 := g5.size
  have hz6 := g6.size
  have hz7 := g7.size
  have hz8 := g8.size
  have hz9 := g9.size
  refine h.grow hk rfl o9 s9 (by omega) (fun k hk h2 h1 => ?_) ?_
  · have hgg : some k ≠ some gv := by
      rcases hat with e2 | e2
      · rw [e2]; exact h1
      · cases e2; intro e3; cases e3; omega
    rw [g9.block k (by omega) hgg, g8.block k (by omega) hgg, g7.block k (by omega) hgg, g6.block k (by omega) hgg, g5.block k (by omega) h2, hgr.block k (by omega) h1, hW k hk]
  · rcases hat with e2 | e2
    · exact .inl e2
    · cases e2; exact .inr ⟨_, rfl, hWs⟩
end
theorem setCell_comm (w : World) {a b : Addr} (h : a.block ≠ b.block) (x y : Value) : (w.setCell a x).setCell b y = (w.setCell b y).setCell a x := by
  unfold World.setCell
  simp only
  congr 1
  apply Array.ext_getElem?
  intro i
  simp only [Array.getElem?_modify]
  by_cases h1 : a.block = i
  · have h2 : ¬ b.block = i := fun e => h (h1.trans e.symm)
    simp [h1, h2]
  · simp [h1]
end
theorem ownsRow_turn {w w' : World} {base : Nat} {e : TypeId} {size : Nat} {v : Value} {n : Nat} {xs : List Value} {b : Nat} (h : w.ownsRow base e size v n xs) (ht : Turn b w w') (hb : b < base) : w'.ownsRow base e size v n xs := by
  refine ⟨h.1, ?_⟩
  rcases h.2 with hn | ⟨g, cap, cur, rfl, hbg, hgg, rest⟩
  · exact .inl hn
  · refine .inr ⟨g, cap, cur, rfl, hbg, ?_, rest⟩
    rw [ht.block g (Array.getElem?_eq_some_iff.1 hgg).1 (by omega)]
    exact hgg
theorem ownsRow_drewN {w : World} {base : Nat} {e : TypeId} {size : Nat} {v : Value} {n : Nat} {xs : List Value} (h : w.ownsRow base e size v n xs) (k : Nat) : (w.drewN k).ownsRow base e size v n xs := h
theorem Went.grown {b k : Nat} {s : ByteArray} {w w1 w2 : World} {row : Option Nat} (h : Went b s k w w1) (hg : w1.grownBy w2 row) (hb : b < w.heap.size) (hrow : ∀ r, row = some r → w.heap.size ≤ r) : Went b s k w w2 := by
  have hsz := h.2.size
  have hp := h.1.pos
  refine ⟨⟨?_, ?_, h.1.pos, h.1.len, h.1.le⟩, ?_⟩
  · rw [hg.block b (by omega) (fun e => by have := hrow b e.symm; omega)]; exact h.1.blk
  · obtain ⟨m, hm⟩ := h.1.glob
    exact ⟨m, by rw [← hm]; exact World.cell?_of_block (w := w1) (hg.block 0 (by omega) (fun e => by have := hrow 0 e.symm; omega))⟩
  · exact ⟨hg.os.trans h.2.os, hg.tape.trans h.2.tape, hg.output.trans h.2.output, Nat.le_trans hsz hg.size, fun j hj hjb => (hg.block j (by omega) (fun e => by have := hrow j e.symm; omega)).trans (h.2.block j hj hjb)⟩
theorem Went.below {b k : Nat} {s : ByteArray} {w w1 w2 : World} (h : Went b s k w w1) (hb : Below w1.heap.size w1 w2) : Went b s k w w2 := by
  have hl := h.1.lt
  have hp := h.1.pos
  refine ⟨⟨?_, ?_, h.1.pos, h.1.len, h.1.le⟩, h.2.trans (Turn.of_below hb)⟩
  · rw [hb.block b hl]; exact h.1.blk
  · obtain ⟨m, hm⟩ := h.1.glob
    exact ⟨m, by rw [← hm]; exact hb.cell (p := ⟨0, 0, none⟩) (by show 0 < w1.heap.size; omega)⟩
theorem str_oneCell (x : ByteArray) : ∀ u ∈ [Value.string x], u.oneCell' = true := by simp [Value.oneCell']
theorem name_c (s : ByteArray) (b i : Nat) (w : World) (h : Sc w b s i) :
    Calls Tryz.prog 180 #[.pointer (some ⟨b, 0, none⟩)] w fun e w' => e = .returned (.string (Sp.name s i).1) ∧ Went b s (Sp.name s i).2 w w' := by
  have W : Hid (Went b s i w w) := Went.refl h
  clear h
  have hbw : b < w.heap.size := W.out.1.lt
  have hs : s.size ≤ 600 := W.out.1.len
  obtain ⟨iS, hiS⟩ := info_str
  have HI : Hid (Tryz.prog.info? 9 = some iS ∧ iS.zero = some (.string ⟨#[]⟩) ∧ iS.size = 1 ∧ iS.bytes = 16) := hiS
  clear hiS
  go_enter Tryz.func180, Tryz.ntmps180
  go_wp2_with fail
  refine wp_scope_fwd (fun Q' hF => ?_)
  go_wp2_with fail
  go_loopg [3] s.size (fun g v3 wr => ∃ (v : Value) (k : Nat) (ps : List ByteArray), v = v3 ∧ s.size ≤ k + g ∧ ps.length ≤ k ∧ total ps ≤ k ∧ Aside (nameF s g k (joinB ps) = Sp.name s i ∧ wr.ownsRow w.heap.size 9 1 v ps.length (ps.map Value.string) ∧ Went b s k w wr))
  case atStart => exact ⟨_, i, [], rfl, by omega, by simp, by simp [total], rfl, World.ownsRow_nil _ _ _ _, W.out⟩
  case round =>
    obtain ⟨v3, k, ps, rfl, hk, hpl, hpt, hA⟩ := hrel
    have H1 : Hid (nameF s gk k (joinB ps) = Sp.name s i) := hA.out.1
    have HO : Hid (wr.ownsRow w.heap.size 9 1 v3 ps.length (ps.map Value.string)) := hA.out.2.1
    have H2 : Hid (Went b s k w wr) := hA.out.2.2
    clear hA
    have hke := H2.out.1.le
    cases hn : nameI (pk s k)
    · cases he : escB s k
      · have HV : Hid (Sp.name s i = (joinB ps, k)) := by
          show _ = _
          rw [← H1.out]
          cases gk with
          | zero => rfl
          | succ f => unfold nameF; rw [if_neg (by simp [hn]), if_neg (by simp [he])]
        go_wp2_with fail
        refine (peek_c s b (k) _ (k) _ (H2.out.1) ⟨by omega, by omega, by omega⟩).mono ?_
        rintro e wq ⟨rfl, nq, rfl⟩
        go_wp2_with fail
        refine (isNameByte_c _ _).mono ?_
        rintro e wq ⟨rfl, rfl⟩
        go_wp2_with fail
        refine (escapeBegins_c s b (k) _ (k) _ (H2.out.1.drewN _) ⟨by omega, by omega, by omega⟩).mono ?_
        rintro e wq ⟨rfl, nq, rfl⟩
        go_wp2_with fail
        go_step3
        refine hF.go 0 _ _ _ rfl ?_
        clear hF
        go_wp2_with fail
        refine (Join_c ps w.heap.size v3 _ (ownsRow_drewN HO.out _) (by omega) (by omega)).mono ?_
        rintro e w1 ⟨rfl, hb1⟩
        have W1 : Hid (Went b s k w w1) := (H2.out.drewN _).below hb1
        clear hb1
        go_wp2_with fail
        try rw [Exit.noGoto_ret]
        go_ret
        rw [HV.out]
        exact ⟨rfl, W1.out⟩
      · have hlt : k < s.size := esc_lt he
        have hle := esc_le hlt
        have hgt := esc_gt s k
        obtain ⟨f, rfl⟩ : ∃ f, gk = f + 1 := ⟨gk - 1, by omega⟩
        have HV : Hid (nameF s f (esc s k).2 (joinB (ps ++ [(esc s k).1])) = Sp.name s i) := by
          show _ = _
          rw [← H1.out, joinB_snoc]
          conv => rhs; unfold nameF
          rw [if_neg (by simp [hn]), if_pos he]
        have hsz : Hid ((esc s k).1.size = 1) := size_esc
        go_wp2_with fail
        refine (peek_c s b (k) _ (k) _ (H2.out.1) ⟨by omega, by omega, by omega⟩).mono ?_
        rintro e wq ⟨rfl, nq, rfl⟩
        go_wp2_with fail
        refine (isNameByte_c _ _).mono ?_
        rintro e wq ⟨rfl, rfl⟩
        go_wp2_with fail
        refine (escapeBegins_c s b (k) _ (k) _ (H2.out.1.drewN _) ⟨by omega, by omega, by omega⟩).mono ?_
        rintro e wq ⟨rfl, nq, rfl⟩
        go_wp2_with fail
        refine (escape_c s b k _ (H2.out.1.drewN _) hlt).mono ?_
        rintro e w1 ⟨rfl, hwent⟩
        have W1 : Hid (Went b s (esc s k).2 w w1) := (H2.out.drewN _).trans hwent
        have HO1 : Hid (w1.ownsRow w.heap.size 9 1 v3 ps.length (ps.map Value.string)) := ownsRow_turn (ownsRow_drewN HO.out _) hwent.2 hbw
        clear hwent
        have hw1 := W1.out.2.size
        go_wp2_with (at_builtin; refine wpList_append_own _ rfl _ _ 26 rfl w.heap.size 9 iS (.string ⟨#[]⟩) 1 16 Tryz.underlying26 HI.out.1 HI.out.2.1 HI.out.2.2.1 HI.out.2.2.2 rfl (by omega) v3 ps.length (ps.map Value.string) rfl (HO1.out.alloc _) ⟨w1.heap.size, 0, none⟩ 1 1 [.string (esc s k).1] rfl rfl (cell_one_new _ _ _) (str_oneCell _) ?_ ?_ ?_ ?_)
        · unfold maxLen; omega
        · omega
        · simp; omega
        intro v4 w2 hown2 hgr2 _
        have W2 : Hid (Went b s (esc s k).2 w w2) := (W1.out.alloc _).grown hgr2 hbw (fun r hr => (HO1.out.lt r hr).1)
        have HO2 : Hid (w2.ownsRow w.heap.size 9 1 v4 (ps.length + 1) (ps.map Value.string ++ [.string (esc s k).1])) := hown2
        clear hown2 hgr2
        go_wp2_with fail
        go_roundg f
        case measure => omega
        case rel =>
          refine ⟨v4, (esc s k).2, ps ++ [(esc s k).1], rfl, by omega, by simp; omega, ?_, HV.out, ?_, W2.out⟩
          · have := hsz.out; simp [total_append, total, this]; omega
          · simpa using HO2.out
    · have hlt : k < s.size := pk_lt (name_nn hn)
      obtain ⟨f, rfl⟩ : ∃ f, gk = f + 1 := ⟨gk - 1, by omega⟩
      have HV : Hid (nameF s f (k + 1) (joinB (ps ++ [one s k])) = Sp.name s i) := by
        show _ = _
        rw [← H1.out, joinB_snoc]
        conv => rhs; unfold nameF
        rw [if_pos hn]
      have hsz : Hid ((one s k).size = 1) := size_one hlt
      go_wp2_with fail
      refine (peek_c s b (k) _ (k) _ (H2.out.1) ⟨by omega, by omega, by omega⟩).mono ?_
      rintro e wq ⟨rfl, nq, rfl⟩
      go_wp2_with fail
      refine (isNameByte_c _ _).mono ?_
      rintro e wq ⟨rfl, rfl⟩
      go_wp2_with fail
      refine (take_c s b k _ (H2.out.1.drewN _) hlt).mono ?_
      rintro e w1 ⟨rfl, hwent⟩
      have W1 : Hid (Went b s (k + 1) w w1) := (H2.out.drewN _).trans hwent
      have HO1 : Hid (w1.ownsRow w.heap.size 9 1 v3 ps.length (ps.map Value.string)) := ownsRow_turn (ownsRow_drewN HO.out _) hwent.2 hbw
      clear hwent
      have hw1 := W1.out.2.size
      go_wp2_with (at_builtin; refine wpList_append_own _ rfl _ _ 26 rfl w.heap.size 9 iS (.string ⟨#[]⟩) 1 16 Tryz.underlying26 HI.out.1 HI.out.2.1 HI.out.2.2.1 HI.out.2.2.2 rfl (by omega) v3 ps.length (ps.map Value.string) rfl (HO1.out.alloc _) ⟨w1.heap.size, 0, none⟩ 1 1 [.string (one s k)] rfl rfl (cell_one_new _ _ _) (str_oneCell _) ?_ ?_ ?_ ?_)
      · unfold maxLen; omega
      · omega
      · simp; omega
      intro v4 w2 hown2 hgr2 _
      have W2 : Hid (Went b s (k + 1) w w2) := (W1.out.alloc _).grown hgr2 hbw (fun r hr => (HO1.out.lt r hr).1)
      have HO2 : Hid (w2.ownsRow w.heap.size 9 1 v4 (ps.length + 1) (ps.map Value.string ++ [.string (one s k)])) := hown2
      clear hown2 hgr2
      go_wp2_with fail
      go_roundg f
      case measure => omega
      case rel =>
        refine ⟨v4, k + 1, ps ++ [one s k], rfl, by omega, by simp; omega, ?_, HV.out, ?_, W2.out⟩
        · have := hsz.out; simp [total_append, total, this]; omega
        · simpa using HO2.out
end Go.Proofs.YtlliliddljkbfaaGreat
