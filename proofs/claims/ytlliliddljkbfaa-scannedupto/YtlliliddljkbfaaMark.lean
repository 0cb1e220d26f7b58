/-
  Lists that their owner has written over: marked to their length; an append of marks leaves all of them marked.
-/
import Derived.Test.YtlliliddljkbfaaLawTok
namespace Go.Proofs.Ytlliliddljkbfaa
open Go.RowKit Sp
set_option maxRecDepth 100000

def mTok (mark : Int) : Tok := ⟨mark, ⟨#[]⟩, ⟨#[]⟩⟩
def marks (mark : Int) (n : Nat) : List Value := tokCells (List.replicate n (mTok mark))
theorem marks_len (mark : Int) (n : Nat) : (marks mark n).length = n * 3 := by simp [marks, tokCells_length]
theorem marks_add (mark : Int) (a b : Nat) : marks mark (a + b) = marks mark a ++ marks mark b := by
  unfold marks; rw [← tokCells_append, List.replicate_append_replicate]
theorem marks_take (mark : Int) {k n : Nat} (h : k ≤ n) : (marks mark n).take (k * 3) = marks mark k := by
  obtain ⟨d, rfl⟩ : ∃ d, n = k + d := ⟨n - k, by omega⟩
  rw [marks_add, List.take_left' (marks_len mark k)]
theorem marks_one (mark : Int) : marks mark 1 = [.int .i64 mark, .string ⟨#[]⟩, .string ⟨#[]⟩] := rfl
theorem marks_two (mark : Int) : marks mark 2 = [.int .i64 mark, .string ⟨#[]⟩, .string ⟨#[]⟩, .int .i64 mark, .string ⟨#[]⟩, .string ⟨#[]⟩] := rfl
theorem marks_oneCell (mark : Int) (n : Nat) : ∀ u ∈ marks mark n, u.oneCell' = true := by
  induction n with
  | zero => intro u hu; simp [marks, tokCells] at hu
  | succ n ih =>
    intro u hu
    rw [marks_add, List.mem_append] at hu
    rcases hu with hu | hu
    · exact ih u hu
    · rw [marks_one] at hu
      simp only [List.mem_cons, List.not_mem_nil, or_false] at hu
      rcases hu with rfl | rfl | rfl <;> rfl

/-- A list of n tokens, all marked, in a block of which S holds. -/
def Mkd (w : World) (S : Nat → Prop) (mark : Int) (v : Value) (n : Nat) : Prop :=
  (v = .slice none 0 0 ∧ n = 0) ∨
  ∃ g cap cur, v = .slice (some ⟨g, 0, none⟩) n cap ∧ S g ∧ w.heap[g]? = some (.cells cur 35 (0, 0)) ∧ n ≤ cap ∧ cap ≤ maxLen ∧ cur.size = cap * 3 ∧ cur.toList.take (n * 3) = marks mark n

theorem Mkd.kept {w w' : World} {S : Nat → Prop} {mark : Int} {v : Value} {n : Nat} (h : Mkd w S mark v n) (hk : ∀ g, g < w.heap.size → S g → w'.heap[g]? = w.heap[g]?) : Mkd w' S mark v n := by
  rcases h with h | ⟨g, cap, cur, hv, hS, hg, rest⟩
  · exact .inl h
  · exact .inr ⟨g, cap, cur, hv, hS, by rw [hk g (Array.getElem?_eq_some_iff.1 hg).1 hS]; exact hg, rest⟩
theorem Mkd.mono {w : World} {S S' : Nat → Prop} {mark : Int} {v : Value} {n : Nat} (h : Mkd w S mark v n) (hS : ∀ g, g < w.heap.size → S g → S' g) : Mkd w S' mark v n := by
  rcases h with h | ⟨g, cap, cur, hv, hs, hg, rest⟩
  · exact .inl h
  · exact .inr ⟨g, cap, cur, hv, hS g (Array.getElem?_eq_some_iff.1 hg).1 hs, hg, rest⟩
theorem Mkd.own {w : World} {S : Nat → Prop} {mark : Int} {v : Value} {n : Nat} (h : Mkd w S mark v n) : ∀ r, v.ownBlock = some r → S r ∧ r < w.heap.size := by
  intro r hr
  rcases h with ⟨rfl, _⟩ | ⟨g, cap, cur, rfl, hS, hg, _⟩
  · simp [Value.ownBlock] at hr
  · simp [Value.ownBlock] at hr
    subst hr
    exact ⟨hS, (Array.getElem?_eq_some_iff.1 hg).1⟩

theorem take_marked {cur : List Value} {mark : Int} {n k j : Nat} (hn : cur.take (n * 3) = marks mark n) (hj : cur.take (j * 3) = marks mark j) :
    (cur.take (n * 3) ++ marks mark k ++ cur.drop (n * 3 + k * 3)).take (j * 3) = marks mark j := by
  rw [hn, ← marks_add]
  by_cases h : j ≤ n + k
  · rw [List.take_append_of_le_length (by rw [marks_len]; omega), marks_take mark h]
  · have hjn : j = n + k + (j - (n + k)) := by omega
    have e : marks mark j = marks mark (n + k) ++ marks mark (j - (n + k)) := by rw [← marks_add, ← hjn]
    rw [List.take_append, marks_len, List.take_of_length_le (by rw [marks_len]; omega), e]
    congr 1
    have h2 : (cur.take (j * 3)).drop ((n + k) * 3) = marks mark (j - (n + k)) := by rw [hj, e, List.drop_left' (marks_len mark _)]
    rw [List.drop_take] at h2
    rw [show n * 3 + k * 3 = (n + k) * 3 from by omega]
    exact h2

theorem run_append_marked (w : World) (S : Nat → Prop) (ty : TypeId) (mark : Int) (l : Value) (n k : Nat) (hl : Mkd w S mark l n) (hk : 0 < k) (hb : n + k ≤ 1000000)
    (ad : Addr) (hnews : ∀ j u, (marks mark k)[j]? = some u → w.cell? (ad.add j) = some u) (hS : S w.heap.size) :
    ∃ v' w', (Builtin.append_ #[23, 23] ty #[l, .slice (some ad) k k]).run Try.prog w = .ok v' w' ∧ Mkd w' S mark v' (n + k) ∧ (∀ u j, Mkd w S mark u j → Mkd w' S mark u j) ∧ w.grownBy w' l.ownBlock := by
  obtain ⟨i, hi, hz, hsize, hby⟩ := info_tok
  have hmk := marks_len mark k
  have hnl : (marks mark k).length = k * i.size := by rw [hsize]; exact hmk
  have newrow : ∀ (old : Nat), Mkd (w.drew.alloc (.cells ((marks mark n).toArray ++ (marks mark k).toArray ++ Builtin.zeroCells (Value.agg #[.int .i64 0, .string ⟨#[]⟩, .string ⟨#[]⟩]).cells (grownCap w (n + k) old 35 - (n + k))) 35)) S mark (.slice (some ⟨w.heap.size, 0, none⟩) (n + k) (grownCap w (n + k) old 35)) (n + k) := by
    intro old
    have hge := grownCap_ge w (n + k) old 35
    refine .inr ⟨w.heap.size, _, _, rfl, hS, heap_alloc_new w.drew _, hge, grownCap_le_maxLen w (n + k) old _ (by unfold maxLen; omega), ?_, ?_⟩
    · simp only [Array.size_append, List.size_toArray, size_zeroCells, marks_len]
      show n * 3 + k * 3 + (_ - (n + k)) * 3 = _ * 3
      omega
    · simp only [Array.toList_append]
      rw [← marks_add, List.take_left' (marks_len mark _)]
  have oldkept : ∀ o u j, Mkd w S mark u j → Mkd (w.drew.alloc o) S mark u j := fun o u j h => h.kept fun g hg _ => Below.heap_alloc w.drew o g hg
  have grown : ∀ o, w.grownBy (w.drew.alloc o) l.ownBlock := fun o => ⟨rfl, rfl, rfl, by simp, fun j hj _ => Below.heap_alloc w.drew o j hj⟩
  rcases hl with ⟨rfl, rfl⟩ | ⟨g, cap, cur, rfl, hSg, hg, hnc, hcm, hcs, htake⟩
  · have hr := run_append_nil (P := Try.prog) w 23 ty 35 i _ Try.underlying23 hi hz ad k k (marks mark k) hnl hnews hk (by omega) (by rw [hby]; omega)
    have hn := newrow 0
    simp only [Nat.zero_add] at hn ⊢
    refine ⟨_, _, hr, ?_, oldkept _, grown _⟩
    simpa [marks, tokCells] using hn
  · by_cases hroom : n + k ≤ cap
    · have hr := run_append_room (P := Try.prog) w 23 ty 35 i Try.underlying23 hi g n cap cur hg ad k k (marks mark k) hnl hnews (marks_oneCell mark k) hroom (by rw [hsize, hmk, hcs]; omega)
      rw [hsize, hmk] at hr
      have hrow := setRow_heap w g cur (cur.toList.take (n * 3) ++ marks mark k ++ cur.toList.drop (n * 3 + k * 3)).toArray 35 (0, 0) hg
      have hsz : (cur.toList.take (n * 3) ++ marks mark k ++ cur.toList.drop (n * 3 + k * 3)).toArray.size = cap * 3 := by
        simp only [List.size_toArray, List.length_append, List.length_take, List.length_drop, Array.length_toList, hmk]; omega
      refine ⟨_, _, hr, .inr ⟨g, cap, _, rfl, hSg, hrow, hroom, hcm, hsz, ?_⟩, ?_, ⟨rfl, rfl, rfl, by simp, fun j _ hj => setRow_other w g j _ (fun e => hj (by simp [Value.ownBlock, e]))⟩⟩
      · have h3 : (n + k) * 3 = (cur.toList.take (n * 3) ++ marks mark k).length := by
          simp only [List.length_append, List.length_take, Array.length_toList, hmk]; omega
        dsimp only
        rw [h3, List.take_left, htake, marks_add]
      · intro u j hu
        rcases hu with h | ⟨g', cap', cur', hv, hS', hg', hnc', hcm', hcs', htake'⟩
        · exact .inl h
        · by_cases e : g' = g
          · subst e
            rw [hg] at hg'
            injection hg' with hg'
            injection hg' with e1 _ _
            subst e1
            have hcc : cap' = cap := by omega
            subst hcc
            exact .inr ⟨g', cap', _, hv, hS', hrow, hnc', hcm', hsz, take_marked htake htake'⟩
          · exact .inr ⟨g', cap', cur', hv, hS', by rw [setRow_other w g g' _ e]; exact hg', hnc', hcm', hcs', htake'⟩
    · have holds : ∀ j u, (marks mark n)[j]? = some u → w.cell? ((⟨g, 0, none⟩ : Addr).add j) = some u := by
        have how : w.ownsRow 0 35 3 (.slice (some ⟨g, 0, none⟩) n cap) n (marks mark n) := ⟨marks_len mark n, .inr ⟨g, cap, cur, rfl, Nat.zero_le _, hg, hnc, hcm, hcs, htake⟩⟩
        exact how.cells (g := g) rfl
      have hr := run_append_grow (P := Try.prog) w 23 ty 35 i _ Try.underlying23 hi hz ⟨g, 0, none⟩ n cap (marks mark n) (by rw [hsize]; exact marks_len mark n) holds ad k k (marks mark k) hnl hnews (by omega) (by omega) (growslice_fits (by omega) (by rw [hby]; omega))
      exact ⟨_, _, hr, newrow cap, oldkept _, grown _⟩

theorem wpList_append_marked {w : World} {ops : Array Oper} {rest : List Oper} {o : Oper} {a : Act} {Q : Exit → Act → World → Prop} (hgd : o.guard = none) (s x : Operand)
    (ho : o.op = .call { callee := .builtin .append, args := #[s, x], argTypes := #[23, 23] })
    (S : Nat → Prop) (mark : Int) (l : Value) (n k : Nat) (hs : a.eval s = l) (ad : Addr) (hx : a.eval x = .slice (some ad) k k) (hl : Mkd w S mark l n) (hk : 0 < k) (hb : n + k ≤ 1000000)
    (hnews : ∀ j u, (marks mark k)[j]? = some u → w.cell? (ad.add j) = some u) (hS : S w.heap.size)
    (h : ∀ v' w', Mkd w' S mark v' (n + k) → (∀ u j, Mkd w S mark u j → Mkd w' S mark u j) → w.grownBy w' l.ownBlock → wpList Try.prog ops Q rest (a.put o.dst v') w') : wpList Try.prog ops Q (o :: rest) a w := by
  refine wpList_plain hgd fun K hK => ?_
  obtain ⟨v', w', hr, h2, h3, h4⟩ := run_append_marked w S o.type mark l n k hl hk hb ad hnews hS
  unfold Oper.wp execOp
  simp only [ho, resolve, invoke, builtin, Sem.run_bind, Sem.run_pure, Result.andThen_ok, List.map_toArray, List.map_cons, List.map_nil, hs, hx, hr]
  exact hK _ _ (h v' w' h2 h3 h4)
end Go.Proofs.Ytlliliddljkbfaa
