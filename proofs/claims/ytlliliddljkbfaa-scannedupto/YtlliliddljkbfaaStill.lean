/-
  The law's 'still': each list of a group reads as its owner's mark. And the groups, one beside the other.
-/
import Derived.Test.YtlliliddljkbfaaOwn
namespace Go.Proofs.Ytlliliddljkbfaa
open Go.RowKit Sp
set_option maxRecDepth 100000

theorem Mkd.cells {w : World} {S : Nat → Prop} {mark : Int} {g n cap : Nat} (h : Mkd w S mark (.slice (some ⟨g, 0, none⟩) n cap) n) (j : Nat) (hj : j < n) :
    w.cell? ⟨g, j * 3, none⟩ = some (.int .i64 mark) ∧ w.cell? ⟨g, j * 3 + 1, none⟩ = some (.string ⟨#[]⟩) ∧ w.cell? ⟨g, j * 3 + 2, none⟩ = some (.string ⟨#[]⟩) := by
  rcases h with ⟨h, _⟩ | ⟨g', cap', cur, hv, hS, hg, hnc, hcm, hcs, htake⟩
  · cases h
  · have how : w.ownsRow 0 35 3 (.slice (some ⟨g, 0, none⟩) n cap) n (marks mark n) := ⟨marks_len mark n, .inr ⟨g', cap', cur, hv, Nat.zero_le _, hg, hnc, hcm, hcs, htake⟩⟩
    have hl : (List.replicate n (mTok mark)).length = n := by simp
    have how' : w.ownsRow 0 35 3 (.slice (some ⟨g, 0, none⟩) (List.replicate n (mTok mark)).length cap) (List.replicate n (mTok mark)).length (tokCells (List.replicate n (mTok mark))) := by rw [hl]; exact how
    have := own_cells how' j (by rw [hl]; exact hj)
    simpa [mTok] using this

set_option maxRecDepth 100000 in
set_option maxHeartbeats 2000000 in
theorem still_c (G : Nat) (mark : Int) (w : World) (h : ∀ i, i < 4 → ∃ v n S, w.cell? ⟨G, i, none⟩ = some v ∧ Mkd w S mark v n ∧ n ≤ 10000) :
    Calls Try.prog 6 #[.slice (some ⟨G, 0, none⟩) 4 4, .int .i64 mark] w fun e w' => e = .returned (.bool true) ∧ w' = w := by
  have H : Hid (∀ i, i < 4 → ∃ v n S, w.cell? ⟨G, i, none⟩ = some v ∧ Mkd w S mark v n ∧ n ≤ 10000) := h
  clear h
  go_enter Try.func6, Try.ntmps6
  go_wp2_with fail
  go_loopg [5, 6] 4 (fun gg v5 v6 wr => ∃ i : Nat, i + gg = 4 ∧ v5 = .int .i64 (i : Int) ∧ Aside (w = wr))
  case atStart => exact ⟨0, by omega, rfl, rfl⟩
  case round =>
    obtain ⟨i, hi, rfl, hA⟩ := hrel
    obtain rfl := hA.out
    clear hA
    by_cases hlt : i < 4
    · have hlt' : (i : Int) < 4 := by omega
      obtain ⟨v, n, S, hc, hm, hn⟩ := H.out i hlt
      have HM : Hid (Mkd w S mark v n) := hm
      clear hm
      obtain ⟨go, hgo⟩ : ∃ go, go = gk := ⟨_, rfl⟩
      have hio : i + go = 4 := by omega
      clear hi
      by_cases h0 : n = 0
      · obtain ⟨ad, c, e⟩ := HM.out.form
        rw [e, h0] at hc
        clear e h0
        go_wp2_with fail
        go_loopg [6] 0 (fun gg v6 wr => v6 = .int .i64 0 ∧ Aside (w = wr))
        case atStart => exact ⟨rfl, rfl⟩
        case round =>
          obtain ⟨rfl, hA⟩ := hrel
          obtain rfl := hA.out
          clear hA
          go_wp2_with fail
          go_roundg (go - 1)
          case measure => omega
          case rel => exact ⟨i + 1, by omega, by congr 1, rfl⟩
      · have hf : ∃ g cap, v = .slice (some ⟨g, 0, none⟩) n cap := by
          rcases HM.out with ⟨_, h⟩ | ⟨g, cap, cur, rfl, _⟩
          · exact absurd h h0
          · exact ⟨g, cap, rfl⟩
        obtain ⟨g, cap, rfl⟩ := hf
        clear h0
        go_wp2_with fail
        go_loopg [6] n (fun gg v6 wr => ∃ j : Nat, j + gg = n ∧ v6 = .int .i64 (j : Int) ∧ Aside (w = wr))
        case atStart => exact ⟨0, by omega, rfl, rfl⟩
        case round =>
          obtain ⟨j, hj, rfl, hA⟩ := hrel
          obtain rfl := hA.out
          clear hA
          by_cases hjn : j < n
          · have hjn' : (j : Int) < (n : Int) := by omega
            obtain ⟨a1, a2, a3⟩ := HM.out.cells j hjn
            go_wp2_with fail
            go_roundg (gk - 1)
            case measure => omega
            case rel => exact ⟨j + 1, by omega, by congr 1, rfl⟩
          · have hjn' : (n : Int) ≤ (j : Int) := by omega
            go_wp2_with fail
            go_roundg (go - 1)
            case measure => omega
            case rel => exact ⟨i + 1, by omega, by congr 1, rfl⟩
    · have hlt' : (4 : Int) ≤ (i : Int) := by omega
      go_wp2_with fail
      go_ret
      exact ⟨rfl, rfl⟩

def grpV (G : Nat) : Value := .slice (some ⟨G, 0, none⟩) 4 4

/-- A group of four lists, marked; its blocks are told by 'owner'. -/
structure Fam (w : World) (owner : Nat → Nat) (k G : Nat) : Prop where
  g1 : owner G = 1
  blk : ∃ a b c d n, w.heap[G]? = some (.cells #[a, b, c, d] 23 (0, 0)) ∧ n ≤ 600 ∧ Mkd w (fun x => owner x = k + 2) (1000 + k : Int) a n ∧ Mkd w (fun x => owner x = k + 2) (1000 + k : Int) b (n + 1) ∧ Mkd w (fun x => owner x = k + 2) (1000 + k : Int) c (n + 2) ∧ Mkd w (fun x => owner x = k + 2) (1000 + k : Int) d (n + 64)
theorem Fam.kept {w w' : World} {owner owner' : Nat → Nat} {k G : Nat} (h : Fam w owner k G) (hw : ∀ b, b < w.heap.size → (owner b = 1 ∨ owner b = k + 2) → w'.heap[b]? = w.heap[b]?) (ho : ∀ b, b < w.heap.size → owner' b = owner b) : Fam w' owner' k G := by
  obtain ⟨a, b, c, d, n, hg, hn, m1, m2, m3, m4⟩ := h.blk
  have hlt : G < w.heap.size := (Array.getElem?_eq_some_iff.1 hg).1
  have conv : ∀ v j, Mkd w (fun x => owner x = k + 2) (1000 + k : Int) v j → Mkd w' (fun x => owner' x = k + 2) (1000 + k : Int) v j := fun v j m => by
    have m' : Mkd w (fun x => owner' x = k + 2 ∧ x < w.heap.size ∧ owner x = k + 2) (1000 + k : Int) v j := m.mono fun g hg hS => ⟨by rw [ho g hg]; exact hS, hg, hS⟩
    rcases m' with h | ⟨g, cap, cur, hv, hS, hgg, rest⟩
    · exact .inl h
    · exact .inr ⟨g, cap, cur, hv, hS.1, by rw [hw g hS.2.1 (.inr hS.2.2)]; exact hgg, rest⟩
  exact ⟨by rw [ho G hlt]; exact h.g1, a, b, c, d, n, by rw [hw G hlt (.inl h.g1)]; exact hg, hn, conv _ _ m1, conv _ _ m2, conv _ _ m3, conv _ _ m4⟩
theorem Fam.reads {w : World} {owner : Nat → Nat} {k G : Nat} (h : Fam w owner k G) : ∀ i, i < 4 → ∃ v n S, w.cell? ⟨G, i, none⟩ = some v ∧ Mkd w S (1000 + k : Int) v n ∧ n ≤ 10000 := by
  obtain ⟨a, b, c, d, n, hg, hn, m1, m2, m3, m4⟩ := h.blk
  intro i hi
  have hc : ∀ i, w.cell? ⟨G, i, none⟩ = #[a, b, c, d][i]? := fun i => by unfold World.cell?; rw [hg]; rfl
  match i, hi with
  | 0, _ => exact ⟨a, n, _, by rw [hc]; rfl, m1, by omega⟩
  | 1, _ => exact ⟨b, n + 1, _, by rw [hc]; rfl, m2, by omega⟩
  | 2, _ => exact ⟨c, n + 2, _, by rw [hc]; rfl, m3, by omega⟩
  | 3, _ => exact ⟨d, n + 64, _, by rw [hc]; rfl, m4, by omega⟩

structure Inv (W w : World) (gs : List Nat) (va : Value) (owner : Nat → Nat) : Prop where
  own : w.ownsRow W.heap.size 27 1 va gs.length (gs.map grpV)
  zero : ∀ r, va.ownBlock = some r → owner r = 0
  fam : ∀ k (hk : k < gs.length), Fam w owner k gs[k]
  below : Below W.heap.size W w

theorem Inv.keep {W w w' : World} {gs : List Nat} {va : Value} {owner owner' : Nat → Nat} (h : Inv W w gs va owner) (hb : Below w.heap.size w w') (ho : ∀ b, b < w.heap.size → owner' b = owner b) : Inv W w' gs va owner' :=
  ⟨ownsRow_below h.own hb, fun r hr => by rw [ho r (h.own.lt r hr).2]; exact h.zero r hr, fun k hk => (h.fam k hk).kept (fun b hlt _ => hb.block b hlt) ho, h.below.trans (hb.mono h.below.size)⟩

/-- One list more, written over by its owner, and its group put behind the others. -/
theorem Inv.push {W w w3 w4 : World} {gs : List Nat} {va va' : Value} {owner : Nat → Nat} (h : Inv W w gs va owner) {l : Value} {n G : Nat} {one two three : Value} {o : Obj} (hn : n ≤ 600)
    (hl : ∀ r, l.ownBlock = some r → owner r = gs.length + 2 ∧ W.heap.size ≤ r ∧ r < w.heap.size)
    (hG : w.heap.size < G) (hblk : w3.heap[G]? = some (.cells #[l, one, two, three] 23 (0, 0)))
    (m1 : Mkd w3 (fun b => SOwn l w.heap.size b ∧ b ≠ G) (1000 + gs.length : Int) l n) (m2 : Mkd w3 (fun b => SOwn l w.heap.size b ∧ b ≠ G) (1000 + gs.length : Int) one (n + 1)) (m3 : Mkd w3 (fun b => SOwn l w.heap.size b ∧ b ≠ G) (1000 + gs.length : Int) two (n + 2)) (m4 : Mkd w3 (fun b => SOwn l w.heap.size b ∧ b ≠ G) (1000 + gs.length : Int) three (n + 64))
    (hgr : w.grownBy w3 l.ownBlock) (hg4 : (w3.alloc o).grownBy w4 va.ownBlock) (hown : w4.ownsRow W.heap.size 27 1 va' (gs.length + 1) (gs.map grpV ++ [grpV G]))
    (hva : ∀ r, va'.ownBlock = some r → va.ownBlock = some r ∨ w3.heap.size ≤ r) :
    ∃ owner', Inv W w4 (gs ++ [G]) va' owner' ∧ ∀ b, b < w.heap.size → owner' b = owner b := by
  have hsz := hgr.size
  have hG3 : G < w3.heap.size := (Array.getElem?_eq_some_iff.1 hblk).1
  have hvl : ∀ r, va.ownBlock = some r → r < w.heap.size ∧ W.heap.size ≤ r := fun r hr => ⟨(h.own.lt r hr).2, (h.own.lt r hr).1⟩
  have heap4 : ∀ b, b < w3.heap.size → some b ≠ va.ownBlock → w4.heap[b]? = w3.heap[b]? := fun b hb hne => by
    rw [hg4.block b (by simp; omega) hne, Below.heap_alloc _ _ _ hb]
  refine ⟨fun b => if b < w.heap.size then owner b else if b < w3.heap.size then (if b = G then 1 else gs.length + 2) else 0, ⟨?_, ?_, ?_, ?_⟩, fun b hb => by (try dsimp only); rw [if_pos hb]⟩
  · simpa using hown
  · intro r hr
    try dsimp only
    rcases hva r hr with h1 | h1
    · rw [if_pos (hvl r h1).1]; exact h.zero r h1
    · rw [if_neg (by omega), if_neg (by omega)]
  · intro k hk
    by_cases hk2 : k < gs.length
    · have e : (gs ++ [G])[k] = gs[k] := List.getElem_append_left hk2
      rw [e]
      refine (h.fam k hk2).kept (fun b hb hob => ?_) (fun b hb => by (try dsimp only); rw [if_pos hb])
      have n1 : some b ≠ va.ownBlock := fun e => by have := h.zero b e.symm; omega
      have n2 : some b ≠ l.ownBlock := fun e => by have := (hl b e.symm).1; omega
      rw [heap4 b (by omega) n1, hgr.block b hb n2]
    · have hke : k = gs.length := by simp at hk; omega
      subst hke
      have e : (gs ++ [G])[gs.length] = G := by simp
      rw [e]
      have conv : ∀ v j, Mkd w3 (fun b => SOwn l w.heap.size b ∧ b ≠ G) (1000 + gs.length : Int) v j → Mkd w4 (fun x => (if x < w.heap.size then owner x else if x < w3.heap.size then (if x = G then 1 else gs.length + 2) else 0) = gs.length + 2) (1000 + gs.length : Int) v j := fun v j m => by
        rcases m with h' | ⟨g, cap, cur, hv, hS, hgg, rest⟩
        · exact .inl h'
        · have hg3 : g < w3.heap.size := (Array.getElem?_eq_some_iff.1 hgg).1
          have hne : some g ≠ va.ownBlock := fun e => by
            rcases hS.1 with h1 | h1
            · have := (hl g h1.symm).1; have := h.zero g e.symm; omega
            · have := (hvl g e.symm).1; omega
          refine .inr ⟨g, cap, cur, hv, ?_, by rw [heap4 g hg3 hne]; exact hgg, rest⟩
          try dsimp only
          rcases hS.1 with h1 | h1
          · obtain ⟨p1, _, p3⟩ := hl g h1.symm
            rw [if_pos p3]; exact p1
          · rw [if_neg (by omega), if_pos hg3, if_neg hS.2]
      refine ⟨by (try dsimp only); rw [if_neg (by omega), if_pos hG3, if_pos rfl], l, one, two, three, n, ?_, hn, conv _ _ m1, conv _ _ m2, conv _ _ m3, conv _ _ m4⟩
      rw [heap4 G hG3 (fun e => by have := (hvl G e.symm).1; omega)]; exact hblk
  · have b3 : Below W.heap.size W w3 := h.below.grown hgr h.below.size (fun r hr => (hl r hr).2.1)
    exact (b3.alloc (by have := h.below.size; omega) o).grown hg4 (by have := h.below.size; simp; omega) (fun r hr => (hvl r hr).2)
end Go.Proofs.Ytlliliddljkbfaa
