/-
  The law's 'own': a list that came out, written over with a mark, and three that it begins.
-/
import Derived.Test.YtlliliddljkbfaaMark
namespace Go.Proofs.Ytlliliddljkbfaa
open Go.RowKit Sp
set_option maxRecDepth 100000

/-- The owner's token lies in block X. -/
def XB (w : World) (X : Nat) (mark : Int) : Prop := w.heap[X]? = some (.cells #[.int .i64 mark, .string ⟨#[]⟩, .string ⟨#[]⟩] 35 (0, 0))
theorem XB.c {w : World} {X : Nat} {mark : Int} (h : XB w X mark) : w.cell? ⟨X, 0, none⟩ = some (.int .i64 mark) ∧ w.cell? ⟨X, 1, none⟩ = some (.string ⟨#[]⟩) ∧ w.cell? ⟨X, 2, none⟩ = some (.string ⟨#[]⟩) ∧ X < w.heap.size := by
  refine ⟨?_, ?_, ?_, (Array.getElem?_eq_some_iff.1 h).1⟩ <;> (unfold World.cell?; rw [h]; rfl)
theorem XB.grown {w w' : World} {X : Nat} {mark : Int} {row : Option Nat} (h : XB w X mark) (hg : w.grownBy w' row) (hr : some X ≠ row) : XB w' X mark := by
  unfold XB; rw [hg.block X h.c.2.2.2 hr]; exact h
theorem XB.alloc {w : World} {X : Nat} {mark : Int} (h : XB w X mark) (o : Obj) : XB (w.alloc o) X mark := by
  unfold XB; rw [Below.heap_alloc _ _ _ h.c.2.2.2]; exact h
theorem grownBy_trans {a b c : World} {row row' : Option Nat} (h : a.grownBy b row) (k : b.grownBy c row') (hr : ∀ j, j < a.heap.size → some j = row' → some j = row) : a.grownBy c row :=
  ⟨k.os.trans h.os, k.tape.trans h.tape, k.output.trans h.output, Nat.le_trans h.size k.size, fun j hj hne => (k.block j (Nat.lt_of_lt_of_le hj h.size) (fun e => hne (hr j hj e))).trans (h.block j hj hne)⟩
theorem grownBy_alloc (a b : World) (row : Option Nat) (h : a.grownBy b row) (o : Obj) : a.grownBy (b.alloc o) row :=
  ⟨h.os, h.tape, h.output, by have := h.size; simp; omega, fun j hj hne => by rw [Below.heap_alloc _ _ _ (Nat.lt_of_lt_of_le hj h.size)]; exact h.block j hj hne⟩
theorem Mkd.alloc {w : World} {S : Nat → Prop} {mark : Int} {v : Value} {n : Nat} (h : Mkd w S mark v n) (o : Obj) : Mkd (w.alloc o) S mark v n := h.kept fun _ hg _ => Below.heap_alloc _ _ _ hg
/-- The cells of a block that has just been laid. -/
theorem new_cells (w : World) (xs : List Value) (e : TypeId) : ∀ j u, xs[j]? = some u → (w.alloc (.cells xs.toArray e)).cell? ((⟨w.heap.size, 0, none⟩ : Addr).add j) = some u := by
  intro j u hu
  rw [Addr.add_lit, Nat.zero_add, World.cell?_alloc_mark]
  simpa using hu

theorem set_marks (mark : Int) : ∀ (j : Nat) (t : Tok) (r : List Tok), (((marks mark j ++ tokCells (t :: r)).set (j * 3) (.int .i64 mark)).set (j * 3 + 1) (.string ⟨#[]⟩)).set (j * 3 + 2) (.string ⟨#[]⟩) = marks mark (j + 1) ++ tokCells r := by
  intro j t r
  have hl := marks_len mark j
  rw [List.set_append_right _ _ (by omega), hl, Nat.sub_self, List.set_append_right _ _ (by omega), hl, show j * 3 + 1 - j * 3 = 1 from by omega, List.set_append_right _ _ (by omega), hl, show j * 3 + 2 - j * 3 = 2 from by omega, marks_add, marks_one]
  simp [tokCells]

/-- The blocks that a list and what it begins may lie in. -/
def SOwn (l : Value) (X : Nat) (b : Nat) : Prop := some b = l.ownBlock ∨ X < b

def OwnPost (w : World) (l : Value) (n : Nat) (mark : Int) (e : Ending) (w' : World) : Prop :=
  ∃ G one two three, e = .returned (.slice (some ⟨G, 0, none⟩) 4 4) ∧ w.heap.size < G ∧ w'.heap[G]? = some (.cells #[l, one, two, three] 23 (0, 0)) ∧
    Mkd w' (fun b => SOwn l w.heap.size b ∧ b ≠ G) mark l n ∧ Mkd w' (fun b => SOwn l w.heap.size b ∧ b ≠ G) mark one (n + 1) ∧ Mkd w' (fun b => SOwn l w.heap.size b ∧ b ≠ G) mark two (n + 2) ∧ Mkd w' (fun b => SOwn l w.heap.size b ∧ b ≠ G) mark three (n + 64) ∧ w.grownBy w' l.ownBlock

theorem Mkd.form {w : World} {S : Nat → Prop} {mark : Int} {v : Value} {n : Nat} (h : Mkd w S mark v n) : ∃ ad c, v = .slice ad n c := by
  rcases h with ⟨rfl, rfl⟩ | ⟨g, cap, cur, rfl, _⟩
  · exact ⟨none, 0, rfl⟩
  · exact ⟨_, _, rfl⟩
/-- What stands behind the first loop: the list and what it has begun so far. -/
structure Begun (w : World) (L : Value) (mark : Int) (wr : World) : Prop where
  x : XB wr w.heap.size mark
  gr : w.grownBy wr L.ownBlock
theorem Begun.lt {w wr : World} {L : Value} {mark : Int} (h : Begun w L mark wr) : w.heap.size < wr.heap.size := h.x.c.2.2.2
/-- A temporary block, then an append to a list of the family. -/
theorem Begun.step {w wr w2 : World} {L u : Value} {mark : Int} {n : Nat} (h : Begun w L mark wr) (hlo : ∀ r, L.ownBlock = some r → r < w.heap.size) (o : Obj) (hu : Mkd wr (SOwn L w.heap.size) mark u n) (hg : (wr.alloc o).grownBy w2 u.ownBlock) : Begun w L mark w2 := by
  have hl := h.lt
  refine ⟨(h.x.alloc o).grown hg (fun e => ?_), grownBy_trans (grownBy_alloc _ _ _ h.gr o) hg (fun j hj e => ?_)⟩
  · rcases (hu.own _ e.symm).1 with h1 | h1
    · have := hlo _ h1.symm; omega
    · omega
  · rcases (hu.own _ e.symm).1 with h1 | h1
    · exact h1
    · omega

set_option maxRecDepth 100000 in
set_option maxHeartbeats 4000000 in
theorem own_none (ad : Option Addr) (cl base : Nat) (mark : Int) (w : World) (h : w.ownsRow base 35 3 (.slice ad 0 cl) 0 []) :
    Calls Try.prog 5 #[.slice ad 0 cl, .int .i64 mark] w (OwnPost w (.slice ad 0 cl) 0 mark) := by
  have HLO : Hid (∀ r, Value.ownBlock (.slice ad 0 cl) = some r → r < w.heap.size) := fun r hr => (h.lt r hr).2
  have M0 : Mkd w (SOwn (.slice ad 0 cl) w.heap.size) mark (.slice ad 0 cl) 0 := by
    rcases h.2 with h | ⟨g, cap, cur, hv, hb, hg, h1, h2, h3, h4⟩
    · exact .inl h
    · exact .inr ⟨g, cap, cur, hv, .inl (by rw [hv]; rfl), hg, h1, h2, h3, by simp [marks, tokCells]⟩
  have ML0 : Hid (Mkd (w.alloc (.cells #[.int .i64 mark, .string ⟨#[]⟩, .string ⟨#[]⟩] 35 (0, 0))) (SOwn (.slice ad 0 cl) w.heap.size) mark (.slice ad 0 cl) 0) := M0.alloc _
  have BG0 : Hid (Begun w (.slice ad 0 cl) mark (w.alloc (.cells #[.int .i64 mark, .string ⟨#[]⟩, .string ⟨#[]⟩] 35 (0, 0)))) := ⟨heap_alloc_new w _, World.grownBy_alloc w _ _⟩
  clear h M0
  unfold OwnPost
  go_enter Try.func5, Try.ntmps5
  go_wp2_with fail
  go_loopg [6] 0 (fun g v6 wx => v6 = .int .i64 0 ∧ Aside (Mkd wx (SOwn (.slice ad 0 cl) w.heap.size) mark (.slice ad 0 cl) 0 ∧ Begun w (.slice ad 0 cl) mark wx))
  case atStart => exact ⟨rfl, ML0.out, BG0.out⟩
  case round =>
    obtain ⟨rfl, hA⟩ := hrel
    have ML : Hid (Mkd wr (SOwn (.slice ad 0 cl) w.heap.size) mark (.slice ad 0 cl) 0) := hA.out.1
    have BG : Hid (Begun w (.slice ad 0 cl) mark wr) := hA.out.2
    clear hA ML0 BG0
    have hlt0 := BG.out.lt
    obtain ⟨x0, x1, x2, xl⟩ := BG.out.x.c
    go_wp2_with (at_builtin; refine wpList_append_marked rfl _ _ rfl (SOwn (Value.slice ad 0 cl) w.heap.size) mark (Value.slice ad 0 cl) 0 1 rfl ⟨wr.heap.size, 0, none⟩ rfl (ML.out.alloc _) (by omega) (by omega) ?_ ?_ ?_)
    · exact new_cells _ (marks mark 1) _
    · exact .inr (by simp; omega)
    intro v1 w2 hm1 hk1 hg1
    have BG2 : Hid (Begun w (Value.slice ad 0 cl) mark w2) := BG.out.step HLO.out _ ML.out hg1
    have ML2 : Hid (Mkd w2 (SOwn (Value.slice ad 0 cl) w.heap.size) mark (Value.slice ad 0 cl) 0) := hk1 _ _ (ML.out.alloc _)
    have M1 : Hid (Mkd w2 (SOwn (Value.slice ad 0 cl) w.heap.size) mark v1 (0 + 1)) := hm1
    clear hm1 hk1 hg1 x0 x1 x2 xl
    have hlt2 := BG2.out.lt
    obtain ⟨x0, x1, x2, xl⟩ := BG2.out.x.c
    go_wp2_with (at_builtin; refine wpList_append_marked rfl _ _ rfl (SOwn (Value.slice ad 0 cl) w.heap.size) mark (Value.slice ad 0 cl) 0 2 rfl ⟨w2.heap.size, 0, none⟩ rfl (ML2.out.alloc _) (by omega) (by omega) ?_ ?_ ?_)
    · exact new_cells _ (marks mark 2) _
    · exact .inr (by simp; omega)
    intro v2 w3 hm2 hk2 hg2
    have BG3 : Hid (Begun w (Value.slice ad 0 cl) mark w3) := BG2.out.step HLO.out _ ML2.out hg2
    have ML3 : Hid (Mkd w3 (SOwn (Value.slice ad 0 cl) w.heap.size) mark (Value.slice ad 0 cl) 0) := hk2 _ _ (ML2.out.alloc _)
    have M31 : Hid (Mkd w3 (SOwn (Value.slice ad 0 cl) w.heap.size) mark v1 (0 + 1)) := hk2 _ _ (M1.out.alloc _)
    have M32 : Hid (Mkd w3 (SOwn (Value.slice ad 0 cl) w.heap.size) mark v2 (0 + 2)) := hm2
    clear hm2 hk2 hg2 x0 x1 x2 xl ML2 M1 BG2 BG ML
    go_wp2_with fail
    go_loopg [9, 10] 64 (fun gg v9 v10 wx => ∃ (v : Value) (j : Nat), v = v9 ∧ v10 = .int .i64 (j : Int) ∧ j + gg = 64 ∧ Aside (Mkd wx (SOwn (Value.slice ad 0 cl) w.heap.size) mark v (0 + j) ∧ Mkd wx (SOwn (Value.slice ad 0 cl) w.heap.size) mark (Value.slice ad 0 cl) 0 ∧ Mkd wx (SOwn (Value.slice ad 0 cl) w.heap.size) mark v1 (0 + 1) ∧ Mkd wx (SOwn (Value.slice ad 0 cl) w.heap.size) mark v2 (0 + 2) ∧ Begun w (Value.slice ad 0 cl) mark wx))
    case atStart => exact ⟨_, 0, rfl, rfl, by omega, ML3.out, ML3.out, M31.out, M32.out, BG3.out⟩
    case round =>
      obtain ⟨v, j, rfl, rfl, hj, hA⟩ := hrel
      have N0 : Hid (Mkd wr (SOwn (Value.slice ad 0 cl) w.heap.size) mark v (0 + j)) := hA.out.1
      have NL : Hid (Mkd wr (SOwn (Value.slice ad 0 cl) w.heap.size) mark (Value.slice ad 0 cl) 0) := hA.out.2.1
      have N1 : Hid (Mkd wr (SOwn (Value.slice ad 0 cl) w.heap.size) mark v1 (0 + 1)) := hA.out.2.2.1
      have N2 : Hid (Mkd wr (SOwn (Value.slice ad 0 cl) w.heap.size) mark v2 (0 + 2)) := hA.out.2.2.2.1
      have NB : Hid (Begun w (Value.slice ad 0 cl) mark wr) := hA.out.2.2.2.2
      clear hA ML3 M31 M32 BG3
      have hltr := NB.out.lt
      by_cases h64 : j < 64
      · have h64' : (j : Int) < 64 := by omega
        obtain ⟨x0, x1, x2, xl⟩ := NB.out.x.c
        go_wp2_with (at_builtin; refine wpList_append_marked rfl _ _ rfl (SOwn (Value.slice ad 0 cl) w.heap.size) mark v (0 + j) 1 rfl ⟨wr.heap.size, 0, none⟩ rfl (N0.out.alloc _) (by omega) (by omega) ?_ ?_ ?_)
        · exact new_cells _ (marks mark 1) _
        · exact .inr (by simp; omega)
        intro v4 w4 hm4 hk4 hg4
        have NB4 : Hid (Begun w (Value.slice ad 0 cl) mark w4) := NB.out.step HLO.out _ N0.out hg4
        have N4 : Hid (Mkd w4 (SOwn (Value.slice ad 0 cl) w.heap.size) mark v4 (0 + j + 1)) := by first | exact hm4 | (show Mkd _ _ _ _ _; simpa using hm4)
        have NL4 : Hid (Mkd w4 (SOwn (Value.slice ad 0 cl) w.heap.size) mark (Value.slice ad 0 cl) 0) := hk4 _ _ (NL.out.alloc _)
        have N14 : Hid (Mkd w4 (SOwn (Value.slice ad 0 cl) w.heap.size) mark v1 (0 + 1)) := hk4 _ _ (N1.out.alloc _)
        have N24 : Hid (Mkd w4 (SOwn (Value.slice ad 0 cl) w.heap.size) mark v2 (0 + 2)) := hk4 _ _ (N2.out.alloc _)
        clear hm4 hk4 hg4 x0 x1 x2 xl
        go_wp2_with fail
        go_roundg (gk - 1)
        case measure => omega
        case rel => exact ⟨v4, j + 1, rfl, by congr 1, by omega, N4.out, NL4.out, N14.out, N24.out, NB4.out⟩
      · have h64' : (64 : Int) ≤ (j : Int) := by omega
        have HJ : Hid (j = 64) := by show j = 64; omega
        obtain ⟨q1, d1, rfl⟩ := N1.out.form
        obtain ⟨q2, d2, rfl⟩ := N2.out.form
        obtain ⟨q3, d3, rfl⟩ := N0.out.form
        go_wp2_with fail
        go_ret
        have hG : ∀ b, b < wr.heap.size → SOwn (Value.slice ad 0 cl) w.heap.size b → SOwn (Value.slice ad 0 cl) w.heap.size b ∧ b ≠ wr.heap.size := fun b hb hS => ⟨hS, by omega⟩
        have N0' : Mkd wr (SOwn (Value.slice ad 0 cl) w.heap.size) mark (.slice q3 j d3) (0 + 64) := by
          have h := N0.out
          rw [Nat.zero_add] at h
          rw [show 0 + 64 = j from by rw [HJ.out]]; exact h
        exact ⟨wr.heap.size, _, _, _, rfl, hltr, heap_alloc_new wr _, (NL.out.mono hG).alloc _, (N1.out.mono hG).alloc _, (N2.out.mono hG).alloc _, (N0'.mono hG).alloc _, grownBy_alloc _ _ _ NB.out.gr _⟩

set_option maxRecDepth 100000 in
set_option maxHeartbeats 4000000 in
theorem own_some (g n cap base : Nat) (ts : List Tok) (mark : Int) (w : World) (h : w.ownsRow base 35 3 (.slice (some ⟨g, 0, none⟩) n cap) n (tokCells ts)) (hts : ts.length = n) (hn : n ≤ 600) :
    Calls Try.prog 5 #[.slice (some ⟨g, 0, none⟩) n cap, .int .i64 mark] w (OwnPost w (.slice (some ⟨g, 0, none⟩) n cap) n mark) := by
  have hglt : g < w.heap.size := (h.lt g rfl).2
  have HLO : Hid (∀ r, Value.ownBlock (.slice (some ⟨g, 0, none⟩) n cap) = some r → r < w.heap.size) := fun r hr => (h.lt r hr).2
  have H0 : Hid ((w.alloc (.cells #[.int .i64 mark, .string ⟨#[]⟩, .string ⟨#[]⟩] 35 (0, 0))).ownsRow base 35 3 (.slice (some ⟨g, 0, none⟩) n cap) n (tokCells ts)) := h.alloc _
  have BG0 : Hid (Begun w (.slice (some ⟨g, 0, none⟩) n cap) mark (w.alloc (.cells #[.int .i64 mark, .string ⟨#[]⟩, .string ⟨#[]⟩] 35 (0, 0)))) := ⟨heap_alloc_new w _, World.grownBy_alloc w _ _⟩
  clear h
  have HTS : Hid (ts.length = n) := hts
  clear hts
  unfold OwnPost
  go_enter Try.func5, Try.ntmps5
  go_wp2_with fail
  go_loopg [6] n (fun gg v6 wx => ∃ j : Nat, j + gg = n ∧ v6 = .int .i64 (j : Int) ∧ Aside (wx.ownsRow base 35 3 (.slice (some ⟨g, 0, none⟩) n cap) n (marks mark j ++ tokCells (ts.drop j)) ∧ Begun w (.slice (some ⟨g, 0, none⟩) n cap) mark wx))
  case atStart => exact ⟨0, by omega, rfl, H0.out, BG0.out⟩
  case round =>
    obtain ⟨j, hj, rfl, hA⟩ := hrel
    have HO : Hid (wr.ownsRow base 35 3 (.slice (some ⟨g, 0, none⟩) n cap) n (marks mark j ++ tokCells (ts.drop j))) := hA.out.1
    have BG : Hid (Begun w (.slice (some ⟨g, 0, none⟩) n cap) mark wr) := hA.out.2
    clear hA H0 BG0
    by_cases hlt : j < n
    · have hlt' : (j : Int) < (n : Int) := by omega
      obtain ⟨x0, x1, x2, xl⟩ := BG.out.x.c
      have hxs : (marks mark j ++ tokCells (ts.drop j)).length = n * 3 := HO.out.1
      have c0 : ∃ u, wr.cell? ⟨g, j * 3, none⟩ = some u := ⟨_, by rw [HO.out.cellAt (j * 3) (by omega), List.getElem?_eq_getElem (by omega)]⟩
      have c1 : ∃ u, wr.cell? ⟨g, j * 3 + 1, none⟩ = some u := ⟨_, by rw [HO.out.cellAt (j * 3 + 1) (by omega), List.getElem?_eq_getElem (by omega)]⟩
      have c2 : ∃ u, wr.cell? ⟨g, j * 3 + 2, none⟩ = some u := ⟨_, by rw [HO.out.cellAt (j * 3 + 2) (by omega), List.getElem?_eq_getElem (by omega)]⟩
      obtain ⟨u0, c0⟩ := c0
      obtain ⟨u1, c1⟩ := c1
      obtain ⟨u2, c2⟩ := c2
      have f0 := HO.out.frozenAt (j * 3)
      have f1 := HO.out.frozenAt (j * 3 + 1)
      have f2 := HO.out.frozenAt (j * 3 + 2)
      have hgl : g < wr.heap.size := (HO.out.lt g rfl).2
      clear hxs
      go_wp2_with fail
      go_roundg (gk - 1)
      case measure => omega
      case rel =>
        obtain ⟨s1, g1⟩ := HO.out.stored (j * 3) (.int .i64 mark)
        obtain ⟨s2, g2⟩ := s1.stored (j * 3 + 1) (.string ⟨#[]⟩)
        obtain ⟨s3, g3⟩ := s2.stored (j * 3 + 2) (.string ⟨#[]⟩)
        have hne : some w.heap.size ≠ some g := by intro e; injection e; omega
        obtain ⟨t, r, hd⟩ : ∃ t r, ts.drop j = t :: r := by
          have : (ts.drop j).length ≠ 0 := by have := HTS.out; simp; omega
          cases hx : ts.drop j with
          | nil => rw [hx] at this; simp at this
          | cons t r => exact ⟨t, r, rfl⟩
        have hd2 : ts.drop (j + 1) = r := by rw [← List.drop_drop, hd]; rfl
        refine ⟨j + 1, by omega, by congr 1, ?_, ?_⟩
        · rw [hd2, ← set_marks mark j t r, ← hd]; exact s3
        · exact ⟨((BG.out.x.grown g1 hne).grown g2 hne).grown g3 hne, grownBy_trans (grownBy_trans (grownBy_trans BG.out.gr g1 (fun _ _ e => e)) g2 (fun _ _ e => e)) g3 (fun _ _ e => e)⟩
    · have hlt' : (n : Int) ≤ (j : Int) := by omega
      have ML : Hid (Mkd wr (SOwn (.slice (some ⟨g, 0, none⟩) n cap) w.heap.size) mark (.slice (some ⟨g, 0, none⟩) n cap) n) := by
        have e : j = n := by omega
        have h := HO.out
        rw [e, List.drop_eq_nil_of_le (by rw [HTS.out]; exact Nat.le_refl _)] at h
        simp only [tokCells, List.append_nil] at h
        rcases h.2 with h | ⟨g', cap', cur, hv, hb, hg, h1, h2, h3, h4⟩
        · exact .inl h
        · exact .inr ⟨g', cap', cur, hv, .inl (by rw [hv]; rfl), hg, h1, h2, h3, h4⟩
      have hlt0 := BG.out.lt
      obtain ⟨x0, x1, x2, xl⟩ := BG.out.x.c
      go_wp2_with (at_builtin; refine wpList_append_marked rfl _ _ rfl (SOwn (Value.slice (some ⟨g, 0, none⟩) n cap) w.heap.size) mark (Value.slice (some ⟨g, 0, none⟩) n cap) n 1 rfl ⟨wr.heap.size, 0, none⟩ rfl (ML.out.alloc _) (by omega) (by omega) ?_ ?_ ?_)
      · exact new_cells _ (marks mark 1) _
      · exact .inr (by simp; omega)
      intro v1 w2 hm1 hk1 hg1
      have BG2 : Hid (Begun w (Value.slice (some ⟨g, 0, none⟩) n cap) mark w2) := BG.out.step HLO.out _ ML.out hg1
      have ML2 : Hid (Mkd w2 (SOwn (Value.slice (some ⟨g, 0, none⟩) n cap) w.heap.size) mark (Value.slice (some ⟨g, 0, none⟩) n cap) n) := hk1 _ _ (ML.out.alloc _)
      have M1 : Hid (Mkd w2 (SOwn (Value.slice (some ⟨g, 0, none⟩) n cap) w.heap.size) mark v1 (n + 1)) := hm1
      clear hm1 hk1 hg1 x0 x1 x2 xl
      have hlt2 := BG2.out.lt
      obtain ⟨x0, x1, x2, xl⟩ := BG2.out.x.c
      go_wp2_with (at_builtin; refine wpList_append_marked rfl _ _ rfl (SOwn (Value.slice (some ⟨g, 0, none⟩) n cap) w.heap.size) mark (Value.slice (some ⟨g, 0, none⟩) n cap) n 2 rfl ⟨w2.heap.size, 0, none⟩ rfl (ML2.out.alloc _) (by omega) (by omega) ?_ ?_ ?_)
      · exact new_cells _ (marks mark 2) _
      · exact .inr (by simp; omega)
      intro v2 w3 hm2 hk2 hg2
      have BG3 : Hid (Begun w (Value.slice (some ⟨g, 0, none⟩) n cap) mark w3) := BG2.out.step HLO.out _ ML2.out hg2
      have ML3 : Hid (Mkd w3 (SOwn (Value.slice (some ⟨g, 0, none⟩) n cap) w.heap.size) mark (Value.slice (some ⟨g, 0, none⟩) n cap) n) := hk2 _ _ (ML2.out.alloc _)
      have M31 : Hid (Mkd w3 (SOwn (Value.slice (some ⟨g, 0, none⟩) n cap) w.heap.size) mark v1 (n + 1)) := hk2 _ _ (M1.out.alloc _)
      have M32 : Hid (Mkd w3 (SOwn (Value.slice (some ⟨g, 0, none⟩) n cap) w.heap.size) mark v2 (n + 2)) := hm2
      clear hm2 hk2 hg2 x0 x1 x2 xl ML2 M1 BG2 BG ML
      go_wp2_with fail
      go_loopg [9, 10] 64 (fun gg v9 v10 wx => ∃ (v : Value) (j : Nat), v = v9 ∧ v10 = .int .i64 (j : Int) ∧ j + gg = 64 ∧ Aside (Mkd wx (SOwn (Value.slice (some ⟨g, 0, none⟩) n cap) w.heap.size) mark v (n + j) ∧ Mkd wx (SOwn (Value.slice (some ⟨g, 0, none⟩) n cap) w.heap.size) mark (Value.slice (some ⟨g, 0, none⟩) n cap) n ∧ Mkd wx (SOwn (Value.slice (some ⟨g, 0, none⟩) n cap) w.heap.size) mark v1 (n + 1) ∧ Mkd wx (SOwn (Value.slice (some ⟨g, 0, none⟩) n cap) w.heap.size) mark v2 (n + 2) ∧ Begun w (Value.slice (some ⟨g, 0, none⟩) n cap) mark wx))
      case atStart => exact ⟨_, 0, rfl, rfl, by omega, ML3.out, ML3.out, M31.out, M32.out, BG3.out⟩
      case round =>
        obtain ⟨v, j, rfl, rfl, hj, hA⟩ := hrel
        have N0 : Hid (Mkd wr (SOwn (Value.slice (some ⟨g, 0, none⟩) n cap) w.heap.size) mark v (n + j)) := hA.out.1
        have NL : Hid (Mkd wr (SOwn (Value.slice (some ⟨g, 0, none⟩) n cap) w.heap.size) mark (Value.slice (some ⟨g, 0, none⟩) n cap) n) := hA.out.2.1
        have N1 : Hid (Mkd wr (SOwn (Value.slice (some ⟨g, 0, none⟩) n cap) w.heap.size) mark v1 (n + 1)) := hA.out.2.2.1
        have N2 : Hid (Mkd wr (SOwn (Value.slice (some ⟨g, 0, none⟩) n cap) w.heap.size) mark v2 (n + 2)) := hA.out.2.2.2.1
        have NB : Hid (Begun w (Value.slice (some ⟨g, 0, none⟩) n cap) mark wr) := hA.out.2.2.2.2
        clear hA ML3 M31 M32 BG3
        have hltr := NB.out.lt
        by_cases h64 : j < 64
        · have h64' : (j : Int) < 64 := by omega
          obtain ⟨x0, x1, x2, xl⟩ := NB.out.x.c
          go_wp2_with (at_builtin; refine wpList_append_marked rfl _ _ rfl (SOwn (Value.slice (some ⟨g, 0, none⟩) n cap) w.heap.size) mark v (n + j) 1 rfl ⟨wr.heap.size, 0, none⟩ rfl (N0.out.alloc _) (by omega) (by omega) ?_ ?_ ?_)
          · exact new_cells _ (marks mark 1) _
          · exact .inr (by simp; omega)
          intro v4 w4 hm4 hk4 hg4
          have NB4 : Hid (Begun w (Value.slice (some ⟨g, 0, none⟩) n cap) mark w4) := NB.out.step HLO.out _ N0.out hg4
          have N4 : Hid (Mkd w4 (SOwn (Value.slice (some ⟨g, 0, none⟩) n cap) w.heap.size) mark v4 (n + j + 1)) := by first | exact hm4 | (show Mkd _ _ _ _ _; simpa using hm4)
          have NL4 : Hid (Mkd w4 (SOwn (Value.slice (some ⟨g, 0, none⟩) n cap) w.heap.size) mark (Value.slice (some ⟨g, 0, none⟩) n cap) n) := hk4 _ _ (NL.out.alloc _)
          have N14 : Hid (Mkd w4 (SOwn (Value.slice (some ⟨g, 0, none⟩) n cap) w.heap.size) mark v1 (n + 1)) := hk4 _ _ (N1.out.alloc _)
          have N24 : Hid (Mkd w4 (SOwn (Value.slice (some ⟨g, 0, none⟩) n cap) w.heap.size) mark v2 (n + 2)) := hk4 _ _ (N2.out.alloc _)
          clear hm4 hk4 hg4 x0 x1 x2 xl
          go_wp2_with fail
          go_roundg (gk - 1)
          case measure => omega
          case rel => exact ⟨v4, j + 1, rfl, by congr 1, by omega, N4.out, NL4.out, N14.out, N24.out, NB4.out⟩
        · have h64' : (64 : Int) ≤ (j : Int) := by omega
          have HJ : Hid (j = 64) := by show j = 64; omega
          obtain ⟨q1, d1, rfl⟩ := N1.out.form
          obtain ⟨q2, d2, rfl⟩ := N2.out.form
          obtain ⟨q3, d3, rfl⟩ := N0.out.form
          go_wp2_with fail
          go_ret
          have hG : ∀ b, b < wr.heap.size → SOwn (Value.slice (some ⟨g, 0, none⟩) n cap) w.heap.size b → SOwn (Value.slice (some ⟨g, 0, none⟩) n cap) w.heap.size b ∧ b ≠ wr.heap.size := fun b hb hS => ⟨hS, by omega⟩
          have N0' : Mkd wr (SOwn (Value.slice (some ⟨g, 0, none⟩) n cap) w.heap.size) mark (.slice q3 (n + j) d3) (n + 64) := by
            have h := N0.out
            rw [show n + 64 = n + j from by rw [HJ.out]]; exact h
          exact ⟨wr.heap.size, _, _, _, rfl, hltr, heap_alloc_new wr _, (NL.out.mono hG).alloc _, (N1.out.mono hG).alloc _, (N2.out.mono hG).alloc _, (N0'.mono hG).alloc _, grownBy_alloc _ _ _ NB.out.gr _⟩

theorem own_c (l : Value) (n base : Nat) (ts : List Tok) (mark : Int) (w : World) (h : w.ownsRow base 35 3 l n (tokCells ts)) (hts : ts.length = n) (hn : n ≤ 600) :
    Calls Try.prog 5 #[l, .int .i64 mark] w (OwnPost w l n mark) := by
  rcases h.2 with ⟨rfl, h0⟩ | ⟨g, cap, cur, rfl, _⟩
  · subst h0
    have e : ts = [] := List.eq_nil_of_length_eq_zero hts
    subst e
    exact own_none none 0 base mark w h
  · exact own_some g n cap base ts mark w h hts hn
end Go.Proofs.Ytlliliddljkbfaa
