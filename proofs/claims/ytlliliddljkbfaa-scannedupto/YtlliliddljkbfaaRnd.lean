/-
  What stands behind each round of the law's loop: the lists that came out, their groups, and the row of groups.
-/
import Derived.Test.YtlliliddljkbfaaStill
import Derived.Maps.AppendAt
namespace Go.Proofs.Ytlliliddljkbfaa
open Go.RowKit Sp
set_option maxRecDepth 100000

theorem ownsRow_grown {w w' : World} {base : Nat} {e : TypeId} {size : Nat} {v : Value} {n : Nat} {xs : List Value} {row : Option Nat} (h : w.ownsRow base e size v n xs) (hg : w.grownBy w' row) (hr : ∀ r, v.ownBlock = some r → row ≠ some r) : w'.ownsRow base e size v n xs := by
  refine ⟨h.1, ?_⟩
  rcases h.2 with hn | ⟨g, cap, cur, rfl, hbg, hgg, rest⟩
  · exact .inl hn
  · exact .inr ⟨g, cap, cur, rfl, hbg, by rw [hg.block g (Array.getElem?_eq_some_iff.1 hgg).1 (fun e => hr g rfl e.symm)]; exact hgg, rest⟩
theorem ownsRow_form {w : World} {base : Nat} {e : TypeId} {size : Nat} {v : Value} {n : Nat} {xs : List Value} (h : w.ownsRow base e size v n xs) : ∃ ad cap, v = .slice ad n cap := by
  rcases h.2 with ⟨rfl, rfl⟩ | ⟨g, cap, cur, rfl, _⟩
  · exact ⟨none, 0, rfl⟩
  · exact ⟨_, cap, rfl⟩
theorem ownsRow_low {w : World} {base base' : Nat} {e : TypeId} {size : Nat} {v : Value} {n : Nat} {xs : List Value} (h : w.ownsRow base e size v n xs) (hb : base' ≤ base) : w.ownsRow base' e size v n xs := by
  refine ⟨h.1, ?_⟩
  rcases h.2 with hn | ⟨g, cap, cur, rfl, hbg, rest⟩
  · exact .inl hn
  · exact .inr ⟨g, cap, cur, rfl, Nat.le_trans hb hbg, rest⟩

theorem info_grp : ∃ i, Try.prog.info? 27 = some i ∧ i.zero = some (.slice none 0 0) ∧ i.size = 1 ∧ i.bytes = 24 := info_parts (by kernel_rfl)

/-- A list that came out, and whose it will be. -/
structure Mine (W w : World) (owner : Nat → Nat) (k : Nat) (l : Value) (ts : List Tok) : Prop where
  len : ts.length ≤ 600
  row : w.ownsRow W.heap.size 35 3 l ts.length (tokCells ts)
  whose : ∀ r, l.ownBlock = some r → owner r = k + 2 ∧ W.heap.size ≤ r ∧ r < w.heap.size

theorem Inv.start {W w : World} {l : Value} {ts : List Tok} (hb : Below W.heap.size W w) (hl : ts.length ≤ 600) (ho : w.ownsRow W.heap.size 35 3 l ts.length (tokCells ts)) :
    ∃ owner, Inv W w [] (.slice none 0 0) owner ∧ Mine W w owner 0 l ts :=
  ⟨fun _ => 2, ⟨World.ownsRow_nil _ _ _ _, fun r hr => by simp [Value.ownBlock] at hr, fun k hk => by simp at hk, hb⟩, hl, ho, fun r hr => ⟨rfl, (ho.lt r hr).1, (ho.lt r hr).2⟩⟩

theorem Inv.two {W w w1 w2 : World} {gs : List Nat} {va l m : Value} {owner : Nat → Nat} {ts ts2 : List Tok} (h : Inv W w gs va owner)
    (hb1 : Below w.heap.size w w1) (h1 : ts.length ≤ 600) (ho1 : w1.ownsRow w.heap.size 35 3 l ts.length (tokCells ts))
    (hb2 : Below w1.heap.size w1 w2) (h2 : ts2.length ≤ 600) (ho2 : w2.ownsRow w1.heap.size 35 3 m ts2.length (tokCells ts2)) :
    ∃ owner0, Inv W w2 gs va owner0 ∧ Mine W w2 owner0 gs.length l ts ∧ Mine W w2 owner0 (gs.length + 1) m ts2 := by
  have hW := h.below.size
  have s1 := hb1.size
  have s2 := hb2.size
  refine ⟨fun b => if b < w.heap.size then owner b else if b < w1.heap.size then gs.length + 2 else gs.length + 3, h.keep (hb1.trans (hb2.mono s1)) (fun b hb => by rw [if_pos hb]), ⟨h1, ownsRow_low (ownsRow_below ho1 hb2) hW, ?_⟩, h2, ownsRow_low ho2 (by omega), ?_⟩
  · intro r hr
    obtain ⟨p1, p2⟩ := ho1.lt r hr
    refine ⟨?_, by omega, by omega⟩
    rw [if_neg (by omega), if_pos p2]
  · intro r hr
    obtain ⟨p1, p2⟩ := ho2.lt r hr
    refine ⟨?_, by omega, by omega⟩
    rw [if_neg (by omega), if_neg (by omega)]

/-- Behind 'own' the row of groups is as it was. -/
theorem Inv.row {W w w3 : World} {gs : List Nat} {va l : Value} {owner : Nat → Nat} {ts : List Tok} (h : Inv W w gs va owner) (hm : Mine W w owner gs.length l ts) (hg : w.grownBy w3 l.ownBlock) (o : Obj) :
    (w3.alloc o).ownsRow W.heap.size 27 1 va gs.length (gs.map grpV) := by
  refine (ownsRow_grown h.own hg ?_).alloc o
  intro r hr e
  have := h.zero r hr
  have := (hm.whose r e).1
  omega

theorem Inv.step {W w w3 w4 : World} {gs : List Nat} {va va' l : Value} {owner : Nat → Nat} {ts : List Tok} {e : Ending} {v : Value} {o : Obj} (h : Inv W w gs va owner) (hm : Mine W w owner gs.length l ts)
    (hp : OwnPost w l ts.length (1000 + gs.length : Int) e w3) (he : e = .returned v)
    (hown : w4.ownsRow W.heap.size 27 1 va' (gs.length + 1) (gs.map grpV ++ [v])) (hg4 : (w3.alloc o).grownBy w4 va.ownBlock) (hat : va'.ownBlock = va.ownBlock ∨ va'.ownBlock = some (w3.heap.size + 1)) :
    ∃ owner' G, v = grpV G ∧ Inv W w4 (gs ++ [G]) va' owner' ∧ ∀ (k : Nat) (m : Value) (ts2 : List Tok), k ≠ gs.length → Mine W w owner k m ts2 → Mine W w4 owner' k m ts2 := by
  obtain ⟨G, one, two, three, e1, hG, hblk, m1, m2, m3, m4, hgr⟩ := hp
  rw [he] at e1
  injection e1 with e1
  subst e1
  obtain ⟨owner', hi, ho⟩ := h.push hm.len hm.whose hG hblk m1 m2 m3 m4 hgr hg4 hown (fun r hr => by
    rcases hat with h1 | h1
    · exact .inl (h1 ▸ hr)
    · rw [h1] at hr
      right
      injection hr with hr
      omega)
  refine ⟨owner', G, rfl, hi, fun k m ts2 hk h2 => ⟨h2.len, ?_, ?_⟩⟩
  · refine ownsRow_grown ((ownsRow_grown h2.row hgr ?_).alloc o) hg4 ?_
    · intro r hr e
      have a1 := (h2.whose r hr).1
      have a2 := (hm.whose r e).1
      omega
    · intro r hr e
      have a1 := (h2.whose r hr).1
      have a2 := h.zero r e
      omega
  · intro r hr
    obtain ⟨a1, a2, a3⟩ := h2.whose r hr
    have s1 := hgr.size
    have s2 := hg4.size
    have s3 : (w3.alloc o).heap.size = w3.heap.size + 1 := by simp
    exact ⟨by rw [ho r a3]; exact a1, a2, by omega⟩

theorem Inv.at {W w : World} {gs : List Nat} {g cap : Nat} {owner : Nat → Nat} (h : Inv W w gs (.slice (some ⟨g, 0, none⟩) gs.length cap) owner) (k : Nat) (hk : k < gs.length) :
    w.cell? ⟨g, k, none⟩ = some (.slice (some ⟨gs[k], 0, none⟩) 4 4) := by
  rw [h.own.cellAt k (by omega), List.getElem?_map, List.getElem?_eq_getElem hk]
  rfl
end Go.Proofs.Ytlliliddljkbfaa
