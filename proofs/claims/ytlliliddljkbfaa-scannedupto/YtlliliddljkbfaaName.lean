/-
  The scanner reads a name.
-/
import Derived.Test.YtlliliddljkbfaaEsc
import Derived.Test.YtlliliddljkbfaaJoin
namespace Go.Proofs.Ytlliliddljkbfaa
open Go.RowKit Sp
set_option maxRecDepth 100000

theorem ownsRow_turn {w w' : World} {base : Nat} {e : TypeId} {size : Nat} {v : Value} {n : Nat} {xs : List Value} {b : Nat} (h : w.ownsRow base e size v n xs) (ht : Turn b w w') (hb : b < base) : w'.ownsRow base e size v n xs := by
  refine ⟨h.1, ?_⟩
  rcases h.2 with hn | ⟨g, cap, cur, rfl, hbg, hgg, rest⟩
  · exact .inl hn
  · refine .inr ⟨g, cap, cur, rfl, hbg, ?_, rest⟩
    rw [ht.block g (Array.getElem?_eq_some_iff.1 hgg).1 (by omega)]
    exact hgg
theorem ownsRow_drewN {w : World} {base : Nat} {e : TypeId} {size : Nat} {v : Value} {n : Nat} {xs : List Value} (h : w.ownsRow base e size v n xs) (k : Nat) : (w.drewN k).ownsRow base e size v n xs := h
theorem Went.grown {b k : Nat} {s : ByteArray} {w w1 w2 : World} {row : Option Nat} (h : Went b s k w w1) (hg : w1.grownBy w2 row) (hb : b < w.heap.size) (hrow : ∀ r, row = some r → w.heap.size ≤ r) : Went b s k w w2 := by
  have hsz := h.2.size
  have hp := h.1.pos
  refine ⟨⟨?_, ?_, h.1.pos, h.1.len, h.1.le⟩, ?_⟩
  · rw [hg.block b (by omega) (fun e => by have := hrow b e.symm; omega)]; exact h.1.blk
  · obtain ⟨m, hm⟩ := h.1.glob
    exact ⟨m, by rw [← hm]; exact World.cell?_of_block (w := w1) (hg.block 0 (by omega) (fun e => by have := hrow 0 e.symm; omega))⟩
  · exact ⟨hg.os.trans h.2.os, hg.tape.trans h.2.tape, hg.output.trans h.2.output, Nat.le_trans hsz hg.size, fun j hj hjb => (hg.block j (by omega) (fun e => by have := hrow j e.symm; omega)).trans (h.2.block j hj hjb)⟩
theorem Went.below {b k : Nat} {s : ByteArray} {w w1 w2 : World} (h : Went b s k w w1) (hb : Below w1.heap.size w1 w2) : Went b s k w w2 := by
  have hl := h.1.lt
  have hp := h.1.pos
  refine ⟨⟨?_, ?_, h.1.pos, h.1.len, h.1.le⟩, h.2.trans (Turn.of_below hb)⟩
  · rw [hb.block b hl]; exact h.1.blk
  · obtain ⟨m, hm⟩ := h.1.glob
    exact ⟨m, by rw [← hm]; exact hb.cell (p := ⟨0, 0, none⟩) (by show 0 < w1.heap.size; omega)⟩
theorem str_oneCell (x : ByteArray) : ∀ u ∈ [Value.string x], u.oneCell' = true := by simp [Value.oneCell']

set_option maxHeartbeats 1000000 in
theorem name_c (s : ByteArray) (b i : Nat) (w : World) (h : Sc w b s i) :
    Calls Try.prog 25 #[.pointer (some ⟨b, 0, none⟩)] w fun e w' => e = .returned (.string (Sp.name s i).1) ∧ Went b s (Sp.name s i).2 w w' := by
  have W : Hid (Went b s i w w) := Went.refl h
  clear h
  have hbw : b < w.heap.size := W.out.1.lt
  have hs : s.size ≤ 600 := W.out.1.len
  obtain ⟨iS, hiS⟩ := info_str
  have HI : Hid (Try.prog.info? 9 = some iS ∧ iS.zero = some (.string ⟨#[]⟩) ∧ iS.size = 1 ∧ iS.bytes = 16) := hiS
  clear hiS
  go_enter Try.func25, Try.ntmps25
  go_wp2_with fail
  refine wp_scope_fwd (fun Q' hF => ?_)
  go_wp2_with fail
  go_loopg [3] s.size (fun g v3 wr => ∃ (v : Value) (k : Nat) (ps : List ByteArray), v = v3 ∧ s.size ≤ k + g ∧ ps.length ≤ k ∧ total ps ≤ k ∧ Aside (nameF s g k (joinB ps) = Sp.name s i ∧ wr.ownsRow w.heap.size 9 1 v ps.length (ps.map Value.string) ∧ Went b s k w wr))
  case atStart => exact ⟨_, i, [], rfl, by omega, by simp, by simp [total], rfl, World.ownsRow_nil _ _ _ _, W.out⟩
  case round =>
    obtain ⟨v3, k, ps, rfl, hk, hpl, hpt, hA⟩ := hrel
    have H1 : Hid (nameF s gk k (joinB ps) = Sp.name s i) := hA.out.1
    have HO : Hid (wr.ownsRow w.heap.size 9 1 v3 ps.length (ps.map Value.string)) := hA.out.2.1
    have H2 : Hid (Went b s k w wr) := hA.out.2.2
    clear hA
    have hke := H2.out.1.le
    cases hn : nameI (pk s k)
    · cases he : escB s k
      · have HV : Hid (Sp.name s i = (joinB ps, k)) := by
          show _ = _
          rw [← H1.out]
          cases gk with
          | zero => rfl
          | succ f => unfold nameF; rw [if_neg (by simp [hn]), if_neg (by simp [he])]
        go_wp2_with fail
        refine (peek_c s b (k) _ (k) _ (H2.out.1) ⟨by omega, by omega, by omega⟩).mono ?_
        rintro e wq ⟨rfl, nq, rfl⟩
        go_wp2_with fail
        refine (isNameByte_c _ _).mono ?_
        rintro e wq ⟨rfl, rfl⟩
        go_wp2_with fail
        refine (escapeBegins_c s b (k) _ (k) _ (H2.out.1.drewN _) ⟨by omega, by omega, by omega⟩).mono ?_
        rintro e wq ⟨rfl, nq, rfl⟩
        go_wp2_with fail
        go_step3
        refine hF.go 0 _ _ _ rfl ?_
        clear hF
        go_wp2_with fail
        refine (Join_c ps w.heap.size v3 _ (ownsRow_drewN HO.out _) (by omega) (by omega)).mono ?_
        rintro e w1 ⟨rfl, hb1⟩
        have W1 : Hid (Went b s k w w1) := (H2.out.drewN _).below hb1
        clear hb1
        go_wp2_with fail
        try rw [Exit.noGoto_ret]
        go_ret
        rw [HV.out]
        exact ⟨rfl, W1.out⟩
      · have hlt : k < s.size := esc_lt he
        have hle := esc_le hlt
        have hgt := esc_gt s k
        obtain ⟨f, rfl⟩ : ∃ f, gk = f + 1 := ⟨gk - 1, by omega⟩
        have HV : Hid (nameF s f (esc s k).2 (joinB (ps ++ [(esc s k).1])) = Sp.name s i) := by
          show _ = _
          rw [← H1.out, joinB_snoc]
          conv => rhs; unfold nameF
          rw [if_neg (by simp [hn]), if_pos he]
        have hsz : Hid ((esc s k).1.size = 1) := size_esc
        go_wp2_with fail
        refine (peek_c s b (k) _ (k) _ (H2.out.1) ⟨by omega, by omega, by omega⟩).mono ?_
        rintro e wq ⟨rfl, nq, rfl⟩
        go_wp2_with fail
        refine (isNameByte_c _ _).mono ?_
        rintro e wq ⟨rfl, rfl⟩
        go_wp2_with fail
        refine (escapeBegins_c s b (k) _ (k) _ (H2.out.1.drewN _) ⟨by omega, by omega, by omega⟩).mono ?_
        rintro e wq ⟨rfl, nq, rfl⟩
        go_wp2_with fail
        refine (escape_c s b k _ (H2.out.1.drewN _) hlt).mono ?_
        rintro e w1 ⟨rfl, hwent⟩
        have W1 : Hid (Went b s (esc s k).2 w w1) := (H2.out.drewN _).trans hwent
        have HO1 : Hid (w1.ownsRow w.heap.size 9 1 v3 ps.length (ps.map Value.string)) := ownsRow_turn (ownsRow_drewN HO.out _) hwent.2 hbw
        clear hwent
        have hw1 := W1.out.2.size
        go_wp2_with (at_builtin; refine wpList_append_own _ rfl _ _ 22 rfl w.heap.size 9 iS (.string ⟨#[]⟩) 1 16 Try.underlying22 HI.out.1 HI.out.2.1 HI.out.2.2.1 HI.out.2.2.2 rfl (by omega) v3 ps.length (ps.map Value.string) rfl (HO1.out.alloc _) ⟨w1.heap.size, 0, none⟩ 1 1 [.string (esc s k).1] rfl rfl (cell_one_new _ _ _) (str_oneCell _) ?_ ?_ ?_ ?_)
        · unfold maxLen; omega
        · omega
        · simp; omega
        intro v4 w2 hown2 hgr2 _
        have W2 : Hid (Went b s (esc s k).2 w w2) := (W1.out.alloc _).grown hgr2 hbw (fun r hr => (HO1.out.lt r hr).1)
        have HO2 : Hid (w2.ownsRow w.heap.size 9 1 v4 (ps.length + 1) (ps.map Value.string ++ [.string (esc s k).1])) := hown2
        clear hown2 hgr2
        go_wp2_with fail
        go_roundg f
        case measure => omega
        case rel =>
          refine ⟨v4, (esc s k).2, ps ++ [(esc s k).1], rfl, by omega, by simp; omega, ?_, HV.out, ?_, W2.out⟩
          · have := hsz.out; simp [total_append, total, this]; omega
          · simpa using HO2.out
    · have hlt : k < s.size := pk_lt (name_nn hn)
      obtain ⟨f, rfl⟩ : ∃ f, gk = f + 1 := ⟨gk - 1, by omega⟩
      have HV : Hid (nameF s f (k + 1) (joinB (ps ++ [one s k])) = Sp.name s i) := by
        show _ = _
        rw [← H1.out, joinB_snoc]
        conv => rhs; unfold nameF
        rw [if_pos hn]
      have hsz : Hid ((one s k).size = 1) := size_one hlt
      go_wp2_with fail
      refine (peek_c s b (k) _ (k) _ (H2.out.1) ⟨by omega, by omega, by omega⟩).mono ?_
      rintro e wq ⟨rfl, nq, rfl⟩
      go_wp2_with fail
      refine (isNameByte_c _ _).mono ?_
      rintro e wq ⟨rfl, rfl⟩
      go_wp2_with fail
      refine (take_c s b k _ (H2.out.1.drewN _) hlt).mono ?_
      rintro e w1 ⟨rfl, hwent⟩
      have W1 : Hid (Went b s (k + 1) w w1) := (H2.out.drewN _).trans hwent
      have HO1 : Hid (w1.ownsRow w.heap.size 9 1 v3 ps.length (ps.map Value.string)) := ownsRow_turn (ownsRow_drewN HO.out _) hwent.2 hbw
      clear hwent
      have hw1 := W1.out.2.size
      go_wp2_with (at_builtin; refine wpList_append_own _ rfl _ _ 22 rfl w.heap.size 9 iS (.string ⟨#[]⟩) 1 16 Try.underlying22 HI.out.1 HI.out.2.1 HI.out.2.2.1 HI.out.2.2.2 rfl (by omega) v3 ps.length (ps.map Value.string) rfl (HO1.out.alloc _) ⟨w1.heap.size, 0, none⟩ 1 1 [.string (one s k)] rfl rfl (cell_one_new _ _ _) (str_oneCell _) ?_ ?_ ?_ ?_)
      · unfold maxLen; omega
      · omega
      · simp; omega
      intro v4 w2 hown2 hgr2 _
      have W2 : Hid (Went b s (k + 1) w w2) := (W1.out.alloc _).grown hgr2 hbw (fun r hr => (HO1.out.lt r hr).1)
      have HO2 : Hid (w2.ownsRow w.heap.size 9 1 v4 (ps.length + 1) (ps.map Value.string ++ [.string (one s k)])) := hown2
      clear hown2 hgr2
      go_wp2_with fail
      go_roundg f
      case measure => omega
      case rel =>
        refine ⟨v4, k + 1, ps ++ [one s k], rfl, by omega, by simp; omega, ?_, HV.out, ?_, W2.out⟩
        · have := hsz.out; simp [total_append, total, this]; omega
        · simpa using HO2.out
end Go.Proofs.Ytlliliddljkbfaa
