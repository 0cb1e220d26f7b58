import Derived.Test.YtlliliddljkbfaaGreatC7
import Derived.Test.YtlliliddljkbfaaGreatC9
import Derived.Test.YtlliliddljkbfaaGreatC10
namespace Go.Proofs.YtlliliddljkbfaaGreat
set_option maxHeartbeats 64000000
set_option maxRecDepth 100000
open Go.RowKit Sp
theorem ownsRow_turn {w w' : World} {base : Nat} {e : TypeId} {size : Nat} {v : Value} {n : Nat} {xs : List Value} {b : Nat} (h : w.ownsRow base e size v n xs) (ht : Turn b w w') (hb : b < base) : w'.ownsRow base e size v n xs := by
  refine ⟨h.1, ?_⟩
  rcases h.2 with hn | ⟨g, cap, cur, rfl, hbg, hgg, rest⟩
  · exact .inl hn
  · refine .inr ⟨g, cap, cur, rfl, hbg, ?_, rest⟩
    rw [ht.block g (Array.getElem?_eq_some_iff.1 hgg).1 (by omega)]
    exact hgg
theorem ownsRow_drewN {w : World} {base : Nat} {e : TypeId} {size : Nat} {v : Value} {n : Nat} {xs : List Value} (h : w.ownsRow base e size v n xs) (k : Nat) : (w.drewN k).ownsRow base e size v n xs := h
theorem Went.grown {b k : Nat} {s : ByteArray} {w w1 w2 : World} {row : Option Nat} (h : Went b s k w w1) (hg : w1.grownBy w2 row) (hb : b < w.heap.size) (hrow : ∀ r, row = some r → w.heap.size ≤ r) : Went b s k w w2 := by
  have hsz := h.2.size
  have hp := h.1.pos
  refine ⟨⟨?_, ?_, h.1.pos, h.1.len, h.1.le⟩, ?_⟩
  · rw [hg.block b (by omega) (fun e => by have := hrow b e.symm; omega)]; exact h.1.blk
  · obtain ⟨m, hm⟩ := h.1.glob
    exact ⟨m, by rw [← hm]; exact World.cell?_of_block (w := w1) (hg.block 0 (by omega) (fun e => by have := hrow 0 e.symm; omega))⟩
  · exact ⟨hg.os.trans h.2.os, hg.tape.trans h.2.tape, hg.output.trans h.2.output, Nat.le_trans hsz hg.size, fun j hj hjb => (hg.block j (by omega) (fun e => by have := hrow j e.symm; omega)).trans (h.2.block j hj hjb)⟩
theorem Went.below {b k : Nat} {s : ByteArray} {w w1 w2 : World} (h : Went b s k w w1) (hb : Below w1.heap.size w1 w2) : Went b s k w w2 := by
  have hl := h.1.lt
  have hp := h.1.pos
  refine ⟨⟨?_, ?_, h.1.pos, h.1.len, h.1.le⟩, h.2.trans (Turn.of_below hb)⟩
  · rw [hb.block b hl]; exact h.1.blk
  · obtain ⟨m, hm⟩ := h.1.glob
    exact ⟨m, by rw [← hm]; exact hb.cell (p := ⟨0, 0, none⟩) (by show 0 < w1.heap.size; omega)⟩
theorem str_oneCell (x : ByteArray) : ∀ u ∈ [Value.string x], u.oneCell' = true := by simp [Value.oneCell']
theorem name_c (s : ByteArray) (b i : Nat) (w : World) (h : Sc w b s i) :
    Calls Tryz.prog 180 #[.pointer (some ⟨b, 0, none⟩)] w fun e w' => e = .returned (.string (Sp.name s i).1) ∧ Went b s (Sp.name s i).2 w w' := by
  have W : Hid (Went b s i w w) := Went.refl h
  clear h
  have hbw : b < w.heap.size := W.out.1.lt
  have hs : s.size ≤ 600 := W.out.1.len
  obtain ⟨iS, hiS⟩ := info_str
  have HI : Hid (Tryz.prog.info? 9 = some iS ∧ iS.zero = some (.string ⟨#[]⟩) ∧ iS.size = 1 ∧ iS.bytes = 16) := hiS
  clear hiS
  go_enter Tryz.func180, Tryz.ntmps180
  go_wp2_with fail
  refine wp_scope_fwd (fun Q' hF => ?_)
  go_wp2_with fail
  go_loopg [3] s.size (fun g v3 wr => ∃ (v : Value) (k : Nat) (ps : List ByteArray), v = v3 ∧ s.size ≤ k + g ∧ ps.length ≤ k ∧ total ps ≤ k ∧ Aside (nameF s g k (joinB ps) = Sp.name s i ∧ wr.ownsRow w.heap.size 9 1 v ps.length (ps.map Value.string) ∧ Went b s k w wr))
  case atStart => exact ⟨_, i, [], rfl, by omega, by simp, by simp [total], rfl, World.ownsRow_nil _ _ _ _, W.out⟩
  case round =>
    obtain ⟨v3, k, ps, rfl, hk, hpl, hpt, hA⟩ := hrel
    have H1 : Hid (nameF s gk k (joinB ps) = Sp.name s i) := hA.out.1
    have HO : Hid (wr.ownsRow w.heap.size 9 1 v3 ps.length (ps.map Value.string)) := hA.out.2.1
    have H2 : Hid (Went b s k w wr) := hA.out.2.2
    clear hA
    have hke := H2.out.1.le
    cases hn : nameI (pk s k)
    · cases he : escB s k
      · have HV : Hid (Sp.name s i = (joinB ps, k)) := by
          show _ = _
          rw [← H1.out]
          cases gk with
          | zero => rfl
          | succ f => unfold nameF; rw [if_neg (by simp [hn]), if_neg (by simp [he])]
        go_wp2_with fail
        refine (peek_c s b (k) _ (k) _ (H2.out.1) ⟨by omega, by omega, by omega⟩).mono ?_
        rintro e wq ⟨rfl, nq, rfl⟩
        go_wp2_with fail
        refine (isNameByte_c _ _).mono ?_
        rintro e wq ⟨rfl, rfl⟩
        go_wp2_with fail
        refine (escapeBegins_c s b (k) _ (k) _ (H2.out.1.drewN _) ⟨by omega, by omega, by omega⟩).mono ?_
        rintro e wq ⟨rfl, nq, rfl⟩
        go_wp2_with fail
        go_step3
        refine hF.go 0 _ _ _ rfl ?_
        clear hF
        go_wp2_with fail
        refine (Join_c ps w.heap.size v3 _ (ownsRow_drewN HO.out _) (by omega) (by omega)).mono ?_
        rintro e w1 ⟨rfl, hb1⟩
        have W1 : Hid (Went b s k w w1) := (H2.out.drewN _).below hb1
        clear hb1
        go_wp2_with fail
        try rw [Exit.noGoto_ret]
        go_ret
        rw [HV.out]
        exact ⟨rfl, W1.out⟩
      · have hlt : k < s.size := esc_lt he
        have hle := esc_le hlt
        have hgt := esc_gt s k
        obtain ⟨f, rfl⟩ : ∃ f, gk = f + 1 := ⟨gk - 1, by omega⟩
        have HV : Hid (nameF s f (esc s k).2 (joinB (ps ++ [(esc s k).1])) = Sp.name s i) := by
          show _ = _
          rw [← H1.out, joinB_snoc]
          conv => rhs; unfold nameF
          rw [if_neg (by simp [hn]), if_pos he]
        have hsz : Hid ((esc s k).1.size = 1) := size_esc
        go_wp2_with fail
        refine (peek_c s b (k) _ (k) _ (H2.out.1) ⟨by omega, by omega, by omega⟩).mono ?_
        rintro e wq ⟨rfl, nq, rfl⟩
        go_wp2_with fail
        refine (isNameByte_c _ _).mono ?_
        rintro e wq ⟨rfl, rfl⟩
        go_wp2_with fail
        refine (escapeBegins_c s b (k) _ (k) _ (H2.out.1.drewN _) ⟨by omega, by omega, by omega⟩).mono ?_
        rintro e wq ⟨rfl, nq, rfl⟩
        go_wp2_with fail
        refine (escape_c s b k _ (H2.out.1.drewN _) hlt).mono ?_
        rintro e w1 ⟨rfl, hwent⟩
        have W1 : Hid (Went b s (esc s k).2 w w1) := (H2.out.drewN _).trans hwent
        have HO1 : Hid (w1.ownsRow w.heap.size 9 1 v3 ps.length (ps.map Value.string)) := ownsRow_turn (ownsRow_drewN HO.out _) hwent.2 hbw
        clear hwent
        have hw1 := W1.out.2.size
        go_wp2_with (at_builtin; refine wpList_append_own _ rfl _ _ 26 rfl w.heap.size 9 iS (.string ⟨#[]⟩) 1 16 Tryz.underlying26 HI.out.1 HI.out.2.1 HI.out.2.2.1 HI.out.2.2.2 rfl (by omega) v3 ps.length (ps.map Value.string) rfl (HO1.out.alloc _) ⟨w1.heap.size, 0, none⟩ 1 1 [.string (esc s k).1] rfl rfl (cell_one_new _ _ _) (str_oneCell _) ?_ ?_ ?_ ?_)
        · unfold maxLen; omega
        · omega
        · simp; omega
        intro v4 w2 hown2 hgr2 _
        have W2 : Hid (Went b s (esc s k).2 w w2) := (W1.out.alloc _).grown hgr2 hbw (fun r hr => (HO1.out.lt r hr).1)
        have HO2 : Hid (w2.ownsRow w.heap.size 9 1 v4 (ps.length + 1) (ps.map Value.string ++ [.string (esc s k).1])) := hown2
        clear hown2 hgr2
        go_wp2_with fail
        go_roundg f
        case measure => omega
        case rel =>
          refine ⟨v4, (esc s k).2, ps ++ [(esc s k).1], rfl, by omega, by simp; omega, ?_, HV.out, ?_, W2.out⟩
          · have := hsz.out; simp [total_append, total, this]; omega
          · simpa using HO2.out
    · have hlt : k < s.size := pk_lt (name_nn hn)
      obtain ⟨f, rfl⟩ : ∃ f, gk = f + 1 := ⟨gk - 1, by omega⟩
      have HV : Hid (nameF s f (k + 1) (joinB (ps ++ [one s k])) = Sp.name s i) := by
        show _ = _
        rw [← H1.out, joinB_snoc]
        conv => rhs; unfold nameF
        rw [if_pos hn]
      have hsz : Hid ((one s k).size = 1) := size_one hlt
      go_wp2_with fail
      refine (peek_c s b (k) _ (k) _ (H2.out.1) ⟨by omega, by omega, by omega⟩).mono ?_
      rintro e wq ⟨rfl, nq, rfl⟩
      go_wp2_with fail
      refine (isNameByte_c _ _).mono ?_
      rintro e wq ⟨rfl, rfl⟩
      go_wp2_with fail
      refine (take_c s b k _ (H2.out.1.drewN _) hlt).mono ?_
      rintro e w1 ⟨rfl, hwent⟩
      have W1 : Hid (Went b s (k + 1) w w1) := (H2.out.drewN _).trans hwent
      have HO1 : Hid (w1.ownsRow w.heap.size 9 1 v3 ps.length (ps.map Value.string)) := ownsRow_turn (ownsRow_drewN HO.out _) hwent.2 hbw
      clear hwent
      have hw1 := W1.out.2.size
      go_wp2_with (at_builtin; refine wpList_append_own _ rfl _ _ 26 rfl w.heap.size 9 iS (.string ⟨#[]⟩) 1 16 Tryz.underlying26 HI.out.1 HI.out.2.1 HI.out.2.2.1 HI.out.2.2.2 rfl (by omega) v3 ps.length (ps.map Value.string) rfl (HO1.out.alloc _) ⟨w1.heap.size, 0, none⟩ 1 1 [.string (one s k)] rfl rfl (cell_one_new _ _ _) (str_oneCell _) ?_ ?_ ?_ ?_)
      · unfold maxLen; omega
      · omega
      · simp; omega
      intro v4 w2 hown2 hgr2 _
      have W2 : Hid (Went b s (k + 1) w w2) := (W1.out.alloc _).grown hgr2 hbw (fun r hr => (HO1.out.lt r hr).1)
      have HO2 : Hid (w2.ownsRow w.heap.size 9 1 v4 (ps.length + 1) (ps.map Value.string ++ [.string (one s k)])) := hown2
      clear hown2 hgr2
      go_wp2_with fail
      go_roundg f
      case measure => omega
      case rel =>
        refine ⟨v4, k + 1, ps ++ [one s k], rfl, by omega, by simp; omega, ?_, HV.out, ?_, W2.out⟩
        · have := hsz.out; simp [total_append, total, this]; omega
        · simpa using HO2.out
structure Res (w : World) (R : Nat) : Prop where
  blk : w.heap[R]? = some (.cells #[.int .i64 0, .string ⟨#[]⟩, .string ⟨#[]⟩] 93 (0, 0))
theorem Res.new (w : World) : Res (w.alloc (.cells #[.int .i64 0, .string ⟨#[]⟩, .string ⟨#[]⟩] 93 (0, 0))) w.heap.size := ⟨heap_alloc_new w _⟩
theorem Res.nh (w : World) : Hid (Res (w.alloc (.cells #[.int .i64 0, .string ⟨#[]⟩, .string ⟨#[]⟩] 93 (0, 0))) w.heap.size) := Res.new w
theorem Res.lt {w : World} {R : Nat} (h : Res w R) : R < w.heap.size := (Array.getElem?_eq_some_iff.1 h.blk).1
theorem Res.c0 {w : World} {R : Nat} (h : Res w R) : w.cell? ⟨R, 0, none⟩ = some (.int .i64 0) := by unfold World.cell?; rw [h.blk]; rfl
theorem Res.c1 {w : World} {R : Nat} (h : Res w R) : w.cell? ⟨R, 1, none⟩ = some (.string ⟨#[]⟩) := by unfold World.cell?; rw [h.blk]; rfl
theorem Res.c2 {w : World} {R : Nat} (h : Res w R) : w.cell? ⟨R, 2, none⟩ = some (.string ⟨#[]⟩) := by unfold World.cell?; rw [h.blk]; rfl
theorem Res.f {w : World} {R : Nat} (h : Res w R) (o : Nat) : w.frozen? ⟨R, o, none⟩ = false := by unfold World.frozen?; rw [h.blk]; simp
theorem Res.turn {w w' : World} {R b : Nat} (h : Res w R) (ht : Turn b w w') (hb : R ≠ b) : Res w' R := ⟨by rw [ht.block R h.lt hb]; exact h.blk⟩
theorem Res.drewN {w : World} {R : Nat} (h : Res w R) (n : Nat) : Res (w.drewN n) R := ⟨h.blk⟩
theorem Res.set {w : World} {R b o : Nat} (h : Res w R) (hb : R ≠ b) (v : Value) : Res (w.setCell ⟨b, o, none⟩ v) R := ⟨by rw [Below.heap_setCell _ _ _ _ (by exact hb)]; exact h.blk⟩
theorem Went.setO {b k : Nat} {s : ByteArray} {w w1 : World} {R : Nat} (h : Went b s k w w1) (hb : b < w.heap.size) (hR : w.heap.size ≤ R) (o : Nat) (v : Value) : Went b s k w (w1.setCell ⟨R, o, none⟩ v) := by
  have hp := h.1.pos
  have hsz := h.2.size
  refine ⟨⟨?_, ?_, h.1.pos, h.1.len, h.1.le⟩, ⟨h.2.os, h.2.tape, h.2.output, by simp [World.setCell]; exact h.2.size, fun j hj hjb => ?_⟩⟩
  · rw [Below.heap_setCell _ _ _ _ (by show b ≠ R; omega)]; exact h.1.blk
  · obtain ⟨m, hm⟩ := h.1.glob
    exact ⟨m, by rw [← hm]; exact World.cell?_of_block (w := w1) (Below.heap_setCell _ _ _ _ (by show (0 : Nat) ≠ R; omega))⟩
  · rw [Below.heap_setCell _ _ _ _ (by show j ≠ R; omega)]; exact h.2.block j hj hjb
def tokV (t : Tok) : Value := .agg #[.int .i64 t.kind, .string t.word, .string t.unit]
theorem numeric_c (s : ByteArray) (b i : Nat) (w : World) (h : Sc w b s i) :
    Calls Tryz.prog 182 #[.pointer (some ⟨b, 0, none⟩)] w fun e w' => e = .returned (tokV (Sp.numeric s i).1) ∧ Went b s (Sp.numeric s i).2 w w' := by
  have W := Went.nh h
  have hbw : b < w.heap.size := h.lt
  clear h
  cases h37 : (pk s (numE s i) == 37)
  · have n37 : ¬ pk s (numE s i) = 37 := by simpa using h37
    cases hbg : begB s (numE s i)
    · have HV : Hid (Sp.numeric s i = (Tok.w 5 (s.extract i (numE s i)), numE s i)) := by
        show _ = _; unfold Sp.numeric; dsimp only; rw [if_neg n37, if_neg (by simp [hbg])]
      clear n37
      go_enter Tryz.func182, Tryz.ntmps182
      go_wp2_with fail
      refine (number_c s b i _ W.out.1).mono ?_
      rintro e w1 ⟨rfl, hwent⟩
      have W1 : Hid (Went b s (numE s i) w w1) := W.out.trans hwent
      have R1 : Hid (Res w1 w.heap.size) := (Res.new w).turn hwent.2 (by omega)
      clear hwent
      have c01 := W1.out.1.c0
      have c11 := W1.out.1.c1
      have cf1 := W1.out.1.f1
      have cl1 := W1.out.1.lt
      have cs1 := W1.out.1.len
      have ce1 := W1.out.1.le
      go_wp2_with fail
      refine (peek_c s b (numE s i) _ (numE s i) _ (W1.out.1) ⟨by omega, by omega, by omega⟩).mono ?_
      rintro e wq ⟨rfl, nq, rfl⟩
      go_wp2_with fail
      refine (nameBegins_c s b (numE s i) _ (numE s i) _ (W1.out.1.drewN _) ⟨by omega, by omega, by omega⟩).mono ?_
      rintro e wq ⟨rfl, nq, rfl⟩
      have r0 := R1.out.c0
      have r1 := R1.out.c1
      have r2 := R1.out.c2
      have rf := R1.out.f
      have rl := R1.out.lt
      go_wp2_with fail
      rw [HV.out]
      exact bodyPost_ret (v := tokV (Tok.w 5 (s.extract i (numE s i)))) (by simp [results, Tryz.results182, go_sem, tokV, Tok.w, r0, r1, r2]; rfl) rfl ⟨rfl, ((((W1.out.drewN _)).setO hbw (Nat.le_refl _) _ _).setO hbw (Nat.le_refl _) _ _).setO hbw (Nat.le_refl _) _ _⟩
    · have HV : Hid (Sp.numeric s i = (⟨7, s.extract i (numE s i), (Sp.name s (numE s i)).1⟩, (Sp.name s (numE s i)).2)) := by
        show _ = _; unfold Sp.numeric; dsimp only; rw [if_neg n37, if_pos hbg]
      clear n37
      go_enter Tryz.func182, Tryz.ntmps182
      go_wp2_with fail
      refine (number_c s b i _ W.out.1).mono ?_
      rintro e w1 ⟨rfl, hwent⟩
      have W1 : Hid (Went b s (numE s i) w w1) := W.out.trans hwent
      have R1 : Hid (Res w1 w.heap.size) := (Res.new w).turn hwent.2 (by omega)
      clear hwent
      go_wp2_with fail
      refine (peek_c s b (numE s i) _ (numE s i) _ (W1.out.1) ⟨by omega, by omega, by omega⟩).mono ?_
      rintro e wq ⟨rfl, nq, rfl⟩
      go_wp2_with fail
      refine (nameBegins_c s b (numE s i) _ (numE s i) _ (W1.out.1.drewN _) ⟨by omega, by omega, by omega⟩).mono ?_
      rintro e wq ⟨rfl, nq, rfl⟩
      go_wp2_with fail
      refine (name_c s b (numE s i) _ (W1.out.1.drewN _)).mono ?_
      rintro e w2 ⟨rfl, hwent⟩
      have W2 : Hid (Went b s (Sp.name s (numE s i)).2 w w2) := (W1.out.drewN _).trans hwent
      have R2 : Hid (Res w2 w.heap.size) := (R1.out.drewN _).turn hwent.2 (by omega)
      clear hwent
      have r0 := R2.out.c0
      have r1 := R2.out.c1
      have r2 := R2.out.c2
      have rf := R2.out.f
      have rl := R2.out.lt
      go_wp2_with fail
      rw [HV.out]
      exact bodyPost_ret (v := tokV ⟨7, s.extract i (numE s i), (Sp.name s (numE s i)).1⟩) (by simp [results, Tryz.results182, go_sem, tokV, r0, r1, r2]) rfl ⟨rfl, ((W2.out.setO hbw (Nat.le_refl _) _ _).setO hbw (Nat.le_refl _) _ _).setO hbw (Nat.le_refl _) _ _⟩
  · have hlt : numE s i < s.size := pk_lt (by have : pk s (numE s i) = 37 := (by simpa using h37); omega)
    have HV : Hid (Sp.numeric s i = (Tok.w 6 (s.extract i (numE s i)), numE s i + 1)) := by
      show _ = _; unfold Sp.numeric; dsimp only; rw [if_pos (by simpa using h37)]
    go_enter Tryz.func182, Tryz.ntmps182
    go_wp2_with fail
    refine (number_c s b i _ W.out.1).mono ?_
    rintro e w1 ⟨rfl, hwent⟩
    have W1 : Hid (Went b s (numE s i) w w1) := W.out.trans hwent
    have R1 : Hid (Res w1 w.heap.size) := (Res.new w).turn hwent.2 (by omega)
    clear hwent
    have c01 := W1.out.1.c0
    have c11 := W1.out.1.c1
    have cf1 := W1.out.1.f1
    have cl1 := W1.out.1.lt
    have cs1 := W1.out.1.len
    have ce1 := W1.out.1.le
    go_wp2_with fail
    refine (peek_c s b (numE s i) _ (numE s i) _ (W1.out.1) ⟨by omega, by omega, by omega⟩).mono ?_
    rintro e wq ⟨rfl, nq, rfl⟩
    have r0 := R1.out.c0
    have r1 := R1.out.c1
    have r2 := R1.out.c2
    have rf := R1.out.f
    have rl := R1.out.lt
    go_wp2_with fail
    rw [HV.out]
    exact bodyPost_ret (v := tokV (Tok.w 6 (s.extract i (numE s i)))) (by simp [results, Tryz.results182, go_sem, tokV, Tok.w, r0, r1, r2]; rfl) rfl ⟨rfl, (((((W1.out.drewN _).setv _ (numE s i + 1) (by omega) (by omega))).setO hbw (Nat.le_refl _) _ _).setO hbw (Nat.le_refl _) _ _).setO hbw (Nat.le_refl _) _ _⟩
end Go.Proofs.YtlliliddljkbfaaGreat
