import Derived.Test.YtlliliddljkbfaaGreatC25
namespace Go.Proofs.YtlliliddljkbfaaGreat
set_option maxHeartbeats 64000000
set_option maxRecDepth 100000
open Go.RowKit Sp
theorem passBadLink_c (s : ByteArray) (b i : Nat) (w : World) (h : Sc w b s i) :
    Calls Tryz.prog 292 #[.pointer (some ⟨b, 0, none⟩)] w fun e w' => e = .returned (.tuple #[]) ∧ Went b s (bad s i) w w' := by
  have W : Hid (Went b s i w w) := Went.refl h
  clear h
  go_enter Tryz.func292, Tryz.ntmps292
  go_wp2_with fail
  refine wp_scope_fwd (fun Q' hF => ?_)
  go_wp2_with fail
  go_loopg [] s.size (fun g wr => ∃ k : Nat, s.size ≤ k + g ∧ Aside (badF s g k = bad s i ∧ Went b s k w wr))
  case atStart => exact ⟨i, by omega, rfl, W.out⟩
  case round =>
    obtain ⟨k, hk, hA⟩ := hrel
    have H1 : Hid (badF s gk k = bad s i) := hA.out.1
    have H2 : Hid (Went b s k w wr) := hA.out.2
    clear hA
    have c02 := H2.out.1.c0
    have c12 := H2.out.1.c1
    have cf2 := H2.out.1.f1
    have cl2 := H2.out.1.lt
    have cs2 := H2.out.1.len
    have ce2 := H2.out.1.le
    by_cases hend : s.size ≤ k
    · have e0 : (pk s k == -1) = true := by rw [pk_out hend]; rfl
      have HV : Hid (bad s i = k) := by
        show _ = _
        rw [← H1.out]
        cases gk with
        | zero => rfl
        | succ f => unfold badF; rw [if_pos hend]
      go_wp2_with fail
      refine (peek_c s b (k) _ (k) _ (H2.out.1) ⟨by omega, by omega, by omega⟩).mono ?_
      rintro e wq ⟨rfl, nq, rfl⟩
      go_wp2_with fail
      go_step3
      refine hF.go _ _ _ _ rfl ?_
      clear hF
      go_wp2
      simp only [Exit.noGoto]
      go_end0
      refine ⟨rfl, ?_⟩
      rw [HV.out]
      exact H2.out.drewN _
    · have hlt : k < s.size := by omega
      have e0 : (pk s k == -1) = false := by have := pk_nn hlt; simp; omega
      obtain ⟨f, rfl⟩ : ∃ f, gk = f + 1 := ⟨gk - 1, by omega⟩
      have H1' := H1.out
      unfold badF at H1'
      rw [if_neg hend] at H1'
      by_cases h41 : pk s k = 41
      · have e1 : (pk s k == 41) = true := by rw [h41]; rfl
        have HV : Hid (bad s i = k + 1) := by
          show _ = _
          rw [← H1', if_pos h41]
        clear h41 H1'
        go_wp2_with fail
        refine (peek_c s b (k) _ (k) _ (H2.out.1) ⟨by omega, by omega, by omega⟩).mono ?_
        rintro e wq ⟨rfl, nq, rfl⟩
        go_wp2_with fail
        go_step3
        refine hF.go _ _ _ _ rfl ?_
        clear hF
        go_wp2
        simp only [Exit.noGoto]
        go_end0
        refine ⟨rfl, ?_⟩
        rw [HV.out]
        exact (H2.out.drewN _).setv _ (k + 1) (by omega) (by omega)
      · have e1 : (pk s k == 41) = false := by simpa using h41
        rw [if_neg h41] at H1'
        clear h41
        cases he : escB s k
        · rw [if_neg (by simp [he])] at H1'
          have HV : Hid (badF s f (k + 1) = bad s i) := H1'
          clear H1'
          go_wp2_with fail
          refine (peek_c s b (k) _ (k) _ (H2.out.1) ⟨by omega, by omega, by omega⟩).mono ?_
          rintro e wq ⟨rfl, nq, rfl⟩
          go_wp2_with fail
          refine (escapeBegins_c s b (k) _ (k) _ (H2.out.1.drewN _) ⟨by omega, by omega, by omega⟩).mono ?_
          rintro e wq ⟨rfl, nq, rfl⟩
          go_wp2_with fail
          go_roundg f
          case measure => omega
          case rel => exact ⟨k + 1, by omega, HV.out, (H2.out.drewN _).setv _ (k + 1) (by omega) (by omega)⟩
        · rw [if_pos he] at H1'
          have HV : Hid (badF s f (esc s k).2 = bad s i) := H1'
          clear H1'
          have hge := esc_le hlt
          have hgt := esc_gt s k
          go_wp2_with fail
          refine (peek_c s b (k) _ (k) _ (H2.out.1) ⟨by omega, by omega, by omega⟩).mono ?_
          rintro e wq ⟨rfl, nq, rfl⟩
          go_wp2_with fail
          refine (escapeBegins_c s b (k) _ (k) _ (H2.out.1.drewN _) ⟨by omega, by omega, by omega⟩).mono ?_
          rintro e wq ⟨rfl, nq, rfl⟩
          go_wp2_with fail
          refine (escape_c s b k _ (H2.out.1.drewN _) hlt).mono ?_
          rintro e w1 ⟨rfl, hwent⟩
          have W1 : Hid (Went b s (esc s k).2 w w1) := (H2.out.drewN _).trans hwent
          clear hwent
          go_wp2_with fail
          go_roundg f
          case measure => omega
          case rel => exact ⟨(esc s k).2, by omega, HV.out, W1.out⟩
theorem quoteFollows_c (s : ByteArray) (b i : Nat) (w : World) (h : Sc w b s i) :
    Calls Tryz.prog 244 #[.pointer (some ⟨b, 0, none⟩)] w fun e w' => e = .returned (.bool (quoteI (pk s (Sp.blk s i)))) ∧ Went b s i w w' := by
  have W : Hid (Went b s i w w) := Went.refl h
  have hbw := h.lt
  have hp := h.pos
  have S : Hid (Sc (w.alloc (.cells #[.string s, .int .i64 (i : Int)] 201 (0, 0))) w.heap.size s i) :=
    ⟨heap_alloc_new w _, by
      obtain ⟨m, hm⟩ := h.glob
      exact ⟨m, by rw [← hm]; exact World.cell?_of_block (w := w) (Below.heap_alloc _ _ _ (by show 0 < w.heap.size; omega))⟩, by omega, h.len, h.le⟩
  have h0 := h.c0
  have h1 := h.c1
  clear h
  go_enter Tryz.func244, Tryz.ntmps244
  go_wp2_with fail
  refine (passBlanks_c s w.heap.size i _ S.out).mono ?_
  rintro e w1 ⟨rfl, hwent⟩
  have S1 : Hid (Sc w1 w.heap.size s (Sp.blk s i)) := hwent.1
  have T1 : Hid (Turn w.heap.size (w.alloc (.cells #[.string s, .int .i64 (i : Int)] 201 (0, 0))) w1) := hwent.2
  clear hwent
  go_wp2_with fail
  refine (peek_c s w.heap.size (Sp.blk s i) _ (Sp.blk s i) _ S1.out ⟨by omega, by omega, by omega⟩).mono ?_
  rintro e wq ⟨rfl, nq, rfl⟩
  go_wp2_with fail
  refine (isQuote_c _ _).mono ?_
  rintro e wq ⟨rfl, rfl⟩
  go_wp2_with fail
  go_ret
  have hb : Below w.heap.size w w1 := ((Below.refl _ w).alloc (Nat.le_refl _) _).trans (T1.out.below (Nat.le_refl _) (by simp))
  exact ⟨rfl, (W.out.below hb).drewN _⟩
theorem link_c (s : ByteArray) (b i : Nat) (w : World) (h : Sc w b s i) :
    Calls Tryz.prog 245 #[.pointer (some ⟨b, 0, none⟩)] w fun e w' => e = .returned (tokV (link s (Sp.blk s i)).1) ∧ Went b s (link s (Sp.blk s i)).2 w w' := by
  have W := Went.nh h
  have hbw : b < w.heap.size := h.lt
  have hs : s.size ≤ 600 := h.len
  clear h
  obtain ⟨iS, hiS⟩ := info_str
  have HI : Hid (Tryz.prog.info? 9 = some iS ∧ iS.zero = some (.string ⟨#[]⟩) ∧ iS.size = 1 ∧ iS.bytes = 16) := hiS
  clear hiS
  go_enter Tryz.func245, Tryz.ntmps245
  go_wp2_with fail
  refine wp_scope_fwd (fun Q' hF => ?_)
  go_wp2_with fail
  refine (passBlanks_c s b i _ W.out.1).mono ?_
  rintro e w0 ⟨rfl, hwent⟩
  have W0 : Hid (Went b s (Sp.blk s i) w w0) := W.out.trans hwent
  have R0 : Hid (Res w0 w.heap.size) := (Res.new w).turn hwent.2 (by omega)
  clear hwent
  go_wp2_with fail
  go_loopg [3] s.size (fun g v3 wr => ∃ (v : Value) (k : Nat) (ps : List ByteArray), v = v3 ∧ s.size ≤ k + g ∧ ps.length ≤ k ∧ total ps ≤ k ∧ Aside (linkF s g k (joinB ps) = link s (Sp.blk s i) ∧ wr.ownsRow (w.heap.size + 1) 9 1 v ps.length (ps.map Value.string) ∧ Went b s k w wr ∧ Res wr w.heap.size))
  case atStart => exact ⟨_, Sp.blk s i, [], rfl, by omega, by simp, by simp [total], rfl, World.ownsRow_nil _ _ _ _, W0.out, R0.out⟩
  case round =>
    obtain ⟨v3, k, ps, rfl, hk, hpl, hpt, hA⟩ := hrel
    have H1 : Hid (linkF s gk k (joinB ps) = link s (Sp.blk s i)) := hA.out.1
    have HO : Hid (wr.ownsRow (w.heap.size + 1) 9 1 v3 ps.length (ps.map Value.string)) := hA.out.2.1
    have H2 : Hid (Went b s k w wr) := hA.out.2.2.1
    have HR : Hid (Res wr w.heap.size) := hA.out.2.2.2
    clear hA
    have c02 := H2.out.1.c0
    have c12 := H2.out.1.c1
    have cf2 := H2.out.1.f1
    have cl2 := H2.out.1.lt
    have cs2 := H2.out.1.len
    have ce2 := H2.out.1.le
    by_cases hend : s.size ≤ k
    · have e0 : (pk s k == -1) = true := by rw [pk_out hend]; rfl
      have HV : Hid (link s (Sp.blk s i) = (Tok.w 12 (joinB ps), k)) := by
        show _ = _
        rw [← H1.out]
        cases gk with
        | zero => rfl
        | succ f => unfold linkF; rw [if_pos hend]
      go_wp2_with fail
      refine (peek_c s b (k) _ (k) _ (H2.out.1) ⟨by omega, by omega, by omega⟩).mono ?_
      rintro e wq ⟨rfl, nq, rfl⟩
      go_wp2_with fail
      go_step3
      refine hF.go _ _ _ _ rfl ?_
      clear hF
      go_wp2_with fail
      refine (Join_c ps (w.heap.size + 1) v3 _ (ownsRow_drewN HO.out _) (by omega) (by omega)).mono ?_
      rintro e w5 ⟨rfl, hb5⟩
      have W5 : Hid (Went b s (k) w w5) := (H2.out.drewN _).below hb5
      have R5 : Hid (Res w5 w.heap.size) := (HR.out.drewN _).below hb5
      clear hb5
      have r0 := R5.out.c0
      have r1 := R5.out.c1
      have r2 := R5.out.c2
      have rf := R5.out.f
      have rl := R5.out.lt
      go_wp2_with fail
      try rw [Exit.noGoto_ret]
      refine bodyPost_ret (v := tokV (Tok.w 12 (joinB ps))) (by simp [results, Tryz.results245, go_sem, tokV, Tok.w, r0, r1, r2]; rfl) rfl ⟨?_, ?_⟩
      · rw [HV.out]
      · rw [HV.out]; exact ((W5.out.setO hbw (Nat.le_refl _) _ _).setO hbw (Nat.le_refl _) _ _).setO hbw (Nat.le_refl _) _ _
    · have hlt : k < s.size := by omega
      have e0 : (pk s k == -1) = false := by have := pk_nn hlt; simp; omega
      obtain ⟨f, rfl⟩ : ∃ f, gk = f + 1 := ⟨gk - 1, by omega⟩
      have H1' := H1.out
      unfold linkF at H1'
      rw [if_neg hend] at H1'
      by_cases h41 : pk s k = 41
      · have e1 : (pk s k == 41) = true := by rw [h41]; rfl
        have HV : Hid (link s (Sp.blk s i) = (Tok.w 12 (joinB ps), k + 1)) := by
          show _ = _
          rw [← H1', if_pos h41]
        clear h41 H1'
        go_wp2_with fail
        refine (peek_c s b (k) _ (k) _ (H2.out.1) ⟨by omega, by omega, by omega⟩).mono ?_
        rintro e wq ⟨rfl, nq, rfl⟩
        go_wp2_with fail
        go_step3
        refine hF.go _ _ _ _ rfl ?_
        clear hF
        go_wp2_with fail
        refine (Join_c ps (w.heap.size + 1) v3 _ (ownsRow_turn (ownsRow_drewN HO.out _) ((Turn.refl b _).setCell 1 _) (by omega)) (by omega) (by omega)).mono ?_
        rintro e w5 ⟨rfl, hb5⟩
        have W5 : Hid (Went b s (k + 1) w w5) := ((H2.out.drewN _).setv _ (k + 1) (by omega) (by omega)).below hb5
        have R5 : Hid (Res w5 w.heap.size) := ((HR.out.drewN _).set (by omega) _).below hb5
        clear hb5
        have r0 := R5.out.c0
        have r1 := R5.out.c1
        have r2 := R5.out.c2
        have rf := R5.out.f
        have rl := R5.out.lt
        go_wp2_with fail
        try rw [Exit.noGoto_ret]
        refine bodyPost_ret (v := tokV (Tok.w 12 (joinB ps))) (by simp [results, Tryz.results245, go_sem, tokV, Tok.w, r0, r1, r2]; rfl) rfl ⟨?_, ?_⟩
        · rw [HV.out]
        · rw [HV.out]; exact ((W5.out.setO hbw (Nat.le_refl _) _ _).setO hbw (Nat.le_refl _) _ _).setO hbw (Nat.le_refl _) _ _
      · have e1 : (pk s k == 41) = false := by simpa using h41
        rw [if_neg h41] at H1'
        clear h41
        cases hbl : blankI (pk s k)
        · rw [if_neg (by simp [hbl])] at H1'
          cases he : escB s k
          · rw [if_neg (by simp [he])] at H1'
            cases hsp : spoilI (pk s k)
            · rw [if_neg (by simp [hsp])] at H1'
              have HV : Hid (linkF s f (k + 1) (joinB (ps ++ [one s k])) = link s (Sp.blk s i)) := by show _ = _; rw [joinB_snoc]; exact H1'
              have hsz : Hid ((one s k).size = 1) := size_one hlt
              clear H1'
              go_wp2_with fail
              refine (peek_c s b (k) _ (k) _ (H2.out.1) ⟨by omega, by omega, by omega⟩).mono ?_
              rintro e wq ⟨rfl, nq, rfl⟩
              go_wp2_with fail
              refine (isBlank_c _ _).mono ?_
              rintro e wq ⟨rfl, rfl⟩
              go_wp2_with fail
              refine (escapeBegins_c s b (k) _ (k) _ (H2.out.1.drewN _) ⟨by omega, by omega, by omega⟩).mono ?_
              rintro e wq ⟨rfl, nq, rfl⟩
              go_wp2_with fail
              refine (spoilsLink_c _ _).mono ?_
              rintro e wq ⟨rfl, rfl⟩
              go_wp2_with fail
              refine (take_c s b k _ (H2.out.1.drewN _) hlt).mono ?_
              rintro e w1 ⟨rfl, hwent⟩
              have W1 : Hid (Went b s (k + 1) w w1) := (H2.out.drewN _).trans hwent
              have HO1 : Hid (w1.ownsRow (w.heap.size + 1) 9 1 v3 ps.length (ps.map Value.string)) := ownsRow_turn (ownsRow_drewN HO.out _) hwent.2 (by omega)
              have R1 : Hid (Res w1 w.heap.size) := (HR.out.drewN _).turn hwent.2 (by omega)
              clear hwent
              have hw1 := W1.out.2.size
              have hw2 := R1.out.lt
              go_wp2_with (at_builtin; refine wpList_append_own _ rfl _ _ 26 rfl (w.heap.size + 1) 9 iS (.string ⟨#[]⟩) 1 16 Tryz.underlying26 HI.out.1 HI.out.2.1 HI.out.2.2.1 HI.out.2.2.2 rfl (by omega) v3 ps.length (ps.map Value.string) rfl (HO1.out.alloc _) ⟨w1.heap.size, 0, none⟩ 1 1 [.string (one s k)] rfl rfl (cell_one_new _ _ _) (str_oneCell _) ?_ ?_ ?_ ?_)
              · unfold maxLen; omega
              · omega
              · simp; omega
              intro v4 w2 hown2 hgr2 _
              have W2 : Hid (Went b s (k + 1) w w2) := (W1.out.alloc _).grown hgr2 hbw (fun r hr => by have := (HO1.out.lt r hr).1; omega)
              have HO2 : Hid (w2.ownsRow (w.heap.size + 1) 9 1 v4 (ps.length + 1) (ps.map Value.string ++ [.string (one s k)])) := hown2
              have R2 : Hid (Res w2 w.heap.size) := (R1.out.alloc _).grown hgr2 (fun r hr => by have := (HO1.out.lt r hr).1; omega)
              clear hown2 hgr2
              go_wp2_with fail
              go_roundg f
              case measure => omega
              case rel =>
                refine ⟨v4, k + 1, ps ++ [one s k], rfl, by omega, by simp; omega, ?_, HV.out, ?_, W2.out, R2.out⟩
                · have := hsz.out; simp [total_append, total, this]; omega
                · simpa using HO2.out
            · rw [if_pos hsp] at H1'
              have HV : Hid (link s (Sp.blk s i) = (Tok.k 13, bad s k)) := H1'.symm
              clear H1'
              go_wp2_with fail
              refine (peek_c s b (k) _ (k) _ (H2.out.1) ⟨by omega, by omega, by omega⟩).mono ?_
              rintro e wq ⟨rfl, nq, rfl⟩
              go_wp2_with fail
              refine (isBlank_c _ _).mono ?_
              rintro e wq ⟨rfl, rfl⟩
              go_wp2_with fail
              refine (escapeBegins_c s b (k) _ (k) _ (H2.out.1.drewN _) ⟨by omega, by omega, by omega⟩).mono ?_
              rintro e wq ⟨rfl, nq, rfl⟩
              go_wp2_with fail
              refine (spoilsLink_c _ _).mono ?_
              rintro e wq ⟨rfl, rfl⟩
              go_wp2_with fail
              go_step3
              refine hF.go _ _ _ _ rfl ?_
              clear hF
              go_wp2_with fail
              refine (passBadLink_c s b (k) _ ((H2.out.drewN _)).1).mono ?_
              rintro e w5 ⟨rfl, hwent⟩
              have W5 : Hid (Went b s (bad s (k)) w w5) := ((H2.out.drewN _)).trans hwent
              have R5 : Hid (Res w5 w.heap.size) := ((HR.out.drewN _)).turn hwent.2 (by omega)
              clear hwent
              have r0 := R5.out.c0
              have r1 := R5.out.c1
              have r2 := R5.out.c2
              have rf := R5.out.f
              have rl := R5.out.lt
              go_wp2_with fail
              try rw [Exit.noGoto_ret]
              refine bodyPost_ret (v := tokV (Tok.k 13)) (by simp [results, Tryz.results245, go_sem, tokV, Tok.k, r0, r1, r2]; rfl) rfl ⟨?_, ?_⟩
              · rw [HV.out]
              · rw [HV.out]; exact ((W5.out.setO hbw (Nat.le_refl _) _ _).setO hbw (Nat.le_refl _) _ _).setO hbw (Nat.le_refl _) _ _
          · rw [if_pos he] at H1'
            have hge := esc_le hlt
            have hgt := esc_gt s k
            have HV : Hid (linkF s f (esc s k).2 (joinB (ps ++ [(esc s k).1])) = link s (Sp.blk s i)) := by show _ = _; rw [joinB_snoc]; exact H1'
            have hsz : Hid ((esc s k).1.size = 1) := size_esc
            clear H1'
            go_wp2_with fail
            refine (peek_c s b (k) _ (k) _ (H2.out.1) ⟨by omega, by omega, by omega⟩).mono ?_
            rintro e wq ⟨rfl, nq, rfl⟩
            go_wp2_with fail
            refine (isBlank_c _ _).mono ?_
            rintro e wq ⟨rfl, rfl⟩
            go_wp2_with fail
            refine (escapeBegins_c s b (k) _ (k) _ (H2.out.1.drewN _) ⟨by omega, by omega, by omega⟩).mono ?_
            rintro e wq ⟨rfl, nq, rfl⟩
            go_wp2_with fail
            refine (escape_c s b k _ (H2.out.1.drewN _) hlt).mono ?_
            rintro e w1 ⟨rfl, hwent⟩
            have W1 : Hid (Went b s ((esc s k).2) w w1) := (H2.out.drewN _).trans hwent
            have HO1 : Hid (w1.ownsRow (w.heap.size + 1) 9 1 v3 ps.length (ps.map Value.string)) := ownsRow_turn (ownsRow_drewN HO.out _) hwent.2 (by omega)
            have R1 : Hid (Res w1 w.heap.size) := (HR.out.drewN _).turn hwent.2 (by omega)
            clear hwent
            have hw1 := W1.out.2.size
            have hw2 := R1.out.lt
            go_wp2_with (at_builtin; refine wpList_append_own _ rfl _ _ 26 rfl (w.heap.size + 1) 9 iS (.string ⟨#[]⟩) 1 16 Tryz.underlying26 HI.out.1 HI.out.2.1 HI.out.2.2.1 HI.out.2.2.2 rfl (by omega) v3 ps.length (ps.map Value.string) rfl (HO1.out.alloc _) ⟨w1.heap.size, 0, none⟩ 1 1 [.string ((esc s k).1)] rfl rfl (cell_one_new _ _ _) (str_oneCell _) ?_ ?_ ?_ ?_)
            · unfold maxLen; omega
            · omega
            · simp; omega
            intro v4 w2 hown2 hgr2 _
            have W2 : Hid (Went b s ((esc s k).2) w w2) := (W1.out.alloc _).grown hgr2 hbw (fun r hr => by have := (HO1.out.lt r hr).1; omega)
            have HO2 : Hid (w2.ownsRow (w.heap.size + 1) 9 1 v4 (ps.length + 1) (ps.map Value.string ++ [.string ((esc s k).1)])) := hown2
            have R2 : Hid (Res w2 w.heap.size) := (R1.out.alloc _).grown hgr2 (fun r hr => by have := (HO1.out.lt r hr).1; omega)
            clear hown2 hgr2
            go_wp2_with fail
            go_roundg f
            case measure => omega
            case rel =>
              refine ⟨v4, (esc s k).2, ps ++ [(esc s k).1], rfl, by omega, by simp; omega, ?_, HV.out, ?_, W2.out, R2.out⟩
              · have := hsz.out; simp [total_append, total, this]; omega
              · simpa using HO2.out
        · rw [if_pos hbl] at H1'
          have hbg := blk_gt hbl
          have hble := blk_le (s := s) (i := k) (by omega)
          generalize hkb : Sp.blk s k = kb at *
          have HKB : Hid (Sp.blk s k = kb) := hkb
          clear hkb
          by_cases hbe : s.size ≤ kb
          · have hnone : (pk s kb != -1) = false := by rw [pk_out hbe]; rfl
            have hn41 : (pk s kb != 41) = true := by rw [pk_out hbe]; rfl
            rw [if_pos hbe] at H1'
            have HV : Hid (linkF s f kb (joinB ps) = link s (Sp.blk s i)) := by
              show _ = _
              rw [← H1']
              cases f with
              | zero => rfl
              | succ f' => unfold linkF; rw [if_pos hbe]
            clear H1'
            go_wp2_with fail
            refine (peek_c s b (k) _ (k) _ (H2.out.1) ⟨by omega, by omega, by omega⟩).mono ?_
            rintro e wq ⟨rfl, nq, rfl⟩
            go_wp2_with fail
            refine (isBlank_c _ _).mono ?_
            rintro e wq ⟨rfl, rfl⟩
            go_wp2_with fail
            refine (passBlanks_c s b k _ (H2.out.1.drewN _)).mono ?_
            rintro e w1 ⟨rfl, hwent⟩
            have W1 : Hid (Went b s kb w w1) := by have := (H2.out.drewN _).trans hwent; rw [HKB.out] at this; exact this
            have HO1 : Hid (w1.ownsRow (w.heap.size + 1) 9 1 v3 ps.length (ps.map Value.string)) := ownsRow_turn (ownsRow_drewN HO.out _) hwent.2 (by omega)
            have R1 : Hid (Res w1 w.heap.size) := (HR.out.drewN _).turn hwent.2 (by omega)
            clear hwent
            go_wp2_with fail
            refine (peek_c s b (kb) _ (kb) _ (W1.out.1) ⟨by omega, by omega, by omega⟩).mono ?_
            rintro e wq ⟨rfl, nq, rfl⟩
            go_wp2_with fail
            refine (peek_c s b (kb) _ (kb) _ (W1.out.1.drewN _) ⟨by omega, by omega, by omega⟩).mono ?_
            rintro e wq ⟨rfl, nq, rfl⟩
            go_wp2_with fail
            go_roundg f
            case measure => omega
            case rel => exact ⟨v3, kb, ps, rfl, by omega, by omega, by omega, HV.out, ownsRow_drewN HO1.out _, W1.out.drewN _, R1.out.drewN _⟩
          · have hlb : kb < s.size := by omega
            have hnone : (pk s kb != -1) = true := by have := pk_nn hlb; simp; omega
            rw [if_neg hbe] at H1'
            by_cases hb41 : pk s kb = 41
            · have hn41 : (pk s kb != 41) = false := by rw [hb41]; rfl
              rw [if_pos hb41] at H1'
              have HV : Hid (linkF s f kb (joinB ps) = link s (Sp.blk s i)) := by
                show _ = _
                rw [← H1']
                obtain ⟨f', rfl⟩ : ∃ f', f = f' + 1 := ⟨f - 1, by omega⟩
                unfold linkF; rw [if_neg hbe, if_pos hb41]
              clear H1' hb41
              go_wp2_with fail
              refine (peek_c s b (k) _ (k) _ (H2.out.1) ⟨by omega, by omega, by omega⟩).mono ?_
              rintro e wq ⟨rfl, nq, rfl⟩
              go_wp2_with fail
              refine (isBlank_c _ _).mono ?_
              rintro e wq ⟨rfl, rfl⟩
              go_wp2_with fail
              refine (passBlanks_c s b k _ (H2.out.1.drewN _)).mono ?_
              rintro e w1 ⟨rfl, hwent⟩
              have W1 : Hid (Went b s kb w w1) := by have := (H2.out.drewN _).trans hwent; rw [HKB.out] at this; exact this
              have HO1 : Hid (w1.ownsRow (w.heap.size + 1) 9 1 v3 ps.length (ps.map Value.string)) := ownsRow_turn (ownsRow_drewN HO.out _) hwent.2 (by omega)
              have R1 : Hid (Res w1 w.heap.size) := (HR.out.drewN _).turn hwent.2 (by omega)
              clear hwent
              go_wp2_with fail
              refine (peek_c s b (kb) _ (kb) _ (W1.out.1) ⟨by omega, by omega, by omega⟩).mono ?_
              rintro e wq ⟨rfl, nq, rfl⟩
              go_wp2_with fail
              go_roundg f
              case measure => omega
              case rel => exact ⟨v3, kb, ps, rfl, by omega, by omega, by omega, HV.out, ownsRow_drewN HO1.out _, W1.out.drewN _, R1.out.drewN _⟩
            · have hn41 : (pk s kb != 41) = true := by simpa using hb41
              rw [if_neg hb41] at H1'
              have HV : Hid (link s (Sp.blk s i) = (Tok.k 13, bad s kb)) := H1'.symm
              clear H1' hb41
              go_wp2_with fail
              refine (peek_c s b (k) _ (k) _ (H2.out.1) ⟨by omega, by omega, by omega⟩).mono ?_
              rintro e wq ⟨rfl, nq, rfl⟩
              go_wp2_with fail
              refine (isBlank_c _ _).mono ?_
              rintro e wq ⟨rfl, rfl⟩
              go_wp2_with fail
              refine (passBlanks_c s b k _ (H2.out.1.drewN _)).mono ?_
              rintro e w1 ⟨rfl, hwent⟩
              have W1 : Hid (Went b s kb w w1) := by have := (H2.out.drewN _).trans hwent; rw [HKB.out] at this; exact this
              have HO1 : Hid (w1.ownsRow (w.heap.size + 1) 9 1 v3 ps.length (ps.map Value.string)) := ownsRow_turn (ownsRow_drewN HO.out _) hwent.2 (by omega)
              have R1 : Hid (Res w1 w.heap.size) := (HR.out.drewN _).turn hwent.2 (by omega)
              clear hwent
              go_wp2_with fail
              refine (peek_c s b (kb) _ (kb) _ (W1.out.1) ⟨by omega, by omega, by omega⟩).mono ?_
              rintro e wq ⟨rfl, nq, rfl⟩
              go_wp2_with fail
              refine (peek_c s b (kb) _ (kb) _ (W1.out.1.drewN _) ⟨by omega, by omega, by omega⟩).mono ?_
              rintro e wq ⟨rfl, nq, rfl⟩
              go_wp2_with fail
              go_step3
              refine hF.go _ _ _ _ rfl ?_
              clear hF
              go_wp2_with fail
              refine (passBadLink_c s b (kb) _ ((W1.out.drewN _)).1).mono ?_
              rintro e w5 ⟨rfl, hwent⟩
              have W5 : Hid (Went b s (bad s (kb)) w w5) := ((W1.out.drewN _)).trans hwent
              have R5 : Hid (Res w5 w.heap.size) := ((R1.out.drewN _)).turn hwent.2 (by omega)
              clear hwent
              have r0 := R5.out.c0
              have r1 := R5.out.c1
              have r2 := R5.out.c2
              have rf := R5.out.f
              have rl := R5.out.lt
              go_wp2_with fail
              try rw [Exit.noGoto_ret]
              refine bodyPost_ret (v := tokV (Tok.k 13)) (by simp [results, Tryz.results245, go_sem, tokV, Tok.k, r0, r1, r2]; rfl) rfl ⟨?_, ?_⟩
              · rw [HV.out]
              · rw [HV.out]; exact ((W5.out.setO hbw (Nat.le_refl _) _ _).setO hbw (Nat.le_refl _) _ _).setO hbw (Nat.le_refl _) _ _
end Go.Proofs.YtlliliddljkbfaaGreat
