import Derived.Test.YtlliliddljkbfaaGreatC7
import Derived.Test.YtlliliddljkbfaaGreatC8
import Derived.Test.YtlliliddljkbfaaGreatC12
namespace Go.Proofs.YtlliliddljkbfaaGreat
set_option maxHeartbeats 64000000
set_option maxRecDepth 100000
open Go.RowKit Sp
theorem link_c (s : ByteArray) (b i : Nat) (w : World) (h : Sc w b s i) :
    Calls Tryz.prog 245 #[.pointer (some ⟨b, 0, none⟩)] w fun e w' => e = .returned (tokV (link s (Sp.blk s i)).1) ∧ Went b s (link s (Sp.blk s i)).2 w w' := by
  have W := Went.nh h
  have hbw : b < w.heap.size := h.lt
  have hs : s.size ≤ 600 := h.len
  clear h
  obtain ⟨iS, hiS⟩ := info_str
  have HI : Hid (Tryz.prog.info? 9 = some iS ∧ iS.zero = some (.string ⟨#[]⟩) ∧ iS.size = 1 ∧ iS.bytes = 16) := hiS
  clear hiS
  go_enter Tryz.func245, Tryz.ntmps245
  go_wp2_with fail
  refine wp_scope_fwd (fun Q' hF => ?_)
  go_wp2_with fail
  refine (passBlanks_c s b i _ W.out.1).mono ?_
  rintro e w0 ⟨rfl, hwent⟩
  have W0 : Hid (Went b s (Sp.blk s i) w w0) := W.out.trans hwent
  have R0 : Hid (Res w0 w.heap.size) := (Res.new w).turn hwent.2 (by omega)
  clear hwent
  go_wp2_with fail
  go_loopg [3] s.size (fun g v3 wr => ∃ (v : Value) (k : Nat) (ps : List ByteArray), v = v3 ∧ s.size ≤ k + g ∧ ps.length ≤ k ∧ total ps ≤ k ∧ Aside (linkF s g k (joinB ps) = link s (Sp.blk s i) ∧ wr.ownsRow (w.heap.size + 1) 9 1 v ps.length (ps.map Value.string) ∧ Went b s k w wr ∧ Res wr w.heap.size))
  case atStart => exact ⟨_, Sp.blk s i, [], rfl, by omega, by simp, by simp [total], rfl, World.ownsRow_nil _ _ _ _, W0.out, R0.out⟩
  case round =>
    obtain ⟨v3, k, ps, rfl, hk, hpl, hpt, hA⟩ := hrel
    have H1 : Hid (linkF s gk k (joinB ps) = link s (Sp.blk s i)) := hA.out.1
    have HO : Hid (wr.ownsRow (w.heap.size + 1) 9 1 v3 ps.length (ps.map Value.string)) := hA.out.2.1
    have H2 : Hid (Went b s k w wr) := hA.out.2.2.1
    have HR : Hid (Res wr w.heap.size) := hA.out.2.2.2
    clear hA
    have c02 := H2.out.1.c0
    have c12 := H2.out.1.c1
    have cf2 := H2.out.1.f1
    have cl2 := H2.out.1.lt
    have cs2 := H2.out.1.len
    have ce2 := H2.out.1.le
    by_cases hend : s.size ≤ k
    · have e0 : (pk s k == -1) = true := by rw [pk_out hend]; rfl
      have HV : Hid (link s (Sp.blk s i) = (Tok.w 12 (joinB ps), k)) := by
        show _ = _
        rw [← H1.out]
        cases gk with
        | zero => rfl
        | succ f => unfold linkF; rw [if_pos hend]
      go_wp2_with fail
      refine (peek_c s b (k) _ (k) _ (H2.out.1) ⟨by omega, by omega, by omega⟩).mono ?_
      rintro e wq ⟨rfl, nq, rfl⟩
      go_wp2_with fail
      go_step3
      refine hF.go _ _ _ _ rfl ?_
      clear hF
      go_wp2_with fail
      refine (Join_c ps (w.heap.size + 1) v3 _ (ownsRow_drewN HO.out _) (by omega) (by omega)).mono ?_
      rintro e w5 ⟨rfl, hb5⟩
      have W5 : Hid (Went b s (k) w w5) := (H2.out.drewN _).below hb5
      have R5 : Hid (Res w5 w.heap.size) := (HR.out.drewN _).below hb5
      clear hb5
      have r0 := R5.out.c0
      have r1 := R5.out.c1
      have r2 := R5.out.c2
      have rf := R5.out.f
      have rl := R5.out.lt
      go_wp2_with fail
      try rw [Exit.noGoto_ret]
      refine bodyPost_ret (v := tokV (Tok.w 12 (joinB ps))) (by simp [results, Tryz.results245, go_sem, tokV, Tok.w, r0, r1, r2]; rfl) rfl ⟨?_, ?_⟩
      · rw [HV.out]
      · rw [HV.out]; exact ((W5.out.setO hbw (Nat.le_refl _) _ _).setO hbw (Nat.le_refl _) _ _).setO hbw (Nat.le_refl _) _ _
    · have hlt : k < s.size := by omega
      have e0 : (pk s k == -1) = false := by have := pk_nn hlt; simp; omega
      obtain ⟨f, rfl⟩ : ∃ f, gk = f + 1 := ⟨gk - 1, by omega⟩
      have H1' := H1.out
      unfold linkF at H1'
      rw [if_neg hend] at H1'
      by_cases h41 : pk s k = 41
      · have e1 : (pk s k == 41) = true := by rw [h41]; rfl
        have HV : Hid (link s (Sp.blk s i) = (Tok.w 12 (joinB ps), k + 1)) := by
          show _ = _
          rw [← H1', if_pos h41]
        clear h41 H1'
        go_wp2_with fail
        refine (peek_c s b (k) _ (k) _ (H2.out.1) ⟨by omega, by omega, by omega⟩).mono ?_
        rintro e wq ⟨rfl, nq, rfl⟩
        go_wp2_with fail
        go_step3
        refine hF.go _ _ _ _ rfl ?_
        clear hF
        go_wp2_with fail
        refine (Join_c ps (w.heap.size + 1) v3 _ (ownsRow_turn (ownsRow_drewN HO.out _) ((Turn.refl b _).setCell 1 _) (by omega)) (by omega) (by omega)).mono ?_
        rintro e w5 ⟨rfl, hb5⟩
        have W5 : Hid (Went b s (k + 1) w w5) := ((H2.out.drewN _).setv _ (k + 1) (by omega) (by omega)).below hb5
        have R5 : Hid (Res w5 w.heap.size) := ((HR.out.drewN _).set (by omega) _).below hb5
        clear hb5
        have r0 := R5.out.c0
        have r1 := R5.out.c1
        have r2 := R5.out.c2
        have rf := R5.out.f
        have rl := R5.out.lt
        go_wp2_with fail
        try rw [Exit.noGoto_ret]
        refine bodyPost_ret (v := tokV (Tok.w 12 (joinB ps))) (by simp [results, Tryz.results245, go_sem, tokV, Tok.w, r0, r1, r2]; rfl) rfl ⟨?_, ?_⟩
        · rw [HV.out]
        · rw [HV.out]; exact ((W5.out.setO hbw (Nat.le_refl _) _ _).setO hbw (Nat.le_refl _) _ _).setO hbw (Nat.le_refl _) _ _
      · have e1 : (pk s k == 41) = false := by simpa using h41
        rw [if_neg h41] at H1'
        clear h41
        cases hbl : blankI (pk s k)
        · rw [if_neg (by simp [hbl])] at H1'
          cases he : escB s k
          · rw [if_neg (by simp [he])] at H1'
            cases hsp : spoilI (pk s k)
            · rw [if_neg (by simp [hsp])] at H1'
              have HV : Hid (linkF s f (k + 1) (joinB (ps ++ [one s k])) = link s (Sp.blk s i)) := by show _ = _; rw [joinB_snoc]; exact H1'
              have hsz : Hid ((one s k).size = 1) := size_one hlt
              clear H1'
              go_wp2_with fail
              refine (peek_c s b (k) _ (k) _ (H2.out.1) ⟨by omega, by omega, by omega⟩).mono ?_
              rintro e wq ⟨rfl, nq, rfl⟩
              go_wp2_with fail
              refine (isBlank_c _ _).mono ?_
              rintro e wq ⟨rfl, rfl⟩
              go_wp2_with fail
              refine (escapeBegins_c s b (k) _ (k) _ (H2.out.1.drewN _) ⟨by omega, by omega, by omega⟩).mono ?_
              rintro e wq ⟨rfl, nq, rfl⟩
              go_wp2_with fail
              refine (spoilsLink_c _ _).mono ?_
              rintro e wq ⟨rfl, rfl⟩
              go_wp2_with fail
              refine (take_c s b k _ (H2.out.1.drewN _) hlt).mono ?_
              rintro e w1 ⟨rfl, hwent⟩
              have W1 : Hid (Went b s (k + 1) w w1) := (H2.out.drewN _).trans hwent
              have HO1 : Hid (w1.ownsRow (w.heap.size + 1) 9 1 v3 ps.length (ps.map Value.string)) := ownsRow_turn (ownsRow_drewN HO.out _) hwent.2 (by omega)
              have R1 : Hid (Res w1 w.heap.size) := (HR.out.drewN _).turn hwent.2 (by omega)
              clear hwent
              have hw1 := W1.out.2.size
              have hw2 := R1.out.lt
              go_wp2_with (at_builtin; refine wpList_append_own _ rfl _ _ 26 rfl (w.heap.size + 1) 9 iS (.string ⟨#[]⟩) 1 16 Tryz.underlying26 HI.out.1 HI.out.2.1 HI.out.2.2.1 HI.out.2.2.2 rfl (by omega) v3 ps.length (ps.map Value.string) rfl (HO1.out.alloc _) ⟨w1.heap.size, 0, none⟩ 1 1 [.string (one s k)] rfl rfl (cell_one_new _ _ _) (str_oneCell _) ?_ ?_ ?_ ?_)
              · unfold maxLen; omega
              · omega
              · simp; omega
              intro v4 w2 hown2 hgr2 _
              have W2 : Hid (Went b s (k + 1) w w2) := (W1.out.alloc _).grown hgr2 hbw (fun r hr => by have := (HO1.out.lt r hr).1; omega)
              have HO2 : Hid (w2.ownsRow (w.heap.size + 1) 9 1 v4 (ps.length + 1) (ps.map Value.string ++ [.string (one s k)])) := hown2
              have R2 : Hid (Res w2 w.heap.size) := (R1.out.alloc _).grown hgr2 (fun r hr => by have := (HO1.out.lt r hr).1; omega)
              clear hown2 hgr2
              go_wp2_with fail
              go_roundg f
              case measure => omega
              case rel =>
                refine ⟨v4, k + 1, ps ++ [one s k], rfl, by omega, by simp; omega, ?_, HV.out, ?_, W2.out, R2.out⟩
                · have := hsz.out; simp [total_append, total, this]; omega
                · simpa using HO2.out
            · rw [if_pos hsp] at H1'
              have HV : Hid (link s (Sp.blk s i) = (Tok.k 13, bad s k)) := H1'.symm
              clear H1'
              go_wp2_with fail
              refine (peek_c s b (k) _ (k) _ (H2.out.1) ⟨by omega, by omega, by omega⟩).mono ?_
              rintro e wq ⟨rfl, nq, rfl⟩
              go_wp2_with fail
              refine (isBlank_c _ _).mono ?_
              rintro e wq ⟨rfl, rfl⟩
              go_wp2_with fail
              refine (escapeBegins_c s b (k) _ (k) _ (H2.out.1.drewN _) ⟨by omega, by omega, by omega⟩).mono ?_
              rintro e wq ⟨rfl, nq, rfl⟩
              go_wp2_with fail
              refine (spoilsLink_c _ _).mono ?_
              rintro e wq ⟨rfl, rfl⟩
              go_wp2_with fail
              go_step3
              refine hF.go _ _ _ _ rfl ?_
              clear hF
              go_wp2_with fail
              refine (passBadLink_c s b (k) _ ((H2.out.drewN _)).1).mono ?_
              rintro e w5 ⟨rfl, hwent⟩
              have W5 : Hid (Went b s (bad s (k)) w w5) := ((H2.out.drewN _)).trans hwent
              have R5 : Hid (Res w5 w.heap.size) := ((HR.out.drewN _)).turn hwent.2 (by omega)
              clear hwent
              have r0 := R5.out.c0
              have r1 := R5.out.c1
              have r2 := R5.out.c2
              have rf := R5.out.f
              have rl := R5.out.lt
              go_wp2_with fail
              try rw [Exit.noGoto_ret]
              refine bodyPost_ret (v := tokV (Tok.k 13)) (by simp [results, Tryz.results245, go_sem, tokV, Tok.k, r0, r1, r2]; rfl) rfl ⟨?_, ?_⟩
              · rw [HV.out]
              · rw [HV.out]; exact ((W5.out.setO hbw (Nat.le_refl _) _ _).setO hbw (Nat.le_refl _) _ _).setO hbw (Nat.le_refl _) _ _
          · rw [if_pos he] at H1'
            have hge := esc_le hlt
            have hgt := esc_gt s k
            have HV : Hid (linkF s f (esc s k).2 (joinB (ps ++ [(esc s k).1])) = link s (Sp.blk s i)) := by show _ = _; rw [joinB_snoc]; exact H1'
            have hsz : Hid ((esc s k).1.size = 1) := size_esc
            clear H1'
            go_wp2_with fail
            refine (peek_c s b (k) _ (k) _ (H2.out.1) ⟨by omega, by omega, by omega⟩).mono ?_
            rintro e wq ⟨rfl, nq, rfl⟩
            go_wp2_with fail
            refine (isBlank_c _ _).mono ?_
            rintro e wq ⟨rfl, rfl⟩
            go_wp2_with fail
            refine (escapeBegins_c s b (k) _ (k) _ (H2.out.1.drewN _) ⟨by omega, by omega, by omega⟩).mono ?_
            rintro e wq ⟨rfl, nq, rfl⟩
            go_wp2_with fail
            refine (escape_c s b k _ (H2.out.1.drewN _) hlt).mono ?_
            rintro e w1 ⟨rfl, hwent⟩
            have W1 : Hid (Went b s ((esc s k).2) w w1) := (H2.out.drewN _).trans hwent
            have HO1 : Hid (w1.ownsRow (w.heap.size + 1) 9 1 v3 ps.length (ps.map Value.string)) := ownsRow_turn (ownsRow_drewN HO.out _) hwent.2 (by omega)
            have R1 : Hid (Res w1 w.heap.size) := (HR.out.drewN _).turn hwent.2 (by omega)
            clear hwent
            have hw1 := W1.out.2.size
            have hw2 := R1.out.lt
            go_wp2_with (at_builtin; refine wpList_append_own _ rfl _ _ 26 rfl (w.heap.size + 1) 9 iS (.string ⟨#[]⟩) 1 16 Tryz.underlying26 HI.out.1 HI.out.2.1 HI.out.2.2.1 HI.out.2.2.2 rfl (by omega) v3 ps.length (ps.map Value.string) rfl (HO1.out.alloc _) ⟨w1.heap.size, 0, none⟩ 1 1 [.string ((esc s k).1)] rfl rfl (cell_one_new _ _ _) (str_oneCell _) ?_ ?_ ?_ ?_)
            · unfold maxLen; omega
            · omega
            · simp; omega
            intro v4 w2 hown2 hgr2 _
            have W2 : Hid (Went b s ((esc s k).2) w w2) := (W1.out.alloc _).grown hgr2 hbw (fun r hr => by have := (HO1.out.lt r hr).1; omega)
            have HO2 : Hid (w2.ownsRow (w.heap.size + 1) 9 1 v4 (ps.length + 1) (ps.map Value.string ++ [.string ((esc s k).1)])) := hown2
            have R2 : Hid (Res w2 w.heap.size) := (R1.out.alloc _).grown hgr2 (fun r hr => by have := (HO1.out.lt r hr).1; omega)
            clear hown2 hgr2
            go_wp2_with fail
            go_roundg f
            case measure => omega
            case rel =>
              refine ⟨v4, (esc s k).2, ps ++ [(esc s k).1], rfl, by omega, by simp; omega, ?_, HV.out, ?_, W2.out, R2.out⟩
              · have := hsz.out; simp [total_append, total, this]; omega
              · simpa using HO2.out
        · rw [if_pos hbl] at H1'
          have hbg := blk_gt hbl
          have hble := blk_le (s := s) (i := k) (by omega)
          generalize hkb : Sp.blk s k = kb at *
          have HKB : Hid (Sp.blk s k = kb) := hkb
          clear hkb
          by_cases hbe : s.size ≤ kb
          · have hnone : (pk s kb != -1) = false := by rw [pk_out hbe]; rfl
            have hn41 : (pk s kb != 41) = true := by rw [pk_out hbe]; rfl
            rw [if_pos hbe] at H1'
            have HV : Hid (linkF s f kb (joinB ps) = link s (Sp.blk s i)) := by
              show _ = _
              rw [← H1']
              cases f with
              | zero => rfl
              | succ f' => unfold linkF; rw [if_pos hbe]
            clear H1'
            go_wp2_with fail
            refine (peek_c s b (k) _ (k) _ (H2.out.1) ⟨by omega, by omega, by omega⟩).mono ?_
            rintro e wq ⟨rfl, nq, rfl⟩
            go_wp2_with fail
            refine (isBlank_c _ _).mono ?_
            rintro e wq ⟨rfl, rfl⟩
            go_wp2_with fail
            refine (passBlanks_c s b k _ (H2.out.1.drewN _)).mono ?_
            rintro e w1 ⟨rfl, hwent⟩
            have W1 : Hid (Went b s kb w w1) := by have := (H2.out.drewN _).trans hwent; rw [HKB.out] at this; exact this
            have HO1 : Hid (w1.ownsRow (w.heap.size + 1) 9 1 v3 ps.length (ps.map Value.string)) := ownsRow_turn (ownsRow_drewN HO.out _) hwent.2 (by omega)
            have R1 : Hid (Res w1 w.heap.size) := (HR.out.drewN _).turn hwent.2 (by omega)
            clear hwent
            go_wp2_with fail
            refine (peek_c s b (kb) _ (kb) _ (W1.out.1) ⟨by omega, by omega, by omega⟩).mono ?_
            rintro e wq ⟨rfl, nq, rfl⟩
            go_wp2_with fail
            refine (peek_c s b (kb) _ (kb) _ (W1.out.1.drewN _) ⟨by omega, by omega, by omega⟩).mono ?_
            rintro e wq ⟨rfl, nq, rfl⟩
            go_wp2_with fail
            go_roundg f
            case measure => omega
            case rel => exact ⟨v3, kb, ps, rfl, by omega, by omega, by omega, HV.out, ownsRow_drewN HO1.out _, W1.out.drewN _, R1.out.drewN _⟩
          · have hlb : kb < s.size := by omega
            have hnone : (pk s kb != -1) = true := by have := pk_nn hlb; simp; omega
            rw [if_neg hbe] at H1'
            by_cases hb41 : pk s kb = 41
            · have hn41 : (pk s kb != 41) = false := by rw [hb41]; rfl
              rw [if_pos hb41] at H1'
              have HV : Hid (linkF s f kb (joinB ps) = link s (Sp.blk s i)) := by
                show _ = _
                rw [← H1']
                obtain ⟨f', rfl⟩ : ∃ f', f = f' + 1 := ⟨f - 1, by omega⟩
                unfold linkF; rw [if_neg hbe, if_pos hb41]
              clear H1' hb41
              go_wp2_with fail
              refine (peek_c s b (k) _ (k) _ (H2.out.1) ⟨by omega, by omega, by omega⟩).mono ?_
              rintro e wq ⟨rfl, nq, rfl⟩
              go_wp2_with fail
              refine (isBlank_c _ _).mono ?_
              rintro e wq ⟨rfl, rfl⟩
              go_wp2_with fail
              refine (passBlanks_c s b k _ (H2.out.1.drewN _)).mono ?_
              rintro e w1 ⟨rfl, hwent⟩
              have W1 : Hid (Went b s kb w w1) := by have := (H2.out.drewN _).trans hwent; rw [HKB.out] at this; exact this
              have HO1 : Hid (w1.ownsRow (w.heap.size + 1) 9 1 v3 ps.length (ps.map Value.string)) := ownsRow_turn (ownsRow_drewN HO.out _) hwent.2 (by omega)
              have R1 : Hid (Res w1 w.heap.size) := (HR.out.drewN _).turn hwent.2 (by omega)
              clear hwent
              go_wp2_with fail
              refine (peek_c s b (kb) _ (kb) _ (W1.out.1) ⟨by omega, by omega, by omega⟩).mono ?_
              rintro e wq ⟨rfl, nq, rfl⟩
              go_wp2_with fail
              go_roundg f
              case measure => omega
              case rel => exact ⟨v3, kb, ps, rfl, by omega, by omega, by omega, HV.out, ownsRow_drewN HO1.out _, W1.out.drewN _, R1.out.drewN _⟩
            · have hn41 : (pk s kb != 41) = true := by simpa using hb41
              rw [if_neg hb41] at H1'
              have HV : Hid (link s (Sp.blk s i) = (Tok.k 13, bad s kb)) := H1'.symm
              clear H1' hb41
              go_wp2_with fail
              refine (peek_c s b (k) _ (k) _ (H2.out.1) ⟨by omega, by omega, by omega⟩).mono ?_
              rintro e wq ⟨rfl, nq, rfl⟩
              go_wp2_with fail
              refine (isBlank_c _ _).mono ?_
              rintro e wq ⟨rfl, rfl⟩
              go_wp2_with fail
              refine (passBlanks_c s b k _ (H2.out.1.drewN _)).mono ?_
              rintro e w1 ⟨rfl, hwent⟩
              have W1 : Hid (Went b s kb w w1) := by have := (H2.out.drewN _).trans hwent; rw [HKB.out] at this; exact this
              have HO1 : Hid (w1.ownsRow (w.heap.size + 1) 9 1 v3 ps.length (ps.map Value.string)) := ownsRow_turn (ownsRow_drewN HO.out _) hwent.2 (by omega)
              have R1 : Hid (Res w1 w.heap.size) := (HR.out.drewN _).turn hwent.2 (by omega)
              clear hwent
              go_wp2_with fail
              refine (peek_c s b (kb) _ (kb) _ (W1.out.1) ⟨by omega, by omega, by omega⟩).mono ?_
              rintro e wq ⟨rfl, nq, rfl⟩
              go_wp2_with fail
              refine (peek_c s b (kb) _ (kb) _ (W1.out.1.drewN _) ⟨by omega, by omega, by omega⟩).mono ?_
              rintro e wq ⟨rfl, nq, rfl⟩
              go_wp2_with fail
              go_step3
              refine hF.go _ _ _ _ rfl ?_
              clear hF
              go_wp2_with fail
              refine (passBadLink_c s b (kb) _ ((W1.out.drewN _)).1).mono ?_
              rintro e w5 ⟨rfl, hwent⟩
              have W5 : Hid (Went b s (bad s (kb)) w w5) := ((W1.out.drewN _)).trans hwent
              have R5 : Hid (Res w5 w.heap.size) := ((R1.out.drewN _)).turn hwent.2 (by omega)
              clear hwent
              have r0 := R5.out.c0
              have r1 := R5.out.c1
              have r2 := R5.out.c2
              have rf := R5.out.f
              have rl := R5.out.lt
              go_wp2_with fail
              try rw [Exit.noGoto_ret]
              refine bodyPost_ret (v := tokV (Tok.k 13)) (by simp [results, Tryz.results245, go_sem, tokV, Tok.k, r0, r1, r2]; rfl) rfl ⟨?_, ?_⟩
              · rw [HV.out]
              · rw [HV.out]; exact ((W5.out.setO hbw (Nat.le_refl _) _ _).setO hbw (Nat.le_refl _) _ _).setO hbw (Nat.le_refl _) _ _
theorem nameF_size (s : ByteArray) : ∀ f i acc, i ≤ s.size → (nameF s f i acc).1.size + i ≤ acc.size + (nameF s f i acc).2
  | 0, i, acc, h => Nat.le_refl _
  | f + 1, i, acc, h => by
    unfold nameF
    split
    · rename_i h1
      have hl := pk_lt (name_nn h1)
      have := nameF_size s f (i + 1) (acc ++ one s i) (by omega)
      have h2 := size_one hl
      rw [ByteArray.size_append, h2] at this
      omega
    · split
      · rename_i h1
        have hl := esc_lt h1
        have := nameF_size s f (esc s i).2 (acc ++ (esc s i).1) (esc_le hl)
        have h2 := size_esc (s := s) (i := i)
        have h3 := esc_gt s i
        rw [ByteArray.size_append, h2] at this
        omega
      · exact Nat.le_refl _
theorem name_size {s : ByteArray} {i : Nat} (h : i ≤ s.size) : (name s i).1.size ≤ s.size := by
  have h1 := nameF_size s s.size i ByteArray.empty h
  have h2 := name_le h
  have h3 : ByteArray.empty.size = 0 := rfl
  unfold name at h2 ⊢
  omega
theorem isUrl_iff (x : ByteArray) : (x.toList == [117, 114, 108]) = decide (x = url) := by
  rw [Bool.eq_iff_iff]
  simp only [beq_iff_eq, decide_eq_true_eq]
  rw [ByteArray.toList_eq]
  constructor
  · intro h
    obtain ⟨⟨l⟩⟩ := x
    simp only at h
    rw [h]; rfl
  · intro h; rw [h]; rfl
theorem named_c (s : ByteArray) (b i : Nat) (w : World) (h : Sc w b s i) :
    Calls Tryz.prog 184 #[.pointer (some ⟨b, 0, none⟩)] w fun e w' => e = .returned (tokV (named s i).1) ∧ Went b s (named s i).2 w w' := by
  have W := Went.nh h
  have R := Res.nh w
  have hbw : b < w.heap.size := h.lt
  have hs : s.size ≤ 600 := h.len
  clear h
  have hns := name_size W.out.1.le
  have hnl := name_le W.out.1.le
  obtain ⟨x, k, HX⟩ : ∃ x k, Hid (name s i = (x, k)) := ⟨_, _, rfl⟩
  have hns' : x.size ≤ s.size := by have := HX.out; rw [this] at hns; exact hns
  have hnl' : k ≤ s.size := by have := HX.out; rw [this] at hnl; exact hnl
  clear hns hnl
  by_cases h40 : pk s k = 40
  · have e0 : (pk s k != 40) = false := by rw [h40]; rfl
    have hlt : k < s.size := pk_lt (by omega)
    by_cases hu : small x = url
    · have eu : ((small x).toList == [117, 114, 108]) = true := by rw [isUrl_iff]; simp [hu]
      cases hq : quoteI (pk s (Sp.blk s (k + 1)))
      · have HV : Hid (named s i = link s (Sp.blk s (k + 1))) := by
          show _ = _; unfold named; rw [HX.out]; dsimp only; rw [if_pos h40, if_pos ⟨hu, hq⟩]
        clear h40 hu
        go_enter Tryz.func184, Tryz.ntmps184
        go_wp2_with fail
        refine (name_c s b i _ W.out.1).mono ?_
        rw [HX.out]
        rintro e w1 ⟨rfl, hwent⟩
        have W1 : Hid (Went b s k w w1) := W.out.trans hwent
        have R1 : Hid (Res w1 w.heap.size) := R.out.turn hwent.2 (by omega)
        clear hwent
        have c01 := W1.out.1.c0
        have c11 := W1.out.1.c1
        have cf1 := W1.out.1.f1
        have cl1 := W1.out.1.lt
        have cs1 := W1.out.1.len
        have ce1 := W1.out.1.le
        go_wp2_with fail
        refine (peek_c s b (k) _ (k) _ (W1.out.1) ⟨by omega, by omega, by omega⟩).mono ?_
        rintro e wq ⟨rfl, nq, rfl⟩
        go_wp2_with fail
        refine (Small_c x _ (by omega)).mono ?_
        rintro e w2 ⟨rfl, hb2⟩
        have W2 : Hid (Went b s (k + 1) w w2) := ((W1.out.drewN _).setv _ (k + 1) (by omega) (by omega)).below hb2
        have R2 : Hid (Res w2 w.heap.size) := ((R1.out.drewN _).set (by omega) _).below hb2
        clear hb2
        go_wp2_with fail
        refine (quoteFollows_c s b (k + 1) _ W2.out.1).mono ?_
        rintro e w3 ⟨rfl, hwent⟩
        have W3 : Hid (Went b s (k + 1) w w3) := W2.out.trans hwent
        have R3 : Hid (Res w3 w.heap.size) := R2.out.turn hwent.2 (by omega)
        clear hwent
        go_wp2_with fail
        refine (link_c s b (k + 1) _ W3.out.1).mono ?_
        rintro e w4 ⟨rfl, hwent⟩
        have W4 : Hid (Went b s (link s (Sp.blk s (k + 1))).2 w w4) := W3.out.trans hwent
        have R4 : Hid (Res w4 w.heap.size) := R3.out.turn hwent.2 (by omega)
        clear hwent
        have r0 := R4.out.c0
        have r1 := R4.out.c1
        have r2 := R4.out.c2
        have rf := R4.out.f
        have rl := R4.out.lt
        unfold tokV
        go_wp2_with fail
        refine bodyPost_ret (v := tokV (link s (Sp.blk s (k + 1))).1) (by simp [results, Tryz.results184, go_sem, tokV, r0, r1, r2]) rfl ⟨?_, ?_⟩
        · rw [HV.out]
        · rw [HV.out]; exact ((W4.out.setO hbw (Nat.le_refl _) _ _).setO hbw (Nat.le_refl _) _ _).setO hbw (Nat.le_refl _) _ _
      · have HV : Hid (named s i = (Tok.w 11 x, k + 1)) := by
          show _ = _; unfold named; rw [HX.out]; dsimp only; rw [if_pos h40, if_neg (by simp [hq])]
        clear h40 hu
        go_enter Tryz.func184, Tryz.ntmps184
        go_wp2_with fail
        refine (name_c s b i _ W.out.1).mono ?_
        rw [HX.out]
        rintro e w1 ⟨rfl, hwent⟩
        have W1 : Hid (Went b s k w w1) := W.out.trans hwent
        have R1 : Hid (Res w1 w.heap.size) := R.out.turn hwent.2 (by omega)
        clear hwent
        have c01 := W1.out.1.c0
        have c11 := W1.out.1.c1
        have cf1 := W1.out.1.f1
        have cl1 := W1.out.1.lt
        have cs1 := W1.out.1.len
        have ce1 := W1.out.1.le
        go_wp2_with fail
        refine (peek_c s b (k) _ (k) _ (W1.out.1) ⟨by omega, by omega, by omega⟩).mono ?_
        rintro e wq ⟨rfl, nq, rfl⟩
        go_wp2_with fail
        refine (Small_c x _ (by omega)).mono ?_
        rintro e w2 ⟨rfl, hb2⟩
        have W2 : Hid (Went b s (k + 1) w w2) := ((W1.out.drewN _).setv _ (k + 1) (by omega) (by omega)).below hb2
        have R2 : Hid (Res w2 w.heap.size) := ((R1.out.drewN _).set (by omega) _).below hb2
        clear hb2
        go_wp2_with fail
        refine (quoteFollows_c s b (k + 1) _ W2.out.1).mono ?_
        rintro e w3 ⟨rfl, hwent⟩
        have W3 : Hid (Went b s (k + 1) w w3) := W2.out.trans hwent
        have R3 : Hid (Res w3 w.heap.size) := R2.out.turn hwent.2 (by omega)
        clear hwent
        have r0 := R3.out.c0
        have r1 := R3.out.c1
        have r2 := R3.out.c2
        have rf := R3.out.f
        have rl := R3.out.lt
        go_wp2_with fail
        refine bodyPost_ret (v := tokV (Tok.w 11 x)) (by simp [results, Tryz.results184, go_sem, tokV, Tok.w, r0, r1, r2]; rfl) rfl ⟨?_, ?_⟩
        · rw [HV.out]
        · rw [HV.out]; exact ((W3.out.setO hbw (Nat.le_refl _) _ _).setO hbw (Nat.le_refl _) _ _).setO hbw (Nat.le_refl _) _ _
    · have eu : ((small x).toList == [117, 114, 108]) = false := by rw [isUrl_iff]; simp [hu]
      have HV : Hid (named s i = (Tok.w 11 x, k + 1)) := by
        show _ = _; unfold named; rw [HX.out]; dsimp only; rw [if_pos h40, if_neg (by simp [hu])]
      clear h40 hu
      go_enter Tryz.func184, Tryz.ntmps184
      go_wp2_with fail
      refine (name_c s b i _ W.out.1).mono ?_
      rw [HX.out]
      rintro e w1 ⟨rfl, hwent⟩
      have W1 : Hid (Went b s k w w1) := W.out.trans hwent
      have R1 : Hid (Res w1 w.heap.size) := R.out.turn hwent.2 (by omega)
      clear hwent
      have c01 := W1.out.1.c0
      have c11 := W1.out.1.c1
      have cf1 := W1.out.1.f1
      have cl1 := W1.out.1.lt
      have cs1 := W1.out.1.len
      have ce1 := W1.out.1.le
      go_wp2_with fail
      refine (peek_c s b (k) _ (k) _ (W1.out.1) ⟨by omega, by omega, by omega⟩).mono ?_
      rintro e wq ⟨rfl, nq, rfl⟩
      go_wp2_with fail
      refine (Small_c x _ (by omega)).mono ?_
      rintro e w2 ⟨rfl, hb2⟩
      have W2 : Hid (Went b s (k + 1) w w2) := ((W1.out.drewN _).setv _ (k + 1) (by omega) (by omega)).below hb2
      have R2 : Hid (Res w2 w.heap.size) := ((R1.out.drewN _).set (by omega) _).below hb2
      clear hb2
      have r0 := R2.out.c0
      have r1 := R2.out.c1
      have r2 := R2.out.c2
      have rf := R2.out.f
      have rl := R2.out.lt
      go_wp2_with fail
      refine bodyPost_ret (v := tokV (Tok.w 11 x)) (by simp [results, Tryz.results184, go_sem, tokV, Tok.w, r0, r1, r2]; rfl) rfl ⟨?_, ?_⟩
      · rw [HV.out]
      · rw [HV.out]; exact ((W2.out.setO hbw (Nat.le_refl _) _ _).setO hbw (Nat.le_refl _) _ _).setO hbw (Nat.le_refl _) _ _
  · have e0 : (pk s k != 40) = true := by simpa using h40
    have HV : Hid (named s i = (Tok.w 14 x, k)) := by
      show _ = _; unfold named; rw [HX.out]; dsimp only; rw [if_neg h40]
    clear h40
    go_enter Tryz.func184, Tryz.ntmps184
    go_wp2_with fail
    refine (name_c s b i _ W.out.1).mono ?_
    rw [HX.out]
    rintro e w1 ⟨rfl, hwent⟩
    have W1 : Hid (Went b s k w w1) := W.out.trans hwent
    have R1 : Hid (Res w1 w.heap.size) := R.out.turn hwent.2 (by omega)
    clear hwent
    have c01 := W1.out.1.c0
    have c11 := W1.out.1.c1
    have cf1 := W1.out.1.f1
    have cl1 := W1.out.1.lt
    have cs1 := W1.out.1.len
    have ce1 := W1.out.1.le
    go_wp2_with fail
    refine (peek_c s b (k) _ (k) _ (W1.out.1) ⟨by omega, by omega, by omega⟩).mono ?_
    rintro e wq ⟨rfl, nq, rfl⟩
    have r0 := R1.out.c0
    have r1 := R1.out.c1
    have r2 := R1.out.c2
    have rf := R1.out.f
    have rl := R1.out.lt
    go_wp2_with fail
    refine bodyPost_ret (v := tokV (Tok.w 14 x)) (by simp [results, Tryz.results184, go_sem, tokV, Tok.w, r0, r1, r2]; rfl) rfl ⟨?_, ?_⟩
    · rw [HV.out]
    · rw [HV.out]; exact (((W1.out.drewN _).setO hbw (Nat.le_refl _) _ _).setO hbw (Nat.le_refl _) _ _).setO hbw (Nat.le_refl _) _ _
end Go.Proofs.YtlliliddljkbfaaGreat
