/-
  The scanner passes over a bad link; looks behind blanks for a quote.
-/
import Derived.Test.YtlliliddljkbfaaText
namespace Go.Proofs.Ytlliliddljkbfaa
open Go.RowKit Sp
set_option maxRecDepth 100000

set_option maxHeartbeats 1000000 in
theorem passBadLink_c (s : ByteArray) (b i : Nat) (w : World) (h : Sc w b s i) :
    Calls Try.prog 74 #[.pointer (some ⟨b, 0, none⟩)] w fun e w' => e = .returned (.tuple #[]) ∧ Went b s (bad s i) w w' := by
  have W : Hid (Went b s i w w) := Went.refl h
  clear h
  go_enter Try.func74, Try.ntmps74
  go_wp2_with fail
  refine wp_scope_fwd (fun Q' hF => ?_)
  go_wp2_with fail
  go_loopg [] s.size (fun g wr => ∃ k : Nat, s.size ≤ k + g ∧ Aside (badF s g k = bad s i ∧ Went b s k w wr))
  case atStart => exact ⟨i, by omega, rfl, W.out⟩
  case round =>
    obtain ⟨k, hk, hA⟩ := hrel
    have H1 : Hid (badF s gk k = bad s i) := hA.out.1
    have H2 : Hid (Went b s k w wr) := hA.out.2
    clear hA
    have c02 := H2.out.1.c0
    have c12 := H2.out.1.c1
    have cf2 := H2.out.1.f1
    have cl2 := H2.out.1.lt
    have cs2 := H2.out.1.len
    have ce2 := H2.out.1.le
    by_cases hend : s.size ≤ k
    · have e0 : (pk s k == -1) = true := by rw [pk_out hend]; rfl
      have HV : Hid (bad s i = k) := by
        show _ = _
        rw [← H1.out]
        cases gk with
        | zero => rfl
        | succ f => unfold badF; rw [if_pos hend]
      go_wp2_with fail
      refine (peek_c s b (k) _ (k) _ (H2.out.1) ⟨by omega, by omega, by omega⟩).mono ?_
      rintro e wq ⟨rfl, nq, rfl⟩
      go_wp2_with fail
      go_step3
      refine hF.go _ _ _ _ rfl ?_
      clear hF
      go_wp2
      simp only [Exit.noGoto]
      go_end0
      refine ⟨rfl, ?_⟩
      rw [HV.out]
      exact H2.out.drewN _
    · have hlt : k < s.size := by omega
      have e0 : (pk s k == -1) = false := by have := pk_nn hlt; simp; omega
      obtain ⟨f, rfl⟩ : ∃ f, gk = f + 1 := ⟨gk - 1, by omega⟩
      have H1' := H1.out
      unfold badF at H1'
      rw [if_neg hend] at H1'
      by_cases h41 : pk s k = 41
      · have e1 : (pk s k == 41) = true := by rw [h41]; rfl
        have HV : Hid (bad s i = k + 1) := by
          show _ = _
          rw [← H1', if_pos h41]
        clear h41 H1'
        go_wp2_with fail
        refine (peek_c s b (k) _ (k) _ (H2.out.1) ⟨by omega, by omega, by omega⟩).mono ?_
        rintro e wq ⟨rfl, nq, rfl⟩
        go_wp2_with fail
        go_step3
        refine hF.go _ _ _ _ rfl ?_
        clear hF
        go_wp2
        simp only [Exit.noGoto]
        go_end0
        refine ⟨rfl, ?_⟩
        rw [HV.out]
        exact (H2.out.drewN _).setv _ (k + 1) (by omega) (by omega)
      · have e1 : (pk s k == 41) = false := by simpa using h41
        rw [if_neg h41] at H1'
        clear h41
        cases he : escB s k
        · rw [if_neg (by simp [he])] at H1'
          have HV : Hid (badF s f (k + 1) = bad s i) := H1'
          clear H1'
          go_wp2_with fail
          refine (peek_c s b (k) _ (k) _ (H2.out.1) ⟨by omega, by omega, by omega⟩).mono ?_
          rintro e wq ⟨rfl, nq, rfl⟩
          go_wp2_with fail
          refine (escapeBegins_c s b (k) _ (k) _ (H2.out.1.drewN _) ⟨by omega, by omega, by omega⟩).mono ?_
          rintro e wq ⟨rfl, nq, rfl⟩
          go_wp2_with fail
          go_roundg f
          case measure => omega
          case rel => exact ⟨k + 1, by omega, HV.out, (H2.out.drewN _).setv _ (k + 1) (by omega) (by omega)⟩
        · rw [if_pos he] at H1'
          have HV : Hid (badF s f (esc s k).2 = bad s i) := H1'
          clear H1'
          have hge := esc_le hlt
          have hgt := esc_gt s k
          go_wp2_with fail
          refine (peek_c s b (k) _ (k) _ (H2.out.1) ⟨by omega, by omega, by omega⟩).mono ?_
          rintro e wq ⟨rfl, nq, rfl⟩
          go_wp2_with fail
          refine (escapeBegins_c s b (k) _ (k) _ (H2.out.1.drewN _) ⟨by omega, by omega, by omega⟩).mono ?_
          rintro e wq ⟨rfl, nq, rfl⟩
          go_wp2_with fail
          refine (escape_c s b k _ (H2.out.1.drewN _) hlt).mono ?_
          rintro e w1 ⟨rfl, hwent⟩
          have W1 : Hid (Went b s (esc s k).2 w w1) := (H2.out.drewN _).trans hwent
          clear hwent
          go_wp2_with fail
          go_roundg f
          case measure => omega
          case rel => exact ⟨(esc s k).2, by omega, HV.out, W1.out⟩

set_option maxHeartbeats 400000 in
theorem quoteFollows_c (s : ByteArray) (b i : Nat) (w : World) (h : Sc w b s i) :
    Calls Try.prog 55 #[.pointer (some ⟨b, 0, none⟩)] w fun e w' => e = .returned (.bool (quoteI (pk s (Sp.blk s i)))) ∧ Went b s i w w' := by
  have W : Hid (Went b s i w w) := Went.refl h
  have hbw := h.lt
  have hp := h.pos
  have S : Hid (Sc (w.alloc (.cells #[.string s, .int .i64 (i : Int)] 41 (0, 0))) w.heap.size s i) :=
    ⟨heap_alloc_new w _, by
      obtain ⟨m, hm⟩ := h.glob
      exact ⟨m, by rw [← hm]; exact World.cell?_of_block (w := w) (Below.heap_alloc _ _ _ (by show 0 < w.heap.size; omega))⟩, by omega, h.len, h.le⟩
  have h0 := h.c0
  have h1 := h.c1
  clear h
  go_enter Try.func55, Try.ntmps55
  go_wp2_with fail
  refine (passBlanks_c s w.heap.size i _ S.out).mono ?_
  rintro e w1 ⟨rfl, hwent⟩
  have S1 : Hid (Sc w1 w.heap.size s (Sp.blk s i)) := hwent.1
  have T1 : Hid (Turn w.heap.size (w.alloc (.cells #[.string s, .int .i64 (i : Int)] 41 (0, 0))) w1) := hwent.2
  clear hwent
  go_wp2_with fail
  refine (peek_c s w.heap.size (Sp.blk s i) _ (Sp.blk s i) _ S1.out ⟨by omega, by omega, by omega⟩).mono ?_
  rintro e wq ⟨rfl, nq, rfl⟩
  go_wp2_with fail
  refine (isQuote_c _ _).mono ?_
  rintro e wq ⟨rfl, rfl⟩
  go_wp2_with fail
  go_ret
  have hb : Below w.heap.size w w1 := ((Below.refl _ w).alloc (Nat.le_refl _) _).trans (T1.out.below (Nat.le_refl _) (by simp))
  exact ⟨rfl, (W.out.below hb).drewN _⟩
end Go.Proofs.Ytlliliddljkbfaa
