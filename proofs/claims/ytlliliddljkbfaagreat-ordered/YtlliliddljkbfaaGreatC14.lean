import Derived.Test.YtlliliddljkbfaaGreatC4
import Derived.Test.YtlliliddljkbfaaGreatC8
import Derived.Test.YtlliliddljkbfaaGreatC9
namespace Go.Proofs.YtlliliddljkbfaaGreat
set_option maxHeartbeats 64000000
set_option maxRecDepth 100000
open Go.RowKit Sp
theorem stands_c (s : ByteArray) (b i : Nat) (t : ByteArray) (w : World) (h : Sc w b s i) :
    Calls Tryz.prog 173 #[.pointer (some ⟨b, 0, none⟩), .string t] w fun e w' => e = .returned (.bool (pre s i t.data.toList)) ∧ ∃ n, w' = w.drewN n := by
  have h0 := h.c0
  have h1 := h.c1
  have hs := h.len
  have hi := h.le
  clear h
  rw [← has_pre]
  go_enter Tryz.func173, Tryz.ntmps173
  go_wp2_with fail
  go_quiet ((go_at_call 105; exact Calls.quiet_of_same (Tryz.strings_HasPrefix _ _ _)))
  go_wp2_with fail
  go_ret
  exact ⟨rfl, _, rfl⟩
theorem slice_l (s : ByteArray) (l : Int) (k : Nat) (hl : l = k) (h : k ≤ s.size) (w : World) : (Instr.slice 9 (.string s) (some (.int .i64 l)) none none).run Tryz.prog w = .ok (.string (s.extract k s.size)) w := by
  subst hl
  have := run_slice_string_l (P := Tryz.prog) (w := w) (t := 9) (s := s) (ht := Tryz.underlying9) .i64 (k : Int) (by omega) (by omega)
  simpa using this
theorem index_out (s : ByteArray) (k : Nat) (m : Int) (w : World) (h6 : s.size ≤ 600) (hk : k ≤ s.size) (hst : s.size ≤ star s k) (hm : w.cell? ⟨0, 0, none⟩ = some (.int .i64 m)) :
    Calls Tryz.prog 174 #[.string (s.extract k s.size), .string ⟨#[42, 47]⟩] w fun e w' => e = .returned (.int .i64 (-1)) ∧ w' = w := by
  refine (Tryz.strings_Index _ _ m w (by simp; omega) hm).mono ?_
  rintro e w' ⟨rfl, rfl⟩
  exact ⟨rint (index_star_out hk hst), rfl⟩
theorem index_in (s : ByteArray) (k : Nat) (m : Int) (w : World) (h6 : s.size ≤ 600) (hk : k ≤ s.size) (hst : star s k < s.size) (hm : w.cell? ⟨0, 0, none⟩ = some (.int .i64 m)) :
    Calls Tryz.prog 174 #[.string (s.extract k s.size), .string ⟨#[42, 47]⟩] w fun e w' => e = .returned (.int .i64 ((star s k - k : Nat) : Int)) ∧ w' = w := by
  refine (Tryz.strings_Index _ _ m w (by simp; omega) hm).mono ?_
  rintro e w' ⟨rfl, rfl⟩
  exact ⟨rint (by rw [show (⟨#[42, 47]⟩ : ByteArray).data.toList = [42, 47] from rfl, index_star_in hk hst]; have := star_ge s k; omega), rfl⟩
theorem pre_open (s : ByteArray) (i : Nat) : pre s i [47, 42] = (pk s i == 47 && pk s (i + 1) == 42) := by simp [pre]
theorem passComments_c (s : ByteArray) (b i : Nat) (w : World) (h : Sc w b s i) :
    Calls Tryz.prog 112 #[.pointer (some ⟨b, 0, none⟩)] w fun e w' => e = .returned (.tuple #[]) ∧ Went b s (com s i) w w' := by
  have W : Hid (Went b s i w w) := Went.refl h
  clear h
  go_enter Tryz.func112, Tryz.ntmps112
  go_wp2_with fail
  refine wp_scope_fwd (fun Q' hF => ?_)
  go_wp2_with fail
  go_loopg [] s.size (fun g wr => ∃ k : Nat, s.size ≤ k + g ∧ Aside (comF s g k = com s i ∧ Went b s k w wr))
  case atStart => exact ⟨i, by omega, rfl, W.out⟩
  case round =>
    obtain ⟨k, hk, hA⟩ := hrel
    have H1 : Hid (comF s gk k = com s i) := hA.out.1
    have H2 : Hid (Went b s k w wr) := hA.out.2
    clear hA
    have c02 := H2.out.1.c0
    have c12 := H2.out.1.c1
    have cf2 := H2.out.1.f1
    have cl2 := H2.out.1.lt
    have cs2 := H2.out.1.len
    have ce2 := H2.out.1.le
    cases hpre : pre s k [47, 42]
    · have HV : Hid (com s i = k) := by
        show _ = _
        rw [pre_open] at hpre
        rw [← H1.out]
        cases gk with
        | zero => rfl
        | succ f => unfold comF; rw [if_neg (fun h => by simp [h] at hpre)]
      go_wp2_with fail
      refine (stands_c s b k _ _ H2.out.1).mono ?_
      rintro e wq ⟨rfl, nq, rfl⟩
      go_wp2_with fail
      go_step3
      refine hF.norm _ _ ?_
      go_end0
      refine ⟨rfl, ?_⟩
      rw [HV.out]
      exact H2.out.drewN _
    · have ho : pk s k = 47 ∧ pk s (k + 1) = 42 := by rw [pre_open] at hpre; simpa using hpre
      have hlt : k + 1 < s.size := pk_lt (by omega)
      have hge := star_ge s (k + 2)
      have hle := star_le (s := s) (k := k + 2) (by omega)
      obtain ⟨f, rfl⟩ : ∃ f, gk = f + 1 := ⟨gk - 1, by omega⟩
      have H1' := H1.out
      unfold comF at H1'
      rw [if_pos ho] at H1'
      clear ho
      by_cases hst : s.size ≤ star s (k + 2)
      · rw [if_pos hst] at H1'
        have HV : Hid (com s i = s.size) := H1'.symm
        clear H1'
        go_wp2_with fail
        refine (stands_c s b k _ _ H2.out.1).mono ?_
        rintro e wq ⟨rfl, nq, hwq⟩
        have W1 : Hid (Went b s k w wq) := by show Went b s k w wq; rw [hwq]; exact H2.out.drewN nq
        clear hwq
        have c03 := W1.out.1.c0
        have c13 := W1.out.1.c1
        have cf3 := W1.out.1.f1
        have cl3 := W1.out.1.lt
        have cs3 := W1.out.1.len
        have ce3 := W1.out.1.le
        go_wp2_with fail
        obtain ⟨m, hm⟩ := W1.out.1.glob
        have hw2 : IntKind.i64.wrap ((k : Int) + 2) = (k : Int) + 2 := by rw [IntKind.wrap_i64]; omega
        have hsl := slice_l s ((k : Int) + 2) (k + 2) (by omega) (by omega)
        go_quiet ((go_at_call 174; exact Calls.quiet_of_same (index_out s (k + 2) m _ (by omega) (by omega) hst hm)))
        go_wp2_with fail
        go_step3
        refine hF.go _ _ _ _ rfl ?_
        clear hF
        go_wp2
        simp only [Exit.noGoto]
        go_end0
        refine ⟨rfl, ?_⟩
        rw [HV.out]
        exact (W1.out.drewN _).setv _ s.size rfl (Nat.le_refl _)
      · have hst' : star s (k + 2) < s.size := by omega
        have hle2 := star_le2 hst'
        rw [if_neg hst] at H1'
        have HV : Hid (comF s f (star s (k + 2) + 2) = com s i) := H1'
        clear H1'
        go_wp2_with fail
        refine (stands_c s b k _ _ H2.out.1).mono ?_
        rintro e wq ⟨rfl, nq, hwq⟩
        have W1 : Hid (Went b s k w wq) := by show Went b s k w wq; rw [hwq]; exact H2.out.drewN nq
        clear hwq
        have c03 := W1.out.1.c0
        have c13 := W1.out.1.c1
        have cf3 := W1.out.1.f1
        have cl3 := W1.out.1.lt
        have cs3 := W1.out.1.len
        have ce3 := W1.out.1.le
        go_wp2_with fail
        obtain ⟨m, hm⟩ := W1.out.1.glob
        have hw2 : IntKind.i64.wrap ((k : Int) + 2) = (k : Int) + 2 := by rw [IntKind.wrap_i64]; omega
        have hsl := slice_l s ((k : Int) + 2) (k + 2) (by omega) (by omega)
        go_quiet ((go_at_call 174; exact Calls.quiet_of_same (index_in s (k + 2) m _ (by omega) (by omega) hst' hm)))
        generalize hd : star s (k + 2) - (k + 2) = d
        have hd1 : star s (k + 2) = k + 2 + d := by omega
        have HD : Hid (star s (k + 2) = k + 2 + d) := hd1
        have hd2 : k + 2 + d + 2 ≤ s.size := by omega
        clear hd hd1 hst hst' hge hle hle2
        go_wp2_with fail
        go_roundg f
        case measure => omega
        case rel =>
          refine ⟨k + 2 + d + 2, by omega, ?_, (W1.out.drewN _).setv _ (k + 2 + d + 2) (by omega) (by omega)⟩
          rw [← HD.out]; exact HV.out
end Go.Proofs.YtlliliddljkbfaaGreat
