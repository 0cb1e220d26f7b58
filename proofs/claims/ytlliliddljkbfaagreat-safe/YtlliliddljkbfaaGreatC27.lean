import Derived.Test.YtlliliddljkbfaaGreatC6
import Derived.Test.YtlliliddljkbfaaGreatC7
import Derived.Test.YtlliliddljkbfaaGreatC19
import Derived.Test.YtlliliddljkbfaaGreatC25
import Derived.Test.YtlliliddljkbfaaGreatC26
namespace Go.Proofs.YtlliliddljkbfaaGreat
set_option maxHeartbeats 64000000
set_option maxRecDepth 100000
open Go.RowKit Sp
theorem nameF_size (s : ByteArray) : ∀ f i acc, i ≤ s.size → (nameF s f i acc).1.size + i ≤ acc.size + (nameF s f i acc).2
  | 0, i, acc, h => Nat.le_refl _
  | f + 1, i, acc, h => by
    unfold nameF
    split
    · rename_i h1
      have hl := pk_lt (name_nn h1)
      have := nameF_size s f (i + 1) (acc ++ one s i) (by omega)
      have h2 := size_one hl
      rw [ByteArray.size_append, h2] at this
      omega
    · split
      · rename_i h1
        have hl := esc_lt h1
        have := nameF_size s f (esc s i).2 (acc ++ (esc s i).1) (esc_le hl)
        have h2 := size_esc (s := s) (i := i)
        have h3 := esc_gt s i
        rw [ByteArray.size_append, h2] at this
        omega
      · exact Nat.le_refl _
theorem name_size {s : ByteArray} {i : Nat} (h : i ≤ s.size) : (name s i).1.size ≤ s.size := by
  have h1 := nameF_size s s.size i ByteArray.empty h
  have h2 := name_le h
  have h3 : ByteArray.empty.size = 0 := rfl
  unfold name at h2 ⊢
  omega
theorem isUrl_iff (x : ByteArray) : (x.toList == [117, 114, 108]) = decide (x = url) := by
  rw [Bool.eq_iff_iff]
  simp only [beq_iff_eq, decide_eq_true_eq]
  rw [ByteArray.toList_eq]
  constructor
  · intro h
    obtain ⟨⟨l⟩⟩ := x
    simp only at h
    rw [h]; rfl
  · intro h; rw [h]; rfl
theorem named_c (s : ByteArray) (b i : Nat) (w : World) (h : Sc w b s i) :
    Calls Tryz.prog 184 #[.pointer (some ⟨b, 0, none⟩)] w fun e w' => e = .returned (tokV (named s i).1) ∧ Went b s (named s i).2 w w' := by
  have W := Went.nh h
  have R := Res.nh w
  have hbw : b < w.heap.size := h.lt
  have hs : s.size ≤ 600 := h.len
  clear h
  have hns := name_size W.out.1.le
  have hnl := name_le W.out.1.le
  obtain ⟨x, k, HX⟩ : ∃ x k, Hid (name s i = (x, k)) := ⟨_, _, rfl⟩
  have hns' : x.size ≤ s.size := by have := HX.out; rw [this] at hns; exact hns
  have hnl' : k ≤ s.size := by have := HX.out; rw [this] at hnl; exact hnl
  clear hns hnl
  by_cases h40 : pk s k = 40
  · have e0 : (pk s k != 40) = false := by rw [h40]; rfl
    have hlt : k < s.size := pk_lt (by omega)
    by_cases hu : small x = url
    · have eu : ((small x).toList == [117, 114, 108]) = true := by rw [isUrl_iff]; simp [hu]
      cases hq : quoteI (pk s (Sp.blk s (k + 1)))
      · have HV : Hid (named s i = link s (Sp.blk s (k + 1))) := by
          show _ = _; unfold named; rw [HX.out]; dsimp only; rw [if_pos h40, if_pos ⟨hu, hq⟩]
        clear h40 hu
        go_enter Tryz.func184, Tryz.ntmps184
        go_wp2_with fail
        refine (name_c s b i _ W.out.1).mono ?_
        rw [HX.out]
        rintro e w1 ⟨rfl, hwent⟩
        have W1 : Hid (Went b s k w w1) := W.out.trans hwent
        have R1 : Hid (Res w1 w.heap.size) := R.out.turn hwent.2 (by omega)
        clear hwent
        have c01 := W1.out.1.c0
        have c11 := W1.out.1.c1
        have cf1 := W1.out.1.f1
        have cl1 := W1.out.1.lt
        have cs1 := W1.out.1.len
        have ce1 := W1.out.1.le
        go_wp2_with fail
        refine (peek_c s b (k) _ (k) _ (W1.out.1) ⟨by omega, by omega, by omega⟩).mono ?_
        rintro e wq ⟨rfl, nq, rfl⟩
        go_wp2_with fail
        refine (Small_c x _ (by omega)).mono ?_
        rintro e w2 ⟨rfl, hb2⟩
        have W2 : Hid (Went b s (k + 1) w w2) := ((W1.out.drewN _).setv _ (k + 1) (by omega) (by omega)).below hb2
        have R2 : Hid (Res w2 w.heap.size) := ((R1.out.drewN _).set (by omega) _).below hb2
        clear hb2
        go_wp2_with fail
        refine (quoteFollows_c s b (k + 1) _ W2.out.1).mono ?_
        rintro e w3 ⟨rfl, hwent⟩
        have W3 : Hid (Went b s (k + 1) w w3) := W2.out.trans hwent
        have R3 : Hid (Res w3 w.heap.size) := R2.out.turn hwent.2 (by omega)
        clear hwent
        go_wp2_with fail
        refine (link_c s b (k + 1) _ W3.out.1).mono ?_
        rintro e w4 ⟨rfl, hwent⟩
        have W4 : Hid (Went b s (link s (Sp.blk s (k + 1))).2 w w4) := W3.out.trans hwent
        have R4 : Hid (Res w4 w.heap.size) := R3.out.turn hwent.2 (by omega)
        clear hwent
        have r0 := R4.out.c0
        have r1 := R4.out.c1
        have r2 := R4.out.c2
        have rf := R4.out.f
        have rl := R4.out.lt
        unfold tokV
        go_wp2_with fail
        refine bodyPost_ret (v := tokV (link s (Sp.blk s (k + 1))).1) (by simp [results, Tryz.results184, go_sem, tokV, r0, r1, r2]) rfl ⟨?_, ?_⟩
        · rw [HV.out]
        · rw [HV.out]; exact ((W4.out.setO hbw (Nat.le_refl _) _ _).setO hbw (Nat.le_refl _) _ _).setO hbw (Nat.le_refl _) _ _
      · have HV : Hid (named s i = (Tok.w 11 x, k + 1)) := by
          show _ = _; unfold named; rw [HX.out]; dsimp only; rw [if_pos h40, if_neg (by simp [hq])]
        clear h40 hu
        go_enter Tryz.func184, Tryz.ntmps184
        go_wp2_with fail
        refine (name_c s b i _ W.out.1).mono ?_
        rw [HX.out]
        rintro e w1 ⟨rfl, hwent⟩
        have W1 : Hid (Went b s k w w1) := W.out.trans hwent
        have R1 : Hid (Res w1 w.heap.size) := R.out.turn hwent.2 (by omega)
        clear hwent
        have c01 := W1.out.1.c0
        have c11 := W1.out.1.c1
        have cf1 := W1.out.1.f1
        have cl1 := W1.out.1.lt
        have cs1 := W1.out.1.len
        have ce1 := W1.out.1.le
        go_wp2_with fail
        refine (peek_c s b (k) _ (k) _ (W1.out.1) ⟨by omega, by omega, by omega⟩).mono ?_
        rintro e wq ⟨rfl, nq, rfl⟩
        go_wp2_with fail
        refine (Small_c x _ (by omega)).mono ?_
        rintro e w2 ⟨rfl, hb2⟩
        have W2 : Hid (Went b s (k + 1) w w2) := ((W1.out.drewN _).setv _ (k + 1) (by omega) (by omega)).below hb2
        have R2 : Hid (Res w2 w.heap.size) := ((R1.out.drewN _).set (by omega) _).below hb2
        clear hb2
        go_wp2_with fail
        refine (quoteFollows_c s b (k + 1) _ W2.out.1).mono ?_
        rintro e w3 ⟨rfl, hwent⟩
        have W3 : Hid (Went b s (k + 1) w w3) := W2.out.trans hwent
        have R3 : Hid (Res w3 w.heap.size) := R2.out.turn hwent.2 (by omega)
        clear hwent
        have r0 := R3.out.c0
        have r1 := R3.out.c1
        have r2 := R3.out.c2
        have rf := R3.out.f
        have rl := R3.out.lt
        go_wp2_with fail
        refine bodyPost_ret (v := tokV (Tok.w 11 x)) (by simp [results, Tryz.results184, go_sem, tokV, Tok.w, r0, r1, r2]; rfl) rfl ⟨?_, ?_⟩
        · rw [HV.out]
        · rw [HV.out]; exact ((W3.out.setO hbw (Nat.le_refl _) _ _).setO hbw (Nat.le_refl _) _ _).setO hbw (Nat.le_refl _) _ _
    · have eu : ((small x).toList == [117, 114, 108]) = false := by rw [isUrl_iff]; simp [hu]
      have HV : Hid (named s i = (Tok.w 11 x, k + 1)) := by
        show _ = _; unfold named; rw [HX.out]; dsimp only; rw [if_pos h40, if_neg (by simp [hu])]
      clear h40 hu
      go_enter Tryz.func184, Tryz.ntmps184
      go_wp2_with fail
      refine (name_c s b i _ W.out.1).mono ?_
      rw [HX.out]
      rintro e w1 ⟨rfl, hwent⟩
      have W1 : Hid (Went b s k w w1) := W.out.trans hwent
      have R1 : Hid (Res w1 w.heap.size) := R.out.turn hwent.2 (by omega)
      clear hwent
      have c01 := W1.out.1.c0
      have c11 := W1.out.1.c1
      have cf1 := W1.out.1.f1
      have cl1 := W1.out.1.lt
      have cs1 := W1.out.1.len
      have ce1 := W1.out.1.le
      go_wp2_with fail
      refine (peek_c s b (k) _ (k) _ (W1.out.1) ⟨by omega, by omega, by omega⟩).mono ?_
      rintro e wq ⟨rfl, nq, rfl⟩
      go_wp2_with fail
      refine (Small_c x _ (by omega)).mono ?_
      rintro e w2 ⟨rfl, hb2⟩
      have W2 : Hid (Went b s (k + 1) w w2) := ((W1.out.drewN _).setv _ (k + 1) (by omega) (by omega)).below hb2
      have R2 : Hid (Res w2 w.heap.size) := ((R1.out.drewN _).set (by omega) _).below hb2
      clear hb2
      have r0 := R2.out.c0
      have r1 := R2.out.c1
      have r2 := R2.out.c2
      have rf := R2.out.f
      have rl := R2.out.lt
      go_wp2_with fail
      refine bodyPost_ret (v := tokV (Tok.w 11 x)) (by simp [results, Tryz.results184, go_sem, tokV, Tok.w, r0, r1, r2]; rfl) rfl ⟨?_, ?_⟩
      · rw [HV.out]
      · rw [HV.out]; exact ((W2.out.setO hbw (Nat.le_refl _) _ _).setO hbw (Nat.le_refl _) _ _).setO hbw (Nat.le_refl _) _ _
  · have e0 : (pk s k != 40) = true := by simpa using h40
    have HV : Hid (named s i = (Tok.w 14 x, k)) := by
      show _ = _; unfold named; rw [HX.out]; dsimp only; rw [if_neg h40]
    clear h40
    go_enter Tryz.func184, Tryz.ntmps184
    go_wp2_with fail
    refine (name_c s b i _ W.out.1).mono ?_
    rw [HX.out]
    rintro e w1 ⟨rfl, hwent⟩
    have W1 : Hid (Went b s k w w1) := W.out.trans hwent
    have R1 : Hid (Res w1 w.heap.size) := R.out.turn hwent.2 (by omega)
    clear hwent
    have c01 := W1.out.1.c0
    have c11 := W1.out.1.c1
    have cf1 := W1.out.1.f1
    have cl1 := W1.out.1.lt
    have cs1 := W1.out.1.len
    have ce1 := W1.out.1.le
    go_wp2_with fail
    refine (peek_c s b (k) _ (k) _ (W1.out.1) ⟨by omega, by omega, by omega⟩).mono ?_
    rintro e wq ⟨rfl, nq, rfl⟩
    have r0 := R1.out.c0
    have r1 := R1.out.c1
    have r2 := R1.out.c2
    have rf := R1.out.f
    have rl := R1.out.lt
    go_wp2_with fail
    refine bodyPost_ret (v := tokV (Tok.w 14 x)) (by simp [results, Tryz.results184, go_sem, tokV, Tok.w, r0, r1, r2]; rfl) rfl ⟨?_, ?_⟩
    · rw [HV.out]
    · rw [HV.out]; exact (((W1.out.drewN _).setO hbw (Nat.le_refl _) _ _).setO hbw (Nat.le_refl _) _ _).setO hbw (Nat.le_refl _) _ _
theorem stands_c (s : ByteArray) (b i : Nat) (t : ByteArray) (w : World) (h : Sc w b s i) :
    Calls Tryz.prog 173 #[.pointer (some ⟨b, 0, none⟩), .string t] w fun e w' => e = .returned (.bool (pre s i t.data.toList)) ∧ ∃ n, w' = w.drewN n := by
  have h0 := h.c0
  have h1 := h.c1
  have hs := h.len
  have hi := h.le
  clear h
  rw [← has_pre]
  go_enter Tryz.func173, Tryz.ntmps173
  go_wp2_with fail
  go_quiet ((go_at_call 105; exact Calls.quiet_of_same (Tryz.strings_HasPrefix _ _ _)))
  go_wp2_with fail
  go_ret
  exact ⟨rfl, _, rfl⟩
theorem slice_l (s : ByteArray) (l : Int) (k : Nat) (hl : l = k) (h : k ≤ s.size) (w : World) : (Instr.slice 9 (.string s) (some (.int .i64 l)) none none).run Tryz.prog w = .ok (.string (s.extract k s.size)) w := by
  subst hl
  have := run_slice_string_l (P := Tryz.prog) (w := w) (t := 9) (s := s) (ht := Tryz.underlying9) .i64 (k : Int) (by omega) (by omega)
  simpa using this
theorem index_out (s : ByteArray) (k : Nat) (m : Int) (w : World) (h6 : s.size ≤ 600) (hk : k ≤ s.size) (hst : s.size ≤ star s k) (hm : w.cell? ⟨0, 0, none⟩ = some (.int .i64 m)) :
    Calls Tryz.prog 174 #[.string (s.extract k s.size), .string ⟨#[42, 47]⟩] w fun e w' => e = .returned (.int .i64 (-1)) ∧ w' = w := by
  refine (Tryz.strings_Index _ _ m w (by simp; omega) hm).mono ?_
  rintro e w' ⟨rfl, rfl⟩
  exact ⟨rint (index_star_out hk hst), rfl⟩
theorem index_in (s : ByteArray) (k : Nat) (m : Int) (w : World) (h6 : s.size ≤ 600) (hk : k ≤ s.size) (hst : star s k < s.size) (hm : w.cell? ⟨0, 0, none⟩ = some (.int .i64 m)) :
    Calls Tryz.prog 174 #[.string (s.extract k s.size), .string ⟨#[42, 47]⟩] w fun e w' => e = .returned (.int .i64 ((star s k - k : Nat) : Int)) ∧ w' = w := by
  refine (Tryz.strings_Index _ _ m w (by simp; omega) hm).mono ?_
  rintro e w' ⟨rfl, rfl⟩
  exact ⟨rint (by rw [show (⟨#[42, 47]⟩ : ByteArray).data.toList = [42, 47] from rfl, index_star_in hk hst]; have := star_ge s k; omega), rfl⟩
theorem pre_open (s : ByteArray) (i : Nat) : pre s i [47, 42] = (pk s i == 47 && pk s (i + 1) == 42) := by simp [pre]
theorem passComments_c (s : ByteArray) (b i : Nat) (w : World) (h : Sc w b s i) :
    Calls Tryz.prog 112 #[.pointer (some ⟨b, 0, none⟩)] w fun e w' => e = .returned (.tuple #[]) ∧ Went b s (com s i) w w' := by
  have W : Hid (Went b s i w w) := Went.refl h
  clear h
  go_enter Tryz.func112, Tryz.ntmps112
  go_wp2_with fail
  refine wp_scope_fwd (fun Q' hF => ?_)
  go_wp2_with fail
  go_loopg [] s.size (fun g wr => ∃ k : Nat, s.size ≤ k + g ∧ Aside (comF s g k = com s i ∧ Went b s k w wr))
  case atStart => exact ⟨i, by omega, rfl, W.out⟩
  case round =>
    obtain ⟨k, hk, hA⟩ := hrel
    have H1 : Hid (comF s gk k = com s i) := hA.out.1
    have H2 : Hid (Went b s k w wr) := hA.out.2
    clear hA
    have c02 := H2.out.1.c0
    have c12 := H2.out.1.c1
    have cf2 := H2.out.1.f1
    have cl2 := H2.out.1.lt
    have cs2 := H2.out.1.len
    have ce2 := H2.out.1.le
    cases hpre : pre s k [47, 42]
    · have HV : Hid (com s i = k) := by
        show _ = _
        rw [pre_open] at hpre
        rw [← H1.out]
        cases gk with
        | zero => rfl
        | succ f => unfold comF; rw [if_neg (fun h => by simp [h] at hpre)]
      go_wp2_with fail
      refine (stands_c s b k _ _ H2.out.1).mono ?_
      rintro e wq ⟨rfl, nq, rfl⟩
      go_wp2_with fail
      go_step3
      refine hF.norm _ _ ?_
      go_end0
      refine ⟨rfl, ?_⟩
      rw [HV.out]
      exact H2.out.drewN _
    · have ho : pk s k = 47 ∧ pk s (k + 1) = 42 := by rw [pre_open] at hpre; simpa using hpre
      have hlt : k + 1 < s.size := pk_lt (by omega)
      have hge := star_ge s (k + 2)
      have hle := star_le (s := s) (k := k + 2) (by omega)
      obtain ⟨f, rfl⟩ : ∃ f, gk = f + 1 := ⟨gk - 1, by omega⟩
      have H1' := H1.out
      unfold comF at H1'
      rw [if_pos ho] at H1'
      clear ho
      by_cases hst : s.size ≤ star s (k + 2)
      · rw [if_pos hst] at H1'
        have HV : Hid (com s i = s.size) := H1'.symm
        clear H1'
        go_wp2_with fail
        refine (stands_c s b k _ _ H2.out.1).mono ?_
        rintro e wq ⟨rfl, nq, hwq⟩
        have W1 : Hid (Went b s k w wq) := by show Went b s k w wq; rw [hwq]; exact H2.out.drewN nq
        clear hwq
        have c03 := W1.out.1.c0
        have c13 := W1.out.1.c1
        have cf3 := W1.out.1.f1
        have cl3 := W1.out.1.lt
        have cs3 := W1.out.1.len
        have ce3 := W1.out.1.le
        go_wp2_with fail
        obtain ⟨m, hm⟩ := W1.out.1.glob
        have hw2 : IntKind.i64.wrap ((k : Int) + 2) = (k : Int) + 2 := by rw [IntKind.wrap_i64]; omega
        have hsl := slice_l s ((k : Int) + 2) (k + 2) (by omega) (by omega)
        go_quiet ((go_at_call 174; exact Calls.quiet_of_same (index_out s (k + 2) m _ (by omega) (by omega) hst hm)))
        go_wp2_with fail
        go_step3
        refine hF.go _ _ _ _ rfl ?_
        clear hF
        go_wp2
        simp only [Exit.noGoto]
        go_end0
        refine ⟨rfl, ?_⟩
        rw [HV.out]
        exact (W1.out.drewN _).setv _ s.size rfl (Nat.le_refl _)
      · have hst' : star s (k + 2) < s.size := by omega
        have hle2 := star_le2 hst'
        rw [if_neg hst] at H1'
        have HV : Hid (comF s f (star s (k + 2) + 2) = com s i) := H1'
        clear H1'
        go_wp2_with fail
        refine (stands_c s b k _ _ H2.out.1).mono ?_
        rintro e wq ⟨rfl, nq, hwq⟩
        have W1 : Hid (Went b s k w wq) := by show Went b s k w wq; rw [hwq]; exact H2.out.drewN nq
        clear hwq
        have c03 := W1.out.1.c0
        have c13 := W1.out.1.c1
        have cf3 := W1.out.1.f1
        have cl3 := W1.out.1.lt
        have cs3 := W1.out.1.len
        have ce3 := W1.out.1.le
        go_wp2_with fail
        obtain ⟨m, hm⟩ := W1.out.1.glob
        have hw2 : IntKind.i64.wrap ((k : Int) + 2) = (k : Int) + 2 := by rw [IntKind.wrap_i64]; omega
        have hsl := slice_l s ((k : Int) + 2) (k + 2) (by omega) (by omega)
        go_quiet ((go_at_call 174; exact Calls.quiet_of_same (index_in s (k + 2) m _ (by omega) (by omega) hst' hm)))
        generalize hd : star s (k + 2) - (k + 2) = d
        have hd1 : star s (k + 2) = k + 2 + d := by omega
        have HD : Hid (star s (k + 2) = k + 2 + d) := hd1
        have hd2 : k + 2 + d + 2 ≤ s.size := by omega
        clear hd hd1 hst hst' hge hle hle2
        go_wp2_with fail
        go_roundg f
        case measure => omega
        case rel =>
          refine ⟨k + 2 + d + 2, by omega, ?_, (W1.out.drewN _).setv _ (k + 2 + d + 2) (by omega) (by omega)⟩
          rw [← HD.out]; exact HV.out
end Go.Proofs.YtlliliddljkbfaaGreat
