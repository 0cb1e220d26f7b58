/-
  The scanner reads what begins with a name.
-/
import Derived.Test.YtlliliddljkbfaaLink
import Derived.Test.YtlliliddljkbfaaSmall
namespace Go.Proofs.Ytlliliddljkbfaa
open Go.RowKit Sp
set_option maxRecDepth 100000

theorem nameF_size (s : ByteArray) : ∀ f i acc, i ≤ s.size → (nameF s f i acc).1.size + i ≤ acc.size + (nameF s f i acc).2
  | 0, i, acc, h => Nat.le_refl _
  | f + 1, i, acc, h => by
    unfold nameF
    split
    · rename_i h1
      have hl := pk_lt (name_nn h1)
      have := nameF_size s f (i + 1) (acc ++ one s i) (by omega)
      have h2 := size_one hl
      rw [ByteArray.size_append, h2] at this
      omega
    · split
      · rename_i h1
        have hl := esc_lt h1
        have := nameF_size s f (esc s i).2 (acc ++ (esc s i).1) (esc_le hl)
        have h2 := size_esc (s := s) (i := i)
        have h3 := esc_gt s i
        rw [ByteArray.size_append, h2] at this
        omega
      · exact Nat.le_refl _
theorem name_size {s : ByteArray} {i : Nat} (h : i ≤ s.size) : (name s i).1.size ≤ s.size := by
  have h1 := nameF_size s s.size i ByteArray.empty h
  have h2 := name_le h
  have h3 : ByteArray.empty.size = 0 := rfl
  unfold name at h2 ⊢
  omega
theorem isUrl_iff (x : ByteArray) : (x.toList == [117, 114, 108]) = decide (x = url) := by
  rw [Bool.eq_iff_iff]
  simp only [beq_iff_eq, decide_eq_true_eq]
  rw [ByteArray.toList_eq]
  constructor
  · intro h
    obtain ⟨⟨l⟩⟩ := x
    simp only at h
    rw [h]; rfl
  · intro h; rw [h]; rfl

set_option maxHeartbeats 1000000 in
theorem named_c (s : ByteArray) (b i : Nat) (w : World) (h : Sc w b s i) :
    Calls Try.prog 29 #[.pointer (some ⟨b, 0, none⟩)] w fun e w' => e = .returned (tokV (named s i).1) ∧ Went b s (named s i).2 w w' := by
  have W : Hid (Went b s i w (w.alloc (.cells #[.int .i64 0, .string ⟨#[]⟩, .string ⟨#[]⟩] 35 (0, 0)))) := (Went.refl h).alloc _
  have R : Hid (Res (w.alloc (.cells #[.int .i64 0, .string ⟨#[]⟩, .string ⟨#[]⟩] 35 (0, 0))) w.heap.size) := Res.new w
  have hbw : b < w.heap.size := h.lt
  have hs : s.size ≤ 600 := h.len
  clear h
  have hns := name_size W.out.1.le
  have hnl := name_le W.out.1.le
  obtain ⟨x, k, HX⟩ : ∃ x k, Hid (name s i = (x, k)) := ⟨_, _, rfl⟩
  have hns' : x.size ≤ s.size := by have := HX.out; rw [this] at hns; exact hns
  have hnl' : k ≤ s.size := by have := HX.out; rw [this] at hnl; exact hnl
  clear hns hnl
  by_cases h40 : pk s k = 40
  · have e0 : (pk s k != 40) = false := by rw [h40]; rfl
    have hlt : k < s.size := pk_lt (by omega)
    by_cases hu : small x = url
    · have eu : ((small x).toList == [117, 114, 108]) = true := by rw [isUrl_iff]; simp [hu]
      cases hq : quoteI (pk s (Sp.blk s (k + 1)))
      · have HV : Hid (named s i = link s (Sp.blk s (k + 1))) := by
          show _ = _; unfold named; rw [HX.out]; dsimp only; rw [if_pos h40, if_pos ⟨hu, hq⟩]
        clear h40 hu
        go_enter Try.func29, Try.ntmps29
        go_wp2_with fail
        refine (name_c s b i _ W.out.1).mono ?_
        rw [HX.out]
        rintro e w1 ⟨rfl, hwent⟩
        have W1 : Hid (Went b s k w w1) := W.out.trans hwent
        have R1 : Hid (Res w1 w.heap.size) := R.out.turn hwent.2 (by omega)
        clear hwent
        have c01 := W1.out.1.c0
        have c11 := W1.out.1.c1
        have cf1 := W1.out.1.f1
        have cl1 := W1.out.1.lt
        have cs1 := W1.out.1.len
        have ce1 := W1.out.1.le
        go_wp2_with fail
        refine (peek_c s b (k) _ (k) _ (W1.out.1) ⟨by omega, by omega, by omega⟩).mono ?_
        rintro e wq ⟨rfl, nq, rfl⟩
        go_wp2_with fail
        refine (Small_c x _ (by omega)).mono ?_
        rintro e w2 ⟨rfl, hb2⟩
        have W2 : Hid (Went b s (k + 1) w w2) := ((W1.out.drewN _).setv _ (k + 1) (by omega) (by omega)).below hb2
        have R2 : Hid (Res w2 w.heap.size) := ((R1.out.drewN _).set (by omega) _).below hb2
        clear hb2
        go_wp2_with fail
        refine (quoteFollows_c s b (k + 1) _ W2.out.1).mono ?_
        rintro e w3 ⟨rfl, hwent⟩
        have W3 : Hid (Went b s (k + 1) w w3) := W2.out.trans hwent
        have R3 : Hid (Res w3 w.heap.size) := R2.out.turn hwent.2 (by omega)
        clear hwent
        go_wp2_with fail
        refine (link_c s b (k + 1) _ W3.out.1).mono ?_
        rintro e w4 ⟨rfl, hwent⟩
        have W4 : Hid (Went b s (link s (Sp.blk s (k + 1))).2 w w4) := W3.out.trans hwent
        have R4 : Hid (Res w4 w.heap.size) := R3.out.turn hwent.2 (by omega)
        clear hwent
        have r0 := R4.out.c0
        have r1 := R4.out.c1
        have r2 := R4.out.c2
        have rf := R4.out.f
        have rl := R4.out.lt
        unfold tokV
        go_wp2_with fail
        refine bodyPost_ret (v := tokV (link s (Sp.blk s (k + 1))).1) (by simp [results, Try.results29, go_sem, tokV, r0, r1, r2]) rfl ⟨?_, ?_⟩
        · rw [HV.out]
        · rw [HV.out]; exact ((W4.out.setO hbw (Nat.le_refl _) _ _).setO hbw (Nat.le_refl _) _ _).setO hbw (Nat.le_refl _) _ _
      · have HV : Hid (named s i = (Tok.w 11 x, k + 1)) := by
          show _ = _; unfold named; rw [HX.out]; dsimp only; rw [if_pos h40, if_neg (by simp [hq])]
        clear h40 hu
        go_enter Try.func29, Try.ntmps29
        go_wp2_with fail
        refine (name_c s b i _ W.out.1).mono ?_
        rw [HX.out]
        rintro e w1 ⟨rfl, hwent⟩
        have W1 : Hid (Went b s k w w1) := W.out.trans hwent
        have R1 : Hid (Res w1 w.heap.size) := R.out.turn hwent.2 (by omega)
        clear hwent
        have c01 := W1.out.1.c0
        have c11 := W1.out.1.c1
        have cf1 := W1.out.1.f1
        have cl1 := W1.out.1.lt
        have cs1 := W1.out.1.len
        have ce1 := W1.out.1.le
        go_wp2_with fail
        refine (peek_c s b (k) _ (k) _ (W1.out.1) ⟨by omega, by omega, by omega⟩).mono ?_
        rintro e wq ⟨rfl, nq, rfl⟩
        go_wp2_with fail
        refine (Small_c x _ (by omega)).mono ?_
        rintro e w2 ⟨rfl, hb2⟩
        have W2 : Hid (Went b s (k + 1) w w2) := ((W1.out.drewN _).setv _ (k + 1) (by omega) (by omega)).below hb2
        have R2 : Hid (Res w2 w.heap.size) := ((R1.out.drewN _).set (by omega) _).below hb2
        clear hb2
        go_wp2_with fail
        refine (quoteFollows_c s b (k + 1) _ W2.out.1).mono ?_
        rintro e w3 ⟨rfl, hwent⟩
        have W3 : Hid (Went b s (k + 1) w w3) := W2.out.trans hwent
        have R3 : Hid (Res w3 w.heap.size) := R2.out.turn hwent.2 (by omega)
        clear hwent
        have r0 := R3.out.c0
        have r1 := R3.out.c1
        have r2 := R3.out.c2
        have rf := R3.out.f
        have rl := R3.out.lt
        go_wp2_with fail
        refine bodyPost_ret (v := tokV (Tok.w 11 x)) (by simp [results, Try.results29, go_sem, tokV, Tok.w, r0, r1, r2]; rfl) rfl ⟨?_, ?_⟩
        · rw [HV.out]
        · rw [HV.out]; exact ((W3.out.setO hbw (Nat.le_refl _) _ _).setO hbw (Nat.le_refl _) _ _).setO hbw (Nat.le_refl _) _ _
    · have eu : ((small x).toList == [117, 114, 108]) = false := by rw [isUrl_iff]; simp [hu]
      have HV : Hid (named s i = (Tok.w 11 x, k + 1)) := by
        show _ = _; unfold named; rw [HX.out]; dsimp only; rw [if_pos h40, if_neg (by simp [hu])]
      clear h40 hu
      go_enter Try.func29, Try.ntmps29
      go_wp2_with fail
      refine (name_c s b i _ W.out.1).mono ?_
      rw [HX.out]
      rintro e w1 ⟨rfl, hwent⟩
      have W1 : Hid (Went b s k w w1) := W.out.trans hwent
      have R1 : Hid (Res w1 w.heap.size) := R.out.turn hwent.2 (by omega)
      clear hwent
      have c01 := W1.out.1.c0
      have c11 := W1.out.1.c1
      have cf1 := W1.out.1.f1
      have cl1 := W1.out.1.lt
      have cs1 := W1.out.1.len
      have ce1 := W1.out.1.le
      go_wp2_with fail
      refine (peek_c s b (k) _ (k) _ (W1.out.1) ⟨by omega, by omega, by omega⟩).mono ?_
      rintro e wq ⟨rfl, nq, rfl⟩
      go_wp2_with fail
      refine (Small_c x _ (by omega)).mono ?_
      rintro e w2 ⟨rfl, hb2⟩
      have W2 : Hid (Went b s (k + 1) w w2) := ((W1.out.drewN _).setv _ (k + 1) (by omega) (by omega)).below hb2
      have R2 : Hid (Res w2 w.heap.size) := ((R1.out.drewN _).set (by omega) _).below hb2
      clear hb2
      have r0 := R2.out.c0
      have r1 := R2.out.c1
      have r2 := R2.out.c2
      have rf := R2.out.f
      have rl := R2.out.lt
      go_wp2_with fail
      refine bodyPost_ret (v := tokV (Tok.w 11 x)) (by simp [results, Try.results29, go_sem, tokV, Tok.w, r0, r1, r2]; rfl) rfl ⟨?_, ?_⟩
      · rw [HV.out]
      · rw [HV.out]; exact ((W2.out.setO hbw (Nat.le_refl _) _ _).setO hbw (Nat.le_refl _) _ _).setO hbw (Nat.le_refl _) _ _
  · have e0 : (pk s k != 40) = true := by simpa using h40
    have HV : Hid (named s i = (Tok.w 14 x, k)) := by
      show _ = _; unfold named; rw [HX.out]; dsimp only; rw [if_neg h40]
    clear h40
    go_enter Try.func29, Try.ntmps29
    go_wp2_with fail
    refine (name_c s b i _ W.out.1).mono ?_
    rw [HX.out]
    rintro e w1 ⟨rfl, hwent⟩
    have W1 : Hid (Went b s k w w1) := W.out.trans hwent
    have R1 : Hid (Res w1 w.heap.size) := R.out.turn hwent.2 (by omega)
    clear hwent
    have c01 := W1.out.1.c0
    have c11 := W1.out.1.c1
    have cf1 := W1.out.1.f1
    have cl1 := W1.out.1.lt
    have cs1 := W1.out.1.len
    have ce1 := W1.out.1.le
    go_wp2_with fail
    refine (peek_c s b (k) _ (k) _ (W1.out.1) ⟨by omega, by omega, by omega⟩).mono ?_
    rintro e wq ⟨rfl, nq, rfl⟩
    have r0 := R1.out.c0
    have r1 := R1.out.c1
    have r2 := R1.out.c2
    have rf := R1.out.f
    have rl := R1.out.lt
    go_wp2_with fail
    refine bodyPost_ret (v := tokV (Tok.w 14 x)) (by simp [results, Try.results29, go_sem, tokV, Tok.w, r0, r1, r2]; rfl) rfl ⟨?_, ?_⟩
    · rw [HV.out]
    · rw [HV.out]; exact (((W1.out.drewN _).setO hbw (Nat.le_refl _) _ _).setO hbw (Nat.le_refl _) _ _).setO hbw (Nat.le_refl _) _ _
end Go.Proofs.Ytlliliddljkbfaa
