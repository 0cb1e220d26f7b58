import Derived.Test.YtlliliddljkbfaaGreatC27
namespace Go.Proofs.YtlliliddljkbfaaGreat
set_option maxHeartbeats 64000000
set_option maxRecDepth 100000
open Go.RowKit Sp
theorem pre4 (s : ByteArray) (i : Nat) : pre s i [60, 33, 45, 45] = sees4 s i := by simp [pre, sees4, Bool.and_assoc]
theorem pre3 (s : ByteArray) (i : Nat) : pre s i [45, 45, 62] = sees3 s i := by simp [pre, sees3, Bool.and_assoc]
theorem stands4_c (s : ByteArray) (b i : Nat) (w : World) (h : Sc w b s i) :
    Calls Tryz.prog 173 #[.pointer (some ⟨b, 0, none⟩), .string ⟨#[60, 33, 45, 45]⟩] w fun e w' => e = .returned (.bool (sees4 s i)) ∧ ∃ n, w' = w.drewN n := by
  rw [← pre4]; exact stands_c s b i _ w h
theorem stands3_c (s : ByteArray) (b i : Nat) (w : World) (h : Sc w b s i) :
    Calls Tryz.prog 173 #[.pointer (some ⟨b, 0, none⟩), .string ⟨#[45, 45, 62]⟩] w fun e w' => e = .returned (.bool (sees3 s i)) ∧ ∃ n, w' = w.drewN n := by
  rw [← pre3]; exact stands_c s b i _ w h
theorem token_blank (s : ByteArray) (b i : Nat) (w : World) (h : Sc w b s i) (hi : i < s.size) (hbl : blankI (pk s i) = true) (HV : Hid (token s i = (Tok.k 1, Sp.blk s i))) :
    Calls Tryz.prog 114 #[.pointer (some ⟨b, 0, none⟩)] w fun e w' => e = .returned (tokV (token s i).1) ∧ Went b s (token s i).2 w w' := by
  have W := Went.nh h
  have R := Res.nh w
  have hbw : b < w.heap.size := h.lt
  have hs : s.size ≤ 600 := h.len
  have _hi := hi
  clear h
  have c00 := W.out.1.c0
  have c10 := W.out.1.c1
  have cf0 := W.out.1.f1
  have cl0 := W.out.1.lt
  have cs0 := W.out.1.len
  have ce0 := W.out.1.le
  go_enter Tryz.func114, Tryz.ntmps114
  go_wp2_with fail
  refine (peek_c s b (i) _ (i) _ (W.out.1) ⟨by omega, by omega, by omega⟩).mono ?_
  rintro e wq ⟨rfl, nq, rfl⟩
  go_wp2_with fail
  refine (isBlank_c _ _).mono ?_
  rintro e wq ⟨rfl, rfl⟩
  go_wp2_with fail
  refine (passBlanks_c s b i _ (W.out.1.drewN _)).mono ?_
  rintro e w1 ⟨rfl, hwent⟩
  have W1 : Hid (Went b s (Sp.blk s i) w w1) := (W.out.drewN _).trans hwent
  have R1 : Hid (Res w1 w.heap.size) := (R.out.drewN _).turn hwent.2 (by omega)
  clear hwent
  have r0 := R1.out.c0
  have r1 := R1.out.c1
  have r2 := R1.out.c2
  have rf := R1.out.f
  have rl := R1.out.lt
  go_wp2_with fail
  refine bodyPost_ret (v := tokV (Tok.k 1)) (by simp [results, Tryz.results114, go_sem, tokV, Tok.k, r0, r1, r2]; rfl) rfl ⟨?_, ?_⟩
  · rw [HV.out]
  · rw [HV.out]; exact ((W1.out.setO hbw (Nat.le_refl _) _ _).setO hbw (Nat.le_refl _) _ _).setO hbw (Nat.le_refl _) _ _
theorem token_text (s : ByteArray) (b i : Nat) (w : World) (h : Sc w b s i) (hi : i < s.size) (hbl : blankI (pk s i) = false) (hqu : quoteI (pk s i) = true) (HV : Hid (token s i = txt s (pk s i) (i + 1))) :
    Calls Tryz.prog 114 #[.pointer (some ⟨b, 0, none⟩)] w fun e w' => e = .returned (tokV (token s i).1) ∧ Went b s (token s i).2 w w' := by
  have W := Went.nh h
  have R := Res.nh w
  have hbw : b < w.heap.size := h.lt
  have hs : s.size ≤ 600 := h.len
  have _hi := hi
  clear h
  have c00 := W.out.1.c0
  have c10 := W.out.1.c1
  have cf0 := W.out.1.f1
  have cl0 := W.out.1.lt
  have cs0 := W.out.1.len
  have ce0 := W.out.1.le
  go_enter Tryz.func114, Tryz.ntmps114
  go_wp2_with fail
  refine (peek_c s b (i) _ (i) _ (W.out.1) ⟨by omega, by omega, by omega⟩).mono ?_
  rintro e wq ⟨rfl, nq, rfl⟩
  go_wp2_with fail
  refine (isBlank_c _ _).mono ?_
  rintro e wq ⟨rfl, rfl⟩
  go_wp2_with fail
  refine (isQuote_c _ _).mono ?_
  rintro e wq ⟨rfl, rfl⟩
  go_wp2_with fail
  refine (text_c s b i _ (W.out.1.drewN _) hi).mono ?_
  rintro e w1 ⟨rfl, hwent⟩
  have W1 : Hid (Went b s (txt s (pk s i) (i + 1)).2 w w1) := (W.out.drewN _).trans hwent
  have R1 : Hid (Res w1 w.heap.size) := (R.out.drewN _).turn hwent.2 (by omega)
  clear hwent
  have r0 := R1.out.c0
  have r1 := R1.out.c1
  have r2 := R1.out.c2
  have rf := R1.out.f
  have rl := R1.out.lt
  unfold tokV
  go_wp2_with fail
  refine bodyPost_ret (v := tokV ((txt s (pk s i) (i + 1)).1)) (by simp [results, Tryz.results114, go_sem, tokV, r0, r1, r2]) rfl ⟨?_, ?_⟩
  · rw [HV.out]
  · rw [HV.out]; exact ((W1.out.setO hbw (Nat.le_refl _) _ _).setO hbw (Nat.le_refl _) _ _).setO hbw (Nat.le_refl _) _ _
theorem token_hash (s : ByteArray) (b i : Nat) (w : World) (h : Sc w b s i) (hi : i < s.size) (hbl : blankI (pk s i) = false) (hqu : quoteI (pk s i) = false) (hha : (pk s i == 35) = true) (hgo : goesB s (i + 1) = true) (HV : Hid (token s i = (Tok.w 4 (Sp.name s (i + 1)).1, (Sp.name s (i + 1)).2))) :
    Calls Tryz.prog 114 #[.pointer (some ⟨b, 0, none⟩)] w fun e w' => e = .returned (tokV (token s i).1) ∧ Went b s (token s i).2 w w' := by
  have W := Went.nh h
  have R := Res.nh w
  have hbw : b < w.heap.size := h.lt
  have hs : s.size ≤ 600 := h.len
  have _hi := hi
  clear h
  have c00 := W.out.1.c0
  have c10 := W.out.1.c1
  have cf0 := W.out.1.f1
  have cl0 := W.out.1.lt
  have cs0 := W.out.1.len
  have ce0 := W.out.1.le
  go_enter Tryz.func114, Tryz.ntmps114
  go_wp2_with fail
  refine (peek_c s b (i) _ (i) _ (W.out.1) ⟨by omega, by omega, by omega⟩).mono ?_
  rintro e wq ⟨rfl, nq, rfl⟩
  go_wp2_with fail
  refine (isBlank_c _ _).mono ?_
  rintro e wq ⟨rfl, rfl⟩
  go_wp2_with fail
  refine (isQuote_c _ _).mono ?_
  rintro e wq ⟨rfl, rfl⟩
  go_wp2_with fail
  refine (nameGoesOn_c s b (i) _ (i + 1) _ (W.out.1.drewN _) ⟨by omega, by omega, by omega⟩).mono ?_
  rintro e wq ⟨rfl, nq, rfl⟩
  go_wp2_with fail
  refine (name_c s b (i + 1) _ ((W.out.1.drewN _).setv _ (i + 1) (by omega) (by omega))).mono ?_
  rintro e w1 ⟨rfl, hwent⟩
  have W1 : Hid (Went b s (Sp.name s (i + 1)).2 w w1) := ((W.out.drewN _).setv _ (i + 1) (by omega) (by omega)).trans hwent
  have R1 : Hid (Res w1 w.heap.size) := ((R.out.drewN _).set (by omega) _).turn hwent.2 (by omega)
  clear hwent
  have r0 := R1.out.c0
  have r1 := R1.out.c1
  have r2 := R1.out.c2
  have rf := R1.out.f
  have rl := R1.out.lt
  go_wp2_with fail
  refine bodyPost_ret (v := tokV (Tok.w 4 (Sp.name s (i + 1)).1)) (by simp [results, Tryz.results114, go_sem, tokV, Tok.w, r0, r1, r2]; rfl) rfl ⟨?_, ?_⟩
  · rw [HV.out]
  · rw [HV.out]; exact ((W1.out.setO hbw (Nat.le_refl _) _ _).setO hbw (Nat.le_refl _) _ _).setO hbw (Nat.le_refl _) _ _
theorem token_num_a (s : ByteArray) (b i : Nat) (w : World) (h : Sc w b s i) (hi : i < s.size) (hbl : blankI (pk s i) = false) (hqu : quoteI (pk s i) = false) (hha : (pk s i == 35) = false) (hnu : numB s i = true) (HV : Hid (token s i = Sp.numeric s i)) :
    Calls Tryz.prog 114 #[.pointer (some ⟨b, 0, none⟩)] w fun e w' => e = .returned (tokV (token s i).1) ∧ Went b s (token s i).2 w w' := by
  have W := Went.nh h
  have R := Res.nh w
  have hbw : b < w.heap.size := h.lt
  have hs : s.size ≤ 600 := h.len
  have _hi := hi
  clear h
  have c00 := W.out.1.c0
  have c10 := W.out.1.c1
  have cf0 := W.out.1.f1
  have cl0 := W.out.1.lt
  have cs0 := W.out.1.len
  have ce0 := W.out.1.le
  go_enter Tryz.func114, Tryz.ntmps114
  go_wp2_with fail
  refine (peek_c s b (i) _ (i) _ (W.out.1) ⟨by omega, by omega, by omega⟩).mono ?_
  rintro e wq ⟨rfl, nq, rfl⟩
  go_wp2_with fail
  refine (isBlank_c _ _).mono ?_
  rintro e wq ⟨rfl, rfl⟩
  go_wp2_with fail
  refine (isQuote_c _ _).mono ?_
  rintro e wq ⟨rfl, rfl⟩
  go_wp2_with fail
  refine (numberBegins_c s b i _ (W.out.1.drewN _)).mono ?_
  rintro e wq ⟨rfl, nq, rfl⟩
  go_wp2_with fail
  refine (numeric_c s b i _ (W.out.1.drewN _)).mono ?_
  rintro e w1 ⟨rfl, hwent⟩
  have W1 : Hid (Went b s (Sp.numeric s i).2 w w1) := (W.out.drewN _).trans hwent
  have R1 : Hid (Res w1 w.heap.size) := (R.out.drewN _).turn hwent.2 (by omega)
  clear hwent
  have r0 := R1.out.c0
  have r1 := R1.out.c1
  have r2 := R1.out.c2
  have rf := R1.out.f
  have rl := R1.out.lt
  unfold tokV
  go_wp2_with fail
  refine bodyPost_ret (v := tokV ((Sp.numeric s i).1)) (by simp [results, Tryz.results114, go_sem, tokV, r0, r1, r2]) rfl ⟨?_, ?_⟩
  · rw [HV.out]
  · rw [HV.out]; exact ((W1.out.setO hbw (Nat.le_refl _) _ _).setO hbw (Nat.le_refl _) _ _).setO hbw (Nat.le_refl _) _ _
theorem token_open_a (s : ByteArray) (b i : Nat) (w : World) (h : Sc w b s i) (hi : i < s.size) (hbl : blankI (pk s i) = false) (hqu : quoteI (pk s i) = false) (hha : (pk s i == 35) = false) (hnu : numB s i = false) (hs4 : sees4 s i = true) (hl : i + 4 ≤ s.size) (HV : Hid (token s i = (Tok.k 8, i + 4))) :
    Calls Tryz.prog 114 #[.pointer (some ⟨b, 0, none⟩)] w fun e w' => e = .returned (tokV (token s i).1) ∧ Went b s (token s i).2 w w' := by
  have W := Went.nh h
  have R := Res.nh w
  have hbw : b < w.heap.size := h.lt
  have hs : s.size ≤ 600 := h.len
  have _hi := hi
  clear h
  have c00 := W.out.1.c0
  have c10 := W.out.1.c1
  have cf0 := W.out.1.f1
  have cl0 := W.out.1.lt
  have cs0 := W.out.1.len
  have ce0 := W.out.1.le
  go_enter Tryz.func114, Tryz.ntmps114
  go_wp2_with fail
  refine (peek_c s b (i) _ (i) _ (W.out.1) ⟨by omega, by omega, by omega⟩).mono ?_
  rintro e wq ⟨rfl, nq, rfl⟩
  go_wp2_with fail
  refine (isBlank_c _ _).mono ?_
  rintro e wq ⟨rfl, rfl⟩
  go_wp2_with fail
  refine (isQuote_c _ _).mono ?_
  rintro e wq ⟨rfl, rfl⟩
  go_wp2_with fail
  refine (numberBegins_c s b i _ (W.out.1.drewN _)).mono ?_
  rintro e wq ⟨rfl, nq, rfl⟩
  go_wp2_with fail
  refine (stands4_c s b i _ (W.out.1.drewN _)).mono ?_
  rintro e wq ⟨rfl, nq, rfl⟩
  have r0 := R.out.c0
  have r1 := R.out.c1
  have r2 := R.out.c2
  have rf := R.out.f
  have rl := R.out.lt
  go_wp2_with fail
  refine bodyPost_ret (v := tokV (Tok.k 8)) (by simp [results, Tryz.results114, go_sem, tokV, Tok.k, r0, r1, r2]; rfl) rfl ⟨?_, ?_⟩
  · rw [HV.out]
  · rw [HV.out]; exact ((((W.out.drewN _).setv _ (i + 4) (by omega) (by omega)).setO hbw (Nat.le_refl _) _ _).setO hbw (Nat.le_refl _) _ _).setO hbw (Nat.le_refl _) _ _
theorem token_close_a (s : ByteArray) (b i : Nat) (w : World) (h : Sc w b s i) (hi : i < s.size) (hbl : blankI (pk s i) = false) (hqu : quoteI (pk s i) = false) (hha : (pk s i == 35) = false) (hnu : numB s i = false) (hs4 : sees4 s i = false) (hs3 : sees3 s i = true) (hl : i + 3 ≤ s.size) (HV : Hid (token s i = (Tok.k 9, i + 3))) :
    Calls Tryz.prog 114 #[.pointer (some ⟨b, 0, none⟩)] w fun e w' => e = .returned (tokV (token s i).1) ∧ Went b s (token s i).2 w w' := by
  have W := Went.nh h
  have R := Res.nh w
  have hbw : b < w.heap.size := h.lt
  have hs : s.size ≤ 600 := h.len
  have _hi := hi
  clear h
  have c00 := W.out.1.c0
  have c10 := W.out.1.c1
  have cf0 := W.out.1.f1
  have cl0 := W.out.1.lt
  have cs0 := W.out.1.len
  have ce0 := W.out.1.le
  go_enter Tryz.func114, Tryz.ntmps114
  go_wp2_with fail
  refine (peek_c s b (i) _ (i) _ (W.out.1) ⟨by omega, by omega, by omega⟩).mono ?_
  rintro e wq ⟨rfl, nq, rfl⟩
  go_wp2_with fail
  refine (isBlank_c _ _).mono ?_
  rintro e wq ⟨rfl, rfl⟩
  go_wp2_with fail
  refine (isQuote_c _ _).mono ?_
  rintro e wq ⟨rfl, rfl⟩
  go_wp2_with fail
  refine (numberBegins_c s b i _ (W.out.1.drewN _)).mono ?_
  rintro e wq ⟨rfl, nq, rfl⟩
  go_wp2_with fail
  refine (stands4_c s b i _ (W.out.1.drewN _)).mono ?_
  rintro e wq ⟨rfl, nq, rfl⟩
  go_wp2_with fail
  refine (stands3_c s b i _ (W.out.1.drewN _)).mono ?_
  rintro e wq ⟨rfl, nq, rfl⟩
  have r0 := R.out.c0
  have r1 := R.out.c1
  have r2 := R.out.c2
  have rf := R.out.f
  have rl := R.out.lt
  go_wp2_with fail
  refine bodyPost_ret (v := tokV (Tok.k 9)) (by simp [results, Tryz.results114, go_sem, tokV, Tok.k, r0, r1, r2]; rfl) rfl ⟨?_, ?_⟩
  · rw [HV.out]
  · rw [HV.out]; exact ((((W.out.drewN _).setv _ (i + 3) (by omega) (by omega)).setO hbw (Nat.le_refl _) _ _).setO hbw (Nat.le_refl _) _ _).setO hbw (Nat.le_refl _) _ _
theorem token_at_a (s : ByteArray) (b i : Nat) (w : World) (h : Sc w b s i) (hi : i < s.size) (hbl : blankI (pk s i) = false) (hqu : quoteI (pk s i) = false) (hha : (pk s i == 35) = false) (hnu : numB s i = false) (hs4 : sees4 s i = false) (hs3 : sees3 s i = false) (hat : (pk s i == 64) = true) (hb1 : begB s (i + 1) = true) (HV : Hid (token s i = (Tok.w 10 (Sp.name s (i + 1)).1, (Sp.name s (i + 1)).2))) :
    Calls Tryz.prog 114 #[.pointer (some ⟨b, 0, none⟩)] w fun e w' => e = .returned (tokV (token s i).1) ∧ Went b s (token s i).2 w w' := by
  have W := Went.nh h
  have R := Res.nh w
  have hbw : b < w.heap.size := h.lt
  have hs : s.size ≤ 600 := h.len
  have _hi := hi
  clear h
  have c00 := W.out.1.c0
  have c10 := W.out.1.c1
  have cf0 := W.out.1.f1
  have cl0 := W.out.1.lt
  have cs0 := W.out.1.len
  have ce0 := W.out.1.le
  go_enter Tryz.func114, Tryz.ntmps114
  go_wp2_with fail
  refine (peek_c s b (i) _ (i) _ (W.out.1) ⟨by omega, by omega, by omega⟩).mono ?_
  rintro e wq ⟨rfl, nq, rfl⟩
  go_wp2_with fail
  refine (isBlank_c _ _).mono ?_
  rintro e wq ⟨rfl, rfl⟩
  go_wp2_with fail
  refine (isQuote_c _ _).mono ?_
  rintro e wq ⟨rfl, rfl⟩
  go_wp2_with fail
  refine (numberBegins_c s b i _ (W.out.1.drewN _)).mono ?_
  rintro e wq ⟨rfl, nq, rfl⟩
  go_wp2_with fail
  refine (stands4_c s b i _ (W.out.1.drewN _)).mono ?_
  rintro e wq ⟨rfl, nq, rfl⟩
  go_wp2_with fail
  refine (stands3_c s b i _ (W.out.1.drewN _)).mono ?_
  rintro e wq ⟨rfl, nq, rfl⟩
  go_wp2_with fail
  refine (nameBegins_c s b (i) _ (i + 1) _ (W.out.1.drewN _) ⟨by omega, by omega, by omega⟩).mono ?_
  rintro e wq ⟨rfl, nq, rfl⟩
  go_wp2_with fail
  refine (name_c s b (i + 1) _ ((W.out.1.drewN _).setv _ (i + 1) (by omega) (by omega))).mono ?_
  rintro e w1 ⟨rfl, hwent⟩
  have W1 : Hid (Went b s (Sp.name s (i + 1)).2 w w1) := ((W.out.drewN _).setv _ (i + 1) (by omega) (by omega)).trans hwent
  have R1 : Hid (Res w1 w.heap.size) := ((R.out.drewN _).set (by omega) _).turn hwent.2 (by omega)
  clear hwent
  have r0 := R1.out.c0
  have r1 := R1.out.c1
  have r2 := R1.out.c2
  have rf := R1.out.f
  have rl := R1.out.lt
  go_wp2_with fail
  refine bodyPost_ret (v := tokV (Tok.w 10 (Sp.name s (i + 1)).1)) (by simp [results, Tryz.results114, go_sem, tokV, Tok.w, r0, r1, r2]; rfl) rfl ⟨?_, ?_⟩
  · rw [HV.out]
  · rw [HV.out]; exact ((W1.out.setO hbw (Nat.le_refl _) _ _).setO hbw (Nat.le_refl _) _ _).setO hbw (Nat.le_refl _) _ _
theorem token_named_ac (s : ByteArray) (b i : Nat) (w : World) (h : Sc w b s i) (hi : i < s.size) (hbl : blankI (pk s i) = false) (hqu : quoteI (pk s i) = false) (hha : (pk s i == 35) = false) (hnu : numB s i = false) (hs4 : sees4 s i = false) (hs3 : sees3 s i = false) (hat : (pk s i == 64) = false) (hb0 : begB s i = true) (HV : Hid (token s i = named s i)) :
    Calls Tryz.prog 114 #[.pointer (some ⟨b, 0, none⟩)] w fun e w' => e = .returned (tokV (token s i).1) ∧ Went b s (token s i).2 w w' := by
  have W := Went.nh h
  have R := Res.nh w
  have hbw : b < w.heap.size := h.lt
  have hs : s.size ≤ 600 := h.len
  have _hi := hi
  clear h
  have c00 := W.out.1.c0
  have c10 := W.out.1.c1
  have cf0 := W.out.1.f1
  have cl0 := W.out.1.lt
  have cs0 := W.out.1.len
  have ce0 := W.out.1.le
  go_enter Tryz.func114, Tryz.ntmps114
  go_wp2_with fail
  refine (peek_c s b (i) _ (i) _ (W.out.1) ⟨by omega, by omega, by omega⟩).mono ?_
  rintro e wq ⟨rfl, nq, rfl⟩
  go_wp2_with fail
  refine (isBlank_c _ _).mono ?_
  rintro e wq ⟨rfl, rfl⟩
  go_wp2_with fail
  refine (isQuote_c _ _).mono ?_
  rintro e wq ⟨rfl, rfl⟩
  go_wp2_with fail
  refine (numberBegins_c s b i _ (W.out.1.drewN _)).mono ?_
  rintro e wq ⟨rfl, nq, rfl⟩
  go_wp2_with fail
  refine (stands4_c s b i _ (W.out.1.drewN _)).mono ?_
  rintro e wq ⟨rfl, nq, rfl⟩
  go_wp2_with fail
  refine (stands3_c s b i _ (W.out.1.drewN _)).mono ?_
  rintro e wq ⟨rfl, nq, rfl⟩
  go_wp2_with fail
  refine (nameBegins_c s b (i) _ (i) _ (W.out.1.drewN _) ⟨by omega, by omega, by omega⟩).mono ?_
  rintro e wq ⟨rfl, nq, rfl⟩
  go_wp2_with fail
  refine (named_c s b i _ (W.out.1.drewN _)).mono ?_
  rintro e w1 ⟨rfl, hwent⟩
  have W1 : Hid (Went b s (named s i).2 w w1) := (W.out.drewN _).trans hwent
  have R1 : Hid (Res w1 w.heap.size) := (R.out.drewN _).turn hwent.2 (by omega)
  clear hwent
  have r0 := R1.out.c0
  have r1 := R1.out.c1
  have r2 := R1.out.c2
  have rf := R1.out.f
  have rl := R1.out.lt
  unfold tokV
  go_wp2_with fail
  refine bodyPost_ret (v := tokV ((named s i).1)) (by simp [results, Tryz.results114, go_sem, tokV, r0, r1, r2]) rfl ⟨?_, ?_⟩
  · rw [HV.out]
  · rw [HV.out]; exact ((W1.out.setO hbw (Nat.le_refl _) _ _).setO hbw (Nat.le_refl _) _ _).setO hbw (Nat.le_refl _) _ _
theorem token_sign_ac (s : ByteArray) (b i : Nat) (w : World) (h : Sc w b s i) (hi : i < s.size) (hbl : blankI (pk s i) = false) (hqu : quoteI (pk s i) = false) (hha : (pk s i == 35) = false) (hnu : numB s i = false) (hs4 : sees4 s i = false) (hs3 : sees3 s i = false) (hat : (pk s i == 64) = false) (hb0 : begB s i = false) (HV : Hid (token s i = (Tok.w 15 (one s i), i + 1))) :
    Calls Tryz.prog 114 #[.pointer (some ⟨b, 0, none⟩)] w fun e w' => e = .returned (tokV (token s i).1) ∧ Went b s (token s i).2 w w' := by
  have W := Went.nh h
  have R := Res.nh w
  have hbw : b < w.heap.size := h.lt
  have hs : s.size ≤ 600 := h.len
  have _hi := hi
  clear h
  have c00 := W.out.1.c0
  have c10 := W.out.1.c1
  have cf0 := W.out.1.f1
  have cl0 := W.out.1.lt
  have cs0 := W.out.1.len
  have ce0 := W.out.1.le
  go_enter Tryz.func114, Tryz.ntmps114
  go_wp2_with fail
  refine (peek_c s b (i) _ (i) _ (W.out.1) ⟨by omega, by omega, by omega⟩).mono ?_
  rintro e wq ⟨rfl, nq, rfl⟩
  go_wp2_with fail
  refine (isBlank_c _ _).mono ?_
  rintro e wq ⟨rfl, rfl⟩
  go_wp2_with fail
  refine (isQuote_c _ _).mono ?_
  rintro e wq ⟨rfl, rfl⟩
  go_wp2_with fail
  refine (numberBegins_c s b i _ (W.out.1.drewN _)).mono ?_
  rintro e wq ⟨rfl, nq, rfl⟩
  go_wp2_with fail
  refine (stands4_c s b i _ (W.out.1.drewN _)).mono ?_
  rintro e wq ⟨rfl, nq, rfl⟩
  go_wp2_with fail
  refine (stands3_c s b i _ (W.out.1.drewN _)).mono ?_
  rintro e wq ⟨rfl, nq, rfl⟩
  go_wp2_with fail
  refine (nameBegins_c s b (i) _ (i) _ (W.out.1.drewN _) ⟨by omega, by omega, by omega⟩).mono ?_
  rintro e wq ⟨rfl, nq, rfl⟩
  go_wp2_with fail
  refine (take_c s b i _ (W.out.1.drewN _) hi).mono ?_
  rintro e w1 ⟨rfl, hwent⟩
  have W1 : Hid (Went b s (i + 1) w w1) := (W.out.drewN _).trans hwent
  have R1 : Hid (Res w1 w.heap.size) := (R.out.drewN _).turn hwent.2 (by omega)
  clear hwent
  have r0 := R1.out.c0
  have r1 := R1.out.c1
  have r2 := R1.out.c2
  have rf := R1.out.f
  have rl := R1.out.lt
  go_wp2_with fail
  refine bodyPost_ret (v := tokV (Tok.w 15 (one s i))) (by simp [results, Tryz.results114, go_sem, tokV, Tok.w, r0, r1, r2]; rfl) rfl ⟨?_, ?_⟩
  · rw [HV.out]
  · rw [HV.out]; exact ((W1.out.setO hbw (Nat.le_refl _) _ _).setO hbw (Nat.le_refl _) _ _).setO hbw (Nat.le_refl _) _ _
theorem token_named_ad (s : ByteArray) (b i : Nat) (w : World) (h : Sc w b s i) (hi : i < s.size) (hbl : blankI (pk s i) = false) (hqu : quoteI (pk s i) = false) (hha : (pk s i == 35) = false) (hnu : numB s i = false) (hs4 : sees4 s i = false) (hs3 : sees3 s i = false) (hat : (pk s i == 64) = true) (hb1 : begB s (i + 1) = false) (hb0 : begB s i = true) (HV : Hid (token s i = named s i)) :
    Calls Tryz.prog 114 #[.pointer (some ⟨b, 0, none⟩)] w fun e w' => e = .returned (tokV (token s i).1) ∧ Went b s (token s i).2 w w' := by
  have W := Went.nh h
  have R := Res.nh w
  have hbw : b < w.heap.size := h.lt
  have hs : s.size ≤ 600 := h.len
  have _hi := hi
  clear h
  have c00 := W.out.1.c0
  have c10 := W.out.1.c1
  have cf0 := W.out.1.f1
  have cl0 := W.out.1.lt
  have cs0 := W.out.1.len
  have ce0 := W.out.1.le
  go_enter Tryz.func114, Tryz.ntmps114
  go_wp2_with fail
  refine (peek_c s b (i) _ (i) _ (W.out.1) ⟨by omega, by omega, by omega⟩).mono ?_
  rintro e wq ⟨rfl, nq, rfl⟩
  go_wp2_with fail
  refine (isBlank_c _ _).mono ?_
  rintro e wq ⟨rfl, rfl⟩
  go_wp2_with fail
  refine (isQuote_c _ _).mono ?_
  rintro e wq ⟨rfl, rfl⟩
  go_wp2_with fail
  refine (numberBegins_c s b i _ (W.out.1.drewN _)).mono ?_
  rintro e wq ⟨rfl, nq, rfl⟩
  go_wp2_with fail
  refine (stands4_c s b i _ (W.out.1.drewN _)).mono ?_
  rintro e wq ⟨rfl, nq, rfl⟩
  go_wp2_with fail
  refine (stands3_c s b i _ (W.out.1.drewN _)).mono ?_
  rintro e wq ⟨rfl, nq, rfl⟩
  go_wp2_with fail
  refine (nameBegins_c s b (i) _ (i + 1) _ (W.out.1.drewN _) ⟨by omega, by omega, by omega⟩).mono ?_
  rintro e wq ⟨rfl, nq, rfl⟩
  go_wp2_with fail
  refine (nameBegins_c s b (i) _ (i) _ (W.out.1.drewN _) ⟨by omega, by omega, by omega⟩).mono ?_
  rintro e wq ⟨rfl, nq, rfl⟩
  go_wp2_with fail
  refine (named_c s b i _ (W.out.1.drewN _)).mono ?_
  rintro e w1 ⟨rfl, hwent⟩
  have W1 : Hid (Went b s (named s i).2 w w1) := (W.out.drewN _).trans hwent
  have R1 : Hid (Res w1 w.heap.size) := (R.out.drewN _).turn hwent.2 (by omega)
  clear hwent
  have r0 := R1.out.c0
  have r1 := R1.out.c1
  have r2 := R1.out.c2
  have rf := R1.out.f
  have rl := R1.out.lt
  unfold tokV
  go_wp2_with fail
  refine bodyPost_ret (v := tokV ((named s i).1)) (by simp [results, Tryz.results114, go_sem, tokV, r0, r1, r2]) rfl ⟨?_, ?_⟩
  · rw [HV.out]
  · rw [HV.out]; exact ((W1.out.setO hbw (Nat.le_refl _) _ _).setO hbw (Nat.le_refl _) _ _).setO hbw (Nat.le_refl _) _ _
theorem token_sign_ad (s : ByteArray) (b i : Nat) (w : World) (h : Sc w b s i) (hi : i < s.size) (hbl : blankI (pk s i) = false) (hqu : quoteI (pk s i) = false) (hha : (pk s i == 35) = false) (hnu : numB s i = false) (hs4 : sees4 s i = false) (hs3 : sees3 s i = false) (hat : (pk s i == 64) = true) (hb1 : begB s (i + 1) = false) (hb0 : begB s i = false) (HV : Hid (token s i = (Tok.w 15 (one s i), i + 1))) :
    Calls Tryz.prog 114 #[.pointer (some ⟨b, 0, none⟩)] w fun e w' => e = .returned (tokV (token s i).1) ∧ Went b s (token s i).2 w w' := by
  have W := Went.nh h
  have R := Res.nh w
  have hbw : b < w.heap.size := h.lt
  have hs : s.size ≤ 600 := h.len
  have _hi := hi
  clear h
  have c00 := W.out.1.c0
  have c10 := W.out.1.c1
  have cf0 := W.out.1.f1
  have cl0 := W.out.1.lt
  have cs0 := W.out.1.len
  have ce0 := W.out.1.le
  go_enter Tryz.func114, Tryz.ntmps114
  go_wp2_with fail
  refine (peek_c s b (i) _ (i) _ (W.out.1) ⟨by omega, by omega, by omega⟩).mono ?_
  rintro e wq ⟨rfl, nq, rfl⟩
  go_wp2_with fail
  refine (isBlank_c _ _).mono ?_
  rintro e wq ⟨rfl, rfl⟩
  go_wp2_with fail
  refine (isQuote_c _ _).mono ?_
  rintro e wq ⟨rfl, rfl⟩
  go_wp2_with fail
  refine (numberBegins_c s b i _ (W.out.1.drewN _)).mono ?_
  rintro e wq ⟨rfl, nq, rfl⟩
  go_wp2_with fail
  refine (stands4_c s b i _ (W.out.1.drewN _)).mono ?_
  rintro e wq ⟨rfl, nq, rfl⟩
  go_wp2_with fail
  refine (stands3_c s b i _ (W.out.1.drewN _)).mono ?_
  rintro e wq ⟨rfl, nq, rfl⟩
  go_wp2_with fail
  refine (nameBegins_c s b (i) _ (i + 1) _ (W.out.1.drewN _) ⟨by omega, by omega, by omega⟩).mono ?_
  rintro e wq ⟨rfl, nq, rfl⟩
  go_wp2_with fail
  refine (nameBegins_c s b (i) _ (i) _ (W.out.1.drewN _) ⟨by omega, by omega, by omega⟩).mono ?_
  rintro e wq ⟨rfl, nq, rfl⟩
  go_wp2_with fail
  refine (take_c s b i _ (W.out.1.drewN _) hi).mono ?_
  rintro e w1 ⟨rfl, hwent⟩
  have W1 : Hid (Went b s (i + 1) w w1) := (W.out.drewN _).trans hwent
  have R1 : Hid (Res w1 w.heap.size) := (R.out.drewN _).turn hwent.2 (by omega)
  clear hwent
  have r0 := R1.out.c0
  have r1 := R1.out.c1
  have r2 := R1.out.c2
  have rf := R1.out.f
  have rl := R1.out.lt
  go_wp2_with fail
  refine bodyPost_ret (v := tokV (Tok.w 15 (one s i))) (by simp [results, Tryz.results114, go_sem, tokV, Tok.w, r0, r1, r2]; rfl) rfl ⟨?_, ?_⟩
  · rw [HV.out]
  · rw [HV.out]; exact ((W1.out.setO hbw (Nat.le_refl _) _ _).setO hbw (Nat.le_refl _) _ _).setO hbw (Nat.le_refl _) _ _
theorem token_num_b (s : ByteArray) (b i : Nat) (w : World) (h : Sc w b s i) (hi : i < s.size) (hbl : blankI (pk s i) = false) (hqu : quoteI (pk s i) = false) (hha : (pk s i == 35) = true) (hgo : goesB s (i + 1) = false) (hnu : numB s i = true) (HV : Hid (token s i = Sp.numeric s i)) :
    Calls Tryz.prog 114 #[.pointer (some ⟨b, 0, none⟩)] w fun e w' => e = .returned (tokV (token s i).1) ∧ Went b s (token s i).2 w w' := by
  have W := Went.nh h
  have R := Res.nh w
  have hbw : b < w.heap.size := h.lt
  have hs : s.size ≤ 600 := h.len
  have _hi := hi
  clear h
  have c00 := W.out.1.c0
  have c10 := W.out.1.c1
  have cf0 := W.out.1.f1
  have cl0 := W.out.1.lt
  have cs0 := W.out.1.len
  have ce0 := W.out.1.le
  go_enter Tryz.func114, Tryz.ntmps114
  go_wp2_with fail
  refine (peek_c s b (i) _ (i) _ (W.out.1) ⟨by omega, by omega, by omega⟩).mono ?_
  rintro e wq ⟨rfl, nq, rfl⟩
  go_wp2_with fail
  refine (isBlank_c _ _).mono ?_
  rintro e wq ⟨rfl, rfl⟩
  go_wp2_with fail
  refine (isQuote_c _ _).mono ?_
  rintro e wq ⟨rfl, rfl⟩
  go_wp2_with fail
  refine (nameGoesOn_c s b (i) _ (i + 1) _ (W.out.1.drewN _) ⟨by omega, by omega, by omega⟩).mono ?_
  rintro e wq ⟨rfl, nq, rfl⟩
  go_wp2_with fail
  refine (numberBegins_c s b i _ (W.out.1.drewN _)).mono ?_
  rintro e wq ⟨rfl, nq, rfl⟩
  go_wp2_with fail
  refine (numeric_c s b i _ (W.out.1.drewN _)).mono ?_
  rintro e w1 ⟨rfl, hwent⟩
  have W1 : Hid (Went b s (Sp.numeric s i).2 w w1) := (W.out.drewN _).trans hwent
  have R1 : Hid (Res w1 w.heap.size) := (R.out.drewN _).turn hwent.2 (by omega)
  clear hwent
  have r0 := R1.out.c0
  have r1 := R1.out.c1
  have r2 := R1.out.c2
  have rf := R1.out.f
  have rl := R1.out.lt
  unfold tokV
  go_wp2_with fail
  refine bodyPost_ret (v := tokV ((Sp.numeric s i).1)) (by simp [results, Tryz.results114, go_sem, tokV, r0, r1, r2]) rfl ⟨?_, ?_⟩
  · rw [HV.out]
  · rw [HV.out]; exact ((W1.out.setO hbw (Nat.le_refl _) _ _).setO hbw (Nat.le_refl _) _ _).setO hbw (Nat.le_refl _) _ _
theorem token_open_b (s : ByteArray) (b i : Nat) (w : World) (h : Sc w b s i) (hi : i < s.size) (hbl : blankI (pk s i) = false) (hqu : quoteI (pk s i) = false) (hha : (pk s i == 35) = true) (hgo : goesB s (i + 1) = false) (hnu : numB s i = false) (hs4 : sees4 s i = true) (hl : i + 4 ≤ s.size) (HV : Hid (token s i = (Tok.k 8, i + 4))) :
    Calls Tryz.prog 114 #[.pointer (some ⟨b, 0, none⟩)] w fun e w' => e = .returned (tokV (token s i).1) ∧ Went b s (token s i).2 w w' := by
  have W := Went.nh h
  have R := Res.nh w
  have hbw : b < w.heap.size := h.lt
  have hs : s.size ≤ 600 := h.len
  have _hi := hi
  clear h
  have c00 := W.out.1.c0
  have c10 := W.out.1.c1
  have cf0 := W.out.1.f1
  have cl0 := W.out.1.lt
  have cs0 := W.out.1.len
  have ce0 := W.out.1.le
  go_enter Tryz.func114, Tryz.ntmps114
  go_wp2_with fail
  refine (peek_c s b (i) _ (i) _ (W.out.1) ⟨by omega, by omega, by omega⟩).mono ?_
  rintro e wq ⟨rfl, nq, rfl⟩
  go_wp2_with fail
  refine (isBlank_c _ _).mono ?_
  rintro e wq ⟨rfl, rfl⟩
  go_wp2_with fail
  refine (isQuote_c _ _).mono ?_
  rintro e wq ⟨rfl, rfl⟩
  go_wp2_with fail
  refine (nameGoesOn_c s b (i) _ (i + 1) _ (W.out.1.drewN _) ⟨by omega, by omega, by omega⟩).mono ?_
  rintro e wq ⟨rfl, nq, rfl⟩
  go_wp2_with fail
  refine (numberBegins_c s b i _ (W.out.1.drewN _)).mono ?_
  rintro e wq ⟨rfl, nq, rfl⟩
  go_wp2_with fail
  refine (stands4_c s b i _ (W.out.1.drewN _)).mono ?_
  rintro e wq ⟨rfl, nq, rfl⟩
  have r0 := R.out.c0
  have r1 := R.out.c1
  have r2 := R.out.c2
  have rf := R.out.f
  have rl := R.out.lt
  go_wp2_with fail
  refine bodyPost_ret (v := tokV (Tok.k 8)) (by simp [results, Tryz.results114, go_sem, tokV, Tok.k, r0, r1, r2]; rfl) rfl ⟨?_, ?_⟩
  · rw [HV.out]
  · rw [HV.out]; exact ((((W.out.drewN _).setv _ (i + 4) (by omega) (by omega)).setO hbw (Nat.le_refl _) _ _).setO hbw (Nat.le_refl _) _ _).setO hbw (Nat.le_refl _) _ _
theorem token_close_b (s : ByteArray) (b i : Nat) (w : World) (h : Sc w b s i) (hi : i < s.size) (hbl : blankI (pk s i) = false) (hqu : quoteI (pk s i) = false) (hha : (pk s i == 35) = true) (hgo : goesB s (i + 1) = false) (hnu : numB s i = false) (hs4 : sees4 s i = false) (hs3 : sees3 s i = true) (hl : i + 3 ≤ s.size) (HV : Hid (token s i = (Tok.k 9, i + 3))) :
    Calls Tryz.prog 114 #[.pointer (some ⟨b, 0, none⟩)] w fun e w' => e = .returned (tokV (token s i).1) ∧ Went b s (token s i).2 w w' := by
  have W := Went.nh h
  have R := Res.nh w
  have hbw : b < w.heap.size := h.lt
  have hs : s.size ≤ 600 := h.len
  have _hi := hi
  clear h
  have c00 := W.out.1.c0
  have c10 := W.out.1.c1
  have cf0 := W.out.1.f1
  have cl0 := W.out.1.lt
  have cs0 := W.out.1.len
  have ce0 := W.out.1.le
  go_enter Tryz.func114, Tryz.ntmps114
  go_wp2_with fail
  refine (peek_c s b (i) _ (i) _ (W.out.1) ⟨by omega, by omega, by omega⟩).mono ?_
  rintro e wq ⟨rfl, nq, rfl⟩
  go_wp2_with fail
  refine (isBlank_c _ _).mono ?_
  rintro e wq ⟨rfl, rfl⟩
  go_wp2_with fail
  refine (isQuote_c _ _).mono ?_
  rintro e wq ⟨rfl, rfl⟩
  go_wp2_with fail
  refine (nameGoesOn_c s b (i) _ (i + 1) _ (W.out.1.drewN _) ⟨by omega, by omega, by omega⟩).mono ?_
  rintro e wq ⟨rfl, nq, rfl⟩
  go_wp2_with fail
  refine (numberBegins_c s b i _ (W.out.1.drewN _)).mono ?_
  rintro e wq ⟨rfl, nq, rfl⟩
  go_wp2_with fail
  refine (stands4_c s b i _ (W.out.1.drewN _)).mono ?_
  rintro e wq ⟨rfl, nq, rfl⟩
  go_wp2_with fail
  refine (stands3_c s b i _ (W.out.1.drewN _)).mono ?_
  rintro e wq ⟨rfl, nq, rfl⟩
  have r0 := R.out.c0
  have r1 := R.out.c1
  have r2 := R.out.c2
  have rf := R.out.f
  have rl := R.out.lt
  go_wp2_with fail
  refine bodyPost_ret (v := tokV (Tok.k 9)) (by simp [results, Tryz.results114, go_sem, tokV, Tok.k, r0, r1, r2]; rfl) rfl ⟨?_, ?_⟩
  · rw [HV.out]
  · rw [HV.out]; exact ((((W.out.drewN _).setv _ (i + 3) (by omega) (by omega)).setO hbw (Nat.le_refl _) _ _).setO hbw (Nat.le_refl _) _ _).setO hbw (Nat.le_refl _) _ _
theorem token_named_bc (s : ByteArray) (b i : Nat) (w : World) (h : Sc w b s i) (hi : i < s.size) (hbl : blankI (pk s i) = false) (hqu : quoteI (pk s i) = false) (hha : (pk s i == 35) = true) (hgo : goesB s (i + 1) = false) (hnu : numB s i = false) (hs4 : sees4 s i = false) (hs3 : sees3 s i = false) (hat : (pk s i == 64) = false) (hb0 : begB s i = true) (HV : Hid (token s i = named s i)) :
    Calls Tryz.prog 114 #[.pointer (some ⟨b, 0, none⟩)] w fun e w' => e = .returned (tokV (token s i).1) ∧ Went b s (token s i).2 w w' := by
  have W := Went.nh h
  have R := Res.nh w
  have hbw : b < w.heap.size := h.lt
  have hs : s.size ≤ 600 := h.len
  have _hi := hi
  clear h
  have c00 := W.out.1.c0
  have c10 := W.out.1.c1
  have cf0 := W.out.1.f1
  have cl0 := W.out.1.lt
  have cs0 := W.out.1.len
  have ce0 := W.out.1.le
  go_enter Tryz.func114, Tryz.ntmps114
  go_wp2_with fail
  refine (peek_c s b (i) _ (i) _ (W.out.1) ⟨by omega, by omega, by omega⟩).mono ?_
  rintro e wq ⟨rfl, nq, rfl⟩
  go_wp2_with fail
  refine (isBlank_c _ _).mono ?_
  rintro e wq ⟨rfl, rfl⟩
  go_wp2_with fail
  refine (isQuote_c _ _).mono ?_
  rintro e wq ⟨rfl, rfl⟩
  go_wp2_with fail
  refine (nameGoesOn_c s b (i) _ (i + 1) _ (W.out.1.drewN _) ⟨by omega, by omega, by omega⟩).mono ?_
  rintro e wq ⟨rfl, nq, rfl⟩
  go_wp2_with fail
  refine (numberBegins_c s b i _ (W.out.1.drewN _)).mono ?_
  rintro e wq ⟨rfl, nq, rfl⟩
  go_wp2_with fail
  refine (stands4_c s b i _ (W.out.1.drewN _)).mono ?_
  rintro e wq ⟨rfl, nq, rfl⟩
  go_wp2_with fail
  refine (stands3_c s b i _ (W.out.1.drewN _)).mono ?_
  rintro e wq ⟨rfl, nq, rfl⟩
  go_wp2_with fail
  refine (nameBegins_c s b (i) _ (i) _ (W.out.1.drewN _) ⟨by omega, by omega, by omega⟩).mono ?_
  rintro e wq ⟨rfl, nq, rfl⟩
  go_wp2_with fail
  refine (named_c s b i _ (W.out.1.drewN _)).mono ?_
  rintro e w1 ⟨rfl, hwent⟩
  have W1 : Hid (Went b s (named s i).2 w w1) := (W.out.drewN _).trans hwent
  have R1 : Hid (Res w1 w.heap.size) := (R.out.drewN _).turn hwent.2 (by omega)
  clear hwent
  have r0 := R1.out.c0
  have r1 := R1.out.c1
  have r2 := R1.out.c2
  have rf := R1.out.f
  have rl := R1.out.lt
  unfold tokV
  go_wp2_with fail
  refine bodyPost_ret (v := tokV ((named s i).1)) (by simp [results, Tryz.results114, go_sem, tokV, r0, r1, r2]) rfl ⟨?_, ?_⟩
  · rw [HV.out]
  · rw [HV.out]; exact ((W1.out.setO hbw (Nat.le_refl _) _ _).setO hbw (Nat.le_refl _) _ _).setO hbw (Nat.le_refl _) _ _
theorem token_sign_bc (s : ByteArray) (b i : Nat) (w : World) (h : Sc w b s i) (hi : i < s.size) (hbl : blankI (pk s i) = false) (hqu : quoteI (pk s i) = false) (hha : (pk s i == 35) = true) (hgo : goesB s (i + 1) = false) (hnu : numB s i = false) (hs4 : sees4 s i = false) (hs3 : sees3 s i = false) (hat : (pk s i == 64) = false) (hb0 : begB s i = false) (HV : Hid (token s i = (Tok.w 15 (one s i), i + 1))) :
    Calls Tryz.prog 114 #[.pointer (some ⟨b, 0, none⟩)] w fun e w' => e = .returned (tokV (token s i).1) ∧ Went b s (token s i).2 w w' := by
  have W := Went.nh h
  have R := Res.nh w
  have hbw : b < w.heap.size := h.lt
  have hs : s.size ≤ 600 := h.len
  have _hi := hi
  clear h
  have c00 := W.out.1.c0
  have c10 := W.out.1.c1
  have cf0 := W.out.1.f1
  have cl0 := W.out.1.lt
  have cs0 := W.out.1.len
  have ce0 := W.out.1.le
  go_enter Tryz.func114, Tryz.ntmps114
  go_wp2_with fail
  refine (peek_c s b (i) _ (i) _ (W.out.1) ⟨by omega, by omega, by omega⟩).mono ?_
  rintro e wq ⟨rfl, nq, rfl⟩
  go_wp2_with fail
  refine (isBlank_c _ _).mono ?_
  rintro e wq ⟨rfl, rfl⟩
  go_wp2_with fail
  refine (isQuote_c _ _).mono ?_
  rintro e wq ⟨rfl, rfl⟩
  go_wp2_with fail
  refine (nameGoesOn_c s b (i) _ (i + 1) _ (W.out.1.drewN _) ⟨by omega, by omega, by omega⟩).mono ?_
  rintro e wq ⟨rfl, nq, rfl⟩
  go_wp2_with fail
  refine (numberBegins_c s b i _ (W.out.1.drewN _)).mono ?_
  rintro e wq ⟨rfl, nq, rfl⟩
  go_wp2_with fail
  refine (stands4_c s b i _ (W.out.1.drewN _)).mono ?_
  rintro e wq ⟨rfl, nq, rfl⟩
  go_wp2_with fail
  refine (stands3_c s b i _ (W.out.1.drewN _)).mono ?_
  rintro e wq ⟨rfl, nq, rfl⟩
  go_wp2_with fail
  refine (nameBegins_c s b (i) _ (i) _ (W.out.1.drewN _) ⟨by omega, by omega, by omega⟩).mono ?_
  rintro e wq ⟨rfl, nq, rfl⟩
  go_wp2_with fail
  refine (take_c s b i _ (W.out.1.drewN _) hi).mono ?_
  rintro e w1 ⟨rfl, hwent⟩
  have W1 : Hid (Went b s (i + 1) w w1) := (W.out.drewN _).trans hwent
  have R1 : Hid (Res w1 w.heap.size) := (R.out.drewN _).turn hwent.2 (by omega)
  clear hwent
  have r0 := R1.out.c0
  have r1 := R1.out.c1
  have r2 := R1.out.c2
  have rf := R1.out.f
  have rl := R1.out.lt
  go_wp2_with fail
  refine bodyPost_ret (v := tokV (Tok.w 15 (one s i))) (by simp [results, Tryz.results114, go_sem, tokV, Tok.w, r0, r1, r2]; rfl) rfl ⟨?_, ?_⟩
  · rw [HV.out]
  · rw [HV.out]; exact ((W1.out.setO hbw (Nat.le_refl _) _ _).setO hbw (Nat.le_refl _) _ _).setO hbw (Nat.le_refl _) _ _
theorem token_c (s : ByteArray) (b i : Nat) (w : World) (h : Sc w b s i) (hi : i < s.size) :
    Calls Tryz.prog 114 #[.pointer (some ⟨b, 0, none⟩)] w fun e w' => e = .returned (tokV (token s i).1) ∧ Went b s (token s i).2 w w' := by
  have T : token s i = token s i := rfl
  conv at T => rhs; unfold token
  cases hbl : blankI (pk s i)
  · rw [hbl] at T
    cases hqu : quoteI (pk s i)
    · rw [hqu] at T
      have key : ∀ (_ : pk s i = 35 → goesB s (i + 1) = false), Calls Tryz.prog 114 #[.pointer (some ⟨b, 0, none⟩)] w fun e w' => e = .returned (tokV (token s i).1) ∧ Went b s (token s i).2 w w' := by
        intro hno
        rw [if_neg (by simp), if_neg (by simp), if_neg (fun h => by simp [hno h.1] at h)] at T
        cases hnu : numB s i
        · rw [hnu, if_neg (by simp)] at T
          cases hs4 : sees4 s i
          · rw [hs4, if_neg (by simp)] at T
            cases hs3 : sees3 s i
            · rw [hs3, if_neg (by simp)] at T
              by_cases hat : pk s i = 64
              · have hha : (pk s i == 35) = false := by rw [hat]; rfl
                have hat' : (pk s i == 64) = true := by rw [hat]; rfl
                cases hb1 : begB s (i + 1)
                · rw [if_neg (by simp [hb1])] at T
                  cases hb0 : begB s i
                  · rw [hb0, if_neg (by simp)] at T
                    exact token_sign_ad s b i w h hi hbl hqu hha hnu hs4 hs3 hat' hb1 hb0 T
                  · rw [hb0, if_pos rfl] at T
                    exact token_named_ad s b i w h hi hbl hqu hha hnu hs4 hs3 hat' hb1 hb0 T
                · rw [if_pos ⟨hat, hb1⟩] at T
                  exact token_at_a s b i w h hi hbl hqu hha hnu hs4 hs3 hat' hb1 T
              · have hat' : (pk s i == 64) = false := by simpa using hat
                rw [if_neg (fun h => hat h.1)] at T
                cases hb0 : begB s i
                · rw [hb0, if_neg (by simp)] at T
                  cases hha : (pk s i == 35)
                  · exact token_sign_ac s b i w h hi hbl hqu hha hnu hs4 hs3 hat' hb0 T
                  · exact token_sign_bc s b i w h hi hbl hqu hha (hno (by simpa using hha)) hnu hs4 hs3 hat' hb0 T
                · rw [hb0, if_pos rfl] at T
                  cases hha : (pk s i == 35)
                  · exact token_named_ac s b i w h hi hbl hqu hha hnu hs4 hs3 hat' hb0 T
                  · exact token_named_bc s b i w h hi hbl hqu hha (hno (by simpa using hha)) hnu hs4 hs3 hat' hb0 T
            · have hl : i + 3 ≤ s.size := by
                have h3 := hs3
                simp [sees3] at h3; have := pk_lt (s := s) (i := i + 2) (by omega); omega
              rw [hs3, if_pos rfl] at T
              cases hha : (pk s i == 35)
              · exact token_close_a s b i w h hi hbl hqu hha hnu hs4 hs3 hl T
              · exact token_close_b s b i w h hi hbl hqu hha (hno (by simpa using hha)) hnu hs4 hs3 hl T
          · have hl : i + 4 ≤ s.size := by
              have h4 := hs4
              simp [sees4] at h4; have := pk_lt (s := s) (i := i + 3) (by omega); omega
            rw [hs4, if_pos rfl] at T
            cases hha : (pk s i == 35)
            · exact token_open_a s b i w h hi hbl hqu hha hnu hs4 hl T
            · exact token_open_b s b i w h hi hbl hqu hha (hno (by simpa using hha)) hnu hs4 hl T
        · rw [hnu, if_pos rfl] at T
          cases hha : (pk s i == 35)
          · exact token_num_a s b i w h hi hbl hqu hha hnu T
          · exact token_num_b s b i w h hi hbl hqu hha (hno (by simpa using hha)) hnu T
      by_cases hha : pk s i = 35
      · cases hgo : goesB s (i + 1)
        · exact key (fun _ => hgo)
        · rw [if_neg (by simp), if_neg (by simp), if_pos ⟨hha, hgo⟩] at T
          exact token_hash s b i w h hi hbl hqu (by rw [hha]; rfl) hgo T
      · exact key (fun h => absurd h hha)
    · rw [hqu, if_neg (by simp), if_pos rfl] at T
      exact token_text s b i w h hi hbl hqu T
  · rw [hbl, if_pos rfl] at T
    exact token_blank s b i w h hi hbl T
end Go.Proofs.YtlliliddljkbfaaGreat
