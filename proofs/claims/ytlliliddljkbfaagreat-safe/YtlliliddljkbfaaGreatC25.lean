import Derived.Test.YtlliliddljkbfaaGreatC8
import Derived.Test.YtlliliddljkbfaaGreatC23
import Derived.Test.YtlliliddljkbfaaGreatC24
namespace Go.Proofs.YtlliliddljkbfaaGreat
set_option maxHeartbeats 64000000
set_option maxRecDepth 100000
open Go.RowKit Sp
structure Res (w : World) (R : Nat) : Prop where
  blk : w.heap[R]? = some (.cells #[.int .i64 0, .string ⟨#[]⟩, .string ⟨#[]⟩] 93 (0, 0))
theorem Res.new (w : World) : Res (w.alloc (.cells #[.int .i64 0, .string ⟨#[]⟩, .string ⟨#[]⟩] 93 (0, 0))) w.heap.size := ⟨heap_alloc_new w _⟩
theorem Res.nh (w : World) : Hid (Res (w.alloc (.cells #[.int .i64 0, .string ⟨#[]⟩, .string ⟨#[]⟩] 93 (0, 0))) w.heap.size) := Res.new w
theorem Res.lt {w : World} {R : Nat} (h : Res w R) : R < w.heap.size := (Array.getElem?_eq_some_iff.1 h.blk).1
theorem Res.c0 {w : World} {R : Nat} (h : Res w R) : w.cell? ⟨R, 0, none⟩ = some (.int .i64 0) := by unfold World.cell?; rw [h.blk]; rfl
theorem Res.c1 {w : World} {R : Nat} (h : Res w R) : w.cell? ⟨R, 1, none⟩ = some (.string ⟨#[]⟩) := by unfold World.cell?; rw [h.blk]; rfl
theorem Res.c2 {w : World} {R : Nat} (h : Res w R) : w.cell? ⟨R, 2, none⟩ = some (.string ⟨#[]⟩) := by unfold World.cell?; rw [h.blk]; rfl
theorem Res.f {w : World} {R : Nat} (h : Res w R) (o : Nat) : w.frozen? ⟨R, o, none⟩ = false := by unfold World.frozen?; rw [h.blk]; simp
theorem Res.turn {w w' : World} {R b : Nat} (h : Res w R) (ht : Turn b w w') (hb : R ≠ b) : Res w' R := ⟨by rw [ht.block R h.lt hb]; exact h.blk⟩
theorem Res.drewN {w : World} {R : Nat} (h : Res w R) (n : Nat) : Res (w.drewN n) R := ⟨h.blk⟩
theorem Res.set {w : World} {R b o : Nat} (h : Res w R) (hb : R ≠ b) (v : Value) : Res (w.setCell ⟨b, o, none⟩ v) R := ⟨by rw [Below.heap_setCell _ _ _ _ (by exact hb)]; exact h.blk⟩
theorem Went.setO {b k : Nat} {s : ByteArray} {w w1 : World} {R : Nat} (h : Went b s k w w1) (hb : b < w.heap.size) (hR : w.heap.size ≤ R) (o : Nat) (v : Value) : Went b s k w (w1.setCell ⟨R, o, none⟩ v) := by
  have hp := h.1.pos
  have hsz := h.2.size
  refine ⟨⟨?_, ?_, h.1.pos, h.1.len, h.1.le⟩, ⟨h.2.os, h.2.tape, h.2.output, by simp [World.setCell]; exact h.2.size, fun j hj hjb => ?_⟩⟩
  · rw [Below.heap_setCell _ _ _ _ (by show b ≠ R; omega)]; exact h.1.blk
  · obtain ⟨m, hm⟩ := h.1.glob
    exact ⟨m, by rw [← hm]; exact World.cell?_of_block (w := w1) (Below.heap_setCell _ _ _ _ (by show (0 : Nat) ≠ R; omega))⟩
  · rw [Below.heap_setCell _ _ _ _ (by show j ≠ R; omega)]; exact h.2.block j hj hjb
def tokV (t : Tok) : Value := .agg #[.int .i64 t.kind, .string t.word, .string t.unit]
theorem numeric_c (s : ByteArray) (b i : Nat) (w : World) (h : Sc w b s i) :
    Calls Tryz.prog 182 #[.pointer (some ⟨b, 0, none⟩)] w fun e w' => e = .returned (tokV (Sp.numeric s i).1) ∧ Went b s (Sp.numeric s i).2 w w' := by
  have W := Went.nh h
  have hbw : b < w.heap.size := h.lt
  clear h
  cases h37 : (pk s (numE s i) == 37)
  · have n37 : ¬ pk s (numE s i) = 37 := by simpa using h37
    cases hbg : begB s (numE s i)
    · have HV : Hid (Sp.numeric s i = (Tok.w 5 (s.extract i (numE s i)), numE s i)) := by
        show _ = _; unfold Sp.numeric; dsimp only; rw [if_neg n37, if_neg (by simp [hbg])]
      clear n37
      go_enter Tryz.func182, Tryz.ntmps182
      go_wp2_with fail
      refine (number_c s b i _ W.out.1).mono ?_
      rintro e w1 ⟨rfl, hwent⟩
      have W1 : Hid (Went b s (numE s i) w w1) := W.out.trans hwent
      have R1 : Hid (Res w1 w.heap.size) := (Res.new w).turn hwent.2 (by omega)
      clear hwent
      have c01 := W1.out.1.c0
      have c11 := W1.out.1.c1
      have cf1 := W1.out.1.f1
      have cl1 := W1.out.1.lt
      have cs1 := W1.out.1.len
      have ce1 := W1.out.1.le
      go_wp2_with fail
      refine (peek_c s b (numE s i) _ (numE s i) _ (W1.out.1) ⟨by omega, by omega, by omega⟩).mono ?_
      rintro e wq ⟨rfl, nq, rfl⟩
      go_wp2_with fail
      refine (nameBegins_c s b (numE s i) _ (numE s i) _ (W1.out.1.drewN _) ⟨by omega, by omega, by omega⟩).mono ?_
      rintro e wq ⟨rfl, nq, rfl⟩
      have r0 := R1.out.c0
      have r1 := R1.out.c1
      have r2 := R1.out.c2
      have rf := R1.out.f
      have rl := R1.out.lt
      go_wp2_with fail
      rw [HV.out]
      exact bodyPost_ret (v := tokV (Tok.w 5 (s.extract i (numE s i)))) (by simp [results, Tryz.results182, go_sem, tokV, Tok.w, r0, r1, r2]; rfl) rfl ⟨rfl, ((((W1.out.drewN _)).setO hbw (Nat.le_refl _) _ _).setO hbw (Nat.le_refl _) _ _).setO hbw (Nat.le_refl _) _ _⟩
    · have HV : Hid (Sp.numeric s i = (⟨7, s.extract i (numE s i), (Sp.name s (numE s i)).1⟩, (Sp.name s (numE s i)).2)) := by
        show _ = _; unfold Sp.numeric; dsimp only; rw [if_neg n37, if_pos hbg]
      clear n37
      go_enter Tryz.func182, Tryz.ntmps182
      go_wp2_with fail
      refine (number_c s b i _ W.out.1).mono ?_
      rintro e w1 ⟨rfl, hwent⟩
      have W1 : Hid (Went b s (numE s i) w w1) := W.out.trans hwent
      have R1 : Hid (Res w1 w.heap.size) := (Res.new w).turn hwent.2 (by omega)
      clear hwent
      go_wp2_with fail
      refine (peek_c s b (numE s i) _ (numE s i) _ (W1.out.1) ⟨by omega, by omega, by omega⟩).mono ?_
      rintro e wq ⟨rfl, nq, rfl⟩
      go_wp2_with fail
      refine (nameBegins_c s b (numE s i) _ (numE s i) _ (W1.out.1.drewN _) ⟨by omega, by omega, by omega⟩).mono ?_
      rintro e wq ⟨rfl, nq, rfl⟩
      go_wp2_with fail
      refine (name_c s b (numE s i) _ (W1.out.1.drewN _)).mono ?_
      rintro e w2 ⟨rfl, hwent⟩
      have W2 : Hid (Went b s (Sp.name s (numE s i)).2 w w2) := (W1.out.drewN _).trans hwent
      have R2 : Hid (Res w2 w.heap.size) := (R1.out.drewN _).turn hwent.2 (by omega)
      clear hwent
      have r0 := R2.out.c0
      have r1 := R2.out.c1
      have r2 := R2.out.c2
      have rf := R2.out.f
      have rl := R2.out.lt
      go_wp2_with fail
      rw [HV.out]
      exact bodyPost_ret (v := tokV ⟨7, s.extract i (numE s i), (Sp.name s (numE s i)).1⟩) (by simp [results, Tryz.results182, go_sem, tokV, r0, r1, r2]) rfl ⟨rfl, ((W2.out.setO hbw (Nat.le_refl _) _ _).setO hbw (Nat.le_refl _) _ _).setO hbw (Nat.le_refl _) _ _⟩
  · have hlt : numE s i < s.size := pk_lt (by have : pk s (numE s i) = 37 := (by simpa using h37); omega)
    have HV : Hid (Sp.numeric s i = (Tok.w 6 (s.extract i (numE s i)), numE s i + 1)) := by
      show _ = _; unfold Sp.numeric; dsimp only; rw [if_pos (by simpa using h37)]
    go_enter Tryz.func182, Tryz.ntmps182
    go_wp2_with fail
    refine (number_c s b i _ W.out.1).mono ?_
    rintro e w1 ⟨rfl, hwent⟩
    have W1 : Hid (Went b s (numE s i) w w1) := W.out.trans hwent
    have R1 : Hid (Res w1 w.heap.size) := (Res.new w).turn hwent.2 (by omega)
    clear hwent
    have c01 := W1.out.1.c0
    have c11 := W1.out.1.c1
    have cf1 := W1.out.1.f1
    have cl1 := W1.out.1.lt
    have cs1 := W1.out.1.len
    have ce1 := W1.out.1.le
    go_wp2_with fail
    refine (peek_c s b (numE s i) _ (numE s i) _ (W1.out.1) ⟨by omega, by omega, by omega⟩).mono ?_
    rintro e wq ⟨rfl, nq, rfl⟩
    have r0 := R1.out.c0
    have r1 := R1.out.c1
    have r2 := R1.out.c2
    have rf := R1.out.f
    have rl := R1.out.lt
    go_wp2_with fail
    rw [HV.out]
    exact bodyPost_ret (v := tokV (Tok.w 6 (s.extract i (numE s i)))) (by simp [results, Tryz.results182, go_sem, tokV, Tok.w, r0, r1, r2]; rfl) rfl ⟨rfl, (((((W1.out.drewN _).setv _ (numE s i + 1) (by omega) (by omega))).setO hbw (Nat.le_refl _) _ _).setO hbw (Nat.le_refl _) _ _).setO hbw (Nat.le_refl _) _ _⟩
theorem Res.alloc {w : World} {R : Nat} (h : Res w R) (o : Obj) : Res (w.alloc o) R := ⟨by rw [Below.heap_alloc _ _ _ h.lt]; exact h.blk⟩
theorem Res.grown {w w' : World} {R : Nat} {row : Option Nat} (h : Res w R) (hg : w.grownBy w' row) (hr : ∀ r, row = some r → R < r) : Res w' R := ⟨by rw [hg.block R h.lt (fun e => by have := hr R e.symm; omega)]; exact h.blk⟩
theorem Res.below {w w' : World} {R : Nat} (h : Res w R) (hb : Below w.heap.size w w') : Res w' R := ⟨by rw [hb.block R h.lt]; exact h.blk⟩
theorem joinB_empty (ps : List ByteArray) : joinB (ps ++ [ByteArray.empty]) = joinB ps := by rw [joinB_snoc]; simp
theorem textEscape_end (s : ByteArray) (b i : Nat) (w : World) (h : Sc w b s i) (hi : i < s.size) (he : s.size ≤ i + 1) :
    Calls Tryz.prog 236 #[.pointer (some ⟨b, 0, none⟩)] w fun e w' => e = .returned (.string ByteArray.empty) ∧ Went b s (i + 1) w w' := by
  have W : Hid (Went b s i w w) := Went.refl h
  clear h
  have c00 := W.out.1.c0
  have c10 := W.out.1.c1
  have cf0 := W.out.1.f1
  have cl0 := W.out.1.lt
  have cs0 := W.out.1.len
  have ce0 := W.out.1.le
  have e1 : (pk s (i + 1) == -1) = true := by rw [pk_out he]; rfl
  go_enter Tryz.func236, Tryz.ntmps236
  go_wp2_with fail
  refine (peek_c s b (i) _ (i + 1) _ (W.out.1) ⟨by omega, by omega, by omega⟩).mono ?_
  rintro e wq ⟨rfl, nq, rfl⟩
  go_wp2_with fail
  go_ret
  exact ⟨rfl, (W.out.drewN _).setv _ (i + 1) (by omega) (by omega)⟩
theorem textEscape_line (s : ByteArray) (b i : Nat) (w : World) (h : Sc w b s i) (hi : i + 1 < s.size) (he : pk s (i + 1) = 10) :
    Calls Tryz.prog 236 #[.pointer (some ⟨b, 0, none⟩)] w fun e w' => e = .returned (.string ByteArray.empty) ∧ Went b s (i + 2) w w' := by
  have W : Hid (Went b s i w w) := Went.refl h
  clear h
  have c00 := W.out.1.c0
  have c10 := W.out.1.c1
  have cf0 := W.out.1.f1
  have cl0 := W.out.1.lt
  have cs0 := W.out.1.len
  have ce0 := W.out.1.le
  have e1 : (pk s (i + 1) == -1) = false := by rw [he]; rfl
  have e2 : (pk s (i + 1) == 10) = true := by rw [he]; rfl
  clear he
  go_enter Tryz.func236, Tryz.ntmps236
  go_wp2_with fail
  refine (peek_c s b (i) _ (i + 1) _ (W.out.1) ⟨by omega, by omega, by omega⟩).mono ?_
  rintro e wq ⟨rfl, nq, rfl⟩
  go_wp2_with fail
  go_ret
  exact ⟨rfl, (W.out.drewN _).setv _ (i + 2) (by omega) (by omega)⟩
theorem textEscape_esc (s : ByteArray) (b i : Nat) (w : World) (h : Sc w b s i) (hi : i + 1 < s.size) (he : ¬ pk s (i + 1) = 10) :
    Calls Tryz.prog 236 #[.pointer (some ⟨b, 0, none⟩)] w fun e w' => e = .returned (.string (esc s i).1) ∧ Went b s (esc s i).2 w w' := by
  have W : Hid (Went b s i w w) := Went.refl h
  clear h
  have e1 : (pk s (i + 1) == -1) = false := by have := pk_nn hi; simp; omega
  have e2 : (pk s (i + 1) == 10) = false := by simpa using he
  clear he
  go_enter Tryz.func236, Tryz.ntmps236
  go_wp2_with fail
  refine (peek_c s b (i) _ (i + 1) _ (W.out.1) ⟨by omega, by omega, by omega⟩).mono ?_
  rintro e wq ⟨rfl, nq, rfl⟩
  go_wp2_with fail
  refine (escape_c s b i _ (W.out.1.drewN _) (by omega)).mono ?_
  rintro e w1 ⟨rfl, hwent⟩
  have W1 : Hid (Went b s (esc s i).2 w w1) := (W.out.drewN _).trans hwent
  clear hwent
  go_wp2_with fail
  go_ret
  exact ⟨rfl, W1.out⟩
theorem text_c (s : ByteArray) (b i : Nat) (w : World) (h : Sc w b s i) (hi : i < s.size) :
    Calls Tryz.prog 178 #[.pointer (some ⟨b, 0, none⟩)] w fun e w' => e = .returned (tokV (txt s (pk s i) (i + 1)).1) ∧ Went b s (txt s (pk s i) (i + 1)).2 w w' := by
  have W := Went.nh h
  have hbw : b < w.heap.size := h.lt
  have hs : s.size ≤ 600 := h.len
  clear h
  obtain ⟨iS, hiS⟩ := info_str
  have HI : Hid (Tryz.prog.info? 9 = some iS ∧ iS.zero = some (.string ⟨#[]⟩) ∧ iS.size = 1 ∧ iS.bytes = 16) := hiS
  clear hiS
  obtain ⟨q, HQ⟩ : ∃ q, Hid (pk s i = q) := ⟨_, rfl⟩
  rw [HQ.out]
  have c00 := W.out.1.c0
  have c10 := W.out.1.c1
  have cf0 := W.out.1.f1
  have cl0 := W.out.1.lt
  have cs0 := W.out.1.len
  have ce0 := W.out.1.le
  go_enter Tryz.func178, Tryz.ntmps178
  go_wp2_with fail
  refine wp_scope_fwd (fun Q' hF => ?_)
  go_wp2_with fail
  refine (peek_c s b i _ i _ W.out.1 ⟨by omega, by omega, by omega⟩).mono ?_
  rw [HQ.out]
  rintro e wq ⟨rfl, nq, rfl⟩
  go_wp2_with fail
  go_loopg [3] s.size (fun g v3 wr => ∃ (v : Value) (k : Nat) (ps : List ByteArray), v = v3 ∧ s.size ≤ k + g ∧ ps.length ≤ k ∧ total ps ≤ k ∧ Aside (txtF s q g k (joinB ps) = txt s q (i + 1) ∧ wr.ownsRow (w.heap.size + 1) 9 1 v ps.length (ps.map Value.string) ∧ Went b s k w wr ∧ Res wr w.heap.size))
  case atStart => exact ⟨_, i + 1, [], rfl, by omega, by simp, by simp [total], rfl, World.ownsRow_nil _ _ _ _, (W.out.drewN _).setv _ (i + 1) (by omega) (by omega), ((Res.new w).drewN _).set (by omega) _⟩
  case round =>
    obtain ⟨v3, k, ps, rfl, hk, hpl, hpt, hA⟩ := hrel
    have H1 : Hid (txtF s q gk k (joinB ps) = txt s q (i + 1)) := hA.out.1
    have HO : Hid (wr.ownsRow (w.heap.size + 1) 9 1 v3 ps.length (ps.map Value.string)) := hA.out.2.1
    have H2 : Hid (Went b s k w wr) := hA.out.2.2.1
    have HR : Hid (Res wr w.heap.size) := hA.out.2.2.2
    clear hA
    have c02 := H2.out.1.c0
    have c12 := H2.out.1.c1
    have cf2 := H2.out.1.f1
    have cl2 := H2.out.1.lt
    have cs2 := H2.out.1.len
    have ce2 := H2.out.1.le
    by_cases hend : s.size ≤ k
    · have e0 : (pk s k == -1) = true := by rw [pk_out hend]; rfl
      have HV : Hid (txt s q (i + 1) = (Tok.w 2 (joinB ps), k)) := by
        show _ = _
        rw [← H1.out]
        cases gk with
        | zero => rfl
        | succ f => unfold txtF; rw [if_pos hend]
      go_wp2_with fail
      refine (peek_c s b (k) _ (k) _ (H2.out.1) ⟨by omega, by omega, by omega⟩).mono ?_
      rintro e wq ⟨rfl, nq, rfl⟩
      go_wp2_with fail
      go_step3
      refine hF.go _ _ _ _ rfl ?_
      clear hF
      go_wp2_with fail
      refine (Join_c ps (w.heap.size + 1) v3 _ (ownsRow_drewN HO.out _) (by omega) (by omega)).mono ?_
      rintro e w5 ⟨rfl, hb5⟩
      have W5 : Hid (Went b s (k) w w5) := (H2.out.drewN _).below hb5
      have R5 : Hid (Res w5 w.heap.size) := (HR.out.drewN _).below hb5
      clear hb5
      have r0 := R5.out.c0
      have r1 := R5.out.c1
      have r2 := R5.out.c2
      have rf := R5.out.f
      have rl := R5.out.lt
      go_wp2_with fail
      try rw [Exit.noGoto_ret]
      refine bodyPost_ret (v := tokV (Tok.w 2 (joinB ps))) (by simp [results, Tryz.results178, go_sem, tokV, Tok.w, r0, r1, r2]; rfl) rfl ⟨?_, ?_⟩
      · rw [HV.out]
      · rw [HV.out]; exact ((W5.out.setO hbw (Nat.le_refl _) _ _).setO hbw (Nat.le_refl _) _ _).setO hbw (Nat.le_refl _) _ _
    · have hlt : k < s.size := by omega
      have e0 : (pk s k == -1) = false := by have := pk_nn hlt; simp; omega
      obtain ⟨f, rfl⟩ : ∃ f, gk = f + 1 := ⟨gk - 1, by omega⟩
      have H1' := H1.out
      unfold txtF at H1'
      rw [if_neg hend] at H1'
      by_cases hq : pk s k = q
      · have e1 : (pk s k == q) = true := by simpa using hq
        have HV : Hid (txt s q (i + 1) = (Tok.w 2 (joinB ps), k + 1)) := by
          show _ = _
          rw [← H1', if_pos hq]
        clear hq H1'
        go_wp2_with fail
        refine (peek_c s b (k) _ (k) _ (H2.out.1) ⟨by omega, by omega, by omega⟩).mono ?_
        rintro e wq ⟨rfl, nq, rfl⟩
        go_wp2_with fail
        go_step3
        refine hF.go _ _ _ _ rfl ?_
        clear hF
        go_wp2_with fail
        refine (Join_c ps (w.heap.size + 1) v3 _ (ownsRow_turn (ownsRow_drewN HO.out _) ((Turn.refl b _).setCell 1 _) (by omega)) (by omega) (by omega)).mono ?_
        rintro e w5 ⟨rfl, hb5⟩
        have W5 : Hid (Went b s (k + 1) w w5) := ((H2.out.drewN _).setv _ (k + 1) (by omega) (by omega)).below hb5
        have R5 : Hid (Res w5 w.heap.size) := ((HR.out.drewN _).set (by omega) _).below hb5
        clear hb5
        have r0 := R5.out.c0
        have r1 := R5.out.c1
        have r2 := R5.out.c2
        have rf := R5.out.f
        have rl := R5.out.lt
        go_wp2_with fail
        try rw [Exit.noGoto_ret]
        refine bodyPost_ret (v := tokV (Tok.w 2 (joinB ps))) (by simp [results, Tryz.results178, go_sem, tokV, Tok.w, r0, r1, r2]; rfl) rfl ⟨?_, ?_⟩
        · rw [HV.out]
        · rw [HV.out]; exact ((W5.out.setO hbw (Nat.le_refl _) _ _).setO hbw (Nat.le_refl _) _ _).setO hbw (Nat.le_refl _) _ _
      · have e1 : (pk s k == q) = false := by simpa using hq
        rw [if_neg hq] at H1'
        by_cases h10 : pk s k = 10
        · have e2 : (pk s k == 10) = true := by rw [h10]; rfl
          have HV : Hid (txt s q (i + 1) = (Tok.k 3, k)) := by
            show _ = _
            rw [← H1', if_pos h10]
          clear hq h10 H1'
          have r0 := HR.out.c0
          have r1 := HR.out.c1
          have r2 := HR.out.c2
          have rf := HR.out.f
          have rl := HR.out.lt
          go_wp2_with fail
          refine (peek_c s b (k) _ (k) _ (H2.out.1) ⟨by omega, by omega, by omega⟩).mono ?_
          rintro e wq ⟨rfl, nq, rfl⟩
          go_wp2_with fail
          go_step3
          refine hF.go _ _ _ _ rfl ?_
          clear hF
          go_wp2_with fail
          try rw [Exit.noGoto_ret]
          refine bodyPost_ret (v := tokV (Tok.k 3)) (by simp [results, Tryz.results178, go_sem, tokV, Tok.k, r0, r1, r2]; rfl) rfl ⟨?_, ?_⟩
          · rw [HV.out]
          · rw [HV.out]; exact (((H2.out.drewN _).setO hbw (Nat.le_refl _) _ _).setO hbw (Nat.le_refl _) _ _).setO hbw (Nat.le_refl _) _ _
        · have e2 : (pk s k == 10) = false := by simpa using h10
          rw [if_neg h10] at H1'
          by_cases h92 : pk s k = 92
          · have e3 : (pk s k == 92) = true := by rw [h92]; rfl
            rw [if_pos h92] at H1'
            by_cases hl1 : s.size ≤ k + 1
            · rw [if_pos hl1] at H1'
              have HV : Hid (txtF s q f (k + 1) (joinB (ps ++ [ByteArray.empty])) = txt s q (i + 1)) := by show _ = _; rw [joinB_empty]; exact H1'
              clear hq h10 h92 H1'
              go_wp2_with fail
              refine (peek_c s b (k) _ (k) _ (H2.out.1) ⟨by omega, by omega, by omega⟩).mono ?_
              rintro e wq ⟨rfl, nq, rfl⟩
              go_wp2_with fail
              refine (textEscape_end s b k _ (H2.out.1.drewN _) hlt hl1).mono ?_
              rintro e w1 ⟨rfl, hwent⟩
              have W1 : Hid (Went b s (k + 1) w w1) := (H2.out.drewN _).trans hwent
              have HO1 : Hid (w1.ownsRow (w.heap.size + 1) 9 1 v3 ps.length (ps.map Value.string)) := ownsRow_turn (ownsRow_drewN HO.out _) hwent.2 (by omega)
              have R1 : Hid (Res w1 w.heap.size) := (HR.out.drewN _).turn hwent.2 (by omega)
              clear hwent
              have hw1 := W1.out.2.size
              have hw2 := R1.out.lt
              go_wp2_with (at_builtin; refine wpList_append_own _ rfl _ _ 26 rfl (w.heap.size + 1) 9 iS (.string ⟨#[]⟩) 1 16 Tryz.underlying26 HI.out.1 HI.out.2.1 HI.out.2.2.1 HI.out.2.2.2 rfl (by omega) v3 ps.length (ps.map Value.string) rfl (HO1.out.alloc _) ⟨w1.heap.size, 0, none⟩ 1 1 [.string (ByteArray.empty)] rfl rfl (cell_one_new _ _ _) (str_oneCell _) ?_ ?_ ?_ ?_)
              · unfold maxLen; omega
              · omega
              · simp; omega
              intro v4 w2 hown2 hgr2 _
              have W2 : Hid (Went b s (k + 1) w w2) := (W1.out.alloc _).grown hgr2 hbw (fun r hr => by have := (HO1.out.lt r hr).1; omega)
              have HO2 : Hid (w2.ownsRow (w.heap.size + 1) 9 1 v4 (ps.length + 1) (ps.map Value.string ++ [.string (ByteArray.empty)])) := hown2
              have R2 : Hid (Res w2 w.heap.size) := (R1.out.alloc _).grown hgr2 (fun r hr => by have := (HO1.out.lt r hr).1; omega)
              clear hown2 hgr2
              go_wp2_with fail
              go_roundg f
              case measure => omega
              case rel =>
                refine ⟨v4, k + 1, ps ++ [ByteArray.empty], rfl, by omega, by simp; omega, ?_, HV.out, ?_, W2.out, R2.out⟩
                · simp [total_append, total]; omega
                · simpa using HO2.out
            · rw [if_neg hl1] at H1'
              by_cases hln : pk s (k + 1) = 10
              · rw [if_pos hln] at H1'
                have HV : Hid (txtF s q f (k + 2) (joinB (ps ++ [ByteArray.empty])) = txt s q (i + 1)) := by show _ = _; rw [joinB_empty]; exact H1'
                have HL : Hid (pk s (k + 1) = 10) := hln
                clear hq h10 h92 H1' hln
                go_wp2_with fail
                refine (peek_c s b (k) _ (k) _ (H2.out.1) ⟨by omega, by omega, by omega⟩).mono ?_
                rintro e wq ⟨rfl, nq, rfl⟩
                go_wp2_with fail
                refine (textEscape_line s b k _ (H2.out.1.drewN _) (by omega) HL.out).mono ?_
                rintro e w1 ⟨rfl, hwent⟩
                have W1 : Hid (Went b s (k + 2) w w1) := (H2.out.drewN _).trans hwent
                have HO1 : Hid (w1.ownsRow (w.heap.size + 1) 9 1 v3 ps.length (ps.map Value.string)) := ownsRow_turn (ownsRow_drewN HO.out _) hwent.2 (by omega)
                have R1 : Hid (Res w1 w.heap.size) := (HR.out.drewN _).turn hwent.2 (by omega)
                clear hwent
                have hw1 := W1.out.2.size
                have hw2 := R1.out.lt
                go_wp2_with (at_builtin; refine wpList_append_own _ rfl _ _ 26 rfl (w.heap.size + 1) 9 iS (.string ⟨#[]⟩) 1 16 Tryz.underlying26 HI.out.1 HI.out.2.1 HI.out.2.2.1 HI.out.2.2.2 rfl (by omega) v3 ps.length (ps.map Value.string) rfl (HO1.out.alloc _) ⟨w1.heap.size, 0, none⟩ 1 1 [.string (ByteArray.empty)] rfl rfl (cell_one_new _ _ _) (str_oneCell _) ?_ ?_ ?_ ?_)
                · unfold maxLen; omega
                · omega
                · simp; omega
                intro v4 w2 hown2 hgr2 _
                have W2 : Hid (Went b s (k + 2) w w2) := (W1.out.alloc _).grown hgr2 hbw (fun r hr => by have := (HO1.out.lt r hr).1; omega)
                have HO2 : Hid (w2.ownsRow (w.heap.size + 1) 9 1 v4 (ps.length + 1) (ps.map Value.string ++ [.string (ByteArray.empty)])) := hown2
                have R2 : Hid (Res w2 w.heap.size) := (R1.out.alloc _).grown hgr2 (fun r hr => by have := (HO1.out.lt r hr).1; omega)
                clear hown2 hgr2
                go_wp2_with fail
                go_roundg f
                case measure => omega
                case rel =>
                  refine ⟨v4, k + 2, ps ++ [ByteArray.empty], rfl, by omega, by simp; omega, ?_, HV.out, ?_, W2.out, R2.out⟩
                  · simp [total_append, total]; omega
                  · simpa using HO2.out
              · rw [if_neg hln] at H1'
                have hge := esc_le hlt
                have hgt := esc_gt s k
                have HV : Hid (txtF s q f (esc s k).2 (joinB (ps ++ [(esc s k).1])) = txt s q (i + 1)) := by show _ = _; rw [joinB_snoc]; exact H1'
                have hsz : Hid ((esc s k).1.size = 1) := size_esc
                have HL : Hid (¬ pk s (k + 1) = 10) := hln
                clear hq h10 h92 H1' hln
                go_wp2_with fail
                refine (peek_c s b (k) _ (k) _ (H2.out.1) ⟨by omega, by omega, by omega⟩).mono ?_
                rintro e wq ⟨rfl, nq, rfl⟩
                go_wp2_with fail
                refine (textEscape_esc s b k _ (H2.out.1.drewN _) (by omega) HL.out).mono ?_
                rintro e w1 ⟨rfl, hwent⟩
                have W1 : Hid (Went b s ((esc s k).2) w w1) := (H2.out.drewN _).trans hwent
                have HO1 : Hid (w1.ownsRow (w.heap.size + 1) 9 1 v3 ps.length (ps.map Value.string)) := ownsRow_turn (ownsRow_drewN HO.out _) hwent.2 (by omega)
                have R1 : Hid (Res w1 w.heap.size) := (HR.out.drewN _).turn hwent.2 (by omega)
                clear hwent
                have hw1 := W1.out.2.size
                have hw2 := R1.out.lt
                go_wp2_with (at_builtin; refine wpList_append_own _ rfl _ _ 26 rfl (w.heap.size + 1) 9 iS (.string ⟨#[]⟩) 1 16 Tryz.underlying26 HI.out.1 HI.out.2.1 HI.out.2.2.1 HI.out.2.2.2 rfl (by omega) v3 ps.length (ps.map Value.string) rfl (HO1.out.alloc _) ⟨w1.heap.size, 0, none⟩ 1 1 [.string ((esc s k).1)] rfl rfl (cell_one_new _ _ _) (str_oneCell _) ?_ ?_ ?_ ?_)
                · unfold maxLen; omega
                · omega
                · simp; omega
                intro v4 w2 hown2 hgr2 _
                have W2 : Hid (Went b s ((esc s k).2) w w2) := (W1.out.alloc _).grown hgr2 hbw (fun r hr => by have := (HO1.out.lt r hr).1; omega)
                have HO2 : Hid (w2.ownsRow (w.heap.size + 1) 9 1 v4 (ps.length + 1) (ps.map Value.string ++ [.string ((esc s k).1)])) := hown2
                have R2 : Hid (Res w2 w.heap.size) := (R1.out.alloc _).grown hgr2 (fun r hr => by have := (HO1.out.lt r hr).1; omega)
                clear hown2 hgr2
                go_wp2_with fail
                go_roundg f
                case measure => omega
                case rel =>
                  refine ⟨v4, (esc s k).2, ps ++ [(esc s k).1], rfl, by omega, by simp; omega, ?_, HV.out, ?_, W2.out, R2.out⟩
                  · have := hsz.out; simp [total_append, total, this]; omega
                  · simpa using HO2.out
          · have e3 : (pk s k == 92) = false := by simpa using h92
            rw [if_neg h92] at H1'
            have HV : Hid (txtF s q f (k + 1) (joinB (ps ++ [one s k])) = txt s q (i + 1)) := by show _ = _; rw [joinB_snoc]; exact H1'
            have hsz : Hid ((one s k).size = 1) := size_one hlt
            clear hq h10 h92 H1'
            go_wp2_with fail
            refine (peek_c s b (k) _ (k) _ (H2.out.1) ⟨by omega, by omega, by omega⟩).mono ?_
            rintro e wq ⟨rfl, nq, rfl⟩
            go_wp2_with fail
            refine (take_c s b k _ (H2.out.1.drewN _) hlt).mono ?_
            rintro e w1 ⟨rfl, hwent⟩
            have W1 : Hid (Went b s (k + 1) w w1) := (H2.out.drewN _).trans hwent
            have HO1 : Hid (w1.ownsRow (w.heap.size + 1) 9 1 v3 ps.length (ps.map Value.string)) := ownsRow_turn (ownsRow_drewN HO.out _) hwent.2 (by omega)
            have R1 : Hid (Res w1 w.heap.size) := (HR.out.drewN _).turn hwent.2 (by omega)
            clear hwent
            have hw1 := W1.out.2.size
            have hw2 := R1.out.lt
            go_wp2_with (at_builtin; refine wpList_append_own _ rfl _ _ 26 rfl (w.heap.size + 1) 9 iS (.string ⟨#[]⟩) 1 16 Tryz.underlying26 HI.out.1 HI.out.2.1 HI.out.2.2.1 HI.out.2.2.2 rfl (by omega) v3 ps.length (ps.map Value.string) rfl (HO1.out.alloc _) ⟨w1.heap.size, 0, none⟩ 1 1 [.string (one s k)] rfl rfl (cell_one_new _ _ _) (str_oneCell _) ?_ ?_ ?_ ?_)
            · unfold maxLen; omega
            · omega
            · simp; omega
            intro v4 w2 hown2 hgr2 _
            have W2 : Hid (Went b s (k + 1) w w2) := (W1.out.alloc _).grown hgr2 hbw (fun r hr => by have := (HO1.out.lt r hr).1; omega)
            have HO2 : Hid (w2.ownsRow (w.heap.size + 1) 9 1 v4 (ps.length + 1) (ps.map Value.string ++ [.string (one s k)])) := hown2
            have R2 : Hid (Res w2 w.heap.size) := (R1.out.alloc _).grown hgr2 (fun r hr => by have := (HO1.out.lt r hr).1; omega)
            clear hown2 hgr2
            go_wp2_with fail
            go_roundg f
            case measure => omega
            case rel =>
              refine ⟨v4, k + 1, ps ++ [one s k], rfl, by omega, by simp; omega, ?_, HV.out, ?_, W2.out, R2.out⟩
              · have := hsz.out; simp [total_append, total, this]; omega
              · simpa using HO2.out
def RW (w wr : World) : Prop := Below w.heap.size w wr ∧ Res wr w.heap.size
theorem RW.new (w : World) : RW w (w.alloc (.cells #[.int .i64 0, .string ⟨#[]⟩, .string ⟨#[]⟩] 93 (0, 0))) := ⟨(Below.refl _ _).alloc (Nat.le_refl _) _, Res.new w⟩
theorem RW.nh (w : World) : Hid (RW w (w.alloc (.cells #[.int .i64 0, .string ⟨#[]⟩, .string ⟨#[]⟩] 93 (0, 0)))) := RW.new w
theorem RW.below {w wr w1 : World} (h : RW w wr) (hb : Below wr.heap.size wr w1) : RW w w1 := ⟨h.1.trans (hb.mono h.1.size), h.2.below hb⟩
theorem RW.set3 {w wr : World} (h : RW w wr) (a b c : Value) : Below w.heap.size w (((wr.setCell ⟨w.heap.size, 0, none⟩ a).setCell ⟨w.heap.size, 1, none⟩ b).setCell ⟨w.heap.size, 2, none⟩ c) :=
  ((h.1.setCell (Nat.le_refl _) _).setCell (Nat.le_refl _) _).setCell (Nat.le_refl _) _
end Go.Proofs.YtlliliddljkbfaaGreat
