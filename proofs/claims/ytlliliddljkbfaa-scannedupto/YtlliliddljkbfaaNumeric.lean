/-
  The scanner reads a token that begins as a number.
-/
import Derived.Test.YtlliliddljkbfaaNum
import Derived.Test.YtlliliddljkbfaaName
namespace Go.Proofs.Ytlliliddljkbfaa
open Go.RowKit Sp
set_option maxRecDepth 100000

/-- A result that is a token lies in a block of its own. -/
structure Res (w : World) (R : Nat) : Prop where
  blk : w.heap[R]? = some (.cells #[.int .i64 0, .string ⟨#[]⟩, .string ⟨#[]⟩] 35 (0, 0))
theorem Res.new (w : World) : Res (w.alloc (.cells #[.int .i64 0, .string ⟨#[]⟩, .string ⟨#[]⟩] 35 (0, 0))) w.heap.size := ⟨heap_alloc_new w _⟩
theorem Res.lt {w : World} {R : Nat} (h : Res w R) : R < w.heap.size := (Array.getElem?_eq_some_iff.1 h.blk).1
theorem Res.c0 {w : World} {R : Nat} (h : Res w R) : w.cell? ⟨R, 0, none⟩ = some (.int .i64 0) := by unfold World.cell?; rw [h.blk]; rfl
theorem Res.c1 {w : World} {R : Nat} (h : Res w R) : w.cell? ⟨R, 1, none⟩ = some (.string ⟨#[]⟩) := by unfold World.cell?; rw [h.blk]; rfl
theorem Res.c2 {w : World} {R : Nat} (h : Res w R) : w.cell? ⟨R, 2, none⟩ = some (.string ⟨#[]⟩) := by unfold World.cell?; rw [h.blk]; rfl
theorem Res.f {w : World} {R : Nat} (h : Res w R) (o : Nat) : w.frozen? ⟨R, o, none⟩ = false := by unfold World.frozen?; rw [h.blk]; simp
theorem Res.turn {w w' : World} {R b : Nat} (h : Res w R) (ht : Turn b w w') (hb : R ≠ b) : Res w' R := ⟨by rw [ht.block R h.lt hb]; exact h.blk⟩
theorem Res.drewN {w : World} {R : Nat} (h : Res w R) (n : Nat) : Res (w.drewN n) R := ⟨h.blk⟩
theorem Res.set {w : World} {R b o : Nat} (h : Res w R) (hb : R ≠ b) (v : Value) : Res (w.setCell ⟨b, o, none⟩ v) R := ⟨by rw [Below.heap_setCell _ _ _ _ (by exact hb)]; exact h.blk⟩
theorem Went.setO {b k : Nat} {s : ByteArray} {w w1 : World} {R : Nat} (h : Went b s k w w1) (hb : b < w.heap.size) (hR : w.heap.size ≤ R) (o : Nat) (v : Value) : Went b s k w (w1.setCell ⟨R, o, none⟩ v) := by
  have hp := h.1.pos
  have hsz := h.2.size
  refine ⟨⟨?_, ?_, h.1.pos, h.1.len, h.1.le⟩, ⟨h.2.os, h.2.tape, h.2.output, by simp [World.setCell]; exact h.2.size, fun j hj hjb => ?_⟩⟩
  · rw [Below.heap_setCell _ _ _ _ (by show b ≠ R; omega)]; exact h.1.blk
  · obtain ⟨m, hm⟩ := h.1.glob
    exact ⟨m, by rw [← hm]; exact World.cell?_of_block (w := w1) (Below.heap_setCell _ _ _ _ (by show (0 : Nat) ≠ R; omega))⟩
  · rw [Below.heap_setCell _ _ _ _ (by show j ≠ R; omega)]; exact h.2.block j hj hjb

def tokV (t : Tok) : Value := .agg #[.int .i64 t.kind, .string t.word, .string t.unit]

set_option maxHeartbeats 1000000 in
theorem numeric_c (s : ByteArray) (b i : Nat) (w : World) (h : Sc w b s i) :
    Calls Try.prog 27 #[.pointer (some ⟨b, 0, none⟩)] w fun e w' => e = .returned (tokV (Sp.numeric s i).1) ∧ Went b s (Sp.numeric s i).2 w w' := by
  have W : Hid (Went b s i w (w.alloc (.cells #[.int .i64 0, .string ⟨#[]⟩, .string ⟨#[]⟩] 35 (0, 0)))) := (Went.refl h).alloc _
  have hbw : b < w.heap.size := h.lt
  clear h
  cases h37 : (pk s (numE s i) == 37)
  · have n37 : ¬ pk s (numE s i) = 37 := by simpa using h37
    cases hbg : begB s (numE s i)
    · have HV : Hid (Sp.numeric s i = (Tok.w 5 (s.extract i (numE s i)), numE s i)) := by
        show _ = _; unfold Sp.numeric; dsimp only; rw [if_neg n37, if_neg (by simp [hbg])]
      clear n37
      go_enter Try.func27, Try.ntmps27
      go_wp2_with fail
      refine (number_c s b i _ W.out.1).mono ?_
      rintro e w1 ⟨rfl, hwent⟩
      have W1 : Hid (Went b s (numE s i) w w1) := W.out.trans hwent
      have R1 : Hid (Res w1 w.heap.size) := (Res.new w).turn hwent.2 (by omega)
      clear hwent
      have c01 := W1.out.1.c0
      have c11 := W1.out.1.c1
      have cf1 := W1.out.1.f1
      have cl1 := W1.out.1.lt
      have cs1 := W1.out.1.len
      have ce1 := W1.out.1.le
      go_wp2_with fail
      refine (peek_c s b (numE s i) _ (numE s i) _ (W1.out.1) ⟨by omega, by omega, by omega⟩).mono ?_
      rintro e wq ⟨rfl, nq, rfl⟩
      go_wp2_with fail
      refine (nameBegins_c s b (numE s i) _ (numE s i) _ (W1.out.1.drewN _) ⟨by omega, by omega, by omega⟩).mono ?_
      rintro e wq ⟨rfl, nq, rfl⟩
      have r0 := R1.out.c0
      have r1 := R1.out.c1
      have r2 := R1.out.c2
      have rf := R1.out.f
      have rl := R1.out.lt
      go_wp2_with fail
      rw [HV.out]
      exact bodyPost_ret (v := tokV (Tok.w 5 (s.extract i (numE s i)))) (by simp [results, Try.results27, go_sem, tokV, Tok.w, r0, r1, r2]; rfl) rfl ⟨rfl, ((((W1.out.drewN _)).setO hbw (Nat.le_refl _) _ _).setO hbw (Nat.le_refl _) _ _).setO hbw (Nat.le_refl _) _ _⟩
    · have HV : Hid (Sp.numeric s i = (⟨7, s.extract i (numE s i), (Sp.name s (numE s i)).1⟩, (Sp.name s (numE s i)).2)) := by
        show _ = _; unfold Sp.numeric; dsimp only; rw [if_neg n37, if_pos hbg]
      clear n37
      go_enter Try.func27, Try.ntmps27
      go_wp2_with fail
      refine (number_c s b i _ W.out.1).mono ?_
      rintro e w1 ⟨rfl, hwent⟩
      have W1 : Hid (Went b s (numE s i) w w1) := W.out.trans hwent
      have R1 : Hid (Res w1 w.heap.size) := (Res.new w).turn hwent.2 (by omega)
      clear hwent
      go_wp2_with fail
      refine (peek_c s b (numE s i) _ (numE s i) _ (W1.out.1) ⟨by omega, by omega, by omega⟩).mono ?_
      rintro e wq ⟨rfl, nq, rfl⟩
      go_wp2_with fail
      refine (nameBegins_c s b (numE s i) _ (numE s i) _ (W1.out.1.drewN _) ⟨by omega, by omega, by omega⟩).mono ?_
      rintro e wq ⟨rfl, nq, rfl⟩
      go_wp2_with fail
      refine (name_c s b (numE s i) _ (W1.out.1.drewN _)).mono ?_
      rintro e w2 ⟨rfl, hwent⟩
      have W2 : Hid (Went b s (Sp.name s (numE s i)).2 w w2) := (W1.out.drewN _).trans hwent
      have R2 : Hid (Res w2 w.heap.size) := (R1.out.drewN _).turn hwent.2 (by omega)
      clear hwent
      have r0 := R2.out.c0
      have r1 := R2.out.c1
      have r2 := R2.out.c2
      have rf := R2.out.f
      have rl := R2.out.lt
      go_wp2_with fail
      rw [HV.out]
      exact bodyPost_ret (v := tokV ⟨7, s.extract i (numE s i), (Sp.name s (numE s i)).1⟩) (by simp [results, Try.results27, go_sem, tokV, r0, r1, r2]) rfl ⟨rfl, ((W2.out.setO hbw (Nat.le_refl _) _ _).setO hbw (Nat.le_refl _) _ _).setO hbw (Nat.le_refl _) _ _⟩
  · have hlt : numE s i < s.size := pk_lt (by have : pk s (numE s i) = 37 := by simpa using h37
                                              omega)
    have HV : Hid (Sp.numeric s i = (Tok.w 6 (s.extract i (numE s i)), numE s i + 1)) := by
      show _ = _; unfold Sp.numeric; dsimp only; rw [if_pos (by simpa using h37)]
    go_enter Try.func27, Try.ntmps27
    go_wp2_with fail
    refine (number_c s b i _ W.out.1).mono ?_
    rintro e w1 ⟨rfl, hwent⟩
    have W1 : Hid (Went b s (numE s i) w w1) := W.out.trans hwent
    have R1 : Hid (Res w1 w.heap.size) := (Res.new w).turn hwent.2 (by omega)
    clear hwent
    have c01 := W1.out.1.c0
    have c11 := W1.out.1.c1
    have cf1 := W1.out.1.f1
    have cl1 := W1.out.1.lt
    have cs1 := W1.out.1.len
    have ce1 := W1.out.1.le
    go_wp2_with fail
    refine (peek_c s b (numE s i) _ (numE s i) _ (W1.out.1) ⟨by omega, by omega, by omega⟩).mono ?_
    rintro e wq ⟨rfl, nq, rfl⟩
    have r0 := R1.out.c0
    have r1 := R1.out.c1
    have r2 := R1.out.c2
    have rf := R1.out.f
    have rl := R1.out.lt
    go_wp2_with fail
    rw [HV.out]
    exact bodyPost_ret (v := tokV (Tok.w 6 (s.extract i (numE s i)))) (by simp [results, Try.results27, go_sem, tokV, Tok.w, r0, r1, r2]; rfl) rfl ⟨rfl, (((((W1.out.drewN _).setv _ (numE s i + 1) (by omega) (by omega))).setO hbw (Nat.le_refl _) _ _).setO hbw (Nat.le_refl _) _ _).setO hbw (Nat.le_refl _) _ _⟩
end Go.Proofs.Ytlliliddljkbfaa
