/-
  The reference reads a token that begins as a number; one that begins with a name.
-/
import Derived.Test.YtlliliddljkbfaaRefLink
import Derived.Test.YtlliliddljkbfaaSmall
import Derived.Test.YtlliliddljkbfaaNamed
namespace Go.Proofs.Ytlliliddljkbfaa
open Go.RowKit Sp
set_option maxRecDepth 100000

set_option maxRecDepth 100000 in
set_option maxHeartbeats 1000000 in
theorem numeric_r (s : ByteArray) (i j : Int) (k n : Nat) (w : World) (hi : i = k) (hj : j = n) (hs : s.size ≤ 600) (hk : k ≤ n) (hn : n ≤ s.size) (HN : Hid (numE s k = n)) :
    Calls Try.prog 41 #[.string s, .int .i64 i, .int .i64 j] w fun e w' => e = .returned (.tuple #[tokV (Sp.numeric s k).1, .int .i64 ((Sp.numeric s k).2 : Int)]) ∧ Below w.heap.size w w' := by
  subst hi hj
  have W0 : Hid (RW w (w.alloc (.cells #[.int .i64 0, .string ⟨#[]⟩, .string ⟨#[]⟩] 35 (0, 0)))) := RW.new w
  have hsl : ∀ w : World, (Instr.slice 9 (.string s) (some (.int .i64 (k : Int))) (some (.int .i64 (n : Int))) none).run Try.prog w = .ok (.string (s.extract k n)) w := by
    intro w
    rw [run_slice_string_if w 9 s .i64 .i64 _ _ Try.underlying9, if_pos ⟨by omega, by omega⟩, if_pos ⟨by omega, by omega⟩]
    simp
  by_cases h37 : pk s n = 37
  · have e1 : (a0 s n == 37) = true := by rw [a0_beq s n 37 (by omega), h37]; rfl
    have HV : Hid (Sp.numeric s k = (Tok.w 6 (s.extract k n), n + 1)) := by
      show _ = _; unfold Sp.numeric; dsimp only; rw [HN.out, if_pos h37]
    clear h37
    go_enter Try.func41, Try.ntmps41
    go_wp2_with fail
    refine (begins_r s _ n _ (by omega) (by omega) (by omega)).mono ?_
    rintro e wq ⟨rfl, rfl⟩
    go_wp2_with fail
    refine (at_r s _ (n) _ (by omega) (by omega)).mono ?_
    rintro e wq ⟨rfl, rfl⟩
    go_wp2_with fail
    refine bodyPost_ret (v := .tuple #[tokV (Tok.w 6 (s.extract k n)), .int .i64 ((n : Int) + 1)]) (by simp [results, Try.results41, go_sem, tokV, Tok.w]; rfl) rfl ⟨?_, (Below.refl _ _).alloc (Nat.le_refl _) _⟩
    rw [HV.out]; rfl
  · have e1 : (a0 s n == 37) = false := by rw [a0_beq s n 37 (by omega)]; simpa using h37
    cases hb : begB s n
    · have HV : Hid (Sp.numeric s k = (Tok.w 5 (s.extract k n), n)) := by
        show _ = _; unfold Sp.numeric; dsimp only; rw [HN.out, if_neg h37, if_neg (by simp [hb])]
      clear h37
      go_enter Try.func41, Try.ntmps41
      go_wp2_with fail
      refine (begins_r s _ n _ (by omega) (by omega) (by omega)).mono ?_
      rintro e wq ⟨rfl, rfl⟩
      go_wp2_with fail
      refine (at_r s _ (n) _ (by omega) (by omega)).mono ?_
      rintro e wq ⟨rfl, rfl⟩
      go_wp2_with fail
      refine bodyPost_ret (v := .tuple #[tokV (Tok.w 5 (s.extract k n)), .int .i64 ((n : Int))]) (by simp [results, Try.results41, go_sem, tokV, Tok.w]; rfl) rfl ⟨?_, (Below.refl _ _).alloc (Nat.le_refl _) _⟩
      rw [HV.out]
    · have HV : Hid (Sp.numeric s k = (⟨7, s.extract k n, (Sp.name s n).1⟩, (Sp.name s n).2)) := by
        show _ = _; unfold Sp.numeric; dsimp only; rw [HN.out, if_neg h37, if_pos hb]
      clear h37
      go_enter Try.func41, Try.ntmps41
      go_wp2_with fail
      refine (begins_r s _ n _ (by omega) (by omega) (by omega)).mono ?_
      rintro e wq ⟨rfl, rfl⟩
      go_wp2_with fail
      refine (at_r s _ (n) _ (by omega) (by omega)).mono ?_
      rintro e wq ⟨rfl, rfl⟩
      go_wp2_with fail
      refine (name_r s _ n _ (by omega) (by omega) (by omega)).mono ?_
      rintro e w1 ⟨rfl, hb1⟩
      have W1 : Hid (RW w w1) := W0.out.below hb1
      have R1 : Hid (Res w1 w.heap.size) := W1.out.2
      clear hb1
      have r0 := R1.out.c0
      have r1 := R1.out.c1
      have r2 := R1.out.c2
      have rf := R1.out.f
      have rl := R1.out.lt
      go_wp2_with fail
      refine bodyPost_ret (v := .tuple #[tokV (⟨7, s.extract k n, (Sp.name s n).1⟩), .int .i64 (((Sp.name s n).2 : Int))]) (by simp [results, Try.results41, go_sem, tokV, r0, r1, r2]) rfl ⟨?_, W1.out.set3 _ _ _⟩
      rw [HV.out]

set_option maxRecDepth 100000 in
set_option maxHeartbeats 2000000 in
theorem named_r (s : ByteArray) (i : Int) (k : Nat) (w : World) (hi : i = k) (hs : s.size ≤ 600) (hk : k ≤ s.size) :
    Calls Try.prog 42 #[.string s, .int .i64 i] w fun e w' => e = .returned (.tuple #[tokV (named s k).1, .int .i64 ((named s k).2 : Int)]) ∧ Below w.heap.size w w' := by
  subst hi
  have W0 : Hid (RW w (w.alloc (.cells #[.int .i64 0, .string ⟨#[]⟩, .string ⟨#[]⟩] 35 (0, 0)))) := RW.new w
  have hns := name_size hk
  have hnl := name_le hk
  obtain ⟨x, n, HX⟩ : ∃ x n, Hid (Sp.name s k = (x, n)) := ⟨_, _, rfl⟩
  have hns' : x.size ≤ s.size := by have := HX.out; rw [this] at hns; exact hns
  have hnl' : n ≤ s.size := by have := HX.out; rw [this] at hnl; exact hnl
  clear hns hnl
  by_cases h40 : pk s n = 40
  · have e0 : (a0 s n != 40) = false := by rw [a0_bne s n 40 (by omega), h40]; rfl
    have hlt : n < s.size := pk_lt (by omega)
    have hbl := blk_le (s := s) (i := n + 1) (by omega)
    obtain ⟨kb, HKB⟩ : ∃ kb, Hid (Sp.blk s (n + 1) = kb) := ⟨_, rfl⟩
    rw [HKB.out] at hbl
    by_cases hu : small x = url
    · have eu : ((small x).toList == [117, 114, 108]) = true := by rw [isUrl_iff]; simp [hu]
      cases q34 : (a0 s kb != 34)
      · have HV : Hid (named s k = (Tok.w 11 x, n + 1)) := by
          show _ = _; unfold named; rw [HX.out]; dsimp only; rw [HKB.out, if_pos h40, if_neg (fun h => by
            rw [a0_bne s kb 34 (by omega)] at q34
            have e : pk s kb = 34 := by simpa using q34
            have := h.2; rw [e] at this; exact absurd this (by decide))]
        clear h40 hu
        go_enter Try.func42, Try.ntmps42
        go_wp2_with fail
        refine (name_r s _ k _ (by omega) (by omega) (by omega)).mono ?_
        rw [HX.out]
        rintro e w1 ⟨rfl, hb1⟩
        have W1 : Hid (RW w w1) := W0.out.below hb1
        clear hb1
        go_wp2_with fail
        refine (at_r s _ n _ (by omega) (by omega)).mono ?_
        rintro e wq ⟨rfl, hwq⟩
        rw [hwq]
        clear hwq
        go_wp2_with fail
        refine (blanks_r s _ (n + 1) _ (by omega) (by omega) (by omega)).mono ?_
        rw [HKB.out]
        rintro e wq ⟨rfl, hwq⟩
        rw [hwq]
        clear hwq
        go_wp2_with fail
        refine (lower_r x _ (by omega)).mono ?_
        rintro e w2 ⟨rfl, hb2⟩
        have W2 : Hid (RW w w2) := W1.out.below hb2
        have R2 : Hid (Res w2 w.heap.size) := W2.out.2
        clear hb2
        go_wp2_with fail
        refine (at_r s _ kb _ (by omega) (by omega)).mono ?_
        rintro e wq ⟨rfl, hwq⟩
        rw [hwq]
        clear hwq
        have r0 := R2.out.c0
        have r1 := R2.out.c1
        have r2 := R2.out.c2
        have rf := R2.out.f
        have rl := R2.out.lt
        go_wp2_with fail
        refine bodyPost_ret (v := .tuple #[tokV (Tok.w 11 x), .int .i64 ((n : Int) + 1)]) (by simp [results, Try.results42, go_sem, tokV, Tok.w, r0, r1, r2]; rfl) rfl ⟨?_, W2.out.set3 _ _ _⟩
        rw [HV.out]; rfl
      · cases q39 : (a0 s kb != 39)
        · have HV : Hid (named s k = (Tok.w 11 x, n + 1)) := by
            show _ = _; unfold named; rw [HX.out]; dsimp only; rw [HKB.out, if_pos h40, if_neg (fun h => by
              rw [a0_bne s kb 39 (by omega)] at q39
              have e : pk s kb = 39 := by simpa using q39
              have := h.2; rw [e] at this; exact absurd this (by decide))]
          clear h40 hu
          go_enter Try.func42, Try.ntmps42
          go_wp2_with fail
          refine (name_r s _ k _ (by omega) (by omega) (by omega)).mono ?_
          rw [HX.out]
          rintro e w1 ⟨rfl, hb1⟩
          have W1 : Hid (RW w w1) := W0.out.below hb1
          clear hb1
          go_wp2_with fail
          refine (at_r s _ n _ (by omega) (by omega)).mono ?_
          rintro e wq ⟨rfl, hwq⟩
          rw [hwq]
          clear hwq
          go_wp2_with fail
          refine (blanks_r s _ (n + 1) _ (by omega) (by omega) (by omega)).mono ?_
          rw [HKB.out]
          rintro e wq ⟨rfl, hwq⟩
          rw [hwq]
          clear hwq
          go_wp2_with fail
          refine (lower_r x _ (by omega)).mono ?_
          rintro e w2 ⟨rfl, hb2⟩
          have W2 : Hid (RW w w2) := W1.out.below hb2
          have R2 : Hid (Res w2 w.heap.size) := W2.out.2
          clear hb2
          go_wp2_with fail
          refine (at_r s _ kb _ (by omega) (by omega)).mono ?_
          rintro e wq ⟨rfl, hwq⟩
          rw [hwq]
          clear hwq
          go_wp2_with fail
          refine (at_r s _ kb _ (by omega) (by omega)).mono ?_
          rintro e wq ⟨rfl, hwq⟩
          rw [hwq]
          clear hwq
          have r0 := R2.out.c0
          have r1 := R2.out.c1
          have r2 := R2.out.c2
          have rf := R2.out.f
          have rl := R2.out.lt
          go_wp2_with fail
          refine bodyPost_ret (v := .tuple #[tokV (Tok.w 11 x), .int .i64 ((n : Int) + 1)]) (by simp [results, Try.results42, go_sem, tokV, Tok.w, r0, r1, r2]; rfl) rfl ⟨?_, W2.out.set3 _ _ _⟩
          rw [HV.out]; rfl
        · have HV : Hid (named s k = link s kb) := by
            show _ = _; unfold named; rw [HX.out]; dsimp only; rw [HKB.out, if_pos h40, if_pos ⟨hu, by
              rw [a0_bne s kb 34 (by omega)] at q34
              rw [a0_bne s kb 39 (by omega)] at q39
              have n34 : pk s kb ≠ 34 := by simpa using q34
              have n39 : pk s kb ≠ 39 := by simpa using q39
              simp [quoteI, n34, n39]⟩]
          clear h40 hu
          go_enter Try.func42, Try.ntmps42
          go_wp2_with fail
          refine (name_r s _ k _ (by omega) (by omega) (by omega)).mono ?_
          rw [HX.out]
          rintro e w1 ⟨rfl, hb1⟩
          have W1 : Hid (RW w w1) := W0.out.below hb1
          clear hb1
          go_wp2_with fail
          refine (at_r s _ n _ (by omega) (by omega)).mono ?_
          rintro e wq ⟨rfl, hwq⟩
          rw [hwq]
          clear hwq
          go_wp2_with fail
          refine (blanks_r s _ (n + 1) _ (by omega) (by omega) (by omega)).mono ?_
          rw [HKB.out]
          rintro e wq ⟨rfl, hwq⟩
          rw [hwq]
          clear hwq
          go_wp2_with fail
          refine (lower_r x _ (by omega)).mono ?_
          rintro e w2 ⟨rfl, hb2⟩
          have W2 : Hid (RW w w2) := W1.out.below hb2
          have R2 : Hid (Res w2 w.heap.size) := W2.out.2
          clear hb2
          go_wp2_with fail
          refine (at_r s _ kb _ (by omega) (by omega)).mono ?_
          rintro e wq ⟨rfl, hwq⟩
          rw [hwq]
          clear hwq
          go_wp2_with fail
          refine (at_r s _ kb _ (by omega) (by omega)).mono ?_
          rintro e wq ⟨rfl, hwq⟩
          rw [hwq]
          clear hwq
          go_wp2_with fail
          refine (link_r s _ kb _ (by omega) (by omega) (by omega)).mono ?_
          rintro e w3 ⟨rfl, hb3⟩
          have W3 : Hid (RW w w3) := W2.out.below hb3
          have R3 : Hid (Res w3 w.heap.size) := W3.out.2
          clear hb3
          have r0 := R3.out.c0
          have r1 := R3.out.c1
          have r2 := R3.out.c2
          have rf := R3.out.f
          have rl := R3.out.lt
          unfold tokV
          go_wp2_with fail
          refine bodyPost_ret (v := .tuple #[tokV ((link s kb).1), .int .i64 (((link s kb).2 : Int))]) (by simp [results, Try.results42, go_sem, tokV, r0, r1, r2]) rfl ⟨?_, W3.out.set3 _ _ _⟩
          rw [HV.out]
    · have eu : ((small x).toList == [117, 114, 108]) = false := by rw [isUrl_iff]; simp [hu]
      have HV : Hid (named s k = (Tok.w 11 x, n + 1)) := by
        show _ = _; unfold named; rw [HX.out]; dsimp only; rw [if_pos h40, if_neg (by simp [hu])]
      clear h40 hu
      go_enter Try.func42, Try.ntmps42
      go_wp2_with fail
      refine (name_r s _ k _ (by omega) (by omega) (by omega)).mono ?_
      rw [HX.out]
      rintro e w1 ⟨rfl, hb1⟩
      have W1 : Hid (RW w w1) := W0.out.below hb1
      clear hb1
      go_wp2_with fail
      refine (at_r s _ n _ (by omega) (by omega)).mono ?_
      rintro e wq ⟨rfl, hwq⟩
      rw [hwq]
      clear hwq
      go_wp2_with fail
      refine (blanks_r s _ (n + 1) _ (by omega) (by omega) (by omega)).mono ?_
      rw [HKB.out]
      rintro e wq ⟨rfl, hwq⟩
      rw [hwq]
      clear hwq
      go_wp2_with fail
      refine (lower_r x _ (by omega)).mono ?_
      rintro e w2 ⟨rfl, hb2⟩
      have W2 : Hid (RW w w2) := W1.out.below hb2
      have R2 : Hid (Res w2 w.heap.size) := W2.out.2
      clear hb2
      have r0 := R2.out.c0
      have r1 := R2.out.c1
      have r2 := R2.out.c2
      have rf := R2.out.f
      have rl := R2.out.lt
      go_wp2_with fail
      refine bodyPost_ret (v := .tuple #[tokV (Tok.w 11 x), .int .i64 ((n : Int) + 1)]) (by simp [results, Try.results42, go_sem, tokV, Tok.w, r0, r1, r2]; rfl) rfl ⟨?_, W2.out.set3 _ _ _⟩
      rw [HV.out]; rfl
  · have e0 : (a0 s n != 40) = true := by rw [a0_bne s n 40 (by omega)]; simpa using h40
    have HV : Hid (named s k = (Tok.w 14 x, n)) := by
      show _ = _; unfold named; rw [HX.out]; dsimp only; rw [if_neg h40]
    clear h40
    go_enter Try.func42, Try.ntmps42
    go_wp2_with fail
    refine (name_r s _ k _ (by omega) (by omega) (by omega)).mono ?_
    rw [HX.out]
    rintro e w1 ⟨rfl, hb1⟩
    have W1 : Hid (RW w w1) := W0.out.below hb1
    have R1 : Hid (Res w1 w.heap.size) := W1.out.2
    clear hb1
    go_wp2_with fail
    refine (at_r s _ n _ (by omega) (by omega)).mono ?_
    rintro e wq ⟨rfl, hwq⟩
    rw [hwq]
    clear hwq
    have r0 := R1.out.c0
    have r1 := R1.out.c1
    have r2 := R1.out.c2
    have rf := R1.out.f
    have rl := R1.out.lt
    go_wp2_with fail
    refine bodyPost_ret (v := .tuple #[tokV (Tok.w 14 x), .int .i64 ((n : Int))]) (by simp [results, Try.results42, go_sem, tokV, Tok.w, r0, r1, r2]; rfl) rfl ⟨?_, W1.out.set3 _ _ _⟩
    rw [HV.out]
end Go.Proofs.Ytlliliddljkbfaa
