/-
  The reference reads a link.
-/
import Derived.Test.YtlliliddljkbfaaRefBad
namespace Go.Proofs.Ytlliliddljkbfaa
open Go.RowKit Sp
set_option maxRecDepth 100000

theorem spoil_no {c : Int} (h : spoilI c = false) : (c == 34) = false ∧ (c == 39) = false ∧ (c == 40) = false ∧ 32 ≤ c ∧ (c == 127) = false ∧ (c == 92) = false := by
  simp only [spoilI, quoteI, Bool.or_eq_false_iff, decide_eq_false_iff_not] at h
  obtain ⟨⟨⟨⟨⟨h1, h2⟩, h3⟩, h4⟩, h5⟩, h6⟩ := h
  exact ⟨h1, h2, h3, by omega, h6, h4⟩
theorem spoil_92 {c : Int} (h : spoilI c = true) (h34 : (c == 34) = false) (h39 : (c == 39) = false) (h40 : (c == 40) = false) (h32 : 32 ≤ c) (h127 : (c == 127) = false) : (c == 92) = true := by
  simp only [spoilI, quoteI, h34, h39, h40, h127, Bool.or_eq_true, Bool.false_or, Bool.or_false, decide_eq_true_eq] at h
  rcases h with h | h
  · exact h
  · omega

set_option maxRecDepth 100000 in
set_option maxHeartbeats 4000000 in
theorem link_r (s : ByteArray) (i : Int) (k : Nat) (w : World) (hi : i = k) (hs : s.size ≤ 600) (hk : k ≤ s.size) :
    Calls Try.prog 63 #[.string s, .int .i64 i] w fun e w' => e = .returned (.tuple #[tokV (link s k).1, .int .i64 ((link s k).2 : Int)]) ∧ Below w.heap.size w w' := by
  subst hi
  have W0 : Hid (RW w (w.alloc (.cells #[.int .i64 0, .string ⟨#[]⟩, .string ⟨#[]⟩] 35 (0, 0)))) := RW.new w
  go_enter Try.func63, Try.ntmps63
  go_wp2_with fail
  go_loopg [1, 6] s.size (fun g v1 v6 wr => ∃ (j : Nat) (acc : ByteArray), s.size ≤ j + g ∧ j ≤ s.size ∧ acc.size ≤ j ∧ v1 = .int .i64 (j : Int) ∧ v6 = .string acc ∧ Aside (linkF s g j acc = link s k ∧ RW w wr))
  case atStart => exact ⟨k, ByteArray.empty, by omega, hk, by simp, rfl, rfl, rfl, W0.out⟩
  case round =>
    obtain ⟨j, acc, hj, hj2, hac, rfl, rfl, hA⟩ := hrel
    have H1 : Hid (linkF s gk j acc = link s k) := hA.out.1
    have HW : Hid (RW w wr) := hA.out.2
    clear hA W0
    have RR : Hid (Res wr w.heap.size) := HW.out.2
    by_cases hlt : j < s.size
    · have h1 : (j : Int) < (s.size : Int) := by omega
      have hix := index_pk s j hlt
      obtain ⟨f, rfl⟩ : ∃ f, gk = f + 1 := ⟨gk - 1, by omega⟩
      have H1' := H1.out
      unfold linkF at H1'
      rw [if_neg (by omega)] at H1'
      by_cases h41 : pk s j = 41
      · have e1 : (pk s j == 41) = true := by rw [h41]; rfl
        rw [if_pos h41] at H1'
        have HV : Hid (link s k = (Tok.w 12 acc, j + 1)) := H1'.symm
        clear h41 H1'
        have r0 := RR.out.c0
        have r1 := RR.out.c1
        have r2 := RR.out.c2
        have rf := RR.out.f
        have rl := RR.out.lt
        go_wp2_with fail
        refine (escapes_r s _ j _ (by omega) (by omega) (by omega)).mono ?_
        rintro e wq ⟨rfl, rfl⟩
        go_wp2_with fail
        refine (isBlank_r _ _).mono ?_
        rintro e wq ⟨rfl, rfl⟩
        go_wp2_with fail
        refine bodyPost_ret (v := .tuple #[tokV (Tok.w 12 acc), .int .i64 ((j : Int) + 1)]) (by simp [results, Try.results63, go_sem, tokV, Tok.w, r0, r1, r2]; rfl) rfl ⟨?_, HW.out.set3 _ _ _⟩
        rw [HV.out]; rfl
      · have e1 : (pk s j == 41) = false := by simpa using h41
        rw [if_neg h41] at H1'
        clear h41
        cases hbl : blankI (pk s j)
        · rw [if_neg (by simp [hbl])] at H1'
          cases he : escB s j
          · rw [if_neg (by simp [he])] at H1'
            have hp34 := pk_nn hlt
            cases hsp : spoilI (pk s j)
            · rw [if_neg (by simp [hsp])] at H1'
              have hsl := slice1 s j hlt
              have hsz : (one s j).size ≤ 1 := by rw [size_one hlt]; omega
              have HV : Hid (linkF s f (j + 1) (acc ++ one s j) = link s k) := H1'
              obtain ⟨s34, s39, s40, s32, s127, s92⟩ := spoil_no hsp
              clear hsp H1' RR
              go_wp2_with fail
              refine (escapes_r s _ j _ (by omega) (by omega) (by omega)).mono ?_
              rintro e wq ⟨rfl, rfl⟩
              go_wp2_with fail
              refine (isBlank_r _ _).mono ?_
              rintro e wq ⟨rfl, rfl⟩
              go_wp2_with fail
              go_roundg f
              case measure => omega
              case rel => exact ⟨j + 1, acc ++ one s j, by omega, by omega, by simp; omega, by congr 1, rfl, HV.out, HW.out⟩
            · rw [if_pos hsp] at H1'
              have HV : Hid (link s k = (Tok.k 13, bad s j)) := H1'.symm
              clear H1' RR
              cases s34 : (pk s j == 34)
              · cases s39 : (pk s j == 39)
                · cases s40 : (pk s j == 40)
                  · by_cases s32 : pk s j < 32
                    · clear hsp
                      go_wp2_with fail
                      refine (escapes_r s _ j _ (by omega) (by omega) (by omega)).mono ?_
                      rintro e wq ⟨rfl, rfl⟩
                      go_wp2_with fail
                      refine (isBlank_r _ _).mono ?_
                      rintro e wq ⟨rfl, rfl⟩
                      go_wp2_with fail
                      refine (badLink_r s _ j _ (by omega) (by omega) (by omega)).mono ?_
                      rintro e w1 ⟨rfl, hb⟩
                      have HW1 : Hid (RW w w1) := HW.out.below hb
                      clear hb
                      have RR : Hid (Res w1 w.heap.size) := HW1.out.2
                      have r0 := RR.out.c0
                      have r1 := RR.out.c1
                      have r2 := RR.out.c2
                      have rf := RR.out.f
                      have rl := RR.out.lt
                      unfold tokV Tok.k
                      go_wp2_with fail
                      refine bodyPost_ret (v := .tuple #[tokV (Tok.k 13), .int .i64 ((bad s j : Int))]) (by simp [results, Try.results63, go_sem, tokV, Tok.k, r0, r1, r2]) rfl ⟨?_, HW1.out.set3 _ _ _⟩
                      rw [HV.out]
                    · have s32' : 32 ≤ pk s j := by omega
                      cases s127 : (pk s j == 127)
                      · have s92 : (pk s j == 92) = true := spoil_92 hsp s34 s39 s40 s32' s127
                        clear hsp
                        go_wp2_with fail
                        refine (escapes_r s _ j _ (by omega) (by omega) (by omega)).mono ?_
                        rintro e wq ⟨rfl, rfl⟩
                        go_wp2_with fail
                        refine (isBlank_r _ _).mono ?_
                        rintro e wq ⟨rfl, rfl⟩
                        go_wp2_with fail
                        refine (badLink_r s _ j _ (by omega) (by omega) (by omega)).mono ?_
                        rintro e w1 ⟨rfl, hb⟩
                        have HW1 : Hid (RW w w1) := HW.out.below hb
                        clear hb
                        have RR : Hid (Res w1 w.heap.size) := HW1.out.2
                        have r0 := RR.out.c0
                        have r1 := RR.out.c1
                        have r2 := RR.out.c2
                        have rf := RR.out.f
                        have rl := RR.out.lt
                        unfold tokV Tok.k
                        go_wp2_with fail
                        refine bodyPost_ret (v := .tuple #[tokV (Tok.k 13), .int .i64 ((bad s j : Int))]) (by simp [results, Try.results63, go_sem, tokV, Tok.k, r0, r1, r2]) rfl ⟨?_, HW1.out.set3 _ _ _⟩
                        rw [HV.out]
                      · clear hsp
                        go_wp2_with fail
                        refine (escapes_r s _ j _ (by omega) (by omega) (by omega)).mono ?_
                        rintro e wq ⟨rfl, rfl⟩
                        go_wp2_with fail
                        refine (isBlank_r _ _).mono ?_
                        rintro e wq ⟨rfl, rfl⟩
                        go_wp2_with fail
                        refine (badLink_r s _ j _ (by omega) (by omega) (by omega)).mono ?_
                        rintro e w1 ⟨rfl, hb⟩
                        have HW1 : Hid (RW w w1) := HW.out.below hb
                        clear hb
                        have RR : Hid (Res w1 w.heap.size) := HW1.out.2
                        have r0 := RR.out.c0
                        have r1 := RR.out.c1
                        have r2 := RR.out.c2
                        have rf := RR.out.f
                        have rl := RR.out.lt
                        unfold tokV Tok.k
                        go_wp2_with fail
                        refine bodyPost_ret (v := .tuple #[tokV (Tok.k 13), .int .i64 ((bad s j : Int))]) (by simp [results, Try.results63, go_sem, tokV, Tok.k, r0, r1, r2]) rfl ⟨?_, HW1.out.set3 _ _ _⟩
                        rw [HV.out]
                  · clear hsp
                    go_wp2_with fail
                    refine (escapes_r s _ j _ (by omega) (by omega) (by omega)).mono ?_
                    rintro e wq ⟨rfl, rfl⟩
                    go_wp2_with fail
                    refine (isBlank_r _ _).mono ?_
                    rintro e wq ⟨rfl, rfl⟩
                    go_wp2_with fail
                    refine (badLink_r s _ j _ (by omega) (by omega) (by omega)).mono ?_
                    rintro e w1 ⟨rfl, hb⟩
                    have HW1 : Hid (RW w w1) := HW.out.below hb
                    clear hb
                    have RR : Hid (Res w1 w.heap.size) := HW1.out.2
                    have r0 := RR.out.c0
                    have r1 := RR.out.c1
                    have r2 := RR.out.c2
                    have rf := RR.out.f
                    have rl := RR.out.lt
                    unfold tokV Tok.k
                    go_wp2_with fail
                    refine bodyPost_ret (v := .tuple #[tokV (Tok.k 13), .int .i64 ((bad s j : Int))]) (by simp [results, Try.results63, go_sem, tokV, Tok.k, r0, r1, r2]) rfl ⟨?_, HW1.out.set3 _ _ _⟩
                    rw [HV.out]
                · clear hsp
                  go_wp2_with fail
                  refine (escapes_r s _ j _ (by omega) (by omega) (by omega)).mono ?_
                  rintro e wq ⟨rfl, rfl⟩
                  go_wp2_with fail
                  refine (isBlank_r _ _).mono ?_
                  rintro e wq ⟨rfl, rfl⟩
                  go_wp2_with fail
                  refine (badLink_r s _ j _ (by omega) (by omega) (by omega)).mono ?_
                  rintro e w1 ⟨rfl, hb⟩
                  have HW1 : Hid (RW w w1) := HW.out.below hb
                  clear hb
                  have RR : Hid (Res w1 w.heap.size) := HW1.out.2
                  have r0 := RR.out.c0
                  have r1 := RR.out.c1
                  have r2 := RR.out.c2
                  have rf := RR.out.f
                  have rl := RR.out.lt
                  unfold tokV Tok.k
                  go_wp2_with fail
                  refine bodyPost_ret (v := .tuple #[tokV (Tok.k 13), .int .i64 ((bad s j : Int))]) (by simp [results, Try.results63, go_sem, tokV, Tok.k, r0, r1, r2]) rfl ⟨?_, HW1.out.set3 _ _ _⟩
                  rw [HV.out]
              · clear hsp
                go_wp2_with fail
                refine (escapes_r s _ j _ (by omega) (by omega) (by omega)).mono ?_
                rintro e wq ⟨rfl, rfl⟩
                go_wp2_with fail
                refine (isBlank_r _ _).mono ?_
                rintro e wq ⟨rfl, rfl⟩
                go_wp2_with fail
                refine (badLink_r s _ j _ (by omega) (by omega) (by omega)).mono ?_
                rintro e w1 ⟨rfl, hb⟩
                have HW1 : Hid (RW w w1) := HW.out.below hb
                clear hb
                have RR : Hid (Res w1 w.heap.size) := HW1.out.2
                have r0 := RR.out.c0
                have r1 := RR.out.c1
                have r2 := RR.out.c2
                have rf := RR.out.f
                have rl := RR.out.lt
                unfold tokV Tok.k
                go_wp2_with fail
                refine bodyPost_ret (v := .tuple #[tokV (Tok.k 13), .int .i64 ((bad s j : Int))]) (by simp [results, Try.results63, go_sem, tokV, Tok.k, r0, r1, r2]) rfl ⟨?_, HW1.out.set3 _ _ _⟩
                rw [HV.out]
          · rw [if_pos he] at H1'
            have hge := esc_le hlt
            have hgt := esc_gt s j
            have h92 : pk s j = 92 := (esc_at he).1
            obtain ⟨x, p, HX⟩ : ∃ x p, Hid (esc s j = (x, p)) := ⟨_, _, rfl⟩
            have hxs : x.size ≤ 1 := by have := size_esc (s := s) (i := j); rw [HX.out] at this; exact Nat.le_of_eq this
            rw [HX.out] at H1' hge hgt
            have HV : Hid (linkF s f p (acc ++ x) = link s k) := H1'
            have s34 : (pk s j == 34) = false := by rw [h92]; rfl
            have s39 : (pk s j == 39) = false := by rw [h92]; rfl
            have s40 : (pk s j == 40) = false := by rw [h92]; rfl
            have s32 : 32 ≤ pk s j := by omega
            have s127 : (pk s j == 127) = false := by rw [h92]; rfl
            have s92 : (pk s j == 92) = true := by rw [h92]; rfl
            clear h92 H1' RR
            go_wp2_with fail
            refine (escapes_r s _ j _ (by omega) (by omega) (by omega)).mono ?_
            rintro e wq ⟨rfl, rfl⟩
            go_wp2_with fail
            refine (isBlank_r _ _).mono ?_
            rintro e wq ⟨rfl, rfl⟩
            go_wp2_with fail
            refine (escape_r s _ j _ (by omega) (by omega) (by omega)).mono ?_
            rw [HX.out]
            rintro e w1 ⟨rfl, hb⟩
            have HW1 : Hid (RW w w1) := HW.out.below hb
            clear hb
            go_wp2_with fail
            go_roundg f
            case measure => omega
            case rel => exact ⟨p, acc ++ x, by omega, by omega, by simp; omega, rfl, rfl, HV.out, HW1.out⟩
        · rw [if_pos hbl] at H1'
          have hble := blk_le (s := s) (i := j) (by omega)
          obtain ⟨kb, HKB⟩ : ∃ kb, Hid (Sp.blk s j = kb) := ⟨_, rfl⟩
          rw [HKB.out] at H1' hble
          by_cases hbe : s.size ≤ kb
          · rw [if_pos hbe] at H1'
            have b1 : ((kb : Int) == (s.size : Int)) = true := by simp; omega
            have hm : (min ((kb : Int) + 1) (s.size : Int)) = (s.size : Int) := by omega
            have HV : Hid (link s k = (Tok.w 12 acc, kb)) := H1'.symm
            clear H1'
            have r0 := RR.out.c0
            have r1 := RR.out.c1
            have r2 := RR.out.c2
            have rf := RR.out.f
            have rl := RR.out.lt
            go_wp2_with fail
            refine (escapes_r s _ j _ (by omega) (by omega) (by omega)).mono ?_
            rintro e wq ⟨rfl, rfl⟩
            go_wp2_with fail
            refine (isBlank_r _ _).mono ?_
            rintro e wq ⟨rfl, rfl⟩
            go_wp2_with fail
            refine (blanks_r s _ j _ (by omega) (by omega) (by omega)).mono ?_
            rw [HKB.out]
            rintro e wq ⟨rfl, rfl⟩
            go_wp2_with fail
            refine bodyPost_ret (v := .tuple #[tokV (Tok.w 12 acc), .int .i64 ((s.size : Int))]) (by simp [results, Try.results63, go_sem, tokV, Tok.w, r0, r1, r2]; rfl) rfl ⟨?_, HW.out.set3 _ _ _⟩
            rw [HV.out, show (kb : Nat) = s.size from by omega]
          · rw [if_neg hbe] at H1'
            have hlb : kb < s.size := by omega
            have b1 : ((kb : Int) == (s.size : Int)) = false := by simp; omega
            have hixb := index_pk s kb hlb
            have hm : (min ((kb : Int) + 1) (s.size : Int)) = (kb : Int) + 1 := by omega
            by_cases hb41 : pk s kb = 41
            · rw [if_pos hb41] at H1'
              have b2 : (pk s kb == 41) = true := by rw [hb41]; rfl
              have HV : Hid (link s k = (Tok.w 12 acc, kb + 1)) := H1'.symm
              clear H1' hb41
              have r0 := RR.out.c0
              have r1 := RR.out.c1
              have r2 := RR.out.c2
              have rf := RR.out.f
              have rl := RR.out.lt
              go_wp2_with fail
              refine (escapes_r s _ j _ (by omega) (by omega) (by omega)).mono ?_
              rintro e wq ⟨rfl, rfl⟩
              go_wp2_with fail
              refine (isBlank_r _ _).mono ?_
              rintro e wq ⟨rfl, rfl⟩
              go_wp2_with fail
              refine (blanks_r s _ j _ (by omega) (by omega) (by omega)).mono ?_
              rw [HKB.out]
              rintro e wq ⟨rfl, rfl⟩
              go_wp2_with fail
              refine bodyPost_ret (v := .tuple #[tokV (Tok.w 12 acc), .int .i64 ((kb : Int) + 1)]) (by simp [results, Try.results63, go_sem, tokV, Tok.w, r0, r1, r2]; rfl) rfl ⟨?_, HW.out.set3 _ _ _⟩
              rw [HV.out]; rfl
            · rw [if_neg hb41] at H1'
              have b2 : (pk s kb == 41) = false := by simpa using hb41
              have HV : Hid (link s k = (Tok.k 13, bad s kb)) := H1'.symm
              clear H1' hb41 RR
              go_wp2_with fail
              refine (escapes_r s _ j _ (by omega) (by omega) (by omega)).mono ?_
              rintro e wq ⟨rfl, rfl⟩
              go_wp2_with fail
              refine (isBlank_r _ _).mono ?_
              rintro e wq ⟨rfl, rfl⟩
              go_wp2_with fail
              refine (blanks_r s _ j _ (by omega) (by omega) (by omega)).mono ?_
              rw [HKB.out]
              rintro e wq ⟨rfl, rfl⟩
              go_wp2_with fail
              refine (badLink_r s _ kb _ (by omega) (by omega) (by omega)).mono ?_
              rintro e w1 ⟨rfl, hb⟩
              have HW1 : Hid (RW w w1) := HW.out.below hb
              clear hb
              have RR : Hid (Res w1 w.heap.size) := HW1.out.2
              have r0 := RR.out.c0
              have r1 := RR.out.c1
              have r2 := RR.out.c2
              have rf := RR.out.f
              have rl := RR.out.lt
              unfold tokV Tok.k
              go_wp2_with fail
              refine bodyPost_ret (v := .tuple #[tokV (Tok.k 13), .int .i64 ((bad s kb : Int))]) (by simp [results, Try.results63, go_sem, tokV, Tok.k, r0, r1, r2]) rfl ⟨?_, HW1.out.set3 _ _ _⟩
              rw [HV.out]
    · have h1 : (s.size : Int) ≤ (j : Int) := by omega
      have HV : Hid (link s k = (Tok.w 12 acc, j)) := by
        show _ = _
        rw [← H1.out]
        cases gk with
        | zero => rfl
        | succ f => unfold linkF; rw [if_pos (by omega)]
      have r0 := RR.out.c0
      have r1 := RR.out.c1
      have r2 := RR.out.c2
      have rf := RR.out.f
      have rl := RR.out.lt
      go_wp2_with fail
      refine bodyPost_ret (v := .tuple #[tokV (Tok.w 12 acc), .int .i64 ((j : Int))]) (by simp [results, Try.results63, go_sem, tokV, Tok.w, r0, r1, r2]; rfl) rfl ⟨?_, HW.out.set3 _ _ _⟩
      rw [HV.out]
end Go.Proofs.Ytlliliddljkbfaa
