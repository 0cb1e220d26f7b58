/-
  The reference reads a token.
-/
import Derived.Test.YtlliliddljkbfaaRefNamed
import Derived.Test.YtlliliddljkbfaaRefNum
import Derived.Test.YtlliliddljkbfaaRefText
namespace Go.Proofs.Ytlliliddljkbfaa
open Go.RowKit Sp
set_option maxRecDepth 100000

theorem number_yes (s : ByteArray) (i : Int) (k : Nat) (w : World) (hi : i = k) (hs : s.size ≤ 600) (hk : k ≤ s.size) (h : numB s k = true) :
    Calls Try.prog 33 #[.string s, .int .i64 i] w fun e w' => e = .returned (.int .i64 (numE s k : Int)) ∧ w' = w := by
  have := number_r s i k w hi hs hk
  rw [if_pos h] at this
  exact this
theorem number_no' (s : ByteArray) (i : Int) (k : Nat) (w : World) (hi : i = k) (hs : s.size ≤ 600) (hk : k ≤ s.size) (h : numB s k = false) :
    Calls Try.prog 33 #[.string s, .int .i64 i] w fun e w' => e = .returned (.int .i64 (k : Int)) ∧ w' = w := by
  have := number_r s i k w hi hs hk
  rw [if_neg (by simp [h])] at this
  exact this
theorem sees4_r (s : ByteArray) (i : Int) (k : Nat) (w : World) (hi : i = k) (hs : s.size ≤ 600) (hk : k ≤ s.size) :
    Calls Try.prog 31 #[.string s, .int .i64 i, .string ⟨#[60, 33, 45, 45]⟩] w fun e w' => e = .returned (.bool (sees4 s k)) ∧ w' = w := by
  have h : pre s k [60, 33, 45, 45] = sees4 s k := by simp [pre, sees4, Bool.and_assoc]
  rw [← h]; exact sees_r s i k _ w hi hs hk (by decide)
theorem sees3_r (s : ByteArray) (i : Int) (k : Nat) (w : World) (hi : i = k) (hs : s.size ≤ 600) (hk : k ≤ s.size) :
    Calls Try.prog 31 #[.string s, .int .i64 i, .string ⟨#[45, 45, 62]⟩] w fun e w' => e = .returned (.bool (sees3 s k)) ∧ w' = w := by
  have h : pre s k [45, 45, 62] = sees3 s k := by simp [pre, sees3, Bool.and_assoc]
  rw [← h]; exact sees_r s i k _ w hi hs hk (by decide)

set_option maxRecDepth 100000 in
set_option maxHeartbeats 4000000 in
theorem rtoken_blank_n (s : ByteArray) (k : Nat) (w : World) (hs : s.size ≤ 600) (hk : k < s.size) (hbl : blankI (pk s k) = true) (hnu : numB s k = false) (HV : Hid (token s k = (Tok.k 1, Sp.blk s k))) :
    Calls Try.prog 17 #[.string s, .int .i64 (k : Int)] w fun e w' => e = .returned (.tuple #[tokV (token s k).1, .int .i64 ((token s k).2 : Int)]) ∧ Below w.heap.size w w' := by
  have W0 : Hid (RW w (w.alloc (.cells #[.int .i64 0, .string ⟨#[]⟩, .string ⟨#[]⟩] 35 (0, 0)))) := RW.new w
  have h1 : (k : Int) < (s.size : Int) := by omega
  have hix := index_pk s k hk
  cases hn : nameI (a0 s (k + 1))
  all_goals
    go_enter Try.func17, Try.ntmps17
    go_wp2_with fail
    refine (isBlank_r _ _).mono ?_
    rintro e wq ⟨rfl, rfl⟩
    go_wp2_with fail
    refine (number_no' s _ k _ (by omega) (by omega) (by omega) hnu).mono ?_
    rintro e wq ⟨rfl, rfl⟩
    go_wp2_with fail
    refine (begins_r s _ k _ (by omega) (by omega) (by omega)).mono ?_
    rintro e wq ⟨rfl, rfl⟩
    go_wp2_with fail
    refine (at_r s _ (k + 1) _ (by omega) (by omega)).mono ?_
    rintro e wq ⟨rfl, rfl⟩
    go_wp2_with fail
    refine (isName_r _ _).mono ?_
    rintro e wq ⟨rfl, rfl⟩
    go_wp2_with fail
    try (go_at_call 37; refine (escapes_r s _ (k + 1) _ (by omega) (by omega) (by omega)).mono ?_; rintro e wq ⟨rfl, rfl⟩; go_wp2_with fail)
    refine (begins_r s _ (k + 1) _ (by omega) (by omega) (by omega)).mono ?_
    rintro e wq ⟨rfl, rfl⟩
    go_wp2_with fail
    refine (blanks_r s _ k _ (by omega) (by omega) (by omega)).mono ?_
    rintro e wq ⟨rfl, rfl⟩
    go_wp2_with fail
    refine bodyPost_ret (v := .tuple #[tokV (Tok.k 1), .int .i64 ((Sp.blk s k : Int))]) (by simp [results, Try.results17, go_sem, tokV, Tok.k]; rfl) rfl ⟨?_, (Below.refl _ _).alloc (Nat.le_refl _) _⟩
    rw [HV.out]

set_option maxRecDepth 100000 in
set_option maxHeartbeats 4000000 in
theorem rtoken_blank_y (s : ByteArray) (k : Nat) (w : World) (hs : s.size ≤ 600) (hk : k < s.size) (hbl : blankI (pk s k) = true) (hnu : numB s k = true) (HV : Hid (token s k = (Tok.k 1, Sp.blk s k))) :
    Calls Try.prog 17 #[.string s, .int .i64 (k : Int)] w fun e w' => e = .returned (.tuple #[tokV (token s k).1, .int .i64 ((token s k).2 : Int)]) ∧ Below w.heap.size w w' := by
  have W0 : Hid (RW w (w.alloc (.cells #[.int .i64 0, .string ⟨#[]⟩, .string ⟨#[]⟩] 35 (0, 0)))) := RW.new w
  have h1 : (k : Int) < (s.size : Int) := by omega
  have hix := index_pk s k hk
  cases hn : nameI (a0 s (k + 1))
  all_goals
    go_enter Try.func17, Try.ntmps17
    go_wp2_with fail
    refine (isBlank_r _ _).mono ?_
    rintro e wq ⟨rfl, rfl⟩
    go_wp2_with fail
    refine (number_yes s _ k _ (by omega) (by omega) (by omega) hnu).mono ?_
    rintro e wq ⟨rfl, rfl⟩
    go_wp2_with fail
    refine (begins_r s _ k _ (by omega) (by omega) (by omega)).mono ?_
    rintro e wq ⟨rfl, rfl⟩
    go_wp2_with fail
    refine (at_r s _ (k + 1) _ (by omega) (by omega)).mono ?_
    rintro e wq ⟨rfl, rfl⟩
    go_wp2_with fail
    refine (isName_r _ _).mono ?_
    rintro e wq ⟨rfl, rfl⟩
    go_wp2_with fail
    try (go_at_call 37; refine (escapes_r s _ (k + 1) _ (by omega) (by omega) (by omega)).mono ?_; rintro e wq ⟨rfl, rfl⟩; go_wp2_with fail)
    refine (begins_r s _ (k + 1) _ (by omega) (by omega) (by omega)).mono ?_
    rintro e wq ⟨rfl, rfl⟩
    go_wp2_with fail
    refine (blanks_r s _ k _ (by omega) (by omega) (by omega)).mono ?_
    rintro e wq ⟨rfl, rfl⟩
    go_wp2_with fail
    refine bodyPost_ret (v := .tuple #[tokV (Tok.k 1), .int .i64 ((Sp.blk s k : Int))]) (by simp [results, Try.results17, go_sem, tokV, Tok.k]; rfl) rfl ⟨?_, (Below.refl _ _).alloc (Nat.le_refl _) _⟩
    rw [HV.out]

set_option maxRecDepth 100000 in
set_option maxHeartbeats 4000000 in
theorem rtoken_text34 (s : ByteArray) (k : Nat) (w : World) (hs : s.size ≤ 600) (hk : k < s.size) (hbl : blankI (pk s k) = false) (q34 : (pk s k == 34) = true) (hnu : numB s k = false) (HV : Hid (token s k = txt s (pk s k) (k + 1))) :
    Calls Try.prog 17 #[.string s, .int .i64 (k : Int)] w fun e w' => e = .returned (.tuple #[tokV (token s k).1, .int .i64 ((token s k).2 : Int)]) ∧ Below w.heap.size w w' := by
  have W0 : Hid (RW w (w.alloc (.cells #[.int .i64 0, .string ⟨#[]⟩, .string ⟨#[]⟩] 35 (0, 0)))) := RW.new w
  have h1 : (k : Int) < (s.size : Int) := by omega
  have hix := index_pk s k hk
  cases hn : nameI (a0 s (k + 1))
  all_goals
    go_enter Try.func17, Try.ntmps17
    go_wp2_with fail
    refine (isBlank_r _ _).mono ?_
    rintro e wq ⟨rfl, rfl⟩
    go_wp2_with fail
    refine (number_no' s _ k _ (by omega) (by omega) (by omega) hnu).mono ?_
    rintro e wq ⟨rfl, rfl⟩
    go_wp2_with fail
    refine (begins_r s _ k _ (by omega) (by omega) (by omega)).mono ?_
    rintro e wq ⟨rfl, rfl⟩
    go_wp2_with fail
    refine (at_r s _ (k + 1) _ (by omega) (by omega)).mono ?_
    rintro e wq ⟨rfl, rfl⟩
    go_wp2_with fail
    refine (isName_r _ _).mono ?_
    rintro e wq ⟨rfl, rfl⟩
    go_wp2_with fail
    try (go_at_call 37; refine (escapes_r s _ (k + 1) _ (by omega) (by omega) (by omega)).mono ?_; rintro e wq ⟨rfl, rfl⟩; go_wp2_with fail)
    refine (begins_r s _ (k + 1) _ (by omega) (by omega) (by omega)).mono ?_
    rintro e wq ⟨rfl, rfl⟩
    go_wp2_with fail
    refine (quoted_r s _ (k + 1) _ _ (by omega) (by omega) (by omega)).mono ?_
    rintro e w1 ⟨rfl, hb1⟩
    have W1 : Hid (RW w w1) := W0.out.below hb1
    have R1 : Hid (Res w1 w.heap.size) := W1.out.2
    clear hb1
    have r0 := R1.out.c0
    have r1 := R1.out.c1
    have r2 := R1.out.c2
    have rf := R1.out.f
    have rl := R1.out.lt
    unfold tokV
    go_wp2_with fail
    refine bodyPost_ret (v := .tuple #[tokV ((txt s (pk s k) (k + 1)).1), .int .i64 (((txt s (pk s k) (k + 1)).2 : Int))]) (by simp [results, Try.results17, go_sem, tokV, r0, r1, r2]) rfl ⟨?_, W1.out.set3 _ _ _⟩
    rw [HV.out]

set_option maxRecDepth 100000 in
set_option maxHeartbeats 4000000 in
theorem rtoken_text39 (s : ByteArray) (k : Nat) (w : World) (hs : s.size ≤ 600) (hk : k < s.size) (hbl : blankI (pk s k) = false) (q34 : (pk s k == 34) = false) (q39 : (pk s k == 39) = true) (hnu : numB s k = false) (HV : Hid (token s k = txt s (pk s k) (k + 1))) :
    Calls Try.prog 17 #[.string s, .int .i64 (k : Int)] w fun e w' => e = .returned (.tuple #[tokV (token s k).1, .int .i64 ((token s k).2 : Int)]) ∧ Below w.heap.size w w' := by
  have W0 : Hid (RW w (w.alloc (.cells #[.int .i64 0, .string ⟨#[]⟩, .string ⟨#[]⟩] 35 (0, 0)))) := RW.new w
  have h1 : (k : Int) < (s.size : Int) := by omega
  have hix := index_pk s k hk
  cases hn : nameI (a0 s (k + 1))
  all_goals
    go_enter Try.func17, Try.ntmps17
    go_wp2_with fail
    refine (isBlank_r _ _).mono ?_
    rintro e wq ⟨rfl, rfl⟩
    go_wp2_with fail
    refine (number_no' s _ k _ (by omega) (by omega) (by omega) hnu).mono ?_
    rintro e wq ⟨rfl, rfl⟩
    go_wp2_with fail
    refine (begins_r s _ k _ (by omega) (by omega) (by omega)).mono ?_
    rintro e wq ⟨rfl, rfl⟩
    go_wp2_with fail
    refine (at_r s _ (k + 1) _ (by omega) (by omega)).mono ?_
    rintro e wq ⟨rfl, rfl⟩
    go_wp2_with fail
    refine (isName_r _ _).mono ?_
    rintro e wq ⟨rfl, rfl⟩
    go_wp2_with fail
    try (go_at_call 37; refine (escapes_r s _ (k + 1) _ (by omega) (by omega) (by omega)).mono ?_; rintro e wq ⟨rfl, rfl⟩; go_wp2_with fail)
    refine (begins_r s _ (k + 1) _ (by omega) (by omega) (by omega)).mono ?_
    rintro e wq ⟨rfl, rfl⟩
    go_wp2_with fail
    refine (quoted_r s _ (k + 1) _ _ (by omega) (by omega) (by omega)).mono ?_
    rintro e w1 ⟨rfl, hb1⟩
    have W1 : Hid (RW w w1) := W0.out.below hb1
    have R1 : Hid (Res w1 w.heap.size) := W1.out.2
    clear hb1
    have r0 := R1.out.c0
    have r1 := R1.out.c1
    have r2 := R1.out.c2
    have rf := R1.out.f
    have rl := R1.out.lt
    unfold tokV
    go_wp2_with fail
    refine bodyPost_ret (v := .tuple #[tokV ((txt s (pk s k) (k + 1)).1), .int .i64 (((txt s (pk s k) (k + 1)).2 : Int))]) (by simp [results, Try.results17, go_sem, tokV, r0, r1, r2]) rfl ⟨?_, W1.out.set3 _ _ _⟩
    rw [HV.out]

set_option maxRecDepth 100000 in
set_option maxHeartbeats 4000000 in
theorem rtoken_hash (s : ByteArray) (k : Nat) (w : World) (hs : s.size ≤ 600) (hk : k < s.size) (hbl : blankI (pk s k) = false) (q34 : (pk s k == 34) = false) (q39 : (pk s k == 39) = false) (h35 : (pk s k == 35) = true) (hnu : numB s k = false) (hesc : nameI (a0 s (k + 1)) = false → escB s (k + 1) = true) (HV : Hid (token s k = (Tok.w 4 (Sp.name s (k + 1)).1, (Sp.name s (k + 1)).2))) :
    Calls Try.prog 17 #[.string s, .int .i64 (k : Int)] w fun e w' => e = .returned (.tuple #[tokV (token s k).1, .int .i64 ((token s k).2 : Int)]) ∧ Below w.heap.size w w' := by
  have W0 : Hid (RW w (w.alloc (.cells #[.int .i64 0, .string ⟨#[]⟩, .string ⟨#[]⟩] 35 (0, 0)))) := RW.new w
  have h1 : (k : Int) < (s.size : Int) := by omega
  have hix := index_pk s k hk
  cases hn : nameI (a0 s (k + 1))
  all_goals
    try have he := hesc hn
    go_enter Try.func17, Try.ntmps17
    go_wp2_with fail
    refine (isBlank_r _ _).mono ?_
    rintro e wq ⟨rfl, rfl⟩
    go_wp2_with fail
    refine (number_no' s _ k _ (by omega) (by omega) (by omega) hnu).mono ?_
    rintro e wq ⟨rfl, rfl⟩
    go_wp2_with fail
    refine (begins_r s _ k _ (by omega) (by omega) (by omega)).mono ?_
    rintro e wq ⟨rfl, rfl⟩
    go_wp2_with fail
    refine (at_r s _ (k + 1) _ (by omega) (by omega)).mono ?_
    rintro e wq ⟨rfl, rfl⟩
    go_wp2_with fail
    refine (isName_r _ _).mono ?_
    rintro e wq ⟨rfl, rfl⟩
    go_wp2_with fail
    try (go_at_call 37; refine (escapes_r s _ (k + 1) _ (by omega) (by omega) (by omega)).mono ?_; rintro e wq ⟨rfl, rfl⟩; go_wp2_with fail)
    refine (begins_r s _ (k + 1) _ (by omega) (by omega) (by omega)).mono ?_
    rintro e wq ⟨rfl, rfl⟩
    go_wp2_with fail
    refine (name_r s _ (k + 1) _ (by omega) (by omega) (by omega)).mono ?_
    rintro e w1 ⟨rfl, hb1⟩
    have W1 : Hid (RW w w1) := W0.out.below hb1
    have R1 : Hid (Res w1 w.heap.size) := W1.out.2
    clear hb1
    have r0 := R1.out.c0
    have r1 := R1.out.c1
    have r2 := R1.out.c2
    have rf := R1.out.f
    have rl := R1.out.lt
    go_wp2_with fail
    refine bodyPost_ret (v := .tuple #[tokV (Tok.w 4 (Sp.name s (k + 1)).1), .int .i64 (((Sp.name s (k + 1)).2 : Int))]) (by simp [results, Try.results17, go_sem, tokV, Tok.w, r0, r1, r2]; rfl) rfl ⟨?_, W1.out.set3 _ _ _⟩
    rw [HV.out]

set_option maxRecDepth 100000 in
set_option maxHeartbeats 4000000 in
theorem rtoken_num (s : ByteArray) (k : Nat) (w : World) (hs : s.size ≤ 600) (hk : k < s.size) (hbl : blankI (pk s k) = false) (q34 : (pk s k == 34) = false) (q39 : (pk s k == 39) = false) (h35 : (pk s k == 35) = false) (hnu : numB s k = true) (HV : Hid (token s k = Sp.numeric s k)) :
    Calls Try.prog 17 #[.string s, .int .i64 (k : Int)] w fun e w' => e = .returned (.tuple #[tokV (token s k).1, .int .i64 ((token s k).2 : Int)]) ∧ Below w.heap.size w w' := by
  have W0 : Hid (RW w (w.alloc (.cells #[.int .i64 0, .string ⟨#[]⟩, .string ⟨#[]⟩] 35 (0, 0)))) := RW.new w
  have h1 : (k : Int) < (s.size : Int) := by omega
  have hix := index_pk s k hk
  have hgt : (k : Int) < (numE s k : Int) := by have := numE_gt hnu; omega
  have hle : numE s k ≤ s.size := numE_le (by omega)
  cases hn : nameI (a0 s (k + 1))
  all_goals
    go_enter Try.func17, Try.ntmps17
    go_wp2_with fail
    refine (isBlank_r _ _).mono ?_
    rintro e wq ⟨rfl, rfl⟩
    go_wp2_with fail
    refine (number_yes s _ k _ (by omega) (by omega) (by omega) hnu).mono ?_
    rintro e wq ⟨rfl, rfl⟩
    go_wp2_with fail
    refine (begins_r s _ k _ (by omega) (by omega) (by omega)).mono ?_
    rintro e wq ⟨rfl, rfl⟩
    go_wp2_with fail
    refine (at_r s _ (k + 1) _ (by omega) (by omega)).mono ?_
    rintro e wq ⟨rfl, rfl⟩
    go_wp2_with fail
    refine (isName_r _ _).mono ?_
    rintro e wq ⟨rfl, rfl⟩
    go_wp2_with fail
    try (go_at_call 37; refine (escapes_r s _ (k + 1) _ (by omega) (by omega) (by omega)).mono ?_; rintro e wq ⟨rfl, rfl⟩; go_wp2_with fail)
    refine (begins_r s _ (k + 1) _ (by omega) (by omega) (by omega)).mono ?_
    rintro e wq ⟨rfl, rfl⟩
    go_wp2_with fail
    refine (numeric_r s _ _ k (numE s k) _ (by omega) (by omega) (by omega) (by omega) hle rfl).mono ?_
    rintro e w1 ⟨rfl, hb1⟩
    have W1 : Hid (RW w w1) := W0.out.below hb1
    have R1 : Hid (Res w1 w.heap.size) := W1.out.2
    clear hb1
    have r0 := R1.out.c0
    have r1 := R1.out.c1
    have r2 := R1.out.c2
    have rf := R1.out.f
    have rl := R1.out.lt
    unfold tokV
    go_wp2_with fail
    refine bodyPost_ret (v := .tuple #[tokV ((Sp.numeric s k).1), .int .i64 (((Sp.numeric s k).2 : Int))]) (by simp [results, Try.results17, go_sem, tokV, r0, r1, r2]) rfl ⟨?_, W1.out.set3 _ _ _⟩
    rw [HV.out]

set_option maxRecDepth 100000 in
set_option maxHeartbeats 4000000 in
theorem rtoken_open_a (s : ByteArray) (k : Nat) (w : World) (hs : s.size ≤ 600) (hk : k < s.size) (hbl : blankI (pk s k) = false) (q34 : (pk s k == 34) = false) (q39 : (pk s k == 39) = false) (h35 : (pk s k == 35) = false) (hs4 : sees4 s k = true) (hnu : numB s k = false) (HV : Hid (token s k = (Tok.k 8, k + 4))) :
    Calls Try.prog 17 #[.string s, .int .i64 (k : Int)] w fun e w' => e = .returned (.tuple #[tokV (token s k).1, .int .i64 ((token s k).2 : Int)]) ∧ Below w.heap.size w w' := by
  have W0 : Hid (RW w (w.alloc (.cells #[.int .i64 0, .string ⟨#[]⟩, .string ⟨#[]⟩] 35 (0, 0)))) := RW.new w
  have h1 : (k : Int) < (s.size : Int) := by omega
  have hix := index_pk s k hk
  cases hn : nameI (a0 s (k + 1))
  all_goals
    go_enter Try.func17, Try.ntmps17
    go_wp2_with fail
    refine (isBlank_r _ _).mono ?_
    rintro e wq ⟨rfl, rfl⟩
    go_wp2_with fail
    refine (number_no' s _ k _ (by omega) (by omega) (by omega) hnu).mono ?_
    rintro e wq ⟨rfl, rfl⟩
    go_wp2_with fail
    refine (begins_r s _ k _ (by omega) (by omega) (by omega)).mono ?_
    rintro e wq ⟨rfl, rfl⟩
    go_wp2_with fail
    refine (at_r s _ (k + 1) _ (by omega) (by omega)).mono ?_
    rintro e wq ⟨rfl, rfl⟩
    go_wp2_with fail
    refine (isName_r _ _).mono ?_
    rintro e wq ⟨rfl, rfl⟩
    go_wp2_with fail
    try (go_at_call 37; refine (escapes_r s _ (k + 1) _ (by omega) (by omega) (by omega)).mono ?_; rintro e wq ⟨rfl, rfl⟩; go_wp2_with fail)
    refine (begins_r s _ (k + 1) _ (by omega) (by omega) (by omega)).mono ?_
    rintro e wq ⟨rfl, rfl⟩
    go_wp2_with fail
    refine (sees4_r s _ k _ (by omega) (by omega) (by omega)).mono ?_
    rintro e wq ⟨rfl, rfl⟩
    go_wp2_with fail
    refine bodyPost_ret (v := .tuple #[tokV (Tok.k 8), .int .i64 ((k : Int) + 4)]) (by simp [results, Try.results17, go_sem, tokV, Tok.k]; rfl) rfl ⟨?_, (Below.refl _ _).alloc (Nat.le_refl _) _⟩
    rw [HV.out]; rfl

set_option maxRecDepth 100000 in
set_option maxHeartbeats 4000000 in
theorem rtoken_close_a (s : ByteArray) (k : Nat) (w : World) (hs : s.size ≤ 600) (hk : k < s.size) (hbl : blankI (pk s k) = false) (q34 : (pk s k == 34) = false) (q39 : (pk s k == 39) = false) (h35 : (pk s k == 35) = false) (hs4 : sees4 s k = false) (hs3 : sees3 s k = true) (hnu : numB s k = false) (HV : Hid (token s k = (Tok.k 9, k + 3))) :
    Calls Try.prog 17 #[.string s, .int .i64 (k : Int)] w fun e w' => e = .returned (.tuple #[tokV (token s k).1, .int .i64 ((token s k).2 : Int)]) ∧ Below w.heap.size w w' := by
  have W0 : Hid (RW w (w.alloc (.cells #[.int .i64 0, .string ⟨#[]⟩, .string ⟨#[]⟩] 35 (0, 0)))) := RW.new w
  have h1 : (k : Int) < (s.size : Int) := by omega
  have hix := index_pk s k hk
  cases hn : nameI (a0 s (k + 1))
  all_goals
    go_enter Try.func17, Try.ntmps17
    go_wp2_with fail
    refine (isBlank_r _ _).mono ?_
    rintro e wq ⟨rfl, rfl⟩
    go_wp2_with fail
    refine (number_no' s _ k _ (by omega) (by omega) (by omega) hnu).mono ?_
    rintro e wq ⟨rfl, rfl⟩
    go_wp2_with fail
    refine (begins_r s _ k _ (by omega) (by omega) (by omega)).mono ?_
    rintro e wq ⟨rfl, rfl⟩
    go_wp2_with fail
    refine (at_r s _ (k + 1) _ (by omega) (by omega)).mono ?_
    rintro e wq ⟨rfl, rfl⟩
    go_wp2_with fail
    refine (isName_r _ _).mono ?_
    rintro e wq ⟨rfl, rfl⟩
    go_wp2_with fail
    try (go_at_call 37; refine (escapes_r s _ (k + 1) _ (by omega) (by omega) (by omega)).mono ?_; rintro e wq ⟨rfl, rfl⟩; go_wp2_with fail)
    refine (begins_r s _ (k + 1) _ (by omega) (by omega) (by omega)).mono ?_
    rintro e wq ⟨rfl, rfl⟩
    go_wp2_with fail
    refine (sees4_r s _ k _ (by omega) (by omega) (by omega)).mono ?_
    rintro e wq ⟨rfl, rfl⟩
    go_wp2_with fail
    refine (sees3_r s _ k _ (by omega) (by omega) (by omega)).mono ?_
    rintro e wq ⟨rfl, rfl⟩
    go_wp2_with fail
    refine bodyPost_ret (v := .tuple #[tokV (Tok.k 9), .int .i64 ((k : Int) + 3)]) (by simp [results, Try.results17, go_sem, tokV, Tok.k]; rfl) rfl ⟨?_, (Below.refl _ _).alloc (Nat.le_refl _) _⟩
    rw [HV.out]; rfl

set_option maxRecDepth 100000 in
set_option maxHeartbeats 4000000 in
theorem rtoken_at (s : ByteArray) (k : Nat) (w : World) (hs : s.size ≤ 600) (hk : k < s.size) (hbl : blankI (pk s k) = false) (q34 : (pk s k == 34) = false) (q39 : (pk s k == 39) = false) (h35 : (pk s k == 35) = false) (hs4 : sees4 s k = false) (hs3 : sees3 s k = false) (h64 : (pk s k == 64) = true) (hb1 : begB s (k + 1) = true) (hnu : numB s k = false) (HV : Hid (token s k = (Tok.w 10 (Sp.name s (k + 1)).1, (Sp.name s (k + 1)).2))) :
    Calls Try.prog 17 #[.string s, .int .i64 (k : Int)] w fun e w' => e = .returned (.tuple #[tokV (token s k).1, .int .i64 ((token s k).2 : Int)]) ∧ Below w.heap.size w w' := by
  have W0 : Hid (RW w (w.alloc (.cells #[.int .i64 0, .string ⟨#[]⟩, .string ⟨#[]⟩] 35 (0, 0)))) := RW.new w
  have h1 : (k : Int) < (s.size : Int) := by omega
  have hix := index_pk s k hk
  cases hn : nameI (a0 s (k + 1))
  all_goals
    go_enter Try.func17, Try.ntmps17
    go_wp2_with fail
    refine (isBlank_r _ _).mono ?_
    rintro e wq ⟨rfl, rfl⟩
    go_wp2_with fail
    refine (number_no' s _ k _ (by omega) (by omega) (by omega) hnu).mono ?_
    rintro e wq ⟨rfl, rfl⟩
    go_wp2_with fail
    refine (begins_r s _ k _ (by omega) (by omega) (by omega)).mono ?_
    rintro e wq ⟨rfl, rfl⟩
    go_wp2_with fail
    refine (at_r s _ (k + 1) _ (by omega) (by omega)).mono ?_
    rintro e wq ⟨rfl, rfl⟩
    go_wp2_with fail
    refine (isName_r _ _).mono ?_
    rintro e wq ⟨rfl, rfl⟩
    go_wp2_with fail
    try (go_at_call 37; refine (escapes_r s _ (k + 1) _ (by omega) (by omega) (by omega)).mono ?_; rintro e wq ⟨rfl, rfl⟩; go_wp2_with fail)
    refine (begins_r s _ (k + 1) _ (by omega) (by omega) (by omega)).mono ?_
    rintro e wq ⟨rfl, rfl⟩
    go_wp2_with fail
    refine (sees4_r s _ k _ (by omega) (by omega) (by omega)).mono ?_
    rintro e wq ⟨rfl, rfl⟩
    go_wp2_with fail
    refine (sees3_r s _ k _ (by omega) (by omega) (by omega)).mono ?_
    rintro e wq ⟨rfl, rfl⟩
    go_wp2_with fail
    refine (name_r s _ (k + 1) _ (by omega) (by omega) (by omega)).mono ?_
    rintro e w1 ⟨rfl, hb1⟩
    have W1 : Hid (RW w w1) := W0.out.below hb1
    have R1 : Hid (Res w1 w.heap.size) := W1.out.2
    clear hb1
    have r0 := R1.out.c0
    have r1 := R1.out.c1
    have r2 := R1.out.c2
    have rf := R1.out.f
    have rl := R1.out.lt
    go_wp2_with fail
    refine bodyPost_ret (v := .tuple #[tokV (Tok.w 10 (Sp.name s (k + 1)).1), .int .i64 (((Sp.name s (k + 1)).2 : Int))]) (by simp [results, Try.results17, go_sem, tokV, Tok.w, r0, r1, r2]; rfl) rfl ⟨?_, W1.out.set3 _ _ _⟩
    rw [HV.out]

set_option maxRecDepth 100000 in
set_option maxHeartbeats 4000000 in
theorem rtoken_named_ac (s : ByteArray) (k : Nat) (w : World) (hs : s.size ≤ 600) (hk : k < s.size) (hbl : blankI (pk s k) = false) (q34 : (pk s k == 34) = false) (q39 : (pk s k == 39) = false) (h35 : (pk s k == 35) = false) (hs4 : sees4 s k = false) (hs3 : sees3 s k = false) (h64 : (pk s k == 64) = false) (hb0 : begB s k = true) (hnu : numB s k = false) (HV : Hid (token s k = named s k)) :
    Calls Try.prog 17 #[.string s, .int .i64 (k : Int)] w fun e w' => e = .returned (.tuple #[tokV (token s k).1, .int .i64 ((token s k).2 : Int)]) ∧ Below w.heap.size w w' := by
  have W0 : Hid (RW w (w.alloc (.cells #[.int .i64 0, .string ⟨#[]⟩, .string ⟨#[]⟩] 35 (0, 0)))) := RW.new w
  have h1 : (k : Int) < (s.size : Int) := by omega
  have hix := index_pk s k hk
  cases hn : nameI (a0 s (k + 1))
  all_goals
    go_enter Try.func17, Try.ntmps17
    go_wp2_with fail
    refine (isBlank_r _ _).mono ?_
    rintro e wq ⟨rfl, rfl⟩
    go_wp2_with fail
    refine (number_no' s _ k _ (by omega) (by omega) (by omega) hnu).mono ?_
    rintro e wq ⟨rfl, rfl⟩
    go_wp2_with fail
    refine (begins_r s _ k _ (by omega) (by omega) (by omega)).mono ?_
    rintro e wq ⟨rfl, rfl⟩
    go_wp2_with fail
    refine (at_r s _ (k + 1) _ (by omega) (by omega)).mono ?_
    rintro e wq ⟨rfl, rfl⟩
    go_wp2_with fail
    refine (isName_r _ _).mono ?_
    rintro e wq ⟨rfl, rfl⟩
    go_wp2_with fail
    try (go_at_call 37; refine (escapes_r s _ (k + 1) _ (by omega) (by omega) (by omega)).mono ?_; rintro e wq ⟨rfl, rfl⟩; go_wp2_with fail)
    refine (begins_r s _ (k + 1) _ (by omega) (by omega) (by omega)).mono ?_
    rintro e wq ⟨rfl, rfl⟩
    go_wp2_with fail
    refine (sees4_r s _ k _ (by omega) (by omega) (by omega)).mono ?_
    rintro e wq ⟨rfl, rfl⟩
    go_wp2_with fail
    refine (sees3_r s _ k _ (by omega) (by omega) (by omega)).mono ?_
    rintro e wq ⟨rfl, rfl⟩
    go_wp2_with fail
    refine (named_r s _ k _ (by omega) (by omega) (by omega)).mono ?_
    rintro e w1 ⟨rfl, hb1⟩
    have W1 : Hid (RW w w1) := W0.out.below hb1
    have R1 : Hid (Res w1 w.heap.size) := W1.out.2
    clear hb1
    have r0 := R1.out.c0
    have r1 := R1.out.c1
    have r2 := R1.out.c2
    have rf := R1.out.f
    have rl := R1.out.lt
    unfold tokV
    go_wp2_with fail
    refine bodyPost_ret (v := .tuple #[tokV ((named s k).1), .int .i64 (((named s k).2 : Int))]) (by simp [results, Try.results17, go_sem, tokV, r0, r1, r2]) rfl ⟨?_, W1.out.set3 _ _ _⟩
    rw [HV.out]

set_option maxRecDepth 100000 in
set_option maxHeartbeats 4000000 in
theorem rtoken_sign_ac (s : ByteArray) (k : Nat) (w : World) (hs : s.size ≤ 600) (hk : k < s.size) (hbl : blankI (pk s k) = false) (q34 : (pk s k == 34) = false) (q39 : (pk s k == 39) = false) (h35 : (pk s k == 35) = false) (hs4 : sees4 s k = false) (hs3 : sees3 s k = false) (h64 : (pk s k == 64) = false) (hb0 : begB s k = false) (hnu : numB s k = false) (HV : Hid (token s k = (Tok.w 15 (one s k), k + 1))) :
    Calls Try.prog 17 #[.string s, .int .i64 (k : Int)] w fun e w' => e = .returned (.tuple #[tokV (token s k).1, .int .i64 ((token s k).2 : Int)]) ∧ Below w.heap.size w w' := by
  have W0 : Hid (RW w (w.alloc (.cells #[.int .i64 0, .string ⟨#[]⟩, .string ⟨#[]⟩] 35 (0, 0)))) := RW.new w
  have h1 : (k : Int) < (s.size : Int) := by omega
  have hix := index_pk s k hk
  have hsl := slice1 s k hk
  cases hn : nameI (a0 s (k + 1))
  all_goals
    go_enter Try.func17, Try.ntmps17
    go_wp2_with fail
    refine (isBlank_r _ _).mono ?_
    rintro e wq ⟨rfl, rfl⟩
    go_wp2_with fail
    refine (number_no' s _ k _ (by omega) (by omega) (by omega) hnu).mono ?_
    rintro e wq ⟨rfl, rfl⟩
    go_wp2_with fail
    refine (begins_r s _ k _ (by omega) (by omega) (by omega)).mono ?_
    rintro e wq ⟨rfl, rfl⟩
    go_wp2_with fail
    refine (at_r s _ (k + 1) _ (by omega) (by omega)).mono ?_
    rintro e wq ⟨rfl, rfl⟩
    go_wp2_with fail
    refine (isName_r _ _).mono ?_
    rintro e wq ⟨rfl, rfl⟩
    go_wp2_with fail
    try (go_at_call 37; refine (escapes_r s _ (k + 1) _ (by omega) (by omega) (by omega)).mono ?_; rintro e wq ⟨rfl, rfl⟩; go_wp2_with fail)
    refine (begins_r s _ (k + 1) _ (by omega) (by omega) (by omega)).mono ?_
    rintro e wq ⟨rfl, rfl⟩
    go_wp2_with fail
    refine (sees4_r s _ k _ (by omega) (by omega) (by omega)).mono ?_
    rintro e wq ⟨rfl, rfl⟩
    go_wp2_with fail
    refine (sees3_r s _ k _ (by omega) (by omega) (by omega)).mono ?_
    rintro e wq ⟨rfl, rfl⟩
    go_wp2_with fail
    refine bodyPost_ret (v := .tuple #[tokV (Tok.w 15 (one s k)), .int .i64 ((k : Int) + 1)]) (by simp [results, Try.results17, go_sem, tokV, Tok.w]; rfl) rfl ⟨?_, (Below.refl _ _).alloc (Nat.le_refl _) _⟩
    rw [HV.out]; rfl

set_option maxRecDepth 100000 in
set_option maxHeartbeats 4000000 in
theorem rtoken_named_ad (s : ByteArray) (k : Nat) (w : World) (hs : s.size ≤ 600) (hk : k < s.size) (hbl : blankI (pk s k) = false) (q34 : (pk s k == 34) = false) (q39 : (pk s k == 39) = false) (h35 : (pk s k == 35) = false) (hs4 : sees4 s k = false) (hs3 : sees3 s k = false) (h64 : (pk s k == 64) = true) (hb1 : begB s (k + 1) = false) (hb0 : begB s k = true) (hnu : numB s k = false) (HV : Hid (token s k = named s k)) :
    Calls Try.prog 17 #[.string s, .int .i64 (k : Int)] w fun e w' => e = .returned (.tuple #[tokV (token s k).1, .int .i64 ((token s k).2 : Int)]) ∧ Below w.heap.size w w' := by
  have W0 : Hid (RW w (w.alloc (.cells #[.int .i64 0, .string ⟨#[]⟩, .string ⟨#[]⟩] 35 (0, 0)))) := RW.new w
  have h1 : (k : Int) < (s.size : Int) := by omega
  have hix := index_pk s k hk
  cases hn : nameI (a0 s (k + 1))
  all_goals
    go_enter Try.func17, Try.ntmps17
    go_wp2_with fail
    refine (isBlank_r _ _).mono ?_
    rintro e wq ⟨rfl, rfl⟩
    go_wp2_with fail
    refine (number_no' s _ k _ (by omega) (by omega) (by omega) hnu).mono ?_
    rintro e wq ⟨rfl, rfl⟩
    go_wp2_with fail
    refine (begins_r s _ k _ (by omega) (by omega) (by omega)).mono ?_
    rintro e wq ⟨rfl, rfl⟩
    go_wp2_with fail
    refine (at_r s _ (k + 1) _ (by omega) (by omega)).mono ?_
    rintro e wq ⟨rfl, rfl⟩
    go_wp2_with fail
    refine (isName_r _ _).mono ?_
    rintro e wq ⟨rfl, rfl⟩
    go_wp2_with fail
    try (go_at_call 37; refine (escapes_r s _ (k + 1) _ (by omega) (by omega) (by omega)).mono ?_; rintro e wq ⟨rfl, rfl⟩; go_wp2_with fail)
    refine (begins_r s _ (k + 1) _ (by omega) (by omega) (by omega)).mono ?_
    rintro e wq ⟨rfl, rfl⟩
    go_wp2_with fail
    refine (sees4_r s _ k _ (by omega) (by omega) (by omega)).mono ?_
    rintro e wq ⟨rfl, rfl⟩
    go_wp2_with fail
    refine (sees3_r s _ k _ (by omega) (by omega) (by omega)).mono ?_
    rintro e wq ⟨rfl, rfl⟩
    go_wp2_with fail
    refine (named_r s _ k _ (by omega) (by omega) (by omega)).mono ?_
    rintro e w1 ⟨rfl, hb1⟩
    have W1 : Hid (RW w w1) := W0.out.below hb1
    have R1 : Hid (Res w1 w.heap.size) := W1.out.2
    clear hb1
    have r0 := R1.out.c0
    have r1 := R1.out.c1
    have r2 := R1.out.c2
    have rf := R1.out.f
    have rl := R1.out.lt
    unfold tokV
    go_wp2_with fail
    refine bodyPost_ret (v := .tuple #[tokV ((named s k).1), .int .i64 (((named s k).2 : Int))]) (by simp [results, Try.results17, go_sem, tokV, r0, r1, r2]) rfl ⟨?_, W1.out.set3 _ _ _⟩
    rw [HV.out]

set_option maxRecDepth 100000 in
set_option maxHeartbeats 4000000 in
theorem rtoken_sign_ad (s : ByteArray) (k : Nat) (w : World) (hs : s.size ≤ 600) (hk : k < s.size) (hbl : blankI (pk s k) = false) (q34 : (pk s k == 34) = false) (q39 : (pk s k == 39) = false) (h35 : (pk s k == 35) = false) (hs4 : sees4 s k = false) (hs3 : sees3 s k = false) (h64 : (pk s k == 64) = true) (hb1 : begB s (k + 1) = false) (hb0 : begB s k = false) (hnu : numB s k = false) (HV : Hid (token s k = (Tok.w 15 (one s k), k + 1))) :
    Calls Try.prog 17 #[.string s, .int .i64 (k : Int)] w fun e w' => e = .returned (.tuple #[tokV (token s k).1, .int .i64 ((token s k).2 : Int)]) ∧ Below w.heap.size w w' := by
  have W0 : Hid (RW w (w.alloc (.cells #[.int .i64 0, .string ⟨#[]⟩, .string ⟨#[]⟩] 35 (0, 0)))) := RW.new w
  have h1 : (k : Int) < (s.size : Int) := by omega
  have hix := index_pk s k hk
  have hsl := slice1 s k hk
  cases hn : nameI (a0 s (k + 1))
  all_goals
    go_enter Try.func17, Try.ntmps17
    go_wp2_with fail
    refine (isBlank_r _ _).mono ?_
    rintro e wq ⟨rfl, rfl⟩
    go_wp2_with fail
    refine (number_no' s _ k _ (by omega) (by omega) (by omega) hnu).mono ?_
    rintro e wq ⟨rfl, rfl⟩
    go_wp2_with fail
    refine (begins_r s _ k _ (by omega) (by omega) (by omega)).mono ?_
    rintro e wq ⟨rfl, rfl⟩
    go_wp2_with fail
    refine (at_r s _ (k + 1) _ (by omega) (by omega)).mono ?_
    rintro e wq ⟨rfl, rfl⟩
    go_wp2_with fail
    refine (isName_r _ _).mono ?_
    rintro e wq ⟨rfl, rfl⟩
    go_wp2_with fail
    try (go_at_call 37; refine (escapes_r s _ (k + 1) _ (by omega) (by omega) (by omega)).mono ?_; rintro e wq ⟨rfl, rfl⟩; go_wp2_with fail)
    refine (begins_r s _ (k + 1) _ (by omega) (by omega) (by omega)).mono ?_
    rintro e wq ⟨rfl, rfl⟩
    go_wp2_with fail
    refine (sees4_r s _ k _ (by omega) (by omega) (by omega)).mono ?_
    rintro e wq ⟨rfl, rfl⟩
    go_wp2_with fail
    refine (sees3_r s _ k _ (by omega) (by omega) (by omega)).mono ?_
    rintro e wq ⟨rfl, rfl⟩
    go_wp2_with fail
    refine bodyPost_ret (v := .tuple #[tokV (Tok.w 15 (one s k)), .int .i64 ((k : Int) + 1)]) (by simp [results, Try.results17, go_sem, tokV, Tok.w]; rfl) rfl ⟨?_, (Below.refl _ _).alloc (Nat.le_refl _) _⟩
    rw [HV.out]; rfl

set_option maxRecDepth 100000 in
set_option maxHeartbeats 4000000 in
theorem rtoken_open_b (s : ByteArray) (k : Nat) (w : World) (hs : s.size ≤ 600) (hk : k < s.size) (hbl : blankI (pk s k) = false) (q34 : (pk s k == 34) = false) (q39 : (pk s k == 39) = false) (h35 : (pk s k == 35) = true) (hs4 : sees4 s k = true) (hnu : numB s k = false) (hn : nameI (a0 s (k + 1)) = false) (he : escB s (k + 1) = false) (HV : Hid (token s k = (Tok.k 8, k + 4))) :
    Calls Try.prog 17 #[.string s, .int .i64 (k : Int)] w fun e w' => e = .returned (.tuple #[tokV (token s k).1, .int .i64 ((token s k).2 : Int)]) ∧ Below w.heap.size w w' := by
  have W0 : Hid (RW w (w.alloc (.cells #[.int .i64 0, .string ⟨#[]⟩, .string ⟨#[]⟩] 35 (0, 0)))) := RW.new w
  have h1 : (k : Int) < (s.size : Int) := by omega
  have hix := index_pk s k hk
  go_enter Try.func17, Try.ntmps17
  go_wp2_with fail
  refine (isBlank_r _ _).mono ?_
  rintro e wq ⟨rfl, rfl⟩
  go_wp2_with fail
  refine (number_no' s _ k _ (by omega) (by omega) (by omega) hnu).mono ?_
  rintro e wq ⟨rfl, rfl⟩
  go_wp2_with fail
  refine (begins_r s _ k _ (by omega) (by omega) (by omega)).mono ?_
  rintro e wq ⟨rfl, rfl⟩
  go_wp2_with fail
  refine (at_r s _ (k + 1) _ (by omega) (by omega)).mono ?_
  rintro e wq ⟨rfl, rfl⟩
  go_wp2_with fail
  refine (isName_r _ _).mono ?_
  rintro e wq ⟨rfl, rfl⟩
  go_wp2_with fail
  try (go_at_call 37; refine (escapes_r s _ (k + 1) _ (by omega) (by omega) (by omega)).mono ?_; rintro e wq ⟨rfl, rfl⟩; go_wp2_with fail)
  refine (begins_r s _ (k + 1) _ (by omega) (by omega) (by omega)).mono ?_
  rintro e wq ⟨rfl, rfl⟩
  go_wp2_with fail
  refine (sees4_r s _ k _ (by omega) (by omega) (by omega)).mono ?_
  rintro e wq ⟨rfl, rfl⟩
  go_wp2_with fail
  refine bodyPost_ret (v := .tuple #[tokV (Tok.k 8), .int .i64 ((k : Int) + 4)]) (by simp [results, Try.results17, go_sem, tokV, Tok.k]; rfl) rfl ⟨?_, (Below.refl _ _).alloc (Nat.le_refl _) _⟩
  rw [HV.out]; rfl

set_option maxRecDepth 100000 in
set_option maxHeartbeats 4000000 in
theorem rtoken_close_b (s : ByteArray) (k : Nat) (w : World) (hs : s.size ≤ 600) (hk : k < s.size) (hbl : blankI (pk s k) = false) (q34 : (pk s k == 34) = false) (q39 : (pk s k == 39) = false) (h35 : (pk s k == 35) = true) (hs4 : sees4 s k = false) (hs3 : sees3 s k = true) (hnu : numB s k = false) (hn : nameI (a0 s (k + 1)) = false) (he : escB s (k + 1) = false) (HV : Hid (token s k = (Tok.k 9, k + 3))) :
    Calls Try.prog 17 #[.string s, .int .i64 (k : Int)] w fun e w' => e = .returned (.tuple #[tokV (token s k).1, .int .i64 ((token s k).2 : Int)]) ∧ Below w.heap.size w w' := by
  have W0 : Hid (RW w (w.alloc (.cells #[.int .i64 0, .string ⟨#[]⟩, .string ⟨#[]⟩] 35 (0, 0)))) := RW.new w
  have h1 : (k : Int) < (s.size : Int) := by omega
  have hix := index_pk s k hk
  go_enter Try.func17, Try.ntmps17
  go_wp2_with fail
  refine (isBlank_r _ _).mono ?_
  rintro e wq ⟨rfl, rfl⟩
  go_wp2_with fail
  refine (number_no' s _ k _ (by omega) (by omega) (by omega) hnu).mono ?_
  rintro e wq ⟨rfl, rfl⟩
  go_wp2_with fail
  refine (begins_r s _ k _ (by omega) (by omega) (by omega)).mono ?_
  rintro e wq ⟨rfl, rfl⟩
  go_wp2_with fail
  refine (at_r s _ (k + 1) _ (by omega) (by omega)).mono ?_
  rintro e wq ⟨rfl, rfl⟩
  go_wp2_with fail
  refine (isName_r _ _).mono ?_
  rintro e wq ⟨rfl, rfl⟩
  go_wp2_with fail
  try (go_at_call 37; refine (escapes_r s _ (k + 1) _ (by omega) (by omega) (by omega)).mono ?_; rintro e wq ⟨rfl, rfl⟩; go_wp2_with fail)
  refine (begins_r s _ (k + 1) _ (by omega) (by omega) (by omega)).mono ?_
  rintro e wq ⟨rfl, rfl⟩
  go_wp2_with fail
  refine (sees4_r s _ k _ (by omega) (by omega) (by omega)).mono ?_
  rintro e wq ⟨rfl, rfl⟩
  go_wp2_with fail
  refine (sees3_r s _ k _ (by omega) (by omega) (by omega)).mono ?_
  rintro e wq ⟨rfl, rfl⟩
  go_wp2_with fail
  refine bodyPost_ret (v := .tuple #[tokV (Tok.k 9), .int .i64 ((k : Int) + 3)]) (by simp [results, Try.results17, go_sem, tokV, Tok.k]; rfl) rfl ⟨?_, (Below.refl _ _).alloc (Nat.le_refl _) _⟩
  rw [HV.out]; rfl

set_option maxRecDepth 100000 in
set_option maxHeartbeats 4000000 in
theorem rtoken_named_bc (s : ByteArray) (k : Nat) (w : World) (hs : s.size ≤ 600) (hk : k < s.size) (hbl : blankI (pk s k) = false) (q34 : (pk s k == 34) = false) (q39 : (pk s k == 39) = false) (h35 : (pk s k == 35) = true) (hs4 : sees4 s k = false) (hs3 : sees3 s k = false) (h64 : (pk s k == 64) = false) (hb0 : begB s k = true) (hnu : numB s k = false) (hn : nameI (a0 s (k + 1)) = false) (he : escB s (k + 1) = false) (HV : Hid (token s k = named s k)) :
    Calls Try.prog 17 #[.string s, .int .i64 (k : Int)] w fun e w' => e = .returned (.tuple #[tokV (token s k).1, .int .i64 ((token s k).2 : Int)]) ∧ Below w.heap.size w w' := by
  have W0 : Hid (RW w (w.alloc (.cells #[.int .i64 0, .string ⟨#[]⟩, .string ⟨#[]⟩] 35 (0, 0)))) := RW.new w
  have h1 : (k : Int) < (s.size : Int) := by omega
  have hix := index_pk s k hk
  go_enter Try.func17, Try.ntmps17
  go_wp2_with fail
  refine (isBlank_r _ _).mono ?_
  rintro e wq ⟨rfl, rfl⟩
  go_wp2_with fail
  refine (number_no' s _ k _ (by omega) (by omega) (by omega) hnu).mono ?_
  rintro e wq ⟨rfl, rfl⟩
  go_wp2_with fail
  refine (begins_r s _ k _ (by omega) (by omega) (by omega)).mono ?_
  rintro e wq ⟨rfl, rfl⟩
  go_wp2_with fail
  refine (at_r s _ (k + 1) _ (by omega) (by omega)).mono ?_
  rintro e wq ⟨rfl, rfl⟩
  go_wp2_with fail
  refine (isName_r _ _).mono ?_
  rintro e wq ⟨rfl, rfl⟩
  go_wp2_with fail
  try (go_at_call 37; refine (escapes_r s _ (k + 1) _ (by omega) (by omega) (by omega)).mono ?_; rintro e wq ⟨rfl, rfl⟩; go_wp2_with fail)
  refine (begins_r s _ (k + 1) _ (by omega) (by omega) (by omega)).mono ?_
  rintro e wq ⟨rfl, rfl⟩
  go_wp2_with fail
  refine (sees4_r s _ k _ (by omega) (by omega) (by omega)).mono ?_
  rintro e wq ⟨rfl, rfl⟩
  go_wp2_with fail
  refine (sees3_r s _ k _ (by omega) (by omega) (by omega)).mono ?_
  rintro e wq ⟨rfl, rfl⟩
  go_wp2_with fail
  refine (named_r s _ k _ (by omega) (by omega) (by omega)).mono ?_
  rintro e w1 ⟨rfl, hb1⟩
  have W1 : Hid (RW w w1) := W0.out.below hb1
  have R1 : Hid (Res w1 w.heap.size) := W1.out.2
  clear hb1
  have r0 := R1.out.c0
  have r1 := R1.out.c1
  have r2 := R1.out.c2
  have rf := R1.out.f
  have rl := R1.out.lt
  unfold tokV
  go_wp2_with fail
  refine bodyPost_ret (v := .tuple #[tokV ((named s k).1), .int .i64 (((named s k).2 : Int))]) (by simp [results, Try.results17, go_sem, tokV, r0, r1, r2]) rfl ⟨?_, W1.out.set3 _ _ _⟩
  rw [HV.out]

set_option maxRecDepth 100000 in
set_option maxHeartbeats 4000000 in
theorem rtoken_sign_bc (s : ByteArray) (k : Nat) (w : World) (hs : s.size ≤ 600) (hk : k < s.size) (hbl : blankI (pk s k) = false) (q34 : (pk s k == 34) = false) (q39 : (pk s k == 39) = false) (h35 : (pk s k == 35) = true) (hs4 : sees4 s k = false) (hs3 : sees3 s k = false) (h64 : (pk s k == 64) = false) (hb0 : begB s k = false) (hnu : numB s k = false) (hn : nameI (a0 s (k + 1)) = false) (he : escB s (k + 1) = false) (HV : Hid (token s k = (Tok.w 15 (one s k), k + 1))) :
    Calls Try.prog 17 #[.string s, .int .i64 (k : Int)] w fun e w' => e = .returned (.tuple #[tokV (token s k).1, .int .i64 ((token s k).2 : Int)]) ∧ Below w.heap.size w w' := by
  have W0 : Hid (RW w (w.alloc (.cells #[.int .i64 0, .string ⟨#[]⟩, .string ⟨#[]⟩] 35 (0, 0)))) := RW.new w
  have h1 : (k : Int) < (s.size : Int) := by omega
  have hix := index_pk s k hk
  have hsl := slice1 s k hk
  go_enter Try.func17, Try.ntmps17
  go_wp2_with fail
  refine (isBlank_r _ _).mono ?_
  rintro e wq ⟨rfl, rfl⟩
  go_wp2_with fail
  refine (number_no' s _ k _ (by omega) (by omega) (by omega) hnu).mono ?_
  rintro e wq ⟨rfl, rfl⟩
  go_wp2_with fail
  refine (begins_r s _ k _ (by omega) (by omega) (by omega)).mono ?_
  rintro e wq ⟨rfl, rfl⟩
  go_wp2_with fail
  refine (at_r s _ (k + 1) _ (by omega) (by omega)).mono ?_
  rintro e wq ⟨rfl, rfl⟩
  go_wp2_with fail
  refine (isName_r _ _).mono ?_
  rintro e wq ⟨rfl, rfl⟩
  go_wp2_with fail
  try (go_at_call 37; refine (escapes_r s _ (k + 1) _ (by omega) (by omega) (by omega)).mono ?_; rintro e wq ⟨rfl, rfl⟩; go_wp2_with fail)
  refine (begins_r s _ (k + 1) _ (by omega) (by omega) (by omega)).mono ?_
  rintro e wq ⟨rfl, rfl⟩
  go_wp2_with fail
  refine (sees4_r s _ k _ (by omega) (by omega) (by omega)).mono ?_
  rintro e wq ⟨rfl, rfl⟩
  go_wp2_with fail
  refine (sees3_r s _ k _ (by omega) (by omega) (by omega)).mono ?_
  rintro e wq ⟨rfl, rfl⟩
  go_wp2_with fail
  refine bodyPost_ret (v := .tuple #[tokV (Tok.w 15 (one s k)), .int .i64 ((k : Int) + 1)]) (by simp [results, Try.results17, go_sem, tokV, Tok.w]; rfl) rfl ⟨?_, (Below.refl _ _).alloc (Nat.le_refl _) _⟩
  rw [HV.out]; rfl

theorem token_r (s : ByteArray) (i : Int) (k : Nat) (w : World) (hi : i = k) (hs : s.size ≤ 600) (hk : k < s.size) :
    Calls Try.prog 17 #[.string s, .int .i64 i] w fun e w' => e = .returned (.tuple #[tokV (token s k).1, .int .i64 ((token s k).2 : Int)]) ∧ Below w.heap.size w w' := by
  subst hi
  have T : token s k = token s k := rfl
  conv at T => rhs; unfold token
  cases hbl : blankI (pk s k)
  · rw [hbl] at T
    cases hqu : quoteI (pk s k)
    · have q34 : (pk s k == 34) = false := by simp only [quoteI, Bool.or_eq_false_iff] at hqu; exact hqu.1
      have q39 : (pk s k == 39) = false := by simp only [quoteI, Bool.or_eq_false_iff] at hqu; exact hqu.2
      rw [hqu] at T
      have key : ∀ (_ : pk s k = 35 → goesB s (k + 1) = false), Calls Try.prog 17 #[.string s, .int .i64 (k : Int)] w fun e w' => e = .returned (.tuple #[tokV (token s k).1, .int .i64 ((token s k).2 : Int)]) ∧ Below w.heap.size w w' := by
        intro hno
        have hnn : pk s k = 35 → nameI (a0 s (k + 1)) = false := fun h => by
          have := hno h; simp only [goesB, Bool.or_eq_false_iff] at this; rw [a0_name]; exact this.1
        have hee : pk s k = 35 → escB s (k + 1) = false := fun h => by
          have := hno h; simp only [goesB, Bool.or_eq_false_iff] at this; exact this.2
        rw [if_neg (by simp), if_neg (by simp), if_neg (fun h => by simp [hno h.1] at h)] at T
        cases hnu : numB s k
        · rw [hnu, if_neg (by simp)] at T
          cases hs4 : sees4 s k
          · rw [hs4, if_neg (by simp)] at T
            cases hs3 : sees3 s k
            · rw [hs3, if_neg (by simp)] at T
              by_cases hat : pk s k = 64
              · have h35 : (pk s k == 35) = false := by rw [hat]; rfl
                have h64 : (pk s k == 64) = true := by rw [hat]; rfl
                cases hb1 : begB s (k + 1)
                · rw [if_neg (by simp [hb1])] at T
                  cases hb0 : begB s k
                  · rw [hb0, if_neg (by simp)] at T
                    exact rtoken_sign_ad s k w hs hk hbl q34 q39 h35 hs4 hs3 h64 hb1 hb0 hnu T
                  · rw [hb0, if_pos rfl] at T
                    exact rtoken_named_ad s k w hs hk hbl q34 q39 h35 hs4 hs3 h64 hb1 hb0 hnu T
                · rw [if_pos ⟨hat, hb1⟩] at T
                  exact rtoken_at s k w hs hk hbl q34 q39 h35 hs4 hs3 h64 hb1 hnu T
              · have h64 : (pk s k == 64) = false := by simpa using hat
                rw [if_neg (fun h => hat h.1)] at T
                cases hb0 : begB s k
                · rw [hb0, if_neg (by simp)] at T
                  cases h35 : (pk s k == 35)
                  · exact rtoken_sign_ac s k w hs hk hbl q34 q39 h35 hs4 hs3 h64 hb0 hnu T
                  · exact rtoken_sign_bc s k w hs hk hbl q34 q39 h35 hs4 hs3 h64 hb0 hnu (hnn (by simpa using h35)) (hee (by simpa using h35)) T
                · rw [hb0, if_pos rfl] at T
                  cases h35 : (pk s k == 35)
                  · exact rtoken_named_ac s k w hs hk hbl q34 q39 h35 hs4 hs3 h64 hb0 hnu T
                  · exact rtoken_named_bc s k w hs hk hbl q34 q39 h35 hs4 hs3 h64 hb0 hnu (hnn (by simpa using h35)) (hee (by simpa using h35)) T
            · rw [hs3, if_pos rfl] at T
              cases h35 : (pk s k == 35)
              · exact rtoken_close_a s k w hs hk hbl q34 q39 h35 hs4 hs3 hnu T
              · exact rtoken_close_b s k w hs hk hbl q34 q39 h35 hs4 hs3 hnu (hnn (by simpa using h35)) (hee (by simpa using h35)) T
          · rw [hs4, if_pos rfl] at T
            cases h35 : (pk s k == 35)
            · exact rtoken_open_a s k w hs hk hbl q34 q39 h35 hs4 hnu T
            · exact rtoken_open_b s k w hs hk hbl q34 q39 h35 hs4 hnu (hnn (by simpa using h35)) (hee (by simpa using h35)) T
        · rw [hnu, if_pos rfl] at T
          have h35 : (pk s k == 35) = false := by
            cases h : (pk s k == 35)
            · rfl
            · exfalso
              have e : pk s k = 35 := by simpa using h
              have h2 : sgn s k = k := by unfold sgn; rw [e, if_neg (by decide)]
              have h3 : numB s k = false := by unfold numB; rw [h2, e]; rfl
              rw [h3] at hnu; cases hnu
          exact rtoken_num s k w hs hk hbl q34 q39 h35 hnu T
      by_cases hha : pk s k = 35
      · have h35 : (pk s k == 35) = true := by rw [hha]; rfl
        cases hgo : goesB s (k + 1)
        · exact key (fun _ => hgo)
        · rw [if_neg (by simp), if_neg (by simp), if_pos ⟨hha, hgo⟩] at T
          have hnu : numB s k = false := by
            have h2 : sgn s k = k := by unfold sgn; rw [hha, if_neg (by decide)]
            unfold numB; rw [h2, hha]; rfl
          exact rtoken_hash s k w hs hk hbl q34 q39 h35 hnu (fun h => by rw [a0_name] at h; simpa [goesB, h] using hgo) T
      · exact key (fun h => absurd h hha)
    · rw [hqu, if_neg (by simp), if_pos rfl] at T
      have hsg : ∀ c : Int, pk s k = c → (c = 34 ∨ c = 39) → numB s k = false := fun c e hc => by
        have h2 : sgn s k = k := by unfold sgn; rw [e]; rcases hc with rfl | rfl <;> rfl
        unfold numB; rw [h2, e]; rcases hc with rfl | rfl <;> rfl
      cases q34 : (pk s k == 34)
      · have q39 : (pk s k == 39) = true := by simpa [quoteI, q34] using hqu
        exact rtoken_text39 s k w hs hk hbl q34 q39 (hsg 39 (by simpa using q39) (.inr rfl)) T
      · exact rtoken_text34 s k w hs hk hbl q34 (hsg 34 (by simpa using q34) (.inl rfl)) T
  · rw [hbl, if_pos rfl] at T
    cases hnu : numB s k
    · exact rtoken_blank_n s k w hs hk hbl hnu T
    · exact rtoken_blank_y s k w hs hk hbl hnu T
end Go.Proofs.Ytlliliddljkbfaa
