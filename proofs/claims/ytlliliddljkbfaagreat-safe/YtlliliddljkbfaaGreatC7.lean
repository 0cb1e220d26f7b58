import Derived.Test.YtlliliddljkbfaaGreatC2
import Derived.Test.YtlliliddljkbfaaGreatC5
import Derived.Test.YtlliliddljkbfaaGreatC6
namespace Go.Proofs.YtlliliddljkbfaaGreat
set_option maxHeartbeats 64000000
set_option maxRecDepth 100000
open Go.RowKit Sp
def Went (b : Nat) (s : ByteArray) (k : Nat) (w w' : World) : Prop := Sc w' b s k ∧ Turn b w w'
theorem Went.drewN {b k : Nat} {s : ByteArray} {w w' : World} (h : Went b s k w w') (n : Nat) : Went b s k w (w'.drewN n) := ⟨h.1.drewN n, h.2.drewN n⟩
theorem Went.set {b k : Nat} {s : ByteArray} {w w' : World} (h : Went b s k w w') (j : Nat) (hj : j ≤ s.size) : Went b s j w (w'.setCell ⟨b, 1, none⟩ (.int .i64 (j : Int))) := ⟨h.1.set j hj, h.2.setCell 1 _⟩
theorem Went.alloc {b k : Nat} {s : ByteArray} {w w' : World} (h : Went b s k w w') (o : Obj) : Went b s k w (w'.alloc o) := ⟨h.1.alloc o, h.2.alloc o⟩
theorem Went.refl {b k : Nat} {s : ByteArray} {w : World} (h : Sc w b s k) : Went b s k w w := ⟨h, Turn.refl _ _⟩
theorem Went.nh {b k : Nat} {s : ByteArray} {w : World} (h : Sc w b s k) : Hid (Went b s k w (w.alloc (.cells #[.int .i64 0, .string ⟨#[]⟩, .string ⟨#[]⟩] 93 (0, 0)))) := (Went.refl h).alloc _
theorem Went.trans {b j k : Nat} {s : ByteArray} {w w1 w2 : World} (h : Went b s j w w1) (h' : Went b s k w1 w2) : Went b s k w w2 := ⟨h'.1, h.2.trans h'.2⟩
theorem Sc.setv {w : World} {b i : Nat} {s : ByteArray} (h : Sc w b s i) (v : Int) (j : Nat) (hv : v = j) (hj : j ≤ s.size) : Sc (w.setCell ⟨b, 1, none⟩ (.int .i64 v)) b s j := by rw [hv]; exact h.set j hj
theorem Went.setv {b k : Nat} {s : ByteArray} {w w' : World} (h : Went b s k w w') (v : Int) (j : Nat) (hv : v = j) (hj : j ≤ s.size) : Went b s j w (w'.setCell ⟨b, 1, none⟩ (.int .i64 v)) := by rw [hv]; exact h.set j hj
theorem ofNat1 (i : Nat) : (i : Int) + 1 = ((i + 1 : Nat) : Int) := by omega
theorem take_c (s : ByteArray) (b i : Nat) (w : World) (h : Sc w b s i) (hi : i < s.size) :
    Calls Tryz.prog 185 #[.pointer (some ⟨b, 0, none⟩)] w fun e w' => e = .returned (.string (one s i)) ∧ Went b s (i + 1) w w' := by
  have HS : Hid (Sc w b s i) := h
  have h0 := h.c0
  have h1 := h.c1
  have hf := h.f1
  have hl := h.lt
  have hs := h.len
  clear h
  go_enter Tryz.func185, Tryz.ntmps185
  go_wp2
  go_quiet (fail)
  go_wp2
  go_ret
  refine ⟨rfl, ?_⟩
  rw [ofNat1]
  exact ((Went.refl HS.out).set (i + 1) (by omega)).drewN _
theorem passBlanks_c (s : ByteArray) (b i : Nat) (w : World) (h : Sc w b s i) :
    Calls Tryz.prog 176 #[.pointer (some ⟨b, 0, none⟩)] w fun e w' => e = .returned (.tuple #[]) ∧ Went b s (Sp.blk s i) w w' := by
  have HS : Hid (Sc w b s i) := h
  clear h
  go_enter Tryz.func176, Tryz.ntmps176
  go_wp2_with fail
  refine wp_scope_fwd (fun Q' hF => ?_)
  go_wp2_with fail
  go_loopg [] s.size (fun g wr => ∃ k : Nat, s.size ≤ k + g ∧ Aside (blkF s g k = Sp.blk s i ∧ Went b s k w wr))
  case atStart => exact ⟨i, by omega, rfl, Went.refl HS.out⟩
  case round =>
    obtain ⟨k, hk, hA⟩ := hrel
    have H1 : Hid (blkF s gk k = Sp.blk s i) := hA.out.1
    have H2 : Hid (Went b s k w wr) := hA.out.2
    clear hA
    have h0 := H2.out.1.c0
    have h1 := H2.out.1.c1
    have hf := H2.out.1.f1
    have hl := H2.out.1.lt
    have hs := H2.out.1.len
    cases hbl : blankI (pk s k)
    · have HV : Hid (Sp.blk s i = k) := by
        show Sp.blk s i = k
        rw [← H1.out]
        cases gk with
        | zero => rfl
        | succ f => unfold blkF; rw [if_neg (by simp [hbl])]
      go_wp2_with fail
      refine (peek_c s b k _ k _ H2.out.1 ⟨by omega, by omega, by omega⟩).mono ?_
      rintro e w1 ⟨rfl, n1, rfl⟩
      go_wp2_with fail
      refine (isBlank_c _ _).mono ?_
      rintro e w1 ⟨rfl, rfl⟩
      go_wp2_with fail
      go_step3
      refine hF.go 0 _ _ _ rfl ?_
      go_wp2
      simp only [Exit.noGoto]
      go_end0
      refine ⟨rfl, ?_⟩
      rw [HV.out]
      exact H2.out.drewN _
    · have hlt : k < s.size := pk_lt (blank_nn hbl)
      obtain ⟨f, rfl⟩ : ∃ f, gk = f + 1 := ⟨gk - 1, by omega⟩
      have HV : Hid (blkF s f (k + 1) = Sp.blk s i) := by
        have := H1.out
        unfold blkF at this
        rw [if_pos hbl] at this
        exact this
      go_wp2_with fail
      refine (peek_c s b k _ k _ H2.out.1 ⟨by omega, by omega, by omega⟩).mono ?_
      rintro e w1 ⟨rfl, n1, rfl⟩
      go_wp2_with fail
      refine (isBlank_c _ _).mono ?_
      rintro e w1 ⟨rfl, rfl⟩
      go_wp2_with fail
      go_roundg f
      case measure => omega
      case rel =>
        rw [ofNat1]
        exact ⟨k + 1, by omega, HV.out, (H2.out.drewN _).set (k + 1) (by omega)⟩
theorem escapedByte_in (s : ByteArray) (b i : Nat) (w : World) (h : Sc w b s i) (hlt : i < s.size) :
    Calls Tryz.prog 288 #[.pointer (some ⟨b, 0, none⟩)] w fun e w' => e = .returned (.string (one s i)) ∧ Went b s (i + 1) w w' := by
  have W : Hid (Went b s i w w) := Went.refl h
  clear h
  have hne : (pk s i == -1) = false := by have := pk_nn hlt; simp; omega
  go_enter Tryz.func288, Tryz.ntmps288
  go_wp2_with fail
  refine (peek_c s b (i) _ (i) _ (W.out.1) ⟨by omega, by omega, by omega⟩).mono ?_
  rintro e wq ⟨rfl, nq, rfl⟩
  go_wp2_with fail
  refine (take_c s b i _ (W.out.1.drewN _) hlt).mono ?_
  rintro e w1 ⟨rfl, hwent⟩
  have W1 : Hid (Went b s (i + 1) w w1) := (W.out.drewN _).trans hwent
  clear hwent
  go_wp2_with fail
  go_ret
  exact ⟨rfl, W1.out⟩
theorem escapedByte_out (s : ByteArray) (b i : Nat) (w : World) (h : Sc w b s i) (hlt : s.size ≤ i) :
    Calls Tryz.prog 288 #[.pointer (some ⟨b, 0, none⟩)] w fun e w' => e = .returned (.string ques) ∧ Went b s i w w' := by
  have W : Hid (Went b s i w w) := Went.refl h
  clear h
  have hne : (pk s i == -1) = true := by rw [pk_out hlt]; rfl
  go_enter Tryz.func288, Tryz.ntmps288
  go_wp2_with fail
  refine (peek_c s b (i) _ (i) _ (W.out.1) ⟨by omega, by omega, by omega⟩).mono ?_
  rintro e wq ⟨rfl, nq, rfl⟩
  go_wp2_with fail
  go_ret
  exact ⟨rfl, W.out.drewN _⟩
theorem conv1 (n m : Nat) (hn : n ≤ 255) (W : World) (hW : W.heap.size = m) :
    (convert 145 9 (.slice (some ⟨m, 0, none⟩) 1 1)).run Tryz.prog (W.alloc (.cells #[.int .u8 (n : Int)] 5)) = .ok (.string (byte1 n)) (W.alloc (.cells #[.int .u8 (n : Int)] 5)) := by
  subst hW
  refine run_convert_bytes_back (P := Tryz.prog) _ 145 9 5 _ 1 [UInt8.ofNat n] Tryz.underlying145 Tryz.underlying5 Tryz.underlying9 ?_
  intro j hj
  obtain rfl : j = 0 := by simpa using hj
  have e : ((⟨W.heap.size, 0, none⟩ : Addr).add 0) = ⟨W.heap.size, 0, none⟩ := rfl
  rw [e, World.cell?_alloc_mark]
  simp
  omega
theorem escape_c (s : ByteArray) (b i : Nat) (w : World) (h : Sc w b s i) (hi : i < s.size) :
    Calls Tryz.prog 239 #[.pointer (some ⟨b, 0, none⟩)] w fun e w' => e = .returned (.string (esc s i).1) ∧ Went b s (esc s i).2 w w' := by
  have W : Hid (Went b s i w w) := Went.refl h
  clear h
  have c00 := W.out.1.c0
  have c10 := W.out.1.c1
  have cf0 := W.out.1.f1
  have cl0 := W.out.1.lt
  have cs0 := W.out.1.len
  have ce0 := W.out.1.le
  go_enter Tryz.func239, Tryz.ntmps239
  go_wp2_with fail
  refine wp_scope_fwd (fun Q' hF => ?_)
  go_wp2_with fail
  go_loopg [3, 4] 6 (fun g n3 n4 wr => ∃ d n : Nat, d + g = 6 ∧ n < 16 ^ d ∧ n3 = .int .i64 (n : Int) ∧ n4 = .int .i64 (d : Int) ∧ Aside (hexF s g (i + 1 + d) n = hexF s 6 (i + 1) 0 ∧ Went b s (i + 1 + d) w wr))
  case atStart => exact ⟨0, 0, by omega, by decide, rfl, rfl, rfl, W.out.setv _ (i + 1) (by omega) (by omega)⟩
  case round =>
    obtain ⟨d, n, hd, hn, rfl, rfl, hA⟩ := hrel
    have H1 : Hid (hexF s gk (i + 1 + d) n = hexF s 6 (i + 1) 0) := hA.out.1
    have H2' : Hid (Went b s (i + 1 + d) w wr) := hA.out.2
    clear hA
    obtain ⟨k, HK⟩ : ∃ k, Hid (k = i + 1 + d) := ⟨_, rfl⟩
    have H2 : Hid (Went b s k w wr) := by show Went b s k w wr; rw [HK.out]; exact H2'.out
    clear H2'
    have c02 := H2.out.1.c0
    have c12 := H2.out.1.c1
    have cf2 := H2.out.1.f1
    have cl2 := H2.out.1.lt
    have cs2 := H2.out.1.len
    have ce2 := H2.out.1.le
    have hkd : i + 1 + d ≤ k := by have := HK.out; omega
    have hkd' : k ≤ i + 1 + d := by have := HK.out; omega
    have hnb : n < 16777216 := by
      have h1 : 16 ^ d ≤ 16 ^ 6 := Nat.pow_le_pow_right (by omega) (by omega)
      have h2 : (16 : Nat) ^ 6 = 16777216 := by decide
      omega
    have HP : Hid (n < 16 ^ d) := hn
    clear hn
    by_cases h6 : d < 6
    · have hlo := pk_lo s k
      have hhi := pk_hi s k
      have hxl := hex_lo (pk s k)
      have hxh := hex_hi (pk s k)
      obtain ⟨f, rfl⟩ : ∃ f, gk = f + 1 := ⟨gk - 1, by omega⟩
      by_cases hx : 0 ≤ hexI (pk s k)
      · have hlt : k < s.size := pk_lt (hex_nn hx)
        have HV : Hid (hexF s f (i + 1 + (d + 1)) (n * 16 + (hexI (pk s k)).toNat) = hexF s 6 (i + 1) 0) := by
          show _ = _
          rw [← H1.out]
          conv => rhs; unfold hexF
          have e := HK.out
          rw [← e, if_pos hx, e]
          rfl
        have HN : Hid (n * 16 + (hexI (pk s k)).toNat < 16 ^ (d + 1)) := by
          show _ < _
          rw [Nat.pow_succ]
          have := HP.out
          omega
        go_wp2_with fail
        refine (peek_c s b (k) _ (k) _ (H2.out.1) ⟨by omega, by omega, by omega⟩).mono ?_
        rintro e wq ⟨rfl, nq, rfl⟩
        go_wp2_with fail
        refine (hexValue_c _ _ (by omega) (by omega)).mono ?_
        rintro e wq ⟨rfl, rfl⟩
        go_wp2_with fail
        go_roundg f
        case measure => omega
        case rel => exact ⟨d + 1, n * 16 + (hexI (pk s k)).toNat, by omega, HN.out, by congr 1; omega, by congr 1, HV.out, (H2.out.drewN _).setv _ _ (by omega) (by omega)⟩
      · have hx' : hexI (pk s k) < 0 := by omega
        have HR : Hid (hexF s 6 (i + 1) 0 = (n, k)) := by
          show _ = _
          rw [← H1.out, ← HK.out]
          unfold hexF
          rw [if_neg hx]
        by_cases hd0 : d = 0
        · have hd0' : ((d : Int) == 0) = true := by simp [hd0]
          have HD : Hid (d = 0) := hd0
          clear hd0
          have hde : d ≤ 0 := by have := HD.out; omega
          go_wp2_with fail
          refine (peek_c s b (k) _ (k) _ (H2.out.1) ⟨by omega, by omega, by omega⟩).mono ?_
          rintro e wq ⟨rfl, nq, rfl⟩
          go_wp2_with fail
          refine (hexValue_c _ _ (by omega) (by omega)).mono ?_
          rintro e wq ⟨rfl, rfl⟩
          go_wp2_with fail
          go_step3
          refine hF.go 0 _ _ _ rfl ?_
          clear hF
          by_cases hks : k < s.size
          · have HV : Hid (esc s i = (one s k, k + 1)) := by
              show esc s i = _
              have e : k = i + 1 := by omega
              unfold esc; dsimp only; rw [HR.out, if_pos (by show k = i + 1; omega), ← e, if_pos hks, show i + 2 = k + 1 by omega]
            go_wp2_with fail
            refine (escapedByte_in s b k _ (H2.out.1.drewN _) hks).mono ?_
            rintro e w1 ⟨rfl, hwent⟩
            have W1 : Hid (Went b s (k + 1) w w1) := (H2.out.drewN _).trans hwent
            clear hwent
            go_wp2_with fail
            try rw [Exit.noGoto_ret]
            go_ret
            rw [HV.out]
            exact ⟨rfl, W1.out⟩
          · have HV : Hid (esc s i = (ques, k)) := by
              show esc s i = _
              have e : k = i + 1 := by omega
              unfold esc; dsimp only; rw [HR.out, if_pos (by show k = i + 1; omega), ← e, if_neg hks]
            go_wp2_with fail
            refine (escapedByte_out s b k _ (H2.out.1.drewN _) (by omega)).mono ?_
            rintro e w1 ⟨rfl, hwent⟩
            have W1 : Hid (Went b s (k) w w1) := (H2.out.drewN _).trans hwent
            clear hwent
            go_wp2_with fail
            try rw [Exit.noGoto_ret]
            go_ret
            rw [HV.out]
            exact ⟨rfl, W1.out⟩
        · have hd0' : ((d : Int) == 0) = false := by simp [hd0]
          have hdp : 0 < d := by omega
          clear hd0
          go_wp2_with fail
          refine (peek_c s b (k) _ (k) _ (H2.out.1) ⟨by omega, by omega, by omega⟩).mono ?_
          rintro e wq ⟨rfl, nq, rfl⟩
          go_wp2_with fail
          refine (hexValue_c _ _ (by omega) (by omega)).mono ?_
          rintro e wq ⟨rfl, rfl⟩
          go_wp2_with fail
          go_step3
          refine hF.go 0 _ _ _ rfl ?_
          clear hF
          cases hbl : blankI (pk s k)
          · by_cases hn1 : n < 1
            · have HV : Hid (esc s i = (ques, k)) := by
                show esc s i = _
                unfold esc; dsimp only; rw [HR.out]; dsimp only; rw [if_neg (by omega), if_neg (by omega), if_neg (by simp [hbl])]
              go_wp2_with fail
              refine (peek_c s b (k) _ (k) _ (H2.out.1.drewN _) ⟨by omega, by omega, by omega⟩).mono ?_
              rintro e wq ⟨rfl, nq, rfl⟩
              go_wp2_with fail
              refine (isBlank_c _ _).mono ?_
              rintro e wq ⟨rfl, rfl⟩
              go_wp2_with fail
              try rw [Exit.noGoto_ret]
              go_ret
              rw [HV.out]
              exact ⟨rfl, (H2.out.drewN _)⟩
            · by_cases hn2 : 255 < n
              · have HV : Hid (esc s i = (ques, k)) := by
                  show esc s i = _
                  unfold esc; dsimp only; rw [HR.out]; dsimp only; rw [if_neg (by omega), if_neg (by omega), if_neg (by simp [hbl])]
                go_wp2_with fail
                refine (peek_c s b (k) _ (k) _ (H2.out.1.drewN _) ⟨by omega, by omega, by omega⟩).mono ?_
                rintro e wq ⟨rfl, nq, rfl⟩
                go_wp2_with fail
                refine (isBlank_c _ _).mono ?_
                rintro e wq ⟨rfl, rfl⟩
                go_wp2_with fail
                try rw [Exit.noGoto_ret]
                go_ret
                rw [HV.out]
                exact ⟨rfl, (H2.out.drewN _)⟩
              · have hcv := conv1 n wr.heap.size (by omega)
                have hcv0 := fun q => conv1 n wr.heap.size (by omega) (wr.drewN q) rfl
                have HV : Hid (esc s i = (byte1 n, k)) := by
                  show esc s i = _
                  unfold esc; dsimp only; rw [HR.out]; dsimp only; rw [if_neg (by omega), if_pos ⟨by omega, by omega⟩, if_neg (by simp [hbl])]
                go_wp2_with fail
                refine (peek_c s b (k) _ (k) _ (H2.out.1.drewN _) ⟨by omega, by omega, by omega⟩).mono ?_
                rintro e wq ⟨rfl, nq, rfl⟩
                go_wp2_with fail
                refine (isBlank_c _ _).mono ?_
                rintro e wq ⟨rfl, rfl⟩
                go_wp2_with fail
                try rw [Exit.noGoto_ret]
                go_ret
                rw [HV.out]
                exact ⟨rfl, (H2.out.drewN _).alloc _⟩
          · by_cases hn1 : n < 1
            · have hlt : k < s.size := pk_lt (blank_nn hbl)
              have HV : Hid (esc s i = (ques, k + 1)) := by
                show esc s i = _
                unfold esc; dsimp only; rw [HR.out]; dsimp only; rw [if_neg (by omega), if_neg (by omega), if_pos hbl]
              go_wp2_with fail
              refine (peek_c s b (k) _ (k) _ (H2.out.1.drewN _) ⟨by omega, by omega, by omega⟩).mono ?_
              rintro e wq ⟨rfl, nq, rfl⟩
              go_wp2_with fail
              refine (isBlank_c _ _).mono ?_
              rintro e wq ⟨rfl, rfl⟩
              go_wp2_with fail
              try rw [Exit.noGoto_ret]
              go_ret
              rw [HV.out]
              exact ⟨rfl, ((H2.out.drewN _).setv _ (k + 1) (by omega) (by omega))⟩
            · by_cases hn2 : 255 < n
              · have hlt : k < s.size := pk_lt (blank_nn hbl)
                have HV : Hid (esc s i = (ques, k + 1)) := by
                  show esc s i = _
                  unfold esc; dsimp only; rw [HR.out]; dsimp only; rw [if_neg (by omega), if_neg (by omega), if_pos hbl]
                go_wp2_with fail
                refine (peek_c s b (k) _ (k) _ (H2.out.1.drewN _) ⟨by omega, by omega, by omega⟩).mono ?_
                rintro e wq ⟨rfl, nq, rfl⟩
                go_wp2_with fail
                refine (isBlank_c _ _).mono ?_
                rintro e wq ⟨rfl, rfl⟩
                go_wp2_with fail
                try rw [Exit.noGoto_ret]
                go_ret
                rw [HV.out]
                exact ⟨rfl, ((H2.out.drewN _).setv _ (k + 1) (by omega) (by omega))⟩
              · have hlt : k < s.size := pk_lt (blank_nn hbl)
                have hcv := conv1 n wr.heap.size (by omega)
                have hcv0 := fun q => conv1 n wr.heap.size (by omega) (wr.drewN q) rfl
                have HV : Hid (esc s i = (byte1 n, k + 1)) := by
                  show esc s i = _
                  unfold esc; dsimp only; rw [HR.out]; dsimp only; rw [if_neg (by omega), if_pos ⟨by omega, by omega⟩, if_pos hbl]
                go_wp2_with fail
                refine (peek_c s b (k) _ (k) _ (H2.out.1.drewN _) ⟨by omega, by omega, by omega⟩).mono ?_
                rintro e wq ⟨rfl, nq, rfl⟩
                go_wp2_with fail
                refine (isBlank_c _ _).mono ?_
                rintro e wq ⟨rfl, rfl⟩
                go_wp2_with fail
                try rw [Exit.noGoto_ret]
                go_ret
                rw [HV.out]
                exact ⟨rfl, ((H2.out.drewN _).setv _ (k + 1) (by omega) (by omega)).alloc _⟩
    · have hd0' : ((d : Int) == 0) = false := by simp; omega
      have HR : Hid (hexF s 6 (i + 1) 0 = (n, k)) := by
        show _ = _
        obtain rfl : gk = 0 := by omega
        rw [← H1.out, ← HK.out]
        rfl
      go_wp2_with fail
      go_step3
      cases hbl : blankI (pk s k)
      · by_cases hn1 : n < 1
        · have HV : Hid (esc s i = (ques, k)) := by
            show esc s i = _
            unfold esc; dsimp only; rw [HR.out]; dsimp only; rw [if_neg (by omega), if_neg (by omega), if_neg (by simp [hbl])]
          go_wp2_with fail
          refine (peek_c s b (k) _ (k) _ (H2.out.1) ⟨by omega, by omega, by omega⟩).mono ?_
          rintro e wq ⟨rfl, nq, rfl⟩
          go_wp2_with fail
          refine (isBlank_c _ _).mono ?_
          rintro e wq ⟨rfl, rfl⟩
          go_wp2_with fail
          refine hF.ret _ _ ?_
          go_ret
          rw [HV.out]
          exact ⟨rfl, (H2.out.drewN _)⟩
        · by_cases hn2 : 255 < n
          · have HV : Hid (esc s i = (ques, k)) := by
              show esc s i = _
              unfold esc; dsimp only; rw [HR.out]; dsimp only; rw [if_neg (by omega), if_neg (by omega), if_neg (by simp [hbl])]
            go_wp2_with fail
            refine (peek_c s b (k) _ (k) _ (H2.out.1) ⟨by omega, by omega, by omega⟩).mono ?_
            rintro e wq ⟨rfl, nq, rfl⟩
            go_wp2_with fail
            refine (isBlank_c _ _).mono ?_
            rintro e wq ⟨rfl, rfl⟩
            go_wp2_with fail
            refine hF.ret _ _ ?_
            go_ret
            rw [HV.out]
            exact ⟨rfl, (H2.out.drewN _)⟩
          · have hcv := conv1 n wr.heap.size (by omega)
            have hcv0 := fun q => conv1 n wr.heap.size (by omega) (wr.drewN q) rfl
            have HV : Hid (esc s i = (byte1 n, k)) := by
              show esc s i = _
              unfold esc; dsimp only; rw [HR.out]; dsimp only; rw [if_neg (by omega), if_pos ⟨by omega, by omega⟩, if_neg (by simp [hbl])]
            go_wp2_with fail
            refine (peek_c s b (k) _ (k) _ (H2.out.1) ⟨by omega, by omega, by omega⟩).mono ?_
            rintro e wq ⟨rfl, nq, rfl⟩
            go_wp2_with fail
            refine (isBlank_c _ _).mono ?_
            rintro e wq ⟨rfl, rfl⟩
            go_wp2_with fail
            refine hF.ret _ _ ?_
            go_ret
            rw [HV.out]
            exact ⟨rfl, (H2.out.drewN _).alloc _⟩
      · by_cases hn1 : n < 1
        · have hlt : k < s.size := pk_lt (blank_nn hbl)
          have HV : Hid (esc s i = (ques, k + 1)) := by
            show esc s i = _
            unfold esc; dsimp only; rw [HR.out]; dsimp only; rw [if_neg (by omega), if_neg (by omega), if_pos hbl]
          go_wp2_with fail
          refine (peek_c s b (k) _ (k) _ (H2.out.1) ⟨by omega, by omega, by omega⟩).mono ?_
          rintro e wq ⟨rfl, nq, rfl⟩
          go_wp2_with fail
          refine (isBlank_c _ _).mono ?_
          rintro e wq ⟨rfl, rfl⟩
          go_wp2_with fail
          refine hF.ret _ _ ?_
          go_ret
          rw [HV.out]
          exact ⟨rfl, ((H2.out.drewN _).setv _ (k + 1) (by omega) (by omega))⟩
        · by_cases hn2 : 255 < n
          · have hlt : k < s.size := pk_lt (blank_nn hbl)
            have HV : Hid (esc s i = (ques, k + 1)) := by
              show esc s i = _
              unfold esc; dsimp only; rw [HR.out]; dsimp only; rw [if_neg (by omega), if_neg (by omega), if_pos hbl]
            go_wp2_with fail
            refine (peek_c s b (k) _ (k) _ (H2.out.1) ⟨by omega, by omega, by omega⟩).mono ?_
            rintro e wq ⟨rfl, nq, rfl⟩
            go_wp2_with fail
            refine (isBlank_c _ _).mono ?_
            rintro e wq ⟨rfl, rfl⟩
            go_wp2_with fail
            refine hF.ret _ _ ?_
            go_ret
            rw [HV.out]
            exact ⟨rfl, ((H2.out.drewN _).setv _ (k + 1) (by omega) (by omega))⟩
          · have hlt : k < s.size := pk_lt (blank_nn hbl)
            have hcv := conv1 n wr.heap.size (by omega)
            have hcv0 := fun q => conv1 n wr.heap.size (by omega) (wr.drewN q) rfl
            have HV : Hid (esc s i = (byte1 n, k + 1)) := by
              show esc s i = _
              unfold esc; dsimp only; rw [HR.out]; dsimp only; rw [if_neg (by omega), if_pos ⟨by omega, by omega⟩, if_pos hbl]
            go_wp2_with fail
            refine (peek_c s b (k) _ (k) _ (H2.out.1) ⟨by omega, by omega, by omega⟩).mono ?_
            rintro e wq ⟨rfl, nq, rfl⟩
            go_wp2_with fail
            refine (isBlank_c _ _).mono ?_
            rintro e wq ⟨rfl, rfl⟩
            go_wp2_with fail
            refine hF.ret _ _ ?_
            go_ret
            rw [HV.out]
            exact ⟨rfl, ((H2.out.drewN _).setv _ (k + 1) (by omega) (by omega)).alloc _⟩
theorem slice1 (s : ByteArray) (k : Nat) (h : k < s.size) (w : World) : (Instr.slice 9 (.string s) (some (.int .i64 (k : Int))) (some (.int .i64 ((k : Int) + 1))) none).run Tryz.prog w = .ok (.string (one s k)) w := by
  rw [run_slice_string_if w 9 s .i64 .i64 _ _ Tryz.underlying9, if_pos ⟨by omega, by omega⟩, if_pos ⟨by omega, by omega⟩]
  congr 3
def wlI (c : Int) : Bool := (decide (97 ≤ c) && decide (c ≤ 122)) || (decide (65 ≤ c) && decide (c ≤ 90))
def wdI (c : Int) : Bool := decide (48 ≤ c) && decide (c ≤ 57)
def wtI (c : Int) : Bool := decide (32 ≤ c) && decide (c ≤ 126) && !(c == 34 || c == 92 || c == 60 || c == 62)
def wkI (c : Int) : Bool := wlI c || wdI c || c == 46 || c == 47 || c == 58 || c == 45
theorem byteI (c : UInt8) (n : Nat) (hn : n < 256) : (c == UInt8.ofNat n) = ((c.toNat : Int) == (n : Int)) := by
  rw [Bool.eq_iff_iff]
  simp
  constructor
  · rintro rfl; simp; omega
  · intro h
    apply UInt8.toNat_inj.1
    have : c.toNat = n := by omega
    rw [this]; simp; omega
theorem wlI_b (c : UInt8) : wlI (c.toNat : Int) = plainL c := by
  unfold wlI plainL
  rw [Bool.eq_iff_iff]; simp; omega
theorem wdI_b (c : UInt8) : wdI (c.toNat : Int) = plainD c := by
  unfold wdI plainD
  rw [Bool.eq_iff_iff]; simp; omega
theorem wtI_b (c : UInt8) : wtI (c.toNat : Int) = plainT c := by
  unfold wtI plainT
  rw [show (c == 34) = ((c.toNat : Int) == 34) from byteI c 34 (by omega), show (c == 92) = ((c.toNat : Int) == 92) from byteI c 92 (by omega), show (c == 60) = ((c.toNat : Int) == 60) from byteI c 60 (by omega), show (c == 62) = ((c.toNat : Int) == 62) from byteI c 62 (by omega)]
  rw [Bool.eq_iff_iff]; simp; omega
theorem wkI_b (c : UInt8) : wkI (c.toNat : Int) = plainK c := by
  unfold wkI plainK
  rw [wlI_b, wdI_b, show (c == 46) = ((c.toNat : Int) == 46) from byteI c 46 (by omega), show (c == 47) = ((c.toNat : Int) == 47) from byteI c 47 (by omega), show (c == 58) = ((c.toNat : Int) == 58) from byteI c 58 (by omega), show (c == 45) = ((c.toNat : Int) == 45) from byteI c 45 (by omega)]
theorem wLetter_c (c : Int) (w : World) : Calls Tryz.prog 294 #[.int .u8 c] w fun e w' => e = .returned (.bool (wlI c)) ∧ w' = w := by
  go_enter Tryz.func294, Tryz.ntmps294
  go_wp2
  all_goals
    go_ret
    exact ⟨rbool (by rw [Bool.eq_iff_iff]; simp [wlI, *] <;> omega), rfl⟩
theorem wDigit_c (c : Int) (w : World) : Calls Tryz.prog 295 #[.int .u8 c] w fun e w' => e = .returned (.bool (wdI c)) ∧ w' = w := by
  go_enter Tryz.func295, Tryz.ntmps295
  go_wp2
  all_goals
    go_ret
    exact ⟨rbool (by rw [Bool.eq_iff_iff]; simp [wdI, *] <;> omega), rfl⟩
theorem plainText_c (c : Int) (w : World) : Calls Tryz.prog 278 #[.int .u8 c] w fun e w' => e = .returned (.bool (wtI c)) ∧ w' = w := by
  go_enter Tryz.func278, Tryz.ntmps278
  go_wp2
  all_goals
    go_ret
    exact ⟨rbool (by rw [Bool.eq_iff_iff]; simp [wtI, *] <;> omega), rfl⟩
theorem plainLink_c (c : Int) (w : World) : Calls Tryz.prog 281 #[.int .u8 c] w fun e w' => e = .returned (.bool (wkI c)) ∧ w' = w := by
  cases h1 : wlI c <;> cases h2 : wdI c
  all_goals
    go_enter Tryz.func281, Tryz.ntmps281
    go_wp2_with (first | (go_at_call 294; refine (wLetter_c _ _).mono ?_; rintro e w' ⟨rfl, rfl⟩) | (go_at_call 295; refine (wDigit_c _ _).mono ?_; rintro e w' ⟨rfl, rfl⟩))
    all_goals
      go_ret
      exact ⟨rbool (by rw [Bool.eq_iff_iff]; simp [wkI, *]), rfl⟩
def hexT : ByteArray := ⟨#[48, 49, 50, 51, 52, 53, 54, 55, 56, 57, 97, 98, 99, 100, 101, 102]⟩
theorem hex_one : ∀ n : Nat, n < 16 → hexT.extract n (n + 1) = b1 (hexD n) := by decide
theorem slice_hex (n : Nat) (h : n < 16) (w : World) : (Instr.slice 9 (.string ⟨#[48, 49, 50, 51, 52, 53, 54, 55, 56, 57, 97, 98, 99, 100, 101, 102]⟩) (some (.int .u8 (n : Int))) (some (.int .u8 ((n : Int) + 1))) none).run Tryz.prog w = .ok (.string (b1 (hexD n))) w := by
  rw [run_slice_string_if w 9 _ .u8 .u8 _ _ Tryz.underlying9, if_pos ⟨by omega, by show (n : Int) + 1 ≤ ((16 : Nat) : Int); omega⟩, if_pos ⟨by omega, by omega⟩]
  have := hex_one n h
  unfold hexT at this
  rw [show ((n : Int) + 1).toNat = n + 1 by omega, show ((n : Int)).toNat = n by omega, this]
theorem row4 (w : World) (a b c d : ByteArray) : (w.alloc (.cells #[.string a, .string b, .string c, .string d] 9)).ownsRow w.heap.size 9 1 (.slice (some ⟨w.heap.size, 0, none⟩) 4 4) 4 ([a, b, c, d].map Value.string) :=
  ⟨rfl, .inr ⟨w.heap.size, 4, _, rfl, Nat.le_refl _, heap_alloc_new w _, Nat.le_refl _, by unfold maxLen; omega, rfl, rfl⟩⟩
theorem row3 (w : World) (a b c : ByteArray) : (w.alloc (.cells #[.string a, .string b, .string c] 9)).ownsRow w.heap.size 9 1 (.slice (some ⟨w.heap.size, 0, none⟩) 3 3) 3 ([a, b, c].map Value.string) :=
  ⟨rfl, .inr ⟨w.heap.size, 3, _, rfl, Nat.le_refl _, heap_alloc_new w _, Nat.le_refl _, by unfold maxLen; omega, rfl, rfl⟩⟩
theorem row5 (w : World) (a b c d e : ByteArray) : (w.alloc (.cells #[.string a, .string b, .string c, .string d, .string e] 9)).ownsRow w.heap.size 9 1 (.slice (some ⟨w.heap.size, 0, none⟩) 5 5) 5 ([a, b, c, d, e].map Value.string) :=
  ⟨rfl, .inr ⟨w.heap.size, 5, _, rfl, Nat.le_refl _, heap_alloc_new w _, Nat.le_refl _, by unfold maxLen; omega, rfl, rfl⟩⟩
theorem wrap_u8s (n : Nat) (h : n < 16) : IntKind.u8.wrap ((n : Int) + 1) = (n : Int) + 1 := by rw [IntKind.wrap_u8]; omega
theorem wEscape_c (c : UInt8) (w : World) : Calls Tryz.prog 293 #[.int .u8 (c.toNat : Int)] w fun e w' => e = .returned (.string (escO c)) ∧ Below w.heap.size w w' := by
  have hc : c.toNat < 256 := c.toNat_lt
  obtain ⟨h, Hh⟩ : ∃ h, Hid (c.toNat / 16 = h) := ⟨_, hid rfl⟩
  obtain ⟨l, Hl⟩ : ∃ l, Hid (c.toNat % 16 = l) := ⟨_, hid rfl⟩
  have hh : h < 16 := by have := Hh.out; omega
  have hl : l < 16 := by have := Hl.out; omega
  have HE : Hid (escO c = joinB [⟨#[92]⟩, b1 (hexD h), b1 (hexD l), ⟨#[32]⟩]) := by show _ = _; unfold escO; rw [Hh.out, Hl.out]; rfl
  have e1 : IntKind.u8.wrap ((c.toNat : Int) / 16) = (h : Int) := by have := Hh.out; rw [IntKind.wrap_u8]; omega
  have e2 : IntKind.u8.wrap ((c.toNat : Int) % 16) = (l : Int) := by have := Hl.out; rw [IntKind.wrap_u8]; omega
  have e3 : ((c.toNat : Int) / 16) = (h : Int) := by have := Hh.out; omega
  have e4 : ((c.toNat : Int) % 16) = (l : Int) := by have := Hl.out; omega
  have e5 := wrap_u8s h hh
  have e6 := wrap_u8s l hl
  have s1 := slice_hex h hh
  have s2 := slice_hex l hl
  go_enter Tryz.func293, Tryz.ntmps293
  go_wp2_with fail
  refine wp_region_any (by kernel_rfl) ?_
  change wpAny _ _ _ _ _ _ _ (World.drew _)
  refine tkA 0 ?_
  refine tkA 1 ?_
  refine tkA 2 ?_
  refine tkA 3 ?_
  refine tkA 4 ?_
  refine tkA 5 ?_
  refine tkA 6 ?_
  refine tkA 7 ?_
  refine brA 8 fun K hK => ?_
  go_simp
  refine hK _ _ ?_; clear hK K
  refine brA 9 fun K hK => ?_
  go_simp
  have B1 : Hid (Below w.heap.size w ((w.alloc (.cells #[.string ⟨#[92]⟩, .string (b1 (hexD h)), .string (b1 (hexD l)), .string ⟨#[32]⟩] 9)).drew)) := ((Below.refl _ _).alloc (Nat.le_refl _) _).drew
  have R1 : Hid (World.ownsRow ((w.alloc (.cells #[.string ⟨#[92]⟩, .string (b1 (hexD h)), .string (b1 (hexD l)), .string ⟨#[32]⟩] 9)).drew) w.heap.size 9 1 (.slice (some ⟨w.heap.size, 0, none⟩) 4 4) 4 ([⟨#[92]⟩, b1 (hexD h), b1 (hexD l), ⟨#[32]⟩].map Value.string)) := row4 w ⟨#[92]⟩ (b1 (hexD h)) (b1 (hexD l)) ⟨#[32]⟩
  generalize (w.alloc (.cells #[.string ⟨#[92]⟩, .string (b1 (hexD h)), .string (b1 (hexD l)), .string ⟨#[32]⟩] 9)).drew = w2 at *
  have hs2 := B1.out.size
  refine (Join_c [⟨#[92]⟩, b1 (hexD h), b1 (hexD l), ⟨#[32]⟩] w.heap.size _ _ R1.out (by simp) (by show 1 + (1 + (1 + (1 + 0))) ≤ _; omega)).mono ?_
  rw [← HE.out]
  rintro e w5 ⟨rfl, hb5⟩
  have B5 : Hid (Below w.heap.size w w5) := B1.out.trans (hb5.mono hs2)
  clear hb5
  refine hK _ _ ?_; clear hK K
  refine brA 10 fun K hK => ?_
  go_simp
  refine hK _ _ ?_; clear hK K
  refine wpAny_done (by kernel_rfl) ?_ _
  go_wp2_with fail
  go_ret
  exact ⟨rfl, B5.out⟩
end Go.Proofs.YtlliliddljkbfaaGreat
