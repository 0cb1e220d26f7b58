import Derived.Test.YtlliliddljkbfaaGreatC9
import Derived.Deep.RegionHeld3
namespace Go.Proofs.YtlliliddljkbfaaGreat
set_option maxHeartbeats 64000000
set_option maxRecDepth 100000
open Go.RowKit Sp
section
attribute [local go_sem] fld_tok fld_ins fld_kind fld_word
theorem new_below (w : World) (o : Obj) : Below w.heap.size w (w.alloc o) := (Below.refl _ _).alloc (Nat.le_refl _) _
theorem wBlank_c (t : Tok) (ka : Option Addr) (kl kc : Nat) (w : World) :
    Calls Tryz.prog 163 #[nodV t (.slice ka kl kc)] w fun e w' => e = .returned (.bool (decide (t.kind = 1))) ∧ Below w.heap.size w w' := by
  unfold nodV
  have A2 : Hid (VB (w.alloc (.cells #[.int .i64 t.kind, .string t.word, .string t.unit, .slice ka kl kc] 199)) w.heap.size (.int .i64 t.kind) (.string t.word) (.string t.unit) (.slice ka kl kc)) := VB.new _ _ _ _ _
  have B2 : Hid (Below w.heap.size w (w.alloc (.cells #[.int .i64 t.kind, .string t.word, .string t.unit, .slice ka kl kc] 199))) := new_below _ _
  obtain ⟨a0, a1, a2, a3⟩ := A2.out.cs
  have HV : Hid ((t.kind == 1) = decide (t.kind = 1)) := by show _ = _; rw [Bool.eq_iff_iff]; simp
  go_enter Tryz.func163, Tryz.ntmps163
  go_wp2_with fail
  go_ret
  exact ⟨rbool HV.out, B2.out⟩
def markT (t : Tok) : Bool := decide (t.kind = 15) && softW t.word
theorem isMark_c (t : Tok) (ka : Option Addr) (kl kc : Nat) (w : World) :
    Calls Tryz.prog 228 #[nodV t (.slice ka kl kc)] w fun e w' => e = .returned (.bool (markT t)) ∧ Below w.heap.size w w' := by
  unfold nodV
  have A2 : Hid (VB (w.alloc (.cells #[.int .i64 t.kind, .string t.word, .string t.unit, .slice ka kl kc] 199)) w.heap.size (.int .i64 t.kind) (.string t.word) (.string t.unit) (.slice ka kl kc)) := VB.new _ _ _ _ _
  have B2 : Hid (Below w.heap.size w (w.alloc (.cells #[.int .i64 t.kind, .string t.word, .string t.unit, .slice ka kl kc] 199))) := new_below _ _
  obtain ⟨a0, a1, a2, a3⟩ := A2.out.cs
  have HM : Hid (markT t = (decide (t.kind = 15) && (decide (t.word = b1 44) || decide (t.word = b1 58) || decide (t.word = b1 59) || decide (t.word = b1 41) || decide (t.word = b1 93) || decide (t.word = b1 125)))) := rfl
  have e1 : (t.word.toList == [44]) = decide (t.word = b1 44) := bytes_lit _ _
  have e2 : (t.word.toList == [58]) = decide (t.word = b1 58) := bytes_lit _ _
  have e3 : (t.word.toList == [59]) = decide (t.word = b1 59) := bytes_lit _ _
  have e4 : (t.word.toList == [41]) = decide (t.word = b1 41) := bytes_lit _ _
  have e5 : (t.word.toList == [93]) = decide (t.word = b1 93) := bytes_lit _ _
  have e6 : (t.word.toList == [125]) = decide (t.word = b1 125) := bytes_lit _ _
  cases hk : (t.kind == 15)
  · have hk' : ¬ t.kind = 15 := by simpa using hk
    have HV : Hid (markT t = false) := by show _ = _; rw [HM.out, decide_eq_false hk']; rfl
    clear hk'
    go_enter Tryz.func228, Tryz.ntmps228
    go_wp2_with fail
    go_ret
    exact ⟨rbool HV.out.symm, B2.out⟩
  · have hk' : t.kind = 15 := by simpa using hk
    have HV : Hid (markT t = (decide (t.word = b1 44) || decide (t.word = b1 58) || decide (t.word = b1 59) || decide (t.word = b1 41) || decide (t.word = b1 93) || decide (t.word = b1 125))) := by show _ = _; rw [HM.out, decide_eq_true hk']; rfl
    clear hk' HM
    generalize decide (t.word = b1 44) = x1 at *
    generalize decide (t.word = b1 58) = x2 at *
    generalize decide (t.word = b1 59) = x3 at *
    generalize decide (t.word = b1 41) = x4 at *
    generalize decide (t.word = b1 93) = x5 at *
    generalize decide (t.word = b1 125) = x6 at *
    cases x1
    · cases x2
      · cases x3
        · cases x4
          · cases x5
            · cases x6
              · go_enter Tryz.func228, Tryz.ntmps228
                go_wp2_with fail
                go_ret
                exact ⟨rbool HV.out.symm, B2.out⟩
              · go_enter Tryz.func228, Tryz.ntmps228
                go_wp2_with fail
                go_ret
                exact ⟨rbool HV.out.symm, B2.out⟩
            · go_enter Tryz.func228, Tryz.ntmps228
              go_wp2_with fail
              go_ret
              exact ⟨rbool HV.out.symm, B2.out⟩
          · go_enter Tryz.func228, Tryz.ntmps228
            go_wp2_with fail
            go_ret
            exact ⟨rbool HV.out.symm, B2.out⟩
        · go_enter Tryz.func228, Tryz.ntmps228
          go_wp2_with fail
          go_ret
          exact ⟨rbool HV.out.symm, B2.out⟩
      · go_enter Tryz.func228, Tryz.ntmps228
        go_wp2_with fail
        go_ret
        exact ⟨rbool HV.out.symm, B2.out⟩
    · go_enter Tryz.func228, Tryz.ntmps228
      go_wp2_with fail
      go_ret
      exact ⟨rbool HV.out.symm, B2.out⟩
def endsT (t : Tok) : Bool := decide (t.kind = 1) || !decide (closing t = nob) || markT t
def begsT (t : Tok) : Bool := decide (t.kind = 1) || signT t (b1 91) || signT t (b1 123) || markT t
theorem parts_eq (a b : Tok) : parts a b = (!endsT a && !begsT b) := by
  unfold parts endsT begsT
  rw [show softT a = (decide (a.kind = 1) || markT a) from rfl, show softT b = (decide (b.kind = 1) || markT b) from rfl]
  cases decide (a.kind = 1) <;> cases decide (b.kind = 1) <;> cases markT a <;> cases markT b <;> cases decide (closing a = nob) <;> cases signT b (b1 91) <;> cases signT b (b1 123) <;> rfl
theorem endsAlone_c (t : Tok) (ka : Option Addr) (kl kc : Nat) (w : World) :
    Calls Tryz.prog 164 #[nodV t (.slice ka kl kc)] w fun e w' => e = .returned (.bool (endsT t)) ∧ Below w.heap.size w w' := by
  have hu : nodV t (.slice ka kl kc) = .agg #[.int .i64 t.kind, .string t.word, .string t.unit, .slice ka kl kc] := rfl
  rw [hu]
  have A2 : Hid (VB (w.alloc (.cells #[.int .i64 t.kind, .string t.word, .string t.unit, .slice ka kl kc] 199)) w.heap.size (.int .i64 t.kind) (.string t.word) (.string t.unit) (.slice ka kl kc)) := VB.new _ _ _ _ _
  have B2 : Hid (Below w.heap.size w (w.alloc (.cells #[.int .i64 t.kind, .string t.word, .string t.unit, .slice ka kl kc] 199))) := new_below _ _
  obtain ⟨a0, a1, a2, a3⟩ := A2.out.cs
  obtain ⟨x1, H1⟩ : ∃ x, Hid (decide (t.kind = 1) = x) := ⟨_, hid rfl⟩
  obtain ⟨x2, H2⟩ : ∃ x, Hid (decide (closing t = nob) = x) := ⟨_, hid rfl⟩
  have HE : Hid (endsT t = (x1 || !x2 || markT t)) := by show _ = _; unfold endsT; rw [H1.out, H2.out]
  go_enter Tryz.func164, Tryz.ntmps164
  go_wp2_with fail
  generalize w.alloc (.cells #[.int .i64 t.kind, .string t.word, .string t.unit, .slice ka kl kc] 199) = w2 at *
  refine (wBlank_c t ka kl kc _).mono ?_
  rw [H1.out]
  rintro e w3 ⟨rfl, hb3⟩
  have B3 : Hid (Below w.heap.size w w3) := B2.out.trans (hb3.mono B2.out.size)
  have A3 : Hid (VB w3 w.heap.size (.int .i64 t.kind) (.string t.word) (.string t.unit) (.slice ka kl kc)) := A2.out.below hb3
  clear hb3 a0 a1 a2 a3
  obtain ⟨a0, a1, a2, a3⟩ := A3.out.cs
  cases x1
  · go_wp2_with fail
    refine (Closer_c t _).mono ?_
    rintro e w4 ⟨rfl, hb4⟩
    have B4 : Hid (Below w.heap.size w w4) := B3.out.trans (hb4.mono B3.out.size)
    have A4 : Hid (VB w4 w.heap.size (.int .i64 t.kind) (.string t.word) (.string t.unit) (.slice ka kl kc)) := A3.out.below hb4
    clear hb4 a0 a1 a2 a3
    obtain ⟨a0, a1, a2, a3⟩ := A4.out.cs
    have e1 : ((closing t).toList == []) = x2 := by rw [← H2.out]; exact bytes_lit _ _
    by_cases he : (closing t).toList = []
    · have HV : Hid (endsT t = markT t) := by show _ = _; rw [HE.out, ← e1, he]; rfl
      clear e1
      go_wp2_with fail
      refine (isMark_c t ka kl kc _).mono ?_
      rintro e w5 ⟨rfl, hb5⟩
      have B5 : Hid (Below w.heap.size w w5) := B4.out.trans (hb5.mono B4.out.size)
      clear hb5
      go_wp2_with fail
      go_ret
      exact ⟨rbool HV.out.symm, B5.out⟩
    · have HV : Hid (endsT t = true) := by show _ = _; rw [HE.out, ← e1, show ((closing t).toList == []) = false from by cases hq : (closing t).toList with | nil => exact absurd hq he | cons _ _ => rfl]; rfl
      clear e1
      go_wp2_with fail
      go_ret
      exact ⟨rbool HV.out.symm, B4.out⟩
  · have HV : Hid (endsT t = true) := HE.out
    go_wp2_with fail
    go_ret
    exact ⟨rbool HV.out.symm, B3.out⟩
theorem beginsAlone_c (t : Tok) (ka : Option Addr) (kl kc : Nat) (w : World) :
    Calls Tryz.prog 165 #[nodV t (.slice ka kl kc)] w fun e w' => e = .returned (.bool (begsT t)) ∧ Below w.heap.size w w' := by
  have hu : nodV t (.slice ka kl kc) = .agg #[.int .i64 t.kind, .string t.word, .string t.unit, .slice ka kl kc] := rfl
  rw [hu]
  have A2 : Hid (VB (w.alloc (.cells #[.int .i64 t.kind, .string t.word, .string t.unit, .slice ka kl kc] 199)) w.heap.size (.int .i64 t.kind) (.string t.word) (.string t.unit) (.slice ka kl kc)) := VB.new _ _ _ _ _
  have B2 : Hid (Below w.heap.size w (w.alloc (.cells #[.int .i64 t.kind, .string t.word, .string t.unit, .slice ka kl kc] 199))) := new_below _ _
  obtain ⟨a0, a1, a2, a3⟩ := A2.out.cs
  obtain ⟨x1, H1⟩ : ∃ x, Hid (decide (t.kind = 1) = x) := ⟨_, hid rfl⟩
  obtain ⟨x2, H2⟩ : ∃ x, Hid (signT t (b1 91) = x) := ⟨_, hid rfl⟩
  obtain ⟨x3, H3⟩ : ∃ x, Hid (signT t (b1 123) = x) := ⟨_, hid rfl⟩
  have HE : Hid (begsT t = (x1 || x2 || x3 || markT t)) := by show _ = _; unfold begsT; rw [H1.out, H2.out, H3.out]
  go_enter Tryz.func165, Tryz.ntmps165
  go_wp2_with fail
  generalize w.alloc (.cells #[.int .i64 t.kind, .string t.word, .string t.unit, .slice ka kl kc] 199) = w2 at *
  refine (wBlank_c t ka kl kc _).mono ?_
  rw [H1.out]
  rintro e w3 ⟨rfl, hb3⟩
  have B3 : Hid (Below w.heap.size w w3) := B2.out.trans (hb3.mono B2.out.size)
  have A3 : Hid (VB w3 w.heap.size (.int .i64 t.kind) (.string t.word) (.string t.unit) (.slice ka kl kc)) := A2.out.below hb3
  clear hb3 a0 a1 a2 a3
  obtain ⟨a0, a1, a2, a3⟩ := A3.out.cs
  cases x1
  · go_wp2_with fail
    refine (IsSign_c t _ (b1 91) _).mono ?_
    rw [H2.out]
    rintro e w4 ⟨rfl, hb4⟩
    have B4 : Hid (Below w.heap.size w w4) := B3.out.trans (hb4.mono B3.out.size)
    have A4 : Hid (VB w4 w.heap.size (.int .i64 t.kind) (.string t.word) (.string t.unit) (.slice ka kl kc)) := A3.out.below hb4
    clear hb4 a0 a1 a2 a3
    obtain ⟨a0, a1, a2, a3⟩ := A4.out.cs
    cases x2
    · go_wp2_with fail
      refine (IsSign_c t _ (b1 123) _).mono ?_
      rw [H3.out]
      rintro e w5 ⟨rfl, hb5⟩
      have B5 : Hid (Below w.heap.size w w5) := B4.out.trans (hb5.mono B4.out.size)
      have A5 : Hid (VB w5 w.heap.size (.int .i64 t.kind) (.string t.word) (.string t.unit) (.slice ka kl kc)) := A4.out.below hb5
      clear hb5 a0 a1 a2 a3
      obtain ⟨a0, a1, a2, a3⟩ := A5.out.cs
      cases x3
      · have HV : Hid (begsT t = markT t) := HE.out
        go_wp2_with fail
        refine (isMark_c t ka kl kc _).mono ?_
        rintro e w6 ⟨rfl, hb6⟩
        have B6 : Hid (Below w.heap.size w w6) := B5.out.trans (hb6.mono B5.out.size)
        clear hb6
        go_wp2_with fail
        go_ret
        exact ⟨rbool HV.out.symm, B6.out⟩
      · have HV : Hid (begsT t = true) := HE.out
        go_wp2_with fail
        go_ret
        exact ⟨rbool HV.out.symm, B5.out⟩
    · have HV : Hid (begsT t = true) := HE.out
      go_wp2_with fail
      go_ret
      exact ⟨rbool HV.out.symm, B4.out⟩
  · have HV : Hid (begsT t = true) := HE.out
    go_wp2_with fail
    go_ret
    exact ⟨rbool HV.out.symm, B3.out⟩
end
section
attribute [local go_sem] fld_tok fld_ins fld_kind fld_word
theorem rw2 (w : World) (a b : ByteArray) : (w.alloc (.cells #[.string a, .string b] 9)).ownsRow w.heap.size 9 1 (.slice (some ⟨w.heap.size, 0, none⟩) 2 2) 2 ([a, b].map Value.string) :=
  ⟨rfl, .inr ⟨w.heap.size, 2, _, rfl, Nat.le_refl _, heap_alloc_new w _, Nat.le_refl _, by unfold maxLen; omega, rfl, rfl⟩⟩
theorem retS {a b : ByteArray} (h : a = b) : Ending.returned (.string a) = Ending.returned (.string b) := by rw [h]
theorem new_drew (w : World) (o : Obj) : Below w.heap.size w ((w.alloc o).drew) := ((Below.refl _ _).alloc (Nat.le_refl _) _).drew
theorem VB.drew {w : World} {b : Nat} {x0 x1 x2 x3 : Value} (h : VB w b x0 x1 x2 x3) : VB w.drew b x0 x1 x2 x3 := h
section
variable (wd un : ByteArray) (ka : Option Addr) (kl kc : Nat) (w : World)
theorem val_1 : Calls Tryz.prog 166 #[.agg #[.int .i64 1, .string wd, .string un, .slice ka kl kc]] w fun e w' => e = .returned (.string (b1 32)) ∧ Below w.heap.size w w' := by
  have B2 : Hid (Below w.heap.size w (w.alloc (.cells #[.int .i64 1, .string wd, .string un, .slice ka kl kc] 199))) := new_below _ _
  go_enter Tryz.func166, Tryz.ntmps166
  go_wp2_with fail
  go_ret
  exact ⟨rfl, B2.out⟩
theorem val_3 : Calls Tryz.prog 166 #[.agg #[.int .i64 3, .string wd, .string un, .slice ka kl kc]] w fun e w' => e = .returned (.string (badTO)) ∧ Below w.heap.size w w' := by
  have B2 : Hid (Below w.heap.size w (w.alloc (.cells #[.int .i64 3, .string wd, .string un, .slice ka kl kc] 199))) := new_below _ _
  go_enter Tryz.func166, Tryz.ntmps166
  go_wp2_with fail
  go_ret
  exact ⟨rfl, B2.out⟩
theorem val_8 : Calls Tryz.prog 166 #[.agg #[.int .i64 8, .string wd, .string un, .slice ka kl kc]] w fun e w' => e = .returned (.string (openO)) ∧ Below w.heap.size w w' := by
  have B2 : Hid (Below w.heap.size w (w.alloc (.cells #[.int .i64 8, .string wd, .string un, .slice ka kl kc] 199))) := new_below _ _
  go_enter Tryz.func166, Tryz.ntmps166
  go_wp2_with fail
  go_ret
  exact ⟨rfl, B2.out⟩
theorem val_9 : Calls Tryz.prog 166 #[.agg #[.int .i64 9, .string wd, .string un, .slice ka kl kc]] w fun e w' => e = .returned (.string (closeO)) ∧ Below w.heap.size w w' := by
  have B2 : Hid (Below w.heap.size w (w.alloc (.cells #[.int .i64 9, .string wd, .string un, .slice ka kl kc] 199))) := new_below _ _
  go_enter Tryz.func166, Tryz.ntmps166
  go_wp2_with fail
  go_ret
  exact ⟨rfl, B2.out⟩
theorem val_13 : Calls Tryz.prog 166 #[.agg #[.int .i64 13, .string wd, .string un, .slice ka kl kc]] w fun e w' => e = .returned (.string (badLO)) ∧ Below w.heap.size w w' := by
  have B2 : Hid (Below w.heap.size w (w.alloc (.cells #[.int .i64 13, .string wd, .string un, .slice ka kl kc] 199))) := new_below _ _
  go_enter Tryz.func166, Tryz.ntmps166
  go_wp2_with fail
  go_ret
  exact ⟨rfl, B2.out⟩
theorem val_0 (k : Int) (h1 : (k == 1) = false) (h2 : (k == 2) = false) (h3 : (k == 3) = false) (h4 : (k == 4) = false) (h6 : (k == 6) = false) (h7 : (k == 7) = false) (h8 : (k == 8) = false) (h9 : (k == 9) = false) (h10 : (k == 10) = false) (h11 : (k == 11) = false) (h12 : (k == 12) = false) (h13 : (k == 13) = false) (h14 : (k == 14) = false) (h15 : (k == 15) = false) : Calls Tryz.prog 166 #[.agg #[.int .i64 k, .string wd, .string un, .slice ka kl kc]] w fun e w' => e = .returned (.string wd) ∧ Below w.heap.size w w' := by
  have B2 : Hid (Below w.heap.size w (w.alloc (.cells #[.int .i64 k, .string wd, .string un, .slice ka kl kc] 199))) := new_below _ _
  go_enter Tryz.func166, Tryz.ntmps166
  go_wp2_with fail
  go_ret
  exact ⟨rfl, B2.out⟩
theorem val_2 (hw : wd.size ≤ 4000000) : Calls Tryz.prog 166 #[.agg #[.int .i64 2, .string wd, .string un, .slice ka kl kc]] w fun e w' => e = .returned (.string (textO wd)) ∧ Below w.heap.size w w' := by
  have B2 : Hid (Below w.heap.size w (w.alloc (.cells #[.int .i64 2, .string wd, .string un, .slice ka kl kc] 199))) := new_below _ _
  go_enter Tryz.func166, Tryz.ntmps166
  go_wp2_with fail
  generalize w.alloc (.cells #[.int .i64 2, .string wd, .string un, .slice ka kl kc] 199) = w2 at *
  have hs2 := B2.out.size
  refine (Text_c wd _ hw).mono ?_
  rintro e w3 ⟨rfl, hb3⟩
  have B3 : Hid (Below w.heap.size w w3) := B2.out.trans (hb3.mono hs2)
  clear hb3
  go_wp2_with fail
  go_ret
  exact ⟨rfl, B3.out⟩
theorem val_12 (hw : wd.size ≤ 4000000) : Calls Tryz.prog 166 #[.agg #[.int .i64 12, .string wd, .string un, .slice ka kl kc]] w fun e w' => e = .returned (.string (linkO wd)) ∧ Below w.heap.size w w' := by
  have B2 : Hid (Below w.heap.size w (w.alloc (.cells #[.int .i64 12, .string wd, .string un, .slice ka kl kc] 199))) := new_below _ _
  go_enter Tryz.func166, Tryz.ntmps166
  go_wp2_with fail
  generalize w.alloc (.cells #[.int .i64 12, .string wd, .string un, .slice ka kl kc] 199) = w2 at *
  have hs2 := B2.out.size
  refine (wLink_c wd _ hw).mono ?_
  rintro e w3 ⟨rfl, hb3⟩
  have B3 : Hid (Below w.heap.size w w3) := B2.out.trans (hb3.mono hs2)
  clear hb3
  go_wp2_with fail
  go_ret
  exact ⟨rfl, B3.out⟩
theorem val_14 (hw : wd.size ≤ 4000000) : Calls Tryz.prog 166 #[.agg #[.int .i64 14, .string wd, .string un, .slice ka kl kc]] w fun e w' => e = .returned (.string (nameO wd)) ∧ Below w.heap.size w w' := by
  have B2 : Hid (Below w.heap.size w (w.alloc (.cells #[.int .i64 14, .string wd, .string un, .slice ka kl kc] 199))) := new_below _ _
  go_enter Tryz.func166, Tryz.ntmps166
  go_wp2_with fail
  generalize w.alloc (.cells #[.int .i64 14, .string wd, .string un, .slice ka kl kc] 199) = w2 at *
  have hs2 := B2.out.size
  refine (Name_c wd _ hw).mono ?_
  rintro e w3 ⟨rfl, hb3⟩
  have B3 : Hid (Below w.heap.size w w3) := B2.out.trans (hb3.mono hs2)
  clear hb3
  go_wp2_with fail
  go_ret
  exact ⟨rfl, B3.out⟩
theorem val_4 (hw : wd.size ≤ 4000000) : Calls Tryz.prog 166 #[.agg #[.int .i64 4, .string wd, .string un, .slice ka kl kc]] w fun e w' => e = .returned (.string (b1 35 ++ nameO wd)) ∧ Below w.heap.size w w' := by
  have B2 : Hid (Below w.heap.size w (w.alloc (.cells #[.int .i64 4, .string wd, .string un, .slice ka kl kc] 199))) := new_below _ _
  obtain ⟨nm, Hnm⟩ : ∃ nm, Hid (nameO wd = nm) := ⟨_, hid rfl⟩
  have HV : Hid (joinB [⟨#[35]⟩, nm] = b1 35 ++ nameO wd) := by show _ = _; rw [Hnm.out]; simp [joinB, b1]
  have hsz : nm.size ≤ 4 * wd.size := by rw [← Hnm.out]; exact nameO_size wd
  go_enter Tryz.func166, Tryz.ntmps166
  go_wp2_with fail
  generalize w.alloc (.cells #[.int .i64 4, .string wd, .string un, .slice ka kl kc] 199) = w2 at *
  have hs2 := B2.out.size
  refine (Name_c wd _ hw).mono ?_
  rw [Hnm.out]
  rintro e w3 ⟨rfl, hb3⟩
  have B3 : Hid (Below w.heap.size w w3) := B2.out.trans (hb3.mono hs2)
  have hs3 := B3.out.size
  clear hb3
  go_wp2_with fail
  refine (Join_c [⟨#[35]⟩, nm] w3.heap.size _ _ (rw2 w3 ⟨#[35]⟩ nm) (by simp) (by show 1 + (nm.size + 0) ≤ _; omega)).mono ?_
  rintro e w5 ⟨rfl, hb5⟩
  have B5 : Hid (Below w.heap.size w w5) := (B3.out.alloc hs3 _).trans (hb5.mono (by simp; omega))
  clear hb5
  go_wp2_with fail
  go_ret
  exact ⟨retS HV.out, B5.out⟩
theorem val_10 (hw : wd.size ≤ 4000000) : Calls Tryz.prog 166 #[.agg #[.int .i64 10, .string wd, .string un, .slice ka kl kc]] w fun e w' => e = .returned (.string (b1 64 ++ nameO wd)) ∧ Below w.heap.size w w' := by
  have B2 : Hid (Below w.heap.size w (w.alloc (.cells #[.int .i64 10, .string wd, .string un, .slice ka kl kc] 199))) := new_below _ _
  obtain ⟨nm, Hnm⟩ : ∃ nm, Hid (nameO wd = nm) := ⟨_, hid rfl⟩
  have HV : Hid (joinB [⟨#[64]⟩, nm] = b1 64 ++ nameO wd) := by show _ = _; rw [Hnm.out]; simp [joinB, b1]
  have hsz : nm.size ≤ 4 * wd.size := by rw [← Hnm.out]; exact nameO_size wd
  go_enter Tryz.func166, Tryz.ntmps166
  go_wp2_with fail
  generalize w.alloc (.cells #[.int .i64 10, .string wd, .string un, .slice ka kl kc] 199) = w2 at *
  have hs2 := B2.out.size
  refine (Name_c wd _ hw).mono ?_
  rw [Hnm.out]
  rintro e w3 ⟨rfl, hb3⟩
  have B3 : Hid (Below w.heap.size w w3) := B2.out.trans (hb3.mono hs2)
  have hs3 := B3.out.size
  clear hb3
  go_wp2_with fail
  refine (Join_c [⟨#[64]⟩, nm] w3.heap.size _ _ (rw2 w3 ⟨#[64]⟩ nm) (by simp) (by show 1 + (nm.size + 0) ≤ _; omega)).mono ?_
  rintro e w5 ⟨rfl, hb5⟩
  have B5 : Hid (Below w.heap.size w w5) := (B3.out.alloc hs3 _).trans (hb5.mono (by simp; omega))
  clear hb5
  go_wp2_with fail
  go_ret
  exact ⟨retS HV.out, B5.out⟩
theorem val_6 (hw : wd.size ≤ 4000000) : Calls Tryz.prog 166 #[.agg #[.int .i64 6, .string wd, .string un, .slice ka kl kc]] w fun e w' => e = .returned (.string (wd ++ b1 37)) ∧ Below w.heap.size w w' := by
  have B2 : Hid (Below w.heap.size w (w.alloc (.cells #[.int .i64 6, .string wd, .string un, .slice ka kl kc] 199))) := new_below _ _
  have HV : Hid (joinB [wd, ⟨#[37]⟩] = wd ++ b1 37) := by show _ = _; simp [joinB, b1]
  have A2 : Hid (VB (w.alloc (.cells #[.int .i64 6, .string wd, .string un, .slice ka kl kc] 199)) w.heap.size (.int .i64 6) (.string wd) (.string un) (.slice ka kl kc)) := VB.new _ _ _ _ _
  go_enter Tryz.func166, Tryz.ntmps166
  go_upto_region 11 with fail
  generalize w.alloc (.cells #[.int .i64 6, .string wd, .string un, .slice ka kl kc] 199) = w2 at *
  have hs2 := B2.out.size
  obtain ⟨a0, a1, a2, a3⟩ := A2.out.cs
  go_wp2_with fail
  refine (Join_c [wd, ⟨#[37]⟩] w2.heap.size _ _ (rw2 w2 wd ⟨#[37]⟩) (by simp) (by show wd.size + (1 + 0) ≤ _; omega)).mono ?_
  rintro e w5 ⟨rfl, hb5⟩
  have B5 : Hid (Below w.heap.size w w5) := (B2.out.alloc hs2 _).trans (hb5.mono (by simp; omega))
  clear hb5
  go_wp2_with fail
  go_ret
  exact ⟨retS HV.out, B5.out⟩
theorem val_7 (hw : wd.size ≤ 4000000) (hu : un.size ≤ 4000000) : Calls Tryz.prog 166 #[.agg #[.int .i64 7, .string wd, .string un, .slice ka kl kc]] w fun e w' => e = .returned (.string (wd ++ unitO un)) ∧ Below w.heap.size w w' := by
  have B2 : Hid (Below w.heap.size w (w.alloc (.cells #[.int .i64 7, .string wd, .string un, .slice ka kl kc] 199)).drew) := new_drew _ _
  have A2 : Hid (VB (w.alloc (.cells #[.int .i64 7, .string wd, .string un, .slice ka kl kc] 199)).drew w.heap.size (.int .i64 7) (.string wd) (.string un) (.slice ka kl kc)) := VB.new _ _ _ _ _
  obtain ⟨us, Hus⟩ : ∃ us, Hid (unitO un = us) := ⟨_, hid rfl⟩
  have HV : Hid (joinB [wd, us] = wd ++ unitO un) := by show _ = _; rw [Hus.out]; simp [joinB]
  have hsz : us.size ≤ 4 * un.size := by rw [← Hus.out]; exact unitO_size un
  go_enter Tryz.func166, Tryz.ntmps166
  go_wp2_with fail
  refine wp_region_any (by kernel_rfl) ?_
  change wpAny _ _ _ _ _ _ _ (World.drew _)
  generalize (w.alloc (.cells #[.int .i64 7, .string wd, .string un, .slice ka kl kc] 199)).drew = w2 at *
  have hs2 := B2.out.size
  refine wpAny_of_held (S := fun wx => VB wx w.heap.size (.int .i64 7) (.string wd) (.string un) (.slice ka kl kc)) _ _ _ _ ?_
  refine tkH 0 rfl A2.out (by intro w hSw; obtain ⟨a0, a1, a2, a3⟩ := hSw.cs; go_simp; all_goals with_reducible rfl) ?_
  refine tkH 1 rfl A2.out (by intro w hSw; obtain ⟨a0, a1, a2, a3⟩ := hSw.cs; go_simp; all_goals with_reducible rfl) ?_
  refine tkH 2 rfl A2.out (by intro w hSw; obtain ⟨a0, a1, a2, a3⟩ := hSw.cs; go_simp; all_goals with_reducible rfl) ?_
  refine tkH 3 rfl A2.out (by intro w hSw; obtain ⟨a0, a1, a2, a3⟩ := hSw.cs; go_simp; all_goals with_reducible rfl) ?_
  refine tkH 4 rfl A2.out (by intro w hSw; obtain ⟨a0, a1, a2, a3⟩ := hSw.cs; go_simp; all_goals with_reducible rfl) ?_
  refine tkH 5 rfl A2.out (by intro w hSw; obtain ⟨a0, a1, a2, a3⟩ := hSw.cs; go_simp; all_goals with_reducible rfl) ?_
  refine brH 6 fun K hK => ?_
  go_simp
  refine (unit_c un _ hu).mono ?_
  rw [Hus.out]
  rintro e w3 ⟨rfl, hb3⟩
  have B3 : Hid (Below w.heap.size w w3) := B2.out.trans (hb3.mono hs2)
  have A3 : Hid (VB w3 w.heap.size (.int .i64 7) (.string wd) (.string un) (.slice ka kl kc)) := A2.out.below hb3
  have hs3 := B3.out.size
  clear hb3
  refine hK.out _ _ A3.out (fun _ => ?_)
  clear hK K
  refine brH 7 fun K hK => ?_
  go_simp
  refine hK.out _ _ (A3.out.alloc _) (fun _ => ?_); clear hK K
  refine brH 8 fun K hK => ?_
  go_simp
  refine (Join_c [wd, us] w3.heap.size _ _ (rw2 w3 wd us) (by simp) (by show wd.size + (us.size + 0) ≤ _; omega)).mono ?_
  rintro e w5 ⟨rfl, hb5⟩
  have B5 : Hid (Below w.heap.size w w5) := (B3.out.alloc hs3 _).trans (hb5.mono (by simp; omega))
  have A5 : Hid (VB w5 w.heap.size (.int .i64 7) (.string wd) (.string un) (.slice ka kl kc)) := (A3.out.alloc _).below hb5
  clear hb5
  refine hK.out _ _ A5.out (fun _ => ?_)
  clear hK K
  refine brH 9 fun K hK => ?_
  go_simp
  refine hK.out _ _ (A5.out) (fun _ => ?_); clear hK K
  refine wpAnyH_done (by kernel_rfl) ?_ _
  go_wp2_with fail
  go_ret
  exact ⟨retS HV.out, B5.out⟩
end
end
end Go.Proofs.YtlliliddljkbfaaGreat
