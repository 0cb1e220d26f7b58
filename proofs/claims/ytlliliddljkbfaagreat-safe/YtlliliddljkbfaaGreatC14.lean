import Derived.Test.YtlliliddljkbfaaGreatC4
import Derived.Test.YtlliliddljkbfaaGreatC12
namespace Go.Proofs.YtlliliddljkbfaaGreat
set_option maxHeartbeats 64000000
set_option maxRecDepth 100000
open Go.RowKit Sp
section
attribute [local go_sem] fld_tok fld_ins fld_kind fld_word
def plcD (d : List Nd) : Option Nat := match d with | [v] => placeOf v.t | _ => none
def plcF (l : List Nd) : Option Nat := plcD (bare l)
theorem partV_nth (lv : Value) (p : Nat) : partV 58 nNth nob nob lv p = .iface 351 (if p = 0 then .agg #[.string nOdd, .int .i64 0] else if p = 1 then .agg #[.string nEven, .int .i64 0] else .agg #[.string nob, .int .i64 ((p - 2 : Nat) : Int)]) := by
  unfold partV
  rw [if_neg (by omega), if_neg (by omega), if_neg (by omega), if_neg (by omega), if_neg (by decide), if_neg (by decide), if_pos rfl]
theorem numF_head {s : ByteArray} (h0 : 0 < s.size) (h : digI (pk s 0) = false) : numF 0 s.data.toList = none := by
  have e : ∃ c r, s.data.toList = c :: r := by
    cases hl : s.data.toList with
    | nil => have : s.data.toList.length = s.size := by simp
             rw [hl] at this; simp at this; omega
    | cons c r => exact ⟨c, r, rfl⟩
  obtain ⟨c, r, e⟩ := e
  have hp : pk s 0 = (c.toNat : Int) := by
    rw [pk_data h0]; simp [e]
  rw [e]
  unfold numF
  rw [hp] at h
  rw [if_neg]
  rintro ⟨h1, h2, _⟩
  simp [digI] at h
  omega
theorem readPlace_c (B : Nat) (l : List Nd) (v : Value) (w : World) (h : Sl (fun b => b < B) w v l) (hB : B ≤ w.heap.size) :
    Calls Tryz.prog 306 #[v] w fun e w' => ((plcF l = none ∧ ∃ pv, e = .returned (.tuple #[pv, .bool false])) ∨ ∃ p, plcF l = some p ∧ e = .returned (.tuple #[partV 58 nNth nob nob (.slice none 0 0) p, .bool true])) ∧ Below w.heap.size w w' := by
  have HS : Hid (Sl (fun b => b < B) w v l) := h
  clear h
  obtain ⟨d, Hd⟩ : ∃ d, Hid (bare l = d) := ⟨_, hid rfl⟩
  have HP : Hid (plcF l = plcD d) := by show _ = _; unfold plcF; rw [Hd.out]
  obtain ⟨a, cap, rfl⟩ := HS.out.form
  go_enter Tryz.func306, Tryz.ntmps306
  go_wp2_with fail
  refine (Trim_c B l _ w HS.out).mono ?_
  rw [Hd.out]
  rintro e w1 ⟨v1, rfl, hS1, rfl⟩
  have S1 : Hid (Sl (fun b => b < B) w1 v1 d) := hS1
  clear hS1 HS
  by_cases h1 : ∃ x, d = [x]
  · obtain ⟨x, rfl⟩ := h1
    obtain ⟨g, o, kv, cp, rfl, hN, hcp⟩ := S1.out.head
    obtain ⟨ka, kc, rfl⟩ := hN.k.form
    have d0 := hN.c0
    have d1 := hN.c1
    have d2 := hN.c2
    have d3 := hN.c3
    have HOK : Hid (TokOK x.t) := hN.ok
    have hg : g < w1.heap.size := by have : g < B := hN.s; omega
    clear hN S1
    have A2 : Hid (VB (w1.alloc (.cells #[.int .i64 x.t.kind, .string x.t.word, .string x.t.unit, .slice ka x.kids.length kc] 199)) w1.heap.size (.int .i64 x.t.kind) (.string x.t.word) (.string x.t.unit) (.slice ka x.kids.length kc)) := VB.new _ _ _ _ _
    have B2 : Hid (Below w1.heap.size w1 (w1.alloc (.cells #[.int .i64 x.t.kind, .string x.t.word, .string x.t.unit, .slice ka x.kids.length kc] 199))) := (Below.refl _ _).alloc (Nat.le_refl _) _
    have hz : (((([] : List Nd).length : Nat) : Int) + 1 != 1) = false := by simp
    simp only [List.length_nil] at *
    go_upto_region 5 with fail
    generalize w1.alloc (.cells #[.int .i64 x.t.kind, .string x.t.word, .string x.t.unit, .slice ka x.kids.length kc] 199) = w2 at *
    obtain ⟨gt, Hgt⟩ : ∃ gt, Hid (w1.heap.size = gt) := ⟨_, hid rfl⟩
    have A3 : Hid (VB w2 gt (.int .i64 x.t.kind) (.string x.t.word) (.string x.t.unit) (.slice ka x.kids.length kc)) := by rw [← Hgt.out]; exact A2
    rw [Hgt.out]
    clear A2 d0 d1 d2 d3
    obtain ⟨a0, a1, a2, a3⟩ := A3.out.cs
    have hwd := HOK.out.word
    cases hk5 : (x.t.kind == 5)
    · cases hk14 : (x.t.kind == 14)
      · have HV : Hid (plcF l = none) := by
          show _ = _
          rw [HP.out]
          simp at hk5 hk14
          simp [plcD, placeOf, hk5, hk14]
        go_wp2_with fail
        go_ret2
        exact ⟨.inl ⟨HV.out, _, rfl⟩, B2.out⟩
      · have e14 : x.t.kind = 14 := by simpa using hk14
        have HV : Hid (plcF l = if small x.t.word = nEven then some 1 else if small x.t.word = nOdd then some 0 else none) := by
          show _ = _
          rw [HP.out]
          simp only [plcD, placeOf, if_pos e14]
        clear e14
        obtain ⟨nm, Hnm⟩ : ∃ nm, Hid (small x.t.word = nm) := ⟨_, hid rfl⟩
        rw [Hnm.out] at HV
        go_wp2_with fail
        refine (Small_c x.t.word _ (by omega)).mono ?_
        rw [Hnm.out]
        rintro e w3 ⟨rfl, hb3⟩
        have B3 : Hid (Below w1.heap.size w1 w3) := B2.out.trans (hb3.mono B2.out.size)
        clear hb3
        cases ho : (nm.toList == [111, 100, 100])
        · cases hv : (nm.toList == [101, 118, 101, 110])
          · have HN : Hid (plcF l = none) := by
              show _ = _
              rw [bytes_lit] at ho hv
              have h1 : ¬ nm = nEven := by simpa [nEven] using hv
              have h2 : ¬ nm = nOdd := by simpa [nOdd] using ho
              rw [HV.out, if_neg h1, if_neg h2]
            go_wp2_with fail
            go_ret2
            exact ⟨.inl ⟨HN.out, _, rfl⟩, B3.out⟩
          · have h1 : nm = nEven := by rw [bytes_lit] at hv; simpa [nEven] using hv
            have HN : Hid (plcF l = some 1) := by show _ = _; rw [HV.out, if_pos h1]
            have H1 : Hid (nm = nEven) := h1
            clear h1
            go_wp2_with fail
            go_ret2
            exact ⟨.inr ⟨1, HN.out, by rw [partV_nth, H1.out]; rfl⟩, B3.out⟩
        · have h1 : nm = nOdd := by rw [bytes_lit] at ho; simpa [nOdd] using ho
          have HN : Hid (plcF l = some 0) := by show _ = _; rw [HV.out, h1]; rfl
          have H1 : Hid (nm = nOdd) := h1
          clear h1
          go_wp2_with fail
          go_ret2
          exact ⟨.inr ⟨0, HN.out, by rw [partV_nth, H1.out]; rfl⟩, B3.out⟩
    · have e5 : x.t.kind = 5 := by simpa using hk5
      have HV : Hid (plcF l = (numF 0 x.t.word.data.toList).map (· + 2)) := by
        show _ = _
        rw [HP.out]
        have h0 := HOK.out.num e5
        simp only [plcD, placeOf]
        rw [if_neg (by omega)]
        by_cases hd : digI (pk x.t.word 0) = true
        · rw [if_pos ⟨e5, hd⟩]
        · rw [if_neg (fun q => hd q.2), numF_head h0 (by simpa using hd)]; rfl
      clear e5
      go_wp2_with fail
      refine (readNumber_c x.t.word _ hwd).mono ?_
      rintro e w3 ⟨hr, rfl⟩
      rcases hr with ⟨hn, rfl⟩ | ⟨k, hn, rfl⟩
      · have HN : Hid (plcF l = none) := by show _ = _; rw [HV.out, hn]; rfl
        clear hn
        go_wp2_with fail
        go_ret2
        exact ⟨.inl ⟨HN.out, _, rfl⟩, B2.out⟩
      · have HN : Hid (plcF l = some (k + 2)) := by show _ = _; rw [HV.out, hn]; rfl
        clear hn
        go_wp2_with fail
        go_ret2
        exact ⟨.inr ⟨k + 2, HN.out, by rw [partV_nth, if_neg (by omega), if_neg (by omega)]; rfl⟩, B2.out⟩
  · have HV : Hid (plcF l = none) := by
      show _ = _
      rw [HP.out]
      match d, h1 with
      | [], _ => rfl
      | [x], h1 => exact absurd ⟨x, rfl⟩ h1
      | _ :: _ :: _, _ => rfl
    have hne : ((d.length : Int) != 1) = true := by
      simp
      intro e
      apply h1
      match d, e with
      | [x], _ => exact ⟨x, rfl⟩
    obtain ⟨a1, c1, rfl⟩ := S1.out.form
    have hl3 := S1.out.len
    clear h1 HP
    go_wp2_with fail
    go_ret2
    exact ⟨.inl ⟨HV.out, _, rfl⟩, Below.refl _ _⟩
end
section
attribute [local go_sem] fld_tok fld_ins fld_kind fld_word
def sg (i : Nat) : ByteArray := if i = 0 then b1 126 else if i = 1 then b1 94 else if i = 2 then b1 36 else b1 42
def relA (l : List Nd) : Nat → ByteArray × List Nd
  | 0 => (nob, l)
  | i + 1 => if (relA l i).1 = nob ∧ signT (hdN (relA l i).2).t (sg i) = true then (sg i, (relA l i).2.tail) else relA l i
def isRel (t : Tok) : Bool := signT t (b1 126) || signT t (b1 94) || signT t (b1 36) || signT t (b1 42)
def relH (l : List Nd) : ByteArray := if isRel (hdN l).t = true then (hdN l).t.word else nob
def relL (l : List Nd) : List Nd := if isRel (hdN l).t = true then l.tail else l
theorem signT_word {t : Tok} {s : ByteArray} (h : signT t s = true) : t.word = s := by simp [signT] at h; exact h.2
set_option linter.unusedSimpArgs false in
theorem relA_end (l : List Nd) : relA l 4 = (relH l, relL l) := by
  have n0 : sg 0 ≠ nob := by decide
  have n1 : sg 1 ≠ nob := by decide
  have n2 : sg 2 ≠ nob := by decide
  unfold relH relL isRel
  have e0 : b1 126 = sg 0 := rfl
  have e1 : b1 94 = sg 1 := rfl
  have e2 : b1 36 = sg 2 := rfl
  have e3 : b1 42 = sg 3 := rfl
  rw [e0, e1, e2, e3]
  simp only [relA]
  cases h0 : signT (hdN l).t (sg 0)
  · cases h1 : signT (hdN l).t (sg 1)
    · cases h2 : signT (hdN l).t (sg 2)
      · cases h3 : signT (hdN l).t (sg 3)
        · simp [h0, h1, h2, h3]
        · simp [h0, h1, h2, h3, signT_word h3]
      · simp [h0, h1, h2, n2, signT_word h2]
    · simp [h0, h1, n1, signT_word h1]
  · simp [h0, n0, signT_word h0]
theorem relA_sz (l : List Nd) : ∀ i, (relA l i).1.size ≤ 1
  | 0 => by show (0 : Nat) ≤ 1; omega
  | i + 1 => by
    unfold relA
    split
    · show (sg i).size ≤ 1
      unfold sg
      repeat' split
      all_goals decide
    · exact relA_sz l i
theorem idx4 : ∀ (i : Nat) (_ : i < 4) (W : World), (Instr.index 347 (.agg #[.string ⟨#[126]⟩, .string ⟨#[94]⟩, .string ⟨#[36]⟩, .string ⟨#[42]⟩]) (.int .i64 (i : Int))).run Tryz.prog W = .ok (.string (sg i)) W
  | 0, _, W => (by kernel_rfl : (Instr.index 347 (.agg #[.string ⟨#[126]⟩, .string ⟨#[94]⟩, .string ⟨#[36]⟩, .string ⟨#[42]⟩]) (.int .i64 ((0 : Nat) : Int))).run Tryz.prog W = .ok (.string (sg 0)) W)
  | 1, _, W => (by kernel_rfl : (Instr.index 347 (.agg #[.string ⟨#[126]⟩, .string ⟨#[94]⟩, .string ⟨#[36]⟩, .string ⟨#[42]⟩]) (.int .i64 ((1 : Nat) : Int))).run Tryz.prog W = .ok (.string (sg 1)) W)
  | 2, _, W => (by kernel_rfl : (Instr.index 347 (.agg #[.string ⟨#[126]⟩, .string ⟨#[94]⟩, .string ⟨#[36]⟩, .string ⟨#[42]⟩]) (.int .i64 ((2 : Nat) : Int))).run Tryz.prog W = .ok (.string (sg 2)) W)
  | 3, _, W => (by kernel_rfl : (Instr.index 347 (.agg #[.string ⟨#[126]⟩, .string ⟨#[94]⟩, .string ⟨#[36]⟩, .string ⟨#[42]⟩]) (.int .i64 ((3 : Nat) : Int))).run Tryz.prog W = .ok (.string (sg 3)) W)
theorem row2 (w : World) (a b : ByteArray) : (w.alloc (.cells #[.string a, .string b] 9)).ownsRow w.heap.size 9 1 (.slice (some ⟨w.heap.size, 0, none⟩) 2 2) 2 ([a, b].map Value.string) :=
  ⟨rfl, .inr ⟨w.heap.size, 2, _, rfl, Nat.le_refl _, heap_alloc_new w _, Nat.le_refl _, by unfold maxLen; omega, rfl, rfl⟩⟩
theorem relation_c (B b : Nat) (sv : Value) (l : List Nd) (w : World) (h : Rdr B w b sv l) :
    Calls Tryz.prog 304 #[.pointer (some ⟨b, 0, none⟩)] w fun e w' => ∃ sv', e = .returned (.tuple #[.string (relH l ++ b1 61), .bool (signT (hdN (relL l)).t (b1 61))]) ∧ Rdr B w' b sv' (offS (b1 61) (relL l)) ∧ Turn b w w' := by
  have R1 : Hid (Rdr B w b sv l) := h
  clear h
  go_enter Tryz.func304, Tryz.ntmps304
  go_wp2_with fail
  go_loopg [4, 8] 4 (fun g v4 v8 wr => ∃ (i : Nat) (sv : Value) (kd : ByteArray) (cur : List Nd), i + g = 4 ∧ v8 = .int .i64 (i : Int) ∧ v4 = .string kd ∧ Aside (Rdr B wr b sv cur ∧ Turn b w wr ∧ relA l i = (kd, cur)))
  case atStart => exact ⟨0, sv, _, l, by omega, rfl, rfl, R1.out, Turn.refl _ _, rfl⟩
  case round =>
    obtain ⟨i, sv, kd, cur, hi, rfl, rfl, hA⟩ := hrel
    have R2 : Hid (Rdr B wr b sv cur) := hA.out.1
    have T2 : Hid (Turn b w wr) := hA.out.2.1
    have HE : Hid (relA l i = (kd, cur)) := hA.out.2.2
    clear hA R1
    by_cases hlt : i < 4
    · have h1 : (i : Int) < 4 := by omega
      have hix := idx4 i hlt
      obtain ⟨s, Hs⟩ : ∃ s, Hid (sg i = s) := ⟨_, hid rfl⟩
      rw [Hs.out] at hix
      cases hk : (kd.toList == ([] : List UInt8))
      · have hk' : ¬ kd = nob := by rw [bytes_lit] at hk; simpa [nob] using hk
        have HN : Hid (relA l (i + 1) = (kd, cur)) := by
          show _ = _
          unfold relA
          rw [HE.out, if_neg (fun q => hk' q.1)]
        clear hk'
        go_wp2_with fail
        go_roundg (4 - (i + 1))
        case measure => omega
        case rel => exact ⟨i + 1, sv, kd, cur, by omega, by congr 1, rfl, R2.out, T2.out, HN.out⟩
      · have hk' : kd = nob := by rw [bytes_lit] at hk; simpa [nob] using hk
        have HK : Hid (kd = nob) := hk'
        clear hk'
        go_wp2_with fail
        refine (takeSign_c B b sv cur s _ R2.out).mono ?_
        rintro e w3 ⟨sv3, rfl, hR3, hT3⟩
        have T3 : Hid (Turn b w w3) := T2.out.trans hT3
        clear hT3
        obtain ⟨c, Hc⟩ : ∃ c, Hid (signT (hdN cur).t s = c) := ⟨_, hid rfl⟩
        rw [Hc.out]
        cases c
        · have R3 : Hid (Rdr B w3 b sv3 cur) := by have := hR3; rw [offS_no Hc.out] at this; exact this
          have HN : Hid (relA l (i + 1) = (kd, cur)) := by
            show _ = _
            unfold relA
            rw [HE.out, Hs.out, if_neg (fun q => by have := q.2; rw [Hc.out] at this; cases this)]
          clear hR3
          go_wp2_with fail
          go_roundg (4 - (i + 1))
          case measure => omega
          case rel => exact ⟨i + 1, sv3, kd, cur, by omega, by congr 1, rfl, R3.out, T3.out, HN.out⟩
        · have R3 : Hid (Rdr B w3 b sv3 cur.tail) := by have := hR3; rw [offS_yes Hc.out] at this; exact this
          have HN : Hid (relA l (i + 1) = (s, cur.tail)) := by
            show _ = _
            unfold relA
            rw [HE.out, Hs.out, if_pos ⟨HK.out, Hc.out⟩]
          clear hR3
          go_wp2_with fail
          go_roundg (4 - (i + 1))
          case measure => omega
          case rel => exact ⟨i + 1, sv3, s, cur.tail, by omega, by congr 1, rfl, R3.out, T3.out, HN.out⟩
    · have h1 : (4 : Int) ≤ (i : Int) := by omega
      obtain rfl : i = 4 := by omega
      have hsz : kd.size ≤ 1 := by have := relA_sz l 4; rw [HE.out] at this; exact this
      have HE2 : Hid (relH l = kd ∧ relL l = cur) := by
        have := HE.out
        rw [relA_end] at this
        exact ⟨(Prod.mk.inj this).1, (Prod.mk.inj this).2⟩
      go_wp2_with fail
      refine (Join_c [kd, b1 61] wr.heap.size _ _ (row2 wr kd (b1 61)) (by simp) (by simp [total]; have : (b1 61).size = 1 := rfl; omega)).mono ?_
      rintro e w3 ⟨rfl, hb3⟩
      have R3 : Hid (Rdr B w3 b sv cur) := (R2.out.alloc _).below hb3
      have T3 : Hid (Turn b w w3) := (T2.out.alloc _).trans (Turn.of_below hb3)
      have HJ : Hid (joinB [kd, b1 61] = kd ++ b1 61) := by show _ = _; simp [joinB]
      clear hb3
      rw [HJ.out]
      go_wp2_with fail
      refine (takeSign_c B b sv cur (b1 61) _ R3.out).mono ?_
      rintro e w4 ⟨sv4, rfl, hR4, hT4⟩
      have R4 : Hid (Rdr B w4 b sv4 (offS (b1 61) cur)) := hR4
      have T4 : Hid (Turn b w w4) := T3.out.trans hT4
      clear hR4 hT4
      go_wp2_with fail
      go_ret2
      rw [HE2.out.1, HE2.out.2]
      exact ⟨sv4, rfl, R4.out, T4.out⟩
end
section
attribute [local go_sem] fld_tok fld_ins fld_kind fld_word
def NBl (l : List Nd) : Prop := ∀ x, l.getLast? = some x → x.t.kind ≠ 1
theorem NBl.tail {n : Nd} {r : List Nd} (h : NBl (n :: r)) : NBl r := by
  intro x hx
  cases r with
  | nil => simp at hx
  | cons m q => exact h x (by rw [List.getLast?_cons_cons]; exact hx)
theorem NBl.drop {l : List Nd} (h : NBl l) : NBl (dropB l) := by
  induction l with
  | nil => exact h
  | cons n r ih =>
    by_cases hk : n.t.kind = 1
    · rw [dropB_blank hk]; exact ih h.tail
    · rw [dropB_other hk]; exact h
theorem NBl.trim {l : List Nd} (h : NBl l) : trimE l = l := by
  rcases snoc_or l with rfl | ⟨i, x, rfl⟩
  · rfl
  · exact trimE_other (h x (by simp))
theorem NBl.bare {l : List Nd} (h : NBl l) : bare l = dropB l := by
  unfold Sp.bare; exact h.drop.trim
theorem dropB_head {l : List Nd} {n : Nd} {r : List Nd} (h : dropB l = n :: r) : n.t.kind ≠ 1 := by
  induction l with
  | nil => simp [dropB] at h
  | cons m q ih =>
    by_cases hk : m.t.kind = 1
    · rw [dropB_blank hk] at h; exact ih h
    · rw [dropB_other hk] at h; cases h; exact hk
theorem NBl.of_bare (l : List Nd) : NBl (Sp.bare l) := by
  intro x hx
  unfold Sp.bare trimE at hx
  cases hd : dropB (dropB l).reverse with
  | nil => rw [hd] at hx; simp at hx
  | cons n r =>
    rw [hd] at hx
    simp at hx
    subst hx
    exact dropB_head hd
def atrQ (k : Int) (l2 : List Nd) : Bool := (signT (hdN l2).t (b1 61) && ((k == 14) && ((hdN (dropB (offS (b1 61) l2))).t.kind == 14 || (hdN (dropB (offS (b1 61) l2))).t.kind == 2))) && (dropB (offS (b1 61) l2)).tail.length == 0
def atrK (d : List Nd) : Bool := atrQ (hdN d).t.kind (relL (dropB d.tail))
def atrF (d : List Nd) : Option Simple :=
  if dropB d.tail = [] then (if (hdN d).t.kind = 14 then some (Simple.of 91 (hdN d).t.word) else none)
  else if atrK d = true then some (.mk 91 (hdN d).t.word (relH (dropB d.tail) ++ b1 61) (hdN (dropB (offS (b1 61) (relL (dropB d.tail))))).t.word [] 0) else none
theorem kind0 : (hdN []).t.kind = 0 := rfl
theorem signT_kind {t : Tok} {s : ByteArray} (h : t.kind ≠ 15) : signT t s = false := by simp [signT, h]
theorem isRel_eq {t : Tok} (h : t.kind = 15) : isRel t = decide (t.word = b1 126 ∨ t.word = b1 94 ∨ t.word = b1 36 ∨ t.word = b1 42) := by
  unfold isRel signT
  simp only [h, decide_true, Bool.true_and, Bool.decide_or, Bool.or_assoc]
theorem atr_eq {d : List Nd} (hd : NBl d) : attrOf d = atrF d := by
  cases d with
  | nil => rfl
  | cons n r =>
    have hr : NBl r := hd.tail
    have hn : (hdN (n :: r)) = n := rfl
    have hcase : dropB r = [] ∨ ∃ m r1, dropB r = m :: r1 := by
      cases dropB r with
      | nil => exact .inl rfl
      | cons m r1 => exact .inr ⟨m, r1, rfl⟩
    unfold attrOf atrF
    rcases hcase with hl | ⟨m, r1, hl⟩
    · simp only [List.tail_cons, hr.bare, hl, hn, if_true]
      by_cases hk : n.t.kind = 14
      · rw [if_neg (by omega), if_pos hk]
      · rw [if_pos hk, if_neg hk]
    · simp only [List.tail_cons, hr.bare, hl]
      rw [if_neg (by simp : ¬ (m :: r1 = []))]
      have hm : NBl (m :: r1) := by rw [← hl]; exact hr.drop
      by_cases hk : n.t.kind = 14
      · rw [if_neg (by omega)]
        by_cases h15 : m.t.kind = 15
        · rw [if_neg (by omega)]
          have hrel := isRel_eq h15
          have hhm : hdN (m :: r1) = m := rfl
          have key : ∀ (l2 : List Nd) (hw : ByteArray), NBl l2 → relL (dropB r) = l2 → relH (dropB r) = hw →
              (match l2 with
                | [] => none
                | q :: r2 => match Sp.bare r2 with
                  | [v] => if sgnN q (b1 61) = true ∧ (v.t.kind = 14 ∨ v.t.kind = 2) then some (Simple.mk 91 n.t.word (hw ++ b1 61) v.t.word [] 0) else none
                  | _ => none) =
              if atrK (n :: r) = true then some (Simple.mk 91 (hdN (n :: r)).t.word (relH (m :: r1) ++ b1 61) (hdN (dropB (offS (b1 61) (relL (m :: r1))))).t.word [] 0) else none := by
            intro l2 hw hl2 e1 e2
            rw [show atrK (n :: r) = atrQ n.t.kind (relL (dropB r)) from rfl, ← hl, e1, e2, hn]
            unfold atrQ
            cases l2 with
            | nil => rw [sign_nil]; rfl
            | cons q r2 =>
              have hq : hdN (q :: r2) = q := rfl
              rw [hq]
              simp only
              rw [(hl2.tail).bare]
              cases hs : signT q.t (b1 61)
              · simp only [sgnN, hs]
                cases dropB r2 with
                | nil => rfl
                | cons v q2 => cases q2 <;> simp
              · have ho : offS (b1 61) (q :: r2) = r2 := offS_yes hs
                rw [ho]
                simp only [sgnN, hs]
                cases hv : dropB r2 with
                | nil => simp [hdN, Tok.k]
                | cons v q2 =>
                  cases q2 with
                  | nil => simp [hdN, hk]
                  | cons v2 q3 => simp
          by_cases hh : m.t.word = b1 126 ∨ m.t.word = b1 94 ∨ m.t.word = b1 36 ∨ m.t.word = b1 42
          · have hi : isRel m.t = true := by rw [hrel, decide_eq_true hh]
            simp only [if_pos hh]
            exact key r1 m.t.word hm.tail (by rw [hl]; unfold relL; rw [hhm, if_pos hi]; rfl) (by rw [hl]; unfold relH; rw [hhm, if_pos hi])
          · have hi : ¬ isRel m.t = true := by rw [hrel, decide_eq_false hh]; simp
            simp only [if_neg hh]
            exact key (m :: r1) nob hm (by rw [hl]; unfold relL; rw [hhm, if_neg hi]) (by rw [hl]; unfold relH; rw [hhm, if_neg hi])
        · rw [if_pos h15]
          have hi : isRel m.t = false := by unfold isRel; simp [signT_kind h15]
          have : atrK (n :: r) = false := by
            rw [show atrK (n :: r) = atrQ n.t.kind (relL (dropB r)) from rfl, hl]
            unfold atrQ
            have : relL (m :: r1) = m :: r1 := by unfold relL; rw [show hdN (m :: r1) = m from rfl, hi]; rfl
            rw [this, show hdN (m :: r1) = m from rfl, signT_kind h15]
            rfl
          rw [this]; rfl
      · rw [if_pos hk]
        have : atrK (n :: r) = false := by
          rw [show atrK (n :: r) = atrQ n.t.kind (relL (dropB r)) from rfl]
          unfold atrQ
          simp [hk]
        rw [this]; rfl
end
section
attribute [local go_sem] fld_tok fld_ins fld_kind fld_word
theorem partV_attr (nm h v : ByteArray) (lv : Value) (p : Nat) : partV 91 nm h v lv p = .iface 341 (.agg #[.string nm, .string h, .string v]) := by
  unfold partV
  rw [if_neg (by omega), if_neg (by omega), if_neg (by omega), if_pos rfl]
theorem Rdr.new {B : Nat} {w : World} {v : Value} {l : List Nd} (h : Sl (fun k => k < B) w v l) (hB : B ≤ w.heap.size) : Rdr B (w.alloc (.cells #[v] 270)) w.heap.size v l :=
  ⟨heap_alloc_new w _, h.below ((Below.refl w.heap.size w).alloc (Nat.le_refl _) _) hB, hB⟩
theorem Turn.over {b : Nat} {w w1 w' : World} (h0 : Below w.heap.size w w1) (h : Turn b w1 w') (hb : w.heap.size ≤ b) : Below w.heap.size w w' :=
  h0.trans ⟨h.os, h.tape, h.output, h.size, fun k hk => h.block k (by have := h0.size; omega) (by omega)⟩
def atrP (o : Option Simple) (e : Ending) : Prop :=
  match o with
  | none => ∃ pv, e = .returned (.tuple #[pv, .bool false])
  | some (.mk k nm h v _ p) => e = .returned (.tuple #[partV k nm h v (.slice none 0 0) p, .bool true])
theorem readAttr_c (B : Nat) (l : List Nd) (v : Value) (w : World) (h : Sl (fun b => b < B) w v l) (hB : B ≤ w.heap.size) :
    Calls Tryz.prog 296 #[v] w fun e w' => atrP (attrOf (bare l)) e ∧ Below w.heap.size w w' := by
  have HS : Hid (Sl (fun b => b < B) w v l) := h
  clear h
  have HE : Hid (attrOf (bare l) = atrF (bare l)) := atr_eq (NBl.of_bare l)
  obtain ⟨d, Hd⟩ : ∃ d, Hid (bare l = d) := ⟨_, hid rfl⟩
  rw [Hd.out] at HE
  rw [Hd.out, HE.out]
  clear HE
  obtain ⟨a, cap, rfl⟩ := HS.out.form
  go_enter Tryz.func296, Tryz.ntmps296
  go_wp2_with fail
  refine (Trim_c B l _ w HS.out).mono ?_
  rw [Hd.out]
  rintro e w1 ⟨v1, rfl, hS1, rfl⟩
  obtain ⟨va, vc, rfl⟩ := hS1.form
  have R1 : Hid (Rdr B (w1.alloc (.cells #[.slice va d.length vc] 270)) w1.heap.size (.slice va d.length vc) d) := Rdr.new hS1 hB
  have B1 : Hid (Below w1.heap.size w1 (w1.alloc (.cells #[.slice va d.length vc] 270))) := (Below.refl _ _).alloc (Nat.le_refl _) _
  clear hS1 HS
  go_upto_region 2 with fail
  generalize w1.alloc (.cells #[.slice va d.length vc] 270) = w2 at *
  obtain ⟨b, Hb⟩ : ∃ b, Hid (w1.heap.size = b) := ⟨_, hid rfl⟩
  have R2 : Hid (Rdr B w2 b (.slice va d.length vc) d) := by rw [← Hb.out]; exact R1
  clear R1
  rw [Hb.out]
  obtain ⟨n, Hn⟩ : ∃ n, Hid (hdN d = n) := ⟨_, hid rfl⟩
  go_wp2_with fail
  refine (rtake_c B b _ d _ R2.out).mono ?_
  rw [Hn.out]
  rintro e w3 ⟨kv3, sv3, rfl, hk3, hR3, hT3⟩
  obtain ⟨ka, kc, rfl⟩ := hk3.form
  have T3 : Hid (Turn b w2 w3) := hT3
  have R3 : Hid (Rdr B w3 b sv3 d.tail) := hR3
  clear hk3 hR3 hT3 R2
  unfold nodV
  have A4 : Hid (VB (w3.alloc (.cells #[.int .i64 n.t.kind, .string n.t.word, .string n.t.unit, .slice ka n.kids.length kc] 199)) w3.heap.size (.int .i64 n.t.kind) (.string n.t.word) (.string n.t.unit) (.slice ka n.kids.length kc)) := VB.new _ _ _ _ _
  have R4 : Hid (Rdr B (w3.alloc (.cells #[.int .i64 n.t.kind, .string n.t.word, .string n.t.unit, .slice ka n.kids.length kc] 199)) b sv3 d.tail) := R3.out.alloc _
  have T4 : Hid (Turn b w2 (w3.alloc (.cells #[.int .i64 n.t.kind, .string n.t.word, .string n.t.unit, .slice ka n.kids.length kc] 199))) := T3.out.alloc _
  have hb3 : b < w3.heap.size := R3.out.lt
  clear R3 T3
  go_upto_region 3 with fail
  generalize w3.alloc (.cells #[.int .i64 n.t.kind, .string n.t.word, .string n.t.unit, .slice ka n.kids.length kc] 199) = w4 at *
  generalize w3.heap.size = gn at *
  obtain ⟨r1, Hr1⟩ : ∃ r1, Hid (dropB d.tail = r1) := ⟨_, hid rfl⟩
  go_wp2_with fail
  refine (rpass_c B b _ _ _ R4.out).mono ?_
  rw [Hr1.out]
  rintro e w5 ⟨sv5, rfl, hR5, hT5⟩
  have R5 : Hid (Rdr B w5 b sv5 r1) := hR5
  have T5 : Hid (Turn b w2 w5) := T4.out.trans hT5
  have A5 : Hid (VB w5 gn (.int .i64 n.t.kind) (.string n.t.word) (.string n.t.unit) (.slice ka n.kids.length kc)) := A4.out.turn hT5 (by omega)
  clear hR5 hT5 R4 T4 A4
  go_wp2_with fail
  refine (ended_c B b _ _ _ R5.out).mono ?_
  rintro e w6 ⟨rfl, rfl⟩
  obtain ⟨a0, a1, a2, a3⟩ := A5.out.cs
  by_cases hr1 : r1 = []
  · subst hr1
    cases hk : (n.t.kind == 14)
    · have HV : Hid (atrF d = none) := by
        show _ = _
        unfold atrF
        rw [if_pos Hr1.out, Hn.out, if_neg (by simpa using hk)]
      go_wp2_with fail
      go_quiet (fail)
      go_wp2_with fail
      go_ret2
      exact ⟨by rw [HV.out]; exact ⟨_, rfl⟩, Turn.over B1.out (T5.out.drewN _) (by rw [Hb.out]; exact Nat.le_refl _)⟩
    · have HV : Hid (atrF d = some (.mk 91 n.t.word nob nob [] 0)) := by
        show _ = _
        unfold atrF
        rw [if_pos Hr1.out, Hn.out, if_pos (by simpa using hk)]
        rfl
      go_wp2_with fail
      go_quiet (fail)
      go_wp2_with fail
      go_ret2
      exact ⟨by rw [HV.out]; show _ = _; rw [partV_attr]; rfl, Turn.over B1.out (T5.out.drewN _) (by rw [Hb.out]; exact Nat.le_refl _)⟩
  · have hl1 : (r1.length == 0) = false := by
      cases r1 with
      | nil => exact absurd rfl hr1
      | cons x y => rfl
    have HV : Hid (atrF d = if atrQ n.t.kind (relL r1) = true then some (.mk 91 n.t.word (relH r1 ++ b1 61) (hdN (dropB (offS (b1 61) (relL r1)))).t.word [] 0) else none) := by
      show _ = _
      unfold atrF atrK
      rw [if_neg (by rw [Hr1.out]; exact hr1), Hn.out, Hr1.out]
    clear hr1
    obtain ⟨how, Hhow⟩ : ∃ x, Hid (relH r1 ++ b1 61 = x) := ⟨_, hid rfl⟩
    obtain ⟨l2, Hl2⟩ : ∃ x, Hid (relL r1 = x) := ⟨_, hid rfl⟩
    obtain ⟨eq, Heq⟩ : ∃ x, Hid (signT (hdN l2).t (b1 61) = x) := ⟨_, hid rfl⟩
    obtain ⟨l4, Hl4⟩ : ∃ x, Hid (dropB (offS (b1 61) l2) = x) := ⟨_, hid rfl⟩
    obtain ⟨m, Hm⟩ : ∃ x, Hid (hdN l4 = x) := ⟨_, hid rfl⟩
    have HQ : Hid (atrQ n.t.kind (relL r1) = ((eq && ((n.t.kind == 14) && (m.t.kind == 14 || m.t.kind == 2))) && (l4.tail.length == 0))) := by
      show _ = _
      unfold atrQ
      rw [Hl2.out, Heq.out, Hl4.out, Hm.out]
    have HV2 : Hid (atrF d = if ((eq && ((n.t.kind == 14) && (m.t.kind == 14 || m.t.kind == 2))) && (l4.tail.length == 0)) = true then some (.mk 91 n.t.word how m.t.word [] 0) else none) := by
      show _ = _
      rw [HV.out, HQ.out, Hhow.out, Hl2.out, Hl4.out, Hm.out]
    clear HV HQ
    go_wp2_with fail
    refine (relation_c B b _ _ _ R5.out).mono ?_
    rw [Hhow.out, Hl2.out, Heq.out]
    rintro e w7 ⟨sv7, rfl, hR7, hT7⟩
    have R7 : Hid (Rdr B w7 b sv7 (offS (b1 61) l2)) := hR7
    have T7 : Hid (Turn b w2 w7) := T5.out.trans hT7
    have A7 : Hid (VB w7 gn (.int .i64 n.t.kind) (.string n.t.word) (.string n.t.unit) (.slice ka n.kids.length kc)) := A5.out.turn hT7 (by omega)
    clear hR7 hT7 R5 T5 A5 a0 a1 a2 a3
    go_wp2_with fail
    refine (rpass_c B b _ _ _ R7.out).mono ?_
    rw [Hl4.out]
    rintro e w8 ⟨sv8, rfl, hR8, hT8⟩
    have R8 : Hid (Rdr B w8 b sv8 l4) := hR8
    have T8 : Hid (Turn b w2 w8) := T7.out.trans hT8
    have A8 : Hid (VB w8 gn (.int .i64 n.t.kind) (.string n.t.word) (.string n.t.unit) (.slice ka n.kids.length kc)) := A7.out.turn hT8 (by omega)
    clear hR8 hT8 R7 T7 A7
    go_wp2_with fail
    refine (rtake_c B b _ _ _ R8.out).mono ?_
    rw [Hm.out]
    rintro e w9 ⟨kv9, sv9, rfl, hk9, hR9, hT9⟩
    obtain ⟨ma, mc, rfl⟩ := hk9.form
    have R9 : Hid (Rdr B w9 b sv9 l4.tail) := hR9
    have T9 : Hid (Turn b w2 w9) := T8.out.trans hT9
    have A9 : Hid (VB w9 gn (.int .i64 n.t.kind) (.string n.t.word) (.string n.t.unit) (.slice ka n.kids.length kc)) := A8.out.turn hT9 (by omega)
    clear hk9 hR9 hT9 R8 T8 A8
    unfold nodV
    have M10 : Hid (VB (w9.alloc (.cells #[.int .i64 m.t.kind, .string m.t.word, .string m.t.unit, .slice ma m.kids.length mc] 199)) w9.heap.size (.int .i64 m.t.kind) (.string m.t.word) (.string m.t.unit) (.slice ma m.kids.length mc)) := VB.new _ _ _ _ _
    have R10 : Hid (Rdr B (w9.alloc (.cells #[.int .i64 m.t.kind, .string m.t.word, .string m.t.unit, .slice ma m.kids.length mc] 199)) b sv9 l4.tail) := R9.out.alloc _
    have T10 : Hid (Turn b w2 (w9.alloc (.cells #[.int .i64 m.t.kind, .string m.t.word, .string m.t.unit, .slice ma m.kids.length mc] 199))) := T9.out.alloc _
    have A10 : Hid (VB (w9.alloc (.cells #[.int .i64 m.t.kind, .string m.t.word, .string m.t.unit, .slice ma m.kids.length mc] 199)) gn (.int .i64 n.t.kind) (.string n.t.word) (.string n.t.unit) (.slice ka n.kids.length kc)) := A9.out.alloc _
    clear R9 T9 A9
    go_upto_region 9 with fail
    generalize w9.alloc (.cells #[.int .i64 m.t.kind, .string m.t.word, .string m.t.unit, .slice ma m.kids.length mc] 199) = w10 at *
    generalize w9.heap.size = gm at *
    obtain ⟨a0, a1, a2, a3⟩ := A10.out.cs
    obtain ⟨c0, c1, c2, c3⟩ := M10.out.cs
    cases eq
    · have HN : Hid (atrF d = none) := by show _ = _; rw [HV2.out]; rfl
      go_wp2_with fail
      go_ret2
      exact ⟨by rw [HN.out]; exact ⟨_, rfl⟩, Turn.over B1.out T10.out (by rw [Hb.out]; exact Nat.le_refl _)⟩
    · cases kn : (n.t.kind == 14)
      · have HN : Hid (atrF d = none) := by show _ = _; rw [HV2.out]; simp [kn]
        go_wp2_with fail
        go_ret2
        exact ⟨by rw [HN.out]; exact ⟨_, rfl⟩, Turn.over B1.out T10.out (by rw [Hb.out]; exact Nat.le_refl _)⟩
      · cases v14 : (m.t.kind == 14)
        · cases v2 : (m.t.kind == 2)
          · have HN : Hid (atrF d = none) := by show _ = _; rw [HV2.out]; simp [kn, v14, v2]
            go_wp2_with fail
            go_ret2
            exact ⟨by rw [HN.out]; exact ⟨_, rfl⟩, Turn.over B1.out T10.out (by rw [Hb.out]; exact Nat.le_refl _)⟩
          · go_wp2_with fail
            refine (ended_c B b _ _ _ R10.out).mono ?_
            rintro e w11 ⟨rfl, rfl⟩
            obtain ⟨z, Hz⟩ : ∃ z, Hid ((l4.tail.length == 0) = z) := ⟨_, hid rfl⟩
            rw [Hz.out]
            cases z
            · have HN : Hid (atrF d = none) := by show _ = _; rw [HV2.out, Hz.out]; simp
              go_wp2_with fail
              go_ret2
              exact ⟨by rw [HN.out]; exact ⟨_, rfl⟩, Turn.over B1.out T10.out (by rw [Hb.out]; exact Nat.le_refl _)⟩
            · have HN : Hid (atrF d = some (.mk 91 n.t.word how m.t.word [] 0)) := by show _ = _; rw [HV2.out, Hz.out]; simp [kn, v14, v2]
              go_wp2_with fail
              go_ret2
              exact ⟨by rw [HN.out]; show _ = _; rw [partV_attr]; rfl, Turn.over B1.out T10.out (by rw [Hb.out]; exact Nat.le_refl _)⟩
        · go_wp2_with fail
          refine (ended_c B b _ _ _ R10.out).mono ?_
          rintro e w11 ⟨rfl, rfl⟩
          obtain ⟨z, Hz⟩ : ∃ z, Hid ((l4.tail.length == 0) = z) := ⟨_, hid rfl⟩
          rw [Hz.out]
          cases z
          · have HN : Hid (atrF d = none) := by show _ = _; rw [HV2.out, Hz.out]; simp
            go_wp2_with fail
            go_ret2
            exact ⟨by rw [HN.out]; exact ⟨_, rfl⟩, Turn.over B1.out T10.out (by rw [Hb.out]; exact Nat.le_refl _)⟩
          · have HN : Hid (atrF d = some (.mk 91 n.t.word how m.t.word [] 0)) := by show _ = _; rw [HV2.out, Hz.out]; simp [kn, v14]
            go_wp2_with fail
            go_ret2
            exact ⟨by rw [HN.out]; show _ = _; rw [partV_attr]; rfl, Turn.over B1.out T10.out (by rw [Hb.out]; exact Nat.le_refl _)⟩
end
def combP (l : List Nd) (i : Nat) (e : Ending) : Prop :=
  match combi (l.drop i) with
  | none => ∃ k : Nat, e = .returned (.tuple #[.int .u8 0, .int .i64 (k : Int)])
  | some (c, r) => ∃ k : Nat, e = .returned (.tuple #[.int .u8 (c : Int), .int .i64 (k : Int)]) ∧ i < k ∧ k ≤ l.length ∧ l.drop k = r ∧ 0 < c ∧ c < 256
end Go.Proofs.YtlliliddljkbfaaGreat
