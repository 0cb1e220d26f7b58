import Derived.Test.YtlliliddljkbfaaGreatC17
import Derived.Laws.Bits64b
namespace Go.Proofs.YtlliliddljkbfaaGreat
set_option maxHeartbeats 64000000
set_option maxRecDepth 100000
open Go.RowKit Sp
def elB (x : Elem) : Bool := pnB x.tag && nameP x.id && decide (x.classes.length ≤ 4) && decide (x.attrs.length ≤ 4) && x.classes.all pnB && x.attrs.all (fun a => pnB a.1 && valueP a.2)
theorem attP_eq (a : ByteArray × ByteArray) : attP a = (pnB a.1 && valueP a.2) := by
  unfold attP pnB
  cases nameP a.1 <;> cases valueP a.2 <;> simp
theorem elemP_el (i : Nat) (x : Elem) : elemP i x = (parP i x && elB x) := by
  have e : (fun a => pnB a.1 && valueP a.2) = attP := funext fun a => (attP_eq a).symm
  rw [elemP_eq]
  unfold headP elB pnB
  rw [show (fun a : ByteArray × ByteArray => (nameP a.1 && !decide (a.1 = nob)) && valueP a.2) = attP from e]
  show _ = (parP i x && (nameP x.tag && !decide (x.tag = nob) && nameP x.id && decide (x.classes.length ≤ 4) && decide (x.attrs.length ≤ 4) && x.classes.all classP && x.attrs.all attP))
  cases parP i x <;> simp
theorem idP_eq (s : ByteArray) : nameP s = (decide (s = nob) || pnB s) := by
  unfold pnB
  by_cases h : s = nob
  · subst h; rfl
  · simp [h]
theorem ne_nob (s : ByteArray) : (s.toList != ([] : List UInt8)) = !decide (s = nob) := by rw [bne, bytes_lit]; rfl
theorem ie_no (l : List UInt8) (h : ¬ l = []) : l.isEmpty = false := by
  cases l with
  | nil => exact absurd rfl h
  | cons a b => rfl
theorem id_none (s : ByteArray) (h : s.toList = []) : nameP s = true := by
  have e := ne_nob s
  rw [h] at e
  have e2 : decide (s = nob) = true := by
    cases hd : decide (s = nob)
    · rw [hd] at e; exact absurd e (by decide)
    · rfl
  rw [idP_eq, e2]; rfl
theorem id_some (s : ByteArray) (h : ¬ s.toList = []) : nameP s = pnB s := by
  have e2 : decide (s = nob) = false := decide_eq_false (by intro e; apply h; have h2 := ne_nob s; rw [decide_eq_true e] at h2; simpa using h2)
  rw [idP_eq, e2]; rfl
def XA (w : World) (g : Nat) (s : ByteArray × ByteArray) : Prop := w.heap[g]? = some (.cells #[.string s.1, .string s.2] 96 (0, 0))
theorem XA.cs {w : World} {g : Nat} {s : ByteArray × ByteArray} (h : XA w g s) : w.cell? ⟨g, 0, none⟩ = some (.string s.1) ∧ w.cell? ⟨g, 1, none⟩ = some (.string s.2) := by
  refine ⟨?_, ?_⟩ <;> (unfold World.cell?; rw [h]; rfl)
theorem isElem_c (B : Nat) (x : Elem) (cv av : Value) (w : World) (hcl : SG CStr 1 (fun b => b < B) w cv x.classes) (hat : SG CAtt 2 (fun b => b < B) w av x.attrs) (hts : x.tag.size ≤ 4194304) (his : x.id.size ≤ 4194304) (hB : B ≤ w.heap.size) :
    Calls Tryz.prog 90 #[.agg #[.int .i64 x.parent, .string x.tag, .string x.id, cv, av]] w fun e w' => e = .returned (.bool (elB x)) ∧ Below w.heap.size w w' := by
  obtain ⟨ca, cc, rfl⟩ := hcl.form
  obtain ⟨aa, ac, rfl⟩ := hat.form
  have hclen := hcl.len
  have halen := hat.len
  have X1 : Hid (XE (w.alloc (.cells #[.int .i64 x.parent, .string x.tag, .string x.id, .slice ca x.classes.length cc, .slice aa x.attrs.length ac] 35)) w.heap.size x (.slice ca x.classes.length cc) (.slice aa x.attrs.length ac)) := heap_alloc_new w _
  have B1 : Hid (Below w.heap.size w (w.alloc (.cells #[.int .i64 x.parent, .string x.tag, .string x.id, .slice ca x.classes.length cc, .slice aa x.attrs.length ac] 35))) := (Below.refl _ _).alloc (Nat.le_refl _) _
  have C1 : Hid (SG CStr 1 (fun b => b < B) (w.alloc (.cells #[.int .i64 x.parent, .string x.tag, .string x.id, .slice ca x.classes.length cc, .slice aa x.attrs.length ac] 35)) (.slice ca x.classes.length cc) x.classes) := hcl.below CStr.fair B1.out hB
  have A1 : Hid (SG CAtt 2 (fun b => b < B) (w.alloc (.cells #[.int .i64 x.parent, .string x.tag, .string x.id, .slice ca x.classes.length cc, .slice aa x.attrs.length ac] 35)) (.slice aa x.attrs.length ac) x.attrs) := hat.below CAtt.fair B1.out hB
  clear hcl hat
  go_enter Tryz.func90, Tryz.ntmps90
  go_upto_region 1 with fail
  generalize w.alloc (.cells #[.int .i64 x.parent, .string x.tag, .string x.id, .slice ca x.classes.length cc, .slice aa x.attrs.length ac] 35) = w2 at *
  obtain ⟨gx, Hgx⟩ : ∃ g, Hid (w.heap.size = g) := ⟨_, hid rfl⟩
  have X2 : Hid (XE w2 gx x (.slice ca x.classes.length cc) (.slice aa x.attrs.length ac)) := by rw [← Hgx.out]; exact X1
  rw [Hgx.out]
  clear X1
  obtain ⟨c0, c1, c2, c3, c4⟩ := X2.out.cs
  have hs2 := B1.out.size
  obtain ⟨bt, Hbt⟩ : ∃ b, Hid (pnB x.tag = b) := ⟨_, hid rfl⟩
  obtain ⟨bi, Hbi⟩ : ∃ b, Hid (pnB x.id = b) := ⟨_, hid rfl⟩
  go_cut [21] (fun s21 wx => s21 = .bool (!(pnB x.tag && nameP x.id)) ∧ wx = w2)
  case first =>
    go_wp2_with fail
    refine (isName_c x.tag _ (by unfold maxLen; omega)).mono ?_
    rw [Hbt.out]
    rintro e wq ⟨rfl, hwq⟩
    rw [hwq]
    clear hwq wq
    cases bt
    · go_wp2_with fail
      go_meet
      exact ⟨by rw [Hbt.out]; rfl, rfl⟩
    · go_wp2_with fail
      · have HV : Hid (nameP x.id = true) := id_none x.id (by assumption)
        go_meet
        exact ⟨by rw [Hbt.out, HV.out]; rfl, rfl⟩
      · have HV : Hid (nameP x.id = bi) := by
          show _ = _
          rw [id_some x.id (by assumption)]; exact Hbi.out
        have HE : Hid (x.id.toList.isEmpty = false) := ie_no _ (by assumption)
        refine (isName_c x.id _ (by unfold maxLen; omega)).mono ?_
        rw [Hbi.out]
        rintro e wq ⟨rfl, hwq⟩
        rw [hwq]
        clear hwq wq
        go_wp2_with fail
        go_meet
        exact ⟨by rw [Hbt.out, HV.out, HE.out]; cases bi <;> rfl, rfl⟩
  case rest =>
  obtain ⟨rfl, rfl⟩ := hcut
  obtain ⟨z, Hz⟩ : ∃ z, Hid ((pnB x.tag && nameP x.id) = z) := ⟨_, hid rfl⟩
  rw [Hz.out]
  clear Hbt Hbi
  cases z
  · have HV : Hid (elB x = false) := by show _ = _; unfold elB; rw [Hz.out]; rfl
    go_wp2_with fail
    go_ret
    exact ⟨rbool HV.out.symm, B1.out⟩
  · by_cases h4 : 4 < x.classes.length
    · have h4' : (4 : Int) < (x.classes.length : Int) := by omega
      have HV : Hid (elB x = false) := by show _ = _; unfold elB; rw [decide_eq_false (show ¬ x.classes.length ≤ 4 by omega)]; simp
      go_wp2_with fail
      go_ret
      exact ⟨rbool HV.out.symm, B1.out⟩
    · have h4' : (x.classes.length : Int) ≤ 4 := by omega
      by_cases h5 : 4 < x.attrs.length
      · have h5' : (4 : Int) < (x.attrs.length : Int) := by omega
        have HV : Hid (elB x = false) := by show _ = _; unfold elB; rw [decide_eq_false (show ¬ x.attrs.length ≤ 4 by omega)]; simp
        go_wp2_with fail
        go_ret
        exact ⟨rbool HV.out.symm, B1.out⟩
      · have h5' : (x.attrs.length : Int) ≤ 4 := by omega
        have HV0 : Hid (elB x = (x.classes.all pnB && x.attrs.all (fun a => pnB a.1 && valueP a.2))) := by
          show _ = _
          unfold elB
          rw [Hz.out, decide_eq_true (show x.classes.length ≤ 4 by omega), decide_eq_true (show x.attrs.length ≤ 4 by omega)]; rfl
        have hxl : gx < wc.heap.size := (Array.getElem?_eq_some_iff.1 (show wc.heap[gx]? = _ from X2.out)).1
        go_wp2_with fail
        go_loopg [35] x.classes.length (fun g v wr => ∃ k : Nat, k + g = x.classes.length ∧ v = .int .i64 (k : Int) ∧ Aside ((x.classes.take k).all pnB = true ∧ wr = wc))
        case atStart => exact ⟨0, by omega, rfl, rfl, rfl⟩
        case round =>
          obtain ⟨k, hk, rfl, hA⟩ := hrel
          have HA : Hid ((x.classes.take k).all pnB = true) := hA.out.1
          obtain rfl := hA.out.2
          clear hA
          by_cases hlt : k < x.classes.length
          · have h1 : (k : Int) < (x.classes.length : Int) := by omega
            obtain ⟨g, o, rfl, hL, hcap⟩ := C1.out.here (by intro e; rw [e] at hlt; simp at hlt)
            obtain ⟨hgs, d0, hsz⟩ := hL.str (i := k) hlt
            obtain ⟨s, Hs⟩ : ∃ s, Hid (x.classes[k] = s) := ⟨_, hid rfl⟩
            rw [Hs.out] at d0 hsz
            clear hL
            obtain ⟨y, Hy⟩ : ∃ y, Hid (pnB s = y) := ⟨_, hid rfl⟩
            go_wp2_with fail
            refine (isName_c s _ (by unfold maxLen; omega)).mono ?_
            rw [Hy.out]
            rintro e wq ⟨rfl, hwq⟩
            rw [hwq]
            clear hwq wq
            cases y
            · have HV : Hid (elB x = false) := by show _ = _; rw [HV0.out, all_no pnB x.classes k hlt (by rw [Hs.out]; exact Hy.out)]; rfl
              go_wp2_with fail
              go_ret
              exact ⟨rbool HV.out.symm, B1.out⟩
            · have HN : Hid ((x.classes.take (k + 1)).all pnB = true) := all_take pnB x.classes k hlt HA.out (by rw [Hs.out]; exact Hy.out)
              go_wp2_with fail
              go_roundg (x.classes.length - (k + 1))
              case measure => omega
              case rel => exact ⟨k + 1, by omega, by congr 1, HN.out, rfl⟩
          · have h1 : (x.classes.length : Int) ≤ (k : Int) := by omega
            have HV1 : Hid (elB x = x.attrs.all (fun a => pnB a.1 && valueP a.2)) := by
              show _ = _
              have : (x.classes.take k).all pnB = x.classes.all pnB := by rw [List.take_of_length_le (by omega)]
              rw [HV0.out, ← this, HA.out]; rfl
            go_wp2_with fail
            clear c0 c1 c2 c3 c4 X2 HA HV0 C1 h4 h4' h1 hlt
            obtain ⟨wc, hwc⟩ : ∃ q, q = wr := ⟨_, rfl⟩
            subst hwc
            go_loopg [46] x.attrs.length (fun g v wr => ∃ k : Nat, k + g = x.attrs.length ∧ v = .int .i64 (k : Int) ∧ Aside ((x.attrs.take k).all (fun a => pnB a.1 && valueP a.2) = true ∧ Below w.heap.size wc wr))
            case atStart => exact ⟨0, by omega, rfl, rfl, Below.refl _ _⟩
            case round =>
              obtain ⟨m, hm, rfl, hA⟩ := hrel
              have HA : Hid ((x.attrs.take m).all (fun a => pnB a.1 && valueP a.2) = true) := hA.out.1
              have BR : Hid (Below w.heap.size wc wr) := hA.out.2
              clear hA
              have BW : Hid (Below w.heap.size w wr) := B1.out.trans (BR.out)
              have A2 : Hid (SG CAtt 2 (fun b => b < B) wr (.slice aa x.attrs.length ac) x.attrs) := A1.out.below CAtt.fair BR.out hB
              by_cases hlt : m < x.attrs.length
              · have h1 : (m : Int) < (x.attrs.length : Int) := by omega
                obtain ⟨g, o, rfl, hL, hcap⟩ := A2.out.here (by intro e; rw [e] at hlt; simp at hlt)
                obtain ⟨hgs, d0, d1, hsz, hsz1⟩ := hL.att (i := m) hlt
                obtain ⟨s, Hs⟩ : ∃ s, Hid (x.attrs[m] = s) := ⟨_, hid rfl⟩
                rw [Hs.out] at d0 d1 hsz hsz1
                clear hL
                have N2 : Hid (XA (wr.alloc (.cells #[.string s.1, .string s.2] 96)) wr.heap.size s) := heap_alloc_new wr _
                have BN : Hid (Below w.heap.size wc (wr.alloc (.cells #[.string s.1, .string s.2] 96))) := BR.out.alloc BW.out.size _
                have BV : Hid (Below w.heap.size w (wr.alloc (.cells #[.string s.1, .string s.2] 96))) := BW.out.alloc BW.out.size _
                obtain ⟨y1, Hy1⟩ : ∃ y, Hid (pnB s.1 = y) := ⟨_, hid rfl⟩
                obtain ⟨y2, Hy2⟩ : ∃ y, Hid (valueP s.2 = y) := ⟨_, hid rfl⟩
                go_upto_region 14 with fail
                generalize wr.alloc (.cells #[.string s.1, .string s.2] 96) = w3 at *
                obtain ⟨gy, Hgy⟩ : ∃ g, Hid (wr.heap.size = g) := ⟨_, hid rfl⟩
                rw [Hgy.out] at N2
                rw [Hgy.out]
                obtain ⟨n0, n1⟩ := N2.out.cs
                clear d0 d1
                go_wp2_with fail
                refine (isName_c s.1 _ (by unfold maxLen; omega)).mono ?_
                rw [Hy1.out]
                rintro e wq ⟨rfl, hwq⟩
                rw [hwq]
                clear hwq wq
                cases y1
                · have HV : Hid (elB x = false) := by show _ = _; rw [HV1.out]; exact all_no _ x.attrs m hlt (by rw [Hs.out, Hy1.out]; rfl)
                  go_wp2_with fail
                  go_ret
                  exact ⟨rbool HV.out.symm, BV.out⟩
                · go_wp2_with fail
                  refine (isAttrValue_c s.2 _ (by unfold maxLen; omega)).mono ?_
                  rw [Hy2.out]
                  rintro e wq ⟨rfl, hwq⟩
                  rw [hwq]
                  clear hwq wq
                  cases y2
                  · have HV : Hid (elB x = false) := by show _ = _; rw [HV1.out]; exact all_no _ x.attrs m hlt (by rw [Hs.out, Hy1.out, Hy2.out]; rfl)
                    go_wp2_with fail
                    go_ret
                    exact ⟨rbool HV.out.symm, BV.out⟩
                  · have HN : Hid ((x.attrs.take (m + 1)).all (fun a => pnB a.1 && valueP a.2) = true) := all_take _ x.attrs m hlt HA.out (by rw [Hs.out, Hy1.out, Hy2.out]; rfl)
                    go_wp2_with fail
                    go_roundg (x.attrs.length - (m + 1))
                    case measure => omega
                    case rel => exact ⟨m + 1, by omega, by congr 1, HN.out, BN.out⟩
              · have h1 : (x.attrs.length : Int) ≤ (m : Int) := by omega
                have HV : Hid (elB x = true) := by
                  show _ = _
                  have : (x.attrs.take m).all (fun a => pnB a.1 && valueP a.2) = x.attrs.all (fun a => pnB a.1 && valueP a.2) := by rw [List.take_of_length_le (by omega)]
                  rw [HV1.out, ← this, HA.out]
                go_wp2_with fail
                go_ret
                exact ⟨rbool HV.out.symm, BW.out⟩
theorem isPage_c (B : Nat) (p : Page) (v : Value) (w : World) (h : SG CEl 5 (fun b => b < B) w v p) (hB : B ≤ w.heap.size) :
    Calls Tryz.prog 58 #[v] w fun e w' => e = .returned (.bool (pageP p)) ∧ Below w.heap.size w w' := by
  have hl := h.len
  have HS : Hid (SG CEl 5 (fun b => b < B) w v p) := h
  obtain ⟨a, cap, rfl⟩ := h.form
  clear h
  by_cases hl1 : p.length < 1
  · have h1 : (p.length : Int) < 1 := by omega
    have HV : Hid (pageP p = false) := by show _ = _; unfold pageP; rw [decide_eq_false (by omega)]; rfl
    go_enter Tryz.func58, Tryz.ntmps58
    go_wp2_with fail
    go_ret
    exact ⟨rbool HV.out.symm, Below.refl _ _⟩
  · have h1 : (1 : Int) ≤ (p.length : Int) := by omega
    by_cases hl30 : 30 < p.length
    · have h2 : (30 : Int) < (p.length : Int) := by omega
      have HV : Hid (pageP p = false) := by show _ = _; unfold pageP; rw [decide_eq_false (p := p.length ≤ 30) (by omega)]; simp
      go_enter Tryz.func58, Tryz.ntmps58
      go_wp2_with fail
      go_ret
      exact ⟨rbool HV.out.symm, Below.refl _ _⟩
    · have h2 : (p.length : Int) ≤ 30 := by omega
      have HP : Hid (pageP p = elemsP 0 p) := by show _ = _; unfold pageP; rw [decide_eq_true (by omega), decide_eq_true (by omega)]; rfl
      clear hl1 hl30
      go_enter Tryz.func58, Tryz.ntmps58
      go_wp2_with fail
      go_loopg [15] p.length (fun g v3 wr => ∃ i : Nat, i + g = p.length ∧ v3 = .int .i64 (i : Int) ∧ Aside (elemsP 0 p = elemsP i (p.drop i) ∧ Below w.heap.size w wr))
      case atStart => exact ⟨0, by omega, rfl, rfl, Below.refl _ _⟩
      case round =>
        obtain ⟨go, hgo⟩ : ∃ go, go = gk := ⟨_, rfl⟩
        obtain ⟨i, hi, rfl, hA⟩ := hrel
        have HE : Hid (elemsP 0 p = elemsP i (p.drop i)) := hA.out.1
        have HB : Hid (Below w.heap.size w wr) := hA.out.2
        clear hA
        by_cases hlt : i < p.length
        · have h3 : (i : Int) < (p.length : Int) := by omega
          have hsz := HB.out.size
          have hS := HS.out.below CEl.fair HB.out hB
          obtain ⟨g, o, rfl, hL, hcap⟩ := hS.here (by rintro rfl; simp at hlt)
          obtain ⟨cv, av, hX⟩ := hL.el (i := i) hlt
          obtain ⟨x, hx⟩ : ∃ x, x = p[i] := ⟨_, rfl⟩
          have HE2 : Hid (pageP p = (elemP i x && elemsP (i + 1) (p.drop (i + 1)))) := by show _ = _; rw [HP.out, HE.out, elemsP_drop p i i hlt, hx]
          rw [← hx] at hX
          obtain ⟨ca, cc, rfl⟩ := hX.cl.form
          obtain ⟨aa, ac, rfl⟩ := hX.at_.form
          obtain ⟨c0, c1, c2, c3, c4⟩ : _ ∧ _ ∧ _ ∧ _ ∧ _ := ⟨hX.c0, hX.c1, hX.c2, hX.c3, hX.c4⟩
          have hclen := hX.cl.len
          have halen := hX.at_.len
          have hts := hX.tag
          have his := hX.id
          have X2 : Hid (XE (wr.alloc (.cells #[.int .i64 x.parent, .string x.tag, .string x.id, .slice ca x.classes.length cc, .slice aa x.attrs.length ac] 35)) wr.heap.size x (.slice ca x.classes.length cc) (.slice aa x.attrs.length ac)) := heap_alloc_new wr _
          have B2 : Hid (Below w.heap.size w (wr.alloc (.cells #[.int .i64 x.parent, .string x.tag, .string x.id, .slice ca x.classes.length cc, .slice aa x.attrs.length ac] 35))) := HB.out.alloc hsz _
          have C2 : Hid (SG CStr 1 (fun b => b < B) (wr.alloc (.cells #[.int .i64 x.parent, .string x.tag, .string x.id, .slice ca x.classes.length cc, .slice aa x.attrs.length ac] 35)) (.slice ca x.classes.length cc) x.classes) := hX.cl.keep CStr.fair (fun _ hg => hg) fun q hq => Below.heap_alloc _ _ _ (by omega)
          have A2 : Hid (SG CAtt 2 (fun b => b < B) (wr.alloc (.cells #[.int .i64 x.parent, .string x.tag, .string x.id, .slice ca x.classes.length cc, .slice aa x.attrs.length ac] 35)) (.slice aa x.attrs.length ac) x.attrs) := hX.at_.keep CAtt.fair (fun _ hg => hg) fun q hq => Below.heap_alloc _ _ _ (by omega)
          clear hS hL hX hx
          go_upto_region 6 with fail
          generalize wr.alloc (.cells #[.int .i64 x.parent, .string x.tag, .string x.id, .slice ca x.classes.length cc, .slice aa x.attrs.length ac] 35) = w2 at *
          generalize wr.heap.size = xb at *
          clear c0 c1 c2 c3 c4 HE
          obtain ⟨c0, c1, c2, c3, c4⟩ := X2.out.cs
          have hsz2 := B2.out.size
          obtain ⟨bp, Hbp⟩ : ∃ b, Hid (parB x.parent i = b) := ⟨_, hid rfl⟩
          obtain ⟨be, Hbe⟩ : ∃ b, Hid (elB x = b) := ⟨_, hid rfl⟩
          have HE3 : Hid (pageP p = (bp && be && elemsP (i + 1) (p.drop (i + 1)))) := by
            show _ = _
            rw [HE2.out, elemP_el, show parP i x = bp from Hbp.out, Hbe.out]
          go_wp2_with fail
          refine (isParent_c x.parent i _).mono ?_
          rw [Hbp.out]
          rintro e wq ⟨rfl, hwq⟩
          rw [hwq]
          clear hwq wq
          cases bp
          · have HV : Hid (pageP p = false) := HE3.out
            go_wp2_with fail
            go_ret
            exact ⟨rbool HV.out.symm, B2.out⟩
          · go_wp2_with fail
            refine (isElem_c B x _ _ _ C2.out A2.out hts his (by omega)).mono ?_
            rw [Hbe.out]
            rintro e wq ⟨rfl, hwq⟩
            have B3 : Hid (Below w.heap.size w wq) := B2.out.trans (hwq.mono hsz2)
            clear hwq c0 c1 c2 c3 c4 X2
            cases be
            · have HV : Hid (pageP p = false) := HE3.out
              go_wp2_with fail
              go_ret
              exact ⟨rbool HV.out.symm, B3.out⟩
            · have HT : Hid (elemsP 0 p = elemsP (i + 1) (p.drop (i + 1))) := by
                show _ = _
                rw [← HP.out, HE3.out]; rfl
              go_wp2_with fail
              go_roundg (go - 1)
              case measure => omega
              case rel => exact ⟨i + 1, by omega, by congr 1, HT.out, B3.out⟩
        · have h3 : (p.length : Int) ≤ (i : Int) := by omega
          have HV : Hid (pageP p = true) := by
            show _ = _
            rw [HP.out, HE.out, List.drop_of_length_le (by omega)]; rfl
          go_wp2_with fail
          go_ret
          exact ⟨rbool HV.out.symm, HB.out⟩
theorem bit_one (s k : Nat) (hs : s < 18446744073709551616) : (bits .and .u64 ((s : Int) / 2 ^ k) 1 == 1) = s.testBit k := by
  have h1 : (s : Int) / 2 ^ k = ((s / 2 ^ k : Nat) : Int) := by simp
  have h2 : s / 2 ^ k < 18446744073709551616 := Nat.lt_of_le_of_lt (Nat.div_le_self _ _) hs
  have h3 := bits_and_u64_nat (s / 2 ^ k) 1 h2 (by decide)
  rw [h1]
  rw [show ((1 : Nat) : Int) = 1 from rfl] at h3
  rw [h3, Nat.and_one_is_mod, Nat.testBit_eq_decide_div_mod_eq]
  by_cases h : s / 2 ^ k % 2 = 1
  · rw [h]; rfl
  · have h4 : s / 2 ^ k % 2 = 0 := by omega
    rw [h4]; rfl
def hasB (s : Nat) (e : Int) : Bool := decide (0 ≤ e) && s.testBit e.toNat
theorem PHas_c (n : Nat) (a : Option Addr) (cap : Nat) (e : Int) (w : World) :
    Calls Tryz.prog 33 #[.agg #[.slice a n cap], .int .i64 e] w fun ex w' => ex = .returned (.bool (decide (0 ≤ e) && decide (e < n))) ∧ Below w.heap.size w w' := by
  have B1 : Hid (Below w.heap.size w (w.alloc (.cells #[.slice a n cap] 66))) := (Below.refl _ _).alloc (Nat.le_refl _) _
  go_enter Tryz.func33, Tryz.ntmps33
  by_cases h0 : 0 ≤ e
  · have HV : Hid ((decide (0 ≤ e) && decide (e < (n : Int))) = decide (e < (n : Int))) := by show _ = _; rw [decide_eq_true h0]; rfl
    go_wp2_with fail
    go_ret
    exact ⟨rbool HV.out.symm, B1.out⟩
  · have h1 : e < 0 := by omega
    have HV : Hid ((decide (0 ≤ e) && decide (e < (n : Int))) = false) := by show _ = _; rw [decide_eq_false h0]; rfl
    clear h0
    go_wp2_with fail
    go_ret
    exact ⟨rbool HV.out.symm, B1.out⟩
theorem SHas_c (s : Nat) (e : Int) (w : World) (hs : s < 18446744073709551616) (he : e < 64) :
    Calls Tryz.prog 47 #[.int .u64 (s : Int), .int .i64 e] w fun ex w' => ex = .returned (.bool (hasB s e)) ∧ w' = w := by
  go_enter Tryz.func47, Tryz.ntmps47
  by_cases h0 : 0 ≤ e
  · have HV : Hid (hasB s e = (bits .and .u64 ((s : Int) / 2 ^ e.toNat) 1 == 1)) := by show _ = _; rw [bit_one s _ hs]; unfold hasB; rw [decide_eq_true h0]; rfl
    go_wp2_with fail
    go_ret
    exact ⟨rbool HV.out.symm, rfl⟩
  · have h1 : e < 0 := by omega
    have HV : Hid (hasB s e = false) := by show _ = _; unfold hasB; rw [decide_eq_false h0]; rfl
    clear h0
    go_wp2_with fail
    go_ret
    exact ⟨rbool HV.out.symm, rfl⟩
theorem Of_c (B : Nat) (p : Page) (v : Value) (w : World) (h : SG CEl 5 (fun b => b < B) w v p) (hB : B ≤ w.heap.size) :
    Calls Tryz.prog 32 #[v] w fun e w' => (∃ pv, e = .returned (.tuple #[pv, .bool (pageP p)]) ∧ (pageP p = true → pv = .agg #[v])) ∧ Below w.heap.size w w' := by
  have B1 : Hid (Below w.heap.size w (w.alloc (.cells #[.slice none 0 0] 66))) := (Below.refl _ _).alloc (Nat.le_refl _) _
  have HS : Hid (SG CEl 5 (fun b => b < B) (w.alloc (.cells #[.slice none 0 0] 66)) v p) := h.below CEl.fair B1.out hB
  have hsz := B1.out.size
  have N0 : Hid ((w.alloc (.cells #[.slice none 0 0] 66)).heap[w.heap.size]? = some (.cells #[.slice none 0 0] 66 (0, 0))) := heap_alloc_new w _
  obtain ⟨a, cap, rfl⟩ := h.form
  clear h
  obtain ⟨b, Hb⟩ : ∃ b, Hid (pageP p = b) := ⟨_, hid rfl⟩
  go_enter Tryz.func32, Tryz.ntmps32
  go_wp2_with fail
  generalize w.alloc (.cells #[.slice none 0 0] 66) = w2 at *
  refine (isPage_c B p _ _ HS.out (by omega)).mono ?_
  rw [Hb.out]
  rintro e wq ⟨rfl, hwq⟩
  have B2 : Hid (Below w.heap.size w wq) := B1.out.trans (hwq.mono hsz)
  have N1 : Hid (wq.heap[w.heap.size]? = some (.cells #[.slice none 0 0] 66 (0, 0))) := by
    show _ = _
    rw [hwq.block _ (Array.getElem?_eq_some_iff.1 N0.out).1]; exact N0.out
  have c0 : wq.cell? ⟨w.heap.size, 0, none⟩ = some (.slice none 0 0) := by unfold World.cell?; rw [N1.out]; rfl
  have f0 : wq.frozen? ⟨w.heap.size, 0, none⟩ = false := by unfold World.frozen?; rw [N1.out]; simp
  clear hwq N0 N1 HS
  cases b
  · have c1 : (wq.setCell ⟨w.heap.size, 0, none⟩ (.slice none 0 0)).cell? ⟨w.heap.size, 0, none⟩ = some (.slice none 0 0) := World.cell?_setCell_same _ _ _ c0
    have B3 : Hid (Below w.heap.size w (wq.setCell ⟨w.heap.size, 0, none⟩ (.slice none 0 0))) := B2.out.setCell (Nat.le_refl _) _
    go_wp2_with fail
    generalize wq.setCell ⟨w.heap.size, 0, none⟩ (.slice none 0 0) = w9 at *
    refine bodyPost_ret (v := .tuple #[.agg #[.slice none 0 0], .bool false]) (by simp [results, Tryz.results32, go_sem, c1]) rfl ?_
    exact ⟨⟨_, by rw [Hb.out], by rw [Hb.out]; intro h; cases h⟩, B3.out⟩
  · have c1 : (wq.setCell ⟨w.heap.size, 0, none⟩ (.slice a p.length cap)).cell? ⟨w.heap.size, 0, none⟩ = some (.slice a p.length cap) := World.cell?_setCell_same _ _ _ c0
    have B3 : Hid (Below w.heap.size w (wq.setCell ⟨w.heap.size, 0, none⟩ (.slice a p.length cap))) := B2.out.setCell (Nat.le_refl _) _
    go_wp2_with fail
    generalize wq.setCell ⟨w.heap.size, 0, none⟩ (.slice a p.length cap) = w9 at *
    refine bodyPost_ret (v := .tuple #[.agg #[.slice a p.length cap], .bool true]) (by simp [results, Tryz.results32, go_sem, c1]) rfl ?_
    exact ⟨⟨_, by rw [Hb.out], fun _ => rfl⟩, B3.out⟩
def offN (a s : Nat) : Nat := (BitVec.ofNat 64 a &&& ~~~BitVec.ofNat 64 s).toNat
theorem all_lt (n : Nat) (hn : n ≤ 30) : 2 ^ n ≤ 1073741824 := show 2 ^ n ≤ 2 ^ 30 from Nat.pow_le_pow_right (by decide) hn
theorem all_wrap (n : Nat) (hn : n ≤ 30) : IntKind.u64.wrap (IntKind.u64.wrap (2 ^ n) - 1) = ((2 ^ n - 1 : Nat) : Int) := by
  have h := all_lt n hn
  have h1 : 1 ≤ 2 ^ n := Nat.one_le_two_pow
  have e : (2 : Int) ^ n = ((2 ^ n : Nat) : Int) := by simp
  rw [e]
  generalize (2 ^ n : Nat) = m at *
  rw [IntKind.wrap_u64, IntKind.wrap_u64]
  omega
theorem All_c (n : Nat) (a : Option Addr) (cap : Nat) (w : World) (hn : n ≤ 30) :
    Calls Tryz.prog 203 #[.agg #[.slice a n cap]] w fun ex w' => ex = .returned (.int .u64 ((2 ^ n - 1 : Nat) : Int)) ∧ Below w.heap.size w w' := by
  have B1 : Hid (Below w.heap.size w (w.alloc (.cells #[.slice a n cap] 66))) := (Below.refl _ _).alloc (Nat.le_refl _) _
  have hi : (n : Int) ≤ 30 := by omega
  have HV : Hid (IntKind.u64.wrap (IntKind.u64.wrap (2 ^ n) - 1) = ((2 ^ n - 1 : Nat) : Int)) := all_wrap n hn
  go_enter Tryz.func203, Tryz.ntmps203
  go_wp2_with fail
  go_ret
  exact ⟨by rw [HV.out]; rfl, B1.out⟩
def setN (t : Nat → Bool) : Nat → Nat
  | 0 => 0
  | k + 1 => if t k then setN t k ||| 2 ^ k else setN t k
theorem setN_bit (t : Nat → Bool) (k e : Nat) : (setN t k).testBit e = (decide (e < k) && t e) := by
  induction k with
  | zero => simp [setN]
  | succ k ih =>
    unfold setN
    by_cases he : e = k
    · subst he
      cases h : t e
      · simp [ih, h]
      · simp [ih, h, Nat.testBit_or]
    · have h2 : decide (e < k + 1) = decide (e < k) := by by_cases h : e < k <;> simp [h] <;> omega
      rw [h2]
      cases h : t k
      · simp [ih]
      · have : ¬ k = e := fun h => he h.symm
        simp [ih, Nat.testBit_or, this]
theorem setN_lt (t : Nat → Bool) (k : Nat) : setN t k < 2 ^ k := by
  apply Nat.lt_pow_two_of_testBit
  intro i hi
  rw [setN_bit]
  simp; omega
theorem setN_lt64 (t : Nat → Bool) (k : Nat) (hk : k ≤ 30) : setN t k < 18446744073709551616 := by
  have := setN_lt t k
  have := all_lt k hk
  omega
theorem one_shl (k : Nat) (hk : k ≤ 30) : IntKind.u64.wrap (2 ^ k) = ((2 ^ k : Nat) : Int) := by
  have h := all_lt k hk
  have e : (2 : Int) ^ k = ((2 ^ k : Nat) : Int) := by simp
  rw [e]
  generalize (2 ^ k : Nat) = m at *
  rw [IntKind.wrap_u64]
  omega
theorem setN_or (t : Nat → Bool) (k : Nat) (hk : k < 30) (h : t k = true) : bits .or .u64 (setN t k : Int) (IntKind.u64.wrap (2 ^ k)) = (setN t (k + 1) : Int) := by
  have h1 := setN_lt64 t k (by omega)
  have h2 := all_lt k (by omega)
  rw [one_shl k (by omega), bits_or_u64_nat _ _ h1 (by omega)]
  conv => rhs; unfold setN
  rw [if_pos h]
theorem numbered_c (n : Nat) (a : Option Addr) (cap : Nat) (g : Nat) (cs : Array Value) (t : Nat → Bool) (w : World) (hn : n ≤ 30)
    (hg : ∀ (args : Array Value) (w : World), (callFunc g args).run Tryz.prog w = .ok (.enter g args) w)
    (hf : ∀ i, i < n → ∀ w', Below w.heap.size w w' → Calls Tryz.prog g (#[.int .i64 (i : Int)] ++ cs) w' fun ex w'' => ex = .returned (.bool (t i)) ∧ Below w'.heap.size w' w'') :
    Calls Tryz.prog 259 #[.agg #[.slice a n cap], .func (.func g) #[] cs] w fun ex w' => ex = .returned (.int .u64 (setN t n : Int)) ∧ Below w.heap.size w w' := by
  have B1 : Hid (Below w.heap.size w (w.alloc (.cells #[.slice a n cap] 66))) := (Below.refl _ _).alloc (Nat.le_refl _) _
  have hi : (n : Int) ≤ 30 := by omega
  have HF : Hid (∀ i, i < n → ∀ w', Below w.heap.size w w' → Calls Tryz.prog g (#[.int .i64 (i : Int)] ++ cs) w' fun ex w'' => ex = .returned (.bool (t i)) ∧ Below w'.heap.size w' w'') := hf
  clear hf
  go_enter Tryz.func259, Tryz.ntmps259
  go_wp2_with fail
  generalize w.alloc (.cells #[.slice a n cap] 66) = w2 at *
  go_loopg [5, 10] n (fun g v5 v wr => ∃ k : Nat, k + g = n ∧ v = .int .i64 (k : Int) ∧ v5 = .int .u64 (setN t k : Int) ∧ Aside (Below w.heap.size w wr))
  case atStart => exact ⟨0, by omega, rfl, rfl, B1.out⟩
  case round =>
    obtain ⟨k, hk, rfl, rfl, hA⟩ := hrel
    have HB : Hid (Below w.heap.size w wr) := hA.out
    clear hA
    have hsz := HB.out.size
    by_cases hlt : k < n
    · have h1 : (k : Int) < (n : Int) := by omega
      have hc := HF.out k hlt wr HB.out
      go_wp2_with fail
      refine hc.mono ?_
      rintro e wq ⟨rfl, hwq⟩
      have BQ : Hid (Below w.heap.size w wq) := HB.out.trans (hwq.mono hsz)
      clear hwq hc
      cases ht : t k
      · have HV : Hid (setN t k = setN t (k + 1)) := by show _ = _; conv => rhs; unfold setN
                                                        rw [ht]; rfl
        go_wp2_with fail
        go_roundg (n - (k + 1))
        case measure => omega
        case rel => exact ⟨k + 1, by omega, by congr 1, by rw [HV.out], BQ.out⟩
      · have h30 : (k : Int) < 30 := by omega
        have HV : Hid (bits .or .u64 (setN t k : Int) (IntKind.u64.wrap (2 ^ k)) = (setN t (k + 1) : Int)) := setN_or t k (by omega) ht
        go_wp2_with fail
        go_roundg (n - (k + 1))
        case measure => omega
        case rel => exact ⟨k + 1, by omega, by congr 1, by rw [HV.out], BQ.out⟩
    · have h1 : (n : Int) ≤ (k : Int) := by omega
      have HV : Hid (setN t k = setN t n) := by show _ = _; rw [show k = n by omega]
      go_wp2_with fail
      go_ret
      exact ⟨by rw [HV.out]; rfl, HB.out⟩
end Go.Proofs.YtlliliddljkbfaaGreat
