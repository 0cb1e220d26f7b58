import Derived.Test.YtlliliddljkbfaaGreatC13
import Derived.Test.YtlliliddljkbfaaGreatC50
import Derived.Test.YtlliliddljkbfaaGreatC52
namespace Go.Proofs.YtlliliddljkbfaaGreat
set_option maxHeartbeats 64000000
set_option maxRecDepth 100000
open Go.RowKit Sp
theorem tokCells_k : ∀ (ts : List Tok) (j : Nat) (hj : j < ts.length), (tokCells ts)[j * 3]? = some (.int .i64 ts[j].kind) ∧ (tokCells ts)[j * 3 + 1]? = some (.string ts[j].word) ∧ (tokCells ts)[j * 3 + 2]? = some (.string ts[j].unit)
  | t :: r, 0, _ => by simp [tokCells]
  | t :: r, j + 1, hj => by
    have h := tokCells_k r j (by simpa using hj)
    have e1 : (j + 1) * 3 = (((j * 3) + 1) + 1) + 1 := by omega
    simp only [tokCells, e1, List.cons_append, List.nil_append, List.getElem?_cons_succ, List.getElem_cons_succ]
    exact ⟨h.1, h.2.1, h.2.2⟩
theorem tok_at {w : World} {base g cap : Nat} {ts : List Tok} (h : w.ownsRow base 93 3 (.slice (some ⟨g, 0, none⟩) ts.length cap) ts.length (tokCells ts)) (j : Nat) (hj : j < ts.length) :
    w.cell? ⟨g, j * 3, none⟩ = some (.int .i64 ts[j].kind) ∧ w.cell? ⟨g, j * 3 + 1, none⟩ = some (.string ts[j].word) ∧ w.cell? ⟨g, j * 3 + 2, none⟩ = some (.string ts[j].unit) := by
  obtain ⟨h1, h2, h3⟩ := tokCells_k ts j hj
  have c := fun q u hu => h.cells (g := g) rfl q u hu
  simp only [Addr.add_lit, Nat.zero_add] at c
  exact ⟨c _ _ h1, c _ _ h2, c _ _ h3⟩
structure QStep (p : Policy) (att : Int) (kd : Int) (wd : ByteArray) (r : List Tok) : Prop where
  no : kd ≠ 12 ∧ kd ≠ 13 ∧ kd ≠ 3 ∧ kd ≠ 8 ∧ kd ≠ 9
  txt : kd = 2 → ¬ (p.texts = false ∧ att = 0) ∧ quietF p att r = true
  at_ : kd = 10 → p.ats.contains (small wd) = true ∧ quietF p att r = true
  fn : kd = 11 → (p.funs.contains (small wd) = true ∨ small wd = nNot ∨ small wd = nIs ∨ small wd = nNth) ∧ quietF p att r = true
  sg : kd = 15 → quietF p (if wd = b1 91 then att + 1 else if wd = b1 93 then att - 1 else att) r = true
  rest : kd ≠ 2 → kd ≠ 10 → kd ≠ 11 → kd ≠ 15 → quietF p att r = true
theorem quiet_step {p : Policy} {att kd : Int} {wd un : ByteArray} {r : List Tok} (h : quietF p att (⟨kd, wd, un⟩ :: r) = true) : QStep p att kd wd r := by
  unfold quietF at h
  simp only at h
  split at h
  · cases h
  · rename_i h0
    refine ⟨by omega, fun e => ?_, fun e => ?_, fun e => ?_, fun e => ?_, fun e1 e2 e3 e4 => ?_⟩
    · rw [if_pos e] at h
      split at h
      · cases h
      · rename_i h1; exact ⟨h1, h⟩
    · rw [if_neg (by omega), if_pos e] at h
      split at h
      · rename_i h1; exact ⟨h1, h⟩
      · cases h
    · rw [if_neg (by omega), if_neg (by omega), if_pos e] at h
      split at h
      · rename_i h1; exact ⟨h1, h⟩
      · cases h
    · rw [if_neg (by omega), if_neg (by omega), if_neg (by omega), if_pos e] at h
      exact h
    · rw [if_neg e1, if_neg e2, if_neg e3, if_neg e4] at h
      exact h
theorem quiet_c (p : Policy) (pv fv av : Value) (B : Nat) (o : ByteArray) (w : World) (hP : PolM B w p pv fv av) (hl : Lit w) (ho : o.size ≤ 600) (hq : quietF p 0 (toks (Sp.clean o)) = true) :
    Calls Tryz.prog 21 #[.string o, polV p pv fv av] w fun e w' => e = .returned (.bool true) ∧ Below w.heap.size w w' := by
  obtain ⟨pa, pc, rfl⟩ := hP.props.form
  obtain ⟨fa, fc, rfl⟩ := hP.funs.form
  obtain ⟨aa, ac, rfl⟩ := hP.ats.form
  have HP := hid hP
  have HL := hid hl
  have hcs := clean_size o
  have HTO : Hid (∀ t ∈ toks (Sp.clean o), TokOK t) := toks_ok (by omega)
  have htn : (toks (Sp.clean o)).length ≤ 600 := by have := toks_n (Sp.clean o); omega
  obtain ⟨ts, HT⟩ : ∃ ts, Hid (toks (Sp.clean o) = ts) := ⟨_, hid rfl⟩
  have HQ := hid hq
  rw [HT.out] at HTO htn HQ
  clear hP hl hq
  unfold polV
  go_enter Tryz.func21, Tryz.ntmps21
  go_wp2_with fail
  generalize hw0 : World.alloc _ _ = w0
  obtain ⟨q0, hb0⟩ := one_of hw0
  obtain ⟨n, Hn⟩ : ∃ x, Hid (w.heap.size = x) := ⟨_, hid rfl⟩
  rw [Hn.out] at q0
  rw [Hn.out]
  have Q0 : Hid (w0.heap[n]? = _) := q0
  have B0 : Hid (Below w.heap.size w w0) := hb0
  clear hw0 q0 hb0
  refine (Tokens_short o w0 ho (HL.out.below B0.out).glob (HL.out.below B0.out).pos).mono ?_
  rw [HT.out]
  rintro e w1 ⟨v, rfl, hown, hb1⟩
  have HO : Hid (w1.ownsRow w0.heap.size 93 3 v ts.length (tokCells ts)) := hown
  have Q1 : Hid (w1.heap[n]? = _) := (hb1.block n (Array.getElem?_eq_some_iff.1 Q0.out).1).trans Q0.out
  have B1 : Hid (Below w.heap.size w w1) := B0.out.trans (hb1.mono B0.out.size)
  have P1 : Hid (PolM B w1 p (.slice pa p.props.length pc) (.slice fa p.funs.length fc) (.slice aa p.ats.length ac)) := HP.out.below B1.out HP.out.lt
  obtain ⟨va, vc, rfl⟩ := own_form hown
  clear hown hb1 HP Q0 B0
  have hs1 := B1.out.size
  go_wp2_with fail
  go_loopg [7, 8] ts.length (fun gg v7 v8 wr => ∃ (k : Nat) (att : Int), k + gg = ts.length ∧ v8 = .int .i64 (k : Int) ∧ v7 = .int .i64 att ∧ -(k : Int) ≤ att ∧ att ≤ (k : Int) ∧ Aside (quietF p att (ts.drop k) = true ∧ Below w1.heap.size w1 wr))
  case atStart => exact ⟨0, 0, by omega, rfl, rfl, by omega, by omega, by simpa using HQ.out, Below.refl _ _⟩
  case round =>
    obtain ⟨k, att, hk, rfl, rfl, ha1, ha2, hA⟩ := hrel
    have HR : Hid (Below w1.heap.size w1 wr) := hA.out.2
    have HQk : Hid (quietF p att (ts.drop k) = true) := hA.out.1
    clear hA
    by_cases hlt : k < ts.length
    · have h1 : (k : Int) < (ts.length : Int) := by omega
      obtain ⟨g, rfl⟩ : ∃ g, va = some ⟨g, 0, none⟩ := by
        rcases HO.out.2 with ⟨_, h⟩ | ⟨g, cap, cur, h, _⟩
        · omega
        · cases h; exact ⟨g, rfl⟩
      have HOr : Hid (wr.ownsRow w0.heap.size 93 3 (.slice (some ⟨g, 0, none⟩) ts.length vc) ts.length (tokCells ts)) := own_next HO.out HR.out
      obtain ⟨t0, t1, t2⟩ := tok_at HOr.out k hlt
      have HK : Hid (quietF p att (ts[k] :: ts.drop (k + 1)) = true) := by show _ = _; rw [← List.drop_eq_getElem_cons hlt]; exact HQk.out
      have hok := HTO.out ts[k] (List.getElem_mem hlt)
      generalize ts[k] = t at *
      obtain ⟨kd, wd, un⟩ := t
      simp only at t0 t1 t2
      have hwd : wd.size ≤ 4000000 := hok.word
      clear hok
      go_upto_region 9 with fail
      generalize hw2 : World.alloc _ _ = w2
      obtain ⟨q2, hb2⟩ := one_of hw2
      have k0 := (cells_at q2 0).trans rfl
      have k1 := (cells_at q2 1).trans rfl
      obtain ⟨m, Hm⟩ : ∃ x, Hid (wr.heap.size = x) := ⟨_, hid rfl⟩
      rw [Hm.out] at k0 k1
      rw [Hm.out]
      have hwr := HR.out.size
      have R2 : Hid (Below w1.heap.size w1 w2) := HR.out.trans (hb2.mono hwr)
      have Q2 : Hid (w2.heap[n]? = _) := (R2.out.block n (Array.getElem?_eq_some_iff.1 Q1.out).1).trans Q1.out
      have c2 := (cells_at Q2.out 2).trans rfl
      have c3 := (cells_at Q2.out 3).trans rfl
      have c5 := (cells_at Q2.out 5).trans rfl
      have P2 : Hid (PolM B w2 p (.slice pa p.props.length pc) (.slice fa p.funs.length fc) (.slice aa p.ats.length ac)) := P1.out.below R2.out P1.out.lt
      have HS := hid (quiet_step HK.out)
      clear hw2 q2 hb2 t0 t1 t2 HOr HK HQk HR
      by_cases e2 : kd = 2
      · subst e2
        have HX : Hid (¬ (p.texts = false ∧ att = 0)) := (HS.out.txt rfl).1
        have HN : Hid (quietF p att (ts.drop (k + 1)) = true) := (HS.out.txt rfl).2
        obtain ⟨tx, Htx⟩ : ∃ b, Hid (p.texts = b) := ⟨_, hid rfl⟩
        rw [Htx.out] at c5 HX
        cases tx
        · have ea : (att == 0) = false := by
            have := HX.out
            simp at this
            simpa using this
          go_wp2_with fail
          go_roundg (gk - 1)
          case measure => omega
          case rel => exact ⟨k + 1, att, by omega, by congr 1, rfl, by omega, by omega, HN.out, R2.out⟩
        · go_wp2_with fail
          go_roundg (gk - 1)
          case measure => omega
          case rel => exact ⟨k + 1, att, by omega, by congr 1, rfl, by omega, by omega, HN.out, R2.out⟩
      by_cases e10 : kd = 10
      · subst e10
        have HX : Hid (p.ats.contains (small wd) = true) := (HS.out.at_ rfl).1
        have HN : Hid (quietF p att (ts.drop (k + 1)) = true) := (HS.out.at_ rfl).2
        go_wp2_with fail
        refine wp_region_any (by kernel_rfl) ?_
        change wpAny _ _ _ _ _ _ _ (World.drew _)
        obtain ⟨wz, hwz⟩ : ∃ x, World.drew w2 = x := ⟨_, rfl⟩
        have hz : Below w2.heap.size w2 wz := by rw [← hwz]; exact (Below.refl _ _).drew
        rw [hwz]
        have hw2s := R2.out.size
        have RZ : Hid (Below w1.heap.size w1 wz) := R2.out.trans (hz.mono hw2s)
        have PZ : Hid (PolM B wz p (.slice pa p.props.length pc) (.slice fa p.funs.length fc) (.slice aa p.ats.length ac)) := P2.out.below hz P2.out.lt
        have SZ : Hid (wz.cell? ⟨n, 3, none⟩ = some (.slice aa p.ats.length ac) ∧ wz.cell? ⟨m, 1, none⟩ = some (.string wd)) := ⟨cell_next c3 hz, cell_next k1 hz⟩
        clear hz hwz
        refine wpAny_of_held (S := fun wx => wx.cell? ⟨n, 3, none⟩ = some (.slice aa p.ats.length ac) ∧ wx.cell? ⟨m, 1, none⟩ = some (.string wd)) _ _ _ _ ?_
        refine tkH 0 rfl SZ.out (by intro w hSw; obtain ⟨z3, z1⟩ := hSw; go_simp; all_goals with_reducible rfl) ?_
        refine tkH 1 rfl SZ.out (by intro w hSw; obtain ⟨z3, z1⟩ := hSw; go_simp; all_goals with_reducible rfl) ?_
        refine tkH 2 rfl SZ.out (by intro w hSw; obtain ⟨z3, z1⟩ := hSw; go_simp; all_goals with_reducible rfl) ?_
        refine tkH 3 rfl SZ.out (by intro w hSw; obtain ⟨z3, z1⟩ := hSw; go_simp; all_goals with_reducible rfl) ?_
        refine brH 4 fun K hK => ?_
        go_simp
        refine (lower_k wd wz hwd).mono ?_
        rintro e w3 ⟨rfl, hb3⟩
        have hwzs := RZ.out.size
        have R3 : Hid (Below w1.heap.size w1 w3) := RZ.out.trans (hb3.mono hwzs)
        have P3 : Hid (PolM B w3 p (.slice pa p.props.length pc) (.slice fa p.funs.length fc) (.slice aa p.ats.length ac)) := PZ.out.below hb3 PZ.out.lt
        have S3 : Hid (w3.cell? ⟨n, 3, none⟩ = some (.slice aa p.ats.length ac) ∧ w3.cell? ⟨m, 1, none⟩ = some (.string wd)) := ⟨cell_next SZ.out.1 hb3, cell_next SZ.out.2 hb3⟩
        clear hb3
        refine hK.out _ _ S3.out (fun _ => ?_)
        clear hK K
        refine brH 5 fun K hK => ?_
        go_simp
        refine (within_c p.ats _ (small wd) _ w3 P3.out.ats).mono ?_
        rw [HX.out]
        rintro e wq ⟨rfl, hwq⟩
        rw [hwq]
        clear hwq
        refine hK.out _ _ S3.out (fun _ => ?_)
        clear hK K
        refine brH 6 fun K hK => ?_
        go_simp
        refine hK.out _ _ (S3.out) (fun _ => ?_); clear hK K
        refine wpAnyH_done (by kernel_rfl) ?_ _
        go_wp2_with fail
        go_roundg (gk - 1)
        case measure => omega
        case rel => exact ⟨k + 1, att, by omega, by congr 1, rfl, by omega, by omega, HN.out, R3.out⟩
      by_cases e11 : kd = 11
      · subst e11
        have HX : Hid (p.funs.contains (small wd) = true ∨ small wd = nNot ∨ small wd = nIs ∨ small wd = nNth) := (HS.out.fn rfl).1
        have HN : Hid (quietF p att (ts.drop (k + 1)) = true) := (HS.out.fn rfl).2
        go_wp2_with fail
        refine (lower_k wd w2 hwd).mono ?_
        rintro e w3 ⟨rfl, hb3⟩
        have hw2s := R2.out.size
        have R3 : Hid (Below w1.heap.size w1 w3) := R2.out.trans (hb3.mono hw2s)
        have P3 : Hid (PolM B w3 p (.slice pa p.props.length pc) (.slice fa p.funs.length fc) (.slice aa p.ats.length ac)) := P2.out.below hb3 P2.out.lt
        have c23 := cell_next c2 hb3
        clear hb3
        obtain ⟨y, Hy⟩ : ∃ y, Hid (small wd = y) := ⟨_, hid rfl⟩
        rw [Hy.out] at HX
        rw [Hy.out]
        go_wp2_with fail
        refine (within_c p.funs _ y _ w3 P3.out.funs).mono ?_
        obtain ⟨z, Hz⟩ : ∃ z, Hid (p.funs.contains y = z) := ⟨_, hid rfl⟩
        rw [Hz.out] at HX
        rw [Hz.out]
        rintro e wq ⟨rfl, hwq⟩
        rw [hwq]
        clear hwq
        cases z
        · rcases HX.out with h | h | h | h
          · cases h
          · have h' : y = ⟨#[110, 111, 116]⟩ := h
            clear h HX Hy Hz
            subst h'
            go_wp2_with fail
            go_roundg (gk - 1)
            case measure => omega
            case rel => exact ⟨k + 1, att, by omega, by congr 1, rfl, by omega, by omega, HN.out, R3.out⟩
          · have h' : y = ⟨#[105, 115]⟩ := h
            clear h HX Hy Hz
            subst h'
            go_wp2_with fail
            go_roundg (gk - 1)
            case measure => omega
            case rel => exact ⟨k + 1, att, by omega, by congr 1, rfl, by omega, by omega, HN.out, R3.out⟩
          · have h' : y = ⟨#[110, 116, 104, 45, 99, 104, 105, 108, 100]⟩ := h
            clear h HX Hy Hz
            subst h'
            go_wp2_with fail
            go_roundg (gk - 1)
            case measure => omega
            case rel => exact ⟨k + 1, att, by omega, by congr 1, rfl, by omega, by omega, HN.out, R3.out⟩
        · go_wp2_with fail
          go_roundg (gk - 1)
          case measure => omega
          case rel => exact ⟨k + 1, att, by omega, by congr 1, rfl, by omega, by omega, HN.out, R3.out⟩
      by_cases e15 : kd = 15
      · subst e15
        have HN : Hid (quietF p (if wd = b1 91 then att + 1 else if wd = b1 93 then att - 1 else att) (ts.drop (k + 1)) = true) := HS.out.sg rfl
        by_cases w91 : wd = b1 91
        · have HN2 : Hid (quietF p (att + 1) (ts.drop (k + 1)) = true) := by have := HN.out; rw [if_pos w91] at this; exact this
          have w91' : wd = ⟨#[91]⟩ := w91
          clear w91 HN HS
          subst w91'
          go_wp2_with fail
          go_roundg (gk - 1)
          case measure => omega
          case rel => exact ⟨k + 1, att + 1, by omega, by congr 1, rfl, by omega, by omega, HN2.out, R2.out⟩
        · by_cases w93 : wd = b1 93
          · have HN2 : Hid (quietF p (att - 1) (ts.drop (k + 1)) = true) := by have := HN.out; rw [if_neg w91, if_pos w93] at this; exact this
            have w93' : wd = ⟨#[93]⟩ := w93
            clear w91 w93 HN HS
            subst w93'
            go_wp2_with fail
            go_roundg (gk - 1)
            case measure => omega
            case rel => exact ⟨k + 1, att - 1, by omega, by congr 1, rfl, by omega, by omega, HN2.out, R2.out⟩
          · have HN2 : Hid (quietF p att (ts.drop (k + 1)) = true) := by have := HN.out; rw [if_neg w91, if_neg w93] at this; exact this
            have n91 : (wd.toList == [91]) = false := by rw [bytes_lit]; exact decide_eq_false w91
            have n93 : (wd.toList == [93]) = false := by rw [bytes_lit]; exact decide_eq_false w93
            clear w91 w93 HN
            go_wp2_with fail
            go_roundg (gk - 1)
            case measure => omega
            case rel => exact ⟨k + 1, att, by omega, by congr 1, rfl, by omega, by omega, HN2.out, R2.out⟩
      · have hno := HS.out.no
        have HN : Hid (quietF p att (ts.drop (k + 1)) = true) := HS.out.rest e2 e10 e11 e15
        have g2 : (kd == 2) = false := by simpa using e2
        have g10 : (kd == 10) = false := by simpa using e10
        have g11 : (kd == 11) = false := by simpa using e11
        have g15 : (kd == 15) = false := by simpa using e15
        have g12 : (kd == 12) = false := by simpa using hno.1
        have g13 : (kd == 13) = false := by simpa using hno.2.1
        have g3 : (kd == 3) = false := by simpa using hno.2.2.1
        have g8 : (kd == 8) = false := by simpa using hno.2.2.2.1
        have g9 : (kd == 9) = false := by simpa using hno.2.2.2.2
        clear hno e2 e10 e11 e15
        go_wp2_with fail
        go_roundg (gk - 1)
        case measure => omega
        case rel => exact ⟨k + 1, att, by omega, by congr 1, rfl, by omega, by omega, HN.out, R2.out⟩
    · have h1 : (ts.length : Int) ≤ (k : Int) := by omega
      go_wp2_with fail
      go_ret
      exact ⟨rfl, B1.out.trans (HR.out.mono hs1)⟩
end Go.Proofs.YtlliliddljkbfaaGreat
