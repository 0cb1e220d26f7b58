import Derived.Test.YtlliliddljkbfaaGreatC17
import Derived.Test.YtlliliddljkbfaaGreatC30
namespace Go.Proofs.YtlliliddljkbfaaGreat
set_option maxHeartbeats 64000000
set_option maxRecDepth 100000
open Go.RowKit Sp
section
attribute [local go_sem] fld_tok fld_ins fld_kind fld_word
theorem Q6.drew {w : World} {b : Nat} {x0 x1 x2 x3 x4 x5 : Value} (h : Q6 w b x0 x1 x2 x3 x4 x5) : Q6 w.drew b x0 x1 x2 x3 x4 x5 := h
theorem may_11 (B : Nat) (p : Policy) (pa fa aa : Option Addr) (pl pc fc al ac : Nat) (wd un : ByteArray) (ka : Option Addr) (kl kc : Nat) (w : World) (hf : SG CStr 1 (fun b => b < B) w (.slice fa p.funs.length fc) p.funs) (hB : B ≤ w.heap.size) (hw : wd.size ≤ 4000000) :
    Calls Tryz.prog 189 #[polV p (.slice pa pl pc) (.slice fa p.funs.length fc) (.slice aa al ac), .agg #[.int .i64 11, .string wd, .string un, .slice ka kl kc]] w fun e w' => e = .returned (.bool (p.funs.contains (small wd))) ∧ Below w.heap.size w w' := by
  have B2 : Hid (Below w.heap.size w ((w.alloc (.cells #[.string p.root, .slice pa pl pc, .slice fa p.funs.length fc, .slice aa al ac, .bool p.cust, .bool p.texts] 82)).alloc (.cells #[.int .i64 11, .string wd, .string un, .slice ka kl kc] 199)).drew) := (two_below w _ _).drew
  have P2 : Hid (Q6 ((w.alloc (.cells #[.string p.root, .slice pa pl pc, .slice fa p.funs.length fc, .slice aa al ac, .bool p.cust, .bool p.texts] 82)).alloc (.cells #[.int .i64 11, .string wd, .string un, .slice ka kl kc] 199)).drew w.heap.size (.string p.root) (.slice pa pl pc) (.slice fa p.funs.length fc) (.slice aa al ac) (.bool p.cust) (.bool p.texts)) := (Q6.new w _ _ _ _ _ _).alloc _
  have A2 : Hid (VB ((w.alloc (.cells #[.string p.root, .slice pa pl pc, .slice fa p.funs.length fc, .slice aa al ac, .bool p.cust, .bool p.texts] 82)).alloc (.cells #[.int .i64 11, .string wd, .string un, .slice ka kl kc] 199)).drew (w.heap.size + 1) (.int .i64 11) (.string wd) (.string un) (.slice ka kl kc)) := by
    have := VB.new (w.alloc (.cells #[.string p.root, .slice pa pl pc, .slice fa p.funs.length fc, .slice aa al ac, .bool p.cust, .bool p.texts] 82)) (.int .i64 11) (.string wd) (.string un) (.slice ka kl kc)
    rw [show (w.alloc (.cells #[.string p.root, .slice pa pl pc, .slice fa p.funs.length fc, .slice aa al ac, .bool p.cust, .bool p.texts] 82)).heap.size = w.heap.size + 1 by simp] at this
    exact this
  have F2 : Hid (SG CStr 1 (fun b => b < B) ((w.alloc (.cells #[.string p.root, .slice pa pl pc, .slice fa p.funs.length fc, .slice aa al ac, .bool p.cust, .bool p.texts] 82)).alloc (.cells #[.int .i64 11, .string wd, .string un, .slice ka kl kc] 199)).drew (.slice fa p.funs.length fc) p.funs) := hf.below CStr.fair B2.out hB
  clear hf
  unfold polV
  go_enter Tryz.func189, Tryz.ntmps189
  go_wp2_with fail
  refine wp_region_any (by kernel_rfl) ?_
  change wpAny _ _ _ _ _ _ _ (World.drew _)
  generalize ((w.alloc (.cells #[.string p.root, .slice pa pl pc, .slice fa p.funs.length fc, .slice aa al ac, .bool p.cust, .bool p.texts] 82)).alloc (.cells #[.int .i64 11, .string wd, .string un, .slice ka kl kc] 199)).drew = w2 at *
  have hs2 := B2.out.size
  have HH2 : Hid (Q6 w2 w.heap.size (.string p.root) (.slice pa pl pc) (.slice fa p.funs.length fc) (.slice aa al ac) (.bool p.cust) (.bool p.texts) ∧ VB w2 (w.heap.size + 1) (.int .i64 11) (.string wd) (.string un) (.slice ka kl kc)) := ⟨P2.out, A2.out⟩
  refine wpAny_of_held (S := fun wx => Q6 wx w.heap.size (.string p.root) (.slice pa pl pc) (.slice fa p.funs.length fc) (.slice aa al ac) (.bool p.cust) (.bool p.texts) ∧ VB wx (w.heap.size + 1) (.int .i64 11) (.string wd) (.string un) (.slice ka kl kc)) _ _ _ _ ?_
  refine tkH 0 rfl HH2.out (by intro w hSw; obtain ⟨a0, a1, a2, a3, a4, a5⟩ := hSw.1.cs; go_simp; all_goals with_reducible rfl) ?_
  refine tkH 1 rfl HH2.out (by intro w hSw; obtain ⟨a0, a1, a2, a3, a4, a5⟩ := hSw.1.cs; go_simp; all_goals with_reducible rfl) ?_
  refine tkH 2 rfl HH2.out (by intro w hSw; obtain ⟨a0, a1, a2, a3, a4, a5⟩ := hSw.1.cs; go_simp; all_goals with_reducible rfl) ?_
  refine tkH 3 rfl HH2.out (by intro w hSw; obtain ⟨a0, a1, a2, a3⟩ := hSw.2.cs; go_simp; all_goals with_reducible rfl) ?_
  refine tkH 4 rfl HH2.out (by intro w hSw; obtain ⟨a0, a1, a2, a3⟩ := hSw.2.cs; go_simp; all_goals with_reducible rfl) ?_
  refine tkH 5 rfl HH2.out (by intro w hSw; obtain ⟨a0, a1, a2, a3⟩ := hSw.2.cs; go_simp; all_goals with_reducible rfl) ?_
  refine brH 6 fun K hK => ?_
  go_simp
  refine (Small_c wd _ hw).mono ?_
  rintro e w3 ⟨rfl, hb3⟩
  have B3 : Hid (Below w.heap.size w w3) := B2.out.trans (hb3.mono hs2)
  have HH3 : Hid (Q6 w3 w.heap.size (.string p.root) (.slice pa pl pc) (.slice fa p.funs.length fc) (.slice aa al ac) (.bool p.cust) (.bool p.texts) ∧ VB w3 (w.heap.size + 1) (.int .i64 11) (.string wd) (.string un) (.slice ka kl kc)) := ⟨HH2.out.1.below hb3 HH2.out.1.lt, HH2.out.2.below hb3⟩
  have F3 : Hid (SG CStr 1 (fun b => b < B) w3 (.slice fa p.funs.length fc) p.funs) := F2.out.below CStr.fair hb3 (by omega)
  clear hb3
  refine hK.out _ _ HH3.out (fun _ => ?_)
  clear hK K
  refine brH 7 fun K hK => ?_
  go_simp
  refine (has_c _ p.funs _ (small wd) w3 F3.out).mono ?_
  rintro e w4 ⟨rfl, hw4⟩
  rw [hw4]
  refine hK.out _ _ HH3.out (fun _ => ?_)
  clear hK K
  refine brH 8 fun K hK => ?_
  go_simp
  refine hK.out _ _ (HH3.out) (fun _ => ?_); clear hK K
  refine wpAnyH_done (by kernel_rfl) ?_ _
  go_wp2_with fail
  go_ret
  exact ⟨rfl, B3.out⟩
def kdT (t : Tok) : Bool := decide (1 ≤ t.kind) && decide (t.kind ≤ 15)
def kdL (l : List Nd) : Prop := anyL (fun t => !kdT t) l = false
theorem anyL_cons (g : Tok → Bool) (n : Nd) (r : List Nd) : anyL g (n :: r) = (g n.t || anyL g n.kids || anyL g r) := by
  obtain ⟨t, k⟩ := n
  conv => lhs; unfold anyL; unfold anyN
  rfl
theorem kdL_cons {n : Nd} {r : List Nd} (h : kdL (n :: r)) : kdT n.t = true ∧ kdL n.kids ∧ kdL r := by
  unfold kdL at h
  rw [anyL_cons] at h
  simp only [Bool.or_eq_false_iff, Bool.not_eq_false'] at h
  exact ⟨h.1.1, h.1.2, h.2⟩
theorem harmL_cons (p : Policy) (n : Nd) (r : List Nd) : harmL p (n :: r) = (harmT p n.t && harmL p n.kids && harmL p r) := by
  unfold harmL
  rw [anyL_cons]
  cases harmT p n.t <;> simp
theorem mayBe_c (B : Nat) (p : Policy) (pv fv av : Value) (t : Tok) (ka : Option Addr) (kl kc : Nat) (w : World) (h : PolM B w p pv fv av) (hk : kdT t = true) (hw : t.word.size ≤ 4000000) :
    Calls Tryz.prog 189 #[polV p pv fv av, nodV t (.slice ka kl kc)] w fun e w' => e = .returned (.bool (harmT p t)) ∧ Below w.heap.size w w' := by
  obtain ⟨pa, pc, rfl⟩ := h.props.form
  obtain ⟨fa, fc, rfl⟩ := h.funs.form
  obtain ⟨aa, ac, rfl⟩ := h.ats.form
  obtain ⟨kd, wd, un⟩ := t
  unfold kdT at hk
  simp only [Bool.and_eq_true, decide_eq_true_eq] at hk
  unfold nodV
  rcases (show kd = 1 ∨ kd = 2 ∨ kd = 3 ∨ kd = 4 ∨ kd = 5 ∨ kd = 6 ∨ kd = 7 ∨ kd = 8 ∨ kd = 9 ∨ kd = 10 ∨ kd = 11 ∨ kd = 12 ∨ kd = 13 ∨ kd = 14 ∨ kd = 15 by omega) with e | e | e | e | e | e | e | e | e | e | e | e | e | e | e <;> subst e
  · exact may_1 _ _ _ _ _ _ _ _ _ _ _ _ _ _ _ w
  · exact may_2 _ _ _ _ _ _ _ _ _ _ _ _ _ _ _ w
  · exact may_3 _ _ _ _ _ _ _ _ _ _ _ _ _ _ _ w
  · exact may_4 _ _ _ _ _ _ _ _ _ _ _ _ _ _ _ w
  · exact may_5 _ _ _ _ _ _ _ _ _ _ _ _ _ _ _ w
  · exact may_6 _ _ _ _ _ _ _ _ _ _ _ _ _ _ _ w
  · exact may_7 _ _ _ _ _ _ _ _ _ _ _ _ _ _ _ w
  · exact may_8 _ _ _ _ _ _ _ _ _ _ _ _ _ _ _ w
  · exact may_9 _ _ _ _ _ _ _ _ _ _ _ _ _ _ _ w
  · exact may_10 _ _ _ _ _ _ _ _ _ _ _ _ _ _ _ w
  · exact may_11 B p _ _ _ _ _ _ _ _ _ _ _ _ _ w h.funs h.lt hw
  · exact may_12 _ _ _ _ _ _ _ _ _ _ _ _ _ _ _ w
  · exact may_13 _ _ _ _ _ _ _ _ _ _ _ _ _ _ _ w
  · exact may_14 _ _ _ _ _ _ _ _ _ _ _ _ _ _ _ w
  · have e := sgB_eq ⟨15, wd, un⟩ rfl
    have e2 : harmT p ⟨15, wd, un⟩ = sgB wd := by show (!decide (closing ⟨15, wd, un⟩ = nob) || okSignW wd) = _; exact e.symm
    rw [e2]
    exact may_15 _ _ _ _ _ _ _ _ _ _ _ _ _ _ _ w
end
section
attribute [local go_sem] fld_tok fld_ins fld_kind fld_word
def HarmOK (l : List Nd) : Prop := ∀ (B : Nat) (p : Policy) (pv fv av v : Value) (w : World), PolM B w p pv fv av → Sl (fun b => b < B) w v l → kdL l → Calls Tryz.prog 117 #[polV p pv fv av, v] w fun e w' => e = .returned (.bool (harmL p l)) ∧ Below w.heap.size w w'
theorem kdL_drop : ∀ (l : List Nd) (i : Nat), kdL l → kdL (l.drop i)
  | l, 0, h => by simpa using h
  | [], i + 1, h => h
  | n :: r, i + 1, h => by simpa using kdL_drop r i (kdL_cons h).2.2
theorem IsHarmless_of (l : List Nd) (hrec : ∀ n ∈ l, HarmOK n.kids) : HarmOK l := by
  intro B p pv fv av v w hP h hkd
  have hl6 := h.len
  have hB := hP.lt
  have HS : Hid (Sl (fun b => b < B) w v l) := h
  have HR : Hid (∀ n ∈ l, HarmOK n.kids) := hrec
  have HKD : Hid (kdL l) := hkd
  obtain ⟨a, cap, rfl⟩ := h.form
  obtain ⟨pa, pc, rfl⟩ := hP.props.form
  obtain ⟨fa, fc, rfl⟩ := hP.funs.form
  obtain ⟨aa, ac, rfl⟩ := hP.ats.form
  have HP : Hid (PolM B w p (.slice pa p.props.length pc) (.slice fa p.funs.length fc) (.slice aa p.ats.length ac)) := hP
  clear h hrec hkd hP
  obtain ⟨B0, Q0⟩ := Q6.nb p pa fa aa pc fc ac w
  unfold polV
  go_enter Tryz.func117, Tryz.ntmps117
  go_upto_region 1 with fail
  have hsz0 := B0.out.size
  have hlt0 := Q0.out.lt
  generalize w.alloc (.cells #[.string p.root, .slice pa p.props.length pc, .slice fa p.funs.length fc, .slice aa p.ats.length ac, .bool p.cust, .bool p.texts] 82) = w0 at *
  obtain ⟨rb, Hrb⟩ : ∃ rb, Hid (w.heap.size = rb) := ⟨_, hid rfl⟩
  rw [Hrb.out] at B0 Q0 hB hlt0 hsz0 ⊢
  have HP0 : Hid (PolM B w0 p (.slice pa p.props.length pc) (.slice fa p.funs.length fc) (.slice aa p.ats.length ac)) := HP.out.below B0.out hB
  have HS0 : Hid (Sl (fun b => b < B) w0 (.slice a l.length cap) l) := HS.out.below B0.out hB
  clear HP HS
  go_wp2_with fail
  go_loopg [9] l.length (fun gg v9 wr => ∃ i : Nat, v9 = .int .i64 (i : Int) ∧ i + gg = l.length ∧ Aside (Below w0.heap.size w0 wr ∧ harmL p l = harmL p (l.drop i)))
  case atStart => exact ⟨0, rfl, by omega, Below.refl _ _, by simp⟩
  case round =>
    obtain ⟨i, rfl, hi, hA⟩ := hrel
    have BR : Hid (Below w0.heap.size w0 wr) := hA.out.1
    have HE : Hid (harmL p l = harmL p (l.drop i)) := hA.out.2
    clear hA
    have hsr := BR.out.size
    by_cases hlt : i < l.length
    · have h1 : (i : Int) < (l.length : Int) := by omega
      have S1 := HS0.out.below BR.out (by omega)
      obtain ⟨g, o, rfl, hL, hcap⟩ := S1.here (by rintro rfl; simp at hlt)
      obtain ⟨kv, hN⟩ := hL.node (i := i) hlt
      obtain ⟨n, hn⟩ : ∃ n, n = l[i] := ⟨_, rfl⟩
      have HM : Hid (n ∈ l) := by rw [hn]; exact List.getElem_mem _
      have Hdr : Hid (l.drop i = n :: l.drop (i + 1)) := by show _ = _; rw [hn]; exact List.drop_eq_getElem_cons hlt
      rw [← hn] at hN
      have HKS : Hid (kdT n.t = true ∧ kdL n.kids) := by
        have := kdL_drop l i HKD.out
        rw [Hdr.out] at this
        exact ⟨(kdL_cons this).1, (kdL_cons this).2.1⟩
      have HE2 : Hid (harmL p l = (harmT p n.t && harmL p n.kids && harmL p (l.drop (i + 1)))) := by show _ = _; rw [HE.out, Hdr.out, harmL_cons]
      have hwd := hN.ok.word
      have HKV : Hid (Sl (fun b => b < B) wr kv n.kids) := hN.k
      obtain ⟨ka, kc, rfl⟩ := hN.k.form
      have d0 := hN.c0
      have d1 := hN.c1
      have d2 := hN.c2
      have d3 := hN.c3
      clear hN hL S1 hn
      have A2 : Hid (VB (wr.alloc (.cells #[.int .i64 n.t.kind, .string n.t.word, .string n.t.unit, .slice ka n.kids.length kc] 199)) wr.heap.size (.int .i64 n.t.kind) (.string n.t.word) (.string n.t.unit) (.slice ka n.kids.length kc)) := VB.new _ _ _ _ _
      have X2 : Hid (Below wr.heap.size wr (wr.alloc (.cells #[.int .i64 n.t.kind, .string n.t.word, .string n.t.unit, .slice ka n.kids.length kc] 199))) := (Below.refl _ _).alloc (Nat.le_refl _) _
      go_upto_region 4 with fail
      generalize wr.alloc (.cells #[.int .i64 n.t.kind, .string n.t.word, .string n.t.unit, .slice ka n.kids.length kc] 199) = w2 at *
      obtain ⟨gt, Hgt⟩ : ∃ gt, Hid (wr.heap.size = gt) := ⟨_, hid rfl⟩
      have A3 : Hid (VB w2 gt (.int .i64 n.t.kind) (.string n.t.word) (.string n.t.unit) (.slice ka n.kids.length kc)) := by rw [← Hgt.out]; exact A2.out
      rw [Hgt.out]
      clear A2 d0 d1 d2 d3
      obtain ⟨a0, a1, a2, a3⟩ := A3.out.cs
      have B2 : Hid (Below w0.heap.size w0 w2) := BR.out.trans (X2.out.mono hsr)
      have hs2 := B2.out.size
      have Q2 := Q0.out.below B2.out hlt0
      obtain ⟨q0, q1, q2, q3, q4, q5⟩ := Q2.cs
      clear Q2
      have HMB := mayBe_c B p _ _ _ n.t ka n.kids.length kc w2 (HP0.out.below B2.out (by omega)) HKS.out.1 hwd
      obtain ⟨z, Hz⟩ : ∃ z, Hid (harmT p n.t = z) := ⟨_, hid rfl⟩
      rw [Hz.out] at HMB HE2
      unfold polV nodV at HMB
      have HMB' : Hid (Calls Tryz.prog 189 #[.agg #[.string p.root, .slice pa p.props.length pc, .slice fa p.funs.length fc, .slice aa p.ats.length ac, .bool p.cust, .bool p.texts], .agg #[.int .i64 n.t.kind, .string n.t.word, .string n.t.unit, .slice ka n.kids.length kc]] w2 fun e w' => e = .returned (.bool z) ∧ Below w2.heap.size w2 w') := HMB
      clear HMB
      go_wp2_with fail
      refine HMB'.out.mono ?_
      rintro e w3 ⟨rfl, hb3⟩
      have B3 : Hid (Below w0.heap.size w0 w3) := B2.out.trans (hb3.mono hs2)
      have A4 : Hid (VB w3 gt (.int .i64 n.t.kind) (.string n.t.word) (.string n.t.unit) (.slice ka n.kids.length kc)) := A3.out.below hb3
      have K3 : Hid (Sl (fun b => b < B) w3 (.slice ka n.kids.length kc) n.kids) := (HKV.out.below X2.out (by omega)).below hb3 (by omega)
      have hs3 := B3.out.size
      clear hb3 a0 a1 a2 a3 q0 q1 q2 q3 q4 q5 HMB'
      obtain ⟨a0, a1, a2, a3⟩ := A4.out.cs
      have Q3' := Q0.out.below B3.out hlt0
      obtain ⟨q0, q1, q2, q3, q4, q5⟩ := Q3'.cs
      clear Q3'
      cases z
      · have HV : Hid (harmL p l = false) := HE2.out
        go_wp2_with fail
        go_ret
        exact ⟨rbool HV.out.symm, by rw [Hrb.out]; exact B0.out.trans (B3.out.mono hsz0)⟩
      · have HC := HR.out n HM.out B p (.slice pa p.props.length pc) (.slice fa p.funs.length fc) (.slice aa p.ats.length ac) (.slice ka n.kids.length kc) w3 (HP0.out.below B3.out (by omega)) K3.out HKS.out.2
        obtain ⟨z2, Hz2⟩ : ∃ z, Hid (harmL p n.kids = z) := ⟨_, hid rfl⟩
        rw [Hz2.out] at HC HE2
        unfold polV at HC
        have HC' : Hid (Calls Tryz.prog 117 #[.agg #[.string p.root, .slice pa p.props.length pc, .slice fa p.funs.length fc, .slice aa p.ats.length ac, .bool p.cust, .bool p.texts], .slice ka n.kids.length kc] w3 fun e w' => e = .returned (.bool z2) ∧ Below w3.heap.size w3 w') := HC
        clear HC
        go_wp2_with fail
        refine HC'.out.mono ?_
        rintro e w4 ⟨rfl, hb4⟩
        have B4 : Hid (Below w0.heap.size w0 w4) := B3.out.trans (hb4.mono hs3)
        clear hb4 HC' a0 a1 a2 a3 q0 q1 q2 q3 q4 q5
        cases z2
        · have HV : Hid (harmL p l = false) := HE2.out
          go_wp2_with fail
          go_ret
          exact ⟨rbool HV.out.symm, by rw [Hrb.out]; exact B0.out.trans (B4.out.mono hsz0)⟩
        · have HV : Hid (harmL p l = harmL p (l.drop (i + 1))) := HE2.out
          go_wp2_with fail
          go_roundg (gk - 1)
          case measure => omega
          case rel => exact ⟨i + 1, by congr 1, by omega, B4.out, HV.out⟩
    · have h1 : (l.length : Int) ≤ (i : Int) := by omega
      have HV : Hid (harmL p l = true) := by show _ = _; rw [HE.out, List.drop_of_length_le (by omega)]; rfl
      go_wp2_with fail
      go_ret
      exact ⟨rbool HV.out.symm, by rw [Hrb.out]; exact B0.out.trans (BR.out.mono hsz0)⟩
theorem IsHarmless_to : ∀ (k : Nat) (l : List Nd), wzL l ≤ k → HarmOK l := by
  intro k
  induction k with
  | zero =>
    intro l h
    refine IsHarmless_of l fun n hn => ?_
    have := wzN_mem l n hn
    obtain ⟨t, q⟩ := n
    unfold wzN at this
    omega
  | succ k ih =>
    intro l h
    refine IsHarmless_of l fun n hn => ih _ ?_
    have := wzN_mem l n hn
    obtain ⟨t, q⟩ := n
    unfold wzN at this
    show wzL q ≤ k
    omega
theorem IsHarmless_c (l : List Nd) : HarmOK l := IsHarmless_to _ l (Nat.le_refl _)
end
section
attribute [local go_sem] fld_tok fld_ins fld_kind fld_word
section
variable (B : Nat) (p : Policy) (pv fv av : Value) (w : World)
theorem PolRoot_c (h : PolM B w p pv fv av) : Calls Tryz.prog 123 #[polV p pv fv av] w fun e w' => e = .returned (.string p.root) ∧ Below w.heap.size w w' := by
  obtain ⟨pa, pc, rfl⟩ := h.props.form
  obtain ⟨fa, fc, rfl⟩ := h.funs.form
  obtain ⟨aa, ac, rfl⟩ := h.ats.form
  have B0 : Hid (Below w.heap.size w (w.alloc (.cells #[.string p.root, .slice pa p.props.length pc, .slice fa p.funs.length fc, .slice aa p.ats.length ac, .bool p.cust, .bool p.texts] 82))) := (Below.refl _ _).alloc (Nat.le_refl _) _
  clear h
  unfold polV
  go_enter Tryz.func123, Tryz.ntmps123
  go_wp2_with fail
  go_ret
  exact ⟨rfl, B0.out⟩
theorem AtRuleMayBe_c (x : ByteArray) (h : PolM B w p pv fv av) : Calls Tryz.prog 116 #[polV p pv fv av, .string x] w fun e w' => e = .returned (.bool (p.ats.contains x)) ∧ Below w.heap.size w w' := by
  obtain ⟨pa, pc, rfl⟩ := h.props.form
  obtain ⟨fa, fc, rfl⟩ := h.funs.form
  obtain ⟨aa, ac, rfl⟩ := h.ats.form
  have B0 : Hid (Below w.heap.size w (w.alloc (.cells #[.string p.root, .slice pa p.props.length pc, .slice fa p.funs.length fc, .slice aa p.ats.length ac, .bool p.cust, .bool p.texts] 82))) := (Below.refl _ _).alloc (Nat.le_refl _) _
  have HA : Hid (SG CStr 1 (fun b => b < B) (w.alloc (.cells #[.string p.root, .slice pa p.props.length pc, .slice fa p.funs.length fc, .slice aa p.ats.length ac, .bool p.cust, .bool p.texts] 82)) (.slice aa p.ats.length ac) p.ats) := h.ats.below CStr.fair B0.out h.lt
  clear h
  unfold polV
  go_enter Tryz.func116, Tryz.ntmps116
  go_wp2_with fail
  refine (has_c _ p.ats _ x _ HA.out).mono ?_
  rintro e wq ⟨rfl, hwq⟩
  rw [hwq]
  go_wp2_with fail
  go_ret
  exact ⟨rfl, B0.out⟩
theorem PropertyMayBe_c (x : ByteArray) (h : PolM B w p pv fv av) : Calls Tryz.prog 193 #[polV p pv fv av, .string x] w fun e w' => e = .returned (.bool (if custom x = true then p.cust else p.props.contains x)) ∧ Below w.heap.size w w' := by
  obtain ⟨pa, pc, rfl⟩ := h.props.form
  obtain ⟨fa, fc, rfl⟩ := h.funs.form
  obtain ⟨aa, ac, rfl⟩ := h.ats.form
  have B0 : Hid (Below w.heap.size w (w.alloc (.cells #[.string p.root, .slice pa p.props.length pc, .slice fa p.funs.length fc, .slice aa p.ats.length ac, .bool p.cust, .bool p.texts] 82))) := (Below.refl _ _).alloc (Nat.le_refl _) _
  have HA : Hid (SG CStr 1 (fun b => b < B) (w.alloc (.cells #[.string p.root, .slice pa p.props.length pc, .slice fa p.funs.length fc, .slice aa p.ats.length ac, .bool p.cust, .bool p.texts] 82)) (.slice pa p.props.length pc) p.props) := h.props.below CStr.fair B0.out h.lt
  have Q0 : Hid (Q6 (w.alloc (.cells #[.string p.root, .slice pa p.props.length pc, .slice fa p.funs.length fc, .slice aa p.ats.length ac, .bool p.cust, .bool p.texts] 82)) w.heap.size (.string p.root) (.slice pa p.props.length pc) (.slice fa p.funs.length fc) (.slice aa p.ats.length ac) (.bool p.cust) (.bool p.texts)) := Q6.new _ _ _ _ _ _ _
  clear h
  obtain ⟨z, Hz⟩ : ∃ z, Hid (custom x = z) := ⟨_, hid rfl⟩
  rw [Hz.out]
  unfold polV
  go_enter Tryz.func193, Tryz.ntmps193
  go_wp2_with fail
  generalize w.alloc (.cells #[.string p.root, .slice pa p.props.length pc, .slice fa p.funs.length fc, .slice aa p.ats.length ac, .bool p.cust, .bool p.texts] 82) = w0 at *
  obtain ⟨q0, q1, q2, q3, q4, q5⟩ := Q0.out.cs
  refine (IsCustom_c x _).mono ?_
  rw [Hz.out]
  rintro e wq ⟨rfl, hwq⟩
  rw [hwq]
  clear hwq
  cases z
  · go_wp2_with fail
    refine (has_c _ p.props _ x _ HA.out).mono ?_
    rintro e wq ⟨rfl, hwq⟩
    rw [hwq]
    go_wp2_with fail
    go_ret
    exact ⟨rfl, B0.out⟩
  · go_wp2_with fail
    go_ret
    exact ⟨rfl, B0.out⟩
end
def lwI (c : Int) : Bool := decide (97 ≤ c) && decide (c ≤ 122)
theorem lwI_b (c : UInt8) : lwI (c.toNat : Int) = lowB c := by
  unfold lwI lowB
  rw [Bool.eq_iff_iff]; simp; omega
def ldI (c : Int) : Bool := lwI c || c == 45
theorem ldI_b (c : UInt8) : ldI (c.toNat : Int) = (lowB c || c == 45) := by
  unfold ldI
  rw [lwI_b, show (c == 45) = ((c.toNat : Int) == 45) from byteI c 45 (by omega)]
theorem isSmall_c (c : Int) (w : World) : Calls Tryz.prog 171 #[.int .u8 c] w fun e w' => e = .returned (.bool (lwI c)) ∧ w' = w := by
  go_enter Tryz.func171, Tryz.ntmps171
  go_wp2
  all_goals
    go_ret
    exact ⟨rbool (by rw [Bool.eq_iff_iff]; simp [lwI, *] <;> omega), rfl⟩
theorem isSmallOrDash_c (c : Int) (w : World) : Calls Tryz.prog 234 #[.int .u8 c] w fun e w' => e = .returned (.bool (ldI c)) ∧ w' = w := by
  cases h1 : lwI c
  all_goals
    go_enter Tryz.func234, Tryz.ntmps234
    go_wp2_with (go_at_call 171; refine (isSmall_c _ _).mono ?_; rintro e w' ⟨rfl, rfl⟩)
    go_ret
    exact ⟨rbool (by simp [ldI, h1]), rfl⟩
theorem isOf_c (s : ByteArray) (g : Nat) (f : UInt8 → Bool) (w : World) (hs : s.size ≤ 4194304)
    (hg : ∀ (args : Array Value) (w : World), (callFunc g args).run Tryz.prog w = .ok (.enter g args) w)
    (hf : ∀ (c : UInt8) (w : World), Calls Tryz.prog g (#[.int .u8 (c.toNat : Int)] ++ #[]) w fun e w' => e = .returned (.bool (f c)) ∧ w' = w) :
    Calls Tryz.prog 170 #[.string s, .func (.func g) #[] #[]] w fun e w' => e = .returned (.bool (allB f s)) ∧ w' = w := by
  have HF : Hid (∀ (c : UInt8) (w : World), Calls Tryz.prog g (#[.int .u8 (c.toNat : Int)] ++ #[]) w fun e w' => e = .returned (.bool (f c)) ∧ w' = w) := hf
  clear hf
  go_enter Tryz.func170, Tryz.ntmps170
  go_wp2_with fail
  go_loopg [8] s.size (fun gg v8 wr => ∃ k : Nat, k + gg = s.size ∧ v8 = .int .i64 (k : Int) ∧ Aside (allTo f s k = true ∧ wr = w))
  case atStart => exact ⟨0, by omega, rfl, rfl, rfl⟩
  case round =>
    obtain ⟨k, hk, rfl, hA⟩ := hrel
    have HA : Hid (allTo f s k = true) := hA.out.1
    obtain rfl := hA.out.2
    clear hA
    by_cases hlt : k < s.size
    · have h1 : (k : Int) < (s.size : Int) := by omega
      have hix := index_pk s k hlt
      rw [pk_bt hlt, bt_in hlt] at hix
      have HC := HF.out s[k] wr
      obtain ⟨z, Hz⟩ : ∃ z, Hid (f s[k] = z) := ⟨_, hid rfl⟩
      rw [Hz.out] at HC
      have HC' : Hid (Calls Tryz.prog g (#[.int .u8 (s[k].toNat : Int)] ++ #[]) wr fun e w' => e = .returned (.bool z) ∧ w' = wr) := HC
      clear HC
      go_wp2_with fail
      refine HC'.out.mono ?_
      rintro e wq ⟨rfl, hwq⟩
      rw [hwq]
      clear hwq
      cases z
      · have HV : Hid (allB f s = false) := allTo_false f hlt Hz.out
        go_wp2_with fail
        go_ret
        exact ⟨rbool HV.out.symm, rfl⟩
      · have HN : Hid (allTo f s (k + 1) = true) := by show _ = _; rw [allTo_succ f hlt, HA.out, Hz.out]; rfl
        go_wp2_with fail
        go_roundg (gk - 1)
        case measure => omega
        case rel => exact ⟨k + 1, by omega, by congr 1, HN.out, rfl⟩
    · have h1 : (s.size : Int) ≤ (k : Int) := by omega
      have HV : Hid (allB f s = true) := by
        show _ = _
        rw [← allTo_all]
        have : k = s.size := by omega
        rw [← this]; exact HA.out
      go_wp2_with fail
      go_ret
      exact ⟨rbool HV.out.symm, rfl⟩
end
section
attribute [local go_sem] fld_tok fld_ins fld_kind fld_word
theorem IndexFunc_c (zs : List ByteArray) (v : Value) (g : Nat) (f : ByteArray → Bool) (S : Nat → Prop) (w : World) (h : SG CStr 1 S w v zs)
    (hg : ∀ (args : Array Value) (w : World), (callFunc g args).run Tryz.prog w = .ok (.enter g args) w)
    (hf : ∀ (x : ByteArray) (w : World), x.size ≤ 4194304 → Calls Tryz.prog g (#[.string x] ++ #[]) w fun e w' => e = .returned (.bool (f x)) ∧ w' = w) :
    Calls Tryz.prog 91 #[v, .func (.func g) #[] #[]] w fun e w' => ∃ i : Int, e = .returned (.int .i64 i) ∧ decide (0 ≤ i) = zs.any f ∧ w' = w := by
  have hl := h.len
  have HS : Hid (SG CStr 1 S w v zs) := h
  have HF : Hid (∀ (x : ByteArray) (w : World), x.size ≤ 4194304 → Calls Tryz.prog g (#[.string x] ++ #[]) w fun e w' => e = .returned (.bool (f x)) ∧ w' = w) := hf
  obtain ⟨a, cap, rfl⟩ := h.form
  clear h hf
  go_enter Tryz.func91, Tryz.ntmps91
  go_wp2_with fail
  go_loopg [8] zs.length (fun gg v8 wr => ∃ k : Nat, k + gg = zs.length ∧ v8 = .int .i64 (k : Int) ∧ Aside (zs.any f = (zs.drop k).any f ∧ wr = w))
  case atStart => exact ⟨0, by omega, rfl, by simp, rfl⟩
  case round =>
    obtain ⟨k, hk, rfl, hA⟩ := hrel
    have HA : Hid (zs.any f = (zs.drop k).any f) := hA.out.1
    obtain rfl := hA.out.2
    clear hA
    by_cases hlt : k < zs.length
    · have h1 : (k : Int) < (zs.length : Int) := by omega
      obtain ⟨g', o, rfl, hL, hcap⟩ := HS.out.here (by rintro rfl; simp at hlt)
      obtain ⟨_, c0, hxs⟩ := hL.str (i := k) hlt
      have HA2 : Hid (zs.any f = (f zs[k] || (zs.drop (k + 1)).any f)) := by show _ = _; rw [HA.out, List.drop_eq_getElem_cons hlt]; rfl
      generalize zs[k] = x at *
      have HC := HF.out x wr hxs
      obtain ⟨z, Hz⟩ : ∃ z, Hid (f x = z) := ⟨_, hid rfl⟩
      rw [Hz.out] at HC HA2
      have HC' : Hid (Calls Tryz.prog g (#[.string x] ++ #[]) wr fun e w' => e = .returned (.bool z) ∧ w' = wr) := HC
      clear HC hL
      go_wp2_with fail
      refine HC'.out.mono ?_
      rintro e wq ⟨rfl, hwq⟩
      rw [hwq]
      clear hwq
      cases z
      · go_wp2_with fail
        go_roundg (gk - 1)
        case measure => omega
        case rel => exact ⟨k + 1, by omega, by congr 1, HA2.out, rfl⟩
      · have HV : Hid (zs.any f = true) := HA2.out
        go_wp2_with fail
        go_ret
        exact ⟨_, rfl, by rw [HV.out]; exact decide_eq_true (by omega), rfl⟩
    · have h1 : (zs.length : Int) ≤ (k : Int) := by omega
      have HV : Hid (zs.any f = false) := by show _ = _; rw [HA.out, List.drop_of_length_le (by omega)]; rfl
      go_wp2_with fail
      go_ret
      exact ⟨_, rfl, by rw [HV.out]; rfl, rfl⟩
theorem ContainsFunc_c (zs : List ByteArray) (v : Value) (g : Nat) (f : ByteArray → Bool) (S : Nat → Prop) (w : World) (h : SG CStr 1 S w v zs)
    (hg : ∀ (args : Array Value) (w : World), (callFunc g args).run Tryz.prog w = .ok (.enter g args) w)
    (hf : ∀ (x : ByteArray) (w : World), x.size ≤ 4194304 → Calls Tryz.prog g (#[.string x] ++ #[]) w fun e w' => e = .returned (.bool (f x)) ∧ w' = w) :
    Calls Tryz.prog 59 #[v, .func (.func g) #[] #[]] w fun e w' => e = .returned (.bool (zs.any f)) ∧ w' = w := by
  have HI : Hid (Calls Tryz.prog 91 #[v, .func (.func g) #[] #[]] w fun e w' => ∃ i : Int, e = .returned (.int .i64 i) ∧ decide (0 ≤ i) = zs.any f ∧ w' = w) := IndexFunc_c zs v g f S w h hg hf
  obtain ⟨a, cap, rfl⟩ := h.form
  clear h hf hg
  go_enter Tryz.func59, Tryz.ntmps59
  go_wp2_with fail
  refine HI.out.mono ?_
  rintro e wq ⟨i, rfl, hi, hwq⟩
  rw [hwq]
  have HV : Hid (decide (0 ≤ i) = zs.any f) := hi
  clear hi hwq
  go_wp2_with fail
  go_ret
  exact ⟨rbool HV.out, rfl⟩
theorem isRoot_c (s : ByteArray) (w : World) (hs : s.size ≤ 4194304) : Calls Tryz.prog 106 #[.string s] w fun e w' => e = .returned (.bool (allB lowB s && decide (s.size ≤ 12))) ∧ w' = w := by
  have HO : Hid (Calls Tryz.prog 170 #[.string s, .func (.func 171) #[] #[]] w fun e w' => e = .returned (.bool (allB lowB s)) ∧ w' = w) :=
    isOf_c s 171 lowB w hs (fun _ _ => rfl) (fun c w => by rw [← lwI_b]; exact isSmall_c _ w)
  by_cases h12 : s.size ≤ 12
  · have h1 : (s.size : Int) ≤ 12 := by omega
    have HV : Hid ((allB lowB s && decide (s.size ≤ 12)) = allB lowB s) := by show _ = _; rw [decide_eq_true h12]; exact Bool.and_true _
    clear h12
    rw [HV.out]
    generalize allB lowB s = z at *
    go_enter Tryz.func106, Tryz.ntmps106
    go_wp2_with fail
    refine HO.out.mono ?_
    rintro e wq ⟨rfl, hwq⟩
    rw [hwq]
    go_wp2_with fail
    go_ret
    exact ⟨rfl, rfl⟩
  · have h1 : (12 : Int) < (s.size : Int) := by omega
    have HV : Hid ((allB lowB s && decide (s.size ≤ 12)) = false) := by show _ = _; rw [decide_eq_false h12]; exact Bool.and_false _
    clear h12 HO
    rw [HV.out]
    go_enter Tryz.func106, Tryz.ntmps106
    go_wp2_with fail
    go_ret
    exact ⟨rfl, rfl⟩
def noNm (s : ByteArray) : Bool := !polName s
theorem isNoName_c (s : ByteArray) (w : World) (hs : s.size ≤ 4194304) : Calls Tryz.prog 172 #[.string s] w fun e w' => e = .returned (.bool (noNm s)) ∧ w' = w := by
  have HO : Hid (Calls Tryz.prog 170 #[.string s, .func (.func 234) #[] #[]] w fun e w' => e = .returned (.bool (allB (fun c => lowB c || c == 45) s)) ∧ w' = w) :=
    isOf_c s 234 (fun c => lowB c || c == 45) w hs (fun _ _ => rfl) (fun c w => by rw [← ldI_b]; exact isSmallOrDash_c _ w)
  have HN : Hid (noNm s = !(allB (fun c => lowB c || c == 45) s && decide (1 ≤ s.size) && decide (s.size ≤ 30))) := rfl
  by_cases he : s.toList = []
  · have hz : s.size = 0 := by rw [bytes_toList] at he; rw [← size_list, he]; rfl
    have HV : Hid (noNm s = true) := by show _ = _; rw [HN.out, decide_eq_false (show ¬ 1 ≤ s.size by omega)]; simp
    clear hz HO HN
    go_enter Tryz.func172, Tryz.ntmps172
    go_wp2_with fail
    go_ret
    exact ⟨rbool HV.out.symm, rfl⟩
  · have hz : 1 ≤ s.size := by
      rcases Nat.eq_zero_or_pos s.size with h | h
      · exact absurd (by rw [bytes_toList]; exact List.eq_nil_of_length_eq_zero (by rw [size_list]; exact h)) he
      · exact h
    have hie : s.toList.isEmpty = false := by cases hq : s.toList with | nil => exact absurd hq he | cons _ _ => rfl
    by_cases h30 : s.size ≤ 30
    · have h1 : (s.size : Int) ≤ 30 := by omega
      have HV : Hid (noNm s = !(allB (fun c => lowB c || c == 45) s)) := by show _ = _; rw [HN.out, decide_eq_true hz, decide_eq_true h30]; simp
      clear h30 hz HN
      generalize allB (fun c => lowB c || c == 45) s = z at *
      go_enter Tryz.func172, Tryz.ntmps172
      go_wp2_with fail
      refine HO.out.mono ?_
      rintro e wq ⟨rfl, hwq⟩
      rw [hwq]
      go_wp2_with fail
      go_ret
      exact ⟨rbool (by rw [HV.out, decide_eq_false (by omega)]; rfl), rfl⟩
    · have h1 : (30 : Int) < (s.size : Int) := by omega
      have HV : Hid (noNm s = true) := by show _ = _; rw [HN.out, decide_eq_false h30]; simp
      clear h30 hz HN HO
      go_enter Tryz.func172, Tryz.ntmps172
      go_wp2_with fail
      go_ret
      exact ⟨rbool HV.out.symm, rfl⟩
def dashB (s : ByteArray) : Bool := pk s 0 == 45
theorem dash_pre (s : ByteArray) : Lib.hasPrefix s.data.toList [45] = dashB s := by
  have h := pre_drop s [45] 0
  rw [List.drop_zero] at h
  unfold Lib.hasPrefix
  rw [h]
  show (pk s 0 == 45 && true) = _
  rw [Bool.and_true]
  rfl
theorem beginsWithDash_c (s : ByteArray) (w : World) : Calls Tryz.prog 108 #[.string s] w fun e w' => e = .returned (.bool (dashB s)) ∧ w' = w := by
  have HV : Hid (Lib.hasPrefix s.data.toList [45] = dashB s) := dash_pre s
  go_enter Tryz.func108, Tryz.ntmps108
  go_wp2_with fail
  refine (Tryz.strings_HasPrefix s ⟨#[45]⟩ w).mono ?_
  rintro e wq ⟨rfl, hwq⟩
  rw [hwq]
  go_wp2_with fail
  go_ret
  exact ⟨rbool HV.out, rfl⟩
def nmsB (zs : List ByteArray) : Bool := decide (zs.length ≤ 20) && zs.all polName
theorem all_not (zs : List ByteArray) : (!zs.any noNm) = zs.all polName := by
  rw [List.not_any_eq_all_not]
  congr 1
  funext s
  unfold noNm
  exact Bool.not_not _
theorem areNames_c (S : Nat → Prop) (zs : List ByteArray) (v : Value) (w : World) (h : SG CStr 1 S w v zs) : Calls Tryz.prog 107 #[v] w fun e w' => e = .returned (.bool (nmsB zs)) ∧ w' = w := by
  have hl := h.len
  have HC : Hid (Calls Tryz.prog 59 #[v, .func (.func 172) #[] #[]] w fun e w' => e = .returned (.bool (zs.any noNm)) ∧ w' = w) :=
    ContainsFunc_c zs v 172 noNm S w h (fun _ _ => rfl) (fun x w hx => isNoName_c x w hx)
  obtain ⟨a, cap, rfl⟩ := h.form
  clear h
  by_cases h20 : zs.length ≤ 20
  · have h1 : (zs.length : Int) ≤ 20 := by omega
    have HV : Hid (nmsB zs = !zs.any noNm) := by show _ = _; unfold nmsB; rw [decide_eq_true h20, all_not]; rfl
    clear h20
    generalize zs.any noNm = z at *
    go_enter Tryz.func107, Tryz.ntmps107
    go_wp2_with fail
    refine HC.out.mono ?_
    rintro e wq ⟨rfl, hwq⟩
    rw [hwq]
    go_wp2_with fail
    go_ret
    exact ⟨rbool HV.out.symm, rfl⟩
  · have h1 : (20 : Int) < (zs.length : Int) := by omega
    have HV : Hid (nmsB zs = false) := by show _ = _; unfold nmsB; rw [decide_eq_false h20]; rfl
    clear h20 HC
    go_enter Tryz.func107, Tryz.ntmps107
    go_wp2_with fail
    go_ret
    exact ⟨rbool HV.out.symm, rfl⟩
end
end Go.Proofs.YtlliliddljkbfaaGreat
