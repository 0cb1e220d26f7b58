import Derived.Test.YtlliliddljkbfaaGreatC38
namespace Go.Proofs.YtlliliddljkbfaaGreat
set_option maxHeartbeats 64000000
set_option maxRecDepth 100000
open Go.RowKit Sp
def atrO (p : Policy) (at_ : ByteArray) (has : Bool) (hd : List Nd) (ro : ByteArray) : ByteArray :=
  if (has && p.ats.contains (small at_) && harmL p hd) = true then braO (b1 64 ++ (nameO (small at_) ++ headO (bare hd))) ro else nob
def BodyOK (p : Policy) (pv fv av : Value) (rs : List Rule) (ro : ByteArray) (w : World) : Prop := ∀ (u : Value) (w' : World), Below w.heap.size w w' → SG CRule 4 (fun b => b < w'.heap.size) w' u rs → Calls Tryz.prog 41 #[polV p pv fv av, u] w' fun e w'' => e = .returned (.string ro) ∧ Below w'.heap.size w' w''
theorem atRule_c (B : Nat) (p : Policy) (pv fv av : Value) (at_ : ByteArray) (has : Bool) (hd bl : List Nd) (hv bv : Value) (ro : ByteArray) (w : World) (hP : PolM B w p pv fv av) (hH : Sl (fun b => b < B) w hv hd) (hBl : Sl (fun b => b < B) w bv bl)
    (hat : at_.size ≤ 4000000) (hkd : kdL hd) (hwz : wzL (bare hd) ≤ 274877906944) (hro : ro.size ≤ 549755813888) (hR : has = true → p.ats.contains (small at_) = true → harmL p hd = true → BodyOK p pv fv av (rules false bl) ro w) :
    Calls Tryz.prog 70 #[polV p pv fv av, .agg #[.string at_, hv, .bool has, bv]] w fun e w' => e = .returned (.string (atrO p at_ has hd ro)) ∧ Below w.heap.size w w' := by
  have hB := hP.lt
  obtain ⟨pa, pc, rfl⟩ := hP.props.form
  obtain ⟨fa, fc, rfl⟩ := hP.funs.form
  obtain ⟨aa, ac, rfl⟩ := hP.ats.form
  obtain ⟨ha, hc, rfl⟩ := hH.form
  obtain ⟨ba, bc, rfl⟩ := hBl.form
  have HKD : Hid (kdL hd) := hkd
  have HR : Hid (has = true → p.ats.contains (small at_) = true → harmL p hd = true → BodyOK p (.slice pa p.props.length pc) (.slice fa p.funs.length fc) (.slice aa p.ats.length ac) (rules false bl) ro w) := hR
  have B1 : Hid (Below w.heap.size w ((w.alloc (.cells #[.string p.root, .slice pa p.props.length pc, .slice fa p.funs.length fc, .slice aa p.ats.length ac, .bool p.cust, .bool p.texts] 82)).alloc (.cells #[.string at_, .slice ha hd.length hc, .bool has, .slice ba bl.length bc] 130))) := two_below _ _ _
  have Q1 : Hid (Q6 ((w.alloc (.cells #[.string p.root, .slice pa p.props.length pc, .slice fa p.funs.length fc, .slice aa p.ats.length ac, .bool p.cust, .bool p.texts] 82)).alloc (.cells #[.string at_, .slice ha hd.length hc, .bool has, .slice ba bl.length bc] 130)) w.heap.size (.string p.root) (.slice pa p.props.length pc) (.slice fa p.funs.length fc) (.slice aa p.ats.length ac) (.bool p.cust) (.bool p.texts)) := (Q6.new w _ _ _ _ _ _).alloc _
  have R1 : Hid (Q4 130 ((w.alloc (.cells #[.string p.root, .slice pa p.props.length pc, .slice fa p.funs.length fc, .slice aa p.ats.length ac, .bool p.cust, .bool p.texts] 82)).alloc (.cells #[.string at_, .slice ha hd.length hc, .bool has, .slice ba bl.length bc] 130)) (w.heap.size + 1) (.string at_) (.slice ha hd.length hc) (.bool has) (.slice ba bl.length bc)) := by
    have := Q4.new 130 (w.alloc (.cells #[.string p.root, .slice pa p.props.length pc, .slice fa p.funs.length fc, .slice aa p.ats.length ac, .bool p.cust, .bool p.texts] 82)) (.string at_) (.slice ha hd.length hc) (.bool has) (.slice ba bl.length bc)
    rw [show (w.alloc (.cells #[.string p.root, .slice pa p.props.length pc, .slice fa p.funs.length fc, .slice aa p.ats.length ac, .bool p.cust, .bool p.texts] 82)).heap.size = w.heap.size + 1 by simp] at this
    exact this
  have HP1 : Hid (PolM B ((w.alloc (.cells #[.string p.root, .slice pa p.props.length pc, .slice fa p.funs.length fc, .slice aa p.ats.length ac, .bool p.cust, .bool p.texts] 82)).alloc (.cells #[.string at_, .slice ha hd.length hc, .bool has, .slice ba bl.length bc] 130)) p (.slice pa p.props.length pc) (.slice fa p.funs.length fc) (.slice aa p.ats.length ac)) := hP.below B1.out hB
  have HH1 : Hid (Sl (fun b => b < B) ((w.alloc (.cells #[.string p.root, .slice pa p.props.length pc, .slice fa p.funs.length fc, .slice aa p.ats.length ac, .bool p.cust, .bool p.texts] 82)).alloc (.cells #[.string at_, .slice ha hd.length hc, .bool has, .slice ba bl.length bc] 130)) (.slice ha hd.length hc) hd) := hH.below B1.out hB
  have HB1 : Hid (Sl (fun b => b < B) ((w.alloc (.cells #[.string p.root, .slice pa p.props.length pc, .slice fa p.funs.length fc, .slice aa p.ats.length ac, .bool p.cust, .bool p.texts] 82)).alloc (.cells #[.string at_, .slice ha hd.length hc, .bool has, .slice ba bl.length bc] 130)) (.slice ba bl.length bc) bl) := hBl.below B1.out hB
  clear hP hH hBl hkd hR
  obtain ⟨sm, Hsm⟩ : ∃ sm, Hid (small at_ = sm) := ⟨_, hid rfl⟩
  have hsms : sm.size ≤ 4000000 := by rw [← Hsm.out, small_sz]; exact hat
  unfold polV
  go_enter Tryz.func70, Tryz.ntmps70
  go_upto_region 1 with fail
  generalize (w.alloc (.cells #[.string p.root, .slice pa p.props.length pc, .slice fa p.funs.length fc, .slice aa p.ats.length ac, .bool p.cust, .bool p.texts] 82)).alloc (.cells #[.string at_, .slice ha hd.length hc, .bool has, .slice ba bl.length bc] 130) = w1 at *
  have hs1 := B1.out.size
  obtain ⟨a0, a1, a2, a3⟩ := R1.out.cs
  go_wp2_with fail
  refine (Small_c at_ w1 hat).mono ?_
  rw [Hsm.out]
  rintro e w2 ⟨rfl, hb2⟩
  have X2 : Hid (Below w1.heap.size w1 w2) := hb2
  have B2 : Hid (Below w.heap.size w w2) := B1.out.trans (hb2.mono hs1)
  have hs2 := hb2.size
  have Q2 : Hid (Q6 w2 w.heap.size (.string p.root) (.slice pa p.props.length pc) (.slice fa p.funs.length fc) (.slice aa p.ats.length ac) (.bool p.cust) (.bool p.texts)) := Q1.out.below hb2 Q1.out.lt
  have R2 : Hid (Q4 130 w2 (w.heap.size + 1) (.string at_) (.slice ha hd.length hc) (.bool has) (.slice ba bl.length bc)) := R1.out.below hb2
  clear hb2 a0 a1 a2 a3
  obtain ⟨a0, a1, a2, a3⟩ := R2.out.cs
  obtain ⟨q0, q1, q2, q3, q4, q5⟩ := Q2.out.cs
  have HDF : Hid (atrO p at_ has hd ro = if (has && p.ats.contains sm && harmL p hd) = true then braO (b1 64 ++ (nameO sm ++ headO (bare hd))) ro else nob) := by show _ = _; unfold atrO; rw [Hsm.out]
  rw [Hsm.out] at HR
  cases has
  · have HV : Hid (atrO p at_ false hd ro = nob) := HDF.out
    go_wp2_with fail
    go_ret
    exact ⟨retS HV.out.symm, B2.out⟩
  · have C1 := AtRuleMayBe_c B p _ _ _ w2 sm (HP1.out.below X2.out (by omega))
    unfold polV at C1
    obtain ⟨z1, Hz1⟩ : ∃ z, Hid (p.ats.contains sm = z) := ⟨_, hid rfl⟩
    rw [Hz1.out] at C1 HDF HR
    have C1' : Hid (Calls Tryz.prog 116 #[.agg #[.string p.root, .slice pa p.props.length pc, .slice fa p.funs.length fc, .slice aa p.ats.length ac, .bool p.cust, .bool p.texts], .string sm] w2 fun e w' => e = .returned (.bool z1) ∧ Below w2.heap.size w2 w') := C1
    clear C1
    go_wp2_with fail
    refine C1'.out.mono ?_
    rintro e w3 ⟨rfl, hb3⟩
    have X3 : Hid (Below w1.heap.size w1 w3) := X2.out.trans (hb3.mono hs2)
    have B3 : Hid (Below w.heap.size w w3) := B1.out.trans (X3.out.mono hs1)
    have hs3 := X3.out.size
    have Q3' : Hid (Q6 w3 w.heap.size (.string p.root) (.slice pa p.props.length pc) (.slice fa p.funs.length fc) (.slice aa p.ats.length ac) (.bool p.cust) (.bool p.texts)) := Q2.out.below hb3 Q2.out.lt
    have R3 : Hid (Q4 130 w3 (w.heap.size + 1) (.string at_) (.slice ha hd.length hc) (.bool true) (.slice ba bl.length bc)) := R2.out.below hb3
    clear hb3 a0 a1 a2 a3 q0 q1 q2 q3 q4 q5 C1'
    obtain ⟨a0, a1, a2, a3⟩ := R3.out.cs
    obtain ⟨q0, q1, q2, q3, q4, q5⟩ := Q3'.out.cs
    cases z1
    · have HV : Hid (atrO p at_ true hd ro = nob) := HDF.out
      go_wp2_with fail
      go_ret
      exact ⟨retS HV.out.symm, B3.out⟩
    · have C2 := IsHarmless_c hd B p (.slice pa p.props.length pc) (.slice fa p.funs.length fc) (.slice aa p.ats.length ac) (.slice ha hd.length hc) w3 (HP1.out.below X3.out (by omega)) (HH1.out.below X3.out (by omega)) HKD.out
      unfold polV at C2
      obtain ⟨z2, Hz2⟩ : ∃ z, Hid (harmL p hd = z) := ⟨_, hid rfl⟩
      rw [Hz2.out] at C2 HDF HR
      have C2' : Hid (Calls Tryz.prog 117 #[.agg #[.string p.root, .slice pa p.props.length pc, .slice fa p.funs.length fc, .slice aa p.ats.length ac, .bool p.cust, .bool p.texts], .slice ha hd.length hc] w3 fun e w' => e = .returned (.bool z2) ∧ Below w3.heap.size w3 w') := C2
      clear C2
      go_wp2_with fail
      refine C2'.out.mono ?_
      rintro e w4 ⟨rfl, hb4⟩
      have X4 : Hid (Below w1.heap.size w1 w4) := X3.out.trans (hb4.mono hs3)
      have B4 : Hid (Below w.heap.size w w4) := B1.out.trans (X4.out.mono hs1)
      have hs4 := X4.out.size
      have Q4' : Hid (Q6 w4 w.heap.size (.string p.root) (.slice pa p.props.length pc) (.slice fa p.funs.length fc) (.slice aa p.ats.length ac) (.bool p.cust) (.bool p.texts)) := Q3'.out.below hb4 Q3'.out.lt
      have R4 : Hid (Q4 130 w4 (w.heap.size + 1) (.string at_) (.slice ha hd.length hc) (.bool true) (.slice ba bl.length bc)) := R3.out.below hb4
      clear hb4 a0 a1 a2 a3 q0 q1 q2 q3 q4 q5 C2'
      cases z2
      · have HV : Hid (atrO p at_ true hd ro = nob) := HDF.out
        go_wp2_with fail
        go_ret
        exact ⟨retS HV.out.symm, B4.out⟩
      · have HV : Hid (atrO p at_ true hd ro = braO (b1 64 ++ (nameO sm ++ headO (bare hd))) ro) := HDF.out
        have HRR : Hid (BodyOK p (.slice pa p.props.length pc) (.slice fa p.funs.length fc) (.slice aa p.ats.length ac) (rules false bl) ro w) := HR.out (by first | rfl | trivial) (by first | rfl | trivial) (by first | rfl | trivial)
        have hhs : (b1 64 ++ (nameO sm ++ headO (bare hd))).size ≤ 274894906947 := by
          have h1 := nameO_size sm
          have h2 := headO_size (bare hd)
          rw [ByteArray.size_append, ByteArray.size_append]
          show 1 + _ ≤ _
          omega
        have HH4 : Hid (Q6 w4.drew w.heap.size (.string p.root) (.slice pa p.props.length pc) (.slice fa p.funs.length fc) (.slice aa p.ats.length ac) (.bool p.cust) (.bool p.texts) ∧ Q4 130 w4.drew (w.heap.size + 1) (.string at_) (.slice ha hd.length hc) (.bool true) (.slice ba bl.length bc)) := ⟨Q4'.out.drew, R4.out⟩
        have X4D : Hid (Below w1.heap.size w1 w4.drew) := X4.out.drew
        have B4D : Hid (Below w.heap.size w w4.drew) := B4.out.drew
        go_wp2_with fail
        refine wp_region_any (by kernel_rfl) ?_
        change wpAny _ _ _ _ _ _ _ (World.drew _)
        refine wpAny_of_held (S := fun wx => Q6 wx w.heap.size (.string p.root) (.slice pa p.props.length pc) (.slice fa p.funs.length fc) (.slice aa p.ats.length ac) (.bool p.cust) (.bool p.texts) ∧ Q4 130 wx (w.heap.size + 1) (.string at_) (.slice ha hd.length hc) (.bool true) (.slice ba bl.length bc)) _ _ _ _ ?_
        refine tkH 0 rfl HH4.out (by intro w hSw; skip; go_simp; all_goals with_reducible rfl) ?_
        refine tkH 1 rfl HH4.out (by intro w hSw; obtain ⟨a0, a1, a2, a3⟩ := hSw.2.cs; go_simp; all_goals with_reducible rfl) ?_
        refine tkH 2 rfl HH4.out (by intro w hSw; obtain ⟨a0, a1, a2, a3⟩ := hSw.2.cs; go_simp; all_goals with_reducible rfl) ?_
        refine tkH 5 rfl HH4.out (by intro w hSw; obtain ⟨a0, a1, a2, a3, a4, a5⟩ := hSw.1.cs; go_simp; all_goals with_reducible rfl) ?_
        refine tkH 6 rfl HH4.out (by intro w hSw; obtain ⟨a0, a1, a2, a3⟩ := hSw.2.cs; go_simp; all_goals with_reducible rfl) ?_
        refine tkH 7 rfl HH4.out (by intro w hSw; obtain ⟨a0, a1, a2, a3⟩ := hSw.2.cs; go_simp; all_goals with_reducible rfl) ?_
        refine brH 3 fun K hK => ?_
        go_simp
        refine (Trim_c B hd _ w4.drew (HH1.out.below X4D.out (by omega))).mono ?_
        rintro e w5 ⟨v5, rfl, hS5, hw5⟩
        subst hw5
        obtain ⟨ta, tc, rfl⟩ := hS5.form
        have HS5 : Hid (Sl (fun b => b < B) w4.drew (.slice ta (bare hd).length tc) (bare hd)) := hS5
        clear hS5
        refine hK.out _ _ HH4.out (fun _ => ?_)
        clear hK K
        refine brH 4 fun K hK => ?_
        go_simp
        refine (atHead_c B sm (bare hd) _ w4.drew HS5.out (by show B ≤ w4.heap.size; omega) hsms (by omega)).mono ?_
        obtain ⟨ho, Hho⟩ : ∃ ho, Hid (b1 64 ++ (nameO sm ++ headO (bare hd)) = ho) := ⟨_, hid rfl⟩
        rw [Hho.out] at HV hhs
        rw [Hho.out]
        rintro e w6 ⟨rfl, hb6⟩
        have X6 : Hid (Below w1.heap.size w1 w6) := X4D.out.trans (hb6.mono hs4)
        have B6 : Hid (Below w.heap.size w w6) := B1.out.trans (X6.out.mono hs1)
        have hs6 := X6.out.size
        have HH6 : Hid (Q6 w6 w.heap.size (.string p.root) (.slice pa p.props.length pc) (.slice fa p.funs.length fc) (.slice aa p.ats.length ac) (.bool p.cust) (.bool p.texts) ∧ Q4 130 w6 (w.heap.size + 1) (.string at_) (.slice ha hd.length hc) (.bool true) (.slice ba bl.length bc)) := ⟨HH4.out.1.below hb6 HH4.out.1.lt, HH4.out.2.below hb6⟩
        clear hb6
        refine hK.out _ _ HH6.out (fun _ => ?_)
        clear hK K
        refine brH 8 fun K hK => ?_
        go_simp
        refine (rulesBody_c B bl _ w6 (HB1.out.below X6.out (by omega)) (by omega)).mono ?_
        rintro e w7 ⟨u7, rfl, hsg7, hb7⟩
        obtain ⟨ra, rc, rfl⟩ := hsg7.form
        have B7 : Hid (Below w.heap.size w w7) := B6.out.trans (hb7.mono (by omega))
        have hs7 := B7.out.size
        have HH7 : Hid (Q6 w7 w.heap.size (.string p.root) (.slice pa p.props.length pc) (.slice fa p.funs.length fc) (.slice aa p.ats.length ac) (.bool p.cust) (.bool p.texts) ∧ Q4 130 w7 (w.heap.size + 1) (.string at_) (.slice ha hd.length hc) (.bool true) (.slice ba bl.length bc)) := ⟨HH6.out.1.below hb7 HH6.out.1.lt, HH6.out.2.below hb7⟩
        have C7 := HRR.out _ w7 B7.out hsg7
        unfold polV at C7
        have C7' : Hid (Calls Tryz.prog 41 #[.agg #[.string p.root, .slice pa p.props.length pc, .slice fa p.funs.length fc, .slice aa p.ats.length ac, .bool p.cust, .bool p.texts], .slice ra (rules false bl).length rc] w7 fun e w'' => e = .returned (.string ro) ∧ Below w7.heap.size w7 w'') := C7
        clear hb7 hsg7 C7
        refine hK.out _ _ HH7.out (fun _ => ?_)
        clear hK K
        refine brH 9 fun K hK => ?_
        go_simp
        refine C7'.out.mono ?_
        rintro e w8 ⟨rfl, hb8⟩
        have B8 : Hid (Below w.heap.size w w8) := B7.out.trans (hb8.mono hs7)
        have hs8 := B8.out.size
        have HH8 : Hid (Q6 w8 w.heap.size (.string p.root) (.slice pa p.props.length pc) (.slice fa p.funs.length fc) (.slice aa p.ats.length ac) (.bool p.cust) (.bool p.texts) ∧ Q4 130 w8 (w.heap.size + 1) (.string at_) (.slice ha hd.length hc) (.bool true) (.slice ba bl.length bc)) := ⟨HH7.out.1.below hb8 HH7.out.1.lt, HH7.out.2.below hb8⟩
        clear hb8 C7'
        refine hK.out _ _ HH8.out (fun _ => ?_)
        clear hK K
        refine brH 10 fun K hK => ?_
        go_simp
        refine (braced_c ho ro w8 (by omega)).mono ?_
        rintro e w9 ⟨rfl, hb9⟩
        have B9 : Hid (Below w.heap.size w w9) := B8.out.trans (hb9.mono hs8)
        have HH9 : Hid (Q6 w9 w.heap.size (.string p.root) (.slice pa p.props.length pc) (.slice fa p.funs.length fc) (.slice aa p.ats.length ac) (.bool p.cust) (.bool p.texts) ∧ Q4 130 w9 (w.heap.size + 1) (.string at_) (.slice ha hd.length hc) (.bool true) (.slice ba bl.length bc)) := ⟨HH8.out.1.below hb9 HH8.out.1.lt, HH8.out.2.below hb9⟩
        clear hb9
        refine hK.out _ _ HH9.out (fun _ => ?_)
        clear hK K
        refine brH 11 fun K hK => ?_
        go_simp
        refine hK.out _ _ (HH9.out) (fun _ => ?_); clear hK K
        refine wpAnyH_done (by kernel_rfl) ?_ _
        go_wp2_with fail
        go_ret
        exact ⟨retS HV.out.symm, B9.out⟩
theorem BodyOK.later {p : Policy} {pv fv av : Value} {rs : List Rule} {ro : ByteArray} {w w' : World} (h : BodyOK p pv fv av rs ro w) (hb : Below w.heap.size w w') : BodyOK p pv fv av rs ro w' := fun u w'' hb2 hs => h u w'' (hb.trans (hb2.mono hb.size)) hs
def rulO [DecI] (p : Policy) (rec : List Nd → ByteArray) (r : Rule) : ByteArray := match r.at_ with | some x => atrO p x r.body.isSome r.head (rec (r.body.getD [])) | none => styO p r.head (r.body.getD [])
structure RulOK (p : Policy) (pv fv av : Value) (rec : List Nd → ByteArray) (w : World) (r : Rule) : Prop where
  okh : okNs r.head
  kdh : kdL r.head
  body : r.at_ = none → r.body.isSome = true
  wz : wzL (bare r.head) ≤ 274877906944
  sel : ∀ ss, sels r.head = some ss → zL ss ≤ 274877906944
  dk : r.at_ = none → ∀ d ∈ decls (r.body.getD []), kdL d.val
  dz : r.at_ = none → dzs (decls (r.body.getD [])) ≤ 274877906944
  rsz : (rec (r.body.getD [])).size ≤ 549755813888
  rok : ∀ x b, r.at_ = some x → r.body = some b → BodyOK p pv fv av (rules false b) (rec b) w
theorem RulOK.later {p : Policy} {pv fv av : Value} {rec : List Nd → ByteArray} {w w' : World} {r : Rule} (h : RulOK p pv fv av rec w r) (hb : Below w.heap.size w w') : RulOK p pv fv av rec w' r := ⟨h.okh, h.kdh, h.body, h.wz, h.sel, h.dk, h.dz, h.rsz, fun x b h1 h2 => (h.rok x b h1 h2).later hb⟩
theorem LG.rul {S : Nat → Prop} {w : World} {l : List Rule} {g o i : Nat} (h : LG CRule 4 S w l g o) (hi : i < l.length) : S g ∧ ∃ hv bv bl, w.cell? ⟨g, o + i * 4, none⟩ = some (.string (l[i].at_.getD nob)) ∧ w.cell? ⟨g, o + i * 4 + 1, none⟩ = some hv ∧ w.cell? ⟨g, o + i * 4 + 2, none⟩ = some (.bool l[i].body.isSome) ∧ w.cell? ⟨g, o + i * 4 + 3, none⟩ = some bv ∧ Sl S w hv l[i].head ∧ Sl S w bv bl ∧ (∀ b, l[i].body = some b → bl = b) ∧ (∀ x, l[i].at_ = some x → x ≠ nob ∧ x.size ≤ 4000000) := by
  obtain ⟨h0, cs, ⟨hv, bv, bl, rfl, hs, hp, hb, ha⟩, hc⟩ := h.at l g o i hi
  refine ⟨h0, hv, bv, bl, ?_, hc 1 _ rfl, hc 2 _ rfl, hc 3 _ rfl, hs, hp, hb, ha⟩
  have := hc 0 _ rfl
  rwa [Nat.add_zero] at this
theorem ruleCall_c [DecI] (B : Nat) (p : Policy) (pv fv av : Value) (rec : List Nd → ByteArray) (r : Rule) (hv bv : Value) (bl : List Nd) (w : World) (hP : PolM B w p pv fv av) (hH : Sl (fun b => b < B) w hv r.head) (hBl : Sl (fun b => b < B) w bv bl) (hb : ∀ b, r.body = some b → bl = b) (ha : ∀ x, r.at_ = some x → x ≠ nob ∧ x.size ≤ 4000000)
    (hI : ItoaOK w) (hds : DecSz) (hpr : allB lowB p.root = true) (hp12 : p.root.size ≤ 12) (h : RulOK p pv fv av rec w r) :
    (r.at_ = none → Calls Tryz.prog 71 #[polV p pv fv av, .agg #[.string nob, hv, .bool r.body.isSome, bv]] w fun e w' => e = .returned (.string (rulO p rec r)) ∧ Below w.heap.size w w') ∧
    (∀ x, r.at_ = some x → Calls Tryz.prog 70 #[polV p pv fv av, .agg #[.string x, hv, .bool r.body.isSome, bv]] w fun e w' => e = .returned (.string (rulO p rec r)) ∧ Below w.heap.size w w') := by
  constructor
  · intro hn
    have hbs := h.body hn
    obtain ⟨b, hbb⟩ := Option.isSome_iff_exists.1 hbs
    have hdk := h.dk hn
    have hdz := h.dz hn
    have e := hb b hbb
    subst e
    rw [hbb] at hdk hdz
    have hv : rulO p rec r = styO p r.head bl := by unfold rulO; rw [hn, hbb]; rfl
    rw [hv]
    exact styleRule_c B p pv fv av nob r.body.isSome r.head bl _ bv w hP hH hBl hI hds hpr hp12 h.okh h.sel hdk hdz
  · intro x hx
    have hx2 := ha x hx
    have hv : rulO p rec r = atrO p x r.body.isSome r.head (rec (r.body.getD [])) := by unfold rulO; rw [hx]
    rw [hv]
    refine atRule_c B p pv fv av x r.body.isSome r.head bl _ bv (rec (r.body.getD [])) w hP hH hBl hx2.2 h.kdh h.wz h.rsz (fun hs _ _ => ?_)
    obtain ⟨b, hbb⟩ := Option.isSome_iff_exists.1 hs
    have e := hb b hbb
    subst e
    rw [hbb]
    exact h.rok x bl hx hbb
theorem washRules_c [DecI] (B : Nat) (p : Policy) (pv fv av : Value) (rec : List Nd → ByteArray) (rs : List Rule) (v : Value) (w : World) (hP : PolM B w p pv fv av) (h : SG CRule 4 (fun b => b < B) w v rs)
    (hI : ItoaOK w) (hds : DecSz) (hpr : allB lowB p.root = true) (hp12 : p.root.size ≤ 12) (hr : ∀ r ∈ rs, RulOK p pv fv av rec w r) (ht : total (rs.map (rulO p rec)) ≤ 1099511627776) :
    Calls Tryz.prog 41 #[polV p pv fv av, v] w fun e w' => e = .returned (.string (joinB (rs.map (rulO p rec)))) ∧ Below w.heap.size w w' := by
  have hB := hP.lt
  have hrl := h.len
  obtain ⟨a, cap, rfl⟩ := h.form
  obtain ⟨pa, pc, rfl⟩ := hP.props.form
  obtain ⟨fa, fc, rfl⟩ := hP.funs.form
  obtain ⟨aa, ac, rfl⟩ := hP.ats.form
  have HR : Hid (∀ r ∈ rs, RulOK p (.slice pa p.props.length pc) (.slice fa p.funs.length fc) (.slice aa p.ats.length ac) rec w r) := hr
  have HII : Hid (ItoaOK w) := hI
  have HDS : Hid DecSz := hds
  have HPR : Hid (allB lowB p.root = true ∧ p.root.size ≤ 12) := ⟨hpr, hp12⟩
  have HT : Hid (total (rs.map (rulO p rec)) ≤ 1099511627776) := ht
  obtain ⟨iS, hiS⟩ := info_str
  have HI : Hid (Tryz.prog.info? 9 = some iS ∧ iS.zero = some (.string ⟨#[]⟩) ∧ iS.size = 1 ∧ iS.bytes = 16) := hiS
  clear hiS hr hI hds hpr hp12 ht
  obtain ⟨B0, Q0⟩ := Q6.nb p pa fa aa pc fc ac w
  have HP0 : Hid (PolM B (w.alloc (.cells #[.string p.root, .slice pa p.props.length pc, .slice fa p.funs.length fc, .slice aa p.ats.length ac, .bool p.cust, .bool p.texts] 82)) p (.slice pa p.props.length pc) (.slice fa p.funs.length fc) (.slice aa p.ats.length ac)) := hP.below B0.out hB
  have HS0 : Hid (SG CRule 4 (fun b => b < B) (w.alloc (.cells #[.string p.root, .slice pa p.props.length pc, .slice fa p.funs.length fc, .slice aa p.ats.length ac, .bool p.cust, .bool p.texts] 82)) (.slice a rs.length cap) rs) := h.below CRule.fair B0.out hB
  clear hP h
  unfold polV
  go_enter Tryz.func41, Tryz.ntmps41
  go_upto_region 1 with fail
  have hsz0 := B0.out.size
  have hlt0 := Q0.out.lt
  generalize w.alloc (.cells #[.string p.root, .slice pa p.props.length pc, .slice fa p.funs.length fc, .slice aa p.ats.length ac, .bool p.cust, .bool p.texts] 82) = w0 at *
  obtain ⟨rb, Hrb⟩ : ∃ rb, Hid (w.heap.size = rb) := ⟨_, hid rfl⟩
  rw [Hrb.out] at B0 Q0 hB hlt0 hsz0 ⊢
  go_wp2_with fail
  go_loopg [5, 10] rs.length (fun gg v5 v10 wr => ∃ (u : Value) (i : Nat), u = v5 ∧ v10 = .int .i64 (i : Int) ∧ i + gg = rs.length ∧ Aside (wr.ownsRow w0.heap.size 9 1 u ((rs.take i).map (rulO p rec)).length (((rs.take i).map (rulO p rec)).map Value.string) ∧ Below w0.heap.size w0 wr))
  case atStart => exact ⟨_, 0, rfl, rfl, by omega, World.ownsRow_nil _ _ _ _, Below.refl _ _⟩
  case round =>
    obtain ⟨u, i, rfl, rfl, hi, hA⟩ := hrel
    have O1 : Hid (wr.ownsRow w0.heap.size 9 1 u ((rs.take i).map (rulO p rec)).length (((rs.take i).map (rulO p rec)).map Value.string)) := hA.out.1
    have BR : Hid (Below w0.heap.size w0 wr) := hA.out.2
    clear hA
    have hsr := BR.out.size
    by_cases hlt : i < rs.length
    · have h1 : (i : Int) < (rs.length : Int) := by omega
      obtain ⟨g, o, rfl, hL, hcap⟩ := (HS0.out.below CRule.fair BR.out (by omega)).here (by rintro rfl; simp at hlt)
      obtain ⟨hgB, hv, bv, bl, c0, c1, c2, c3, hhv, hbv, hbb, hat⟩ := hL.rul (i := i) hlt
      have HTK : Hid ((rs.take (i + 1)).map (rulO p rec) = (rs.take i).map (rulO p rec) ++ [rulO p rec rs[i]]) := by
        show _ = _
        rw [List.take_succ_eq_append_getElem hlt, List.map_append]; rfl
      have HRR := HR.out rs[i] (List.getElem_mem _)
      obtain ⟨r, hr⟩ : ∃ r, r = rs[i] := ⟨_, rfl⟩
      rw [← hr] at c0 c2 hhv hbb hat HTK HRR
      have HHV : Hid (Sl (fun b => b < B) wr hv r.head) := hhv
      have HBV : Hid (Sl (fun b => b < B) wr bv bl) := hbv
      have HBB : Hid (∀ b, r.body = some b → bl = b) := hbb
      have HAT : Hid (∀ x, r.at_ = some x → x ≠ nob ∧ x.size ≤ 4000000) := hat
      have HRW : Hid (RulOK p (.slice pa p.props.length pc) (.slice fa p.funs.length fc) (.slice aa p.ats.length ac) rec w r) := HRR
      obtain ⟨ha, hc, rfl⟩ := hhv.form
      obtain ⟨ba, bc, rfl⟩ := hbv.form
      clear hL hr hhv hbv hbb hat HRR
      have hzl : ((rs.take i).map (rulO p rec)).length ≤ i := by rw [List.length_map, List.length_take]; omega
      obtain ⟨ps, Hps⟩ : ∃ ps, Hid ((rs.take i).map (rulO p rec) = ps) := ⟨_, hid rfl⟩
      rw [Hps.out] at O1 HTK hzl
      obtain ⟨an, Han⟩ : ∃ an, Hid (r.at_.getD nob = an) := ⟨_, hid rfl⟩
      obtain ⟨hs_, Hhs⟩ : ∃ hs_, Hid (r.body.isSome = hs_) := ⟨_, hid rfl⟩
      rw [Han.out] at c0
      rw [Hhs.out] at c2
      have D2 : Hid (Q4 130 (wr.alloc (.cells #[.string an, .slice ha r.head.length hc, .bool hs_, .slice ba bl.length bc] 130)) wr.heap.size (.string an) (.slice ha r.head.length hc) (.bool hs_) (.slice ba bl.length bc)) := Q4.new _ _ _ _ _ _
      have X2 : Hid (Below wr.heap.size wr (wr.alloc (.cells #[.string an, .slice ha r.head.length hc, .bool hs_, .slice ba bl.length bc] 130))) := (Below.refl _ _).alloc (Nat.le_refl _) _
      go_upto_region 5 with fail
      generalize wr.alloc (.cells #[.string an, .slice ha r.head.length hc, .bool hs_, .slice ba bl.length bc] 130) = w2 at *
      obtain ⟨gt, Hgt⟩ : ∃ gt, Hid (wr.heap.size = gt) := ⟨_, hid rfl⟩
      have D3 : Hid (Q4 130 w2 gt (.string an) (.slice ha r.head.length hc) (.bool hs_) (.slice ba bl.length bc)) := by rw [← Hgt.out]; exact D2.out
      rw [Hgt.out]
      clear D2 c0 c1 c2 c3
      have B2 : Hid (Below w0.heap.size w0 w2) := BR.out.trans (X2.out.mono hsr)
      have BW : Hid (Below rb w w2) := B0.out.trans (B2.out.mono hsz0)
      have hs2 := X2.out.size
      have O2 : Hid (w2.ownsRow w0.heap.size 9 1 u ps.length (ps.map Value.string)) := own_keep O1.out fun r hr => X2.out.block r (O1.out.lt r hr).2
      obtain ⟨a0, a1, a2, a3⟩ := D3.out.cs
      have Q2 := Q0.out.below B2.out (by omega)
      obtain ⟨q0, q1, q2, q3, q4, q5⟩ := Q2.cs
      clear Q2
      have CC := ruleCall_c B p (.slice pa p.props.length pc) (.slice fa p.funs.length fc) (.slice aa p.ats.length ac) rec r (.slice ha r.head.length hc) (.slice ba bl.length bc) bl w2 (HP0.out.below B2.out (by omega)) (HHV.out.below X2.out (by omega)) (HBV.out.below X2.out (by omega)) HBB.out HAT.out (HII.out.below (by rw [Hrb.out]; exact BW.out) (Nat.le_refl _)) HDS.out HPR.out.1 HPR.out.2 (HRW.out.later (by rw [Hrb.out]; exact BW.out))
      rw [Hhs.out] at CC
      obtain ⟨y, Hy⟩ : ∃ y, Hid (rulO p rec r = y) := ⟨_, hid rfl⟩
      rw [Hy.out] at CC HTK
      unfold polV at CC
      have FIN : Hid (∀ (v6 : Value) (w6 : World), w6.ownsRow w0.heap.size 9 1 v6 (ps.length + 1) (ps.map Value.string ++ [.string y]) → w6.ownsRow w0.heap.size 9 1 v6 ((rs.take (i + 1)).map (rulO p rec)).length (((rs.take (i + 1)).map (rulO p rec)).map Value.string)) := by
        intro v6 w6 h6
        rw [HTK.out, List.length_append, List.map_append]
        exact h6
      cases hra : r.at_ with
      | none =>
        have he : an = nob := by rw [← Han.out, hra]; rfl
        subst he
        have CK : Hid (Calls Tryz.prog 71 #[.agg #[.string p.root, .slice pa p.props.length pc, .slice fa p.funs.length fc, .slice aa p.ats.length ac, .bool p.cust, .bool p.texts], .agg #[.string nob, .slice ha r.head.length hc, .bool hs_, .slice ba bl.length bc]] w2 fun e w' => e = .returned (.string y) ∧ Below w2.heap.size w2 w') := CC.1 hra
        have hie3 : nob.toList = [] := by rw [bytes_toList]; rfl
        have hie : (nob.toList == []) = true := by rw [hie3]; rfl
        have hie2 : nob.toList.isEmpty = true := by rw [hie3]; rfl
        clear CC hra
        go_wp2_with fail
        refine CK.out.mono ?_
        rintro e w5 ⟨rfl, hb5⟩
        have B5 : Hid (Below w0.heap.size w0 w5) := B2.out.trans (hb5.mono (by omega))
        have O5 : Hid (w5.ownsRow w0.heap.size 9 1 u ps.length (ps.map Value.string)) := own_keep O2.out fun r hr => hb5.block r (O2.out.lt r hr).2
        have hs5 := B5.out.size
        clear hb5 CK a0 a1 a2 a3 q0 q1 q2 q3 q4 q5
        go_wp2_with (at_builtin; go_must (refine wpList_append_own _ rfl _ _ 26 rfl w0.heap.size 9 iS (.string ⟨#[]⟩) 1 16 Tryz.underlying26 HI.out.1 HI.out.2.1 HI.out.2.2.1 HI.out.2.2.2 rfl (by omega) u ps.length (ps.map Value.string) rfl (O5.out.alloc _) ⟨w5.heap.size, 0, none⟩ 1 1 [.string y] rfl rfl (cell_one_new _ _ _) (str_oneCell _) (by unfold maxLen; omega) (by omega) (by simp; omega) ?_))
        intro v6 w6 hown6 hgr6 _
        have O6 : Hid (w6.ownsRow w0.heap.size 9 1 v6 ((rs.take (i + 1)).map (rulO p rec)).length (((rs.take (i + 1)).map (rulO p rec)).map Value.string)) := FIN.out _ _ hown6
        have B6 : Hid (Below w0.heap.size w0 w6) := (B5.out.alloc hs5 _).grown hgr6 (by simp; omega) (fun rr hr => (O5.out.lt rr hr).1)
        clear hown6 hgr6
        go_wp2_with fail
        go_roundg (gk - 1)
        case measure => omega
        case rel => exact ⟨v6, i + 1, rfl, by congr 1, by omega, O6.out, B6.out⟩
      | some x =>
        have he : an = x := by rw [← Han.out, hra]; rfl
        subst he
        have CK : Hid (Calls Tryz.prog 70 #[.agg #[.string p.root, .slice pa p.props.length pc, .slice fa p.funs.length fc, .slice aa p.ats.length ac, .bool p.cust, .bool p.texts], .agg #[.string an, .slice ha r.head.length hc, .bool hs_, .slice ba bl.length bc]] w2 fun e w' => e = .returned (.string y) ∧ Below w2.heap.size w2 w') := CC.2 _ hra
        have hne := (HAT.out _ hra).1
        have hie3 : ¬ an.toList = [] := fun e => hne (by have := bytes_lit an []; rw [e] at this; exact of_decide_eq_true this.symm)
        have hie : (an.toList == []) = false := by cases hq : an.toList with | nil => exact absurd hq hie3 | cons _ _ => rfl
        have hie2 : an.toList.isEmpty = false := by cases hq : an.toList with | nil => exact absurd hq hie3 | cons _ _ => rfl
        clear CC hra hne
        go_wp2_with fail
        refine CK.out.mono ?_
        rintro e w5 ⟨rfl, hb5⟩
        have B5 : Hid (Below w0.heap.size w0 w5) := B2.out.trans (hb5.mono (by omega))
        have O5 : Hid (w5.ownsRow w0.heap.size 9 1 u ps.length (ps.map Value.string)) := own_keep O2.out fun r hr => hb5.block r (O2.out.lt r hr).2
        have hs5 := B5.out.size
        clear hb5 CK a0 a1 a2 a3 q0 q1 q2 q3 q4 q5
        go_wp2_with (at_builtin; go_must (refine wpList_append_own _ rfl _ _ 26 rfl w0.heap.size 9 iS (.string ⟨#[]⟩) 1 16 Tryz.underlying26 HI.out.1 HI.out.2.1 HI.out.2.2.1 HI.out.2.2.2 rfl (by omega) u ps.length (ps.map Value.string) rfl (O5.out.alloc _) ⟨w5.heap.size, 0, none⟩ 1 1 [.string y] rfl rfl (cell_one_new _ _ _) (str_oneCell _) (by unfold maxLen; omega) (by omega) (by simp; omega) ?_))
        intro v6 w6 hown6 hgr6 _
        have O6 : Hid (w6.ownsRow w0.heap.size 9 1 v6 ((rs.take (i + 1)).map (rulO p rec)).length (((rs.take (i + 1)).map (rulO p rec)).map Value.string)) := FIN.out _ _ hown6
        have B6 : Hid (Below w0.heap.size w0 w6) := (B5.out.alloc hs5 _).grown hgr6 (by simp; omega) (fun rr hr => (O5.out.lt rr hr).1)
        clear hown6 hgr6
        go_wp2_with fail
        go_roundg (gk - 1)
        case measure => omega
        case rel => exact ⟨v6, i + 1, rfl, by congr 1, by omega, O6.out, B6.out⟩
    · have h1 : (rs.length : Int) ≤ (i : Int) := by omega
      have O5 : Hid (wr.ownsRow w0.heap.size 9 1 u (rs.map (rulO p rec)).length ((rs.map (rulO p rec)).map Value.string)) := by
        have := O1.out
        rw [List.take_of_length_le (by omega)] at this
        exact this
      have hpl : (rs.map (rulO p rec)).length = rs.length := List.length_map _
      obtain ⟨ps, Hps⟩ : ∃ ps, Hid (rs.map (rulO p rec) = ps) := ⟨_, hid rfl⟩
      rw [Hps.out] at O5 HT hpl
      go_wp2_with fail
      refine (Join_c ps w0.heap.size u _ O5.out (by omega) HT.out).mono ?_
      rintro e w5 ⟨rfl, hb5⟩
      have B5 : Hid (Below rb w w5) := B0.out.trans ((BR.out.trans (hb5.mono hsr)).mono hsz0)
      clear hb5
      go_wp2_with fail
      go_ret
      exact ⟨retS (by rw [← Hps.out]), by rw [Hrb.out]; exact B5.out⟩
end Go.Proofs.YtlliliddljkbfaaGreat
