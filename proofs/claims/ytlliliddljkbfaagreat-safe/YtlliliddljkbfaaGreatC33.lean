import Derived.Test.YtlliliddljkbfaaGreatC15
import Derived.Test.YtlliliddljkbfaaGreatC18
import Derived.Test.YtlliliddljkbfaaGreatC31
import Derived.Test.YtlliliddljkbfaaGreatC32
namespace Go.Proofs.YtlliliddljkbfaaGreat
set_option maxHeartbeats 64000000
set_option maxRecDepth 100000
open Go.RowKit Sp
section
attribute [local go_sem] fld_tok fld_ins fld_kind fld_word
theorem all_and (zs : List ByteArray) : zs.all (fun s => polName s && !(pk s 0 == 45)) = (zs.all polName && !zs.any dashB) := by
  induction zs with
  | nil => rfl
  | cons z r ih =>
    rw [List.all_cons, List.all_cons, List.any_cons, ih]
    show ((polName z && !dashB z) && _) = _
    cases polName z <;> cases dashB z <;> cases r.all polName <;> rfl
theorem polP_eq (p : Policy) : polP p = ((allB lowB p.root && decide (p.root.size ≤ 12)) && nmsB p.props && !p.props.any dashB && nmsB p.funs && nmsB p.ats) := by
  unfold polP nmsB
  rw [all_and]
  show (allB lowB p.root && decide (p.root.size ≤ 12) && (decide (p.props.length ≤ 20) && (p.props.all polName && !p.props.any dashB)) && _ && _) = _
  cases allB lowB p.root && decide (p.root.size ≤ 12) <;> cases decide (p.props.length ≤ 20) <;> cases p.props.all polName <;> cases p.props.any dashB <;> rfl
def Qa (w : World) (b : Nat) (x0 x1 x2 x3 x4 x5 : Value) : Prop := w.heap[b]? = some (.cells #[x0, x1, x2, x3, x4, x5] 41 (0, 0))
theorem Qa.cs {w : World} {b : Nat} {x0 x1 x2 x3 x4 x5 : Value} (h : Qa w b x0 x1 x2 x3 x4 x5) : w.cell? ⟨b, 0, none⟩ = some x0 ∧ w.cell? ⟨b, 1, none⟩ = some x1 ∧ w.cell? ⟨b, 2, none⟩ = some x2 ∧ w.cell? ⟨b, 3, none⟩ = some x3 ∧ w.cell? ⟨b, 4, none⟩ = some x4 ∧ w.cell? ⟨b, 5, none⟩ = some x5 := by
  have h' : w.heap[b]? = _ := h
  refine ⟨?_, ?_, ?_, ?_, ?_, ?_⟩ <;> (unfold World.cell?; rw [h']; rfl)
theorem Qa.lt {w : World} {b : Nat} {x0 x1 x2 x3 x4 x5 : Value} (h : Qa w b x0 x1 x2 x3 x4 x5) : b < w.heap.size := (Array.getElem?_eq_some_iff.1 h).1
theorem Qa.new (w : World) (x0 x1 x2 x3 x4 x5 : Value) : Qa (w.alloc (.cells #[x0, x1, x2, x3, x4, x5] 41)) w.heap.size x0 x1 x2 x3 x4 x5 := heap_alloc_new w _
theorem Qa.nb (p : Policy) (pa fa aa : Option Addr) (pc fc ac : Nat) (w : World) : Hid (Below w.heap.size w (w.alloc (.cells #[.string p.root, .slice pa p.props.length pc, .slice fa p.funs.length fc, .slice aa p.ats.length ac, .bool p.cust, .bool p.texts] 41))) ∧ Hid (Qa (w.alloc (.cells #[.string p.root, .slice pa p.props.length pc, .slice fa p.funs.length fc, .slice aa p.ats.length ac, .bool p.cust, .bool p.texts] 41)) w.heap.size (.string p.root) (.slice pa p.props.length pc) (.slice fa p.funs.length fc) (.slice aa p.ats.length ac) (.bool p.cust) (.bool p.texts)) :=
  ⟨(Below.refl _ _).alloc (Nat.le_refl _) _, Qa.new _ _ _ _ _ _ _⟩
theorem Qa.below {w w' : World} {b g : Nat} {x0 x1 x2 x3 x4 x5 : Value} (h : Qa w b x0 x1 x2 x3 x4 x5) (hb : Below g w w') (hg : b < g) : Qa w' b x0 x1 x2 x3 x4 x5 := by
  show _ = _; rw [hb.block b hg]; exact h
theorem isPolicy_c (B : Nat) (p : Policy) (pv fv av : Value) (w : World) (h : PolM B w p pv fv av) (hr : p.root.size ≤ 4194304) :
    Calls Tryz.prog 66 #[polV p pv fv av] w fun e w' => e = .returned (.bool (polP p)) ∧ Below w.heap.size w w' := by
  obtain ⟨pa, pc, rfl⟩ := h.props.form
  obtain ⟨fa, fc, rfl⟩ := h.funs.form
  obtain ⟨aa, ac, rfl⟩ := h.ats.form
  obtain ⟨B0, Q0⟩ := Qa.nb p pa fa aa pc fc ac w
  have HP : Hid (PolM B (w.alloc (.cells #[.string p.root, .slice pa p.props.length pc, .slice fa p.funs.length fc, .slice aa p.ats.length ac, .bool p.cust, .bool p.texts] 41)) p (.slice pa p.props.length pc) (.slice fa p.funs.length fc) (.slice aa p.ats.length ac)) := h.below B0.out h.lt
  have HE : Hid (polP p = ((allB lowB p.root && decide (p.root.size ≤ 12)) && nmsB p.props && !p.props.any dashB && nmsB p.funs && nmsB p.ats)) := polP_eq p
  clear h
  unfold polV
  go_enter Tryz.func66, Tryz.ntmps66
  go_upto_region 1 with fail
  generalize w.alloc (.cells #[.string p.root, .slice pa p.props.length pc, .slice fa p.funs.length fc, .slice aa p.ats.length ac, .bool p.cust, .bool p.texts] 41) = w0 at *
  obtain ⟨q0, q1, q2, q3, q4, q5⟩ := Q0.out.cs
  have H1 := isRoot_c p.root w0 hr
  have H2 := areNames_c _ p.props _ w0 HP.out.props
  have H3 := ContainsFunc_c p.props _ 108 dashB _ w0 HP.out.props (fun _ _ => rfl) (fun x w _ => beginsWithDash_c x w)
  have H4 := areNames_c _ p.funs _ w0 HP.out.funs
  have H5 := areNames_c _ p.ats _ w0 HP.out.ats
  obtain ⟨z1, Z1⟩ : ∃ z, Hid ((allB lowB p.root && decide (p.root.size ≤ 12)) = z) := ⟨_, hid rfl⟩
  obtain ⟨z2, Z2⟩ : ∃ z, Hid (nmsB p.props = z) := ⟨_, hid rfl⟩
  obtain ⟨z3, Z3⟩ : ∃ z, Hid (p.props.any dashB = z) := ⟨_, hid rfl⟩
  obtain ⟨z4, Z4⟩ : ∃ z, Hid (nmsB p.funs = z) := ⟨_, hid rfl⟩
  obtain ⟨z5, Z5⟩ : ∃ z, Hid (nmsB p.ats = z) := ⟨_, hid rfl⟩
  rw [Z1.out] at H1
  rw [Z2.out] at H2
  rw [Z3.out] at H3
  rw [Z4.out] at H4
  rw [Z5.out] at H5
  have HE2 : Hid (polP p = (z1 && z2 && !z3 && z4 && z5)) := by show _ = _; rw [HE.out, Z1.out, Z2.out, Z3.out, Z4.out, Z5.out]
  have C1 : Hid (Calls Tryz.prog 106 #[.string p.root] w0 fun e w' => e = .returned (.bool z1) ∧ w' = w0) := H1
  have C2 : Hid (Calls Tryz.prog 107 #[.slice pa p.props.length pc] w0 fun e w' => e = .returned (.bool z2) ∧ w' = w0) := H2
  have C3 : Hid (Calls Tryz.prog 59 #[.slice pa p.props.length pc, .func (.func 108) #[] #[]] w0 fun e w' => e = .returned (.bool z3) ∧ w' = w0) := H3
  have C4 : Hid (Calls Tryz.prog 107 #[.slice fa p.funs.length fc] w0 fun e w' => e = .returned (.bool z4) ∧ w' = w0) := H4
  have C5 : Hid (Calls Tryz.prog 107 #[.slice aa p.ats.length ac] w0 fun e w' => e = .returned (.bool z5) ∧ w' = w0) := H5
  clear H1 H2 H3 H4 H5 HE HP
  go_wp2_with fail
  refine C1.out.mono ?_
  rintro e wq ⟨rfl, hwq⟩
  rw [hwq]
  clear hwq
  cases z1
  · have HV : Hid (polP p = false) := HE2.out
    go_wp2_with fail
    go_ret
    exact ⟨rbool HV.out.symm, B0.out⟩
  go_wp2_with fail
  refine C2.out.mono ?_
  rintro e wq ⟨rfl, hwq⟩
  rw [hwq]
  clear hwq
  cases z2
  · have HV : Hid (polP p = false) := HE2.out
    go_wp2_with fail
    go_ret
    exact ⟨rbool HV.out.symm, B0.out⟩
  go_wp2_with fail
  refine C3.out.mono ?_
  rintro e wq ⟨rfl, hwq⟩
  rw [hwq]
  clear hwq
  cases z3
  · go_wp2_with fail
    refine C4.out.mono ?_
    rintro e wq ⟨rfl, hwq⟩
    rw [hwq]
    clear hwq
    cases z4
    · have HV : Hid (polP p = false) := HE2.out
      go_wp2_with fail
      go_ret
      exact ⟨rbool HV.out.symm, B0.out⟩
    go_wp2_with fail
    refine C5.out.mono ?_
    rintro e wq ⟨rfl, hwq⟩
    rw [hwq]
    clear hwq
    have HV : Hid (polP p = z5) := HE2.out
    go_wp2_with fail
    go_ret
    exact ⟨rbool HV.out.symm, B0.out⟩
  · have HV : Hid (polP p = false) := HE2.out
    go_wp2_with fail
    go_ret
    exact ⟨rbool HV.out.symm, B0.out⟩
theorem Q6.fz {w : World} {b : Nat} {x0 x1 x2 x3 x4 x5 : Value} (h : Q6 w b x0 x1 x2 x3 x4 x5) (o : Nat) : w.frozen? ⟨b, o, none⟩ = false := by
  have h' : w.heap[b]? = _ := h
  unfold World.frozen?; rw [h']; simp
theorem PolOf_c (B : Nat) (p : Policy) (pv fv av : Value) (w : World) (h : PolM B w p pv fv av) (hr : p.root.size ≤ 4194304) :
    Calls Tryz.prog 39 #[polV p pv fv av] w fun e w' => (∃ u, e = .returned (.tuple #[u, .bool (polP p)]) ∧ (polP p = true → u = polV p pv fv av) ∧ (polP p = false → u = .agg #[.string ⟨#[]⟩, .slice none 0 0, .slice none 0 0, .slice none 0 0, .bool false, .bool false])) ∧ Below w.heap.size w w' := by
  obtain ⟨pa, pc, rfl⟩ := h.props.form
  obtain ⟨fa, fc, rfl⟩ := h.funs.form
  obtain ⟨aa, ac, rfl⟩ := h.ats.form
  have hB := h.lt
  obtain ⟨B0, Q0⟩ := Qa.nb p pa fa aa pc fc ac w
  have HP0 : Hid (PolM B (w.alloc (.cells #[.string p.root, .slice pa p.props.length pc, .slice fa p.funs.length fc, .slice aa p.ats.length ac, .bool p.cust, .bool p.texts] 41)) p (.slice pa p.props.length pc) (.slice fa p.funs.length fc) (.slice aa p.ats.length ac)) := h.below B0.out hB
  have B1 : Hid (Below w.heap.size w ((w.alloc (.cells #[.string p.root, .slice pa p.props.length pc, .slice fa p.funs.length fc, .slice aa p.ats.length ac, .bool p.cust, .bool p.texts] 41)).alloc (.cells #[.string ⟨#[]⟩, .slice none 0 0, .slice none 0 0, .slice none 0 0, .bool false, .bool false] 82))) := B0.out.alloc (by simp) _
  have X1 : Hid (Below (w.alloc (.cells #[.string p.root, .slice pa p.props.length pc, .slice fa p.funs.length fc, .slice aa p.ats.length ac, .bool p.cust, .bool p.texts] 41)).heap.size (w.alloc (.cells #[.string p.root, .slice pa p.props.length pc, .slice fa p.funs.length fc, .slice aa p.ats.length ac, .bool p.cust, .bool p.texts] 41)) ((w.alloc (.cells #[.string p.root, .slice pa p.props.length pc, .slice fa p.funs.length fc, .slice aa p.ats.length ac, .bool p.cust, .bool p.texts] 41)).alloc (.cells #[.string ⟨#[]⟩, .slice none 0 0, .slice none 0 0, .slice none 0 0, .bool false, .bool false] 82))) := (Below.refl _ _).alloc (Nat.le_refl _) _
  have Q1 : Hid (Qa ((w.alloc (.cells #[.string p.root, .slice pa p.props.length pc, .slice fa p.funs.length fc, .slice aa p.ats.length ac, .bool p.cust, .bool p.texts] 41)).alloc (.cells #[.string ⟨#[]⟩, .slice none 0 0, .slice none 0 0, .slice none 0 0, .bool false, .bool false] 82)) w.heap.size (.string p.root) (.slice pa p.props.length pc) (.slice fa p.funs.length fc) (.slice aa p.ats.length ac) (.bool p.cust) (.bool p.texts)) := Q0.out.below X1.out Q0.out.lt
  have HP1 : Hid (PolM B ((w.alloc (.cells #[.string p.root, .slice pa p.props.length pc, .slice fa p.funs.length fc, .slice aa p.ats.length ac, .bool p.cust, .bool p.texts] 41)).alloc (.cells #[.string ⟨#[]⟩, .slice none 0 0, .slice none 0 0, .slice none 0 0, .bool false, .bool false] 82)) p (.slice pa p.props.length pc) (.slice fa p.funs.length fc) (.slice aa p.ats.length ac)) := HP0.out.below X1.out HP0.out.lt
  have R1 : Hid (Q6 ((w.alloc (.cells #[.string p.root, .slice pa p.props.length pc, .slice fa p.funs.length fc, .slice aa p.ats.length ac, .bool p.cust, .bool p.texts] 41)).alloc (.cells #[.string ⟨#[]⟩, .slice none 0 0, .slice none 0 0, .slice none 0 0, .bool false, .bool false] 82)) (w.heap.size + 1) (.string ⟨#[]⟩) (.slice none 0 0) (.slice none 0 0) (.slice none 0 0) (.bool false) (.bool false)) := by
    have := Q6.new (w.alloc (.cells #[.string p.root, .slice pa p.props.length pc, .slice fa p.funs.length fc, .slice aa p.ats.length ac, .bool p.cust, .bool p.texts] 41)) (.string ⟨#[]⟩) (.slice none 0 0) (.slice none 0 0) (.slice none 0 0) (.bool false) (.bool false)
    rw [show (w.alloc (.cells #[.string p.root, .slice pa p.props.length pc, .slice fa p.funs.length fc, .slice aa p.ats.length ac, .bool p.cust, .bool p.texts] 41)).heap.size = w.heap.size + 1 by simp] at this
    exact this
  clear h Q0 HP0 X1
  unfold polV
  go_enter Tryz.func39, Tryz.ntmps39
  go_upto_region 1 with fail
  generalize (w.alloc (.cells #[.string p.root, .slice pa p.props.length pc, .slice fa p.funs.length fc, .slice aa p.ats.length ac, .bool p.cust, .bool p.texts] 41)).alloc (.cells #[.string ⟨#[]⟩, .slice none 0 0, .slice none 0 0, .slice none 0 0, .bool false, .bool false] 82) = w1 at *
  obtain ⟨q0, q1, q2, q3, q4, q5⟩ := Q1.out.cs
  have hs1 := B1.out.size
  have HC := isPolicy_c B p _ _ _ w1 HP1.out hr
  unfold polV at HC
  obtain ⟨z, Hz⟩ : ∃ z, Hid (polP p = z) := ⟨_, hid rfl⟩
  rw [Hz.out] at HC
  have HC' : Hid (Calls Tryz.prog 66 #[.agg #[.string p.root, .slice pa p.props.length pc, .slice fa p.funs.length fc, .slice aa p.ats.length ac, .bool p.cust, .bool p.texts]] w1 fun e w' => e = .returned (.bool z) ∧ Below w1.heap.size w1 w') := HC
  clear HC HP1
  go_wp2_with fail
  refine HC'.out.mono ?_
  rintro e w2 ⟨rfl, hb2⟩
  have B2 : Hid (Below w.heap.size w w2) := B1.out.trans (hb2.mono hs1)
  have R2 : Hid (Q6 w2 (w.heap.size + 1) (.string ⟨#[]⟩) (.slice none 0 0) (.slice none 0 0) (.slice none 0 0) (.bool false) (.bool false)) := R1.out.below hb2 R1.out.lt
  have Q2 : Hid (Qa w2 w.heap.size (.string p.root) (.slice pa p.props.length pc) (.slice fa p.funs.length fc) (.slice aa p.ats.length ac) (.bool p.cust) (.bool p.texts)) := Q1.out.below hb2 Q1.out.lt
  clear hb2 HC' q0 q1 q2 q3 q4 q5 Q1 R1
  obtain ⟨q0, q1, q2, q3, q4, q5⟩ := Q2.out.cs
  obtain ⟨r0, r1, r2, r3, r4, r5⟩ := R2.out.cs
  have z0 := R2.out.fz 0
  have z1 := R2.out.fz 1
  have z2 := R2.out.fz 2
  have z3 := R2.out.fz 3
  have z4 := R2.out.fz 4
  have z5 := R2.out.fz 5
  cases z
  · go_wp2_with fail
    refine bodyPost_ret (v := .tuple #[.agg #[.string ⟨#[]⟩, .slice none 0 0, .slice none 0 0, .slice none 0 0, .bool false, .bool false], .bool false]) (by simp [results, Tryz.results39, go_sem, r0, r1, r2, r3, r4, r5]) rfl ?_
    refine ⟨⟨_, by rw [Hz.out], (by rw [Hz.out]; intro h; cases h), fun _ => rfl⟩, ?_⟩
    exact set6_below B2.out (by omega) _ _ _ _ _ _
  · go_wp2_with fail
    refine bodyPost_ret (v := .tuple #[.agg #[.string p.root, .slice pa p.props.length pc, .slice fa p.funs.length fc, .slice aa p.ats.length ac, .bool p.cust, .bool p.texts], .bool true]) (by simp [results, Tryz.results39, go_sem, r0, r1, r2, r3, r4, r5]) rfl ?_
    refine ⟨⟨_, by rw [Hz.out], fun _ => rfl, by rw [Hz.out]; intro h; cases h⟩, ?_⟩
    exact set6_below B2.out (by omega) _ _ _ _ _ _
end
def braO (h b : ByteArray) : ByteArray := if b = nob then nob else h ++ (b1 123 ++ (b ++ b1 125))
theorem braced_c (h b : ByteArray) (w : World) (hs : h.size + b.size ≤ 1099511627770) : Calls Tryz.prog 118 #[.string h, .string b] w fun e w' => e = .returned (.string (braO h b)) ∧ Below w.heap.size w w' := by
  by_cases he : b.toList = []
  · have hn : b = nob := by
      have := bytes_lit b []
      rw [he] at this
      exact of_decide_eq_true this.symm
    have HV : Hid (braO h b = nob) := by show _ = _; unfold braO; rw [if_pos hn]
    clear hn
    go_enter Tryz.func118, Tryz.ntmps118
    go_wp2_with fail
    go_ret
    exact ⟨retS HV.out.symm, Below.refl _ _⟩
  · have hn : ¬ b = nob := fun e => he (by rw [e, bytes_toList]; rfl)
    have hib : (b.toList == []) = false := by cases hq : b.toList with | nil => exact absurd hq he | cons _ _ => rfl
    have HV : Hid (joinB [h, ⟨#[123]⟩, b, ⟨#[125]⟩] = braO h b) := by show _ = _; unfold braO; rw [if_neg hn]; simp [joinB, b1]
    clear hn
    go_enter Tryz.func118, Tryz.ntmps118
    go_wp2_with fail
    refine (Join_c [h, ⟨#[123]⟩, b, ⟨#[125]⟩] w.heap.size _ _ (row4 w h ⟨#[123]⟩ b ⟨#[125]⟩) (by simp) (by show h.size + (1 + (b.size + (1 + 0))) ≤ _; omega)).mono ?_
    rintro e w5 ⟨rfl, hb5⟩
    have B5 : Hid (Below w.heap.size w w5) := (new_below w _).trans (hb5.mono (by simp))
    clear hb5
    go_wp2_with fail
    go_ret
    exact ⟨retS HV.out, B5.out⟩
theorem decT_size (d : Dec) : (decT d).size ≤ 4 * d.prop.size + wzL d.val + 20 := by
  have h1 := nameO_size d.prop
  have h2 := written_size d.val
  have e : (b1 58).size = 1 := rfl
  have e2 : (if d.imp = true then impO else nob).size ≤ 10 := by split <;> decide
  unfold decT
  rw [ByteArray.size_append, ByteArray.size_append, ByteArray.size_append, e]
  omega
theorem declaration_c (B : Nat) (d : Dec) (vv : Value) (w : World) (h : Sl (fun b => b < B) w vv d.val) (hB : B ≤ w.heap.size) (hp : d.prop.size ≤ 4000000) (hz : wzL d.val ≤ 549755813888) :
    Calls Tryz.prog 194 #[.agg #[.string d.prop, vv, .bool d.imp]] w fun e w' => e = .returned (.string (decT d)) ∧ Below w.heap.size w w' := by
  obtain ⟨va, vc, rfl⟩ := h.form
  have B2 : Hid (Below w.heap.size w (w.alloc (.cells #[.string d.prop, .slice va d.val.length vc, .bool d.imp] 181)).drew) := new_drew _ _
  have A2 : Hid (Q3 181 (w.alloc (.cells #[.string d.prop, .slice va d.val.length vc, .bool d.imp] 181)).drew w.heap.size (.string d.prop) (.slice va d.val.length vc) (.bool d.imp)) := Q3.new _ _ _ _ _
  have S2 : Hid (Sl (fun b => b < B) (w.alloc (.cells #[.string d.prop, .slice va d.val.length vc, .bool d.imp] 181)).drew (.slice va d.val.length vc) d.val) := h.below B2.out hB
  clear h
  obtain ⟨nm, Hnm⟩ : ∃ o, Hid (nameO d.prop = o) := ⟨_, hid rfl⟩
  obtain ⟨tx, Htx⟩ : ∃ o, Hid (Sp.written d.val = o) := ⟨_, hid rfl⟩
  have hs1 : nm.size ≤ 4 * d.prop.size := by rw [← Hnm.out]; exact nameO_size _
  have hs3 : tx.size ≤ wzL d.val := by rw [← Htx.out]; exact written_size _
  cases hi : d.imp
  · rw [hi] at B2 A2 S2
    have HV : Hid (joinB [nm, ⟨#[58]⟩, tx, ⟨#[]⟩] = decT d) := by
      show _ = _
      unfold decT
      rw [Hnm.out, Htx.out, hi]
      simp [joinB, b1, nob]
    go_enter Tryz.func194, Tryz.ntmps194
    go_wp2_with fail
    refine wp_region_any (by kernel_rfl) ?_
    change wpAny _ _ _ _ _ _ _ (World.drew _)
    generalize (w.alloc (.cells #[.string d.prop, .slice va d.val.length vc, .bool false] 181)).drew = w2 at *
    have hsz2 := B2.out.size
    refine wpAny_of_held (S := fun wx => Q3 181 wx w.heap.size (.string d.prop) (.slice va d.val.length vc) (.bool false)) _ _ _ _ ?_
    refine tkH 0 rfl A2.out (by intro w hSw; obtain ⟨a0, a1, a2⟩ := hSw.cs; go_simp; all_goals with_reducible rfl) ?_
    refine tkH 1 rfl A2.out (by intro w hSw; obtain ⟨a0, a1, a2⟩ := hSw.cs; go_simp; all_goals with_reducible rfl) ?_
    refine tkH 3 rfl A2.out (by intro w hSw; obtain ⟨a0, a1, a2⟩ := hSw.cs; go_simp; all_goals with_reducible rfl) ?_
    refine tkH 4 rfl A2.out (by intro w hSw; obtain ⟨a0, a1, a2⟩ := hSw.cs; go_simp; all_goals with_reducible rfl) ?_
    refine tkH 6 rfl A2.out (by intro w hSw; obtain ⟨a0, a1, a2⟩ := hSw.cs; go_simp; all_goals with_reducible rfl) ?_
    refine brH 2 fun K hK => ?_
    go_simp
    refine (Name_c d.prop _ hp).mono ?_
    rw [Hnm.out]
    rintro e w3 ⟨rfl, hb3⟩
    have B3 : Hid (Below w.heap.size w w3) := B2.out.trans (hb3.mono hsz2)
    have A4 : Hid (Q3 181 w3 w.heap.size (.string d.prop) (.slice va d.val.length vc) (.bool false)) := A2.out.below hb3
    have S3 : Hid (Sl (fun b => b < B) w3 (.slice va d.val.length vc) d.val) := S2.out.below hb3 (by omega)
    have hsz3 := B3.out.size
    clear hb3 S2
    refine hK.out _ _ A4.out (fun _ => ?_)
    clear hK K
    refine brH 5 fun K hK => ?_
    go_simp
    refine (Values_c d.val B _ w3 S3.out (by omega) hz).mono ?_
    rw [Htx.out]
    rintro e w4 ⟨rfl, hb4⟩
    have B4 : Hid (Below w.heap.size w w4) := B3.out.trans (hb4.mono hsz3)
    have A5 : Hid (Q3 181 w4 w.heap.size (.string d.prop) (.slice va d.val.length vc) (.bool false)) := A4.out.below hb4
    have hsz4 := B4.out.size
    clear hb4
    refine hK.out _ _ A5.out (fun _ => ?_)
    clear hK K
    refine brH 7 fun K hK => ?_
    go_simp
    refine hK.out _ _ (A5.out.below (new_below _ _)) (fun _ => ?_); clear hK K
    refine brH 8 fun K hK => ?_
    go_simp
    refine (Join_c [nm, ⟨#[58]⟩, tx, ⟨#[]⟩] w4.heap.size _ _ (row4 w4 nm ⟨#[58]⟩ tx ⟨#[]⟩) (by simp) (by show nm.size + (1 + (tx.size + (0 + 0))) ≤ _; omega)).mono ?_
    rintro e w5 ⟨rfl, hb5⟩
    have B5 : Hid (Below w.heap.size w w5) := (B4.out.alloc hsz4 _).trans (hb5.mono (by simp; omega))
    have A6 : Hid (Q3 181 w5 w.heap.size (.string d.prop) (.slice va d.val.length vc) (.bool false)) := (A5.out.below (new_below _ _)).below hb5
    clear hb5
    refine hK.out _ _ A6.out (fun _ => ?_)
    clear hK K
    refine brH 9 fun K hK => ?_
    go_simp
    refine hK.out _ _ (A6.out) (fun _ => ?_); clear hK K
    refine wpAnyH_done (by kernel_rfl) ?_ _
    go_wp2_with fail
    go_ret
    exact ⟨retS HV.out, B5.out⟩
  · rw [hi] at B2 A2 S2
    have HV : Hid (joinB [nm, ⟨#[58]⟩, tx, ⟨#[33, 105, 109, 112, 111, 114, 116, 97, 110, 116]⟩] = decT d) := by
      show _ = _
      unfold decT
      rw [Hnm.out, Htx.out, hi]
      simp [joinB, b1, impO]
    go_enter Tryz.func194, Tryz.ntmps194
    go_wp2_with fail
    refine wp_region_any (by kernel_rfl) ?_
    change wpAny _ _ _ _ _ _ _ (World.drew _)
    generalize (w.alloc (.cells #[.string d.prop, .slice va d.val.length vc, .bool true] 181)).drew = w2 at *
    have hsz2 := B2.out.size
    refine wpAny_of_held (S := fun wx => Q3 181 wx w.heap.size (.string d.prop) (.slice va d.val.length vc) (.bool true)) _ _ _ _ ?_
    refine tkH 0 rfl A2.out (by intro w hSw; obtain ⟨a0, a1, a2⟩ := hSw.cs; go_simp; all_goals with_reducible rfl) ?_
    refine tkH 1 rfl A2.out (by intro w hSw; obtain ⟨a0, a1, a2⟩ := hSw.cs; go_simp; all_goals with_reducible rfl) ?_
    refine tkH 3 rfl A2.out (by intro w hSw; obtain ⟨a0, a1, a2⟩ := hSw.cs; go_simp; all_goals with_reducible rfl) ?_
    refine tkH 4 rfl A2.out (by intro w hSw; obtain ⟨a0, a1, a2⟩ := hSw.cs; go_simp; all_goals with_reducible rfl) ?_
    refine tkH 6 rfl A2.out (by intro w hSw; obtain ⟨a0, a1, a2⟩ := hSw.cs; go_simp; all_goals with_reducible rfl) ?_
    refine brH 2 fun K hK => ?_
    go_simp
    refine (Name_c d.prop _ hp).mono ?_
    rw [Hnm.out]
    rintro e w3 ⟨rfl, hb3⟩
    have B3 : Hid (Below w.heap.size w w3) := B2.out.trans (hb3.mono hsz2)
    have A4 : Hid (Q3 181 w3 w.heap.size (.string d.prop) (.slice va d.val.length vc) (.bool true)) := A2.out.below hb3
    have S3 : Hid (Sl (fun b => b < B) w3 (.slice va d.val.length vc) d.val) := S2.out.below hb3 (by omega)
    have hsz3 := B3.out.size
    clear hb3 S2
    refine hK.out _ _ A4.out (fun _ => ?_)
    clear hK K
    refine brH 5 fun K hK => ?_
    go_simp
    refine (Values_c d.val B _ w3 S3.out (by omega) hz).mono ?_
    rw [Htx.out]
    rintro e w4 ⟨rfl, hb4⟩
    have B4 : Hid (Below w.heap.size w w4) := B3.out.trans (hb4.mono hsz3)
    have A5 : Hid (Q3 181 w4 w.heap.size (.string d.prop) (.slice va d.val.length vc) (.bool true)) := A4.out.below hb4
    have hsz4 := B4.out.size
    clear hb4
    refine hK.out _ _ A5.out (fun _ => ?_)
    clear hK K
    refine brH 7 fun K hK => ?_
    go_simp
    refine hK.out _ _ (A5.out.below (new_below _ _)) (fun _ => ?_); clear hK K
    refine brH 8 fun K hK => ?_
    go_simp
    refine (Join_c [nm, ⟨#[58]⟩, tx, ⟨#[33, 105, 109, 112, 111, 114, 116, 97, 110, 116]⟩] w4.heap.size _ _ (row4 w4 nm ⟨#[58]⟩ tx _) (by simp) (by show nm.size + (1 + (tx.size + (10 + 0))) ≤ _; omega)).mono ?_
    rintro e w5 ⟨rfl, hb5⟩
    have B5 : Hid (Below w.heap.size w w5) := (B4.out.alloc hsz4 _).trans (hb5.mono (by simp; omega))
    have A6 : Hid (Q3 181 w5 w.heap.size (.string d.prop) (.slice va d.val.length vc) (.bool true)) := (A5.out.below (new_below _ _)).below hb5
    clear hb5
    refine hK.out _ _ A6.out (fun _ => ?_)
    clear hK K
    refine brH 9 fun K hK => ?_
    go_simp
    refine hK.out _ _ (A6.out) (fun _ => ?_); clear hK K
    refine wpAnyH_done (by kernel_rfl) ?_ _
    go_wp2_with fail
    go_ret
    exact ⟨retS HV.out, B5.out⟩
end Go.Proofs.YtlliliddljkbfaaGreat
