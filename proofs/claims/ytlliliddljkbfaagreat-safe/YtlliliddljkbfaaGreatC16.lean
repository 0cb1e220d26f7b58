import Derived.Test.YtlliliddljkbfaaGreatC10
import Derived.Test.YtlliliddljkbfaaGreatC15
namespace Go.Proofs.YtlliliddljkbfaaGreat
set_option maxHeartbeats 64000000
set_option maxRecDepth 100000
open Go.RowKit Sp
section
attribute [local go_sem] fld_tok fld_ins fld_kind fld_word
theorem info_part : ∃ i, Tryz.prog.info? 222 = some i ∧ i.zero = some .nilIface ∧ i.size = 1 ∧ i.bytes = 16 := info_parts (by kernel_rfl)
theorem folB_nil : folB (hdN []).t = false := by decide
theorem partsW_step (rec : List Nd → Option Sels) (acc : List Simple) (l : List Nd) : partsW rec acc l = if folB (hdN l).t = true then (match partF1 rec l with | none => none | some (s, r) => partsW rec (acc ++ [s]) r) else some (acc, l) := by
  have hf : ∀ n r, hdN (n :: r) = n := fun _ _ => rfl
  match l with
  | [] => rw [folB_nil]; unfold partsW; rfl
  | [n] =>
    rw [hf]
    unfold folB partF1
    simp only [hf, List.tail_cons, List.tail_nil]
    by_cases h4 : n.t.kind = 4
    · unfold partsW; simp only [h4, decide_true, Bool.true_or, if_true]
    · cases h46 : signT n.t (b1 46)
      · cases h91 : signT n.t (b1 91)
        · cases h58 : signT n.t (b1 58)
          · unfold partsW; simp [sgnN, h4, h46, h91, h58]
          · unfold partsW; simp [sgnN, h4, h46, h91, h58, pseudoW_no, kind0]
        · unfold partsW; simp only [sgnN, h4, h46, h91, decide_false, Bool.false_or, Bool.or_true, Bool.true_or, if_true, Bool.false_eq_true, if_false]
          cases attrOf (bare n.kids) with
          | none => rfl
          | some s => simp only [Option.map_some]
      · unfold partsW; simp [sgnN, h4, h46, kind0]
  | n :: m :: r =>
    rw [hf]
    unfold folB partF1
    simp only [hf, List.tail_cons]
    conv => lhs; unfold partsW
    by_cases h4 : n.t.kind = 4
    · simp only [h4, decide_true, Bool.true_or, if_true]
    · cases h46 : signT n.t (b1 46)
      · cases h91 : signT n.t (b1 91)
        · cases h58 : signT n.t (b1 58)
          · simp [sgnN, h4, h46, h91, h58]
          · simp only [sgnN, h4, h46, h91, h58, decide_false, Bool.false_or, if_true, Bool.false_eq_true, if_false]
            cases pseudoW rec m <;> rfl
        · simp only [sgnN, h4, h46, h91, decide_false, Bool.false_or, Bool.true_or, if_true, Bool.false_eq_true, if_false]
          cases attrOf (bare n.kids) <;> rfl
      · simp only [sgnN, h4, h46, decide_false, Bool.false_or, Bool.true_or, if_true, if_false]
        by_cases h14 : m.t.kind = 14
        · rw [if_pos h14, if_pos h14]
        · rw [if_neg h14, if_neg h14]
theorem partF1_len {rec : List Nd → Option Sels} {l : List Nd} {s : Simple} {r : List Nd} (h : partF1 rec l = some (s, r)) (hl : l ≠ []) : r.length < l.length ∧ (∀ f, DepL f l → DepL f r) := by
  have h1 : l.tail.length < l.length := by
    cases l with
    | nil => exact absurd rfl hl
    | cons n q => simp
  have h2 : l.tail.tail.length < l.length := by
    have : l.tail.tail.length ≤ l.tail.length := by simp
    omega
  unfold partF1 at h
  split at h
  · cases h; exact ⟨h1, fun f q => q.tail⟩
  · split at h
    · split at h
      · cases h; exact ⟨h2, fun f q => q.tail.tail⟩
      · cases h
    · split at h
      · cases ha : attrOf (bare (hdN l).kids) with
        | none => rw [ha] at h; cases h
        | some s' => rw [ha] at h; cases h; exact ⟨h1, fun f q => q.tail⟩
      · cases ha : pseudoW rec (hdN l.tail) with
        | none => rw [ha] at h; cases h
        | some s' => rw [ha] at h; cases h; exact ⟨h2, fun f q => q.tail.tail⟩
theorem partV_form (k : Nat) (nm h v : ByteArray) (lv : Value) (p : Nat) : ∃ T u, partV k nm h v lv p = .iface T u := by
  unfold partV
  repeat' split
  all_goals exact ⟨_, _, rfl⟩
theorem PSim.form {f : Nat} {S : Nat → Prop} {w : World} {s : Simple} {pv : Value} (h : PSim f S w s [pv]) : ∃ T u, pv = .iface T u := by
  obtain ⟨k, nm, hh, v, l, p⟩ := s
  cases f with
  | zero =>
    obtain ⟨_, a, c, e⟩ := h
    obtain ⟨T, u, e2⟩ := partV_form k nm hh v (.slice a 0 c) p
    exact ⟨T, u, by rw [← e2]; exact (List.cons.inj e).1⟩
  | succ f =>
    obtain ⟨lv, e, _⟩ := h
    obtain ⟨T, u, e2⟩ := partV_form k nm hh v lv p
    exact ⟨T, u, by rw [← e2]; exact (List.cons.inj e).1⟩
theorem MG.turn {α : Type} {C : Law α} {sz : Nat} (hF : Fair C) {T : TypeId} {base : Nat} {w w' : World} {v : Value} {l : List α} (h : MG C sz T base w v l) {b : Nat} (ht : Turn b w w') (hb : b < base) : MG C sz T base w' v l :=
  h.keep hF ht.size fun g hg hg2 => ht.block g hg2 (by omega)
structure CpI (f B b : Nat) (w : World) (l : List Nd) (u : Value) (acc : List Simple) (cur : List Nd) (wr : World) : Prop where
  row : MG (PSim f) 1 222 w.heap.size wr u acc
  rdr : ∃ sv, Rdr B wr b sv cur
  turn : Turn b w wr
  eq : compoundW (recF f) l = partsW (recF f) acc cur
  dep : DepL f cur
  len : acc.length + cur.length ≤ l.length
def cpP (f : Nat) (o : Option (List Simple × List Nd)) (B b : Nat) (w w' : World) (e : Ending) : Prop :=
  match o with
  | none => ∃ lv sv l, e = .returned (.tuple #[lv, .bool false]) ∧ Rdr B w' b sv l
  | some (all, r) => ∃ lv sv, e = .returned (.tuple #[lv, .bool (decide (0 < all.length))]) ∧ Rdr B w' b sv r ∧ SG (PSim f) 1 (Frm w.heap.size w') w' lv all
end
section
attribute [local go_sem] fld_tok fld_ins fld_kind fld_word
def ValsOK (l : List Nd) : Prop := ∀ (B : Nat) (v : Value) (w : World), Sl (fun b => b < B) w v l → B ≤ w.heap.size → wzL l ≤ 549755813888 → Calls Tryz.prog 102 #[v] w fun e w' => e = .returned (.string (Sp.written l)) ∧ Below w.heap.size w w'
theorem written_size (l : List Nd) : (Sp.written l).size ≤ wzL l := writF_size none l
section
variable (wd un : ByteArray) (ka : Option Addr) (kids : List Nd) (kc B : Nat) (w : World)
theorem val_11 (hrec : ValsOK kids) (hk : Sl (fun b => b < B) w (.slice ka kids.length kc) kids) (hB : B ≤ w.heap.size) (hz : wzL kids ≤ 549755813888) (hw : wd.size ≤ 4000000) : Calls Tryz.prog 166 #[.agg #[.int .i64 11, .string wd, .string un, .slice ka kids.length kc]] w fun e w' => e = .returned (.string (nameO wd ++ (b1 40 ++ (Sp.written kids ++ b1 41)))) ∧ Below w.heap.size w w' := by
  have B2 : Hid (Below w.heap.size w (w.alloc (.cells #[.int .i64 11, .string wd, .string un, .slice ka kids.length kc] 199)).drew) := new_drew _ _
  have A2 : Hid (VB (w.alloc (.cells #[.int .i64 11, .string wd, .string un, .slice ka kids.length kc] 199)).drew w.heap.size (.int .i64 11) (.string wd) (.string un) (.slice ka kids.length kc)) := VB.new _ _ _ _ _
  have S2 : Hid (Sl (fun b => b < B) (w.alloc (.cells #[.int .i64 11, .string wd, .string un, .slice ka kids.length kc] 199)).drew (.slice ka kids.length kc) kids) := hk.below B2.out hB
  have HR : Hid (ValsOK kids) := hrec
  clear hk hrec
  obtain ⟨nm, Hnm⟩ : ∃ nm, Hid (nameO wd = nm) := ⟨_, hid rfl⟩
  obtain ⟨wr, Hwr⟩ : ∃ wr, Hid (Sp.written kids = wr) := ⟨_, hid rfl⟩
  have HV : Hid (joinB [nm, ⟨#[40]⟩, wr, ⟨#[41]⟩] = nameO wd ++ (b1 40 ++ (Sp.written kids ++ b1 41))) := by show _ = _; rw [Hnm.out, Hwr.out]; simp [joinB, b1]
  have hsz : nm.size ≤ 4 * wd.size := by rw [← Hnm.out]; exact nameO_size wd
  have hsw : wr.size ≤ wzL kids := by rw [← Hwr.out]; exact written_size kids
  go_enter Tryz.func166, Tryz.ntmps166
  go_wp2_with fail
  refine wp_region_any (by kernel_rfl) ?_
  change wpAny _ _ _ _ _ _ _ (World.drew _)
  generalize (w.alloc (.cells #[.int .i64 11, .string wd, .string un, .slice ka kids.length kc] 199)).drew = w2 at *
  have hs2 := B2.out.size
  refine wpAny_of_held (S := fun wx => VB wx w.heap.size (.int .i64 11) (.string wd) (.string un) (.slice ka kids.length kc)) _ _ _ _ ?_
  refine tkH 0 rfl A2.out (by intro w hSw; obtain ⟨a0, a1, a2, a3⟩ := hSw.cs; go_simp; all_goals with_reducible rfl) ?_
  refine tkH 1 rfl A2.out (by intro w hSw; obtain ⟨a0, a1, a2, a3⟩ := hSw.cs; go_simp; all_goals with_reducible rfl) ?_
  refine tkH 2 rfl A2.out (by intro w hSw; obtain ⟨a0, a1, a2, a3⟩ := hSw.cs; go_simp; all_goals with_reducible rfl) ?_
  refine tkH 4 rfl A2.out (by intro w hSw; obtain ⟨a0, a1, a2, a3⟩ := hSw.cs; go_simp; all_goals with_reducible rfl) ?_
  refine tkH 5 rfl A2.out (by intro w hSw; obtain ⟨a0, a1, a2, a3⟩ := hSw.cs; go_simp; all_goals with_reducible rfl) ?_
  refine brH 3 fun K hK => ?_
  go_simp
  refine (Name_c wd _ hw).mono ?_
  rw [Hnm.out]
  rintro e w3 ⟨rfl, hb3⟩
  have B3 : Hid (Below w.heap.size w w3) := B2.out.trans (hb3.mono hs2)
  have A3 : Hid (VB w3 w.heap.size (.int .i64 11) (.string wd) (.string un) (.slice ka kids.length kc)) := A2.out.below hb3
  have S3 : Hid (Sl (fun b => b < B) w3 (.slice ka kids.length kc) kids) := S2.out.below hb3 (by omega)
  have hs3 := B3.out.size
  clear hb3 S2
  refine hK.out _ _ A3.out (fun _ => ?_)
  clear hK K
  refine brH 6 fun K hK => ?_
  go_simp
  refine (HR.out B _ w3 S3.out (by omega) hz).mono ?_
  rw [Hwr.out]
  rintro e w4 ⟨rfl, hb4⟩
  have B4 : Hid (Below w.heap.size w w4) := B3.out.trans (hb4.mono hs3)
  have A4 : Hid (VB w4 w.heap.size (.int .i64 11) (.string wd) (.string un) (.slice ka kids.length kc)) := A3.out.below hb4
  have hs4 := B4.out.size
  clear hb4
  refine hK.out _ _ A4.out (fun _ => ?_)
  clear hK K
  refine brH 7 fun K hK => ?_
  go_simp
  refine hK.out _ _ (A4.out.alloc _) (fun _ => ?_); clear hK K
  refine brH 8 fun K hK => ?_
  go_simp
  refine (Join_c [nm, ⟨#[40]⟩, wr, ⟨#[41]⟩] w4.heap.size _ _ (row4 w4 nm ⟨#[40]⟩ wr ⟨#[41]⟩) (by simp) (by show nm.size + (1 + (wr.size + (1 + 0))) ≤ _; omega)).mono ?_
  rintro e w5 ⟨rfl, hb5⟩
  have B5 : Hid (Below w.heap.size w w5) := (B4.out.alloc hs4 _).trans (hb5.mono (by simp; omega))
  have A5 : Hid (VB w5 w.heap.size (.int .i64 11) (.string wd) (.string un) (.slice ka kids.length kc)) := (A4.out.alloc _).below hb5
  clear hb5
  refine hK.out _ _ A5.out (fun _ => ?_)
  clear hK K
  refine brH 9 fun K hK => ?_
  go_simp
  refine hK.out _ _ (A5.out) (fun _ => ?_); clear hK K
  refine wpAnyH_done (by kernel_rfl) ?_ _
  go_wp2_with fail
  go_ret
  exact ⟨retS HV.out, B5.out⟩
theorem val_15 (hrec : ValsOK kids) (hk : Sl (fun b => b < B) w (.slice ka kids.length kc) kids) (hB : B ≤ w.heap.size) (hz : wzL kids ≤ 549755813888) (hw : wd.size ≤ 4000000) : Calls Tryz.prog 166 #[.agg #[.int .i64 15, .string wd, .string un, .slice ka kids.length kc]] w fun e w' => e = .returned (.string (wd ++ (Sp.written kids ++ closing ⟨15, wd, un⟩))) ∧ Below w.heap.size w w' := by
  have B2 : Hid (Below w.heap.size w (w.alloc (.cells #[.int .i64 15, .string wd, .string un, .slice ka kids.length kc] 199)).drew) := new_drew _ _
  have A2 : Hid (VB (w.alloc (.cells #[.int .i64 15, .string wd, .string un, .slice ka kids.length kc] 199)).drew w.heap.size (.int .i64 15) (.string wd) (.string un) (.slice ka kids.length kc)) := VB.new _ _ _ _ _
  have S2 : Hid (Sl (fun b => b < B) (w.alloc (.cells #[.int .i64 15, .string wd, .string un, .slice ka kids.length kc] 199)).drew (.slice ka kids.length kc) kids) := hk.below B2.out hB
  have HR : Hid (ValsOK kids) := hrec
  clear hk hrec
  obtain ⟨cl, Hcl⟩ : ∃ cl, Hid (closing ⟨15, wd, un⟩ = cl) := ⟨_, hid rfl⟩
  obtain ⟨wr, Hwr⟩ : ∃ wr, Hid (Sp.written kids = wr) := ⟨_, hid rfl⟩
  have HV : Hid (joinB [wd, wr, cl] = wd ++ (Sp.written kids ++ closing ⟨15, wd, un⟩)) := by show _ = _; rw [Hcl.out, Hwr.out]; simp [joinB]
  have hsz : cl.size ≤ 1 := by rw [← Hcl.out]; exact closing_size _
  have hsw : wr.size ≤ wzL kids := by rw [← Hwr.out]; exact written_size kids
  go_enter Tryz.func166, Tryz.ntmps166
  go_wp2_with fail
  refine wp_region_any (by kernel_rfl) ?_
  change wpAny _ _ _ _ _ _ _ (World.drew _)
  generalize (w.alloc (.cells #[.int .i64 15, .string wd, .string un, .slice ka kids.length kc] 199)).drew = w2 at *
  have hs2 := B2.out.size
  refine wpAny_of_held (S := fun wx => VB wx w.heap.size (.int .i64 15) (.string wd) (.string un) (.slice ka kids.length kc)) _ _ _ _ ?_
  refine tkH 0 rfl A2.out (by intro w hSw; obtain ⟨a0, a1, a2, a3⟩ := hSw.cs; go_simp; all_goals with_reducible rfl) ?_
  refine tkH 1 rfl A2.out (by intro w hSw; obtain ⟨a0, a1, a2, a3⟩ := hSw.cs; go_simp; all_goals with_reducible rfl) ?_
  refine tkH 2 rfl A2.out (by intro w hSw; obtain ⟨a0, a1, a2, a3⟩ := hSw.cs; go_simp; all_goals with_reducible rfl) ?_
  refine tkH 3 rfl A2.out (by intro w hSw; obtain ⟨a0, a1, a2, a3⟩ := hSw.cs; go_simp; all_goals with_reducible rfl) ?_
  refine tkH 4 rfl A2.out (by intro w hSw; obtain ⟨a0, a1, a2, a3⟩ := hSw.cs; go_simp; all_goals with_reducible rfl) ?_
  refine tkH 6 rfl A2.out (by intro w hSw; obtain ⟨a0, a1, a2, a3⟩ := hSw.cs; go_simp; all_goals with_reducible rfl) ?_
  refine tkH 7 rfl A2.out (by intro w hSw; obtain ⟨a0, a1, a2, a3⟩ := hSw.cs; go_simp; all_goals with_reducible rfl) ?_
  refine brH 5 fun K hK => ?_
  go_simp
  refine (HR.out B _ w2 S2.out (by omega) hz).mono ?_
  rw [Hwr.out]
  rintro e w3 ⟨rfl, hb3⟩
  have B3 : Hid (Below w.heap.size w w3) := B2.out.trans (hb3.mono hs2)
  have A3 : Hid (VB w3 w.heap.size (.int .i64 15) (.string wd) (.string un) (.slice ka kids.length kc)) := A2.out.below hb3
  have hs3 := B3.out.size
  clear hb3 S2
  refine hK.out _ _ A3.out (fun _ => ?_)
  clear hK K
  refine brH 8 fun K hK => ?_
  go_simp
  refine (Closer_c ⟨15, wd, un⟩ _).mono ?_
  rw [Hcl.out]
  rintro e w4 ⟨rfl, hb4⟩
  have B4 : Hid (Below w.heap.size w w4) := B3.out.trans (hb4.mono hs3)
  have A4 : Hid (VB w4 w.heap.size (.int .i64 15) (.string wd) (.string un) (.slice ka kids.length kc)) := A3.out.below hb4
  have hs4 := B4.out.size
  clear hb4
  refine hK.out _ _ A4.out (fun _ => ?_)
  clear hK K
  refine brH 9 fun K hK => ?_
  go_simp
  refine hK.out _ _ (A4.out.alloc _) (fun _ => ?_); clear hK K
  refine brH 10 fun K hK => ?_
  go_simp
  refine (Join_c [wd, wr, cl] w4.heap.size _ _ (row3 w4 wd wr cl) (by simp) (by show wd.size + (wr.size + (cl.size + 0)) ≤ _; omega)).mono ?_
  rintro e w5 ⟨rfl, hb5⟩
  have B5 : Hid (Below w.heap.size w w5) := (B4.out.alloc hs4 _).trans (hb5.mono (by simp; omega))
  have A5 : Hid (VB w5 w.heap.size (.int .i64 15) (.string wd) (.string un) (.slice ka kids.length kc)) := (A4.out.alloc _).below hb5
  clear hb5
  refine hK.out _ _ A5.out (fun _ => ?_)
  clear hK K
  refine brH 11 fun K hK => ?_
  go_simp
  refine hK.out _ _ (A5.out) (fun _ => ?_); clear hK K
  refine wpAnyH_done (by kernel_rfl) ?_ _
  go_wp2_with fail
  go_ret
  exact ⟨retS HV.out, B5.out⟩
end
theorem value_c (n : Nd) (hrec : ValsOK n.kids) (B : Nat) (kv : Value) (w : World) (hk : Sl (fun b => b < B) w kv n.kids) (hB : B ≤ w.heap.size) (ht : TokOK n.t) (hz : wzL n.kids ≤ 549755813888) :
    Calls Tryz.prog 166 #[nodV n.t kv] w fun e w' => e = .returned (.string (writN n)) ∧ Below w.heap.size w w' := by
  obtain ⟨⟨kd, wd, un⟩, kids⟩ := n
  obtain ⟨ka, kc, rfl⟩ := hk.form
  have hw : wd.size ≤ 4000000 := ht.word
  have hu : un.size ≤ 4000000 := by have : un.size ≤ 1000 := ht.unit; omega
  show Calls Tryz.prog _ #[.agg #[.int .i64 kd, .string wd, .string un, .slice ka kids.length kc]] w fun e w' => e = .returned (.string (oneO ⟨kd, wd, un⟩ (Sp.written kids))) ∧ Below w.heap.size w w'
  have ne : ∀ k : Int, ¬ kd = k → (kd == k) = false := fun k h => by simpa using h
  unfold oneO
  by_cases k1 : kd = 1
  · subst k1; rw [if_pos rfl]; exact val_1 wd un ka kids.length kc w
  rw [if_neg k1]
  by_cases k2 : kd = 2
  · subst k2; rw [if_pos rfl]; exact val_2 wd un ka kids.length kc w hw
  rw [if_neg k2]
  by_cases k3 : kd = 3
  · subst k3; rw [if_pos rfl]; exact val_3 wd un ka kids.length kc w
  rw [if_neg k3]
  by_cases k4 : kd = 4
  · subst k4; rw [if_pos rfl]; exact val_4 wd un ka kids.length kc w hw
  rw [if_neg k4]
  by_cases k6 : kd = 6
  · subst k6; rw [if_pos rfl]; exact val_6 wd un ka kids.length kc w hw
  rw [if_neg k6]
  by_cases k7 : kd = 7
  · subst k7; rw [if_pos rfl]; exact val_7 wd un ka kids.length kc w hw hu
  rw [if_neg k7]
  by_cases k8 : kd = 8
  · subst k8; rw [if_pos rfl]; exact val_8 wd un ka kids.length kc w
  rw [if_neg k8]
  by_cases k9 : kd = 9
  · subst k9; rw [if_pos rfl]; exact val_9 wd un ka kids.length kc w
  rw [if_neg k9]
  by_cases k10 : kd = 10
  · subst k10; rw [if_pos rfl]; exact val_10 wd un ka kids.length kc w hw
  rw [if_neg k10]
  by_cases k11 : kd = 11
  · subst k11; rw [if_pos rfl]; exact val_11 wd un ka kids kc B w hrec hk hB hz hw
  rw [if_neg k11]
  by_cases k12 : kd = 12
  · subst k12; rw [if_pos rfl]; exact val_12 wd un ka kids.length kc w hw
  rw [if_neg k12]
  by_cases k13 : kd = 13
  · subst k13; rw [if_pos rfl]; exact val_13 wd un ka kids.length kc w
  rw [if_neg k13]
  by_cases k14 : kd = 14
  · subst k14; rw [if_pos rfl]; exact val_14 wd un ka kids.length kc w hw
  rw [if_neg k14]
  by_cases k15 : kd = 15
  · subst k15; rw [if_pos rfl]; exact val_15 wd un ka kids kc B w hrec hk hB hz hw
  rw [if_neg k15]
  exact val_0 wd un ka kids.length kc w kd (ne _ k1) (ne _ k2) (ne _ k3) (ne _ k4) (ne _ k6) (ne _ k7) (ne _ k8) (ne _ k9) (ne _ k10) (ne _ k11) (ne _ k12) (ne _ k13) (ne _ k14) (ne _ k15)
end
end Go.Proofs.YtlliliddljkbfaaGreat
