import Derived.Test.YtlliliddljkbfaaGreatC25
import Derived.Test.YtlliliddljkbfaaGreatC34
import Derived.DeepKeys3
namespace Go.Proofs.YtlliliddljkbfaaGreat
set_option maxHeartbeats 64000000
set_option maxRecDepth 100000
open Go.RowKit Sp
open Go.ChangeMaps (setBlock)
open Go.Maps (Keyed)
theorem keyed_q : Keyed Tryz.prog 133 := Keyed.of_law (deep_law (m := 2) (by omega) (by kernel_rfl) (by kernel_rfl) (by kernel_rfl))
theorem key_q (e : Nat) (s : ByteArray) (he : e < 64) (hs : s.size ≤ 4000000) : ∃ l, keyOf Tryz.prog 133 (.agg #[.int .i64 (e : Int), .string s]) = some l := by
  have hwf : (Lit.int .i64 (e : Int)).wf = true := by
    have h1 : IntKind.i64.min ≤ (e : Int) := by have : IntKind.i64.min ≤ 0 := by decide
                                                omega
    have h2 : (e : Int) ≤ IntKind.i64.max := by have : (64 : Int) ≤ IntKind.i64.max := by decide
                                                omega
    show (decide (IntKind.i64.min ≤ (e : Int)) && decide ((e : Int) ≤ IntKind.i64.max)) = true
    rw [decide_eq_true h1, decide_eq_true h2]; rfl
  have hsz : s.size ≤ maxLen := by unfold maxLen; omega
  have hk : Tryz.prog.keyType 133 = true := by kernel_rfl
  have hc : Tryz.prog.cellsOf 133 = 2 := by kernel_rfl
  have hci : Tryz.prog.cellsOf 3 = 1 := by kernel_rfl
  have hcs : Tryz.prog.cellsOf 9 = 1 := by kernel_rfl
  have ht : Tryz.prog.types.size = (Tryz.prog.types.size - 1) + 1 := by kernel_rfl
  unfold keyOf
  simp only [Tryz.underlying133]
  rw [if_pos (by simp [hk, Value.formed, Tryz.underlying133, hc]), ht]
  unfold Program.keyLits
  simp only [Tryz.underlying133, Value.cells]
  rw [if_pos (by rw [hc]; exact ⟨rfl, by kernel_rfl⟩)]
  generalize Tryz.prog.types.size - 1 = d
  have k1 : Tryz.prog.keyLits (d + 1) 3 [.int .i64 (e : Int)] = some [.int .i64 (e : Int)] := by
    unfold Program.keyLits
    simp only [Tryz.underlying3]
    exact if_pos ⟨trivial, hwf⟩
  have k2 : Tryz.prog.keyLits (d + 1) 9 [.string s] = some [.string s.data.toList] := by
    unfold Program.keyLits
    simp only [Tryz.underlying9]
    exact if_pos hsz
  simp only [List.mapM_cons, List.mapM_nil, hci, hcs, List.drop_zero, List.drop_succ_cons, List.take_succ_cons, List.take_zero, k1, k2]
  exact ⟨_, rfl⟩
def qV (e : Nat) (s : ByteArray) : Value := .agg #[.int .i64 (e : Int), .string s]
def aV (t : ByteArray) : Value := .agg #[.string t]
theorem qV_inj {e e' : Nat} {s s' : ByteArray} (h : qV e s = qV e' s') : e = e' ∧ s = s' := by
  unfold qV at h
  simp at h
  exact ⟨by omega, h.2⟩
def KnwM (w : World) (b : Nat) (f : Nat → ByteArray → ByteArray) : Prop :=
  ∃ m, MapF 133 w b m ∧ ∀ e s v, m (qV e s) = some v → v = aV (f e s)
theorem KnwM.lt {w : World} {b : Nat} {f : Nat → ByteArray → ByteArray} (h : KnwM w b f) : b < w.heap.size := by
  obtain ⟨m, h1, _⟩ := h; exact h1.lt
theorem KnwM.keep {w w' : World} {b : Nat} {f : Nat → ByteArray → ByteArray} (h : KnwM w b f) (he : w'.heap[b]? = w.heap[b]?) : KnwM w' b f := by
  obtain ⟨m, h1, h2⟩ := h
  exact ⟨m, h1.keep he, h2⟩
theorem zero_ans (w : World) : (zeroValue 135).run Tryz.prog w = .ok (.agg #[.string ⟨#[]⟩]) w := by kernel_rfl
theorem KnwM.look {w : World} {b : Nat} {f : Nat → ByteArray → ByteArray} {e : Nat} {s : ByteArray} (h : KnwM w b f) (he : e < 64) (hs : s.size ≤ 4000000) :
    (Instr.lookup 75 (.map (some b)) (.agg #[.int .i64 (e : Int), .string s]) true).run Tryz.prog w = .ok (.tuple #[.agg #[.string (f e s)], .bool true]) w ∨
    (Instr.lookup 75 (.map (some b)) (.agg #[.int .i64 (e : Int), .string s]) true).run Tryz.prog w = .ok (.tuple #[.agg #[.string ⟨#[]⟩], .bool false]) w := by
  obtain ⟨m, h1, h2⟩ := h
  obtain ⟨l, hl⟩ := key_q e s he hs
  have hk := h1.look keyed_q Tryz.underlying75 (zero_ans w) hl
  cases hm : m (.agg #[.int .i64 (e : Int), .string s]) with
  | none => rw [hm] at hk; exact Or.inr hk
  | some v =>
    rw [hm] at hk
    have := h2 e s v hm
    rw [this] at hk
    exact Or.inl hk
theorem KnwM.upd {w : World} {b : Nat} {f : Nat → ByteArray → ByteArray} {e : Nat} {s : ByteArray} (h : KnwM w b f) (he : e < 64) (hs : s.size ≤ 4000000) :
    ∃ o, (Instr.mapUpdate 75 (.map (some b)) (.agg #[.int .i64 (e : Int), .string s]) (.agg #[.string (f e s)])).run Tryz.prog w = .ok () (setBlock w b o) ∧ KnwM (setBlock w b o) b f := by
  obtain ⟨m, h1, h2⟩ := h
  obtain ⟨l, hl⟩ := key_q e s he hs
  open Classical in
  obtain ⟨o, hr, hm'⟩ := h1.upd (m' := fun q => if q = qV e s then some (aV (f e s)) else m q) keyed_q Tryz.underlying75 hl (if_pos rfl) (fun q hq => if_neg hq)
  refine ⟨o, hr, _, hm', fun e' s' v hv => ?_⟩
  by_cases e1 : qV e' s' = qV e s
  · obtain ⟨rfl, rfl⟩ := qV_inj e1
    have hv' : (if qV e' s' = qV e' s' then some (aV (f e' s')) else m (qV e' s')) = some v := hv
    rw [if_pos rfl] at hv'
    cases hv'; rfl
  · have hv' : (if qV e' s' = qV e s then some (aV (f e s)) else m (qV e' s')) = some v := hv
    rw [if_neg e1] at hv'
    exact h2 e' s' v hv'
section
attribute [local go_sem] fld_tok fld_ins fld_kind fld_word
def ValsOK (l : List Nd) : Prop := ∀ (B : Nat) (v : Value) (w : World), Sl (fun b => b < B) w v l → B ≤ w.heap.size → wzL l ≤ 549755813888 → Calls Tryz.prog 102 #[v] w fun e w' => e = .returned (.string (Sp.written l)) ∧ Below w.heap.size w w'
theorem written_size (l : List Nd) : (Sp.written l).size ≤ wzL l := writF_size none l
section
variable (wd un : ByteArray) (ka : Option Addr) (kids : List Nd) (kc B : Nat) (w : World)
theorem val_11 (hrec : ValsOK kids) (hk : Sl (fun b => b < B) w (.slice ka kids.length kc) kids) (hB : B ≤ w.heap.size) (hz : wzL kids ≤ 549755813888) (hw : wd.size ≤ 4000000) : Calls Tryz.prog 166 #[.agg #[.int .i64 11, .string wd, .string un, .slice ka kids.length kc]] w fun e w' => e = .returned (.string (nameO wd ++ (b1 40 ++ (Sp.written kids ++ b1 41)))) ∧ Below w.heap.size w w' := by
  have B2 : Hid (Below w.heap.size w (w.alloc (.cells #[.int .i64 11, .string wd, .string un, .slice ka kids.length kc] 199)).drew) := new_drew _ _
  have A2 : Hid (VB (w.alloc (.cells #[.int .i64 11, .string wd, .string un, .slice ka kids.length kc] 199)).drew w.heap.size (.int .i64 11) (.string wd) (.string un) (.slice ka kids.length kc)) := VB.new _ _ _ _ _
  have S2 : Hid (Sl (fun b => b < B) (w.alloc (.cells #[.int .i64 11, .string wd, .string un, .slice ka kids.length kc] 199)).drew (.slice ka kids.length kc) kids) := hk.below B2.out hB
  have HR : Hid (ValsOK kids) := hrec
  clear hk hrec
  obtain ⟨nm, Hnm⟩ : ∃ nm, Hid (nameO wd = nm) := ⟨_, hid rfl⟩
  obtain ⟨wr, Hwr⟩ : ∃ wr, Hid (Sp.written kids = wr) := ⟨_, hid rfl⟩
  have HV : Hid (joinB [nm, ⟨#[40]⟩, wr, ⟨#[41]⟩] = nameO wd ++ (b1 40 ++ (Sp.written kids ++ b1 41))) := by show _ = _; rw [Hnm.out, Hwr.out]; simp [joinB, b1]
  have hsz : nm.size ≤ 4 * wd.size := by rw [← Hnm.out]; exact nameO_size wd
  have hsw : wr.size ≤ wzL kids := by rw [← Hwr.out]; exact written_size kids
  go_enter Tryz.func166, Tryz.ntmps166
  go_wp2_with fail
  refine wp_region_any (by kernel_rfl) ?_
  change wpAny _ _ _ _ _ _ _ (World.drew _)
  generalize (w.alloc (.cells #[.int .i64 11, .string wd, .string un, .slice ka kids.length kc] 199)).drew = w2 at *
  have hs2 := B2.out.size
  refine wpAny_of_held (S := fun wx => VB wx w.heap.size (.int .i64 11) (.string wd) (.string un) (.slice ka kids.length kc)) _ _ _ _ ?_
  refine tkH 0 rfl A2.out (by intro w hSw; obtain ⟨a0, a1, a2, a3⟩ := hSw.cs; go_simp; all_goals with_reducible rfl) ?_
  refine tkH 1 rfl A2.out (by intro w hSw; obtain ⟨a0, a1, a2, a3⟩ := hSw.cs; go_simp; all_goals with_reducible rfl) ?_
  refine tkH 2 rfl A2.out (by intro w hSw; obtain ⟨a0, a1, a2, a3⟩ := hSw.cs; go_simp; all_goals with_reducible rfl) ?_
  refine tkH 4 rfl A2.out (by intro w hSw; obtain ⟨a0, a1, a2, a3⟩ := hSw.cs; go_simp; all_goals with_reducible rfl) ?_
  refine tkH 5 rfl A2.out (by intro w hSw; obtain ⟨a0, a1, a2, a3⟩ := hSw.cs; go_simp; all_goals with_reducible rfl) ?_
  refine brH 3 fun K hK => ?_
  go_simp
  refine (Name_c wd _ hw).mono ?_
  rw [Hnm.out]
  rintro e w3 ⟨rfl, hb3⟩
  have B3 : Hid (Below w.heap.size w w3) := B2.out.trans (hb3.mono hs2)
  have A3 : Hid (VB w3 w.heap.size (.int .i64 11) (.string wd) (.string un) (.slice ka kids.length kc)) := A2.out.below hb3
  have S3 : Hid (Sl (fun b => b < B) w3 (.slice ka kids.length kc) kids) := S2.out.below hb3 (by omega)
  have hs3 := B3.out.size
  clear hb3 S2
  refine hK.out _ _ A3.out (fun _ => ?_)
  clear hK K
  refine brH 6 fun K hK => ?_
  go_simp
  refine (HR.out B _ w3 S3.out (by omega) hz).mono ?_
  rw [Hwr.out]
  rintro e w4 ⟨rfl, hb4⟩
  have B4 : Hid (Below w.heap.size w w4) := B3.out.trans (hb4.mono hs3)
  have A4 : Hid (VB w4 w.heap.size (.int .i64 11) (.string wd) (.string un) (.slice ka kids.length kc)) := A3.out.below hb4
  have hs4 := B4.out.size
  clear hb4
  refine hK.out _ _ A4.out (fun _ => ?_)
  clear hK K
  refine brH 7 fun K hK => ?_
  go_simp
  refine hK.out _ _ (A4.out.alloc _) (fun _ => ?_); clear hK K
  refine brH 8 fun K hK => ?_
  go_simp
  refine (Join_c [nm, ⟨#[40]⟩, wr, ⟨#[41]⟩] w4.heap.size _ _ (row4 w4 nm ⟨#[40]⟩ wr ⟨#[41]⟩) (by simp) (by show nm.size + (1 + (wr.size + (1 + 0))) ≤ _; omega)).mono ?_
  rintro e w5 ⟨rfl, hb5⟩
  have B5 : Hid (Below w.heap.size w w5) := (B4.out.alloc hs4 _).trans (hb5.mono (by simp; omega))
  have A5 : Hid (VB w5 w.heap.size (.int .i64 11) (.string wd) (.string un) (.slice ka kids.length kc)) := (A4.out.alloc _).below hb5
  clear hb5
  refine hK.out _ _ A5.out (fun _ => ?_)
  clear hK K
  refine brH 9 fun K hK => ?_
  go_simp
  refine hK.out _ _ (A5.out) (fun _ => ?_); clear hK K
  refine wpAnyH_done (by kernel_rfl) ?_ _
  go_wp2_with fail
  go_ret
  exact ⟨retS HV.out, B5.out⟩
theorem val_15 (hrec : ValsOK kids) (hk : Sl (fun b => b < B) w (.slice ka kids.length kc) kids) (hB : B ≤ w.heap.size) (hz : wzL kids ≤ 549755813888) (hw : wd.size ≤ 4000000) : Calls Tryz.prog 166 #[.agg #[.int .i64 15, .string wd, .string un, .slice ka kids.length kc]] w fun e w' => e = .returned (.string (wd ++ (Sp.written kids ++ closing ⟨15, wd, un⟩))) ∧ Below w.heap.size w w' := by
  have B2 : Hid (Below w.heap.size w (w.alloc (.cells #[.int .i64 15, .string wd, .string un, .slice ka kids.length kc] 199)).drew) := new_drew _ _
  have A2 : Hid (VB (w.alloc (.cells #[.int .i64 15, .string wd, .string un, .slice ka kids.length kc] 199)).drew w.heap.size (.int .i64 15) (.string wd) (.string un) (.slice ka kids.length kc)) := VB.new _ _ _ _ _
  have S2 : Hid (Sl (fun b => b < B) (w.alloc (.cells #[.int .i64 15, .string wd, .string un, .slice ka kids.length kc] 199)).drew (.slice ka kids.length kc) kids) := hk.below B2.out hB
  have HR : Hid (ValsOK kids) := hrec
  clear hk hrec
  obtain ⟨cl, Hcl⟩ : ∃ cl, Hid (closing ⟨15, wd, un⟩ = cl) := ⟨_, hid rfl⟩
  obtain ⟨wr, Hwr⟩ : ∃ wr, Hid (Sp.written kids = wr) := ⟨_, hid rfl⟩
  have HV : Hid (joinB [wd, wr, cl] = wd ++ (Sp.written kids ++ closing ⟨15, wd, un⟩)) := by show _ = _; rw [Hcl.out, Hwr.out]; simp [joinB]
  have hsz : cl.size ≤ 1 := by rw [← Hcl.out]; exact closing_size _
  have hsw : wr.size ≤ wzL kids := by rw [← Hwr.out]; exact written_size kids
  go_enter Tryz.func166, Tryz.ntmps166
  go_wp2_with fail
  refine wp_region_any (by kernel_rfl) ?_
  change wpAny _ _ _ _ _ _ _ (World.drew _)
  generalize (w.alloc (.cells #[.int .i64 15, .string wd, .string un, .slice ka kids.length kc] 199)).drew = w2 at *
  have hs2 := B2.out.size
  refine wpAny_of_held (S := fun wx => VB wx w.heap.size (.int .i64 15) (.string wd) (.string un) (.slice ka kids.length kc)) _ _ _ _ ?_
  refine tkH 0 rfl A2.out (by intro w hSw; obtain ⟨a0, a1, a2, a3⟩ := hSw.cs; go_simp; all_goals with_reducible rfl) ?_
  refine tkH 1 rfl A2.out (by intro w hSw; obtain ⟨a0, a1, a2, a3⟩ := hSw.cs; go_simp; all_goals with_reducible rfl) ?_
  refine tkH 2 rfl A2.out (by intro w hSw; obtain ⟨a0, a1, a2, a3⟩ := hSw.cs; go_simp; all_goals with_reducible rfl) ?_
  refine tkH 3 rfl A2.out (by intro w hSw; obtain ⟨a0, a1, a2, a3⟩ := hSw.cs; go_simp; all_goals with_reducible rfl) ?_
  refine tkH 4 rfl A2.out (by intro w hSw; obtain ⟨a0, a1, a2, a3⟩ := hSw.cs; go_simp; all_goals with_reducible rfl) ?_
  refine tkH 6 rfl A2.out (by intro w hSw; obtain ⟨a0, a1, a2, a3⟩ := hSw.cs; go_simp; all_goals with_reducible rfl) ?_
  refine tkH 7 rfl A2.out (by intro w hSw; obtain ⟨a0, a1, a2, a3⟩ := hSw.cs; go_simp; all_goals with_reducible rfl) ?_
  refine brH 5 fun K hK => ?_
  go_simp
  refine (HR.out B _ w2 S2.out (by omega) hz).mono ?_
  rw [Hwr.out]
  rintro e w3 ⟨rfl, hb3⟩
  have B3 : Hid (Below w.heap.size w w3) := B2.out.trans (hb3.mono hs2)
  have A3 : Hid (VB w3 w.heap.size (.int .i64 15) (.string wd) (.string un) (.slice ka kids.length kc)) := A2.out.below hb3
  have hs3 := B3.out.size
  clear hb3 S2
  refine hK.out _ _ A3.out (fun _ => ?_)
  clear hK K
  refine brH 8 fun K hK => ?_
  go_simp
  refine (Closer_c ⟨15, wd, un⟩ _).mono ?_
  rw [Hcl.out]
  rintro e w4 ⟨rfl, hb4⟩
  have B4 : Hid (Below w.heap.size w w4) := B3.out.trans (hb4.mono hs3)
  have A4 : Hid (VB w4 w.heap.size (.int .i64 15) (.string wd) (.string un) (.slice ka kids.length kc)) := A3.out.below hb4
  have hs4 := B4.out.size
  clear hb4
  refine hK.out _ _ A4.out (fun _ => ?_)
  clear hK K
  refine brH 9 fun K hK => ?_
  go_simp
  refine hK.out _ _ (A4.out.alloc _) (fun _ => ?_); clear hK K
  refine brH 10 fun K hK => ?_
  go_simp
  refine (Join_c [wd, wr, cl] w4.heap.size _ _ (row3 w4 wd wr cl) (by simp) (by show wd.size + (wr.size + (cl.size + 0)) ≤ _; omega)).mono ?_
  rintro e w5 ⟨rfl, hb5⟩
  have B5 : Hid (Below w.heap.size w w5) := (B4.out.alloc hs4 _).trans (hb5.mono (by simp; omega))
  have A5 : Hid (VB w5 w.heap.size (.int .i64 15) (.string wd) (.string un) (.slice ka kids.length kc)) := (A4.out.alloc _).below hb5
  clear hb5
  refine hK.out _ _ A5.out (fun _ => ?_)
  clear hK K
  refine brH 11 fun K hK => ?_
  go_simp
  refine hK.out _ _ (A5.out) (fun _ => ?_); clear hK K
  refine wpAnyH_done (by kernel_rfl) ?_ _
  go_wp2_with fail
  go_ret
  exact ⟨retS HV.out, B5.out⟩
end
theorem value_c (n : Nd) (hrec : ValsOK n.kids) (B : Nat) (kv : Value) (w : World) (hk : Sl (fun b => b < B) w kv n.kids) (hB : B ≤ w.heap.size) (ht : TokOK n.t) (hz : wzL n.kids ≤ 549755813888) :
    Calls Tryz.prog 166 #[nodV n.t kv] w fun e w' => e = .returned (.string (writN n)) ∧ Below w.heap.size w w' := by
  obtain ⟨⟨kd, wd, un⟩, kids⟩ := n
  obtain ⟨ka, kc, rfl⟩ := hk.form
  have hw : wd.size ≤ 4000000 := ht.word
  have hu : un.size ≤ 4000000 := by have : un.size ≤ 1000 := ht.unit; omega
  show Calls Tryz.prog _ #[.agg #[.int .i64 kd, .string wd, .string un, .slice ka kids.length kc]] w fun e w' => e = .returned (.string (oneO ⟨kd, wd, un⟩ (Sp.written kids))) ∧ Below w.heap.size w w'
  have ne : ∀ k : Int, ¬ kd = k → (kd == k) = false := fun k h => by simpa using h
  unfold oneO
  by_cases k1 : kd = 1
  · subst k1; rw [if_pos rfl]; exact val_1 wd un ka kids.length kc w
  rw [if_neg k1]
  by_cases k2 : kd = 2
  · subst k2; rw [if_pos rfl]; exact val_2 wd un ka kids.length kc w hw
  rw [if_neg k2]
  by_cases k3 : kd = 3
  · subst k3; rw [if_pos rfl]; exact val_3 wd un ka kids.length kc w
  rw [if_neg k3]
  by_cases k4 : kd = 4
  · subst k4; rw [if_pos rfl]; exact val_4 wd un ka kids.length kc w hw
  rw [if_neg k4]
  by_cases k6 : kd = 6
  · subst k6; rw [if_pos rfl]; exact val_6 wd un ka kids.length kc w hw
  rw [if_neg k6]
  by_cases k7 : kd = 7
  · subst k7; rw [if_pos rfl]; exact val_7 wd un ka kids.length kc w hw hu
  rw [if_neg k7]
  by_cases k8 : kd = 8
  · subst k8; rw [if_pos rfl]; exact val_8 wd un ka kids.length kc w
  rw [if_neg k8]
  by_cases k9 : kd = 9
  · subst k9; rw [if_pos rfl]; exact val_9 wd un ka kids.length kc w
  rw [if_neg k9]
  by_cases k10 : kd = 10
  · subst k10; rw [if_pos rfl]; exact val_10 wd un ka kids.length kc w hw
  rw [if_neg k10]
  by_cases k11 : kd = 11
  · subst k11; rw [if_pos rfl]; exact val_11 wd un ka kids kc B w hrec hk hB hz hw
  rw [if_neg k11]
  by_cases k12 : kd = 12
  · subst k12; rw [if_pos rfl]; exact val_12 wd un ka kids.length kc w hw
  rw [if_neg k12]
  by_cases k13 : kd = 13
  · subst k13; rw [if_pos rfl]; exact val_13 wd un ka kids.length kc w
  rw [if_neg k13]
  by_cases k14 : kd = 14
  · subst k14; rw [if_pos rfl]; exact val_14 wd un ka kids.length kc w hw
  rw [if_neg k14]
  by_cases k15 : kd = 15
  · subst k15; rw [if_pos rfl]; exact val_15 wd un ka kids kc B w hrec hk hB hz hw
  rw [if_neg k15]
  exact val_0 wd un ka kids.length kc w kd (ne _ k1) (ne _ k2) (ne _ k3) (ne _ k4) (ne _ k6) (ne _ k7) (ne _ k8) (ne _ k9) (ne _ k10) (ne _ k11) (ne _ k12) (ne _ k13) (ne _ k14) (ne _ k15)
end
end Go.Proofs.YtlliliddljkbfaaGreat
