import Derived.Test.YtlliliddljkbfaaGreatC8
import Derived.Test.YtlliliddljkbfaaGreatC24
import Derived.Deep.RegionHeld3
namespace Go.Proofs.YtlliliddljkbfaaGreat
set_option maxHeartbeats 64000000
set_option maxRecDepth 100000
open Go.RowKit Sp
section
attribute [local go_sem] fld_tok fld_ins fld_kind fld_word
theorem rw2 (w : World) (a b : ByteArray) : (w.alloc (.cells #[.string a, .string b] 9)).ownsRow w.heap.size 9 1 (.slice (some ⟨w.heap.size, 0, none⟩) 2 2) 2 ([a, b].map Value.string) :=
  ⟨rfl, .inr ⟨w.heap.size, 2, _, rfl, Nat.le_refl _, heap_alloc_new w _, Nat.le_refl _, by unfold maxLen; omega, rfl, rfl⟩⟩
theorem retS {a b : ByteArray} (h : a = b) : Ending.returned (.string a) = Ending.returned (.string b) := by rw [h]
theorem new_drew (w : World) (o : Obj) : Below w.heap.size w ((w.alloc o).drew) := ((Below.refl _ _).alloc (Nat.le_refl _) _).drew
theorem VB.drew {w : World} {b : Nat} {x0 x1 x2 x3 : Value} (h : VB w b x0 x1 x2 x3) : VB w.drew b x0 x1 x2 x3 := h
section
variable (wd un : ByteArray) (ka : Option Addr) (kl kc : Nat) (w : World)
theorem val_1 : Calls Tryz.prog 166 #[.agg #[.int .i64 1, .string wd, .string un, .slice ka kl kc]] w fun e w' => e = .returned (.string (b1 32)) ∧ Below w.heap.size w w' := by
  have B2 : Hid (Below w.heap.size w (w.alloc (.cells #[.int .i64 1, .string wd, .string un, .slice ka kl kc] 199))) := new_below _ _
  go_enter Tryz.func166, Tryz.ntmps166
  go_wp2_with fail
  go_ret
  exact ⟨rfl, B2.out⟩
theorem val_3 : Calls Tryz.prog 166 #[.agg #[.int .i64 3, .string wd, .string un, .slice ka kl kc]] w fun e w' => e = .returned (.string (badTO)) ∧ Below w.heap.size w w' := by
  have B2 : Hid (Below w.heap.size w (w.alloc (.cells #[.int .i64 3, .string wd, .string un, .slice ka kl kc] 199))) := new_below _ _
  go_enter Tryz.func166, Tryz.ntmps166
  go_wp2_with fail
  go_ret
  exact ⟨rfl, B2.out⟩
theorem val_8 : Calls Tryz.prog 166 #[.agg #[.int .i64 8, .string wd, .string un, .slice ka kl kc]] w fun e w' => e = .returned (.string (openO)) ∧ Below w.heap.size w w' := by
  have B2 : Hid (Below w.heap.size w (w.alloc (.cells #[.int .i64 8, .string wd, .string un, .slice ka kl kc] 199))) := new_below _ _
  go_enter Tryz.func166, Tryz.ntmps166
  go_wp2_with fail
  go_ret
  exact ⟨rfl, B2.out⟩
theorem val_9 : Calls Tryz.prog 166 #[.agg #[.int .i64 9, .string wd, .string un, .slice ka kl kc]] w fun e w' => e = .returned (.string (closeO)) ∧ Below w.heap.size w w' := by
  have B2 : Hid (Below w.heap.size w (w.alloc (.cells #[.int .i64 9, .string wd, .string un, .slice ka kl kc] 199))) := new_below _ _
  go_enter Tryz.func166, Tryz.ntmps166
  go_wp2_with fail
  go_ret
  exact ⟨rfl, B2.out⟩
theorem val_13 : Calls Tryz.prog 166 #[.agg #[.int .i64 13, .string wd, .string un, .slice ka kl kc]] w fun e w' => e = .returned (.string (badLO)) ∧ Below w.heap.size w w' := by
  have B2 : Hid (Below w.heap.size w (w.alloc (.cells #[.int .i64 13, .string wd, .string un, .slice ka kl kc] 199))) := new_below _ _
  go_enter Tryz.func166, Tryz.ntmps166
  go_wp2_with fail
  go_ret
  exact ⟨rfl, B2.out⟩
theorem val_0 (k : Int) (h1 : (k == 1) = false) (h2 : (k == 2) = false) (h3 : (k == 3) = false) (h4 : (k == 4) = false) (h6 : (k == 6) = false) (h7 : (k == 7) = false) (h8 : (k == 8) = false) (h9 : (k == 9) = false) (h10 : (k == 10) = false) (h11 : (k == 11) = false) (h12 : (k == 12) = false) (h13 : (k == 13) = false) (h14 : (k == 14) = false) (h15 : (k == 15) = false) : Calls Tryz.prog 166 #[.agg #[.int .i64 k, .string wd, .string un, .slice ka kl kc]] w fun e w' => e = .returned (.string wd) ∧ Below w.heap.size w w' := by
  have B2 : Hid (Below w.heap.size w (w.alloc (.cells #[.int .i64 k, .string wd, .string un, .slice ka kl kc] 199))) := new_below _ _
  go_enter Tryz.func166, Tryz.ntmps166
  go_wp2_with fail
  go_ret
  exact ⟨rfl, B2.out⟩
theorem val_2 (hw : wd.size ≤ 4000000) : Calls Tryz.prog 166 #[.agg #[.int .i64 2, .string wd, .string un, .slice ka kl kc]] w fun e w' => e = .returned (.string (textO wd)) ∧ Below w.heap.size w w' := by
  have B2 : Hid (Below w.heap.size w (w.alloc (.cells #[.int .i64 2, .string wd, .string un, .slice ka kl kc] 199))) := new_below _ _
  go_enter Tryz.func166, Tryz.ntmps166
  go_wp2_with fail
  generalize w.alloc (.cells #[.int .i64 2, .string wd, .string un, .slice ka kl kc] 199) = w2 at *
  have hs2 := B2.out.size
  refine (Text_c wd _ hw).mono ?_
  rintro e w3 ⟨rfl, hb3⟩
  have B3 : Hid (Below w.heap.size w w3) := B2.out.trans (hb3.mono hs2)
  clear hb3
  go_wp2_with fail
  go_ret
  exact ⟨rfl, B3.out⟩
theorem val_12 (hw : wd.size ≤ 4000000) : Calls Tryz.prog 166 #[.agg #[.int .i64 12, .string wd, .string un, .slice ka kl kc]] w fun e w' => e = .returned (.string (linkO wd)) ∧ Below w.heap.size w w' := by
  have B2 : Hid (Below w.heap.size w (w.alloc (.cells #[.int .i64 12, .string wd, .string un, .slice ka kl kc] 199))) := new_below _ _
  go_enter Tryz.func166, Tryz.ntmps166
  go_wp2_with fail
  generalize w.alloc (.cells #[.int .i64 12, .string wd, .string un, .slice ka kl kc] 199) = w2 at *
  have hs2 := B2.out.size
  refine (wLink_c wd _ hw).mono ?_
  rintro e w3 ⟨rfl, hb3⟩
  have B3 : Hid (Below w.heap.size w w3) := B2.out.trans (hb3.mono hs2)
  clear hb3
  go_wp2_with fail
  go_ret
  exact ⟨rfl, B3.out⟩
theorem val_14 (hw : wd.size ≤ 4000000) : Calls Tryz.prog 166 #[.agg #[.int .i64 14, .string wd, .string un, .slice ka kl kc]] w fun e w' => e = .returned (.string (nameO wd)) ∧ Below w.heap.size w w' := by
  have B2 : Hid (Below w.heap.size w (w.alloc (.cells #[.int .i64 14, .string wd, .string un, .slice ka kl kc] 199))) := new_below _ _
  go_enter Tryz.func166, Tryz.ntmps166
  go_wp2_with fail
  generalize w.alloc (.cells #[.int .i64 14, .string wd, .string un, .slice ka kl kc] 199) = w2 at *
  have hs2 := B2.out.size
  refine (Name_c wd _ hw).mono ?_
  rintro e w3 ⟨rfl, hb3⟩
  have B3 : Hid (Below w.heap.size w w3) := B2.out.trans (hb3.mono hs2)
  clear hb3
  go_wp2_with fail
  go_ret
  exact ⟨rfl, B3.out⟩
theorem val_4 (hw : wd.size ≤ 4000000) : Calls Tryz.prog 166 #[.agg #[.int .i64 4, .string wd, .string un, .slice ka kl kc]] w fun e w' => e = .returned (.string (b1 35 ++ nameO wd)) ∧ Below w.heap.size w w' := by
  have B2 : Hid (Below w.heap.size w (w.alloc (.cells #[.int .i64 4, .string wd, .string un, .slice ka kl kc] 199))) := new_below _ _
  obtain ⟨nm, Hnm⟩ : ∃ nm, Hid (nameO wd = nm) := ⟨_, hid rfl⟩
  have HV : Hid (joinB [⟨#[35]⟩, nm] = b1 35 ++ nameO wd) := by show _ = _; rw [Hnm.out]; simp [joinB, b1]
  have hsz : nm.size ≤ 4 * wd.size := by rw [← Hnm.out]; exact nameO_size wd
  go_enter Tryz.func166, Tryz.ntmps166
  go_wp2_with fail
  generalize w.alloc (.cells #[.int .i64 4, .string wd, .string un, .slice ka kl kc] 199) = w2 at *
  have hs2 := B2.out.size
  refine (Name_c wd _ hw).mono ?_
  rw [Hnm.out]
  rintro e w3 ⟨rfl, hb3⟩
  have B3 : Hid (Below w.heap.size w w3) := B2.out.trans (hb3.mono hs2)
  have hs3 := B3.out.size
  clear hb3
  go_wp2_with fail
  refine (Join_c [⟨#[35]⟩, nm] w3.heap.size _ _ (rw2 w3 ⟨#[35]⟩ nm) (by simp) (by show 1 + (nm.size + 0) ≤ _; omega)).mono ?_
  rintro e w5 ⟨rfl, hb5⟩
  have B5 : Hid (Below w.heap.size w w5) := (B3.out.alloc hs3 _).trans (hb5.mono (by simp; omega))
  clear hb5
  go_wp2_with fail
  go_ret
  exact ⟨retS HV.out, B5.out⟩
theorem val_10 (hw : wd.size ≤ 4000000) : Calls Tryz.prog 166 #[.agg #[.int .i64 10, .string wd, .string un, .slice ka kl kc]] w fun e w' => e = .returned (.string (b1 64 ++ nameO wd)) ∧ Below w.heap.size w w' := by
  have B2 : Hid (Below w.heap.size w (w.alloc (.cells #[.int .i64 10, .string wd, .string un, .slice ka kl kc] 199))) := new_below _ _
  obtain ⟨nm, Hnm⟩ : ∃ nm, Hid (nameO wd = nm) := ⟨_, hid rfl⟩
  have HV : Hid (joinB [⟨#[64]⟩, nm] = b1 64 ++ nameO wd) := by show _ = _; rw [Hnm.out]; simp [joinB, b1]
  have hsz : nm.size ≤ 4 * wd.size := by rw [← Hnm.out]; exact nameO_size wd
  go_enter Tryz.func166, Tryz.ntmps166
  go_wp2_with fail
  generalize w.alloc (.cells #[.int .i64 10, .string wd, .string un, .slice ka kl kc] 199) = w2 at *
  have hs2 := B2.out.size
  refine (Name_c wd _ hw).mono ?_
  rw [Hnm.out]
  rintro e w3 ⟨rfl, hb3⟩
  have B3 : Hid (Below w.heap.size w w3) := B2.out.trans (hb3.mono hs2)
  have hs3 := B3.out.size
  clear hb3
  go_wp2_with fail
  refine (Join_c [⟨#[64]⟩, nm] w3.heap.size _ _ (rw2 w3 ⟨#[64]⟩ nm) (by simp) (by show 1 + (nm.size + 0) ≤ _; omega)).mono ?_
  rintro e w5 ⟨rfl, hb5⟩
  have B5 : Hid (Below w.heap.size w w5) := (B3.out.alloc hs3 _).trans (hb5.mono (by simp; omega))
  clear hb5
  go_wp2_with fail
  go_ret
  exact ⟨retS HV.out, B5.out⟩
theorem val_6 (hw : wd.size ≤ 4000000) : Calls Tryz.prog 166 #[.agg #[.int .i64 6, .string wd, .string un, .slice ka kl kc]] w fun e w' => e = .returned (.string (wd ++ b1 37)) ∧ Below w.heap.size w w' := by
  have B2 : Hid (Below w.heap.size w (w.alloc (.cells #[.int .i64 6, .string wd, .string un, .slice ka kl kc] 199))) := new_below _ _
  have HV : Hid (joinB [wd, ⟨#[37]⟩] = wd ++ b1 37) := by show _ = _; simp [joinB, b1]
  have A2 : Hid (VB (w.alloc (.cells #[.int .i64 6, .string wd, .string un, .slice ka kl kc] 199)) w.heap.size (.int .i64 6) (.string wd) (.string un) (.slice ka kl kc)) := VB.new _ _ _ _ _
  go_enter Tryz.func166, Tryz.ntmps166
  go_upto_region 11 with fail
  generalize w.alloc (.cells #[.int .i64 6, .string wd, .string un, .slice ka kl kc] 199) = w2 at *
  have hs2 := B2.out.size
  obtain ⟨a0, a1, a2, a3⟩ := A2.out.cs
  go_wp2_with fail
  refine (Join_c [wd, ⟨#[37]⟩] w2.heap.size _ _ (rw2 w2 wd ⟨#[37]⟩) (by simp) (by show wd.size + (1 + 0) ≤ _; omega)).mono ?_
  rintro e w5 ⟨rfl, hb5⟩
  have B5 : Hid (Below w.heap.size w w5) := (B2.out.alloc hs2 _).trans (hb5.mono (by simp; omega))
  clear hb5
  go_wp2_with fail
  go_ret
  exact ⟨retS HV.out, B5.out⟩
theorem val_7 (hw : wd.size ≤ 4000000) (hu : un.size ≤ 4000000) : Calls Tryz.prog 166 #[.agg #[.int .i64 7, .string wd, .string un, .slice ka kl kc]] w fun e w' => e = .returned (.string (wd ++ unitO un)) ∧ Below w.heap.size w w' := by
  have B2 : Hid (Below w.heap.size w (w.alloc (.cells #[.int .i64 7, .string wd, .string un, .slice ka kl kc] 199)).drew) := new_drew _ _
  have A2 : Hid (VB (w.alloc (.cells #[.int .i64 7, .string wd, .string un, .slice ka kl kc] 199)).drew w.heap.size (.int .i64 7) (.string wd) (.string un) (.slice ka kl kc)) := VB.new _ _ _ _ _
  obtain ⟨us, Hus⟩ : ∃ us, Hid (unitO un = us) := ⟨_, hid rfl⟩
  have HV : Hid (joinB [wd, us] = wd ++ unitO un) := by show _ = _; rw [Hus.out]; simp [joinB]
  have hsz : us.size ≤ 4 * un.size := by rw [← Hus.out]; exact unitO_size un
  go_enter Tryz.func166, Tryz.ntmps166
  go_wp2_with fail
  refine wp_region_any (by kernel_rfl) ?_
  change wpAny _ _ _ _ _ _ _ (World.drew _)
  generalize (w.alloc (.cells #[.int .i64 7, .string wd, .string un, .slice ka kl kc] 199)).drew = w2 at *
  have hs2 := B2.out.size
  refine wpAny_of_held (S := fun wx => VB wx w.heap.size (.int .i64 7) (.string wd) (.string un) (.slice ka kl kc)) _ _ _ _ ?_
  refine tkH 0 rfl A2.out (by intro w hSw; obtain ⟨a0, a1, a2, a3⟩ := hSw.cs; go_simp; all_goals with_reducible rfl) ?_
  refine tkH 1 rfl A2.out (by intro w hSw; obtain ⟨a0, a1, a2, a3⟩ := hSw.cs; go_simp; all_goals with_reducible rfl) ?_
  refine tkH 2 rfl A2.out (by intro w hSw; obtain ⟨a0, a1, a2, a3⟩ := hSw.cs; go_simp; all_goals with_reducible rfl) ?_
  refine tkH 3 rfl A2.out (by intro w hSw; obtain ⟨a0, a1, a2, a3⟩ := hSw.cs; go_simp; all_goals with_reducible rfl) ?_
  refine tkH 4 rfl A2.out (by intro w hSw; obtain ⟨a0, a1, a2, a3⟩ := hSw.cs; go_simp; all_goals with_reducible rfl) ?_
  refine tkH 5 rfl A2.out (by intro w hSw; obtain ⟨a0, a1, a2, a3⟩ := hSw.cs; go_simp; all_goals with_reducible rfl) ?_
  refine brH 6 fun K hK => ?_
  go_simp
  refine (unit_c un _ hu).mono ?_
  rw [Hus.out]
  rintro e w3 ⟨rfl, hb3⟩
  have B3 : Hid (Below w.heap.size w w3) := B2.out.trans (hb3.mono hs2)
  have A3 : Hid (VB w3 w.heap.size (.int .i64 7) (.string wd) (.string un) (.slice ka kl kc)) := A2.out.below hb3
  have hs3 := B3.out.size
  clear hb3
  refine hK.out _ _ A3.out (fun _ => ?_)
  clear hK K
  refine brH 7 fun K hK => ?_
  go_simp
  refine hK.out _ _ (A3.out.alloc _) (fun _ => ?_); clear hK K
  refine brH 8 fun K hK => ?_
  go_simp
  refine (Join_c [wd, us] w3.heap.size _ _ (rw2 w3 wd us) (by simp) (by show wd.size + (us.size + 0) ≤ _; omega)).mono ?_
  rintro e w5 ⟨rfl, hb5⟩
  have B5 : Hid (Below w.heap.size w w5) := (B3.out.alloc hs3 _).trans (hb5.mono (by simp; omega))
  have A5 : Hid (VB w5 w.heap.size (.int .i64 7) (.string wd) (.string un) (.slice ka kl kc)) := (A3.out.alloc _).below hb5
  clear hb5
  refine hK.out _ _ A5.out (fun _ => ?_)
  clear hK K
  refine brH 9 fun K hK => ?_
  go_simp
  refine hK.out _ _ (A5.out) (fun _ => ?_); clear hK K
  refine wpAnyH_done (by kernel_rfl) ?_ _
  go_wp2_with fail
  go_ret
  exact ⟨retS HV.out, B5.out⟩
end
end
section
attribute [local go_sem] fld_tok fld_ins fld_kind fld_word
theorem pass_sheet (n : Nd) : ([1, 8, 9] : List Int).contains n.t.kind = passN true n := by
  unfold passN blankN
  rw [Bool.eq_iff_iff]
  simp
theorem custom_pre (p : ByteArray) : Lib.hasPrefix p.data.toList [45, 45] = custom p := by
  have h := pre_drop p [45, 45] 0
  rw [List.drop_zero] at h
  unfold Lib.hasPrefix
  rw [h]
  show (pk p 0 == 45 && (pk p 1 == 45 && true)) = (decide (pk p 0 = 45) && decide (pk p 1 = 45))
  rw [Bool.and_true]
  rfl
theorem IsCustom_c (p : ByteArray) (w : World) : Calls Tryz.prog 64 #[.string p] w fun e w' => e = .returned (.bool (custom p)) ∧ w' = w := by
  have HV : Hid (Lib.hasPrefix p.data.toList [45, 45] = custom p) := custom_pre p
  go_enter Tryz.func64, Tryz.ntmps64
  go_wp2_with fail
  refine (Tryz.strings_HasPrefix p ⟨#[45, 45]⟩ w).mono ?_
  rintro e wq ⟨rfl, hwq⟩
  rw [hwq]
  go_wp2_with fail
  go_ret
  exact ⟨rbool HV.out, rfl⟩
theorem Property_c (p : ByteArray) (w : World) (hp : p.size ≤ 4000000) : Calls Tryz.prog 38 #[.string p] w fun e w' => e = .returned (.string (propOf p)) ∧ Below w.heap.size w w' := by
  obtain ⟨z, Hz⟩ : ∃ z, Hid (custom p = z) := ⟨_, hid rfl⟩
  have hc := IsCustom_c p w
  rw [Hz.out] at hc
  have HC : Hid (Calls Tryz.prog 64 #[.string p] w fun e w' => e = .returned (.bool z) ∧ w' = w) := hc
  clear hc
  cases z
  · have HV : Hid (propOf p = small p) := by show _ = _; unfold propOf; rw [Hz.out]; rfl
    go_enter Tryz.func38, Tryz.ntmps38
    go_wp2_with fail
    refine HC.out.mono ?_
    rintro e wq ⟨rfl, hwq⟩
    rw [hwq]
    go_wp2_with fail
    refine (Small_c p _ hp).mono ?_
    rintro e w3 ⟨rfl, hb3⟩
    have B3 : Hid (Below w.heap.size w w3) := hb3
    clear hb3
    go_wp2_with fail
    go_ret
    exact ⟨retS HV.out.symm, B3.out⟩
  · have HV : Hid (propOf p = p) := by show _ = _; unfold propOf; rw [Hz.out]; rfl
    go_enter Tryz.func38, Tryz.ntmps38
    go_wp2_with fail
    refine HC.out.mono ?_
    rintro e wq ⟨rfl, hwq⟩
    rw [hwq]
    go_wp2_with fail
    go_ret
    exact ⟨retS HV.out.symm, Below.refl _ _⟩
end
section
attribute [local go_sem] fld_tok fld_ins fld_kind fld_word
theorem last_at {α : Type} {l : List α} (h : 0 < l.length) : l.getLast? = some (l[l.length - 1]'(by omega)) := by
  rw [List.getLast?_eq_getElem?, List.getElem?_eq_getElem (by omega)]
theorem dropLast_take {α : Type} (l : List α) : l.dropLast = l.take (l.length - 1) := List.dropLast_eq_take
theorem cutImp_no {v : List Nd} (h : 0 < v.length) (hw : wordN (v[v.length - 1]'(by omega)) nImportant = false) : cutImp v = (v, false) := by
  unfold cutImp
  rw [last_at h]
  simp only
  rw [if_neg (by rw [hw]; simp)]
theorem cutImp_bare {v : List Nd} (h : 0 < v.length) (hw : wordN (v[v.length - 1]'(by omega)) nImportant = true) (hb : bare (v.take (v.length - 1)) = []) : cutImp v = (v, false) := by
  unfold cutImp
  rw [last_at h]
  simp only
  rw [if_pos hw, dropLast_take, hb]
  rfl
theorem cutImp_sign {v b : List Nd} (h : 0 < v.length) (hw : wordN (v[v.length - 1]'(by omega)) nImportant = true) (hb : bare (v.take (v.length - 1)) = b) (h2 : 0 < b.length) : cutImp v = if sgnN (b[b.length - 1]'(by omega)) (b1 33) = true then (bare (b.take (b.length - 1)), true) else (v, false) := by
  unfold cutImp
  rw [last_at h]
  simp only
  rw [if_pos hw, dropLast_take, hb, last_at h2, dropLast_take]
theorem cutImportant_c (B : Nat) (l : List Nd) (v : Value) (w : World) (h : Sl (fun b => b < B) w v l) (hB : B ≤ w.heap.size) :
    Calls Tryz.prog 226 #[v] w fun e w' => ∃ v', e = .returned (.tuple #[v', .bool (cutImp l).2]) ∧ Sl (fun b => b < B) w' v' (cutImp l).1 ∧ Below w.heap.size w w' := by
  have hl6 := h.len
  have HS : Hid (Sl (fun b => b < B) w v l) := h
  obtain ⟨a, cap, rfl⟩ := h.form
  clear h
  by_cases hz : l.length = 0
  · obtain rfl : l = [] := List.eq_nil_of_length_eq_zero hz
    clear hz
    go_enter Tryz.func226, Tryz.ntmps226
    go_wp2_with fail
    go_ret2
    exact ⟨_, rfl, HS.out, Below.refl _ _⟩
  · have hp : 0 < l.length := by omega
    obtain ⟨g, o, rfl, hL, hcap⟩ := HS.out.here (by rintro rfl; simp at hp)
    obtain ⟨kv, hN⟩ := hL.node (i := l.length - 1) (by omega)
    obtain ⟨n, hn⟩ : ∃ n, n = l[l.length - 1]'(by omega) := ⟨_, rfl⟩
    rw [← hn] at hN
    have HN : Hid (wordN (l[l.length - 1]'(by omega)) nImportant = wordN (.mk n.t []) nImportant) := by show _ = _; rw [← hn]; rfl
    obtain ⟨ka, kc, rfl⟩ := hN.k.form
    have d0 := hN.c0
    have d1 := hN.c1
    have d2 := hN.c2
    have d3 := hN.c3
    have hwd := hN.ok.word
    clear hN hL hn
    obtain ⟨m, Hm⟩ : ∃ m, Hid (l.length - 1 = m) := ⟨_, hid rfl⟩
    have hm : (l.length : Int) - 1 = (m : Int) := by have := Hm.out; omega
    have hwm : IntKind.i64.wrap ((l.length : Int) - 1) = (m : Int) := by rw [IntKind.wrap_i64]; omega
    have hml : (m : Int) < (l.length : Int) := by omega
    have hmn : m < l.length := by omega
    rw [Hm.out] at d0 d1 d2 d3
    obtain ⟨z, Hz⟩ : ∃ z, Hid (wordN (.mk n.t []) nImportant = z) := ⟨_, hid rfl⟩
    have HW := IsWord_c n.t (.slice ka n.kids.length kc) nImportant w hwd
    rw [Hz.out] at HW
    have HW' : Hid (Calls Tryz.prog 161 #[nodV n.t (.slice ka n.kids.length kc), .string nImportant] w fun e w' => e = .returned (.bool z) ∧ Below w.heap.size w w') := HW
    clear HW
    have hm0 : (0 : Int) ≤ (m : Int) := by omega
    go_enter Tryz.func226, Tryz.ntmps226
    go_wp2_with fail
    refine HW'.out.mono ?_
    rintro e w1 ⟨rfl, hb1⟩
    have B1 : Hid (Below w.heap.size w w1) := hb1
    have hs1 := hb1.size
    clear hb1 HW' d0 d1 d2 d3
    cases z
    · have HV : Hid (cutImp l = (l, false)) := cutImp_no hp (by rw [HN.out]; exact Hz.out)
      go_wp2_with fail
      go_ret2
      exact ⟨_, by rw [HV.out]; rfl, by rw [HV.out]; exact HS.out.below B1.out hB, B1.out⟩
    · have S1 := HS.out.below B1.out hB
      obtain ⟨hr1, hS1⟩ := S1.cutu m (by omega)
      have HST : Hid (Sl (fun b => b < B) w1 (.slice (some ⟨g, o, none⟩) m cap) (l.take m)) := hS1
      clear hS1 S1
      have hlt : (l.take m).length = m := by rw [List.length_take]; omega
      go_wp2_with fail
      refine (Trim_c B (l.take m) _ w1 HST.out).mono ?_
      obtain ⟨b, Hb⟩ : ∃ b, Hid (bare (l.take m) = b) := ⟨_, hid rfl⟩
      rw [Hb.out]
      rintro e w2 ⟨v2, rfl, hS2, hw2⟩
      subst hw2
      have HS2 : Hid (Sl (fun b => b < B) w2 v2 b) := hS2
      have hl2 := hS2.len
      obtain ⟨a2, c2, rfl⟩ := hS2.form
      clear hS2 hr1 hlt
      by_cases hz2 : b.length = 0
      · have HV : Hid (cutImp l = (l, false)) := cutImp_bare hp (by rw [HN.out]; exact Hz.out) (by rw [Hm.out, Hb.out]; exact List.eq_nil_of_length_eq_zero hz2)
        have hq : (b.length : Int) = 0 := by omega
        have hqw : IntKind.i64.wrap ((b.length : Int) - 1) = -1 := by rw [IntKind.wrap_i64]; omega
        clear hz2
        go_wp2_with fail
        go_ret2
        exact ⟨_, by rw [HV.out]; rfl, by rw [HV.out]; exact HS.out.below B1.out hB, B1.out⟩
      · have hp2 : 0 < b.length := by omega
        obtain ⟨g2, o2, rfl, hL2, hcap2⟩ := HS2.out.here (by rintro rfl; simp at hp2)
        obtain ⟨kv2, hN2⟩ := hL2.node (i := b.length - 1) (by omega)
        obtain ⟨n2, hn2⟩ : ∃ n, n = b[b.length - 1]'(by omega) := ⟨_, rfl⟩
        rw [← hn2] at hN2
        have HN2 : Hid (sgnN (b[b.length - 1]'(by omega)) (b1 33) = signT n2.t (b1 33)) := by show _ = _; rw [← hn2]; rfl
        have HV0 : Hid (cutImp l = if sgnN (b[b.length - 1]'(by omega)) (b1 33) = true then (bare (b.take (b.length - 1)), true) else (l, false)) := cutImp_sign hp (by rw [HN.out]; exact Hz.out) (by rw [Hm.out]; exact Hb.out) hp2
        obtain ⟨ka2, kc2, rfl⟩ := hN2.k.form
        have d0 := hN2.c0
        have d1 := hN2.c1
        have d2 := hN2.c2
        have d3 := hN2.c3
        clear hN2 hL2 hn2
        obtain ⟨m2, Hm2⟩ : ∃ m, Hid (b.length - 1 = m) := ⟨_, hid rfl⟩
        have hm2 : (b.length : Int) - 1 = (m2 : Int) := by have := Hm2.out; omega
        have hwm2 : IntKind.i64.wrap ((b.length : Int) - 1) = (m2 : Int) := by rw [IntKind.wrap_i64]; omega
        have hml2 : (m2 : Int) < (b.length : Int) := by omega
        have hmn2 : m2 < b.length := by omega
        have hm02 : (0 : Int) ≤ (m2 : Int) := by omega
        rw [Hm2.out] at d0 d1 d2 d3
        obtain ⟨z2, Hz2⟩ : ∃ z, Hid (signT n2.t (b1 33) = z) := ⟨_, hid rfl⟩
        go_wp2_with fail
        refine (IsSign_c n2.t (.slice ka2 n2.kids.length kc2) (b1 33) _).mono ?_
        rw [Hz2.out]
        rintro e w3 ⟨rfl, hb3⟩
        have B3 : Hid (Below w.heap.size w w3) := B1.out.trans (hb3.mono hs1)
        have HS3 : Hid (Sl (fun b => b < B) w3 (.slice (some ⟨g2, o2, none⟩) b.length c2) b) := HS2.out.below hb3 (by omega)
        have hs3 := B3.out.size
        clear hb3 d0 d1 d2 d3
        cases z2
        · have HV : Hid (cutImp l = (l, false)) := by show _ = _; rw [HV0.out, HN2.out, Hz2.out]; rfl
          go_wp2_with fail
          go_ret2
          exact ⟨_, by rw [HV.out]; rfl, by rw [HV.out]; exact HS.out.below B3.out hB, B3.out⟩
        · have HV : Hid (cutImp l = (bare (b.take m2), true)) := by show _ = _; rw [HV0.out, HN2.out, Hz2.out, Hm2.out]; rfl
          obtain ⟨hr3, hS3⟩ := HS3.out.cutu m2 (by omega)
          have HST3 : Hid (Sl (fun b => b < B) w3 (.slice (some ⟨g2, o2, none⟩) m2 c2) (b.take m2)) := hS3
          clear hS3
          go_wp2_with fail
          refine (Trim_c B (b.take m2) _ w3 HST3.out).mono ?_
          rintro e w4 ⟨v4, rfl, hS4, hw4⟩
          subst hw4
          have HS4 : Hid (Sl (fun b => b < B) w4 v4 (bare (b.take m2))) := hS4
          clear hS4
          go_wp2_with fail
          go_ret2
          exact ⟨_, by rw [HV.out]; rfl, by rw [HV.out]; exact HS4.out, B3.out⟩
end
end Go.Proofs.YtlliliddljkbfaaGreat
