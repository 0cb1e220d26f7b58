import Derived.Test.YtlliliddljkbfaaGreatC20
namespace Go.Proofs.YtlliliddljkbfaaGreat
set_option maxHeartbeats 64000000
set_option maxRecDepth 100000
open Go.RowKit Sp
section
attribute [local go_sem] fld_tok fld_ins fld_kind fld_word
def ruleOne (n : Nd) (r : List Nd) : ByteArray × List Nd × Option (List Nd) × List Nd :=
  if n.t.kind = 10 then (n.t.word, (cutN (fun m => isSemi m || isBody m) r).1, bodyOf (cutN (fun m => isSemi m || isBody m) r).2.1, (cutN (fun m => isSemi m || isBody m) r).2.2)
  else (nob, (cutN isBody (n :: r)).1, bodyOf (cutN isBody (n :: r)).2.1, (cutN isBody (n :: r)).2.2)
theorem readRule_c (B : Nat) (n : Nd) (r : List Nd) (v : Value) (w : World) (h : Sl (fun b => b < B) w v (n :: r)) (hB : B ≤ w.heap.size) :
    Calls Tryz.prog 187 #[v] w fun e w' => ∃ hv bv v2, e = .returned (.tuple #[.agg #[.string (ruleOne n r).1, hv, .bool (ruleOne n r).2.2.1.isSome, bv], v2]) ∧
      RuleV B w' (ruleOne n r).2.1 (ruleOne n r).2.2.1 hv bv ∧ Sl (fun b => b < B) w' v2 (ruleOne n r).2.2.2 ∧ Below w.heap.size w w' := by
  obtain ⟨g, o, nv, cap, rfl, hN, hcap⟩ := h.head
  have HS : Hid (Sl (fun b => b < B) w (.slice (some ⟨g, o, none⟩) (r.length + 1) cap) (n :: r)) := h
  have hgB : g < B := hN.s
  have HNC : Hid (∀ wx, Below w.heap.size w wx → wx.cell? ⟨g, o, none⟩ = some (.int .i64 n.t.kind)) := fun wx hb => by rw [hb.cell (p := ⟨g, _, none⟩) (show g < w.heap.size by omega)]; exact hN.c0
  have hl6 := h.len
  clear h hN
  have R0 : Hid (Q4 130 (w.alloc (.cells #[.string ⟨#[]⟩, .slice none 0 0, .bool false, .slice none 0 0] 130)) w.heap.size (.string ⟨#[]⟩) (.slice none 0 0) (.bool false) (.slice none 0 0)) := Q4.new _ _ _ _ _ _
  have B0 : Hid (Below w.heap.size w (w.alloc (.cells #[.string ⟨#[]⟩, .slice none 0 0, .bool false, .slice none 0 0] 130))) := (Below.refl _ _).alloc (Nat.le_refl _) _
  go_enter Tryz.func187, Tryz.ntmps187
  go_upto_region 1 with fail
  have hsz0 := B0.out.size
  have hlt0 := R0.out.lt
  generalize w.alloc (.cells #[.string ⟨#[]⟩, .slice none 0 0, .bool false, .slice none 0 0] 130) = w0 at *
  obtain ⟨rb, Hrb⟩ : ∃ rb, Hid (w.heap.size = rb) := ⟨_, hid rfl⟩
  rw [Hrb.out] at B0 R0 hB hlt0 hsz0 HNC ⊢
  have S0 : Hid (Sl (fun b => b < B) w0 (.slice (some ⟨g, o, none⟩) (r.length + 1) cap) (n :: r)) := HS.out.below B0.out hB
  have c0 := HNC.out w0 B0.out
  clear HS
  cases hk : (n.t.kind == 10)
  · have hk' : ¬ n.t.kind = 10 := by simpa using hk
    obtain ⟨c, Hc⟩ : ∃ c, Hid (cutN isBody (n :: r) = c) := ⟨_, hid rfl⟩
    have HO : Hid (ruleOne n r = (nob, c.1, bodyOf c.2.1, c.2.2)) := by show _ = _; unfold ruleOne; rw [if_neg hk', Hc.out]
    have Hstop : Hid (stopB [⟨#[123]⟩] = isBody) := funext stop1
    clear hk'
    have B1 : Hid (Below w0.heap.size w0 (w0.alloc (.cells #[.string ⟨#[123]⟩] 9))) := (Below.refl _ _).alloc (Nat.le_refl _) _
    have HZC : Hid (∀ j, j < 1 → (w0.alloc (.cells #[.string ⟨#[123]⟩] 9)).cell? ⟨w0.heap.size, 0 + j, none⟩ = some (.string ([(⟨#[123]⟩ : ByteArray)].getD j ByteArray.empty))) := by
      intro j hj
      have hh : (w0.alloc (.cells #[.string ⟨#[123]⟩] 9)).heap[w0.heap.size]? = _ := heap_alloc_new w0 _
      unfold World.cell?
      rw [hh]
      obtain rfl : j = 0 := by omega
      rfl
    go_wp2_with fail
    have hs1 := B1.out.size
    have hlt1 : w0.heap.size < (w0.alloc (.cells #[.string ⟨#[123]⟩] 9)).heap.size := by simp
    generalize w0.alloc (.cells #[.string ⟨#[123]⟩] 9) = w1 at *
    refine (Cut_c B (n :: r) _ [⟨#[123]⟩] _ w1 (S0.out.below B1.out (by omega)) (by omega) (by simp) hlt1 HZC.out).mono ?_
    rw [Hstop.out, Hc.out]
    rintro e w2 ⟨v1, sv, v2, rfl, hcut, hb2⟩
    obtain ⟨t, ka, ks, kc, rfl, hks, hsome, hbody⟩ := hcut.val
    obtain ⟨va, vc, rfl⟩ := hcut.ahead.form
    obtain ⟨ba, bc, rfl⟩ := hcut.behind.form
    have B2 : Hid (Below w0.heap.size w0 w2) := B1.out.trans (hb2.mono hs1)
    have BW2 : Hid (Below rb w w2) := B0.out.trans (B2.out.mono hsz0)
    have HA : Hid (Sl (fun b => b < B) w2 (.slice va c.1.length vc) c.1) := hcut.ahead
    have HBH : Hid (Sl (fun b => b < B) w2 (.slice ba c.2.2.length bc) c.2.2) := hcut.behind
    have HKS : Hid (Sl (fun b => b < B) w2 (.slice ka ks.length kc) ks) := hks
    have HSM : Hid ((bodyOf c.2.1).isSome = signT t (b1 123)) := hsome
    have HBD : Hid (∀ b, bodyOf c.2.1 = some b → ks = b) := hbody
    have R2 : Hid (Q4 130 w2 rb (.string ⟨#[]⟩) (.slice none 0 0) (.bool false) (.slice none 0 0)) := by show _ = _; rw [B2.out.block rb hlt0]; exact R0.out
    have hs2 := B2.out.size
    clear hcut hks hsome hbody hb2 S0 HZC hlt1 B1 c0
    unfold nodV
    have A3 : Hid (VB (w2.alloc (.cells #[.int .i64 t.kind, .string t.word, .string t.unit, .slice ka ks.length kc] 199)).drew w2.heap.size (.int .i64 t.kind) (.string t.word) (.string t.unit) (.slice ka ks.length kc)) := VB.new _ _ _ _ _
    have X3 : Hid (Below w2.heap.size w2 (w2.alloc (.cells #[.int .i64 t.kind, .string t.word, .string t.unit, .slice ka ks.length kc] 199)).drew) := ((Below.refl _ _).alloc (Nat.le_refl _) _).drew
    go_wp2_with fail
    refine wp_region_any (by kernel_rfl) ?_
    change wpAny _ _ _ _ _ _ _ (World.drew _)
    generalize (w2.alloc (.cells #[.int .i64 t.kind, .string t.word, .string t.unit, .slice ka ks.length kc] 199)).drew = w3 at *
    obtain ⟨gt, Hgt⟩ : ∃ gt, Hid (w2.heap.size = gt) := ⟨_, hid rfl⟩
    have A4 : Hid (VB w3 gt (.int .i64 t.kind) (.string t.word) (.string t.unit) (.slice ka ks.length kc)) := by rw [← Hgt.out]; exact A3.out
    rw [Hgt.out]
    have R3 : Hid (Q4 130 w3 rb (.string ⟨#[]⟩) (.slice none 0 0) (.bool false) (.slice none 0 0)) := R2.out.below X3.out
    clear A3
    obtain ⟨sb, Hsb⟩ : ∃ sb, Hid (signT t (b1 123) = sb) := ⟨_, hid rfl⟩
    rw [Hsb.out] at HSM
    refine wpAny_of_held (S := fun wx => VB wx gt (.int .i64 t.kind) (.string t.word) (.string t.unit) (.slice ka ks.length kc)) _ _ _ _ ?_
    refine tkH 0 rfl A4.out (by intro w hSw; skip; go_simp; all_goals with_reducible rfl) ?_
    refine tkH 1 rfl A4.out (by intro w hSw; obtain ⟨a0, a1, a2, a3⟩ := hSw.cs; go_simp; all_goals with_reducible rfl) ?_
    refine tkH 3 rfl A4.out (by intro w hSw; obtain ⟨a0, a1, a2, a3⟩ := hSw.cs; go_simp; all_goals with_reducible rfl) ?_
    refine tkH 4 rfl A4.out (by intro w hSw; obtain ⟨a0, a1, a2, a3⟩ := hSw.cs; go_simp; all_goals with_reducible rfl) ?_
    refine tkH 6 rfl A4.out (by intro w hSw; skip; go_simp; all_goals with_reducible rfl) ?_
    refine brH 2 fun K hK => ?_
    go_simp
    refine (IsSign_c t _ (b1 123) _).mono ?_
    rw [Hsb.out]
    rintro e w4 ⟨rfl, hb4⟩
    have X4 : Hid (Below w2.heap.size w2 w4) := X3.out.trans (hb4.mono X3.out.size)
    have BW4 : Hid (Below rb w w4) := BW2.out.trans (X4.out.mono (by omega))
    have A5 : Hid (VB w4 gt (.int .i64 t.kind) (.string t.word) (.string t.unit) (.slice ka ks.length kc)) := A4.out.below hb4
    have R4 : Hid (Q4 130 w4 rb (.string ⟨#[]⟩) (.slice none 0 0) (.bool false) (.slice none 0 0)) := R3.out.below hb4
    clear hb4 R3 R2
    refine hK.out _ _ A5.out (fun _ => ?_)
    clear hK K
    refine tkH 5 rfl A5.out (by intro w hSw; skip; go_simp; all_goals with_reducible rfl) ?_
    have z0 := R4.out.fz 0
    have z1 := R4.out.fz 1
    have z2 := R4.out.fz 2
    have z3 := R4.out.fz 3
    obtain ⟨q0, q1, q2, q3⟩ := R4.out.cs
    have hne : gt ≠ rb := by have := Hgt.out; omega
    have HB5 : Hid (Below rb w (set4 w4 rb (.string ⟨#[]⟩) (.slice va c.1.length vc) (.bool sb) (.slice ka ks.length kc))) := set4_below BW4.out (Nat.le_refl _) _ _ _ _
    have A6 : Hid (VB (set4 w4 rb (.string ⟨#[]⟩) (.slice va c.1.length vc) (.bool sb) (.slice ka ks.length kc)) gt (.int .i64 t.kind) (.string t.word) (.string t.unit) (.slice ka ks.length kc)) := by show _ = _; rw [set4_other w4 hne]; exact A5.out
    refine brH 7 fun K hK => ?_
    go_simp
    refine hK.out _ _ (A6.out) (fun _ => ?_); clear hK K
    refine brH 8 fun K hK => ?_
    go_simp
    refine hK.out _ _ (A6.out) (fun _ => ?_); clear hK K
    refine wpAnyH_done (by kernel_rfl) ?_ _
    go_wp2_with fail
    refine bodyPost_ret (v := .tuple #[.agg #[.string ⟨#[]⟩, .slice va c.1.length vc, .bool sb, .slice ka ks.length kc], .slice ba c.2.2.length bc]) (by simp [results, Tryz.results187, go_sem, q0, q1, q2, q3]) rfl ?_
    have hst : ∀ k, k < B → (set4 w4 rb (.string ⟨#[]⟩) (.slice va c.1.length vc) (.bool sb) (.slice ka ks.length kc)).heap[k]? = w2.heap[k]? := fun k hk => by rw [set4_other w4 (by omega)]; exact X4.out.block k (by omega)
    rw [HO.out]
    exact ⟨_, _, _, by rw [HSM.out]; rfl, ⟨HA.out.keep (fun _ hg => hg) hst, ks, HKS.out.keep (fun _ hg => hg) hst, HBD.out⟩, HBH.out.keep (fun _ hg => hg) hst, by rw [Hrb.out]; exact HB5.out⟩
  · have hk' : n.t.kind = 10 := by simpa using hk
    obtain ⟨c, Hc⟩ : ∃ c, Hid (cutN (fun m => isSemi m || isBody m) r = c) := ⟨_, hid rfl⟩
    have HO : Hid (ruleOne n r = (n.t.word, c.1, bodyOf c.2.1, c.2.2)) := by show _ = _; unfold ruleOne; rw [if_pos hk', Hc.out]
    clear hk'
    go_wp2_with fail
    refine (readAt_c B n r _ w0 S0.out (by omega)).mono ?_
    rw [Hc.out]
    rintro e w2 ⟨hv, bv, v2, rfl, hrv, hbh, hb2⟩
    obtain ⟨va, vc, rfl⟩ := hrv.head.form
    obtain ⟨bl, hbl, hbe⟩ := hrv.body
    obtain ⟨ka, kc, rfl⟩ := hbl.form
    obtain ⟨ba, bc, rfl⟩ := hbh.form
    obtain ⟨sb, Hsb⟩ : ∃ sb, Hid ((bodyOf c.2.1).isSome = sb) := ⟨_, hid rfl⟩
    rw [Hsb.out]
    have BW2 : Hid (Below rb w w2) := B0.out.trans (hb2.mono hsz0)
    have HA : Hid (Sl (fun b => b < B) w2 (.slice va c.1.length vc) c.1) := hrv.head
    have HBH : Hid (Sl (fun b => b < B) w2 (.slice ba c.2.2.length bc) c.2.2) := hbh
    have HKS : Hid (Sl (fun b => b < B) w2 (.slice ka bl.length kc) bl) := hbl
    have HBD : Hid (∀ b, bodyOf c.2.1 = some b → bl = b) := hbe
    have R2 : Hid (Q4 130 w2 rb (.string ⟨#[]⟩) (.slice none 0 0) (.bool false) (.slice none 0 0)) := R0.out.below hb2
    clear hrv hbl hbe hbh hb2 S0 c0
    have z0 := R2.out.fz 0
    have z1 := R2.out.fz 1
    have z2 := R2.out.fz 2
    have z3 := R2.out.fz 3
    obtain ⟨q0, q1, q2, q3⟩ := R2.out.cs
    go_wp2_with fail
    refine bodyPost_ret (v := .tuple #[.agg #[.string n.t.word, .slice va c.1.length vc, .bool sb, .slice ka bl.length kc], .slice ba c.2.2.length bc]) (by simp [results, Tryz.results187, go_sem, q0, q1, q2, q3]) rfl ?_
    have hst : ∀ k, k < B → (set4 w2 rb (.string n.t.word) (.slice va c.1.length vc) (.bool sb) (.slice ka bl.length kc)).heap[k]? = w2.heap[k]? := fun k hk => set4_other w2 (by omega) _ _ _ _
    rw [HO.out]
    exact ⟨_, _, _, by rw [Hsb.out], ⟨HA.out.keep (fun _ hg => hg) hst, bl, HKS.out.keep (fun _ hg => hg) hst, HBD.out⟩, HBH.out.keep (fun _ hg => hg) hst, by rw [Hrb.out]; exact set4_below BW2.out (Nat.le_refl _) _ _ _ _⟩
end
section
attribute [local go_sem] fld_tok fld_ins fld_kind fld_word
theorem cutN_len (st : Nd → Bool) : ∀ (l : List Nd), (cutN st l).2.2.length ≤ l.length - 1
  | [] => by simp [cutN]
  | n :: r => by
    unfold cutN
    split
    · simp
    · have := cutN_len st r
      simp only [List.length_cons]
      show (cutN st r).2.2.length ≤ _
      omega
theorem rulesF_fuel (sh : Bool) : ∀ (f g : Nat) (l : List Nd), l.length ≤ f → l.length ≤ g → rulesF f sh l = rulesF g sh l := by
  intro f
  induction f with
  | zero =>
    intro g l hf hg
    obtain rfl : l = [] := List.eq_nil_of_length_eq_zero (by omega)
    cases g <;> rfl
  | succ f ih =>
    intro g l hf hg
    cases l with
    | nil => cases g <;> rfl
    | cons n r =>
      cases g with
      | zero => simp at hg
      | succ g =>
        simp only [List.length_cons] at hf hg
        unfold rulesF
        dsimp only
        have h1 := cutN_len (fun m => isSemi m || isBody m) r
        have h2 := cutN_len isBody (n :: r)
        simp only [List.length_cons] at h2
        rw [ih g r (by omega) (by omega), ih g (cutN (fun m => isSemi m || isBody m) r).2.2 (by omega) (by omega), ih g (cutN isBody (n :: r)).2.2 (by omega) (by omega)]
theorem rules_pass {sh : Bool} {n : Nd} {r : List Nd} (h : passN sh n = true) : rules sh (n :: r) = rules sh r := by
  unfold rules
  show rulesF (r.length + 1) sh (n :: r) = _
  conv => lhs; unfold rulesF
  rw [if_pos h]
theorem cutN_found (st : Nd → Bool) : ∀ (l : List Nd) (b : Nd), (cutN st l).2.1 = some b → st b = true
  | [], b, h => by simp [cutN] at h
  | n :: r, b, h => by
    unfold cutN at h
    split at h
    · simp at h; subst h; assumption
    · exact cutN_found st r b h
theorem cutN_lost (st : Nd → Bool) : ∀ (l : List Nd), (cutN st l).2.1 = none → (cutN st l).2.2 = []
  | [], _ => by simp [cutN]
  | n :: r, h => by
    unfold cutN at h ⊢
    split at h
    · simp at h
    · rename_i hq
      rw [if_neg hq]
      exact cutN_lost st r h
def ruleMk (o : ByteArray × List Nd × Option (List Nd) × List Nd) : List Rule :=
  if o.1 = nob then (match o.2.2.1 with | none => [] | some b => [⟨none, o.2.1, some b⟩]) else [⟨some o.1, o.2.1, o.2.2.1⟩]
theorem rules_one {sh : Bool} {n : Nd} {r : List Nd} (h : passN sh n = false) (hn : n.t.kind = 10 → n.t.word ≠ nob) : rules sh (n :: r) = ruleMk (ruleOne n r) ++ rules sh (ruleOne n r).2.2.2 := by
  have h1 := cutN_len (fun m => isSemi m || isBody m) r
  have h2 := cutN_len isBody (n :: r)
  simp only [List.length_cons] at h2
  unfold rules
  show rulesF (r.length + 1) sh (n :: r) = _
  conv => lhs; unfold rulesF
  rw [if_neg (by rw [h]; simp)]
  by_cases hk : n.t.kind = 10
  · rw [if_pos hk]
    unfold ruleOne ruleMk
    rw [if_pos hk]
    simp only
    rw [if_neg (hn hk), rulesF_fuel sh r.length _ _ (by omega) (Nat.le_refl _)]
    rfl
  · rw [if_neg hk]
    unfold ruleOne ruleMk
    rw [if_neg hk]
    simp only [if_true]
    cases hc : (cutN isBody (n :: r)).2.1 with
    | none =>
      rw [cutN_lost _ _ hc]
      rfl
    | some b =>
      have hb := cutN_found _ _ _ hc
      show (⟨none, _, some b.kids⟩ : Rule) :: _ = (match (if isBody b = true then some b.kids else none) with | none => [] | some q => [(⟨none, _, some q⟩ : Rule)]) ++ _
      rw [if_pos hb, rulesF_fuel sh r.length _ _ (by omega) (Nat.le_refl _)]
      rfl
def CRule : Law Rule := fun S w r cs => ∃ hv bv bl, cs = [.string (r.at_.getD nob), hv, .bool r.body.isSome, bv] ∧ Sl S w hv r.head ∧ Sl S w bv bl ∧ (∀ b, r.body = some b → bl = b) ∧ (∀ x, r.at_ = some x → x ≠ nob ∧ x.size ≤ 4000000)
theorem CRule.fair : Fair CRule := by
  rintro S S' w w' r cs hS hw ⟨hv, bv, bl, h1, h2, h3, h4, h5⟩
  exact ⟨hv, bv, bl, h1, h2.keep hS hw, h3.keep hS hw, h4, h5⟩
theorem CRule.sized : Sized CRule 4 := by rintro S w r cs ⟨hv, bv, bl, rfl, _⟩; rfl
theorem own_sg {α : Type} {C : Law α} {sz : Nat} (hF : Fair C) (hZ : Sized C sz) {T : TypeId} {base : Nat} {w : World} {v : Value} {l : List α} {cs : List Value} {S : Nat → Prop} (h1 : w.ownsRow base T sz v l.length cs) (h2 : CatG C S w l cs) (hS : ∀ g, S g → g < w.heap.size) (h6 : l.length ≤ 2097152) : SG C sz (fun b => b < w.heap.size) w v l := by
  have h3 : CatG C (fun b => b < w.heap.size) w l cs := h2.keep hF hS (fun _ _ => rfl)
  rcases h1.2 with ⟨rfl, hn⟩ | ⟨g, cap, cur, rfl, hbg, hg, hnc, hrest⟩
  · have : l = [] := List.eq_nil_of_length_eq_zero hn
    subst this
    exact SG.none_any _ _ _ _ _ _
  · refine ⟨_, cap, rfl, ⟨hnc, h6⟩, fun _ => ⟨g, 0, rfl, CatG.lies (S := fun b => b < w.heap.size) hZ (Array.getElem?_eq_some_iff.1 hg).1 l cs 0 h3 fun j u hu => ?_⟩⟩
    have := h1.cells (g := g) rfl j u hu
    rw [Addr.add_lit, Nat.zero_add] at this
    rw [Nat.zero_add]
    exact this
theorem info_rule : ∃ i, Tryz.prog.info? 130 = some i ∧ i.zero = some (.agg #[.string ⟨#[]⟩, .slice none 0 0, .bool false, .slice none 0 0]) ∧ i.size = 4 ∧ i.bytes = 72 := info_parts (by kernel_rfl)
structure RaI (B : Nat) (sh : Bool) (w : World) (l : List Nd) (u : Value) (acc : List Rule) (cs : List Value) (cv : Value) (cur : List Nd) (wr : World) : Prop where
  row : wr.ownsRow w.heap.size 130 4 u acc.length cs
  cat : CatG CRule (fun b => b < B) wr acc cs
  now : Sl (fun b => b < B) wr cv cur
  below : Below w.heap.size w wr
  eq : rules sh l = acc ++ rules sh cur
  ln : acc.length + cur.length ≤ l.length
end
end Go.Proofs.YtlliliddljkbfaaGreat
