import Derived.Test.YtlliliddljkbfaaGreatC40
namespace Go.Proofs.YtlliliddljkbfaaGreat
set_option maxHeartbeats 64000000
set_option maxRecDepth 100000
open Go.RowKit Sp
section
theorem zA_append : ∀ (a b : List Simple), zA (a ++ b) = zA a + zA b
  | [], b => by simp [zA]
  | s :: r, b => by
    rw [List.cons_append]
    conv => lhs; unfold zA
    conv => rhs; lhs; unfold zA
    rw [zA_append r b]; omega
theorem zA_one (s : Simple) : zA [s] = zS s := by simp [zA]
theorem zS_mk (k : Nat) (nm how v : ByteArray) (l : Sels) (p : Nat) : zS (.mk k nm how v l p) = 4 * nm.size + 4 * v.size + how.size + 120 + zL l := by conv => lhs; unfold zS
theorem zL_nil : zL [] = 0 := by unfold zL; rfl
theorem zS_of (k : Nat) (nm : ByteArray) : zS (Simple.of k nm) = 4 * nm.size + 120 := by
  unfold Simple.of
  rw [zS_mk, zL_nil]
  have e : nob.size = 0 := rfl
  rw [e]
theorem attrOf_z {l : List Nd} {s : Simple} (h : attrOf l = some s) : zS s ≤ 4 * wzL l + 124 := by
  unfold attrOf at h
  split at h
  · cases h
  · rename_i n r
    rw [wzL_cons, wzN_eq n]
    simp only at h
    split at h
    · cases h
    · split at h
      · cases h
        rw [zS_of]
        omega
      · rename_i m r1 hb
        have h3 := wzL_bare r
        rw [hb, wzL_cons, wzN_eq m] at h3
        split at h
        · cases h
        · split at h
          · cases h
          · rename_i q r2 hq
            have hq2 : wzL (q :: r2) ≤ 16 + 4 * m.t.word.size + 4 * m.t.unit.size + wzL m.kids + wzL r1 := by
              rw [← hq]
              split
              · omega
              · rw [wzL_cons, wzN_eq]; omega
            rw [wzL_cons] at hq2
            split at h
            · rename_i v hv
              have h4 := wzL_bare r2
              rw [hv, wzL_cons, wzN_eq v] at h4
              split at h
              · cases h
                rw [zS_mk, zL_nil]
                have e : ((if m.t.word = b1 126 ∨ m.t.word = b1 94 ∨ m.t.word = b1 36 ∨ m.t.word = b1 42 then m.t.word else nob) ++ b1 61).size ≤ m.t.word.size + 1 := by
                  rw [ByteArray.size_append]
                  have e1 : (b1 61).size = 1 := rfl
                  have e0 : nob.size = 0 := rfl
                  split
                  · omega
                  · omega
                omega
              · cases h
            · cases h
theorem combi_wz {l r : List Nd} {c : Nat} (h : combi l = some (c, r)) : wzL r ≤ wzL l := by
  have hd := wzL_dropB l
  unfold combi at h
  split at h
  · split at h
    · cases h
    · cases h; rw [wzL_nil]; exact Nat.zero_le _
  · rename_i n q hq
    have hb := wzL_dropB q
    rw [hq, wzL_cons] at hd
    split at h
    · cases h; omega
    split at h
    · cases h; omega
    split at h
    · cases h; omega
    split at h
    · cases h; rw [wzL_cons]; omega
    · cases h
theorem partF_wz : ∀ (l : List Nd) (out : List (List Nd)) (cur : List Nd), ((partF out cur l).map wzL).sum ≤ (out.map wzL).sum + wzL cur + wzL l
  | [], out, cur => by
    unfold partF
    rw [List.map_append, List.sum_append]
    simp only [List.map_cons, List.map_nil, List.sum_cons, List.sum_nil]
    omega
  | m :: r, out, cur => by
    unfold partF
    rw [wzL_cons]
    split
    · have := partF_wz r (out ++ [cur]) []
      rw [List.map_append, List.sum_append, wzL_nil] at this
      simp only [List.map_cons, List.map_nil, List.sum_cons, List.sum_nil] at this
      omega
    · have := partF_wz r out (cur ++ [m])
      rw [wzL_append, wzL_cons, wzL_nil] at this
      omega
section
variable {rec : List Nd → Option Sels} (hrec : ∀ l ss, rec l = some ss → zL ss ≤ 16 * wzL l)
include hrec
theorem pseudoW_z {n : Nd} {s : Simple} (h : pseudoW rec n = some s) : zS s + 100 ≤ 16 * wzN n := by
  rw [wzN_eq]
  unfold pseudoW at h
  simp only at h
  split at h
  · split at h
    · cases h
      rw [zS_of, small_sz]; omega
    · cases h
  split at h
  · cases h
  have e : nob.size = 0 := rfl
  split at h
  · cases hr : rec n.kids with
    | none => rw [hr] at h; cases h
    | some ss =>
      rw [hr] at h
      simp at h
      subst h
      have := hrec _ _ hr
      rw [zS_mk, small_sz, e]
      omega
  split at h
  · split at h
    · rename_i v hv
      cases hp : placeOf v.t with
      | none => rw [hp] at h; cases h
      | some q =>
        rw [hp] at h; simp at h; subst h
        rw [zS_mk, small_sz, e, zL_nil]
        omega
    · cases h
  · cases h
theorem partsW_z (n : Nat) : ∀ (acc : List Simple) (l : List Nd) (all : List Simple) (r : List Nd), l.length ≤ n → partsW rec acc l = some (all, r) → zA all + 100 * all.length + 16 * wzL r ≤ zA acc + 100 * acc.length + 16 * wzL l := by
  induction n with
  | zero =>
    intro acc l all r hl h
    obtain rfl : l = [] := List.eq_nil_of_length_eq_zero (by omega)
    simp [partsW] at h
    obtain ⟨rfl, rfl⟩ := h
    exact Nat.le_refl _
  | succ n ih =>
    intro acc l all r hl h
    have one : ∀ s, zA (acc ++ [s]) + 100 * (acc ++ [s]).length = zA acc + 100 * acc.length + (zS s + 100) := fun s => by
      rw [zA_append, zA_one, List.length_append]
      show _ + 100 * (_ + 1) = _
      omega
    match l, hl, h with
    | [], _, h =>
      simp [partsW] at h
      obtain ⟨rfl, rfl⟩ := h
      exact Nat.le_refl _
    | [m], _, h =>
      rw [wzL_cons, wzN_eq m, wzL_nil]
      unfold partsW at h
      split at h
      · cases h
        rw [one, zS_of, wzL_nil]; omega
      split at h
      · cases h
      split at h
      · split at h
        · cases h
        · rename_i s hs
          cases h
          have h1 := attrOf_z hs
          have h2 := wzL_bare m.kids
          rw [one, wzL_nil]; omega
      split at h
      · cases h
      · cases h
        rw [wzL_cons, wzN_eq m, wzL_nil]; omega
    | m :: q :: r', hl, h =>
      simp only [List.length_cons] at hl
      rw [wzL_cons, wzN_eq m]
      unfold partsW at h
      split at h
      · have := ih _ _ _ _ (by simp; omega) h
        rw [one, zS_of] at this
        omega
      split at h
      · split at h
        · have := ih _ _ _ _ (by omega) h
          rw [one, zS_of] at this
          rw [wzL_cons, wzN_eq q]
          omega
        · cases h
      split at h
      · split at h
        · cases h
        · rename_i s hs
          have := ih _ _ _ _ (by simp; omega) h
          have h1 := attrOf_z hs
          have h2 := wzL_bare m.kids
          rw [one] at this
          omega
      split at h
      · split at h
        · cases h
        · rename_i s hs
          have := ih _ _ _ _ (by omega) h
          have h1 := pseudoW_z hrec hs
          rw [one] at this
          rw [wzL_cons q]
          omega
      · cases h
        rw [wzL_cons m, wzN_eq m]; omega
theorem compoundW_z {l : List Nd} {all : List Simple} {r : List Nd} (h : compoundW rec l = some (all, r)) : zA all + 100 * all.length + 16 * wzL r ≤ 16 * wzL l := by
  unfold compoundW at h
  have h1 := partsW_z hrec _ _ _ _ _ (Nat.le_refl _) h
  have ht : zA (tagOf l).1 + 100 * (tagOf l).1.length + 16 * wzL (tagOf l).2 ≤ 16 * wzL l := by
    unfold tagOf
    split
    · simp [zA]
    · rw [wzL_cons, wzN_eq]
      split
      · simp only [zA_one, zS_of, small_sz]
        show _ + 100 * 1 + _ ≤ _
        omega
      split
      · have e : nob.size = 0 := rfl
        simp only [zA_one, zS_of, e]
        show _ + 100 * 1 + _ ≤ _
        omega
      · simp only [wzL_cons, wzN_eq]
        show zA [] + 100 * 0 + _ ≤ _
        have e : zA [] = 0 := by unfold zA; rfl
        omega
  omega
theorem complexF_z : ∀ (f b : Nat) (l : List Nd) (ss : List Step), complexF rec f b l = some ss → zC ss + 90 ≤ 16 * wzL l
  | 0, _, _, _, h => by simp [complexF] at h
  | f + 1, b, l, ss, h => by
    unfold complexF at h
    split at h
    · cases h
    · rename_i all r hc
      have h1 := compoundW_z hrec hc
      split at h
      · cases h
      · rename_i hne
        have hl : 1 ≤ all.length := by cases all with | nil => exact absurd rfl hne | cons _ _ => simp
        split at h
        · cases h
          simp only [zC, zT]
          omega
        · split at h
          · cases h
          · rename_i c r' hcb
            have hw := combi_wz hcb
            cases hx : complexF rec f c r' with
            | none => rw [hx] at h; cases h
            | some x =>
              rw [hx] at h
              simp at h
              subst h
              have ih := complexF_z f c r' x hx
              conv => lhs; unfold zC
              simp only [zT]
              omega
theorem eachW_z : ∀ (ps : List (List Nd)) (ss : Sels), eachW rec ps = some ss → zL ss ≤ 16 * (ps.map wzL).sum
  | [], ss, h => by simp [eachW] at h; subst h; simp [zL]
  | p :: r, ss, h => by
    unfold eachW at h
    split at h
    · cases h
    · rename_i s hs
      cases hx : eachW rec r with
      | none => rw [hx] at h; cases h
      | some x =>
        rw [hx] at h
        simp at h
        subst h
        have h1 := complexF_z hrec _ _ _ _ hs
        have h2 := wzL_bare p
        have h3 := eachW_z r x hx
        conv => lhs; unfold zL
        rw [List.map_cons, List.sum_cons]
        omega
theorem listW_z {l : List Nd} {ss : Sels} (h : listW rec l = some ss) : zL ss ≤ 16 * wzL l := by
  unfold listW at h
  split at h
  · cases h
  · have h1 := eachW_z hrec _ _ h
    have h2 := partF_wz l [] []
    rw [wzL_nil] at h2
    simp only [List.map_nil, List.sum_nil] at h2
    unfold parted at h1
    omega
end
theorem selF_z : ∀ (f : Nat) (l : List Nd) (ss : Sels), selF f l = some ss → zL ss ≤ 16 * wzL l
  | 0, l, ss, h => listW_z (rec := fun _ => none) (fun _ _ h => by cases h) h
  | f + 1, l, ss, h => listW_z (rec := selF f) (fun l ss h2 => selF_z f l ss h2) h
theorem zL_len : ∀ (ss : Sels), ss.length ≤ zL ss
  | [] => by simp
  | c :: r => by
    have := zL_len r
    unfold zL
    simp only [List.length_cons]
    omega
theorem harmL_nil (p : Policy) : harmL p [] = true := by unfold harmL anyL; rfl
theorem harmL_append (p : Policy) : ∀ (a b : List Nd), harmL p (a ++ b) = (harmL p a && harmL p b)
  | [], b => by rw [harmL_nil]; rfl
  | n :: r, b => by
    rw [List.cons_append, harmL_cons, harmL_cons, harmL_append p r b]
    cases harmT p n.t <;> cases harmL p n.kids <;> cases harmL p r <;> rfl
theorem harmL_rev (p : Policy) : ∀ (a : List Nd), harmL p a.reverse = harmL p a
  | [] => rfl
  | n :: r => by
    rw [List.reverse_cons, harmL_append, harmL_rev p r, harmL_cons, harmL_cons, harmL_nil]
    cases harmT p n.t <;> cases harmL p n.kids <;> cases harmL p r <;> rfl
theorem harmL_dropB (p : Policy) : ∀ (l : List Nd), gL l → harmL p (dropB l) = harmL p l
  | [], _ => by unfold dropB; rfl
  | n :: r, h => by
    simp only [gL] at h
    unfold dropB
    split
    · rename_i hb
      have hk : n.t.kind = 1 := by unfold blankN at hb; simpa using hb
      have hc : closing n.t = nob := by unfold closing; rw [if_neg (by rw [hk]; omega), if_neg (by rw [hk]; omega)]
      have hkids := ((gN_iff n).1 h.1).2.2.1 hc
      rw [harmL_dropB p r h.2, harmL_cons, hkids, harmL_nil]
      have : harmT p n.t = true := by unfold harmT; simp [hk]
      rw [this]; simp
    · rfl
theorem harmL_bare (p : Policy) {l : List Nd} (h : gL l) : harmL p (bare l) = harmL p l := by
  unfold bare trimE
  have h1 : gL (dropB l) := gL_sub h fun n hn => dropB_sub l n hn
  rw [harmL_rev, harmL_dropB p _ (gL_sub h1 fun n hn => List.mem_reverse.1 hn), harmL_rev, harmL_dropB p _ h]
theorem rulO_eq [DecI] {p : Policy} {rec : List Nd → ByteArray} {r : Rule} (h : gL r.head) (hs : r.at_ = none → r.body.isSome = true) : rulO p rec r = ruleO p rec r := by
  obtain ⟨at_, head, body⟩ := r
  unfold rulO ruleO
  cases at_ with
  | none =>
    cases body with
    | none => have := hs rfl; simp at this
    | some b =>
      show styO p head b = styleO p _ b
      unfold styO styleO
      cases sels head with
      | none => rfl
      | some ss =>
        show braO _ _ = _
        unfold braO
        rfl
  | some w =>
    cases body with
    | none =>
      show atrO p w false head _ = nob
      unfold atrO
      rw [if_neg (by simp)]
    | some b =>
      show atrO p w true head (rec b) = _
      unfold atrO braO
      have h1 := harmL_bare p h
      simp only at h1
      rw [← h1]
      by_cases hc : p.ats.contains (small w) = true ∧ harmL p (bare head) = true
      · rw [if_pos (by rw [hc.1, hc.2]; rfl)]
        simp only
        rw [if_pos hc]
        split
        · rfl
        · simp [ByteArray.append_assoc]
      · rw [if_neg (by intro h; simp only [Bool.true_and, Bool.and_eq_true] at h; exact hc h)]
        simp only
        rw [if_neg hc]
theorem listR_size [DecI] (hd : DecSz) (root : ByteArray) (ss : Sels) (hq : qkL ss) (hr : root.size ≤ 12) : (listO (aheadR root) ss).size ≤ 16 * zL ss := by
  have h1 := joinO_size (b1 44) (ss.map (fun x => aheadR root ++ cpxO x))
  rw [join_heads, List.length_map] at h1
  have h2 := tot_heads hd (aheadR root) ss hq
  have h3 : (aheadR root).size ≤ 14 := by
    unfold aheadR
    split
    · show 0 ≤ 14; omega
    · rw [ByteArray.size_append, ByteArray.size_append]; show 1 + (_ + 1) ≤ 14; omega
  have h4 : ss.length * (aheadR root).size ≤ ss.length * 14 := Nat.mul_le_mul (Nat.le_refl _) h3
  have h5 := zL_len ss
  have e : (b1 44).size = 1 := rfl
  rw [e] at h1
  omega
theorem braO_size (h b : ByteArray) : (braO h b).size ≤ h.size + b.size + 2 := by
  unfold braO
  have e1 : (b1 123).size = 1 := rfl
  have e2 : (b1 125).size = 1 := rfl
  split
  · show 0 ≤ _; omega
  · rw [ByteArray.size_append, ByteArray.size_append, ByteArray.size_append, e1, e2]; omega
theorem rulO_size [DecI] (hd : DecSz) {p : Policy} {rec : List Nd → ByteArray} {r : Rule} (h : gL r.head) (hp : p.root.size ≤ 12) (hrec : ∀ b, r.body = some b → (rec b).size ≤ 300 * wzL b) : (rulO p rec r).size ≤ 300 * rwz r := by
  obtain ⟨at_, head, body⟩ := r
  have hr : ∀ b, body = some b → (rec b).size ≤ 300 * wzL b := hrec
  unfold rulO rwz
  cases at_ with
  | none =>
    show (styO p head (body.getD [])).size ≤ 300 * (4 * (none.getD nob).size + 16 + wzL head + wzL (body.getD []))
    unfold styO
    cases hs : sels head with
    | none => show 0 ≤ _; omega
    | some ss =>
      have h1 := braO_size (listO (aheadR p.root) ss) (bodyO p (body.getD []))
      have h2 := listR_size hd p.root ss (selF_qk _ _ _ (gL_ok _ h) hs) hp
      have h3 := selF_z _ _ _ hs
      have h4 := bodyO_size p (body.getD [])
      have h5 := (decls_s (body.getD [])).1
      show (braO _ _).size ≤ _
      omega
  | some w =>
    show (atrO p w body.isSome head (rec (body.getD []))).size ≤ 300 * (4 * w.size + 16 + wzL head + wzL (body.getD []))
    unfold atrO
    split
    · rename_i hc
      cases body with
      | none => simp at hc
      | some b =>
        have h0 := hr b rfl
        show (braO _ (rec b)).size ≤ 300 * (4 * w.size + 16 + wzL head + wzL b)
        have h1 := braO_size (b1 64 ++ (nameO (small w) ++ headO (bare head))) (rec b)
        have h2 := nameO_size (small w)
        have h3 := headO_size (bare head)
        have h4 := wzL_bare head
        have e : (b1 64).size = 1 := rfl
        rw [ByteArray.size_append, ByteArray.size_append, e] at h1
        rw [small_sz] at h2
        omega
    · show 0 ≤ _; omega
theorem total_rul [DecI] (hd : DecSz) {p : Policy} {rec : List Nd → ByteArray} (hp : p.root.size ≤ 12) : ∀ (rs : List Rule), (∀ r ∈ rs, gL r.head ∧ ∀ b, r.body = some b → (rec b).size ≤ 300 * wzL b) → total (rs.map (rulO p rec)) ≤ 300 * rwzs rs
  | [], _ => by simp [total]
  | r :: q, h => by
    have ih := total_rul hd hp q fun x hx => h x (by simp [hx])
    have h0 := h r (by simp)
    have h1 := rulO_size hd h0.1 hp h0.2
    simp only [List.map_cons, total, rwzs]
    omega
theorem cat_join : ∀ (l : List ByteArray), joinB l = cat l
  | [] => rfl
  | a :: r => by
    show a ++ joinB r = a ++ cat r
    rw [cat_join r]
theorem cat_size : ∀ (l : List ByteArray), (cat l).size = total l
  | [] => rfl
  | a :: r => by
    show (a ++ cat r).size = a.size + total r
    rw [ByteArray.size_append, cat_size r]
theorem rules_g {sh : Bool} {l : List Nd} (hg : gL l) : ∀ r ∈ rules sh l, gL r.head ∧ (r.at_ = none → r.body.isSome = true) ∧ (∀ b, r.body = some b → gL b ∧ depth b + 1 ≤ depth l) ∧ rwz r ≤ wzL l := fun r hr => by
  have h1 := rules_s sh l
  have h2 := h1.2 r hr
  have h3 := rwz_mem _ r hr
  exact ⟨gL_sub hg h2.head, h2.sty, fun b hb => body_g h2 hg hb, by omega⟩
theorem map_out [DecI] {p : Policy} {rec : List Nd → ByteArray} {sh : Bool} {l : List Nd} (hg : gL l) : (rules sh l).map (rulO p rec) = (rules sh l).map (ruleO p rec) := List.map_congr_left fun r hr => by
  have h := rules_g hg r hr
  exact rulO_eq h.1 h.2.1
theorem rinF_size [DecI] (hd : DecSz) (p : Policy) (hp : p.root.size ≤ 12) : ∀ (f : Nat) (sh : Bool) (l : List Nd), gL l → (rinF p f sh l).size ≤ 300 * wzL l
  | 0, sh, l, hg => by
    unfold rinF
    rw [cat_size, ← map_out hg]
    have := total_rul hd (rec := fun _ => nob) hp (rules sh l) (fun r hr => ⟨(rules_g hg r hr).1, fun b _ => by show 0 ≤ _; omega⟩)
    have := (rules_s sh l).1
    omega
  | f + 1, sh, l, hg => by
    unfold rinF
    rw [cat_size, ← map_out hg]
    have := total_rul hd (rec := rinF p f false) hp (rules sh l) (fun r hr => ⟨(rules_g hg r hr).1, fun b hb => rinF_size hd p hp f false b ((rules_g hg r hr).2.2.1 b hb).1⟩)
    have := (rules_s sh l).1
    omega
end
theorem rul_ok {p : Policy} {pv fv av : Value} {rec : List Nd → ByteArray} {w : World} {sh : Bool} {l : List Nd} (hg : gL l) (hz : wzL l ≤ 4000000) (hsz : ∀ b, gL b → (rec b).size ≤ 300 * wzL b)
    (hrec : ∀ b, gL b → depth b + 1 ≤ depth l → wzL b ≤ 4000000 → BodyOK p pv fv av (rules false b) (rec b) w) : ∀ r ∈ rules sh l, RulOK p pv fv av rec w r := by
  intro r hr
  obtain ⟨h1, h2, h3, h4⟩ := rules_g hg r hr
  have h5 := wzL_bare r.head
  have h6 : wzL r.head + wzL (r.body.getD []) ≤ 4000000 := by unfold rwz at h4; omega
  have hgb : gL (r.body.getD []) := by
    cases hb : r.body with
    | none => show gL []; simp [gL]
    | some b => exact (h3 b hb).1
  refine ⟨gL_ok _ h1, gL_kd h1, h2, by omega, fun ss hs => ?_, fun _ d hd => ?_, fun _ => ?_, ?_, fun x b hx hb => ?_⟩
  · have := selF_z _ _ _ hs
    omega
  · exact gL_kd (gL_sub hgb ((decls_s (r.body.getD [])).2 d hd))
  · have := (decls_s (r.body.getD [])).1
    omega
  · have := hsz _ hgb
    omega
  · have h7 := h3 b hb
    rw [hb] at h6
    exact hrec b h7.1 h7.2 (by show wzL b ≤ _; have : wzL r.head + wzL b ≤ 4000000 := h6; omega)
theorem rinF_run [DecI] (p : Policy) (pv fv av : Value) (hds : DecSz) (hpr : allB lowB p.root = true) (hp12 : p.root.size ≤ 12) : ∀ (f : Nat) (sh : Bool) (l : List Nd) (B : Nat) (w : World), PolM B w p pv fv av → ItoaOK w → gL l → depth l ≤ f → wzL l ≤ 4000000 → BodyOK p pv fv av (rules sh l) (rinF p f sh l) w
  | 0, sh, l, B, w, hP, hI, hg, hd, hz => by
    intro u w' hb hs
    have hlt := hP.lt
    have hv : rinF p 0 sh l = joinB ((rules sh l).map (rulO p (fun _ => nob))) := by
      unfold rinF
      rw [cat_join, map_out hg]
    rw [hv]
    refine washRules_c w'.heap.size p pv fv av (fun _ => nob) (rules sh l) u w' ((hP.below hb hlt).mono (by have := hb.size; omega) (Nat.le_refl _)) hs (hI.below hb (Nat.le_refl _)) hds hpr hp12 ?_ ?_
    · exact rul_ok hg hz (fun b _ => by show 0 ≤ _; omega) (fun b _ h _ => by omega)
    · have := total_rul hds (rec := fun _ => nob) hp12 (rules sh l) (fun r hr => ⟨(rules_g hg r hr).1, fun b _ => by show 0 ≤ _; omega⟩)
      have := (rules_s sh l).1
      omega
  | f + 1, sh, l, B, w, hP, hI, hg, hd, hz => by
    intro u w' hb hs
    have hlt := hP.lt
    have hv : rinF p (f + 1) sh l = joinB ((rules sh l).map (rulO p (rinF p f false))) := by
      conv => lhs; unfold rinF
      rw [cat_join, map_out hg]
    rw [hv]
    have hP' : PolM w'.heap.size w' p pv fv av := (hP.below hb hlt).mono (by have := hb.size; omega) (Nat.le_refl _)
    have hI' := hI.below hb (Nat.le_refl _)
    refine washRules_c w'.heap.size p pv fv av (rinF p f false) (rules sh l) u w' hP' hs hI' hds hpr hp12 ?_ ?_
    · exact rul_ok hg hz (fun b hgb => rinF_size hds p hp12 f false b hgb) (fun b hgb h hzb => rinF_run p pv fv av hds hpr hp12 f false b _ w' hP' hI' hgb (by omega) hzb)
    · have := total_rul hds (rec := rinF p f false) hp12 (rules sh l) (fun r hr => ⟨(rules_g hg r hr).1, fun b hb => rinF_size hds p hp12 f false b ((rules_g hg r hr).2.2.1 b hb).1⟩)
      have := (rules_s sh l).1
      omega
end Go.Proofs.YtlliliddljkbfaaGreat
