import Derived.Test.YtlliliddljkbfaaGreatC39
namespace Go.Proofs.YtlliliddljkbfaaGreat
set_option maxHeartbeats 64000000
set_option maxRecDepth 100000
open Go.RowKit Sp
structure TokS (z : Nat) (t : Tok) : Prop where
  word : t.word.size ≤ z
  unit : t.unit.size ≤ z
  kind : kdT t = true
theorem TokS.k (z : Nat) {n : Int} (h : 1 ≤ n ∧ n ≤ 15) : TokS z (Tok.k n) := ⟨by simp [Tok.k], by simp [Tok.k], by simp [kdT, Tok.k, h.1, h.2]⟩
theorem TokS.w {z : Nat} {n : Int} {x : ByteArray} (h : 1 ≤ n ∧ n ≤ 15) (hx : x.size ≤ z) : TokS z (Tok.w n x) := ⟨hx, by simp [Tok.w], by simp [kdT, Tok.w, h.1, h.2]⟩
theorem kdT_of {t : Tok} {n : Int} (h : t.kind = n) (h1 : 1 ≤ n ∧ n ≤ 15) : kdT t = true := by unfold kdT; rw [h]; simp [h1.1, h1.2]
theorem numeric_s {s : ByteArray} {i : Nat} (hi : i < s.size) (h : numB s i = true) : TokS s.size (numeric s i).1 := by
  have h1 := numE_gt h
  have h2 := numE_le (s := s) (i := i) (by omega)
  have hz : (s.extract i (numE s i)).size = numE s i - i := by simp; omega
  unfold numeric
  simp only
  by_cases h37 : pk s (numE s i) = 37
  · rw [if_pos h37]; exact TokS.w (by omega) (by rw [hz]; omega)
  rw [if_neg h37]
  by_cases hb : begB s (numE s i) = true
  · rw [if_pos hb]
    have hn := name_sz s (numE s i)
    exact ⟨by rw [hz]; omega, hn, kdT_of (n := 7) rfl (by omega)⟩
  · rw [if_neg hb]
    exact TokS.w (by omega) (by rw [hz]; omega)
theorem named_s {s : ByteArray} {i : Nat} : TokS s.size (named s i).1 := by
  have hn := name_sz s i
  unfold named
  simp only
  split
  · split
    · have h1 := linkF_size s s.size (blk s ((name s i).2 + 1)) ByteArray.empty
      have h2 := linkF_kind s s.size (blk s ((name s i).2 + 1)) ByteArray.empty
      simp at h1
      unfold link
      refine ⟨by omega, by rw [h2.2]; simp, ?_⟩
      rcases h2.1 with e | e
      · exact kdT_of e (by omega)
      · exact kdT_of e (by omega)
    · exact TokS.w (by omega) hn
  · exact TokS.w (by omega) hn
theorem token_s {s : ByteArray} {i : Nat} (hi : i < s.size) : TokS s.size (token s i).1 := by
  unfold token
  split
  · exact TokS.k _ (by omega)
  split
  · have h1 := txtF_size s (pk s i) s.size (i + 1) ByteArray.empty
    have h2 := txtF_kind s (pk s i) s.size (i + 1) ByteArray.empty
    simp at h1
    unfold txt
    refine ⟨by omega, by rw [h2.2]; simp, ?_⟩
    rcases h2.1 with e | e
    · exact kdT_of e (by omega)
    · exact kdT_of e (by omega)
  split
  · exact TokS.w (by omega) (name_sz s _)
  split
  · exact numeric_s hi ‹_›
  split
  · exact TokS.k _ (by omega)
  split
  · exact TokS.k _ (by omega)
  split
  · exact TokS.w (by omega) (name_sz s _)
  split
  · exact named_s
  · have := size_one hi
    exact TokS.w (by omega) (by omega)
theorem tokF_s {s : ByteArray} : ∀ f i, i ≤ s.size → ∀ t ∈ tokF s f i, TokS s.size t
  | 0, _, _, t, h => by simp [tokF] at h
  | f + 1, i, hi, t, h => by
    unfold tokF at h
    by_cases h0 : s.size ≤ i
    · rw [if_pos h0] at h; simp at h
    · rw [if_neg h0] at h
      rcases List.mem_cons.1 h with e | e
      · rw [e]; exact token_s (by omega)
      · exact tokF_s f _ (com_le (token_le (by omega))) t e
theorem tokF_n (s : ByteArray) : ∀ f i, (tokF s f i).length ≤ f
  | 0, _ => by simp [tokF]
  | f + 1, i => by
    unfold tokF
    split
    · simp
    · have := tokF_n s f (com s (token s i).2)
      simp only [List.length_cons]
      omega
theorem toks_s (s : ByteArray) : ∀ t ∈ toks s, TokS s.size t := tokF_s _ _ (com_le (Nat.zero_le _))
theorem toks_n (s : ByteArray) : (toks s).length ≤ s.size := tokF_n _ _ _
mutual
def gN : Nd → Prop
  | .mk t k => TokOK t ∧ kdT t = true ∧ (closing t = nob → k = []) ∧ gL k
def gL : List Nd → Prop
  | [] => True
  | n :: r => gN n ∧ gL r
end
theorem gN_iff (n : Nd) : gN n ↔ TokOK n.t ∧ kdT n.t = true ∧ (closing n.t = nob → n.kids = []) ∧ gL n.kids := by cases n; simp [gN]
theorem gL_mem : ∀ (l : List Nd), gL l ↔ ∀ n ∈ l, gN n
  | [] => by simp [gL]
  | m :: r => by simp [gL, gL_mem r]
theorem gL_sub {a b : List Nd} (h : gL b) (hs : ∀ n ∈ a, n ∈ b) : gL a := (gL_mem a).2 fun n hn => (gL_mem b).1 h n (hs n hn)
mutual
theorem gN_ok : ∀ (n : Nd), gN n → okN n
  | .mk t k, h => by
    simp only [gN] at h
    simp only [okN]
    exact ⟨h.1, gL_ok k h.2.2.2⟩
theorem gL_ok : ∀ (l : List Nd), gL l → okNs l
  | [], _ => by simp [okNs]
  | n :: r, h => by
    simp only [gL] at h
    exact ⟨gN_ok n h.1, gL_ok r h.2⟩
end
mutual
theorem gN_kd : ∀ (n : Nd), gN n → anyN (fun t => !kdT t) n = false
  | .mk t k, h => by
    simp only [gN] at h
    unfold anyN
    rw [gL_kd' k h.2.2.2, h.2.1]; rfl
theorem gL_kd' : ∀ (l : List Nd), gL l → anyL (fun t => !kdT t) l = false
  | [], _ => by unfold anyL; rfl
  | n :: r, h => by
    simp only [gL] at h
    unfold anyL
    rw [gN_kd n h.1, gL_kd' r h.2]; rfl
end
theorem gL_kd {l : List Nd} (h : gL l) : kdL l := gL_kd' l h
theorem kids_g (n : Nat) : ∀ (e : ByteArray) (ts : List Tok), ts.length ≤ n → (∀ t ∈ ts, TokOK t ∧ kdT t = true) → gL (kids e ts).1 := by
  induction n with
  | zero =>
    intro e ts h _
    obtain rfl : ts = [] := List.eq_nil_of_length_eq_zero (by omega)
    simp [kids_nil, gL]
  | succ n ih =>
    intro e ts h hok
    cases ts with
    | nil => simp [kids_nil, gL]
    | cons t r =>
      simp only [List.length_cons] at h
      by_cases hc : e ≠ nob ∧ signT t e = true
      · simp [kids_end hc, gL]
      · rw [kids_cons hc]
        have hr : ∀ t ∈ r, TokOK t ∧ kdT t = true := fun x hx => hok x (by simp [hx])
        have hl := inside_len t r
        obtain ⟨k, hk, hk2⟩ := inside_drop t r
        have h1 : gL (inside t r).1 := by
          unfold inside
          split
          · simp [gL]
          · exact ih _ r (by omega) hr
        have h3 : closing t = nob → (inside t r).1 = [] := by
          intro e
          unfold inside
          rw [if_pos e]
        have h2 : gL (kids e (inside t r).2).1 := ih e _ (by omega) fun x hx => hr x (by rw [hk2] at hx; exact List.mem_of_mem_drop hx)
        have h0 := hok t (by simp)
        simp only [gL, gN]
        exact ⟨⟨h0.1, h0.2, h3, h1⟩, h2⟩
def twz : List Tok → Nat
  | [] => 0
  | t :: r => 4 * t.word.size + 4 * t.unit.size + 16 + twz r
theorem twz_s {z : Nat} : ∀ (ts : List Tok), (∀ t ∈ ts, TokS z t) → twz ts ≤ ts.length * (8 * z + 16)
  | [], _ => by simp [twz]
  | t :: r, h => by
    have ih := twz_s r fun x hx => h x (by simp [hx])
    have h0 := h t (by simp)
    have := h0.word
    have := h0.unit
    simp only [twz, List.length_cons, Nat.add_mul, Nat.one_mul]
    omega
theorem kids_wz (n : Nat) : ∀ (e : ByteArray) (ts : List Tok), ts.length ≤ n → wzL (kids e ts).1 + twz (kids e ts).2 ≤ twz ts := by
  induction n with
  | zero =>
    intro e ts h
    obtain rfl : ts = [] := List.eq_nil_of_length_eq_zero (by omega)
    simp [kids_nil, wzL, twz]
  | succ n ih =>
    intro e ts h
    cases ts with
    | nil => simp [kids_nil, wzL, twz]
    | cons t r =>
      simp only [List.length_cons] at h
      by_cases hc : e ≠ nob ∧ signT t e = true
      · rw [kids_end hc]
        simp only [wzL, twz]
        omega
      · rw [kids_cons hc]
        have hl := inside_len t r
        have h1 : wzL (inside t r).1 + twz (inside t r).2 ≤ twz r := by
          unfold inside
          split
          · simp [wzL]
          · exact ih _ r (by omega)
        have h2 := ih e (inside t r).2 (by omega)
        simp only [wzL, wzN, twz]
        omega
theorem sheet_g {s : ByteArray} (hs : s.size ≤ 600) : gL (sheetN s) ∧ wzL (sheetN s) ≤ 4000000 := by
  have hc := clean_size s
  have h1 : ∀ t ∈ toks (clean s), TokOK t ∧ kdT t = true := fun t ht => ⟨toks_ok (by omega) t ht, (toks_s _ t ht).kind⟩
  refine ⟨kids_g _ _ _ (Nat.le_refl _) h1, ?_⟩
  have h2 := kids_wz _ nob (toks (clean s)) (Nat.le_refl _)
  have h3 := twz_s (z := 600) (toks (clean s)) (fun t ht => by have := toks_s _ t ht; exact ⟨by have := this.word; omega, by have := this.unit; omega, this.kind⟩)
  have h4 := toks_n (clean s)
  have h5 : (toks (clean s)).length * (8 * 600 + 16) ≤ 600 * 4816 := Nat.mul_le_mul (by omega) (by omega)
  unfold sheetN nodes
  omega
theorem wzN_eq (n : Nd) : wzN n = 4 * n.t.word.size + 4 * n.t.unit.size + 16 + wzL n.kids := by
  obtain ⟨t, k⟩ := n
  unfold wzN
  rfl
theorem wzL_cons (n : Nd) (r : List Nd) : wzL (n :: r) = wzN n + wzL r := by conv => lhs; unfold wzL
theorem wzL_nil : wzL [] = 0 := by unfold wzL; rfl
theorem wzL_append : ∀ (a b : List Nd), wzL (a ++ b) = wzL a + wzL b
  | [], b => by simp [wzL]
  | n :: r, b => by
    rw [List.cons_append, wzL_cons, wzL_cons, wzL_append r b]
    omega
theorem wzL_rev : ∀ (a : List Nd), wzL a.reverse = wzL a
  | [] => rfl
  | n :: r => by
    rw [List.reverse_cons, wzL_append, wzL_rev r, wzL_cons, wzL_cons, wzL_nil]
    omega
theorem wzL_dropB : ∀ (l : List Nd), wzL (dropB l) ≤ wzL l
  | [] => by unfold dropB; exact Nat.le_refl _
  | n :: r => by
    unfold dropB
    split
    · have := wzL_dropB r
      rw [wzL_cons]; omega
    · exact Nat.le_refl _
theorem wzL_bare (l : List Nd) : wzL (bare l) ≤ wzL l := by
  unfold bare trimE
  rw [wzL_rev]
  have h1 := wzL_dropB (dropB l).reverse
  have h2 := wzL_dropB l
  rw [wzL_rev] at h1
  omega
theorem dropB_sub : ∀ (l : List Nd) (n : Nd), n ∈ dropB l → n ∈ l
  | [], n, h => h
  | m :: r, n, h => by
    unfold dropB at h
    split at h
    · exact List.mem_cons_of_mem _ (dropB_sub r n h)
    · exact h
theorem bare_sub (l : List Nd) (n : Nd) (h : n ∈ bare l) : n ∈ l := by
  unfold bare trimE at h
  rw [List.mem_reverse] at h
  exact dropB_sub _ _ (List.mem_reverse.1 (dropB_sub _ _ h))
theorem cut_wz (st : Nd → Bool) : ∀ (l : List Nd), wzL (cutN st l).1 + (match (cutN st l).2.1 with | none => 0 | some b => wzN b) + wzL (cutN st l).2.2 ≤ wzL l
  | [] => by simp [cutN, wzL]
  | n :: r => by
    unfold cutN
    split
    · simp only [wzL_nil, wzL_cons]; omega
    · have := cut_wz st r
      simp only [wzL_cons]
      omega
theorem cut_head (st : Nd → Bool) : ∀ (l : List Nd) (m : Nd), m ∈ (cutN st l).1 → m ∈ l
  | [], m, h => by simp [cutN] at h
  | n :: r, m, h => by
    unfold cutN at h
    split at h
    · simp at h
    · rcases List.mem_cons.1 h with e | e
      · simp [e]
      · exact List.mem_cons_of_mem _ (cut_head st r m e)
theorem cut_stop (st : Nd → Bool) : ∀ (l : List Nd) (b : Nd), (cutN st l).2.1 = some b → b ∈ l
  | [], b, h => by simp [cutN] at h
  | n :: r, b, h => by
    unfold cutN at h
    split at h
    · simp at h; simp [h]
    · exact List.mem_cons_of_mem _ (cut_stop st r b h)
theorem cut_rest (st : Nd → Bool) : ∀ (l : List Nd) (m : Nd), m ∈ (cutN st l).2.2 → m ∈ l
  | [], m, h => by simp [cutN] at h
  | n :: r, m, h => by
    unfold cutN at h
    split at h
    · exact List.mem_cons_of_mem _ h
    · exact List.mem_cons_of_mem _ (cut_rest st r m h)
theorem propOf_sz (w : ByteArray) : (propOf w).size = w.size := by
  unfold propOf
  split
  · rfl
  · exact small_sz w
theorem wzL_dropLast (l : List Nd) : wzL l.dropLast ≤ wzL l := by
  rcases snoc_or l with rfl | ⟨i, x, rfl⟩
  · exact Nat.le_refl _
  · rw [List.dropLast_concat, wzL_append]
    omega
theorem cutImp_wz (v : List Nd) : wzL (cutImp v).1 ≤ wzL v := by
  unfold cutImp
  split
  · exact Nat.le_refl _
  · split
    · split
      · exact Nat.le_refl _
      · split
        · have h1 := wzL_bare (bare v.dropLast).dropLast
          have h2 := wzL_dropLast (bare v.dropLast)
          have h3 := wzL_bare v.dropLast
          have h4 := wzL_dropLast v
          show wzL (bare (bare v.dropLast).dropLast) ≤ _
          omega
        · exact Nat.le_refl _
    · exact Nat.le_refl _
theorem cutImp_sub (v : List Nd) (n : Nd) (h : n ∈ (cutImp v).1) : n ∈ v := by
  unfold cutImp at h
  split at h
  · exact h
  · split at h
    · split at h
      · exact h
      · split at h
        · exact List.dropLast_subset _ (bare_sub _ _ (List.dropLast_subset _ (bare_sub _ _ h)))
        · exact h
    · exact h
theorem declOf_s {l : List Nd} {d : Dec} (h : declOf l = some d) : dz d ≤ wzL l ∧ ∀ n ∈ d.val, n ∈ l := by
  unfold declOf at h
  split at h
  · cases h
  · rename_i n r
    split at h
    · cases h
    · split at h
      · cases h
      · rename_i c q hq
        split at h
        · cases h
          have h1 := cutImp_wz (bare q)
          have h2 := wzL_bare q
          have h3 := wzL_bare r
          rw [hq, wzL_cons, wzN_eq c] at h3
          refine ⟨?_, fun m hm => ?_⟩
          · unfold dz
            simp only [propOf_sz]
            rw [wzL_cons, wzN_eq n]
            omega
          · have := bare_sub _ _ (cutImp_sub _ _ hm)
            exact List.mem_cons_of_mem _ (bare_sub r m (by rw [hq]; exact List.mem_cons_of_mem _ this))
        · cases h
theorem declsF_s : ∀ (f : Nat) (l : List Nd), dzs (declsF f l) ≤ wzL l ∧ ∀ d ∈ declsF f l, ∀ n ∈ d.val, n ∈ l
  | 0, l => by simp [declsF, dzs]
  | f + 1, [] => by simp [declsF, dzs]
  | f + 1, n :: r => by
    unfold declsF
    split
    · have ih := declsF_s f r
      rw [wzL_cons]
      exact ⟨by omega, fun d hd m hm => List.mem_cons_of_mem _ (ih.2 d hd m hm)⟩
    split
    · have ih := declsF_s f (cutN (fun m => isSemi m || isBody m) r).2.2
      have h1 := cut_wz (fun m => isSemi m || isBody m) r
      rw [wzL_cons]
      exact ⟨by omega, fun d hd m hm => List.mem_cons_of_mem _ (cut_rest _ _ _ (ih.2 d hd m hm))⟩
    · have ih := declsF_s f (cutN isSemi (n :: r)).2.2
      have h1 := cut_wz isSemi (n :: r)
      have h2 : ∀ d ∈ declsF f (cutN isSemi (n :: r)).2.2, ∀ m ∈ d.val, m ∈ n :: r := fun d hd m hm => cut_rest _ _ _ (ih.2 d hd m hm)
      simp only
      split
      · exact ⟨by omega, h2⟩
      · rename_i d0 hd0
        have h3 := declOf_s hd0
        refine ⟨by simp only [dzs]; omega, fun d hd m hm => ?_⟩
        rcases List.mem_cons.1 hd with e | e
        · subst e
          exact cut_head _ _ _ (h3.2 m hm)
        · exact h2 d e m hm
theorem decls_s (l : List Nd) : dzs (decls l) ≤ wzL l ∧ ∀ d ∈ decls l, ∀ n ∈ d.val, n ∈ l := declsF_s _ l
def rwz (r : Rule) : Nat := 4 * (r.at_.getD nob).size + 16 + wzL r.head + wzL (r.body.getD [])
def rwzs : List Rule → Nat
  | [] => 0
  | r :: q => rwz r + rwzs q
theorem rwz_mem : ∀ (l : List Rule) (r : Rule), r ∈ l → rwz r ≤ rwzs l
  | m :: r, n, h => by
    unfold rwzs
    rcases List.mem_cons.1 h with e | e
    · subst e; omega
    · have := rwz_mem r n e; omega
structure RSub (l : List Nd) (r : Rule) : Prop where
  head : ∀ n ∈ r.head, n ∈ l
  body : ∀ b, r.body = some b → ∃ n ∈ l, isBody n = true ∧ b = n.kids
  sty : r.at_ = none → r.body.isSome = true
theorem RSub.wide {l l' : List Nd} {r : Rule} (h : RSub l r) (hs : ∀ n ∈ l, n ∈ l') : RSub l' r :=
  ⟨fun n hn => hs n (h.head n hn), fun b hb => by obtain ⟨n, h1, h2⟩ := h.body b hb; exact ⟨n, hs n h1, h2⟩, h.sty⟩
theorem rulesF_s (sh : Bool) : ∀ (f : Nat) (l : List Nd), rwzs (rulesF f sh l) ≤ wzL l ∧ ∀ r ∈ rulesF f sh l, RSub l r
  | 0, l => by simp [rulesF, rwzs]
  | f + 1, [] => by simp [rulesF, rwzs]
  | f + 1, n :: r => by
    unfold rulesF
    split
    · have ih := rulesF_s sh f r
      rw [wzL_cons]
      exact ⟨by omega, fun d hd => (ih.2 d hd).wide fun m hm => List.mem_cons_of_mem _ hm⟩
    split
    · have ih := rulesF_s sh f (cutN (fun m => isSemi m || isBody m) r).2.2
      have h1 := cut_wz (fun m => isSemi m || isBody m) r
      have h2 := cut_stop (fun m => isSemi m || isBody m) r
      have hb : wzL ((bodyOf (cutN (fun m => isSemi m || isBody m) r).2.1).getD []) ≤ (match (cutN (fun m => isSemi m || isBody m) r).2.1 with | none => 0 | some b => wzN b) := by
        cases (cutN (fun m => isSemi m || isBody m) r).2.1 with
        | none => simp [bodyOf, wzL]
        | some b =>
          show wzL ((if isBody b = true then some b.kids else none).getD []) ≤ wzN b
          by_cases hq : isBody b = true
          · rw [if_pos hq, wzN_eq]
            show wzL b.kids ≤ _
            omega
          · rw [if_neg hq]
            show wzL [] ≤ _
            rw [wzL_nil]
            exact Nat.zero_le _
      simp only
      refine ⟨?_, fun d hd => ?_⟩
      · unfold rwzs rwz
        simp only [Option.getD_some]
        rw [wzL_cons, wzN_eq n]
        omega
      · rcases List.mem_cons.1 hd with e | e
        · subst e
          refine ⟨fun m hm => List.mem_cons_of_mem _ (cut_head _ _ _ hm), fun b hbb => ?_, fun h => by cases h⟩
          simp only at hbb
          cases hc : (cutN (fun m => isSemi m || isBody m) r).2.1 with
          | none => rw [hc] at hbb; simp [bodyOf] at hbb
          | some q =>
            rw [hc] at hbb
            have hbb' : (if isBody q = true then some q.kids else none) = some b := hbb
            by_cases hq : isBody q = true
            · rw [if_pos hq] at hbb'
              cases hbb'
              exact ⟨q, List.mem_cons_of_mem _ (h2 q hc), hq, rfl⟩
            · rw [if_neg hq] at hbb'
              cases hbb'
        · exact (ih.2 d e).wide fun m hm => List.mem_cons_of_mem _ (cut_rest _ _ _ hm)
    · have h1 := cut_wz isBody (n :: r)
      have h2 := cut_stop isBody (n :: r)
      have h3 := cutN_found isBody (n :: r)
      simp only
      split
      · simp [rwzs]
      · rename_i b hc
        have ih := rulesF_s sh f (cutN isBody (n :: r)).2.2
        rw [hc] at h1
        simp only at h1
        refine ⟨?_, fun d hd => ?_⟩
        · unfold rwzs rwz
          simp only [Option.getD_some, Option.getD_none]
          have e : nob.size = 0 := rfl
          rw [wzN_eq] at h1
          rw [e]
          omega
        · rcases List.mem_cons.1 hd with e | e
          · subst e
            refine ⟨fun m hm => cut_head _ _ _ hm, fun q hq => ?_, fun _ => rfl⟩
            cases hq
            exact ⟨b, h2 b hc, h3 b hc, rfl⟩
          · exact (ih.2 d e).wide fun m hm => cut_rest _ _ _ hm
theorem rules_s (sh : Bool) (l : List Nd) : rwzs (rules sh l) ≤ wzL l ∧ ∀ r ∈ rules sh l, RSub l r := rulesF_s sh _ l
theorem body_g {l b : List Nd} {r : Rule} (h : RSub l r) (hg : gL l) (hb : r.body = some b) : gL b ∧ depth b + 1 ≤ depth l := by
  obtain ⟨n, h1, h2, rfl⟩ := h.body b hb
  have h3 := (gN_iff n).1 ((gL_mem l).1 hg n h1)
  have h4 := depthN_mem l n h1
  have h5 : ¬ closing n.t = nob := by
    unfold isBody sgnN signT at h2
    simp only [Bool.and_eq_true, decide_eq_true_eq] at h2
    unfold closing
    rw [if_neg (by rw [h2.1]; omega), if_pos h2.1, h2.2]
    decide
  rw [depthN_some h5] at h4
  exact ⟨h3.2.2.2, h4⟩
end Go.Proofs.YtlliliddljkbfaaGreat
