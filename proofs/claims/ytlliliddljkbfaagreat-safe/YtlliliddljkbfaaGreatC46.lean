import Derived.Test.YtlliliddljkbfaaGreatC13
import Derived.Test.YtlliliddljkbfaaGreatC45
namespace Go.Proofs.YtlliliddljkbfaaGreat.Sp
set_option maxHeartbeats 64000000
set_option maxRecDepth 100000
def bt (w : ByteArray) : UInt8 := w.data.toList.headD 0
theorem bt_one {w : ByteArray} (h : w.size = 1) : w.data.toList = [bt w] ∧ w = b1 (bt w) := by
  have h1 : w.data.toList.length = 1 := h
  have h2 : w.data.toList = [bt w] := by
    unfold bt
    match w.data.toList, h1 with
    | [c], _ => rfl
  refine ⟨h2, ?_⟩
  apply ByteArray.ext
  apply Array.toList_inj.1
  rw [h2]; rfl
def clP (t : Tok) : List Pc := if closing t = nob then [] else [.sign (bt (closing t))]
def pcT (t : Tok) (inn : List Pc) : List Pc :=
  if t.kind = 1 then [.blank]
  else if t.kind = 2 then [.text t.word]
  else if t.kind = 4 then [.hash t.word]
  else if t.kind = 6 then [.pct t.word]
  else if t.kind = 7 then [.dim t.word t.unit]
  else if t.kind = 11 then .func t.word :: (inn ++ [.sign 41])
  else if t.kind = 14 then [.ident t.word]
  else if t.kind = 15 then .sign (bt t.word) :: (inn ++ clP t)
  else [.num t.word]
def gapP (a : Option Tok) (b : Tok) : List Pc := match a with | none => [] | some a => if parts a b = true then [.com] else []
mutual
def pcN : Nd → List Pc
  | .mk t k => pcT t (pcF none k)
def pcF : Option Tok → List Nd → List Pc
  | _, [] => []
  | a, n :: r => (if twoB a n.t = true then [] else gapP a n.t ++ pcN n) ++ pcF (some n.t) r
end
theorem pcN_eq (n : Nd) : pcN n = pcT n.t (pcF none n.kids) := by cases n; simp [pcN]
theorem pcF_nil (a : Option Tok) : pcF a [] = [] := by unfold pcF; rfl
theorem pcF_cons (a : Option Tok) (n : Nd) (r : List Nd) : pcF a (n :: r) = (if twoB a n.t = true then [] else gapP a n.t ++ pcN n) ++ pcF (some n.t) r := by conv => lhs; unfold pcF
structure vT (p : Policy) (t : Tok) (k : List Nd) : Prop where
  ok : TokOK t
  kd : 1 ≤ t.kind ∧ t.kind ≤ 15
  harm : harmT p t = true
  num : numT t
  url : t.kind = 11 → small t.word = url → headN k
  leaf : closing t = nob → k = []
mutual
def vN (p : Policy) : Nd → Prop
  | .mk t k => vT p t k ∧ vL p k
def vL (p : Policy) : List Nd → Prop
  | [] => True
  | n :: r => vN p n ∧ vL p r
end
theorem vN_iff (p : Policy) (n : Nd) : vN p n ↔ vT p n.t n.kids ∧ vL p n.kids := by cases n; simp [vN]
theorem vT.kinds {p : Policy} {t : Tok} {k : List Nd} (h : vT p t k) : t.kind = 1 ∨ t.kind = 2 ∨ t.kind = 4 ∨ t.kind = 5 ∨ t.kind = 6 ∨ t.kind = 7 ∨ t.kind = 11 ∨ t.kind = 14 ∨ t.kind = 15 := by
  have h1 := h.kd
  have h2 := h.harm
  unfold harmT at h2
  split at h2
  · cases h2
  · omega
theorem closing_sign {t : Tok} (h : t.kind = 15) : (closing t = nob ∨ (t.word = b1 40 ∧ closing t = b1 41) ∨ (t.word = b1 91 ∧ closing t = b1 93) ∨ (t.word = b1 123 ∧ closing t = b1 125)) := by
  unfold closing
  rw [if_neg (by omega), if_pos h]
  split
  · rename_i e; exact .inr (.inl ⟨e, rfl⟩)
  · split
    · rename_i e; exact .inr (.inr (.inl ⟨e, rfl⟩))
    · split
      · rename_i e; exact .inr (.inr (.inr ⟨e, rfl⟩))
      · exact .inl rfl
theorem nob_ne (c : UInt8) : b1 c ≠ nob := fun h => by have h2 : (1 : Nat) = 0 := congrArg ByteArray.size h; omega
theorem clP_flat {t : Tok} (h : t.kind = 15) : (closing t).data.toList = flat (clP t) := by
  unfold clP
  rcases closing_sign h with e | ⟨_, e⟩ | ⟨_, e⟩ | ⟨_, e⟩ <;> rw [e] <;> rfl
mutual
theorem writN_pc (p : Policy) : ∀ (n : Nd), vN p n → (writN n).data.toList = flat (pcN n)
  | .mk t k, h => by
    simp only [vN] at h
    have ih := writF_pc p none k h.2
    unfold writN pcN pcT oneO
    rcases h.1.kinds with e | e | e | e | e | e | e | e | e
    · rw [if_pos e, if_pos e]; rfl
    · rw [if_neg (by omega), if_pos e, if_neg (by omega), if_pos e, textO_L]; simp [flat, Pc.bytes]
    · rw [if_neg (by omega), if_neg (by omega), if_neg (by omega), if_pos e, if_neg (by omega), if_neg (by omega), if_pos e, bapp, nameO_L]; simp [flat, Pc.bytes, b1]
    · simp only [e]; simp [flat, Pc.bytes]
    · simp only [e]; simp [flat, Pc.bytes, b1]
    · simp only [e]; simp [flat, Pc.bytes, unitO_L]
    · simp only [e]; simp [flat, Pc.bytes, nameO_L, flat_append, ih, b1]
    · simp only [e]; simp [flat, Pc.bytes, nameO_L]
    · have hw := bt_one (h.1.ok.sign e)
      have hc := clP_flat e
      simp only [e]
      simp [flat, Pc.bytes, flat_append, ih, hw.1, hc]
theorem writF_pc (p : Policy) : ∀ (a : Option Tok) (l : List Nd), vL p l → (writF a l).data.toList = flat (pcF a l)
  | _, [], _ => by unfold writF pcF; rfl
  | a, n :: r, h => by
    simp only [vL] at h
    have h1 := writN_pc p n h.1
    have h2 := writF_pc p (some n.t) r h.2
    unfold writF pcF
    rw [bapp, flat_append, h2]
    congr 1
    split
    · rfl
    · rw [bapp, flat_append, h1]
      congr 1
      cases a with
      | none => rfl
      | some a =>
        show (if parts a n.t = true then midO else nob).data.toList = flat (if parts a n.t = true then [Pc.com] else [])
        split <;> rfl
end
def folI (c : Int) : Bool := c == -1 || c == 32 || c == 44 || c == 58 || c == 59 || c == 41 || c == 93 || c == 125 || c == 91 || c == 123 || c == 47 || c == 33
theorem fol_facts {c : Int} (h : folI c = true) : nameI c = false ∧ c ≠ 92 ∧ c ≠ 40 ∧ c ≠ 62 ∧ stopD c ∧ c ≠ 37 ∧ lettI c = false ∧ c ≠ 45 ∧ digI c = false ∧ c ≠ 46 ∧ c ≠ 42 := by
  unfold folI at h
  simp only [Bool.or_eq_true, beq_iff_eq] at h
  unfold stopD
  rcases h with ((((((((((h | h) | h) | h) | h) | h) | h) | h) | h) | h) | h) | h <;> rw [h] <;> decide
def fol (r : List UInt8) : Prop := folI (hdI r) = true ∧ hdI r ≠ 32
theorem num_hd {w : ByteArray} (h : NumW w) (X : List UInt8) : blankI (hdI (w.data.toList ++ X)) = false ∧ hdI (w.data.toList ++ X) ≠ 47 := by
  have hb := (h w 0 [] ⟨Nat.zero_le _, by simp⟩ (show stopD (-1) by unfold stopD; decide)).1
  have hf := num_first hb
  rw [(At.zero w).hd] at hf
  cases hl : w.data.toList with
  | nil =>
    exfalso
    have : w = ByteArray.empty := by apply ByteArray.ext; apply Array.toList_inj.1; rw [hl]; rfl
    rw [this] at hb
    revert hb; decide
  | cons c l =>
    rw [hl] at hf
    exact ⟨hf.1, hf.2.2.2⟩
theorem name_hd {w : ByteArray} (hw : 0 < w.size) (X : List UInt8) : blankI (hdI (nameL w ++ X)) = false ∧ hdI (nameL w ++ X) ≠ 47 ∧ digI (hdI (nameL w ++ X)) = false := by
  obtain ⟨c, l, hc, hcc⟩ := nameL_hd hw X
  rw [hc]
  have hn := lett_not (c := (c.toNat : Int)) (hcc.elim (fun h => .inr (.inr h)) (fun h => h.elim (fun h => .inr (.inl h)) .inl))
  exact ⟨hn.1, hn.2.2.2.2.2.2.2.1, hn.2.2.2.2.2.2.2.2⟩
theorem sign_in {p : Policy} {t : Tok} {k : List Nd} (h : vT p t k) (e : t.kind = 15) : bt t.word ∈ signsL ∧ (closing t ≠ nob → bt t.word = 40 ∨ bt t.word = 91 ∨ bt t.word = 123) := by
  have hh := h.harm
  unfold harmT at hh
  rw [if_neg (by omega), if_pos e] at hh
  rcases closing_sign e with c | ⟨c, _⟩ | ⟨c, _⟩ | ⟨c, _⟩
  · rw [c] at hh
    refine ⟨?_, fun h => absurd c h⟩
    simp only [decide_true, Bool.not_true, Bool.false_or] at hh
    unfold okSignW at hh
    simp only [Bool.or_eq_true, decide_eq_true_eq] at hh
    rcases hh with (((((((h | h) | h) | h) | h) | h) | h) | h) | h <;> rw [h] <;> decide
  · rw [c]; exact ⟨by decide, fun _ => by decide⟩
  · rw [c]; exact ⟨by decide, fun _ => by decide⟩
  · rw [c]; exact ⟨by decide, fun _ => by decide⟩
section
variable {t : Tok} (inn : List Pc)
theorem pcT_1 (e : t.kind = 1) : pcT t inn = [.blank] := by simp [pcT, e]
theorem pcT_2 (e : t.kind = 2) : pcT t inn = [.text t.word] := by simp [pcT, e]
theorem pcT_4 (e : t.kind = 4) : pcT t inn = [.hash t.word] := by simp [pcT, e]
theorem pcT_5 (e : t.kind = 5) : pcT t inn = [.num t.word] := by simp [pcT, e]
theorem pcT_6 (e : t.kind = 6) : pcT t inn = [.pct t.word] := by simp [pcT, e]
theorem pcT_7 (e : t.kind = 7) : pcT t inn = [.dim t.word t.unit] := by simp [pcT, e]
theorem pcT_11 (e : t.kind = 11) : pcT t inn = .func t.word :: (inn ++ [.sign 41]) := by simp [pcT, e]
theorem pcT_14 (e : t.kind = 14) : pcT t inn = [.ident t.word] := by simp [pcT, e]
theorem pcT_15 (e : t.kind = 15) : pcT t inn = .sign (bt t.word) :: (inn ++ clP t) := by simp [pcT, e]
end
theorem flat_one (q : Pc) (X : List UInt8) : flat [q] ++ X = q.bytes ++ X := by simp [flat]
theorem flat_cons (q : Pc) (l : List Pc) (X : List UInt8) : flat (q :: l) ++ X = q.bytes ++ (flat l ++ X) := by simp [flat]
theorem firstN {p : Policy} {n : Nd} (h : vN p n) (hk : n.t.kind ≠ 1) (X : List UInt8) : blankI (hdI (flat (pcN n) ++ X)) = false ∧ (hdI (flat (pcN n) ++ X) = 47 → n.t.kind = 15 ∧ bt n.t.word = 47 ∧ pcN n = [.sign 47]) := by
  have hv := ((vN_iff p n).1 h).1
  rw [pcN_eq]
  rcases hv.kinds with e | e | e | e | e | e | e | e | e
  · exact absurd e hk
  · rw [pcT_2 _ e, flat_one]
    exact ⟨show blankI 34 = false by decide, fun h => absurd h (show (34 : Int) ≠ 47 by decide)⟩
  · rw [pcT_4 _ e, flat_one]
    exact ⟨show blankI 35 = false by decide, fun h => absurd h (show (35 : Int) ≠ 47 by decide)⟩
  · rw [pcT_5 _ e, flat_one]
    have := num_hd (hv.num (.inl e)) X
    exact ⟨this.1, fun h => absurd h this.2⟩
  · rw [pcT_6 _ e, flat_one]
    have := num_hd (hv.num (.inr (.inl e))) ([37] ++ X)
    rw [← List.append_assoc] at this
    exact ⟨this.1, fun h => absurd h this.2⟩
  · rw [pcT_7 _ e, flat_one]
    have := num_hd (hv.num (.inr (.inr e))) (unitL n.t.unit ++ X)
    rw [← List.append_assoc] at this
    exact ⟨this.1, fun h => absurd h this.2⟩
  · rw [pcT_11 _ e, flat_cons]
    have := name_hd (hv.ok.named (.inr (.inr (.inl e)))) ([40] ++ (flat (pcF none n.kids ++ [.sign 41]) ++ X))
    rw [← List.append_assoc] at this
    exact ⟨this.1, fun h => absurd h this.2.1⟩
  · rw [pcT_14 _ e, flat_one]
    have := name_hd (hv.ok.named (.inr (.inr (.inr e)))) X
    exact ⟨this.1, fun h => absurd h this.2.1⟩
  · have hs := sign_in hv e
    have hf := sign_facts _ hs.1
    rw [pcT_15 _ e, flat_cons]
    refine ⟨hf.1, fun h => ?_⟩
    have h47 : ((bt n.t.word).toNat : Int) = 47 := h
    have e47 : bt n.t.word = 47 := UInt8.toNat_inj.1 (by simpa using (show (bt n.t.word).toNat = 47 by omega))
    have hc : closing n.t = nob := by
      by_cases hc : closing n.t = nob
      · exact hc
      · have := hs.2 hc
        rw [e47] at this
        exact absurd this (by decide)
    refine ⟨e, e47, ?_⟩
    rw [hv.leaf hc, pcF_nil]
    simp [clP, hc, e47]
theorem headF {p : Policy} {r : List UInt8} (hr : fol r) : ∀ (l : List Nd) (a : Tok), vL p l →
    (a.kind = 1 → blankI (hdI (flat (pcF (some a) l) ++ r)) = false) ∧ (softT a = false → closing a = nob → folI (hdI (flat (pcF (some a) l) ++ r)) = true)
  | [], a, _ => by
    rw [pcF_nil]
    refine ⟨fun _ => ?_, fun _ _ => hr.1⟩
    have h1 := hr.1
    have h2 := hr.2
    show blankI (hdI r) = false
    unfold folI at h1
    simp only [Bool.or_eq_true, beq_iff_eq] at h1
    unfold blankI
    simp
    omega
  | n :: l, a, h => by
    simp only [vL] at h
    have ih := headF hr l n.t h.2
    rw [pcF_cons]
    refine ⟨fun ha => ?_, fun hs hc => ?_⟩
    · by_cases hn : n.t.kind = 1
      · rw [if_pos (by unfold twoB; simp [ha, hn])]
        exact ih.1 hn
      · rw [if_neg (by unfold twoB; simp [hn])]
        have hg : gapP (some a) n.t = [] := by
          show (if parts a n.t = true then [Pc.com] else []) = []
          rw [if_neg (by unfold parts softT; simp [ha])]
        rw [hg, List.nil_append, flat_append, List.append_assoc]
        exact (firstN h.1 hn _).1
    · have ha : a.kind ≠ 1 := fun e => by unfold softT at hs; simp [e] at hs
      rw [if_neg (by unfold twoB; simp [ha])]
      by_cases hp : parts a n.t = true
      · have hg : gapP (some a) n.t = [.com] := by show (if parts a n.t = true then [Pc.com] else []) = _; rw [if_pos hp]
        rw [hg]
        rfl
      · have hg : gapP (some a) n.t = [] := by show (if parts a n.t = true then [Pc.com] else []) = _; rw [if_neg hp]
        rw [hg, List.nil_append, flat_append, List.append_assoc, pcN_eq]
        unfold parts at hp
        rw [hs, hc] at hp
        simp only [Bool.not_false, Bool.true_and, decide_true, Bool.and_true, Bool.and_eq_true, Bool.not_eq_true', not_and, Bool.not_eq_false] at hp
        by_cases hsn : softT n.t = true
        · unfold softT at hsn
          simp only [Bool.or_eq_true, Bool.and_eq_true, decide_eq_true_eq] at hsn
          rcases hsn with e | ⟨e, hw⟩
          · rw [pcT_1 _ e]; rfl
          · rw [pcT_15 _ e, flat_cons]
            unfold softW at hw
            simp only [Bool.or_eq_true, decide_eq_true_eq] at hw
            rcases hw with ((((h | h) | h) | h) | h) | h <;> rw [h] <;> rfl
        · have hsn' : softT n.t = false := by simpa using hsn
          by_cases h91 : signT n.t (b1 91) = true
          · unfold signT at h91
            simp only [Bool.and_eq_true, decide_eq_true_eq] at h91
            rw [pcT_15 _ h91.1, flat_cons, h91.2]; rfl
          · have h123 := hp ⟨hsn', by simpa using h91⟩
            unfold signT at h123
            simp only [Bool.and_eq_true, decide_eq_true_eq] at h123
            rw [pcT_15 _ h123.1, flat_cons, h123.2]; rfl
theorem stop_fol {q : Pc} {X : List UInt8} (hq : q ≠ .blank) (hc : q ≠ .com) (hf : ∀ w, q ≠ .func w) (h : folI (hdI X) = true) : q.stop X := by
  obtain ⟨h1, h2, h3, h4, h5, h6, h7, h8, h9, h10, h11⟩ := fol_facts h
  match q, hq, hc, hf with
  | .blank, hq, _, _ => exact absurd rfl hq
  | .text w, _, _, _ => trivial
  | .hash w, _, _, _ => exact ⟨h1, h2⟩
  | .num w, _, _, _ => exact ⟨h5, h6, h7, h8, h2⟩
  | .pct w, _, _, _ => trivial
  | .dim w u, _, _, _ => exact ⟨h1, h2⟩
  | .at_ w, _, _, _ => exact ⟨h1, h2⟩
  | .ident w, _, _, _ => exact ⟨⟨h1, h2⟩, h3, h4⟩
  | .func w, _, _, hf => exact absurd rfl (hf w)
  | .sign c, _, _, _ => exact ⟨fun _ => ⟨h9, h10⟩, fun _ => h9, fun _ => ⟨h9, h10, h7, h8, h2⟩, fun _ => h11⟩
  | .com, _, hc, _ => exact absurd rfl hc
theorem stop_sign {c : UInt8} (X : List UInt8) (h : c ≠ 43 ∧ c ≠ 45 ∧ c ≠ 46 ∧ c ≠ 47) : (Pc.sign c).stop X :=
  ⟨fun e => absurd e h.1, fun e => absurd e h.2.2.1, fun e => absurd e h.2.1, fun e => absurd e h.2.2.2⟩
theorem url_zq {w : ByteArray} (h : small (zqB w) = url) : small w = url ∧ zqB w = w := by
  have h1 : ((w.data.toList.map zq).map smallB) = [117, 114, 108] := by
    have := congrArg (fun x => x.data.toList) h
    simpa [small, zqB, url] using this
  have h2 : ∀ c ∈ w.data.toList, zq c = c := by
    intro c hc
    have hm : smallB (zq c) ∈ [117, 114, 108] := by rw [← h1]; exact List.mem_map_of_mem (List.mem_map_of_mem hc)
    unfold zq at hm ⊢
    split at hm
    · exact absurd hm (by decide)
    · rename_i hz; rw [if_neg hz]
  have h3 : zqB w = w := by
    apply ByteArray.ext
    apply Array.toList_inj.1
    show (w.data.toList.map zq).toArray.toList = _
    rw [List.toList_toArray]
    exact (List.map_congr_left h2).trans (List.map_id _)
  exact ⟨by rw [h3] at h; exact h, h3⟩
theorem clP_good {t : Tok} (e : t.kind = 15) (X : List UInt8) : Good (clP t) X := by
  unfold clP
  split
  · trivial
  · rcases closing_sign e with c | ⟨_, c⟩ | ⟨_, c⟩ | ⟨_, c⟩
    · contradiction
    all_goals
      rw [c]
      exact ⟨show _ ∈ signsL by decide, stop_sign _ (by decide), trivial⟩
theorem fol_sign {c : UInt8} (h : folI (c.toNat : Int) = true ∧ (c.toNat : Int) ≠ 32) (X : List UInt8) : fol (flat [.sign c] ++ X) := by
  rw [flat_one]; exact h
theorem clP_fol {t : Tok} (e : t.kind = 15) (hc : closing t ≠ nob) (X : List UInt8) : fol (flat (clP t) ++ X) := by
  unfold clP
  rw [if_neg hc]
  rcases closing_sign e with c | ⟨_, c⟩ | ⟨_, c⟩ | ⟨_, c⟩
  · contradiction
  all_goals
    rw [c]
    exact fol_sign (by decide) X
mutual
theorem goodN (p : Policy) : ∀ (n : Nd) (X : List UInt8), vN p n → (n.t.kind = 1 → blankI (hdI X) = false) → (softT n.t = false → closing n.t = nob → folI (hdI X) = true) → Good (pcN n) X
  | .mk t k, X, h, hb, hf => by
    simp only [vN] at h
    simp only [Nd.t_mk] at hb hf
    rw [pcN_eq]
    simp only [Nd.t_mk, Nd.kids_mk]
    have hv := h.1
    have hns : t.kind ≠ 1 → t.kind ≠ 15 → softT t = false := fun h1 h2 => by unfold softT; simp [h1, h2]
    have hncl : t.kind ≠ 11 → t.kind ≠ 15 → closing t = nob := fun h1 h2 => no_closing h2 h1
    rcases hv.kinds with e | e | e | e | e | e | e | e | e
    · rw [pcT_1 _ e]; exact ⟨trivial, hb e, trivial⟩
    · rw [pcT_2 _ e]; exact ⟨trivial, trivial, trivial⟩
    · rw [pcT_4 _ e]
      exact ⟨hv.ok.named (.inl e), stop_fol (by simp) (by simp) (by simp) (hf (hns (by omega) (by omega)) (hncl (by omega) (by omega))), trivial⟩
    · rw [pcT_5 _ e]
      exact ⟨hv.num (.inl e), stop_fol (by simp) (by simp) (by simp) (hf (hns (by omega) (by omega)) (hncl (by omega) (by omega))), trivial⟩
    · rw [pcT_6 _ e]; exact ⟨hv.num (.inr (.inl e)), trivial, trivial⟩
    · rw [pcT_7 _ e]
      exact ⟨⟨hv.num (.inr (.inr e)), hv.ok.dim e⟩, stop_fol (by simp) (by simp) (by simp) (hf (hns (by omega) (by omega)) (hncl (by omega) (by omega))), trivial⟩
    · rw [pcT_11 _ e]
      have hg := goodF p none k (flat [.sign 41] ++ X) h.2 ⟨rfl, show (41 : Int) ≠ 32 by decide⟩
      refine ⟨hv.ok.named (.inr (.inr (.inl e))), ?_, hg.append ⟨show (41 : UInt8) ∈ signsL by decide, stop_sign _ (by decide), trivial⟩⟩
      intro hu
      obtain ⟨n, r', hn, hk⟩ := hv.url e (url_zq hu).1
      rcases hk with hk | ⟨b, hb, hk⟩
      · rw [hk] at h ⊢
        simp only [vL] at h
        have hvn := ((vN_iff p n).1 h.2.1).1
        have h2 : n.t.kind = 2 := by
          rcases hvn.kinds with e | e | e | e | e | e | e | e | e <;> omega
        rw [pcF_cons, if_neg (by simp [twoB]), pcN_eq, pcT_2 _ h2]
        exact ⟨_, .inl rfl⟩
      · rw [hk] at h ⊢
        simp only [vL] at h
        have hvn := ((vN_iff p n).1 h.2.2.1).1
        have h2 : n.t.kind = 2 := by
          rcases hvn.kinds with e | e | e | e | e | e | e | e | e <;> omega
        have hg : gapP (some b.t) n.t = [] := by
          show (if parts b.t n.t = true then [Pc.com] else []) = []
          rw [if_neg (by unfold parts softT; simp [hb])]
        rw [pcF_cons, if_neg (by simp [twoB]), pcN_eq, pcT_1 _ hb, pcF_cons, if_neg (by simp [twoB, h2]), hg, pcN_eq, pcT_2 _ h2]
        exact ⟨_, .inr rfl⟩
    · rw [pcT_14 _ e]
      exact ⟨hv.ok.named (.inr (.inr (.inr e))), stop_fol (by simp) (by simp) (by simp) (hf (hns (by omega) (by omega)) (hncl (by omega) (by omega))), trivial⟩
    · rw [pcT_15 _ e]
      have hs := sign_in hv e
      by_cases hc : closing t = nob
      · rw [hv.leaf hc, pcF_nil]
        have hcl : clP t = [] := by unfold clP; rw [if_pos hc]
        rw [hcl]
        refine ⟨hs.1, ?_, trivial⟩
        by_cases hso : softT t = true
        · refine stop_sign _ ?_
          unfold softT softW at hso
          simp only [Bool.or_eq_true, Bool.and_eq_true, decide_eq_true_eq] at hso
          rcases hso with h | ⟨_, ((((h | h) | h) | h) | h) | h⟩
          · omega
          all_goals (rw [h]; decide)
        · exact stop_fol (by simp) (by simp) (by simp) (hf (by simpa using hso) hc)
      · have hg := goodF p none k (flat (clP t) ++ X) h.2 (clP_fol e hc X)
        refine ⟨hs.1, stop_sign _ ?_, hg.append (clP_good e X)⟩
        rcases hs.2 hc with h | h | h <;> rw [h] <;> decide
theorem goodF (p : Policy) : ∀ (a : Option Tok) (l : List Nd) (r : List UInt8), vL p l → fol r → Good (pcF a l) r
  | _, [], _, _, _ => by rw [pcF_nil]; trivial
  | a, n :: l, r, h, hr => by
    simp only [vL] at h
    have hh := headF hr l n.t h.2
    have hN := goodN p n (flat (pcF (some n.t) l) ++ r) h.1 hh.1 hh.2
    have hL := goodF p (some n.t) l r h.2 hr
    rw [pcF_cons]
    refine Good.append ?_ hL
    split
    · trivial
    · rename_i htw
      refine Good.append ?_ hN
      cases a with
      | none => trivial
      | some a =>
        show Good (if parts a n.t = true then [Pc.com] else []) _
        split
        · rename_i hp
          refine ⟨trivial, ?_, trivial⟩
          rintro ⟨q1, q2⟩
          have hk : n.t.kind ≠ 1 := fun e => by
            unfold parts softT at hp; simp [e] at hp
          have hp1 := (firstN h.1 hk (flat (pcF (some n.t) l) ++ r)).2 q1
          rw [hp1.2.2] at q2
          have q3 : hdI (flat (pcF (some n.t) l) ++ r) = 42 := q2
          have hso : softT n.t = false := by
            unfold parts at hp
            simp only [Bool.and_eq_true, Bool.not_eq_true'] at hp
            exact hp.1.1.1.2
          have hcl : closing n.t = nob := by
            have hs := sign_in ((vN_iff p n).1 h.1).1 hp1.1
            by_cases hc : closing n.t = nob
            · exact hc
            · have := hs.2 hc
              rw [hp1.2.1] at this
              exact absurd this (by decide)
          have := (fol_facts (hh.2 hso hcl)).2.2.2.2.2.2.2.2.2.2
          exact this q3
        · trivial
end
end Go.Proofs.YtlliliddljkbfaaGreat.Sp
namespace Go.Proofs.YtlliliddljkbfaaGreat.Sp
set_option maxHeartbeats 64000000
set_option maxRecDepth 100000
def kdS : Simple → Nat
  | .mk k _ _ _ _ _ => k
def kindsF (k : Nat) (nm how : ByteArray) : Prop := k = 116 ∨ ((k = 35 ∨ k = 46) ∧ 0 < nm.size) ∨ (k = 91 ∧ 0 < nm.size ∧ HowOK how) ∨ (k = 58 ∧ StOK nm)
def noTag (l : List Simple) : Prop := ∀ s ∈ l, kdS s ≠ 116
mutual
def sfS : Simple → Prop
  | .mk k nm how _ l p => kindsF k nm how ∧ p ≤ 1001 ∧ sfL l
def sfA : List Simple → Prop
  | [] => True
  | s :: r => sfS s ∧ sfA r
def sfC : List (Nat × List Simple) → Prop
  | [] => False
  | (b, all) :: r => b = 0 ∧ all ≠ [] ∧ noTag all.tail ∧ sfA all ∧ sfR r
def sfR : List (Nat × List Simple) → Prop
  | [] => True
  | (b, all) :: r => CbOK b ∧ all ≠ [] ∧ noTag all.tail ∧ sfA all ∧ sfR r
def sfL : List (List (Nat × List Simple)) → Prop
  | [] => True
  | c :: r => sfC c ∧ sfL r
end
theorem sfS_plain {k : Nat} {nm h v : ByteArray} {p : Nat} (hs : kindsF k nm h) (hp : p ≤ 1001) : sfS (.mk k nm h v [] p) := by simp [sfS, sfL, hs, hp]
theorem ident_pos {n : Nd} (h : okN n) (hk : n.t.kind = 14) : 0 < n.t.word.size := ((okN_iff n).1 h).1.named (.inr (.inr (.inr hk)))
theorem hash_pos {n : Nd} (h : okN n) (hk : n.t.kind = 4) : 0 < n.t.word.size := ((okN_iff n).1 h).1.named (.inl hk)
theorem attrOf_sf {l : List Nd} {s : Simple} (hl : okNs l) (h : attrOf l = some s) : sfS s ∧ kdS s ≠ 116 := by
  unfold attrOf at h
  split at h
  · cases h
  · rename_i n r
    simp only at h
    split at h
    · cases h
    · rename_i hk
      have hp := ident_pos hl.1 (by simpa using hk)
      split at h
      · cases h; exact ⟨sfS_plain (.inr (.inr (.inl ⟨rfl, hp, by simp [HowOK]⟩))) (by omega), by simp [kdS, Simple.of]⟩
      · rename_i m r1 hb
        split at h
        · cases h
        · split at h
          · cases h
          · rename_i q r2 hq
            split at h
            · rename_i v hv
              split at h
              · cases h
                refine ⟨sfS_plain (.inr (.inr (.inl ⟨rfl, hp, ?_⟩))) (by omega), by simp [kdS]⟩
                split
                · rename_i hm
                  rcases hm with e | e | e | e <;> rw [e] <;> unfold HowOK <;> decide
                · unfold HowOK; decide
              · cases h
            · cases h
section
variable {rec : List Nd → Option Sels} (hrec : ∀ l ss, okNs l → rec l = some ss → sfL ss)
include hrec
theorem pseudoW_sf {n : Nd} {s : Simple} (hn : okN n) (h : pseudoW rec n = some s) : sfS s ∧ kdS s ≠ 116 := by
  unfold pseudoW at h
  simp only at h
  split at h
  · split at h
    · rename_i hw
      cases h; exact ⟨sfS_plain (.inr (.inr (.inr ⟨rfl, by rcases hw with e | e | e | e <;> simp [StOK, e]⟩))) (by omega), by simp [kdS, Simple.of]⟩
    · cases h
  split at h
  · cases h
  split at h
  · rename_i hw
    cases hr : rec n.kids with
    | none => rw [hr] at h; cases h
    | some ss =>
      rw [hr] at h
      simp at h
      subst h
      have := hrec _ _ ((okN_iff n).1 hn).2 hr
      simp only [sfS]
      exact ⟨⟨.inr (.inr (.inr ⟨rfl, by rcases hw with e | e <;> simp [StOK, e]⟩)), by omega, this⟩, by simp [kdS]⟩
  split at h
  · rename_i hw
    split at h
    · rename_i v hv
      cases hp : placeOf v.t with
      | none => rw [hp] at h; cases h
      | some q => rw [hp] at h; simp at h; subst h; exact ⟨sfS_plain (.inr (.inr (.inr ⟨rfl, by simp [StOK, hw]⟩))) (placeOf_le hp), by simp [kdS]⟩
    · cases h
  · cases h
theorem partsW_sf (n : Nat) : ∀ (acc : List Simple) (l : List Nd) (all : List Simple) (r : List Nd), l.length ≤ n → okNs l → partsW rec acc l = some (all, r) → ∃ more, all = acc ++ more ∧ sfA more ∧ noTag more := by
  induction n with
  | zero =>
    intro acc l all r hl hn h
    obtain rfl : l = [] := List.eq_nil_of_length_eq_zero (by omega)
    simp [partsW] at h
    obtain ⟨rfl, rfl⟩ := h
    exact ⟨[], by simp, by simp [sfA], by simp [noTag]⟩
  | succ n ih =>
    intro acc l all r hl hn h
    have none' : ∃ more, acc = acc ++ more ∧ sfA more ∧ noTag more := ⟨[], by simp, by simp [sfA], by simp [noTag]⟩
    have one : ∀ s, (sfS s ∧ kdS s ≠ 116) → ∃ more, acc ++ [s] = acc ++ more ∧ sfA more ∧ noTag more := fun s hs => ⟨[s], rfl, by simp [sfA, hs.1], by simp [noTag, hs.2]⟩
    have more : ∀ s all, (sfS s ∧ kdS s ≠ 116) → (∃ more, all = acc ++ [s] ++ more ∧ sfA more ∧ noTag more) → ∃ more, all = acc ++ more ∧ sfA more ∧ noTag more := by
      rintro s all hs ⟨m, rfl, h1, h2⟩
      refine ⟨s :: m, by simp, ⟨hs.1, h1⟩, fun x hx => ?_⟩
      rcases List.mem_cons.1 hx with rfl | hx
      · exact hs.2
      · exact h2 x hx
    match l, hl, hn, h with
    | [], _, hn, h =>
      simp [partsW] at h
      obtain ⟨rfl, rfl⟩ := h
      exact none'
    | [m], _, hn, h =>
      have hw := ((okN_iff m).1 hn.1)
      unfold partsW at h
      split at h
      · rename_i hk
        cases h; exact one _ ⟨sfS_plain (.inr (.inl ⟨.inl rfl, hash_pos hn.1 hk⟩)) (by omega), by simp [kdS, Simple.of]⟩
      split at h
      · cases h
      split at h
      · split at h
        · cases h
        · rename_i s hs
          cases h; exact one _ (attrOf_sf (bare_ok hw.2) hs)
      split at h
      · cases h
      · cases h; exact none'
    | m :: q :: r', hl, hn, h =>
      simp only [List.length_cons] at hl
      have hw := ((okN_iff m).1 hn.1)
      unfold partsW at h
      split at h
      · rename_i hk
        exact more _ _ ⟨sfS_plain (.inr (.inl ⟨.inl rfl, hash_pos hn.1 hk⟩)) (by omega), by simp [kdS]⟩ (ih _ _ _ _ (by simp; omega) hn.2 h)
      split at h
      · split at h
        · rename_i hk
          exact more _ _ ⟨sfS_plain (.inr (.inl ⟨.inr rfl, ident_pos hn.2.1 hk⟩)) (by omega), by simp [kdS]⟩ (ih _ _ _ _ (by omega) hn.2.2 h)
        · cases h
      split at h
      · split at h
        · cases h
        · rename_i s hs
          exact more _ _ (attrOf_sf (bare_ok hw.2) hs) (ih _ _ _ _ (by simp; omega) hn.2 h)
      split at h
      · split at h
        · cases h
        · rename_i s hs
          exact more _ _ (pseudoW_sf hrec hn.2.1 hs) (ih _ _ _ _ (by omega) hn.2.2 h)
      · cases h; exact none'
theorem compoundW_sf {l : List Nd} {all : List Simple} {r : List Nd} (hn : okNs l) (h : compoundW rec l = some (all, r)) : sfA all ∧ noTag all.tail := by
  unfold compoundW at h
  have ht : okNs (tagOf l).2 ∧ ((tagOf l).1 = [] ∨ ∃ s, (tagOf l).1 = [s] ∧ sfS s) := by
    unfold tagOf
    split
    · exact ⟨by simp [okNs], .inl rfl⟩
    · split
      · exact ⟨hn.2, .inr ⟨_, rfl, sfS_plain (.inl rfl) (by omega)⟩⟩
      split
      · exact ⟨hn.2, .inr ⟨_, rfl, sfS_plain (.inl rfl) (by omega)⟩⟩
      · exact ⟨hn, .inl rfl⟩
  obtain ⟨more, e, h1, h2⟩ := partsW_sf hrec _ _ _ _ _ (Nat.le_refl _) ht.1 h
  subst e
  rcases ht.2 with e | ⟨s, e, hs⟩
  · rw [e, List.nil_append]
    exact ⟨h1, fun x hx => h2 x (List.mem_of_mem_tail hx)⟩
  · rw [e]
    exact ⟨⟨hs, h1⟩, h2⟩
variable (hq : ∀ l ss, okNs l → rec l = some ss → qkL ss)
include hq
theorem complexF_sf : ∀ (f b : Nat) (l : List Nd) (ss : List Step), okNs l → complexF rec f b l = some ss → ∃ all r, ss = (b, all) :: r ∧ all ≠ [] ∧ noTag all.tail ∧ sfA all ∧ sfR r
  | 0, _, _, _, _, h => by simp [complexF] at h
  | f + 1, b, l, ss, hn, h => by
    unfold complexF at h
    split at h
    · cases h
    · rename_i all r hc
      have h1 := compoundW_sf hrec hn hc
      split at h
      · cases h
      · rename_i hne
        split at h
        · cases h
          exact ⟨_, _, rfl, hne, h1.2, h1.1, by simp [sfR]⟩
        · split at h
          · cases h
          · rename_i c r' hcb
            have hok : okNs r := (compoundW_qk hq hn hc).2
            have h2 := combi_ok hok hcb
            have hc2 := combi_qk hcb
            cases hx : complexF rec f c r' with
            | none => rw [hx] at h; cases h
            | some x =>
              rw [hx] at h
              simp at h
              subst h
              obtain ⟨all2, r2, rfl, h3, h3', h4, h5⟩ := complexF_sf f c r' x h2.2 hx
              exact ⟨_, _, rfl, hne, h1.2, h1.1, by simp only [sfR]; exact ⟨hc2, h3, h3', h4, h5⟩⟩
theorem eachW_sf : ∀ (ps : List (List Nd)) (ss : Sels), (∀ p ∈ ps, okNs p) → eachW rec ps = some ss → sfL ss
  | [], ss, _, h => by simp [eachW] at h; subst h; simp [sfL]
  | p :: r, ss, hp, h => by
    unfold eachW at h
    split at h
    · cases h
    · rename_i s hs
      cases hx : eachW rec r with
      | none => rw [hx] at h; cases h
      | some x =>
        rw [hx] at h
        simp at h
        subst h
        obtain ⟨all, r3, rfl, h3, h3', h4, h5⟩ := complexF_sf hrec hq _ _ _ _ (bare_ok (hp p (by simp))) hs
        simp only [sfL, sfC]
        exact ⟨⟨trivial, h3, h3', h4, h5⟩, eachW_sf r x (fun q hq => hp q (by simp [hq])) hx⟩
theorem listW_sf {l : List Nd} {ss : Sels} (hn : okNs l) (h : listW rec l = some ss) : sfL ss := by
  unfold listW at h
  split at h
  · cases h
  · exact eachW_sf hrec hq _ _ (partF_ok l [] [] (by simp) (by simp [okNs]) hn) h
end
theorem selF_sf : ∀ (f : Nat) (l : List Nd) (ss : Sels), okNs l → selF f l = some ss → sfL ss
  | 0, l, ss, hn, h => listW_sf (rec := fun _ => none) (fun _ _ _ h => by cases h) (fun _ _ _ h => by cases h) hn h
  | f + 1, l, ss, hn, h => listW_sf (rec := selF f) (fun l ss h1 h2 => selF_sf f l ss h1 h2) (fun l ss h1 h2 => selF_qk f l ss h1 h2) hn h
end Go.Proofs.YtlliliddljkbfaaGreat.Sp
