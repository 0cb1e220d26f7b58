import Derived.Test.YtlliliddljkbfaaGreatC47
namespace Go.Proofs.YtlliliddljkbfaaGreat.Sp
set_option maxHeartbeats 64000000
set_option maxRecDepth 100000
theorem neutral_signs (p : Policy) : ∀ (l : List UInt8), (∀ c ∈ l, c ≠ 91 ∧ c ≠ 93) → Neutral p (l.map Pc.sign)
  | [], _ => Neutral.nil p
  | c :: l, h => neutral_one (neutral_sign (h c (by simp))) (neutral_signs p l fun x hx => h x (by simp [hx]))
theorem how_neutral {how : ByteArray} (h : HowOK how) : ∀ c ∈ how.data.toList, c ≠ 91 ∧ c ≠ 93 := by
  rcases h with rfl | rfl | rfl | rfl | rfl | rfl <;> decide
theorem calm_attr {p : Policy} {name how value : ByteArray} (hh : HowOK how) : Neutral p (attrP name how value) := by
  unfold attrP
  split
  · exact neutral_box (l := [.ident name]) fun a ha rest => neutral_kind (p := p) (q := .ident name) rfl (by simp [Tok.w]) a (by omega) rest
  · have e : (.sign 91 :: .ident name :: (how.data.toList.map Pc.sign ++ [.text value, .sign 93]) : List Pc) = .sign 91 :: ((.ident name :: how.data.toList.map Pc.sign ++ [.text value]) ++ [.sign 93]) := by simp
    rw [e]
    refine neutral_box fun a ha rest => ?_
    rw [ptoks_append, List.append_assoc, neutral_one (neutral_kind (p := p) (q := .ident name) rfl (by simp [Tok.w])) (neutral_signs p _ (how_neutral hh)) a (by omega)]
    show quietF p a (Tok.w 2 (zqB value) :: rest) = _
    conv => lhs; unfold quietF
    rw [if_neg (by simp [Tok.w]), if_pos (by simp [Tok.w]), if_neg (by omega)]
theorem calm_place [DecI] (p : Policy) (n : Nat) : Neutral p [placeP n] := by
  unfold placeP
  split
  · exact neutral_kind rfl (by simp [Tok.w])
  · split
    · exact neutral_kind rfl (by simp [Tok.w])
    · exact neutral_kind rfl (by simp [Tok.w])
theorem calm_comb {p : Policy} {b : Nat} (h : b = 0 ∨ CbOK b) : Neutral p (combP b) := by
  rcases h with rfl | rfl | rfl | rfl | rfl
  · exact Neutral.nil p
  · exact neutral_kind rfl (.inl rfl)
  all_goals exact neutral_one (neutral_kind rfl (.inl rfl)) (neutral_one (neutral_sign (by decide)) (neutral_kind rfl (.inl rfl)))
mutual
theorem calmS [DecI] (p : Policy) : ∀ (s : Simple), sfS s → Neutral p (pcS s)
  | .mk kind name how value list place, h => by
    simp only [sfS] at h
    have hk := h.1
    unfold pcS
    split
    · split
      · exact neutral_sign (by decide)
      · exact neutral_kind rfl (by simp [Tok.w])
    · rename_i k1
      split
      · exact neutral_kind rfl (by simp [Tok.w])
      · rename_i k2
        split
        · exact neutral_one (neutral_sign (by decide)) (neutral_kind rfl (by simp [Tok.w]))
        · rename_i k3
          split
          · rename_i k4
            refine calm_attr ?_
            rcases hk with h | h | h | h
            · exact absurd h k1
            · omega
            · exact h.2.2
            · omega
          · rename_i k4
            have hs : StOK name := by
              rcases hk with h | h | h | h
              · exact absurd h k1
              · omega
              · exact absurd h.1 k4
              · exact h.2
            have hn := st_names hs
            have hz : small (zqB name) = name := by rw [hn.2.2.2.1]; exact hn.2.2.2.2
            split
            · rename_i hw
              have ih := calmL p [] (Neutral.nil p) list h.2.2
              refine neutral_one (neutral_sign (by decide)) (neutral_one (neutral_func ?_) (ih.append (neutral_sign (by decide))))
              rw [hz]
              exact hw.elim (fun e => .inr (.inl e)) (fun e => .inr (.inr (.inl e)))
            · split
              · rename_i hw
                exact neutral_one (neutral_sign (by decide)) (neutral_one (neutral_func (.inr (.inr (.inr (by rw [hz]; exact hw))))) (neutral_one (calm_place p place) (neutral_sign (by decide))))
              · exact neutral_one (neutral_sign (by decide)) (neutral_kind rfl (by simp [Tok.w]))
theorem calmA [DecI] (p : Policy) : ∀ (l : List Simple), sfA l → Neutral p (pcA l)
  | [], _ => by unfold pcA; exact Neutral.nil p
  | s :: l, h => by
    simp only [sfA] at h
    unfold pcA
    exact (calmS p s h.1).append (calmA p l h.2)
theorem calmR [DecI] (p : Policy) : ∀ (l : List (Nat × List Simple)), sfR l → Neutral p (pcC l)
  | [], _ => by unfold pcC; exact Neutral.nil p
  | (b, all) :: l, h => by
    simp only [sfR] at h
    unfold pcC pcSt
    exact ((calm_comb (.inr h.1)).append (calmA p all h.2.2.2.1)).append (calmR p l h.2.2.2.2)
theorem calmC [DecI] (p : Policy) : ∀ (l : List (Nat × List Simple)), sfC l → Neutral p (pcC l)
  | [], _ => by unfold pcC; exact Neutral.nil p
  | (b, all) :: l, h => by
    simp only [sfC] at h
    unfold pcC pcSt
    exact ((calm_comb (.inl h.1)).append (calmA p all h.2.2.2.1)).append (calmR p l h.2.2.2.2)
theorem calmL [DecI] (p : Policy) (pa : List Pc) (ha : Neutral p pa) : ∀ (l : List (List (Nat × List Simple))), sfL l → Neutral p (pcL pa l)
  | [], _ => by unfold pcL; exact Neutral.nil p
  | c :: l, h => by
    simp only [sfL] at h
    unfold pcL
    exact ha.append ((calmC p c h.1).append (calmTl p pa ha l h.2))
theorem calmTl [DecI] (p : Policy) (pa : List Pc) (ha : Neutral p pa) : ∀ (l : List (List (Nat × List Simple))), sfL l → Neutral p (pcTl pa l)
  | [], _ => by unfold pcTl; exact Neutral.nil p
  | c :: l, h => by
    simp only [sfL] at h
    unfold pcTl
    exact neutral_one (neutral_sign (by decide)) (ha.append ((calmC p c h.1).append (calmTl p pa ha l h.2)))
end
def gtF : UInt8 → List UInt8 → Prop
  | _, [] => True
  | q, c :: r => (c = 62 → q = 32) ∧ gtF c r
def Sane (l : List UInt8) : Prop := (∀ c ∈ l, 32 ≤ c.toNat ∧ c.toNat ≤ 126 ∧ c.toNat ≠ 60) ∧ gtF 0 l
theorem gtF_any {q : UInt8} : ∀ {l : List UInt8}, gtF 0 l → gtF q l
  | [], _ => trivial
  | c :: r, h => ⟨fun e => absurd (h.1 e) (by decide), h.2⟩
theorem gtF_append : ∀ {a b : List UInt8} {q : UInt8}, gtF q a → gtF 0 b → gtF q (a ++ b)
  | [], _, _, _, hb => gtF_any hb
  | _ :: _, _, _, ha, hb => ⟨ha.1, gtF_append ha.2 hb⟩
theorem Sane.nil : Sane [] := ⟨fun _ h => (by cases h), trivial⟩
theorem Sane.append {a b : List UInt8} (ha : Sane a) (hb : Sane b) : Sane (a ++ b) :=
  ⟨fun c hc => (List.mem_append.1 hc).elim (ha.1 c) (hb.1 c), gtF_append ha.2 hb.2⟩
theorem Sane.fine : ∀ {l : List UInt8}, (∀ c ∈ l, fineB c) → Sane l
  | [], _ => Sane.nil
  | c :: r, h => by
    have hc := h c (by simp)
    have ih := Sane.fine (l := r) fun x hx => h x (by simp [hx])
    exact Sane.append (a := [c]) ⟨fun x hx => by rw [List.mem_singleton.1 hx]; exact ⟨hc.1, hc.2.1, hc.2.2.1⟩, ⟨fun e => absurd (by rw [e]; rfl) hc.2.2.2, trivial⟩⟩ ih
def numC (c : Int) : Prop := digI c = true ∨ c = 43 ∨ c = 45 ∨ c = 46 ∨ c = 101 ∨ c = 69
theorem numE_bytes {s : ByteArray} {i x : Nat} (h1 : i ≤ x) (h2 : x < numE s i) : numC (pk s x) := by
  unfold numE at h2
  have hsg : ∀ a y, a ≤ y → y < sgn s a → numC (pk s y) := fun a y ha hy => by
    unfold sgn at hy
    split at hy
    · rename_i hs
      have e : y = a := by omega
      unfold signI at hs
      simp at hs
      rw [e]
      rcases hs with h | h <;> rw [h]
      · exact .inr (.inl rfl)
      · exact .inr (.inr (.inl rfl))
    · omega
  have hfr : ∀ a y, a ≤ y → y < fracE s a → numC (pk s y) := fun a y ha hy => by
    unfold fracE at hy
    split at hy
    · rename_i hf
      rcases Nat.lt_or_ge a y with h | h
      · exact .inl (dig_all h hy)
      · rw [show y = a by omega, hf.1]; exact .inr (.inr (.inr (.inl rfl)))
    · omega
  have hex : ∀ a y, a ≤ y → y < expE s a → numC (pk s y) := fun a y ha hy => by
    unfold expE at hy
    split at hy
    · rename_i he
      split at hy
      · rcases Nat.lt_or_ge a y with h | h
        · rcases Nat.lt_or_ge y (sgn s (a + 1)) with h3 | h3
          · exact hsg _ _ h h3
          · exact .inl (dig_all h3 hy)
        · rw [show y = a by omega]
          rcases he with e | e <;> rw [e]
          · exact .inr (.inr (.inr (.inr (.inl rfl))))
          · exact .inr (.inr (.inr (.inr (.inr rfl))))
      · omega
    · omega
  rcases Nat.lt_or_ge x (sgn s i) with h | h
  · exact hsg _ _ h1 h
  · rcases Nat.lt_or_ge x (dig s (sgn s i)) with h3 | h3
    · exact .inl (dig_all h h3)
    · rcases Nat.lt_or_ge x (fracE s (dig s (sgn s i))) with h4 | h4
      · exact hfr _ _ h3 h4
      · exact hex _ _ h4 h2
theorem numW_fine {w : ByteArray} (h : NumW w) : ∀ c ∈ w.data.toList, fineB c := by
  intro c hc
  obtain ⟨d, hd, e⟩ := List.getElem_of_mem hc
  have hat : At w 0 (w.data.toList ++ []) := ⟨Nat.zero_le _, by simp⟩
  have he := (h w 0 [] hat (show stopD (-1) by unfold stopD; decide)).2
  have hl : w.size = w.data.toList.length := rfl
  have := numE_bytes (s := w) (i := 0) (x := 0 + d) (by omega) (by omega)
  rw [hat.at hd, e] at this
  unfold numC digI at this
  simp at this
  unfold fineB
  omega
theorem fine_pc {q : Pc} (h : q.ok) (h62 : q ≠ .sign 62) : ∀ c ∈ q.bytes, fineB c := by
  match q, h, h62 with
  | .blank, _, _ => intro c hc; rw [List.mem_singleton.1 hc]; unfold fineB; decide
  | .text w, _, _ => exact textL_fine w
  | .hash w, _, _ =>
    intro c hc
    rcases List.mem_cons.1 hc with rfl | hc
    · unfold fineB; decide
    · exact nameL_fine w c hc
  | .num w, h, _ => exact numW_fine h
  | .pct w, h, _ =>
    intro c hc
    rcases List.mem_append.1 hc with hc | hc
    · exact numW_fine h c hc
    · rw [List.mem_singleton.1 hc]; unfold fineB; decide
  | .dim w u, h, _ =>
    intro c hc
    rcases List.mem_append.1 hc with hc | hc
    · exact numW_fine h.1 c hc
    · exact unitL_fine u c hc
  | .at_ w, _, _ =>
    intro c hc
    rcases List.mem_cons.1 hc with rfl | hc
    · unfold fineB; decide
    · exact nameL_fine w c hc
  | .ident w, _, _ => exact nameL_fine w
  | .func w, _, _ =>
    intro c hc
    rcases List.mem_append.1 hc with hc | hc
    · exact nameL_fine w c hc
    · rw [List.mem_singleton.1 hc]; unfold fineB; decide
  | .sign c, h, h62 =>
    intro x hx
    rw [List.mem_singleton.1 hx]
    have h2 : c ≠ 62 := fun e => h62 (by rw [e])
    have : ∀ c ∈ signsL, c ≠ 62 → fineB c := by unfold fineB; decide
    exact this c h h2
  | .com, _, _ =>
    intro c hc
    have : ∀ c ∈ ([47, 42, 42, 47] : List UInt8), fineB c := by unfold fineB; decide
    exact this c hc
def No62 (l : List Pc) : Prop := ∀ q ∈ l, q ≠ .sign 62
end Go.Proofs.YtlliliddljkbfaaGreat.Sp
namespace Go.Proofs.YtlliliddljkbfaaGreat.Sp
set_option maxHeartbeats 64000000
set_option maxRecDepth 100000
def SaneP (l : List Pc) : Prop := Sane (flat l)
theorem SaneP.nil : SaneP [] := Sane.nil
theorem SaneP.append {a b : List Pc} (ha : SaneP a) (hb : SaneP b) : SaneP (a ++ b) := by
  show Sane (flat (a ++ b))
  rw [flat_append]; exact Sane.append ha hb
theorem SaneP.cons {q : Pc} {l : List Pc} (h : q.ok) (h62 : q ≠ .sign 62) (hl : SaneP l) : SaneP (q :: l) := (Sane.fine (fine_pc h h62)).append hl
theorem sane_sign {c : UInt8} {l : List Pc} (h : c ∈ signsL ∧ c ≠ 62) (hl : SaneP l) : SaneP (.sign c :: l) := SaneP.cons h.1 (fun e => h.2 (by cases e; rfl)) hl
theorem sign_ne {p : Policy} {t : Tok} {k : List Nd} (h : vT p t k) (e : t.kind = 15) : bt t.word ≠ 62 := by
  have hh := h.harm
  intro h62
  have hw : t.word = b1 62 := by rw [(bt_one (h.ok.sign e)).2, h62]
  have hc : closing t = nob := by unfold closing; rw [if_neg (by omega), if_pos e, hw]; rfl
  unfold harmT at hh
  rw [if_neg (by omega), if_pos e, hc, hw] at hh
  revert hh; decide
theorem sane_cl {t : Tok} (e : t.kind = 15) : SaneP (clP t) := by
  unfold clP
  split
  · exact SaneP.nil
  · rcases closing_sign e with c | ⟨_, c⟩ | ⟨_, c⟩ | ⟨_, c⟩
    · contradiction
    all_goals (rw [c]; exact sane_sign (by decide) SaneP.nil)
mutual
theorem saneN (p : Policy) : ∀ (n : Nd), vN p n → SaneP (pcN n)
  | .mk t k, h => by
    simp only [vN] at h
    have hv := h.1
    have ih := saneF p none k h.2
    rw [pcN_eq]
    simp only [Nd.t_mk, Nd.kids_mk]
    rcases hv.kinds with e | e | e | e | e | e | e | e | e
    · rw [pcT_1 _ e]; exact SaneP.cons trivial (by simp) SaneP.nil
    · rw [pcT_2 _ e]; exact SaneP.cons trivial (by simp) SaneP.nil
    · rw [pcT_4 _ e]; exact SaneP.cons (hv.ok.named (.inl e)) (by simp) SaneP.nil
    · rw [pcT_5 _ e]; exact SaneP.cons (hv.num (.inl e)) (by simp) SaneP.nil
    · rw [pcT_6 _ e]; exact SaneP.cons (hv.num (.inr (.inl e))) (by simp) SaneP.nil
    · rw [pcT_7 _ e]; exact SaneP.cons ⟨hv.num (.inr (.inr e)), hv.ok.dim e⟩ (by simp) SaneP.nil
    · rw [pcT_11 _ e]; exact SaneP.cons (hv.ok.named (.inr (.inr (.inl e)))) (by simp) (ih.append (sane_sign (by decide) SaneP.nil))
    · rw [pcT_14 _ e]; exact SaneP.cons (hv.ok.named (.inr (.inr (.inr e)))) (by simp) SaneP.nil
    · rw [pcT_15 _ e]; exact sane_sign ⟨(sign_in hv e).1, sign_ne hv e⟩ (ih.append (sane_cl e))
theorem saneF (p : Policy) : ∀ (a : Option Tok) (l : List Nd), vL p l → SaneP (pcF a l)
  | _, [], _ => by rw [pcF_nil]; exact SaneP.nil
  | a, n :: l, h => by
    simp only [vL] at h
    have h1 := saneN p n h.1
    have h2 := saneF p (some n.t) l h.2
    rw [pcF_cons]
    refine SaneP.append ?_ h2
    split
    · exact SaneP.nil
    · refine SaneP.append ?_ h1
      cases a with
      | none => exact SaneP.nil
      | some a =>
        show SaneP (if parts a n.t = true then [Pc.com] else [])
        split
        · exact SaneP.cons trivial (by simp) SaneP.nil
        · exact SaneP.nil
end
theorem sane_comb {b : Nat} (h : b = 0 ∨ CbOK b) : SaneP (combP b) := by
  rcases h with rfl | rfl | rfl | rfl | rfl
  · exact SaneP.nil
  · exact SaneP.cons trivial (by simp) SaneP.nil
  · exact ⟨by decide, ⟨fun e => absurd e (by decide), fun _ => rfl, fun e => absurd e (by decide), trivial⟩⟩
  · exact SaneP.cons trivial (by simp) (sane_sign (by decide) (SaneP.cons trivial (by simp) SaneP.nil))
  · exact SaneP.cons trivial (by simp) (sane_sign (by decide) (SaneP.cons trivial (by simp) SaneP.nil))
theorem sane_signs : ∀ (l : List UInt8) (b : List Pc), (∀ c ∈ l, c ∈ signsL ∧ c ≠ 62) → SaneP b → SaneP (l.map Pc.sign ++ b)
  | [], _, _, h => h
  | c :: l, b, h, hb => sane_sign (h c (by simp)) (sane_signs l b (fun x hx => h x (by simp [hx])) hb)
theorem sane_attr {name how value : ByteArray} (h0 : 0 < name.size) (hh : HowOK how) : SaneP (attrP name how value) := by
  unfold attrP
  split
  · exact sane_sign (by decide) (SaneP.cons h0 (by simp) (sane_sign (by decide) SaneP.nil))
  · refine sane_sign (by decide) (SaneP.cons h0 (by simp) (sane_signs _ _ ?_ (SaneP.cons trivial (by simp) (sane_sign (by decide) SaneP.nil))))
    rcases hh with rfl | rfl | rfl | rfl | rfl | rfl <;> decide
theorem sane_place [DecI] {n : Nat} (h : n ≤ 1001) {l : List Pc} (hl : SaneP l) : SaneP (placeP n :: l) := by
  unfold placeP
  split
  · exact SaneP.cons (show 0 < nOdd.size by decide) (by simp) hl
  · split
    · exact SaneP.cons (show 0 < nEven.size by decide) (by simp) hl
    · exact SaneP.cons (dec_num (by omega)) (by simp) hl
mutual
theorem saneS [DecI] : ∀ (s : Simple), sfS s → SaneP (pcS s)
  | .mk kind name how value list place, h => by
    simp only [sfS] at h
    have hk := h.1
    unfold pcS
    split
    · split
      · exact sane_sign (by decide) SaneP.nil
      · rename_i hn
        refine SaneP.cons ?_ (by simp) SaneP.nil
        rcases Nat.eq_zero_or_pos name.size with e | e
        · exact absurd (by apply ByteArray.ext; apply Array.toList_inj.1; exact List.eq_nil_of_length_eq_zero e) hn
        · exact e
    · rename_i k1
      split
      · refine SaneP.cons ?_ (by simp) SaneP.nil
        rcases hk with h | h | h | h
        · exact absurd h k1
        · exact h.2
        · omega
        · omega
      · rename_i k2
        split
        · refine sane_sign (by decide) (SaneP.cons ?_ (by simp) SaneP.nil)
          rcases hk with h | h | h | h
          · exact absurd h k1
          · exact h.2
          · omega
          · omega
        · rename_i k3
          split
          · rename_i k4
            have h0 : 0 < name.size ∧ HowOK how := by
              rcases hk with h | h | h | h
              · exact absurd h k1
              · omega
              · exact h.2
              · omega
            exact sane_attr h0.1 h0.2
          · rename_i k4
            have hs : StOK name := by
              rcases hk with h | h | h | h
              · exact absurd h k1
              · omega
              · exact absurd h.1 k4
              · exact h.2
            have hn := (st_names hs).2.1
            split
            · exact sane_sign (by decide) (SaneP.cons hn (by simp) ((saneL [] SaneP.nil list h.2.2).append (sane_sign (by decide) SaneP.nil)))
            · split
              · exact sane_sign (by decide) (SaneP.cons hn (by simp) (sane_place h.2.1 (sane_sign (by decide) SaneP.nil)))
              · exact sane_sign (by decide) (SaneP.cons hn (by simp) SaneP.nil)
theorem saneA [DecI] : ∀ (l : List Simple), sfA l → SaneP (pcA l)
  | [], _ => by unfold pcA; exact SaneP.nil
  | s :: l, h => by
    simp only [sfA] at h
    unfold pcA
    exact (saneS s h.1).append (saneA l h.2)
theorem saneR [DecI] : ∀ (l : List (Nat × List Simple)), sfR l → SaneP (pcC l)
  | [], _ => by unfold pcC; exact SaneP.nil
  | (b, all) :: l, h => by
    simp only [sfR] at h
    unfold pcC pcSt
    exact ((sane_comb (.inr h.1)).append (saneA all h.2.2.2.1)).append (saneR l h.2.2.2.2)
theorem saneC [DecI] : ∀ (l : List (Nat × List Simple)), sfC l → SaneP (pcC l)
  | [], _ => by unfold pcC; exact SaneP.nil
  | (b, all) :: l, h => by
    simp only [sfC] at h
    unfold pcC pcSt
    exact ((sane_comb (.inl h.1)).append (saneA all h.2.2.2.1)).append (saneR l h.2.2.2.2)
theorem saneL [DecI] (pa : List Pc) (ha : SaneP pa) : ∀ (l : List (List (Nat × List Simple))), sfL l → SaneP (pcL pa l)
  | [], _ => by unfold pcL; exact SaneP.nil
  | c :: l, h => by
    simp only [sfL] at h
    unfold pcL
    exact ha.append ((saneC c h.1).append (saneTl pa ha l h.2))
theorem saneTl [DecI] (pa : List Pc) (ha : SaneP pa) : ∀ (l : List (List (Nat × List Simple))), sfL l → SaneP (pcTl pa l)
  | [], _ => by unfold pcTl; exact SaneP.nil
  | c :: l, h => by
    simp only [sfL] at h
    unfold pcTl
    exact sane_sign (by decide) (ha.append ((saneC c h.1).append (saneTl pa ha l h.2)))
end
end Go.Proofs.YtlliliddljkbfaaGreat.Sp
