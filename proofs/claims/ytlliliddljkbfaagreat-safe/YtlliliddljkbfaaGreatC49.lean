import Derived.Test.YtlliliddljkbfaaGreatC12
import Derived.Test.YtlliliddljkbfaaGreatC13
import Derived.Test.YtlliliddljkbfaaGreatC19
import Derived.Test.YtlliliddljkbfaaGreatC41
import Derived.Test.YtlliliddljkbfaaGreatC48
import Derived.WalkSmall
import Derived.Lib.ItoaMem
import Derived.Shelf.Strconv.Itoa3
import Derived.LoopN
import Derived.RegionTactic
import Derived.Shelf.Vars
namespace Go.Proofs.YtlliliddljkbfaaGreat.Sp
set_option maxHeartbeats 64000000
set_option maxRecDepth 100000
mutual
theorem vN_of (p : Policy) : ∀ (n : Nd), gN n → uN n → anyN (fun t => !harmT p t) n = false → vN p n
  | .mk t k, hg, hu, hh => by
    simp only [gN] at hg
    simp only [uN] at hu
    unfold anyN at hh
    rw [Bool.or_eq_false_iff] at hh
    simp only [vN]
    have hk := hg.2.1
    unfold kdT at hk
    simp at hk
    exact ⟨⟨hg.1, hk, by simpa using hh.1, hu.1.1, hu.1.2, hg.2.2.1⟩, vL_of' p k hg.2.2.2 hu.2 hh.2⟩
theorem vL_of' (p : Policy) : ∀ (l : List Nd), gL l → uL l → anyL (fun t => !harmT p t) l = false → vL p l
  | [], _, _, _ => by simp [vL]
  | n :: r, hg, hu, hh => by
    simp only [gL] at hg
    simp only [uL] at hu
    unfold anyL at hh
    rw [Bool.or_eq_false_iff] at hh
    exact ⟨vN_of p n hg.1 hu.1 hh.1, vL_of' p r hg.2 hu.2 hh.2⟩
end
theorem vL_of {p : Policy} {l : List Nd} (hg : gL l) (hu : uL l) (hh : harmL p l = true) : vL p l := vL_of' p l hg hu (by unfold harmL at hh; simpa using hh)
theorem declsF_p : ∀ (f : Nat) (l : List Nd), gL l → ∀ d ∈ declsF f l, 0 < d.prop.size
  | 0, l, _ => by simp [declsF]
  | f + 1, [], _ => by simp [declsF]
  | f + 1, n :: r, hg => by
    have hr : gL r := hg.2
    unfold declsF
    split
    · exact declsF_p f r hr
    split
    · exact declsF_p f _ (gL_sub hr fun m hm => cut_rest _ _ _ hm)
    · have h2 := declsF_p f (cutN isSemi (n :: r)).2.2 (gL_sub hg fun m hm => cut_rest _ _ _ hm)
      simp only
      split
      · exact h2
      · rename_i d0 hd0
        intro d hd
        rcases List.mem_cons.1 hd with e | e
        · subst e
          unfold declOf at hd0
          split at hd0
          · cases hd0
          · rename_i m q hq
            split at hd0
            · cases hd0
            · rename_i hk
              split at hd0
              · cases hd0
              · split at hd0
                · cases hd0
                  have hm : gN m := (gL_mem _).1 hg m (cut_head _ _ _ (by rw [hq]; simp))
                  rw [propOf_sz]
                  exact ((gN_iff m).1 hm).1.named (.inr (.inr (.inr (by simpa using hk))))
                · cases hd0
        · exact h2 d e
theorem rulesF_at (sh : Bool) : ∀ (f : Nat) (l : List Nd), gL l → ∀ r ∈ rulesF f sh l, ∀ w, r.at_ = some w → 0 < w.size
  | 0, l, _ => by simp [rulesF]
  | f + 1, [], _ => by simp [rulesF]
  | f + 1, n :: r, hg => by
    have hr : gL r := hg.2
    unfold rulesF
    split
    · exact rulesF_at sh f r hr
    split
    · rename_i hk
      intro d hd w hw
      simp only at hd
      rcases List.mem_cons.1 hd with e | e
      · subst e
        cases hw
        exact ((gN_iff n).1 hg.1).1.named (.inr (.inl hk))
      · exact rulesF_at sh f _ (gL_sub hr fun m hm => cut_rest _ _ _ hm) d e w hw
    · simp only
      split
      · simp
      · intro d hd w hw
        rcases List.mem_cons.1 hd with e | e
        · subst e; cases hw
        · exact rulesF_at sh f _ (gL_sub hg fun m hm => cut_rest _ _ _ hm) d e w hw
def Neat (p : Policy) (C : List UInt8 → Prop) (o : ByteArray) : Prop := ∃ ps, o.data.toList = flat ps ∧ (∀ X, C X → Good ps X) ∧ Neutral p ps ∧ SaneP ps
theorem Neat.nil (p : Policy) (C : List UInt8 → Prop) : Neat p C nob := ⟨[], rfl, fun _ _ => trivial, Neutral.nil p, SaneP.nil⟩
theorem Neat.append {p : Policy} {C D : List UInt8 → Prop} {a b : ByteArray} (ha : Neat p C a) (hb : Neat p D b) (h : ∀ X, D X → C (b.data.toList ++ X)) : Neat p D (a ++ b) := by
  obtain ⟨pa, a1, a2, a3, a4⟩ := ha
  obtain ⟨pb, b1, b2, b3, b4⟩ := hb
  exact ⟨pa ++ pb, by rw [bapp, a1, b1, flat_append], fun X hX => (a2 _ (by rw [← b1]; exact h X hX)).append (b2 X hX), a3.append b3, a4.append b4⟩
theorem Neat.wide {p : Policy} {C D : List UInt8 → Prop} {a : ByteArray} (ha : Neat p C a) (h : ∀ X, D X → C X) : Neat p D a := by
  obtain ⟨pa, a1, a2, a3, a4⟩ := ha
  exact ⟨pa, a1, fun X hX => a2 X (h X hX), a3, a4⟩
def anyC : List UInt8 → Prop := fun _ => True
theorem neat_sign (p : Policy) (C : List UInt8 → Prop) {c : UInt8} (h : c ∈ signsL ∧ c ≠ 43 ∧ c ≠ 45 ∧ c ≠ 46 ∧ c ≠ 47) (h2 : c ≠ 91 ∧ c ≠ 93 ∧ c ≠ 62) : Neat p C (b1 c) :=
  ⟨[.sign c], rfl, fun _ _ => good_sign h trivial, neutral_sign ⟨h2.1, h2.2.1⟩, sane_sign ⟨h.1, h2.2.2⟩ SaneP.nil⟩
theorem neat_vals {p : Policy} (hf : p.funs.all polName = true) {l : List Nd} (h : vL p l) : Neat p fol (written l) :=
  ⟨pcF none l, writF_pc p none l h, fun X hX => goodF p none l X h hX, calmF p hf none l h, saneF p none l h⟩
theorem neat_ident (p : Policy) {w : ByteArray} (h : 0 < w.size) : Neat p (fun X => selI (hdI X)) (nameO w) :=
  ⟨[.ident w], by rw [nameO_L]; simp [flat, Pc.bytes], fun _ hX => ⟨h, stop_sel hX, trivial⟩, neutral_kind rfl (by simp [Tok.w]), SaneP.cons h (by simp) SaneP.nil⟩
theorem fol_sel {X : List UInt8} (h : fol X) : selI (hdI X) := by
  have := fol_facts h.1
  exact ⟨this.1, this.2.1, this.2.2.1, this.2.2.2.1⟩
theorem imp_name : impO = b1 33 ++ nameO nImportant := by decide
theorem neat_dec {p : Policy} (hf : p.funs.all polName = true) {d : Dec} (h0 : 0 < d.prop.size) (h : vL p d.val) : Neat p fol (decT d) := by
  have hi : Neat p fol (if d.imp = true then impO else nob) := by
    split
    · rw [imp_name]
      exact (neat_sign p anyC (by decide) (by decide)).append ((neat_ident p (by decide)).wide fun X => fol_sel) fun _ _ => trivial
    · exact Neat.nil p _
  have hv : Neat p fol (written d.val ++ (if d.imp = true then impO else nob)) := (neat_vals hf h).append hi fun X hX => by
    split
    · exact ⟨rfl, show (33 : Int) ≠ 32 by decide⟩
    · exact hX
  unfold decT
  exact (neat_ident p h0).append ((neat_sign p anyC (by decide) (by decide)).append hv fun _ _ => trivial) fun X _ => by
    rw [bapp]; exact (show selI 58 by unfold selI; decide)
theorem neat_join {p : Policy} : ∀ (l : List ByteArray), (∀ o ∈ l, Neat p fol o) → Neat p fol (joinO (b1 59) l)
  | [], _ => Neat.nil p _
  | [a], h => h a (by simp)
  | a :: b :: r, h => by
    show Neat p fol (a ++ (b1 59 ++ joinO (b1 59) (b :: r)))
    have ih := neat_join (b :: r) fun o ho => h o (by simp [List.mem_cons.1 ho])
    exact (h a (by simp)).append ((neat_sign p anyC (by decide) (by decide)).append ih fun _ _ => trivial) fun X _ => by
      rw [bapp]; exact ⟨rfl, show (59 : Int) ≠ 32 by decide⟩
theorem neat_body {p : Policy} (hf : p.funs.all polName = true) {l : List Nd} (hg : gL l) (hu : uL l) : Neat p fol (bodyO p l) := by
  unfold bodyO
  refine neat_join _ fun o ho => ?_
  obtain ⟨d, hd, rfl⟩ := List.mem_map.1 ho
  obtain ⟨hd1, hd2⟩ := List.mem_filter.1 hd
  have hs := (decls_s l).2 d hd1
  unfold decK at hd2
  simp only [Bool.and_eq_true] at hd2
  exact neat_dec hf (declsF_p _ l hg d hd1) (vL_of (gL_sub hg hs) (uL_sub hu hs) hd2.1.2)
theorem low_name {w : ByteArray} (h : w.data.toList.all lowB = true) : nameL w = w.data.toList := by
  have hl : ∀ (l : List UInt8) (i : Nat), (∀ c ∈ l, lowB c = true) → outL (plainN w) i l = l := by
    intro l
    induction l with
    | nil => intro i _; rfl
    | cons c r ih =>
      intro i hc
      have h1 := hc c (by simp)
      unfold lowB at h1
      simp at h1
      have hp : plainN w i c = true := by
        unfold plainN
        rw [if_neg (by unfold plainD; simp; omega), if_neg (by intro e; rw [e] at h1; revert h1; decide)]
        unfold plainL
        simp
        omega
      unfold outL
      rw [if_pos hp, ih (i + 1) fun x hx => hc x (by simp [hx])]
      rfl
  exact hl _ _ (List.all_eq_true.1 h)
def aheadP (p : Policy) : List Pc := if p.root = nob then [] else [.sign 46, .ident p.root, .blank]
theorem ahead_pc {p : Policy} (h : p.root.data.toList.all lowB = true) : (aheadO p).data.toList = flat (aheadP p) := by
  unfold aheadO aheadP
  split
  · rfl
  · rw [bapp, bapp]
    simp [flat, Pc.bytes, low_name h, b1]
theorem pos_of_ne {w : ByteArray} (h : w ≠ nob) : 0 < w.size := by
  rcases Nat.eq_zero_or_pos w.size with e | e
  · exact absurd (by apply ByteArray.ext; apply Array.toList_inj.1; exact List.eq_nil_of_length_eq_zero e) h
  · exact e
theorem ahead_good (p : Policy) (X : List UInt8) (hX : blankI (hdI X) = false) : Good (aheadP p) X := by
  unfold aheadP
  split
  · trivial
  · rename_i h
    have h0 := pos_of_ne h
    refine ⟨show (46 : UInt8) ∈ signsL by decide, ⟨fun e => absurd e (by decide), fun _ => ?_, fun e => absurd e (by decide), fun e => absurd e (by decide)⟩, h0, stop_sel (show selI 32 by unfold selI; decide), trivial, hX, trivial⟩
    rw [flat_cons]
    exact (name_hd h0 _).2.2
theorem neat_sel [DecI] {p : Policy} (hr : p.root.data.toList.all lowB = true) {ss : Sels} (h : sfL ss) : Neat p (fun X => selI (hdI X)) (listO (aheadO p) ss) := by
  have hn : Neutral p (aheadP p) := by
    unfold aheadP
    split
    · exact Neutral.nil p
    · exact neutral_one (neutral_sign (by decide)) (neutral_one (neutral_kind rfl (by simp [Tok.w])) (neutral_kind rfl (.inl rfl)))
  have hs : SaneP (aheadP p) := by
    unfold aheadP
    split
    · exact SaneP.nil
    · rename_i h
      exact sane_sign (by decide) (SaneP.cons (pos_of_ne h) (by simp) (SaneP.cons trivial (by simp) SaneP.nil))
  refine ⟨pcL (aheadP p) ss, listO_pc _ _ (ahead_pc hr) ss h, fun X hX => goodL (aheadP p) (ahead_good p) ?_ ss X h hX, calmL p _ hn ss h, saneL _ hs ss h⟩
  unfold aheadP
  split
  · exact .inl rfl
  · exact .inr fun _ => rfl
theorem neat_braced {p : Policy} {h b : ByteArray} {C : List UInt8 → Prop} (hh : Neat p C h) (hC : ∀ X, C (123 :: X)) (hb : Neat p fol b) : Neat p anyC (h ++ (b1 123 ++ (b ++ b1 125))) := by
  refine hh.append ((neat_sign p anyC (by decide) (by decide)).append (hb.append (neat_sign p anyC (by decide) (by decide)) fun X _ => ⟨rfl, show (125 : Int) ≠ 32 by decide⟩) fun _ _ => trivial) fun X _ => ?_
  rw [bapp]
  exact hC _
theorem neat_style [DecI] {p : Policy} (hf : p.funs.all polName = true) (hr : p.root.data.toList.all lowB = true) {r : Rule} {b : List Nd} (hh : gL r.head) (hg : gL b) (hu : uL b) : Neat p anyC (styleO p r b) := by
  unfold styleO
  split
  · exact Neat.nil p _
  · rename_i s hs
    split
    · exact Neat.nil p _
    · exact neat_braced (neat_sel hr (selF_sf _ _ _ (gL_ok _ hh) hs)) (fun X => show selI 123 by unfold selI; decide) (neat_body hf hg hu)
theorem drop_hd : ∀ (l : List Nd) (n : Nd) (r : List Nd), dropB l = n :: r → blankN n = false
  | m :: l, n, r, h => by
    unfold dropB at h
    split at h
    · exact drop_hd l n r h
    · rename_i hb
      cases h; simpa using hb
theorem drop_suffix : ∀ (l : List Nd), ∃ a, l = a ++ dropB l
  | [] => ⟨[], rfl⟩
  | m :: l => by
    unfold dropB
    split
    · obtain ⟨a, ha⟩ := drop_suffix l
      exact ⟨m :: a, by rw [List.cons_append, ← ha]⟩
    · exact ⟨[], rfl⟩
theorem bare_hd {l r : List Nd} {n : Nd} (h : bare l = n :: r) : n.t.kind ≠ 1 := by
  unfold bare trimE at h
  obtain ⟨a, ha⟩ := drop_suffix (dropB l).reverse
  have h1 : dropB l = (dropB (dropB l).reverse).reverse ++ a.reverse := by
    have := congrArg List.reverse ha
    rwa [List.reverse_reverse, List.reverse_append] at this
  rw [h] at h1
  have := drop_hd l n _ h1
  unfold blankN at this
  simpa using this
theorem neat_head {p : Policy} (hf : p.funs.all polName = true) {l : List Nd} (h : vL p (bare l)) : Neat p fol (headO (bare l)) := by
  unfold headO
  split
  · exact Neat.nil p _
  · rename_i hne
    have hb : Neat p (fun X => blankI (hdI X) = false) (b1 32) := ⟨[.blank], rfl, fun X hX => ⟨trivial, hX, trivial⟩, neutral_kind rfl (.inl rfl), SaneP.cons trivial (by simp) SaneP.nil⟩
    refine hb.append (neat_vals hf h) fun X _ => ?_
    unfold written
    rw [writF_pc p none _ h]
    match hl : bare l, hne, h with
    | n :: r, _, h =>
      simp only [vL] at h
      rw [pcF_cons, if_neg (by simp [twoB])]
      show blankI (hdI (flat (([] ++ pcN n) ++ pcF (some n.t) r) ++ X)) = false
      rw [List.nil_append, flat_append, List.append_assoc]
      exact (firstN h.1 (bare_hd hl) _).1
theorem neat_rule [DecI] {p : Policy} (hf : p.funs.all polName = true) (ha : p.ats.all polName = true) (hr : p.root.data.toList.all lowB = true) {rec : List Nd → ByteArray} {r : Rule} (hh : gL r.head) (hu : uL r.head) (h0 : ∀ w, r.at_ = some w → 0 < w.size) (hb : ∀ b, r.body = some b → gL b ∧ uL b ∧ Neat p anyC (rec b)) : Neat p anyC (ruleO p rec r) := by
  unfold ruleO
  split
  · rename_i w b hw hbo
    obtain ⟨_, _, b3⟩ := hb b hbo
    split
    · rename_i hc
      split
      · exact Neat.nil p _
      · have hs := small_small ha hc.1
        have h1 : 0 < (small w).size := by rw [small_sz]; exact h0 w hw
        have hv : vL p (bare r.head) := vL_of (gL_sub hh (bare_sub _)) (uL_sub hu (bare_sub _)) hc.2
        have hA : Neat p (fun X => stopN X) (b1 64 ++ nameO (small w)) := ⟨[.at_ (small w)], by rw [bapp, nameO_L]; simp [flat, Pc.bytes, b1], fun X hX => ⟨h1, hX, trivial⟩, neutral_at (by rw [hs]; exact hc.1), SaneP.cons h1 (by simp) SaneP.nil⟩
        have hB := neat_braced (neat_head hf hv) (fun X => ⟨rfl, show (123 : Int) ≠ 32 by decide⟩) (b3.wide fun _ _ => trivial)
        have := hA.append hB fun X _ => by
          rw [bapp]
          unfold headO
          split
          · exact ⟨show nameI 123 = false by decide, show (123 : Int) ≠ 92 by decide⟩
          · rw [bapp]
            exact ⟨show nameI 32 = false by decide, show (32 : Int) ≠ 92 by decide⟩
        rw [ByteArray.append_assoc] at this
        exact this
    · exact Neat.nil p _
  · rename_i b hat hbo
    obtain ⟨b1, b2, _⟩ := hb b hbo
    exact neat_style hf hr hh b1 b2
  · exact Neat.nil p _
theorem neat_cat {p : Policy} : ∀ (l : List ByteArray), (∀ o ∈ l, Neat p anyC o) → Neat p anyC (cat l)
  | [], _ => Neat.nil p _
  | a :: r, h => (h a (by simp)).append (neat_cat r fun o ho => h o (by simp [ho])) fun _ _ => trivial
theorem body_u {sh : Bool} {l b : List Nd} {r : Rule} (hr : r ∈ rules sh l) (hu : uL l) (hb : r.body = some b) : uL b := by
  obtain ⟨n, h1, _, rfl⟩ := ((rules_s sh l).2 r hr).body b hb
  exact ((uN_iff n).1 ((uL_mem l).1 hu n h1)).2
theorem neat_rin [DecI] {p : Policy} (hf : p.funs.all polName = true) (ha : p.ats.all polName = true) (hr : p.root.data.toList.all lowB = true) : ∀ (f : Nat) (sh : Bool) (l : List Nd), gL l → uL l → Neat p anyC (rinF p f sh l)
  | 0, sh, l, hg, hu => by
    unfold rinF
    refine neat_cat _ fun o ho => ?_
    obtain ⟨r, hm, rfl⟩ := List.mem_map.1 ho
    have h := rules_g hg r hm
    exact neat_rule hf ha hr h.1 (uL_sub hu ((rules_s sh l).2 r hm).head) (rulesF_at sh _ l hg r hm) fun b hb => ⟨(h.2.2.1 b hb).1, body_u hm hu hb, Neat.nil p _⟩
  | f + 1, sh, l, hg, hu => by
    unfold rinF
    refine neat_cat _ fun o ho => ?_
    obtain ⟨r, hm, rfl⟩ := List.mem_map.1 ho
    have h := rules_g hg r hm
    exact neat_rule hf ha hr h.1 (uL_sub hu ((rules_s sh l).2 r hm).head) (rulesF_at sh _ l hg r hm) fun b hb => ⟨(h.2.2.1 b hb).1, body_u hm hu hb, neat_rin hf ha hr f false b (h.2.2.1 b hb).1 (body_u hm hu hb)⟩
theorem pol_parts {p : Policy} (h : polP p = true) : p.funs.all polName = true ∧ p.ats.all polName = true ∧ p.root.data.toList.all lowB = true := by
  unfold polP at h
  simp only [Bool.and_eq_true] at h
  exact ⟨h.1.2.2, h.2.2, h.1.1.1.1⟩
theorem neat_out [DecI] (s : ByteArray) (p : Policy) : Neat p anyC (rinseA s p).1 := by
  unfold rinseA
  split
  · exact Neat.nil p _
  · rename_i hp
    split
    · exact Neat.nil p _
    · rename_i hs
      split
      · exact Neat.nil p _
      · have h := pol_parts (p := p) (by simpa using hp)
        exact neat_rin h.1 h.2.1 h.2.2 _ _ _ (sheet_g (by omega)).1 (sheet_u s)
theorem clean_id {s : ByteArray} (h : ∀ c ∈ s.data.toList, 32 ≤ c.toNat) : clean s = s := by
  have hc : ∀ k, k ≤ s.size → cleanTo s k = s.data.toList.take k := by
    intro k
    induction k with
    | zero => intro _; rfl
    | succ k ih =>
      intro hk
      have hlt : k < s.data.toList.length := by show k < s.size; omega
      have h32 : 32 ≤ (s.data.toList[k]).toNat := h _ (List.getElem_mem hlt)
      have hb : clB s k = [s.data.toList[k]] := by
        have e : s[k]'(by omega) = s.data.toList[k] := by rw [Array.getElem_toList]; rfl
        unfold clB
        rw [dif_pos (by omega), e]
        have n13 : s.data.toList[k] ≠ 13 := fun q => by rw [q] at h32; exact absurd h32 (by decide)
        have n12 : s.data.toList[k] ≠ 12 := fun q => by rw [q] at h32; exact absurd h32 (by decide)
        have n0 : s.data.toList[k] ≠ 0 := fun q => by rw [q] at h32; exact absurd h32 (by decide)
        rw [if_neg (fun q => n13 q.1), if_neg (fun q => q.elim n13 n12), if_neg n0]
      show cleanTo s k ++ clB s k = _
      rw [ih (by omega), hb, List.take_succ_eq_append_getElem hlt]
  apply ByteArray.ext
  apply Array.toList_inj.1
  unfold clean
  rw [hc _ (Nat.le_refl _), List.toList_toArray]
  exact List.take_of_length_le (Nat.le_refl _)
theorem Neat.quiet {p : Policy} {o : ByteArray} (h : Neat p anyC o) : Sane o.data.toList ∧ clean o = o ∧ quietF p 0 (toks (clean o)) = true := by
  obtain ⟨ps, h1, h2, h3, h4⟩ := h
  have hs : Sane o.data.toList := by rw [h1]; exact h4
  have hc := clean_id (s := o) fun c hc => (hs.1 c hc).1
  refine ⟨hs, hc, ?_⟩
  rw [hc]
  have ht : toks o = ptoks ps := scan_list ps 0 o.size (by rw [← h1]; exact At.zero o) (h2 [] trivial) (by rw [← h1]; exact Nat.le_refl _)
  rw [ht]
  have := h3 0 (by omega) []
  rw [List.append_nil] at this
  rw [this]; rfl
theorem rinse_quiet [DecI] (s : ByteArray) (p : Policy) : Sane (rinseA s p).1.data.toList ∧ clean (rinseA s p).1 = (rinseA s p).1 ∧ quietF p 0 (toks (clean (rinseA s p).1)) = true := (neat_out s p).quiet
end Go.Proofs.YtlliliddljkbfaaGreat.Sp
namespace Go.Proofs.YtlliliddljkbfaaGreat
set_option maxHeartbeats 64000000
set_option maxRecDepth 100000
open Go.RowKit Sp
def TabU (t : Nat → Int) (w : World) : Prop := ∀ k, k < 20 → w.cell? ⟨3, k, none⟩ = some (.int .u64 (t k))
theorem TabU.lt {t : Nat → Int} {w : World} (h : TabU t w) : 3 < w.heap.size := World.block_lt_of_cell? w _ (h 0 (by omega))
theorem TabU.below {t : Nat → Int} {w w' : World} (h : TabU t w) (hb : Below w.heap.size w w') : TabU t w' := fun k hk => (World.cell?_of_block (w := w) (hb.block 3 h.lt)).trans (h k hk)
def lenT (u : Nat) : Nat := Lib.l10 (Lib.bitLen u)
theorem lenT_all : ∀ u : Fin 1000, 100 ≤ u.val → (lenT u.val = 2 ∨ lenT u.val = 3) ∧ Lib.bitLen u.val ≤ 64 := by decide +kernel
def ndT (t : Nat → Int) (u : Nat) : Nat := lenT u + if t (lenT u) ≤ (u : Int) then 1 else 0
theorem ndT_le {t : Nat → Int} {u : Nat} (h1 : 100 ≤ u) (h2 : u ≤ 999) : 2 ≤ ndT t u ∧ ndT t u ≤ 4 := by
  have := (lenT_all ⟨u, by omega⟩ h1).1
  unfold ndT
  simp only at this
  split <;> omega
theorem numDigits_u (t : Nat → Int) (u : Nat) (h1 : 100 ≤ u) (h2 : u ≤ 999) (w : World) (ht : TabU t w) :
    Calls Tryz.prog 380 #[.int .u64 (u : Int)] w fun e w' => e = .returned (.int .i64 (ndT t u : Nat)) ∧ w' = w := by
  have hl := lenT_all ⟨u, by omega⟩ h1
  simp only at hl
  obtain ⟨m, Hm⟩ : ∃ m, Hid (lenT u = m) := ⟨_, hid rfl⟩
  have hm : m = 2 ∨ m = 3 := by rw [← Hm.out]; exact hl.1
  have hb := hl.2
  clear hl
  have hc := ht m (by omega)
  have HT := hid ht
  clear ht
  go_enter Tryz.func380, Tryz.ntmps380
  go_wp2_with fail
  refine (Tryz.bits_Len64 (u : Int) w (by omega) (by omega)).mono ?_
  rintro e wq ⟨rfl, hw⟩
  rw [hw, Int.toNat_natCast]
  clear hw
  go_wp2_with fail
  refine (Tryz.internal_strconv_log10Pow2 (Lib.bitLen u) hb w).mono ?_
  rintro e wq ⟨rfl, hw⟩
  rw [hw, show Lib.l10 (Lib.bitLen u) = m from Hm.out]
  clear hw
  have hm20 : (m : Int) < 20 := by omega
  obtain ⟨x, Hx⟩ : ∃ x, Hid (t m = x) := ⟨_, hid rfl⟩
  rw [Hx.out] at hc
  by_cases hx : x ≤ (u : Int)
  all_goals
    have HN : Hid (ndT t u = m + (if x ≤ (u : Int) then 1 else 0)) := by show _ = _; unfold ndT; rw [Hm.out, Hx.out]
    go_wp2_with fail
    refine (Tryz.internal_strconv_bool2_int _ w).mono ?_
    rintro e wq ⟨rfl, hw⟩
    rw [hw]
    clear hw
    go_wp2_with fail
    go_ret
    rw [HN.out]
    first
      | (rw [if_pos hx]; simp)
      | (rw [if_neg (by omega)]; simp)
theorem dg_all (u j : Nat) : 48 ≤ (Lib.dg u j).toNat ∧ (Lib.dg u j).toNat ≤ 57 := by
  unfold Lib.dg
  have : u / 10 ^ j % 10 < 10 := Nat.mod_lt _ (by omega)
  rw [UInt8.toNat_ofNat']
  omega
theorem fmt2 (b cap u : Nat) (hu : u ≤ 999) (w : World) (c1 : w.cell? ⟨b, 1, none⟩ = some (.int .u8 0)) (c2 : w.cell? ⟨b, 1 + 1, none⟩ = some (.int .u8 0)) (f1 : w.frozen? ⟨b, 1, none⟩ = false) (f2 : w.frozen? ⟨b, 1 + 1, none⟩ = false) :
    Calls Tryz.prog 381 #[.slice (some ⟨b, 1, none⟩) 2 cap, .int .u64 (u : Int)] w fun e w' => e = .returned (.tuple #[]) ∧ w'.cell? ⟨b, 1, none⟩ = some (.int .u8 ((Lib.dg u 1).toNat : Int)) ∧ w'.cell? ⟨b, 1 + 1, none⟩ = some (.int .u8 ((Lib.dg u 0).toNat : Int)) ∧ Below b w w' := by
  have hr : Hid (Lib.sm (u % 100 * 2) = Lib.dg u 1 ∧ Lib.sm (u % 100 * 2 + 1) = Lib.dg u 0) := by
    refine ⟨?_, ?_⟩
    · rw [Lib.sm_hi _ (Nat.mod_lt _ (by omega))]; unfold Lib.dg; congr 2; omega
    · rw [Lib.sm_lo _ (Nat.mod_lt _ (by omega))]; unfold Lib.dg; congr 2; omega
  go_enter Tryz.func381, Tryz.ntmps381
  go_name_bytes SM hSM
  have eSM : SM = Lib.smalls := by rw [← hSM]; decide +kernel
  subst eSM
  clear hSM
  go_wp2_with fail
  refine wp_loop_rounds 1 ?_
  rw [rounds_succ]
  go_wp2_with fail
  go_name_slot 16 x hx
  have hxe : x = ((u % 100 * 2 : Nat) : Int) := by omega
  have hXa : ∀ w, (Instr.index 9 (.string Lib.smalls) (.int .u32 (x + 1))).run Tryz.prog w = .ok (.int .u8 ((Lib.sm (u % 100 * 2 + 1)).toNat : Int)) w := Lib.idx_smalls 9 Tryz.underlying9 .u32 _ _ (by omega) (by omega)
  have hXb : ∀ w, (Instr.index 9 (.string Lib.smalls) (.int .u32 x)).run Tryz.prog w = .ok (.int .u8 ((Lib.sm (u % 100 * 2)).toNat : Int)) w := Lib.idx_smalls 9 Tryz.underlying9 .u32 _ _ (by omega) (by omega)
  have hlo : 0 ≤ x := by omega
  have hhi : x ≤ 198 := by omega
  clear hx hxe
  rw [hr.out.1] at hXb
  rw [hr.out.2] at hXa
  go_region
  go_wp2_with fail
  go_end0
  refine ⟨rfl, ?_, ?_, ?_⟩
  · show World.cell? (World.setCell _ _ _) _ = _
    refine World.cell?_setCell_same _ _ _ (u := .int .u8 0) ?_
    exact (World.cell?_setCell_other _ _ _ (b := ⟨b, 1, none⟩) (by simp)).trans c1
  · show World.cell? (World.setCell _ _ _) _ = _
    refine (World.cell?_setCell_other _ _ _ (b := ⟨b, 2, none⟩) (by simp)).trans ?_
    exact World.cell?_setCell_same _ _ _ c2
  · exact ((((Below.refl b w).setCell (p := ⟨b, 2, none⟩) (Nat.le_refl _) _).setCell (p := ⟨b, 1, none⟩) (Nat.le_refl _) _)).drew
def digT (nd u : Nat) : List UInt8 := (List.range nd).map fun j => Lib.dg u (nd - 1 - j)
theorem digT_len (nd u : Nat) : (digT nd u).length = nd := by simp [digT]
theorem digT_at {nd u j : Nat} (h : j < (digT nd u).length) : (digT nd u)[j] = Lib.dg u (nd - 1 - j) := by simp [digT]
theorem fmt_any (u nd : Nat) (T : TypeId) (hu : u ≤ 999) (h2 : 2 ≤ nd) (h4 : nd ≤ 4) (w : World) :
    Calls Tryz.prog 381 #[.slice (some ⟨w.heap.size, 1, none⟩) nd 23, .int .u64 (u : Int)] (w.alloc (.cells Lib.zeros24 T)) fun e w' => e = .returned (.tuple #[]) ∧ (∀ j, j < nd → w'.cell? ⟨w.heap.size, 1 + j, none⟩ = some (.int .u8 ((Lib.dg u (nd - 1 - j)).toNat : Int))) ∧ Below w.heap.size w w' := by
  have hH0 := Lib.holds_zero w T nd (by omega)
  have hb0 : Below w.heap.size w (w.alloc (.cells Lib.zeros24 T)) := (Below.refl _ _).alloc (Nat.le_refl _) _
  rcases Nat.lt_or_ge nd 3 with h3 | h3
  · obtain rfl : nd = 2 := by omega
    have c1 := hH0 0 (by simp)
    have c2 := hH0 1 (by simp)
    refine (fmt2 w.heap.size 23 u hu _ (by simpa using c1.1) (by simpa using c2.1) c1.2 c2.2).mono ?_
    rintro e w' ⟨rfl, k1, k2, hb⟩
    refine ⟨rfl, fun j hj => ?_, hb0.trans hb⟩
    rcases (show j = 0 ∨ j = 1 by omega) with rfl | rfl
    · exact k1
    · exact k2
  · have hp : u < 10 ^ nd := by
      rcases (show nd = 3 ∨ nd = 4 by omega) with rfl | rfl <;> omega
    have hfmt := Tryz.internal_strconv_formatBase10 w.heap.size 1 23 u (Array.replicate nd 0) (w.alloc (.cells Lib.zeros24 T)) hH0 (by rw [Array.size_replicate]; exact hp) (by omega) (by rw [Array.size_replicate]; omega)
    rw [Array.size_replicate] at hfmt
    refine hfmt.mono ?_
    rintro e w' ⟨rfl, k, v', dk, rfl, hF⟩
    refine ⟨rfl, fun j hj => ?_, ?_⟩
    · rw [World.cell?_drewN, ← hF.done j (by omega) hj]
      exact Go.Sort.cell?_putRow (fun (b : UInt8) => Value.int .u8 (b.toNat : Int)) _ w.heap.size 1 _ dk hH0 (by rw [hF.size, Array.size_replicate]) j (by rw [hF.size]; exact hj)
    · obtain ⟨os, eo⟩ := Lib.fin_pos w (.cells Lib.zeros24 T) dk k
      rw [eo]
      exact ⟨rfl, rfl, rfl, by show w.heap.size ≤ (w.heap ++ os).size; simp, fun i hi => by show (w.heap ++ os)[i]? = w.heap[i]?; rw [Array.getElem?_append_left hi]⟩
theorem FormatInt_u (t : Nat → Int) (u : Nat) (h1 : 100 ≤ u) (h2 : u ≤ 999) (w : World) (ht : TabU t w) :
    Calls Tryz.prog 378 #[.int .i64 (u : Int), .int .i64 10] w fun e w' => e = .returned (.string ⟨(digT (ndT t u) u).toArray⟩) ∧ Below w.heap.size w w' := by
  obtain ⟨nd, Hnd⟩ : ∃ n, Hid (ndT t u = n) := ⟨_, hid rfl⟩
  have hnd := ndT_le (t := t) h1 h2
  rw [Hnd.out] at hnd ⊢
  have HT := hid ht
  clear ht
  have hal : Tryz.prog.arrayLen 390 = 24 := by simp [Program.arrayLen, Tryz.underlying390]
  have hsl1 : ∀ W, (Instr.sliceAt 390 (.pointer (some ⟨w.heap.size, 0, none⟩)) (some (.int .i64 1)) (some (.int .i64 (1 + (nd : Int)))) none).run Tryz.prog W = .ok (.slice (some ⟨w.heap.size, 1, none⟩) nd 23) W := fun W => by
    rw [run_sliceAt_array_lh W 390 ⟨w.heap.size, 0, none⟩ (by simp [Program.arrayLen, Program.elem, Tryz.underlying390]) .i64 .i64 1 (1 + (nd : Int)) (by omega) (by omega) (by rw [hal]; omega)]
    go_simp
    omega
  clear hal
  go_enter Tryz.func378, Tryz.ntmps378
  go_wp2_with fail
  refine (numDigits_u t u h1 h2 _ (HT.out.below ((Below.refl _ _).alloc (Nat.le_refl _) _))).mono ?_
  rintro e wq ⟨rfl, hw⟩
  rw [hw, Hnd.out]
  clear hw
  go_wp2_with fail
  refine (fmt_any u nd 390 h2 hnd.1 hnd.2 w).mono ?_
  rintro e w2 ⟨rfl, hc, hb⟩
  have hcv : (convert 145 9 (.slice (some ⟨w.heap.size, 1, none⟩) nd 23)).run Tryz.prog w2 = .ok (.string ⟨(digT nd u).toArray⟩) w2 := by
    have h := run_convert_bytes_back (P := Tryz.prog) w2 145 9 5 ⟨w.heap.size, 1, none⟩ 23 (digT nd u) Tryz.underlying145 Tryz.underlying5 Tryz.underlying9 (fun j hj => by
      rw [digT_at, Lib.add_plain]
      exact hc j (by rw [digT_len] at hj; exact hj))
    rw [digT_len] at h
    exact h
  have HB := hid hb
  clear hc hb
  go_wp2_with fail
  go_ret
  exact ⟨rfl, HB.out⟩
theorem Itoa_i (t : Nat → Int) (u : Nat) (h1 : 100 ≤ u) (h2 : u ≤ 999) (w : World) (ht : TabU t w) :
    Calls Tryz.prog 377 #[.int .i64 (u : Int)] w fun e w' => e = .returned (.string ⟨(digT (ndT t u) u).toArray⟩) ∧ Below w.heap.size w w' := by
  have HT := hid ht
  clear ht
  go_enter Tryz.func377, Tryz.ntmps377
  go_wp2_with fail
  refine (FormatInt_u t u h1 h2 w HT.out).mono ?_
  rintro e w1 ⟨rfl, hb⟩
  have HB := hid hb
  clear hb
  go_wp2_with fail
  go_ret
  exact ⟨rfl, HB.out⟩
theorem Itoa_u (t : Nat → Int) (u : Nat) (h1 : 100 ≤ u) (h2 : u ≤ 999) (w : World) (ht : TabU t w) :
    Calls Tryz.prog 376 #[.int .i64 (u : Int)] w fun e w' => e = .returned (.string ⟨(digT (ndT t u) u).toArray⟩) ∧ Below w.heap.size w w' := by
  have HT := hid ht
  clear ht
  go_enter Tryz.func376, Tryz.ntmps376
  go_wp2_with fail
  refine (Itoa_i t u h1 h2 w HT.out).mono ?_
  rintro e w1 ⟨rfl, hb⟩
  have HB := hid hb
  clear hb
  go_wp2_with fail
  go_ret
  exact ⟨rfl, HB.out⟩
def decB (t : Nat → Int) (n : Nat) : List UInt8 := if n < 100 then Lib.decDigits n else digT (ndT t n) n
theorem dec_lo : ∀ n : Fin 100, 0 < (Lib.decDigits n.val).length ∧ (Lib.decDigits n.val).length ≤ 100 ∧ ∀ c ∈ Lib.decDigits n.val, 48 ≤ c.toNat ∧ c.toNat ≤ 57 := by
  intro n
  have e : Lib.decDigits n.val = if n.val < 10 then [UInt8.ofNat (48 + n.val)] else [UInt8.ofNat (48 + n.val / 10), UInt8.ofNat (48 + n.val % 10)] := by
    rw [Lib.decDigits]
    split
    · rfl
    · rw [Lib.decDigits, dif_pos (by omega)]; rfl
  rw [e]
  revert n
  decide +kernel
theorem decB_ok (t : Nat → Int) {n : Nat} (hn : n ≤ 999) : 0 < (decB t n).length ∧ (decB t n).length ≤ 100 ∧ ∀ c ∈ decB t n, 48 ≤ c.toNat ∧ c.toNat ≤ 57 := by
  unfold decB
  split
  · rename_i h
    exact dec_lo ⟨n, h⟩
  · rename_i h
    have := ndT_le (t := t) (u := n) (by omega) hn
    rw [digT_len]
    refine ⟨by omega, by omega, fun c hc => ?_⟩
    obtain ⟨j, _, rfl⟩ := List.mem_map.1 hc
    exact dg_all _ _
def decT (t : Nat → Int) : DecT where
  dO n := if n ≤ 999 then ⟨(decB t n).toArray⟩ else b1 48
  pos n _ := by
    split
    · rename_i h; exact (by rw [show (⟨(decB t n).toArray⟩ : ByteArray).size = (decB t n).length from rfl]; exact (decB_ok t h).1)
    · decide
  sz n _ := by
    split
    · rename_i h; exact (by rw [show (⟨(decB t n).toArray⟩ : ByteArray).size = (decB t n).length from rfl]; exact (decB_ok t h).2.1)
    · decide
  dig n h c hc := by
    rw [if_pos h] at hc
    have := (decB_ok t h).2.2 c (by simpa using hc)
    unfold digI
    simp
    omega
theorem decSzI [DecI] : DecSz := fun n hn => (default : DecT).sz n hn
theorem itoa_any (t : Nat → Int) (w : World) (h : TabU t w) : @ItoaOK ⟨decT t⟩ w := by
  intro n w' hn hb
  have e : @decO ⟨decT t⟩ n = ⟨(decB t n).toArray⟩ := if_pos hn
  rw [e]
  unfold decB
  by_cases h1 : n < 100
  · rw [if_pos h1]
    refine (Tryz.strconv_Itoa_small n h1 w').mono ?_
    rintro e w2 ⟨rfl, rfl⟩
    exact ⟨rfl, Below.refl _ _⟩
  · rw [if_neg h1]
    exact Itoa_u t n (by omega) hn w' (h.below hb)
theorem cellsTab : Tryz.prog.cellTypes Tryz.prog.depth 396 = some (List.replicate 20 101) := by kernel_rfl
theorem tab_of (W : World) (hsh : W.ShapedOpen Tryz.prog) : ∃ t, TabU t W := by
  have h0 : ((begin Tryz.prog (fun _ _ => 0) default).world.heap[3]?).bind Obj.row? = some (Array.replicate 20 (.int .u64 0), 396) := by kernel_rfl
  obtain ⟨cs, hh, hs, hr⟩ := hsh.1 3 _ 396 (of_decide_eq_true (by kernel_rfl)) h0
  obtain ⟨ts, hts, _, hall⟩ := hr (by kernel_rfl)
  rw [cellsTab] at hts
  cases hts
  have hs20 : cs.size = 20 := by rw [hs]; simp
  have key : ∀ k, k < 20 → ∃ m, W.cell? ⟨3, k, none⟩ = some (.int .u64 m) := fun k hk => by
    have h1 : k < cs.size := by omega
    obtain ⟨u, hu', hok⟩ := hall k cs[k] (by simp [h1])
    have : u = 101 := by
      rw [List.getElem?_replicate, if_pos (by simp; omega)] at hu'
      exact (Option.some.inj hu').symm
    subst this
    have hcell : W.cell? ⟨3, k, none⟩ = some cs[k] := by simp [World.cell?, hh, h1]
    rw [hcell]
    unfold Cell.ok at hok
    rw [Tryz.underlying101] at hok
    cases hv : cs[k] <;> rw [hv] at hok <;> simp at hok
    case int k' n => exact ⟨n, by rw [hok.1]⟩
  refine ⟨fun k => if h : k < 20 then (key k h).choose else 0, fun k hk => ?_⟩
  show _ = some (Value.int .u64 (if h : k < 20 then (key k h).choose else 0))
  rw [dif_pos hk]
  exact (key k hk).choose_spec
end Go.Proofs.YtlliliddljkbfaaGreat
