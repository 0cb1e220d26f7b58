import Derived.Test.YtlliliddljkbfaaGreatC46
namespace Go.Proofs.YtlliliddljkbfaaGreat.Sp
set_option maxHeartbeats 64000000
set_option maxRecDepth 100000
def combP (b : Nat) : List Pc := if b = 32 then [.blank] else if b = 62 ∨ b = 43 ∨ b = 126 then [.blank, .sign (UInt8.ofNat b), .blank] else []
def attrP (name how value : ByteArray) : List Pc := if how = nob then [.sign 91, .ident name, .sign 93] else .sign 91 :: .ident name :: (how.data.toList.map Pc.sign ++ [.text value, .sign 93])
def placeP [DecI] (place : Nat) : Pc := if place = 0 then .ident nOdd else if place = 1 then .ident nEven else .num (decO (place - 2))
mutual
def pcS [DecI] : Simple → List Pc
  | .mk kind name how value list place =>
    if kind = 116 then (if name = nob then [.sign 42] else [.ident name])
    else if kind = 35 then [.hash name]
    else if kind = 46 then [.sign 46, .ident name]
    else if kind = 91 then attrP name how value
    else if name = nNot ∨ name = nIs then .sign 58 :: .func name :: (pcL [] list ++ [.sign 41])
    else if name = nNth then [.sign 58, .func name, placeP place, .sign 41]
    else [.sign 58, .ident name]
def pcA [DecI] : List Simple → List Pc
  | [] => []
  | s :: r => pcS s ++ pcA r
def pcSt [DecI] : Nat × List Simple → List Pc
  | (b, all) => combP b ++ pcA all
def pcC [DecI] : List (Nat × List Simple) → List Pc
  | [] => []
  | t :: r => pcSt t ++ pcC r
def pcL [DecI] (ahead : List Pc) : List (List (Nat × List Simple)) → List Pc
  | [] => []
  | c :: r => ahead ++ (pcC c ++ pcTl ahead r)
def pcTl [DecI] (ahead : List Pc) : List (List (Nat × List Simple)) → List Pc
  | [] => []
  | c :: r => .sign 44 :: (ahead ++ (pcC c ++ pcTl ahead r))
end
theorem b1_L (c : UInt8) : (b1 c).data.toList = [c] := rfl
theorem combO_pc {b : Nat} (h : b = 0 ∨ CbOK b) : (combO b).data.toList = flat (combP b) := by
  rcases h with rfl | rfl | rfl | rfl | rfl <;> rfl
theorem attrO_pc {name how value : ByteArray} : (attrO name how value).data.toList = flat (attrP name how value) := by
  unfold attrO attrP
  split
  · simp [flat, Pc.bytes, nameO_L, b1]
  · have hm : ∀ l : List UInt8, flat (l.map Pc.sign ++ [.text value, .sign 93]) = l ++ (textL value ++ [93]) := by
      intro l
      induction l with
      | nil => simp [flat, Pc.bytes]
      | cons c r ih => simp only [List.map_cons, List.cons_append, flat, Pc.bytes, ih]; rfl
    simp only [bapp, nameO_L, textO_L, b1_L, flat, hm, Pc.bytes]
theorem st_names {nm : ByteArray} (h : StOK nm) : nm.data.toList = nameL nm ∧ 0 < nm.size ∧ small (zqB nm) ≠ url ∧ zqB nm = nm ∧ small nm = nm := by
  rcases h with rfl | rfl | rfl | rfl | rfl | rfl | rfl <;> decide
theorem place_pc [DecI] (n : Nat) : ((if n = 0 then nOdd else if n = 1 then nEven else decO (n - 2)) : ByteArray).data.toList = (placeP n).bytes := by
  unfold placeP
  split
  · decide
  · split
    · decide
    · rfl
mutual
theorem simO_pc [DecI] : ∀ (s : Simple), sfS s → (simO s).data.toList = flat (pcS s)
  | .mk kind name how value list place, h => by
    simp only [sfS] at h
    unfold simO pcS
    split
    · split
      · rfl
      · simp [flat, Pc.bytes, nameO_L]
    · rename_i k1
      split
      · simp [flat, Pc.bytes, nameO_L, b1]
      · rename_i k2
        split
        · simp [flat, Pc.bytes, nameO_L, b1]
        · rename_i k3
          split
          · exact attrO_pc
          · rename_i k4
            have hs : StOK name := by
              rcases h.1 with h | h | h | h
              · exact absurd h k1
              · rcases h.1 with h | h
                · exact absurd h k2
                · exact absurd h k3
              · exact absurd h.1 k4
              · exact h.2
            have hn := (st_names hs).1
            split
            · have ih := listO_pc nob [] rfl list h.2.2
              simp only [bapp, b1_L, ih, flat, flat_append, Pc.bytes, hn]
              simp
            · split
              · simp only [bapp, b1_L, place_pc, flat, Pc.bytes, hn]
                simp
              · simp only [bapp, b1_L, flat, Pc.bytes, hn]
                simp
theorem allO_pc [DecI] : ∀ (l : List Simple), sfA l → (allO l).data.toList = flat (pcA l)
  | [], _ => by unfold allO pcA; rfl
  | s :: r, h => by
    simp only [sfA] at h
    unfold allO pcA
    rw [bapp, flat_append, simO_pc s h.1, allO_pc r h.2]
theorem restO_pc [DecI] : ∀ (l : List (Nat × List Simple)), sfR l → (cpxO l).data.toList = flat (pcC l)
  | [], _ => by unfold cpxO pcC; rfl
  | (b, all) :: r, h => by
    simp only [sfR] at h
    unfold cpxO pcC stpO pcSt
    rw [bapp, flat_append, bapp, flat_append, combO_pc (.inr h.1), allO_pc all h.2.2.2.1, restO_pc r h.2.2.2.2]
theorem cpxO_pc [DecI] : ∀ (l : List (Nat × List Simple)), sfC l → (cpxO l).data.toList = flat (pcC l)
  | [], h => by simp only [sfC] at h
  | (b, all) :: r, h => by
    simp only [sfC] at h
    unfold cpxO pcC stpO pcSt
    rw [bapp, flat_append, bapp, flat_append, combO_pc (.inl h.1), allO_pc all h.2.2.2.1, restO_pc r h.2.2.2.2]
theorem listO_pc [DecI] (ahead : ByteArray) (pa : List Pc) (ha : ahead.data.toList = flat pa) : ∀ (l : List (List (Nat × List Simple))), sfL l → (listO ahead l).data.toList = flat (pcL pa l)
  | [], _ => by unfold listO pcL; rfl
  | c :: r, h => by
    simp only [sfL] at h
    unfold listO pcL
    rw [bapp, bapp, flat_append, flat_append, ha, cpxO_pc c h.1, tailO_pc ahead pa ha r h.2]
theorem tailO_pc [DecI] (ahead : ByteArray) (pa : List Pc) (ha : ahead.data.toList = flat pa) : ∀ (l : List (List (Nat × List Simple))), sfL l → (tailO ahead l).data.toList = flat (pcTl pa l)
  | [], _ => by unfold tailO pcTl; rfl
  | c :: r, h => by
    simp only [sfL] at h
    unfold tailO pcTl
    rw [bapp, bapp, bapp]
    show _ = [44] ++ flat (pa ++ (pcC c ++ pcTl pa r))
    rw [flat_append, flat_append, ha, cpxO_pc c h.1, tailO_pc ahead pa ha r h.2]
    rfl
end
def selI (c : Int) : Prop := nameI c = false ∧ c ≠ 92 ∧ c ≠ 40 ∧ c ≠ 62
theorem stop_sel {w : ByteArray} {r : List UInt8} (h : selI (hdI r)) : (Pc.ident w).stop r := ⟨⟨h.1, h.2.1⟩, h.2.2.1, h.2.2.2⟩
theorem good_sign {c : UInt8} {l : List Pc} {r : List UInt8} (h : c ∈ signsL ∧ c ≠ 43 ∧ c ≠ 45 ∧ c ≠ 46 ∧ c ≠ 47) (hl : Good l r) : Good (.sign c :: l) r := ⟨h.1, stop_sign _ h.2, hl⟩
theorem digits_num {x : ByteArray} (h0 : 0 < x.size) (h : ∀ c ∈ x.data.toList, digI (c.toNat : Int) = true) : NumW x := by
  intro t j r hat hst
  have hl : x.size = x.data.toList.length := rfl
  have hd : ∀ d, d < x.size → digI (pk t (j + d)) = true := fun d hd => by
    rw [hat.at (by omega)]; exact h _ (List.getElem_mem _)
  have he : pk t (j + x.size) = hdI r := hat.app.hd
  have hdig : dig t j = j + x.size := dig_uniq (by omega) (fun y h1 h2 => by rw [show y = j + (y - j) by omega]; exact hd _ (by omega)) (by rw [he]; exact hst.1)
  have h00 : digI (pk t j) = true := by have := hd 0 h0; simpa using this
  have hs : sgn t j = j := by unfold sgn; rw [if_neg (by rw [(dig_not h00).2.2.2.2]; simp)]
  refine ⟨?_, ?_⟩
  · unfold numB; rw [hs, h00]; rfl
  · unfold numE
    rw [hs, hdig]
    have hf : fracE t (j + x.size) = j + x.size := by
      unfold fracE; rw [if_neg]; rw [he]; exact fun hh => hst.2.1 hh.1
    rw [hf]
    unfold expE
    rw [if_neg]; rw [he]
    exact fun hh => hh.elim hst.2.2.1 hst.2.2.2
theorem dec_num [DecI] {n : Nat} (h : n ≤ 999) : NumW (decO n) := digits_num ((default : DecT).pos n (by omega)) ((default : DecT).dig n (by omega))
theorem how_signs {how : ByteArray} (h : HowOK how) (hn : how ≠ nob) : (∀ c ∈ how.data.toList, c ∈ signsL ∧ c ≠ 43 ∧ c ≠ 45 ∧ c ≠ 46 ∧ c ≠ 47) ∧ ∀ X, selI (hdI (how.data.toList ++ X)) := by
  rcases h with rfl | rfl | rfl | rfl | rfl | rfl
  · exact absurd rfl hn
  · exact ⟨by decide, fun X => show selI 61 by unfold selI; decide⟩
  · exact ⟨by decide, fun X => show selI 126 by unfold selI; decide⟩
  · exact ⟨by decide, fun X => show selI 94 by unfold selI; decide⟩
  · exact ⟨by decide, fun X => show selI 36 by unfold selI; decide⟩
  · exact ⟨by decide, fun X => show selI 42 by unfold selI; decide⟩
theorem good_signs : ∀ (l : List UInt8) (b : List Pc) (r : List UInt8), (∀ c ∈ l, c ∈ signsL ∧ c ≠ 43 ∧ c ≠ 45 ∧ c ≠ 46 ∧ c ≠ 47) → Good b r → Good (l.map Pc.sign ++ b) r
  | [], _, _, _, h => h
  | c :: l, b, r, h, hb => good_sign (h c (by simp)) (good_signs l b r (fun x hx => h x (by simp [hx])) hb)
theorem flat_signs : ∀ (l : List UInt8) (b : List Pc), flat (l.map Pc.sign ++ b) = l ++ flat b
  | [], _ => rfl
  | c :: l, b => by
    show [c] ++ flat (l.map Pc.sign ++ b) = c :: l ++ flat b
    rw [flat_signs l b]; rfl
theorem good_attr {name how value : ByteArray} (h0 : 0 < name.size) (hh : HowOK how) (r : List UInt8) : Good (attrP name how value) r := by
  unfold attrP
  split
  · exact good_sign (by decide) ⟨h0, stop_sel (show selI 93 by unfold selI; decide), good_sign (by decide) trivial⟩
  · rename_i hn
    have hs := how_signs hh hn
    refine good_sign (by decide) ⟨h0, stop_sel ?_, good_signs _ _ _ hs.1 ⟨trivial, trivial, good_sign (by decide) trivial⟩⟩
    rw [flat_signs, List.append_assoc]
    exact hs.2 _
theorem firstS [DecI] {s : Simple} (h : sfS s) (X : List UInt8) : blankI (hdI (flat (pcS s) ++ X)) = false ∧ (kdS s ≠ 116 → selI (hdI (flat (pcS s) ++ X))) := by
  obtain ⟨kind, name, how, value, list, place⟩ := s
  simp only [sfS] at h
  unfold pcS kdS
  split
  · rename_i k
    refine ⟨?_, fun h => absurd k h⟩
    split
    · rfl
    · rename_i hn
      rw [flat_one]
      refine (name_hd (w := name) ?_ X).1
      rcases Nat.eq_zero_or_pos name.size with e | e
      · exact absurd (by apply ByteArray.ext; apply Array.toList_inj.1; exact List.eq_nil_of_length_eq_zero e) hn
      · exact e
  · split
    · exact ⟨rfl, fun _ => show selI 35 by unfold selI; decide⟩
    · split
      · exact ⟨rfl, fun _ => show selI 46 by unfold selI; decide⟩
      · split
        · unfold attrP
          split <;> exact ⟨rfl, fun _ => show selI 91 by unfold selI; decide⟩
        · split
          · exact ⟨rfl, fun _ => show selI 58 by unfold selI; decide⟩
          · split <;> exact ⟨rfl, fun _ => show selI 58 by unfold selI; decide⟩
mutual
theorem goodS [DecI] : ∀ (s : Simple) (r : List UInt8), sfS s → selI (hdI r) → Good (pcS s) r
  | .mk kind name how value list place, r, h, hr => by
    simp only [sfS] at h
    unfold pcS
    split
    · split
      · exact good_sign (by decide) trivial
      · rename_i hn
        refine ⟨?_, stop_sel hr, trivial⟩
        rcases Nat.eq_zero_or_pos name.size with e | e
        · exact absurd (by apply ByteArray.ext; apply Array.toList_inj.1; exact List.eq_nil_of_length_eq_zero e) hn
        · exact e
    · rename_i k1
      have hk := h.1
      split
      · rename_i k2
        refine ⟨?_, ⟨hr.1, hr.2.1⟩, trivial⟩
        rcases hk with h | h | h | h
        · exact absurd h k1
        · exact h.2
        · omega
        · omega
      · rename_i k2
        split
        · rename_i k3
          have h0 : 0 < name.size := by
            rcases hk with h | h | h | h
            · exact absurd h k1
            · exact h.2
            · omega
            · omega
          refine ⟨show (46 : UInt8) ∈ signsL by decide, ⟨fun e => absurd e (by decide), fun _ => ?_, fun e => absurd e (by decide), fun e => absurd e (by decide)⟩, ⟨h0, stop_sel hr, trivial⟩⟩
          rw [flat_one]
          exact (name_hd h0 _).2.2
        · rename_i k3
          split
          · rename_i k4
            have h0 : 0 < name.size ∧ HowOK how := by
              rcases hk with h | h | h | h
              · exact absurd h k1
              · omega
              · exact h.2
              · omega
            exact good_attr h0.1 h0.2 r
          · rename_i k4
            have hs : StOK name := by
              rcases hk with h | h | h | h
              · exact absurd h k1
              · omega
              · exact absurd h.1 k4
              · exact h.2
            have hn := st_names hs
            split
            · have hg := goodL [] (fun _ _ => trivial) (.inl rfl) list (flat [.sign 41] ++ r) h.2.2 (show selI 41 by unfold selI; decide)
              exact good_sign (by decide) ⟨hn.2.1, fun hu => absurd hu hn.2.2.1, hg.append (good_sign (by decide) trivial)⟩
            · split
              · refine good_sign (by decide) ⟨hn.2.1, fun hu => absurd hu hn.2.2.1, ?_⟩
                have hl : Good [placeP place] (flat [.sign 41] ++ r) := by
                  unfold placeP
                  split
                  · exact ⟨show 0 < nOdd.size by decide, stop_sel (show selI 41 by unfold selI; decide), trivial⟩
                  · split
                    · exact ⟨show 0 < nEven.size by decide, stop_sel (show selI 41 by unfold selI; decide), trivial⟩
                    · exact ⟨dec_num (by omega), stop_fol (by simp) (by simp) (by simp) rfl, trivial⟩
                exact hl.append (b := [.sign 41]) (good_sign (by decide) trivial)
              · exact good_sign (by decide) ⟨hn.2.1, stop_sel hr, trivial⟩
theorem goodA [DecI] : ∀ (l : List Simple) (r : List UInt8), sfA l → noTag l.tail → selI (hdI r) → Good (pcA l) r ∧ (noTag l → selI (hdI (flat (pcA l) ++ r)))
  | [], r, _, _, hr => by unfold pcA; exact ⟨trivial, fun _ => hr⟩
  | s :: l, r, h, ht, hr => by
    simp only [sfA] at h
    have ht' : noTag l := ht
    have ih := goodA l r h.2 (fun x hx => ht' x (List.mem_of_mem_tail hx)) hr
    have h1 := goodS s (flat (pcA l) ++ r) h.1 (ih.2 ht')
    unfold pcA
    refine ⟨h1.append ih.1, fun hn => ?_⟩
    rw [flat_append, List.append_assoc]
    exact (firstS h.1 _).2 (hn s (by simp))
theorem goodR [DecI] : ∀ (l : List (Nat × List Simple)) (r : List UInt8), sfR l → selI (hdI r) → Good (pcC l) r ∧ selI (hdI (flat (pcC l) ++ r))
  | [], r, _, hr => by unfold pcC; exact ⟨trivial, hr⟩
  | (b, all) :: l, r, h, hr => by
    simp only [sfR] at h
    have ih := goodR l r h.2.2.2.2 hr
    have hA := (goodA all (flat (pcC l) ++ r) h.2.2.2.1 h.2.2.1 ih.2).1
    have hF : blankI (hdI (flat (pcA all) ++ (flat (pcC l) ++ r))) = false := by
      match all, h.2.1, h.2.2.2.1 with
      | s :: q, _, hs =>
        simp only [sfA] at hs
        unfold pcA
        rw [flat_append, List.append_assoc]
        exact (firstS hs.1 _).1
    unfold pcC pcSt
    have hC : Good (combP b) (flat (pcA all) ++ (flat (pcC l) ++ r)) := by
      rcases h.1 with rfl | rfl | rfl | rfl
      · exact ⟨trivial, hF, trivial⟩
      · exact ⟨trivial, show blankI 62 = false by decide, show (62 : UInt8) ∈ signsL by decide, stop_sign _ (by decide), trivial, hF, trivial⟩
      · exact ⟨trivial, show blankI 43 = false by decide, show (43 : UInt8) ∈ signsL by decide, stop_fol (by simp) (by simp) (by simp) rfl, trivial, hF, trivial⟩
      · exact ⟨trivial, show blankI 126 = false by decide, show (126 : UInt8) ∈ signsL by decide, stop_sign _ (by decide), trivial, hF, trivial⟩
    refine ⟨(hC.append hA).append ih.1, ?_⟩
    rw [flat_append, flat_append, List.append_assoc, List.append_assoc]
    rcases h.1 with rfl | rfl | rfl | rfl <;> exact (show selI 32 by unfold selI; decide)
theorem goodC [DecI] : ∀ (l : List (Nat × List Simple)) (r : List UInt8), sfC l → selI (hdI r) → Good (pcC l) r ∧ blankI (hdI (flat (pcC l) ++ r)) = false
  | [], _, h, _ => by simp only [sfC] at h
  | (b, all) :: l, r, h, hr => by
    simp only [sfC] at h
    have ih := goodR l r h.2.2.2.2 hr
    have hA := (goodA all (flat (pcC l) ++ r) h.2.2.2.1 h.2.2.1 ih.2).1
    have hF : blankI (hdI (flat (pcA all) ++ (flat (pcC l) ++ r))) = false := by
      match all, h.2.1, h.2.2.2.1 with
      | s :: q, _, hs =>
        simp only [sfA] at hs
        unfold pcA
        rw [flat_append, List.append_assoc]
        exact (firstS hs.1 _).1
    have hb : combP b = [] := by rw [h.1]; rfl
    unfold pcC pcSt
    rw [hb, List.nil_append]
    refine ⟨hA.append ih.1, ?_⟩
    rw [flat_append, List.append_assoc]
    exact hF
theorem goodL [DecI] (pa : List Pc) (hp : ∀ X, blankI (hdI X) = false → Good pa X) (hq : pa = [] ∨ ∀ X, hdI (flat pa ++ X) = 46) : ∀ (l : List (List (Nat × List Simple))) (r : List UInt8), sfL l → selI (hdI r) → Good (pcL pa l) r
  | [], _, _, _ => by unfold pcL; trivial
  | c :: l, r, h, hr => by
    simp only [sfL] at h
    have hT := goodTl pa hp hq l r h.2 hr
    have hC := goodC c (flat (pcTl pa l) ++ r) h.1 hT.2
    unfold pcL
    refine Good.append ?_ (hC.1.append hT.1)
    rw [flat_append, List.append_assoc]
    exact hp _ hC.2
theorem goodTl [DecI] (pa : List Pc) (hp : ∀ X, blankI (hdI X) = false → Good pa X) (hq : pa = [] ∨ ∀ X, hdI (flat pa ++ X) = 46) : ∀ (l : List (List (Nat × List Simple))) (r : List UInt8), sfL l → selI (hdI r) → Good (pcTl pa l) r ∧ selI (hdI (flat (pcTl pa l) ++ r))
  | [], r, _, hr => by unfold pcTl; exact ⟨trivial, hr⟩
  | c :: l, r, h, hr => by
    simp only [sfL] at h
    have hT := goodTl pa hp hq l r h.2 hr
    have hC := goodC c (flat (pcTl pa l) ++ r) h.1 hT.2
    unfold pcTl
    refine ⟨good_sign (by decide) (Good.append ?_ (hC.1.append hT.1)), show selI 44 by unfold selI; decide⟩
    rw [flat_append, List.append_assoc]
    exact hp _ hC.2
end
end Go.Proofs.YtlliliddljkbfaaGreat.Sp
namespace Go.Proofs.YtlliliddljkbfaaGreat.Sp
set_option maxHeartbeats 64000000
set_option maxRecDepth 100000
def quietF (p : Policy) : Int → List Tok → Bool
  | _, [] => true
  | a, t :: r =>
    if t.kind = 12 ∨ t.kind = 13 ∨ t.kind = 3 ∨ t.kind = 8 ∨ t.kind = 9 then false
    else if t.kind = 2 then (if p.texts = false ∧ a = 0 then false else quietF p a r)
    else if t.kind = 10 then (if p.ats.contains (small t.word) = true then quietF p a r else false)
    else if t.kind = 11 then (if p.funs.contains (small t.word) = true ∨ small t.word = nNot ∨ small t.word = nIs ∨ small t.word = nNth then quietF p a r else false)
    else if t.kind = 15 then quietF p (if t.word = b1 91 then a + 1 else if t.word = b1 93 then a - 1 else a) r
    else quietF p a r
def Neutral (p : Policy) (l : List Pc) : Prop := ∀ (a : Int), 0 ≤ a → ∀ rest, quietF p a (ptoks l ++ rest) = quietF p a rest
theorem Neutral.nil (p : Policy) : Neutral p [] := fun _ _ _ => rfl
theorem Neutral.append {p : Policy} {a b : List Pc} (h1 : Neutral p a) (h2 : Neutral p b) : Neutral p (a ++ b) := fun x hx rest => by
  rw [ptoks_append, List.append_assoc, h1 x hx, h2 x hx]
theorem neutral_tok {p : Policy} {q : Pc} {t : Tok} (ht : q.tok = some t) (h : ∀ a : Int, 0 ≤ a → ∀ rest, quietF p a (t :: rest) = quietF p a rest) : Neutral p [q] := fun a ha rest => by
  unfold ptoks
  rw [List.filterMap_cons, ht]
  exact h a ha rest
theorem neutral_kind {p : Policy} {q : Pc} {t : Tok} (ht : q.tok = some t) (h : t.kind = 1 ∨ t.kind = 4 ∨ t.kind = 5 ∨ t.kind = 6 ∨ t.kind = 7 ∨ t.kind = 14) : Neutral p [q] :=
  neutral_tok ht fun a _ rest => by
    conv => lhs; unfold quietF
    rw [if_neg (by omega), if_neg (by omega), if_neg (by omega), if_neg (by omega), if_neg (by omega)]
theorem neutral_com (p : Policy) : Neutral p [.com] := fun _ _ _ => rfl
theorem neutral_sign {p : Policy} {c : UInt8} (h : c ≠ 91 ∧ c ≠ 93) : Neutral p [.sign c] :=
  neutral_tok rfl fun a _ rest => by
    have h1 : (b1 c) ≠ b1 91 := fun e => h.1 (by have := congrArg (fun x => x.data.toList) e; simpa [b1] using this)
    have h2 : (b1 c) ≠ b1 93 := fun e => h.2 (by have := congrArg (fun x => x.data.toList) e; simpa [b1] using this)
    conv => lhs; unfold quietF
    rw [if_neg (by simp [Tok.w]), if_neg (by simp [Tok.w]), if_neg (by simp [Tok.w]), if_neg (by simp [Tok.w]), if_pos (by simp [Tok.w])]
    show quietF p (if b1 c = b1 91 then a + 1 else if b1 c = b1 93 then a - 1 else a) rest = _
    rw [if_neg h1, if_neg h2]
theorem neutral_text {p : Policy} {w : ByteArray} (h : p.texts = true) : Neutral p [.text w] :=
  neutral_tok rfl fun a _ rest => by
    conv => lhs; unfold quietF
    rw [if_neg (by simp [Tok.w]), if_pos (by simp [Tok.w]), if_neg (by simp [h])]
theorem neutral_box {p : Policy} {l : List Pc} (h : ∀ (a : Int), 0 < a → ∀ rest, quietF p a (ptoks l ++ rest) = quietF p a rest) : Neutral p (.sign 91 :: (l ++ [.sign 93])) := fun a ha rest => by
  have e : ptoks (.sign 91 :: (l ++ [.sign 93])) ++ rest = Tok.w 15 (b1 91) :: (ptoks l ++ (Tok.w 15 (b1 93) :: rest)) := by
    unfold ptoks
    rw [List.filterMap_cons, List.filterMap_append]
    simp [Pc.tok]
  have h93 : quietF p (a + 1) (Tok.w 15 (b1 93) :: rest) = quietF p a rest := by
    conv => lhs; unfold quietF
    rw [if_neg (by simp [Tok.w]), if_neg (by simp [Tok.w]), if_neg (by simp [Tok.w]), if_neg (by simp [Tok.w]), if_pos (by simp [Tok.w])]
    show quietF p (if b1 93 = b1 91 then a + 1 + 1 else if b1 93 = b1 93 then a + 1 - 1 else a + 1) rest = _
    rw [if_neg (by decide), if_pos rfl, Int.add_sub_cancel]
  rw [e]
  conv => lhs; unfold quietF
  rw [if_neg (by simp [Tok.w]), if_neg (by simp [Tok.w]), if_neg (by simp [Tok.w]), if_neg (by simp [Tok.w]), if_pos (by simp [Tok.w])]
  show quietF p (if b1 91 = b1 91 then a + 1 else if b1 91 = b1 93 then a - 1 else a) _ = _
  rw [if_pos rfl, h (a + 1) (by omega), h93]
theorem neutral_func {p : Policy} {w : ByteArray} (h : p.funs.contains (small (zqB w)) = true ∨ small (zqB w) = nNot ∨ small (zqB w) = nIs ∨ small (zqB w) = nNth) : Neutral p [.func w] :=
  neutral_tok rfl fun a _ rest => by
    conv => lhs; unfold quietF
    rw [if_neg (by simp [Tok.w]), if_neg (by simp [Tok.w]), if_neg (by simp [Tok.w]), if_pos (by simp [Tok.w])]
    exact if_pos h
theorem neutral_at {p : Policy} {w : ByteArray} (h : p.ats.contains (small (zqB w)) = true) : Neutral p [.at_ w] :=
  neutral_tok rfl fun a _ rest => by
    conv => lhs; unfold quietF
    rw [if_neg (by simp [Tok.w]), if_neg (by simp [Tok.w]), if_pos (by simp [Tok.w])]
    exact if_pos h
theorem pol_bytes {s : ByteArray} (h : polName s = true) : ∀ c ∈ s.data.toList, (97 ≤ c.toNat ∧ c.toNat ≤ 122) ∨ c.toNat = 45 := by
  intro c hc
  unfold polName at h
  simp only [Bool.and_eq_true, List.all_eq_true] at h
  have := h.1.1 c hc
  unfold lowB at this
  simp at this
  rcases this with h | h
  · exact .inl h
  · rw [h]; exact .inr rfl
theorem mem_contains {l : List ByteArray} {x : ByteArray} (h : l.contains x = true) : x ∈ l := by
  induction l with
  | nil => cases h
  | cons a l ih =>
    rw [List.contains_cons, Bool.or_eq_true] at h
    rcases h with h | h
    · have e : x = a := by
        cases x; cases a
        exact congrArg ByteArray.mk (eq_of_beq (show (_ : Array UInt8) == _ from h))
      rw [e]; simp
    · exact List.mem_cons_of_mem _ (ih h)
theorem small_mem {w : ByteArray} {c : UInt8} (h : c ∈ w.data.toList) : smallB c ∈ (small w).data.toList := by
  show smallB c ∈ (w.data.toList.map smallB).toArray.toList
  rw [List.toList_toArray]
  exact List.mem_map_of_mem h
theorem zqB_id {w : ByteArray} (h : ∀ c ∈ w.data.toList, c.toNat ≠ 0) : zqB w = w := by
  apply ByteArray.ext
  apply Array.toList_inj.1
  show (w.data.toList.map zq).toArray.toList = _
  rw [List.toList_toArray]
  exact (List.map_congr_left (fun c hc => by unfold zq; rw [if_neg (h c hc)]; rfl)).trans (List.map_id _)
theorem pol_zq {l : List ByteArray} {w : ByteArray} (hl : l.all polName = true) (h : l.contains (small w) = true) : zqB w = w := by
  have hp : polName (small w) = true := List.all_eq_true.1 hl _ (mem_contains h)
  refine zqB_id fun c hc e => ?_
  have := pol_bytes hp _ (small_mem hc)
  unfold smallB at this
  have hc0 : c = 0 := UInt8.toNat_inj.1 (by simpa using e)
  rw [hc0] at this
  revert this; decide
theorem small_small {l : List ByteArray} {w : ByteArray} (hl : l.all polName = true) (h : l.contains (small w) = true) : small (zqB (small w)) = small w := by
  have hp : polName (small w) = true := List.all_eq_true.1 hl _ (mem_contains h)
  have hb := pol_bytes hp
  rw [zqB_id (fun c hc => by have := hb c hc; omega)]
  apply ByteArray.ext
  apply Array.toList_inj.1
  show ((small w).data.toList.map smallB).toArray.toList = _
  rw [List.toList_toArray]
  refine (List.map_congr_left (fun c hc => ?_)).trans (List.map_id _)
  have := hb c hc
  unfold smallB
  rw [if_neg]
  · exact rfl
  · intro hh
    have h1 : (65 : UInt8).toNat ≤ c.toNat := UInt8.le_iff_toNat_le.1 hh.1
    have h2 : c.toNat ≤ (90 : UInt8).toNat := UInt8.le_iff_toNat_le.1 hh.2
    have e1 : (65 : UInt8).toNat = 65 := rfl
    have e2 : (90 : UInt8).toNat = 90 := rfl
    omega
theorem neutral_one {p : Policy} {q : Pc} {l : List Pc} (h1 : Neutral p [q]) (h2 : Neutral p l) : Neutral p (q :: l) := h1.append (a := [q]) h2
mutual
theorem calmN (p : Policy) (hf : p.funs.all polName = true) : ∀ (n : Nd), vN p n → Neutral p (pcN n)
  | .mk t k, h => by
    simp only [vN] at h
    have hv := h.1
    have ih := calmF p hf none k h.2
    have hh := hv.harm
    rw [pcN_eq]
    simp only [Nd.t_mk, Nd.kids_mk]
    rcases hv.kinds with e | e | e | e | e | e | e | e | e
    · rw [pcT_1 _ e]; exact neutral_kind rfl (.inl rfl)
    · rw [pcT_2 _ e]
      unfold harmT at hh
      rw [if_neg (by omega), if_neg (by omega), if_pos e] at hh
      exact neutral_text hh
    · rw [pcT_4 _ e]; exact neutral_kind rfl (by simp [Tok.w])
    · rw [pcT_5 _ e]; exact neutral_kind rfl (by simp [Tok.w])
    · rw [pcT_6 _ e]; exact neutral_kind rfl (by simp [Tok.w])
    · rw [pcT_7 _ e]; exact neutral_kind rfl (by simp)
    · rw [pcT_11 _ e]
      unfold harmT at hh
      rw [if_neg (by omega), if_neg (by omega), if_neg (by omega), if_pos e] at hh
      refine neutral_one (neutral_func (.inl ?_)) (ih.append (neutral_sign (by decide)))
      rw [pol_zq hf hh]; exact hh
    · rw [pcT_14 _ e]; exact neutral_kind rfl (by simp [Tok.w])
    · rw [pcT_15 _ e]
      have hs := sign_in hv e
      by_cases h91 : bt t.word = 91
      · have hw : t.word = b1 91 := by rw [(bt_one (hv.ok.sign e)).2, h91]
        have hc : closing t = b1 93 := by unfold closing; rw [if_neg (by omega), if_pos e, hw]; rfl
        have hcl : clP t = [.sign 93] := by unfold clP; rw [hc, if_neg (nob_ne _)]; rfl
        rw [h91, hcl]
        exact neutral_box fun a ha rest => ih a (by omega) rest
      · have hcl : Neutral p (clP t) := by
          unfold clP
          split
          · exact Neutral.nil p
          · rcases closing_sign e with c | ⟨_, c⟩ | ⟨hw, c⟩ | ⟨_, c⟩
            · contradiction
            · rw [c]; exact neutral_sign (by decide)
            · rw [hw] at h91; exact absurd rfl h91
            · rw [c]; exact neutral_sign (by decide)
        refine neutral_one (neutral_sign ⟨h91, fun h93 => ?_⟩) (ih.append hcl)
        have hw : t.word = b1 93 := by rw [(bt_one (hv.ok.sign e)).2, h93]
        have hc : closing t = nob := by unfold closing; rw [if_neg (by omega), if_pos e, hw]; rfl
        unfold harmT at hh
        rw [if_neg (by omega), if_pos e, hc, hw] at hh
        revert hh; decide
theorem calmF (p : Policy) (hf : p.funs.all polName = true) : ∀ (a : Option Tok) (l : List Nd), vL p l → Neutral p (pcF a l)
  | _, [], _ => by rw [pcF_nil]; exact Neutral.nil p
  | a, n :: l, h => by
    simp only [vL] at h
    have h1 := calmN p hf n h.1
    have h2 := calmF p hf (some n.t) l h.2
    rw [pcF_cons]
    refine Neutral.append ?_ h2
    split
    · exact Neutral.nil p
    · refine Neutral.append ?_ h1
      cases a with
      | none => exact Neutral.nil p
      | some a =>
        show Neutral p (if parts a n.t = true then [Pc.com] else [])
        split
        · exact neutral_com p
        · exact Neutral.nil p
end
end Go.Proofs.YtlliliddljkbfaaGreat.Sp
