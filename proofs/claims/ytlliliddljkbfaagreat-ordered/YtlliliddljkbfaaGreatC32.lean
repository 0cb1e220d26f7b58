import Derived.Test.YtlliliddljkbfaaGreatC31
namespace Go.Proofs.YtlliliddljkbfaaGreat
set_option maxHeartbeats 64000000
set_option maxRecDepth 100000
open Go.RowKit Sp
section
attribute [local go_sem] fld_tok fld_ins fld_kind fld_word
theorem partV_state {nm : ByteArray} (h : stB nm = true) (lv : Value) (p : Nat) : partV 58 nm nob nob lv p = .iface 343 (.agg #[.string nm]) := by
  have h' : nm = nRoot ∨ nm = nFirst ∨ nm = nLast ∨ nm = nEmpty := by simpa [stB] using h
  unfold partV
  rw [if_neg (by omega), if_neg (by omega), if_neg (by omega), if_neg (by omega)]
  rcases h' with rfl | rfl | rfl | rfl <;> (rw [if_neg (by decide), if_neg (by decide), if_neg (by decide)])
theorem partV_not (lv : Value) (p : Nat) : partV 58 nNot nob nob lv p = .iface 345 (.agg #[lv]) := by
  unfold partV
  rw [if_neg (by omega), if_neg (by omega), if_neg (by omega), if_neg (by omega), if_pos rfl]
theorem partV_is (lv : Value) (p : Nat) : partV 58 nIs nob nob lv p = .iface 346 (.agg #[lv]) := by
  unfold partV
  rw [if_neg (by omega), if_neg (by omega), if_neg (by omega), if_neg (by omega), if_neg (by decide), if_pos rfl]
def stP (f : Nat) (o : Option Simple) (w w' : World) (e : Ending) : Prop :=
  match o with
  | none => ∃ pv, e = .returned (.tuple #[pv, .bool false])
  | some s => ∃ pv, e = .returned (.tuple #[pv, .bool true]) ∧ PSim f (Frm w.heap.size w') w' s [pv]
def rdP (f : Nat) (l : List Nd) (w w' : World) (e : Ending) : Prop :=
  match selF f l with
  | none => e = .returned (.tuple #[.slice none 0 0, .bool false])
  | some ss => ∃ sv, e = .returned (.tuple #[sv, .bool true]) ∧ SG (PCx (PSim f)) 1 (Frm w.heap.size w') w' sv ss
def ReadOK (f : Nat) : Prop := ∀ (B : Nat) (l : List Nd) (v : Value) (w : World), depth l ≤ f → Sl (fun b => b < B) w v l → B ≤ w.heap.size → Calls Tryz.prog 73 #[v] w fun e w' => rdP f l w w' e ∧ Below w.heap.size w w'
def RecP : Nat → Prop
  | 0 => True
  | f + 1 => ReadOK f
theorem pseudoW_id {rec : List Nd → Option Sels} {n : Nd} (h : n.t.kind = 14) : pseudoW rec n = if stB (small n.t.word) = true then some (Simple.of 58 (small n.t.word)) else none := by
  unfold pseudoW
  simp only [if_pos h, stB, decide_eq_true_eq]
theorem pseudoW_no {rec : List Nd → Option Sels} {n : Nd} (h : ¬ n.t.kind = 14) (h2 : ¬ n.t.kind = 11) : pseudoW rec n = none := by
  unfold pseudoW
  simp only [if_neg h]
  rw [if_pos h2]
theorem pseudoW_nth {rec : List Nd → Option Sels} {n : Nd} (h2 : n.t.kind = 11) (h : small n.t.word = nNth) : pseudoW rec n = (plcF n.kids).map (fun p => .mk 58 nNth nob nob [] p) := by
  unfold pseudoW
  simp only [if_neg (show ¬ n.t.kind = 14 by omega)]
  rw [if_neg (by omega), h, if_neg (by decide), if_pos rfl]
  unfold plcF plcD
  cases bare n.kids with
  | nil => rfl
  | cons x r => cases r <;> rfl
theorem pseudoW_list {rec : List Nd → Option Sels} {n : Nd} (h2 : n.t.kind = 11) (h : small n.t.word = nNot ∨ small n.t.word = nIs) : pseudoW rec n = (rec n.kids).map (fun l => .mk 58 (small n.t.word) nob nob l 0) := by
  unfold pseudoW
  simp only [if_neg (show ¬ n.t.kind = 14 by omega)]
  rw [if_neg (by omega), if_pos h]
theorem pseudoW_other {rec : List Nd → Option Sels} {n : Nd} (h2 : n.t.kind = 11) (h : ¬ small n.t.word = nNot) (h' : ¬ small n.t.word = nIs) (h3 : ¬ small n.t.word = nNth) : pseudoW rec n = none := by
  unfold pseudoW
  simp only [if_neg (show ¬ n.t.kind = 14 by omega)]
  rw [if_neg (by omega), if_neg (fun q => q.elim h h'), if_neg h3]
theorem frm_mono {w1 w2 w' : World} (h : w1.heap.size ≤ w2.heap.size) : ∀ g, Frm w2.heap.size w' g → Frm w1.heap.size w' g := fun _ hg => ⟨by have := hg.1; omega, hg.2⟩
theorem readState_c (f : Nat) (hR : RecP f) (B : Nat) (n : Nd) (kv : Value) (w : World) (hwd : n.t.word.size ≤ 4000000) (hS : Sl (fun b => b < B) w kv n.kids) (hB : B ≤ w.heap.size) (hd : n.t.kind = 11 → depth n.kids + 1 ≤ f) :
    Calls Tryz.prog 297 #[nodV n.t kv] w fun e w' => stP f (pseudoW (recF f) n) w w' e ∧ Below w.heap.size w w' := by
  have HR : Hid (RecP f) := hR
  have HD : Hid (n.t.kind = 11 → depth n.kids + 1 ≤ f) := hd
  obtain ⟨ka, kc, rfl⟩ := hS.form
  have A1 : Hid (VB (w.alloc (.cells #[.int .i64 n.t.kind, .string n.t.word, .string n.t.unit, .slice ka n.kids.length kc] 199)) w.heap.size (.int .i64 n.t.kind) (.string n.t.word) (.string n.t.unit) (.slice ka n.kids.length kc)) := VB.new _ _ _ _ _
  have B1 : Hid (Below w.heap.size w (w.alloc (.cells #[.int .i64 n.t.kind, .string n.t.word, .string n.t.unit, .slice ka n.kids.length kc] 199))) := (Below.refl _ _).alloc (Nat.le_refl _) _
  have S1 : Hid (Sl (fun b => b < B) (w.alloc (.cells #[.int .i64 n.t.kind, .string n.t.word, .string n.t.unit, .slice ka n.kids.length kc] 199)) (.slice ka n.kids.length kc) n.kids) := hS.below B1.out hB
  clear hR hd hS
  obtain ⟨nm, Hnm⟩ : ∃ nm, Hid (small n.t.word = nm) := ⟨_, hid rfl⟩
  unfold nodV
  go_enter Tryz.func297, Tryz.ntmps297
  go_upto_region 1 with fail
  generalize w.alloc (.cells #[.int .i64 n.t.kind, .string n.t.word, .string n.t.unit, .slice ka n.kids.length kc] 199) = w1 at *
  obtain ⟨gt, Hgt⟩ : ∃ gt, Hid (w.heap.size = gt) := ⟨_, hid rfl⟩
  have A2 : Hid (VB w1 gt (.int .i64 n.t.kind) (.string n.t.word) (.string n.t.unit) (.slice ka n.kids.length kc)) := by rw [← Hgt.out]; exact A1
  rw [Hgt.out]
  clear A1
  obtain ⟨a0, a1, a2, a3⟩ := A2.out.cs
  go_wp2_with fail
  refine (Small_c n.t.word _ (by omega)).mono ?_
  rw [Hnm.out]
  rintro e w2 ⟨rfl, hb2⟩
  have hs1 := B1.out.size
  have A3 : Hid (VB w2 gt (.int .i64 n.t.kind) (.string n.t.word) (.string n.t.unit) (.slice ka n.kids.length kc)) := A2.out.below hb2
  have B3 : Hid (Below w.heap.size w w2) := B1.out.trans (hb2.mono hs1)
  have S3 : Hid (Sl (fun b => b < B) w2 (.slice ka n.kids.length kc) n.kids) := S1.out.below hb2 (by omega)
  clear hb2 A2 B1 S1 a0 a1 a2 a3
  obtain ⟨a0, a1, a2, a3⟩ := A3.out.cs
  have hs3 := B3.out.size
  cases hk14 : (n.t.kind == 14)
  · cases hk11 : (n.t.kind != 11)
    · have e11 : n.t.kind = 11 := by simpa using hk11
      have E11 : Hid (n.t.kind = 11) := e11
      clear e11
      cases hnth : (nm.toList == [110, 116, 104, 45, 99, 104, 105, 108, 100])
      · have n3 : ¬ nm = nNth := by rw [bytes_lit] at hnth; simpa [nNth] using hnth
        cases hnot : (nm.toList == [110, 111, 116])
        · have n1 : ¬ nm = nNot := by rw [bytes_lit] at hnot; simpa [nNot] using hnot
          cases his : (nm.toList == [105, 115])
          · have n2 : ¬ nm = nIs := by rw [bytes_lit] at his; simpa [nIs] using his
            have HV : Hid (pseudoW (recF f) n = none) := pseudoW_other E11.out (by rw [Hnm.out]; exact n1) (by rw [Hnm.out]; exact n2) (by rw [Hnm.out]; exact n3)
            clear n1 n2 n3
            go_wp2_with fail
            go_ret2
            exact ⟨by rw [HV.out]; exact ⟨_, rfl⟩, B3.out⟩
          · have n2 : nm = nIs := by rw [bytes_lit] at his; simpa [nIs] using his
            obtain ⟨g, rfl⟩ : ∃ g, f = g + 1 := ⟨f - 1, by have := HD.out E11.out; omega⟩
            have HV : Hid (pseudoW (recF (g + 1)) n = (selF g n.kids).map (fun l => .mk 58 nIs nob nob l 0)) := by
              have := pseudoW_list (rec := recF (g + 1)) E11.out (.inr (by rw [Hnm.out]; exact n2))
              rw [Hnm.out, n2] at this; exact this
            clear n1 n2 n3
            go_wp2_with fail
            refine (HR.out B n.kids _ w2 (by have := HD.out E11.out; omega) S3.out (by omega)).mono ?_
            rintro e w4 ⟨hp, hb4⟩
            have B4 : Hid (Below w.heap.size w w4) := B3.out.trans (hb4.mono hs3)
            clear hb4
            unfold rdP at hp
            cases hsel : selF g n.kids with
            | none =>
              rw [hsel] at hp
              subst hp
              have HN : Hid (pseudoW (recF (g + 1)) n = none) := by show _ = _; rw [HV.out, hsel]; rfl
              clear hsel
              go_wp2_with fail
              go_ret2
              exact ⟨by rw [HN.out]; exact ⟨_, rfl⟩, B4.out⟩
            | some ss =>
              rw [hsel] at hp
              obtain ⟨sv, rfl, hsg⟩ := hp
              obtain ⟨sa, sc, rfl⟩ := hsg.form
              have HN : Hid (pseudoW (recF (g + 1)) n = some (.mk 58 nIs nob nob ss 0)) := by show _ = _; rw [HV.out, hsel]; rfl
              have HG : Hid (SG (PCx (PSim g)) 1 (Frm w.heap.size w4) w4 (.slice sa ss.length sc) ss) := hsg.keep (One.fair (PStp.fair (PSim.fair g))) (frm_mono hs3) fun _ _ => rfl
              clear hsel hsg
              go_wp2_with fail
              go_ret2
              exact ⟨by rw [HN.out]; exact ⟨_, rfl, _, by rw [partV_is]; rfl, HG.out⟩, B4.out⟩
        · have n2 : nm = nNot := by rw [bytes_lit] at hnot; simpa [nNot] using hnot
          obtain ⟨g, rfl⟩ : ∃ g, f = g + 1 := ⟨f - 1, by have := HD.out E11.out; omega⟩
          have HV : Hid (pseudoW (recF (g + 1)) n = (selF g n.kids).map (fun l => .mk 58 nNot nob nob l 0)) := by
            have := pseudoW_list (rec := recF (g + 1)) E11.out (.inl (by rw [Hnm.out]; exact n2))
            rw [Hnm.out, n2] at this; exact this
          clear n2 n3
          go_wp2_with fail
          refine (HR.out B n.kids _ w2 (by have := HD.out E11.out; omega) S3.out (by omega)).mono ?_
          rintro e w4 ⟨hp, hb4⟩
          have B4 : Hid (Below w.heap.size w w4) := B3.out.trans (hb4.mono hs3)
          clear hb4
          unfold rdP at hp
          cases hsel : selF g n.kids with
          | none =>
            rw [hsel] at hp
            subst hp
            have HN : Hid (pseudoW (recF (g + 1)) n = none) := by show _ = _; rw [HV.out, hsel]; rfl
            clear hsel
            go_wp2_with fail
            go_ret2
            exact ⟨by rw [HN.out]; exact ⟨_, rfl⟩, B4.out⟩
          | some ss =>
            rw [hsel] at hp
            obtain ⟨sv, rfl, hsg⟩ := hp
            obtain ⟨sa, sc, rfl⟩ := hsg.form
            have HN : Hid (pseudoW (recF (g + 1)) n = some (.mk 58 nNot nob nob ss 0)) := by show _ = _; rw [HV.out, hsel]; rfl
            have HG : Hid (SG (PCx (PSim g)) 1 (Frm w.heap.size w4) w4 (.slice sa ss.length sc) ss) := hsg.keep (One.fair (PStp.fair (PSim.fair g))) (frm_mono hs3) fun _ _ => rfl
            clear hsel hsg
            go_wp2_with fail
            go_ret2
            exact ⟨by rw [HN.out]; exact ⟨_, rfl, _, by rw [partV_not]; rfl, HG.out⟩, B4.out⟩
      · have n3 : nm = nNth := by rw [bytes_lit] at hnth; simpa [nNth] using hnth
        have HV : Hid (pseudoW (recF f) n = (plcF n.kids).map (fun p => .mk 58 nNth nob nob [] p)) := pseudoW_nth E11.out (by rw [Hnm.out]; exact n3)
        clear n3
        go_wp2_with fail
        refine (readPlace_c B n.kids _ w2 S3.out (by omega)).mono ?_
        rintro e w4 ⟨hp, hb4⟩
        have B4 : Hid (Below w.heap.size w w4) := B3.out.trans (hb4.mono hs3)
        clear hb4
        rcases hp with ⟨hn, pv, rfl⟩ | ⟨p, hn, rfl⟩
        · have HN : Hid (pseudoW (recF f) n = none) := by show _ = _; rw [HV.out, hn]; rfl
          clear hn
          go_wp2_with fail
          go_ret2
          exact ⟨by rw [HN.out]; exact ⟨_, rfl⟩, B4.out⟩
        · have HN : Hid (pseudoW (recF f) n = some (.mk 58 nNth nob nob [] p)) := by show _ = _; rw [HV.out, hn]; rfl
          clear hn
          go_wp2_with fail
          go_ret2
          exact ⟨by rw [HN.out]; exact ⟨_, rfl, PSim.plain _ _ _ _ _ _ _ _⟩, B4.out⟩
    · have HV : Hid (pseudoW (recF f) n = none) := pseudoW_no (by simpa using hk14) (by simpa using hk11)
      go_wp2_with fail
      go_ret2
      exact ⟨by rw [HV.out]; exact ⟨_, rfl⟩, B3.out⟩
  · have HV : Hid (pseudoW (recF f) n = if stB nm = true then some (Simple.of 58 nm) else none) := by
      have := pseudoW_id (rec := recF f) (n := n) (by simpa using hk14)
      rw [Hnm.out] at this; exact this
    go_wp2_with fail
    refine (isState_c nm _).mono ?_
    rintro e w4 ⟨rfl, rfl⟩
    obtain ⟨z, Hz⟩ : ∃ z, Hid (stB nm = z) := ⟨_, hid rfl⟩
    rw [Hz.out] at HV ⊢
    cases z
    · go_wp2_with fail
      go_ret2
      exact ⟨by rw [HV.out]; exact ⟨_, rfl⟩, B3.out⟩
    · go_wp2_with fail
      go_ret2
      refine ⟨?_, B3.out⟩
      rw [HV.out]
      refine ⟨_, rfl, ?_⟩
      have := PSim.plain f (Frm w.heap.size w4) w4 58 nm nob nob 0
      rw [partV_state Hz.out] at this
      exact this
end
end Go.Proofs.YtlliliddljkbfaaGreat
