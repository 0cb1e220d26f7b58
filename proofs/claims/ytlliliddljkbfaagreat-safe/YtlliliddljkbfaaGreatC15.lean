import Derived.Test.YtlliliddljkbfaaGreatC11
import Derived.Test.YtlliliddljkbfaaGreatC14
namespace Go.Proofs.YtlliliddljkbfaaGreat
set_option maxHeartbeats 64000000
set_option maxRecDepth 100000
open Go.RowKit Sp
def simV (k : Nat) (nm h v : ByteArray) (lv : Value) (p : Nat) : Value := .agg #[.int .u8 (k : Int), .string nm, .string h, .string v, lv, .int .i64 (p : Int)]
def simC (k : Nat) (nm h v : ByteArray) (lv : Value) (p : Nat) : List Value := [.int .u8 (k : Int), .string nm, .string h, .string v, lv, .int .i64 (p : Int)]
def CStp (D : Law Simple) : Law Step := fun S w s cs => ∃ av, cs = [.int .u8 (s.1 : Int), av] ∧ SG D 6 S w av s.2
def CCx (D : Law Simple) : Law (List Step) := One (CStp D) 2
def CSim : Nat → Law Simple
  | 0 => fun _ _ s cs => match s with | .mk k nm h v l p => l = [] ∧ ∃ a c, cs = simC k nm h v (.slice a 0 c) p
  | n + 1 => fun S w s cs => match s with | .mk k nm h v l p => ∃ lv, cs = simC k nm h v lv p ∧ SG (CCx (CSim n)) 1 S w lv l
theorem CStp.fair {D : Law Simple} (h : Fair D) : Fair (CStp D) := by
  rintro S S' w w' x cs hS hw ⟨av, h1, h2⟩
  exact ⟨av, h1, h2.keep h hS hw⟩
theorem CStp.sized (D : Law Simple) : Sized (CStp D) 2 := by
  rintro S w x cs ⟨v, rfl, _⟩; rfl
theorem CSim.fair : ∀ n, Fair (CSim n)
  | 0 => by
    rintro S S' w w' ⟨k, nm, h, v, l, p⟩ cs hS hw hh
    exact hh
  | n + 1 => by
    rintro S S' w w' ⟨k, nm, h, v, l, p⟩ cs hS hw ⟨lv, h1, h2⟩
    exact ⟨lv, h1, h2.keep (One.fair (CStp.fair (CSim.fair n))) hS hw⟩
theorem CSim.sized : ∀ n, Sized (CSim n) 6
  | 0 => by
    rintro S w ⟨k, nm, h, v, l, p⟩ cs ⟨_, a, c, rfl⟩
    rfl
  | n + 1 => by
    rintro S w ⟨k, nm, h, v, l, p⟩ cs ⟨lv, rfl, _⟩
    rfl
theorem CSim.plain (n : Nat) (S : Nat → Prop) (w : World) (k : Nat) (nm h v : ByteArray) (p : Nat) : CSim n S w (.mk k nm h v [] p) (simC k nm h v (.slice none 0 0) p) := by
  cases n with
  | zero => exact ⟨rfl, none, 0, rfl⟩
  | succ n => exact ⟨.slice none 0 0, rfl, SG.none_any _ _ _ _ _ _⟩
def recF : Nat → List Nd → Option Sels
  | 0 => fun _ => none
  | f + 1 => selF f
theorem selF_eq (f : Nat) (l : List Nd) : selF f l = listW (recF f) l := by cases f <;> rfl
def pseP (f : Nat) (n : Nd) (w w' : World) (e : Ending) : Prop :=
  match pseudoW (recF f) n with
  | none => ∃ k nm h v a m c p, e = .returned (.tuple #[simV k nm h v (.slice a m c) p, .bool false])
  | some s => ∃ k nm h v lv p, e = .returned (.tuple #[simV k nm h v lv p, .bool true]) ∧ CSim f (Frm w.heap.size w') w' s (simC k nm h v lv p)
def listP (f : Nat) (l : List Nd) (w w' : World) (e : Ending) : Prop :=
  match selF f l with
  | none => e = .returned (.tuple #[.slice none 0 0, .bool false])
  | some ss => ∃ sv, e = .returned (.tuple #[sv, .bool true]) ∧ SG (CCx (CSim f)) 1 (Frm w.heap.size w') w' sv ss
def ListOK (f : Nat) : Prop := ∀ (B : Nat) (l : List Nd) (v : Value) (w : World), depth l ≤ f → Sl (fun b => b < B) w v l → B ≤ w.heap.size → Calls Tryz.prog 52 #[v] w fun e w' => listP f l w w' e ∧ Below w.heap.size w w'
def attrE (nm how : ByteArray) (q : Nd) (l3 : List Nd) : Option Simple :=
  match l3 with
  | [v] => if sgnN q (b1 61) = true ∧ (v.t.kind = 14 ∨ v.t.kind = 2) then some (.mk 91 nm (how ++ b1 61) v.t.word [] 0) else none
  | _ => none
def attrD (nm how : ByteArray) (l2 : List Nd) : Option Simple :=
  match l2 with
  | [] => none
  | q :: r2 => attrE nm how q (bare r2)
abbrev tilde (m : Nd) : Prop := m.t.word = b1 126 ∨ m.t.word = b1 94 ∨ m.t.word = b1 36 ∨ m.t.word = b1 42
def attrC (nm : ByteArray) (l1 : List Nd) : Option Simple :=
  match l1 with
  | [] => some (Simple.of 91 nm)
  | m :: r1 => if m.t.kind ≠ 15 then none else if tilde m then attrD nm m.t.word r1 else attrD nm nob (m :: r1)
def attrP (l : List Nd) (e : Ending) : Prop :=
  (attrOf l = none ∧ e = .returned (.tuple #[simV 0 nob nob nob (.slice none 0 0) 0, .bool false])) ∨
  ∃ nm h v, attrOf l = some (.mk 91 nm h v [] 0) ∧ e = .returned (.tuple #[simV 91 nm h v (.slice none 0 0) 0, .bool true])
section
attribute [local go_sem] fld_tok fld_ins fld_kind fld_word
theorem partV_state {nm : ByteArray} (h : stB nm = true) (lv : Value) (p : Nat) : partV 58 nm nob nob lv p = .iface 343 (.agg #[.string nm]) := by
  have h' : nm = nRoot ∨ nm = nFirst ∨ nm = nLast ∨ nm = nEmpty := by simpa [stB] using h
  unfold partV
  rw [if_neg (by omega), if_neg (by omega), if_neg (by omega), if_neg (by omega)]
  rcases h' with rfl | rfl | rfl | rfl <;> (rw [if_neg (by decide), if_neg (by decide), if_neg (by decide)])
theorem partV_not (lv : Value) (p : Nat) : partV 58 nNot nob nob lv p = .iface 345 (.agg #[lv]) := by
  unfold partV
  rw [if_neg (by omega), if_neg (by omega), if_neg (by omega), if_neg (by omega), if_pos rfl]
theorem partV_is (lv : Value) (p : Nat) : partV 58 nIs nob nob lv p = .iface 346 (.agg #[lv]) := by
  unfold partV
  rw [if_neg (by omega), if_neg (by omega), if_neg (by omega), if_neg (by omega), if_neg (by decide), if_pos rfl]
def stP (f : Nat) (o : Option Simple) (w w' : World) (e : Ending) : Prop :=
  match o with
  | none => ∃ pv, e = .returned (.tuple #[pv, .bool false])
  | some s => ∃ pv, e = .returned (.tuple #[pv, .bool true]) ∧ PSim f (Frm w.heap.size w') w' s [pv]
def rdP (f : Nat) (l : List Nd) (w w' : World) (e : Ending) : Prop :=
  match selF f l with
  | none => e = .returned (.tuple #[.slice none 0 0, .bool false])
  | some ss => ∃ sv, e = .returned (.tuple #[sv, .bool true]) ∧ SG (PCx (PSim f)) 1 (Frm w.heap.size w') w' sv ss
def ReadOK (f : Nat) : Prop := ∀ (B : Nat) (l : List Nd) (v : Value) (w : World), depth l ≤ f → Sl (fun b => b < B) w v l → B ≤ w.heap.size → Calls Tryz.prog 73 #[v] w fun e w' => rdP f l w w' e ∧ Below w.heap.size w w'
def RecP : Nat → Prop
  | 0 => True
  | f + 1 => ReadOK f
theorem pseudoW_id {rec : List Nd → Option Sels} {n : Nd} (h : n.t.kind = 14) : pseudoW rec n = if stB (small n.t.word) = true then some (Simple.of 58 (small n.t.word)) else none := by
  unfold pseudoW
  simp only [if_pos h, stB, decide_eq_true_eq]
theorem pseudoW_no {rec : List Nd → Option Sels} {n : Nd} (h : ¬ n.t.kind = 14) (h2 : ¬ n.t.kind = 11) : pseudoW rec n = none := by
  unfold pseudoW
  simp only [if_neg h]
  rw [if_pos h2]
theorem pseudoW_nth {rec : List Nd → Option Sels} {n : Nd} (h2 : n.t.kind = 11) (h : small n.t.word = nNth) : pseudoW rec n = (plcF n.kids).map (fun p => .mk 58 nNth nob nob [] p) := by
  unfold pseudoW
  simp only [if_neg (show ¬ n.t.kind = 14 by omega)]
  rw [if_neg (by omega), h, if_neg (by decide), if_pos rfl]
  unfold plcF plcD
  cases bare n.kids with
  | nil => rfl
  | cons x r => cases r <;> rfl
theorem pseudoW_list {rec : List Nd → Option Sels} {n : Nd} (h2 : n.t.kind = 11) (h : small n.t.word = nNot ∨ small n.t.word = nIs) : pseudoW rec n = (rec n.kids).map (fun l => .mk 58 (small n.t.word) nob nob l 0) := by
  unfold pseudoW
  simp only [if_neg (show ¬ n.t.kind = 14 by omega)]
  rw [if_neg (by omega), if_pos h]
theorem pseudoW_other {rec : List Nd → Option Sels} {n : Nd} (h2 : n.t.kind = 11) (h : ¬ small n.t.word = nNot) (h' : ¬ small n.t.word = nIs) (h3 : ¬ small n.t.word = nNth) : pseudoW rec n = none := by
  unfold pseudoW
  simp only [if_neg (show ¬ n.t.kind = 14 by omega)]
  rw [if_neg (by omega), if_neg (fun q => q.elim h h'), if_neg h3]
theorem frm_mono {w1 w2 w' : World} (h : w1.heap.size ≤ w2.heap.size) : ∀ g, Frm w2.heap.size w' g → Frm w1.heap.size w' g := fun _ hg => ⟨by have := hg.1; omega, hg.2⟩
theorem readState_c (f : Nat) (hR : RecP f) (B : Nat) (n : Nd) (kv : Value) (w : World) (hwd : n.t.word.size ≤ 4000000) (hS : Sl (fun b => b < B) w kv n.kids) (hB : B ≤ w.heap.size) (hd : n.t.kind = 11 → depth n.kids + 1 ≤ f) :
    Calls Tryz.prog 297 #[nodV n.t kv] w fun e w' => stP f (pseudoW (recF f) n) w w' e ∧ Below w.heap.size w w' := by
  have HR : Hid (RecP f) := hR
  have HD : Hid (n.t.kind = 11 → depth n.kids + 1 ≤ f) := hd
  obtain ⟨ka, kc, rfl⟩ := hS.form
  have A1 : Hid (VB (w.alloc (.cells #[.int .i64 n.t.kind, .string n.t.word, .string n.t.unit, .slice ka n.kids.length kc] 199)) w.heap.size (.int .i64 n.t.kind) (.string n.t.word) (.string n.t.unit) (.slice ka n.kids.length kc)) := VB.new _ _ _ _ _
  have B1 : Hid (Below w.heap.size w (w.alloc (.cells #[.int .i64 n.t.kind, .string n.t.word, .string n.t.unit, .slice ka n.kids.length kc] 199))) := (Below.refl _ _).alloc (Nat.le_refl _) _
  have S1 : Hid (Sl (fun b => b < B) (w.alloc (.cells #[.int .i64 n.t.kind, .string n.t.word, .string n.t.unit, .slice ka n.kids.length kc] 199)) (.slice ka n.kids.length kc) n.kids) := hS.below B1.out hB
  clear hR hd hS
  obtain ⟨nm, Hnm⟩ : ∃ nm, Hid (small n.t.word = nm) := ⟨_, hid rfl⟩
  unfold nodV
  go_enter Tryz.func297, Tryz.ntmps297
  go_upto_region 1 with fail
  generalize w.alloc (.cells #[.int .i64 n.t.kind, .string n.t.word, .string n.t.unit, .slice ka n.kids.length kc] 199) = w1 at *
  obtain ⟨gt, Hgt⟩ : ∃ gt, Hid (w.heap.size = gt) := ⟨_, hid rfl⟩
  have A2 : Hid (VB w1 gt (.int .i64 n.t.kind) (.string n.t.word) (.string n.t.unit) (.slice ka n.kids.length kc)) := by rw [← Hgt.out]; exact A1
  rw [Hgt.out]
  clear A1
  obtain ⟨a0, a1, a2, a3⟩ := A2.out.cs
  go_wp2_with fail
  refine (Small_c n.t.word _ (by omega)).mono ?_
  rw [Hnm.out]
  rintro e w2 ⟨rfl, hb2⟩
  have hs1 := B1.out.size
  have A3 : Hid (VB w2 gt (.int .i64 n.t.kind) (.string n.t.word) (.string n.t.unit) (.slice ka n.kids.length kc)) := A2.out.below hb2
  have B3 : Hid (Below w.heap.size w w2) := B1.out.trans (hb2.mono hs1)
  have S3 : Hid (Sl (fun b => b < B) w2 (.slice ka n.kids.length kc) n.kids) := S1.out.below hb2 (by omega)
  clear hb2 A2 B1 S1 a0 a1 a2 a3
  obtain ⟨a0, a1, a2, a3⟩ := A3.out.cs
  have hs3 := B3.out.size
  cases hk14 : (n.t.kind == 14)
  · cases hk11 : (n.t.kind != 11)
    · have e11 : n.t.kind = 11 := by simpa using hk11
      have E11 : Hid (n.t.kind = 11) := e11
      clear e11
      cases hnth : (nm.toList == [110, 116, 104, 45, 99, 104, 105, 108, 100])
      · have n3 : ¬ nm = nNth := by rw [bytes_lit] at hnth; simpa [nNth] using hnth
        cases hnot : (nm.toList == [110, 111, 116])
        · have n1 : ¬ nm = nNot := by rw [bytes_lit] at hnot; simpa [nNot] using hnot
          cases his : (nm.toList == [105, 115])
          · have n2 : ¬ nm = nIs := by rw [bytes_lit] at his; simpa [nIs] using his
            have HV : Hid (pseudoW (recF f) n = none) := pseudoW_other E11.out (by rw [Hnm.out]; exact n1) (by rw [Hnm.out]; exact n2) (by rw [Hnm.out]; exact n3)
            clear n1 n2 n3
            go_wp2_with fail
            go_ret2
            exact ⟨by rw [HV.out]; exact ⟨_, rfl⟩, B3.out⟩
          · have n2 : nm = nIs := by rw [bytes_lit] at his; simpa [nIs] using his
            obtain ⟨g, rfl⟩ : ∃ g, f = g + 1 := ⟨f - 1, by have := HD.out E11.out; omega⟩
            have HV : Hid (pseudoW (recF (g + 1)) n = (selF g n.kids).map (fun l => .mk 58 nIs nob nob l 0)) := by
              have := pseudoW_list (rec := recF (g + 1)) E11.out (.inr (by rw [Hnm.out]; exact n2))
              rw [Hnm.out, n2] at this; exact this
            clear n1 n2 n3
            go_wp2_with fail
            refine (HR.out B n.kids _ w2 (by have := HD.out E11.out; omega) S3.out (by omega)).mono ?_
            rintro e w4 ⟨hp, hb4⟩
            have B4 : Hid (Below w.heap.size w w4) := B3.out.trans (hb4.mono hs3)
            clear hb4
            unfold rdP at hp
            cases hsel : selF g n.kids with
            | none =>
              rw [hsel] at hp
              subst hp
              have HN : Hid (pseudoW (recF (g + 1)) n = none) := by show _ = _; rw [HV.out, hsel]; rfl
              clear hsel
              go_wp2_with fail
              go_ret2
              exact ⟨by rw [HN.out]; exact ⟨_, rfl⟩, B4.out⟩
            | some ss =>
              rw [hsel] at hp
              obtain ⟨sv, rfl, hsg⟩ := hp
              obtain ⟨sa, sc, rfl⟩ := hsg.form
              have HN : Hid (pseudoW (recF (g + 1)) n = some (.mk 58 nIs nob nob ss 0)) := by show _ = _; rw [HV.out, hsel]; rfl
              have HG : Hid (SG (PCx (PSim g)) 1 (Frm w.heap.size w4) w4 (.slice sa ss.length sc) ss) := hsg.keep (One.fair (PStp.fair (PSim.fair g))) (frm_mono hs3) fun _ _ => rfl
              clear hsel hsg
              go_wp2_with fail
              go_ret2
              exact ⟨by rw [HN.out]; exact ⟨_, rfl, _, by rw [partV_is]; rfl, HG.out⟩, B4.out⟩
        · have n2 : nm = nNot := by rw [bytes_lit] at hnot; simpa [nNot] using hnot
          obtain ⟨g, rfl⟩ : ∃ g, f = g + 1 := ⟨f - 1, by have := HD.out E11.out; omega⟩
          have HV : Hid (pseudoW (recF (g + 1)) n = (selF g n.kids).map (fun l => .mk 58 nNot nob nob l 0)) := by
            have := pseudoW_list (rec := recF (g + 1)) E11.out (.inl (by rw [Hnm.out]; exact n2))
            rw [Hnm.out, n2] at this; exact this
          clear n2 n3
          go_wp2_with fail
          refine (HR.out B n.kids _ w2 (by have := HD.out E11.out; omega) S3.out (by omega)).mono ?_
          rintro e w4 ⟨hp, hb4⟩
          have B4 : Hid (Below w.heap.size w w4) := B3.out.trans (hb4.mono hs3)
          clear hb4
          unfold rdP at hp
          cases hsel : selF g n.kids with
          | none =>
            rw [hsel] at hp
            subst hp
            have HN : Hid (pseudoW (recF (g + 1)) n = none) := by show _ = _; rw [HV.out, hsel]; rfl
            clear hsel
            go_wp2_with fail
            go_ret2
            exact ⟨by rw [HN.out]; exact ⟨_, rfl⟩, B4.out⟩
          | some ss =>
            rw [hsel] at hp
            obtain ⟨sv, rfl, hsg⟩ := hp
            obtain ⟨sa, sc, rfl⟩ := hsg.form
            have HN : Hid (pseudoW (recF (g + 1)) n = some (.mk 58 nNot nob nob ss 0)) := by show _ = _; rw [HV.out, hsel]; rfl
            have HG : Hid (SG (PCx (PSim g)) 1 (Frm w.heap.size w4) w4 (.slice sa ss.length sc) ss) := hsg.keep (One.fair (PStp.fair (PSim.fair g))) (frm_mono hs3) fun _ _ => rfl
            clear hsel hsg
            go_wp2_with fail
            go_ret2
            exact ⟨by rw [HN.out]; exact ⟨_, rfl, _, by rw [partV_not]; rfl, HG.out⟩, B4.out⟩
      · have n3 : nm = nNth := by rw [bytes_lit] at hnth; simpa [nNth] using hnth
        have HV : Hid (pseudoW (recF f) n = (plcF n.kids).map (fun p => .mk 58 nNth nob nob [] p)) := pseudoW_nth E11.out (by rw [Hnm.out]; exact n3)
        clear n3
        go_wp2_with fail
        refine (readPlace_c B n.kids _ w2 S3.out (by omega)).mono ?_
        rintro e w4 ⟨hp, hb4⟩
        have B4 : Hid (Below w.heap.size w w4) := B3.out.trans (hb4.mono hs3)
        clear hb4
        rcases hp with ⟨hn, pv, rfl⟩ | ⟨p, hn, rfl⟩
        · have HN : Hid (pseudoW (recF f) n = none) := by show _ = _; rw [HV.out, hn]; rfl
          clear hn
          go_wp2_with fail
          go_ret2
          exact ⟨by rw [HN.out]; exact ⟨_, rfl⟩, B4.out⟩
        · have HN : Hid (pseudoW (recF f) n = some (.mk 58 nNth nob nob [] p)) := by show _ = _; rw [HV.out, hn]; rfl
          clear hn
          go_wp2_with fail
          go_ret2
          exact ⟨by rw [HN.out]; exact ⟨_, rfl, PSim.plain _ _ _ _ _ _ _ _⟩, B4.out⟩
    · have HV : Hid (pseudoW (recF f) n = none) := pseudoW_no (by simpa using hk14) (by simpa using hk11)
      go_wp2_with fail
      go_ret2
      exact ⟨by rw [HV.out]; exact ⟨_, rfl⟩, B3.out⟩
  · have HV : Hid (pseudoW (recF f) n = if stB nm = true then some (Simple.of 58 nm) else none) := by
      have := pseudoW_id (rec := recF f) (n := n) (by simpa using hk14)
      rw [Hnm.out] at this; exact this
    go_wp2_with fail
    refine (isState_c nm _).mono ?_
    rintro e w4 ⟨rfl, rfl⟩
    obtain ⟨z, Hz⟩ : ∃ z, Hid (stB nm = z) := ⟨_, hid rfl⟩
    rw [Hz.out] at HV ⊢
    cases z
    · go_wp2_with fail
      go_ret2
      exact ⟨by rw [HV.out]; exact ⟨_, rfl⟩, B3.out⟩
    · go_wp2_with fail
      go_ret2
      refine ⟨?_, B3.out⟩
      rw [HV.out]
      refine ⟨_, rfl, ?_⟩
      have := PSim.plain f (Frm w.heap.size w4) w4 58 nm nob nob 0
      rw [partV_state Hz.out] at this
      exact this
end
section
attribute [local go_sem] fld_tok fld_ins fld_kind fld_word
def partF1 (rec : List Nd → Option Sels) (l : List Nd) : Option (Simple × List Nd) :=
  if (hdN l).t.kind = 4 then some (Simple.of 35 (hdN l).t.word, l.tail)
  else if signT (hdN l).t (b1 46) = true then (if (hdN l.tail).t.kind = 14 then some (Simple.of 46 (hdN l.tail).t.word, l.tail.tail) else none)
  else if signT (hdN l).t (b1 91) = true then (attrOf (bare (hdN l).kids)).map (fun s => (s, l.tail))
  else (pseudoW rec (hdN l.tail)).map (fun s => (s, l.tail.tail))
def ptP (f : Nat) (o : Option (Simple × List Nd)) (B b : Nat) (w w' : World) (e : Ending) : Prop :=
  match o with
  | none => ∃ pv sv l, e = .returned (.tuple #[pv, .bool false]) ∧ Rdr B w' b sv l
  | some (s, r) => ∃ pv sv, e = .returned (.tuple #[pv, .bool true]) ∧ Rdr B w' b sv r ∧ PSim f (Frm w.heap.size w') w' s [pv]
theorem partV_id (nm : ByteArray) (lv : Value) (p : Nat) : partV 35 nm nob nob lv p = .iface 332 (.agg #[.string nm]) := by
  unfold partV
  rw [if_neg (by omega), if_pos rfl]
theorem partV_class (nm : ByteArray) (lv : Value) (p : Nat) : partV 46 nm nob nob lv p = .iface 333 (.agg #[.string nm]) := by
  unfold partV
  rw [if_neg (by omega), if_neg (by omega), if_pos rfl]
def DepL (f : Nat) (l : List Nd) : Prop := ∀ n ∈ l, (n.t.kind = 11 → depth n.kids + 1 ≤ f) ∧ n.t.word.size ≤ 4000000
theorem DepL.hd {f : Nat} {l : List Nd} (h : DepL f l) : ((hdN l).t.kind = 11 → depth (hdN l).kids + 1 ≤ f) ∧ (hdN l).t.word.size ≤ 4000000 := by
  cases l with
  | nil => exact ⟨fun e => absurd e (by decide), by decide⟩
  | cons n r => exact h n (by simp)
theorem DepL.tail {f : Nat} {l : List Nd} (h : DepL f l) : DepL f l.tail := fun n hn => h n (List.mem_of_mem_tail hn)
theorem part_c (f : Nat) (hR : RecP f) (B b : Nat) (sv : Value) (l : List Nd) (w : World) (h : Rdr B w b sv l) (hd : DepL f l) :
    Calls Tryz.prog 257 #[.pointer (some ⟨b, 0, none⟩)] w fun e w' => ptP f (partF1 (recF f) l) B b w w' e ∧ Turn b w w' := by
  have R1 : Hid (Rdr B w b sv l) := h
  have HR : Hid (RecP f) := hR
  have HD : Hid (DepL f l) := hd
  have hbw : b < w.heap.size := h.lt
  have hBb : B ≤ b := h.lo
  clear h hR hd
  obtain ⟨n, Hn⟩ : ∃ n, Hid (hdN l = n) := ⟨_, hid rfl⟩
  obtain ⟨l1, Hl1⟩ : ∃ x, Hid (l.tail = x) := ⟨_, hid rfl⟩
  have HP : Hid (partF1 (recF f) l = if n.t.kind = 4 then some (Simple.of 35 n.t.word, l1) else if signT n.t (b1 46) = true then (if (hdN l1).t.kind = 14 then some (Simple.of 46 (hdN l1).t.word, l1.tail) else none) else if signT n.t (b1 91) = true then (attrOf (bare n.kids)).map (fun s => (s, l1)) else (pseudoW (recF f) (hdN l1)).map (fun s => (s, l1.tail))) := by
    show _ = _
    unfold partF1
    rw [Hn.out, Hl1.out]
  go_enter Tryz.func257, Tryz.ntmps257
  go_wp2_with fail
  refine (rtake_c B b _ l _ R1.out).mono ?_
  rw [Hn.out, Hl1.out]
  rintro e w2 ⟨kv2, sv2, rfl, hk2, hR2, hT2⟩
  obtain ⟨ka, kc, rfl⟩ := hk2.form
  have T2 : Hid (Turn b w w2) := hT2
  have R2 : Hid (Rdr B w2 b sv2 l1) := hR2
  have K2 : Hid (Sl (fun k => k < B) w2 (.slice ka n.kids.length kc) n.kids) := hk2
  clear hk2 hR2 hT2 R1
  unfold nodV
  have A3 : Hid (VB (w2.alloc (.cells #[.int .i64 n.t.kind, .string n.t.word, .string n.t.unit, .slice ka n.kids.length kc] 199)) w2.heap.size (.int .i64 n.t.kind) (.string n.t.word) (.string n.t.unit) (.slice ka n.kids.length kc)) := VB.new _ _ _ _ _
  have R3 : Hid (Rdr B (w2.alloc (.cells #[.int .i64 n.t.kind, .string n.t.word, .string n.t.unit, .slice ka n.kids.length kc] 199)) b sv2 l1) := R2.out.alloc _
  have T3 : Hid (Turn b w (w2.alloc (.cells #[.int .i64 n.t.kind, .string n.t.word, .string n.t.unit, .slice ka n.kids.length kc] 199))) := T2.out.alloc _
  have hb2 : b < w2.heap.size := R2.out.lt
  have K3 : Hid (Sl (fun k => k < B) (w2.alloc (.cells #[.int .i64 n.t.kind, .string n.t.word, .string n.t.unit, .slice ka n.kids.length kc] 199)) (.slice ka n.kids.length kc) n.kids) := K2.out.below ((Below.refl w2.heap.size w2).alloc (Nat.le_refl _) _) (by omega)
  clear R2 T2 K2
  go_upto_region 2 with fail
  generalize w2.alloc (.cells #[.int .i64 n.t.kind, .string n.t.word, .string n.t.unit, .slice ka n.kids.length kc] 199) = w3 at *
  generalize w2.heap.size = gn at *
  obtain ⟨a0, a1, a2, a3⟩ := A3.out.cs
  cases hk4 : (n.t.kind == 4)
  · have n4 : ¬ n.t.kind = 4 := by simpa using hk4
    have HP2 : Hid (partF1 (recF f) l = if signT n.t (b1 46) = true then (if (hdN l1).t.kind = 14 then some (Simple.of 46 (hdN l1).t.word, l1.tail) else none) else if signT n.t (b1 91) = true then (attrOf (bare n.kids)).map (fun s => (s, l1)) else (pseudoW (recF f) (hdN l1)).map (fun s => (s, l1.tail))) := by show _ = _; rw [HP.out, if_neg n4]
    clear n4 HP
    go_wp2_with fail
    refine (IsSign_c n.t _ (b1 46) _).mono ?_
    rintro e w4 ⟨rfl, hb4⟩
    have R4 : Hid (Rdr B w4 b sv2 l1) := R3.out.below hb4
    have T4 : Hid (Turn b w w4) := T3.out.trans (Turn.of_below hb4)
    have A4 : Hid (VB w4 gn (.int .i64 n.t.kind) (.string n.t.word) (.string n.t.unit) (.slice ka n.kids.length kc)) := A3.out.below hb4
    have K4 : Hid (Sl (fun k => k < B) w4 (.slice ka n.kids.length kc) n.kids) := K3.out.below hb4 (by have := R3.out.lt; omega)
    clear hb4 R3 T3 A3 K3 a0 a1 a2 a3
    obtain ⟨a0, a1, a2, a3⟩ := A4.out.cs
    obtain ⟨s1, Hs1⟩ : ∃ s, Hid (signT n.t (b1 46) = s) := ⟨_, hid rfl⟩
    rw [Hs1.out] at HP2 ⊢
    cases s1
    · have HP3 : Hid (partF1 (recF f) l = if signT n.t (b1 91) = true then (attrOf (bare n.kids)).map (fun s => (s, l1)) else (pseudoW (recF f) (hdN l1)).map (fun s => (s, l1.tail))) := by show _ = _; rw [HP2.out]; rfl
      clear HP2
      go_wp2_with fail
      refine (IsSign_c n.t _ (b1 91) _).mono ?_
      rintro e w5 ⟨rfl, hb5⟩
      have R5 : Hid (Rdr B w5 b sv2 l1) := R4.out.below hb5
      have T5 : Hid (Turn b w w5) := T4.out.trans (Turn.of_below hb5)
      have A5 : Hid (VB w5 gn (.int .i64 n.t.kind) (.string n.t.word) (.string n.t.unit) (.slice ka n.kids.length kc)) := A4.out.below hb5
      have K5 : Hid (Sl (fun k => k < B) w5 (.slice ka n.kids.length kc) n.kids) := K4.out.below hb5 (by have := R4.out.lt; omega)
      clear hb5 R4 T4 A4 K4 a0 a1 a2 a3
      obtain ⟨a0, a1, a2, a3⟩ := A5.out.cs
      have hb5 : b < w5.heap.size := R5.out.lt
      have hw5 : w.heap.size ≤ w5.heap.size := T5.out.size
      obtain ⟨s2, Hs2⟩ : ∃ s, Hid (signT n.t (b1 91) = s) := ⟨_, hid rfl⟩
      rw [Hs2.out] at HP3 ⊢
      cases s2
      · have HP4 : Hid (partF1 (recF f) l = (pseudoW (recF f) (hdN l1)).map (fun s => (s, l1.tail))) := by show _ = _; rw [HP3.out]; rfl
        clear HP3
        obtain ⟨m, Hm⟩ : ∃ m, Hid (hdN l1 = m) := ⟨_, hid rfl⟩
        have HDm : Hid ((m.t.kind = 11 → depth m.kids + 1 ≤ f) ∧ m.t.word.size ≤ 4000000) := by
          have := HD.out.tail
          rw [Hl1.out] at this
          have := this.hd
          rw [Hm.out] at this
          exact this
        rw [Hm.out] at HP4
        go_wp2_with fail
        refine (rtake_c B b _ l1 _ R5.out).mono ?_
        rw [Hm.out]
        rintro e w6 ⟨kv6, sv6, rfl, hk6, hR6, hT6⟩
        have R6 : Hid (Rdr B w6 b sv6 l1.tail) := hR6
        have T6 : Hid (Turn b w w6) := T5.out.trans hT6
        have K6 : Hid (Sl (fun k => k < B) w6 kv6 m.kids) := hk6
        have hw6 := T6.out.size
        clear hR6 hT6 hk6 R5 T5
        go_wp2_with fail
        refine (readState_c f HR.out B m kv6 w6 HDm.out.2 K6.out (by have := R6.out.lt; omega) HDm.out.1).mono ?_
        rintro e w7 ⟨hp, hb7⟩
        have R7 : Hid (Rdr B w7 b sv6 l1.tail) := R6.out.below hb7
        have T7 : Hid (Turn b w w7) := T6.out.trans (Turn.of_below hb7)
        clear hb7
        unfold stP at hp
        cases hq : pseudoW (recF f) m with
        | none =>
          rw [hq] at hp
          obtain ⟨pv, rfl⟩ := hp
          have HN : Hid (partF1 (recF f) l = none) := by show _ = _; rw [HP4.out, hq]; rfl
          clear hq
          go_wp2_with fail
          go_ret2
          exact ⟨by rw [HN.out]; exact ⟨_, _, _, rfl, R7.out⟩, T7.out⟩
        | some s =>
          rw [hq] at hp
          obtain ⟨pv, rfl, hps⟩ := hp
          have HN : Hid (partF1 (recF f) l = some (s, l1.tail)) := by show _ = _; rw [HP4.out, hq]; rfl
          have HPS : Hid (PSim f (Frm w.heap.size w7) w7 s [pv]) := PSim.fair f _ _ _ _ _ _ (frm_mono hw6) (fun _ _ => rfl) hps
          clear hq hps
          go_wp2_with fail
          go_ret2
          exact ⟨by rw [HN.out]; exact ⟨_, _, rfl, R7.out, HPS.out⟩, T7.out⟩
      · have HP4 : Hid (partF1 (recF f) l = (attrOf (bare n.kids)).map (fun s => (s, l1))) := by show _ = _; rw [HP3.out]; rfl
        clear HP3
        go_wp2_with fail
        refine (readAttr_c B n.kids _ w5 K5.out (by omega)).mono ?_
        rintro e w7 ⟨hp, hb7⟩
        have R7 : Hid (Rdr B w7 b sv2 l1) := R5.out.below hb7
        have T7 : Hid (Turn b w w7) := T5.out.trans (Turn.of_below hb7)
        clear hb7
        unfold atrP at hp
        cases hq : attrOf (bare n.kids) with
        | none =>
          rw [hq] at hp
          obtain ⟨pv, rfl⟩ := hp
          have HN : Hid (partF1 (recF f) l = none) := by show _ = _; rw [HP4.out, hq]; rfl
          clear hq
          go_wp2_with fail
          go_ret2
          exact ⟨by rw [HN.out]; exact ⟨_, _, _, rfl, R7.out⟩, T7.out⟩
        | some s =>
          have hs0 : ∃ nm h v, s = .mk 91 nm h v [] 0 := by
            rw [atr_eq (NBl.of_bare _)] at hq
            unfold atrF at hq
            split at hq
            · split at hq
              · cases hq; exact ⟨_, _, _, rfl⟩
              · cases hq
            · split at hq
              · cases hq; exact ⟨_, _, _, rfl⟩
              · cases hq
          obtain ⟨nm, hw, v, rfl⟩ := hs0
          rw [hq] at hp
          have hp' : e = .returned (.tuple #[partV 91 nm hw v (.slice none 0 0) 0, .bool true]) := hp
          subst hp'
          have HN : Hid (partF1 (recF f) l = some (.mk 91 nm hw v [] 0, l1)) := by show _ = _; rw [HP4.out, hq]; rfl
          clear hq hp
          go_wp2_with fail
          go_ret2
          exact ⟨by rw [HN.out]; exact ⟨_, _, rfl, R7.out, PSim.plain _ _ _ _ _ _ _ _⟩, T7.out⟩
    · have HP3 : Hid (partF1 (recF f) l = if (hdN l1).t.kind = 14 then some (Simple.of 46 (hdN l1).t.word, l1.tail) else none) := by show _ = _; rw [HP2.out]; rfl
      clear HP2
      obtain ⟨m, Hm⟩ : ∃ m, Hid (hdN l1 = m) := ⟨_, hid rfl⟩
      rw [Hm.out] at HP3
      go_wp2_with fail
      refine (rtake_c B b _ l1 _ R4.out).mono ?_
      rw [Hm.out]
      rintro e w6 ⟨kv6, sv6, rfl, hk6, hR6, hT6⟩
      obtain ⟨ma, mc, rfl⟩ := hk6.form
      have R6 : Hid (Rdr B w6 b sv6 l1.tail) := hR6
      have T6 : Hid (Turn b w w6) := T4.out.trans hT6
      clear hR6 hT6 hk6 R4 T4
      unfold nodV
      have M7 : Hid (VB (w6.alloc (.cells #[.int .i64 m.t.kind, .string m.t.word, .string m.t.unit, .slice ma m.kids.length mc] 199)) w6.heap.size (.int .i64 m.t.kind) (.string m.t.word) (.string m.t.unit) (.slice ma m.kids.length mc)) := VB.new _ _ _ _ _
      have R7 : Hid (Rdr B (w6.alloc (.cells #[.int .i64 m.t.kind, .string m.t.word, .string m.t.unit, .slice ma m.kids.length mc] 199)) b sv6 l1.tail) := R6.out.alloc _
      have T7 : Hid (Turn b w (w6.alloc (.cells #[.int .i64 m.t.kind, .string m.t.word, .string m.t.unit, .slice ma m.kids.length mc] 199))) := T6.out.alloc _
      clear R6 T6
      go_upto_region 6 with fail
      generalize w6.alloc (.cells #[.int .i64 m.t.kind, .string m.t.word, .string m.t.unit, .slice ma m.kids.length mc] 199) = w7 at *
      generalize w6.heap.size = gm at *
      clear a0 a1 a2 a3
      obtain ⟨a0, a1, a2, a3⟩ := M7.out.cs
      cases hk14 : (m.t.kind == 14)
      · have HN : Hid (partF1 (recF f) l = none) := by show _ = _; rw [HP3.out, if_neg (by simpa using hk14)]
        go_quiet (fail)
        go_wp2_with fail
        go_ret2
        exact ⟨by rw [HN.out]; exact ⟨_, _, _, rfl, R7.out.below ⟨rfl, rfl, rfl, Nat.le_refl _, fun _ _ => rfl⟩⟩, T7.out.drewN _⟩
      · have HN : Hid (partF1 (recF f) l = some (Simple.of 46 m.t.word, l1.tail)) := by show _ = _; rw [HP3.out, if_pos (by simpa using hk14)]
        go_quiet (fail)
        go_wp2_with fail
        go_ret2
        refine ⟨?_, T7.out.drewN _⟩
        rw [HN.out]
        refine ⟨_, _, rfl, R7.out.below ⟨rfl, rfl, rfl, Nat.le_refl _, fun _ _ => rfl⟩, ?_⟩
        exact (partV_class m.t.word (.slice none 0 0) 0) ▸ PSim.plain f _ _ 46 m.t.word nob nob 0
  · have HN : Hid (partF1 (recF f) l = some (Simple.of 35 n.t.word, l1)) := by show _ = _; rw [HP.out, if_pos (by simpa using hk4)]
    go_wp2_with fail
    go_ret2
    refine ⟨?_, T3.out⟩
    rw [HN.out]
    refine ⟨_, _, rfl, R3.out, ?_⟩
    exact (partV_id n.t.word (.slice none 0 0) 0) ▸ PSim.plain f _ _ 35 n.t.word nob nob 0
end
end Go.Proofs.YtlliliddljkbfaaGreat
