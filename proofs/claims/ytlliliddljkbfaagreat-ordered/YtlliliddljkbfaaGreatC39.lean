import Derived.Test.YtlliliddljkbfaaGreatC5
import Derived.Test.YtlliliddljkbfaaGreatC8
import Derived.Test.YtlliliddljkbfaaGreatC21
import Derived.Test.YtlliliddljkbfaaGreatC24
import Derived.Test.YtlliliddljkbfaaGreatC25
import Derived.Test.YtlliliddljkbfaaGreatC26
import Derived.Test.YtlliliddljkbfaaGreatC32
import Derived.Test.YtlliliddljkbfaaGreatC36
namespace Go.Proofs.YtlliliddljkbfaaGreat
set_option maxHeartbeats 64000000
set_option maxRecDepth 100000
open Go.RowKit Sp
def jps (sep : ByteArray) (ps : List ByteArray) : Nat → List ByteArray
  | 0 => []
  | k + 1 => jps sep ps k ++ ((if k = 0 then [] else [sep]) ++ [ps.getD k nob])
def jtot (sep : ByteArray) (ps : List ByteArray) : Nat := total ps + ps.length * sep.size
section
section
variable (nm : ByteArray) (w : World)
end
def A3 (w : World) (b : Nat) (x0 x1 x2 : Value) : Prop := w.heap[b]? = some (.cells #[x0, x1, x2] 341 (0, 0))
theorem A3.cs {w : World} {b : Nat} {x0 x1 x2 : Value} (h : A3 w b x0 x1 x2) : w.cell? ⟨b, 0, none⟩ = some x0 ∧ w.cell? ⟨b, 1, none⟩ = some x1 ∧ w.cell? ⟨b, 2, none⟩ = some x2 := by
  have h' : w.heap[b]? = _ := h
  refine ⟨?_, ?_, ?_⟩ <;> (unfold World.cell?; rw [h']; rfl)
theorem A3.lt {w : World} {b : Nat} {x0 x1 x2 : Value} (h : A3 w b x0 x1 x2) : b < w.heap.size := (Array.getElem?_eq_some_iff.1 h).1
theorem A3.below {w w' : World} {b : Nat} {x0 x1 x2 : Value} (h : A3 w b x0 x1 x2) (hb : Below w.heap.size w w') : A3 w' b x0 x1 x2 := by
  show _ = _; rw [hb.block b h.lt]; exact h
theorem A3.new (w : World) (x0 x1 x2 : Value) : A3 (w.alloc (.cells #[x0, x1, x2] 341)) w.heap.size x0 x1 x2 := heap_alloc_new w _
end
def ItoaOK (w : World) : Prop := ∀ (n : Nat) (w' : World), n ≤ 1000 → Below w.heap.size w w' → Calls Tryz.prog 376 #[.int .i64 (n : Int)] w' fun e w'' => e = .returned (.string (decO n)) ∧ Below w'.heap.size w' w''
theorem ItoaOK.below {w w' : World} {g : Nat} (h : ItoaOK w) (hb : Below g w w') (hg : w.heap.size ≤ g) : ItoaOK w' := fun n w2 hn hb2 => h n w2 hn ((hb.mono hg).trans (hb2.mono (Nat.le_trans (Nat.le_refl _) hb.size)))
def P2 (w : World) (b : Nat) (x0 x1 : Value) : Prop := w.heap[b]? = some (.cells #[x0, x1] 351 (0, 0))
theorem P2.cs {w : World} {b : Nat} {x0 x1 : Value} (h : P2 w b x0 x1) : w.cell? ⟨b, 0, none⟩ = some x0 ∧ w.cell? ⟨b, 1, none⟩ = some x1 := by
  have h' : w.heap[b]? = _ := h
  refine ⟨?_, ?_⟩ <;> (unfold World.cell?; rw [h']; rfl)
theorem P2.new (w : World) (x0 x1 : Value) : P2 (w.alloc (.cells #[x0, x1] 351)) w.heap.size x0 x1 := heap_alloc_new w _
end Go.Proofs.YtlliliddljkbfaaGreat
namespace Go.Proofs.YtlliliddljkbfaaGreat.Sp
set_option maxHeartbeats 64000000
set_option maxRecDepth 100000
mutual
def okN : Nd → Prop
  | .mk t k => TokOK t ∧ okNs k
def okNs : List Nd → Prop
  | [] => True
  | n :: r => okN n ∧ okNs r
end
structure SimN (k : Nat) (v : ByteArray) (p : Nat) : Prop where
  kind : k = 116 ∨ k = 35 ∨ k = 46 ∨ k = 91 ∨ k = 58
  val : v.size ≤ 4000000
  place : p ≤ 1001
mutual
def okS : Simple → Prop
  | .mk k _ _ v l p => SimN k v p ∧ okL l
def okA : List Simple → Prop
  | [] => True
  | s :: r => okS s ∧ okA r
def okT : Nat × List Simple → Prop
  | (b, all) => b < 256 ∧ okA all
def okC : List (Nat × List Simple) → Prop
  | [] => True
  | s :: r => okT s ∧ okC r
def okL : List (List (Nat × List Simple)) → Prop
  | [] => True
  | c :: r => (c ≠ [] ∧ okC c) ∧ okL r
end
section
variable {rec : List Nd → Option Sels} (hrec : ∀ l ss, okNs l → rec l = some ss → okL ss)
include hrec
end
end Go.Proofs.YtlliliddljkbfaaGreat.Sp
namespace Go.Proofs.YtlliliddljkbfaaGreat.Sp
set_option maxHeartbeats 64000000
set_option maxRecDepth 100000
def HowOK (h : ByteArray) : Prop := h = nob ∨ h = b1 61 ∨ h = ⟨#[126, 61]⟩ ∨ h = ⟨#[94, 61]⟩ ∨ h = ⟨#[36, 61]⟩ ∨ h = ⟨#[42, 61]⟩
def StOK (nm : ByteArray) : Prop := nm = nRoot ∨ nm = nFirst ∨ nm = nLast ∨ nm = nEmpty ∨ nm = nNot ∨ nm = nIs ∨ nm = nNth
def CbOK (b : Nat) : Prop := b = 32 ∨ b = 62 ∨ b = 43 ∨ b = 126
structure PrN (k : Nat) (nm how v : ByteArray) (p : Nat) : Prop where
  kind : k = 116 ∨ (k = 35 ∧ nm ≠ nob) ∨ k = 46 ∨ (k = 91 ∧ HowOK how) ∨ (k = 58 ∧ StOK nm)
  val : v.size ≤ 4000000
  place : p ≤ 1001
  nmz : nm.size ≤ 4000000
  hwz : how.size ≤ 10
mutual
def qkS : Simple → Prop
  | .mk k nm how v l p => PrN k nm how v p ∧ qkL l
def qkA : List Simple → Prop
  | [] => True
  | s :: r => qkS s ∧ qkA r
def qkC : List (Nat × List Simple) → Prop
  | [] => False
  | (b, all) :: r => b = 0 ∧ qkA all ∧ qkR r
def qkR : List (Nat × List Simple) → Prop
  | [] => True
  | (b, all) :: r => CbOK b ∧ qkA all ∧ qkR r
def qkL : List (List (Nat × List Simple)) → Prop
  | [] => True
  | c :: r => qkC c ∧ qkL r
end
section
variable {rec : List Nd → Option Sels} (hrec : ∀ l ss, okNs l → rec l = some ss → qkL ss)
include hrec
end
end Go.Proofs.YtlliliddljkbfaaGreat.Sp
namespace Go.Proofs.YtlliliddljkbfaaGreat
set_option maxHeartbeats 64000000
set_option maxRecDepth 100000
open Go.RowKit Sp
mutual
def zS : Simple → Nat
  | .mk _ nm how v l _ => 4 * nm.size + 4 * v.size + how.size + 120 + zL l
def zA : List Simple → Nat
  | [] => 0
  | s :: r => zS s + zA r
def zT : Nat × List Simple → Nat
  | (_, all) => 3 + zA all
def zC : List (Nat × List Simple) → Nat
  | [] => 0
  | t :: r => zT t + zC r
def zL : List (List (Nat × List Simple)) → Nat
  | [] => 0
  | c :: r => 1 + zC c + zL r
end
def DecSz : Prop := ∀ n, n ≤ 1000 → (decO n).size ≤ 100
section
attribute [local go_sem] fld_tok fld_ins fld_kind fld_word
def partF1 (rec : List Nd → Option Sels) (l : List Nd) : Option (Simple × List Nd) :=
  if (hdN l).t.kind = 4 then some (Simple.of 35 (hdN l).t.word, l.tail)
  else if signT (hdN l).t (b1 46) = true then (if (hdN l.tail).t.kind = 14 then some (Simple.of 46 (hdN l.tail).t.word, l.tail.tail) else none)
  else if signT (hdN l).t (b1 91) = true then (attrOf (bare (hdN l).kids)).map (fun s => (s, l.tail))
  else (pseudoW rec (hdN l.tail)).map (fun s => (s, l.tail.tail))
def ptP (f : Nat) (o : Option (Simple × List Nd)) (B b : Nat) (w w' : World) (e : Ending) : Prop :=
  match o with
  | none => ∃ pv sv l, e = .returned (.tuple #[pv, .bool false]) ∧ Rdr B w' b sv l
  | some (s, r) => ∃ pv sv, e = .returned (.tuple #[pv, .bool true]) ∧ Rdr B w' b sv r ∧ PSim f (Frm w.heap.size w') w' s [pv]
theorem partV_id (nm : ByteArray) (lv : Value) (p : Nat) : partV 35 nm nob nob lv p = .iface 332 (.agg #[.string nm]) := by
  unfold partV
  rw [if_neg (by omega), if_pos rfl]
theorem partV_class (nm : ByteArray) (lv : Value) (p : Nat) : partV 46 nm nob nob lv p = .iface 333 (.agg #[.string nm]) := by
  unfold partV
  rw [if_neg (by omega), if_neg (by omega), if_pos rfl]
def DepL (f : Nat) (l : List Nd) : Prop := ∀ n ∈ l, (n.t.kind = 11 → depth n.kids + 1 ≤ f) ∧ n.t.word.size ≤ 4000000
theorem DepL.hd {f : Nat} {l : List Nd} (h : DepL f l) : ((hdN l).t.kind = 11 → depth (hdN l).kids + 1 ≤ f) ∧ (hdN l).t.word.size ≤ 4000000 := by
  cases l with
  | nil => exact ⟨fun e => absurd e (by decide), by decide⟩
  | cons n r => exact h n (by simp)
theorem DepL.tail {f : Nat} {l : List Nd} (h : DepL f l) : DepL f l.tail := fun n hn => h n (List.mem_of_mem_tail hn)
theorem part_c (f : Nat) (hR : RecP f) (B b : Nat) (sv : Value) (l : List Nd) (w : World) (h : Rdr B w b sv l) (hd : DepL f l) :
    Calls Tryz.prog 257 #[.pointer (some ⟨b, 0, none⟩)] w fun e w' => ptP f (partF1 (recF f) l) B b w w' e ∧ Turn b w w' := by
  have R1 : Hid (Rdr B w b sv l) := h
  have HR : Hid (RecP f) := hR
  have HD : Hid (DepL f l) := hd
  have hbw : b < w.heap.size := h.lt
  have hBb : B ≤ b := h.lo
  clear h hR hd
  obtain ⟨n, Hn⟩ : ∃ n, Hid (hdN l = n) := ⟨_, hid rfl⟩
  obtain ⟨l1, Hl1⟩ : ∃ x, Hid (l.tail = x) := ⟨_, hid rfl⟩
  have HP : Hid (partF1 (recF f) l = if n.t.kind = 4 then some (Simple.of 35 n.t.word, l1) else if signT n.t (b1 46) = true then (if (hdN l1).t.kind = 14 then some (Simple.of 46 (hdN l1).t.word, l1.tail) else none) else if signT n.t (b1 91) = true then (attrOf (bare n.kids)).map (fun s => (s, l1)) else (pseudoW (recF f) (hdN l1)).map (fun s => (s, l1.tail))) := by
    show _ = _
    unfold partF1
    rw [Hn.out, Hl1.out]
  go_enter Tryz.func257, Tryz.ntmps257
  go_wp2_with fail
  refine (rtake_c B b _ l _ R1.out).mono ?_
  rw [Hn.out, Hl1.out]
  rintro e w2 ⟨kv2, sv2, rfl, hk2, hR2, hT2⟩
  obtain ⟨ka, kc, rfl⟩ := hk2.form
  have T2 : Hid (Turn b w w2) := hT2
  have R2 : Hid (Rdr B w2 b sv2 l1) := hR2
  have K2 : Hid (Sl (fun k => k < B) w2 (.slice ka n.kids.length kc) n.kids) := hk2
  clear hk2 hR2 hT2 R1
  unfold nodV
  have A3 : Hid (VB (w2.alloc (.cells #[.int .i64 n.t.kind, .string n.t.word, .string n.t.unit, .slice ka n.kids.length kc] 199)) w2.heap.size (.int .i64 n.t.kind) (.string n.t.word) (.string n.t.unit) (.slice ka n.kids.length kc)) := VB.new _ _ _ _ _
  have R3 : Hid (Rdr B (w2.alloc (.cells #[.int .i64 n.t.kind, .string n.t.word, .string n.t.unit, .slice ka n.kids.length kc] 199)) b sv2 l1) := R2.out.alloc _
  have T3 : Hid (Turn b w (w2.alloc (.cells #[.int .i64 n.t.kind, .string n.t.word, .string n.t.unit, .slice ka n.kids.length kc] 199))) := T2.out.alloc _
  have hb2 : b < w2.heap.size := R2.out.lt
  have K3 : Hid (Sl (fun k => k < B) (w2.alloc (.cells #[.int .i64 n.t.kind, .string n.t.word, .string n.t.unit, .slice ka n.kids.length kc] 199)) (.slice ka n.kids.length kc) n.kids) := K2.out.below ((Below.refl w2.heap.size w2).alloc (Nat.le_refl _) _) (by omega)
  clear R2 T2 K2
  go_upto_region 2 with fail
  generalize w2.alloc (.cells #[.int .i64 n.t.kind, .string n.t.word, .string n.t.unit, .slice ka n.kids.length kc] 199) = w3 at *
  generalize w2.heap.size = gn at *
  obtain ⟨a0, a1, a2, a3⟩ := A3.out.cs
  cases hk4 : (n.t.kind == 4)
  · have n4 : ¬ n.t.kind = 4 := by simpa using hk4
    have HP2 : Hid (partF1 (recF f) l = if signT n.t (b1 46) = true then (if (hdN l1).t.kind = 14 then some (Simple.of 46 (hdN l1).t.word, l1.tail) else none) else if signT n.t (b1 91) = true then (attrOf (bare n.kids)).map (fun s => (s, l1)) else (pseudoW (recF f) (hdN l1)).map (fun s => (s, l1.tail))) := by show _ = _; rw [HP.out, if_neg n4]
    clear n4 HP
    go_wp2_with fail
    refine (IsSign_c n.t _ (b1 46) _).mono ?_
    rintro e w4 ⟨rfl, hb4⟩
    have R4 : Hid (Rdr B w4 b sv2 l1) := R3.out.below hb4
    have T4 : Hid (Turn b w w4) := T3.out.trans (Turn.of_below hb4)
    have A4 : Hid (VB w4 gn (.int .i64 n.t.kind) (.string n.t.word) (.string n.t.unit) (.slice ka n.kids.length kc)) := A3.out.below hb4
    have K4 : Hid (Sl (fun k => k < B) w4 (.slice ka n.kids.length kc) n.kids) := K3.out.below hb4 (by have := R3.out.lt; omega)
    clear hb4 R3 T3 A3 K3 a0 a1 a2 a3
    obtain ⟨a0, a1, a2, a3⟩ := A4.out.cs
    obtain ⟨s1, Hs1⟩ : ∃ s, Hid (signT n.t (b1 46) = s) := ⟨_, hid rfl⟩
    rw [Hs1.out] at HP2 ⊢
    cases s1
    · have HP3 : Hid (partF1 (recF f) l = if signT n.t (b1 91) = true then (attrOf (bare n.kids)).map (fun s => (s, l1)) else (pseudoW (recF f) (hdN l1)).map (fun s => (s, l1.tail))) := by show _ = _; rw [HP2.out]; rfl
      clear HP2
      go_wp2_with fail
      refine (IsSign_c n.t _ (b1 91) _).mono ?_
      rintro e w5 ⟨rfl, hb5⟩
      have R5 : Hid (Rdr B w5 b sv2 l1) := R4.out.below hb5
      have T5 : Hid (Turn b w w5) := T4.out.trans (Turn.of_below hb5)
      have A5 : Hid (VB w5 gn (.int .i64 n.t.kind) (.string n.t.word) (.string n.t.unit) (.slice ka n.kids.length kc)) := A4.out.below hb5
      have K5 : Hid (Sl (fun k => k < B) w5 (.slice ka n.kids.length kc) n.kids) := K4.out.below hb5 (by have := R4.out.lt; omega)
      clear hb5 R4 T4 A4 K4 a0 a1 a2 a3
      obtain ⟨a0, a1, a2, a3⟩ := A5.out.cs
      have hb5 : b < w5.heap.size := R5.out.lt
      have hw5 : w.heap.size ≤ w5.heap.size := T5.out.size
      obtain ⟨s2, Hs2⟩ : ∃ s, Hid (signT n.t (b1 91) = s) := ⟨_, hid rfl⟩
      rw [Hs2.out] at HP3 ⊢
      cases s2
      · have HP4 : Hid (partF1 (recF f) l = (pseudoW (recF f) (hdN l1)).map (fun s => (s, l1.tail))) := by show _ = _; rw [HP3.out]; rfl
        clear HP3
        obtain ⟨m, Hm⟩ : ∃ m, Hid (hdN l1 = m) := ⟨_, hid rfl⟩
        have HDm : Hid ((m.t.kind = 11 → depth m.kids + 1 ≤ f) ∧ m.t.word.size ≤ 4000000) := by
          have := HD.out.tail
          rw [Hl1.out] at this
          have := this.hd
          rw [Hm.out] at this
          exact this
        rw [Hm.out] at HP4
        go_wp2_with fail
        refine (rtake_c B b _ l1 _ R5.out).mono ?_
        rw [Hm.out]
        rintro e w6 ⟨kv6, sv6, rfl, hk6, hR6, hT6⟩
        have R6 : Hid (Rdr B w6 b sv6 l1.tail) := hR6
        have T6 : Hid (Turn b w w6) := T5.out.trans hT6
        have K6 : Hid (Sl (fun k => k < B) w6 kv6 m.kids) := hk6
        have hw6 := T6.out.size
        clear hR6 hT6 hk6 R5 T5
        go_wp2_with fail
        refine (readState_c f HR.out B m kv6 w6 HDm.out.2 K6.out (by have := R6.out.lt; omega) HDm.out.1).mono ?_
        rintro e w7 ⟨hp, hb7⟩
        have R7 : Hid (Rdr B w7 b sv6 l1.tail) := R6.out.below hb7
        have T7 : Hid (Turn b w w7) := T6.out.trans (Turn.of_below hb7)
        clear hb7
        unfold stP at hp
        cases hq : pseudoW (recF f) m with
        | none =>
          rw [hq] at hp
          obtain ⟨pv, rfl⟩ := hp
          have HN : Hid (partF1 (recF f) l = none) := by show _ = _; rw [HP4.out, hq]; rfl
          clear hq
          go_wp2_with fail
          go_ret2
          exact ⟨by rw [HN.out]; exact ⟨_, _, _, rfl, R7.out⟩, T7.out⟩
        | some s =>
          rw [hq] at hp
          obtain ⟨pv, rfl, hps⟩ := hp
          have HN : Hid (partF1 (recF f) l = some (s, l1.tail)) := by show _ = _; rw [HP4.out, hq]; rfl
          have HPS : Hid (PSim f (Frm w.heap.size w7) w7 s [pv]) := PSim.fair f _ _ _ _ _ _ (frm_mono hw6) (fun _ _ => rfl) hps
          clear hq hps
          go_wp2_with fail
          go_ret2
          exact ⟨by rw [HN.out]; exact ⟨_, _, rfl, R7.out, HPS.out⟩, T7.out⟩
      · have HP4 : Hid (partF1 (recF f) l = (attrOf (bare n.kids)).map (fun s => (s, l1))) := by show _ = _; rw [HP3.out]; rfl
        clear HP3
        go_wp2_with fail
        refine (readAttr_c B n.kids _ w5 K5.out (by omega)).mono ?_
        rintro e w7 ⟨hp, hb7⟩
        have R7 : Hid (Rdr B w7 b sv2 l1) := R5.out.below hb7
        have T7 : Hid (Turn b w w7) := T5.out.trans (Turn.of_below hb7)
        clear hb7
        unfold atrP at hp
        cases hq : attrOf (bare n.kids) with
        | none =>
          rw [hq] at hp
          obtain ⟨pv, rfl⟩ := hp
          have HN : Hid (partF1 (recF f) l = none) := by show _ = _; rw [HP4.out, hq]; rfl
          clear hq
          go_wp2_with fail
          go_ret2
          exact ⟨by rw [HN.out]; exact ⟨_, _, _, rfl, R7.out⟩, T7.out⟩
        | some s =>
          have hs0 : ∃ nm h v, s = .mk 91 nm h v [] 0 := by
            rw [atr_eq (NBl.of_bare _)] at hq
            unfold atrF at hq
            split at hq
            · split at hq
              · cases hq; exact ⟨_, _, _, rfl⟩
              · cases hq
            · split at hq
              · cases hq; exact ⟨_, _, _, rfl⟩
              · cases hq
          obtain ⟨nm, hw, v, rfl⟩ := hs0
          rw [hq] at hp
          have hp' : e = .returned (.tuple #[partV 91 nm hw v (.slice none 0 0) 0, .bool true]) := hp
          subst hp'
          have HN : Hid (partF1 (recF f) l = some (.mk 91 nm hw v [] 0, l1)) := by show _ = _; rw [HP4.out, hq]; rfl
          clear hq hp
          go_wp2_with fail
          go_ret2
          exact ⟨by rw [HN.out]; exact ⟨_, _, rfl, R7.out, PSim.plain _ _ _ _ _ _ _ _⟩, T7.out⟩
    · have HP3 : Hid (partF1 (recF f) l = if (hdN l1).t.kind = 14 then some (Simple.of 46 (hdN l1).t.word, l1.tail) else none) := by show _ = _; rw [HP2.out]; rfl
      clear HP2
      obtain ⟨m, Hm⟩ : ∃ m, Hid (hdN l1 = m) := ⟨_, hid rfl⟩
      rw [Hm.out] at HP3
      go_wp2_with fail
      refine (rtake_c B b _ l1 _ R4.out).mono ?_
      rw [Hm.out]
      rintro e w6 ⟨kv6, sv6, rfl, hk6, hR6, hT6⟩
      obtain ⟨ma, mc, rfl⟩ := hk6.form
      have R6 : Hid (Rdr B w6 b sv6 l1.tail) := hR6
      have T6 : Hid (Turn b w w6) := T4.out.trans hT6
      clear hR6 hT6 hk6 R4 T4
      unfold nodV
      have M7 : Hid (VB (w6.alloc (.cells #[.int .i64 m.t.kind, .string m.t.word, .string m.t.unit, .slice ma m.kids.length mc] 199)) w6.heap.size (.int .i64 m.t.kind) (.string m.t.word) (.string m.t.unit) (.slice ma m.kids.length mc)) := VB.new _ _ _ _ _
      have R7 : Hid (Rdr B (w6.alloc (.cells #[.int .i64 m.t.kind, .string m.t.word, .string m.t.unit, .slice ma m.kids.length mc] 199)) b sv6 l1.tail) := R6.out.alloc _
      have T7 : Hid (Turn b w (w6.alloc (.cells #[.int .i64 m.t.kind, .string m.t.word, .string m.t.unit, .slice ma m.kids.length mc] 199))) := T6.out.alloc _
      clear R6 T6
      go_upto_region 6 with fail
      generalize w6.alloc (.cells #[.int .i64 m.t.kind, .string m.t.word, .string m.t.unit, .slice ma m.kids.length mc] 199) = w7 at *
      generalize w6.heap.size = gm at *
      clear a0 a1 a2 a3
      obtain ⟨a0, a1, a2, a3⟩ := M7.out.cs
      cases hk14 : (m.t.kind == 14)
      · have HN : Hid (partF1 (recF f) l = none) := by show _ = _; rw [HP3.out, if_neg (by simpa using hk14)]
        go_quiet (fail)
        go_wp2_with fail
        go_ret2
        exact ⟨by rw [HN.out]; exact ⟨_, _, _, rfl, R7.out.below ⟨rfl, rfl, rfl, Nat.le_refl _, fun _ _ => rfl⟩⟩, T7.out.drewN _⟩
      · have HN : Hid (partF1 (recF f) l = some (Simple.of 46 m.t.word, l1.tail)) := by show _ = _; rw [HP3.out, if_pos (by simpa using hk14)]
        go_quiet (fail)
        go_wp2_with fail
        go_ret2
        refine ⟨?_, T7.out.drewN _⟩
        rw [HN.out]
        refine ⟨_, _, rfl, R7.out.below ⟨rfl, rfl, rfl, Nat.le_refl _, fun _ _ => rfl⟩, ?_⟩
        exact (partV_class m.t.word (.slice none 0 0) 0) ▸ PSim.plain f _ _ 46 m.t.word nob nob 0
  · have HN : Hid (partF1 (recF f) l = some (Simple.of 35 n.t.word, l1)) := by show _ = _; rw [HP.out, if_pos (by simpa using hk4)]
    go_wp2_with fail
    go_ret2
    refine ⟨?_, T3.out⟩
    rw [HN.out]
    refine ⟨_, _, rfl, R3.out, ?_⟩
    exact (partV_id n.t.word (.slice none 0 0) 0) ▸ PSim.plain f _ _ 35 n.t.word nob nob 0
end
section
attribute [local go_sem] fld_tok fld_ins fld_kind fld_word
theorem info_part : ∃ i, Tryz.prog.info? 222 = some i ∧ i.zero = some .nilIface ∧ i.size = 1 ∧ i.bytes = 16 := info_parts (by kernel_rfl)
theorem folB_nil : folB (hdN []).t = false := by decide
theorem partsW_step (rec : List Nd → Option Sels) (acc : List Simple) (l : List Nd) : partsW rec acc l = if folB (hdN l).t = true then (match partF1 rec l with | none => none | some (s, r) => partsW rec (acc ++ [s]) r) else some (acc, l) := by
  have hf : ∀ n r, hdN (n :: r) = n := fun _ _ => rfl
  match l with
  | [] => rw [folB_nil]; unfold partsW; rfl
  | [n] =>
    rw [hf]
    unfold folB partF1
    simp only [hf, List.tail_cons, List.tail_nil]
    by_cases h4 : n.t.kind = 4
    · unfold partsW; simp only [h4, decide_true, Bool.true_or, if_true]
    · cases h46 : signT n.t (b1 46)
      · cases h91 : signT n.t (b1 91)
        · cases h58 : signT n.t (b1 58)
          · unfold partsW; simp [sgnN, h4, h46, h91, h58]
          · unfold partsW; simp [sgnN, h4, h46, h91, h58, pseudoW_no, kind0]
        · unfold partsW; simp only [sgnN, h4, h46, h91, decide_false, Bool.false_or, Bool.or_true, Bool.true_or, if_true, Bool.false_eq_true, if_false]
          cases attrOf (bare n.kids) with
          | none => rfl
          | some s => simp only [Option.map_some]
      · unfold partsW; simp [sgnN, h4, h46, kind0]
  | n :: m :: r =>
    rw [hf]
    unfold folB partF1
    simp only [hf, List.tail_cons]
    conv => lhs; unfold partsW
    by_cases h4 : n.t.kind = 4
    · simp only [h4, decide_true, Bool.true_or, if_true]
    · cases h46 : signT n.t (b1 46)
      · cases h91 : signT n.t (b1 91)
        · cases h58 : signT n.t (b1 58)
          · simp [sgnN, h4, h46, h91, h58]
          · simp only [sgnN, h4, h46, h91, h58, decide_false, Bool.false_or, if_true, Bool.false_eq_true, if_false]
            cases pseudoW rec m <;> rfl
        · simp only [sgnN, h4, h46, h91, decide_false, Bool.false_or, Bool.true_or, if_true, Bool.false_eq_true, if_false]
          cases attrOf (bare n.kids) <;> rfl
      · simp only [sgnN, h4, h46, decide_false, Bool.false_or, Bool.true_or, if_true, if_false]
        by_cases h14 : m.t.kind = 14
        · rw [if_pos h14, if_pos h14]
        · rw [if_neg h14, if_neg h14]
theorem partF1_len {rec : List Nd → Option Sels} {l : List Nd} {s : Simple} {r : List Nd} (h : partF1 rec l = some (s, r)) (hl : l ≠ []) : r.length < l.length ∧ (∀ f, DepL f l → DepL f r) := by
  have h1 : l.tail.length < l.length := by
    cases l with
    | nil => exact absurd rfl hl
    | cons n q => simp
  have h2 : l.tail.tail.length < l.length := by
    have : l.tail.tail.length ≤ l.tail.length := by simp
    omega
  unfold partF1 at h
  split at h
  · cases h; exact ⟨h1, fun f q => q.tail⟩
  · split at h
    · split at h
      · cases h; exact ⟨h2, fun f q => q.tail.tail⟩
      · cases h
    · split at h
      · cases ha : attrOf (bare (hdN l).kids) with
        | none => rw [ha] at h; cases h
        | some s' => rw [ha] at h; cases h; exact ⟨h1, fun f q => q.tail⟩
      · cases ha : pseudoW rec (hdN l.tail) with
        | none => rw [ha] at h; cases h
        | some s' => rw [ha] at h; cases h; exact ⟨h2, fun f q => q.tail.tail⟩
theorem partV_form (k : Nat) (nm h v : ByteArray) (lv : Value) (p : Nat) : ∃ T u, partV k nm h v lv p = .iface T u := by
  unfold partV
  repeat' split
  all_goals exact ⟨_, _, rfl⟩
theorem PSim.form {f : Nat} {S : Nat → Prop} {w : World} {s : Simple} {pv : Value} (h : PSim f S w s [pv]) : ∃ T u, pv = .iface T u := by
  obtain ⟨k, nm, hh, v, l, p⟩ := s
  cases f with
  | zero =>
    obtain ⟨_, a, c, e⟩ := h
    obtain ⟨T, u, e2⟩ := partV_form k nm hh v (.slice a 0 c) p
    exact ⟨T, u, by rw [← e2]; exact (List.cons.inj e).1⟩
  | succ f =>
    obtain ⟨lv, e, _⟩ := h
    obtain ⟨T, u, e2⟩ := partV_form k nm hh v lv p
    exact ⟨T, u, by rw [← e2]; exact (List.cons.inj e).1⟩
theorem MG.turn {α : Type} {C : Law α} {sz : Nat} (hF : Fair C) {T : TypeId} {base : Nat} {w w' : World} {v : Value} {l : List α} (h : MG C sz T base w v l) {b : Nat} (ht : Turn b w w') (hb : b < base) : MG C sz T base w' v l :=
  h.keep hF ht.size fun g hg hg2 => ht.block g hg2 (by omega)
structure CpI (f B b : Nat) (w : World) (l : List Nd) (u : Value) (acc : List Simple) (cur : List Nd) (wr : World) : Prop where
  row : MG (PSim f) 1 222 w.heap.size wr u acc
  rdr : ∃ sv, Rdr B wr b sv cur
  turn : Turn b w wr
  eq : compoundW (recF f) l = partsW (recF f) acc cur
  dep : DepL f cur
  len : acc.length + cur.length ≤ l.length
def cpP (f : Nat) (o : Option (List Simple × List Nd)) (B b : Nat) (w w' : World) (e : Ending) : Prop :=
  match o with
  | none => ∃ lv sv l, e = .returned (.tuple #[lv, .bool false]) ∧ Rdr B w' b sv l
  | some (all, r) => ∃ lv sv, e = .returned (.tuple #[lv, .bool (decide (0 < all.length))]) ∧ Rdr B w' b sv r ∧ SG (PSim f) 1 (Frm w.heap.size w') w' lv all
end
def S2 (w : World) (b : Nat) (x0 x1 : Value) : Prop := w.heap[b]? = some (.cells #[x0, x1] 219 (0, 0))
theorem S2.cs {w : World} {b : Nat} {x0 x1 : Value} (h : S2 w b x0 x1) : w.cell? ⟨b, 0, none⟩ = some x0 ∧ w.cell? ⟨b, 1, none⟩ = some x1 := by
  have h' : w.heap[b]? = _ := h
  refine ⟨?_, ?_⟩ <;> (unfold World.cell?; rw [h']; rfl)
theorem S2.lt {w : World} {b : Nat} {x0 x1 : Value} (h : S2 w b x0 x1) : b < w.heap.size := (Array.getElem?_eq_some_iff.1 h).1
theorem S2.new (w : World) (x0 x1 : Value) : S2 (w.alloc (.cells #[x0, x1] 219)) w.heap.size x0 x1 := heap_alloc_new w _
theorem S2.keep {w w' : World} {b : Nat} {x0 x1 : Value} (h : S2 w b x0 x1) (hb : w'.heap[b]? = w.heap[b]?) : S2 w' b x0 x1 := by
  show _ = _; rw [hb]; exact h
structure CwI (w : World) (cx : List Step) (u : Value) (ps : List ByteArray) (rest : ByteArray) (wr : World) : Prop where
  row : wr.ownsRow w.heap.size 9 1 u ps.length (ps.map Value.string)
  below : Below w.heap.size w wr
  eq : cpxO cx = joinB ps ++ rest
def PartW (f B : Nat) (w : World) : Prop := ∀ (s : Simple) (pv : Value) (w' : World), Below w.heap.size w w' → PSim f (fun b => b < B) w' s [pv] → qkS s → zS s ≤ 549755813888 → ∃ T u K rcv, pv = .iface T u ∧ (∀ W : World, (method 503 T u "rinse/selectors.written").run Tryz.prog W = .ok (K, rcv) W) ∧ (∀ (args : Array Value) (W : World), (callFunc K args).run Tryz.prog W = .ok (.enter K args) W) ∧
  Calls Tryz.prog K #[rcv] w' fun e w'' => e = .returned (.string (simO s)) ∧ Below w'.heap.size w' w''
def Road (pv : Value) (o : ByteArray) (w : World) : Prop := ∃ T u K rcv, pv = .iface T u ∧ (∀ W : World, (method 503 T u "rinse/selectors.written").run Tryz.prog W = .ok (K, rcv) W) ∧ (∀ (args : Array Value) (W : World), (callFunc K args).run Tryz.prog W = .ok (.enter K args) W) ∧
  Calls Tryz.prog K #[rcv] w fun e w'' => e = .returned (.string o) ∧ Below w.heap.size w w''
section
attribute [local go_sem] fld_tok fld_ins fld_kind fld_word
theorem Q6.drew {w : World} {b : Nat} {x0 x1 x2 x3 x4 x5 : Value} (h : Q6 w b x0 x1 x2 x3 x4 x5) : Q6 w.drew b x0 x1 x2 x3 x4 x5 := h
def kdT (t : Tok) : Bool := decide (1 ≤ t.kind) && decide (t.kind ≤ 15)
def kdL (l : List Nd) : Prop := anyL (fun t => !kdT t) l = false
end
section
attribute [local go_sem] fld_tok fld_ins fld_kind fld_word
def HarmOK (l : List Nd) : Prop := ∀ (B : Nat) (p : Policy) (pv fv av v : Value) (w : World), PolM B w p pv fv av → Sl (fun b => b < B) w v l → kdL l → Calls Tryz.prog 117 #[polV p pv fv av, v] w fun e w' => e = .returned (.bool (harmL p l)) ∧ Below w.heap.size w w'
end
section
attribute [local go_sem] fld_tok fld_ins fld_kind fld_word
section
variable (B : Nat) (p : Policy) (pv fv av : Value) (w : World)
end
def lwI (c : Int) : Bool := decide (97 ≤ c) && decide (c ≤ 122)
def ldI (c : Int) : Bool := lwI c || c == 45
end
end Go.Proofs.YtlliliddljkbfaaGreat
