import Derived.Test.YtlliliddljkbfaaGreatC1
import Derived.Test.YtlliliddljkbfaaGreatC2
import Derived.Test.YtlliliddljkbfaaGreatC3
import Derived.Test.YtlliliddljkbfaaGreatC4
import Derived.Test.YtlliliddljkbfaaGreatC7
import Derived.Lib.Index
import Derived.Lib.IndexBytes
import Derived.Lib.Strings
import Derived.Scope
import Derived.ScopeJumps
namespace Go.Proofs.YtlliliddljkbfaaGreat
set_option maxHeartbeats 64000000
set_option maxRecDepth 100000
open Go.RowKit Sp
section
abbrev Law (α : Type) := (Nat → Prop) → World → α → List Value → Prop
def Fair {α : Type} (C : Law α) : Prop := ∀ (S S' : Nat → Prop) (w w' : World) (x : α) (cs : List Value), (∀ g, S g → S' g) → (∀ g, S g → w'.heap[g]? = w.heap[g]?) → C S w x cs → C S' w' x cs
def Sized {α : Type} (C : Law α) (sz : Nat) : Prop := ∀ S w x cs, C S w x cs → cs.length = sz
section
variable {α : Type} (C : Law α) (sz : Nat)
def EG (S : Nat → Prop) (w : World) (x : α) (g o : Nat) : Prop := S g ∧ ∃ cs, C S w x cs ∧ ∀ j u, cs[j]? = some u → w.cell? ⟨g, o + j, none⟩ = some u
def LG (S : Nat → Prop) (w : World) : List α → Nat → Nat → Prop
  | [], _, _ => True
  | x :: r, g, o => EG C S w x g o ∧ LG S w r g (o + sz)
def SG (S : Nat → Prop) (w : World) (v : Value) (xs : List α) : Prop :=
  ∃ (a : Option Addr) (cap : Nat), v = .slice a xs.length cap ∧ (xs.length ≤ cap ∧ xs.length ≤ 2097152) ∧ (xs ≠ [] → ∃ g o, a = some ⟨g, o, none⟩ ∧ LG C sz S w xs g o)
def CatG (S : Nat → Prop) (w : World) : List α → List Value → Prop
  | [], cs => cs = []
  | x :: r, cs => ∃ c rest, cs = c ++ rest ∧ C S w x c ∧ CatG S w r rest
def MG (T : TypeId) (base : Nat) (w : World) (v : Value) (xs : List α) : Prop :=
  ∃ cs, w.ownsRow base T sz v xs.length cs ∧ CatG C (Oth base w v) w xs cs
end
section
variable {α : Type} {C : Law α} {sz : Nat} {S S' : Nat → Prop} {w w' : World}
theorem EG.keep (hF : Fair C) (hS : ∀ g, S g → S' g) (hw : ∀ g, S g → w'.heap[g]? = w.heap[g]?) {x : α} {g o : Nat} (h : EG C S w x g o) : EG C S' w' x g o := by
  obtain ⟨h0, cs, h1, h2⟩ := h
  exact ⟨hS g h0, cs, hF _ _ _ _ _ _ hS hw h1, fun j u hu => by rw [World.cell?_of_block (w := w) (hw g h0)]; exact h2 j u hu⟩
theorem LG.keep (hF : Fair C) (hS : ∀ g, S g → S' g) (hw : ∀ g, S g → w'.heap[g]? = w.heap[g]?) : ∀ (l : List α) (g o : Nat), LG C sz S w l g o → LG C sz S' w' l g o
  | [], _, _, _ => by simp [LG]
  | _ :: r, g, o, h => ⟨h.1.keep hF hS hw, LG.keep hF hS hw r g (o + sz) h.2⟩
theorem SG.keep (hF : Fair C) {v : Value} {xs : List α} (h : SG C sz S w v xs) (hS : ∀ g, S g → S' g) (hw : ∀ g, S g → w'.heap[g]? = w.heap[g]?) : SG C sz S' w' v xs := by
  obtain ⟨a, cap, h1, hc, h2⟩ := h
  refine ⟨a, cap, h1, hc, fun hn => ?_⟩
  obtain ⟨g, o, h3, h4⟩ := h2 hn
  exact ⟨g, o, h3, h4.keep hF hS hw⟩
theorem SG.below (hF : Fair C) {B B' : Nat} {v : Value} {xs : List α} (h : SG C sz (fun b => b < B) w v xs) (hb : Below B' w w') (hB : B ≤ B') : SG C sz (fun b => b < B) w' v xs :=
  h.keep hF (fun _ hg => hg) fun g hg => hb.block g (Nat.lt_of_lt_of_le hg hB)
theorem SG.mono (hF : Fair C) {B B' : Nat} {v : Value} {xs : List α} (h : SG C sz (fun b => b < B) w v xs) (hB : B ≤ B') : SG C sz (fun b => b < B') w v xs :=
  h.keep hF (fun _ hg => Nat.lt_of_lt_of_le hg hB) fun _ _ => rfl
theorem SG.none_any (C : Law α) (sz : Nat) (S : Nat → Prop) (w : World) (a : Option Addr) (c : Nat) : SG C sz S w (.slice a 0 c) [] := ⟨a, c, rfl, ⟨by simp, by simp⟩, fun h => absurd rfl h⟩
theorem SG.len {v : Value} {xs : List α} (h : SG C sz S w v xs) : xs.length ≤ 2097152 := by
  obtain ⟨_, _, _, hc, _⟩ := h; exact hc.2
theorem SG.form {v : Value} {xs : List α} (h : SG C sz S w v xs) : ∃ a cap, v = .slice a xs.length cap := by
  obtain ⟨a, cap, h1, _⟩ := h
  exact ⟨a, cap, h1⟩
theorem SG.here {a : Option Addr} {n cap : Nat} {xs : List α} (h : SG C sz S w (.slice a n cap) xs) (hn : xs ≠ []) : ∃ g o, a = some ⟨g, o, none⟩ ∧ LG C sz S w xs g o ∧ xs.length ≤ cap := by
  obtain ⟨a', cap', h1, ⟨hc, h6⟩, h2⟩ := h
  cases h1
  obtain ⟨g, o, rfl, h4⟩ := h2 hn
  exact ⟨g, o, rfl, h4, hc⟩
theorem LG.at : ∀ (l : List α) (g o i : Nat) (_ : LG C sz S w l g o) (hi : i < l.length), EG C S w l[i] g (o + i * sz)
  | _ :: _, g, o, 0, h, _ => by simpa using h.1
  | _ :: r, g, o, i + 1, h, hi => by
    have := LG.at r g (o + sz) i h.2 (by simpa using hi)
    rw [show o + (i + 1) * sz = o + sz + i * sz from by rw [Nat.add_mul]; omega]
    simpa using this
theorem CatG.keep (hF : Fair C) (hS : ∀ g, S g → S' g) (hw : ∀ g, S g → w'.heap[g]? = w.heap[g]?) : ∀ (l : List α) (cs : List Value), CatG C S w l cs → CatG C S' w' l cs
  | [], _, h => h
  | _ :: r, _, ⟨c, rest, h1, h2, h3⟩ => ⟨c, rest, h1, hF _ _ _ _ _ _ hS hw h2, CatG.keep hF hS hw r rest h3⟩
theorem CatG.snoc : ∀ (l : List α) (cs : List Value) (_ : CatG C S w l cs) (x : α) (c : List Value) (_ : C S w x c), CatG C S w (l ++ [x]) (cs ++ c)
  | [], cs, h, x, c, hc => ⟨c, [], by simp [show cs = [] from h], hc, rfl⟩
  | _ :: r, _, ⟨c', rest, h1, h2, h3⟩, x, c, hc => ⟨c', rest ++ c, by simp [h1], h2, CatG.snoc r rest h3 x c hc⟩
theorem CatG.lies (hZ : Sized C sz) {g : Nat} (hg : S g) : ∀ (l : List α) (cs : List Value) (o : Nat) (_ : CatG C S w l cs) (_ : ∀ j u, cs[j]? = some u → w.cell? ⟨g, o + j, none⟩ = some u), LG C sz S w l g o
  | [], _, _, _, _ => by simp [LG]
  | _ :: r, cs, o, ⟨c, rest, h1, h2, h3⟩, hc => by
    subst h1
    have hl := hZ _ _ _ _ h2
    refine ⟨⟨hg, c, h2, fun j u hu => hc j u ?_⟩, CatG.lies hZ hg r rest (o + sz) h3 fun j u hu => ?_⟩
    · have hj : j < c.length := (List.getElem?_eq_some_iff.1 hu).1
      rw [List.getElem?_append_left hj]; exact hu
    · rw [show o + sz + j = o + (j + sz) from by omega]
      apply hc (j + sz) u
      rw [List.getElem?_append_right (by omega), hl]
      simpa using hu
theorem MG.nil (C : Law α) (sz : Nat) (T : TypeId) (base : Nat) (w : World) : MG C sz T base w (.slice none 0 0) [] := ⟨[], World.ownsRow_nil _ _ _ _, rfl⟩
theorem MG.sl (hF : Fair C) (hZ : Sized C sz) {T : TypeId} {base : Nat} {v : Value} {l : List α} (h : MG C sz T base w v l) (h6 : l.length ≤ 2097152) : SG C sz (Frm base w) w v l := by
  obtain ⟨cs, h1, h2⟩ := h
  have h3 : CatG C (Frm base w) w l cs := h2.keep hF (fun g hg => ⟨hg.1, hg.2.1⟩) (fun _ _ => rfl)
  rcases h1.2 with ⟨rfl, hn⟩ | ⟨g, cap, cur, rfl, hbg, hg, hnc, hrest⟩
  · have : l = [] := List.eq_nil_of_length_eq_zero hn
    subst this
    exact SG.none_any _ _ _ _ _ _
  · refine ⟨_, cap, rfl, ⟨hnc, h6⟩, fun _ => ⟨g, 0, rfl, CatG.lies hZ ⟨hbg, (Array.getElem?_eq_some_iff.1 hg).1⟩ l cs 0 h3 fun j u hu => ?_⟩⟩
    have := h1.cells (g := g) rfl j u hu
    rw [Addr.add_lit, Nat.zero_add] at this
    rw [Nat.zero_add]
    exact this
theorem MG.lt {T : TypeId} {base : Nat} {v : Value} {l : List α} (h : MG C sz T base w v l) : ∀ k, v.ownBlock = some k → base ≤ k ∧ k < w.heap.size := by
  obtain ⟨cs, h1, _⟩ := h
  exact h1.lt
theorem MG.keep (hF : Fair C) {T : TypeId} {base : Nat} {v : Value} {l : List α} (h : MG C sz T base w v l) (hs : w.heap.size ≤ w'.heap.size) (hw : ∀ g, base ≤ g → g < w.heap.size → w'.heap[g]? = w.heap[g]?) : MG C sz T base w' v l := by
  obtain ⟨cs, h1, h2⟩ := h
  refine ⟨cs, ⟨h1.1, ?_⟩, h2.keep hF (fun g hg => ⟨hg.1, by have := hg.2.1; omega, hg.2.2⟩) (fun g hg => hw g hg.1 hg.2.1)⟩
  rcases h1.2 with hn | ⟨g, cap, cur, rfl, hbg, hgg, rest⟩
  · exact .inl hn
  · exact .inr ⟨g, cap, cur, rfl, hbg, by rw [hw g hbg (Array.getElem?_eq_some_iff.1 hgg).1]; exact hgg, rest⟩
theorem MG.below (hF : Fair C) {T : TypeId} {base : Nat} {v : Value} {l : List α} (h : MG C sz T base w v l) (hb : Below w.heap.size w w') : MG C sz T base w' v l :=
  h.keep hF hb.size fun g _ hg => hb.block g hg
theorem MG.alloc (hF : Fair C) {T : TypeId} {base : Nat} {v : Value} {l : List α} (h : MG C sz T base w v l) (o : Obj) : MG C sz T base (w.alloc o) v l :=
  h.keep hF (by simp) fun g _ hg => Below.heap_alloc _ _ _ hg
theorem MG.form {T : TypeId} {base : Nat} {v : Value} {l : List α} (h : MG C sz T base w v l) : ∃ a cap, v = .slice a l.length cap := by
  obtain ⟨cs, h1, _⟩ := h
  rcases h1.2 with ⟨rfl, hn⟩ | ⟨g, cap, cur, rfl, _⟩
  · exact ⟨none, 0, by rw [hn]⟩
  · exact ⟨_, _, rfl⟩
theorem MG.snoc (hF : Fair C) {T : TypeId} {base : Nat} {v v2 : Value} {l : List α} {cs c : List Value} {x : α} (h2 : CatG C (Oth base w v) w l cs) (hx : C (Oth base w v) w x c)
    (hown : w'.ownsRow base T sz v2 (l.length + 1) (cs ++ c)) (hg : w.grownBy w' v.ownBlock) (hat : v2.ownBlock = v.ownBlock ∨ v2.ownBlock = some w.heap.size) : MG C sz T base w' v2 (l ++ [x]) := by
  have hS : ∀ g, Oth base w v g → Oth base w' v2 g := by
    rintro g ⟨h3, h4, h5⟩
    refine ⟨h3, Nat.lt_of_lt_of_le h4 hg.size, ?_⟩
    rcases hat with e | e
    · rw [e]; exact h5
    · rw [e]; intro e2; cases e2; omega
  have hw : ∀ g, Oth base w v g → w'.heap[g]? = w.heap[g]? := fun g hgg => hg.block g hgg.2.1 hgg.2.2
  exact ⟨_, by rw [List.length_append]; exact hown, CatG.snoc _ _ (h2.keep hF hS hw) x c (hF _ _ _ _ _ _ hS hw hx)⟩
theorem MG.apart {β : Type} {D : Law β} {T : TypeId} {base : Nat} {w3 W : World} {v : Value} {l : List α} {x : β} {c : List Value} (h : MG C sz T base w v l) (hF : Fair D) (hx : D (Frm w.heap.size w3) w3 x c) (hbase : base ≤ w.heap.size) (hs : w3.heap.size ≤ W.heap.size) (hw : ∀ g, g < w3.heap.size → W.heap[g]? = w3.heap[g]?) : D (Oth base W v) W x c :=
  hF _ _ _ _ _ _ (fun g hg => ⟨by have := hg.1; omega, by have := hg.2; omega, fun e => by have := (h.lt g e.symm).2; have := hg.1; omega⟩) (fun g hg => hw g hg.2) hx
end
def One {α : Type} (C : Law α) (sz : Nat) : Law (List α) := fun S w x cs => ∃ v, cs = [v] ∧ SG C sz S w v x
theorem One.fair {α : Type} {C : Law α} {sz : Nat} (hF : Fair C) : Fair (One C sz) := by
  rintro S S' w w' x cs hS hw ⟨v, h1, h2⟩
  exact ⟨v, h1, h2.keep hF hS hw⟩
theorem One.sized {α : Type} (C : Law α) (sz : Nat) : Sized (One C sz) 1 := by
  rintro S w x cs ⟨v, rfl, _⟩; rfl
end
section
attribute [local go_sem] fld_tok fld_ins fld_kind fld_word
def folB (t : Tok) : Bool := decide (t.kind = 4) || signT t (b1 46) || signT t (b1 91) || signT t (b1 58)
theorem partFollows_c (B b : Nat) (sv : Value) (l : List Nd) (w : World) (h : Rdr B w b sv l) :
    Calls Tryz.prog 256 #[.pointer (some ⟨b, 0, none⟩)] w fun e w' => e = .returned (.bool (folB (hdN l).t)) ∧ Below w.heap.size w w' := by
  have R1 : Hid (Rdr B w b sv l) := h
  clear h
  obtain ⟨n, Hn⟩ : ∃ n, Hid (hdN l = n) := ⟨_, hid rfl⟩
  rw [Hn.out]
  go_enter Tryz.func256, Tryz.ntmps256
  go_wp2_with fail
  refine (next_c B b sv l _ R1.out).mono ?_
  rw [Hn.out]
  rintro e w1 ⟨kv, rfl, hk, hb1⟩
  have B1 : Hid (Below w.heap.size w w1) := hb1
  obtain ⟨ka, kc, rfl⟩ := hk.form
  have hw1 := hb1.size
  clear hk hb1
  unfold nodV
  have A2 : Hid (VB (w1.alloc (.cells #[.int .i64 n.t.kind, .string n.t.word, .string n.t.unit, .slice ka n.kids.length kc] 199)) w1.heap.size (.int .i64 n.t.kind) (.string n.t.word) (.string n.t.unit) (.slice ka n.kids.length kc)) := VB.new _ _ _ _ _
  have B2 : Hid (Below w.heap.size w (w1.alloc (.cells #[.int .i64 n.t.kind, .string n.t.word, .string n.t.unit, .slice ka n.kids.length kc] 199))) := B1.out.alloc hw1 _
  go_upto_region 2 with fail
  generalize w1.alloc (.cells #[.int .i64 n.t.kind, .string n.t.word, .string n.t.unit, .slice ka n.kids.length kc] 199) = w2 at *
  generalize w1.heap.size = gt at *
  obtain ⟨a0, a1, a2, a3⟩ := A2.out.cs
  have hs2 := B2.out.size
  cases hk4 : (n.t.kind == 4)
  · have n4 : ¬ n.t.kind = 4 := by simpa using hk4
    go_wp2_with fail
    refine (IsSign_c n.t _ (b1 46) _).mono ?_
    rintro e w3 ⟨rfl, hb3⟩
    have B3 : Hid (Below w.heap.size w w3) := B2.out.trans (hb3.mono hs2)
    have A3 : Hid (VB w3 gt (.int .i64 n.t.kind) (.string n.t.word) (.string n.t.unit) (.slice ka n.kids.length kc)) := A2.out.below hb3
    have hs3 := B3.out.size
    clear hb3 a0 a1 a2 a3
    obtain ⟨a0, a1, a2, a3⟩ := A3.out.cs
    obtain ⟨s1, Hs1⟩ : ∃ s, Hid (signT n.t (b1 46) = s) := ⟨_, hid rfl⟩
    rw [Hs1.out]
    cases s1
    · go_wp2_with fail
      refine (IsSign_c n.t _ (b1 91) _).mono ?_
      rintro e w4 ⟨rfl, hb4⟩
      have B4 : Hid (Below w.heap.size w w4) := B3.out.trans (hb4.mono hs3)
      have A4 : Hid (VB w4 gt (.int .i64 n.t.kind) (.string n.t.word) (.string n.t.unit) (.slice ka n.kids.length kc)) := A3.out.below hb4
      have hs4 := B4.out.size
      clear hb4 a0 a1 a2 a3
      obtain ⟨a0, a1, a2, a3⟩ := A4.out.cs
      obtain ⟨s2, Hs2⟩ : ∃ s, Hid (signT n.t (b1 91) = s) := ⟨_, hid rfl⟩
      rw [Hs2.out]
      cases s2
      · go_wp2_with fail
        refine (IsSign_c n.t _ (b1 58) _).mono ?_
        rintro e w5 ⟨rfl, hb5⟩
        have B5 : Hid (Below w.heap.size w w5) := B4.out.trans (hb5.mono hs4)
        have HV : Hid (folB n.t = signT n.t (b1 58)) := by show _ = _; unfold folB; rw [decide_eq_false n4, Hs1.out, Hs2.out]; rfl
        clear hb5
        go_wp2_with fail
        go_ret
        exact ⟨rbool HV.out.symm, B5.out⟩
      · have HV : Hid (folB n.t = true) := by show _ = _; unfold folB; rw [Hs2.out]; simp
        go_wp2_with fail
        go_ret
        exact ⟨rbool HV.out.symm, B4.out⟩
    · have HV : Hid (folB n.t = true) := by show _ = _; unfold folB; rw [Hs1.out]; simp
      go_wp2_with fail
      go_ret
      exact ⟨rbool HV.out.symm, B3.out⟩
  · have n4 : n.t.kind = 4 := by simpa using hk4
    have HV : Hid (folB n.t = true) := by show _ = _; unfold folB; rw [decide_eq_true n4]; rfl
    clear n4
    go_wp2_with fail
    go_ret
    exact ⟨rbool HV.out.symm, B2.out⟩
def partV (k : Nat) (nm h v : ByteArray) (lv : Value) (p : Nat) : Value :=
  if k = 116 then (if nm = nob then .iface 311 (.agg #[]) else .iface 309 (.agg #[.string nm]))
  else if k = 35 then .iface 332 (.agg #[.string nm])
  else if k = 46 then .iface 333 (.agg #[.string nm])
  else if k = 91 then .iface 341 (.agg #[.string nm, .string h, .string v])
  else if nm = nNot then .iface 345 (.agg #[lv])
  else if nm = nIs then .iface 346 (.agg #[lv])
  else if nm = nNth then .iface 351 (if p = 0 then .agg #[.string nOdd, .int .i64 0] else if p = 1 then .agg #[.string nEven, .int .i64 0] else .agg #[.string nob, .int .i64 ((p - 2 : Nat) : Int)])
  else .iface 343 (.agg #[.string nm])
def PStp (C : Law Simple) : Law Step := fun S w x cs => ∃ av, cs = [.int .i64 (cmb x.1), av] ∧ SG C 1 S w av x.2
def PCx (C : Law Simple) : Law (List Step) := One (PStp C) 2
def PSim : Nat → Law Simple
  | 0 => fun _ _ s cs => match s with | .mk k nm h v l p => l = [] ∧ ∃ a c, cs = [partV k nm h v (.slice a 0 c) p]
  | n + 1 => fun S w s cs => match s with | .mk k nm h v l p => ∃ lv, cs = [partV k nm h v lv p] ∧ SG (PCx (PSim n)) 1 S w lv l
theorem PStp.fair {C : Law Simple} (hF : Fair C) : Fair (PStp C) := by
  rintro S S' w w' x cs hS hw ⟨av, h1, h2⟩
  exact ⟨av, h1, h2.keep hF hS hw⟩
theorem PSim.fair : ∀ n, Fair (PSim n)
  | 0 => by rintro S S' w w' ⟨k, nm, h, v, l, p⟩ cs _ _ hx; exact hx
  | n + 1 => by
    rintro S S' w w' ⟨k, nm, h, v, l, p⟩ cs hS hw ⟨lv, h1, h2⟩
    exact ⟨lv, h1, h2.keep (One.fair (PStp.fair (PSim.fair n))) hS hw⟩
theorem PSim.sized : ∀ n, Sized (PSim n) 1
  | 0 => by rintro S w ⟨k, nm, h, v, l, p⟩ cs ⟨_, a, c, rfl⟩; rfl
  | n + 1 => by rintro S w ⟨k, nm, h, v, l, p⟩ cs ⟨lv, rfl, _⟩; rfl
theorem PStp.sized (C : Law Simple) : Sized (PStp C) 2 := by
  rintro S w x cs ⟨av, rfl, _⟩; rfl
theorem PSim.plain (n : Nat) (S : Nat → Prop) (w : World) (k : Nat) (nm h v : ByteArray) (p : Nat) : PSim n S w (.mk k nm h v [] p) [partV k nm h v (.slice none 0 0) p] := by
  cases n with
  | zero => exact ⟨rfl, _, _, rfl⟩
  | succ n => exact ⟨_, rfl, SG.none_any _ _ _ _ _ _⟩
end
theorem t1_w3 (w : World) (o : Obj) : Hid (W3 ((w.alloc o).alloc (.cells #[.int .i64 0, .int .i64 0, .int .i64 0] 177)) (w.heap.size + 1) 0 0 0) := by
  have := W3.new (w.alloc o) 0 0 0
  show W3 _ _ _ _ _
  simpa using this
theorem t1_b (w : World) (o : Obj) : Hid (Below w.heap.size w ((w.alloc o).alloc (.cells #[.int .i64 0, .int .i64 0, .int .i64 0] 177))) := ((Below.refl _ _).alloc (Nat.le_refl _) _).alloc (by simp) _
theorem set3_b {b c : Nat} {w w' : World} (h : Below b w w') (e : b ≤ c) (x y z : Value) : Below b w (((w'.setCell ⟨c, 0, none⟩ x).setCell ⟨c, 1, none⟩ y).setCell ⟨c, 2, none⟩ z) :=
  ((h.setCell (p := ⟨c, 0, none⟩) e _).setCell (p := ⟨c, 1, none⟩) e _).setCell (p := ⟨c, 2, none⟩) e _
theorem tagWt_c (nm : ByteArray) (w : World) :
    Calls Tryz.prog 326 #[.agg #[.string nm]] w fun ex w' => ex = .returned (wtV 0 0 1) ∧ Below w.heap.size w w' := by
  unfold wtV
  have A0 := t1_w3 w (.cells #[.string nm] 309)
  have B0 := t1_b w (.cells #[.string nm] 309)
  go_enter Tryz.func326, Tryz.ntmps326
  go_upto_region 1 with fail
  generalize (w.alloc (.cells #[.string nm] 309)).alloc (.cells #[.int .i64 0, .int .i64 0, .int .i64 0] 177) = w2 at *
  obtain ⟨r0, r1, r2⟩ := A0.out.cs
  have f0 := A0.out.fz 0
  have f1 := A0.out.fz 1
  have f2 := A0.out.fz 2
  go_wp2_with fail
  refine bodyPost_ret (v := .agg #[.int .i64 0, .int .i64 0, .int .i64 1]) (by simp [results, Tryz.results326, go_sem, r0, r1, r2]) rfl ?_
  exact ⟨rfl, set3_b B0.out (by omega) _ _ _⟩
theorem idWt_c (nm : ByteArray) (w : World) :
    Calls Tryz.prog 335 #[.agg #[.string nm]] w fun ex w' => ex = .returned (wtV 1 0 0) ∧ Below w.heap.size w w' := by
  unfold wtV
  have A0 := t1_w3 w (.cells #[.string nm] 332)
  have B0 := t1_b w (.cells #[.string nm] 332)
  go_enter Tryz.func335, Tryz.ntmps335
  go_upto_region 1 with fail
  generalize (w.alloc (.cells #[.string nm] 332)).alloc (.cells #[.int .i64 0, .int .i64 0, .int .i64 0] 177) = w2 at *
  obtain ⟨r0, r1, r2⟩ := A0.out.cs
  have f0 := A0.out.fz 0
  have f1 := A0.out.fz 1
  have f2 := A0.out.fz 2
  go_wp2_with fail
  refine bodyPost_ret (v := .agg #[.int .i64 1, .int .i64 0, .int .i64 0]) (by simp [results, Tryz.results335, go_sem, r0, r1, r2]) rfl ?_
  exact ⟨rfl, set3_b B0.out (by omega) _ _ _⟩
theorem classWt_c (nm : ByteArray) (w : World) :
    Calls Tryz.prog 339 #[.agg #[.string nm]] w fun ex w' => ex = .returned (wtV 0 1 0) ∧ Below w.heap.size w w' := by
  unfold wtV
  have A0 := t1_w3 w (.cells #[.string nm] 333)
  have B0 := t1_b w (.cells #[.string nm] 333)
  go_enter Tryz.func339, Tryz.ntmps339
  go_upto_region 1 with fail
  generalize (w.alloc (.cells #[.string nm] 333)).alloc (.cells #[.int .i64 0, .int .i64 0, .int .i64 0] 177) = w2 at *
  obtain ⟨r0, r1, r2⟩ := A0.out.cs
  have f0 := A0.out.fz 0
  have f1 := A0.out.fz 1
  have f2 := A0.out.fz 2
  go_wp2_with fail
  refine bodyPost_ret (v := .agg #[.int .i64 0, .int .i64 1, .int .i64 0]) (by simp [results, Tryz.results339, go_sem, r0, r1, r2]) rfl ?_
  exact ⟨rfl, set3_b B0.out (by omega) _ _ _⟩
theorem starWt_c (w : World) :
    Calls Tryz.prog 332 #[.agg #[]] w fun ex w' => ex = .returned (wtV 0 0 0) ∧ Below w.heap.size w w' := by
  unfold wtV
  have A0 := t1_w3 w (.cells #[] 311)
  have B0 := t1_b w (.cells #[] 311)
  go_enter Tryz.func332, Tryz.ntmps332
  go_upto_region 1 with fail
  generalize (w.alloc (.cells #[] 311)).alloc (.cells #[.int .i64 0, .int .i64 0, .int .i64 0] 177) = w2 at *
  obtain ⟨r0, r1, r2⟩ := A0.out.cs
  have f0 := A0.out.fz 0
  have f1 := A0.out.fz 1
  have f2 := A0.out.fz 2
  go_wp2_with fail
  refine bodyPost_ret (v := .agg #[.int .i64 0, .int .i64 0, .int .i64 0]) (by simp [results, Tryz.results332, go_sem, r0, r1, r2]) rfl ?_
  exact ⟨rfl, set3_b B0.out (by omega) _ _ _⟩
theorem mw_star (W : World) : (method 503 311 (.agg #[]) "rinse/selectors.weight").run Tryz.prog W = .ok (332, .agg #[]) W := by kernel_rfl
theorem mw_tag (nm : ByteArray) (W : World) : (method 503 309 (.agg #[.string nm]) "rinse/selectors.weight").run Tryz.prog W = .ok (326, .agg #[.string nm]) W := by kernel_rfl
theorem mw_id (nm : ByteArray) (W : World) : (method 503 332 (.agg #[.string nm]) "rinse/selectors.weight").run Tryz.prog W = .ok (335, .agg #[.string nm]) W := by kernel_rfl
theorem mw_class (nm : ByteArray) (W : World) : (method 503 333 (.agg #[.string nm]) "rinse/selectors.weight").run Tryz.prog W = .ok (339, .agg #[.string nm]) W := by kernel_rfl
def pwt (k : Nat) (nm : ByteArray) : Nat × Nat × Nat := if k = 116 then (if nm = nob then (0, 0, 0) else (0, 0, 1)) else if k = 35 then (1, 0, 0) else (0, 1, 0)
def wtN (x : Nat × Nat × Nat) : Value := wtV (x.1 : Int) (x.2.1 : Int) (x.2.2 : Int)
theorem road_wt (k : Nat) (nm how v : ByteArray) (lv : Value) (pl : Nat) (hk : k = 116 ∨ k = 35 ∨ k = 46) :
    ∃ T u K rcv, partV k nm how v lv pl = .iface T u ∧ (∀ W : World, (method 503 T u "rinse/selectors.weight").run Tryz.prog W = .ok (K, rcv) W) ∧ (∀ (args : Array Value) (W : World), (callFunc K args).run Tryz.prog W = .ok (.enter K args) W) ∧
      ∀ w', Calls Tryz.prog K #[rcv] w' fun e w'' => e = .returned (wtN (pwt k nm)) ∧ Below w'.heap.size w' w'' := by
  unfold partV pwt
  rcases hk with rfl | rfl | rfl
  · rw [if_pos rfl, if_pos rfl]
    by_cases e : nm = nob
    · rw [if_pos e, if_pos e]
      exact ⟨_, _, _, _, rfl, mw_star, fun _ _ => rfl, fun w' => starWt_c w'⟩
    · rw [if_neg e, if_neg e]
      exact ⟨_, _, _, _, rfl, mw_tag nm, fun _ _ => rfl, fun w' => tagWt_c nm w'⟩
  · rw [if_neg (by decide), if_pos rfl, if_neg (by decide), if_pos rfl]
    exact ⟨_, _, _, _, rfl, mw_id nm, fun _ _ => rfl, fun w' => idWt_c nm w'⟩
  · rw [if_neg (by decide), if_neg (by decide), if_pos rfl, if_neg (by decide), if_neg (by decide)]
    exact ⟨_, _, _, _, rfl, mw_class nm, fun _ _ => rfl, fun w' => classWt_c nm w'⟩
end Go.Proofs.YtlliliddljkbfaaGreat
namespace Go.Proofs.YtlliliddljkbfaaGreat.Sp
set_option maxHeartbeats 64000000
set_option maxRecDepth 100000
open Go
def pre (s : ByteArray) : Nat → List UInt8 → Bool
  | _, [] => true
  | i, a :: r => pk s i == (a.toNat : Int) && pre s (i + 1) r
theorem drop_cons {s : ByteArray} {i : Nat} (h : i < s.size) : s.data.toList.drop i = s[i] :: s.data.toList.drop (i + 1) := by
  rw [List.drop_eq_getElem_cons (by simpa using h)]; rfl
theorem byte_eq (a b : UInt8) : ((a.toNat : Int) == (b.toNat : Int)) = (b == a) := by
  rw [Bool.eq_iff_iff]
  simp only [beq_iff_eq]
  constructor
  · intro h; exact (UInt8.toNat_inj.1 (by omega)).symm
  · intro h; rw [h]
theorem pre_drop (s : ByteArray) : ∀ (l : List UInt8) (i : Nat), l.isPrefixOf (s.data.toList.drop i) = pre s i l
  | [], i => by simp [pre]
  | a :: r, i => by
    by_cases h : i < s.size
    · rw [drop_cons h, List.isPrefixOf, pre_drop s r (i + 1), pre, pk_in h, byte_eq]
    · have : s.data.toList.drop i = [] := List.drop_eq_nil_of_le (by simpa using h)
      rw [this, pre, pk_out (by omega)]
      have : ((-1 : Int) == (a.toNat : Int)) = false := by rw [beq_eq_false_iff_ne]; omega
      rw [this]
      simp
theorem has_pre (s : ByteArray) (i : Nat) (l : ByteArray) : Lib.hasPrefix (s.extract i s.size).data.toList l.data.toList = pre s i l.data.toList := by
  rw [Lib.extract_to_end, Lib.hasPrefix, pre_drop]
theorem index_starF (s : ByteArray) : ∀ f k, s.size ≤ k + f → k ≤ s.size → Lib.index (s.data.toList.drop k) [42, 47] = if starF s f k < s.size then ((starF s f k : Nat) : Int) - k else -1
  | 0, k, h, h' => by
    have : s.data.toList.drop k = [] := List.drop_eq_nil_of_le (by simp; exact h)
    rw [this, starF, if_neg (by omega)]; rfl
  | f + 1, k, h, h' => by
    by_cases hk : k < s.size
    · have hp : ([42, 47] : List UInt8).isPrefixOf (s[k] :: s.data.toList.drop (k + 1)) = (pk s k == 42 && pk s (k + 1) == 47) := by
        rw [← drop_cons hk, pre_drop]; simp [pre]
      rw [drop_cons hk, Lib.index, hp]
      by_cases hs : pk s k = 42 ∧ pk s (k + 1) = 47
      · have e1 : starF s (f + 1) k = k := by unfold starF; rw [if_neg (fun h => h.2 hs)]
        have e2 : (pk s k == 42 && pk s (k + 1) == 47) = true := by simp [hs]
        rw [e1, e2, if_pos rfl, if_pos hk]; omega
      · have e1 : starF s (f + 1) k = starF s f (k + 1) := by
          conv => lhs; unfold starF
          rw [if_pos ⟨hk, hs⟩]
        have e2 : (pk s k == 42 && pk s (k + 1) == 47) = false := by
          rw [Bool.eq_false_iff]; intro h; exact hs (by simpa using h)
        have hge := starF_ge s f (k + 1)
        rw [e1, e2, if_neg (by simp), index_starF s f (k + 1) (by omega) (by omega)]
        by_cases h2 : starF s f (k + 1) < s.size
        · rw [if_pos h2, if_pos h2, if_neg (by rw [beq_iff_eq]; omega)]; omega
        · rw [if_neg h2, if_neg h2, if_pos (by rfl)]
    · have hd : s.data.toList.drop k = [] := List.drop_eq_nil_of_le (by simp; omega)
      have hge := starF_ge s (f + 1) k
      rw [hd, if_neg (by omega)]; rfl
theorem index_star {s : ByteArray} {k : Nat} (h : k ≤ s.size) : Lib.index (s.extract k s.size).data.toList [42, 47] = if star s k < s.size then ((star s k : Nat) : Int) - k else -1 := by
  rw [Lib.extract_to_end]
  exact index_starF s s.size k (by omega) h
theorem index_star_in {s : ByteArray} {k : Nat} (h : k ≤ s.size) (h' : star s k < s.size) : Lib.index (s.extract k s.size).data.toList [42, 47] = ((star s k : Nat) : Int) - k := by
  rw [index_star h, if_pos h']
theorem index_star_out {s : ByteArray} {k : Nat} (h : k ≤ s.size) (h' : s.size ≤ star s k) : Lib.index (s.extract k s.size).data.toList [42, 47] = -1 := by
  rw [index_star h, if_neg (by omega)]
end Go.Proofs.YtlliliddljkbfaaGreat.Sp
namespace Go.Proofs.YtlliliddljkbfaaGreat
set_option maxHeartbeats 64000000
set_option maxRecDepth 100000
open Go.RowKit Sp
def a0 (s : ByteArray) (k : Nat) : Int := if k < s.size then pk s k else 0
end Go.Proofs.YtlliliddljkbfaaGreat
namespace Go.Proofs.YtlliliddljkbfaaGreat
set_option maxHeartbeats 64000000
set_option maxRecDepth 100000
open Go
def fwdQ (P : Program) (c : Code) (Q : Exit → Act → World → Prop) : Exit → Act → World → Prop
  | .goto l, a, w => ∃ rest, findLabel c l = some rest ∧ rest.wp P (Exit.noGoto Q) a w
  | e, a, w => Q e a w
structure Fwd (P : Program) (c : Code) (Q Q' : Exit → Act → World → Prop) : Prop where
  go : ∀ l rest a w, findLabel c l = some rest → rest.wp P (Exit.noGoto Q) a w → Q' (.goto l) a w
  norm : ∀ a w, Q .normal a w → Q' .normal a w
  ret : ∀ a w, Q .ret a w → Q' .ret a w
  any : ∀ e a w, Exit.noGoto Q e a w → Q' e a w
theorem wp_scope_fwd {P : Program} {c : Code} {Q : Exit → Act → World → Prop} {a : Act} {w : World}
    (h : ∀ Q' : Exit → Act → World → Prop, Fwd P c Q Q' → c.wp P Q' a w) : (Code.scope c).wp P Q a w := by
  have h' := h (fwdQ P c Q) ⟨fun l rest a w hf hr => ⟨rest, hf, hr⟩, fun a w hq => hq, fun a w hq => hq, fun e a w hq => by cases e <;> first | exact hq | exact hq.elim⟩
  intro b k cs
  obtain ⟨e, a₁, w₁, hq, harr⟩ := h' b (.inScope c :: k) cs
  cases e with
  | normal => exact ⟨.normal, a₁, w₁, hq, .head step_scope (Steps.trans harr (.one step_inScope))⟩
  | exit id => exact ⟨.exit id, a₁, w₁, hq, fun k' hk => .head step_scope (harr k' (by simp [exitTo, hk]))⟩
  | goto l =>
    obtain ⟨rest, hf, hr⟩ := hq
    have hg : gotoIn l (.inScope c :: k) = some (.code rest :: .inScope c :: k) := by simp [gotoIn, hf]
    obtain ⟨e₂, a₂, w₂, hq₂, harr₂⟩ := hr b (.inScope c :: k) cs
    have hs := Steps.head (P := P) step_scope (harr _ hg)
    cases e₂ with
    | normal => exact ⟨.normal, a₂, w₂, hq₂, Steps.trans hs (Steps.trans harr₂ (.one step_inScope))⟩
    | exit id => exact ⟨.exit id, a₂, w₂, hq₂, fun k' hk => Steps.trans hs (harr₂ k' (by simp [exitTo, hk]))⟩
    | goto l' => exact hq₂.elim
    | ret => exact ⟨_, a₂, w₂, hq₂, .of_steps hs harr₂⟩
    | panic ch => exact ⟨_, a₂, w₂, hq₂, .of_steps hs harr₂⟩
    | outgrown => exact ⟨_, a₂, w₂, hq₂, .of_steps hs harr₂⟩
  | ret => exact ⟨_, a₁, w₁, hq, .of_steps (.one step_scope) harr⟩
  | panic ch => exact ⟨_, a₁, w₁, hq, .of_steps (.one step_scope) harr⟩
  | outgrown => exact ⟨_, a₁, w₁, hq, .of_steps (.one step_scope) harr⟩
end Go.Proofs.YtlliliddljkbfaaGreat
