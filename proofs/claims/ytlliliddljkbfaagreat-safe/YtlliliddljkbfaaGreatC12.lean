import Derived.Test.YtlliliddljkbfaaGreatC3
import Derived.Test.YtlliliddljkbfaaGreatC11
namespace Go.Proofs.YtlliliddljkbfaaGreat
set_option maxHeartbeats 64000000
set_option maxRecDepth 100000
open Go.RowKit Sp
section
attribute [local go_sem] fld_tok fld_ins fld_kind fld_word
def folB (t : Tok) : Bool := decide (t.kind = 4) || signT t (b1 46) || signT t (b1 91) || signT t (b1 58)
theorem partFollows_c (B b : Nat) (sv : Value) (l : List Nd) (w : World) (h : Rdr B w b sv l) :
    Calls Tryz.prog 256 #[.pointer (some ⟨b, 0, none⟩)] w fun e w' => e = .returned (.bool (folB (hdN l).t)) ∧ Below w.heap.size w w' := by
  have R1 : Hid (Rdr B w b sv l) := h
  clear h
  obtain ⟨n, Hn⟩ : ∃ n, Hid (hdN l = n) := ⟨_, hid rfl⟩
  rw [Hn.out]
  go_enter Tryz.func256, Tryz.ntmps256
  go_wp2_with fail
  refine (next_c B b sv l _ R1.out).mono ?_
  rw [Hn.out]
  rintro e w1 ⟨kv, rfl, hk, hb1⟩
  have B1 : Hid (Below w.heap.size w w1) := hb1
  obtain ⟨ka, kc, rfl⟩ := hk.form
  have hw1 := hb1.size
  clear hk hb1
  unfold nodV
  have A2 : Hid (VB (w1.alloc (.cells #[.int .i64 n.t.kind, .string n.t.word, .string n.t.unit, .slice ka n.kids.length kc] 199)) w1.heap.size (.int .i64 n.t.kind) (.string n.t.word) (.string n.t.unit) (.slice ka n.kids.length kc)) := VB.new _ _ _ _ _
  have B2 : Hid (Below w.heap.size w (w1.alloc (.cells #[.int .i64 n.t.kind, .string n.t.word, .string n.t.unit, .slice ka n.kids.length kc] 199))) := B1.out.alloc hw1 _
  go_upto_region 2 with fail
  generalize w1.alloc (.cells #[.int .i64 n.t.kind, .string n.t.word, .string n.t.unit, .slice ka n.kids.length kc] 199) = w2 at *
  generalize w1.heap.size = gt at *
  obtain ⟨a0, a1, a2, a3⟩ := A2.out.cs
  have hs2 := B2.out.size
  cases hk4 : (n.t.kind == 4)
  · have n4 : ¬ n.t.kind = 4 := by simpa using hk4
    go_wp2_with fail
    refine (IsSign_c n.t _ (b1 46) _).mono ?_
    rintro e w3 ⟨rfl, hb3⟩
    have B3 : Hid (Below w.heap.size w w3) := B2.out.trans (hb3.mono hs2)
    have A3 : Hid (VB w3 gt (.int .i64 n.t.kind) (.string n.t.word) (.string n.t.unit) (.slice ka n.kids.length kc)) := A2.out.below hb3
    have hs3 := B3.out.size
    clear hb3 a0 a1 a2 a3
    obtain ⟨a0, a1, a2, a3⟩ := A3.out.cs
    obtain ⟨s1, Hs1⟩ : ∃ s, Hid (signT n.t (b1 46) = s) := ⟨_, hid rfl⟩
    rw [Hs1.out]
    cases s1
    · go_wp2_with fail
      refine (IsSign_c n.t _ (b1 91) _).mono ?_
      rintro e w4 ⟨rfl, hb4⟩
      have B4 : Hid (Below w.heap.size w w4) := B3.out.trans (hb4.mono hs3)
      have A4 : Hid (VB w4 gt (.int .i64 n.t.kind) (.string n.t.word) (.string n.t.unit) (.slice ka n.kids.length kc)) := A3.out.below hb4
      have hs4 := B4.out.size
      clear hb4 a0 a1 a2 a3
      obtain ⟨a0, a1, a2, a3⟩ := A4.out.cs
      obtain ⟨s2, Hs2⟩ : ∃ s, Hid (signT n.t (b1 91) = s) := ⟨_, hid rfl⟩
      rw [Hs2.out]
      cases s2
      · go_wp2_with fail
        refine (IsSign_c n.t _ (b1 58) _).mono ?_
        rintro e w5 ⟨rfl, hb5⟩
        have B5 : Hid (Below w.heap.size w w5) := B4.out.trans (hb5.mono hs4)
        have HV : Hid (folB n.t = signT n.t (b1 58)) := by show _ = _; unfold folB; rw [decide_eq_false n4, Hs1.out, Hs2.out]; rfl
        clear hb5
        go_wp2_with fail
        go_ret
        exact ⟨rbool HV.out.symm, B5.out⟩
      · have HV : Hid (folB n.t = true) := by show _ = _; unfold folB; rw [Hs2.out]; simp
        go_wp2_with fail
        go_ret
        exact ⟨rbool HV.out.symm, B4.out⟩
    · have HV : Hid (folB n.t = true) := by show _ = _; unfold folB; rw [Hs1.out]; simp
      go_wp2_with fail
      go_ret
      exact ⟨rbool HV.out.symm, B3.out⟩
  · have n4 : n.t.kind = 4 := by simpa using hk4
    have HV : Hid (folB n.t = true) := by show _ = _; unfold folB; rw [decide_eq_true n4]; rfl
    clear n4
    go_wp2_with fail
    go_ret
    exact ⟨rbool HV.out.symm, B2.out⟩
def partV (k : Nat) (nm h v : ByteArray) (lv : Value) (p : Nat) : Value :=
  if k = 116 then (if nm = nob then .iface 311 (.agg #[]) else .iface 309 (.agg #[.string nm]))
  else if k = 35 then .iface 332 (.agg #[.string nm])
  else if k = 46 then .iface 333 (.agg #[.string nm])
  else if k = 91 then .iface 341 (.agg #[.string nm, .string h, .string v])
  else if nm = nNot then .iface 345 (.agg #[lv])
  else if nm = nIs then .iface 346 (.agg #[lv])
  else if nm = nNth then .iface 351 (if p = 0 then .agg #[.string nOdd, .int .i64 0] else if p = 1 then .agg #[.string nEven, .int .i64 0] else .agg #[.string nob, .int .i64 ((p - 2 : Nat) : Int)])
  else .iface 343 (.agg #[.string nm])
def PStp (C : Law Simple) : Law Step := fun S w x cs => ∃ av, cs = [.int .i64 (cmb x.1), av] ∧ SG C 1 S w av x.2
def PCx (C : Law Simple) : Law (List Step) := One (PStp C) 2
def PSim : Nat → Law Simple
  | 0 => fun _ _ s cs => match s with | .mk k nm h v l p => l = [] ∧ ∃ a c, cs = [partV k nm h v (.slice a 0 c) p]
  | n + 1 => fun S w s cs => match s with | .mk k nm h v l p => ∃ lv, cs = [partV k nm h v lv p] ∧ SG (PCx (PSim n)) 1 S w lv l
theorem PStp.fair {C : Law Simple} (hF : Fair C) : Fair (PStp C) := by
  rintro S S' w w' x cs hS hw ⟨av, h1, h2⟩
  exact ⟨av, h1, h2.keep hF hS hw⟩
theorem PSim.fair : ∀ n, Fair (PSim n)
  | 0 => by rintro S S' w w' ⟨k, nm, h, v, l, p⟩ cs _ _ hx; exact hx
  | n + 1 => by
    rintro S S' w w' ⟨k, nm, h, v, l, p⟩ cs hS hw ⟨lv, h1, h2⟩
    exact ⟨lv, h1, h2.keep (One.fair (PStp.fair (PSim.fair n))) hS hw⟩
theorem PSim.sized : ∀ n, Sized (PSim n) 1
  | 0 => by rintro S w ⟨k, nm, h, v, l, p⟩ cs ⟨_, a, c, rfl⟩; rfl
  | n + 1 => by rintro S w ⟨k, nm, h, v, l, p⟩ cs ⟨lv, rfl, _⟩; rfl
theorem PStp.sized (C : Law Simple) : Sized (PStp C) 2 := by
  rintro S w x cs ⟨av, rfl, _⟩; rfl
theorem PSim.plain (n : Nat) (S : Nat → Prop) (w : World) (k : Nat) (nm h v : ByteArray) (p : Nat) : PSim n S w (.mk k nm h v [] p) [partV k nm h v (.slice none 0 0) p] := by
  cases n with
  | zero => exact ⟨rfl, _, _, rfl⟩
  | succ n => exact ⟨_, rfl, SG.none_any _ _ _ _ _ _⟩
end
section
theorem combW_c (b : Nat) (w : World) : Calls Tryz.prog 252 #[.int .i64 (cmb b)] w fun e w' => e = .returned (.string (combO b)) ∧ w' = w := by
  unfold cmb combO
  by_cases h1 : b = 32
  · rw [if_pos h1, if_pos h1]
    go_enter Tryz.func252, Tryz.ntmps252
    go_wp2_with fail
    go_ret
    exact ⟨rfl, rfl⟩
  rw [if_neg h1, if_neg h1]
  by_cases h2 : b = 62
  · rw [if_pos h2, if_pos (.inl h2)]
    subst h2
    clear h1
    go_enter Tryz.func252, Tryz.ntmps252
    go_wp2_with fail
    go_ret
    exact ⟨rfl, rfl⟩
  rw [if_neg h2]
  by_cases h3 : b = 43
  · rw [if_pos h3, if_pos (.inr (.inl h3))]
    subst h3
    clear h1 h2
    go_enter Tryz.func252, Tryz.ntmps252
    go_wp2_with fail
    go_ret
    exact ⟨rfl, rfl⟩
  rw [if_neg h3]
  by_cases h4 : b = 126
  · rw [if_pos h4, if_pos (.inr (.inr h4))]
    subst h4
    clear h1 h2 h3
    go_enter Tryz.func252, Tryz.ntmps252
    go_wp2_with fail
    go_ret
    exact ⟨rfl, rfl⟩
  rw [if_neg h4, if_neg (by rintro (h | h | h) <;> omega)]
  clear h1 h2 h3 h4
  go_enter Tryz.func252, Tryz.ntmps252
  go_wp2_with fail
  go_ret
  exact ⟨rfl, rfl⟩
theorem starW_c (w : World) : Calls Tryz.prog 333 #[.agg #[]] w fun e w' => e = .returned (.string (b1 42)) ∧ Below w.heap.size w w' := by
  go_enter Tryz.func333, Tryz.ntmps333
  go_wp2_with fail
  go_ret
  exact ⟨rfl, by first | exact Below.refl _ _ | exact new_below _ _⟩
section
variable (nm : ByteArray) (w : World)
theorem tagW_c (hs : nm.size ≤ 4000000) : Calls Tryz.prog 327 #[.agg #[.string nm]] w fun e w' => e = .returned (.string (nameO nm)) ∧ Below w.heap.size w w' := by
  have B1 : Hid (Below w.heap.size w (w.alloc (.cells #[.string nm] 309))) := new_below _ _
  go_enter Tryz.func327, Tryz.ntmps327
  go_wp2_with fail
  generalize w.alloc (.cells #[.string nm] 309) = w2 at *
  refine (Name_c nm _ hs).mono ?_
  rintro e w3 ⟨rfl, hb3⟩
  have B3 : Hid (Below w.heap.size w w3) := B1.out.trans (hb3.mono B1.out.size)
  clear hb3
  go_wp2_with fail
  go_ret
  exact ⟨rfl, B3.out⟩
theorem idW_c (hs : nm.size ≤ 4000000) : Calls Tryz.prog 336 #[.agg #[.string nm]] w fun e w' => e = .returned (.string (b1 35 ++ nameO nm)) ∧ Below w.heap.size w w' := by
  have B1 : Hid (Below w.heap.size w (w.alloc (.cells #[.string nm] 332))) := new_below _ _
  obtain ⟨o, Ho⟩ : ∃ o, Hid (nameO nm = o) := ⟨_, hid rfl⟩
  have HV : Hid (joinB [⟨#[35]⟩, o] = b1 35 ++ nameO nm) := by show _ = _; rw [Ho.out]; simp [joinB, b1]
  have hsz : o.size ≤ 4 * nm.size := by rw [← Ho.out]; exact nameO_size nm
  go_enter Tryz.func336, Tryz.ntmps336
  go_wp2_with fail
  generalize w.alloc (.cells #[.string nm] 332) = w2 at *
  refine (Name_c nm _ hs).mono ?_
  rw [Ho.out]
  rintro e w3 ⟨rfl, hb3⟩
  have B3 : Hid (Below w.heap.size w w3) := B1.out.trans (hb3.mono B1.out.size)
  have hs3 := B3.out.size
  clear hb3
  go_wp2_with fail
  refine (Join_c [⟨#[35]⟩, o] w3.heap.size _ _ (rw2 w3 ⟨#[35]⟩ o) (by simp) (by show 1 + (o.size + 0) ≤ _; omega)).mono ?_
  rintro e w5 ⟨rfl, hb5⟩
  have B5 : Hid (Below w.heap.size w w5) := (B3.out.alloc hs3 _).trans (hb5.mono (by simp; omega))
  clear hb5
  go_wp2_with fail
  go_ret
  exact ⟨retS HV.out, B5.out⟩
theorem classW_c (hs : nm.size ≤ 4000000) : Calls Tryz.prog 340 #[.agg #[.string nm]] w fun e w' => e = .returned (.string (b1 46 ++ nameO nm)) ∧ Below w.heap.size w w' := by
  have B1 : Hid (Below w.heap.size w (w.alloc (.cells #[.string nm] 333))) := new_below _ _
  obtain ⟨o, Ho⟩ : ∃ o, Hid (nameO nm = o) := ⟨_, hid rfl⟩
  have HV : Hid (joinB [⟨#[46]⟩, o] = b1 46 ++ nameO nm) := by show _ = _; rw [Ho.out]; simp [joinB, b1]
  have hsz : o.size ≤ 4 * nm.size := by rw [← Ho.out]; exact nameO_size nm
  go_enter Tryz.func340, Tryz.ntmps340
  go_wp2_with fail
  generalize w.alloc (.cells #[.string nm] 333) = w2 at *
  refine (Name_c nm _ hs).mono ?_
  rw [Ho.out]
  rintro e w3 ⟨rfl, hb3⟩
  have B3 : Hid (Below w.heap.size w w3) := B1.out.trans (hb3.mono B1.out.size)
  have hs3 := B3.out.size
  clear hb3
  go_wp2_with fail
  refine (Join_c [⟨#[46]⟩, o] w3.heap.size _ _ (rw2 w3 ⟨#[46]⟩ o) (by simp) (by show 1 + (o.size + 0) ≤ _; omega)).mono ?_
  rintro e w5 ⟨rfl, hb5⟩
  have B5 : Hid (Below w.heap.size w w5) := (B3.out.alloc hs3 _).trans (hb5.mono (by simp; omega))
  clear hb5
  go_wp2_with fail
  go_ret
  exact ⟨retS HV.out, B5.out⟩
theorem stateW_c (hs : nm.size ≤ 4000000) : Calls Tryz.prog 358 #[.agg #[.string nm]] w fun e w' => e = .returned (.string (b1 58 ++ nm)) ∧ Below w.heap.size w w' := by
  have B1 : Hid (Below w.heap.size w (w.alloc (.cells #[.string nm] 343))) := new_below _ _
  have V1 : Hid (VarB (w.alloc (.cells #[.string nm] 343)) w.heap.size (.string nm) 343) := VarB.new _ _ _
  have HV : Hid (joinB [⟨#[58]⟩, nm] = b1 58 ++ nm) := by show _ = _; simp [joinB, b1]
  go_enter Tryz.func358, Tryz.ntmps358
  go_upto_region 1 with fail
  generalize w.alloc (.cells #[.string nm] 343) = w2 at *
  have hs2 := B1.out.size
  have c0 := V1.out.c
  go_wp2_with fail
  refine (Join_c [⟨#[58]⟩, nm] w2.heap.size _ _ (rw2 w2 ⟨#[58]⟩ nm) (by simp) (by show 1 + (nm.size + 0) ≤ _; omega)).mono ?_
  rintro e w5 ⟨rfl, hb5⟩
  have B5 : Hid (Below w.heap.size w w5) := (B1.out.alloc hs2 _).trans (hb5.mono (by simp; omega))
  clear hb5
  go_wp2_with fail
  go_ret
  exact ⟨retS HV.out, B5.out⟩
end
def A3 (w : World) (b : Nat) (x0 x1 x2 : Value) : Prop := w.heap[b]? = some (.cells #[x0, x1, x2] 341 (0, 0))
theorem A3.cs {w : World} {b : Nat} {x0 x1 x2 : Value} (h : A3 w b x0 x1 x2) : w.cell? ⟨b, 0, none⟩ = some x0 ∧ w.cell? ⟨b, 1, none⟩ = some x1 ∧ w.cell? ⟨b, 2, none⟩ = some x2 := by
  have h' : w.heap[b]? = _ := h
  refine ⟨?_, ?_, ?_⟩ <;> (unfold World.cell?; rw [h']; rfl)
theorem A3.lt {w : World} {b : Nat} {x0 x1 x2 : Value} (h : A3 w b x0 x1 x2) : b < w.heap.size := (Array.getElem?_eq_some_iff.1 h).1
theorem A3.below {w w' : World} {b : Nat} {x0 x1 x2 : Value} (h : A3 w b x0 x1 x2) (hb : Below w.heap.size w w') : A3 w' b x0 x1 x2 := by
  show _ = _; rw [hb.block b h.lt]; exact h
theorem A3.new (w : World) (x0 x1 x2 : Value) : A3 (w.alloc (.cells #[x0, x1, x2] 341)) w.heap.size x0 x1 x2 := heap_alloc_new w _
theorem attrW_c (nm how v : ByteArray) (w : World) (hs : nm.size ≤ 4000000) (hh : how.size ≤ 10) (hv : v.size ≤ 4000000) : Calls Tryz.prog 344 #[.agg #[.string nm, .string how, .string v]] w fun e w' => e = .returned (.string (attrO nm how v)) ∧ Below w.heap.size w w' := by
  obtain ⟨o, Ho⟩ : ∃ o, Hid (nameO nm = o) := ⟨_, hid rfl⟩
  have hsz : o.size ≤ 4 * nm.size := by rw [← Ho.out]; exact nameO_size nm
  by_cases he : how.toList = []
  · have hn : how = nob := by
      have := bytes_lit how []
      rw [he] at this
      exact of_decide_eq_true this.symm
    have HV : Hid (joinB [⟨#[91]⟩, o, ⟨#[93]⟩] = attrO nm how v) := by show _ = _; unfold attrO; rw [if_pos hn, Ho.out]; simp [joinB, b1]
    clear hn
    have B1 : Hid (Below w.heap.size w (w.alloc (.cells #[.string nm, .string how, .string v] 341))) := new_below _ _
    go_enter Tryz.func344, Tryz.ntmps344
    go_wp2_with fail
    generalize w.alloc (.cells #[.string nm, .string how, .string v] 341) = w2 at *
    refine (Name_c nm _ hs).mono ?_
    rw [Ho.out]
    rintro e w3 ⟨rfl, hb3⟩
    have B3 : Hid (Below w.heap.size w w3) := B1.out.trans (hb3.mono B1.out.size)
    have hs3 := B3.out.size
    clear hb3
    go_wp2_with fail
    refine (Join_c [⟨#[91]⟩, o, ⟨#[93]⟩] w3.heap.size _ _ (row3 w3 ⟨#[91]⟩ o ⟨#[93]⟩) (by simp) (by show 1 + (o.size + (1 + 0)) ≤ _; omega)).mono ?_
    rintro e w5 ⟨rfl, hb5⟩
    have B5 : Hid (Below w.heap.size w w5) := (B3.out.alloc hs3 _).trans (hb5.mono (by simp; omega))
    clear hb5
    go_wp2_with fail
    go_ret
    exact ⟨retS HV.out, B5.out⟩
  · have hn : ¬ how = nob := fun e => he (by rw [e, bytes_toList]; rfl)
    have hie : how.toList.isEmpty = false := by cases hq : how.toList with | nil => exact absurd hq he | cons _ _ => rfl
    have hib : (how.toList == []) = false := by cases hq : how.toList with | nil => exact absurd hq he | cons _ _ => rfl
    obtain ⟨tx, Htx⟩ : ∃ o, Hid (textO v = o) := ⟨_, hid rfl⟩
    have hst : tx.size ≤ 4 * v.size + 2 := by rw [← Htx.out]; exact textO_size v
    have HV : Hid (joinB [⟨#[91]⟩, o, how, tx, ⟨#[93]⟩] = attrO nm how v) := by show _ = _; unfold attrO; rw [if_neg hn, Ho.out, Htx.out]; simp [joinB, b1]
    clear hn
    have B2 : Hid (Below w.heap.size w (w.alloc (.cells #[.string nm, .string how, .string v] 341)).drew) := new_drew _ _
    have A2 : Hid (A3 (w.alloc (.cells #[.string nm, .string how, .string v] 341)).drew w.heap.size (.string nm) (.string how) (.string v)) := A3.new _ _ _ _
    go_enter Tryz.func344, Tryz.ntmps344
    go_wp2_with fail
    refine wp_region_any (by kernel_rfl) ?_
    change wpAny _ _ _ _ _ _ _ (World.drew _)
    generalize (w.alloc (.cells #[.string nm, .string how, .string v] 341)).drew = w2 at *
    have hs2 := B2.out.size
    refine wpAny_of_held (S := fun wx => A3 wx w.heap.size (.string nm) (.string how) (.string v)) _ _ _ _ ?_
    refine tkH 0 rfl A2.out (by intro w hSw; obtain ⟨a0, a1, a2⟩ := hSw.cs; go_simp; all_goals with_reducible rfl) ?_
    refine tkH 1 rfl A2.out (by intro w hSw; obtain ⟨a0, a1, a2⟩ := hSw.cs; go_simp; all_goals with_reducible rfl) ?_
    refine tkH 3 rfl A2.out (by intro w hSw; obtain ⟨a0, a1, a2⟩ := hSw.cs; go_simp; all_goals with_reducible rfl) ?_
    refine tkH 4 rfl A2.out (by intro w hSw; obtain ⟨a0, a1, a2⟩ := hSw.cs; go_simp; all_goals with_reducible rfl) ?_
    refine tkH 5 rfl A2.out (by intro w hSw; obtain ⟨a0, a1, a2⟩ := hSw.cs; go_simp; all_goals with_reducible rfl) ?_
    refine tkH 6 rfl A2.out (by intro w hSw; obtain ⟨a0, a1, a2⟩ := hSw.cs; go_simp; all_goals with_reducible rfl) ?_
    refine brH 2 fun K hK => ?_
    go_simp
    refine (Name_c nm _ hs).mono ?_
    rw [Ho.out]
    rintro e w3 ⟨rfl, hb3⟩
    have B3 : Hid (Below w.heap.size w w3) := B2.out.trans (hb3.mono hs2)
    have A4 : Hid (A3 w3 w.heap.size (.string nm) (.string how) (.string v)) := A2.out.below hb3
    have hs3 := B3.out.size
    clear hb3
    refine hK.out _ _ A4.out (fun _ => ?_)
    clear hK K
    refine brH 7 fun K hK => ?_
    go_simp
    refine (Text_c v _ hv).mono ?_
    rw [Htx.out]
    rintro e w4 ⟨rfl, hb4⟩
    have B4 : Hid (Below w.heap.size w w4) := B3.out.trans (hb4.mono hs3)
    have A5 : Hid (A3 w4 w.heap.size (.string nm) (.string how) (.string v)) := A4.out.below hb4
    have hs4 := B4.out.size
    clear hb4
    refine hK.out _ _ A5.out (fun _ => ?_)
    clear hK K
    refine brH 8 fun K hK => ?_
    go_simp
    refine hK.out _ _ (A5.out.below (new_below _ _)) (fun _ => ?_); clear hK K
    refine brH 9 fun K hK => ?_
    go_simp
    refine (Join_c [⟨#[91]⟩, o, how, tx, ⟨#[93]⟩] w4.heap.size _ _ (row5 w4 ⟨#[91]⟩ o how tx ⟨#[93]⟩) (by simp) (by show 1 + (o.size + (how.size + (tx.size + (1 + 0)))) ≤ _; omega)).mono ?_
    rintro e w5 ⟨rfl, hb5⟩
    have B5 : Hid (Below w.heap.size w w5) := (B4.out.alloc hs4 _).trans (hb5.mono (by simp; omega))
    have A6 : Hid (A3 w5 w.heap.size (.string nm) (.string how) (.string v)) := (A5.out.below (new_below _ _)).below hb5
    clear hb5
    refine hK.out _ _ A6.out (fun _ => ?_)
    clear hK K
    refine brH 10 fun K hK => ?_
    go_simp
    refine hK.out _ _ (A6.out) (fun _ => ?_); clear hK K
    refine wpAnyH_done (by kernel_rfl) ?_ _
    go_wp2_with fail
    go_ret
    exact ⟨retS HV.out, B5.out⟩
end
def ItoaOK [DecI] (w : World) : Prop := ∀ (n : Nat) (w' : World), n ≤ 999 → Below w.heap.size w w' → Calls Tryz.prog 376 #[.int .i64 (n : Int)] w' fun e w'' => e = .returned (.string (decO n)) ∧ Below w'.heap.size w' w''
theorem ItoaOK.below [DecI] {w w' : World} {g : Nat} (h : ItoaOK w) (hb : Below g w w') (hg : w.heap.size ≤ g) : ItoaOK w' := fun n w2 hn hb2 => h n w2 hn ((hb.mono hg).trans (hb2.mono (Nat.le_trans (Nat.le_refl _) hb.size)))
theorem lit_nth (x : ByteArray) : joinB [⟨#[58, 110, 116, 104, 45, 99, 104, 105, 108, 100, 40]⟩, x, ⟨#[41]⟩] = b1 58 ++ (nNth ++ (b1 40 ++ (x ++ b1 41))) := by
  have e : b1 58 ++ (nNth ++ b1 40) = ⟨#[58, 110, 116, 104, 45, 99, 104, 105, 108, 100, 40]⟩ := by decide
  show ⟨#[58, 110, 116, 104, 45, 99, 104, 105, 108, 100, 40]⟩ ++ (x ++ (b1 41 ++ joinB [])) = _
  rw [← e, show joinB [] = nob from rfl, app_nob]
  simp only [ByteArray.append_assoc]
theorem lit_not (x : ByteArray) : joinB [⟨#[58, 110, 111, 116, 40]⟩, x, ⟨#[41]⟩] = b1 58 ++ (nNot ++ (b1 40 ++ (x ++ b1 41))) := by
  have e : b1 58 ++ (nNot ++ b1 40) = ⟨#[58, 110, 111, 116, 40]⟩ := by decide
  show ⟨#[58, 110, 111, 116, 40]⟩ ++ (x ++ (b1 41 ++ joinB [])) = _
  rw [← e, show joinB [] = nob from rfl, app_nob]
  simp only [ByteArray.append_assoc]
theorem lit_is (x : ByteArray) : joinB [⟨#[58, 105, 115, 40]⟩, x, ⟨#[41]⟩] = b1 58 ++ (nIs ++ (b1 40 ++ (x ++ b1 41))) := by
  have e : b1 58 ++ (nIs ++ b1 40) = ⟨#[58, 105, 115, 40]⟩ := by decide
  show ⟨#[58, 105, 115, 40]⟩ ++ (x ++ (b1 41 ++ joinB [])) = _
  rw [← e, show joinB [] = nob from rfl, app_nob]
  simp only [ByteArray.append_assoc]
def P2 (w : World) (b : Nat) (x0 x1 : Value) : Prop := w.heap[b]? = some (.cells #[x0, x1] 351 (0, 0))
theorem P2.cs {w : World} {b : Nat} {x0 x1 : Value} (h : P2 w b x0 x1) : w.cell? ⟨b, 0, none⟩ = some x0 ∧ w.cell? ⟨b, 1, none⟩ = some x1 := by
  have h' : w.heap[b]? = _ := h
  refine ⟨?_, ?_⟩ <;> (unfold World.cell?; rw [h']; rfl)
theorem P2.new (w : World) (x0 x1 : Value) : P2 (w.alloc (.cells #[x0, x1] 351)) w.heap.size x0 x1 := heap_alloc_new w _
theorem placeN_c (nm : ByteArray) (w : World) (hne : (nm.toList == []) = false) (hs : nm.size ≤ 10) : Calls Tryz.prog 374 #[.agg #[.string nm, .int .i64 0]] w fun e w' => e = .returned (.string (b1 58 ++ (nNth ++ (b1 40 ++ (nm ++ b1 41))))) ∧ Below w.heap.size w w' := by
  have B1 : Hid (Below w.heap.size w (w.alloc (.cells #[.string nm, .int .i64 0] 351))) := new_below _ _
  have V1 : Hid (P2 (w.alloc (.cells #[.string nm, .int .i64 0] 351)) w.heap.size (.string nm) (.int .i64 0)) := P2.new _ _ _
  have HV : Hid (joinB [⟨#[58, 110, 116, 104, 45, 99, 104, 105, 108, 100, 40]⟩, nm, ⟨#[41]⟩] = b1 58 ++ (nNth ++ (b1 40 ++ (nm ++ b1 41)))) := lit_nth nm
  have hie : nm.toList.isEmpty = false := by cases hq : nm.toList with | nil => rw [hq] at hne; cases hne | cons _ _ => rfl
  go_enter Tryz.func374, Tryz.ntmps374
  go_upto_region 1 with fail
  generalize w.alloc (.cells #[.string nm, .int .i64 0] 351) = w2 at *
  have hs2 := B1.out.size
  obtain ⟨c0, c1⟩ := V1.out.cs
  go_wp2_with fail
  refine (Join_c [⟨#[58, 110, 116, 104, 45, 99, 104, 105, 108, 100, 40]⟩, nm, ⟨#[41]⟩] w2.heap.size _ _ (row3 w2 _ nm _) (by simp) (by show 11 + (nm.size + (1 + 0)) ≤ _; omega)).mono ?_
  rintro e w5 ⟨rfl, hb5⟩
  have B5 : Hid (Below w.heap.size w w5) := (B1.out.alloc hs2 _).trans (hb5.mono (by simp; omega))
  clear hb5
  go_wp2_with fail
  go_ret
  exact ⟨retS HV.out, B5.out⟩
theorem placeD_c [DecI] (n : Nat) (w : World) (hn : n ≤ 999) (hI : ItoaOK w) (hd : (decO n).size ≤ 100) : Calls Tryz.prog 374 #[.agg #[.string ⟨#[]⟩, .int .i64 (n : Int)]] w fun e w' => e = .returned (.string (b1 58 ++ (nNth ++ (b1 40 ++ (decO n ++ b1 41))))) ∧ Below w.heap.size w w' := by
  have B1 : Hid (Below w.heap.size w (w.alloc (.cells #[.string ⟨#[]⟩, .int .i64 (n : Int)] 351))) := new_below _ _
  have V1 : Hid (P2 (w.alloc (.cells #[.string ⟨#[]⟩, .int .i64 (n : Int)] 351)) w.heap.size (.string ⟨#[]⟩) (.int .i64 (n : Int))) := P2.new _ _ _
  obtain ⟨d, Hd⟩ : ∃ d, Hid (decO n = d) := ⟨_, hid rfl⟩
  have HI : Hid (Calls Tryz.prog 376 #[.int .i64 (n : Int)] (w.alloc (.cells #[.string ⟨#[]⟩, .int .i64 (n : Int)] 351)) fun e w'' => e = .returned (.string d) ∧ Below (w.alloc (.cells #[.string ⟨#[]⟩, .int .i64 (n : Int)] 351)).heap.size (w.alloc (.cells #[.string ⟨#[]⟩, .int .i64 (n : Int)] 351)) w'') := by
    have := hI n _ hn B1.out
    rwa [Hd.out] at this
  rw [Hd.out] at hd
  rw [Hd.out]
  have HV : Hid (joinB [⟨#[58, 110, 116, 104, 45, 99, 104, 105, 108, 100, 40]⟩, d, ⟨#[41]⟩] = b1 58 ++ (nNth ++ (b1 40 ++ (d ++ b1 41)))) := lit_nth d
  clear hI
  go_enter Tryz.func374, Tryz.ntmps374
  go_upto_region 1 with fail
  generalize w.alloc (.cells #[.string ⟨#[]⟩, .int .i64 (n : Int)] 351) = w2 at *
  have hs2 := B1.out.size
  obtain ⟨c0, c1⟩ := V1.out.cs
  go_wp2_with fail
  refine HI.out.mono ?_
  rintro e w3 ⟨rfl, hb3⟩
  have B3 : Hid (Below w.heap.size w w3) := B1.out.trans (hb3.mono hs2)
  have hs3 := B3.out.size
  clear hb3 HI c0 c1
  go_wp2_with fail
  refine (Join_c [⟨#[58, 110, 116, 104, 45, 99, 104, 105, 108, 100, 40]⟩, d, ⟨#[41]⟩] w3.heap.size _ _ (row3 w3 _ d _) (by simp) (by show 11 + (d.size + (1 + 0)) ≤ _; omega)).mono ?_
  rintro e w5 ⟨rfl, hb5⟩
  have B5 : Hid (Below w.heap.size w w5) := (B3.out.alloc hs3 _).trans (hb5.mono (by simp; omega))
  clear hb5
  go_wp2_with fail
  go_ret
  exact ⟨retS HV.out, B5.out⟩
theorem notW_c (la : Option Addr) (ll lc : Nat) (o : ByteArray) (w : World) (ho : o.size ≤ 549755813888)
    (hL : ∀ w', Below w.heap.size w w' → Calls Tryz.prog 324 #[.slice la ll lc] w' fun e w'' => e = .returned (.string o) ∧ Below w'.heap.size w' w'') :
    Calls Tryz.prog 367 #[.agg #[.slice la ll lc]] w fun e w' => e = .returned (.string (b1 58 ++ (nNot ++ (b1 40 ++ (o ++ b1 41))))) ∧ Below w.heap.size w w' := by
  have B1 : Hid (Below w.heap.size w (w.alloc (.cells #[.slice la ll lc] 345))) := new_below _ _
  have HL : Hid (Calls Tryz.prog 324 #[.slice la ll lc] (w.alloc (.cells #[.slice la ll lc] 345)) fun e w'' => e = .returned (.string o) ∧ Below (w.alloc (.cells #[.slice la ll lc] 345)).heap.size (w.alloc (.cells #[.slice la ll lc] 345)) w'') := hL _ B1.out
  have HV : Hid (joinB [⟨#[58, 110, 111, 116, 40]⟩, o, ⟨#[41]⟩] = b1 58 ++ (nNot ++ (b1 40 ++ (o ++ b1 41)))) := lit_not o
  clear hL
  go_enter Tryz.func367, Tryz.ntmps367
  go_wp2_with fail
  generalize w.alloc (.cells #[.slice la ll lc] 345) = w2 at *
  have hs2 := B1.out.size
  refine HL.out.mono ?_
  rintro e w3 ⟨rfl, hb3⟩
  have B3 : Hid (Below w.heap.size w w3) := B1.out.trans (hb3.mono hs2)
  have hs3 := B3.out.size
  clear hb3 HL
  go_wp2_with fail
  refine (Join_c [⟨#[58, 110, 111, 116, 40]⟩, o, ⟨#[41]⟩] w3.heap.size _ _ (row3 w3 _ o _) (by simp) (by show 5 + (o.size + (1 + 0)) ≤ _; omega)).mono ?_
  rintro e w5 ⟨rfl, hb5⟩
  have B5 : Hid (Below w.heap.size w w5) := (B3.out.alloc hs3 _).trans (hb5.mono (by simp; omega))
  clear hb5
  go_wp2_with fail
  go_ret
  exact ⟨retS HV.out, B5.out⟩
theorem isW_c (la : Option Addr) (ll lc : Nat) (o : ByteArray) (w : World) (ho : o.size ≤ 549755813888)
    (hL : ∀ w', Below w.heap.size w w' → Calls Tryz.prog 324 #[.slice la ll lc] w' fun e w'' => e = .returned (.string o) ∧ Below w'.heap.size w' w'') :
    Calls Tryz.prog 371 #[.agg #[.slice la ll lc]] w fun e w' => e = .returned (.string (b1 58 ++ (nIs ++ (b1 40 ++ (o ++ b1 41))))) ∧ Below w.heap.size w w' := by
  have B1 : Hid (Below w.heap.size w (w.alloc (.cells #[.slice la ll lc] 346))) := new_below _ _
  have HL : Hid (Calls Tryz.prog 324 #[.slice la ll lc] (w.alloc (.cells #[.slice la ll lc] 346)) fun e w'' => e = .returned (.string o) ∧ Below (w.alloc (.cells #[.slice la ll lc] 346)).heap.size (w.alloc (.cells #[.slice la ll lc] 346)) w'') := hL _ B1.out
  have HV : Hid (joinB [⟨#[58, 105, 115, 40]⟩, o, ⟨#[41]⟩] = b1 58 ++ (nIs ++ (b1 40 ++ (o ++ b1 41)))) := lit_is o
  clear hL
  go_enter Tryz.func371, Tryz.ntmps371
  go_wp2_with fail
  generalize w.alloc (.cells #[.slice la ll lc] 346) = w2 at *
  have hs2 := B1.out.size
  refine HL.out.mono ?_
  rintro e w3 ⟨rfl, hb3⟩
  have B3 : Hid (Below w.heap.size w w3) := B1.out.trans (hb3.mono hs2)
  have hs3 := B3.out.size
  clear hb3 HL
  go_wp2_with fail
  refine (Join_c [⟨#[58, 105, 115, 40]⟩, o, ⟨#[41]⟩] w3.heap.size _ _ (row3 w3 _ o _) (by simp) (by show 4 + (o.size + (1 + 0)) ≤ _; omega)).mono ?_
  rintro e w5 ⟨rfl, hb5⟩
  have B5 : Hid (Below w.heap.size w w5) := (B3.out.alloc hs3 _).trans (hb5.mono (by simp; omega))
  clear hb5
  go_wp2_with fail
  go_ret
  exact ⟨retS HV.out, B5.out⟩
end Go.Proofs.YtlliliddljkbfaaGreat
namespace Go.Proofs.YtlliliddljkbfaaGreat.Sp
set_option maxHeartbeats 64000000
set_option maxRecDepth 100000
def sibs (p : Page) (e : Nat) : List Nat := if parentOf p e < 0 then [e] else aheadF p (parentOf p e) p.length
structure Par (p : Page) : Prop where
  lt : ∀ e, e < p.length → parentOf p e < e
  root : ∀ e, e < p.length → parentOf p e < 0 → e = 0
end Go.Proofs.YtlliliddljkbfaaGreat.Sp
