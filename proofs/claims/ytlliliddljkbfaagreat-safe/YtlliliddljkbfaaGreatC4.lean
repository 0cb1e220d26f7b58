import Derived.Test.YtlliliddljkbfaaGreatC3
import Derived.Deep.RegionLaw
namespace Go.Proofs.YtlliliddljkbfaaGreat.Sp
set_option maxHeartbeats 64000000
set_option maxRecDepth 100000
theorem dropB_blank {n : Nd} {r : List Nd} (h : n.t.kind = 1) : dropB (n :: r) = dropB r := by simp [dropB, blankN, h]
theorem dropB_other {n : Nd} {r : List Nd} (h : ¬ n.t.kind = 1) : dropB (n :: r) = n :: r := by simp [dropB, blankN, h]
theorem trimE_blank {l : List Nd} {n : Nd} (h : n.t.kind = 1) : trimE (l ++ [n]) = trimE l := by simp [trimE, dropB_blank h]
theorem trimE_other {l : List Nd} {n : Nd} (h : ¬ n.t.kind = 1) : trimE (l ++ [n]) = l ++ [n] := by simp [trimE, dropB_other h]
theorem dropB_len (l : List Nd) : (dropB l).length ≤ l.length := by
  induction l with
  | nil => simp [dropB]
  | cons n r ih => unfold dropB; split <;> simp <;> omega
theorem snoc_or (l : List Nd) : l = [] ∨ ∃ i x, l = i ++ [x] := by
  rcases List.eq_nil_or_concat l with h | ⟨i, x, h⟩
  · exact .inl h
  · exact .inr ⟨i, x, by simpa using h⟩
theorem depth_snoc : ∀ (a : List Nd) (n : Nd), depth (a ++ [n]) = max (depth a) (depthN n)
  | [], n => by simp [depth]
  | m :: r, n => by simp [depth, depth_snoc r n, Nat.max_assoc]
theorem depthN_mem : ∀ (l : List Nd) (n : Nd), n ∈ l → depthN n ≤ depth l
  | m :: r, n, h => by
    rcases List.mem_cons.1 h with rfl | h
    · simp only [depth]; omega
    · have := depthN_mem r n h; simp only [depth]; omega
theorem depthN_none {n : Nd} (h : closing n.t = nob) : depthN n = 0 := by
  cases n; unfold depthN; exact if_pos h
theorem depthN_some {n : Nd} (h : ¬ closing n.t = nob) : depthN n = depth n.kids + 1 := by
  cases n; unfold depthN; exact if_neg h
theorem kidsF_len : ∀ (f : Nat) (e : ByteArray) (ts : List Tok), (kidsF f e ts).1.length + (kidsF f e ts).2.length ≤ ts.length
  | 0, _, ts => by simp [kidsF]
  | f + 1, _, [] => by simp [kidsF]
  | f + 1, e, t :: r => by
    unfold kidsF
    split
    · simp
    · have h1 := kidsF_len f (closing t) r
      by_cases hc : closing t = nob
      · have h2 := kidsF_len f e r
        simp only [if_pos hc, List.length_cons]; omega
      · have h2 := kidsF_len f e (kidsF f (closing t) r).2
        simp only [if_neg hc, List.length_cons]; omega
theorem kidsF_fuel : ∀ (n f : Nat) (e : ByteArray) (ts : List Tok), ts.length ≤ n → n ≤ f → kidsF f e ts = kidsF n e ts
  | 0, f, e, ts, h, _ => by
    obtain rfl : ts = [] := List.eq_nil_of_length_eq_zero (by omega)
    cases f <;> simp [kidsF]
  | n + 1, 0, _, _, _, h => by omega
  | n + 1, f + 1, e, [], _, _ => by simp [kidsF]
  | n + 1, f + 1, e, t :: r, h, hf => by
    simp only [List.length_cons] at h
    have h1 := kidsF_fuel n f (closing t) r (by omega) (by omega)
    have hl := kidsF_len n (closing t) r
    unfold kidsF
    rw [h1]
    by_cases hc : closing t = nob
    · simp only [if_pos hc, kidsF_fuel n f e r (by omega) (by omega)]
    · simp only [if_neg hc, kidsF_fuel n f e (kidsF n (closing t) r).2 (by omega) (by omega)]
theorem kids_eq (f : Nat) (e : ByteArray) (ts : List Tok) (h : ts.length ≤ f) : kidsF f e ts = kids e ts := kidsF_fuel _ _ _ _ (Nat.le_refl _) h
theorem kids_nil (e : ByteArray) : kids e [] = ([], []) := by simp [kids, kidsF]
theorem kids_len (e : ByteArray) (ts : List Tok) : (kids e ts).1.length + (kids e ts).2.length ≤ ts.length := kidsF_len _ _ _
theorem inside_len (t : Tok) (r : List Tok) : (inside t r).1.length + (inside t r).2.length ≤ r.length := by
  unfold inside
  split
  · simp
  · exact kids_len _ _
theorem kids_end {e : ByteArray} {t : Tok} {r : List Tok} (h : e ≠ nob ∧ signT t e = true) : kids e (t :: r) = ([], r) := by
  simp only [kids, List.length_cons]
  unfold kidsF
  rw [if_pos h]
theorem kids_cons {e : ByteArray} {t : Tok} {r : List Tok} (h : ¬ (e ≠ nob ∧ signT t e = true)) : kids e (t :: r) = (.mk t (inside t r).1 :: (kids e (inside t r).2).1, (kids e (inside t r).2).2) := by
  have hl := inside_len t r
  have e1 : (if closing t = nob then ([], r) else kidsF r.length (closing t) r) = inside t r := rfl
  rw [← kids_eq r.length e (inside t r).2 (by omega)]
  simp only [kids, List.length_cons]
  conv => lhs; unfold kidsF
  rw [if_neg h]
  rw [e1]
theorem kids_drop (n : Nat) : ∀ (e : ByteArray) (ts : List Tok), ts.length ≤ n → ∃ k, k ≤ ts.length ∧ (kids e ts).2 = ts.drop k := by
  induction n with
  | zero =>
    intro e ts h
    obtain rfl : ts = [] := List.eq_nil_of_length_eq_zero (by omega)
    exact ⟨0, by simp, by simp [kids_nil]⟩
  | succ n ih =>
    intro e ts h
    cases ts with
    | nil => exact ⟨0, by simp, by simp [kids_nil]⟩
    | cons t r =>
      simp only [List.length_cons] at h
      by_cases hc : e ≠ nob ∧ signT t e = true
      · exact ⟨1, by simp, by simp [kids_end hc]⟩
      · rw [kids_cons hc]
        have hi : ∃ k, k ≤ r.length ∧ (inside t r).2 = r.drop k := by
          unfold inside
          split
          · exact ⟨0, by simp, by simp⟩
          · exact ih _ r (by omega)
        obtain ⟨k, hk, hk2⟩ := hi
        obtain ⟨m, hm, hm2⟩ := ih e (inside t r).2 (by rw [hk2]; simp; omega)
        refine ⟨k + m + 1, ?_, ?_⟩
        · rw [hk2] at hm; simp at hm ⊢; omega
        · show (kids e (inside t r).2).2 = _
          rw [hm2, hk2, List.drop_drop]
          rfl
theorem inside_drop (t : Tok) (r : List Tok) : ∃ k, k ≤ r.length ∧ (inside t r).2 = r.drop k := by
  unfold inside
  split
  · exact ⟨0, by simp, by simp⟩
  · exact kids_drop _ _ r (Nat.le_refl _)
end Go.Proofs.YtlliliddljkbfaaGreat.Sp
namespace Go.Proofs.YtlliliddljkbfaaGreat
set_option maxHeartbeats 64000000
set_option maxRecDepth 100000
open Go.RowKit Sp
theorem Trim_c (B : Nat) (l : List Nd) (v : Value) (w : World) (h : Sl (fun b => b < B) w v l) :
    Calls Tryz.prog 120 #[v] w fun e w' => ∃ v', e = .returned v' ∧ Sl (fun b => b < B) w v' (bare l) ∧ w' = w := by
  have hl := h.len
  have HS : Hid (Sl (fun b => b < B) w v l) := h
  obtain ⟨a, cap, rfl⟩ := h.form
  clear h
  go_enter Tryz.func120, Tryz.ntmps120
  go_wp2_with fail
  go_loopg [0] l.length (fun g v0 wr => ∃ (cur : List Nd) (a : Option Addr) (cap : Nat), v0 = .slice a cur.length cap ∧ g = cur.length ∧ cur.length ≤ 600 ∧ Aside (Sl (fun b => b < B) w (.slice a cur.length cap) cur ∧ dropB cur = dropB l ∧ wr = w))
  case atStart => exact ⟨l, a, cap, rfl, rfl, hl, HS.out, rfl, rfl⟩
  case round =>
    obtain ⟨cur, a, cap, rfl, rfl, hl6, hA⟩ := hrel
    have HC : Hid (Sl (fun b => b < B) w (.slice a cur.length cap) cur) := hA.out.1
    have HD : Hid (dropB cur = dropB l) := hA.out.2.1
    obtain rfl := hA.out.2.2
    clear hA HS hl
    by_cases hx : ∃ n r, cur = n :: r ∧ n.t.kind = 1
    · obtain ⟨n, r, rfl, hk⟩ := hx
      obtain ⟨g, o, rfl, hL, hcap⟩ := HC.out.here (by simp)
      obtain ⟨kv, hN⟩ := hL.node (i := 0) (by simp)
      have c0 := hN.c0
      have HT : Hid (Sl (fun b => b < B) wr (.slice (some ⟨g, o + 4, none⟩) r.length (cap - 1)) r) := HC.out.tail
      have HD2 : Hid (dropB r = dropB l) := by show _ = _; rw [← HD.out, dropB_blank hk]
      have hb : (n.t.kind == 1) = true := by simpa using hk
      clear hN hL hk HC HD
      simp only [Nat.zero_mul, Nat.add_zero, List.getElem_cons_zero, List.length_cons] at *
      go_wp2_with fail
      · go_roundg r.length
        case measure => omega
        case rel =>
          have e : r = [] := List.eq_nil_of_length_eq_zero (by omega)
          subst e
          exact ⟨[], _, _, rfl, rfl, by simp, Sl.none_any _ _ _ _, HD2.out, rfl⟩
      · go_roundg r.length
        case measure => omega
        case rel => exact ⟨r, _, _, rfl, rfl, by omega, HT.out, HD2.out, rfl⟩
    · have HE : Hid (dropB l = cur) := by
        show _ = _
        rw [← HD.out]
        cases cur with
        | nil => rfl
        | cons n r => exact dropB_other (fun e => hx ⟨n, r, rfl, e⟩)
      clear HD
      cases cur with
      | nil =>
        clear hx
        simp only [List.length_nil] at *
        go_wp2_with fail
        go_loopg [0] 0 (fun g v0 wq => v0 = .slice a 0 cap ∧ Aside (wr = wq))
        case atStart => exact ⟨rfl, rfl⟩
        case round =>
          obtain ⟨rfl, hA⟩ := hrel
          obtain rfl := hA.out
          clear hA
          go_wp2_with fail
          go_ret
          exact ⟨_, rfl, by unfold bare; rw [HE.out]; exact Sl.none_any _ _ _ _, rfl⟩
      | cons n r =>
        obtain ⟨g, o, rfl, hL, hcap⟩ := HC.out.here (by simp)
        obtain ⟨kv, hN⟩ := hL.node (i := 0) (by simp)
        have c0 := hN.c0
        have hb : (n.t.kind == 1) = false := by simp; exact fun e => hx ⟨n, r, rfl, e⟩
        clear hN hx
        simp only [Nat.zero_mul, Nat.add_zero, List.getElem_cons_zero, List.length_cons] at *
        go_wp2_with fail
        obtain ⟨all, hall⟩ : ∃ all, all = n :: r := ⟨_, rfl⟩
        have HN : Hid (r.length + 1 = all.length) := by rw [hall]; rfl
        have hal : all.length ≤ 600 := by rw [← HN.out]; exact hl6
        have hac : all.length ≤ cap := by rw [← HN.out]; exact hcap
        have HL : Hid (LiesL (fun b => b < B) wr all g o) := by rw [hall]; exact hL
        have HC2 : Hid (Sl (fun b => b < B) wr (.slice (some ⟨g, o, none⟩) (r.length + 1) cap) all) := by rw [hall]; exact HC.out
        rw [← hall] at HE
        clear hL HC hall c0 hb
        go_loopg [0] all.length (fun g' v0 wq => ∃ (j : Nat), j ≤ all.length ∧ v0 = .slice (some ⟨g, o, none⟩) j cap ∧ g' = j ∧ Aside (trimE (all.take j) = trimE all ∧ wr = wq))
        case atStart => exact ⟨all.length, Nat.le_refl _, by rw [← HN.out], rfl, by simp, rfl⟩
        case round =>
          obtain ⟨j, hj, rfl, hjg, hA⟩ := hrel
          subst hjg
          have HT : Hid (trimE (all.take gk) = trimE all) := hA.out.1
          obtain rfl := hA.out.2
          clear hA
          by_cases hj0 : gk = 0
          · subst hj0
            go_wp2_with fail
            go_ret
            refine ⟨_, rfl, ?_, rfl⟩
            unfold bare; rw [HE.out, ← HT.out]
            exact Sl.none_any _ _ _ _
          · have h1 : (0 : Int) < (gk : Int) := by omega
            obtain ⟨kv, hN⟩ := HL.out.node (i := gk - 1) (by omega)
            have c0 := hN.c0
            have e1 : all.take gk = all.take (gk - 1) ++ [all[gk - 1]] := by
              conv => lhs; rw [show gk = gk - 1 + 1 from by omega]
              rw [List.take_succ_eq_append_getElem (by omega)]
            clear hN
            obtain ⟨x, hxx⟩ : ∃ x, x = all[gk - 1] := ⟨_, rfl⟩
            rw [← hxx] at c0 e1
            have E1 : Hid (all.take gk = all.take (gk - 1) ++ [x]) := e1
            clear hxx e1
            cases hb : (x.t.kind == 1)
            · have HV : Hid (bare l = all.take gk) := by
                show _ = _
                unfold bare
                rw [HE.out, ← HT.out, E1.out, trimE_other (by simpa using hb)]
              go_wp2_with fail
              go_ret
              refine ⟨_, rfl, ?_, rfl⟩
              rw [HV.out]
              exact HC2.out.init gk hj
            · have HV : Hid (trimE (all.take (gk - 1)) = trimE all) := by
                show _ = _
                rw [← HT.out, E1.out, trimE_blank (by simpa using hb)]
              go_wp2_with fail
              go_roundg (gk - 1)
              case measure => omega
              case rel => exact ⟨gk - 1, by omega, rfl, rfl, HV.out, rfl⟩
section
def TL (w : World) (g : Nat) (ts : List Tok) : Prop :=
  ∀ j (hj : j < ts.length), w.cell? ⟨g, j * 3, none⟩ = some (.int .i64 ts[j].kind) ∧ w.cell? ⟨g, j * 3 + 1, none⟩ = some (.string ts[j].word) ∧ w.cell? ⟨g, j * 3 + 2, none⟩ = some (.string ts[j].unit)
theorem TL.below {w w' : World} {g B : Nat} {ts : List Tok} (h : TL w g ts) (hb : Below B w w') (hg : g < B) : TL w' g ts := fun j hj => by
  obtain ⟨h1, h2, h3⟩ := h j hj
  exact ⟨by rw [hb.cell (show g < B from hg)]; exact h1, by rw [hb.cell (show g < B from hg)]; exact h2, by rw [hb.cell (show g < B from hg)]; exact h3⟩
def NB (w : World) (g : Nat) (a b c d : Value) : Prop := w.heap[g]? = some (.cells #[a, b, c, d] 151 (0, 0))
section
variable {w w' : World} {g : Nat} {a b c d : Value}
theorem NB.lt (h : NB w g a b c d) : g < w.heap.size := (Array.getElem?_eq_some_iff.1 h).1
theorem NB.cs (h : NB w g a b c d) : w.cell? ⟨g, 0, none⟩ = some a ∧ w.cell? ⟨g, 1, none⟩ = some b ∧ w.cell? ⟨g, 2, none⟩ = some c ∧ w.cell? ⟨g, 3, none⟩ = some d := by
  refine ⟨?_, ?_, ?_, ?_⟩ <;> (unfold World.cell?; rw [h]; rfl)
theorem NB.f (h : NB w g a b c d) (o : Nat) : w.frozen? ⟨g, o, none⟩ = false := by
  unfold World.frozen?; rw [h]; rfl
theorem NB.set3 (h : NB w g a b c d) (x : Value) : NB (w.setCell ⟨g, 3, none⟩ x) g a b c x := by
  have hl := h.lt
  unfold NB at h ⊢
  simp only [World.setCell, Array.getElem?_modify, h]
  simp
theorem NB.keep (h : NB w g a b c d) (e : w'.heap[g]? = w.heap[g]?) : NB w' g a b c d := by unfold NB; rw [e]; exact h
theorem NB.below (h : NB w g a b c d) (hb : Below w.heap.size w w') : NB w' g a b c d := h.keep (hb.block g h.lt)
theorem NB.alloc (h : NB w g a b c d) (o : Obj) : NB (w.alloc o) g a b c d := h.keep (Below.heap_alloc _ _ _ h.lt)
end
def set4 (w : World) (g : Nat) (a b c d : Value) : World := (((w.setCell ⟨g, 0, none⟩ a).setCell ⟨g, 1, none⟩ b).setCell ⟨g, 2, none⟩ c).setCell ⟨g, 3, none⟩ d
theorem set4_below {B g : Nat} {x w : World} (h : Below B x w) (hg : B ≤ g) (a b c d : Value) : Below B x (set4 w g a b c d) :=
  (((h.setCell hg a).setCell hg b).setCell hg c).setCell hg d
theorem set4_other (w : World) {g k : Nat} (h : k ≠ g) (a b c d : Value) : (set4 w g a b c d).heap[k]? = w.heap[k]? := by
  unfold set4
  rw [Below.heap_setCell _ _ _ _ h, Below.heap_setCell _ _ _ _ h, Below.heap_setCell _ _ _ _ h, Below.heap_setCell _ _ _ _ h]
theorem set4_size (w : World) (g : Nat) (a b c d : Value) : (set4 w g a b c d).heap.size = w.heap.size := by simp [set4, World.setCell]
theorem Mkg.out {T : TypeId} {W w : World} {v : Value} {l : List Nd} {a b c d : Value} (h : Mkg T (W.heap.size + 2) w v l) (h6 : l.length ≤ 600) : Sl (Frm W.heap.size (set4 w W.heap.size a b c d)) (set4 w W.heap.size a b c d) v l :=
  (h.sl h6).keep (fun g hg => ⟨by have := hg.1; omega, by rw [set4_size]; exact hg.2⟩) fun g hg => set4_other w (by have := hg.1; omega) _ _ _ _
end
def TSl (w : World) (v : Value) (ts : List Tok) : Prop :=
  ∃ (a : Option Addr) (cap : Nat), v = .slice a ts.length cap ∧ (ts ≠ [] → ∃ g, a = some ⟨g, 0, none⟩ ∧ g < w.heap.size ∧ TL w g ts)
section
theorem step_append_own_at {P : Program} {ops : Array Oper} {o : Oper} {a : Act} {w : World} {K : Act → World → Prop} {Q : Exit → Act → World → Prop} {E : Prop}
    (hg : o.guard = none) (s x : Operand) (t : TypeId) (hop : o.op = Op.call { callee := Callee.builtin Builtin.append, args := #[s, x], argTypes := #[t, t] })
    (base : Nat) (e : TypeId) (i : TypeInfo) (z : Value) (size bytes : Nat) (h1 : P.underlying t = some (.slice e)) (h2 : P.info? e = some i) (h3 : i.zero = some z) (h4 : i.size = size) (h5 : i.bytes = bytes) (h6 : z.cells.size = size) (h7 : 0 < size)
    (v : Value) (n : Nat) (xs : List Value) (hs : a.eval s = v) (hown : w.ownsRow base e size v n xs)
    (ad : Addr) (m c : Nat) (news : List Value) (hx : a.eval x = .slice (some ad) m c) (hn : news.length = m * size) (hc : ∀ j u, news[j]? = some u → w.cell? (ad.add j) = some u) (h1c : ∀ u ∈ news, u.oneCell' = true)
    (b1 : n + m ≤ maxLen) (b2 : (n + m) * bytes ≤ 140737488355328) (hbase : base ≤ w.heap.size)
    (hK : ∀ v' w', w'.ownsRow base e size v' (n + m) (xs ++ news) → w.grownBy w' v.ownBlock → (v'.ownBlock = v.ownBlock ∨ v'.ownBlock = some w.heap.size) → K (a.put o.dst v') w') :
    if Region.wanted o (yielded ops a.tmps) = true then Oper.wp P o a w K Q else E := by
  have hw : Region.wanted o (yielded ops a.tmps) = true := by simp [Region.wanted, hg]
  rw [if_pos hw]
  obtain ⟨v', w', hr, r1, r2, _, r4⟩ := run_append_own_at (P := P) w base t o.type e i z size bytes h1 h2 h3 h4 h5 h6 h7 v n xs hown ad m c news hn hc h1c b1 b2 hbase
  unfold Oper.wp
  simp [execOp, hop, resolve, invoke, builtin, hs, hx, hr, Result.andThen]
  exact hK v' w' r1 r2 r4
theorem new4 (w : World) (a b c d : Value) (t : TypeId) : ∀ j u, [a, b, c, d][j]? = some u → (w.alloc (.cells #[a, b, c, d] t)).cell? ((⟨w.heap.size, 0, none⟩ : Addr).add j) = some u := by
  intro j u hu
  rw [Addr.add_lit, Nat.zero_add, World.cell?_alloc_mark, ← hu]
  simp
def Sls (S : Nat → Prop) (w : World) : List (List Nd) → List Value → Prop
  | [], vs => vs = []
  | l :: r, vs => ∃ v rest, vs = v :: rest ∧ Sl S w v l ∧ Sls S w r rest
theorem Sls.keep {S S' : Nat → Prop} {w w' : World} (hS : ∀ g, S g → S' g) (hw : ∀ g, S g → w'.heap[g]? = w.heap[g]?) : ∀ (l : List (List Nd)) (vs : List Value), Sls S w l vs → Sls S' w' l vs
  | [], _, h => h
  | _ :: r, _, ⟨v, rest, h1, h2, h3⟩ => ⟨v, rest, h1, h2.keep hS hw, Sls.keep hS hw r rest h3⟩
theorem Sls.snoc {S : Nat → Prop} {w : World} : ∀ (l : List (List Nd)) (vs : List Value) (_ : Sls S w l vs) (x : List Nd) (v : Value) (_ : Sl S w v x), Sls S w (l ++ [x]) (vs ++ [v])
  | [], vs, h, x, v, hv => ⟨v, [], by simp [show vs = [] from h], hv, rfl⟩
  | _ :: r, _, ⟨v', rest, h1, h2, h3⟩, x, v, hv => ⟨v', rest ++ [v], by simp [h1], h2, Sls.snoc r rest h3 x v hv⟩
theorem Sls.len {S : Nat → Prop} {w : World} : ∀ (l : List (List Nd)) (vs : List Value), Sls S w l vs → vs.length = l.length
  | [], vs, h => by rw [show vs = [] from h]; rfl
  | _ :: r, _, ⟨_, rest, h1, _, h3⟩ => by rw [h1]; simp [Sls.len r rest h3]
theorem Sls.at {S : Nat → Prop} {w : World} : ∀ (l : List (List Nd)) (vs : List Value) (_ : Sls S w l vs) (k : Nat) (hk : k < l.length), ∃ v, vs[k]? = some v ∧ Sl S w v l[k]
  | _ :: _, _, ⟨v, rest, h1, h2, _⟩, 0, _ => ⟨v, by simp [h1], h2⟩
  | _ :: r, _, ⟨_, rest, h1, _, h3⟩, k + 1, hk => by
    obtain ⟨v, e, h⟩ := Sls.at r rest h3 k (by simpa using hk)
    exact ⟨v, by simp [h1, e], by simpa using h⟩
def Fo (w : World) (vo cv : Value) (b : Nat) : Prop := b < w.heap.size ∧ some b ≠ vo.ownBlock ∧ some b ≠ cv.ownBlock
structure Prts (B base : Nat) (w : World) (vo cv : Value) (fin : List (List Nd)) (cur : List Nd) (fvs cs : List Value) : Prop where
  row : w.ownsRow base 105 1 vo (fin.length + 1) (fvs ++ [cv])
  own : w.ownsRow base 151 4 cv cur.length cs
  kid : KidC (fun b => b < B) w cur cs
  fin : Sls (Fo w vo cv) w fin fvs
theorem own_form {w : World} {base e s n : Nat} {v : Value} {xs : List Value} (h : w.ownsRow base e s v n xs) : ∃ a c, v = .slice a n c := by
  rcases h.2 with ⟨rfl, rfl⟩ | ⟨g, cap, cur, rfl, _⟩
  · exact ⟨none, 0, rfl⟩
  · exact ⟨_, _, rfl⟩
theorem own_apart {w : World} {base e1 e2 s1 s2 n1 n2 : Nat} {v1 v2 : Value} {x1 x2 : List Value} (h1 : w.ownsRow base e1 s1 v1 n1 x1) (h2 : w.ownsRow base e2 s2 v2 n2 x2) (he : e1 ≠ e2) (b : Nat) (hb : v1.ownBlock = some b) : v2.ownBlock ≠ some b := by
  rcases h1.2 with ⟨rfl, _⟩ | ⟨g, cap, cur, rfl, _, hg, _⟩
  · cases hb
  · rcases h2.2 with ⟨rfl, _⟩ | ⟨g', cap', cur', rfl, _, hg', _⟩
    · simp [Value.ownBlock]
    · simp only [Value.ownBlock, Option.some.injEq] at hb ⊢
      subst hb
      intro e
      injection e with e
      subst e
      rw [hg] at hg'
      simp at hg'
      exact he hg'.2
section
variable {B base : Nat} {w w3 : World} {vo cv : Value} {fin : List (List Nd)} {cur : List Nd} {fvs cs : List Value}
theorem Prts.push (h : Prts B base w vo cv fin cur fvs cs) (hB : B ≤ base) {cv2 : Value} (n : Nd) (kv : Value) (hk : Sl (fun b => b < B) w kv n.kids ∧ TokOK n.t) (hbs : B ≤ w.heap.size)
    (hown : w3.ownsRow base 151 4 cv2 (cur.length + 1) (cs ++ [.int .i64 n.t.kind, .string n.t.word, .string n.t.unit, kv])) (hrow : w3.ownsRow base 105 1 vo (fin.length + 1) (fvs ++ [cv2]))
    (hs : w.heap.size ≤ w3.heap.size) (hw : ∀ g, g < w.heap.size → some g ≠ cv.ownBlock → some g ≠ vo.ownBlock → w3.heap[g]? = w.heap[g]?) (hat : cv2.ownBlock = cv.ownBlock ∨ ∃ b, cv2.ownBlock = some b ∧ w.heap.size ≤ b) :
    Prts B base w3 vo cv2 fin (cur ++ [n]) fvs (cs ++ [.int .i64 n.t.kind, .string n.t.word, .string n.t.unit, kv]) := by
  have hlow : ∀ g, g < B → w3.heap[g]? = w.heap[g]? := fun g hg => hw g (by omega) (fun e => by have := (h.own.lt g e.symm).1; omega) (fun e => by have := (h.row.lt g e.symm).1; omega)
  refine ⟨hrow, by rw [List.length_append]; exact hown, KidC.snoc _ _ (h.kid.keep (fun _ hg => hg) hlow) n kv ⟨hk.1.keep (fun _ hg => hg) hlow, hk.2⟩, h.fin.keep (fun g hg => ⟨by have := hg.1; omega, hg.2.1, ?_⟩) fun g hg => hw g hg.1 hg.2.2 hg.2.1⟩
  rcases hat with e | ⟨b, e, hb⟩
  · rw [e]; exact hg.2.2
  · rw [e]; intro e2; cases e2; have := hg.1; omega
theorem Prts.below (h : Prts B base w vo cv fin cur fvs cs) (hbs : B ≤ w.heap.size) (hb : Below w.heap.size w w3) : Prts B base w3 vo cv fin cur fvs cs := by
  have own : ∀ {e s n : Nat} {v : Value} {xs : List Value}, w.ownsRow base e s v n xs → w3.ownsRow base e s v n xs := by
    intro e s n v xs h
    refine ⟨h.1, ?_⟩
    rcases h.2 with hn | ⟨g, cap, cu, rfl, hbg, hgg, rest⟩
    · exact .inl hn
    · exact .inr ⟨g, cap, cu, rfl, hbg, by rw [hb.block g (Array.getElem?_eq_some_iff.1 hgg).1]; exact hgg, rest⟩
  exact ⟨own h.row, own h.own, h.kid.keep (fun _ hg => hg) fun g hg => hb.block g (by omega), h.fin.keep (fun g hg => ⟨by have := hg.1; have := hb.size; omega, hg.2⟩) fun g hg => hb.block g hg.1⟩
theorem Prts.apart (h : Prts B base w vo cv fin cur fvs cs) {go n co : Nat} (e : vo = .slice (some ⟨go, 0, none⟩) n co) : some go ≠ cv.ownBlock :=
  fun e2 => own_apart h.row h.own (by decide) go (by rw [e]; rfl) e2.symm
theorem set_last (fvs : List Value) (k : Nat) (hk : fvs.length = k) (a b : Value) : (fvs ++ [a]).set k b = fvs ++ [b] := by
  subst hk
  simp
theorem Prts.grow (h : Prts B base w vo cv fin cur fvs cs) (hB : B ≤ base) (hbs : B ≤ w.heap.size) {go co : Nat} (e : vo = .slice (some ⟨go, 0, none⟩) (fin.length + 1) co) (n : Nd) (kv : Value) (hk : Sl (fun b => b < B) w kv n.kids ∧ TokOK n.t) {W w4 : World} {cv2 : Value}
    (hWs : w.heap.size ≤ W.heap.size) (hW : ∀ g, g < w.heap.size → W.heap[g]? = w.heap[g]?)
    (hown : w4.ownsRow base 151 4 cv2 (cur.length + 1) (cs ++ [.int .i64 n.t.kind, .string n.t.word, .string n.t.unit, kv])) (hgr : W.grownBy w4 cv.ownBlock) (hat : cv2.ownBlock = cv.ownBlock ∨ cv2.ownBlock = some W.heap.size) :
    Prts B base (w4.setCell ⟨go, fin.length, none⟩ cv2) vo cv2 fin (cur ++ [n]) fvs (cs ++ [.int .i64 n.t.kind, .string n.t.word, .string n.t.unit, kv]) := by
  have hap := h.apart e
  have hgo := h.row.lt go (by rw [e]; rfl)
  have rowW : W.ownsRow base 105 1 vo (fin.length + 1) (fvs ++ [cv]) := by
    refine ⟨h.row.1, ?_⟩
    rcases h.row.2 with hn | ⟨g, cap, cu, hv, hbg, hgg, rest⟩
    · exact .inl hn
    · exact .inr ⟨g, cap, cu, hv, hbg, by rw [hW g (Array.getElem?_eq_some_iff.1 hgg).1]; exact hgg, rest⟩
  have row4 := rowW.kept hgr (.inr (by rw [e]; exact hap))
  have hl := h.fin.len
  have hs := hgr.size
  have hne : cv2.ownBlock ≠ some go := by
    rcases hat with e2 | e2
    · rw [e2]; exact hap.symm
    · rw [e2]; intro e3; cases e3; omega
  subst e
  obtain ⟨s5, g5⟩ := row4.stored fin.length cv2
  refine h.push hB n kv hk hbs (hown.kept g5 (.inr hne)) (by rw [set_last _ _ hl] at s5; exact s5) (by have := g5.size; omega) (fun g hg h1 h2 => ?_) ?_
  · rw [g5.block g (by omega) h2, hgr.block g (by omega) h1, hW g hg]
  · rcases hat with e2 | e2
    · exact .inl e2
    · exact .inr ⟨_, e2, hWs⟩
theorem set_node (cs : List Value) (k : Nat) (hk : cs.length = k * 4) (z0 z1 z2 z3 a b c d : Value) : ((((cs ++ [z0, z1, z2, z3]).set (k * 4) a).set (k * 4 + 1) b).set (k * 4 + 2) c).set (k * 4 + 3) d = cs ++ [a, b, c, d] := by
  rw [← hk]
  rw [List.set_append_right _ _ (by omega), List.set_append_right _ _ (by omega), List.set_append_right _ _ (by omega), List.set_append_right _ _ (by omega)]
  simp
theorem own_sme {w : World} {base e s n : Nat} {v : Value} {xs : List Value} (h : w.ownsRow base e s v (n + 1) xs) : ∃ g c, v = .slice (some ⟨g, 0, none⟩) (n + 1) c := by
  rcases h.2 with ⟨_, hn⟩ | ⟨g, cap, cur, rfl, _⟩
  · omega
  · exact ⟨_, _, rfl⟩
theorem own_tail {w : World} {base e g n cap : Nat} {cs : List Value} {z0 z1 z2 z3 : Value} (h : w.ownsRow base e 4 (.slice (some ⟨g, 0, none⟩) (n + 1) cap) (n + 1) (cs ++ [z0, z1, z2, z3])) (hl : cs.length = n * 4) :
    w.cell? ⟨g, n * 4, none⟩ = some z0 ∧ w.cell? ⟨g, n * 4 + 1, none⟩ = some z1 ∧ w.cell? ⟨g, n * 4 + 2, none⟩ = some z2 ∧ w.cell? ⟨g, n * 4 + 3, none⟩ = some z3 := by
  refine ⟨?_, ?_, ?_, ?_⟩
  · rw [h.cellAt _ (by omega), List.getElem?_append_right (by omega)]; simp [hl]
  · rw [h.cellAt _ (by omega), List.getElem?_append_right (by omega)]; simp [hl]
  · rw [h.cellAt _ (by omega), List.getElem?_append_right (by omega)]; simp [hl]
  · rw [h.cellAt _ (by omega), List.getElem?_append_right (by omega)]; simp [hl]
theorem Prts.cut (h : Prts B base w vo cv fin cur fvs cs) (hB : B ≤ base) (h6 : cur.length ≤ 600) (hbs : B ≤ w.heap.size) {vo2 : Value}
    (hrow' : w3.ownsRow base 105 1 vo2 (fin.length + 1 + 1) (fvs ++ [cv, .slice none 0 0])) (hs : w.heap.size ≤ w3.heap.size) (hw : ∀ g, g < w.heap.size → some g ≠ vo.ownBlock → w3.heap[g]? = w.heap[g]?) (hat : vo2.ownBlock = vo.ownBlock ∨ ∃ b, vo2.ownBlock = some b ∧ w.heap.size ≤ b) :
    Prts B base w3 vo2 (.slice none 0 0) (fin ++ [cur]) [] (fvs ++ [cv]) [] := by
  have hrow : w3.ownsRow base 105 1 vo2 (fin.length + 1 + 1) (fvs ++ [cv] ++ [.slice none 0 0]) := by simpa using hrow'
  have hne : ∀ g, g < w.heap.size → some g ≠ vo.ownBlock → some g ≠ vo2.ownBlock := by
    intro g hg h1
    rcases hat with e | ⟨b, e, hb⟩
    · rw [e]; exact h1
    · rw [e]; intro e2; cases e2; omega
  have hlow : ∀ g, g < B → w3.heap[g]? = w.heap[g]? := fun g hg => hw g (by omega) (fun e => by have := (h.row.lt g e.symm).1; omega)
  refine ⟨by rw [List.length_append]; exact hrow, World.ownsRow_nil _ _ _ _, rfl, Sls.snoc _ _ (h.fin.keep (fun g hg => ⟨by have := hg.1; omega, hne g hg.1 hg.2.1, by simp [Value.ownBlock]⟩) fun g hg => hw g hg.1 hg.2.1) cur cv ?_⟩
  have h3 : KidC (Fo w3 vo2 (.slice none 0 0)) w3 cur cs := h.kid.keep (fun g hg => ⟨by omega, hne g (by omega) (fun e => by have := (h.row.lt g e.symm).1; omega), by simp [Value.ownBlock]⟩) hlow
  rcases h.own.2 with ⟨e1, hn⟩ | ⟨g, cap, cu, e1, hbg, hg, hnc, hrest⟩
  · have : cur = [] := List.eq_nil_of_length_eq_zero hn
    rw [e1, this]
    exact Sl.nil _ _
  · have hgl : g < w.heap.size := (Array.getElem?_eq_some_iff.1 hg).1
    have hgv : some g ≠ vo.ownBlock := fun e => own_apart h.own h.row (by decide) g (by rw [e1]; rfl) e.symm
    rw [e1]
    refine ⟨_, cap, rfl, ⟨hnc, h6⟩, fun _ => ⟨g, 0, rfl, KidC.lies ⟨by omega, hne g hgl hgv, by simp [Value.ownBlock]⟩ cur cs 0 h3 fun j u hu => ?_⟩⟩
    have := h.own.cells (g := g) (by rw [e1]; rfl) j u hu
    rw [Addr.add_lit, Nat.zero_add] at this
    rw [Nat.zero_add, ← this]
    exact World.cell?_of_block (w := w) (hw g hgl hgv)
theorem NodAt.below {n : Nd} {g o : Nat} {kv : Value} (h : NodAt (fun b => b < B) w n g o kv) (hb : Below B w w3) : NodAt (fun b => b < B) w3 n g o kv := by
  have hcell : ∀ q, w3.cell? ⟨g, q, none⟩ = w.cell? ⟨g, q, none⟩ := fun q => hb.cell (show g < B from h.s)
  exact ⟨h.s, by rw [hcell]; exact h.c0, by rw [hcell]; exact h.c1, by rw [hcell]; exact h.c2, by rw [hcell]; exact h.c3, h.k.below hb (Nat.le_refl _), h.ok⟩
def SSl (w : World) (v : Value) (ls : List (List Nd)) : Prop :=
  ∃ g cap, v = .slice (some ⟨g, 0, none⟩) ls.length cap ∧ g < w.heap.size ∧ ∀ k (hk : k < ls.length), ∃ u, w.cell? ⟨g, k, none⟩ = some u ∧ Sl (fun b => b < w.heap.size) w u ls[k]
theorem Prts.done (h : Prts B base w vo cv fin cur fvs cs) (hbs : B ≤ w.heap.size) (h6 : cur.length ≤ 600) : SSl w vo (fin ++ [cur]) := by
  rcases h.row.2 with ⟨_, hn⟩ | ⟨g, cap, cu, e1, hbg, hg, hnc, hrest⟩
  · exact absurd hn (by simp)
  · have hl := h.fin.len
    have hcur : Sl (fun b => b < w.heap.size) w cv cur := by
      have h3 : KidC (fun b => b < w.heap.size) w cur cs := h.kid.keep (fun g hg => by omega) fun _ _ => rfl
      rcases h.own.2 with ⟨e2, hn⟩ | ⟨g2, cap2, cu2, e2, hbg2, hg2, hnc2, _⟩
      · have : cur = [] := List.eq_nil_of_length_eq_zero hn
        rw [e2, this]; exact Sl.nil _ _
      · have hgl : g2 < w.heap.size := (Array.getElem?_eq_some_iff.1 hg2).1
        rw [e2]
        refine ⟨_, cap2, rfl, ⟨hnc2, h6⟩, fun _ => ⟨g2, 0, rfl, KidC.lies (S := fun b => b < w.heap.size) hgl cur cs 0 h3 fun j u hu => ?_⟩⟩
        have := h.own.cells (g := g2) (by rw [e2]; rfl) j u hu
        rw [Addr.add_lit, Nat.zero_add] at this
        rw [Nat.zero_add]; exact this
    have hall : Sls (fun b => b < w.heap.size) w (fin ++ [cur]) (fvs ++ [cv]) := Sls.snoc _ _ (h.fin.keep (fun g hg => hg.1) fun _ _ => rfl) cur cv hcur
    refine ⟨g, cap, by rw [e1]; simp, (Array.getElem?_eq_some_iff.1 hg).1, fun k hk => ?_⟩
    obtain ⟨u, hu, hs⟩ := hall.at _ _ k hk
    refine ⟨u, ?_, hs⟩
    have := h.row.cells (g := g) (by rw [e1]; rfl) k u hu
    rw [Addr.add_lit, Nat.zero_add] at this
    exact this
end
end
end Go.Proofs.YtlliliddljkbfaaGreat
