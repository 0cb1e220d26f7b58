import Derived.Test.YtlliliddljkbfaaGreatC8
import Derived.Test.YtlliliddljkbfaaGreatC30
import Derived.Test.YtlliliddljkbfaaGreatC35
import Derived.Test.YtlliliddljkbfaaGreatC36
namespace Go.Proofs.YtlliliddljkbfaaGreat
set_option maxHeartbeats 64000000
set_option maxRecDepth 100000
open Go.RowKit Sp
def RecOK : Nat → Prop
  | 0 => True
  | f + 1 => ListOK f
section
section
variable {rec : List Nd → Option Sels} {acc : List Simple} {n : Nd} {r : List Nd}
theorem partsW_nil : partsW rec acc [] = some (acc, []) := by simp [partsW]
def dotW (rec : List Nd → Option Sels) (acc : List Simple) (r : List Nd) : Option (List Simple × List Nd) :=
  match r with
  | [] => none
  | m :: r' => if m.t.kind = 14 then partsW rec (acc ++ [Simple.of 46 m.t.word]) r' else none
def blkW (rec : List Nd → Option Sels) (acc : List Simple) (s : Option Simple) (r : List Nd) : Option (List Simple × List Nd) :=
  match s with
  | none => none
  | some s => partsW rec (acc ++ [s]) r
def colW (rec : List Nd → Option Sels) (acc : List Simple) (r : List Nd) : Option (List Simple × List Nd) :=
  match r with
  | [] => none
  | m :: r' => blkW rec acc (pseudoW rec m) r'
end
theorem CSim.lv {f : Nat} {S : Nat → Prop} {w : World} {s : Simple} {k : Nat} {nm h v : ByteArray} {lv : Value} {p : Nat} (hc : CSim f S w s (simC k nm h v lv p)) : ∃ a m c, lv = .slice a m c := by
  obtain ⟨k', nm', h', v', l, p'⟩ := s
  cases f with
  | zero =>
    obtain ⟨_, a, c, e⟩ := hc
    simp [simC] at e
    exact ⟨a, 0, c, e.2.2.2.2.1⟩
  | succ f =>
    obtain ⟨lv', e, hs⟩ := hc
    simp [simC] at e
    obtain ⟨a, c, e2⟩ := hs.form
    exact ⟨a, _, c, by rw [e.2.2.2.2.1, e2]⟩
def compP (f : Nat) (l : List Nd) (i : Nat) (w w' : World) (e : Ending) : Prop :=
  match compoundW (recF f) (l.drop i) with
  | none => ∃ k : Nat, e = .returned (.tuple #[.slice none 0 0, .int .i64 (k : Int), .bool false])
  | some (all, r) => ∃ (sv : Value) (k : Nat), e = .returned (.tuple #[sv, .int .i64 (k : Int), .bool true]) ∧ SG (CSim f) 6 (Frm w.heap.size w') w' sv all ∧ k ≤ l.length ∧ i ≤ k ∧ l.drop k = r
structure CmpI (f : Nat) (l : List Nd) (i : Nat) (w : World) (u : Value) (k : Nat) (acc : List Simple) (wr : World) : Prop where
  m : MG (CSim f) 6 278 w.heap.size wr u acc
  b : Below w.heap.size w wr
  e : compoundW (recF f) (l.drop i) = partsW (recF f) acc (l.drop k)
end
section
section
variable {rec : List Nd → Option Sels} {g b : Nat} {l r : List Nd} {all : List Simple}
theorem complexF_none (h : compoundW rec l = none) : complexF rec (g + 1) b l = none := by unfold complexF; rw [h]
theorem complexF_empty (h : compoundW rec l = some ([], r)) : complexF rec (g + 1) b l = none := by unfold complexF; rw [h]; simp
theorem complexF_last (h : compoundW rec l = some (all, [])) (ha : all ≠ []) : complexF rec (g + 1) b l = some [(b, all)] := by unfold complexF; rw [h]; simp [ha]
theorem complexF_no (h : compoundW rec l = some (all, r)) (hr : r ≠ []) (hc : combi r = none) : complexF rec (g + 1) b l = none := by
  unfold complexF; rw [h]; simp only
  by_cases ha : all = []
  · rw [if_pos ha]
  · rw [if_neg ha, if_neg hr, hc]
theorem complexF_next {c : Nat} {r' : List Nd} (h : compoundW rec l = some (all, r)) (ha : all ≠ []) (hr : r ≠ []) (hc : combi r = some (c, r')) : complexF rec (g + 1) b l = (complexF rec g c r').map (fun x => (b, all) :: x) := by
  conv => lhs; unfold complexF
  rw [h]; simp only
  rw [if_neg ha, if_neg hr, hc]
end
def cpxP (f : Nat) (l : List Nd) (w w' : World) (e : Ending) : Prop :=
  match complexW (recF f) l with
  | none => e = .returned (.tuple #[.slice none 0 0, .bool false])
  | some ss => ∃ sv, e = .returned (.tuple #[sv, .bool true]) ∧ SG (CStp (CSim f)) 2 (Frm w.heap.size w') w' sv ss
structure CpxI (f : Nat) (l : List Nd) (w : World) (u : Value) (i b gg : Nat) (ss : List Step) (wr : World) : Prop where
  m : MG (CStp (CSim f)) 2 234 w.heap.size wr u ss
  bel : Below w.heap.size w wr
  e : complexW (recF f) l = (complexF (recF f) gg b (l.drop i)).map (fun x => ss ++ x)
end
section
theorem dropB_mem : ∀ (l : List Nd) (n : Nd), n ∈ dropB l → n ∈ l
  | m :: r, n, h => by
    unfold dropB at h
    split at h
    · exact List.mem_cons_of_mem _ (dropB_mem r n h)
    · exact h
theorem bare_mem (l : List Nd) (n : Nd) (h : n ∈ bare l) : n ∈ l := by
  unfold bare trimE at h
  rw [List.mem_reverse] at h
  exact dropB_mem l n (List.mem_reverse.1 (dropB_mem _ n h))
theorem partF_mem : ∀ (l : List Nd) (out : List (List Nd)) (cur : List Nd) (P : Nd → Prop), (∀ p ∈ out, ∀ n ∈ p, P n) → (∀ n ∈ cur, P n) → (∀ n ∈ l, P n) → ∀ p ∈ partF out cur l, ∀ n ∈ p, P n
  | [], out, cur, P, h1, h2, _, p, hp, n, hn => by
    unfold partF at hp
    rcases List.mem_append.1 hp with h | h
    · exact h1 p h n hn
    · simp at h; subst h; exact h2 n hn
  | m :: r, out, cur, P, h1, h2, h3, p, hp, n, hn => by
    unfold partF at hp
    split at hp
    · refine partF_mem r (out ++ [cur]) [] P (fun q hq k hk => ?_) (by simp) (fun k hk => h3 k (by simp [hk])) p hp n hn
      rcases List.mem_append.1 hq with h | h
      · exact h1 q h k hk
      · simp at h; subst h; exact h2 k hk
    · refine partF_mem r out (cur ++ [m]) P h1 (fun k hk => ?_) (fun k hk => h3 k (by simp [hk])) p hp n hn
      rcases List.mem_append.1 hk with h | h
      · exact h2 k h
      · simp at h; subst h; exact h3 _ (by simp)
theorem parted_len (l : List Nd) : (parted l).length ≤ l.length + 1 := by
  have : ∀ (l : List Nd) (out : List (List Nd)) (cur : List Nd), (partF out cur l).length ≤ out.length + l.length + 1 := by
    intro l
    induction l with
    | nil => intro out cur; simp [partF]
    | cons m r ih =>
      intro out cur
      unfold partF
      split
      · have := ih (out ++ [cur]) []; simp at this ⊢; omega
      · have := ih out (cur ++ [m]); simp at this ⊢; omega
  have := this l [] []
  simpa [parted] using this
section
variable {rec : List Nd → Option Sels} {p : List Nd} {r : List (List Nd)}
theorem eachW_none (h : complexW rec (bare p) = none) : eachW rec (p :: r) = none := by unfold eachW; rw [h]
theorem eachW_some {s : List Step} (h : complexW rec (bare p) = some s) : eachW rec (p :: r) = (eachW rec r).map (fun x => s :: x) := by
  have e : eachW rec (p :: r) = match complexW rec (bare p) with | none => none | some s => (eachW rec r).map (fun x => s :: x) := rfl
  rw [e, h]
end
structure LstI (f : Nat) (l : List Nd) (w w1 : World) (u : Value) (i : Nat) (ss : Sels) (wr : World) : Prop where
  m : MG (CCx (CSim f)) 1 160 w1.heap.size wr u ss
  bel : Below w.heap.size w wr
  e : selF f l = (eachW (recF f) ((parted l).drop i)).map (fun x => ss ++ x)
theorem CCx.fair (f : Nat) : Fair (CCx (CSim f)) := One.fair (CStp.fair (CSim.fair f))
end
section
attribute [local go_sem] fld_tok fld_ins fld_kind fld_word
theorem info_pstp : ∃ i, Tryz.prog.info? 219 = some i ∧ i.zero = some (.agg #[.int .i64 0, .slice none 0 0]) ∧ i.size = 2 ∧ i.bytes = 32 := info_parts (by kernel_rfl)
theorem new2 (w : World) (a b : Value) (t : TypeId) : ∀ j u, [a, b][j]? = some u → (w.alloc (.cells #[a, b] t)).cell? ((⟨w.heap.size, 0, none⟩ : Addr).add j) = some u := by
  intro j u hu
  rw [Addr.add_lit, Nat.zero_add, World.cell?_alloc_mark, ← hu]
  simp
theorem tail_mem {l : List Nd} {n : Nd} (h : n ∈ l.tail) : n ∈ l := List.mem_of_mem_tail h
theorem partF1_mem {rec : List Nd → Option Sels} {l : List Nd} {s : Simple} {r : List Nd} (h : partF1 rec l = some (s, r)) : ∀ n ∈ r, n ∈ l := by
  unfold partF1 at h
  split at h
  · cases h; exact fun n hn => tail_mem hn
  · split at h
    · split at h
      · cases h; exact fun n hn => tail_mem (tail_mem hn)
      · cases h
    · split at h
      · cases ha : attrOf (bare (hdN l).kids) with
        | none => rw [ha] at h; cases h
        | some s' => rw [ha] at h; cases h; exact fun n hn => tail_mem hn
      · cases ha : pseudoW rec (hdN l.tail) with
        | none => rw [ha] at h; cases h
        | some s' => rw [ha] at h; cases h; exact fun n hn => tail_mem (tail_mem hn)
theorem partsW_suf (rec : List Nd → Option Sels) (k : Nat) : ∀ (acc : List Simple) (l : List Nd) (all : List Simple) (r : List Nd), l.length ≤ k → partsW rec acc l = some (all, r) → (∀ n ∈ r, n ∈ l) ∧ all.length + r.length ≤ acc.length + l.length := by
  induction k with
  | zero =>
    intro acc l all r hl h
    obtain rfl : l = [] := List.eq_nil_of_length_eq_zero (by omega)
    rw [partsW_nil] at h
    cases h
    exact ⟨fun _ h => h, by simp⟩
  | succ k ih =>
    intro acc l all r hl h
    rw [partsW_step] at h
    split at h
    · rename_i hfo
      have hne : l ≠ [] := by rintro rfl; rw [folB_nil] at hfo; cases hfo
      cases hq : partF1 rec l with
      | none => rw [hq] at h; cases h
      | some sr =>
        obtain ⟨s, r1⟩ := sr
        rw [hq] at h
        have h1 := (partF1_len hq hne).1
        obtain ⟨h2, h3⟩ := ih (acc ++ [s]) r1 all r (by omega) h
        exact ⟨fun n hn => partF1_mem hq n (h2 n hn), by simp at h3; omega⟩
    · cases h
      exact ⟨fun _ h => h, Nat.le_refl _⟩
theorem compoundW_suf {rec : List Nd → Option Sels} {l : List Nd} {all : List Simple} {r : List Nd} (h : compoundW rec l = some (all, r)) : (∀ n ∈ r, n ∈ l) ∧ all.length + r.length ≤ l.length := by
  unfold compoundW at h
  obtain ⟨h1, h2⟩ := partsW_suf rec _ _ _ _ _ (Nat.le_refl _) h
  unfold tagOf at h1 h2
  cases l with
  | nil => exact ⟨h1, by simpa using h2⟩
  | cons n q =>
    simp only at h1 h2
    split at h1
    · rename_i hk
      rw [if_pos hk] at h2
      exact ⟨fun x hx => List.mem_cons_of_mem _ (h1 x hx), by simp at h2 ⊢; omega⟩
    · rename_i hk
      rw [if_neg hk] at h2
      split at h1
      · rename_i hs
        rw [if_pos hs] at h2
        exact ⟨fun x hx => List.mem_cons_of_mem _ (h1 x hx), by simp at h2 ⊢; omega⟩
      · rename_i hs
        rw [if_neg hs] at h2
        exact ⟨h1, by simpa using h2⟩
theorem combi_suf {l r : List Nd} {c : Nat} (h : combi l = some (c, r)) : (∀ n ∈ r, n ∈ l) ∧ r.length ≤ l.length := by
  have hd : ∀ x ∈ dropB l, x ∈ l := fun x hx => dropB_mem l x hx
  have hdl := dropB_len l
  unfold combi at h
  cases hl : dropB l with
  | nil =>
    rw [hl] at h
    simp only at h
    split at h
    · cases h
    · cases h; exact ⟨by simp, by simp⟩
  | cons n q =>
    rw [hl] at h hd hdl
    have hq : ∀ x ∈ dropB q, x ∈ l := fun x hx => hd x (List.mem_cons_of_mem _ (dropB_mem q x hx))
    have hql := dropB_len q
    simp only [List.length_cons] at hdl
    simp only at h
    repeat' split at h
    all_goals first
      | (cases h; exact ⟨hq, by omega⟩)
      | (cases h; exact ⟨hd, by simp; omega⟩)
      | cases h
def cxP (f : Nat) (o : Option (List Step)) (w w' : World) (e : Ending) : Prop :=
  match o with
  | none => e = .returned (.tuple #[.slice none 0 0, .bool false])
  | some ss => ∃ sv, e = .returned (.tuple #[sv, .bool true]) ∧ SG (PStp (PSim f)) 2 (Frm w.heap.size w') w' sv ss
structure CxI (f B b : Nat) (w : World) (d : List Nd) (u : Value) (ss : List Step) (c : Nat) (cur : List Nd) (k : Nat) (wr : World) : Prop where
  row : MG (PStp (PSim f)) 2 219 w.heap.size wr u ss
  rdr : ∃ sv, Rdr B wr b sv cur
  turn : Turn b w wr
  eq : complexW (recF f) d = (complexF (recF f) k c cur).map (fun x => ss ++ x)
  mem : ∀ n ∈ cur, n ∈ d
  fuel : cur.length + 1 ≤ k
  len : ss.length + k ≤ d.length + 1
theorem DepL.sub {f : Nat} {l d : List Nd} (h : DepL f d) (hs : ∀ n ∈ l, n ∈ d) : DepL f l := fun n hn => h n (hs n hn)
theorem NmL.sub {l d : List Nd} (h : NmL d) (hs : ∀ n ∈ l, n ∈ d) : NmL l := fun n hn => h n (hs n hn)
theorem readComplex_c (f : Nat) (hR : RecP f) (B : Nat) (p : List Nd) (v : Value) (w : World) (h : Sl (fun b => b < B) w v p) (hB : B ≤ w.heap.size) (hd : DepL f p) (hnm : NmL p) :
    Calls Tryz.prog 126 #[v] w fun e w' => cxP f (complexW (recF f) (bare p)) w w' e ∧ Below w.heap.size w w' := by
  have HS : Hid (Sl (fun b => b < B) w v p) := h
  have HR : Hid (RecP f) := hR
  obtain ⟨d, Hd⟩ : ∃ d, Hid (bare p = d) := ⟨_, hid rfl⟩
  have HD : Hid (DepL f d) := by rw [← Hd.out]; exact hd.sub (fun n hn => bare_mem p n hn)
  have HNM : Hid (NmL d) := by rw [← Hd.out]; exact hnm.sub (fun n hn => bare_mem p n hn)
  rw [Hd.out]
  clear h hR hd hnm
  obtain ⟨a, cap, rfl⟩ := HS.out.form
  obtain ⟨iT, hiT⟩ := info_pstp
  have HI : Hid (Tryz.prog.info? 219 = some iT ∧ iT.zero = some (.agg #[.int .i64 0, .slice none 0 0]) ∧ iT.size = 2 ∧ iT.bytes = 32) := hiT
  clear hiT
  have hFS : Hid (Fair (PStp (PSim f))) := PStp.fair (PSim.fair f)
  go_enter Tryz.func126, Tryz.ntmps126
  go_wp2_with fail
  refine (Trim_c B p _ w HS.out).mono ?_
  rw [Hd.out]
  rintro e w0 ⟨v1, rfl, hS1, rfl⟩
  obtain ⟨va, vc, rfl⟩ := hS1.form
  have hd6 := hS1.len
  have R1 : Hid (Rdr B (w0.alloc (.cells #[.slice va d.length vc] 270)) w0.heap.size (.slice va d.length vc) d) := Rdr.new hS1 hB
  have B1 : Hid (Below w0.heap.size w0 (w0.alloc (.cells #[.slice va d.length vc] 270))) := (Below.refl _ _).alloc (Nat.le_refl _) _
  clear hS1 HS
  go_upto_region 3 with fail
  generalize w0.alloc (.cells #[.slice va d.length vc] 270) = w1 at *
  obtain ⟨b, Hb⟩ : ∃ b, Hid (w0.heap.size = b) := ⟨_, hid rfl⟩
  have R2 : Hid (Rdr B w1 b (.slice va d.length vc) d) := by rw [← Hb.out]; exact R1
  clear R1
  rw [Hb.out]
  have hbw : b < w1.heap.size := R2.out.lt
  have I0 : Hid (CxI f B b w1 d (.slice none 0 0) [] 0 d (d.length + 1) w1) := ⟨MG.nil _ _ _ _ _, ⟨_, R2.out⟩, Turn.refl _ _, by unfold complexW; cases complexF (recF f) (d.length + 1) 0 d <;> simp, fun _ h => h, Nat.le_refl _, by simp⟩
  clear R2
  go_wp2_with fail
  go_loopg [4, 6] (d.length + 1) (fun gg v4 v6 wr => ∃ (u : Value) (ss : List Step) (c : Nat) (cur : List Nd), u = v4 ∧ v6 = .int .i64 (cmb c) ∧ ss.length + gg ≤ 601 ∧ Aside (CxI f B b w1 d u ss c cur gg wr))
  case atStart => exact ⟨_, [], 0, d, rfl, rfl, by simp; omega, I0.out⟩
  case round =>
    obtain ⟨u, ss, c, cur, rfl, rfl, hlen, hA⟩ := hrel
    have HC : Hid (CxI f B b w1 d u ss c cur gk wr) := hA.out
    clear hA I0
    obtain ⟨ua, uc, rfl⟩ := HC.out.row.form
    obtain ⟨sv1, hR1⟩ := HC.out.rdr
    have R1 : Hid (Rdr B wr b sv1 cur) := hR1
    clear hR1
    have hsr := HC.out.turn.size
    obtain ⟨k, rfl⟩ : ∃ k, gk = k + 1 := ⟨gk - 1, by have := HC.out.fuel; omega⟩
    go_wp2_with fail
    refine (compound_c f HR.out B b _ cur wr R1.out (HD.out.sub HC.out.mem) (HNM.out.sub HC.out.mem)).mono ?_
    rintro e w2 ⟨hp, hT2⟩
    have T2 : Hid (Turn b w1 w2) := HC.out.turn.trans hT2
    have M2 : Hid (MG (PStp (PSim f)) 2 219 w1.heap.size w2 (.slice ua ss.length uc) ss) := HC.out.row.turn hFS.out hT2 hbw
    have hs2 := hT2.size
    clear hT2 R1
    have BB : Hid (∀ w', Turn b w1 w' → Below w0.heap.size w0 w') := fun w' ht => Turn.over B1.out ht (by rw [Hb.out]; exact Nat.le_refl _)
    unfold cpP at hp
    cases hq : compoundW (recF f) cur with
    | none =>
      rw [hq] at hp
      obtain ⟨lv, sv2, l2, rfl, hR2⟩ := hp
      have HV : Hid (complexW (recF f) d = none) := by show _ = _; rw [HC.out.eq, complexF_none hq]; rfl
      clear hq hR2
      go_wp2_with fail
      go_ret2
      exact ⟨by rw [HV.out]; rfl, BB.out _ T2.out⟩
    | some ar =>
      obtain ⟨all, r⟩ := ar
      rw [hq] at hp
      obtain ⟨lv, sv2, rfl, hR2, hsg⟩ := hp
      have R2 : Hid (Rdr B w2 b sv2 r) := hR2
      obtain ⟨la, lc, rfl⟩ := hsg.form
      have HQ : Hid (compoundW (recF f) cur = some (all, r)) := hq
      have HSG : Hid (SG (PSim f) 1 (Frm wr.heap.size w2) w2 (.slice la all.length lc) all) := hsg
      have hsuf := compoundW_suf hq
      have HSF : Hid ((∀ n ∈ r, n ∈ cur) ∧ all.length + r.length ≤ cur.length) := hsuf
      clear hq hR2 hsg hsuf
      by_cases hal : all = []
      · subst hal
        have HV : Hid (complexW (recF f) d = none) := by show _ = _; rw [HC.out.eq, complexF_empty HQ.out]; rfl
        go_wp2_with fail
        go_ret2
        exact ⟨by rw [HV.out]; rfl, BB.out _ T2.out⟩
      · have hal0 : 0 < all.length := by cases all with | nil => exact absurd rfl hal | cons x y => simp
        have hdec : decide (0 < all.length) = true := by simpa using hal0
        have PA : ∀ o, Hid (PStp (PSim f) (Oth w1.heap.size (w2.alloc o) (.slice ua ss.length uc)) (w2.alloc o) (c, all) [.int .i64 (cmb c), .slice la all.length lc]) := fun o => HC.out.row.apart hFS.out (show PStp (PSim f) (Frm wr.heap.size w2) w2 (c, all) [.int .i64 (cmb c), .slice la all.length lc] from ⟨_, rfl, HSG.out⟩) hsr (by simp) (fun g hg => Below.heap_alloc _ _ _ hg)
        obtain ⟨cs, hown, hcat⟩ := (M2.out.alloc hFS.out (.cells #[.int .i64 (cmb c), .slice la all.length lc] 219))
        have HO : Hid ((w2.alloc (.cells #[.int .i64 (cmb c), .slice la all.length lc] 219)).ownsRow w1.heap.size 219 2 (.slice ua ss.length uc) ss.length cs) := hown
        have HCt : Hid (CatG (PStp (PSim f)) (Oth w1.heap.size (w2.alloc (.cells #[.int .i64 (cmb c), .slice la all.length lc] 219)) (.slice ua ss.length uc)) (w2.alloc (.cells #[.int .i64 (cmb c), .slice la all.length lc] 219)) ss cs) := hcat
        clear hown hcat
        have HALL : Hid (all ≠ []) := hal
        clear hal
        go_wp2_with (at_builtin; go_must (refine wpList_append_own_at _ rfl _ _ 148 rfl w1.heap.size 219 iT (.agg #[.int .i64 0, .slice none 0 0]) 2 32 Tryz.underlying148 HI.out.1 HI.out.2.1 HI.out.2.2.1 HI.out.2.2.2 rfl (by omega) (.slice ua ss.length uc) ss.length cs rfl HO.out ⟨w2.heap.size, 0, none⟩ 1 1 [.int .i64 (cmb c), .slice la all.length lc] rfl rfl (new2 _ _ _ _) (by simp [Value.oneCell']) (by unfold maxLen; omega) (by omega) (by simp; omega) ?_))
        intro v4 w4 hown4 hgr4 _ hat4
        have hlo : ∀ rr, Value.ownBlock (.slice ua ss.length uc) = some rr → w1.heap.size ≤ rr := fun rr hr => (HO.out.lt rr hr).1
        have hb4 : Below w1.heap.size w2 w4 := ((Below.refl _ _).alloc (by omega) _).grown hgr4 (by simp; omega) hlo
        have M4 : Hid (MG (PStp (PSim f)) 2 219 w1.heap.size w4 v4 (ss ++ [(c, all)])) := MG.snoc hFS.out HCt.out (PA _).out hown4 hgr4 (by simpa using hat4)
        have R4 : Hid (Rdr B w4 b sv2 r) := by
          have hr := R2.out.alloc (.cells #[.int .i64 (cmb c), .slice la all.length lc] 219)
          exact ⟨by rw [hgr4.block b (by simp; omega) (fun e => by have := hlo b e.symm; omega)]; exact hr.blk, hr.sl.keep (fun _ hg => hg) (fun g hg => by have hg' : g < B := hg; have := hr.lo; exact hgr4.block g (by simp; omega) (fun e => by have := hlo g e.symm; omega)), hr.lo⟩
        have T4 : Hid (Turn b w1 w4) := T2.out.trans' hb4
        have hs4 := T4.out.size
        obtain ⟨fa, fc, rfl⟩ := M4.out.form
        have M5 : Hid (MG (PStp (PSim f)) 2 219 w1.heap.size w4 (.slice fa (ss.length + 1) fc) (ss ++ [(c, all)])) := by
          have := M4.out
          rw [List.length_append] at this
          exact this
        clear M4
        clear hown4 hgr4 hat4 hb4 hlo
        go_wp2_with fail
        refine (ended_c B b _ r _ R4.out).mono ?_
        rintro e w5 ⟨rfl, rfl⟩
        by_cases hr : r = []
        · subst hr
          have HV : Hid (complexW (recF f) d = some (ss ++ [(c, all)])) := by show _ = _; rw [HC.out.eq, complexF_last HQ.out HALL.out]; rfl
          have HG : Hid (SG (PStp (PSim f)) 2 (Frm w0.heap.size w5) w5 (.slice fa (ss.length + 1) fc) (ss ++ [(c, all)])) := (M5.out.sl hFS.out (PStp.sized _) (by simp; omega)).keep hFS.out (frm_mono B1.out.size) fun _ _ => rfl
          go_wp2_with fail
          go_ret2
          exact ⟨by rw [HV.out]; exact ⟨_, rfl, HG.out⟩, BB.out _ T4.out⟩
        · have hrl : (r.length == 0) = false := by cases r with | nil => exact absurd rfl hr | cons x y => rfl
          have HRN : Hid (r ≠ []) := hr
          clear hr
          go_wp2_with fail
          refine (combinator_c B b _ r _ R4.out).mono ?_
          rintro e w6 ⟨sv6, l6, hR6, hT6, hcb⟩
          have T6 : Hid (Turn b w1 w6) := T4.out.trans hT6
          have M6 : Hid (MG (PStp (PSim f)) 2 219 w1.heap.size w6 (.slice fa (ss.length + 1) fc) (ss ++ [(c, all)])) := M5.out.turn hFS.out hT6 hbw
          have R6 : Hid (Rdr B w6 b sv6 l6) := hR6
          clear hR6 hT6
          rcases hcb with ⟨hcn, rfl⟩ | ⟨c2, hcs, rfl⟩
          · have HV : Hid (complexW (recF f) d = none) := by show _ = _; rw [HC.out.eq, complexF_no HQ.out HRN.out hcn]; rfl
            clear hcn
            go_wp2_with fail
            go_ret2
            exact ⟨by rw [HV.out]; rfl, BB.out _ T6.out⟩
          · have hcs2 := combi_suf hcs
            have HC6 : Hid (CxI f B b w1 d (.slice fa (ss.length + 1) fc) (ss ++ [(c, all)]) c2 l6 k w6) := ⟨M6.out, ⟨_, R6.out⟩, T6.out, by
                rw [HC.out.eq, complexF_next HQ.out HALL.out HRN.out hcs, Option.map_map]
                congr 1
                funext x
                simp, fun n hn => HC.out.mem n (HSF.out.1 n (hcs2.1 n hn)), by have := HC.out.fuel; have := HSF.out.2; have := hcs2.2; omega, by have := HC.out.len; simp; omega⟩
            clear hcs hcs2
            go_wp2_with fail
            go_roundg k
            case measure => omega
            case rel => exact ⟨_, ss ++ [(c, all)], c2, l6, rfl, rfl, by simp; omega, HC6.out⟩
end
section
attribute [local go_sem] fld_tok fld_ins fld_kind fld_word
theorem Sl.cutv {S : Nat → Prop} {w : World} {a : Option Addr} {n cap : Nat} {ns : List Nd} (h : Sl S w (.slice a n cap) ns) (i j : Nat) (hij : i ≤ j) (hj : j ≤ ns.length) :
    ∃ a' c', (∀ W : World, (Instr.slice 128 (.slice a n cap) (some (.int .i64 (i : Int))) (some (.int .i64 (j : Int))) none).run Tryz.prog W = .ok (.slice a' (j - i) c') W) ∧ Sl S w (.slice a' (j - i) c') ((ns.take j).drop i) := by
  obtain ⟨iT, h1, _, h3, _⟩ := info_vl
  have hc : ns.length ≤ cap := by obtain ⟨_, _, e, hc, _⟩ := h; cases e; exact hc.1
  refine ⟨if cap = i then a else a.map (·.add (i * 4)), cap - i, fun W => ?_, ?_⟩
  · rw [run_slice_lh (P := Tryz.prog) W 128 a n cap Tryz.underlying128 .i64 .i64 i j (by omega) (by omega) (by omega)]
    have e : Tryz.prog.elem 128 = 199 := by kernel_rfl
    simp [sizeOf, typeInfo, e, h1, h3, sliced, Result.andThen]
  · have := h.cut i j hij hj
    simpa [sliced] using this
theorem Sl.restv {S : Nat → Prop} {w : World} {a : Option Addr} {cap : Nat} {ns : List Nd} (h : Sl S w (.slice a ns.length cap) ns) (i : Nat) (hi : i ≤ ns.length) :
    ∃ a' c', (∀ W : World, (Instr.slice 128 (.slice a ns.length cap) (some (.int .i64 (i : Int))) none none).run Tryz.prog W = .ok (.slice a' (ns.length - i) c') W) ∧ Sl S w (.slice a' (ns.length - i) c') (ns.drop i) := by
  obtain ⟨iT, h1, _, h3, _⟩ := info_vl
  refine ⟨if cap = i then a else a.map (·.add (i * 4)), cap - i, fun W => ?_, ?_⟩
  · rw [run_slice_l (P := Tryz.prog) W 128 a ns.length cap Tryz.underlying128 .i64 i (by omega) (by omega)]
    have e : Tryz.prog.elem 128 = 199 := by kernel_rfl
    simp [sizeOf, typeInfo, e, h1, h3, sliced, Result.andThen]
  · have := h.cut i ns.length hi (Nat.le_refl _)
    rw [List.take_of_length_le (Nat.le_refl _)] at this
    simpa [sliced] using this
theorem info_vls : ∃ i, Tryz.prog.info? 128 = some i ∧ i.zero = some (.slice none 0 0) ∧ i.size = 1 ∧ i.bytes = 24 := info_parts (by kernel_rfl)
theorem Sls.low {B B' : Nat} {w w' : World} {l : List (List Nd)} {vs : List Value} (h : Sls (fun b => b < B) w l vs) (hb : Below B' w w') (hB : B ≤ B') : Sls (fun b => b < B) w' l vs :=
  h.keep (fun _ hg => hg) fun g hg => hb.block g (Nat.lt_of_lt_of_le hg hB)
structure SpI (B : Nat) (w : World) (l : List Nd) (u : Value) (ps : List (List Nd)) (vs : List Value) (bg i : Nat) (wr : World) : Prop where
  row : wr.ownsRow w.heap.size 128 1 u ps.length vs
  sls : Sls (fun b => b < B) wr ps vs
  below : Below w.heap.size w wr
  eq : parted l = partF ps ((l.take i).drop bg) (l.drop i)
  bi : bg ≤ i ∧ i ≤ l.length
  ln : ps.length ≤ bg
theorem Split_c (B : Nat) (l : List Nd) (v : Value) (w : World) (h : Sl (fun b => b < B) w v l) (hB : B ≤ w.heap.size) :
    Calls Tryz.prog 125 #[v, .string (b1 44)] w fun e w' => ∃ v' vs, e = .returned v' ∧ w'.ownsRow w.heap.size 128 1 v' (parted l).length vs ∧ Sls (fun b => b < B) w' (parted l) vs ∧ Below w.heap.size w w' := by
  have hl6 := h.len
  have HS : Hid (Sl (fun b => b < B) w v l) := h
  obtain ⟨a, cap, rfl⟩ := h.form
  clear h
  obtain ⟨iT, hiT⟩ := info_vls
  have HI : Hid (Tryz.prog.info? 128 = some iT ∧ iT.zero = some (.slice none 0 0) ∧ iT.size = 1 ∧ iT.bytes = 24) := hiT
  clear hiT
  go_enter Tryz.func125, Tryz.ntmps125
  go_wp2_with fail
  go_loopg [5, 6, 11] l.length (fun gg v5 v6 v11 wr => ∃ (u : Value) (ps : List (List Nd)) (vs : List Value) (bg i : Nat), u = v5 ∧ v6 = .int .i64 (bg : Int) ∧ v11 = .int .i64 (i : Int) ∧ i + gg = l.length ∧ bg ≤ i ∧ ps.length ≤ bg ∧ Aside (SpI B w l u ps vs bg i wr))
  case atStart => exact ⟨_, [], [], 0, 0, rfl, rfl, rfl, by omega, by omega, by simp, World.ownsRow_nil _ _ _ _, rfl, Below.refl _ _, by simp [parted], ⟨by omega, by omega⟩, by simp⟩
  case round =>
    obtain ⟨u, ps, vs, bg, i, rfl, rfl, rfl, hi, hbi, hpb, hA⟩ := hrel
    have HC : Hid (SpI B w l u ps vs bg i wr) := hA.out
    clear hA
    obtain ⟨ua, uc, rfl⟩ := own_form HC.out.row
    have hsr := HC.out.below.size
    by_cases hlt : i < l.length
    · have h1 : (i : Int) < (l.length : Int) := by omega
      have S1 := HS.out.below HC.out.below hB
      obtain ⟨g, o, rfl, hL, hcap⟩ := S1.here (by rintro rfl; simp at hlt)
      obtain ⟨kv, hN⟩ := hL.node (i := i) hlt
      obtain ⟨n, hn⟩ : ∃ n, n = l[i] := ⟨_, rfl⟩
      have Hdr : Hid (l.drop i = n :: l.drop (i + 1)) := by show _ = _; rw [hn]; exact List.drop_eq_getElem_cons hlt
      have Htk : Hid ((l.take (i + 1)).drop bg = (l.take i).drop bg ++ [n]) := by
        show _ = _
        rw [List.take_succ_eq_append_getElem hlt, ← hn, List.drop_append_of_le_length (by simp; omega)]
      rw [← hn] at hN
      obtain ⟨ka, kc, rfl⟩ := hN.k.form
      have d0 := hN.c0
      have d1 := hN.c1
      have d2 := hN.c2
      have d3 := hN.c3
      have hgB : g < B := hN.s
      clear hN hL S1 hn
      have A2 : Hid (VB (wr.alloc (.cells #[.int .i64 n.t.kind, .string n.t.word, .string n.t.unit, .slice ka n.kids.length kc] 199)) wr.heap.size (.int .i64 n.t.kind) (.string n.t.word) (.string n.t.unit) (.slice ka n.kids.length kc)) := VB.new _ _ _ _ _
      have B2 : Hid (Below wr.heap.size wr (wr.alloc (.cells #[.int .i64 n.t.kind, .string n.t.word, .string n.t.unit, .slice ka n.kids.length kc] 199))) := (Below.refl _ _).alloc (Nat.le_refl _) _
      go_upto_region 6 with fail
      generalize wr.alloc (.cells #[.int .i64 n.t.kind, .string n.t.word, .string n.t.unit, .slice ka n.kids.length kc] 199) = w2 at *
      obtain ⟨gt, Hgt⟩ : ∃ gt, Hid (wr.heap.size = gt) := ⟨_, hid rfl⟩
      have A3 : Hid (VB w2 gt (.int .i64 n.t.kind) (.string n.t.word) (.string n.t.unit) (.slice ka n.kids.length kc)) := by rw [← Hgt.out]; exact A2
      rw [Hgt.out]
      clear A2 d0 d1 d2 d3
      obtain ⟨a0, a1, a2, a3⟩ := A3.out.cs
      go_wp2_with fail
      refine (IsSign_c n.t _ (b1 44) _).mono ?_
      rintro e w3 ⟨rfl, hb3⟩
      have B3 : Hid (Below wr.heap.size wr w3) := B2.out.trans (hb3.mono B2.out.size)
      clear hb3 a0 a1 a2 a3 A3 B2
      have C3 : Hid (SpI B w l (.slice ua ps.length uc) ps vs bg i w3) := ⟨own_keep HC.out.row fun k hk => B3.out.block k (HC.out.row.lt k hk).2, HC.out.sls.low B3.out (by omega), HC.out.below.trans (B3.out.mono hsr), HC.out.eq, HC.out.bi, HC.out.ln⟩
      have hs3 := C3.out.below.size
      clear HC B3
      obtain ⟨s1, Hs1⟩ : ∃ s, Hid (signT n.t (b1 44) = s) := ⟨_, hid rfl⟩
      rw [Hs1.out]
      cases s1
      · have HC4 : Hid (SpI B w l (.slice ua ps.length uc) ps vs bg (i + 1) w3) := ⟨C3.out.row, C3.out.sls, C3.out.below, by rw [C3.out.eq, Hdr.out, Htk.out]; simp only [partF, sgnN, Hs1.out]; simp, ⟨by omega, by omega⟩, C3.out.ln⟩
        go_wp2_with fail
        go_roundg (l.length - (i + 1))
        case measure => omega
        case rel => exact ⟨_, ps, vs, bg, i + 1, rfl, rfl, by congr 1, by omega, by omega, hpb, HC4.out⟩
      · obtain ⟨ca, cc, hrun, hcs⟩ := (HS.out.below C3.out.below hB).cutv bg i hbi (by omega)
        have HCS : Hid (Sl (fun b => b < B) w3 (.slice ca (i - bg) cc) ((l.take i).drop bg)) := hcs
        have HRW : Hid ((w3.alloc (.cells #[.slice ca (i - bg) cc] 128)).ownsRow w.heap.size 128 1 (.slice ua ps.length uc) ps.length vs) := C3.out.row.alloc _
        clear hcs
        have q0 : (0 : Int) ≤ (bg : Int) := by omega
        have q1 : (bg : Int) ≤ (i : Int) := by omega
        go_wp2_with (at_builtin; go_must (refine wpList_append_own_at _ rfl _ _ 212 rfl w.heap.size 128 iT (.slice none 0 0) 1 24 Tryz.underlying212 HI.out.1 HI.out.2.1 HI.out.2.2.1 HI.out.2.2.2 rfl (by omega) (.slice ua ps.length uc) ps.length vs rfl HRW.out ⟨w3.heap.size, 0, none⟩ 1 1 [.slice ca (i - bg) cc] rfl rfl (cell_one _ _ _) (by simp [Value.oneCell']) (by unfold maxLen; omega) (by omega) (by simp; omega) ?_))
        intro v4 w4 hown4 hgr4 _ hat4
        have hlo : ∀ rr, Value.ownBlock (.slice ua ps.length uc) = some rr → w.heap.size ≤ rr := fun rr hr => (HRW.out.lt rr hr).1
        have hb4 : Below w.heap.size w3 w4 := ((Below.refl _ _).alloc hs3 _).grown hgr4 (by simp; omega) hlo
        have HC4 : Hid (SpI B w l v4 (ps ++ [(l.take i).drop bg]) (vs ++ [.slice ca (i - bg) cc]) (i + 1) (i + 1) w4) := ⟨by rw [List.length_append]; exact hown4, Sls.snoc _ _ (C3.out.sls.low hb4 hB) _ _ (HCS.out.below hb4 hB), C3.out.below.trans hb4, by
            rw [C3.out.eq, Hdr.out]
            simp only [partF, sgnN, Hs1.out, if_true]
            congr 1
            rw [List.drop_of_length_le (by simp; omega)], ⟨Nat.le_refl _, by omega⟩, by have := C3.out.ln; simp; omega⟩
        have hl4 : (ps ++ [(l.take i).drop bg]).length ≤ i + 1 := HC4.out.ln
        clear hown4 hgr4 hat4 hb4 hlo
        go_wp2_with fail
        go_roundg (l.length - (i + 1))
        case measure => omega
        case rel => exact ⟨_, _, _, i + 1, i + 1, rfl, by congr 1, by congr 1, by omega, by omega, hl4, HC4.out⟩
    · have h1 : (l.length : Int) ≤ (i : Int) := by omega
      obtain rfl : i = l.length := by omega
      obtain ⟨ca, cc, hrun, hcs⟩ := (HS.out.below HC.out.below hB).restv bg (by omega)
      have HCS : Hid (Sl (fun b => b < B) wr (.slice ca (l.length - bg) cc) (l.drop bg)) := hcs
      have HRW : Hid ((wr.alloc (.cells #[.slice ca (l.length - bg) cc] 128)).ownsRow w.heap.size 128 1 (.slice ua ps.length uc) ps.length vs) := HC.out.row.alloc _
      clear hcs
      have q0 : (0 : Int) ≤ (bg : Int) := by omega
      have q1 : (bg : Int) ≤ (l.length : Int) := by omega
      go_wp2_with (at_builtin; go_must (refine wpList_append_own_at _ rfl _ _ 212 rfl w.heap.size 128 iT (.slice none 0 0) 1 24 Tryz.underlying212 HI.out.1 HI.out.2.1 HI.out.2.2.1 HI.out.2.2.2 rfl (by omega) (.slice ua ps.length uc) ps.length vs rfl HRW.out ⟨wr.heap.size, 0, none⟩ 1 1 [.slice ca (l.length - bg) cc] rfl rfl (cell_one _ _ _) (by simp [Value.oneCell']) (by unfold maxLen; omega) (by omega) (by simp; omega) ?_))
      intro v4 w4 hown4 hgr4 _ hat4
      have hlo : ∀ rr, Value.ownBlock (.slice ua ps.length uc) = some rr → w.heap.size ≤ rr := fun rr hr => (HRW.out.lt rr hr).1
      have hb4 : Below w.heap.size wr w4 := ((Below.refl _ _).alloc hsr _).grown hgr4 (by simp; omega) hlo
      have HE : Hid (parted l = ps ++ [l.drop bg]) := by
        show _ = _
        rw [HC.out.eq, List.drop_of_length_le (Nat.le_refl _), List.take_of_length_le (Nat.le_refl _)]
        rfl
      have HO4 : Hid (w4.ownsRow w.heap.size 128 1 v4 (parted l).length (vs ++ [.slice ca (l.length - bg) cc])) := by rw [HE.out, List.length_append]; exact hown4
      have HS4 : Hid (Sls (fun b => b < B) w4 (parted l) (vs ++ [.slice ca (l.length - bg) cc])) := by rw [HE.out]; exact Sls.snoc _ _ (HC.out.sls.low hb4 hB) _ _ (HCS.out.below hb4 hB)
      have HB4 : Hid (Below w.heap.size w w4) := HC.out.below.trans hb4
      clear hown4 hgr4 hat4 hb4 hlo
      go_wp2_with fail
      go_ret
      exact ⟨_, _, rfl, HO4.out, HS4.out, HB4.out⟩
end
end Go.Proofs.YtlliliddljkbfaaGreat
