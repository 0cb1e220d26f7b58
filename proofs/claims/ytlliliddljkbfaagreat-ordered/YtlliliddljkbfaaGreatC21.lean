import Derived.Test.YtlliliddljkbfaaGreatC1
import Derived.Test.YtlliliddljkbfaaGreatC3
import Derived.Test.YtlliliddljkbfaaGreatC20
namespace Go.Proofs.YtlliliddljkbfaaGreat
set_option maxHeartbeats 64000000
set_option maxRecDepth 100000
open Go.RowKit Sp
def VarB (w : World) (b : Nat) (v : Value) (T : TypeId) : Prop := w.heap[b]? = some (.cells #[v] T (0, 0))
theorem VarB.c {w : World} {b : Nat} {v : Value} {T : TypeId} (h : VarB w b v T) : w.cell? ⟨b, 0, none⟩ = some v := by unfold World.cell?; rw [show w.heap[b]? = _ from h]; rfl
theorem VarB.lt {w : World} {b : Nat} {v : Value} {T : TypeId} (h : VarB w b v T) : b < w.heap.size := (Array.getElem?_eq_some_iff.1 h).1
theorem VarB.below {w w' : World} {b : Nat} {v : Value} {T : TypeId} {g : Nat} (h : VarB w b v T) (hb : Below g w w') (hg : b < g) : VarB w' b v T := by
  unfold VarB; rw [hb.block _ hg]; exact h
theorem VarB.new (w : World) (v : Value) (T : TypeId) : VarB (w.alloc (.cells #[v] T)) w.heap.size v T := heap_alloc_new w _
theorem VarB.alloc {w : World} {b : Nat} {v : Value} {T : TypeId} (h : VarB w b v T) (o : Obj) : VarB (w.alloc o) b v T := by
  unfold VarB; rw [Below.heap_alloc _ _ _ h.lt]; exact h
theorem mf_run : ∀ (fn : Fn) (first cap : Array Value) (w : World), (Instr.makeFunc fn first cap).run Tryz.prog w = .ok (.func fn first cap) w := fun _ _ _ _ => rfl
def pnI (c : Int) (i : Nat) (p0 : Int) (n : Nat) : Bool := if (wlI c || c == 95) = true then true else if (c == 45) = true then decide (1 < n) else if wdI c = true then (decide (1 < i) || (i == 1 && !(p0 == 45))) else false
theorem pnI_eq {s : ByteArray} {i : Nat} (h : i < s.size) : pnI (pk s i) i (pk s 0) s.size = plainN s i (bt s i) := by
  rw [pk_bt h]
  unfold pnI plainN
  rw [wlI_b, wdI_b, ← show (bt s i == 95) = (((bt s i).toNat : Int) == 95) from byteI _ 95 (by omega), ← show (bt s i == 45) = (((bt s i).toNat : Int) == 45) from byteI _ 45 (by omega)]
  generalize bt s i = c at *
  by_cases h1 : c = 45
  · subst h1
    have e1 : plainL 45 = false := by decide
    have e2 : plainD 45 = false := by decide
    rw [e1, e2]
    simp
    rw [Bool.eq_iff_iff]; simp; omega
  · have h1' : (c == 45) = false := by simpa using h1
    rw [h1']
    cases hd : plainD c
    · cases hl : plainL c <;> cases h5 : (c == 95) <;> simp [h1]
    · have hl : plainL c = false := by
        unfold plainD at hd; unfold plainL
        rw [Bool.eq_false_iff]
        simp at *; omega
      have h5 : (c == 95) = false := by
        unfold plainD at hd
        rw [beq_eq_false_iff_ne]
        rintro rfl
        simp at hd
      rw [hl, h5]
      simp
      generalize pk s 0 = q
      rw [Bool.eq_iff_iff]; simp
      omega
theorem plainName_c (s : ByteArray) (i : Nat) (w : World) (hi : i < s.size) (hs : s.size ≤ 4000000) :
    Calls Tryz.prog 251 #[.string s, .int .i64 (i : Int)] w fun e w' => e = .returned (.bool (plainN s i (bt s i))) ∧ w' = w := by
  rw [← pnI_eq hi]
  have hix := index_pk s i hi
  have hix0 := index_pk s 0 (by omega)
  have h0 : (i : Int) < (s.size : Int) := by omega
  have h00 : (0 : Int) < (s.size : Int) := by omega
  obtain ⟨c, Hc⟩ : ∃ c, Hid (pk s i = c) := ⟨_, hid rfl⟩
  obtain ⟨q, Hq⟩ : ∃ q, Hid (pk s 0 = q) := ⟨_, hid rfl⟩
  rw [Hc.out] at hix ⊢
  rw [Hq.out] at hix0 ⊢
  have E0 : ∀ h : 0 < s.size, ((s[0]'h).toNat : Int) = q := fun h => by rw [← Hq.out, pk_bt h, bt_in h]
  have HE0 : Hid (∀ h : 0 < s.size, ((s[0]'h).toNat : Int) = q) := E0
  clear Hc Hq E0
  have HD : Hid (pnI c i q s.size = if (wlI c || c == 95) = true then true else if (c == 45) = true then decide (1 < s.size) else if wdI c = true then (decide (1 < i) || (i == 1 && !(q == 45))) else false) := rfl
  cases h1 : wlI c
  · cases h2 : (c == 95)
    · cases h3 : (c == 45)
      · cases h4 : wdI c
        · have HV : Hid (pnI c i q s.size = false) := by show _ = _; rw [HD.out, h1, h2, h3, h4]; rfl
          go_enter Tryz.func251, Tryz.ntmps251
          go_wp2_with (first | (go_at_call 294; refine (wLetter_c _ _).mono ?_; rintro e w' ⟨rfl, rfl⟩) | (go_at_call 295; refine (wDigit_c _ _).mono ?_; rintro e w' ⟨rfl, rfl⟩))
          go_ret
          exact ⟨rbool HV.out.symm, rfl⟩
        · have HV : Hid (pnI c i q s.size = (decide (1 < i) || (i == 1 && !(q == 45)))) := by show _ = _; rw [HD.out, h1, h2, h3, h4]; rfl
          by_cases h5 : 1 < i
          · have h5' : (1 : Int) < (i : Int) := by omega
            have HW : Hid (pnI c i q s.size = true) := by show _ = _; rw [HV.out, decide_eq_true h5]; rfl
            go_enter Tryz.func251, Tryz.ntmps251
            go_wp2_with (first | (go_at_call 294; refine (wLetter_c _ _).mono ?_; rintro e w' ⟨rfl, rfl⟩) | (go_at_call 295; refine (wDigit_c _ _).mono ?_; rintro e w' ⟨rfl, rfl⟩))
            go_ret
            exact ⟨rbool HW.out.symm, rfl⟩
          · have h5' : (i : Int) ≤ 1 := by omega
            by_cases h6 : i = 1
            · have h6' : ((i : Int) == 1) = true := by simp; omega
              have HW : Hid (pnI c i q s.size = !(q == 45)) := by show _ = _; rw [HV.out, decide_eq_false h5, h6]; rfl
              clear h6 h5
              go_enter Tryz.func251, Tryz.ntmps251
              go_wp2_with (first | (go_at_call 294; refine (wLetter_c _ _).mono ?_; rintro e w' ⟨rfl, rfl⟩) | (go_at_call 295; refine (wDigit_c _ _).mono ?_; rintro e w' ⟨rfl, rfl⟩))
              go_ret
              exact ⟨rbool (by rw [HW.out, decide_eq_false (by omega), HE0.out (by omega)]; rfl), rfl⟩
            · have h6' : ((i : Int) == 1) = false := by simp; omega
              have HW : Hid (pnI c i q s.size = false) := by show _ = _; rw [HV.out, decide_eq_false h5, show (i == 1) = false by simpa using h6]; rfl
              go_enter Tryz.func251, Tryz.ntmps251
              go_wp2_with (first | (go_at_call 294; refine (wLetter_c _ _).mono ?_; rintro e w' ⟨rfl, rfl⟩) | (go_at_call 295; refine (wDigit_c _ _).mono ?_; rintro e w' ⟨rfl, rfl⟩))
              go_ret
              exact ⟨rbool (by rw [HW.out, decide_eq_false (by omega)]), rfl⟩
      · have HV : Hid (pnI c i q s.size = decide ((1 : Int) < (s.size : Int))) := by show _ = _; rw [HD.out, h1, h2, h3]; simp; omega
        go_enter Tryz.func251, Tryz.ntmps251
        go_wp2_with (first | (go_at_call 294; refine (wLetter_c _ _).mono ?_; rintro e w' ⟨rfl, rfl⟩) | (go_at_call 295; refine (wDigit_c _ _).mono ?_; rintro e w' ⟨rfl, rfl⟩))
        go_ret
        exact ⟨rbool HV.out.symm, rfl⟩
    · have HV : Hid (pnI c i q s.size = true) := by show _ = _; rw [HD.out, h1, h2]; rfl
      go_enter Tryz.func251, Tryz.ntmps251
      go_wp2_with (first | (go_at_call 294; refine (wLetter_c _ _).mono ?_; rintro e w' ⟨rfl, rfl⟩) | (go_at_call 295; refine (wDigit_c _ _).mono ?_; rintro e w' ⟨rfl, rfl⟩))
      go_ret
      exact ⟨rbool HV.out.symm, rfl⟩
  · have HV : Hid (pnI c i q s.size = true) := by show _ = _; rw [HD.out, h1]; rfl
    go_enter Tryz.func251, Tryz.ntmps251
    go_wp2_with (first | (go_at_call 294; refine (wLetter_c _ _).mono ?_; rintro e w' ⟨rfl, rfl⟩) | (go_at_call 295; refine (wDigit_c _ _).mono ?_; rintro e w' ⟨rfl, rfl⟩))
    go_ret
    exact ⟨rbool HV.out.symm, rfl⟩
theorem Name1_c (s : ByteArray) (i b : Nat) (w : World) (hi : i < s.size) (hs : s.size ≤ 4000000) (hb : VarB w b (.string s) 9) :
    Calls Tryz.prog 250 #[.int .i64 (i : Int), .pointer (some ⟨b, 0, none⟩)] w fun e w' => e = .returned (.bool (plainN s i (bt s i))) ∧ Below w.heap.size w w' := by
  have c0 := hb.c
  go_enter Tryz.func250, Tryz.ntmps250
  go_wp2_with fail
  refine (plainName_c s i _ hi hs).mono ?_
  rintro e wq ⟨rfl, hwq⟩
  rw [hwq]
  go_wp2_with fail
  go_ret
  exact ⟨rfl, Below.refl _ _⟩
theorem Text1_c (s : ByteArray) (i b : Nat) (w : World) (hi : i < s.size) (hb : VarB w b (.string s) 9) :
    Calls Tryz.prog 277 #[.int .i64 (i : Int), .pointer (some ⟨b, 0, none⟩)] w fun e w' => e = .returned (.bool (plainT (bt s i))) ∧ Below w.heap.size w w' := by
  have c0 := hb.c
  have hix := index_pk s i hi
  rw [pk_bt hi] at hix
  have h0 : (i : Int) < (s.size : Int) := by omega
  rw [← wtI_b]
  go_enter Tryz.func277, Tryz.ntmps277
  go_wp2_with fail
  refine (plainText_c _ _).mono ?_
  rintro e wq ⟨rfl, hwq⟩
  rw [hwq]
  go_wp2_with fail
  go_ret
  exact ⟨rfl, Below.refl _ _⟩
theorem link1_c (s : ByteArray) (i b : Nat) (w : World) (hi : i < s.size) (hb : VarB w b (.string s) 9) :
    Calls Tryz.prog 280 #[.int .i64 (i : Int), .pointer (some ⟨b, 0, none⟩)] w fun e w' => e = .returned (.bool (plainK (bt s i))) ∧ Below w.heap.size w w' := by
  have c0 := hb.c
  have hix := index_pk s i hi
  rw [pk_bt hi] at hix
  have h0 : (i : Int) < (s.size : Int) := by omega
  rw [← wkI_b]
  go_enter Tryz.func280, Tryz.ntmps280
  go_wp2_with fail
  refine (plainLink_c _ _).mono ?_
  rintro e wq ⟨rfl, hwq⟩
  rw [hwq]
  go_wp2_with fail
  go_ret
  exact ⟨rfl, Below.refl _ _⟩
theorem Name_c (s : ByteArray) (w : World) (hs : s.size ≤ 4000000) : Calls Tryz.prog 190 #[.string s] w fun e w' => e = .returned (.string (nameO s)) ∧ Below w.heap.size w w' := by
  have hmf := mf_run
  have V1 : Hid (VarB (w.alloc (.cells #[.string s] 9)) w.heap.size (.string s) 9) := VarB.new _ _ _
  have B1 : Hid (Below w.heap.size w (w.alloc (.cells #[.string s] 9))) := (Below.refl _ _).alloc (Nat.le_refl _) _
  have c0 := V1.out.c
  have HV : Hid (nameO s = joinB (pcs (fun i => plainN s i (bt s i)) s s.size)) := outF_all _ s
  go_enter Tryz.func190, Tryz.ntmps190
  go_wp2_with fail
  generalize w.alloc (.cells #[.string s] 9) = w2 at *
  refine (bytewise_c s _ _ (fun i => plainN s i (bt s i)) w2 hs (fun _ _ => rfl) ?_).mono ?_
  · intro i hi w' hb'
    exact Name1_c s i _ w' hi hs (V1.out.below hb' V1.out.lt)
  · rintro e wq ⟨rfl, hwq⟩
    have B3 : Hid (Below w.heap.size w wq) := B1.out.trans (hwq.mono B1.out.size)
    clear hwq
    go_wp2_with fail
    go_ret
    exact ⟨by rw [HV.out]; rfl, B3.out⟩
theorem Text_c (s : ByteArray) (w : World) (hs : s.size ≤ 4000000) : Calls Tryz.prog 229 #[.string s] w fun e w' => e = .returned (.string (textO s)) ∧ Below w.heap.size w w' := by
  have hmf := mf_run
  have V1 : Hid (VarB (w.alloc (.cells #[.string s] 9)) w.heap.size (.string s) 9) := VarB.new _ _ _
  have B1 : Hid (Below w.heap.size w (w.alloc (.cells #[.string s] 9))) := (Below.refl _ _).alloc (Nat.le_refl _) _
  have c0 := V1.out.c
  obtain ⟨m, Hm⟩ : ∃ m, Hid (joinB (pcs (fun i => plainT (bt s i)) s s.size) = m) := ⟨_, hid rfl⟩
  have HV : Hid (textO s = joinB [⟨#[34]⟩, m, ⟨#[34]⟩]) := by show _ = _; unfold textO; rw [outF_all, Hm.out]; simp [joinB, quoO, b1]
  have hms : m.size ≤ 16000000 := by rw [← Hm.out, size_joinB]; have := pcs_total (fun i => plainT (bt s i)) s s.size; omega
  go_enter Tryz.func229, Tryz.ntmps229
  go_wp2_with fail
  generalize w.alloc (.cells #[.string s] 9) = w2 at *
  refine (bytewise_c s _ _ (fun i => plainT (bt s i)) w2 hs (fun _ _ => rfl) ?_).mono ?_
  · intro i hi w' hb'
    exact Text1_c s i _ w' hi (V1.out.below hb' V1.out.lt)
  · rw [Hm.out]
    rintro e wq ⟨rfl, hwq⟩
    have B3 : Hid (Below w.heap.size w wq) := B1.out.trans (hwq.mono B1.out.size)
    have hs3 := B3.out.size
    clear hwq c0
    go_wp2_with fail
    refine (Join_c [⟨#[34]⟩, m, ⟨#[34]⟩] wq.heap.size _ _ (row3 wq ⟨#[34]⟩ m ⟨#[34]⟩) (by simp) (by show 1 + (m.size + (1 + 0)) ≤ _; omega)).mono ?_
    rintro e w5 ⟨rfl, hb5⟩
    have B5 : Hid (Below w.heap.size w w5) := (B3.out.alloc hs3 _).trans (hb5.mono (by simp; omega))
    clear hb5
    go_wp2_with fail
    go_ret
    exact ⟨by rw [HV.out]; rfl, B5.out⟩
end Go.Proofs.YtlliliddljkbfaaGreat
namespace Go.Proofs.YtlliliddljkbfaaGreat.Sp
set_option maxHeartbeats 64000000
set_option maxRecDepth 100000
def sibs (p : Page) (e : Nat) : List Nat := if parentOf p e < 0 then [e] else aheadF p (parentOf p e) p.length
structure Par (p : Page) : Prop where
  lt : ∀ e, e < p.length → parentOf p e < e
  root : ∀ e, e < p.length → parentOf p e < 0 → e = 0
theorem parentOf_at {p : Page} {e : Nat} (h : e < p.length) : parentOf p e = p[e].parent := by
  unfold parentOf; rw [List.getElem?_eq_getElem h]; rfl
end Go.Proofs.YtlliliddljkbfaaGreat.Sp
namespace Go.Proofs.YtlliliddljkbfaaGreat.Sp
set_option maxHeartbeats 64000000
set_option maxRecDepth 100000
theorem nameF_sz (s : ByteArray) : ∀ f i acc, (nameF s f i acc).1.size ≤ acc.size + f ∧ acc.size ≤ (nameF s f i acc).1.size
  | 0, _, acc => by simp [nameF]
  | f + 1, i, acc => by
    unfold nameF
    by_cases h1 : nameI (pk s i) = true
    · rw [if_pos h1]
      have := nameF_sz s f (i + 1) (acc ++ one s i)
      rw [ByteArray.size_append, size_one (pk_lt (name_nn h1))] at this
      omega
    · rw [if_neg h1]
      by_cases h2 : escB s i = true
      · rw [if_pos h2]
        have := nameF_sz s f (esc s i).2 (acc ++ (esc s i).1)
        rw [ByteArray.size_append, size_esc] at this
        omega
      · rw [if_neg h2]; simp
theorem name_sz (s : ByteArray) (i : Nat) : (name s i).1.size ≤ s.size := by
  have := (nameF_sz s s.size i ByteArray.empty).1
  simp at this
  exact this
theorem name_pos {s : ByteArray} {i : Nat} (h : goesB s i = true) (hs : 0 < s.size) : 0 < (name s i).1.size := by
  unfold name
  obtain ⟨f, hf⟩ : ∃ f, s.size = f + 1 := ⟨s.size - 1, by omega⟩
  rw [hf]
  unfold nameF
  unfold goesB at h
  by_cases h1 : nameI (pk s i) = true
  · rw [if_pos h1]
    have := (nameF_sz s f (i + 1) (ByteArray.empty ++ one s i)).2
    rw [ByteArray.size_append, size_one (pk_lt (name_nn h1))] at this
    omega
  · rw [if_neg h1]
    have h2 : escB s i = true := by simpa [h1] using h
    rw [if_pos h2]
    have := (nameF_sz s f (esc s i).2 (ByteArray.empty ++ (esc s i).1)).2
    rw [ByteArray.size_append, size_esc] at this
    omega
theorem txtF_size (s : ByteArray) (q : Int) : ∀ f i acc, (txtF s q f i acc).1.word.size ≤ acc.size + f
  | 0, _, acc => by simp [txtF, Tok.w]
  | f + 1, i, acc => by
    unfold txtF
    by_cases h0 : s.size ≤ i
    · rw [if_pos h0]; simp [Tok.w]
    rw [if_neg h0]
    by_cases h1 : pk s i = q
    · rw [if_pos h1]; simp [Tok.w]
    rw [if_neg h1]
    by_cases h2 : pk s i = 10
    · rw [if_pos h2]; simp [Tok.k]
    rw [if_neg h2]
    by_cases h3 : pk s i = 92
    · rw [if_pos h3]
      by_cases h4 : s.size ≤ i + 1
      · rw [if_pos h4]; have := txtF_size s q f (i + 1) acc; omega
      rw [if_neg h4]
      by_cases h5 : pk s (i + 1) = 10
      · rw [if_pos h5]; have := txtF_size s q f (i + 2) acc; omega
      rw [if_neg h5]
      have := txtF_size s q f (esc s i).2 (acc ++ (esc s i).1)
      rw [ByteArray.size_append, size_esc] at this; omega
    rw [if_neg h3]
    have := txtF_size s q f (i + 1) (acc ++ one s i)
    rw [ByteArray.size_append, size_one (by omega)] at this; omega
theorem linkF_size (s : ByteArray) : ∀ f i acc, (linkF s f i acc).1.word.size ≤ acc.size + f
  | 0, _, acc => by simp [linkF, Tok.w]
  | f + 1, i, acc => by
    unfold linkF
    by_cases h0 : s.size ≤ i
    · rw [if_pos h0]; simp [Tok.w]
    rw [if_neg h0]
    by_cases h1 : pk s i = 41
    · rw [if_pos h1]; simp [Tok.w]
    rw [if_neg h1]
    by_cases h2 : blankI (pk s i) = true
    · rw [if_pos h2]
      by_cases h3 : s.size ≤ blk s i
      · rw [if_pos h3]; simp [Tok.w]
      rw [if_neg h3]
      by_cases h4 : pk s (blk s i) = 41
      · rw [if_pos h4]; simp [Tok.w]
      rw [if_neg h4]; simp [Tok.k]
    rw [if_neg h2]
    by_cases h3 : escB s i = true
    · rw [if_pos h3]
      have := linkF_size s f (esc s i).2 (acc ++ (esc s i).1)
      rw [ByteArray.size_append, size_esc] at this; omega
    rw [if_neg h3]
    by_cases h4 : spoilI (pk s i) = true
    · rw [if_pos h4]; simp [Tok.k]
    rw [if_neg h4]
    have := linkF_size s f (i + 1) (acc ++ one s i)
    rw [ByteArray.size_append, size_one (by omega)] at this; omega
theorem txtF_kind (s : ByteArray) (q : Int) : ∀ f i acc, ((txtF s q f i acc).1.kind = 2 ∨ (txtF s q f i acc).1.kind = 3) ∧ (txtF s q f i acc).1.unit = ByteArray.empty
  | 0, _, acc => by simp [txtF, Tok.w]
  | f + 1, i, acc => by
    unfold txtF
    split
    · simp [Tok.w]
    split
    · simp [Tok.w]
    split
    · simp [Tok.k]
    split
    · split
      · exact txtF_kind s q f _ _
      split
      · exact txtF_kind s q f _ _
      · exact txtF_kind s q f _ _
    · exact txtF_kind s q f _ _
theorem linkF_kind (s : ByteArray) : ∀ f i acc, ((linkF s f i acc).1.kind = 12 ∨ (linkF s f i acc).1.kind = 13) ∧ (linkF s f i acc).1.unit = ByteArray.empty
  | 0, _, acc => by simp [linkF, Tok.w]
  | f + 1, i, acc => by
    unfold linkF
    split
    · simp [Tok.w]
    split
    · simp [Tok.w]
    split
    · split
      · simp [Tok.w]
      split
      · simp [Tok.w]
      · simp [Tok.k]
    split
    · exact linkF_kind s f _ _
    split
    · simp [Tok.k]
    · exact linkF_kind s f _ _
theorem TokOK.k {n : Int} (h5 : n ≠ 5) (h7 : n ≠ 7) (h15 : n ≠ 15) (hn : ¬ (n = 4 ∨ n = 10 ∨ n = 11 ∨ n = 14)) : TokOK (Tok.k n) := ⟨by simp [Tok.k], by simp [Tok.k], fun h => absurd h h5, fun h => absurd h h7, fun h => absurd h h15, fun h => absurd h hn⟩
theorem TokOK.w {n : Int} {x : ByteArray} (hx : x.size ≤ 1000) (h5 : n ≠ 5) (h7 : n ≠ 7) (h15 : n ≠ 15) (hn : (n = 4 ∨ n = 10 ∨ n = 11 ∨ n = 14) → 0 < x.size) : TokOK (Tok.w n x) := ⟨by show x.size ≤ _; omega, by simp [Tok.w], fun h => absurd h h5, fun h => absurd h h7, fun h => absurd h h15, hn⟩
theorem numeric_ok {s : ByteArray} {i : Nat} (hi : i < s.size) (hs : s.size ≤ 1000) (h : numB s i = true) : TokOK (numeric s i).1 := by
  have h1 := numE_gt h
  have h2 := numE_le (s := s) (i := i) (by omega)
  have hz : (s.extract i (numE s i)).size = numE s i - i := by simp; omega
  unfold numeric
  simp only
  by_cases h37 : pk s (numE s i) = 37
  · rw [if_pos h37]; exact TokOK.w (by rw [hz]; omega) (by omega) (by omega) (by omega) (by omega)
  rw [if_neg h37]
  by_cases hb : begB s (numE s i) = true
  · rw [if_pos hb]
    have hn := name_sz s (numE s i)
    exact ⟨by rw [hz]; omega, by show (name s (numE s i)).1.size ≤ _; omega, fun h => by simp at h, fun _ => name_pos (beg_goes hb) (by omega), fun h => by simp at h, fun h => by simp at h⟩
  · rw [if_neg hb]
    exact ⟨by show (s.extract i (numE s i)).size ≤ _; rw [hz]; omega, by simp [Tok.w], fun _ => by show 0 < (s.extract i (numE s i)).size; rw [hz]; omega, fun h => by simp [Tok.w] at h, fun h => by simp [Tok.w] at h, fun h => by simp [Tok.w] at h⟩
theorem named_ok {s : ByteArray} {i : Nat} (hs : s.size ≤ 1000) (hb : begB s i = true) (hi : i < s.size) : TokOK (named s i).1 := by
  have hn := name_sz s i
  have hp := name_pos (beg_goes hb) (by omega)
  unfold named
  simp only
  split
  · split
    · have h1 := linkF_size s s.size (blk s ((name s i).2 + 1)) ByteArray.empty
      have h2 := linkF_kind s s.size (blk s ((name s i).2 + 1)) ByteArray.empty
      simp at h1
      unfold link
      refine ⟨by omega, by rw [h2.2]; simp, fun h => ?_, fun h => ?_, fun h => ?_, fun h => ?_⟩ <;> (rcases h2.1 with e | e <;> rw [e] at h <;> simp at h)
    · exact TokOK.w (by omega) (by omega) (by omega) (by omega) (fun _ => hp)
  · exact TokOK.w (by omega) (by omega) (by omega) (by omega) (fun _ => hp)
theorem token_ok {s : ByteArray} {i : Nat} (hi : i < s.size) (hs : s.size ≤ 1000) : TokOK (token s i).1 := by
  unfold token
  split
  · exact TokOK.k (by omega) (by omega) (by omega) (by omega)
  split
  · have h1 := txtF_size s (pk s i) s.size (i + 1) ByteArray.empty
    have h2 := txtF_kind s (pk s i) s.size (i + 1) ByteArray.empty
    simp at h1
    unfold txt
    refine ⟨by omega, by rw [h2.2]; simp, fun h => ?_, fun h => ?_, fun h => ?_, fun h => ?_⟩ <;> (rcases h2.1 with e | e <;> rw [e] at h <;> simp at h)
  split
  · rename_i h35
    have := name_sz s (i + 1); exact TokOK.w (by omega) (by omega) (by omega) (by omega) (fun _ => name_pos h35.2 (by omega))
  split
  · exact numeric_ok hi hs ‹_›
  split
  · exact TokOK.k (by omega) (by omega) (by omega) (by omega)
  split
  · exact TokOK.k (by omega) (by omega) (by omega) (by omega)
  split
  · rename_i h64
    have := name_sz s (i + 1); exact TokOK.w (by omega) (by omega) (by omega) (by omega) (fun _ => name_pos (beg_goes h64.2) (by omega))
  split
  · exact named_ok hs ‹_› hi
  · have := size_one hi
    exact ⟨by show (one s i).size ≤ _; omega, by simp [Tok.w], fun h => by simp [Tok.w] at h, fun h => by simp [Tok.w] at h, fun _ => this, fun h => by simp [Tok.w] at h⟩
theorem tokF_ok {s : ByteArray} (hs : s.size ≤ 1000) : ∀ f i, i ≤ s.size → ∀ t ∈ tokF s f i, TokOK t
  | 0, _, _, t, h => by simp [tokF] at h
  | f + 1, i, hi, t, h => by
    unfold tokF at h
    by_cases h0 : s.size ≤ i
    · rw [if_pos h0] at h; simp at h
    · rw [if_neg h0] at h
      rcases List.mem_cons.1 h with e | e
      · rw [e]; exact token_ok (by omega) hs
      · exact tokF_ok hs f _ (com_le (token_le (by omega))) t e
theorem toks_ok {s : ByteArray} (hs : s.size ≤ 1000) : ∀ t ∈ toks s, TokOK t := tokF_ok hs _ _ (com_le (Nat.zero_le _))
theorem elemsP_at : ∀ (p : Page) (i k : Nat) (_ : elemsP i p = true) (h : k < p.length), elemP (i + k) p[k] = true
  | x :: r, i, 0, h, _ => by simp [elemsP] at h; simpa using h.1
  | x :: r, i, k + 1, h, hk => by
    simp [elemsP] at h
    have := elemsP_at r (i + 1) k h.2 (by simpa using hk)
    rw [show i + (k + 1) = i + 1 + k from by omega]
    simpa using this
theorem page_par {p : Page} (h : pageP p = true) : Par p := by
  unfold pageP at h
  simp at h
  have key : ∀ e, (he : e < p.length) → (e = 0 ∧ p[e].parent = -1) ∨ (e ≠ 0 ∧ 0 ≤ p[e].parent ∧ p[e].parent < e) := by
    intro e he
    have h1 := elemsP_at p 0 e h.2 he
    rw [Nat.zero_add] at h1
    unfold elemP at h1
    simp only [Bool.and_eq_true] at h1
    have h2 := h1.1.1.2
    by_cases h0 : e = 0
    · rw [if_pos h0] at h2; exact .inl ⟨h0, by simpa using h2⟩
    · rw [if_neg h0] at h2; simp at h2; exact .inr ⟨h0, h2⟩
  refine ⟨fun e he => ?_, fun e he hn => ?_⟩
  · rw [parentOf_at he]; rcases key e he with h1 | h1 <;> omega
  · rw [parentOf_at he] at hn; rcases key e he with h1 | h1 <;> omega
end Go.Proofs.YtlliliddljkbfaaGreat.Sp
